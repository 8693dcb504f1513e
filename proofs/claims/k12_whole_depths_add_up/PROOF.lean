import PyProof.Rows.All
import Wide.All
import OpenK.AllK
import Wide.FinOn
import PySem.Challenge.RW_spanshelf_k12_whole_depths_add_up
import HandS.ForMost
import HandS.ForExc
import HandS.IsInst
import HandS.Wide
import HandS.WideBits
import HandS.Flt
import HandS.ExcIs
import HandS.ExcValue
import HandS.AnyAll
import HandS.EndTab
import HandS.GenList
import HandS.Codes
import HandS.Small
import HandS.More
import HandS.Strs
import HandS.SetFor
import HandS.SortRule
import HandS.Style
import HandS.TupSets
import HandS.TupLe
import HandS.SortInts
import HandS.Conv
set_option Elab.async false
set_option linter.all false
set_option maxRecDepth 100000
set_option maxHeartbeats 4000000
namespace Sp
open PySem PySem.Spec PyProof.Rows L2
/-! ### heaps -/
theorem same_upd {H : Hp} {p : Addr} {o : HO} (h : H p = none) : Same H (upd H p o) := fun b x e => by
  rw [upd_ne (ne_of_none e h)]
  exact e
theorem upd_at {H : Hp} {p : Addr} {o : HO} (h : H p = none) : (upd H p o) p = some o ∧ Same H (upd H p o) := ⟨upd_same, same_upd h⟩
theorem same_more {H H' : Hp} {p : Addr} {o : HO} (h : Same H H') (n : H p = none) : Same H (upd H' p o) := fun b x e => by
  rw [upd_ne (ne_of_none e n)]
  exact h _ _ e
/-- all but what stands at the addresses of L is kept -/
def Chg (L : List Addr) (H H' : Hp) : Prop := ∀ b o, b ∉ L → H b = some o → H' b = some o
theorem Chg.refl (L : List Addr) (H : Hp) : Chg L H H := fun _ _ _ h => h
theorem Chg.trans {L : List Addr} {H H1 H2 : Hp} (a : Chg L H H1) (b : Chg L H1 H2) : Chg L H H2 := fun c o n h => b c o n (a c o n h)
theorem Chg.of_same {L : List Addr} {H H' : Hp} (a : Same H H') : Chg L H H' := fun c o _ h => a c o h
theorem Chg.same {H H' : Hp} (a : Chg [] H H') : Same H H' := fun c o h => a c o List.not_mem_nil h
theorem Chg.mono {L L' : List Addr} {H H' : Hp} (a : Chg L H H') (h : ∀ x ∈ L, x ∈ L') : Chg L' H H' := fun c o n e => a c o (fun q => n (h c q)) e
theorem Chg.upd {L : List Addr} {H : Hp} {p : Addr} {o : HO} (h : p ∈ L) : Chg L H (upd H p o) := fun b x n e => by
  have hne : b ≠ p := fun z => n (by rw [z]; exact h)
  rw [upd_ne hne]
  exact e
theorem Chg.free {L : List Addr} {H H' : Hp} (a : Chg L H H') {l : Addr} (hl : l ∉ L) (h : H' l = none) : H l = none := by
  cases q : H l with
  | none => rfl
  | some o =>
    rw [a l o hl q] at h
    cases h
theorem Chg.seq {K : PySem.W.Frag} {L : List Addr} {H H' : Hp} {a : Addr} {xs : List V} (e : Chg L H H') (n : a ∉ L) (h : SqL K H a xs) : SqL K H' a xs := by
  rcases h with (h | ⟨o, h⟩) | h
  · exact .inl (.inl (e _ _ n h))
  · exact .inl (.inr ⟨o, e _ _ n h⟩)
  · exact .inr h
theorem same_tup {K : PySem.W.Frag} {H H' : Hp} {a : Addr} {xs : List V} (e : Same H H') (h : SqT K H a xs) : SqT K H' a xs := by
  rcases h with (h | ⟨o, h⟩) | h
  · exact .inl (.inl (e _ _ h))
  · exact .inl (.inr ⟨o, e _ _ h⟩)
  · exact .inr h
theorem nmem1 {a b : Addr} (h : a ≠ b) : a ∉ [b] := fun q => h (List.mem_singleton.mp q)
theorem nmem2 {a b c : Addr} (h : a ≠ b) (h2 : a ≠ c) : a ∉ [b, c] := fun q => by
  rcases List.mem_cons.mp q with q | q
  · exact h q
  · exact h2 (List.mem_singleton.mp q)
theorem small_lt {n : Nat} (h : n ≤ 1000000) : n < sizeLine := Nat.lt_of_le_of_lt h (by decide)
theorem small_le {n : Nat} (h : n ≤ 1000000) : n ≤ sizeLine := Nat.le_of_lt (small_lt h)
/-- a list of whole numbers at p that may be changed -/
def Pu (H : Hp) (p : Addr) (n : Nat) : Prop := ∃ a b c : Int, H p = some (.lst [.int a, .int b, .int c]) ∧ 0 ≤ a ∧ 0 ≤ b ∧ b < 2147483647 ∧ 0 ≤ c ∧ c ≤ n
theorem Pu.chg {L : List Addr} {H H' : Hp} {p : Addr} {n : Nat} (h : Pu H p n) (e : Chg L H H') (hp : p ∉ L) : Pu H' p n := by
  obtain ⟨a, b, c, h1, h2⟩ := h
  exact ⟨a, b, c, e _ _ hp h1, h2⟩
theorem Pu.same {H H' : Hp} {p : Addr} {n : Nat} (h : Pu H p n) (e : Same H H') : Pu H' p n := h.chg (L := []) (Chg.of_same e) List.not_mem_nil
theorem Pu.mono {H : Hp} {p : Addr} {n m : Nat} (h : Pu H p n) (e : n ≤ m) : Pu H p m := by
  obtain ⟨a, b, c, h1, h2, h3, h4, h5, h6⟩ := h
  exact ⟨a, b, c, h1, h2, h3, h4, h5, by omega⟩
theorem Pu.ne {H : Hp} {p q : Addr} {n : Nat} (h : Pu H p n) (e : H q = none) : p ≠ q := by
  obtain ⟨a, b, c, h1, _⟩ := h
  exact ne_of_none h1 e
theorem Pu.at {H : Hp} {p : Addr} {n : Nat} (h : Pu H p n) : ∃ o, H p = some o := by
  obtain ⟨a, b, c, h1, _⟩ := h
  exact ⟨_, h1⟩
/-! ### data: whole numbers, spans, lists of them -/
theorem dpAll_ints {K : PySem.W.Frag} {H : Hp} : ∀ ns : List Int, DpAll K H (ns.map V.int) (ns.map PyData.int)
  | [] => .nil
  | n :: r => .cons (.int n) (dpAll_ints r)
theorem lay_ints : ∀ ns : List Int, PyData.canLayAll0 (ns.map PyData.int) = true ∧ PyData.depthAll (ns.map PyData.int) = 0
  | [] => ⟨rfl, rfl⟩
  | n :: r => by
    obtain ⟨h1, h2⟩ := lay_ints r
    refine ⟨?_, ?_⟩
    · show (PyData.canLay0 (.int n) && PyData.canLayAll0 (r.map PyData.int)) = true
      rw [h1]
      rfl
    · show max (PyData.depth (.int n)) (PyData.depthAll (r.map PyData.int)) = 0
      rw [h2]
      rfl
theorem shaped_ints (ns : List Int) : SeqAt.shaped (.list (ns.map PyData.int)) = true := by
  obtain ⟨h1, h2⟩ := lay_ints ns
  show (PyData.canLayAll0 (ns.map PyData.int) && decide (PyData.depthAll (ns.map PyData.int) + 1 ≤ 64)) = true
  rw [h1, h2]
  rfl
theorem shaped_nil : SeqAt.shaped (.list []) = true := rfl
theorem eqv_ints_nil (ns : List Int) : PyData.eqv (.list (ns.map PyData.int)) (.list []) = decide (ns = []) := by
  cases ns with
  | nil => rfl
  | cons n r => simp [PyData.eqv, PyData.eqvAll]
abbrev Span := Int × Int
def spD (s : Span) : PyData := .tuple [.int s.1, .int s.2]
/-- v is the span s -/
def Spn (H : Hp) (v : V) (s : Span) : Prop := ∃ t, v = .ref t ∧ H t = some (.tup [.int s.1, .int s.2])
inductive Sps (H : Hp) : List V → List Span → Prop where
  | nil : Sps H [] []
  | cons {v : V} {s : Span} {vs : List V} {ss : List Span} : Spn H v s → Sps H vs ss → Sps H (v :: vs) (s :: ss)
theorem Spn.same {H H' : Hp} {v : V} {s : Span} (h : Spn H v s) (e : Same H H') : Spn H' v s := by
  obtain ⟨t, rfl, ht⟩ := h
  exact ⟨t, rfl, e _ _ ht⟩
theorem Sps.same {H H' : Hp} (e : Same H H') : ∀ {vs : List V} {ss : List Span}, Sps H vs ss → Sps H' vs ss
  | _, _, .nil => .nil
  | _, _, .cons h t => .cons (h.same e) (Sps.same e t)
/-- only lists are changed: spans stay -/
def Lsts (L : List Addr) (H : Hp) : Prop := ∀ p ∈ L, ∀ xs, H p ≠ some (.tup xs)
theorem Pu.lsts {H : Hp} {p : Addr} {n : Nat} (h : Pu H p n) : Lsts [p] H := fun b hb xs => by
  obtain ⟨_, _, _, h1, _⟩ := h
  rw [List.mem_singleton.mp hb, h1]
  exact fun z => by cases z
theorem Lsts.of1 {H : Hp} {l : Addr} {ys : List V} (h : H l = some (.lst ys)) : Lsts [l] H := fun b hb xs => by
  rw [List.mem_singleton.mp hb, h]
  exact fun z => by cases z
theorem Lsts.two {H : Hp} {p q : Addr} (h : Lsts [p] H) (h2 : Lsts [q] H) : Lsts [p, q] H := fun b hb xs => by
  rcases List.mem_cons.mp hb with e | e
  · rw [e]
    exact h p List.mem_cons_self xs
  · exact h2 b e xs
theorem Spn.chg {L : List Addr} {H H' : Hp} {v : V} {s : Span} (h : Spn H v s) (e : Chg L H H') (l : Lsts L H) : Spn H' v s := by
  obtain ⟨t, rfl, ht⟩ := h
  exact ⟨t, rfl, e _ _ (fun q => l t q _ ht) ht⟩
theorem Sps.chg {L : List Addr} {H H' : Hp} (e : Chg L H H') (l : Lsts L H) : ∀ {vs : List V} {ss : List Span}, Sps H vs ss → Sps H' vs ss
  | _, _, .nil => .nil
  | _, _, .cons h t => .cons (h.chg e l) (Sps.chg e l t)
theorem Sps.len {H : Hp} : ∀ {vs : List V} {ss : List Span}, Sps H vs ss → vs.length = ss.length
  | _, _, .nil => rfl
  | _, _, .cons _ t => congrArg (· + 1) t.len
theorem Sps.app {H : Hp} : ∀ {vs ws : List V} {ss ts : List Span}, Sps H vs ss → Sps H ws ts → Sps H (vs ++ ws) (ss ++ ts)
  | _, _, _, _, .nil, h => h
  | _, _, _, _, .cons a t, h => .cons a (Sps.app t h)
theorem Sps.one {H : Hp} {v : V} {s : Span} (h : Spn H v s) : Sps H [v] [s] := .cons h .nil
theorem Sps.get {H : Hp} : ∀ {vs : List V} {ss : List Span} {i : Nat} {v : V}, Sps H vs ss → vs[i]? = some v → ∃ s, ss[i]? = some s ∧ Spn H v s
  | _, _, _, _, .nil, e => by simp at e
  | _, _, 0, v, .cons (s := s) h t, e => ⟨s, rfl, by
      have q := Option.some.inj (show some _ = some v from e)
      rw [← q]
      exact h⟩
  | _, _, i + 1, v, .cons h t, e => Sps.get (i := i) t e
theorem Sps.get' {H : Hp} : ∀ {vs : List V} {ss : List Span} {i : Nat} {s : Span}, Sps H vs ss → ss[i]? = some s → ∃ v, vs[i]? = some v ∧ Spn H v s
  | _, _, _, _, .nil, e => by simp at e
  | _, _, 0, s, .cons (v := v) h t, e => ⟨v, rfl, by
      have q := Option.some.inj (show some _ = some s from e)
      rw [← q]
      exact h⟩
  | _, _, i + 1, v, .cons h t, e => Sps.get' (i := i) t e
theorem Spn.dp {K : PySem.W.Frag} {H : Hp} {v : V} {s : Span} (h : Spn H v s) : Dp K H v (spD s) := by
  obtain ⟨t, rfl, ht⟩ := h
  exact .tup (SqT.of ht) (.cons (.int _) (.cons (.int _) .nil))
theorem Sps.dpAll {K : PySem.W.Frag} {H : Hp} : ∀ {vs : List V} {ss : List Span}, Sps H vs ss → DpAll K H vs (ss.map spD)
  | _, _, .nil => .nil
  | _, _, .cons h t => .cons h.dp t.dpAll
theorem Sps.dp {K : PySem.W.Frag} {H : Hp} {a : Addr} {vs : List V} {ss : List Span} (h : Sps H vs ss) (q : SqL K H a vs) : Dp K H (.ref a) (.list (ss.map spD)) := .lst q h.dpAll
theorem lay_spans : ∀ ss : List Span, PyData.canLayAll0 (ss.map spD) = true ∧ PyData.depthAll (ss.map spD) ≤ 1
  | [] => ⟨rfl, by decide⟩
  | s :: r => by
    obtain ⟨h1, h2⟩ := lay_spans r
    refine ⟨?_, ?_⟩
    · show (PyData.canLay0 (spD s) && PyData.canLayAll0 (r.map spD)) = true
      rw [h1]
      rfl
    · show max (PyData.depth (spD s)) (PyData.depthAll (r.map spD)) ≤ 1
      have e : PyData.depth (spD s) = 1 := rfl
      rw [e]
      omega
theorem shaped_spans (ss : List Span) : SeqAt.shaped (.list (ss.map spD)) = true := by
  obtain ⟨h1, h2⟩ := lay_spans ss
  show (PyData.canLayAll0 (ss.map spD) && decide (PyData.depthAll (ss.map spD) + 1 ≤ 64)) = true
  rw [h1, decide_eq_true (by omega)]
  rfl
theorem eqv_span (s t : Span) : PyData.eqv (spD s) (spD t) = decide (s = t) := by
  obtain ⟨a, b⟩ := s
  obtain ⟨c, d⟩ := t
  simp [PyData.eqv, PyData.eqvAll, spD, Bool.beq_eq_decide_eq]
theorem eqvAll_spans : ∀ ss ts : List Span, PyData.eqvAll (ss.map spD) (ts.map spD) = decide (ss = ts)
  | [], [] => rfl
  | [], _ :: _ => rfl
  | _ :: _, [] => rfl
  | s :: ss, t :: ts => by
    show (PyData.eqv (spD s) (spD t) && PyData.eqvAll (ss.map spD) (ts.map spD)) = _
    rw [eqv_span, eqvAll_spans ss ts]
    by_cases h : s = t <;> by_cases h2 : ss = ts <;> simp [h, h2]
theorem eqv_spans (ss ts : List Span) : PyData.eqv (.list (ss.map spD)) (.list (ts.map spD)) = decide (ss = ts) := eqvAll_spans ss ts
theorem eqv_spans_nil (ss : List Span) : PyData.eqv (.list (ss.map spD)) (.list []) = decide (ss = []) := eqvAll_spans ss []
/-! ### generator expressions with two names, over pairs -/
/-- an iterator that yields pairs stands ready in s2; s1 is the state ahead of it -/
structure Src (X : Cx) (pins : List (Addr × Obj)) (σ : L2.St) (P : Addr) (H1 : Hp) (s1 s2 : Shared) (I : Addr) (fp wr : List Addr) (n : Nat) (Pt : Nat → Array Value → Prop) (Sn : Nat → Heap → Prop) (Mid : Nat → Addr → Heap → Prop) : Prop where
  inv : Inv X pins σ H1 s1
  tab : GxR.TabG H1 P
  eta : ∃ h2 tk, s2 = { s1 with heap := h2, toks := tk }
  keep : ∀ b o, s1.heap.get? b = some o → s2.heap.get? b = some o
  size : s1.heap.objs.size ≤ s2.heap.objs.size
  walk : ∀ A' : Around, A'.handled = none → WalksU X.prog X.w A' I fp wr n Pt Sn Mid
  two : ∀ i vals, Pt i vals → ∃ va vb, vals = #[va, vb]
  st : Sn 0 s2.heap
  fpl : ∀ b ∈ fp, b < s2.heap.objs.size ∧ b ≠ P
  new : ∀ b ∈ wr, s1.heap.objs.size ≤ b
/-- the generator expression's own scope: its two names -/
structure GenS2 (env : Env) (scope : Scope) (xa xb : Str) : Prop where
  kind : scope.kind = .function
  co : scope.isCoroutine = false
  cell : ∀ y ∈ scope.names, y.2 ≠ .cell
  dot : scope.names.lookup (".0" : Str) = some NameKind.local
  la : scope.names.lookup xa = some .local
  lb : scope.names.lookup xb = some .local
  ne : xa ≠ xb
  free : ∀ y ∈ scope.names, y.2 = .free → ∃ c, env.cells.lookup y.1 = some c
/-- the element of the i-th pair gives what F says; hr: the heap that is read -/
def EltQ (prog : Program) (w : World) (scope : Scope) (xa xb : Str) (elt : Expr) (Pt : Nat → Array Value → Prop) (F : Nat → Value → Prop) (hr : Heap) : Prop :=
  ∀ (cenv : Env) (A' : Around) (E' : Value → Shared → Prop) (i : Nat) (va vb : Value) (s2 : Shared) (m2 : Str → Option Value), cenv.scope = scope → Pt i #[va, vb] → s2.heap.Ns cenv.locals m2 → m2 xa = some va → m2 xb = some vb →
    (∀ b o, hr.get? b = some o → s2.heap.get? b = some o) → wpAny (model prog w) A' (eval elt cenv) (fun y s3 => F i y ∧ Keeps s2 s3) E' s2
/-- the generator g is ready: n elements, by F -/
def Ready2 (X : Cx) (pins : List (Addr × Obj)) (σ : L2.St) (H1 : Hp) (P : Addr) (n : Nat) (F : Nat → Value → Prop) (g : Addr) (s5 : Shared) : Prop :=
  ∃ (fp wr : List Addr) (G : Array GenState → Array GenState → Prop) (Sn : Nat → Shared → Prop), WalksS X.prog X.w X.A.in1 g fp wr G n F Sn ∧ Sn 0 s5 ∧ (∀ b ∈ fp, b < s5.heap.objs.size) ∧ ∀ s', Moved wr G s5 s' → ∃ H2, GxR.Tabbed P H1 H2 ∧ Inv X pins σ H2 s'
theorem walksS_imp {prog : Program} {w : World} {A : Around} {I : Addr} {fp wr : List Addr} {G : Array GenState → Array GenState → Prop} {n : Nat} {P P' : Nat → Value → Prop} {Sn : Nat → Shared → Prop} (W : WalksS prog w A I fp wr G n P Sn) (h : ∀ i v, P i v → P' i v) : WalksS prog w A I fp wr G n P' Sn where
  sub := W.sub
  grefl := W.grefl
  gtrans := W.gtrans
  frame := W.frame
  item := fun i t Q E hi st hq => W.item i t Q E hi st fun v t' hv => hq v t' (h i v hv)
  done := W.done
  self := W.self
section
variable {X : Cx} {pins : List (Addr × Obj)} {σ : L2.St} {H : Hp} {s : Shared}
theorem gen_two {c P : Addr} {elt iter : Expr} {xa xb : Str} {pa pb pt gpos : Pos} {kt k : Nat} {scope : Scope} {Q' : Value → Shared → Prop}
    (hr : Room k X.A) (TB : GxR.TabB X.base X.mg c P) (hcode : X.env.code = .ref c) (S : GenS2 X.env scope xa xb) (hs : ∀ v, genFold iter X.env v = pure v)
    (hi : wpAny (model X.prog X.w) X.A (eval iter X.env) (fun xv t1 => wpAny (model X.prog X.w) X.A (pyIter xv) (fun it t2 => ∃ (H1 : Hp) (s1 : Shared) (I : Addr) (fp wr : List Addr) (n : Nat) (Pt : Nat → Array Value → Prop) (Sn : Nat → Heap → Prop) (Mid : Nat → Addr → Heap → Prop) (F : Nat → Value → Prop),
      it = .ref I ∧ Src X pins σ P H1 s1 t2 I fp wr n Pt Sn Mid ∧ (∃ hr : Heap, (∀ b o, hr.get? b = some o → s1.heap.get? b = some o ∧ b ≠ P) ∧ EltQ X.prog X.w scope xa xb elt Pt F hr) ∧ ∀ g s5, Ready2 X pins σ H1 P n F g s5 → Q' (.ref g) s5) X.xe t1) X.xe s) :
    wpAny (model X.prog X.w) X.A (eval (.GeneratorExp elt [⟨.Tuple [.Name xa pa, .Name xb pb] kt pt, iter, [], 0⟩] scope gpos) X.env) Q' X.xe s := by
  refine wpAny_GeneratorExp_walksQT hr.hd S.co (closure_ok S.free) S.cell S.dot S.la S.lb S.ne S.kind (by have := hr.dp; omega) ?_ hs
  refine wpAny_mono hi (fun xv t1 h1 => wpAny_mono h1 (fun it t2 h2 => ?_) fun _ _ e => e) fun _ _ e => e
  obtain ⟨H1, s1, I, fp, wr, n, Pt, Sn, Mid, F, rfl, R, ⟨rd, rdk, el⟩, fin⟩ := h2
  have I1 := R.inv
  obtain ⟨ps, hP, tr⟩ := R.tab
  obtain ⟨h2, tk2, rfl⟩ := R.eta
  have gP : s1.heap.get? P = some { cls := .none, data := .fields ps } := I1.hok P _ hP
  have gP2 : h2.get? P = some { cls := .none, data := .fields ps } := R.keep _ _ gP
  have cd : PySem.W.CodeHd h2 c P := TB.code.keeps fun b u e => R.keep _ _ (I1.bk b u e)
  have lim : h2.NoLimit := I1.nolimit.keeps R.keep
  refine ⟨lim, ?_⟩
  -- behind the code object: what is left
  have rest : ∀ (code : Value) (h3 : Heap) (tk : Nat) (qs : Array Value), Heap.ExtBut P h2 h3 → h2.objs.size ≤ h3.objs.size → h3.get? P = some { cls := .none, data := .fields qs } → (∃ more, qs = ps ++ more) → TriplesOk qs.toList →
      wpAny (model X.prog X.w) X.A (builtinsFor X.env.globals X.env.builtins) (fun bi t4 => ∃ J fp wr n0 Pt St0 Mid pz F, Value.ref I = .ref J ∧ (∀ A' : Around, A'.handled = none → WalksU X.prog X.w A' J fp wr n0 Pt St0 Mid) ∧ (∀ i vals, Pt i vals → ∃ va vb, vals = #[va, vb]) ∧ St0 0 t4.heap ∧ (∀ b ∈ fp, b < t4.heap.objs.size) ∧ t4.heap.NoLimit ∧ cStatics ∉ wr ∧
        (∀ hf : Heap, (∀ b o, t4.heap.get? b = some o → hf.get? b = some o) → QuietGenT X.prog X.w (genEnv scope (cloFrom X.env.cells scope.names []) t4.heap.objs.size code bi X.env) xa xb [] elt (List.range t4.heap.objs.size) wr Pt pz F hf) ∧
        (∀ a h5 tk gs, gs.bare = true → t4.heap.objs.size < a → h5.objs.size = a + 1 → (∀ b o, t4.heap.get? b = some o → h5.get? b = some o) →
          WalksS X.prog X.w X.A.in4 a (a :: t4.heap.objs.size :: List.range t4.heap.objs.size) (t4.heap.objs.size :: wr) (GenOnlyQ t4.gens.size) (passing pz n0 0).length
            (fun j y => ∃ i, (passing pz n0 0)[j]? = some i ∧ F i y) (GenAt X.prog X.w X.A.in4 a t4.gens.size t4.heap.objs.size (List.range t4.heap.objs.size) wr pz n0 F) →
          GenAt X.prog X.w X.A.in4 a t4.gens.size t4.heap.objs.size (List.range t4.heap.objs.size) wr pz n0 F 0 { t4 with gens := t4.gens.push gs, toks := tk, heap := h5 } → Q' (.ref a) { t4 with gens := t4.gens.push gs, toks := tk, heap := h5 }))
        X.xe { s1 with heap := h3, toks := tk } := by
    intro code h3 tk qs hx hsz gP3 hmore tr3
    obtain ⟨bm, ob, b1, b2, b3, b4, b5, b6, b7, b8⟩ := TB.bm
    have ncP : cStatics ≠ P := fun e => by
      obtain ⟨_, hns, _⟩ := I1.nolimit
      obtain ⟨o', es, ep, ho, hd, _⟩ := hns
      rw [e, gP] at ho
      cases ho
      cases hd
    have ncl : cStatics < s1.heap.objs.size := let ⟨_, hns, _⟩ := I1.nolimit; hns.lt
    have kp3 : ∀ b u, b ≠ P → s1.heap.get? b = some u → h3.get? b = some u := fun b u hb e => hx b u hb (R.keep _ _ e)
    refine wpAny_builtinsFor (m := X.mg) (by rw [I1.ok.glob]; exact ((I1.mod.glob.keeps I1.bk).keeps R.keep).extBut hx TB.gP) b1 b2 (kp3 _ _ b4 (I1.bk _ _ b5)) b6 b7 b8 ?_
    refine ⟨I, fp, wr, n, Pt, Sn, Mid, (fun _ => true), F, rfl, R.walk, R.two, ?_, ?_, lim.extBut hx ncP, ?_, ?_, ?_⟩
    · exact (R.walk X.A hr.hd).frame _ _ _ R.st fun b hb u e => hx b u (R.fpl b hb).2 e
    · intro b hb
      exact Nat.lt_of_lt_of_le (R.fpl b hb).1 hsz
    · intro z
      exact absurd ncl (Nat.not_lt.mpr (R.new _ z))
    · intro hf hff
      refine ⟨fun A' E' i va vb t m hA hv hn ha hb hk => ?_, fun A' E' i va vb t m hA hv hp hn ha hb hk => ?_⟩
      · simp only [List.forIn_nil]
        exact wpAny_pure ⟨rfl, GxR.keeps_refl _⟩
      · refine el _ A' E' i va vb t m rfl hv hn ha hb fun b o e => ?_
        obtain ⟨e1, nP⟩ := rdk b o e
        have e3 := kp3 b o nP e1
        refine hk b (List.mem_range.mpr (Heap.lt_size e3)) (fun z => ?_) o (hff b o e3)
        have h9 := R.new _ z
        have h10 := Heap.lt_size e1
        exact absurd h10 (Nat.not_lt.mpr h9)
    · intro g h5 tk5 gs gb ga hs5 hk5 W5 hat
      simp only [GxR.passing_true, List.length_range] at W5
      have W6 := walksS_imp (P' := F) W5 fun i v hv => by
        obtain ⟨j, hj, hF⟩ := hv
        obtain ⟨hl, ej⟩ := List.getElem?_eq_some_iff.mp hj
        rw [List.getElem_range] at ej
        rw [ej]
        exact hF
      refine fin g _ ⟨_, _, _, _, W6.in4_1, hat, fun b hb => ?_, fun s' mv => ?_⟩
      · show b < h5.objs.size
        rcases List.mem_cons.mp hb with e | hb
        · rw [e, hs5]
          exact Nat.lt_succ_self _
        · rcases List.mem_cons.mp hb with e | hb
          · rw [e, hs5]
            exact Nat.lt_succ_of_lt ga
          · rw [hs5]
            exact Nat.lt_succ_of_lt (Nat.lt_trans (List.mem_range.mp hb) ga)
      · obtain ⟨more, em⟩ := hmore
        have out : ∀ b u, s1.heap.get? b = some u → b ∉ h3.objs.size :: wr := fun b u e hb => by
          have hl := Heap.lt_size e
          rcases List.mem_cons.mp hb with z | z
          · rw [z] at hl
            exact absurd hl (Nat.not_lt.mpr (Nat.le_trans R.size hsz))
          · exact absurd hl (Nat.not_lt.mpr (R.new _ z))
        have J := GxR.inv_tab (more := more) (h' := s'.heap) (g' := s'.gens) (d' := s'.drawn) (t' := s'.toks) I1 hP (fun b u hb e => mv.heap b u (out b u e) (hk5 b u (kp3 b u hb e)))
          (by rw [← em]; exact mv.heap P _ (out P _ gP) (hk5 P _ gP3)) (AllBare.movedS (I1.bare.push gb) mv)
        rw [GxR.sh_eta s1 s' mv.os] at J
        exact ⟨_, ⟨⟨ps ++ more, upd_same, by rw [← em]; exact tr3⟩, fun b hb => upd_ne hb⟩, J⟩
  cases hf : codeAmong gpos ps.toList with
  | none =>
    refine wpAny_genexprCodeX hcode (cd.code gP2 tr) (cd.tab gP2) hf fun c' h' tk hx hge hlt hco _ htab _ => ?_
    obtain ⟨_, _, _, _, _, _, _, _, _, _, _, _, _, _, _, _, _, _, _, htr, _⟩ := hco
    exact rest _ h' tk _ hx (Nat.le_trans hge (Nat.le_of_lt hlt)) htab.2 ⟨_, rfl⟩ htr
  | some cv =>
    refine wpAny_genexprCode_hit hcode (cd.code gP2 tr) hf ?_
    exact rest cv h2 tk2 ps (Heap.ExtBut.refl _ _) (Nat.le_refl _) gP2 ⟨#[], by simp⟩ tr
end
def genC (scope : Scope) (xa xb : Str) : Bool := decide (scope.kind = .function) && !scope.isCoroutine && scope.names.all (fun y => decide (y.2 ≠ .cell) && decide (y.2 ≠ .free)) && decide (scope.names.lookup (".0" : Str) = some NameKind.local) && decide (scope.names.lookup xa = some .local) && decide (scope.names.lookup xb = some .local) && decide (xa ≠ xb)
theorem genS2_by {env : Env} {scope : Scope} {xa xb : Str} (h : genC scope xa xb = true) : GenS2 env scope xa xb := by
  unfold genC at h
  simp only [Bool.and_eq_true, decide_eq_true_eq, List.all_eq_true, Bool.not_eq_true'] at h
  obtain ⟨⟨⟨⟨⟨⟨h1, h2⟩, h3⟩, h4⟩, h5⟩, h6⟩, h7⟩ := h
  exact ⟨h1, h2, fun y hy => (h3 y hy).1, h4, h5, h6, h7, fun y hy e => absurd e (h3 y hy).2⟩
section
variable {X : Cx} {pins : List (Addr × Obj)} {σ : L2.St} {H : Hp} {s : Shared}
/-! what stands in the machine behind a list of spans -/
theorem sps_objs {vs : List V} {ss : List Span} {its : List Value} (I : Inv X pins σ H s) (h : Sps H vs ss) (rv : Vals vs its) (j : Nat) (hj : j < its.length) :
    ∃ (t : Addr) (a b : Tok), its[j]? = some (.ref t) ∧ IsTup s.heap t #[.int (ss.getD j (0, 0)).1 a, .int (ss.getD j (0, 0)).2 b] ∧ ∃ q, H t = some (.tup q) := by
  have hl := rv.length
  have hl2 := h.len
  have hj2 : j < vs.length := by omega
  obtain ⟨sp, e1, t, e2, e3⟩ := h.get (List.getElem?_eq_getElem hj2)
  obtain ⟨u, e4, ru⟩ := rv.get (List.getElem?_eq_getElem hj2)
  rw [e2] at ru
  cases (show u = Value.ref t from ru)
  obtain ⟨_, ws, rw', p⟩ := (show ObjOk X.prog X.w H s.heap t (.tup [.int sp.1, .int sp.2]) from I.hok t _ e3)
  obtain ⟨u1, u2, rfl, ⟨a, rfl⟩, ⟨b, rfl⟩⟩ := vals2 rw'
  refine ⟨t, a, b, e4, ?_, _, e3⟩
  rw [List.getD_eq_getElem?_getD, e1]
  exact p
/-- what the rest of the machine needs of a list of spans: its items' addresses and their numbers -/
theorem sps_arr {vs : List V} {ss : List Span} {its : List Value} (I : Inv X pins σ H s) (h : Sps H vs ss) (rv : Vals vs its) :
    ∃ (Ts : Nat → Addr) (A B : Nat → Tok), ∀ j, j < its.length → its[j]? = some (.ref (Ts j)) ∧ IsTup s.heap (Ts j) #[.int (ss.getD j (0, 0)).1 (A j), .int (ss.getD j (0, 0)).2 (B j)] ∧ ∃ q, H (Ts j) = some (.tup q) := by
  have key : ∀ j, ∃ (r : Addr × Tok × Tok), j < its.length → its[j]? = some (.ref r.1) ∧ IsTup s.heap r.1 #[.int (ss.getD j (0, 0)).1 r.2.1, .int (ss.getD j (0, 0)).2 r.2.2] ∧ ∃ q, H r.1 = some (.tup q) := fun j => by
    by_cases hj : j < its.length
    · obtain ⟨t, a, b, e⟩ := sps_objs I h rv j hj
      exact ⟨(t, a, b), fun _ => e⟩
    · exact ⟨(0, 0, 0), fun z => absurd z hj⟩
  obtain ⟨f, hf⟩ := Classical.axiomOfChoice key
  exact ⟨fun j => (f j).1, fun j => (f j).2.1, fun j => (f j).2.2, hf⟩
/-! sum(b - a for a, b in spans) -/
def spanSum (ss : List Span) : Int := (ss.map fun s => s.2 - s.1).sum
theorem preSum_spans : ∀ (ss : List Span) (n : Nat), n ≤ ss.length → preSum (fun j => (ss.getD j (0, 0)).2 - (ss.getD j (0, 0)).1) n = spanSum (ss.take n)
  | _, 0, _ => rfl
  | ss, n + 1, h => by
    show preSum _ n + ((ss.getD n (0, 0)).2 - (ss.getD n (0, 0)).1) = _
    rw [preSum_spans ss n (by omega)]
    have hn : n < ss.length := by omega
    unfold spanSum
    rw [List.take_add_one, List.getElem?_eq_getElem hn, List.map_append, List.sum_append, List.getD_eq_getElem?_getD, List.getElem?_eq_getElem hn]
    simp
def tSumP (K : PySem.W.Frag) (P : Addr) (te : TE) : TE := fun σ H Q => te σ H fun v H1 => ∃ (l : Addr) (vs : List V) (ss : List Span), v = .ref l ∧ SqL K H1 l vs ∧ l ≠ P ∧ Sps H1 vs ss ∧ GxR.TabG H1 P ∧ ∀ H2, GxR.Tabbed P H1 H2 → Q (.int (spanSum ss)) H2
theorem pe_sumP {c P : Addr} {iter : Expr} {xa xb : Str} {pa pb pt gpos p pos p1 p2 p3 : Pos} {kt k : Nat} {scope : Scope} {te : TE}
    (hr : Room k X.A) (hg : Gl X "sum") (hm : X.mg "sum" = none) (TB : GxR.TabB X.base X.mg c P) (hcode : X.env.code = .ref c) (S : GenS2 X.env scope xa xb) (hi : PE X iter te) (hs : ∀ v, genFold iter X.env v = pure v)
    (ha : (xa == ("__debug__" : Str)) = false) (hb : (xb == ("__debug__" : Str)) = false)
    (he : starEach [.GeneratorExp (.BinOp (.Name xb p1) .Sub (.Name xa p2) p3) [⟨.Tuple [.Name xa pa, .Name xb pb] kt pt, iter, [], 0⟩] scope gpos] X.env = (false, eval (.GeneratorExp (.BinOp (.Name xb p1) .Sub (.Name xa p2) p3) [⟨.Tuple [.Name xa pa, .Name xb pb] kt pt, iter, [], 0⟩] scope gpos) X.env) :: starEach [] X.env := by rfl) :
    PE X (.Call (.Name "sum" p) [.GeneratorExp (.BinOp (.Name xb p1) .Sub (.Name xa p2) p3) [⟨.Tuple [.Name xa pa, .Name xb pb] kt pt, iter, [], 0⟩] scope gpos] [] pos) (tSumP X.K P te) := by
  constructor
  intro pins s σ H Q I hh
  refine wpAny_Call_Name_kw (ld_blt I hg hm boot_sum ?_)
  refine PyProof.Rows.callWith_builtin1 ?_ he (by rfl)
  rw [he]
  show wpAny _ _ (spliced ((false, eval (.GeneratorExp (.BinOp (.Name xb p1) .Sub (.Name xa p2) p3) [⟨.Tuple [.Name xa pa, .Name xb pb] kt pt, iter, [], 0⟩] scope gpos) X.env) :: backTo pos (starEach [] X.env))) _ _ s
  refine Calls.spliced_cons (gen_two (pins := pins) (σ := σ) hr TB hcode S hs ?_)
  refine thn (hi.run pins s σ H _ I hh) fun v s1 got => ?_
  obtain ⟨x, H1, I1, r1, l, vs, ss, rfl, hq, nlP, hS, tab, q⟩ := got
  cases (show v = Value.ref l from r1)
  obtain ⟨its, rv, pl, hz⟩ := I1.list hq
  obtain ⟨Ts, A, B, hT⟩ := sps_arr I1 hS rv
  have hlen : its.length = ss.length := by rw [← rv.length, hS.len]
  have isl := pl.isList
  refine wpAny_pyIter_list isl ?_
  obtain ⟨ps, hP, _⟩ := id tab
  have gP : s1.heap.get? P = some { cls := .none, data := .fields ps } := I1.hok P _ hP
  have kp : ∀ b o, s1.heap.get? b = some o → (s1.heap.push { cls := .type "list_iterator", data := .fields #[.ref l, .int 0 0] }).get? b = some o := fun b o e => Heap.get?_push_of_some _ e
  have ltT : ∀ j, j < its.length → Ts j < s1.heap.objs.size := fun j hj => by
    obtain ⟨_, ⟨o, ho, _⟩, _⟩ := hT j hj
    exact Heap.lt_size ho
  have llt : l < s1.heap.objs.size := pl.lt
  have size_a : its.toArray.size = its.length := by simp
  have hTP : ∀ j, j < its.length → Ts j ≠ P := fun j hj z => by
    obtain ⟨_, _, w, hw⟩ := hT j hj
    rw [z, hP] at hw
    cases hw
  obtain ⟨hd, _, hd2⟩ := restrict s1.heap fun _ => false
  refine ⟨H1, s1, s1.heap.objs.size, _, _, _, _, _, _, fun j y => j < its.length ∧ ∃ t, y = .int ((ss.getD j (0, 0)).2 - (ss.getD j (0, 0)).1) t, rfl,
    { inv := I1, tab := tab, eta := ⟨_, _, rfl⟩, keep := kp, size := ?_,
      walk := fun A' hA => (WalksU.listOfTuples hA s1.heap.objs.size l (Nat.ne_of_lt llt) its.toArray Ts (fun j => #[.int (ss.getD j (0, 0)).1 (A j), .int (ss.getD j (0, 0)).2 (B j)]) (fun j hj => by rw [size_a] at hj; simpa using (hT j hj).1) (fun j hj => by rw [size_a] at hj; exact Nat.ne_of_lt (ltT j hj))).bound,
      two := fun i vals h => ⟨_, _, h.2⟩, st := ⟨⟨_, Heap.get?_push_size _ rfl, rfl, rfl⟩, isl.push _, fun j hj => ?_⟩, fpl := fun b hb => ?_, new := fun b hb => ?_ }, ⟨hd, fun b o e => ?_, ?_⟩, fun g s5 R => ?_⟩
  · show s1.heap.objs.size ≤ (s1.heap.push _).objs.size
    rw [Heap.size_push]
    exact Nat.le_succ _
  · rw [size_a] at hj
    obtain ⟨_, ⟨o, ho, r⟩, _⟩ := hT j hj
    exact ⟨o, kp _ _ ho, r⟩
  · have sz : (s1.heap.push { cls := .type "list_iterator", data := .fields #[.ref l, .int 0 0] }).objs.size = s1.heap.objs.size + 1 := Heap.size_push ..
    rcases List.mem_cons.mp hb with e | hb
    · refine ⟨?_, fun z => ?_⟩
      · rw [e]
        show s1.heap.objs.size < (s1.heap.push _).objs.size
        rw [sz]
        exact Nat.lt_succ_self _
      · rw [← z, e] at gP
        exact absurd (Heap.lt_size gP) (Nat.lt_irrefl _)
    · rcases List.mem_cons.mp hb with e | hb
      · refine ⟨?_, ?_⟩
        · rw [e]
          show l < (s1.heap.push _).objs.size
          rw [sz]
          exact Nat.lt_succ_of_lt llt
        · rw [e]
          exact nlP
      · obtain ⟨j, hj, e⟩ := List.mem_map.mp hb
        have hj := List.mem_range.mp hj
        rw [size_a] at hj
        refine ⟨?_, ?_⟩
        · rw [← e]
          show Ts j < (s1.heap.push _).objs.size
          rw [sz]
          exact Nat.lt_succ_of_lt (ltT j hj)
        · rw [← e]
          exact hTP j hj
  · rw [List.mem_singleton.mp hb]
    exact Nat.le_refl _
  · rw [hd2 b rfl] at e
    cases e
  · intro cenv A' E' i va vb t m hc hv hn h1 h2 _
    obtain ⟨hi, hv⟩ := hv
    have hv := Array.toList_inj.mpr hv
    simp only [List.cons.injEq, and_true] at hv
    obtain ⟨rfl, rfl⟩ := hv
    rw [size_a] at hi
    refine wpAny_BinOp ?_
    refine wpAny_Name (wpAny_loadName_local (by rw [hc]; exact S.kind) (show cenv.scope.names.lookup xb = some .local by rw [hc]; exact S.lb) hn h2 ?_) hb
    refine wpAny_Name (wpAny_loadName_local (by rw [hc]; exact S.kind) (show cenv.scope.names.lookup xa = some .local by rw [hc]; exact S.la) hn h1 ?_) ha
    exact sub_int ⟨⟨hi, _, rfl⟩, GxR.keeps_tok _ _⟩
  · obtain ⟨fp, wr, G, Sn, W, st, lt, mv⟩ := R
    refine Calls.spliced_nil ?_
    refine call_sum_walkAnyS (W.self 0 _ _ _ st ⟨g, fp, wr, G, its.toArray.size, _, Sn, fun j => (ss.getD j (0, 0)).2 - (ss.getD j (0, 0)).1, rfl, W, st, lt, fun i v hv => hv.2, fun s' t' hm => ?_⟩)
    obtain ⟨H2, hT2, J⟩ := mv s' hm
    refine ⟨.int _, H2, J, ⟨t', rfl⟩, ?_⟩
    rw [size_a, hlen, preSum_spans ss ss.length (Nat.le_refl _), List.take_length]
    exact q H2 hT2
/-! all(a[1] < b[0] for a, b in zip(xs, ys)) -/
def gapAll (ss rs : List Span) : Bool := (List.range (min ss.length rs.length)).all fun i => decide ((ss.getD i (0, 0)).2 < (rs.getD i (0, 0)).1)
def tAllZ (K : PySem.W.Frag) (P : Addr) (ta : TA) : TE := fun σ H Q => ta σ H fun us H1 => ∃ (a b : Addr) (xs ys : List V) (ss rs : List Span), us = [.ref a, .ref b] ∧ SqL K H1 a xs ∧ SqL K H1 b ys ∧ a ≠ P ∧ b ≠ P ∧ Sps H1 xs ss ∧ Sps H1 ys rs ∧ GxR.TabG H1 P ∧ ∀ H2, GxR.Tabbed P H1 H2 → Q (.bl (gapAll ss rs)) H2
theorem ev_item {prog : Program} {w : World} {A : Around} {E : Value → Shared → Prop} {Q : Value → Shared → Prop} {cenv : Env} {s : Shared} {m : Str → Option Value} {x : Str} {t : Addr} {u0 u1 : Value} {i : Nat} {v : Value} {j : Nat} {p1 p2 p3 : Pos}
    (hk : cenv.scope.kind = .function) (hl : cenv.scope.names.lookup x = some .local) (hn : s.heap.Ns cenv.locals m) (hm : m x = some (.ref t)) (hd : (x == ("__debug__" : Str)) = false) (ht : IsTup s.heap t #[u0, u1]) (hi : i < 2) (hv : #[u0, u1][i]? = some v) (h : Q v { s with toks := s.toks + 1 }) :
    wpAny (model prog w) A (eval (.Subscript (.Name x p1) (.Constant (.int (i : Int)) j p2) p3) cenv) Q E s := by
  refine Subscript_ (wpAny_Name (wpAny_loadName_local hk hl hn hm (wpAny_Constant_int ?_)) hd)
  refine subscriptTail_builtinR (x := v) (show Shared.TypeIs _ (.ref t) "tuple" from IsTup.typeIs (s := { s with toks := s.toks + 1 }) ht) slot_tuple_getitem.lookup
    (PyProof.Rows.getItem_tuple (j := i) (Q := fun r s' => r = v ∧ Q r s') (s := { s with toks := s.toks + 1 }) ht (by omega) (by omega) (seqIndex_of (by omega) (by show (i : Int) < ((#[u0, u1].size : Nat) : Int); simp; omega)) hv ⟨rfl, h⟩) (by first | rfl | with_unfolding_all rfl)
theorem pe_allZ {c P : Addr} {e1 e2 : Expr} {xa xb : Str} {pa pb pt gpos p pos p1 p2 p3 p4 p5 p6 p7 zp zpos : Pos} {kt k j1 j2 : Nat} {scope : Scope} {ta : TA}
    (hr : Room k X.A) (hg : Gl X "all") (hm : X.mg "all" = none) (hba : bootBuiltins "all" = some (.builtin "all")) (hgz : Gl X "zip") (hmz : X.mg "zip" = none) (TB : GxR.TabB X.base X.mg c P) (hcode : X.env.code = .ref c) (S : GenS2 X.env scope xa xb) (hi : PA X [e1, e2] ta)
    (hs : ∀ v, genFold (.Call (.Name "zip" zp) [e1, e2] [] zpos) X.env v = pure v)
    (ha : (xa == ("__debug__" : Str)) = false) (hb : (xb == ("__debug__" : Str)) = false)
    (hz : starEach [e1, e2] X.env = (false, eval e1 X.env) :: starEach [e2] X.env := by rfl) (hpl : (backTo zpos (starEach [e2] X.env)).any (·.1) = false := by rfl)
    (he : starEach [.GeneratorExp (.Compare (.Subscript (.Name xa p1) (.Constant (.int 1) j1 p2) p3) [.Lt] [.Subscript (.Name xb p4) (.Constant (.int 0) j2 p5) p6] p7) [⟨.Tuple [.Name xa pa, .Name xb pb] kt pt, .Call (.Name "zip" zp) [e1, e2] [] zpos, [], 0⟩] scope gpos] X.env = (false, eval (.GeneratorExp (.Compare (.Subscript (.Name xa p1) (.Constant (.int 1) j1 p2) p3) [.Lt] [.Subscript (.Name xb p4) (.Constant (.int 0) j2 p5) p6] p7) [⟨.Tuple [.Name xa pa, .Name xb pb] kt pt, .Call (.Name "zip" zp) [e1, e2] [] zpos, [], 0⟩] scope gpos) X.env) :: starEach [] X.env := by rfl) :
    PE X (.Call (.Name "all" p) [.GeneratorExp (.Compare (.Subscript (.Name xa p1) (.Constant (.int 1) j1 p2) p3) [.Lt] [.Subscript (.Name xb p4) (.Constant (.int 0) j2 p5) p6] p7) [⟨.Tuple [.Name xa pa, .Name xb pb] kt pt, .Call (.Name "zip" zp) [e1, e2] [] zpos, [], 0⟩] scope gpos] [] pos) (tAllZ X.K P ta) := by
  constructor
  intro pins s σ H Q I hh
  refine wpAny_Call_Name_kw (ld_blt I hg hm hba ?_)
  refine PyProof.Rows.callWith_builtin1 ?_ he (by rfl)
  rw [he]
  show wpAny _ _ (spliced ((false, eval (.GeneratorExp (.Compare (.Subscript (.Name xa p1) (.Constant (.int 1) j1 p2) p3) [.Lt] [.Subscript (.Name xb p4) (.Constant (.int 0) j2 p5) p6] p7) [⟨.Tuple [.Name xa pa, .Name xb pb] kt pt, .Call (.Name "zip" zp) [e1, e2] [] zpos, [], 0⟩] scope gpos) X.env) :: backTo pos (starEach [] X.env))) _ _ s
  refine Calls.spliced_cons (gen_two (pins := pins) (σ := σ) hr TB hcode S hs ?_)
  refine Call_ (ld_blt I hgz hmz PyProof.Rows.boot_zip (PyProof.Rows.callWith_type1 (thn (hi.run zpos pins s σ H _ I hh) fun us s1 got => ?_) hz hpl))
  obtain ⟨ws, H1, I1, r1, a, b, xs, ys, ss, rs, rfl, hqx, hqy, naP, nbP, hS, hR, tab, q⟩ := got
  obtain ⟨u1, u2, rfl, ra, rb⟩ := vals2 r1
  cases (show u1 = Value.ref a from ra)
  cases (show u2 = Value.ref b from rb)
  obtain ⟨its, rv, pl, hz1⟩ := I1.list hqx
  obtain ⟨its2, rv2, pl2, hz2⟩ := I1.list hqy
  obtain ⟨Ts, A, B, hT⟩ := sps_arr I1 hS rv
  obtain ⟨Us, A2, B2, hU⟩ := sps_arr I1 hR rv2
  have hlen : its.length = ss.length := by rw [← rv.length, hS.len]
  have hlen2 : its2.length = rs.length := by rw [← rv2.length, hR.len]
  have isl := pl.isList
  have isl2 := pl2.isList
  obtain ⟨ps, hP, _⟩ := id tab
  have gP : s1.heap.get? P = some { cls := .none, data := .fields ps } := I1.hok P _ hP
  refine call_zip_2 isl isl2 fun h' hz' hTI hTO h1 h2 hsz hk => wpAny_pyIter_zip hz' ?_
  have PL := Heap.lt_size gP
  have newP : ∀ n : Nat, s1.heap.objs.size + n ≠ P := fun n z => by
    rw [← z] at PL
    exact absurd PL (Nat.not_lt.mpr (Nat.le_add_right _ _))
  have D := PySem.W.ktu_apart s1.heap.objs.size a b pl.lt pl2.lt
  let rd : Heap := s1.heap
  have mn : min its.toArray.size its2.toArray.size = min ss.length rs.length := by simp [hlen, hlen2]
  -- what is read while it runs: all that stood but the table
  obtain ⟨hd, hd1, hd2⟩ := restrict s1.heap fun b => decide (b ≠ P)
  refine ⟨H1, s1, s1.heap.objs.size + 4, _, _, _, _, _, _, fun j y => j < min ss.length rs.length ∧ y = .bool (decide ((ss.getD j (0, 0)).2 < (rs.getD j (0, 0)).1)), rfl,
    { inv := I1, tab := tab, eta := ⟨_, _, rfl⟩, keep := hk, size := ?_,
      walk := fun A' hA => (WalksT.zip2 hA (s1.heap.objs.size + 4) (s1.heap.objs.size + 2) (s1.heap.objs.size + 3) s1.heap.objs.size (s1.heap.objs.size + 1) a b D its.toArray its2.toArray).toU.bound,
      two := fun i vals h => ?_, st := ⟨hz', hTI, ⟨_, _, hTO⟩, h1, h2, (by obtain ⟨o, ho, r⟩ := isl; exact ⟨o, hk _ _ ho, r⟩), (by obtain ⟨o, ho, r⟩ := isl2; exact ⟨o, hk _ _ ho, r⟩)⟩, fpl := fun c hc => ?_, new := fun c hc => ?_ }, ⟨hd, fun c o e => ?_, ?_⟩, fun g s5 R => ?_⟩
  · show s1.heap.objs.size ≤ h'.objs.size
    rw [hsz]
    exact Nat.le_add_right _ _
  · obtain ⟨_, x, y, _, _, e⟩ := h
    exact ⟨x, y, e⟩
  · have hc' : c = s1.heap.objs.size + 4 ∨ c = s1.heap.objs.size + 2 ∨ c = s1.heap.objs.size + 3 ∨ c = s1.heap.objs.size ∨ c = s1.heap.objs.size + 1 ∨ c = a ∨ c = b := by simpa using hc
    have al : a < s1.heap.objs.size := pl.lt
    have bl : b < s1.heap.objs.size := pl2.lt
    have sz : h'.objs.size = s1.heap.objs.size + 5 := hsz
    refine ⟨?_, ?_⟩
    · show c < h'.objs.size
      rw [sz]
      rcases hc' with e | e | e | e | e | e | e <;> rw [e]
      · exact Nat.add_lt_add_left (by decide) _
      · exact Nat.add_lt_add_left (by decide) _
      · exact Nat.add_lt_add_left (by decide) _
      · exact Nat.lt_add_of_pos_right (by decide)
      · exact Nat.add_lt_add_left (by decide) _
      · exact Nat.lt_of_lt_of_le al (Nat.le_add_right _ _)
      · exact Nat.lt_of_lt_of_le bl (Nat.le_add_right _ _)
    · rcases hc' with e | e | e | e | e | e | e <;> rw [e]
      · exact newP 4
      · exact newP 2
      · exact newP 3
      · exact newP 0
      · exact newP 1
      · exact naP
      · exact nbP
  · have hc' : c = s1.heap.objs.size + 4 ∨ c = s1.heap.objs.size + 3 ∨ c = s1.heap.objs.size ∨ c = s1.heap.objs.size + 1 := by simpa using hc
    rcases hc' with e | e | e | e <;> rw [e]
    · exact Nat.le_add_right _ _
    · exact Nat.le_add_right _ _
    · exact Nat.le_refl _
    · exact Nat.le_add_right _ _
  · by_cases hc : c = P
    · rw [hd2 c (by simp [hc])] at e
      cases e
    · rw [hd1 c (decide_eq_true hc)] at e
      exact ⟨e, hc⟩
  · intro cenv A' E' i va vb t m hc hv hn h3 h4 hk2
    obtain ⟨hi', x, y, ex, ey, hv⟩ := hv
    have hv := Array.toList_inj.mpr hv
    simp only [List.cons.injEq, and_true] at hv
    obtain ⟨rfl, rfl⟩ := hv
    rw [mn] at hi'
    have i1 : i < its.length := by omega
    have i2 : i < its2.length := by omega
    obtain ⟨e1, t1, w1, g1⟩ := hT i i1
    obtain ⟨e2, t2, w2, g2⟩ := hU i i2
    have ex' : va = .ref (Ts i) := by
      have : its[i]? = some va := by simpa using ex
      rw [e1] at this
      exact (Option.some.inj this).symm
    have ey' : vb = .ref (Us i) := by
      have : its2[i]? = some vb := by simpa using ey
      rw [e2] at this
      exact (Option.some.inj this).symm
    subst ex' ey'
    have rd : ∀ {z : Addr} {ar : Array Value}, IsTup s1.heap z ar → (∃ q, H1 z = some (.tup q)) → IsTup t.heap z ar := fun {z ar} h q => by
      obtain ⟨o, ho, r⟩ := h
      refine ⟨o, hk2 _ _ ?_, r⟩
      rw [hd1 z (decide_eq_true fun zP => ?_)]
      · exact ho
      · obtain ⟨q, hq⟩ := q
        rw [zP, hP] at hq
        cases hq
    refine wpAny_Compare1 ?_
    refine ev_item (i := 1) (by rw [hc]; exact S.kind) (show cenv.scope.names.lookup xa = some .local by rw [hc]; exact S.la) hn h3 ha (rd t1 ⟨w1, g1⟩) (by decide) rfl ?_
    refine ev_item (i := 0) (s := { t with toks := t.toks + 1 }) (by rw [hc]; exact S.kind) (show cenv.scope.names.lookup xb = some .local by rw [hc]; exact S.lb) hn h4 hb (rd t2 ⟨w2, g2⟩) (by decide) rfl ?_
    exact lt_int ⟨⟨hi', rfl⟩, GxR.keeps_tok t _⟩
  · obtain ⟨fp, wr, G, Sn, W, st, lt, mv⟩ := R
    refine Calls.spliced_nil ?_
    refine call_all_walkS (W.self 0 _ _ _ st ⟨g, fp, wr, G, _, _, Sn, fun j => decide ((ss.getD j (0, 0)).2 < (rs.getD j (0, 0)).1), rfl, W, st, fun i v t Q1 E1 hv hq => ?_, fun s' hmv => ?_⟩)
    · rw [hv.2]
      exact wpAny_truthy_bool hq
    · obtain ⟨H2, hT2, J⟩ := mv s' hmv
      refine ⟨.bl _, H2, J, rfl, ?_⟩
      rw [mn]
      exact q H2 hT2
end
/-! ### generator expressions: elements judged in the generator's own frame -/
section
open GenW
/-- the generator's frame, woken below two calls of built-ins -/
abbrev gcx (X : Cx) (s : Shared) (H : Hp) (cenv : Env) (fp : List Addr) : Cx := { X with A := X.A.in1.in1.deeper cenv, s_0 := s, H_0 := H, env := cenv, outer := X.stack, stack := cenv :: X.stack, ex := fp, fn := fun _ => false, pn := [], xe := fun _ _ => False }
/-- the names of a generator expression: its own (with their places in N), or captured ones -/
structure GBlk (N : List Str) (sc scope : Scope) (own : List (Str × Nat)) : Prop where
  kind : scope.kind = .function
  co : scope.isCoroutine = false
  nocell : ∀ y ∈ scope.names, y.2 ≠ .cell
  dot : scope.names.lookup (".0" : Str) = some NameKind.local
  uniq : ∀ y ∈ scope.names, scope.names.lookup y.1 = some y.2
  ix : ∀ p ∈ own, N[p.2]? = some p.1
  free : ∀ y ∈ scope.names, y.2 = .free → sc.names.lookup y.1 = some .cell ∨ sc.names.lookup y.1 = some .free
  own : ∀ y ∈ scope.names, y.2 = .local → y.1 ∈ own.map (·.1) ∨ y.1 ∉ N
def gblkC (N : List Str) (sc scope : Scope) (own : List (Str × Nat)) : Bool :=
  decide (scope.kind = .function) && !scope.isCoroutine && scope.names.all (fun y => decide (y.2 ≠ .cell)) && decide (scope.names.lookup (".0" : Str) = some NameKind.local) && scope.names.all (fun y => decide (scope.names.lookup y.1 = some y.2)) &&
    own.all (fun p => decide (N[p.2]? = some p.1)) && scope.names.all (fun y => decide (y.2 ≠ .free) || decide (sc.names.lookup y.1 = some .cell) || decide (sc.names.lookup y.1 = some .free)) && scope.names.all (fun y => decide (y.2 ≠ .local) || decide (y.1 ∈ own.map (·.1)) || decide (y.1 ∉ N))
theorem gblk_by {N : List Str} {sc scope : Scope} {own : List (Str × Nat)} (h : gblkC N sc scope own = true) : GBlk N sc scope own := by
  unfold gblkC at h
  simp only [Bool.and_eq_true, Bool.or_eq_true, decide_eq_true_eq, List.all_eq_true, Bool.not_eq_true'] at h
  obtain ⟨⟨⟨⟨⟨⟨⟨h1, h2⟩, h3⟩, h4⟩, h5⟩, h6⟩, h7⟩, h8⟩ := h
  refine ⟨h1, h2, h3, h4, h5, h6, fun y hy e => ?_, fun y hy e => ?_⟩
  · rcases h7 y hy with (z | z) | z
    · exact absurd e z
    · exact .inl z
    · exact .inr z
  · rcases h8 y hy with (z | z) | z
    · exact absurd e z
    · exact .inl z
    · exact .inr z
variable {X : Cx} {pins : List (Addr × Obj)} {σ : L2.St} {H : Hp} {s : Shared}
theorem inv_regen {X : Cx} {pins : List (Addr × Obj)} {σ : L2.St} {H : Hp} {s s' : Shared} (I : Inv X pins σ H s) (ho : s'.os = s.os) (hh : s'.heap = s.heap) (hb : AllBare s'.gens) : Inv X pins σ H s' := by
  obtain ⟨h', g', d', t', o'⟩ := s'
  cases ho
  cases hh
  exact ⟨I.ok, I.os, hb, I.base, I.loc, I.cell, I.free, I.freeC, I.pin, I.hok, I.len⟩
/-- the frame stands -/
theorem gblk_start {scope : Scope} {own : List (Str × Nat)} {fp : List Addr} {h' : Heap} {g' : Array GenState} {tk : Nat} {itv code : Value} (I : Inv X pins σ H s) (ok : GBlk X.N X.env.scope scope own) (hN : X.N.Nodup) (hfp : ∀ b ∈ fp, FpOk X pins H b ∧ b < s.heap.objs.size)
    (hn : h'.Ns s.heap.objs.size (fun y => if y = ".0" then some itv else none)) (kp : ∀ b o, s.heap.get? b = some o → h'.get? b = some o) (hb : AllBare g') :
    Inv (gcx X s H (genEnv scope (cloFrom X.env.cells scope.names []) s.heap.objs.size code builtinsNs X.env) fp) [] (wipe σ (own.map (·.2))) H { s with heap := h', gens := g', toks := tk } := by
  have hfree : ∀ y ∈ scope.names, y.2 = .free → ∃ c, X.env.cells.lookup y.1 = some c := fun y hy e =>
    (ok.free y hy e).elim (fun k => I.ok.has _ (.inl k)) fun k => I.ok.has _ (.inr k)
  generalize hce : genEnv scope (cloFrom X.env.cells scope.names []) s.heap.objs.size code builtinsNs X.env = ce
  have hL : ce.locals = s.heap.objs.size := by subst hce; rfl
  have hcl : ce.cells = cloFrom X.env.cells scope.names [] := by subst hce; rfl
  have hsc : ce.scope = scope := by subst hce; rfl
  have cm : ∀ {y c}, ce.cells.lookup y = some c → X.env.cells.lookup y = some c ∧ c < s.heap.objs.size := fun {y c} e => by
    rw [hcl] at e
    rcases cloFrom_mem (PySem.mem_of_lookup e) with hm | ⟨h1, rfl⟩
    · cases hm
    · obtain ⟨c, hc⟩ := hfree _ h1 rfl
      rw [hc]
      obtain ⟨w, z⟩ := I.cell _ _ hc
      exact ⟨rfl, z.lt⟩
  have look : ∀ {y}, scope.names.lookup y = some .free → ∃ c, ce.cells.lookup y = some c ∧ X.env.cells.lookup y = some c := fun {y} hl => by
    have hy : (y, NameKind.free) ∈ scope.names := PySem.mem_of_lookup hl
    obtain ⟨c', e'⟩ := mem_lookup (cloFrom_has (cells := X.env.cells) (acc := []) hy)
    rw [← hcl] at e'
    exact ⟨c', e', (cm e').1⟩
  have nocell : ∀ {y}, ce.kindOf y ≠ some .cell := fun {y} e => by
    have e : ce.scope.names.lookup y = some .cell := e
    rw [hsc] at e
    exact ok.nocell _ (PySem.mem_of_lookup e) rfl
  have okB : (gcx X s H ce fp).Ok := by
    refine ⟨I.ok.mod, by show ce.scope.kind = _; rw [hsc]; exact ok.kind, by show ce.globals = _; rw [← hce]; exact I.ok.glob, by show ce.builtins = _; rw [← hce]; rfl, by show s.heap.objs.size ≤ ce.locals; rw [hL]; exact Nat.le_refl _,
      fun y z c e1 e2 => ?_, fun y hy => ?_, fun y c z e => ?_, I.ok.hd, ?_, .inr ⟨rfl, ?_⟩, fun b hb => ⟨?_, fun y c e z => ?_⟩, I.bs, Nat.le_trans I.ok.bsz I.sz, fun b o e hb => ?_, fun b hb z => ?_, I.stack, I.stkFree⟩
    · exact I.ok.inj y z c (cm e1).1 (cm e2).1
    · rcases hy with hy | hy
      · exact absurd hy nocell
      · have hy : ce.scope.names.lookup y = some .free := hy
        rw [hsc] at hy
        obtain ⟨c, h1, _⟩ := look hy
        exact ⟨c, h1⟩
    · cases z
    · exact Around.frames_deeper (show X.A.in1.in1.frames = some X.stack from I.ok.frames)
    · show ce.frame = some ce.locals
      rw [← hce]
      rfl
    · show b ≠ ce.locals
      rw [hL]
      exact Nat.ne_of_lt (hfp b hb).2
    · exact (hfp b hb).1.2.2.2.2.1 y c (cm e).1 z
    · rcases (hfp b hb).1.2.2.2.1 with z | z
      · exact I.ok.noex b o e z
      · exact absurd (Nat.lt_of_lt_of_le (Heap.lt_size e) (Nat.le_trans I.ok.bsz z)) (Nat.lt_irrefl _)
    · rcases List.mem_cons.mp (I.stkSub b z) with z | z
      · exact (hfp b hb).1.2.1 z
      · exact (hfp b hb).1.2.2.1 z
  refine ⟨okB, rfl, hb, Un.kept kp, ⟨fun y => if y = ".0" then some itv else none, ?_, fun i y av e1 e2 e3 => ?_⟩, fun y c e => ?_, ?_, fun y c e => I.freeC y c (cm e).1, fun p hp => ?_, I.hok.kept kp, by rw [wipe_length]; exact I.len⟩
  · show Heap.Ns _ ce.locals _
    rw [hL]
    exact hn
  · obtain ⟨e2, hne⟩ := wipe_some e2
    have hfr : scope.names.lookup y = some .free := by
      have e3 : Vis ce.scope y := e3
      rw [hsc] at e3
      rcases e3 with e3 | e3 | e3
      · rcases ok.own _ (PySem.mem_of_lookup e3) rfl with e' | e'
        · obtain ⟨p, hp, hpy⟩ := List.mem_map.mp e'
          have e4 := ok.ix p hp
          have hpy : p.1 = y := hpy
          rw [hpy] at e4
          exact absurd (List.mem_map.mpr ⟨p, hp, nodup_ix hN e4 e1⟩) hne
        · exact absurd (List.mem_of_getElem? e1) e'
      · exact absurd rfl (ok.nocell _ (PySem.mem_of_lookup e3))
      · exact e3
    obtain ⟨m, hn', hl⟩ := I.loc
    have vis : Vis X.env.scope y := (ok.free _ (PySem.mem_of_lookup hfr) rfl).elim (fun k => .inr (.inl k)) (fun k => .inr (.inr k))
    obtain ⟨w, r, q⟩ := hl i y av e1 e2 vis
    obtain ⟨c, h1, h2⟩ := look hfr
    refine ⟨w, r, .inr ⟨.inr (by show ce.scope.names.lookup y = _; rw [hsc]; exact hfr), c, h1, ?_⟩⟩
    rcases q with ⟨k, _⟩ | ⟨_, c', e', z⟩
    · have k : X.env.scope.names.lookup y = some .local := k
      rcases ok.free _ (PySem.mem_of_lookup hfr) rfl with k' | k' <;> rw [show X.env.scope.names.lookup y = _ from k'] at k <;> cases k
    · rw [h2] at e'
      cases e'
      exact z.keeps kp
  · obtain ⟨w, z⟩ := I.cell y c (cm e).1
    exact ⟨w, z.keeps kp⟩
  · show H ce.locals = none
    rw [hL]
    exact I.hok.fresh (Nat.le_refl _)
  · exact absurd (show p ∈ ([] : List (Addr × Obj)) ++ [] from hp) (by simp)
/-! the consumer: a: what it has gathered, told by the state; os: its own objects -/
structure Cons (α : Type) where
  step : α → V → (α → Prop) → (V → Prop) → Prop
  fin : α → (V → Prop) → Prop
/-- while the generator sleeps, all but the consumer's own is kept -/
structure Slp (ol : List Addr) (s s' : Shared) : Prop where
  same : s'.os = s.os
  bare : AllBare s'.gens
  keep : ∀ b o, b ∉ ol → s.heap.get? b = some o → s'.heap.get? b = some o
  own : ∀ b ∈ ol, ∃ o, s'.heap.get? b = some o ∧ ∀ v, o.data ≠ .cell v
def OsOk (X : Cx) (os : List Addr) : Prop := ∀ b ∈ os, X.s_0.heap.objs.size ≤ b ∧ b ≠ X.env.locals ∧ (∀ x c, X.env.cells.lookup x = some c → c ≠ b) ∧ b ∉ X.ex
theorem inv_woken {os : List Addr} {ip : List (Addr × Obj)} {s s' s₀ : Shared} (I : Inv X (pinsAt os s₀.heap ++ ip) σ H s) (hpn : X.pn = []) (h₀ : ∀ b ∈ os, ∃ o, s₀.heap.get? b = some o) (hO : OsOk X os) (z : Slp os s s') : Inv X (pinsAt os s'.heap) σ H s' ∧ ∀ b ∈ os, H b = none ∧ b ∉ X.fs := by
  have hb0 : ∀ b ∈ os, H b = none ∧ b ∉ X.fs := fun b hb => by
    obtain ⟨o, e⟩ := h₀ b hb
    obtain ⟨_, h2, _, h4, _⟩ := I.pin (b, o) (List.mem_append_right _ (List.mem_append_left _ (mem_pinsAt hb e)))
    exact ⟨h2, h4⟩
  have I0 : Inv X [] σ H s := I.pins_of fun p hp => absurd hp (by simp)
  have I1 : Inv X [] σ H { s with heap := s'.heap, toks := s.toks } := I0.turnedL (ch := os) (fun b o hb e => z.keep b o hb e) fun b hb =>
    ⟨(hb0 b hb).1, (hO b hb).2.1, (hb0 b hb).2, .inr (hO b hb).1, (hO b hb).2.2.1, fun p hp => absurd (show p ∈ ([] : List (Addr × Obj)) from by rw [hpn] at hp; exact hp) (by simp)⟩
  have I2 : Inv X [] σ H s' := inv_regen I1 z.same rfl z.bare
  refine ⟨I2.pins_of fun p hp => ?_, hb0⟩
  obtain ⟨hb, e⟩ := of_pinsAt hp
  obtain ⟨o, e', hc⟩ := z.own p.1 hb
  rw [e] at e'
  cases e'
  exact ⟨e, (hb0 p.1 hb).1, (hO p.1 hb).2.1, (hb0 p.1 hb).2, hc⟩
section
variable {α : Type}
def GYx (Z : Cx) (os : List Addr) (c : Cons α) (Rel : α → Shared → Prop) (Q : VK) : Protocol := fun n s₀ v s kap =>
  ∃ (a : α) (y : V) (H : Hp) (ip : List (Addr × Obj)) (τ : L2.St) (Nx : α → Prop), Rel a s₀ ∧ RelV y v ∧ Inv Z (pinsAt os s₀.heap ++ ip) τ H s ∧ c.step a y Nx (fun u => Q u H) ∧ ∀ s' a', Nx a' → Rel a' s' → Slp os s s' → kap (.send .none) s'
def GEx (Z : Cx) (os : List Addr) (c : Cons α) (Rel : α → Shared → Prop) (Q : VK) : GenEnd := fun n s₀ r s =>
  ((r = .ok (.ret .none) ∨ r = .ok .next) ∧ ∃ (a : α) (H : Hp) (τ : L2.St), Rel a s₀ ∧ Inv Z (pinsAt os s₀.heap) τ H s ∧ c.fin a (fun u => Q u H)) ∨ ∃ e, r = .error e ∧ False
/-- the loop: what is asked -/
def Runs1 (J : It) (g : TG) (tt : TT) (te : TE) (vs : List Nat) (σ : L2.St) (c : Cons α) (Q : VK) (W : Nat → Nat → α → Hp → Prop) : Prop :=
  ∀ i m a H, W i m a H → (J.stop i H ∧ c.fin a (fun u => Q u H)) ∨ (J.go i H ∧ ∃ Nx : α → Hp → Prop, (∀ a' H', Nx a' H' → ∃ m', m' < m ∧ W (i + 1) m' a' H') ∧ ∀ x H', J.yld i H x H' → g x (wipe σ vs) H' fun σ2 H2 => wipe σ2 vs = wipe σ vs ∧ tt σ2 H2 fun b H3 =>
    if b = true then te σ2 H3 fun y H4 => c.step a y (fun a' => Nx a' H4) (fun u => Q u H4) else Nx a H3)
theorem gx_over {A : Around} {elt tg iter : Expr} {ifs : List Expr} {scope : Scope} {pos : Pos} {it acc : Value} {ce : Env} : A.over (.compLoop (.GeneratorExp elt [⟨tg, iter, ifs, 0⟩] scope pos) 0 it acc ce) [] = A.deeper ce := by
  first
    | rfl
    | (obtain ⟨hd, d, fr, gs, u⟩ := A; simp [Around.over, Around.deeper, marksOver, frameCount, unitsOf, envsOf, guardsOf, pushEnvs, pushGuards, Code.envs, Code.env?, Code.isFrame, Code.guards, Code.isGuard, Code.weight, Code.frames, Code.isCreation, Code.isCaller, Code.cUnits])
theorem gx_over0 {A : Around} {elt tg iter : Expr} {ifs : List Expr} {scope : Scope} {pos : Pos} {it acc : Value} {ce : Env} : A.over (.compStart (.GeneratorExp elt [⟨tg, iter, ifs, 0⟩] scope pos) 0 it acc ce) [] = A.deeper ce := by
  first
    | rfl
    | (obtain ⟨hd, d, fr, gs, u⟩ := A; simp [Around.over, Around.deeper, marksOver, frameCount, unitsOf, envsOf, guardsOf, pushEnvs, pushGuards, Code.envs, Code.env?, Code.isFrame, Code.guards, Code.isGuard, Code.weight, Code.frames, Code.isCreation, Code.isCaller, Code.cUnits])
/-- what stands at a turn -/
structure At (Z : Cx) (os fp : List Addr) (tn : Nat → Heap → Prop) (σ : L2.St) (vs : List Nat) (i : Nat) (H : Hp) (s₀ s : Shared) : Prop where
  inv : Inv Z (pinsAt os s₀.heap) (wipe σ vs) H s
  tn : tn i s.heap
  fpn : ∀ b ∈ fp, H b = none
  ex : ∀ b ∈ os, ∃ o, s₀.heap.get? b = some o
theorem gx_loop {Z : Cx} {os fp : List Addr} {c : Cons α} {Rel : α → Shared → Prop} {Q : VK} {elt tg iter : Expr} {ifs : List Expr} {scope : Scope} {pos : Pos} {it : Addr} {tn : Nat → Heap → Prop} {J : It} {g : TG} {tt : TT} {te : TE} {vs : List Nat} {W : Nat → Nat → α → Hp → Prop} {A : Around}
    (hA : A.deeper Z.env = Z.A) (hpn : Z.pn = []) (hex : Z.ex = fp) (hc : Z.calm = true) (hxe : Z.xe = fun _ _ => False) (hco : Z.env.scope.isCoroutine = false) (hO : OsOk Z os) (T : Turn Z.prog Z.w Z.K tg J fp it tn) (pg : PG Z tg g) (pt : PTs Z ifs tt) (pe : PE Z elt te) (run : Runs1 J g tt te vs σ c Q W) :
    ∀ (m n i : Nat) (a : α) (H : Hp) (s₀ s : Shared), m < n → W i m a H → Rel a s₀ → At Z os fp tn σ vs i H s₀ s →
      Seg (model Z.prog Z.w) A (GEx Z os c Rel Q) (GYx Z os c Rel Q) n s₀ (.compLoop (.GeneratorExp elt [⟨tg, iter, ifs, 0⟩] scope pos) 0 (.ref it) .none Z.env) ((model Z.prog Z.w).den (.compLoop (.GeneratorExp elt [⟨tg, iter, ifs, 0⟩] scope pos) 0 (.ref it) .none Z.env)) [] s := by
  intro m
  induction m using Nat.strongRecOn with
  | ind m ih =>
    intro n i a H s₀ s hmn w hrel at_
    obtain ⟨I, st, nfp, h0⟩ := at_
    have stat : ∀ {pins : List (Addr × Obj)} {σ' : L2.St} {H' : Hp} {s' : Shared}, Inv Z pins σ' H' s' → (∀ p ∈ pins, p.1 ∈ os) → (∀ b ∈ fp, H' b = none) → ∀ b ∈ fp, FpOk Z pins H' b := fun {pins σ' H' s'} I' hp hn b hb => by
      have hb' : b ∈ Z.ex := by rw [hex]; exact hb
      refine ⟨hn b hb, (I'.ok.exf b hb').1, I'.ok.exfs b hb', .inl hb', fun x c e => (I'.ok.exf b hb').2 x c e, fun p hq => ?_⟩
      rw [hpn] at hq
      have := hO p.1 (hp p hq)
      intro z
      rw [z] at this
      exact this.2.2.2 hb'
    have pos_ : ∀ p ∈ pinsAt os s₀.heap, p.1 ∈ os := fun p hp => (of_pinsAt hp).1
    have noE : ∀ {β : Type} {t : Sem β} {Qx : β → Shared → Prop} {E' : Value → Shared → Prop} {s : Shared}, wpAny (model Z.prog Z.w) Z.A t Qx Z.xe s → wpAny (model Z.prog Z.w) Z.A t Qx E' s := fun h => wpAny_mono h (fun _ _ z => z) fun _ _ z => by rw [hxe] at z; exact z.elim
    show Seg _ A _ _ _ s₀ _ ((compTurn (.GeneratorExp elt [⟨tg, iter, ifs, 0⟩] scope pos) 0 (.ref it) .none Z.env).onRaise (leaving Z.env)) [] s
    rw [compTurn_gen, Sem.onRaise_eq_wrap]
    refine seg_bind_wrap ?_
    rw [gx_over, hA]
    refine wpAny_standAt (seg_bind_wrap ?_)
    rw [gx_over, hA]
    rcases run i m a H w with ⟨stop, qq⟩ | ⟨go, Nx, hNx, step⟩
    · refine wpAny_mono (T.done Z rfl rfl rfl hc i _ s _ H (fun _ _ => False) I (stat I pos_ nfp) st stop) (fun r s1 ⟨hr, I1⟩ => ?_) fun _ _ z => z.elim
      subst hr
      exact seg_end (.ok .next) (.inl ⟨.inr rfl, a, H, _, hrel, I1, qq⟩)
    · refine wpAny_mono (T.item Z rfl rfl rfl hc i _ s _ H (fun _ _ => False) I (stat I pos_ nfp) st go) (fun r s1 ⟨u, hr, h1⟩ => ?_) fun _ _ z => z.elim
      subst hr
      refine seg_bind_wrap ?_
      rw [gx_over, hA]
      refine wpAny_mono h1 (fun _ s7 ⟨x, H7, I7, r7, y7, st7, n7⟩ => ?_) fun _ _ z => z.elim
      have I7' := I7.pinned (stat I7 pos_ n7) (T.obj _ _ st7)
      refine seg_bind_wrap ?_
      rw [gx_over, hA]
      refine noE (wpAny_mono (pg.run _ s7 _ H7 x u _ I7' r7 (step x H7 y7)) (fun _ s8 ⟨σ8, H8, I8, hw8, q8⟩ => ?_) fun _ _ z => z)
      refine seg_bind_wrap ?_
      rw [gx_over, hA]
      refine noE (wpAny_mono (pt.run _ s8 σ8 H8 _ I8 q8) (fun b s9 ⟨H9, I9, q9⟩ => ?_) fun _ _ z => z)
      have hl : (wipe σ vs).length = σ8.length := by rw [← hw8, wipe_length]
      have wk : ∀ (j : Nat) v, (wipe σ vs)[j]? = some (some v) → σ8[j]? = some (some v) := fun j v e => by
        rw [← hw8] at e
        exact (wipe_some e).1
      have pin' : ∀ {s' : Shared} {H' : Hp}, Inv Z (pinsAt os s₀.heap ++ pinsAt fp s7.heap) σ8 H' s' → ∀ b ∈ fp, ∀ o, s7.heap.get? b = some o → s'.heap.get? b = some o ∧ H' b = none := fun {s' H'} I' b hb o e =>
        let z := I'.pin (b, o) (List.mem_append_right _ (List.mem_append_right _ (mem_pinsAt hb e)))
        ⟨z.1, z.2.1⟩
      have fpn : ∀ {s' : Shared} {H' : Hp}, Inv Z (pinsAt os s₀.heap ++ pinsAt fp s7.heap) σ8 H' s' → ∀ b ∈ fp, H' b = none := fun {s' H'} I' b hb => by
        obtain ⟨o, e, _⟩ := T.obj _ _ st7 b hb
        exact (pin' I' b hb o e).2
      cases b with
      | false =>
        simp only [Bool.false_eq_true, if_false] at q9 ⊢
        obtain ⟨m', hm, w'⟩ := hNx a H9 q9
        exact seg_again rfl (ih m' hm n (i + 1) a H9 s₀ s9 (by omega) w' hrel ⟨I9.unpinned.weak hl wk, T.keep _ _ _ st7 fun b hb o e => (pin' I9 b hb o e).1, fpn I9, h0⟩)
      | true =>
        simp only [if_true] at q9 ⊢
        have hy : ∀ v, yieldOut Z.env v = yieldValue v := fun v => by simp only [yieldOut, hco, Bool.false_eq_true, if_false]
        simp only [hy]
        rw [Sem.bind_eq_wrap', Sem.bind_eq_wrap', Sem.wrap_wrap, Sem.wrap_wrap]
        refine seg_wrap ?_
        rw [gx_over, hA]
        refine noE (wpAny_mono (pe.run _ s9 σ8 H9 _ I9 q9) (fun z s10 ⟨yv, H10, I10, r10, stp⟩ => ?_) fun _ _ z => z)
        cases n with
        | zero =>
          exact absurd hmn (Nat.not_lt_zero _)
        | succ n =>
          refine seg_at (seg_yield rfl rfl rfl ⟨a, yv, H10, pinsAt fp s7.heap, σ8, fun a' => Nx a' H10, hrel, r10, I10, stp, fun s' a' nx rel' slp => ?_⟩)
          obtain ⟨m', hm, w'⟩ := hNx a' H10 nx
          obtain ⟨I11, _⟩ := inv_woken I10 hpn h0 hO slp
          refine seg_again rfl (ih m' hm n (i + 1) a' H10 s' s' (by omega) w' rel' ⟨I11.weak hl wk, T.keep _ _ _ st7 fun b hb o e => slp.keep b o (fun hbo => ?_) (pin' I10 b hb o e).1, fpn I10, fun b hb => ?_⟩)
          · exact (hO b hbo).2.2.2 (by rw [hex]; exact hb)
          · obtain ⟨o, e, _⟩ := slp.own b hb
            exact ⟨o, e⟩
end
end
section
open GenW
variable {X : Cx} {pins : List (Addr × Obj)} {σ : L2.St} {H : Hp} {s : Shared} {α : Type}
theorem gx_start {Z : Cx} {os fp : List Addr} {c : Cons α} {Rel : α → Shared → Prop} {Q : VK} {elt tg iter : Expr} {ifs : List Expr} {scope : Scope} {pos : Pos} {it : Addr} {tn : Nat → Heap → Prop} {J : It} {g : TG} {tt : TT} {te : TE} {vs : List Nat} {W : Nat → Nat → α → Hp → Prop} {A : Around}
    (hA : A.deeper Z.env = Z.A) (hpn : Z.pn = []) (hex : Z.ex = fp) (hc : Z.calm = true) (hxe : Z.xe = fun _ _ => False) (hco : Z.env.scope.isCoroutine = false) (hO : OsOk Z os) (T : Turn Z.prog Z.w Z.K tg J fp it tn) (pg : PG Z tg g) (pt : PTs Z ifs tt) (pe : PE Z elt te) (run : Runs1 J g tt te vs σ c Q W)
    {m n : Nat} {a : α} {H : Hp} {s₀ s : Shared} (hmn : m < n) (w : W 0 m a H) (hrel : Rel a s₀) (at_ : At Z os fp tn σ vs 0 H s₀ s) :
      Seg (model Z.prog Z.w) A (GEx Z os c Rel Q) (GYx Z os c Rel Q) n s₀ (.compStart (.GeneratorExp elt [⟨tg, iter, ifs, 0⟩] scope pos) 0 (.ref it) .none Z.env) ((model Z.prog Z.w).den (.compStart (.GeneratorExp elt [⟨tg, iter, ifs, 0⟩] scope pos) 0 (.ref it) .none Z.env)) [] s := by
  have loop := gx_loop (iter := iter) (scope := scope) (pos := pos) hA hpn hex hc hxe hco hO T pg pt pe run m n 0 a H s₀ s hmn w hrel at_
  show Seg _ A _ _ _ s₀ _ ((compStart (.GeneratorExp elt [⟨tg, iter, ifs, 0⟩] scope pos) 0 (.ref it) .none Z.env).onRaise (leaving Z.env)) [] s
  unfold compStart
  rw [Sem.onRaise_eq_wrap]
  show Seg _ A _ _ _ s₀ _ ((ask >>= _).wrap _ _ _ _) [] s
  refine seg_bind_wrap (wpAny_askSetting ?_)
  split
  · exact seg_again rfl loop
  · refine seg_bind_wrap (wpAny_rule ?_)
    show Seg _ A _ _ _ s₀ _ ((standAt iter.pos >>= _).wrap _ _ _ _) [] s
    exact seg_bind_wrap (wpAny_standAt (seg_bind_wrap (T.self _ 0 s _ _ at_.tn (seg_again rfl loop))))
/-! the consumers -/
def cAll : Cons Unit := ⟨fun _ y k f => ∃ b, y = .bl b ∧ (if b = true then k () else f (.bl false)), fun _ f => f (.bl true)⟩
def cAny : Cons Unit := ⟨fun _ y k f => ∃ b, y = .bl b ∧ (if b = true then f (.bl true) else k ()), fun _ f => f (.bl false)⟩
def cSum : Cons Int := ⟨fun a y k _ => ∃ j, y = .int j ∧ k (a + j), fun a f => f (.int a)⟩
theorem gen_own {Z : Cx} {os : List Addr} {ip : List (Addr × Obj)} {τ : L2.St} {H : Hp} {s₀ s : Shared} {ga : Addr} {g : Nat} (hm : ga ∈ os) (hg : s₀.heap.IsGen ga g) (I : Inv Z (pinsAt os s₀.heap ++ ip) τ H s) : s.heap.IsGen ga g ∧ ∃ o, s.heap.get? ga = some o ∧ ∀ v, o.data ≠ .cell v := by
  obtain ⟨o, nm, qn, ho, h1, h2, h3⟩ := hg
  obtain ⟨e, _, _, _, hc⟩ := I.pin (ga, o) (List.mem_append_right _ (List.mem_append_left _ (mem_pinsAt hm ho)))
  exact ⟨⟨o, nm, qn, e, h1, h2, h3⟩, o, e, hc⟩
section
variable {Z : Cx} {ga : Addr} {g : Nat} {Q : VK} {A : Around} {Rf : Result → Shared → Prop}
theorem bool_drain {c : Cons Unit} {id : String} (bk bd : Bool)
    (hstep : ∀ y k f, c.step () y k f → ∃ b, y = .bl b ∧ (b = bk → k ()) ∧ (b = (!bk) → f (.bl bd))) (hfin : ∀ f, c.fin () f → f (.bl (!bd)))
    (hh : A.handled = none) (hd : A.depth < recursionLimit) (hR : ∀ b H τ s', Inv Z [] τ H s' → Q (.bl b) H → Rf (.ok (.ret (.bool b))) s')
    (body : ∀ (s : Shared), wpAny (model Z.prog Z.w) A.in1 (pyNext (.ref ga)) (fun r s' => match r with
        | none => Rf (.ok (.ret (.bool (!bd)))) s'
        | some v => ∃ b, v = .bool b ∧ (b = bk → codeAny (model Z.prog Z.w) A (.builtin id ⟨[.ref ga], []⟩) Rf s') ∧ (b = (!bk) → Rf (.ok (.ret (.bool bd))) s')) (fun _ _ => False) s → codeAny (model Z.prog Z.w) A (.builtin id ⟨[.ref ga], []⟩) Rf s) :
    ∀ (n : Nat) (s : Shared), s.heap.IsGen ga g → s.heap.NoLimit → (∃ gs, s.gens[g]? = some gs ∧ gs.Goes (model Z.prog Z.w) A.in1.in1 (GEx Z [ga] c (fun _ _ => True) Q) (GYx Z [ga] c (fun _ _ => True) Q) n (.send .none) (s.setGen g .running)) →
      codeAny (model Z.prog Z.w) A (.builtin id ⟨[.ref ga], []⟩) Rf s := by
  intro n
  induction n with
  | zero =>
    rintro s hg hl ⟨gs, hgs, hgo⟩
    refine body s (next_genG (A := A.in1) (F := fun n s₀ s => ∃ (a : Unit) (H : Hp) (τ : L2.St), True ∧ Inv Z (pinsAt [ga] s₀.heap) τ H s ∧ c.fin a (fun u => Q u H)) (Er := fun _ _ => False) hh hl hd hg hgs hgo (fun v s₁ gs' bare hv => ?_) (fun s₁ hp h' hk => ?_) fun e s₁ he => he.elim)
    · obtain ⟨_, y, H, ip, τ, Nx, _, rv, I, st, kap⟩ := hv
      obtain ⟨b, rfl, h1, h2⟩ := hstep y _ _ st
      have ev : v = .bool b := rv
      refine ⟨b, ev, fun e => ?_, fun e => hR bd H τ _ (inv_regen (s := s₁) (I.pins_of fun p hp => absurd hp (by simp)) rfl rfl (allBare_setGen I.bare bare)) (h2 e)⟩
      exfalso
      obtain ⟨_, o, ho, hc⟩ := gen_own (os := [ga]) (s₀ := s.setGen g .running) List.mem_cons_self hg I
      refine kap s₁ () (h1 e) True.intro ⟨rfl, I.bare, fun b o _ e => e, fun b hb => ?_⟩
      rw [List.mem_singleton.mp hb]
      exact ⟨o, ho, hc⟩
    · obtain ⟨_, H, τ, _, I, hf⟩ := hp
      refine hR (!bd) H τ _ (inv_regen (s := { s₁ with heap := h', toks := s₁.toks }) (L2.Inv.kept (I.pins_of fun p hp => absurd hp (by simp)) hk) rfl rfl (allBare_setGen I.bare rfl)) (hfin _ hf)
  | succ n ih =>
    rintro s hg hl ⟨gs, hgs, hgo⟩
    have hgl : g < s.gens.size := (Array.getElem?_eq_some_iff.mp hgs).1
    refine body s (wpAny_gsz (n := g + 1) hgl (next_genG (A := A.in1) (F := fun n s₀ s => ∃ (a : Unit) (H : Hp) (τ : L2.St), True ∧ Inv Z (pinsAt [ga] s₀.heap) τ H s ∧ c.fin a (fun u => Q u H)) (Er := fun _ _ => False) hh hl hd hg hgs hgo (fun v s₁ gs' bare hv => ?_) (fun s₁ hp h' hk => ?_) fun e s₁ he => he.elim))
    · intro hsz
      obtain ⟨_, y, H, ip, τ, Nx, _, rv, I, st, kap⟩ := hv
      obtain ⟨b, rfl, h1, h2⟩ := hstep y _ _ st
      have ev : v = .bool b := rv
      refine ⟨b, ev, fun e => ?_, fun e => hR bd H τ _ (inv_regen (s := s₁) (I.pins_of fun p hp => absurd hp (by simp)) rfl rfl (allBare_setGen I.bare bare)) (h2 e)⟩
      obtain ⟨hg1, o, ho, hc⟩ := gen_own (os := [ga]) (s₀ := s.setGen g .running) List.mem_cons_self hg I
      have hsz1 : g < s₁.gens.size := by
        have q : (s₁.setGen g gs').gens.size = s₁.gens.size := setGen_size _ _ _
        have hsz' : g + 1 ≤ (s₁.setGen g gs').gens.size := hsz
        omega
      refine ih (s₁.setGen g gs') hg1 I.nolimit ⟨gs', setGen_at hsz1, ?_⟩
      refine kap _ () (h1 e) True.intro ⟨rfl, allBare_setGen (s := s₁.setGen g gs') (allBare_setGen I.bare bare) rfl, fun b o _ e => e, fun b hb => ?_⟩
      rw [List.mem_singleton.mp hb]
      exact ⟨o, ho, hc⟩
    · intro _
      obtain ⟨_, H, τ, _, I, hf⟩ := hp
      refine hR (!bd) H τ _ (inv_regen (s := { s₁ with heap := h', toks := s₁.toks }) (L2.Inv.kept (I.pins_of fun p hp => absurd hp (by simp)) hk) rfl rfl (allBare_setGen I.bare rfl)) (hfin _ hf)
theorem all_body (s : Shared) (h : wpAny (model Z.prog Z.w) A.in1 (pyNext (.ref ga)) (fun r s' => match r with
        | none => Rf (.ok (.ret (.bool true))) s'
        | some v => ∃ b, v = .bool b ∧ (b = true → codeAny (model Z.prog Z.w) A (.builtin "all.loop" ⟨[.ref ga], []⟩) Rf s') ∧ (b = false → Rf (.ok (.ret (.bool false))) s')) (fun _ _ => False) s) : codeAny (model Z.prog Z.w) A (.builtin "all.loop" ⟨[.ref ga], []⟩) Rf s := by
  refine codeAny_builtin F.entry_all_loop ?_
  rw [Around.under_plainId F.plain_all_loop _]
  show wpAny _ A.in1 (pyNext (.ref ga) >>= _) _ _ s
  refine wpAny_bind (wpAny_mono h (fun r s' hr => ?_) fun _ _ z => z.elim)
  cases r with
  | none => exact wpAny_bind (wpAny_rule (wpAny_pure hr))
  | some v =>
    obtain ⟨b, rfl, h1, h2⟩ := hr
    refine wpAny_bind (wpAny_holding (wpAny_truthy_bool ?_))
    refine wpAny_bind (wpAny_letGo ?_)
    cases b with
    | true => exact wpAny_pure ⟨plainId_quiet F.plain_all_loop _, h1 rfl⟩
    | false => exact wpAny_bind (wpAny_rule (wpAny_pure (h2 rfl)))
theorem any_body (s : Shared) (h : wpAny (model Z.prog Z.w) A.in1 (pyNext (.ref ga)) (fun r s' => match r with
        | none => Rf (.ok (.ret (.bool false))) s'
        | some v => ∃ b, v = .bool b ∧ (b = false → codeAny (model Z.prog Z.w) A (.builtin "any.loop" ⟨[.ref ga], []⟩) Rf s') ∧ (b = true → Rf (.ok (.ret (.bool true))) s')) (fun _ _ => False) s) : codeAny (model Z.prog Z.w) A (.builtin "any.loop" ⟨[.ref ga], []⟩) Rf s := by
  refine codeAny_builtin F.entry_any_loop ?_
  rw [Around.under_plainId F.plain_any_loop _]
  show wpAny _ A.in1 (pyNext (.ref ga) >>= _) _ _ s
  refine wpAny_bind (wpAny_mono h (fun r s' hr => ?_) fun _ _ z => z.elim)
  cases r with
  | none => exact wpAny_bind (wpAny_rule (wpAny_pure hr))
  | some v =>
    obtain ⟨b, rfl, h1, h2⟩ := hr
    refine wpAny_bind (wpAny_holding (wpAny_truthy_bool ?_))
    refine wpAny_bind (wpAny_letGo ?_)
    cases b with
    | true => exact wpAny_bind (wpAny_rule (wpAny_pure (h2 rfl)))
    | false => exact wpAny_pure ⟨plainId_quiet F.plain_any_loop _, h1 rfl⟩
/-- the sum's own list -/
abbrev sumO (z : Int) (t : Tok) (c : Nat) : Obj := { cls := .type "list", dict := none, data := .seq #[.int z t] c, slots := #[] }
def SumR (S : Addr) (z : Int) (s : Shared) : Prop := ∃ (t : Tok) (c : Nat), s.heap.get? S = some (sumO z t c)
theorem sum_drain {S : Addr} (hSg : S ≠ ga) (hh : A.handled = none) (hd : A.depth < recursionLimit) (hR : ∀ z t H τ s', Inv Z [] τ H s' → Q (.int z) H → Rf (.ok (.ret (.int z t))) s') :
    ∀ (n : Nat) (s : Shared) (st : Int), (st = 0 ∨ st = 2) → s.heap.IsGen ga g → s.heap.NoLimit → (∃ z, SumR S z s) → (∃ gs, s.gens[g]? = some gs ∧ gs.Goes (model Z.prog Z.w) A.in1.in1 (GEx Z [ga, S] cSum (SumR S) Q) (GYx Z [ga, S] cSum (SumR S) Q) n (.send .none) (s.setGen g .running)) →
      codeAny (model Z.prog Z.w) A (.builtin "sum.loop" ⟨[.ref ga, .ref S, rawInt st, rawInt 0], []⟩) Rf s := by
  -- what is told by one step
  have core : ∀ (n : Nat) (s : Shared) (st : Int), (st = 0 ∨ st = 2) → s.heap.IsGen ga g → s.heap.NoLimit → (∃ z, SumR S z s) →
      (∃ gs, s.gens[g]? = some gs ∧ gs.Goes (model Z.prog Z.w) A.in1.in1 (GEx Z [ga, S] cSum (SumR S) Q) (GYx Z [ga, S] cSum (SumR S) Q) n (.send .none) (s.setGen g .running)) →
      (∀ (m : Nat) (s' : Shared) (st' : Int), m + 1 = n → (st' = 0 ∨ st' = 2) → s'.heap.IsGen ga g → s'.heap.NoLimit → (∃ z, SumR S z s') → (∃ gs, s'.gens[g]? = some gs ∧ gs.Goes (model Z.prog Z.w) A.in1.in1 (GEx Z [ga, S] cSum (SumR S) Q) (GYx Z [ga, S] cSum (SumR S) Q) m (.send .none) (s'.setGen g .running)) →
        codeAny (model Z.prog Z.w) A (.builtin "sum.loop" ⟨[.ref ga, .ref S, rawInt st', rawInt 0], []⟩) Rf s') →
      codeAny (model Z.prog Z.w) A (.builtin "sum.loop" ⟨[.ref ga, .ref S, rawInt st, rawInt 0], []⟩) Rf s := by
    rintro n s st hst2 hg hl ⟨z, tA, cS, hS⟩ ⟨gs, hgs, hgo⟩ ih
    have hgl : g < s.gens.size := (Array.getElem?_eq_some_iff.mp hgs).1
    refine codeAny_builtin F.entry_sum_loop ?_
    rw [Around.under_plainId F.plain_sum_loop _]
    show wpAny _ A.in1 (seqItems? (.ref S) >>= _) _ _ s
    refine wpAny_bind (wpAny_seqItems hS rfl ?_)
    show wpAny _ A.in1 (tryCatch (pyNext (.ref ga)) _ >>= _) _ _ s
    refine wpAny_bind (wpAny_tryCatch (wpAny_gsz (n := g + 1) hgl (next_genG (A := A.in1) (F := fun n s₀ s => ∃ (a : Int) (H : Hp) (τ : L2.St), SumR S a s₀ ∧ Inv Z (pinsAt [ga, S] s₀.heap) τ H s ∧ cSum.fin a (fun u => Q u H)) (Er := fun _ _ => False) hh hl hd hg hgs hgo (fun v s₁ gs' bare hv => ?_) (fun s₁ hp h' hk => ?_) fun e s₁ he => he.elim)))
    · intro hsz
      obtain ⟨a, y, H, ip, τ, Nx, ⟨ta, ca, ea⟩, rv, I, ⟨j, rfl, nx⟩, kap⟩ := hv
      have ea : s.heap.get? S = some (sumO a ta ca) := ea
      rw [hS] at ea
      have eaz : z = a ∧ tA = ta := by
        have := congrArg (fun o : Option Obj => o.map (·.data)) ea
        simp [sumO] at this
        exact this.1
      obtain ⟨rfl, rfl⟩ := eaz
      obtain ⟨t, rfl⟩ : ∃ t, v = .int j t := rv
      obtain ⟨hg1, o, ho, hc⟩ := gen_own (os := [ga, S]) (s₀ := s.setGen g .running) List.mem_cons_self hg I
      have hS' : s₁.heap.get? S = some (sumO z tA cS) := (I.pin (S, sumO z tA cS) (List.mem_append_right _ (List.mem_append_left _ (mem_pinsAt (List.mem_cons_of_mem _ List.mem_cons_self) hS)))).1
      have hsz1 : g < s₁.gens.size := by
        have q : (s₁.setGen g gs').gens.size = s₁.gens.size := setGen_size _ _ _
        have hsz' : g + 1 ≤ (s₁.setGen g gs').gens.size := hsz
        omega
      -- the next turn: the list at S holds the new sum
      have nxt : ∀ (h3 : Heap) (t3 : Tok) (c3 tk : Nat) (st' : Int), (st' = 0 ∨ st' = 2) → (∀ b ob, b ≠ S → s₁.heap.get? b = some ob → h3.get? b = some ob) → h3.get? S = some (sumO (z + j) t3 c3) →
          codeAny (model Z.prog Z.w) A (.builtin "sum.loop" ⟨[.ref ga, .ref S, rawInt st', rawInt 0], []⟩) Rf { s₁.setGen g gs' with heap := h3, toks := tk } := fun h3 t3 c3 tk st' hst' hk3 hS3 => by
        have slp : ∀ s', s'.os = s₁.os → AllBare s'.gens → s'.heap = h3 → Slp [ga, S] s₁ s' := fun s' e1 e2 e3 => by
          refine ⟨e1, e2, fun b ob hb e => ?_, fun b hb => ?_⟩
          · rw [e3]
            exact hk3 b ob (fun z => hb (by rw [z]; exact List.mem_cons_of_mem _ List.mem_cons_self)) e
          · rw [e3]
            rcases List.mem_cons.mp hb with hb | hb
            · rw [hb]
              exact ⟨o, hk3 ga o hSg.symm ho, hc⟩
            · rw [List.mem_singleton.mp hb]
              exact ⟨_, hS3, fun v q => by cases q⟩
        cases n with
        | zero =>
          exfalso
          exact kap { s₁ with heap := h3 } (z + j) nx ⟨t3, c3, hS3⟩ (slp _ rfl I.bare rfl)
        | succ n =>
          have hcs : S ≠ cStatics := fun q => by
            obtain ⟨_, hns, _⟩ := I.nolimit
            obtain ⟨o', es, ep, ho', hd', _⟩ := hns
            rw [← q, hS'] at ho'
            cases ho'
            cases hd'
          refine ih n _ st' rfl hst' ?_ ?_ ⟨z + j, t3, c3, hS3⟩ ⟨gs', setGen_at (s := { s₁ with heap := h3, toks := tk }) hsz1, ?_⟩
          · obtain ⟨o1, nm, qn, e1, r⟩ := hg1
            exact ⟨o1, nm, qn, hk3 _ _ hSg.symm e1, r⟩
          · obtain ⟨mc, hns, hnn⟩ := I.nolimit
            exact ⟨mc, hns.at' fun o e => hk3 _ o hcs.symm e, hnn⟩
          · exact kap _ (z + j) nx ⟨t3, c3, hS3⟩ (slp _ rfl (allBare_setGen (s := { s₁.setGen g gs' with heap := h3, toks := tk }) (allBare_setGen I.bare bare) rfl) rfl)
      have kp1 : ∀ (h : Heap) (f : Obj → Obj), (∀ b ob, b ≠ S → s₁.heap.get? b = some ob → h.get? b = some ob) → ∀ b ob, b ≠ S → s₁.heap.get? b = some ob → (h.update S f).get? b = some ob := fun h f q b ob hb e =>
        (Heap.get?_update_other _ _ (Ne.symm hb)).trans (q b ob hb e)
      rcases hst2 with rfl | rfl
      · show wpAny _ A.in1 (if (_ : Bool) = true then (mkInt (z + j) >>= _) else _) _ _ _
        split
        · refine wpAny_bind (wpAny_mkInt ?_)
          show wpAny _ A.in1 (updateSeq S (fun _ => #[.int (z + j) s₁.toks]) >>= _) _ _ _
          refine wpAny_bind ?_
          refine wpAny_updateSeq (o := sumO z tA cS) hS' rfl (wpAny_pure ⟨plainId_quiet F.plain_sum_loop _, ?_⟩)
          exact nxt _ _ _ _ 0 (.inl rfl) (kp1 _ _ fun b ob _ e => e) (Heap.get?_update_self _ hS' rfl)
        · refine wpAny_bind (wpAny_rule ?_)
          refine wpAny_bind (wpAny_attempt (wpAny_holding (wpAny_add_int ?_)))
          show wpAny _ A.in1 (updateSeq S (fun _ => #[.int (z + j) s₁.toks]) >>= _) _ _ _
          refine wpAny_bind (wpAny_updateSeq (o := sumO z tA cS) hS' rfl ?_)
          have hS2 := Heap.get?_update_self (Obj.mapSeq fun _ => #[Value.int (z + j) s₁.toks]) hS' rfl
          refine wpAny_bind (wpAny_letGo ?_)
          refine wpAny_bind (wpAny_updateSeq hS2 rfl (wpAny_pure ⟨plainId_quiet F.plain_sum_loop _, ?_⟩))
          exact nxt _ _ _ _ 2 (.inr rfl) (kp1 _ _ (kp1 _ _ fun b ob _ e => e)) (Heap.get?_update_self _ hS2 rfl)
      · show wpAny _ A.in1 ((holding [Value.int j t] (binaryOp .Add (.int z tA) (.int j t))).attempt >>= _) _ _ _
        refine wpAny_bind (wpAny_attempt (wpAny_holding (wpAny_add_int ?_)))
        show wpAny _ A.in1 (updateSeq S (fun _ => #[.int (z + j) s₁.toks]) >>= _) _ _ _
        refine wpAny_bind (wpAny_updateSeq (o := sumO z tA cS) hS' rfl ?_)
        have hS2 := Heap.get?_update_self (Obj.mapSeq fun _ => #[Value.int (z + j) s₁.toks]) hS' rfl
        refine wpAny_bind (wpAny_letGo ?_)
        refine wpAny_bind (wpAny_updateSeq hS2 rfl (wpAny_pure ⟨plainId_quiet F.plain_sum_loop _, ?_⟩))
        exact nxt _ _ _ _ 2 (.inr rfl) (kp1 _ _ (kp1 _ _ fun b ob _ e => e)) (Heap.get?_update_self _ hS2 rfl)
    · intro _
      obtain ⟨a, H, τ, ⟨ta, ca, ea⟩, I, hf⟩ := hp
      have ea : s.heap.get? S = some (sumO a ta ca) := ea
      rw [hS] at ea
      have eaz : z = a ∧ tA = ta := by
        have := congrArg (fun o : Option Obj => o.map (·.data)) ea
        simp [sumO] at this
        exact this.1
      obtain ⟨rfl, rfl⟩ := eaz
      exact wpAny_pure (hR z tA H τ _ (inv_regen (s := { s₁ with heap := h', toks := s₁.toks }) (L2.Inv.kept (I.pins_of fun p hp => absurd hp (by simp)) hk) rfl rfl (allBare_setGen I.bare rfl)) hf)
  intro n
  induction n with
  | zero => exact fun s st h1 h2 h3 h4 h5 => core 0 s st h1 h2 h3 h4 h5 fun m _ _ e => by omega
  | succ n ih =>
    refine fun s st h1 h2 h3 h4 h5 => core (n + 1) s st h1 h2 h3 h4 h5 fun m s' st' e a1 a2 a3 a4 a5 => ?_
    have e : m = n := by omega
    subst e
    exact ih s' st' a1 a2 a3 a4 a5
end
end
section
open GenW
variable {X : Cx} {pins : List (Addr × Obj)} {σ : L2.St} {H : Hp} {s : Shared} {α : Type}
/-- a generator expression is walked: what is asked -/
def tGx (P : Addr) (c : Cons α) (a0 : α) (wi : TI) (g : TG) (tt : TT) (te : TE) (vs : List Nat) : TE := fun σ H Q => wi σ H fun J H1 => GxR.TabG H1 P ∧ ∀ H2, GxR.Tabbed P H1 H2 → ∃ W : Nat → Nat → α → Hp → Prop, (∃ m, W 0 m a0 H2) ∧ Runs1 J g tt te vs σ c Q W
/-- the generator at ga stands ready -/
def GxReady (X : Cx) (pins : List (Addr × Obj)) (σ : L2.St) (c : Cons α) (a0 : α) (Q : VK) (ga : Addr) (s5 : Shared) : Prop :=
  ∃ (Z : Cx) (g n : Nat) (c0 : Code), s5.heap.IsGen ga g ∧ s5.gens[g]? = some (.fresh c0) ∧ s5.heap.NoLimit ∧ AllBare s5.gens ∧ Z.prog = X.prog ∧ Z.w = X.w ∧ (∀ τ H s', Inv Z [] τ H s' → Inv X pins σ H s') ∧ OsOk Z [ga] ∧ (∀ S, s5.heap.objs.size ≤ S → OsOk Z [ga, S] ∧ S ≠ ga) ∧
    ∀ (os : List Addr) (Rel : α → Shared → Prop) (s2 : Shared), OsOk Z os → (∀ b ∈ os, b = ga ∨ s5.heap.objs.size ≤ b) → (∀ b o, s5.heap.get? b = some o → s2.heap.get? b = some o) → s2.os = s5.os → AllBare s2.gens → (∀ b ∈ os, ∃ o, s2.heap.get? b = some o ∧ ∀ v, o.data ≠ .cell v) → Rel a0 s2 →
      Seg (model Z.prog Z.w) X.A.in1.in1 (GEx Z os c Rel Q) (GYx Z os c Rel Q) n s2 c0 ((model Z.prog Z.w).den c0) [] s2
theorem gx_make {c P : Addr} {elt tg iter : Expr} {ifs : List Expr} {scope : Scope} {own : List (Str × Nat)} {gpos : Pos} {k : Nat} {wi : TI} {g : TG} {tt : TT} {te : TE} {cs : Cons α} {a0 : α} {Q : VK} {Q' : Value → Shared → Prop}
    (hr : Room k X.A) (hcalm : X.calm = true) (hN : X.N.Nodup) (TB : GxR.TabB X.base X.mg c P) (hcode : X.env.code = .ref c) (ok : GBlk X.N X.env.scope scope own) (hi : PI X tg iter wi) (hs : ∀ v, genFold iter X.env v = pure v)
    (hg : ∀ (s : Shared) (H : Hp) (C : Addr) (code : Value) (fp : List Addr), PG (gcx X s H (genEnv scope (cloFrom X.env.cells scope.names []) C code builtinsNs X.env) fp) tg g)
    (ht : ∀ (s : Shared) (H : Hp) (C : Addr) (code : Value) (fp : List Addr), PTs (gcx X s H (genEnv scope (cloFrom X.env.cells scope.names []) C code builtinsNs X.env) fp) ifs tt)
    (he : ∀ (s : Shared) (H : Hp) (C : Addr) (code : Value) (fp : List Addr), PE (gcx X s H (genEnv scope (cloFrom X.env.cells scope.names []) C code builtinsNs X.env) fp) elt te)
    (I : Inv X pins σ H s) (h : tGx P cs a0 wi g tt te (own.map (·.2)) σ H Q) (fin : ∀ ga s5, GxReady X pins σ cs a0 Q ga s5 → Q' (.ref ga) s5) :
    wpAny (model X.prog X.w) X.A (eval (.GeneratorExp elt [⟨tg, iter, ifs, 0⟩] scope gpos) X.env) Q' X.xe s := by
  have hfree : ∀ y ∈ scope.names, y.2 = .free → ∃ c, X.env.cells.lookup y.1 = some c := fun y hy e =>
    (ok.free y hy e).elim (fun k => I.ok.has _ (.inl k)) fun k => I.ok.has _ (.inr k)
  refine wpAny_GeneratorExp_make ok.co (closure_ok hfree) ok.nocell ok.dot ok.kind hr.depth ?_ hs
  refine thn (hi.run pins s σ H _ I h) fun xv t1 hx => thn hx fun itv t2 h2 => ?_
  obtain ⟨it, fp, tn, J, H1, rfl, I1, T, st1, f1, tab, q⟩ := h2
  obtain ⟨ps, hP, tr⟩ := id tab
  have gP : t2.heap.get? P = some { cls := .none, data := .fields ps } := I1.hok P _ hP
  have cd : PySem.W.CodeHd t2.heap c P := TB.code.keeps fun b u e => I1.bk b u e
  refine ⟨I1.nolimit, ?_⟩
  have fpP : ∀ b ∈ fp, b ≠ P := fun b hb z => by
    have := (f1 b hb).1
    rw [z, hP] at this
    cases this
  have rest : ∀ (code : Value) (h3 : Heap) (tk : Nat) (qs : Array Value), Heap.ExtBut P t2.heap h3 → t2.heap.objs.size ≤ h3.objs.size → h3.get? P = some { cls := .none, data := .fields qs } → (∃ more, qs = ps ++ more) → TriplesOk qs.toList →
      wpAny (model X.prog X.w) X.A (builtinsFor X.env.globals X.env.builtins) (fun bi s₄ => ∀ h', h'.Ns s₄.heap.objs.size (fun y => if y = ".0" then some (.ref it) else none) → Heap.SameBut s₄.heap.objs.size (s₄.heap.push { cls := .type "frame", data := .dict #[] }) h' →
          Q' (.ref h'.objs.size) { s₄ with gens := s₄.gens.push (.fresh (.compStart (.GeneratorExp elt [⟨tg, iter, ifs, 0⟩] scope gpos) 0 (.ref it) .none (genEnv scope (cloFrom X.env.cells scope.names []) s₄.heap.objs.size code bi X.env))), toks := s₄.toks + 1 + 1 + 1, heap := h'.push { cls := .type "generator", data := .fields #[.int s₄.gens.size 0, .str "<genexpr>" (s₄.toks + 1), .str (X.env.qual ++ "<genexpr>") (s₄.toks + 1 + 1)] } }) X.xe { t2 with heap := h3, toks := tk } := by
    intro code h3 tk qs hx hsz gP3 ⟨more, em⟩ tr3
    obtain ⟨bm, ob, b1, b2, b3, b4, b5, b6, b7, b8⟩ := TB.bm
    have kp3 : ∀ b u, b ≠ P → t2.heap.get? b = some u → h3.get? b = some u := fun b u hb e => hx b u hb e
    refine wpAny_builtinsFor (m := X.mg) (by rw [I1.ok.glob]; exact (I1.mod.glob.keeps I1.bk).extBut hx TB.gP) b1 b2 (kp3 _ _ b4 (I1.bk _ _ b5)) b6 b7 b8 ?_
    subst em
    have I3 : Inv X pins σ (upd H1 P (.tbl (ps ++ more))) { t2 with heap := h3, gens := t2.gens, drawn := t2.drawn, toks := tk } := GxR.inv_tab I1 hP kp3 gP3 I1.bare
    obtain ⟨W, ⟨m0, w0⟩, run⟩ := q (upd H1 P (.tbl (ps ++ more))) ⟨⟨_, upd_same, tr3⟩, fun b hb => upd_ne hb⟩
    have lt1 : ∀ b ∈ fp, b < t2.heap.objs.size := fun b hb => by
      obtain ⟨o, e, _⟩ := T.obj _ _ st1 b hb
      exact Heap.lt_size e
    have st3 : tn 0 h3 := T.keep _ _ _ st1 fun b hb o e => kp3 b o (fpP b hb) e
    have f3 : ∀ b ∈ fp, FpOk X pins (upd H1 P (.tbl (ps ++ more))) b ∧ b < h3.objs.size := fun b hb => by
      refine ⟨⟨?_, (f1 b hb).2⟩, Nat.lt_of_lt_of_le (lt1 b hb) hsz⟩
      rw [upd_ne (fpP b hb)]
      exact (f1 b hb).1
    intro h' hn' sb'
    have sz' : h'.objs.size = h3.objs.size + 1 := by
      rw [sb'.1, Heap.size_push]
    have kp' : ∀ b o, h3.get? b = some o → h'.get? b = some o := fun b o e => sb'.extBut b o (Nat.ne_of_lt (Heap.lt_size e)) (Heap.get?_push_of_some _ e)
    generalize hgo : ({ cls := .type "generator", data := .fields #[.int t2.gens.size 0, .str "<genexpr>" (tk + 1), .str (X.env.qual ++ "<genexpr>") (tk + 1 + 1)] } : Obj) = go
    have kp5 : ∀ b o, h3.get? b = some o → (h'.push go).get? b = some o := fun b o e => Heap.get?_push_of_some _ (kp' b o e)
    generalize hH3 : upd H1 P (.tbl (ps ++ more)) = H3 at I3 w0 f3
    have at5 : (h'.push go).get? h'.objs.size = some go := by
      rw [← hgo]
      exact Heap.get?_push_size _ rfl
    have bare5 : AllBare (t2.gens.push (.fresh (.compStart (.GeneratorExp elt [⟨tg, iter, ifs, 0⟩] scope gpos) 0 (.ref it) .none (genEnv scope (cloFrom X.env.cells scope.names []) h3.objs.size code builtinsNs X.env)))) := AllBare.push I1.bare rfl
    have pg := hg { t2 with heap := h3, gens := t2.gens, drawn := t2.drawn, toks := tk } H3 h3.objs.size code fp
    have pt := ht { t2 with heap := h3, gens := t2.gens, drawn := t2.drawn, toks := tk } H3 h3.objs.size code fp
    have pe := he { t2 with heap := h3, gens := t2.gens, drawn := t2.drawn, toks := tk } H3 h3.objs.size code fp
    have start : ∀ (h2 : Heap) (g2 : Array GenState) (tk2 : Nat), h2.Ns h3.objs.size (fun y => if y = ".0" then some (.ref it) else none) → (∀ b o, h3.get? b = some o → h2.get? b = some o) → AllBare g2 → _ := fun h2 g2 tk2 a1 a2 a3 =>
      gblk_start (s := { t2 with heap := h3, gens := t2.gens, drawn := t2.drawn, toks := tk }) (code := code) (h' := h2) (g' := g2) (tk := tk2) I3 ok hN f3 a1 a2 a3
    have hco' : (genEnv scope (cloFrom X.env.cells scope.names []) h3.objs.size code builtinsNs X.env).scope.isCoroutine = false := ok.co
    have hL : (genEnv scope (cloFrom X.env.cells scope.names []) h3.objs.size code builtinsNs X.env).locals = h3.objs.size := rfl
    have oso : ∀ b, h3.objs.size < b → h3.objs.size ≤ b ∧ b ≠ h3.objs.size ∧ (∀ x c, (cloFrom X.env.cells scope.names []).lookup x = some c → c ≠ b) ∧ b ∉ fp := fun b hb => by
      refine ⟨Nat.le_of_lt hb, Nat.ne_of_gt hb, fun x c e z => ?_, fun hm => ?_⟩
      · rcases cloFrom_mem (PySem.mem_of_lookup e) with hm | ⟨h1, h2⟩
        · cases hm
        · obtain ⟨c', hc'⟩ := hfree _ h1 rfl
          rw [hc'] at h2
          have h2 : c = c' := h2
          obtain ⟨w, zz⟩ := I3.cell _ _ hc'
          have := zz.lt
          have : c' < h3.objs.size := this
          rw [← h2, z] at this
          exact absurd (Nat.lt_trans this hb) (Nat.lt_irrefl _)
      · exact absurd (Nat.lt_trans (f3 b hm).2 hb) (Nat.lt_irrefl _)
    refine fin h'.objs.size _ ⟨gcx X { t2 with heap := h3, gens := t2.gens, drawn := t2.drawn, toks := tk } H3 (genEnv scope (cloFrom X.env.cells scope.names []) h3.objs.size code builtinsNs X.env) fp, t2.gens.size, m0 + 1, _, ⟨go, _, _, at5, by rw [← hgo], by rw [← hgo], by rw [← hgo]⟩, Array.getElem?_push_size .., I3.nolimit.keeps kp5, bare5, rfl, rfl, fun τ H' s' I' => ?_, fun b hb => ?_, fun S hS => ⟨fun b hb => ?_, ?_⟩, ?_⟩
    · exact I3.call' (ch := fp) I'.os I'.base I'.hok I'.bare fun b hb => ⟨(f3 b hb).1.2.2.2.1, (f3 b hb).1.2.1, (f3 b hb).1.2.2.2.2.1, (f3 b hb).1.2.2.2.2.2⟩
    · rw [List.mem_singleton.mp hb]
      exact oso _ (by rw [sz']; exact Nat.lt_succ_self _)
    · have hS : (h'.push go).objs.size ≤ S := hS
      rw [Heap.size_push] at hS
      rcases List.mem_cons.mp hb with e | e
      · rw [e]
        exact oso _ (by rw [sz']; exact Nat.lt_succ_self _)
      · rw [List.mem_singleton.mp e]
        exact oso _ (by omega)
    · have hS : (h'.push go).objs.size ≤ S := hS
      rw [Heap.size_push] at hS
      exact Nat.ne_of_gt hS
    · intro os Rel s2 hO hos hk2 ho2 hb2 hex2 rel
      have hk3 : ∀ b o, h3.get? b = some o → s2.heap.get? b = some o := fun b o e => hk2 b o (kp5 b o e)
      have hn2 : s2.heap.Ns h3.objs.size (fun y => if y = ".0" then some (.ref it) else none) := Heap.Ns.keeps hn' fun b o e => hk2 b o (Heap.get?_push_of_some _ e)
      have J0 := start s2.heap s2.gens s2.toks hn2 hk3 hb2
      have J2 := inv_regen (s' := s2) J0 (ho2.trans rfl) rfl hb2
      have hos3 : ∀ b ∈ os, h3.objs.size < b := fun b hb => by
        rcases hos b hb with e | e
        · rw [e, sz']
          exact Nat.lt_succ_self _
        · have e : (h'.push go).objs.size ≤ b := e
          rw [Heap.size_push] at e
          omega
      have J3 := J2.pins_of (pins' := pinsAt os s2.heap) fun p hp => by
        obtain ⟨hb, e⟩ := of_pinsAt hp
        obtain ⟨o, e', hc⟩ := hex2 p.1 hb
        rw [e] at e'
        cases e'
        refine ⟨e, I3.hok.fresh (Nat.le_of_lt (hos3 p.1 hb)), (hO p.1 hb).2.1, fun hm => ?_, hc⟩
        have hm : p.1 ∈ frs X.stack := hm
        have := (I3.stack.mem hm).2
        obtain ⟨o2, e2, _⟩ := this
        exact absurd (Nat.lt_trans (Heap.lt_size e2) (hos3 p.1 hb)) (Nat.lt_irrefl _)
      exact gx_start (Z := gcx X { t2 with heap := h3, gens := t2.gens, drawn := t2.drawn, toks := tk } H3 (genEnv scope (cloFrom X.env.cells scope.names []) h3.objs.size code builtinsNs X.env) fp) (A := X.A.in1.in1) rfl rfl rfl hcalm rfl hco' hO T pg pt pe run (Nat.lt_succ_self m0) w0 rel ⟨J3, T.keep _ _ _ st3 fun b hb o e => hk3 b o e, fun b hb => (f3 b hb).1.1, fun b hb => by
        obtain ⟨o, e, _⟩ := hex2 b hb
        exact ⟨o, e⟩⟩
  cases hf : codeAmong gpos ps.toList with
  | none =>
    refine wpAny_genexprCodeX hcode (cd.code gP tr) (cd.tab gP) hf fun c' h' tk hx hge hlt hco _ htab _ => ?_
    obtain ⟨_, _, _, _, _, _, _, _, _, _, _, _, _, _, _, _, _, _, _, htr, _⟩ := hco
    exact rest _ h' tk _ hx (Nat.le_trans hge (Nat.le_of_lt hlt)) htab.2 ⟨_, rfl⟩ htr
  | some cv =>
    refine wpAny_genexprCode_hit hcode (cd.code gP tr) hf ?_
    exact rest cv t2.heap t2.toks ps (Heap.ExtBut.refl _ _) (Nat.le_refl _) gP ⟨#[], by simp⟩ tr
theorem room_u {k : Nat} {A : Around} (r : Room k A) : A.units + 1 < cLine := by
  have := r.units
  omega
theorem room_gx {k : Nat} {A : Around} (r : Room (k + 3) A) (env : Env) : Room k (A.in1.in1.deeper env) := Room.deeper (Room.in1 (Room.in1 r)) env
section
variable {c P : Addr} {elt tg iter : Expr} {ifs : List Expr} {scope : Scope} {own : List (Str × Nat)} {gpos p pos : Pos} {k : Nat} {wi : TI} {g : TG} {tt : TT} {te : TE}
theorem pe_gxAll (hr : Room k X.A) (hcalm : X.calm = true) (hN : X.N.Nodup) (hgl : Gl X "all") (hm : X.mg "all" = none) (hba : bootBuiltins "all" = some (.builtin "all")) (TB : GxR.TabB X.base X.mg c P) (hcode : X.env.code = .ref c) (ok : GBlk X.N X.env.scope scope own) (hi : PI X tg iter wi)
    (hg : ∀ (s : Shared) (H : Hp) (C : Addr) (code : Value) (fp : List Addr), PG (gcx X s H (genEnv scope (cloFrom X.env.cells scope.names []) C code builtinsNs X.env) fp) tg g)
    (ht : ∀ (s : Shared) (H : Hp) (C : Addr) (code : Value) (fp : List Addr), PTs (gcx X s H (genEnv scope (cloFrom X.env.cells scope.names []) C code builtinsNs X.env) fp) ifs tt)
    (he : ∀ (s : Shared) (H : Hp) (C : Addr) (code : Value) (fp : List Addr), PE (gcx X s H (genEnv scope (cloFrom X.env.cells scope.names []) C code builtinsNs X.env) fp) elt te) (hs : ∀ v, genFold iter X.env v = pure v)
    (hst : starEach [.GeneratorExp elt [⟨tg, iter, ifs, 0⟩] scope gpos] X.env = (false, eval (.GeneratorExp elt [⟨tg, iter, ifs, 0⟩] scope gpos) X.env) :: starEach [] X.env := by rfl) :
    PE X (.Call (.Name "all" p) [.GeneratorExp elt [⟨tg, iter, ifs, 0⟩] scope gpos] [] pos) (tGx P cAll () wi g tt te (own.map (·.2))) := by
  constructor
  intro pins s σ H Q I hh
  refine wpAny_Call_Name_kw (ld_blt I hgl hm hba ?_)
  refine PyProof.Rows.callWith_builtin1 ?_ hst (by rfl)
  rw [hst]
  show wpAny _ _ (spliced ((false, eval (.GeneratorExp elt [⟨tg, iter, ifs, 0⟩] scope gpos) X.env) :: backTo pos (starEach [] X.env))) _ _ s
  refine Calls.spliced_cons (gx_make hr hcalm hN TB hcode ok hi hs hg ht he I hh fun ga s5 R => Calls.spliced_nil ?_)
  obtain ⟨Z, gi, n, c0, hgen, hgs, hl, hb, eP, eW, back, hO, _, seg⟩ := R
  rw [← eP, ← eW] at *
  refine call_function_tree F.kind_all F.plain_all F.entry_all (F.args_all1 _) ?_
  unfold Builtin.«all»
  refine wpAny_bind (m := oneArg "all" _) (wpAny_pure ?_)
  refine wpAny_bind (wpAny_pyIter_gen hgen ?_)
  refine wpAny_pure ⟨plainId_quiet F.plain_all_loop _, bool_drain (Z := Z) (g := gi) (Q := Q) (c := cAll) true false (fun y k f h => ?_) (fun f h => h) hr.hd hr.depth (fun b H' τ s' I' q => ?_) all_body n s5 hgen hl ⟨_, hgs, rfl, seg [ga] _ _ hO (fun b hb => .inl (List.mem_singleton.mp hb)) (fun b o e => e) rfl (allBare_setGen hb rfl) (fun b hb => ?_) True.intro⟩⟩
  · obtain ⟨b, rfl, h⟩ := h
    exact ⟨b, rfl, fun e => by rw [if_pos (show b = true from e)] at h; exact h, fun e => by rw [if_neg (by rw [e]; decide)] at h; exact h⟩
  · exact ⟨.bl b, H', back τ H' s' I', rfl, q⟩
  · rw [List.mem_singleton.mp hb]
    obtain ⟨o, nm, qn, ho, h1, h2, h3⟩ := hgen
    exact ⟨o, ho, fun v q => by rw [h2] at q; cases q⟩
theorem pe_gxAny (hr : Room k X.A) (hcalm : X.calm = true) (hN : X.N.Nodup) (hgl : Gl X "any") (hm : X.mg "any" = none) (hba : bootBuiltins "any" = some (.builtin "any")) (TB : GxR.TabB X.base X.mg c P) (hcode : X.env.code = .ref c) (ok : GBlk X.N X.env.scope scope own) (hi : PI X tg iter wi)
    (hg : ∀ (s : Shared) (H : Hp) (C : Addr) (code : Value) (fp : List Addr), PG (gcx X s H (genEnv scope (cloFrom X.env.cells scope.names []) C code builtinsNs X.env) fp) tg g)
    (ht : ∀ (s : Shared) (H : Hp) (C : Addr) (code : Value) (fp : List Addr), PTs (gcx X s H (genEnv scope (cloFrom X.env.cells scope.names []) C code builtinsNs X.env) fp) ifs tt)
    (he : ∀ (s : Shared) (H : Hp) (C : Addr) (code : Value) (fp : List Addr), PE (gcx X s H (genEnv scope (cloFrom X.env.cells scope.names []) C code builtinsNs X.env) fp) elt te) (hs : ∀ v, genFold iter X.env v = pure v)
    (hst : starEach [.GeneratorExp elt [⟨tg, iter, ifs, 0⟩] scope gpos] X.env = (false, eval (.GeneratorExp elt [⟨tg, iter, ifs, 0⟩] scope gpos) X.env) :: starEach [] X.env := by rfl) :
    PE X (.Call (.Name "any" p) [.GeneratorExp elt [⟨tg, iter, ifs, 0⟩] scope gpos] [] pos) (tGx P cAny () wi g tt te (own.map (·.2))) := by
  constructor
  intro pins s σ H Q I hh
  refine wpAny_Call_Name_kw (ld_blt I hgl hm hba ?_)
  refine PyProof.Rows.callWith_builtin1 ?_ hst (by rfl)
  rw [hst]
  show wpAny _ _ (spliced ((false, eval (.GeneratorExp elt [⟨tg, iter, ifs, 0⟩] scope gpos) X.env) :: backTo pos (starEach [] X.env))) _ _ s
  refine Calls.spliced_cons (gx_make hr hcalm hN TB hcode ok hi hs hg ht he I hh fun ga s5 R => Calls.spliced_nil ?_)
  obtain ⟨Z, gi, n, c0, hgen, hgs, hl, hb, eP, eW, back, hO, _, seg⟩ := R
  rw [← eP, ← eW] at *
  refine call_function_tree F.kind_any F.plain_any F.entry_any (F.args_any1 _) ?_
  unfold Builtin.«any»
  refine wpAny_bind (m := oneArg "any" _) (wpAny_pure ?_)
  refine wpAny_bind (wpAny_pyIter_gen hgen ?_)
  refine wpAny_pure ⟨plainId_quiet F.plain_any_loop _, bool_drain (Z := Z) (g := gi) (Q := Q) (c := cAny) false true (fun y k f h => ?_) (fun f h => h) hr.hd hr.depth (fun b H' τ s' I' q => ?_) any_body n s5 hgen hl ⟨_, hgs, rfl, seg [ga] _ _ hO (fun b hb => .inl (List.mem_singleton.mp hb)) (fun b o e => e) rfl (allBare_setGen hb rfl) (fun b hb => ?_) True.intro⟩⟩
  · obtain ⟨b, rfl, h⟩ := h
    exact ⟨b, rfl, fun e => by rw [if_neg (by rw [e]; decide)] at h; exact h, fun e => by rw [if_pos (show b = true from e)] at h; exact h⟩
  · exact ⟨.bl b, H', back τ H' s' I', rfl, q⟩
  · rw [List.mem_singleton.mp hb]
    obtain ⟨o, nm, qn, ho, h1, h2, h3⟩ := hgen
    exact ⟨o, ho, fun v q => by rw [h2] at q; cases q⟩
theorem pe_gxSum (hr : Room k X.A) (hcalm : X.calm = true) (hN : X.N.Nodup) (hgl : Gl X "sum") (hm : X.mg "sum" = none) (TB : GxR.TabB X.base X.mg c P) (hcode : X.env.code = .ref c) (ok : GBlk X.N X.env.scope scope own) (hi : PI X tg iter wi)
    (hg : ∀ (s : Shared) (H : Hp) (C : Addr) (code : Value) (fp : List Addr), PG (gcx X s H (genEnv scope (cloFrom X.env.cells scope.names []) C code builtinsNs X.env) fp) tg g)
    (ht : ∀ (s : Shared) (H : Hp) (C : Addr) (code : Value) (fp : List Addr), PTs (gcx X s H (genEnv scope (cloFrom X.env.cells scope.names []) C code builtinsNs X.env) fp) ifs tt)
    (he : ∀ (s : Shared) (H : Hp) (C : Addr) (code : Value) (fp : List Addr), PE (gcx X s H (genEnv scope (cloFrom X.env.cells scope.names []) C code builtinsNs X.env) fp) elt te) (hs : ∀ v, genFold iter X.env v = pure v)
    (hst : starEach [.GeneratorExp elt [⟨tg, iter, ifs, 0⟩] scope gpos] X.env = (false, eval (.GeneratorExp elt [⟨tg, iter, ifs, 0⟩] scope gpos) X.env) :: starEach [] X.env := by rfl) :
    PE X (.Call (.Name "sum" p) [.GeneratorExp elt [⟨tg, iter, ifs, 0⟩] scope gpos] [] pos) (tGx P cSum 0 wi g tt te (own.map (·.2))) := by
  constructor
  intro pins s σ H Q I hh
  refine wpAny_Call_Name_kw (ld_blt I hgl hm boot_sum ?_)
  refine PyProof.Rows.callWith_builtin1 ?_ hst (by rfl)
  rw [hst]
  show wpAny _ _ (spliced ((false, eval (.GeneratorExp elt [⟨tg, iter, ifs, 0⟩] scope gpos) X.env) :: backTo pos (starEach [] X.env))) _ _ s
  refine Calls.spliced_cons (gx_make hr hcalm hN TB hcode ok hi hs hg ht he I hh fun ga s5 R => Calls.spliced_nil ?_)
  obtain ⟨Z, gi, n, c0, hgen, hgs, hl, hb, eP, eW, back, _, hOS, seg⟩ := R
  rw [← eP, ← eW] at *
  refine call_function_tree F.kind_sum F.plain_sum F.entry_sum (F.args_sum1 _) ?_
  unfold Builtin.«sum»
  simp only [List.length_cons, List.length_nil]
  rw [if_neg (by decide)]
  refine wpAny_bind (wpAny_of_eq (show Builtin.Builtins.bindParams "sum" ["start"] 0 { } = pure [none] from rfl) ?_)
  refine wpAny_bind (wpAny_pyIter_gen hgen ?_)
  refine wpAny_bind (wpAny_mkInt ?_)
  refine wpAny_bind (wpAny_pure ?_)
  simp only [List.forIn_cons, List.forIn_nil]
  refine wpAny_bind (wpAny_bind (wpAny_bind (wpAny_isInstance (T := "int") (b := false) (typeIs_int _ _ _) PySem.sub_int_str ?_)))
  simp only [Bool.false_eq_true, if_false]
  refine wpAny_pure (wpAny_bind (wpAny_bind (wpAny_isInstance (T := "int") (b := false) (typeIs_int _ _ _) PySem.sub_int_bytes ?_)))
  simp only [Bool.false_eq_true, if_false]
  refine wpAny_pure (wpAny_bind (wpAny_bind (wpAny_isInstance (T := "int") (b := false) (typeIs_int _ _ _) PySem.sub_int_bytearray ?_)))
  simp only [Bool.false_eq_true, if_false]
  refine wpAny_pure (wpAny_pure ?_)
  refine wpAny_bind (wpAny_newObj_type ?_)
  obtain ⟨hO, hSg⟩ := hOS s5.heap.objs.size (Nat.le_refl _)
  have kp : ∀ b o, s5.heap.get? b = some o → (s5.heap.push { cls := .type "list", data := .seq #[.int 0 s5.toks] }).get? b = some o := fun b o e => Heap.get?_push_of_some _ e
  have hS : (s5.heap.push { cls := .type "list", data := .seq #[.int 0 s5.toks] }).get? s5.heap.objs.size = some (sumO 0 s5.toks 0) := Heap.get?_push_size _ rfl
  refine wpAny_pure ⟨plainId_quiet F.plain_sum_loop _, sum_drain (Z := Z) (g := gi) (Q := Q) hSg hr.hd hr.depth (fun z t H' τ s' I' q => ?_) n _ 0 (.inl rfl) (hgen.keeps kp) (hl.keeps kp) ⟨0, _, _, hS⟩ ⟨_, hgs, rfl, seg [ga, s5.heap.objs.size] _ _ hO (fun b hb => ?_) kp rfl (allBare_setGen (s := { s5 with heap := _, toks := _ }) hb rfl) (fun b hb => ?_) ⟨_, _, hS⟩⟩⟩
  · exact ⟨.int z, H', back τ H' s' I', ⟨t, rfl⟩, q⟩
  · rcases List.mem_cons.mp hb with e | e
    · exact .inl e
    · exact .inr (by rw [List.mem_singleton.mp e]; exact Nat.le_refl _)
  · rcases List.mem_cons.mp hb with e | e
    · rw [e]
      obtain ⟨o, nm, qn, ho, h1, h2, h3⟩ := hgen
      exact ⟨o, kp _ _ ho, fun v q => by rw [h2] at q; cases q⟩
    · rw [List.mem_singleton.mp e]
      exact ⟨_, hS, fun v q => by cases q⟩
end
end
/-! ### defs that hold generator expressions: their code objects and tables -/
structure FunC (K : PySem.W.Frag) (x qual : Str) (st : Stmt) (f : Addr) (fd : FuncData) (c : Addr) : Prop where
  ex : ∃ (oc : Value) (od : Option Addr) (kV doc pm : Value) (an : Option Addr) (ct : Value) (osl : Array (Option Value)),
    fd = PySem.W.fnOf x qual (defArgs st) (defBody st) (defScope st) .none kV doc pm an (.ref c) ct ∧ K.lookup f = some ⟨oc, od, .func fd, osl⟩ ∧ PySem.W.codeIn K (.ref c) qual = true
section
variable {P : Program} {w : World} {K : PySem.W.Frag} {mg : Str → Option Value} {base : Heap}
theorem FunC.ok {x qual : Str} {st : Stmt} {f c : Addr} {fd : FuncData} {N ps : List Str} {k : Nat} {sp : Sp} (F : FunC K x qual st f fd c) (S : FnScope N ps (defScope st)) (len : ∀ vs H Q E, sp vs H Q E → vs.length = ps.length)
    (hbody : ∀ (A : Around) (outer : List Env) (s : Shared) (H : Hp) (vs : List V) (Q : VK) (E : XK), Room k (A.deeper (envOfC qual (defScope st) s.heap.objs.size f (.ref c))) → sp vs H Q E →
      ∃ t, PSs (cxOf CX0 P w K mg base N qual (defScope st) f (.ref c) A outer s H E).nox (defBody st) t ∧ t { nx := fun _ H' => Q .non H', rt := Q } (start N vs) H) : FnOk P w K mg base CX0 (k + 1) f fd ps sp := by
  obtain ⟨oc, od, kV, doc, pm, an, ct, osl, rfl, lk, hcd⟩ := F.ex
  refine fn_of lk hcd S len fun A outer s H vs Q E hr hsp => ?_
  obtain ⟨t, h, q⟩ := hbody A outer s H vs Q E hr hsp
  exact ⟨t, h.nox, q⟩
theorem FunC.okX {x qual : Str} {st : Stmt} {f c : Addr} {fd : FuncData} {N ps : List Str} {k : Nat} {sp : Sp} (F : FunC K x qual st f fd c) (S : FnScope N ps (defScope st)) (len : ∀ vs H Q E, sp vs H Q E → vs.length = ps.length)
    (hbody : ∀ (A : Around) (outer : List Env) (s : Shared) (H : Hp) (vs : List V) (Q : VK) (E : XK), Room k (A.deeper (envOfC qual (defScope st) s.heap.objs.size f (.ref c))) → sp vs H Q E →
      ∃ t, PSs (cxOf (L2.CX P w) P w K mg base N qual (defScope st) f (.ref c) A outer s H E) (defBody st) t ∧ t { nx := fun _ H' => Q .non H', rt := Q } (start N vs) H) : FnOk P w K mg base (L2.CX P w) (k + 1) f fd ps sp := by
  obtain ⟨oc, od, kV, doc, pm, an, ct, osl, rfl, lk, hcd⟩ := F.ex
  exact fn_of lk hcd S len fun A outer s H vs Q E hr hsp => hbody A outer s H vs Q E hr hsp
end
/-- the head's word about a def's code object and its table -/
def TabRec (h : Heap) (mg : Str → Option Value) (nm : Str) : Prop := ∃ (a : Addr) (o : Obj) (fd : FuncData) (c P : Addr), mg nm = some (.ref a) ∧ h.get? a = some o ∧ o.data = .func fd ∧ fd.code = .ref c ∧ h.IsCode c P #[] ∧ h.TableAt c P #[]
theorem walk_tabs {l : PySem.W.OpenLaw} {n k : Nat} {q : Program} {loose : List Str} {XP : (Str → Option Value) → Heap → Prop} {YP : World → Heap → Prop} {d : DefRec} {K : Params → PySem.W.Frag} {CX : World → CXT} {x : Str} (nms : List Str)
    (hn : l.most = some n) (hn2 : n ≤ sizeLine) (hdf : d.params.defaults = []) (hr : Room k callerA) (hrec : (nms.all fun nm => (recsOf q).any fun e => e.name == nm) = true) (hY : ∀ (w : World) (h : Heap), YP w h → (K w.params).In h)
    (F : ∀ (w : World) (mg : Str → Option Value) (fa : Addr) (h : Heap), (K w.params).In h → h.Ns mainGlobals mg → mg d.name = some (.ref fa) → (∀ nm ∈ nms, TabRec h mg nm) → LamX.LawAtS l w (K w.params) (CX w) k n x mg fa h)
    (hCX : ∀ (w : World) (H : Hp) (s : Shared) (e : Value) (s' : Shared), CX w [] H s (fun _ _ _ => False) e s' → False) :
    PySem.W.WalkO q loose XP YP l.row.toRowW d [] (fun f vs => PySem.call f vs) := by
  refine Att.attach_callB hn hdf fun w s0 s1 mg mb fa o pm cd doc a vs ns G Y ho hd hcd hmg hobj hints hlen hbits hg => ?_
  have KX := hY w _ Y
  have tabs : ∀ nm ∈ nms, TabRec s1.heap mg nm := fun nm hm => by
    obtain ⟨dL, h1, h2⟩ := List.any_eq_true.mp (List.all_eq_true.mp hrec nm hm)
    obtain ⟨a', o', fd', c', P', k1, k2, k3, k4, k5, k6⟩ := G.T.tab dL h1
    rw [beq_iff_eq.mp h2] at k1
    exact ⟨a', o', fd', c', P', k1, k2, k3, k4, k5, k6⟩
  obtain ⟨fd, cs, sp, hT, nT, C, hb, hsp, hF⟩ := F w mg fa _ KX G.T.g hmg tabs
  exact LamX.law_callTs KX G.T.g G.T.b G.T.builtins G.T.nolimit hg hT nT C G.T.bmain hobj hints (Nat.le_trans hlen hn2) hr hF hb (fun H hH hS => hsp H a ns hlen hbits hH hS) fun H e s' => hCX w H s1 e s'
/-- the table of the def at f, as the written part names it -/
theorem tab_of {K : PySem.W.Frag} {h : Heap} {mg : Str → Option Value} {nm : Str} {f c P : Addr} {fd : FuncData} {oc : Value} {od : Option Addr} {osl : Array (Option Value)} {ec : Value} {dc : Option Addr} {vc : Array Value} {sl : Array (Option Value)} (X : K.In h) (R : TabRec h mg nm)
    (g : mg nm = some (.ref f)) (lf : K.lookup f = some ⟨oc, od, .func fd, osl⟩) (hc : fd.code = .ref c) (lc : K.lookup c = some ⟨ec, dc, .fields vc, sl⟩) (h11 : vc[11]? = some (.ref P)) :
    h.get? P = some { cls := .none, data := .fields #[] } ∧ PySem.W.CodeHd h c P := by
  obtain ⟨a, o, fd', c', P', k1, k2, k3, k4, k5, k6⟩ := R
  rw [g] at k1
  cases k1
  rw [X _ _ lf] at k2
  cases k2
  cases k3
  rw [hc] at k4
  cases k4
  have hd := PySem.W.CodeHd.of k5 k6
  obtain ⟨⟨o2, v2, e1, _, e3, e4⟩, hP⟩ := k6
  rw [X _ _ lc] at e1
  cases e1
  cases e3
  rw [h11] at e4
  cases e4
  exact ⟨hP, hd⟩
/-- the tables stand -/
def Tb (Ps : List Addr) (H : Hp) : Prop := ∀ P ∈ Ps, GxR.TabG H P
theorem Tb.same {Ps : List Addr} {H H' : Hp} (t : Tb Ps H) (e : Same H H') : Tb Ps H' := fun P hP => by
  obtain ⟨ps, h1, h2⟩ := t P hP
  exact ⟨ps, e _ _ h1, h2⟩
theorem Tb.chg {Ps L : List Addr} {H H' : Hp} (t : Tb Ps H) (e : Chg L H H') (n : ∀ P ∈ Ps, P ∉ L) : Tb Ps H' := fun P hP => by
  obtain ⟨ps, h1, h2⟩ := t P hP
  exact ⟨ps, e _ _ (n P hP) h1, h2⟩
theorem Tb.out {Ps : List Addr} {H : Hp} {a : Addr} {o : HO} (t : Tb Ps H) (h : H a = some o) (n : ∀ ps, o ≠ .tbl ps) : a ∉ Ps := fun hm => by
  obtain ⟨ps, h1, _⟩ := t a hm
  rw [h] at h1
  exact n ps (Option.some.inj h1)
theorem Tb.new {Ps : List Addr} {H : Hp} {a : Addr} (t : Tb Ps H) (h : H a = none) : a ∉ Ps := fun hm => by
  obtain ⟨ps, h1, _⟩ := t a hm
  rw [h] at h1
  cases h1
theorem Tb.lsts {Ps : List Addr} {H : Hp} (t : Tb Ps H) : Lsts Ps H := fun P hP xs z => by
  obtain ⟨ps, h1, _⟩ := t P hP
  rw [h1] at z
  cases z
theorem Tb.tabbed {Ps : List Addr} {H H' : Hp} {P : Addr} (t : Tb Ps H) (hP : P ∈ Ps) (e : GxR.Tabbed P H H') : Tb Ps H' ∧ Chg Ps H H' := by
  refine ⟨fun Q hQ => ?_, fun b o n h => ?_⟩
  · by_cases z : Q = P
    · rw [z]
      exact e.1
    · obtain ⟨ps, h1, h2⟩ := t Q hQ
      exact ⟨ps, by rw [e.2 Q z]; exact h1, h2⟩
  · have z : b ≠ P := fun z => n (by rw [z]; exact hP)
    rw [e.2 b z]
    exact h
/-! ### all but what stands at L is kept; tables of code objects may grow -/
def Kp (L : List Addr) (H H' : Hp) : Prop := ∀ b o, b ∉ L → H b = some o → H' b = some o ∨ ∃ ps qs, o = .tbl ps ∧ H' b = some (.tbl qs)
theorem Kp.refl (L : List Addr) (H : Hp) : Kp L H H := fun _ _ _ h => .inl h
theorem Kp.trans {L : List Addr} {H H1 H2 : Hp} (a : Kp L H H1) (b : Kp L H1 H2) : Kp L H H2 := fun c o n h => by
  rcases a c o n h with z | ⟨ps, qs, rfl, z⟩
  · exact b c o n z
  · rcases b c _ n z with y | ⟨ps', qs', _, y⟩
    · exact .inr ⟨ps, qs, rfl, y⟩
    · exact .inr ⟨ps, qs', rfl, y⟩
theorem Kp.chg {L : List Addr} {H H' : Hp} (c : Chg L H H') : Kp L H H' := fun b o n h => .inl (c b o n h)
theorem Kp.of {L : List Addr} {H H' : Hp} (c : Same H H') : Kp L H H' := fun b o _ h => .inl (c b o h)
theorem Kp.mono {L L' : List Addr} {H H' : Hp} (a : Kp L H H') (h : ∀ x ∈ L, x ∈ L') : Kp L' H H' := fun c o n e => a c o (fun q => n (h c q)) e
theorem Kp.nil {L : List Addr} {H H' : Hp} (a : Kp [] H H') : Kp L H H' := a.mono fun _ h => nomatch h
theorem Kp.lst {L : List Addr} {H H' : Hp} (a : Kp L H H') {l : Addr} {us : List V} (n : l ∉ L) (h : H l = some (.lst us)) : H' l = some (.lst us) := by
  rcases a l _ n h with z | ⟨ps, qs, z, _⟩
  · exact z
  · cases z
theorem Kp.tup {L : List Addr} {H H' : Hp} (a : Kp L H H') {l : Addr} {us : List V} (n : l ∉ L) (h : H l = some (.tup us)) : H' l = some (.tup us) := by
  rcases a l _ n h with z | ⟨ps, qs, z, _⟩
  · exact z
  · cases z
theorem Kp.free {L : List Addr} {H H' : Hp} (a : Kp L H H') {l : Addr} (hl : l ∉ L) (h : H' l = none) : H l = none := by
  cases q : H l with
  | none => rfl
  | some o =>
    rcases a l o hl q with z | ⟨ps, qs, _, z⟩
    · rw [z] at h
      cases h
    · rw [z] at h
      cases h
theorem Kp.seq {K : PySem.W.Frag} {L : List Addr} {H H' : Hp} {a : Addr} {xs : List V} (e : Kp L H H') (n : a ∉ L) (h : SqL K H a xs) : SqL K H' a xs := by
  rcases h with (h | ⟨o, h⟩) | h
  · exact .inl (.inl (e.lst n h))
  · rcases e a _ n h with z | ⟨ps, qs, z, _⟩
    · exact .inl (.inr ⟨o, z⟩)
    · cases z
  · exact .inr h
theorem Kp.spn {L : List Addr} {H H' : Hp} (e : Kp L H H') (l : Lsts L H) {v : V} {s : Span} (h : Spn H v s) : Spn H' v s := by
  obtain ⟨t, rfl, ht⟩ := h
  exact ⟨t, rfl, e.tup (fun q => l t q _ ht) ht⟩
theorem Kp.sps {L : List Addr} {H H' : Hp} (e : Kp L H H') (l : Lsts L H) : ∀ {vs : List V} {ss : List Span}, Sps H vs ss → Sps H' vs ss
  | _, _, .nil => .nil
  | _, _, .cons h t => .cons (e.spn l h) (Kp.sps e l t)
theorem lsts0 (H : Hp) : Lsts [] H := fun _ h => nomatch h
theorem Kp.pu {L : List Addr} {H H' : Hp} {p : Addr} {n : Nat} (e : Kp L H H') (hp : p ∉ L) (h : Pu H p n) : Pu H' p n := by
  obtain ⟨a, b, c, h1, h2⟩ := h
  exact ⟨a, b, c, e.lst hp h1, h2⟩
theorem Kp.upd {L : List Addr} {H : Hp} {p : Addr} {o : HO} (h : p ∈ L) : Kp L H (upd H p o) := .chg (Chg.upd h)
theorem Kp.new {L : List Addr} {H H' : Hp} {p : Addr} {o : HO} (e : Kp L H H') (n : H' p = none) : Kp L H (L2.upd H' p o) := e.trans (.of (same_upd n))
/-- a new object changed: nothing of what stood before is -/
theorem Kp.own {L : List Addr} {H H' : Hp} {p : Addr} {o : HO} (e : Kp L H H') (n : H p = none) : Kp L H (L2.upd H' p o) := fun b x nb h => by
  have hne : b ≠ p := ne_of_none h n
  rw [upd_ne hne]
  exact e b x nb h
theorem Kp.tb {Ps L : List Addr} {H H' : Hp} (e : Kp L H H') (hL : ∀ P ∈ Ps, P ∉ L) (hT : ∀ P ∈ Ps, GxR.TabG H P → ∀ qs, H' P = some (.tbl qs) → TriplesOk qs.toList) (t : Tb Ps H) : Tb Ps H' := fun P hP => by
  obtain ⟨ps, h1, h2⟩ := t P hP
  rcases e P _ (hL P hP) h1 with z | ⟨_, qs, _, z⟩
  · exact ⟨ps, z, h2⟩
  · exact ⟨qs, z, hT P hP (t P hP) qs z⟩
theorem Tb.kp {Ps : List Addr} {P : Addr} {H H' : Hp} (t : Tb Ps H) (mP : P ∈ Ps) (h : GxR.Tabbed P H H') : Tb Ps H' ∧ Kp [] H H' := by
  refine ⟨fun Q hQ => ?_, fun b o _ e => ?_⟩
  · by_cases q : Q = P
    · rw [q]
      exact h.1
    · obtain ⟨ps, h1, h2⟩ := t Q hQ
      exact ⟨ps, by rw [h.2 Q q]; exact h1, h2⟩
  · by_cases q : b = P
    · obtain ⟨ps, h1, _⟩ := t P mP
      obtain ⟨qs, h3, _⟩ := h.1
      rw [q] at e ⊢
      rw [h1] at e
      cases e
      exact .inr ⟨ps, qs, rfl, h3⟩
    · exact .inl (by rw [h.2 b q]; exact e)
theorem Tb.own {Ps : List Addr} {H H' : Hp} {p : Addr} {o : HO} (t : Tb Ps H') (n : H p = none) (t0 : Tb Ps H) : Tb Ps (upd H' p o) := fun P hP => by
  obtain ⟨ps, h1, h2⟩ := t P hP
  obtain ⟨qs, h3, _⟩ := t0 P hP
  exact ⟨ps, by rw [upd_ne (ne_of_none h3 n)]; exact h1, h2⟩
theorem Tb.at1 {Ps : List Addr} {H : Hp} {p : Addr} {o : HO} (t : Tb Ps H) (hp : p ∉ Ps) : Tb Ps (upd H p o) := fun P hP => by
  obtain ⟨ps, h1, h2⟩ := t P hP
  exact ⟨ps, by rw [upd_ne (fun z => hp (by rw [← z]; exact hP))]; exact h1, h2⟩
theorem iteNT {c A B : Prop} [Decidable c] (hc : ¬ c) (h : A) : if (!decide c) = true then A else B := by
  rw [decide_eq_false hc]
  exact h
/-! walks of generator expressions over a list, a range -/
theorem gx_list {α : Type} {K : PySem.W.Frag} {a : Addr} {xs : List V} {g : TG} {tt : TT} {te : TE} {vs : List Nat} {σ : L2.St} {c : Cons α} {a0 : α} {Q : VK} {H1 : Hp} (Pv : Nat → α → Hp → Prop) (h0 : Pv 0 a0 H1) (hl : ∀ i z H, i ≤ xs.length → Pv i z H → SqL K H a xs)
    (hs : ∀ i x z H, xs[i]? = some x → Pv i z H → g x (wipe σ vs) H fun σ2 H2 => wipe σ2 vs = wipe σ vs ∧ tt σ2 H2 fun b H3 => if b = true then te σ2 H3 fun y H4 => c.step z y (fun z' => Pv (i + 1) z' H4) (fun u => Q u H4) else Pv (i + 1) z H3)
    (hd : ∀ z H, Pv xs.length z H → c.fin z (fun u => Q u H)) : ∃ W : Nat → Nat → α → Hp → Prop, (∃ m, W 0 m a0 H1) ∧ Runs1 (Itl K a) g tt te vs σ c Q W := by
  refine ⟨fun i m z H => m = xs.length - i ∧ i ≤ xs.length ∧ Pv i z H, ⟨xs.length, by simp, Nat.zero_le _, h0⟩, ?_⟩
  rintro i m z H ⟨rfl, hi, p⟩
  have q := hl i z H hi p
  by_cases hlt : i < xs.length
  · refine .inr ⟨⟨xs, xs[i], q, by simp [hlt]⟩, Pv (i + 1), fun z' H' p' => ⟨xs.length - (i + 1), by omega, rfl, hlt, p'⟩, fun x H' y => ?_⟩
    obtain ⟨e, y⟩ := y
    subst e
    exact hs i x z _ (y xs q) p
  · have e : i = xs.length := by omega
    subst e
    exact .inl ⟨⟨xs, q, Nat.le_refl _⟩, hd z H p⟩
theorem gx_range {α : Type} {lo : Int} {n : Nat} {g : TG} {tt : TT} {te : TE} {vs : List Nat} {σ : L2.St} {c : Cons α} {a0 : α} {Q : VK} {H1 : Hp} (Pv : Nat → α → Hp → Prop) (h0 : Pv 0 a0 H1)
    (hs : ∀ i z H, i < n → Pv i z H → g (.int (lo + i)) (wipe σ vs) H fun σ2 H2 => wipe σ2 vs = wipe σ vs ∧ tt σ2 H2 fun b H3 => if b = true then te σ2 H3 fun y H4 => c.step z y (fun z' => Pv (i + 1) z' H4) (fun u => Q u H4) else Pv (i + 1) z H3)
    (hd : ∀ z H, Pv n z H → c.fin z (fun u => Q u H)) : ∃ W : Nat → Nat → α → Hp → Prop, (∃ m, W 0 m a0 H1) ∧ Runs1 (Itr lo n) g tt te vs σ c Q W := by
  refine ⟨fun i m z H => m = n - i ∧ i ≤ n ∧ Pv i z H, ⟨n, by simp, Nat.zero_le _, h0⟩, ?_⟩
  rintro i m z H ⟨rfl, hi, p⟩
  by_cases hlt : i < n
  · refine .inr ⟨hlt, Pv (i + 1), fun z' H' p' => ⟨n - (i + 1), by omega, rfl, hlt, p'⟩, fun x H' y => ?_⟩
    obtain ⟨e, y⟩ := y
    subst e y
    exact hs i z _ hlt p
  · have e : i = n := by omega
    subst e
    exact .inl ⟨Nat.le_refl _, hd z H p⟩
/-! ### rows: tuples of whole numbers, lists of them -/
def rwD (r : List Int) : PyData := .tuple (r.map PyData.int)
def Rw (H : Hp) (v : V) (r : List Int) : Prop := ∃ t, v = .ref t ∧ H t = some (.tup (r.map V.int))
inductive Rws (H : Hp) : List V → List (List Int) → Prop where
  | nil : Rws H [] []
  | cons {v : V} {s : List Int} {vs : List V} {ss : List (List Int)} : Rw H v s → Rws H vs ss → Rws H (v :: vs) (s :: ss)
theorem Kp.rw {L : List Addr} {H H' : Hp} (e : Kp L H H') (l : Lsts L H) {v : V} {s : List Int} (h : Rw H v s) : Rw H' v s := by
  obtain ⟨t, rfl, ht⟩ := h
  exact ⟨t, rfl, e.tup (fun q => l t q _ ht) ht⟩
theorem Kp.rws {L : List Addr} {H H' : Hp} (e : Kp L H H') (l : Lsts L H) : ∀ {vs : List V} {ss : List (List Int)}, Rws H vs ss → Rws H' vs ss
  | _, _, .nil => .nil
  | _, _, .cons h t => .cons (e.rw l h) (Kp.rws e l t)
theorem Rws.same {H H' : Hp} {vs : List V} {ss : List (List Int)} (h : Rws H vs ss) (e : Same H H') : Rws H' vs ss := (Kp.of (L := []) e).rws (lsts0 H) h
theorem Rws.len {H : Hp} : ∀ {vs : List V} {ss : List (List Int)}, Rws H vs ss → vs.length = ss.length
  | _, _, .nil => rfl
  | _, _, .cons _ t => congrArg (· + 1) t.len
theorem Rws.app {H : Hp} : ∀ {vs ws : List V} {ss ts : List (List Int)}, Rws H vs ss → Rws H ws ts → Rws H (vs ++ ws) (ss ++ ts)
  | _, _, _, _, .nil, h => h
  | _, _, _, _, .cons a t, h => .cons a (Rws.app t h)
theorem Rws.one {H : Hp} {v : V} {s : List Int} (h : Rw H v s) : Rws H [v] [s] := .cons h .nil
theorem Rws.get {H : Hp} : ∀ {vs : List V} {ss : List (List Int)} {i : Nat} {v : V}, Rws H vs ss → vs[i]? = some v → ∃ s, ss[i]? = some s ∧ Rw H v s
  | _, _, _, _, .nil, e => by simp at e
  | _, _, 0, v, .cons (s := s) h t, e => ⟨s, rfl, by
      have q := Option.some.inj (show some _ = some v from e)
      rw [← q]
      exact h⟩
  | _, _, i + 1, v, .cons h t, e => Rws.get (i := i) t e
theorem Rws.get' {H : Hp} : ∀ {vs : List V} {ss : List (List Int)} {i : Nat} {s : List Int}, Rws H vs ss → ss[i]? = some s → ∃ v, vs[i]? = some v ∧ Rw H v s
  | _, _, _, _, .nil, e => by simp at e
  | _, _, 0, s, .cons (v := v) h t, e => ⟨v, rfl, by
      have q := Option.some.inj (show some _ = some s from e)
      rw [← q]
      exact h⟩
  | _, _, i + 1, v, .cons h t, e => Rws.get' (i := i) t e
theorem Rw.dp {K : PySem.W.Frag} {H : Hp} {v : V} {s : List Int} (h : Rw H v s) : Dp K H v (rwD s) := by
  obtain ⟨t, rfl, ht⟩ := h
  exact .tup (SqT.of ht) (dpAll_ints s)
theorem Rws.dpAll {K : PySem.W.Frag} {H : Hp} : ∀ {vs : List V} {ss : List (List Int)}, Rws H vs ss → DpAll K H vs (ss.map rwD)
  | _, _, .nil => .nil
  | _, _, .cons h t => .cons h.dp t.dpAll
theorem Rws.dp {K : PySem.W.Frag} {H : Hp} {a : Addr} {vs : List V} {ss : List (List Int)} (h : Rws H vs ss) (q : SqL K H a vs) : Dp K H (.ref a) (.list (ss.map rwD)) := .lst q h.dpAll
theorem lay_row (r : List Int) : PyData.canLay0 (rwD r) = true ∧ PyData.depth (rwD r) = 1 := by
  obtain ⟨h1, h2⟩ := lay_ints r
  refine ⟨h1, ?_⟩
  show PyData.depthAll (r.map PyData.int) + 1 = 1
  rw [h2]
theorem lay_rows : ∀ ss : List (List Int), PyData.canLayAll0 (ss.map rwD) = true ∧ PyData.depthAll (ss.map rwD) ≤ 1
  | [] => ⟨rfl, by decide⟩
  | s :: r => by
    obtain ⟨h1, h2⟩ := lay_rows r
    obtain ⟨h3, h4⟩ := lay_row s
    refine ⟨?_, ?_⟩
    · show (PyData.canLay0 (rwD s) && PyData.canLayAll0 (r.map rwD)) = true
      rw [h1, h3]
      rfl
    · show max (PyData.depth (rwD s)) (PyData.depthAll (r.map rwD)) ≤ 1
      rw [h4]
      omega
theorem shaped_rows (ss : List (List Int)) : SeqAt.shaped (.list (ss.map rwD)) = true := by
  obtain ⟨h1, h2⟩ := lay_rows ss
  show (PyData.canLayAll0 (ss.map rwD) && decide (PyData.depthAll (ss.map rwD) + 1 ≤ 64)) = true
  rw [h1, decide_eq_true (by omega)]
  rfl
theorem shaped_row (r : List Int) : SeqAt.shaped (rwD r) = true := by
  obtain ⟨h1, h2⟩ := lay_ints r
  show (PyData.canLayAll0 (r.map PyData.int) && decide (PyData.depthAll (r.map PyData.int) + 1 ≤ 64)) = true
  rw [h1, h2]
  rfl
theorem eqvAll_nums : ∀ ss ts : List Int, PyData.eqvAll (ss.map PyData.int) (ts.map PyData.int) = decide (ss = ts)
  | [], [] => rfl
  | [], _ :: _ => rfl
  | _ :: _, [] => rfl
  | s :: ss, t :: ts => by
    show (PyData.eqv (.int s) (.int t) && PyData.eqvAll (ss.map PyData.int) (ts.map PyData.int)) = _
    rw [eqvAll_nums ss ts]
    have e : PyData.eqv (.int s) (.int t) = decide (s = t) := by simp [PyData.eqv, Bool.beq_eq_decide_eq]
    rw [e]
    by_cases h : s = t <;> by_cases h2 : ss = ts <;> simp [h, h2]
theorem eqv_row (s t : List Int) : PyData.eqv (rwD s) (rwD t) = decide (s = t) := eqvAll_nums s t
theorem eqvAll_rows : ∀ ss ts : List (List Int), PyData.eqvAll (ss.map rwD) (ts.map rwD) = decide (ss = ts)
  | [], [] => rfl
  | [], _ :: _ => rfl
  | _ :: _, [] => rfl
  | s :: ss, t :: ts => by
    show (PyData.eqv (rwD s) (rwD t) && PyData.eqvAll (ss.map rwD) (ts.map rwD)) = _
    rw [eqv_row, eqvAll_rows ss ts]
    by_cases h : s = t <;> by_cases h2 : ss = ts <;> simp [h, h2]
theorem eqv_rows (ss ts : List (List Int)) : PyData.eqv (.list (ss.map rwD)) (.list (ts.map rwD)) = decide (ss = ts) := eqvAll_rows ss ts
theorem eqv_rows_nil (ss : List (List Int)) : PyData.eqv (.list (ss.map rwD)) (.list []) = decide (ss = []) := eqvAll_rows ss []
theorem eqv_nums (ss ts : List Int) : PyData.eqv (.list (ss.map PyData.int)) (.list (ts.map PyData.int)) = decide (ss = ts) := eqvAll_nums ss ts
/-! ### lists of spans as they stand -/
def Lq (H : Hp) (l : Addr) (ss : List Span) : Prop := ∃ us, H l = some (.lst us) ∧ Sps H us ss
theorem Kp.lq {L : List Addr} {H H' : Hp} (e : Kp L H H') {l : Addr} (n : l ∉ L) (hL : Lsts L H) {ss : List Span} (h : Lq H l ss) : Lq H' l ss := by
  obtain ⟨us, h1, h2⟩ := h
  exact ⟨us, e.lst n h1, e.sps hL h2⟩
theorem Lq.same {H H' : Hp} {l : Addr} {ss : List Span} (h : Lq H l ss) (e : Same H H') : Lq H' l ss := (Kp.of (L := []) e).lq List.not_mem_nil (lsts0 H) h
theorem Lq.dp {K : PySem.W.Frag} {H : Hp} {l : Addr} {ss : List Span} (h : Lq H l ss) : Dp K H (.ref l) (.list (ss.map spD)) := by
  obtain ⟨us, h1, h2⟩ := h
  exact h2.dp (SqL.of h1)
theorem cut_take {xs : List V} {z : Int} {k : Nat} (e : z = (k : Int)) : cutV xs none (some z) = xs.take k := by
  subst e
  unfold cutV
  rw [HT.sIx_none, HT.sIx_nat, List.drop_zero, Nat.sub_zero]
  by_cases h : k ≤ xs.length
  · rw [Nat.min_eq_left h]
  · rw [Nat.min_eq_right (by omega), List.take_length, List.take_of_length_le (by omega)]
theorem cut_drop {xs : List V} {z : Int} {k : Nat} (e : z = (k : Int)) (h : k ≤ xs.length) : cutV xs (some z) none = xs.drop k := by
  subst e
  unfold cutV
  rw [HT.sIx_none, HT.sIx_nat, Nat.min_eq_left h]
  exact List.take_of_length_le (by rw [List.length_drop]; exact Nat.le_refl _)
theorem Sps.takeN {H : Hp} : ∀ {vs : List V} {ss : List Span} (n : Nat), Sps H vs ss → Sps H (vs.take n) (ss.take n)
  | _, _, 0, _ => by
    rw [List.take_zero, List.take_zero]
    exact .nil
  | _, _, _ + 1, .nil => .nil
  | _, _, n + 1, .cons h t => .cons h (Sps.takeN n t)
theorem Sps.dropN {H : Hp} : ∀ {vs : List V} {ss : List Span} (n : Nat), Sps H vs ss → Sps H (vs.drop n) (ss.drop n)
  | _, _, 0, h => h
  | _, _, _ + 1, .nil => .nil
  | _, _, n + 1, .cons _ t => Sps.dropN n t
theorem Sps.rev {H : Hp} {vs : List V} {ts : List Span} (h : Sps H vs ts) : Sps H vs.reverse ts.reverse := by
  induction h with
  | nil => exact .nil
  | cons a b ih =>
    rw [List.reverse_cons, List.reverse_cons]
    exact ih.app (.one a)
theorem nodup_len : ∀ {l m : List Int}, l.Nodup → (∀ x ∈ l, x ∈ m) → l.length ≤ m.length
  | [], _, _, _ => Nat.zero_le _
  | a :: l, m, h, sub => by
    have ha := sub a List.mem_cons_self
    have h1 := List.nodup_cons.mp h
    have ih := nodup_len (l := l) (m := m.erase a) h1.2 fun x hx => by
      have ne : x ≠ a := fun z => h1.1 (by rw [← z]; exact hx)
      exact (List.mem_erase_of_ne ne).mpr (sub x (List.mem_cons_of_mem _ hx))
    rw [List.length_erase_of_mem ha] at ih
    have hp := List.length_pos_of_mem ha
    show l.length + 1 ≤ m.length
    omega
def topS (i : Nat) : Stmt := PySem.Challenge.pw_spanshelf_k12_whole_depths_add_up.main.body.getD i (.Pass ⟨0, 0, 0, 0⟩)
abbrev s_is_whole : Stmt := topS 8
abbrev N_is_whole : List Str := ["number"]
theorem sc_is_whole : FnScope N_is_whole ["number"] (defScope s_is_whole) := ⟨rfl, rfl, rfl, by decide +kernel, rfl, by decide +kernel, by decide +kernel⟩
abbrev s_is_place : Stmt := topS 9
abbrev N_is_place : List Str := ["number"]
theorem sc_is_place : FnScope N_is_place ["number"] (defScope s_is_place) := ⟨rfl, rfl, rfl, by decide +kernel, rfl, by decide +kernel, by decide +kernel⟩
abbrev s_is_span : Stmt := topS 10
abbrev N_is_span : List Str := ["span", "low", "high"]
theorem sc_is_span : FnScope N_is_span ["span"] (defScope s_is_span) := ⟨rfl, rfl, rfl, by decide +kernel, rfl, by decide +kernel, by decide +kernel⟩
abbrev s_check_span : Stmt := topS 11
abbrev N_check_span : List Str := ["span"]
theorem sc_check_span : FnScope N_check_span ["span"] (defScope s_check_span) := ⟨rfl, rfl, rfl, by decide +kernel, rfl, by decide +kernel, by decide +kernel⟩
abbrev s_check_spans : Stmt := topS 12
abbrev N_check_spans : List Str := ["spans", "span"]
theorem sc_check_spans : FnScope N_check_spans ["spans"] (defScope s_check_spans) := ⟨rfl, rfl, rfl, by decide +kernel, rfl, by decide +kernel, by decide +kernel⟩
abbrev s_check_place : Stmt := topS 13
abbrev N_check_place : List Str := ["place"]
theorem sc_check_place : FnScope N_check_place ["place"] (defScope s_check_place) := ⟨rfl, rfl, rfl, by decide +kernel, rfl, by decide +kernel, by decide +kernel⟩
abbrev s_count_at : Stmt := topS 15
abbrev N_count_at : List Str := ["spans", "place", "low", "high"]
theorem sc_count_at : FnScope N_count_at ["spans", "place"] (defScope s_count_at) := ⟨rfl, rfl, rfl, by decide +kernel, rfl, by decide +kernel, by decide +kernel⟩
abbrev s_changes_of : Stmt := topS 16
abbrev N_changes_of : List Str := ["spans", "changes", "low", "high", "place"]
theorem sc_changes_of : FnScope N_changes_of ["spans"] (defScope s_changes_of) := ⟨rfl, rfl, rfl, by decide +kernel, rfl, by decide +kernel, by decide +kernel⟩
abbrev s_layers_of : Stmt := topS 17
abbrev N_layers_of : List Str := ["spans", "layers", "depth", "begin", "place", "change"]
theorem sc_layers_of : FnScope N_layers_of ["spans"] (defScope s_layers_of) := ⟨rfl, rfl, rfl, by decide +kernel, rfl, by decide +kernel, by decide +kernel⟩
abbrev s_deepest_layer : Stmt := topS 18
abbrev N_deepest_layer : List Str := ["spans", "best", "low", "high", "depth"]
theorem sc_deepest_layer : FnScope N_deepest_layer ["spans"] (defScope s_deepest_layer) := ⟨rfl, rfl, rfl, by decide +kernel, rfl, by decide +kernel, by decide +kernel⟩
abbrev s_depth_at : Stmt := topS 19
abbrev N_depth_at : List Str := ["spans", "place"]
theorem sc_depth_at : FnScope N_depth_at ["spans", "place"] (defScope s_depth_at) := ⟨rfl, rfl, rfl, by decide +kernel, rfl, by decide +kernel, by decide +kernel⟩
abbrev s_profile : Stmt := topS 20
abbrev N_profile : List Str := ["spans"]
theorem sc_profile : FnScope N_profile ["spans"] (defScope s_profile) := ⟨rfl, rfl, rfl, by decide +kernel, rfl, by decide +kernel, by decide +kernel⟩
abbrev s_deepest : Stmt := topS 21
abbrev N_deepest : List Str := ["spans"]
theorem sc_deepest : FnScope N_deepest ["spans"] (defScope s_deepest) := ⟨rfl, rfl, rfl, by decide +kernel, rfl, by decide +kernel, by decide +kernel⟩
abbrev s_is_cover : Stmt := topS 24
abbrev N_is_cover : List Str := ["spans", "ahead", "behind"]
theorem sc_is_cover : FnScope N_is_cover ["spans"] (defScope s_is_cover) := ⟨rfl, rfl, rfl, by decide +kernel, rfl, by decide +kernel, by decide +kernel⟩
abbrev s_check_cover : Stmt := topS 25
abbrev N_check_cover : List Str := ["cover"]
theorem sc_check_cover : FnScope N_check_cover ["cover"] (defScope s_check_cover) := ⟨rfl, rfl, rfl, by decide +kernel, rfl, by decide +kernel, by decide +kernel⟩
abbrev s_check_covers : Stmt := topS 26
abbrev N_check_covers : List Str := ["one", "other"]
theorem sc_check_covers : FnScope N_check_covers ["one", "other"] (defScope s_check_covers) := ⟨rfl, rfl, rfl, by decide +kernel, rfl, by decide +kernel, by decide +kernel⟩
abbrev s_joined : Stmt := topS 27
abbrev N_joined : List Str := ["spans", "cover", "low", "high", "begin", "end"]
theorem sc_joined : FnScope N_joined ["spans"] (defScope s_joined) := ⟨rfl, rfl, rfl, by decide +kernel, rfl, by decide +kernel, by decide +kernel⟩
abbrev s_common : Stmt := topS 28
abbrev N_common : List Str := ["one", "other", "found", "first", "second", "low", "high"]
theorem sc_common : FnScope N_common ["one", "other"] (defScope s_common) := ⟨rfl, rfl, rfl, by decide +kernel, rfl, by decide +kernel, by decide +kernel⟩
abbrev s_cover_of : Stmt := topS 29
abbrev N_cover_of : List Str := ["spans"]
theorem sc_cover_of : FnScope N_cover_of ["spans"] (defScope s_cover_of) := ⟨rfl, rfl, rfl, by decide +kernel, rfl, by decide +kernel, by decide +kernel⟩
abbrev s_both : Stmt := topS 30
abbrev N_both : List Str := ["one", "other"]
theorem sc_both : FnScope N_both ["one", "other"] (defScope s_both) := ⟨rfl, rfl, rfl, by decide +kernel, rfl, by decide +kernel, by decide +kernel⟩
abbrev s_either : Stmt := topS 31
abbrev N_either : List Str := ["one", "other"]
theorem sc_either : FnScope N_either ["one", "other"] (defScope s_either) := ⟨rfl, rfl, rfl, by decide +kernel, rfl, by decide +kernel, by decide +kernel⟩
abbrev s_l_at : Stmt := topS 33
abbrev N_l_at : List Str := ["_law_script", "_law_k"]
theorem sc_l_at : FnScope N_l_at ["_law_script", "_law_k"] (defScope s_l_at) := ⟨rfl, rfl, rfl, by decide +kernel, rfl, by decide +kernel, by decide +kernel⟩
abbrev s_l_mixed : Stmt := topS 34
abbrev N_l_mixed : List Str := ["_law_cell", "_law_k", "_law_number_here"]
theorem sc_l_mixed : FnScope N_l_mixed ["_law_cell", "_law_k"] (defScope s_l_mixed) := ⟨rfl, rfl, rfl, by decide +kernel, rfl, by decide +kernel, by decide +kernel⟩
abbrev s_l_purse : Stmt := topS 35
abbrev N_l_purse : List Str := ["_law_script", "_law_at_here", "_law_cell"]
theorem sc_l_purse : FnScope N_l_purse ["_law_script", "_law_at_here"] (defScope s_l_purse) := ⟨rfl, rfl, rfl, by decide +kernel, rfl, by decide +kernel, by decide +kernel⟩
abbrev s_l_draw : Stmt := topS 36
abbrev N_l_draw : List Str := ["_law_purse_here", "_law_out_of", "_law_drawn", "_law_number_here", "_law_k"]
theorem sc_l_draw : FnScope N_l_draw ["_law_purse_here", "_law_out_of"] (defScope s_l_draw) := ⟨rfl, rfl, rfl, by decide +kernel, rfl, by decide +kernel, by decide +kernel⟩
abbrev s_l_number : Stmt := topS 37
abbrev N_l_number : List Str := ["_law_purse_here", "_law_most", "_law_far"]
theorem sc_l_number : FnScope N_l_number ["_law_purse_here", "_law_most"] (defScope s_l_number) := ⟨rfl, rfl, rfl, by decide +kernel, rfl, by decide +kernel, by decide +kernel⟩
abbrev s_l_end : Stmt := topS 38
abbrev N_l_end : List Str := ["_law_purse_here", "_law_ends", "_law_most", "_law_near"]
theorem sc_l_end : FnScope N_l_end ["_law_purse_here", "_law_ends", "_law_most"] (defScope s_l_end) := ⟨rfl, rfl, rfl, by decide +kernel, rfl, by decide +kernel, by decide +kernel⟩
abbrev s_l_span : Stmt := topS 39
abbrev N_l_span : List Str := ["_law_purse_here", "_law_ends", "_law_most", "_law_one", "_law_other", "_law_low", "_law_high"]
theorem sc_l_span : FnScope N_l_span ["_law_purse_here", "_law_ends", "_law_most"] (defScope s_l_span) := ⟨rfl, rfl, rfl, by decide +kernel, rfl, by decide +kernel, by decide +kernel⟩
abbrev s_l_spans : Stmt := topS 40
abbrev N_l_spans : List Str := ["_law_purse_here", "_law_ends", "_law_most", "_law_found", "_law_k"]
theorem sc_l_spans : FnScope N_l_spans ["_law_purse_here", "_law_ends", "_law_most"] (defScope s_l_spans) := ⟨rfl, rfl, rfl, by decide +kernel, rfl, by decide +kernel, by decide +kernel⟩
abbrev s_l_deep : Stmt := topS 41
abbrev N_l_deep : List Str := ["_law_spans_here", "_law_found"]
theorem sc_l_deep : FnScope N_l_deep ["_law_spans_here"] (defScope s_l_deep) := ⟨rfl, rfl, rfl, by decide +kernel, rfl, by decide +kernel, by decide +kernel⟩
abbrev s_l_twice : Stmt := topS 42
abbrev N_l_twice : List Str := ["_law_spans_here", "_law_low", "_law_high", "_law_deep_here"]
theorem sc_l_twice : FnScope N_l_twice ["_law_spans_here"] (defScope s_l_twice) := ⟨rfl, rfl, rfl, by decide +kernel, rfl, by decide +kernel, by decide +kernel⟩
abbrev s_l_one_right : Stmt := topS 43
abbrev N_l_one_right : List Str := ["_law_spans_here", "_law_found", "_law_told", "_law_before", "_law_low", "_law_high", "_law_deep_here"]
theorem sc_l_one_right : FnScope N_l_one_right ["_law_spans_here"] (defScope s_l_one_right) := ⟨rfl, rfl, rfl, by decide +kernel, rfl, by decide +kernel, by decide +kernel⟩
abbrev s_law : Stmt := topS 44
abbrev N_law : List Str := ["_law_script", "_law_purse_here", "_law_ends", "_law_one", "_law_other", "_law_end_here", "_law_deep_here", "_law_due"]
theorem sc_law : FnScope N_law ["_law_script"] (defScope s_law) := ⟨rfl, rfl, rfl, by decide +kernel, rfl, by decide +kernel, by decide +kernel⟩

structure Tx (K : PySem.W.Frag) (mg : Str → Option Value) where
  f_is_whole : Addr
  fd_is_whole : FuncData
  F_is_whole : Fun K "is_whole" "is_whole" s_is_whole f_is_whole fd_is_whole
  b_is_whole : Binds K fd_is_whole ["number"] []
  g_is_whole : mg "is_whole" = some (.ref f_is_whole)
  f_is_place : Addr
  fd_is_place : FuncData
  F_is_place : Fun K "is_place" "is_place" s_is_place f_is_place fd_is_place
  b_is_place : Binds K fd_is_place ["number"] []
  g_is_place : mg "is_place" = some (.ref f_is_place)
  f_is_span : Addr
  fd_is_span : FuncData
  F_is_span : Fun K "is_span" "is_span" s_is_span f_is_span fd_is_span
  b_is_span : Binds K fd_is_span ["span"] []
  g_is_span : mg "is_span" = some (.ref f_is_span)
  f_check_span : Addr
  fd_check_span : FuncData
  F_check_span : Fun K "check_span" "check_span" s_check_span f_check_span fd_check_span
  b_check_span : Binds K fd_check_span ["span"] []
  g_check_span : mg "check_span" = some (.ref f_check_span)
  f_check_spans : Addr
  fd_check_spans : FuncData
  F_check_spans : Fun K "check_spans" "check_spans" s_check_spans f_check_spans fd_check_spans
  b_check_spans : Binds K fd_check_spans ["spans"] []
  g_check_spans : mg "check_spans" = some (.ref f_check_spans)
  f_check_place : Addr
  fd_check_place : FuncData
  F_check_place : Fun K "check_place" "check_place" s_check_place f_check_place fd_check_place
  b_check_place : Binds K fd_check_place ["place"] []
  g_check_place : mg "check_place" = some (.ref f_check_place)
  f_count_at : Addr
  fd_count_at : FuncData
  F_count_at : Fun K "count_at" "count_at" s_count_at f_count_at fd_count_at
  b_count_at : Binds K fd_count_at ["spans", "place"] []
  g_count_at : mg "count_at" = some (.ref f_count_at)
  cA_count_at : Addr
  pA_count_at : Addr
  FC_count_at : FunC K "count_at" "count_at" s_count_at f_count_at fd_count_at cA_count_at
  f_changes_of : Addr
  fd_changes_of : FuncData
  F_changes_of : Fun K "changes_of" "changes_of" s_changes_of f_changes_of fd_changes_of
  b_changes_of : Binds K fd_changes_of ["spans"] []
  g_changes_of : mg "changes_of" = some (.ref f_changes_of)
  f_layers_of : Addr
  fd_layers_of : FuncData
  F_layers_of : Fun K "layers_of" "layers_of" s_layers_of f_layers_of fd_layers_of
  b_layers_of : Binds K fd_layers_of ["spans"] []
  g_layers_of : mg "layers_of" = some (.ref f_layers_of)
  f_deepest_layer : Addr
  fd_deepest_layer : FuncData
  F_deepest_layer : Fun K "deepest_layer" "deepest_layer" s_deepest_layer f_deepest_layer fd_deepest_layer
  b_deepest_layer : Binds K fd_deepest_layer ["spans"] []
  g_deepest_layer : mg "deepest_layer" = some (.ref f_deepest_layer)
  f_depth_at : Addr
  fd_depth_at : FuncData
  F_depth_at : Fun K "depth_at" "depth_at" s_depth_at f_depth_at fd_depth_at
  b_depth_at : Binds K fd_depth_at ["spans", "place"] []
  g_depth_at : mg "depth_at" = some (.ref f_depth_at)
  f_profile : Addr
  fd_profile : FuncData
  F_profile : Fun K "profile" "profile" s_profile f_profile fd_profile
  b_profile : Binds K fd_profile ["spans"] []
  g_profile : mg "profile" = some (.ref f_profile)
  f_deepest : Addr
  fd_deepest : FuncData
  F_deepest : Fun K "deepest" "deepest" s_deepest f_deepest fd_deepest
  b_deepest : Binds K fd_deepest ["spans"] []
  g_deepest : mg "deepest" = some (.ref f_deepest)
  f_is_cover : Addr
  fd_is_cover : FuncData
  F_is_cover : Fun K "is_cover" "is_cover" s_is_cover f_is_cover fd_is_cover
  b_is_cover : Binds K fd_is_cover ["spans"] []
  g_is_cover : mg "is_cover" = some (.ref f_is_cover)
  cA_is_cover : Addr
  pA_is_cover : Addr
  FC_is_cover : FunC K "is_cover" "is_cover" s_is_cover f_is_cover fd_is_cover cA_is_cover
  f_check_cover : Addr
  fd_check_cover : FuncData
  F_check_cover : Fun K "check_cover" "check_cover" s_check_cover f_check_cover fd_check_cover
  b_check_cover : Binds K fd_check_cover ["cover"] []
  g_check_cover : mg "check_cover" = some (.ref f_check_cover)
  f_check_covers : Addr
  fd_check_covers : FuncData
  F_check_covers : Fun K "check_covers" "check_covers" s_check_covers f_check_covers fd_check_covers
  b_check_covers : Binds K fd_check_covers ["one", "other"] []
  g_check_covers : mg "check_covers" = some (.ref f_check_covers)
  f_joined : Addr
  fd_joined : FuncData
  F_joined : Fun K "joined" "joined" s_joined f_joined fd_joined
  b_joined : Binds K fd_joined ["spans"] []
  g_joined : mg "joined" = some (.ref f_joined)
  f_common : Addr
  fd_common : FuncData
  F_common : Fun K "common" "common" s_common f_common fd_common
  b_common : Binds K fd_common ["one", "other"] []
  g_common : mg "common" = some (.ref f_common)
  f_cover_of : Addr
  fd_cover_of : FuncData
  F_cover_of : Fun K "cover_of" "cover_of" s_cover_of f_cover_of fd_cover_of
  b_cover_of : Binds K fd_cover_of ["spans"] []
  g_cover_of : mg "cover_of" = some (.ref f_cover_of)
  f_both : Addr
  fd_both : FuncData
  F_both : Fun K "both" "both" s_both f_both fd_both
  b_both : Binds K fd_both ["one", "other"] []
  g_both : mg "both" = some (.ref f_both)
  f_either : Addr
  fd_either : FuncData
  F_either : Fun K "either" "either" s_either f_either fd_either
  b_either : Binds K fd_either ["one", "other"] []
  g_either : mg "either" = some (.ref f_either)
  f_l_at : Addr
  fd_l_at : FuncData
  F_l_at : Fun K "_law_at" "_law_at" s_l_at f_l_at fd_l_at
  b_l_at : Binds K fd_l_at ["_law_script", "_law_k"] []
  g_l_at : mg "_law_at" = some (.ref f_l_at)
  f_l_mixed : Addr
  fd_l_mixed : FuncData
  F_l_mixed : Fun K "_law_mixed" "_law_mixed" s_l_mixed f_l_mixed fd_l_mixed
  b_l_mixed : Binds K fd_l_mixed ["_law_cell", "_law_k"] []
  g_l_mixed : mg "_law_mixed" = some (.ref f_l_mixed)
  f_l_purse : Addr
  fd_l_purse : FuncData
  F_l_purse : Fun K "_law_purse" "_law_purse" s_l_purse f_l_purse fd_l_purse
  b_l_purse : Binds K fd_l_purse ["_law_script", "_law_at_here"] []
  g_l_purse : mg "_law_purse" = some (.ref f_l_purse)
  f_l_draw : Addr
  fd_l_draw : FuncData
  F_l_draw : Fun K "_law_draw" "_law_draw" s_l_draw f_l_draw fd_l_draw
  b_l_draw : Binds K fd_l_draw ["_law_purse_here", "_law_out_of"] []
  g_l_draw : mg "_law_draw" = some (.ref f_l_draw)
  f_l_number : Addr
  fd_l_number : FuncData
  F_l_number : Fun K "_law_number" "_law_number" s_l_number f_l_number fd_l_number
  b_l_number : Binds K fd_l_number ["_law_purse_here", "_law_most"] []
  g_l_number : mg "_law_number" = some (.ref f_l_number)
  f_l_end : Addr
  fd_l_end : FuncData
  F_l_end : Fun K "_law_end" "_law_end" s_l_end f_l_end fd_l_end
  b_l_end : Binds K fd_l_end ["_law_purse_here", "_law_ends", "_law_most"] []
  g_l_end : mg "_law_end" = some (.ref f_l_end)
  f_l_span : Addr
  fd_l_span : FuncData
  F_l_span : Fun K "_law_span" "_law_span" s_l_span f_l_span fd_l_span
  b_l_span : Binds K fd_l_span ["_law_purse_here", "_law_ends", "_law_most"] []
  g_l_span : mg "_law_span" = some (.ref f_l_span)
  f_l_spans : Addr
  fd_l_spans : FuncData
  F_l_spans : Fun K "_law_spans" "_law_spans" s_l_spans f_l_spans fd_l_spans
  b_l_spans : Binds K fd_l_spans ["_law_purse_here", "_law_ends", "_law_most"] []
  g_l_spans : mg "_law_spans" = some (.ref f_l_spans)
  f_l_deep : Addr
  fd_l_deep : FuncData
  F_l_deep : Fun K "_law_deep" "_law_deep" s_l_deep f_l_deep fd_l_deep
  b_l_deep : Binds K fd_l_deep ["_law_spans_here"] []
  g_l_deep : mg "_law_deep" = some (.ref f_l_deep)
  f_l_twice : Addr
  fd_l_twice : FuncData
  F_l_twice : Fun K "_law_twice" "_law_twice" s_l_twice f_l_twice fd_l_twice
  b_l_twice : Binds K fd_l_twice ["_law_spans_here"] []
  g_l_twice : mg "_law_twice" = some (.ref f_l_twice)
  f_l_one_right : Addr
  fd_l_one_right : FuncData
  F_l_one_right : Fun K "_law_one_right" "_law_one_right" s_l_one_right f_l_one_right fd_l_one_right
  b_l_one_right : Binds K fd_l_one_right ["_law_spans_here"] []
  g_l_one_right : mg "_law_one_right" = some (.ref f_l_one_right)
  f_law : Addr
  fd_law : FuncData
  F_law : Fun K "law" "law" s_law f_law fd_law
  b_law : Binds K fd_law ["_law_script"] []
  g_law : mg "law" = some (.ref f_law)
  tc_LEAST_PLACE : Tok
  c_LEAST_PLACE : mg "LEAST_PLACE" = some (.int (-999999999999) tc_LEAST_PLACE)
  tc_GREATEST_PLACE : Tok
  c_GREATEST_PLACE : mg "GREATEST_PLACE" = some (.int (999999999999) tc_GREATEST_PLACE)
  tc_MOST_SPANS : Tok
  c_MOST_SPANS : mg "MOST_SPANS" = some (.int (200) tc_MOST_SPANS)
  C_ShelfError : Addr
  g_ShelfError : mg "ShelfError" = some (.ref C_ShelfError)
  x_ShelfError : PySem.W.excIn K C_ShelfError [.type "ValueError", .type "Exception", .type "BaseException", .type "object"] "ValueError.__new__" = true
  k_ShelfError : PySem.W.keepIn K (.ref C_ShelfError) = true
  b_ShelfError : PySem.W.subIn K (.ref C_ShelfError) (.type "BaseException") = some true
  t_ShelfError : PySem.W.typeIn K (.ref C_ShelfError) = some (.type "type")
  C_NoSpan : Addr
  g_NoSpan : mg "NoSpan" = some (.ref C_NoSpan)
  x_NoSpan : PySem.W.excIn K C_NoSpan [.type "ValueError", .type "Exception", .type "BaseException", .type "object"] "ValueError.__new__" = true
  k_NoSpan : PySem.W.keepIn K (.ref C_NoSpan) = true
  b_NoSpan : PySem.W.subIn K (.ref C_NoSpan) (.type "BaseException") = some true
  t_NoSpan : PySem.W.typeIn K (.ref C_NoSpan) = some (.type "type")
  C_NoPlace : Addr
  g_NoPlace : mg "NoPlace" = some (.ref C_NoPlace)
  x_NoPlace : PySem.W.excIn K C_NoPlace [.type "ValueError", .type "Exception", .type "BaseException", .type "object"] "ValueError.__new__" = true
  k_NoPlace : PySem.W.keepIn K (.ref C_NoPlace) = true
  b_NoPlace : PySem.W.subIn K (.ref C_NoPlace) (.type "BaseException") = some true
  t_NoPlace : PySem.W.typeIn K (.ref C_NoPlace) = some (.type "type")
  C_NoCover : Addr
  g_NoCover : mg "NoCover" = some (.ref C_NoCover)
  x_NoCover : PySem.W.excIn K C_NoCover [.type "ValueError", .type "Exception", .type "BaseException", .type "object"] "ValueError.__new__" = true
  k_NoCover : PySem.W.keepIn K (.ref C_NoCover) = true
  b_NoCover : PySem.W.subIn K (.ref C_NoCover) (.type "BaseException") = some true
  t_NoCover : PySem.W.typeIn K (.ref C_NoCover) = some (.type "type")
  m_all : mg "all" = none
  m_bool : mg "bool" = none
  m_int : mg "int" = none
  m_isinstance : mg "isinstance" = none
  m_len : mg "len" = none
  m_max : mg "max" = none
  m_min : mg "min" = none
  m_range : mg "range" = none
  m_sorted : mg "sorted" = none
  m_sum : mg "sum" = none
  m_tuple : mg "tuple" = none
  m_zip : mg "zip" = none
structure Tbs {K : PySem.W.Frag} {mg : Str → Option Value} (T : Tx K mg) (base : Heap) : Prop where
  t_count_at : GxR.TabB base mg T.cA_count_at T.pA_count_at
  t_is_cover : GxR.TabB base mg T.cA_is_cover T.pA_is_cover
def Tx.tabs {K : PySem.W.Frag} {mg : Str → Option Value} (T : Tx K mg) : List Addr := [T.pA_count_at, T.pA_is_cover]
section
variable {P : Program} {w : World} {K : PySem.W.Frag} {mg : Str → Option Value} {base : Heap}
/-! ### the cell, the mixing, the purse, a draw -/
def spAt (K : PySem.W.Frag) : Sp := fun vs H Q _ => ∃ (a : Addr) (ns : List Int) (k : Int), vs = [.ref a, .int k] ∧ SqL K H a (ns.map V.int) ∧ 0 ≤ k ∧ ∀ z, Q (.int z) H
theorem ok_at (T : Tx K mg) : FnOk P w K mg base CX0 (1) T.f_l_at T.fd_l_at ["_law_script", "_law_k"] (spAt K) := by
  refine T.F_l_at.ok sc_l_at (fun vs H Q E h => ?_) (fun cdv A outer s H vs Q E hr h => ?_)
  · obtain ⟨a, ns, k, rfl, _⟩ := h
    rfl
  · obtain ⟨a, ns, k, rfl, hS, h0, q⟩ := h
    refine ⟨_, (pss_cons (ps_if (pt_cmpR op_lt (pv 1) (pe_callB call_len_seq (by rfl) T.m_len PySem.boot_len (pa_cons (pv 0) pa_nil)) (nomark _)) (pss_one (ps_ret (pe_ix ix_list (pv 0) (pv 1) (fun _ _ => rfl)))) pss_nil)
      (pss_one (ps_ret pe_int))), ?_⟩
    refine ⟨_, rfl, _, rfl, a, _, rfl, .inl hS, _, _, rfl, rfl, _, rfl, ite2 (fun e => ?_) (fun e => ?_)⟩
    · have e0 : k < ((ns.map V.int).length : Int) := of_decide_eq_true e
      rw [List.length_map] at e0
      have h1 : k.toNat < ns.length := by omega
      refine ⟨_, rfl, _, rfl, a, _, k, .int ns[k.toNat], rfl, rfl, hS, at_of (j := k.toNat) (by omega) ?_, q _⟩
      rw [List.getElem?_map, List.getElem?_eq_getElem h1]
      rfl
    · exact q 0
def spMixed : Sp := fun vs H Q _ => ∃ (a k : Int), vs = [.int a, .int k] ∧ 0 ≤ k ∧ k < 2 ^ 60 ∧ 0 ≤ a ∧ a < 2 ^ 60 ∧ ∀ z : Int, 0 ≤ z → z < 2147483587 → Q (.int z) H
theorem ok_mixed (T : Tx K mg) : FnOk P w K mg base CX0 (1) T.f_l_mixed T.fd_l_mixed ["_law_cell", "_law_k"] spMixed := by
  refine T.F_l_mixed.ok sc_l_mixed (fun vs H Q E h => ?_) (fun cdv A outer s H vs Q E hr h => ?_)
  · obtain ⟨a, k, rfl, _⟩ := h
    rfl
  · obtain ⟨a, k, rfl, h0, h1, h2, h3, q⟩ := h
    refine ⟨_, (pss_cons (ps_set (i := 2) sc_l_mixed.nd rfl (Or.inl rfl) (pe_op op_mod (pe_op op_add (pe_op op_add (pe_op op_add (pe_op op_mul (pv 0) pe_int) (pe_op op_mul (pe_op op_mul pe_int (pv 1)) (pv 1))) (pv 1)) pe_int) pe_int))
      (pss_cons (ps_set (i := 2) sc_l_mixed.nd rfl (Or.inl rfl) (pe_op op_mod (pe_op op_add (pe_op op_mul (pv 2) (pv 2)) pe_int) pe_int))
      (pss_one (ps_ret (pe_op op_mod (pe_op op_mul (pv 2) pe_int) pe_int))))), ?_⟩
    refine ⟨_, rfl, _, _, rfl, rfl, .inr ⟨by decide, by decide⟩, _, rfl, _, _, rfl, rfl, .inl ⟨by decide, by decide⟩, _, rfl, _, _, rfl, rfl, .inr ⟨by omega, by omega⟩, _, _, rfl, rfl, _, rfl, _, _, rfl, rfl, _, _, rfl, rfl, _, _, rfl, rfl, by show (0 : Int) < 2147483647; decide, ?_⟩
    generalize hx : (a * 1103515245 + 7919 * k * k + k + 1) % 2147483647 = x
    have x0 : 0 ≤ x := by omega
    have x1 : x < 2147483647 := by omega
    clear hx
    refine ⟨_, rfl, _, rfl, _, _, rfl, rfl, .inl ⟨by omega, by omega⟩, _, _, rfl, rfl, _, _, rfl, rfl, by show (0 : Int) < 2147483629; decide, ?_⟩
    generalize hy : (x * x + 69621) % 2147483629 = y
    have y0 : 0 ≤ y := by omega
    have y1 : y < 2147483629 := by omega
    clear hy
    refine ⟨_, rfl, _, _, rfl, rfl, .inl ⟨by omega, by omega⟩, _, _, rfl, rfl, by show (0 : Int) < 2147483587; decide, ?_⟩
    exact q _ (by omega) (by omega)
def spPurse (K : PySem.W.Frag) : Sp := fun vs H Q _ => ∃ (a : Addr) (ns : List Int) (k : Int), vs = [.ref a, .int k] ∧ SqL K H a (ns.map V.int) ∧ 0 ≤ k ∧ k ≤ 63 ∧ ∀ H' p, Same H H' → H p = none → Pu H' p 63000 → Q (.ref p) H'
theorem ok_purse (T : Tx K mg) : FnOk P w K mg base CX0 (2) T.f_l_purse T.fd_l_purse ["_law_script", "_law_at_here"] (spPurse K) := by
  have G_l_at : FnOk P w K mg base CX0 _ _ _ _ _ := ok_at T
  refine T.F_l_purse.ok sc_l_purse (fun vs H Q E h => ?_) (fun cdv A outer s H vs Q E hr h => ?_)
  · obtain ⟨a, ns, k, rfl, _⟩ := h
    rfl
  · obtain ⟨a, ns, k, rfl, hS, h0, h1, q⟩ := h
    refine ⟨_, (pss_cons (ps_set (i := 2) sc_l_purse.nd rfl (Or.inl rfl) (pe_call G_l_at (hr.mono (by decide)) (by rfl) T.g_l_at T.F_l_at.kp T.b_l_at .nil pass0 (pa_cons (pv 0) (pa_cons (pv 1) pa_nil))))
      (pss_one (ps_ret (pe_lst (pa_cons (pe_callB (call_max2 rfl) (by rfl) T.m_max (by decide +kernel) (pa_cons (pe_op op_sub (pv 2) (pe_op op_pow pe_int pe_int)) (pa_cons pe_int pa_nil))) (pa_cons (pe_op op_mod (pv 2) pe_int) (pa_cons (pe_op op_mul pe_int (pv 1)) pa_nil))))))), ?_⟩
    refine ⟨_, rfl, _, rfl, a, ns, k, rfl, hS, h0, fun z => ?_⟩
    refine ⟨_, rfl, _, _, rfl, rfl, ⟨by decide, by decide, by decide⟩, _, _, rfl, rfl, _, _, rfl, _, rfl, _, _, rfl, rfl, by show (0 : Int) < 2147483647; decide, _, rfl, _, _, rfl, rfl, .inl ⟨by decide, by decide⟩, small_le (by simp), fun p np => ?_⟩
    refine q _ p (same_upd np) np ⟨_, _, _, upd_same, ?_, by omega, by omega, by omega, by omega⟩
    split <;> omega
def spDraw : Sp := fun vs H Q _ => ∃ (p : Addr) (m : Int) (n : Nat), vs = [.ref p, .int m] ∧ Pu H p n ∧ n ≤ 1000000000 ∧ 0 < m ∧ m < 2 ^ 88 ∧ ∀ H' r, Chg [p] H H' → Pu H' p (n + 3) → 0 ≤ r → r < m → Q (.int r) H'
theorem bits_le {m : Int} (h0 : 0 < m) (h1 : m < 2 ^ 88) : (Builtin.Int.intBits m : Nat) ≤ 88 := by
  have h : m.natAbs < 2 ^ 88 := by
    have e : (2 : Int) ^ 88 = ((2 ^ 88 : Nat) : Int) := by decide
    rw [e] at h1
    omega
  exact PyProof.Rows.intBits_le h
theorem ok_draw (T : Tx K mg) : FnOk P w K mg base CX0 (2) T.f_l_draw T.fd_l_draw ["_law_purse_here", "_law_out_of"] spDraw := by
  have G_l_mixed : FnOk P w K mg base CX0 _ _ _ _ _ := ok_mixed T
  refine T.F_l_draw.ok sc_l_draw (fun vs H Q E h => ?_) (fun cdv A outer s H vs Q E hr h => ?_)
  · obtain ⟨p, m, n, rfl, _⟩ := h
    rfl
  · obtain ⟨p, m, n, rfl, hp, hn, h0, h1, q⟩ := h
    obtain ⟨a, b, c, hP, ha, hb, hb1, hc, hc1⟩ := hp
    refine ⟨_, (pss_cons (ps_if (pt_cmpR op_gt (pe_ix ix_list (pv 0) pe_int (fun _ _ => rfl)) pe_int (nomark _)) (pss_cons (ps_set (i := 2) sc_l_draw.nd rfl (Or.inl rfl) (pe_op op_mod (pe_ix ix_list (pv 0) pe_int (fun _ _ => rfl)) (pv 1)))
      (pss_cons (ps_asg (pe_op op_fdivW (pe_ix ix_list (pv 0) pe_int (fun _ _ => rfl)) (pv 1)) (pg_sub (pv 0) pe_int set_list))
      (pss_one (ps_ret (pv 2))))) pss_nil)
      (pss_cons (ps_set (i := 3) sc_l_draw.nd rfl (Or.inl rfl) pe_int)
      (pss_cons (ps_for PassesOwn.never (by rfl) (pi_range1 (by rfl) T.m_range (pa_cons (pe_op op_add pe_int (pe_op op_fdiv (pe_bits (pv 1)) pe_int)) pa_nil)) (pg_name (i := 4) sc_l_draw.nd rfl (Or.inl rfl))
        (pss_cons (ps_asg (pe_op op_add (pe_ix ix_list (pv 0) pe_int (fun _ _ => rfl)) pe_int) (pg_sub (pv 0) pe_int set_list))
      (pss_one (ps_set (i := 3) sc_l_draw.nd rfl (Or.inl rfl) (pe_op op_add (pe_op op_mul (pv 3) pe_int) (pe_call G_l_mixed (hr.mono (by decide)) (by rfl) T.g_l_mixed T.F_l_mixed.kp T.b_l_mixed .nil pass0 (pa_cons (pe_ix ix_list (pv 0) pe_int (fun _ _ => rfl)) (pa_cons (pe_ix ix_list (pv 0) pe_int (fun _ _ => rfl)) pa_nil))))))))
      (pss_one (ps_ret (pe_op op_mod (pv 3) (pv 1))))))), ?_⟩
    have hS : SqL K H p [.int a, .int b, .int c] := SqL.of hP
    refine ⟨_, rfl, p, _, _, _, rfl, rfl, hS, atI_nat (j := 0) rfl, _, _, rfl, rfl, _, rfl, ite2 (fun e => ?_) (fun e => ?_)⟩
    · have ea : 0 < a := of_decide_eq_true e
      refine ⟨_, rfl, p, _, _, _, rfl, rfl, hS, atI_nat (j := 0) rfl, _, rfl, _, _, rfl, rfl, h0, ?_⟩
      refine ⟨_, rfl, p, _, _, _, rfl, rfl, hS, atI_nat (j := 0) rfl, _, rfl, _, _, rfl, rfl, wide_div (b := 88) h0 ?_ (by decide) (by decide), ?_⟩
      · have e : (2 : Int) ^ 88 = ((2 ^ 88 : Nat) : Int) := by decide
        rw [e] at h1
        omega
      refine ⟨_, rfl, p, _, _, 0, rfl, rfl, hP, rfl, ?_⟩
      refine ⟨_, rfl, ?_⟩
      refine q _ _ (Chg.upd List.mem_cons_self) ⟨a / m, b, c, upd_same, Int.ediv_nonneg ha (by omega), hb, hb1, hc, by omega⟩ (Int.emod_nonneg _ (by omega)) (Int.emod_lt_of_pos _ h0)
    · have hb88 := bits_le h0 h1
      refine ⟨_, rfl, _, rfl, _, _, rfl, rfl, ⟨by decide, by decide⟩, _, _, rfl, rfl, _, rfl, by omega, by omega, ?_⟩
      refine for_range (lo := 0) (n := (1 + ((Builtin.Int.intBits m : Nat) : Int) / 30).toNat) (fun i σ H' => ∃ (x : Int) (c' : Int) (y4 : Option V), σ = [some (.ref p), some (.int m), none, some (.int x), y4] ∧ Chg [p] H H' ∧ H' p = some (.lst [.int a, .int b, .int c']) ∧ c' = c + i ∧ 0 ≤ x ∧ x < 2 ^ (32 * i)) ⟨0, c, none, rfl, Chg.refl _ _, hP, by omega, by omega, by decide⟩ ?_ ?_
      · rintro i σ H' hi ⟨x, c', y4, rfl, hch, hP', hc', x0, x1⟩
        have hi3 : i ≤ 2 := by omega
        refine ⟨_, rfl, p, _, _, _, rfl, rfl, SqL.of hP', atI_nat (j := 2) rfl, _, _, rfl, rfl, _, rfl, p, _, _, 2, rfl, rfl, hP', rfl, ?_⟩
        have hP2 : (upd H' p (.lst [.int a, .int b, .int (c' + 1)])) p = some (.lst [.int a, .int b, .int (c' + 1)]) := upd_same
        refine ⟨_, rfl, _, _, rfl, rfl, .inr ⟨by decide, by decide⟩, _, rfl, p, _, _, _, rfl, rfl, SqL.of hP2, atI_nat (j := 1) rfl, _, rfl, p, _, _, _, rfl, rfl, SqL.of hP2, atI_nat (j := 2) rfl, b, c' + 1, rfl, by omega, by omega, hb, by omega, fun z z0 z1 => ?_⟩
        refine ⟨_, _, rfl, rfl, x * 2147483587 + z, c' + 1, _, rfl, hch.trans (Chg.upd List.mem_cons_self), hP2, by omega, by omega, ?_⟩
        have e : (2 : Int) ^ (32 * (i + 1)) = 2 ^ (32 * i) * 4294967296 := by
          rw [Nat.mul_add, Int.pow_add]
          rfl
        rw [e]
        omega
      · rintro σ H' ⟨x, c', y4, rfl, hch, hP', hc', x0, x1⟩
        refine ⟨_, rfl, _, rfl, _, _, rfl, rfl, h0, ?_⟩
        exact q _ _ hch ⟨a, b, c', hP', ha, hb, hb1, by omega, by omega⟩ (Int.emod_nonneg _ (by omega)) (Int.emod_lt_of_pos _ h0)
end
section
variable {P : Program} {w : World} {K : PySem.W.Frag} {mg : Str → Option Value} {base : Heap}
/-! ### a number, an end, a span -/
def spNumber : Sp := fun vs H Q _ => ∃ (p : Addr) (m : Int) (n : Nat), vs = [.ref p, .int m] ∧ Pu H p n ∧ n + 6 ≤ 1000000000 ∧ 30 ≤ m ∧ m < 2 ^ 60 ∧ ∀ H' r, Chg [p] H H' → Pu H' p (n + 6) → -m ≤ r → r ≤ m → Q (.int r) H'
theorem far_of {m r : Int} (h0 : 0 ≤ r) (h1 : r < 4) (hm : 30 ≤ m) : ∃ f, ([.int 1, .int 4, .int 30, .int m] : List V)[r.toNat]? = some (.int f) ∧ 1 ≤ f ∧ f ≤ m := by
  have h : r = 0 ∨ r = 1 ∨ r = 2 ∨ r = 3 := by omega
  rcases h with rfl | rfl | rfl | rfl
  · exact ⟨1, rfl, by omega, by omega⟩
  · exact ⟨4, rfl, by omega, by omega⟩
  · exact ⟨30, rfl, by omega, by omega⟩
  · exact ⟨m, rfl, by omega, by omega⟩
theorem ok_number (T : Tx K mg) : FnOk P w K mg base CX0 (3) T.f_l_number T.fd_l_number ["_law_purse_here", "_law_most"] spNumber := by
  have G_l_draw : FnOk P w K mg base CX0 _ _ _ _ _ := ok_draw T
  refine T.F_l_number.ok sc_l_number (fun vs H Q E h => ?_) (fun cdv A outer s H vs Q E hr h => ?_)
  · obtain ⟨p, m, n, rfl, _⟩ := h
    rfl
  · obtain ⟨p, m, n, rfl, hp, hn, h0, h1, q⟩ := h
    refine ⟨_, (pss_cons (ps_set (i := 2) sc_l_number.nd rfl (Or.inl rfl) (pe_ix ix_list (pe_lst (pa_cons pe_int (pa_cons pe_int (pa_cons pe_int (pa_cons (pv 1) pa_nil))))) (pe_call G_l_draw (hr.mono (by decide)) (by rfl) T.g_l_draw T.F_l_draw.kp T.b_l_draw .nil pass0 (pa_cons (pv 0) (pa_cons pe_int pa_nil))) (fun _ _ => rfl)))
      (pss_one (ps_ret (pe_op op_sub (pe_call G_l_draw (hr.mono (by decide)) (by rfl) T.g_l_draw T.F_l_draw.kp T.b_l_draw .nil pass0 (pa_cons (pv 0) (pa_cons (pe_op op_add (pe_op op_mul pe_int (pv 2)) pe_int) pa_nil))) (pv 2))))), ?_⟩
    refine ⟨_, rfl, small_le (by simp), fun l nl => ?_⟩
    have s1 := same_upd (o := .lst [.int 1, .int 4, .int 30, .int m]) nl
    have npl : p ≠ l := hp.ne nl
    refine ⟨_, rfl, p, 4, n, rfl, hp.same s1, by omega, by decide, by decide, fun H1 r c1 p1 r0 r1 => ?_⟩
    obtain ⟨f, hf, f0, f1⟩ := far_of r0 r1 h0
    refine ⟨l, _, r, _, rfl, rfl, SqL.of (c1 _ _ (nmem1 npl.symm) upd_same), at_of (j := r.toNat) (by omega) hf, ?_⟩
    refine ⟨_, rfl, _, rfl, _, _, rfl, rfl, .inl ⟨by decide, by decide⟩, _, _, rfl, rfl, p, 2 * f + 1, n + 3, rfl, p1, by omega, by omega, by omega, fun H2 x c2 p2 x0 x1 => ?_⟩
    refine ⟨_, rfl, _, _, rfl, rfl, q _ _ ((Chg.of_same s1).trans (c1.trans c2)) p2 (by omega) (by omega)⟩
def spEnd (K : PySem.W.Frag) : Sp := fun vs H Q _ => ∃ (p e : Addr) (m : Int) (n : Nat) (ns : List Int), vs = [.ref p, .ref e, .int m] ∧ Pu H p n ∧ n + 9 ≤ 1000000000 ∧ SqL K H e (ns.map V.int) ∧ e ≠ p ∧ ns.length ≤ 1000000 ∧ 30 ≤ m ∧ m < 2 ^ 60 ∧
  ∀ H' r, Chg [p] H H' → Pu H' p (n + 9) → -m ≤ r → r ≤ m → Q (.int r) H'
theorem ok_end (T : Tx K mg) : FnOk P w K mg base CX0 (4) T.f_l_end T.fd_l_end ["_law_purse_here", "_law_ends", "_law_most"] (spEnd K) := by
  have G_l_draw : FnOk P w K mg base CX0 _ _ _ _ _ := ok_draw T
  have G_l_number : FnOk P w K mg base CX0 _ _ _ _ _ := ok_number T
  refine T.F_l_end.ok sc_l_end (fun vs H Q E h => ?_) (fun cdv A outer s H vs Q E hr h => ?_)
  · obtain ⟨p, e, m, n, ns, rfl, _⟩ := h
    rfl
  · obtain ⟨p, e, m, n, ns, rfl, hp, hn, hE, hne, hlen, h0, h1, q⟩ := h
    refine ⟨_, (pss_cons (ps_if (PW.pt (pw_and (pt_cmpR (op_neD hr.units) (pv 1) (pe_lst pa_nil) (nomark _)) (pw_and1 (pt_cmpR op_gt (pe_call G_l_draw (hr.mono (by decide)) (by rfl) T.g_l_draw T.F_l_draw.kp T.b_l_draw .nil pass0 (pa_cons (pv 0) (pa_cons pe_int pa_nil))) pe_int (nomark _))))) (pss_cons (ps_set (i := 3) sc_l_end.nd rfl (Or.inl rfl) (pe_op op_sub (pe_op op_add (pe_ix ix_list (pv 1) (pe_call G_l_draw (hr.mono (by decide)) (by rfl) T.g_l_draw T.F_l_draw.kp T.b_l_draw .nil pass0 (pa_cons (pv 0) (pa_cons (pe_callB call_len_seq (by rfl) T.m_len PySem.boot_len (pa_cons (pv 1) pa_nil)) pa_nil))) (fun _ _ => rfl)) (pe_call G_l_draw (hr.mono (by decide)) (by rfl) T.g_l_draw T.F_l_draw.kp T.b_l_draw .nil pass0 (pa_cons (pv 0) (pa_cons pe_int pa_nil)))) pe_int))
      (pss_one (ps_ret (pe_callB (call_max2 rfl) (by rfl) T.m_max (by decide +kernel) (pa_cons (pe_op op_sub pe_int (pv 2)) (pa_cons (pe_callB (call_min2 rfl) (by rfl) T.m_min (by decide +kernel) (pa_cons (pv 2) (pa_cons (pv 3) pa_nil))) pa_nil)))))) pss_nil)
      (pss_one (ps_ret (pe_call G_l_number (hr.mono (by decide)) (by rfl) T.g_l_number T.F_l_number.kp T.b_l_number .nil pass0 (pa_cons (pv 0) (pa_cons (pv 2) pa_nil)))))), ?_⟩
    refine ⟨_, rfl, Nat.zero_le _, fun l nl => ?_⟩
    have s1 := same_upd (o := .lst []) nl
    refine ⟨_, _, .lst (s1.seq hE) (dpAll_ints ns), .lst (SqL.of upd_same) .nil, shaped_ints ns, shaped_nil, _, rfl, ?_⟩
    rw [eqv_ints_nil]
    by_cases hnil : ns = []
    · rw [decide_eq_true hnil]
      refine iteF (iteF ?_)
      exact ⟨_, rfl, _, rfl, p, m, n, rfl, hp.same s1, by omega, h0, h1, fun H2 x c2 p2 x0 x1 => q _ _ ((Chg.of_same s1).trans c2) (p2.mono (by omega)) x0 x1⟩
    · rw [decide_eq_false hnil]
      have hl0 : 0 < ns.length := List.length_pos_iff.mpr hnil
      refine iteT ?_
      refine ⟨_, rfl, p, 3, n, rfl, hp.same s1, by omega, by decide, by decide, fun H1 r c1 p1 r0 r1 => ?_⟩
      have hE1 : SqL K H1 e (ns.map V.int) := c1.seq (nmem1 hne) (s1.seq hE)
      refine ⟨_, _, rfl, rfl, _, rfl, ite2 (fun _ => ?_) (fun _ => ?_)⟩
      · refine ⟨_, rfl, _, rfl, _, rfl, e, _, rfl, .inl hE1, p, ns.length, n + 3, ?_, p1, by omega, by omega, by omega, fun H2 x c2 p2 x0 x1 => ?_⟩
        · rw [List.length_map]
          rfl
        have hx : x.toNat < ns.length := by omega
        refine ⟨e, _, x, .int ns[x.toNat], rfl, rfl, c2.seq (nmem1 hne) hE1, at_of (j := x.toNat) (by omega) ?_, ?_⟩
        · rw [List.getElem?_map, List.getElem?_eq_getElem hx]
          rfl
        refine ⟨_, rfl, p, 3, n + 6, rfl, p2, by omega, by decide, by decide, fun H3 y c3 p3 y0 y1 => ?_⟩
        refine ⟨_, _, rfl, rfl, _, _, rfl, rfl, ?_⟩
        refine ⟨_, rfl, _, _, rfl, rfl, _, rfl, _, rfl, _, _, rfl, _, _, rfl, ?_⟩
        refine q _ _ ((Chg.of_same s1).trans (c1.trans (c2.trans c3))) p3 ?_ ?_
        · split <;> split <;> omega
        · split <;> split <;> omega
      · exact ⟨_, rfl, _, rfl, p, m, n + 3, rfl, p1, by omega, h0, h1, fun H2 x c2 p2 x0 x1 => q _ _ ((Chg.of_same s1).trans (c1.trans c2)) p2 x0 x1⟩
theorem min3_of (a b c : Int) : ∃ z, nuMin3 (.int a) (.int b) (.int c) = some (.int z) ∧ z ≤ a ∧ z ≤ b ∧ z ≤ c ∧ (z = a ∨ z = b ∨ z = c) := by
  have e2 : ∀ x y : Int, nuMin2 (.int x) (.int y) = some (.int (if y < x then y else x)) := fun x y => by
    show (some (decide (y < x))).map (fun c => if c = true then V.int y else V.int x) = _
    by_cases h : y < x <;> simp [h]
  refine ⟨if c < (if b < a then b else a) then c else (if b < a then b else a), ?_, ?_⟩
  · unfold nuMin3
    rw [e2]
    show nuMin2 _ _ = _
    rw [e2]
  · split <;> split <;> omega
theorem max3_of (a b c : Int) : ∃ z, nuMax3 (.int a) (.int b) (.int c) = some (.int z) ∧ a ≤ z ∧ b ≤ z ∧ c ≤ z ∧ (z = a ∨ z = b ∨ z = c) := by
  have e2 : ∀ x y : Int, nuMax2 (.int x) (.int y) = some (.int (if x < y then y else x)) := fun x y => by
    show (some (decide (x < y))).map (fun c => if c = true then V.int y else V.int x) = _
    by_cases h : x < y <;> simp [h]
  refine ⟨if (if a < b then b else a) < c then c else (if a < b then b else a), ?_, ?_⟩
  · unfold nuMax3
    rw [e2]
    show nuMax2 _ _ = _
    rw [e2]
  · split <;> split <;> omega
def spSpan : Sp := fun vs H Q _ => ∃ (p e : Addr) (m : Int) (n : Nat) (ns : List Int), vs = [.ref p, .ref e, .int m] ∧ Pu H p n ∧ n + 18 ≤ 1000000000 ∧ H e = some (.lst (ns.map V.int)) ∧ e ≠ p ∧ ns.length ≤ 100000 ∧ 30 ≤ m ∧ m < 2 ^ 60 ∧
  ∀ H' t lo hi, Chg [p, e] H H' → Pu H' p (n + 18) → H' e = some (.lst ((ns ++ [lo, hi]).map V.int)) → H t = none → H' t = some (.tup [.int lo, .int hi]) → -m ≤ lo → lo < hi → hi ≤ m → Q (.ref t) H'
theorem ok_span (T : Tx K mg) : FnOk P w K mg base CX0 (5) T.f_l_span T.fd_l_span ["_law_purse_here", "_law_ends", "_law_most"] spSpan := by
  have G_l_end : FnOk P w K mg base CX0 _ _ _ _ _ := ok_end T
  refine T.F_l_span.ok sc_l_span (fun vs H Q E h => ?_) (fun cdv A outer s H vs Q E hr h => ?_)
  · obtain ⟨p, e, m, n, ns, rfl, _⟩ := h
    rfl
  · obtain ⟨p, e, m, n, ns, rfl, hp, hn, hE, hne, hlen, h0, h1, q⟩ := h
    refine ⟨_, (pss_cons (ps_set (i := 3) sc_l_span.nd rfl (Or.inl rfl) (pe_call G_l_end (hr.mono (by decide)) (by rfl) T.g_l_end T.F_l_end.kp T.b_l_end .nil pass0 (pa_cons (pv 0) (pa_cons (pv 1) (pa_cons (pv 2) pa_nil)))))
      (pss_cons (ps_set (i := 4) sc_l_span.nd rfl (Or.inl rfl) (pe_call G_l_end (hr.mono (by decide)) (by rfl) T.g_l_end T.F_l_end.kp T.b_l_end .nil pass0 (pa_cons (pv 0) (pa_cons (pe_op op_cat (pv 1) (pe_lst (pa_cons (pv 3) pa_nil))) (pa_cons (pv 2) pa_nil)))))
      (pss_cons (ps_set (i := 5) sc_l_span.nd rfl (Or.inl rfl) (pe_callB (call_min3Nu rfl) (by rfl) T.m_min (by decide +kernel) (pa_cons (pv 3) (pa_cons (pv 4) (pa_cons (pe_op op_sub (pv 2) pe_int) pa_nil)))))
      (pss_cons (ps_set (i := 6) sc_l_span.nd rfl (Or.inl rfl) (pe_callB (call_max3Nu rfl) (by rfl) T.m_max (by decide +kernel) (pa_cons (pv 3) (pa_cons (pv 4) (pa_cons (pe_op op_add (pv 5) pe_int) pa_nil)))))
      (pss_cons (ps_expr (pe_bm PySem.F.plainAttrs_list PySem.F.slot_list_append PySem.F.type_list_append mt_append (pv 1) (pa_cons (pv 5) pa_nil)))
      (pss_cons (ps_expr (pe_bm PySem.F.plainAttrs_list PySem.F.slot_list_append PySem.F.type_list_append mt_append (pv 1) (pa_cons (pv 6) pa_nil)))
      (pss_one (ps_ret (pe_tup (pa_cons (pv 5) (pa_cons (pv 6) pa_nil))))))))))), ?_⟩
    have up : ∀ {H H' : Hp}, Chg [p] H H' → Chg [p, e] H H' := fun c => c.mono fun x hx => by
      rw [List.mem_singleton.mp hx]
      exact List.mem_cons_self
    refine ⟨_, rfl, _, rfl, _, rfl, p, e, m, n, ns, rfl, hp, by omega, SqL.of hE, hne, by omega, h0, h1, fun H1 x c1 p1 x0 x1 => ?_⟩
    have hE1 : H1 e = some (.lst (ns.map V.int)) := c1 _ _ (nmem1 hne) hE
    refine ⟨_, rfl, _, rfl, _, rfl, small_le (by simp), fun l1 nl1 => ?_⟩
    have s1 := same_upd (o := .lst [.int x]) nl1
    refine ⟨e, l1, _, _, rfl, rfl, s1 _ _ hE1, upd_same, ?_, fun l2 nl2 => ?_⟩
    · rw [List.length_map]
      exact small_le (by simp; omega)
    have s2 := same_upd (o := .lst (ns.map V.int ++ [.int x])) nl2
    have p3 := (p1.same s1).same s2
    refine ⟨_, rfl, p, l2, m, n + 9, ns ++ [x], rfl, p3, by omega, SqL.of ?_, ?_, ?_, h0, h1, fun H2 y c2 p2 y0 y1 => ?_⟩
    · rw [List.map_append]
      exact upd_same
    · exact ((p1.same s1).ne nl2).symm
    · simp
      omega
    have hE2 : H2 e = some (.lst (ns.map V.int)) := c2 _ _ (nmem1 hne) (s2 _ _ (s1 _ _ hE1))
    have cc : Chg [p] H H2 := c1.trans ((Chg.of_same s1).trans ((Chg.of_same s2).trans c2))
    obtain ⟨lo, elo, l_1, l_2, l_3, l_4⟩ := min3_of x y (m - 1)
    refine ⟨_, rfl, _, rfl, _, rfl, _, _, rfl, rfl, _, _, _, _, rfl, elo, ?_⟩
    obtain ⟨hi, ehi, i_1, i_2, i_3, i_4⟩ := max3_of x y (lo + 1)
    refine ⟨_, rfl, _, rfl, _, rfl, _, _, rfl, rfl, _, _, _, _, rfl, ehi, ?_⟩
    refine ⟨_, rfl, .inl ⟨rfl, _, SqL.of hE2⟩, _, rfl, e, _, _, rfl, rfl, hE2, ?_, ?_⟩
    · rw [List.length_map]
      exact small_lt (by omega)
    have hE3 : (upd H2 e (.lst (ns.map V.int ++ [.int lo]))) e = some (.lst (ns.map V.int ++ [.int lo])) := upd_same
    refine ⟨_, rfl, .inl ⟨rfl, _, SqL.of hE3⟩, _, rfl, e, _, _, rfl, rfl, hE3, ?_, ?_⟩
    · rw [List.length_append, List.length_map]
      exact small_lt (by simp; omega)
    rw [upd_upd]
    refine ⟨_, rfl, _, rfl, (by show 2 ≤ sizeLine; decide), fun t nt => ?_⟩
    have hE4 : (upd H2 e (.lst (ns.map V.int ++ [.int lo] ++ [.int hi]))) e = some (.lst (ns.map V.int ++ [.int lo] ++ [.int hi])) := upd_same
    have c5 : Chg [p, e] H (upd (upd H2 e (.lst (ns.map V.int ++ [.int lo] ++ [.int hi]))) t (.tup [.int lo, .int hi])) := (up cc).trans ((Chg.upd (List.mem_cons_of_mem _ List.mem_cons_self)).trans (Chg.of_same (same_upd nt)))
    have te : t ≠ e := (ne_of_none hE4 nt).symm
    have p5 : Pu (upd H2 e (.lst (ns.map V.int ++ [.int lo] ++ [.int hi]))) p (n + 18) := p2.chg (L := [e]) (Chg.upd List.mem_cons_self) (nmem1 hne.symm)
    have tp : t ≠ p := (p5.ne nt).symm
    refine q _ t lo hi c5 (p5.same (same_upd nt)) ?_ ?_ upd_same (by omega) (by omega) (by omega)
    · rw [upd_ne te.symm, upd_same, List.map_append, List.append_assoc]
      rfl
    · rw [upd_ne te] at nt
      exact cc.free (nmem1 tp) nt
end
section
variable {P : Program} {w : World} {K : PySem.W.Frag} {mg : Str → Option Value} {base : Heap}
/-! ### the program: spans -/
def isPlace (i : Int) : Bool := decide (-999999999999 ≤ i) && decide (i ≤ 999999999999)
def isSpan (s : Span) : Bool := isPlace s.1 && isPlace s.2 && decide (s.1 < s.2)
theorem isSpan_iff (s : Span) : isSpan s = true ↔ (-999999999999 ≤ s.1 ∧ s.1 < s.2 ∧ s.2 ≤ 999999999999) := by
  unfold isSpan isPlace
  simp only [Bool.and_eq_true, decide_eq_true_eq]
  omega
def spWhole : Sp := fun vs H Q _ => ∃ i : Int, vs = [.int i] ∧ Q (.bl true) H
theorem ok_is_whole (T : Tx K mg) : FnOk P w K mg base CX0 (1) T.f_is_whole T.fd_is_whole ["number"] spWhole := by
  refine T.F_is_whole.ok sc_is_whole (fun vs H Q E h => ?_) (fun cdv A outer s H vs Q E hr h => ?_)
  · obtain ⟨i, rfl, _⟩ := h
    rfl
  · obtain ⟨i, rfl, q⟩ := h
    refine ⟨_, (pss_one (ps_ret (pe_and (pe_callB call_isi (by rfl) T.m_isinstance (by decide +kernel) (pa_cons (pv 0) (pa_cons (pe_bltn (v := .ty "int") (by rfl) T.m_int (by decide +kernel) rfl) pa_nil))) (pe_one (pe_not (pe_callB call_isi (by rfl) T.m_isinstance (by decide +kernel) (pa_cons (pv 0) (pa_cons (pe_bltn (v := .ty "bool") (by rfl) T.m_bool (by decide +kernel) rfl) pa_nil)))))))), ?_⟩
    refine ⟨_, rfl, _, _, _, _, true, rfl, .ty _, .base (.int i), kit_ty (by decide +kernel), true, rfl, iteT ?_⟩
    exact ⟨_, rfl, _, _, _, _, false, rfl, .ty _, .base (.int i), kit_ty (by decide +kernel), false, rfl, q⟩
def spPlace : Sp := fun vs H Q _ => ∃ i : Int, vs = [.int i] ∧ Q (.bl (isPlace i)) H
theorem ok_is_place (T : Tx K mg) : FnOk P w K mg base CX0 (2) T.f_is_place T.fd_is_place ["number"] spPlace := by
  have G_is_whole : FnOk P w K mg base CX0 _ _ _ _ _ := ok_is_whole T
  refine T.F_is_place.ok sc_is_place (fun vs H Q E h => ?_) (fun cdv A outer s H vs Q E hr h => ?_)
  · obtain ⟨i, rfl, _⟩ := h
    rfl
  · obtain ⟨i, rfl, q⟩ := h
    refine ⟨_, (pss_one (ps_ret (pe_and (pe_call G_is_whole (hr.mono (by decide)) (by rfl) T.g_is_whole T.F_is_whole.kp T.b_is_whole .nil pass0 (pa_cons (pv 0) pa_nil)) (pe_one (pe_chain op_le op_le (pe_glob (v := .int (-999999999999)) (by rfl) T.c_LEAST_PLACE ⟨_, rfl⟩) (pv 0) (pe_glob (v := .int (999999999999)) (by rfl) T.c_GREATEST_PLACE ⟨_, rfl⟩)))))), ?_⟩
    refine ⟨_, rfl, i, rfl, true, rfl, iteT ?_⟩
    refine ⟨_, rfl, _, _, rfl, rfl, _, rfl, ?_⟩
    unfold isPlace at q
    by_cases h : -999999999999 ≤ i
    · rw [decide_eq_true h] at q ⊢
      exact iteT ⟨_, _, rfl, rfl, q⟩
    · rw [decide_eq_false h] at q ⊢
      exact iteF q
def spIsSpan : Sp := fun vs H Q _ => ∃ (v : V) (s : Span), vs = [v] ∧ Spn H v s ∧ Q (.bl (isSpan s)) H
theorem ok_is_span (T : Tx K mg) : FnOk P w K mg base CX0 (3) T.f_is_span T.fd_is_span ["span"] spIsSpan := by
  have G_is_place : FnOk P w K mg base CX0 _ _ _ _ _ := ok_is_place T
  refine T.F_is_span.ok sc_is_span (fun vs H Q E h => ?_) (fun cdv A outer s H vs Q E hr h => ?_)
  · obtain ⟨v, s, rfl, _⟩ := h
    rfl
  · obtain ⟨v, s, rfl, ⟨t, rfl, ht⟩, q⟩ := h
    refine ⟨_, (pss_cons (ps_if (PW.pt (pw_or (pt_not (pt_val (pe_callB call_isi (by rfl) T.m_isinstance (by decide +kernel) (pa_cons (pv 0) (pa_cons (pe_bltn (v := .ty "tuple") (by rfl) T.m_tuple (by decide +kernel) rfl) pa_nil))))) (pw_or1 (pt_cmpR op_ne (pe_callB call_len_seq (by rfl) T.m_len PySem.boot_len (pa_cons (pv 0) pa_nil)) pe_int (nomark _))))) (pss_one (ps_ret pe_bl)) pss_nil)
      (pss_cons (ps_asg (pv 0) (pg_tup rfl (pgs_cons (pg_name (i := 1) sc_is_span.nd rfl (Or.inl rfl)) (pgs_cons (pg_name (i := 2) sc_is_span.nd rfl (Or.inl rfl)) pgs_nil))))
      (pss_one (ps_ret (pe_and (pe_call G_is_place (hr.mono (by decide)) (by rfl) T.g_is_place T.F_is_place.kp T.b_is_place .nil pass0 (pa_cons (pv 1) pa_nil)) (pe_and (pe_call G_is_place (hr.mono (by decide)) (by rfl) T.g_is_place T.F_is_place.kp T.b_is_place .nil pass0 (pa_cons (pv 2) pa_nil)) (pe_one (pe_cmpR op_lt (pv 1) (pv 2) (nomark _))))))))), ?_⟩
    refine ⟨_, rfl, _, _, _, _, true, rfl, .ty _, .base (.tup ht), kit_ty (by decide +kernel), true, rfl, iteF ?_⟩
    refine ⟨_, rfl, t, _, rfl, .inr (SqT.of ht), rfl, _, rfl, iteF ?_⟩
    refine ⟨_, rfl, t, _, rfl, SqT.of ht, rfl, _, _, rfl, _, _, rfl, rfl, ?_⟩
    unfold isSpan at q
    refine ⟨_, rfl, s.1, rfl, _, rfl, ?_⟩
    by_cases h1 : isPlace s.1 = true
    · rw [h1] at q ⊢
      refine iteT ⟨_, rfl, s.2, rfl, _, rfl, ?_⟩
      by_cases h2 : isPlace s.2 = true
      · rw [h2] at q ⊢
        exact iteT ⟨_, rfl, _, rfl, _, _, rfl, rfl, q⟩
      · rw [Bool.not_eq_true] at h2
        rw [h2] at q ⊢
        exact iteF q
    · rw [Bool.not_eq_true] at h1
      rw [h1] at q ⊢
      exact iteF q
def spCheck (C : Addr) : Sp := fun vs H Q E => ∃ (v : V) (s : Span), vs = [v] ∧ Spn H v s ∧ (isSpan s = true → Q .non H) ∧ (isSpan s = false → E (.ref C) none H)
theorem ok_check_span (T : Tx K mg) : FnOk P w K mg base (L2.CX P w) (4) T.f_check_span T.fd_check_span ["span"] (spCheck T.C_NoSpan) := by
  have G_is_span : FnOk P w K mg base CX0 _ _ _ _ _ := ok_is_span T
  refine T.F_check_span.okX sc_check_span (fun vs H Q E h => ?_) (fun cdv A outer s H vs Q E hr h => ?_)
  · obtain ⟨v, s, rfl, _⟩ := h
    rfl
  · obtain ⟨v, s, rfl, hv, q, e⟩ := h
    refine ⟨_, (pss_one (ps_if (pt_not (pt_val (pe_call G_is_span (hr.mono (by decide)) (by rfl) T.g_is_span T.F_is_span.kp T.b_is_span .nil pass0 (pa_cons (pv 0) pa_nil)))) (pss_one (ps_raise (by rfl) (takes_of rfl rfl rfl rfl) (pmk_own PySem.F.excBase_ValueError T.x_NoSpan T.g_NoSpan T.k_NoSpan (raises_own T.b_NoSpan T.t_NoSpan) (by exact rfl)))) pss_nil)), ?_⟩
    refine ⟨_, rfl, v, s, rfl, hv, _, rfl, ?_⟩
    by_cases h : isSpan s = true
    · rw [h]
      exact iteF (q h)
    · rw [Bool.not_eq_true] at h
      rw [h]
      exact iteT (e h)
end
/-! ### the mathematics of covers -/
def Mem (ss : List Span) (x : Int) : Prop := ∃ s ∈ ss, s.1 ≤ x ∧ x < s.2
def Can (c : List Span) : Prop := c.Pairwise (fun s t => s.2 < t.1) ∧ ∀ s ∈ c, s.1 < s.2
theorem mem_nil (x : Int) : ¬ Mem [] x := fun ⟨_, h, _⟩ => nomatch h
theorem mem_cons {s : Span} {ss : List Span} {x : Int} : Mem (s :: ss) x ↔ (s.1 ≤ x ∧ x < s.2) ∨ Mem ss x := by
  constructor
  · rintro ⟨t, ht, h⟩
    rcases List.mem_cons.mp ht with e | ht
    · rw [← e]
      exact .inl h
    · exact .inr ⟨t, ht, h⟩
  · rintro (h | ⟨t, ht, h⟩)
    · exact ⟨s, List.mem_cons_self, h⟩
    · exact ⟨t, List.mem_cons_of_mem _ ht, h⟩
theorem mem_app {a b : List Span} {x : Int} : Mem (a ++ b) x ↔ Mem a x ∨ Mem b x := by
  constructor
  · rintro ⟨t, ht, h⟩
    rcases List.mem_append.mp ht with m | m
    · exact .inl ⟨t, m, h⟩
    · exact .inr ⟨t, m, h⟩
  · rintro (⟨t, m, h⟩ | ⟨t, m, h⟩)
    · exact ⟨t, List.mem_append_left _ m, h⟩
    · exact ⟨t, List.mem_append_right _ m, h⟩
theorem mem_one {s : Span} {x : Int} : Mem [s] x ↔ s.1 ≤ x ∧ x < s.2 := by
  rw [mem_cons]
  constructor
  · rintro (h | h)
    · exact h
    · exact absurd h (mem_nil x)
  · exact .inl
theorem mem_perm {a b : List Span} (h : a.Perm b) (x : Int) : Mem a x ↔ Mem b x := by
  constructor
  · rintro ⟨t, m, q⟩
    exact ⟨t, h.mem_iff.mp m, q⟩
  · rintro ⟨t, m, q⟩
    exact ⟨t, h.mem_iff.mpr m, q⟩
theorem can_nil : Can [] := ⟨List.Pairwise.nil, fun _ h => nomatch h⟩
theorem can_one {s : Span} (h : s.1 < s.2) : Can [s] := ⟨List.pairwise_singleton _ _, fun t m => by
  rw [List.mem_singleton.mp m]
  exact h⟩
theorem can_tail {s : Span} {c : List Span} (h : Can (s :: c)) : Can c := ⟨(List.pairwise_cons.mp h.1).2, fun t m => h.2 t (List.mem_cons_of_mem _ m)⟩
theorem can_head {s : Span} {c : List Span} (h : Can (s :: c)) {x : Int} (m : Mem c x) : s.2 < x := by
  obtain ⟨t, ht, h1, _⟩ := m
  have := (List.pairwise_cons.mp h.1).1 t ht
  omega
theorem can_snoc {c : List Span} {s : Span} (h : Can c) (hs : s.1 < s.2) (l : ∀ t ∈ c, t.2 < s.1) : Can (c ++ [s]) := by
  refine ⟨List.pairwise_append.mpr ⟨h.1, List.pairwise_singleton _ _, fun a ha b hb => ?_⟩, fun t m => ?_⟩
  · rw [List.mem_singleton.mp hb]
    exact l a ha
  · rcases List.mem_append.mp m with m | m
    · exact h.2 t m
    · rw [List.mem_singleton.mp m]
      exact hs
theorem can_app_l {a b : List Span} (h : Can (a ++ b)) : Can a := ⟨(List.pairwise_append.mp h.1).1, fun t m => h.2 t (List.mem_append_left _ m)⟩
theorem can_app_lt {a : List Span} {s : Span} (h : Can (a ++ [s])) : ∀ t ∈ a, t.2 < s.1 := fun t m => (List.pairwise_append.mp h.1).2.2 t m s (List.mem_singleton.mpr rfl)
theorem can_drop {c : List Span} (h : Can c) (n : Nat) : Can (c.drop n) := ⟨h.1.sublist (List.drop_sublist n c), fun t m => h.2 t (List.mem_of_mem_drop m)⟩
/-- a cover is told by its places -/
theorem can_ext : ∀ {c d : List Span}, Can c → Can d → (∀ x, Mem c x ↔ Mem d x) → c = d
  | [], [], _, _, _ => rfl
  | [], t :: d, _, hd, e => by
    have h := hd.2 t List.mem_cons_self
    exact absurd ((e t.1).mpr (mem_cons.mpr (.inl ⟨Int.le_refl _, h⟩))) (mem_nil _)
  | s :: c, [], hc, _, e => by
    have h := hc.2 s List.mem_cons_self
    exact absurd ((e s.1).mp (mem_cons.mpr (.inl ⟨Int.le_refl _, h⟩))) (mem_nil _)
  | s :: c, t :: d, hc, hd, e => by
    have h1 := hc.2 s List.mem_cons_self
    have h2 := hd.2 t List.mem_cons_self
    have a1 : t.1 ≤ s.1 := by
      rcases mem_cons.mp ((e s.1).mp (mem_cons.mpr (.inl ⟨Int.le_refl _, h1⟩))) with m | m
      · exact m.1
      · have := can_head hd m
        omega
    have a2 : s.1 ≤ t.1 := by
      rcases mem_cons.mp ((e t.1).mpr (mem_cons.mpr (.inl ⟨Int.le_refl _, h2⟩))) with m | m
      · exact m.1
      · have := can_head hc m
        omega
    have b1 : s.2 ≤ t.2 := by
      apply Int.not_lt.mp
      intro lt
      rcases mem_cons.mp ((e t.2).mp (mem_cons.mpr (.inl ⟨by omega, lt⟩))) with m | m
      · omega
      · have := can_head hd m
        omega
    have b2 : t.2 ≤ s.2 := by
      apply Int.not_lt.mp
      intro lt
      rcases mem_cons.mp ((e s.2).mpr (mem_cons.mpr (.inl ⟨by omega, lt⟩))) with m | m
      · omega
      · have := can_head hc m
        omega
    have st : s = t := Prod.ext (by omega) (by omega)
    subst st
    have tl : ∀ x, Mem c x ↔ Mem d x := fun x => by
      constructor
      · intro m
        have h := can_head hc m
        rcases mem_cons.mp ((e x).mp (mem_cons.mpr (.inr m))) with q | q
        · omega
        · exact q
      · intro m
        have h := can_head hd m
        rcases mem_cons.mp ((e x).mpr (mem_cons.mpr (.inr m))) with q | q
        · omega
        · exact q
    rw [can_ext (can_tail hc) (can_tail hd) tl]
/-- spans of a cover lie where the spans lie whose places it holds -/
theorem can_spans {c ss : List Span} (hc : Can c) (e : ∀ x, Mem c x → Mem ss x) (h : ∀ s ∈ ss, isSpan s = true) : ∀ s ∈ c, isSpan s = true := fun s m => by
  have h1 := hc.2 s m
  obtain ⟨t, mt, t1, t2⟩ := e s.1 ⟨s, m, Int.le_refl _, h1⟩
  obtain ⟨u, mu, u1, u2⟩ := e (s.2 - 1) ⟨s, m, by omega, by omega⟩
  have bt := (isSpan_iff t).mp (h t mt)
  have bu := (isSpan_iff u).mp (h u mu)
  exact (isSpan_iff s).mpr ⟨by omega, h1, by omega⟩
theorem gap_can {c : List Span} (h : Can c) : gapAll c (c.drop 1) = true := by
  unfold gapAll
  rw [List.all_eq_true]
  intro i hi
  have hi := List.mem_range.mp hi
  rw [List.length_drop] at hi
  have h1 : i < c.length := by omega
  have h2 : i + 1 < c.length := by omega
  rw [decide_eq_true_eq, List.getD_eq_getElem?_getD, List.getD_eq_getElem?_getD, List.getElem?_drop, Nat.add_comm 1 i, List.getElem?_eq_getElem h1, List.getElem?_eq_getElem h2]
  exact List.pairwise_iff_getElem.mp h.1 i (i + 1) h1 h2 (Nat.lt_succ_self i)
def isCoverB (ss : List Span) : Bool := decide (ss.length ≤ 200) && gapAll ss (ss.drop 1)
theorem cover_can {c : List Span} (h : Can c) (l : c.length ≤ 200) : isCoverB c = true := by
  unfold isCoverB
  rw [decide_eq_true l, gap_can h]
  rfl
theorem can_lows {c : List Span} (h : Can c) : (c.map (·.1)).Nodup := by
  rw [List.Nodup, List.pairwise_map]
  refine (List.pairwise_iff_forall_sublist.mpr fun {a b} hs => ?_)
  have h1 : a.2 < b.1 := List.pairwise_iff_forall_sublist.mp h.1 hs
  have h2 := h.2 a (hs.subset List.mem_cons_self)
  omega
/-- a cover has no more spans than what it covers -/
theorem can_len {c ss : List Span} (hc : Can c) (e : ∀ x, Mem c x ↔ Mem ss x) : c.length ≤ ss.length := by
  have sub : ∀ x ∈ c.map (·.1), x ∈ ss.map (·.1) := fun x hx => by
    obtain ⟨s, hs, rfl⟩ := List.mem_map.mp hx
    have h1 := hc.2 s hs
    obtain ⟨t, ht, t1, t2⟩ := (e s.1).mp ⟨s, hs, Int.le_refl _, h1⟩
    by_cases hlt : t.1 < s.1
    · obtain ⟨u, hu, u1, u2⟩ := (e (s.1 - 1)).mpr ⟨t, ht, by omega, by omega⟩
      -- u lies ahead of s, or is s
      rcases List.mem_iff_getElem.mp hs with ⟨i, hi, ei⟩
      rcases List.mem_iff_getElem.mp hu with ⟨j, hj, ej⟩
      rcases Nat.lt_trichotomy i j with h | h | h
      · have := List.pairwise_iff_getElem.mp hc.1 i j hi hj h
        rw [ei, ej] at this
        omega
      · subst h
        rw [ei] at ej
        rw [← ej] at u1
        omega
      · have := List.pairwise_iff_getElem.mp hc.1 j i hj hi h
        rw [ei, ej] at this
        omega
    · have : t.1 = s.1 := by omega
      rw [← this]
      exact List.mem_map.mpr ⟨t, ht, rfl⟩
  have := nodup_len (can_lows hc) sub
  simpa using this
theorem can_of_cover {c : List Span} (h : c.all isSpan = true) (hc : isCoverB c = true) : Can c := by
  have pos : ∀ s ∈ c, s.1 < s.2 := fun s hs => ((isSpan_iff s).mp (List.all_eq_true.mp h s hs)).2.1
  refine ⟨?_, pos⟩
  unfold isCoverB gapAll at hc
  rw [Bool.and_eq_true, List.all_eq_true] at hc
  have nxt : ∀ (i : Nat) (hi : i + 1 < c.length), (c[i]).2 < (c[i + 1]).1 := fun i hi => by
    have h1 := hc.2 i (List.mem_range.mpr (by rw [List.length_drop]; omega))
    rw [decide_eq_true_eq, List.getD_eq_getElem?_getD, List.getD_eq_getElem?_getD, List.getElem?_drop, Nat.add_comm 1 i, List.getElem?_eq_getElem (by omega), List.getElem?_eq_getElem hi] at h1
    exact h1
  have far : ∀ (k i : Nat) (hi : i + k + 1 < c.length), (c[i]'(by omega)).2 < (c[i + k + 1]).1 := fun k => by
    induction k with
    | zero => exact fun i hi => nxt i hi
    | succ k ih =>
      intro i hi
      have h1 := ih i (by omega)
      have h2 := nxt (i + k + 1) (by omega)
      have h3 := pos (c[i + k + 1]'(by omega)) (List.getElem_mem _)
      have h4 : (c[i + k + 1 + 1]'(by omega)).1 = (c[i + (k + 1) + 1]'hi).1 := rfl
      omega
  rw [List.pairwise_iff_getElem]
  intro i j hi hj hij
  obtain ⟨k, rfl⟩ : ∃ k, j = i + k + 1 := ⟨j - i - 1, by omega⟩
  exact far k i hj
section
variable {P : Program} {w : World} {K : PySem.W.Frag} {mg : Str → Option Value} {base : Heap}
/-! ### the program: covers -/
def spCheckSpans (C : Addr) : Sp := fun vs H Q E => ∃ (l : Addr) (us : List V) (ss : List Span), vs = [.ref l] ∧ H l = some (.lst us) ∧ Sps H us ss ∧ (ss.all isSpan = true → Q .non H) ∧ (ss.all isSpan = false → E (.ref C) none H)
theorem ok_check_spans (T : Tx K mg) : FnOk P w K mg base (L2.CX P w) (5) T.f_check_spans T.fd_check_spans ["spans"] (spCheckSpans T.C_NoSpan) := by
  have G_check_span : FnOk P w K mg base (L2.CX P w) _ _ _ _ _ := ok_check_span T
  refine T.F_check_spans.okX sc_check_spans (fun vs H Q E h => ?_) (fun cdv A outer s H vs Q E hr h => ?_)
  · obtain ⟨l, us, ss, rfl, _⟩ := h
    rfl
  · obtain ⟨l, us, ss, rfl, hl, hS, q, e⟩ := h
    refine ⟨_, (pss_one (ps_for (passes_of rfl) (by rfl) (pi_list (pv 0)) (pg_name (i := 1) sc_check_spans.nd rfl (Or.inl rfl))
        (pss_one (ps_expr (pe_call G_check_span (hr.mono (by decide)) (by rfl) T.g_check_span T.F_check_span.kp T.b_check_span .nil (passes_call (takes_of rfl rfl rfl rfl) (fun _ _ _ _ h => h)) (pa_cons (pv 1) pa_nil)))))), ?_⟩
    refine ⟨_, rfl, l, rfl, ⟨_, SqL.of hl⟩, for_list (K := K) (a := l) (xs := us) (fun i σ H' => ∃ y1, σ = [some (.ref l), y1] ∧ H' = H ∧ (ss.take i).all isSpan = true) ⟨none, rfl, rfl, rfl⟩ (fun i σ H' _ ⟨_, _, e, _⟩ => by rw [e]; exact SqL.of hl) ?_ ?_⟩
    · rintro i y σ H' hi ⟨y1, rfl, rfl, ha⟩
      obtain ⟨sp, hs, hv⟩ := hS.get hi
      have tk : ss.take (i + 1) = ss.take i ++ [sp] := by
        rw [List.take_add_one, hs]
        rfl
      refine ⟨_, rfl, y, sp, rfl, hv, fun ok => ⟨_, rfl, rfl, ?_⟩, fun no => e ?_⟩
      · rw [tk, List.all_append, ha, List.all_cons, ok]
        rfl
      · rw [List.all_eq_false]
        exact ⟨sp, List.mem_of_getElem? hs, by rw [no]; decide⟩
    · rintro σ H' ⟨y1, rfl, rfl, ha⟩
      rw [hS.len, List.take_length] at ha
      exact q ha
theorem cut_one (xs : List V) : cutV xs (some 1) none = xs.drop 1 := by
  unfold cutV
  rw [show HT.sIx xs.length 0 (some 1) = min 1 xs.length from HT.sIx_nat xs.length 0 1, HT.sIx_none]
  cases xs with
  | nil => rfl
  | cons x r =>
    rw [show min 1 (x :: r).length = 1 from Nat.min_eq_left (Nat.succ_le_succ (Nat.zero_le _))]
    exact List.take_of_length_le (by simp)
theorem Sps.drop {H : Hp} : ∀ {vs : List V} {ss : List Span} (n : Nat), Sps H vs ss → Sps H (vs.drop n) (ss.drop n)
  | _, _, 0, h => h
  | _, _, _ + 1, .nil => .nil
  | _, _, n + 1, .cons _ t => Sps.drop n t
def spIsCover (T : Tx K mg) : Sp := fun vs H Q _ => ∃ (l : Addr) (us : List V) (ss : List Span), vs = [.ref l] ∧ H l = some (.lst us) ∧ Sps H us ss ∧ Tb T.tabs H ∧ ∀ H', Chg T.tabs H H' → Tb T.tabs H' → Q (.bl (isCoverB ss)) H'
theorem ok_is_cover (T : Tx K mg) (B : Tbs T base) : FnOk P w K mg base CX0 (1) T.f_is_cover T.fd_is_cover ["spans"] (spIsCover T) := by
  refine T.FC_is_cover.ok sc_is_cover (fun vs H Q E h => ?_) (fun A outer s H vs Q E hr h => ?_)
  · obtain ⟨l, us, ss, rfl, _⟩ := h
    rfl
  · obtain ⟨l, us, ss, rfl, hl, hS, tb, q⟩ := h
    refine ⟨_, (pss_cons (ps_if (pt_cmpR op_gt (pe_callB call_len_seq (by rfl) T.m_len PySem.boot_len (pa_cons (pv 0) pa_nil)) (pe_glob (v := .int (200)) (by rfl) T.c_MOST_SPANS ⟨_, rfl⟩) (nomark _)) (pss_one (ps_ret pe_bl)) pss_nil)
      (pss_one (ps_ret (pe_allZ hr (by rfl) T.m_all (by decide +kernel) (by rfl) T.m_zip B.t_is_cover rfl (genS2_by (by decide +kernel)) (pa_cons (pv 0) (pa_cons (pe_slice sl_list (pv 0) (po_some pe_int) po_none) pa_nil)) (fun _ => rfl) (by decide) (by decide))))), ?_⟩
    have hlen := hS.len
    unfold isCoverB at q
    refine ⟨_, rfl, l, _, rfl, .inl (SqL.of hl), _, _, rfl, rfl, _, rfl, ite2 (fun e => ?_) (fun e => ?_)⟩
    · have e0 : (200 : Int) < ((us.length : Nat) : Int) := of_decide_eq_true e
      have no : ¬ ss.length ≤ 200 := by omega
      have q1 := q H (Chg.refl _ _) tb
      rw [decide_eq_false no] at q1
      exact q1
    · have e0 : ¬ (200 : Int) < ((us.length : Nat) : Int) := fun z => e (decide_eq_true z)
      have yes : ss.length ≤ 200 := by omega
      refine ⟨_, rfl, _, rfl, 1, rfl, l, us, rfl, SqL.of hl, fun c nc => ?_⟩
      rw [cut_one]
      obtain ⟨gc, sc⟩ := upd_at (o := .lst (us.drop 1)) nc
      have tb1 := tb.same sc
      have mP : T.pA_is_cover ∈ T.tabs := by
        unfold Tx.tabs
        simp
      refine ⟨l, c, us, us.drop 1, ss, ss.drop 1, rfl, SqL.of (sc _ _ hl), SqL.of gc, ?_, ?_, hS.same sc, (hS.same sc).drop 1, tb1 _ mP, fun H2 t2 => ?_⟩
      · exact fun z => tb.out hl (fun ps z => by cases z) (by rw [z]; exact mP)
      · exact fun z => tb.new nc (by rw [z]; exact mP)
      · obtain ⟨tb2, c2⟩ := tb1.tabbed mP t2
        have q1 := q H2 ((Chg.of_same sc).trans c2) tb2
        rw [decide_eq_true yes] at q1
        exact q1
def spCheckCover (T : Tx K mg) : Sp := fun vs H Q E => ∃ (l : Addr) (us : List V) (ss : List Span), vs = [.ref l] ∧ H l = some (.lst us) ∧ Sps H us ss ∧ Tb T.tabs H ∧ (ss.all isSpan = true → isCoverB ss = true → ∀ H', Chg T.tabs H H' → Tb T.tabs H' → Q .non H') ∧
  (ss.all isSpan = false → E (.ref T.C_NoSpan) none H) ∧ (ss.all isSpan = true → isCoverB ss = false → ∀ H', Chg T.tabs H H' → Tb T.tabs H' → E (.ref T.C_NoCover) none H')
theorem ok_check_cover (T : Tx K mg) (B : Tbs T base) : FnOk P w K mg base (L2.CX P w) (6) T.f_check_cover T.fd_check_cover ["cover"] (spCheckCover T) := by
  have G_check_spans : FnOk P w K mg base (L2.CX P w) _ _ _ _ _ := ok_check_spans T
  have G_is_cover : FnOk P w K mg base CX0 _ _ _ _ _ := ok_is_cover T B
  refine T.F_check_cover.okX sc_check_cover (fun vs H Q E h => ?_) (fun cdv A outer s H vs Q E hr h => ?_)
  · obtain ⟨l, us, ss, rfl, _⟩ := h
    rfl
  · obtain ⟨l, us, ss, rfl, hl, hS, tb, q, e1, e2⟩ := h
    refine ⟨_, (pss_cons (ps_expr (pe_call G_check_spans (hr.mono (by decide)) (by rfl) T.g_check_spans T.F_check_spans.kp T.b_check_spans .nil (passes_call (takes_of rfl rfl rfl rfl) (fun _ _ _ _ h => h)) (pa_cons (pv 0) pa_nil)))
      (pss_one (ps_if (pt_not (pt_val (pe_call G_is_cover (hr.mono (by decide)) (by rfl) T.g_is_cover T.F_is_cover.kp T.b_is_cover .nil pass0 (pa_cons (pv 0) pa_nil)))) (pss_one (ps_raise (by rfl) (takes_of rfl rfl rfl rfl) (pmk_own PySem.F.excBase_ValueError T.x_NoCover T.g_NoCover T.k_NoCover (raises_own T.b_NoCover T.t_NoCover) (by exact rfl)))) pss_nil))), ?_⟩
    refine ⟨_, rfl, l, us, ss, rfl, hl, hS, fun ok => ?_, e1⟩
    refine ⟨_, rfl, l, us, ss, rfl, hl, hS, tb, fun H1 c1 tb1 => ⟨_, rfl, ?_⟩⟩
    by_cases hc : isCoverB ss = true
    · rw [hc]
      exact iteF (q ok hc H1 c1 tb1)
    · rw [Bool.not_eq_true] at hc
      rw [hc]
      exact iteT (e2 ok hc H1 c1 tb1)
/-! joined -/
/-- the two numbers of the tuple at v -/
def kOf (H : Hp) (v : V) : Span := match v with
  | .ref t => (match H t with | some (.tup [.int a, .int b]) => (a, b) | _ => (0, 0))
  | _ => (0, 0)
theorem kOf_spn {H : Hp} {v : V} {s : Span} (h : Spn H v s) : kOf H v = s := by
  obtain ⟨t, rfl, ht⟩ := h
  show (match H t with | some (.tup [.int a, .int b]) => (a, b) | _ => (0, 0)) = s
  rw [ht]
theorem Sps.kmap {H : Hp} : ∀ {vs : List V} {ss : List Span}, Sps H vs ss → vs.map (kOf H) = ss
  | _, _, .nil => rfl
  | _, _, .cons h t => by rw [List.map_cons, kOf_spn h, t.kmap]
theorem sps_of {H : Hp} : ∀ {vs : List V}, (∀ v ∈ vs, Spn H v (kOf H v)) → Sps H vs (vs.map (kOf H))
  | [], _ => .nil
  | v :: vs, h => .cons (h v List.mem_cons_self) (sps_of fun u hu => h u (List.mem_cons_of_mem _ hu))
theorem Sps.mem {H : Hp} {vs : List V} {ss : List Span} (h : Sps H vs ss) {v : V} (hv : v ∈ vs) : ∃ s ∈ ss, Spn H v s := by
  obtain ⟨i, hi⟩ := List.getElem?_of_mem hv
  obtain ⟨s, e, sp⟩ := h.get hi
  exact ⟨s, List.mem_of_getElem? e, sp⟩
def spJoined : Sp := fun vs H Q _ => ∃ (l : Addr) (us : List V) (ss : List Span), vs = [.ref l] ∧ H l = some (.lst us) ∧ Sps H us ss ∧ (∀ s ∈ ss, s.1 < s.2) ∧ ss.length ≤ 100000 ∧
  ∀ H' p ws c, Same H H' → H p = none → H' p = some (.lst ws) → Sps H' ws c → Can c → (∀ x, Mem c x ↔ Mem ss x) → c.length ≤ ss.length → Q (.ref p) H'
theorem snoc_of {α : Type} {l : List α} (h : l ≠ []) : ∃ a x, l = a ++ [x] := ⟨l.dropLast, l.getLast h, (List.dropLast_concat_getLast h).symm⟩
theorem Sps.snoc {H : Hp} {vs : List V} {c : List Span} {x : Span} (h : Sps H vs (c ++ [x])) : ∃ us v, vs = us ++ [v] ∧ Sps H us c ∧ Spn H v x := by
  have hl := h.len
  have ne : vs ≠ [] := fun z => by
    rw [z] at hl
    simp at hl
  obtain ⟨us, v, rfl⟩ := snoc_of ne
  have hl2 : us.length = c.length := by simpa using hl
  refine ⟨us, v, rfl, ?_, ?_⟩
  · have h1 : ∀ {vs : List V} {ss : List Span} (n : Nat), Sps H vs ss → Sps H (vs.take n) (ss.take n) := fun {vs ss} n h => by
      induction h generalizing n with
      | nil => simp [Sps.nil]
      | cons a b ih =>
        cases n with
        | zero => exact .nil
        | succ n => exact .cons a (ih n)
    have h2 := h1 us.length h
    rw [List.take_left, hl2, List.take_left] at h2
    exact h2
  · obtain ⟨s, e, sp⟩ := h.get (i := us.length) (v := v) (by simp)
    rw [hl2] at e
    have e2 : s = x := by simpa using e.symm
    rw [← e2]
    exact sp
theorem ok_joined (T : Tx K mg) : FnOk P w K mg base CX0 (1) T.f_joined T.fd_joined ["spans"] spJoined := by
  refine T.F_joined.ok sc_joined (fun vs H Q E h => ?_) (fun cdv A outer s H vs Q E hr h => ?_)
  · obtain ⟨l, us, ss, rfl, _⟩ := h
    rfl
  · obtain ⟨l, us, ss, rfl, hl, hS, pos, hlen, q⟩ := h
    refine ⟨_, (pss_cons (ps_set (i := 1) sc_joined.nd rfl (Or.inl rfl) (pe_lst pa_nil))
      (pss_cons (ps_for PassesOwn.never (by rfl) (pi_list (pe_callB cr_sortedPO (by rfl) T.m_sorted (by decide +kernel) (pa_cons (pv 0) pa_nil))) (pg_tup rfl (pgs_cons (pg_name (i := 2) sc_joined.nd rfl (Or.inl rfl)) (pgs_cons (pg_name (i := 3) sc_joined.nd rfl (Or.inl rfl)) pgs_nil)))
        (pss_one (ps_if (PW.pt (pw_and (pt_truth (pv 1) (by intro _; rfl)) (pw_and1 (pt_cmpR op_le (pv 2) (pe_ix ix_tup (pe_ix ix_list (pv 1) (pe_un un_neg pe_int) (fun _ _ => rfl)) pe_int (fun _ _ => rfl)) (nomark _))))) (pss_cons (ps_asg (pe_ix ix_list (pv 1) (pe_un un_neg pe_int) (fun _ _ => rfl)) (pg_tup rfl (pgs_cons (pg_name (i := 4) sc_joined.nd rfl (Or.inl rfl)) (pgs_cons (pg_name (i := 5) sc_joined.nd rfl (Or.inl rfl)) pgs_nil))))
      (pss_one (ps_asg (pe_tup (pa_cons (pv 4) (pa_cons (pe_callB (call_max2 rfl) (by rfl) T.m_max (by decide +kernel) (pa_cons (pv 5) (pa_cons (pv 3) pa_nil))) pa_nil))) (pg_sub (pv 1) (pe_un un_neg pe_int) set_list)))) (pss_one (ps_expr (pe_bm PySem.F.plainAttrs_list PySem.F.slot_list_append PySem.F.type_list_append mt_append (pv 1) (pa_cons (pe_tup (pa_cons (pv 2) (pa_cons (pv 3) pa_nil))) pa_nil)))))))
      (pss_one (ps_ret (pv 1))))), ?_⟩
    refine ⟨Nat.zero_le _, fun C nC => ?_⟩
    obtain ⟨gC, sC⟩ := upd_at (o := .lst []) nC
    have hS1 := hS.same sC
    refine ⟨_, rfl, l, us, kOf (upd H C (.lst [])), rfl, SqL.of (sC _ _ hl), fun x hx => ?_, fun ys p srt stb np => ?_⟩
    · obtain ⟨sp, _, t, e, ht⟩ := hS1.mem hx
      refine ⟨t, e, ?_⟩
      rw [kOf_spn ⟨t, e, ht⟩]
      exact ht
    have mem : ∀ v ∈ ys, v ∈ us := fun v hv => stb.perm.mem_iff.mp hv
    have hY : Sps (upd H C (.lst [])) ys (ys.map (kOf (upd H C (.lst [])))) := sps_of fun v hv => by
      obtain ⟨sp, _, h1⟩ := hS1.mem (mem v hv)
      rw [kOf_spn h1]
      exact h1
    have prm : (ys.map (kOf (upd H C (.lst [])))).Perm ss := by
      rw [← hS1.kmap]
      exact stb.perm.map _
    have ord : (ys.map (kOf (upd H C (.lst [])))).Pairwise (fun a b => a.1 ≤ b.1) := by
      rw [List.pairwise_map]
      refine srt.imp fun {a b} h => ?_
      have := SrtO.lexB_no.mp h
      omega
    revert hY prm ord
    generalize ys.map (kOf (upd H C (.lst []))) = rs
    intro hY prm ord
    have posR : ∀ s ∈ rs, s.1 < s.2 := fun s hs => pos s (prm.mem_iff.mp hs)
    have lenR := prm.length_eq
    obtain ⟨gp, sp⟩ := upd_at (o := .lst ys) np
    have nCp : C ≠ p := ne_of_none gC np
    have hnC : H C = none := nC
    refine ⟨p, rfl, ⟨_, SqL.of gp⟩, ?_⟩
    have hYlen := hY.len
    refine for_list (K := K) (a := p) (xs := ys) (fun i σ H' => ∃ y2 y3 y4 y5 cvs acc, σ = [some (.ref l), some (.ref C), y2, y3, y4, y5] ∧ Same H H' ∧ H' p = some (.lst ys) ∧ Sps H' ys rs ∧ H' C = some (.lst cvs) ∧ Sps H' cvs acc ∧ Can acc ∧ (∀ x, Mem acc x ↔ Mem (rs.take i) x) ∧ acc.length ≤ i ∧ ∀ s ∈ acc, ∀ r ∈ rs.drop i, s.1 ≤ r.1)
      ⟨none, none, none, none, [], [], rfl, sC.trans sp, gp, hY.same sp, sp _ _ gC, .nil, can_nil, fun x => Iff.rfl, Nat.le_refl _, fun s hs => nomatch hs⟩ (fun i σ H' _ ⟨_, _, _, _, _, _, _, _, h, _⟩ => SqL.of h) ?_ ?_
    · rintro i y σ H' hi ⟨y2, y3, y4, y5, cvs, acc, rfl, sm, hp, hY', hC, hA, can, mm, al, low⟩
      obtain ⟨r, hr', t, rfl, ht⟩ := hY'.get hi
      have hrm : r ∈ rs := List.mem_of_getElem? hr'
      have hil : i < rs.length := (List.getElem?_eq_some_iff.mp hr').1
      have rpos := posR r hrm
      have tk : rs.take (i + 1) = rs.take i ++ [r] := by
        rw [List.take_add_one, hr']
        rfl
      have dr : rs.drop i = r :: rs.drop (i + 1) := by
        obtain ⟨h1, h2⟩ := List.getElem?_eq_some_iff.mp hr'
        rw [List.drop_eq_getElem_cons h1, h2]
      have rl : ∀ s ∈ acc, s.1 ≤ r.1 := fun s hs => low s hs r (by rw [dr]; exact List.mem_cons_self)
      have rr : ∀ u ∈ rs.drop (i + 1), r.1 ≤ u.1 := fun u hu => by
        have h1 := ord.sublist (List.drop_sublist i rs)
        rw [dr] at h1
        exact (List.pairwise_cons.mp h1).1 u hu
      have low' : ∀ s ∈ acc, ∀ u ∈ rs.drop (i + 1), s.1 ≤ u.1 := fun s hs u hu => low s hs u (by rw [dr]; exact List.mem_cons_of_mem _ hu)
      -- a step's end: C holds the spans acc2
      have fin : ∀ (H2 : Hp) (z2 z3 z4 z5 : Option V) (cvs2 : List V) (acc2 : List Span), Same H' H2 → Sps H2 cvs2 acc2 → Can acc2 → (∀ x, Mem acc2 x ↔ Mem acc x ∨ (r.1 ≤ x ∧ x < r.2)) → acc2.length ≤ i + 1 → (∀ s ∈ acc2, s.1 ≤ r.1) →
          ∃ y2 y3 y4 y5 cvs acc, [some (V.ref l), some (V.ref C), z2, z3, z4, z5] = [some (V.ref l), some (V.ref C), y2, y3, y4, y5] ∧ Same H (upd H2 C (.lst cvs2)) ∧ (upd H2 C (.lst cvs2)) p = some (.lst ys) ∧ Sps (upd H2 C (.lst cvs2)) ys rs ∧ (upd H2 C (.lst cvs2)) C = some (.lst cvs) ∧ Sps (upd H2 C (.lst cvs2)) cvs acc ∧ Can acc ∧ (∀ x, Mem acc x ↔ Mem (rs.take (i + 1)) x) ∧ acc.length ≤ i + 1 ∧ ∀ s ∈ acc, ∀ u ∈ rs.drop (i + 1), s.1 ≤ u.1 :=
        fun H2 z2 z3 z4 z5 cvs2 acc2 s2 hA2 can2 m2 l2 lo2 => by
          have cC : Chg [C] H2 (upd H2 C (.lst cvs2)) := Chg.upd List.mem_cons_self
          have lC : Lsts [C] H2 := Lsts.of1 (s2 _ _ hC)
          refine ⟨z2, z3, z4, z5, cvs2, acc2, rfl, same_more (sm.trans s2) hnC, cC _ _ (nmem1 nCp.symm) (s2 _ _ hp), (hY'.same s2).chg cC lC, upd_same, hA2.chg cC lC, can2, fun x => ?_, l2, fun s hs u hu => Int.le_trans (lo2 s hs) (rr u hu)⟩
          rw [m2, mm, tk, mem_app, mem_one]
      refine ⟨t, _, rfl, SqT.of ht, rfl, _, _, rfl, _, _, rfl, rfl, ?_⟩
      by_cases hn : acc = []
      · -- nothing yet
        have cn : cvs = [] := by
          have := hA.len
          rw [hn] at this
          exact List.length_eq_zero_iff.mp this
        refine ⟨_, rfl, false, .inl ⟨_, SqL.of hC, by rw [cn]; rfl⟩, iteF (iteF ?_)⟩
        refine ⟨_, rfl, .inl ⟨rfl, _, SqL.of hC⟩, _, rfl, _, rfl, (by show 2 ≤ sizeLine; decide), fun t2 n2 => ?_⟩
        obtain ⟨g2, s2⟩ := upd_at (o := .tup [.int r.1, .int r.2]) n2
        refine ⟨C, cvs, .ref t2, rfl, rfl, s2 _ _ hC, ?_, ?_⟩
        · rw [cn]
          exact small_lt (by simp)
        · refine fin _ _ _ _ _ _ [r] s2 ?_ (can_one rpos) (fun x => ?_) (by simp) (fun s hs => ?_)
          · rw [cn]
            exact .one ⟨t2, rfl, g2⟩
          · rw [hn, mem_one]
            constructor
            · exact .inr
            · rintro (h | h)
              · exact absurd h (mem_nil x)
              · exact h
          · rw [List.mem_singleton.mp hs]
            exact Int.le_refl _
      · obtain ⟨a, x, rfl⟩ := snoc_of hn
        obtain ⟨ua, vx, rfl, hAa, tx, rfl, htx⟩ := hA.snoc
        have lx := can_app_lt can
        have xpos := can.2 x (List.mem_append_right _ (List.mem_singleton.mpr rfl))
        have xr := rl x (List.mem_append_right _ (List.mem_singleton.mpr rfl))
        have alen : a.length + 1 ≤ i := by simpa using al
        refine ⟨_, rfl, true, .inl ⟨_, SqL.of hC, by simp⟩, iteT ?_⟩
        refine ⟨_, rfl, _, rfl, 1, rfl, C, _, -1, .ref tx, rfl, rfl, SqL.of hC, atI_last _ _, tx, _, _, _, rfl, rfl, SqT.of htx, atI_nat (j := 1) rfl, _, _, rfl, rfl, _, rfl, ?_⟩
        by_cases ov : r.1 ≤ x.2
        · rw [decide_eq_true ov]
          refine iteT ?_
          refine ⟨_, rfl, 1, rfl, C, _, -1, .ref tx, rfl, rfl, SqL.of hC, atI_last _ _, tx, _, rfl, SqT.of htx, rfl, _, _, rfl, _, _, rfl, rfl, ?_⟩
          refine ⟨_, rfl, _, rfl, _, rfl, _, _, rfl, (by show 2 ≤ sizeLine; decide), fun t2 n2 => ?_⟩
          generalize hmx : (if r.2 > x.2 then r.2 else x.2) = mx
          obtain ⟨g2, s2⟩ := upd_at (o := .tup [.int x.1, .int mx]) n2
          have mx1 : x.2 ≤ mx := by
            split at hmx <;> omega
          have mx2 : r.2 ≤ mx := by
            split at hmx <;> omega
          have mx3 : mx = r.2 ∨ mx = x.2 := by
            split at hmx <;> omega
          refine ⟨_, rfl, 1, rfl, C, ua ++ [.ref tx], -1, ua.length, rfl, rfl, s2 _ _ hC, ?_, ?_⟩
          · unfold ixN
            rw [if_neg (by decide), if_pos (by simp; omega)]
            congr 1
            simp
            omega
          · have st : (ua ++ [V.ref tx]).set ua.length (.ref t2) = ua ++ [.ref t2] := by simp
            rw [st]
            refine fin _ _ _ _ _ _ (a ++ [(x.1, mx)]) s2 ((hAa.same s2).app (.one ⟨t2, rfl, g2⟩)) (can_snoc (can_app_l can) (by show x.1 < mx; omega) lx) (fun z => ?_) (by simpa using Nat.le_succ_of_le alen) (fun s hs => ?_)
            · rw [mem_app, mem_one, mem_app, mem_one]
              constructor
              · rintro (h | h)
                · exact .inl (.inl h)
                · by_cases hz : z < x.2
                  · exact .inl (.inr ⟨h.1, hz⟩)
                  · exact .inr ⟨by omega, by have := h.2; rcases mx3 with e | e <;> omega⟩
              · rintro ((h | h) | h)
                · exact .inl h
                · exact .inr ⟨h.1, by have := h.2; omega⟩
                · exact .inr ⟨by show x.1 ≤ z; omega, by show z < mx; omega⟩
            · rcases List.mem_append.mp hs with m | m
              · exact rl s (List.mem_append_left _ m)
              · rw [List.mem_singleton.mp m]
                exact xr
        · rw [decide_eq_false ov]
          refine iteF ?_
          refine ⟨_, rfl, .inl ⟨rfl, _, SqL.of hC⟩, _, rfl, _, rfl, (by show 2 ≤ sizeLine; decide), fun t2 n2 => ?_⟩
          obtain ⟨g2, s2⟩ := upd_at (o := .tup [.int r.1, .int r.2]) n2
          refine ⟨C, _, .ref t2, rfl, rfl, s2 _ _ hC, ?_, ?_⟩
          · have := hAa.len
            exact small_lt (by simp; omega)
          · have hA2 : Sps _ (ua ++ [.ref tx]) (a ++ [x]) := ((hAa.app (.one ⟨tx, rfl, htx⟩)).same s2)
            refine fin _ _ _ _ _ _ ((a ++ [x]) ++ [r]) s2 (hA2.app (.one ⟨t2, rfl, g2⟩)) (can_snoc can rpos fun s hs => ?_) (fun z => ?_) (by simpa using alen) (fun s hs => ?_)
            · rcases List.mem_append.mp hs with m | m
              · have := lx s m
                omega
              · rw [List.mem_singleton.mp m]
                omega
            · rw [mem_app, mem_one]
            · rcases List.mem_append.mp hs with m | m
              · exact rl s m
              · rw [List.mem_singleton.mp m]
                exact Int.le_refl _
    · rintro σ H' ⟨y2, y3, y4, y5, cvs, acc, rfl, sm, hp, hY', hC, hA, can, mm, al, low⟩
      rw [hYlen, List.take_length] at mm
      refine ⟨_, rfl, q H' C cvs acc sm hnC hC hA can (fun x => (mm x).trans (mem_perm prm x)) ?_⟩
      rw [← lenR, ← hYlen]
      exact al
theorem all_pos {ss : List Span} (h : ss.all isSpan = true) : ∀ s ∈ ss, s.1 < s.2 := fun s hs => ((isSpan_iff s).mp (List.all_eq_true.mp h s hs)).2.1
end
section
variable {P : Program} {w : World} {K : PySem.W.Frag} {mg : Str → Option Value} {base : Heap}
def spCoverOf (T : Tx K mg) : Sp := fun vs H Q E => ∃ (l : Addr) (us : List V) (ss : List Span), vs = [.ref l] ∧ H l = some (.lst us) ∧ Sps H us ss ∧ ss.length ≤ 100000 ∧ (ss.all isSpan = false → E (.ref T.C_NoSpan) none H) ∧
  (ss.all isSpan = true → ∀ H' p ws c, Same H H' → H p = none → H' p = some (.lst ws) → Sps H' ws c → Can c → (∀ x, Mem c x ↔ Mem ss x) → c.length ≤ ss.length → Q (.ref p) H')
theorem ok_cover_of (T : Tx K mg) : FnOk P w K mg base (L2.CX P w) (6) T.f_cover_of T.fd_cover_of ["spans"] (spCoverOf T) := by
  have G_check_spans : FnOk P w K mg base (L2.CX P w) _ _ _ _ _ := ok_check_spans T
  have G_joined : FnOk P w K mg base CX0 _ _ _ _ _ := ok_joined T
  refine T.F_cover_of.okX sc_cover_of (fun vs H Q E h => ?_) (fun cdv A outer s H vs Q E hr h => ?_)
  · obtain ⟨l, us, ss, rfl, _⟩ := h
    rfl
  · obtain ⟨l, us, ss, rfl, hl, hS, hlen, e, q⟩ := h
    refine ⟨_, (pss_cons (ps_expr (pe_call G_check_spans (hr.mono (by decide)) (by rfl) T.g_check_spans T.F_check_spans.kp T.b_check_spans .nil (passes_call (takes_of rfl rfl rfl rfl) (fun _ _ _ _ h => h)) (pa_cons (pv 0) pa_nil)))
      (pss_one (ps_ret (pe_call G_joined (hr.mono (by decide)) (by rfl) T.g_joined T.F_joined.kp T.b_joined .nil pass0 (pa_cons (pv 0) pa_nil))))), ?_⟩
    refine ⟨_, rfl, l, us, ss, rfl, hl, hS, fun ok => ?_, e⟩
    exact ⟨_, rfl, l, us, ss, rfl, hl, hS, all_pos ok, hlen, fun H' p ws c s1 n1 h1 h2 h3 h4 h5 => q ok H' p ws c s1 n1 h1 h2 h3 h4 h5⟩
end
/-! ### depths, changes, pieces of one depth: arithmetic -/
def holdsB (x : Int) (s : Span) : Bool := decide (s.1 ≤ x) && decide (x < s.2)
theorem holds_iff {x : Int} {s : Span} : holdsB x s = true ↔ s.1 ≤ x ∧ x < s.2 := by
  unfold holdsB
  rw [Bool.and_eq_true, decide_eq_true_eq, decide_eq_true_eq]
def dep (ss : List Span) (x : Int) : Nat := (ss.filter (holdsB x)).length
theorem dep_cons (s : Span) (ss : List Span) (x : Int) : dep (s :: ss) x = (if holdsB x s = true then 1 else 0) + dep ss x := by
  unfold dep
  rw [List.filter_cons]
  split
  · simp
    omega
  · simp
theorem dep_perm {ss ts : List Span} (h : ss.Perm ts) (x : Int) : dep ss x = dep ts x := (h.filter _).length_eq
theorem dep_app (ss ts : List Span) (x : Int) : dep (ss ++ ts) x = dep ss x + dep ts x := by
  unfold dep
  rw [List.filter_append, List.length_append]
/-- the change at a place: how many begin, less how many end -/
def chgAt : List Span → Int → Int
  | [], _ => 0
  | s :: ss, x => ((if s.1 = x then 1 else 0) - (if s.2 = x then 1 else 0)) + chgAt ss x
theorem chgAt_app (ss ts : List Span) (x : Int) : chgAt (ss ++ ts) x = chgAt ss x + chgAt ts x := by
  induction ss with
  | nil => simp [chgAt]
  | cons s r ih =>
    show _ + chgAt (r ++ ts) x = _
    rw [ih]
    simp only [chgAt]
    omega
theorem dep_step {ss : List Span} (h : ∀ s ∈ ss, s.1 < s.2) (x : Int) : ((dep ss x : Nat) : Int) = dep ss (x - 1) + chgAt ss x := by
  induction ss with
  | nil => rfl
  | cons s r ih =>
    have h1 := h s List.mem_cons_self
    have h2 := ih fun t ht => h t (List.mem_cons_of_mem _ ht)
    rw [dep_cons, dep_cons]
    simp only [chgAt, holdsB, Bool.and_eq_true, decide_eq_true_eq]
    push_cast
    split <;> split <;> split <;> split <;> omega
theorem chgAt_out {ss : List Span} {x : Int} (h : ∀ s ∈ ss, s.1 ≠ x ∧ s.2 ≠ x) : chgAt ss x = 0 := by
  induction ss with
  | nil => rfl
  | cons s r ih =>
    have h1 := h s List.mem_cons_self
    simp only [chgAt]
    rw [ih fun t ht => h t (List.mem_cons_of_mem _ ht), if_neg h1.1, if_neg h1.2]
    rfl
theorem dep_zero {ss : List Span} {x : Int} (h : ∀ s ∈ ss, x < s.1 ∨ s.2 ≤ x) : dep ss x = 0 := by
  unfold dep
  rw [List.length_eq_zero_iff, List.filter_eq_nil_iff]
  intro s hs z
  have := holds_iff.mp z
  have := h s hs
  omega
abbrev Piece := Int × Int × Int
/-- the pieces of one depth above 0, as long as can be, from b on -/
def PF (f : Int → Int) : Int → List Piece → Prop
  | b, [] => ∀ x, b ≤ x → f x = 0
  | b, p :: r => b ≤ p.1 ∧ p.1 < p.2.1 ∧ 0 < p.2.2 ∧ (∀ x, b ≤ x → x < p.1 → f x = 0) ∧ (∀ x, p.1 ≤ x → x < p.2.1 → f x = p.2.2) ∧ f p.2.1 ≠ p.2.2 ∧ PF f p.2.1 r
theorem PF.ext {f : Int → Int} : ∀ {l m : List Piece} {b : Int}, PF f b l → PF f b m → l = m
  | [], [], _, _, _ => rfl
  | [], q :: m, b, h, k => by
    obtain ⟨k1, k2, k3, k4, k5, k6, k7⟩ := k
    have := h q.1 k1
    have := k5 q.1 (Int.le_refl _) k2
    omega
  | p :: l, [], b, h, k => by
    obtain ⟨k1, k2, k3, k4, k5, k6, k7⟩ := h
    have := k p.1 k1
    have := k5 p.1 (Int.le_refl _) k2
    omega
  | (a, c, d) :: l, (a', c', d') :: m, b, h, k => by
    obtain ⟨h1, h2, h3, h4, h5, h6, h7⟩ := h
    obtain ⟨k1, k2, k3, k4, k5, k6, k7⟩ := k
    simp only at *
    have ea : a = a' := by
      rcases Int.lt_trichotomy a a' with z | z | z
      · have := k4 a h1 z
        have := h5 a (Int.le_refl _) h2
        omega
      · exact z
      · have := h4 a' k1 z
        have := k5 a' (Int.le_refl _) k2
        omega
    subst ea
    have ed : d = d' := by
      have := h5 a (Int.le_refl _) h2
      have := k5 a (Int.le_refl _) k2
      omega
    subst ed
    have ec : c = c' := by
      rcases Int.lt_trichotomy c c' with z | z | z
      · have := k5 c (by omega) z
        omega
      · exact z
      · have := h5 c' (by omega) z
        omega
    subst ec
    rw [PF.ext h7 k7]
theorem PF.back {f : Int → Int} {b c : Int} : ∀ {l : List Piece}, PF f b l → (∀ x, c ≤ x → x < b → f x = 0) → c ≤ b → PF f c l
  | [], h, z, hc => fun x hx => by
    by_cases e : x < b
    · exact z x hx e
    · exact h x (by omega)
  | p :: r, ⟨h1, h2, h3, h4, h5, h6, h7⟩, z, hc => ⟨by omega, h2, h3, fun x hx hp => by
      by_cases e : x < b
      · exact z x hx e
      · exact h4 x (by omega) hp, h5, h6, h7⟩
/-- what is built of the changes -/
def lay (d b : Int) : List Span → List Piece
  | [] => []
  | (p, c) :: r => if 0 < d then (b, p, d) :: lay (d + c) p r else lay (d + c) p r
/-- all changes behind b -/
def Chs (f : Int → Int) : Int → List Span → Prop
  | b, [] => ∀ x, b < x → f x = f (x - 1)
  | b, (p, c) :: r => b < p ∧ (∀ x, b < x → x < p → f x = f (x - 1)) ∧ f p = f (p - 1) + c ∧ c ≠ 0 ∧ Chs f p r
theorem const_on {f : Int → Int} {b : Int} : ∀ (n : Nat), (∀ x, b < x → x < b + 1 + n → f x = f (x - 1)) → f (b + n) = f b
  | 0, _ => by simp
  | n + 1, h => by
    have e := h (b + (n + 1 : Nat)) (by omega) (by omega)
    have := const_on n fun x h1 h2 => h x h1 (by omega)
    rw [show b + ((n + 1 : Nat) : Int) - 1 = b + n by omega] at e
    omega
theorem const_at {f : Int → Int} {b p x : Int} (h : ∀ x, b < x → x < p → f x = f (x - 1)) (h1 : b ≤ x) (h2 : x < p) : f x = f b := by
  have e := const_on (f := f) (b := b) (x - b).toNat fun y h3 h4 => h y h3 (by omega)
  rw [show b + ((x - b).toNat : Int) = x by omega] at e
  exact e
theorem lay_pf {f : Int → Int} (f0 : ∀ x, 0 ≤ f x) {B : Int} (hB : ∀ x, B ≤ x → f x = 0) : ∀ {l : List Span} {b : Int}, Chs f b l → PF f b (lay (f b) b l)
  | [], b, h => fun x hx => by
    have h1 := const_at (f := f) (b := b) (p := max B x + 1) (x := max B x) (fun y h1 _ => h y h1) (by omega) (by omega)
    have h2 := const_at (f := f) (b := b) (p := x + 1) (x := x) (fun y h1 _ => h y h1) hx (by omega)
    have h3 := hB (max B x) (by omega)
    omega
  | (p, c) :: r, b, ⟨h1, h2, h3, h4, h5⟩ => by
    have hp : f (p - 1) = f b := const_at h2 (by omega) (by omega)
    have ih := lay_pf f0 hB h5
    have e : f b + c = f p := by omega
    show PF f b (if 0 < f b then (b, p, f b) :: lay (f b + c) p r else lay (f b + c) p r)
    rw [e]
    split
    · rename_i hd
      exact ⟨Int.le_refl _, h1, hd, fun x a b' => by omega, fun x a b' => const_at h2 a b', by show f p ≠ f b; omega, ih⟩
    · rename_i hd
      refine ih.back (fun x a b' => ?_) (by omega)
      have := const_at h2 a b'
      have := f0 b
      omega
theorem lay_zero {d b b' : Int} (h : ¬ 0 < d) : ∀ l, lay d b l = lay d b' l
  | [] => rfl
  | (p, c) :: r => by
    show (if 0 < d then _ else _) = (if 0 < d then _ else _)
    rw [if_neg h, if_neg h]
/-- the changes, told by their places -/
theorem chs_of {f : Int → Int} : ∀ {l : List Span} {b : Int}, (l.map (·.1)).Pairwise (· < ·) → (∀ q ∈ l, b < q.1 ∧ q.2 ≠ 0 ∧ f q.1 = f (q.1 - 1) + q.2) → (∀ x, b < x → f x ≠ f (x - 1) → x ∈ l.map (·.1)) → Chs f b l
  | [], b, _, _, h => fun x hx => by
    by_cases e : f x = f (x - 1)
    · exact e
    · exact absurd (h x hx e) (by simp)
  | (p, c) :: r, b, h1, h2, h3 => by
    obtain ⟨h11, h12⟩ := List.pairwise_cons.mp h1
    obtain ⟨a1, a2, a3⟩ := h2 (p, c) List.mem_cons_self
    refine ⟨a1, fun x x1 x2 => ?_, a3, a2, chs_of h12 (fun q hq => ⟨h11 q.1 (List.mem_map.mpr ⟨q, hq, rfl⟩), (h2 q (List.mem_cons_of_mem _ hq)).2⟩) fun x x1 x2 => ?_⟩
    · by_cases e : f x = f (x - 1)
      · exact e
      · rcases List.mem_cons.mp (h3 x x1 e) with z | z
        · simp only at z
          omega
        · have := h11 x z
          simp only at this
          omega
    · rcases List.mem_cons.mp (h3 x (by simp only at a1; omega) x2) with z | z
      · simp only at z
        omega
      · exact z
theorem pf_lo {f : Int → Int} : ∀ {l : List Piece} {b : Int}, PF f b l → ∀ p ∈ l, b ≤ p.1 ∧ p.1 < p.2.1 ∧ 0 < p.2.2 ∧ f p.1 = p.2.2
  | q :: l, b, ⟨h1, h2, h3, h4, h5, h6, h7⟩, p, hp => by
    rcases List.mem_cons.mp hp with rfl | hp
    · exact ⟨h1, h2, h3, h5 _ (Int.le_refl _) h2⟩
    · obtain ⟨a1, a2⟩ := pf_lo h7 p hp
      exact ⟨by omega, a2⟩
theorem pf_rise {f : Int → Int} : ∀ {l : List Piece} {b : Int}, PF f b l → (l.map (·.1)).Pairwise (· < ·)
  | [], _, _ => List.Pairwise.nil
  | q :: l, b, ⟨h1, h2, h3, h4, h5, h6, h7⟩ => by
    refine List.pairwise_cons.mpr ⟨fun x hx => ?_, pf_rise h7⟩
    obtain ⟨p, hp, rfl⟩ := List.mem_map.mp hx
    have := (pf_lo h7 p hp).1
    show q.1 < p.1
    omega
theorem pf_in {f : Int → Int} : ∀ {l : List Piece} {b : Int}, PF f b l → ∀ x, b ≤ x → f x ≠ 0 → ∃ p ∈ l, p.1 ≤ x ∧ x < p.2.1 ∧ f x = p.2.2
  | [], b, h, x, hx, hf => absurd (h x hx) hf
  | q :: l, b, ⟨h1, h2, h3, h4, h5, h6, h7⟩, x, hx, hf => by
    by_cases e : x < q.1
    · exact absurd (h4 x hx e) hf
    · by_cases e2 : x < q.2.1
      · exact ⟨q, List.mem_cons_self, by omega, e2, h5 x (by omega) e2⟩
      · obtain ⟨p, hp, a⟩ := pf_in h7 x (by omega) hf
        exact ⟨p, List.mem_cons_of_mem _ hp, a⟩
/-- the deepest of the pieces, the first one -/
def stpB : Option Span → Piece → Option Span
  | none, p => some (p.2.2, p.1)
  | some b, p => if b.1 < p.2.2 then some (p.2.2, p.1) else some b
def bestL (l : List Piece) : Option Span := l.foldl stpB none
theorem bestL_snoc (l : List Piece) (p : Piece) : bestL (l ++ [p]) = stpB (bestL l) p := by
  unfold bestL
  rw [List.foldl_append]
  rfl
/-- ps are the pieces of the spans ss -/
def Prf (ss : List Span) (ps : List Piece) : Prop := ∀ b, (∀ s ∈ ss, b < s.1) → PF (fun x => ((dep ss x : Nat) : Int)) b ps
theorem low_of (ss : List Span) : ∃ b : Int, ∀ s ∈ ss, b < s.1 := by
  induction ss with
  | nil => exact ⟨0, fun s h => nomatch h⟩
  | cons s r ih =>
    obtain ⟨b, h⟩ := ih
    refine ⟨min b (s.1 - 1), fun t ht => ?_⟩
    rcases List.mem_cons.mp ht with rfl | ht
    · omega
    · have := h t ht
      omega
theorem Prf.ext {ss ts : List Span} {l m : List Piece} (h : Prf ss l) (k : Prf ts m) (e : ∀ x, dep ss x = dep ts x) (b : Int) (h1 : ∀ s ∈ ss, b < s.1) (h2 : ∀ s ∈ ts, b < s.1) : l = m := by
  have k' := k b h2
  have : (fun x => ((dep ts x : Nat) : Int)) = fun x => ((dep ss x : Nat) : Int) := funext fun x => by rw [e x]
  rw [this] at k'
  exact (h b h1).ext k'
theorem Prf.perm {ss ts : List Span} {l m : List Piece} (h : Prf ss l) (k : Prf ts m) (e : ss.Perm ts) : l = m := by
  obtain ⟨b, hb⟩ := low_of ss
  exact h.ext k (dep_perm e) b hb fun s hs => hb s (e.mem_iff.mpr hs)
theorem high_of (ss : List Span) : ∃ b : Int, ∀ s ∈ ss, s.2 ≤ b := by
  induction ss with
  | nil => exact ⟨0, fun s h => nomatch h⟩
  | cons s r ih =>
    obtain ⟨b, h⟩ := ih
    refine ⟨max b s.2, fun t ht => ?_⟩
    rcases List.mem_cons.mp ht with rfl | ht
    · omega
    · have := h t ht
      omega
/-- the told changes of ss -/
def Cng (ss : List Span) (cs : List Span) : Prop := (cs.map (·.1)).Pairwise (· < ·) ∧ (∀ q ∈ cs, q.2 ≠ 0 ∧ q.2 = chgAt ss q.1) ∧ ∀ x, chgAt ss x ≠ 0 → x ∈ cs.map (·.1)
theorem lay_prf {ss cs : List Span} (hs : ∀ s ∈ ss, s.1 < s.2) (h : Cng ss cs) (b0 : Int) : Prf ss (lay 0 b0 cs) := fun b hb => by
  obtain ⟨h1, h2, h3⟩ := h
  obtain ⟨B, hB⟩ := high_of ss
  have st := dep_step hs
  have f0 : dep ss b = 0 := dep_zero fun s h => .inl (hb s h)
  have e : lay 0 b0 cs = lay (((dep ss b : Nat) : Int)) b cs := by
    rw [f0]
    exact lay_zero (by decide) cs
  rw [e]
  refine lay_pf (f := fun x => ((dep ss x : Nat) : Int)) (fun x => Int.natCast_nonneg _) (B := B) (fun x hx => ?_) (chs_of h1 (fun q hq => ⟨?_, (h2 q hq).1, ?_⟩) fun x hx hne => h3 x ?_)
  · have := dep_zero (ss := ss) (x := x) fun s h => .inr (by have := hB s h; omega)
    show ((dep ss x : Nat) : Int) = 0
    rw [this]
    rfl
  · obtain ⟨q1, q2⟩ := h2 q hq
    by_cases e : b < q.1
    · exact e
    · exact absurd (chgAt_out (ss := ss) (x := q.1) fun s h => by have := hb s h; have := hs s h; omega) (by omega)
  · have := st q.1
    have := (h2 q hq).2
    show ((dep ss q.1 : Nat) : Int) = ((dep ss (q.1 - 1) : Nat) : Int) + q.2
    omega
  · have h9 := st x
    have hne : ((dep ss x : Nat) : Int) ≠ ((dep ss (x - 1) : Nat) : Int) := hne
    omega
/-- few ends -/
def Few (ss : List Span) : Prop := ss.length ≤ 400 ∧ ∃ es : List Int, es.length < 64 ∧ ∀ s ∈ ss, s.1 ∈ es ∧ s.2 ∈ es
theorem few_of {ss : List Span} (h : ss.length < 32) : Few ss := ⟨by omega, ss.map (·.1) ++ ss.map (·.2), by rw [List.length_append, List.length_map, List.length_map]; omega, fun s hs => ⟨List.mem_append_left _ (List.mem_map.mpr ⟨s, hs, rfl⟩), List.mem_append_right _ (List.mem_map.mpr ⟨s, hs, rfl⟩)⟩⟩
theorem few_two {ss ts : List Span} {n : Nat} (hn : ss.length + ts.length < n) (h : 2 * n ≤ 64) : Few (ss ++ ts) := few_of (by rw [List.length_append]; omega)
theorem few_twice {ss : List Span} (h : Few ss) (h2 : ss.length ≤ 200) : Few (ss ++ ss) := by
  obtain ⟨_, es, e1, e2⟩ := h
  refine ⟨by rw [List.length_append]; omega, es, e1, fun s hs => ?_⟩
  rcases List.mem_append.mp hs with z | z
  · exact e2 s z
  · exact e2 s z
section
variable {P : Program} {w : World} {K : PySem.W.Frag} {mg : Str → Option Value} {base : Heap}
/-! ### the program: depths -/
/-- what a dict of counts holds -/
structure Cnt (kvs : List (Key × V)) (ks : List Int) (g : Int → Int) : Prop where
  keys : kvs.map (·.1) = ks.map Sum.inl
  nd : ks.Nodup
  val : ∀ p : Int, valV kvs (.inl p) = if p ∈ ks then some (.int (g p)) else none
  out : ∀ p, p ∉ ks → g p = 0
theorem Cnt.nil : Cnt [] [] (fun _ => 0) := ⟨rfl, List.nodup_nil, fun _ => rfl, fun _ _ => rfl⟩
theorem Cnt.get {kvs : List (Key × V)} {ks : List Int} {g : Int → Int} (h : Cnt kvs ks g) (p : Int) : (valV kvs (.inl p)).getD (.int 0) = .int (g p) := by
  rw [h.val p]
  by_cases e : p ∈ ks
  · rw [if_pos e]
    rfl
  · rw [if_neg e, h.out p e]
    rfl
theorem Cnt.put {kvs : List (Key × V)} {ks : List Int} {g : Int → Int} (h : Cnt kvs ks g) (p d : Int) : ∃ ks', Cnt (putK kvs (.inl p) (.int (g p + d))) ks' (fun q => g q + if q = p then d else 0) ∧ (∀ q, q ∈ ks' ↔ q ∈ ks ∨ q = p) ∧ ks'.length ≤ ks.length + 1 := by
  by_cases e : p ∈ ks
  · have hs : (kvs.any fun kv => decide (kv.1 = (Sum.inl p : Key))) = true := by
      rw [valV_any, h.val p, if_pos e]
      rfl
    refine ⟨ks, ⟨?_, h.nd, fun q => ?_, fun q hq => ?_⟩, fun q => ⟨.inl, fun z => z.elim id fun z => by rw [z]; exact e⟩, by omega⟩
    · unfold putK
      rw [if_pos hs, List.map_map, ← h.keys]
      refine List.map_congr_left fun kv _ => ?_
      show (if kv.1 = Sum.inl p then (kv.1, V.int (g p + d)) else kv).1 = kv.1
      split <;> rfl
    · rw [valV_put]
      by_cases eq : q = p
      · subst eq
        rw [if_pos rfl, if_pos e, if_pos rfl]
      · rw [if_neg (fun z => eq (Sum.inl.inj z)), h.val q, if_neg eq, Int.add_zero]
    · rw [h.out q hq, if_neg (fun z => hq (by rw [z]; exact e))]
      rfl
  · have hn : valV kvs (.inl p) = none := by rw [h.val p, if_neg e]
    refine ⟨ks ++ [p], ⟨?_, ?_, fun q => ?_, fun q hq => ?_⟩, fun q => by simp, by simp⟩
    · rw [putK_new _ hn, List.map_append, h.keys, List.map_append]
      rfl
    · rw [List.nodup_append]
      exact ⟨h.nd, by simp, fun a ha b hb => by rw [List.mem_singleton.mp hb]; exact fun z => e (by rw [← z]; exact ha)⟩
    · rw [valV_put]
      by_cases eq : q = p
      · subst eq
        rw [if_pos rfl, if_pos (by simp), if_pos rfl]
      · rw [if_neg (fun z => eq (Sum.inl.inj z)), h.val q, if_neg eq, Int.add_zero]
        by_cases e2 : q ∈ ks
        · rw [if_pos e2, if_pos (List.mem_append_left _ e2)]
        · rw [if_neg e2, if_neg (by simp [e2, eq])]
    · have h1 : q ∉ ks := fun z => hq (List.mem_append_left _ z)
      rw [h.out q h1, if_neg (fun z => hq (by rw [z]; simp))]
      rfl
def spChanges : Sp := fun vs H Q _ => ∃ (l : Addr) (us : List V) (ss : List Span), vs = [.ref l] ∧ H l = some (.lst us) ∧ Sps H us ss ∧ Few ss ∧
  ∀ (H' : Hp) (r : Addr) (ws : List V) (cs : List Span), Same H H' → H r = none → H' r = some (.lst ws) → Sps H' ws cs → Cng ss cs → cs.length ≤ 64 → Q (.ref r) H'
theorem ok_changes_of (T : Tx K mg) : FnOk P w K mg base CX0 (1) T.f_changes_of T.fd_changes_of ["spans"] spChanges := by
  refine T.F_changes_of.ok sc_changes_of (fun vs H Q E h => ?_) (fun cdv A outer s H vs Q E hr h => ?_)
  · obtain ⟨l, us, ss, rfl, _⟩ := h
    rfl
  · obtain ⟨l, us, ss, rfl, hl, hS, few, q⟩ := h
    have hlen := few.1
    refine ⟨_, (pss_cons (ps_set (i := 1) sc_changes_of.nd rfl (Or.inr rfl) pe_dnewK)
      (pss_cons (ps_for PassesOwn.never (by rfl) (pi_list (pv 0)) (pg_tup rfl (pgs_cons (pg_name (i := 2) sc_changes_of.nd rfl (Or.inl rfl)) (pgs_cons (pg_name (i := 3) sc_changes_of.nd rfl (Or.inl rfl)) pgs_nil)))
        (pss_cons (ps_asg (pe_op op_add (pe_dget2 (room_u hr) (pv 1) (pv 2) pe_int ⟨rfl, rfl, rfl, rfl⟩) pe_int) (pg_sub (pv 1) (pv 2) (set_dict (room_u hr))))
      (pss_one (ps_asg (pe_op op_sub (pe_dget2 (room_u hr) (pv 1) (pv 3) pe_int ⟨rfl, rfl, rfl, rfl⟩) pe_int) (pg_sub (pv 1) (pv 3) (set_dict (room_u hr)))))))
      (pss_one (ps_ret (pe_lc (own := [("place", 4)]) (g := (gName 4)) (by rfl) sc_changes_of.nd (pi_list (pe_callB (call_sortedDI rfl) (by rfl) T.m_sorted (by decide +kernel) (pa_cons (pv 1) pa_nil))) (blkOk_by (own := [("place", 4)]) (N := N_changes_of) (sc := defScope s_changes_of) (by decide +kernel)) (fun _ _ _ _ _ => (pg_name (i := 4) sc_changes_of.nd rfl (Or.inl rfl))) (fun _ _ _ _ _ => (pts_one (pt_cmpR op_ne (pe_dget (room_u hr) (pv 1) (pv 4) (fun _ _ => rfl)) pe_int (nomark _)))) (fun _ _ _ _ _ => (pe_tup (pa_cons (pv 4) (pa_cons (pe_dget (room_u hr) (pv 1) (pv 4) (fun _ _ => rfl)) pa_nil))))))))), ?_⟩
    have hul := hS.len
    intro D nD
    refine ⟨_, rfl, l, rfl, ⟨_, SqL.of ((same_upd nD) _ _ hl)⟩, for_list (K := K) (a := l) (xs := us) (fun i σ H' => ∃ y2 y3 y4 kvs ks, σ = [some (.ref l), some (.ref D), y2, y3, y4] ∧ Same H H' ∧ H' D = some (.dK kvs) ∧ Cnt kvs ks (chgAt (ss.take i)) ∧ ks.length ≤ 2 * i ∧ (∀ p ∈ ks, ∃ s ∈ ss, p = s.1 ∨ p = s.2))
      ⟨none, none, none, [], [], rfl, same_upd nD, upd_same, Cnt.nil, by simp, fun p h => nomatch h⟩ (fun i σ H' _ ⟨_, _, _, _, _, _, sm, _⟩ => SqL.of (sm _ _ hl)) ?_ ?_⟩
    · rintro i y σ H' hi ⟨y2, y3, y4, kvs, ks, rfl, sm, hD, hC, hk, hks⟩
      obtain ⟨sp, es, hsp⟩ := hS.get hi
      obtain ⟨t, rfl, ht⟩ := hsp.same sm
      have hi' : i < us.length := (List.getElem?_eq_some_iff.mp hi).1
      have kl : kvs.length = ks.length := by
        have := congrArg List.length hC.keys
        simpa using this
      refine ⟨t, _, rfl, SqT.of ht, rfl, _, _, rfl, _, _, rfl, rfl, ?_⟩
      refine ⟨_, rfl, D, rfl, .inl ⟨_, .inl hD⟩, _, rfl, _, DGet.k (k := .inl sp.1) hD, ?_⟩
      rw [hC.get]
      refine ⟨_, _, rfl, rfl, _, rfl, _, rfl, D, _, rfl, DPut.k (k := .inl sp.1) hD (small_lt (by omega)), ?_⟩
      obtain ⟨ks1, hC1, hm1, hl1⟩ := hC.put sp.1 1
      have hD1 : (upd H' D (.dK (putK kvs (.inl sp.1) (.int (chgAt (ss.take i) sp.1 + 1))))) D = some (.dK (putK kvs (.inl sp.1) (.int (chgAt (ss.take i) sp.1 + 1)))) := upd_same
      have sm1 := same_more (o := .dK (putK kvs (.inl sp.1) (.int (chgAt (ss.take i) sp.1 + 1)))) sm nD
      revert hC1 hD1 sm1
      generalize upd H' D (.dK (putK kvs (.inl sp.1) (.int (chgAt (ss.take i) sp.1 + 1)))) = H1
      generalize putK kvs (.inl sp.1) (.int (chgAt (ss.take i) sp.1 + 1)) = kv1
      intro hC1 hD1 sm1
      have kl1 : kv1.length = ks1.length := by
        have := congrArg List.length hC1.keys
        simpa using this
      refine ⟨_, rfl, D, rfl, .inl ⟨_, .inl hD1⟩, _, rfl, _, DGet.k (k := .inl sp.2) hD1, ?_⟩
      rw [hC1.get]
      refine ⟨_, _, rfl, rfl, _, rfl, _, rfl, D, _, rfl, DPut.k (k := .inl sp.2) hD1 (small_lt (by omega)), ?_⟩
      obtain ⟨ks2, hC2, hm2, hl2⟩ := hC1.put sp.2 (-1)
      refine ⟨_, _, _, _, ks2, rfl, same_more sm1 nD, upd_same, ?_, by omega, fun p hp => ?_⟩
      · have e : chgAt (ss.take (i + 1)) = fun q => chgAt (ss.take i) q + (if q = sp.1 then 1 else 0) + (if q = sp.2 then -1 else 0) := funext fun q => by
          rw [List.take_add_one, es]
          show chgAt (ss.take i ++ [sp]) q = _
          rw [chgAt_app]
          simp only [chgAt]
          split <;> split <;> split <;> split <;> omega
        rw [e]
        exact hC2
      · rcases (hm2 p).mp hp with z | z
        · rcases (hm1 p).mp z with z | z
          · exact hks p z
          · exact ⟨sp, List.mem_of_getElem? es, .inl z⟩
        · exact ⟨sp, List.mem_of_getElem? es, .inr z⟩
    · rintro σ H1 ⟨y2, y3, y4, kvs, ks, rfl, sm, hD, hC, hk, hks⟩
      rw [hul, List.take_length] at hC
      have k64 : ks.length < 64 := by
        obtain ⟨_, es, e1, e2⟩ := few
        have := nodup_len hC.nd (m := es) fun x hx => by
          obtain ⟨s, hs, z⟩ := hks x hx
          rcases z with z | z
          · rw [z]
            exact (e2 s hs).1
          · rw [z]
            exact (e2 s hs).2
        omega
      refine ⟨_, rfl, D, kvs, ks, rfl, .inl hD, hC.keys, k64, fun ys p prm srt np => ?_⟩
      obtain ⟨gp, sp⟩ := upd_at (o := .lst (ys.map V.int)) np
      have hD2 := sp _ _ hD
      have sm2 := sm.trans sp
      revert gp hD2 sm2
      generalize upd H1 p (.lst (ys.map V.int)) = H2
      intro gp hD2 sm2
      have mem : ∀ z, z ∈ ys ↔ z ∈ ks := fun z => prm.mem_iff
      have nd : ys.Nodup := prm.nodup_iff.mpr hC.nd
      have str : ys.Pairwise (· < ·) := (srt.and nd).imp fun {a b} ⟨h1, h2⟩ => by
        have : a ≠ b := h2
        omega
      have ylen : ys.length ≤ 64 := by
        have := prm.length_eq
        omega
      refine ⟨p, rfl, ⟨_, SqL.of gp⟩, fun D2 nD2 => ?_⟩
      refine lc_list (K := K) (a := p) (xs := ys.map V.int) (fun i H' => Same H2 H' ∧ ∃ ws, H' D2 = some (.lst ws) ∧ Sps H' ws (((ys.take i).filter fun z => decide (chgAt ss z ≠ 0)).map fun z => (z, chgAt ss z))) ⟨same_upd nD2, [], upd_same, .nil⟩ (fun i H' _ h => SqL.of (h.1 _ _ gp)) ?_ ?_
      · rintro i y H' hi ⟨sm3, ws, hw, hws⟩
        rw [List.getElem?_map] at hi
        obtain ⟨z, ez, rfl⟩ := Option.map_eq_some_iff.mp hi
        have hz : z ∈ ks := (mem z).mp (List.mem_of_getElem? ez)
        have tk : ys.take (i + 1) = ys.take i ++ [z] := by
          rw [List.take_add_one, ez]
          rfl
        have g1 : valV kvs (.inl z) = some (.int (chgAt ss z)) := by rw [hC.val z, if_pos hz]
        have wl := hws.len
        have wl2 : ws.length ≤ 64 := by
          rw [wl, List.length_map]
          have h1 := List.length_filter_le (fun z => decide (chgAt ss z ≠ 0)) (ys.take i)
          have h2 : (ys.take i).length ≤ ys.length := by
            rw [List.length_take]
            exact Nat.min_le_right _ _
          omega
        refine ⟨rfl, _, rfl, _, rfl, D, .int (chgAt ss z), rfl, ?_, ?_⟩
        · exact .inl ⟨kvs, .inl z, .inl (sm3 _ _ hD2), rfl, g1.symm⟩
        refine ⟨rfl, _, rfl, ?_⟩
        rw [tk, List.filter_append]
        by_cases h0 : chgAt ss z = 0
        · refine iteNS (congrArg V.int h0) ?_
          rw [show [z].filter (fun z => decide (chgAt ss z ≠ 0)) = [] by simp [h0], List.append_nil]
          exact ⟨sm3, ws, hw, hws⟩
        · refine iteNT (fun e => h0 (V.int.inj e)) ?_
          refine ⟨_, rfl, _, rfl, _, rfl, D, .int (chgAt ss z), rfl, .inl ⟨kvs, .inl z, .inl (sm3 _ _ hD2), rfl, g1.symm⟩, (by show 2 ≤ sizeLine; decide), fun t nt => ?_⟩
          have st := same_upd (o := .tup [.int z, .int (chgAt ss z)]) nt
          have nt2 : t ≠ D2 := (ne_of_none hw nt).symm
          refine ⟨ws, st _ _ hw, small_lt (by omega), ?_, ws ++ [.ref t], upd_same, ?_⟩
          · exact same_more (sm3.trans st) nD2
          · have cf : Chg [D2] (upd H' t (.tup [.int z, .int (chgAt ss z)])) (upd (upd H' t (.tup [.int z, .int (chgAt ss z)])) D2 (.lst (ws ++ [.ref t]))) := Chg.upd List.mem_cons_self
            rw [List.map_append]
            refine Sps.app ((hws.same st).chg cf (Lsts.of1 (st _ _ hw))) ?_
            rw [show [z].filter (fun z => decide (chgAt ss z ≠ 0)) = [z] by simp [h0]]
            exact .one (Spn.chg ⟨t, rfl, upd_same⟩ cf (Lsts.of1 (st _ _ hw)))
      · rintro H' ⟨sm3, ws, hw, hws⟩
        rw [List.length_map, List.take_length] at hws
        refine q H' D2 ws _ (sm2.trans sm3) (sm2.free nD2) hw hws ⟨?_, fun c hc => ?_, fun x hx => ?_⟩ ?_
        · rw [List.map_map]
          show (List.map (fun z => z) _).Pairwise _
          rw [List.map_id']
          exact str.filter _
        · obtain ⟨z, hz, rfl⟩ := List.mem_map.mp hc
          exact ⟨of_decide_eq_true (List.mem_filter.mp hz).2, rfl⟩
        · rw [List.map_map]
          refine List.mem_map.mpr ⟨x, List.mem_filter.mpr ⟨(mem x).mpr ?_, decide_eq_true hx⟩, rfl⟩
          by_cases e : x ∈ ks
          · exact e
          · exact absurd (hC.out x e) hx
        · rw [List.length_map]
          have h1 := List.length_filter_le (fun z => decide (chgAt ss z ≠ 0)) ys
          omega
end
section
variable {P : Program} {w : World} {K : PySem.W.Frag} {mg : Str → Option Value} {base : Heap}
/-- the rows of pieces -/
def pcR (p : Piece) : List Int := [p.1, p.2.1, p.2.2]
theorem pcR_inj {p q : Piece} (h : pcR p = pcR q) : p = q := by
  obtain ⟨a, b, c⟩ := p
  obtain ⟨d, e, f⟩ := q
  simp only [pcR, List.cons.injEq, and_true] at h
  obtain ⟨rfl, rfl, rfl⟩ := h
  rfl
theorem pcRs_inj : ∀ {l m : List Piece}, l.map pcR = m.map pcR → l = m
  | [], [], _ => rfl
  | [], _ :: _, h => by simp at h
  | _ :: _, [], h => by simp at h
  | a :: l, b :: m, h => by
    rw [List.map_cons, List.map_cons, List.cons.injEq] at h
    rw [pcR_inj h.1, pcRs_inj h.2]
/-- the depth and the place behind the changes -/
def endD : Int → List Span → Int
  | d, [] => d
  | d, q :: r => endD (d + q.2) r
def endB : Int → List Span → Int
  | b, [] => b
  | _, q :: r => endB q.1 r
theorem lay_more (p c : Int) : ∀ (l : List Span) (d b : Int), lay d b (l ++ [(p, c)]) = lay d b l ++ (if 0 < endD d l then [(endB b l, p, endD d l)] else []) ∧ endD d (l ++ [(p, c)]) = endD d l + c ∧ endB b (l ++ [(p, c)]) = p
  | [], d, b => ⟨by show (if 0 < d then [(b, p, d)] else []) = [] ++ (if 0 < d then [(b, p, d)] else []); rw [List.nil_append], rfl, rfl⟩
  | (x, y) :: r, d, b => by
    obtain ⟨h1, h2, h3⟩ := lay_more p c r (d + y) x
    refine ⟨?_, h2, h3⟩
    show (if 0 < d then (b, x, d) :: lay (d + y) x (r ++ [(p, c)]) else lay (d + y) x (r ++ [(p, c)])) = (if 0 < d then (b, x, d) :: lay (d + y) x r else lay (d + y) x r) ++ (if 0 < endD (d + y) r then [(endB x r, p, endD (d + y) r)] else [])
    rw [h1]
    by_cases hd : 0 < d
    · rw [if_pos hd, if_pos hd]
      rfl
    · rw [if_neg hd, if_neg hd]
theorem lay_len : ∀ (l : List Span) (d b : Int), (lay d b l).length ≤ l.length
  | [], _, _ => Nat.le_refl _
  | (x, y) :: r, d, b => by
    have := lay_len r (d + y) x
    show (if 0 < d then (b, x, d) :: lay (d + y) x r else lay (d + y) x r).length ≤ r.length + 1
    split
    · rw [List.length_cons]
      omega
    · omega
def spLayers : Sp := fun vs H Q _ => ∃ (l : Addr) (us : List V) (ss : List Span), vs = [.ref l] ∧ H l = some (.lst us) ∧ Sps H us ss ∧ Few ss ∧ (∀ s ∈ ss, s.1 < s.2) ∧
  ∀ (H' : Hp) (r : Addr) (ws : List V) (ps : List Piece), Same H H' → H r = none → H' r = some (.lst ws) → Rws H' ws (ps.map pcR) → Prf ss ps → ps.length ≤ 64 → Q (.ref r) H'
theorem ok_layers_of (T : Tx K mg) : FnOk P w K mg base CX0 (2) T.f_layers_of T.fd_layers_of ["spans"] spLayers := by
  have G_changes_of : FnOk P w K mg base CX0 _ _ _ _ _ := ok_changes_of T
  refine T.F_layers_of.ok sc_layers_of (fun vs H Q E h => ?_) (fun cdv A outer s H vs Q E hr h => ?_)
  · obtain ⟨l, us, ss, rfl, _⟩ := h
    rfl
  · obtain ⟨l, us, ss, rfl, hl, hS, hlen, hlt, q⟩ := h
    refine ⟨_, (pss_cons (ps_set (i := 1) sc_layers_of.nd rfl (Or.inl rfl) (pe_lst pa_nil))
      (pss_cons (ps_set (i := 2) sc_layers_of.nd rfl (Or.inl rfl) pe_int)
      (pss_cons (ps_set (i := 3) sc_layers_of.nd rfl (Or.inl rfl) pe_int)
      (pss_cons (ps_for PassesOwn.never (by rfl) (pi_list (pe_call G_changes_of (hr.mono (by decide)) (by rfl) T.g_changes_of T.F_changes_of.kp T.b_changes_of .nil pass0 (pa_cons (pv 0) pa_nil))) (pg_tup rfl (pgs_cons (pg_name (i := 4) sc_layers_of.nd rfl (Or.inl rfl)) (pgs_cons (pg_name (i := 5) sc_layers_of.nd rfl (Or.inl rfl)) pgs_nil)))
        (pss_cons (ps_if (pt_cmpR op_gt (pv 2) pe_int (nomark _)) (pss_one (ps_expr (pe_bm PySem.F.plainAttrs_list PySem.F.slot_list_append PySem.F.type_list_append mt_append (pv 1) (pa_cons (pe_tup (pa_cons (pv 3) (pa_cons (pv 4) (pa_cons (pv 2) pa_nil)))) pa_nil)))) pss_nil)
      (pss_cons (ps_aug (i := 2) sc_layers_of.nd rfl (Or.inl rfl) (pv 5) ip_add)
      (pss_one (ps_set (i := 3) sc_layers_of.nd rfl (Or.inl rfl) (pv 4))))))
      (pss_one (ps_ret (pv 1))))))), ?_⟩
    refine ⟨Nat.zero_le _, fun D nD => ?_⟩
    obtain ⟨gD, sD⟩ := upd_at (o := .lst []) nD
    refine ⟨_, rfl, l, us, ss, rfl, sD _ _ hl, hS.same sD, hlen, fun H1 r ws cs s1 nr hr1 hcs hC hcl => ?_⟩
    have sm1 := sD.trans s1
    have cl := hcs.len
    refine ⟨r, rfl, ⟨_, SqL.of hr1⟩, for_list (K := K) (a := r) (xs := ws) (fun i σ H' => ∃ y4 y5 vs, σ = [some (.ref l), some (.ref D), some (.int (endD 0 (cs.take i))), some (.int (endB 0 (cs.take i))), y4, y5] ∧ Same H H' ∧ Chg [D] H1 H' ∧ H' D = some (.lst vs) ∧ Rws H' vs ((lay 0 0 (cs.take i)).map pcR))
      ⟨none, none, [], rfl, sm1, Chg.refl _ _, s1 _ _ gD, .nil⟩ (fun i σ H' _ ⟨_, _, _, _, _, c, _⟩ => SqL.of (c _ _ (nmem1 (ne_of_none gD nr).symm) hr1)) ?_ ?_⟩
    · rintro i y σ H' hi ⟨y4, y5, vs, rfl, sm, cD, hD, hv⟩
      have rD : r ≠ D := (ne_of_none gD nr).symm
      obtain ⟨cp, ec, hcp⟩ := hcs.get hi
      have lD : Lsts [D] H1 := Lsts.of1 (s1 _ _ gD)
      obtain ⟨t, rfl, ht⟩ := hcp.chg cD lD
      have hi' : i < ws.length := (List.getElem?_eq_some_iff.mp hi).1
      have tk : cs.take (i + 1) = cs.take i ++ [(cp.1, cp.2)] := by
        rw [List.take_add_one, ec]
        rfl
      obtain ⟨m1, m2, m3⟩ := lay_more cp.1 cp.2 (cs.take i) 0 0
      have vl := hv.len
      have vl2 : vs.length ≤ 64 := by
        rw [vl, List.length_map]
        have h1 := lay_len (cs.take i) 0 0
        have h2 : (cs.take i).length ≤ cs.length := by
          rw [List.length_take]
          exact Nat.min_le_right _ _
        omega
      refine ⟨t, _, rfl, SqT.of ht, rfl, _, _, rfl, _, _, rfl, rfl, ?_⟩
      refine ⟨_, rfl, _, _, rfl, rfl, _, rfl, ?_⟩
      rw [tk, m1, m2, m3]
      refine ite2 (fun e => ?_) (fun e => ?_)
      · have e : 0 < endD 0 (cs.take i) := of_decide_eq_true e
        refine ⟨_, rfl, .inl ⟨rfl, _, SqL.of hD⟩, _, rfl, _, rfl, _, rfl, (by show 3 ≤ sizeLine; decide), fun t2 nt2 => ?_⟩
        have st := same_upd (o := .tup [.int (endB 0 (cs.take i)), .int cp.1, .int (endD 0 (cs.take i))]) nt2
        have hD2 := st _ _ hD
        refine ⟨D, vs, _, rfl, rfl, hD2, small_lt (by omega), ?_⟩
        have cf : Chg [D] (upd H' t2 (.tup [.int (endB 0 (cs.take i)), .int cp.1, .int (endD 0 (cs.take i))])) (upd (upd H' t2 (.tup [.int (endB 0 (cs.take i)), .int cp.1, .int (endD 0 (cs.take i))])) D (.lst (vs ++ [.ref t2]))) := Chg.upd List.mem_cons_self
        refine ⟨_, rfl, _, rfl, _, _, rfl, rfl, _, rfl, _, _, vs ++ [.ref t2], rfl, same_more (sm.trans st) nD, (cD.trans (Chg.of_same st)).trans cf, upd_same, ?_⟩
        rw [if_pos e, List.map_append]
        exact Rws.app ((Kp.chg cf).rws (Lsts.of1 hD2) (hv.same st)) (.one ((Kp.chg cf).rw (Lsts.of1 hD2) ⟨t2, rfl, upd_same⟩))
      · have e : ¬ 0 < endD 0 (cs.take i) := fun z => e (decide_eq_true z)
        refine ⟨_, rfl, _, rfl, _, _, rfl, rfl, _, rfl, _, _, vs, rfl, sm, cD, hD, ?_⟩
        rw [if_neg e, List.append_nil]
        exact hv
    · rintro σ H' ⟨y4, y5, vs, rfl, sm, cD, hD, hv⟩
      rw [cl, List.take_length] at hv
      have := lay_len cs 0 0
      exact ⟨_, rfl, q H' D vs _ sm nD hD hv (lay_prf hlt hC 0) (by omega)⟩
theorem all_lt {ss : List Span} (h : ss.all isSpan = true) : ∀ s ∈ ss, s.1 < s.2 := fun s hs => ((isSpan_iff s).mp (List.all_eq_true.mp h s hs)).2.1
/-- the best of pieces as a value -/
def Bst (H : Hp) (v : V) : Option Span → Prop
  | none => v = .non
  | some s => Spn H v s
def spDeepLay : Sp := fun vs H Q _ => ∃ (l : Addr) (us : List V) (ss : List Span), vs = [.ref l] ∧ H l = some (.lst us) ∧ Sps H us ss ∧ Few ss ∧ (∀ s ∈ ss, s.1 < s.2) ∧
  ∀ (H' : Hp) (v : V) (ps : List Piece), Same H H' → Prf ss ps → Bst H' v (bestL ps) → Q v H'
theorem ok_deepest_layer (T : Tx K mg) : FnOk P w K mg base CX0 (3) T.f_deepest_layer T.fd_deepest_layer ["spans"] spDeepLay := by
  have G_layers_of : FnOk P w K mg base CX0 _ _ _ _ _ := ok_layers_of T
  refine T.F_deepest_layer.ok sc_deepest_layer (fun vs H Q E h => ?_) (fun cdv A outer s H vs Q E hr h => ?_)
  · obtain ⟨l, us, ss, rfl, _⟩ := h
    rfl
  · obtain ⟨l, us, ss, rfl, hl, hS, hlen, hlt, q⟩ := h
    refine ⟨_, (pss_cons (ps_set (i := 1) sc_deepest_layer.nd rfl (Or.inl rfl) pe_non)
      (pss_cons (ps_for PassesOwn.never (by rfl) (pi_list (pe_call G_layers_of (hr.mono (by decide)) (by rfl) T.g_layers_of T.F_layers_of.kp T.b_layers_of .nil pass0 (pa_cons (pv 0) pa_nil))) (pg_tup rfl (pgs_cons (pg_name (i := 2) sc_deepest_layer.nd rfl (Or.inl rfl)) (pgs_cons (pg_name (i := 3) sc_deepest_layer.nd rfl (Or.inl rfl)) (pgs_cons (pg_name (i := 4) sc_deepest_layer.nd rfl (Or.inl rfl)) pgs_nil))))
        (pss_one (ps_if (PW.pt (pw_or (pt_cmpR op_isN (pv 1) pe_non (nomark _)) (pw_or1 (pt_cmpR op_gt (pv 4) (pe_ix ix_tup (pv 1) pe_int (fun _ _ => rfl)) (nomark _))))) (pss_one (ps_set (i := 1) sc_deepest_layer.nd rfl (Or.inl rfl) (pe_tup (pa_cons (pv 4) (pa_cons (pv 2) pa_nil))))) pss_nil)))
      (pss_one (ps_ret (pv 1))))), ?_⟩
    refine ⟨_, rfl, l, us, ss, rfl, hl, hS, hlen, hlt, fun H1 r ws ps s1 nr hr1 hp prf pl => ?_⟩
    have wl := hp.len
    refine ⟨r, rfl, ⟨_, SqL.of hr1⟩, for_list (K := K) (a := r) (xs := ws) (fun i σ H' => ∃ v y2 y3 y4, σ = [some (.ref l), some v, y2, y3, y4] ∧ Same H1 H' ∧ Bst H' v (bestL (ps.take i)))
      ⟨.non, none, none, none, rfl, Same.refl _, rfl⟩ (fun i σ H' _ ⟨_, _, _, _, _, c, _⟩ => SqL.of (c _ _ hr1)) ?_ ?_⟩
    · rintro i y σ H' hi ⟨v, y2, y3, y4, rfl, sm, hb⟩
      obtain ⟨row, er, hrow⟩ := hp.get hi
      rw [List.getElem?_map] at er
      obtain ⟨pc, ep, rfl⟩ := Option.map_eq_some_iff.mp er
      obtain ⟨t, rfl, ht⟩ := hrow
      have tk : ps.take (i + 1) = ps.take i ++ [pc] := by
        rw [List.take_add_one, ep]
        rfl
      rw [tk, bestL_snoc]
      refine ⟨t, _, rfl, SqT.of (sm _ _ ht), rfl, _, _, rfl, _, _, rfl, _, _, rfl, rfl, ?_⟩
      have new : tAsg (tTup (tCons (tVar 4) (tCons (tVar 2) tNil))) (gName 1) { nx := fun σ H' => ∃ v y2 y3 y4, σ = [some (.ref l), some v, y2, y3, y4] ∧ Same H1 H' ∧ Bst H' v (some (pc.2.2, pc.1)), rt := Q } [some (.ref l), some v, some (.int pc.1), some (.int pc.2.1), some (.int pc.2.2)] H' := by
        refine ⟨_, rfl, _, rfl, (by show 2 ≤ sizeLine; decide), fun t2 nt2 => ?_⟩
        exact ⟨_, _, _, _, rfl, sm.trans (same_upd nt2), t2, rfl, upd_same⟩
      cases hbb : bestL (ps.take i) with
      | none =>
        rw [hbb] at hb
        have hb : v = .non := hb
        subst hb
        refine ⟨_, rfl, rfl, _, rfl, iteT ?_⟩
        exact new
      | some b =>
        rw [hbb] at hb
        obtain ⟨t3, rfl, ht3⟩ := hb
        refine ⟨_, rfl, rfl, _, rfl, iteF ?_⟩
        refine ⟨_, rfl, _, rfl, t3, _, _, _, rfl, rfl, SqT.of ht3, atI_nat (j := 0) rfl, _, _, rfl, rfl, _, rfl, ite2 (fun e => ?_) (fun e => ?_)⟩
        · have e : b.1 < pc.2.2 := of_decide_eq_true e
          show tAsg _ _ _ _ _
          simp only [stpB]
          rw [if_pos e]
          exact new
        · have e : ¬ b.1 < pc.2.2 := fun z => e (decide_eq_true z)
          simp only [stpB]
          rw [if_neg e]
          exact ⟨_, _, _, _, rfl, sm, t3, rfl, ht3⟩
    · rintro σ H' ⟨v, y2, y3, y4, rfl, sm, hb⟩
      rw [wl, List.length_map, List.take_length] at hb
      exact ⟨_, rfl, q H' v ps (s1.trans sm) prf hb⟩
def spDeepest (C : Addr) : Sp := fun vs H Q E => ∃ (l : Addr) (us : List V) (ss : List Span), vs = [.ref l] ∧ H l = some (.lst us) ∧ Sps H us ss ∧ Few ss ∧ (ss.all isSpan = false → E (.ref C) none H) ∧
  (ss.all isSpan = true → ∀ (H' : Hp) (v : V) (ps : List Piece), Same H H' → Prf ss ps → Bst H' v (bestL ps) → Q v H')
theorem ok_deepest (T : Tx K mg) : FnOk P w K mg base (L2.CX P w) (6) T.f_deepest T.fd_deepest ["spans"] (spDeepest T.C_NoSpan) := by
  have G_check_spans : FnOk P w K mg base (L2.CX P w) _ _ _ _ _ := ok_check_spans T
  have G_deepest_layer : FnOk P w K mg base CX0 _ _ _ _ _ := ok_deepest_layer T
  refine T.F_deepest.okX sc_deepest (fun vs H Q E h => ?_) (fun cdv A outer s H vs Q E hr h => ?_)
  · obtain ⟨l, us, ss, rfl, _⟩ := h
    rfl
  · obtain ⟨l, us, ss, rfl, hl, hS, hlen, e, q⟩ := h
    refine ⟨_, (pss_cons (ps_expr (pe_call G_check_spans (hr.mono (by decide)) (by rfl) T.g_check_spans T.F_check_spans.kp T.b_check_spans .nil (passes_call (takes_of rfl rfl rfl rfl) (fun _ _ _ _ h => h)) (pa_cons (pv 0) pa_nil)))
      (pss_one (ps_ret (pe_call G_deepest_layer (hr.mono (by decide)) (by rfl) T.g_deepest_layer T.F_deepest_layer.kp T.b_deepest_layer .nil pass0 (pa_cons (pv 0) pa_nil))))), ?_⟩
    exact ⟨_, rfl, l, us, ss, rfl, hl, hS, fun ok => ⟨_, rfl, l, us, ss, rfl, hl, hS, hlen, all_lt ok, fun H' v ps s1 p b => q ok H' v ps s1 p b⟩, e⟩
end
section
variable {P : Program} {w : World} {K : PySem.W.Frag} {mg : Str → Option Value} {base : Heap}
def spProfile (C : Addr) : Sp := fun vs H Q E => ∃ (l : Addr) (us : List V) (ss : List Span), vs = [.ref l] ∧ H l = some (.lst us) ∧ Sps H us ss ∧ Few ss ∧ (ss.all isSpan = false → E (.ref C) none H) ∧
  (ss.all isSpan = true → ∀ (H' : Hp) (r : Addr) (ws : List V) (ps : List Piece), Same H H' → H r = none → H' r = some (.lst ws) → Rws H' ws (ps.map pcR) → Prf ss ps → ps.length ≤ 64 → Q (.ref r) H')
theorem ok_profile (T : Tx K mg) : FnOk P w K mg base (L2.CX P w) (6) T.f_profile T.fd_profile ["spans"] (spProfile T.C_NoSpan) := by
  have G_check_spans : FnOk P w K mg base (L2.CX P w) _ _ _ _ _ := ok_check_spans T
  have G_layers_of : FnOk P w K mg base CX0 _ _ _ _ _ := ok_layers_of T
  refine T.F_profile.okX sc_profile (fun vs H Q E h => ?_) (fun cdv A outer s H vs Q E hr h => ?_)
  · obtain ⟨l, us, ss, rfl, _⟩ := h
    rfl
  · obtain ⟨l, us, ss, rfl, hl, hS, hlen, e, q⟩ := h
    refine ⟨_, (pss_cons (ps_expr (pe_call G_check_spans (hr.mono (by decide)) (by rfl) T.g_check_spans T.F_check_spans.kp T.b_check_spans .nil (passes_call (takes_of rfl rfl rfl rfl) (fun _ _ _ _ h => h)) (pa_cons (pv 0) pa_nil)))
      (pss_one (ps_ret (pe_call G_layers_of (hr.mono (by decide)) (by rfl) T.g_layers_of T.F_layers_of.kp T.b_layers_of .nil pass0 (pa_cons (pv 0) pa_nil))))), ?_⟩
    refine ⟨_, rfl, l, us, ss, rfl, hl, hS, fun ok => ?_, e⟩
    exact ⟨_, rfl, l, us, ss, rfl, hl, hS, hlen, all_lt ok, q ok⟩
end
section
variable {P : Program} {w : World} {K : PySem.W.Frag} {mg : Str → Option Value} {base : Heap}
/-! ### the program: how many hold a place -/
def spCount (T : Tx K mg) : Sp := fun vs H Q _ => ∃ (l : Addr) (us : List V) (ss : List Span) (x : Int), vs = [.ref l, .int x] ∧ SqL K H l us ∧ Sps H us ss ∧ Tb T.tabs H ∧ ∀ H', Kp [] H H' → Tb T.tabs H' → Q (.int (dep ss x : Nat)) H'
theorem ok_count_at (T : Tx K mg) (B : Tbs T base) : FnOk P w K mg base CX0 (1) T.f_count_at T.fd_count_at ["spans", "place"] (spCount T) := by
  refine T.FC_count_at.ok sc_count_at (fun vs H Q E h => ?_) (fun A outer s H vs Q E hr h => ?_)
  · obtain ⟨l, us, ss, x, rfl, _⟩ := h
    rfl
  · obtain ⟨l, us, ss, x, rfl, hl, hS, tb, q⟩ := h
    refine ⟨_, (pss_one (ps_ret (pe_gxSum (own := [("low", 2), ("high", 3)]) (g := (gTup K 2 (gCons (gName 2) (gCons (gName 3) gNil)))) hr rfl sc_count_at.nd (by rfl) T.m_sum B.t_count_at rfl (gblk_by (own := [("low", 2), ("high", 3)]) (N := N_count_at) (sc := defScope s_count_at) (by decide +kernel)) (pi_list (pv 0)) (fun _ _ _ _ _ => by exact (pg_tup rfl (pgs_cons (pg_name (i := 2) sc_count_at.nd rfl (Or.inl rfl)) (pgs_cons (pg_name (i := 3) sc_count_at.nd rfl (Or.inl rfl)) pgs_nil)))) (fun _ _ _ _ _ => (pts_one (pt_chain op_le op_lt (pv 2) (pv 1) (pv 3)))) (fun _ _ _ _ _ => pe_int) (fun _ => rfl)))), ?_⟩
    have mP : T.pA_count_at ∈ T.tabs := by
      unfold Tx.tabs
      simp
    refine ⟨_, rfl, l, rfl, ⟨_, hl⟩, tb _ mP, fun H2 t2 => ?_⟩
    obtain ⟨tb2, k2⟩ := tb.kp mP t2
    have hl2 := k2.seq List.not_mem_nil hl
    have hS2 := k2.sps (lsts0 H) hS
    refine gx_list (K := K) (a := l) (xs := us) (fun i z H' => H' = H2 ∧ z = ((dep (ss.take i) x : Nat) : Int)) ⟨rfl, rfl⟩ (fun i z H' _ h => by rw [h.1]; exact hl2) ?_ ?_
    · rintro i y z H' hi ⟨rfl, rfl⟩
      obtain ⟨sp, es, hsp⟩ := hS2.get hi
      obtain ⟨t, rfl, ht⟩ := hsp
      have tk : ss.take (i + 1) = ss.take i ++ [sp] := by
        rw [List.take_add_one, es]
        rfl
      have d1 : dep (ss.take (i + 1)) x = dep (ss.take i) x + (if holdsB x sp = true then 1 else 0) := by
        rw [tk, dep_app, dep_cons]
        rfl
      refine ⟨t, _, rfl, SqT.of ht, rfl, _, _, rfl, _, _, rfl, rfl, rfl, ?_⟩
      refine ⟨_, rfl, _, rfl, _, _, rfl, rfl, _, rfl, ?_⟩
      by_cases h1 : sp.1 ≤ x
      · rw [decide_eq_true h1]
        refine iteT ⟨_, rfl, _, _, rfl, rfl, _, rfl, ?_⟩
        by_cases h2 : x < sp.2
        · rw [decide_eq_true h2]
          refine iteT ⟨1, rfl, rfl, ?_⟩
          rw [d1, if_pos (holds_iff.mpr ⟨h1, h2⟩)]
          rfl
        · rw [decide_eq_false h2]
          refine iteF ⟨rfl, ?_⟩
          rw [d1, if_neg (fun z => h2 (holds_iff.mp z).2)]
          rfl
      · rw [decide_eq_false h1]
        refine iteF ⟨_, rfl, iteF ⟨rfl, ?_⟩⟩
        rw [d1, if_neg (fun z => h1 (holds_iff.mp z).1)]
        rfl
    · rintro z H' ⟨rfl, rfl⟩
      rw [hS2.len, List.take_length]
      exact q _ k2 tb2
end
section
variable {P : Program} {w : World} {K : PySem.W.Frag} {mg : Str → Option Value} {base : Heap}
def spCheckPlace (C : Addr) : Sp := fun vs H Q E => ∃ i : Int, vs = [.int i] ∧ (isPlace i = true → Q .non H) ∧ (isPlace i = false → E (.ref C) none H)
theorem ok_check_place (T : Tx K mg) : FnOk P w K mg base (L2.CX P w) (3) T.f_check_place T.fd_check_place ["place"] (spCheckPlace T.C_NoPlace) := by
  have G_is_place : FnOk P w K mg base CX0 _ _ _ _ _ := ok_is_place T
  refine T.F_check_place.okX sc_check_place (fun vs H Q E h => ?_) (fun cdv A outer s H vs Q E hr h => ?_)
  · obtain ⟨i, rfl, _⟩ := h
    rfl
  · obtain ⟨i, rfl, q, e⟩ := h
    refine ⟨_, (pss_one (ps_if (pt_not (pt_val (pe_call G_is_place (hr.mono (by decide)) (by rfl) T.g_is_place T.F_is_place.kp T.b_is_place .nil pass0 (pa_cons (pv 0) pa_nil)))) (pss_one (ps_raise (by rfl) (takes_of rfl rfl rfl rfl) (pmk_own PySem.F.excBase_ValueError T.x_NoPlace T.g_NoPlace T.k_NoPlace (raises_own T.b_NoPlace T.t_NoPlace) (by exact rfl)))) pss_nil)), ?_⟩
    refine ⟨_, rfl, i, rfl, _, rfl, ?_⟩
    by_cases h : isPlace i = true
    · rw [h]
      exact iteF (q h)
    · rw [Bool.not_eq_true] at h
      rw [h]
      exact iteT (e h)
def spDepthAt (T : Tx K mg) : Sp := fun vs H Q E => ∃ (l : Addr) (us : List V) (ss : List Span) (x : Int), vs = [.ref l, .int x] ∧ H l = some (.lst us) ∧ Sps H us ss ∧ Tb T.tabs H ∧ (ss.all isSpan = false → E (.ref T.C_NoSpan) none H) ∧ (ss.all isSpan = true → isPlace x = false → E (.ref T.C_NoPlace) none H) ∧
  (ss.all isSpan = true → isPlace x = true → ∀ H', Kp [] H H' → Tb T.tabs H' → Q (.int (dep ss x : Nat)) H')
theorem ok_depth_at (T : Tx K mg) (B : Tbs T base) : FnOk P w K mg base (L2.CX P w) (6) T.f_depth_at T.fd_depth_at ["spans", "place"] (spDepthAt T) := by
  have G_check_spans : FnOk P w K mg base (L2.CX P w) _ _ _ _ _ := ok_check_spans T
  have G_check_place : FnOk P w K mg base (L2.CX P w) _ _ _ _ _ := ok_check_place T
  have G_count_at : FnOk P w K mg base CX0 _ _ _ _ _ := ok_count_at T B
  refine T.F_depth_at.okX sc_depth_at (fun vs H Q E h => ?_) (fun cdv A outer s H vs Q E hr h => ?_)
  · obtain ⟨l, us, ss, x, rfl, _⟩ := h
    rfl
  · obtain ⟨l, us, ss, x, rfl, hl, hS, tb, e1, e2, q⟩ := h
    refine ⟨_, (pss_cons (ps_expr (pe_call G_check_spans (hr.mono (by decide)) (by rfl) T.g_check_spans T.F_check_spans.kp T.b_check_spans .nil (passes_call (takes_of rfl rfl rfl rfl) (fun _ _ _ _ h => h)) (pa_cons (pv 0) pa_nil)))
      (pss_cons (ps_expr (pe_call G_check_place (hr.mono (by decide)) (by rfl) T.g_check_place T.F_check_place.kp T.b_check_place .nil (passes_call (takes_of rfl rfl rfl rfl) (fun _ _ _ _ h => h)) (pa_cons (pv 1) pa_nil)))
      (pss_one (ps_ret (pe_call G_count_at (hr.mono (by decide)) (by rfl) T.g_count_at T.F_count_at.kp T.b_count_at .nil pass0 (pa_cons (pv 0) (pa_cons (pv 1) pa_nil))))))), ?_⟩
    refine ⟨_, rfl, l, us, ss, rfl, hl, hS, fun ok => ?_, e1⟩
    refine ⟨_, rfl, x, rfl, fun hx => ?_, e2 ok⟩
    exact ⟨_, rfl, _, rfl, l, us, ss, x, rfl, SqL.of hl, hS, tb, q ok hx⟩
end
/-! ### how many places -/
open Classical in
noncomputable def cnt (p : Int → Prop) (lo : Int) : Nat → Int
  | 0 => 0
  | n + 1 => cnt p lo n + (if p (lo + n) then 1 else 0)
theorem cnt_congr {p q : Int → Prop} (h : ∀ x, p x ↔ q x) (lo : Int) (n : Nat) : cnt p lo n = cnt q lo n := by
  rw [show p = q from funext fun x => propext (h x)]
theorem cnt_add (p q : Int → Prop) (lo : Int) : ∀ n, cnt (fun x => p x ∨ q x) lo n + cnt (fun x => p x ∧ q x) lo n = cnt p lo n + cnt q lo n
  | 0 => rfl
  | n + 1 => by
    have ih := cnt_add p q lo n
    unfold cnt
    by_cases h1 : p (lo + n) <;> by_cases h2 : q (lo + n) <;> simp [h1, h2] <;> omega
theorem cnt_none (lo : Int) : ∀ n, cnt (fun _ => False) lo n = 0
  | 0 => rfl
  | n + 1 => by
    unfold cnt
    rw [cnt_none lo n]
    simp
theorem cnt_span {a b lo : Int} (h1 : lo ≤ a) (h2 : a ≤ b) : ∀ n : Nat, cnt (fun x => a ≤ x ∧ x < b) lo n = if lo + n ≤ a then 0 else if lo + n ≤ b then lo + n - a else b - a
  | 0 => by
    rw [if_pos (by omega)]
    rfl
  | n + 1 => by
    have ih := cnt_span h1 h2 n
    unfold cnt
    rw [ih]
    by_cases e1 : lo + (n : Int) < a
    · rw [if_pos (by omega), if_neg (by omega), if_pos (by omega)]
      rfl
    · by_cases e2 : lo + (n : Int) < b
      · rw [if_pos (c := a ≤ lo + ↑n ∧ lo + ↑n < b) (by omega), if_neg (c := lo + ↑(n + 1) ≤ a) (by omega), if_pos (c := lo + ↑(n + 1) ≤ b) (by omega)]
        by_cases e3 : lo + (n : Int) ≤ a
        · rw [if_pos e3]
          omega
        · rw [if_neg e3, if_pos (by omega)]
          omega
      · rw [if_neg (c := a ≤ lo + ↑n ∧ lo + ↑n < b) (by omega)]
        by_cases e3 : lo + (n : Int) ≤ a
        · rw [if_pos e3, if_neg (by omega), if_neg (by omega)]
          omega
        · rw [if_neg e3, if_neg (c := lo + ↑(n + 1) ≤ a) (by omega), if_neg (c := lo + ↑(n + 1) ≤ b) (by omega)]
          by_cases e4 : lo + (n : Int) ≤ b
          · rw [if_pos e4]
            omega
          · rw [if_neg e4]
            omega
theorem cnt_can {lo : Int} {n : Nat} : ∀ {c : List Span}, Can c → (∀ s ∈ c, lo ≤ s.1 ∧ s.2 ≤ lo + n) → spanSum c = cnt (Mem c) lo n
  | [], _, _ => by
    rw [cnt_congr (q := fun _ => False) (fun x => ⟨mem_nil x, False.elim⟩) lo n, cnt_none]
    rfl
  | s :: c, hc, hb => by
    have ih := cnt_can (can_tail hc) fun t ht => hb t (List.mem_cons_of_mem _ ht)
    have b := hb s List.mem_cons_self
    have p := hc.2 s List.mem_cons_self
    have e : spanSum (s :: c) = (s.2 - s.1) + spanSum c := by
      unfold spanSum
      rw [List.map_cons, List.sum_cons]
    have a := cnt_add (fun x => s.1 ≤ x ∧ x < s.2) (Mem c) lo n
    rw [cnt_congr (q := Mem (s :: c)) (fun x => mem_cons.symm) lo n, cnt_congr (p := fun x => (s.1 ≤ x ∧ x < s.2) ∧ Mem c x) (q := fun _ => False) (fun x => ⟨fun h => by
      have := can_head hc h.2
      omega, False.elim⟩) lo n, cnt_none, cnt_span b.1 (by omega) n, if_neg (by omega)] at a
    rw [e, ih]
    by_cases e2 : lo + (n : Int) ≤ s.2
    · rw [if_pos e2] at a
      omega
    · rw [if_neg e2] at a
      omega
theorem held_sums {a b o m : List Span} (ha : Can a) (hb : Can b) (ho : Can o) (hm : Can m) (sa : ∀ s ∈ a, isSpan s = true) (sb : ∀ s ∈ b, isSpan s = true) (so : ∀ s ∈ o, isSpan s = true) (sm : ∀ s ∈ m, isSpan s = true)
    (e1 : ∀ x, Mem o x ↔ Mem a x ∨ Mem b x) (e2 : ∀ x, Mem m x ↔ Mem a x ∧ Mem b x) : spanSum o + spanSum m = spanSum a + spanSum b := by
  obtain ⟨n, hn⟩ : ∃ n : Nat, (n : Int) = 1999999999998 := ⟨1999999999998, rfl⟩
  have bd : ∀ {c : List Span}, (∀ s ∈ c, isSpan s = true) → ∀ s ∈ c, (-999999999999 : Int) ≤ s.1 ∧ s.2 ≤ -999999999999 + (n : Int) := fun h s hs => by
    have := (isSpan_iff s).mp (h s hs)
    omega
  rw [cnt_can ha (bd sa), cnt_can hb (bd sb), cnt_can ho (bd so), cnt_can hm (bd sm), cnt_congr e1, cnt_congr e2]
  exact cnt_add _ _ _ _
/-! ### sums over places -/
def tot (f : Int → Int) (lo : Int) : Nat → Int
  | 0 => 0
  | n + 1 => tot f lo n + f (lo + n)
theorem tot_add (f g : Int → Int) (lo : Int) : ∀ n, tot (fun x => f x + g x) lo n = tot f lo n + tot g lo n
  | 0 => rfl
  | n + 1 => by
    have := tot_add f g lo n
    simp only [tot]
    omega
theorem tot_split (f : Int → Int) (lo : Int) (a : Nat) : ∀ b, tot f lo (a + b) = tot f lo a + tot f (lo + a) b
  | 0 => by simp [tot]
  | b + 1 => by
    have := tot_split f lo a b
    show tot f lo (a + b) + f (lo + (a + b : Nat)) = tot f lo a + (tot f (lo + a) b + f (lo + a + b))
    rw [this, show lo + ((a + b : Nat) : Int) = lo + a + b by omega]
    omega
theorem tot_const {f : Int → Int} {lo d : Int} : ∀ (n : Nat), (∀ x, lo ≤ x → x < lo + n → f x = d) → tot f lo n = n * d
  | 0, _ => by simp [tot]
  | n + 1, h => by
    have h1 := tot_const n fun x a b => h x a (by omega)
    have h2 := h (lo + n) (by omega) (by omega)
    simp only [tot]
    rw [h1, h2]
    push_cast
    rw [Int.add_mul, Int.one_mul]
theorem tot_span {a b lo : Int} {n : Nat} (h1 : lo ≤ a) (h2 : a < b) (h3 : b ≤ lo + n) : tot (fun x => if holdsB x (a, b) = true then 1 else 0) lo n = b - a := by
  obtain ⟨p, hp⟩ : ∃ p : Nat, (p : Int) = a - lo := ⟨(a - lo).toNat, by omega⟩
  obtain ⟨m, hm⟩ : ∃ p : Nat, (p : Int) = b - a := ⟨(b - a).toNat, by omega⟩
  obtain ⟨r, hr⟩ : ∃ p : Nat, (p : Int) = lo + n - b := ⟨(lo + n - b).toNat, by omega⟩
  have e : n = p + (m + r) := by omega
  have t1 := tot_const (f := fun x => if holdsB x (a, b) = true then (1 : Int) else 0) (lo := lo) (d := 0) p fun x x1 x2 => by
    rw [if_neg]
    intro z
    have := (holds_iff.mp z).1
    simp only at this
    omega
  have t2 := tot_const (f := fun x => if holdsB x (a, b) = true then (1 : Int) else 0) (lo := lo + p) (d := 1) m fun x x1 x2 => by
    rw [if_pos (holds_iff.mpr ⟨by show a ≤ x; omega, by show x < b; omega⟩)]
  have t3 := tot_const (f := fun x => if holdsB x (a, b) = true then (1 : Int) else 0) (lo := lo + p + m) (d := 0) r fun x x1 x2 => by
    rw [if_neg]
    intro z
    have := (holds_iff.mp z).2
    simp only at this
    omega
  rw [e, tot_split, tot_split, t1, t2, t3]
  omega
theorem tot_dep {lo : Int} {n : Nat} : ∀ {ss : List Span}, (∀ s ∈ ss, lo ≤ s.1 ∧ s.1 < s.2 ∧ s.2 ≤ lo + n) → tot (fun x => ((dep ss x : Nat) : Int)) lo n = (ss.map fun s => s.2 - s.1).sum
  | [], _ => by
    have t1 := tot_const (f := fun x => ((dep [] x : Nat) : Int)) (lo := lo) (d := 0) n fun x _ _ => rfl
    rw [t1]
    simp
  | s :: ss, h => by
    have ih := tot_dep fun t ht => h t (List.mem_cons_of_mem _ ht)
    obtain ⟨h1, h2, h3⟩ := h s List.mem_cons_self
    have e : (fun x => ((dep (s :: ss) x : Nat) : Int)) = fun x => (if holdsB x (s.1, s.2) = true then 1 else 0) + ((dep ss x : Nat) : Int) := funext fun x => by
      rw [dep_cons]
      by_cases z : holdsB x s = true
      · rw [if_pos z, if_pos z]
        push_cast
        rfl
      · rw [if_neg z, if_neg z]
        push_cast
        rfl
    rw [e, tot_add, ih, tot_span h1 h2 h3, List.map_cons, List.sum_cons]
theorem tot_pf {f : Int → Int} : ∀ {l : List Piece} {b : Int} {n : Nat}, PF f b l → (∀ p ∈ l, p.2.1 ≤ b + n) → tot f b n = (l.map fun p => (p.2.1 - p.1) * p.2.2).sum
  | [], b, n, h, _ => by
    rw [tot_const (d := 0) n fun x x1 _ => h x x1]
    simp
  | p :: l, b, n, ⟨h1, h2, h3, h4, h5, h6, h7⟩, hb => by
    have hp := hb p List.mem_cons_self
    obtain ⟨q, hq⟩ : ∃ q : Nat, (q : Int) = p.1 - b := ⟨(p.1 - b).toNat, by omega⟩
    obtain ⟨m, hm⟩ : ∃ q : Nat, (q : Int) = p.2.1 - p.1 := ⟨(p.2.1 - p.1).toNat, by omega⟩
    obtain ⟨r, hr⟩ : ∃ q : Nat, (q : Int) = b + n - p.2.1 := ⟨(b + n - p.2.1).toNat, by omega⟩
    have e : n = q + (m + r) := by omega
    have e1 : b + (q : Int) = p.1 := by omega
    have e2 : p.1 + (m : Int) = p.2.1 := by omega
    have ih := tot_pf (n := r) h7 fun t ht => by
      have := hb t (List.mem_cons_of_mem _ ht)
      omega
    rw [e, tot_split, tot_split, e1, e2, ih, tot_const (d := 0) q fun x x1 x2 => h4 x x1 (by omega), tot_const (d := p.2.2) m fun x x1 x2 => h5 x x1 (by omega), hm, List.map_cons, List.sum_cons]
    omega
theorem pf_hi {f : Int → Int} : ∀ {l : List Piece} {b : Int}, PF f b l → ∀ p ∈ l, 0 < f (p.2.1 - 1)
  | q :: l, b, ⟨h1, h2, h3, h4, h5, h6, h7⟩, p, hp => by
    rcases List.mem_cons.mp hp with rfl | hp
    · rw [h5 (p.2.1 - 1) (by omega) (by omega)]
      exact h3
    · exact pf_hi h7 p hp
theorem dep_pos {ss : List Span} {x : Int} : 0 < dep ss x ↔ ∃ s ∈ ss, s.1 ≤ x ∧ x < s.2 := by
  constructor
  · intro h
    obtain ⟨s, hs⟩ := List.exists_mem_of_length_pos h
    obtain ⟨h1, h2⟩ := List.mem_filter.mp hs
    exact ⟨s, h1, holds_iff.mp h2⟩
  · rintro ⟨s, h1, h2⟩
    exact List.length_pos_of_mem (List.mem_filter.mpr ⟨h1, holds_iff.mpr h2⟩)
theorem prf_span {ss : List Span} {ps : List Piece} (ok : ss.all isSpan = true) (h : Prf ss ps) : ∀ p ∈ ps, isSpan (p.1, p.2.1) = true := fun p hp => by
  obtain ⟨b, hb⟩ := low_of ss
  obtain ⟨h1, h2, h3, h4⟩ := pf_lo (h b hb) p hp
  have h5 := pf_hi (h b hb) p hp
  have d1 : 0 < dep ss p.1 := by
    have h4 : ((dep ss p.1 : Nat) : Int) = p.2.2 := h4
    omega
  have d2 : 0 < dep ss (p.2.1 - 1) := by
    have h5 : 0 < ((dep ss (p.2.1 - 1) : Nat) : Int) := h5
    omega
  obtain ⟨s, hs, a1, a2⟩ := dep_pos.mp d1
  obtain ⟨t, ht, b1, b2⟩ := dep_pos.mp d2
  have o1 := (isSpan_iff s).mp (List.all_eq_true.mp ok s hs)
  have o2 := (isSpan_iff t).mp (List.all_eq_true.mp ok t ht)
  exact (isSpan_iff _).mpr ⟨by show -999999999999 ≤ p.1; omega, h2, by show p.2.1 ≤ 999999999999; omega⟩
theorem prf_sum {ss : List Span} {ps : List Piece} (ok : ss.all isSpan = true) (h : Prf ss ps) : (ps.map fun p => (p.2.1 - p.1) * p.2.2).sum = (ss.map fun s => s.2 - s.1).sum := by
  obtain ⟨n, hn⟩ : ∃ n : Nat, (n : Int) = 2000000000000 := ⟨2000000000000, rfl⟩
  have hs : ∀ s ∈ ss, (-1000000000000 : Int) ≤ s.1 ∧ s.1 < s.2 ∧ s.2 ≤ -1000000000000 + (n : Int) := fun s hs => by
    have := (isSpan_iff s).mp (List.all_eq_true.mp ok s hs)
    omega
  rw [← tot_dep hs, tot_pf (h _ fun s hm => by have := (isSpan_iff s).mp (List.all_eq_true.mp ok s hm); omega) fun p hp => by
    have := (isSpan_iff _).mp (prf_span ok h p hp)
    simp only at this
    omega]
theorem PF.dbl {f : Int → Int} : ∀ {l : List Piece} {b : Int}, PF f b l → PF (fun x => 2 * f x) b (l.map fun p => (p.1, p.2.1, 2 * p.2.2))
  | [], b, h => fun x hx => by
    have := h x hx
    show 2 * f x = 0
    omega
  | p :: l, b, ⟨h1, h2, h3, h4, h5, h6, h7⟩ => by
    refine ⟨h1, h2, by show 0 < 2 * p.2.2; omega, fun x a b' => ?_, fun x a b' => ?_, by show 2 * f p.2.1 ≠ 2 * p.2.2; omega, h7.dbl⟩
    · have := h4 x a b'
      show 2 * f x = 0
      omega
    · have := h5 x a b'
      show 2 * f x = 2 * p.2.2
      omega
theorem prf_dbl {ss : List Span} {ps : List Piece} (h : Prf ss ps) : Prf (ss ++ ss) (ps.map fun p => (p.1, p.2.1, 2 * p.2.2)) := fun b hb => by
  have := (h b fun s hs => hb s (List.mem_append_left _ hs)).dbl
  have e : (fun x => ((dep (ss ++ ss) x : Nat) : Int)) = fun x => 2 * ((dep ss x : Nat) : Int) := funext fun x => by
    rw [dep_app]
    push_cast
    omega
  rw [e]
  exact this
/-- which places the pieces of a depth of more than k hold -/
theorem prf_mem {ss : List Span} {ps : List Piece} (h : Prf ss ps) (k : Int) (hk : 0 ≤ k) (x : Int) : (∃ p ∈ ps, k < p.2.2 ∧ p.1 ≤ x ∧ x < p.2.1) ↔ k < ((dep ss x : Nat) : Int) := by
  obtain ⟨b0, hb0⟩ := low_of ss
  have pf := h (min b0 x) fun s hs => by
    have := hb0 s hs
    omega
  constructor
  · rintro ⟨p, hp, h1, h2, h3⟩
    have key : ∀ {l : List Piece} {b : Int}, PF (fun x => ((dep ss x : Nat) : Int)) b l → p ∈ l → ((dep ss x : Nat) : Int) = p.2.2 := fun {l} => by
      induction l with
      | nil => exact fun _ z => nomatch z
      | cons q r ih =>
        rintro b ⟨a1, a2, a3, a4, a5, a6, a7⟩ z
        rcases List.mem_cons.mp z with rfl | z
        · exact a5 x h2 h3
        · exact ih a7 z
    rw [key pf hp]
    exact h1
  · intro h1
    obtain ⟨p, hp, a1, a2, a3⟩ := pf_in pf x (by omega) (by show ((dep ss x : Nat) : Int) ≠ 0; omega)
    have a3 : ((dep ss x : Nat) : Int) = p.2.2 := a3
    exact ⟨p, hp, by omega, a1, a2⟩
section
variable {P : Program} {w : World} {K : PySem.W.Frag} {mg : Str → Option Value} {base : Heap}
/-! ### two covers -/
/-- 0 a cover, 1 no spans, 2 no cover -/
def ref1 (ss : List Span) : Nat := if ss.all isSpan = true then (if isCoverB ss = true then 0 else 2) else 1
theorem ref1_ok {ss : List Span} (h : ss.all isSpan = true) (h2 : isCoverB ss = true) : ref1 ss = 0 := by
  unfold ref1
  rw [if_pos h, if_pos h2]
theorem ref1_span {ss : List Span} (h : ss.all isSpan = false) : ref1 ss = 1 := by
  unfold ref1
  rw [if_neg (by rw [h]; decide)]
theorem ref1_cov {ss : List Span} (h : ss.all isSpan = true) (h2 : isCoverB ss = false) : ref1 ss = 2 := by
  unfold ref1
  rw [if_pos h, if_neg (by rw [h2]; decide)]
theorem ref1_can {ss : List Span} (h : ref1 ss = 0) : ss.all isSpan = true ∧ isCoverB ss = true ∧ Can ss ∧ ss.length ≤ 200 := by
  unfold ref1 at h
  by_cases h1 : ss.all isSpan = true
  · rw [if_pos h1] at h
    by_cases h2 : isCoverB ss = true
    · refine ⟨h1, h2, can_of_cover h1 h2, ?_⟩
      unfold isCoverB at h2
      rw [Bool.and_eq_true, decide_eq_true_eq] at h2
      exact h2.1
    · rw [if_neg h2] at h
      cases h
  · rw [if_neg h1] at h
    cases h
theorem can_ref1 {c : List Span} (h : Can c) (hs : ∀ s ∈ c, isSpan s = true) (hl : c.length ≤ 200) : ref1 c = 0 := ref1_ok (List.all_eq_true.mpr hs) (cover_can h hl)
/-- the class of a refusal -/
def Tx.refC (T : Tx K mg) (n : Nat) : Addr := if n = 1 then T.C_NoSpan else T.C_NoCover
/-- two lists of spans are handed in -/
def Two (T : Tx K mg) (H : Hp) (a b : Addr) (us ws : List V) (ss rs : List Span) : Prop := H a = some (.lst us) ∧ Sps H us ss ∧ H b = some (.lst ws) ∧ Sps H ws rs ∧ Tb T.tabs H
def spCheckCovers (T : Tx K mg) : Sp := fun vs H Q E => ∃ (a b : Addr) (us ws : List V) (ss rs : List Span), vs = [.ref a, .ref b] ∧ Two T H a b us ws ss rs ∧ (ref1 ss = 0 → ref1 rs = 0 → ∀ H', Chg T.tabs H H' → Tb T.tabs H' → Q .non H') ∧
  (∀ n, n ≠ 0 → (ref1 ss = n ∨ (ref1 ss = 0 ∧ ref1 rs = n)) → ∀ H', Chg T.tabs H H' → Tb T.tabs H' → E (.ref (T.refC n)) none H')
theorem ok_check_covers (T : Tx K mg) (B : Tbs T base) : FnOk P w K mg base (L2.CX P w) (7) T.f_check_covers T.fd_check_covers ["one", "other"] (spCheckCovers T) := by
  have G_check_cover : FnOk P w K mg base (L2.CX P w) _ _ _ _ _ := ok_check_cover T B
  refine T.F_check_covers.okX sc_check_covers (fun vs H Q E h => ?_) (fun cdv A outer s H vs Q E hr h => ?_)
  · obtain ⟨a, b, us, ws, ss, rs, rfl, _⟩ := h
    rfl
  · obtain ⟨a, b, us, ws, ss, rs, rfl, ⟨ha, hS, hb, hR, tb⟩, q, e⟩ := h
    refine ⟨_, (pss_cons (ps_expr (pe_call G_check_cover (hr.mono (by decide)) (by rfl) T.g_check_cover T.F_check_cover.kp T.b_check_cover .nil (passes_call (takes_of rfl rfl rfl rfl) (fun _ _ _ _ h => h)) (pa_cons (pv 0) pa_nil)))
      (pss_one (ps_expr (pe_call G_check_cover (hr.mono (by decide)) (by rfl) T.g_check_cover T.F_check_cover.kp T.b_check_cover .nil (passes_call (takes_of rfl rfl rfl rfl) (fun _ _ _ _ h => h)) (pa_cons (pv 1) pa_nil))))), ?_⟩
    have bT := tb.out hb (fun ps z => by cases z)
    refine ⟨_, rfl, a, us, ss, rfl, ha, hS, tb, fun s1 s2 H1 c1 tb1 => ?_, fun s1 => e 1 (by decide) (.inl (ref1_span s1)) H (Chg.refl _ _) tb, fun s1 s2 H1 c1 tb1 => e 2 (by decide) (.inl (ref1_cov s1 s2)) H1 c1 tb1⟩
    have z := ref1_ok s1 s2
    refine ⟨_, rfl, b, ws, rs, rfl, c1 _ _ bT hb, hR.chg c1 tb.lsts, tb1, fun r1 r2 H2 c2 tb2 => q z (ref1_ok r1 r2) H2 (c1.trans c2) tb2, fun r1 => e 1 (by decide) (.inr ⟨z, ref1_span r1⟩) H1 c1 tb1, fun r1 r2 H2 c2 tb2 => e 2 (by decide) (.inr ⟨z, ref1_cov r1 r2⟩) H2 (c1.trans c2) tb2⟩
/-! common -/
def spCommon : Sp := fun vs H Q _ => ∃ (a b : Addr) (us ws : List V) (ss rs : List Span), vs = [.ref a, .ref b] ∧ H a = some (.lst us) ∧ Sps H us ss ∧ H b = some (.lst ws) ∧ Sps H ws rs ∧ Can ss ∧ Can rs ∧ ss.length ≤ 10000 ∧ rs.length ≤ 10000 ∧
  ∀ (H' : Hp) (p : Addr) (xs : List V) (c : List Span), Same H H' → H p = none → H' p = some (.lst xs) → Sps H' xs c → Can c → (∀ x, Mem c x ↔ Mem ss x ∧ Mem rs x) → c.length ≤ ss.length + rs.length → Q (.ref p) H'
theorem drop_at {α : Type} {l : List α} {i : Nat} {x : α} (h : l[i]? = some x) : l.drop i = x :: l.drop (i + 1) := by
  obtain ⟨h1, h2⟩ := List.getElem?_eq_some_iff.mp h
  rw [List.drop_eq_getElem_cons h1, h2]
theorem ok_common (T : Tx K mg) : FnOk P w K mg base CX0 (1) T.f_common T.fd_common ["one", "other"] spCommon := by
  refine T.F_common.ok sc_common (fun vs H Q E h => ?_) (fun cdv A outer s H vs Q E hr h => ?_)
  · obtain ⟨a, b, us, ws, ss, rs, rfl, _⟩ := h
    rfl
  · obtain ⟨a, b, us, ws, ss, rs, rfl, ha, hS, hb, hR, canS, canR, ls, lr, q⟩ := h
    refine ⟨_, (pss_cons (ps_set (i := 2) sc_common.nd rfl (Or.inl rfl) (pe_lst pa_nil))
      (pss_cons (ps_set (i := 3) sc_common.nd rfl (Or.inl rfl) pe_int)
      (pss_cons (ps_set (i := 4) sc_common.nd rfl (Or.inl rfl) pe_int)
      (pss_cons (ps_while PassesOwn.never (PW.pt (pw_and (pt_cmpR op_lt (pv 3) (pe_callB call_len_seq (by rfl) T.m_len PySem.boot_len (pa_cons (pv 0) pa_nil)) (nomark _)) (pw_and1 (pt_cmpR op_lt (pv 4) (pe_callB call_len_seq (by rfl) T.m_len PySem.boot_len (pa_cons (pv 1) pa_nil)) (nomark _)))))
        (pss_cons (ps_set (i := 5) sc_common.nd rfl (Or.inl rfl) (pe_callB (call_max2 rfl) (by rfl) T.m_max (by decide +kernel) (pa_cons (pe_ix ix_tup (pe_ix ix_list (pv 0) (pv 3) (fun _ _ => rfl)) pe_int (fun _ _ => rfl)) (pa_cons (pe_ix ix_tup (pe_ix ix_list (pv 1) (pv 4) (fun _ _ => rfl)) pe_int (fun _ _ => rfl)) pa_nil))))
      (pss_cons (ps_set (i := 6) sc_common.nd rfl (Or.inl rfl) (pe_callB (call_min2 rfl) (by rfl) T.m_min (by decide +kernel) (pa_cons (pe_ix ix_tup (pe_ix ix_list (pv 0) (pv 3) (fun _ _ => rfl)) pe_int (fun _ _ => rfl)) (pa_cons (pe_ix ix_tup (pe_ix ix_list (pv 1) (pv 4) (fun _ _ => rfl)) pe_int (fun _ _ => rfl)) pa_nil))))
      (pss_cons (ps_if (pt_cmpR op_lt (pv 5) (pv 6) (nomark _)) (pss_one (ps_expr (pe_bm PySem.F.plainAttrs_list PySem.F.slot_list_append PySem.F.type_list_append mt_append (pv 2) (pa_cons (pe_tup (pa_cons (pv 5) (pa_cons (pv 6) pa_nil))) pa_nil)))) pss_nil)
      (pss_one (ps_if (pt_cmpR op_lt (pe_ix ix_tup (pe_ix ix_list (pv 0) (pv 3) (fun _ _ => rfl)) pe_int (fun _ _ => rfl)) (pe_ix ix_tup (pe_ix ix_list (pv 1) (pv 4) (fun _ _ => rfl)) pe_int (fun _ _ => rfl)) (nomark _)) (pss_one (ps_aug (i := 3) sc_common.nd rfl (Or.inl rfl) pe_int ip_add)) (pss_one (ps_aug (i := 4) sc_common.nd rfl (Or.inl rfl) pe_int ip_add))))))))
      (pss_one (ps_ret (pv 2))))))), ?_⟩
    have l1 := hS.len
    have l2 := hR.len
    refine ⟨Nat.zero_le _, fun f nf => ?_⟩
    obtain ⟨gf, sf⟩ := upd_at (o := .lst []) nf
    have hf0 : H f = none := nf
    refine ⟨fun m σ H' => ∃ (i j : Nat) (xs : List V) (acc : List Span) (y5 y6 : Option V), σ = [some (.ref a), some (.ref b), some (.ref f), some (.int (i : Int)), some (.int (j : Int)), y5, y6] ∧ i ≤ ss.length ∧ j ≤ rs.length ∧ Same H H' ∧ H' f = some (.lst xs) ∧ Sps H' xs acc ∧ Can acc ∧
      (∀ x, (Mem ss x ∧ Mem rs x) ↔ (Mem acc x ∨ (Mem (ss.drop i) x ∧ Mem (rs.drop j) x))) ∧ (∀ s ∈ acc, ∀ t ∈ ss.drop i, ∀ u ∈ rs.drop j, s.2 < t.1 ∨ s.2 < u.1) ∧ acc.length ≤ i + j ∧ m = (ss.length - i) + (rs.length - j),
      ⟨_, 0, 0, [], [], none, none, rfl, Nat.zero_le _, Nat.zero_le _, sf, gf, .nil, can_nil, fun x => ⟨fun h => .inr h, fun h => h.elim (fun z => absurd z (mem_nil x)) (fun z => z)⟩, (fun s hs => nomatch hs), Nat.le_refl _, rfl⟩, ?_⟩
    rintro m σ H' ⟨i, j, xs, acc, y5, y6, rfl, hi, hj, sm, hf, hA, can, mm, gap, al, rfl⟩
    have ha' := sm _ _ ha
    have hb' := sm _ _ hb
    refine ⟨_, rfl, _, rfl, a, _, rfl, .inl (SqL.of ha'), _, _, rfl, rfl, _, rfl, ?_⟩
    have done' : ss.drop i = [] ∨ rs.drop j = [] → ∀ (h : True), ((tRet (tVar 2)) { nx := fun _ H' => Q .non H', rt := Q } [some (.ref a), some (.ref b), some (.ref f), some (.int (i : Int)), some (.int (j : Int)), y5, y6] H') := fun hd _ => by
      refine ⟨_, rfl, q H' f xs acc sm hf0 hf hA can (fun x => ?_) (by omega)⟩
      rw [mm]
      constructor
      · exact .inl
      · rintro (h | ⟨h1, h2⟩)
        · exact h
        · rcases hd with e | e
          · rw [e] at h1
            exact absurd h1 (mem_nil x)
          · rw [e] at h2
            exact absurd h2 (mem_nil x)
    by_cases hi2 : (i : Int) < ((us.length : Nat) : Int)
    · rw [decide_eq_true hi2]
      refine iteT ⟨_, rfl, _, rfl, b, _, rfl, .inl (SqL.of hb'), _, _, rfl, rfl, _, rfl, ?_⟩
      by_cases hj2 : (j : Int) < ((ws.length : Nat) : Int)
      · rw [decide_eq_true hj2]
        have iu : i < us.length := by omega
        have jw : j < ws.length := by omega
        obtain ⟨s, es, hs⟩ := (hS.same sm).get (List.getElem?_eq_getElem iu)
        obtain ⟨r, er, hr'⟩ := (hR.same sm).get (List.getElem?_eq_getElem jw)
        have ds := drop_at es
        have dr := drop_at er
        have cs : Can (s :: ss.drop (i + 1)) := by
          rw [← ds]
          exact can_drop canS i
        have cr : Can (r :: rs.drop (j + 1)) := by
          rw [← dr]
          exact can_drop canR j
        have sp := cs.2 s List.mem_cons_self
        have rp := cr.2 r List.mem_cons_self
        have gu : us[i]? = some us[i] := List.getElem?_eq_getElem iu
        have gw : ws[j]? = some ws[j] := List.getElem?_eq_getElem jw
        obtain ⟨t1, e1, g1⟩ := hs
        obtain ⟨t2, e2, g2⟩ := hr'
        rw [e1] at gu
        rw [e2] at gw
        refine iteT ⟨fun σ' H2 => ∃ (i2 j2 : Nat) (xs : List V) (acc : List Span) (y5 y6 : Option V), σ' = [some (.ref a), some (.ref b), some (.ref f), some (.int (i2 : Int)), some (.int (j2 : Int)), y5, y6] ∧ i2 ≤ ss.length ∧ j2 ≤ rs.length ∧ Same H H2 ∧ H2 f = some (.lst xs) ∧ Sps H2 xs acc ∧ Can acc ∧
          (∀ x, (Mem ss x ∧ Mem rs x) ↔ (Mem acc x ∨ (Mem (ss.drop i2) x ∧ Mem (rs.drop j2) x))) ∧ (∀ s ∈ acc, ∀ t ∈ ss.drop i2, ∀ u ∈ rs.drop j2, s.2 < t.1 ∨ s.2 < u.1) ∧ acc.length ≤ i2 + j2 ∧ i2 + j2 = i + j + 1, fun σ' H2 hN => ?_, ?_⟩
        · obtain ⟨i2, j2, xs2, acc2, z5, z6, h1, h2, h3, h4, h5, h6, h7, h8, h9, h10, h11⟩ := hN
          exact ⟨(ss.length - i2) + (rs.length - j2), by omega, i2, j2, xs2, acc2, z5, z6, h1, h2, h3, h4, h5, h6, h7, h8, h9, h10, rfl⟩
        · refine ⟨_, rfl, _, rfl, a, _, _, _, rfl, rfl, SqL.of ha', atI_nat gu, t1, _, _, _, rfl, rfl, SqT.of g1, atI_nat (j := 0) rfl, _, rfl, _, rfl, b, _, _, _, rfl, rfl, SqL.of hb', atI_nat gw, t2, _, _, _, rfl, rfl, SqT.of g2, atI_nat (j := 0) rfl, _, _, rfl, ?_⟩
          refine ⟨_, rfl, _, rfl, a, _, _, _, rfl, rfl, SqL.of ha', atI_nat gu, t1, _, _, _, rfl, rfl, SqT.of g1, atI_nat (j := 1) rfl, _, rfl, _, rfl, b, _, _, _, rfl, rfl, SqL.of hb', atI_nat gw, t2, _, _, _, rfl, rfl, SqT.of g2, atI_nat (j := 1) rfl, _, _, rfl, ?_⟩
          generalize hlo : (if r.1 > s.1 then r.1 else s.1) = lo
          generalize hhi : (if r.2 < s.2 then r.2 else s.2) = hi'
          have lo1 : s.1 ≤ lo ∧ r.1 ≤ lo ∧ (lo = s.1 ∨ lo = r.1) := by
            split at hlo <;> omega
          have hi1 : hi' ≤ s.2 ∧ hi' ≤ r.2 ∧ (hi' = s.2 ∨ hi' = r.2) ∧ (s.2 < r.2 → hi' = s.2) ∧ (¬ s.2 < r.2 → hi' = r.2) := by
            split at hhi <;> omega
          -- the last test, behind what was found
          have last : ∀ (H2 : Hp) (xs2 : List V) (acc2 : List Span), Same H' H2 ∨ (∃ H3, Same H' H3 ∧ H2 = upd H3 f (.lst xs2)) → Same H H2 → H2 f = some (.lst xs2) → Sps H2 xs2 acc2 → Can acc2 → (∀ x, Mem acc2 x ↔ Mem acc x ∨ (lo ≤ x ∧ x < hi')) → acc2.length ≤ acc.length + 1 → (∀ s0 ∈ acc2, s0 ∈ acc ∨ s0.2 = hi') →
              H2 a = some (.lst us) → H2 b = some (.lst ws) → H2 t1 = some (.tup [.int s.1, .int s.2]) → H2 t2 = some (.tup [.int r.1, .int r.2]) →
              ((tIfS (tTest (tOp (rI0 fun i j => .bl (decide (i < j))) (tOp (rIxT K) (tOp (rIxL K) (tVar 0) (tVar 3)) (tC (.int 1))) (tOp (rIxT K) (tOp (rIxL K) (tVar 1) (tVar 4)) (tC (.int 1))))) (tAug 3 (tC (.int 1)) rAdd) (tAug 4 (tC (.int 1)) rAdd))
                { nx := fun σ' H2 => ∃ (i2 j2 : Nat) (xs : List V) (acc : List Span) (y5 y6 : Option V), σ' = [some (.ref a), some (.ref b), some (.ref f), some (.int (i2 : Int)), some (.int (j2 : Int)), y5, y6] ∧ i2 ≤ ss.length ∧ j2 ≤ rs.length ∧ Same H H2 ∧ H2 f = some (.lst xs) ∧ Sps H2 xs acc ∧ Can acc ∧
                  (∀ x, (Mem ss x ∧ Mem rs x) ↔ (Mem acc x ∨ (Mem (ss.drop i2) x ∧ Mem (rs.drop j2) x))) ∧ (∀ s ∈ acc, ∀ t ∈ ss.drop i2, ∀ u ∈ rs.drop j2, s.2 < t.1 ∨ s.2 < u.1) ∧ acc.length ≤ i2 + j2 ∧ i2 + j2 = i + j + 1, rt := Q } [some (.ref a), some (.ref b), some (.ref f), some (.int (i : Int)), some (.int (j : Int)), some (.int lo), some (.int hi')] H2) := fun H2 xs2 acc2 _ sm2 hf2 hA2 can2 mm2 al2 new2 ha2 hb2 g12 g22 => by
            refine ⟨_, rfl, _, rfl, a, _, _, _, rfl, rfl, SqL.of ha2, atI_nat gu, t1, _, _, _, rfl, rfl, SqT.of g12, atI_nat (j := 1) rfl, _, rfl, _, rfl, b, _, _, _, rfl, rfl, SqL.of hb2, atI_nat gw, t2, _, _, _, rfl, rfl, SqT.of g22, atI_nat (j := 1) rfl, _, _, rfl, rfl, _, rfl, ?_⟩
            by_cases lt : s.2 < r.2
            · rw [decide_eq_true lt]
              have hh := hi1.2.2.2.1 lt
              refine iteT ⟨_, rfl, _, _, rfl, rfl, i + 1, j, xs2, acc2, _, _, rfl, by omega, hj, sm2, hf2, hA2, can2, fun x => ?_, fun s0 h0 t ht u hu => ?_, by omega, by omega⟩
              · rw [mm x, ds, dr, mm2 x, mem_cons]
                constructor
                · rintro (h | ⟨h1, h2⟩)
                  · exact .inl (.inl h)
                  · rcases h1 with h1 | h1
                    · rcases mem_cons.mp h2 with h2 | h2
                      · exact .inl (.inr ⟨by omega, by omega⟩)
                      · have := can_head cr h2
                        omega
                    · exact .inr ⟨h1, h2⟩
                · rintro ((h | h) | ⟨h1, h2⟩)
                  · exact .inl h
                  · exact .inr ⟨.inl ⟨by omega, by omega⟩, mem_cons.mpr (.inl ⟨by omega, by omega⟩)⟩
                  · exact .inr ⟨.inr h1, h2⟩
              · rcases new2 s0 h0 with h | h
                · exact gap s0 h t (by rw [ds]; exact List.mem_cons_of_mem _ ht) u hu
                · have := (List.pairwise_cons.mp cs.1).1 t ht
                  exact .inl (by omega)
            · rw [decide_eq_false lt]
              have hh := hi1.2.2.2.2 lt
              refine iteF ⟨_, rfl, _, _, rfl, rfl, i, j + 1, xs2, acc2, _, _, rfl, hi, by omega, sm2, hf2, hA2, can2, fun x => ?_, fun s0 h0 t ht u hu => ?_, by omega, by omega⟩
              · rw [mm x, ds, dr, mm2 x, mem_cons (s := r)]
                constructor
                · rintro (h | ⟨h1, h2⟩)
                  · exact .inl (.inl h)
                  · rcases h2 with h2 | h2
                    · rcases mem_cons.mp h1 with h1 | h1
                      · exact .inl (.inr ⟨by omega, by omega⟩)
                      · have := can_head cs h1
                        omega
                    · exact .inr ⟨h1, h2⟩
                · rintro ((h | h) | ⟨h1, h2⟩)
                  · exact .inl h
                  · exact .inr ⟨mem_cons.mpr (.inl ⟨by omega, by omega⟩), .inl ⟨by omega, by omega⟩⟩
                  · exact .inr ⟨h1, .inr h2⟩
              · rcases new2 s0 h0 with h | h
                · exact gap s0 h t ht u (by rw [dr]; exact List.mem_cons_of_mem _ hu)
                · have := (List.pairwise_cons.mp cr.1).1 u hu
                  exact .inr (by omega)
          refine ⟨_, rfl, _, rfl, _, _, rfl, rfl, _, rfl, ?_⟩
          by_cases lt : lo < hi'
          · rw [decide_eq_true lt]
            refine iteT ⟨_, rfl, .inl ⟨rfl, _, SqL.of hf⟩, _, rfl, _, rfl, (by show 2 ≤ sizeLine; decide), fun t nt => ?_⟩
            obtain ⟨gt, st⟩ := upd_at (o := .tup [.int lo, .int hi']) nt
            have alen := hA.len
            have cf : Chg [f] (upd H' t (.tup [.int lo, .int hi'])) (upd (upd H' t (.tup [.int lo, .int hi'])) f (.lst (xs ++ [.ref t]))) := Chg.upd List.mem_cons_self
            have lf : Lsts [f] (upd H' t (.tup [.int lo, .int hi'])) := Lsts.of1 (st _ _ hf)
            have naf : a ≠ f := ne_of_none ha hf0
            have nbf : b ≠ f := ne_of_none hb hf0
            have nt1 : t1 ≠ f := fun z => by
              rw [z, hf] at g1
              cases g1
            have nt2 : t2 ≠ f := fun z => by
              rw [z, hf] at g2
              cases g2
            refine ⟨f, xs, .ref t, rfl, rfl, st _ _ hf, small_lt (by omega), ?_⟩
            refine last _ (xs ++ [.ref t]) (acc ++ [(lo, hi')]) (.inr ⟨_, st, rfl⟩) (same_more (sm.trans st) hf0) upd_same (((hA.same st).app (.one ⟨t, rfl, gt⟩)).chg cf lf) (can_snoc can lt fun s0 h0 => ?_) (fun x => ?_) (by rw [List.length_append]; exact Nat.le_refl _) (fun s0 h0 => ?_) (cf _ _ (nmem1 naf) (st _ _ ha')) (cf _ _ (nmem1 nbf) (st _ _ hb')) (cf _ _ (nmem1 nt1) (st _ _ g1)) (cf _ _ (nmem1 nt2) (st _ _ g2))
            · have := gap s0 h0 s (by rw [ds]; exact List.mem_cons_self) r (by rw [dr]; exact List.mem_cons_self)
              show s0.2 < lo
              omega
            · rw [mem_app, mem_one]
            · rcases List.mem_append.mp h0 with h | h
              · exact .inl h
              · rw [List.mem_singleton.mp h]
                exact .inr rfl
          · rw [decide_eq_false lt]
            refine iteF (last H' xs acc (.inl (Same.refl _)) sm hf hA can (fun x => ?_) (Nat.le_succ _) (fun s0 h0 => .inl h0) ha' hb' g1 g2)
            constructor
            · exact .inl
            · rintro (h | h)
              · exact h
              · omega
      · rw [decide_eq_false hj2]
        exact iteF (done' (.inr (List.drop_eq_nil_iff.mpr (by omega))) trivial)
    · rw [decide_eq_false hi2]
      exact iteF (iteF (done' (.inl (List.drop_eq_nil_iff.mpr (by omega))) trivial))
/-! gaps -/
def spTwoC (T : Tx K mg) (g : List Span → List Span → Int → Prop) : Sp := fun vs H Q E => ∃ (a b : Addr) (us ws : List V) (ss rs : List Span), vs = [.ref a, .ref b] ∧ Two T H a b us ws ss rs ∧
  (ref1 ss = 0 → ref1 rs = 0 → ∀ (H' : Hp) (p : Addr) (xs : List V) (c : List Span), Chg T.tabs H H' → Tb T.tabs H' → H p = none → H' p = some (.lst xs) → Sps H' xs c → Can c → (∀ s ∈ c, isSpan s = true) → (∀ x, Mem c x ↔ g ss rs x) → c.length ≤ ss.length + rs.length + 1 → Q (.ref p) H') ∧
  (∀ n, n ≠ 0 → (ref1 ss = n ∨ (ref1 ss = 0 ∧ ref1 rs = n)) → ∀ H', Chg T.tabs H H' → Tb T.tabs H' → E (.ref (T.refC n)) none H')
def bothP (ss rs : List Span) (x : Int) : Prop := Mem ss x ∧ Mem rs x
def eitherP (ss rs : List Span) (x : Int) : Prop := Mem ss x ∨ Mem rs x
def lessP (ss rs : List Span) (x : Int) : Prop := Mem ss x ∧ ¬ Mem rs x
theorem ok_both (T : Tx K mg) (B : Tbs T base) : FnOk P w K mg base (L2.CX P w) (8) T.f_both T.fd_both ["one", "other"] (spTwoC T bothP) := by
  have G_check_covers : FnOk P w K mg base (L2.CX P w) _ _ _ _ _ := ok_check_covers T B
  have G_common : FnOk P w K mg base CX0 _ _ _ _ _ := ok_common T
  refine T.F_both.okX sc_both (fun vs H Q E h => ?_) (fun cdv A outer s H vs Q E hr h => ?_)
  · obtain ⟨a, b, us, ws, ss, rs, rfl, _⟩ := h
    rfl
  · obtain ⟨a, b, us, ws, ss, rs, rfl, two, q, e⟩ := h
    refine ⟨_, (pss_cons (ps_expr (pe_call G_check_covers (hr.mono (by decide)) (by rfl) T.g_check_covers T.F_check_covers.kp T.b_check_covers .nil (passes_call (takes_of rfl rfl rfl rfl) (fun _ _ _ _ h => h)) (pa_cons (pv 0) (pa_cons (pv 1) pa_nil))))
      (pss_one (ps_ret (pe_call G_common (hr.mono (by decide)) (by rfl) T.g_common T.F_common.kp T.b_common .nil pass0 (pa_cons (pv 0) (pa_cons (pv 1) pa_nil)))))), ?_⟩
    obtain ⟨ha, hS, hb, hR, tb⟩ := id two
    have aT := tb.out ha (fun ps z => by cases z)
    have bT := tb.out hb (fun ps z => by cases z)
    refine ⟨_, rfl, _, rfl, a, b, us, ws, ss, rs, rfl, two, fun r1 r2 H1 c1 tb1 => ?_, e⟩
    obtain ⟨s1, s2, canS, lS⟩ := ref1_can r1
    obtain ⟨_, _, canR, lR⟩ := ref1_can r2
    refine ⟨_, rfl, _, rfl, a, b, us, ws, ss, rs, rfl, c1 _ _ aT ha, hS.chg c1 tb.lsts, c1 _ _ bT hb, hR.chg c1 tb.lsts, canS, canR, by omega, by omega, fun H2 p xs c sm np hp hc can mem cl => ?_⟩
    refine q r1 r2 H2 p xs c (c1.trans (Chg.of_same sm)) (tb1.same sm) (c1.free (tb1.new np) np) hp hc can (can_spans can (fun x h => ((mem x).mp h).1) (List.all_eq_true.mp s1)) mem (by omega)
theorem ok_either (T : Tx K mg) (B : Tbs T base) : FnOk P w K mg base (L2.CX P w) (8) T.f_either T.fd_either ["one", "other"] (spTwoC T eitherP) := by
  have G_check_covers : FnOk P w K mg base (L2.CX P w) _ _ _ _ _ := ok_check_covers T B
  have G_joined : FnOk P w K mg base CX0 _ _ _ _ _ := ok_joined T
  refine T.F_either.okX sc_either (fun vs H Q E h => ?_) (fun cdv A outer s H vs Q E hr h => ?_)
  · obtain ⟨a, b, us, ws, ss, rs, rfl, _⟩ := h
    rfl
  · obtain ⟨a, b, us, ws, ss, rs, rfl, two, q, e⟩ := h
    refine ⟨_, (pss_cons (ps_expr (pe_call G_check_covers (hr.mono (by decide)) (by rfl) T.g_check_covers T.F_check_covers.kp T.b_check_covers .nil (passes_call (takes_of rfl rfl rfl rfl) (fun _ _ _ _ h => h)) (pa_cons (pv 0) (pa_cons (pv 1) pa_nil))))
      (pss_one (ps_ret (pe_call G_joined (hr.mono (by decide)) (by rfl) T.g_joined T.F_joined.kp T.b_joined .nil pass0 (pa_cons (pe_op op_cat (pv 0) (pv 1)) pa_nil))))), ?_⟩
    obtain ⟨ha, hS, hb, hR, tb⟩ := id two
    have aT := tb.out ha (fun ps z => by cases z)
    have bT := tb.out hb (fun ps z => by cases z)
    refine ⟨_, rfl, _, rfl, a, b, us, ws, ss, rs, rfl, two, fun r1 r2 H1 c1 tb1 => ?_, e⟩
    obtain ⟨s1, s2, canS, lS⟩ := ref1_can r1
    obtain ⟨s3, _, canR, lR⟩ := ref1_can r2
    have hS1 := hS.chg c1 tb.lsts
    have hR1 := hR.chg c1 tb.lsts
    have l1 := hS1.len
    have l2 := hR1.len
    refine ⟨_, rfl, _, rfl, a, b, us, ws, rfl, rfl, c1 _ _ aT ha, c1 _ _ bT hb, small_le (by omega), fun j nj => ?_⟩
    obtain ⟨gj, sj⟩ := upd_at (o := .lst (us ++ ws)) nj
    have al : (ss ++ rs).all isSpan = true := by
      rw [List.all_append, s1, s3]
      rfl
    refine ⟨j, us ++ ws, ss ++ rs, rfl, gj, (hS1.app hR1).same sj, all_pos al, by rw [List.length_append]; omega, fun H2 p xs c sm np hp hc can mem cl => ?_⟩
    have tb2 := tb1.same sj
    have nP := sj.free np
    refine q r1 r2 H2 p xs c (c1.trans (Chg.of_same (sj.trans sm))) (tb2.same sm) (c1.free (tb1.new nP) nP) hp hc can (can_spans can (fun x => (mem x).mp) (List.all_eq_true.mp al)) (fun x => (mem x).trans mem_app) ?_
    rw [List.length_append] at cl
    omega
end
section
variable {P : Program} {w : World} {K : PySem.W.Frag} {mg : Str → Option Value} {base : Heap}
/-! ### the law's own spans and covers -/
def spSpansL : Sp := fun vs H Q _ => ∃ (p e : Addr) (m : Nat) (n : Nat) (zs : List Int), vs = [.ref p, .ref e, .int (m : Int)] ∧ Pu H p n ∧ n + 3 + 21 * (m + 1) ≤ 1000000000 ∧ H e = some (.lst (zs.map V.int)) ∧ e ≠ p ∧ zs.length ≤ 1000 ∧ m ≤ 100 ∧ (∀ z ∈ zs, -999999999999 ≤ z ∧ z ≤ 999999999999) ∧
  ∀ (H' : Hp) (f : Addr) (us : List V) (ss : List Span) (zs' : List Int), Chg [p, e] H H' → Pu H' p (n + 3 + 21 * m) → H' e = some (.lst (zs'.map V.int)) → zs'.length ≤ zs.length + 2 * m → (∀ z ∈ zs', -999999999999 ≤ z ∧ z ≤ 999999999999) → H f = none → H' f = some (.lst us) → Sps H' us ss → (∀ s ∈ ss, isSpan s = true) → ss.length ≤ m → Q (.ref f) H'
theorem ok_spans (T : Tx K mg) : FnOk P w K mg base CX0 (6) T.f_l_spans T.fd_l_spans ["_law_purse_here", "_law_ends", "_law_most"] spSpansL := by
  have G_l_draw : FnOk P w K mg base CX0 _ _ _ _ _ := ok_draw T
  have G_l_span : FnOk P w K mg base CX0 _ _ _ _ _ := ok_span T
  refine T.F_l_spans.ok sc_l_spans (fun vs H Q E h => ?_) (fun cdv A outer s H vs Q E hr h => ?_)
  · obtain ⟨p, e, m, n, zs, rfl, _⟩ := h
    rfl
  · obtain ⟨p, e, m, n, zs, rfl, pu, hn, hE, nep, hz, hm, hzb, q⟩ := h
    refine ⟨_, (pss_cons (ps_set (i := 3) sc_l_spans.nd rfl (Or.inl rfl) (pe_lst pa_nil))
      (pss_cons (ps_for PassesOwn.never (by rfl) (pi_range1 (by rfl) T.m_range (pa_cons (pe_call G_l_draw (hr.mono (by decide)) (by rfl) T.g_l_draw T.F_l_draw.kp T.b_l_draw .nil pass0 (pa_cons (pv 0) (pa_cons (pe_op op_add (pv 2) pe_int) pa_nil))) pa_nil)) (pg_name (i := 4) sc_l_spans.nd rfl (Or.inl rfl))
        (pss_one (ps_if (PW.pt (pw_and (pt_cmpR (op_neD hr.units) (pv 3) (pe_lst pa_nil) (nomark _)) (pw_and1 (pt_cmpR op_eq (pe_call G_l_draw (hr.mono (by decide)) (by rfl) T.g_l_draw T.F_l_draw.kp T.b_l_draw .nil pass0 (pa_cons (pv 0) (pa_cons pe_int pa_nil))) pe_int (nomark _))))) (pss_one (ps_expr (pe_bm PySem.F.plainAttrs_list PySem.F.slot_list_append PySem.F.type_list_append mt_append (pv 3) (pa_cons (pe_ix ix_list (pv 3) (pe_call G_l_draw (hr.mono (by decide)) (by rfl) T.g_l_draw T.F_l_draw.kp T.b_l_draw .nil pass0 (pa_cons (pv 0) (pa_cons (pe_callB call_len_seq (by rfl) T.m_len PySem.boot_len (pa_cons (pv 3) pa_nil)) pa_nil))) (fun _ _ => rfl)) pa_nil)))) (pss_one (ps_expr (pe_bm PySem.F.plainAttrs_list PySem.F.slot_list_append PySem.F.type_list_append mt_append (pv 3) (pa_cons (pe_call G_l_span (hr.mono (by decide)) (by rfl) T.g_l_span T.F_l_span.kp T.b_l_span .nil pass0 (pa_cons (pv 0) (pa_cons (pv 1) (pa_cons (pe_op op_sub (pe_op op_pow pe_int pe_int) pe_int) pa_nil)))) pa_nil)))))))
      (pss_one (ps_ret (pv 3))))), ?_⟩
    have e12 : (10 : Int) ^ (12 : Int).toNat = 1000000000000 := by decide
    refine ⟨Nat.zero_le _, fun f nf => ?_⟩
    obtain ⟨gf, sf⟩ := upd_at (o := .lst []) nf
    have nfp : f ≠ p := (pu.ne nf).symm
    have nfe : f ≠ e := (ne_of_none hE nf).symm
    refine ⟨_, rfl, _, rfl, _, _, rfl, rfl, p, _, n, rfl, pu.same sf, by omega, by omega, by omega, fun H1 r c1 p1 r0 r1 => ?_⟩
    have rm : r.toNat ≤ m := by omega
    refine ⟨r, rfl, by omega, by omega, ?_⟩
    refine for_range (lo := 0) (n := r.toNat) (fun i σ H' => ∃ (y4 : Option V) (us : List V) (ss : List Span) (ws : List Int), σ = [some (.ref p), some (.ref e), some (.int (m : Int)), some (.ref f), y4] ∧ Chg [p, e] H H' ∧ Pu H' p (n + 3 + 21 * i) ∧ H' e = some (.lst (ws.map V.int)) ∧ ws.length ≤ zs.length + 2 * i ∧ (∀ z ∈ ws, -999999999999 ≤ z ∧ z ≤ 999999999999) ∧ H' f = some (.lst us) ∧ Sps H' us ss ∧ (∀ s ∈ ss, isSpan s = true) ∧ ss.length = i)
      ⟨none, [], [], zs, rfl, (Chg.of_same sf).trans (c1.mono fun x hx => by rw [List.mem_singleton.mp hx]; exact List.mem_cons_self), p1, c1 _ _ (nmem1 nep) (sf _ _ hE), by omega, hzb, c1 _ _ (nmem1 nfp) gf, .nil, (fun s hs => nomatch hs), rfl⟩ ?_ ?_
    · rintro i σ H' hi ⟨y4, us, ss, ws, rfl, cc, pi, hE', hw, hwb, hf, hS, ok, hl⟩
      have hul := hS.len
      refine ⟨_, rfl, Nat.zero_le _, fun l nl => ?_⟩
      obtain ⟨gl, sl⟩ := upd_at (o := .lst []) nl
      refine ⟨_, _, hS.same sl |>.dp (SqL.of (sl _ _ hf)), .lst (SqL.of gl) .nil, shaped_spans ss, shaped_nil, _, rfl, ?_⟩
      rw [eqv_spans_nil]
      have up : ∀ {X Y : Hp}, Chg [p] X Y → Chg [p, e] X Y := fun c => c.mono fun x hx => by
        rw [List.mem_singleton.mp hx]
        exact List.mem_cons_self
      -- a new span
      have fresh : ∀ (H2 : Hp), Chg [p, e] H' H2 → Pu H2 p (n + 3 + 21 * i + 3) → H2 e = some (.lst (ws.map V.int)) → H2 f = some (.lst us) → Sps H2 us ss →
          (tDrop (tBM K "list" rAppend (tVar 3) (tCons (tCall spSpan [] E0 (tCons (tVar 0) (tCons (tVar 1) (tCons (tOp (rI0 fun i j => .int (i - j)) (tOp (rI CPow fun i j => .int (i ^ j.toNat)) (tC (.int 10)) (tC (.int 12))) (tC (.int 1))) tNil)))) tNil))) { nx := fun σ' H3 => ∃ (y4 : Option V) (us : List V) (ss : List Span) (ws : List Int), σ' = [some (.ref p), some (.ref e), some (.int (m : Int)), some (.ref f), y4] ∧ Chg [p, e] H H3 ∧ Pu H3 p (n + 3 + 21 * (i + 1)) ∧ H3 e = some (.lst (ws.map V.int)) ∧ ws.length ≤ zs.length + 2 * (i + 1) ∧ (∀ z ∈ ws, -999999999999 ≤ z ∧ z ≤ 999999999999) ∧ H3 f = some (.lst us) ∧ Sps H3 us ss ∧ (∀ s ∈ ss, isSpan s = true) ∧ ss.length = i + 1, rt := Q } [some (.ref p), some (.ref e), some (.int (m : Int)), some (.ref f), some (.int (0 + (i : Int)))] H2 := fun H2 c2 p2 hE2 hf2 hS2 => by
        refine ⟨_, rfl, .inl ⟨rfl, _, SqL.of hf2⟩, _, rfl, _, rfl, _, _, rfl, rfl, ⟨by decide, by decide, by decide⟩, _, _, rfl, rfl, p, e, _, _, ws, rfl, p2, by omega, hE2, nep, by omega, by rw [e12]; decide, by rw [e12]; decide, fun H3 t lo hi c3 p3 hE3 nt ht b1 b2 b3 => ?_⟩
        rw [e12] at b1 b3
        have hf3 := c3 _ _ (nmem2 nfp nfe) hf2
        have lp : Lsts [p, e] H2 := p2.lsts.two (Lsts.of1 hE2)
        have hS3 : Sps H3 (us ++ [.ref t]) (ss ++ [(lo, hi)]) := (hS2.chg c3 lp).app (.one ⟨t, rfl, ht⟩)
        have cf : Chg [f] H3 (upd H3 f (.lst (us ++ [.ref t]))) := Chg.upd List.mem_cons_self
        have lf : Lsts [f] H3 := Lsts.of1 hf3
        refine ⟨f, us, .ref t, rfl, rfl, hf3, small_lt (by omega), _, us ++ [.ref t], ss ++ [(lo, hi)], ws ++ [lo, hi], rfl, ?_, (p3.chg cf (nmem1 nfp.symm)).mono (by omega), cf _ _ (nmem1 nfe.symm) hE3, ?_, fun z hz => ?_, upd_same, hS3.chg cf lf, fun s hs => ?_, ?_⟩
        · exact fun b o nb hb => by
            have h3 := (cc.trans (c2.trans c3)) b o nb hb
            rw [upd_ne (ne_of_none hb nf)]
            exact h3
        · rw [List.length_append]
          simp
          omega
        · rcases List.mem_append.mp hz with h | h
          · exact hwb z h
          · rcases List.mem_cons.mp h with h | h
            · rw [h]
              omega
            · rw [List.mem_singleton.mp h]
              omega
        · rcases List.mem_append.mp hs with h | h
          · exact ok s h
          · rw [List.mem_singleton.mp h]
            exact (isSpan_iff (lo, hi)).mpr ⟨by simpa using b1, b2, by simpa using b3⟩
        · rw [List.length_append, hl]
          rfl
      by_cases hnil : ss = []
      · rw [decide_eq_true hnil]
        exact iteF (iteF (fresh _ (Chg.of_same sl) ((pi.same sl).mono (by omega)) (sl _ _ hE') (sl _ _ hf) (hS.same sl)))
      · rw [decide_eq_false hnil]
        have h0 : 0 < ss.length := List.length_pos_iff.mpr hnil
        refine iteT ⟨_, rfl, p, 6, _, rfl, pi.same sl, by omega, by decide, by decide, fun H2 x c2 p2 x0 x1 => ?_⟩
        have hE2 := c2 _ _ (nmem1 nep) (sl _ _ hE')
        have hf2 := c2 _ _ (nmem1 nfp) (sl _ _ hf)
        have hS2 := (hS.same sl).chg c2 (pi.same sl).lsts
        refine ⟨rfl, _, rfl, ite2 (fun _ => ?_) (fun _ => ?_)⟩
        · refine ⟨_, rfl, .inl ⟨rfl, _, SqL.of hf2⟩, _, rfl, _, rfl, _, rfl, f, _, rfl, .inl (SqL.of hf2), p, us.length, _, rfl, p2, by omega, by omega, by omega, fun H3 y c3 p3 y0 y1 => ?_⟩
          have hf3 := c3 _ _ (nmem1 nfp) hf2
          have hS3 := hS2.chg c3 p2.lsts
          have hy : y.toNat < us.length := by omega
          obtain ⟨sp, es, hsp⟩ := hS3.get (List.getElem?_eq_getElem hy)
          refine ⟨f, us, y, us[y.toNat], rfl, rfl, SqL.of hf3, at_of (j := y.toNat) (by omega) (List.getElem?_eq_getElem hy), ?_⟩
          have cf : Chg [f] H3 (upd H3 f (.lst (us ++ [us[y.toNat]]))) := Chg.upd List.mem_cons_self
          have lf : Lsts [f] H3 := Lsts.of1 hf3
          refine ⟨f, us, _, rfl, rfl, hf3, small_lt (by omega), _, us ++ [us[y.toNat]], ss ++ [sp], ws, rfl, ?_, (p3.chg cf (nmem1 nfp.symm)).mono (by omega), cf _ _ (nmem1 nfe.symm) (c3 _ _ (nmem1 nep) hE2), by omega, hwb, upd_same, (hS3.app (.one hsp)).chg cf lf, fun s hs => ?_, ?_⟩
          · exact fun b o nb hb => by
              have h3 := (cc.trans ((Chg.of_same sl).trans (up (c2.trans c3)))) b o nb hb
              rw [upd_ne (ne_of_none hb nf)]
              exact h3
          · rcases List.mem_append.mp hs with h | h
            · exact ok s h
            · rw [List.mem_singleton.mp h]
              exact ok sp (List.mem_of_getElem? es)
          · rw [List.length_append, hl]
            rfl
        · exact fresh _ ((Chg.of_same sl).trans (up c2)) p2 hE2 hf2 hS2
    · rintro σ H' ⟨y4, us, ss, ws, rfl, cc, pi, hE', hw, hwb, hf, hS, ok, hl⟩
      exact ⟨_, rfl, q H' f us ss ws cc (pi.mono (by omega)) hE' (by omega) hwb nf hf hS ok (by omega)⟩
end
/-! ### pieces found between neighbouring ends -/
def PFt (f : Int → Int) : Int → Int → List Piece → Prop
  | b, c, [] => ∀ x, b ≤ x → x < c → f x = 0
  | b, c, p :: r => b ≤ p.1 ∧ p.1 < p.2.1 ∧ p.2.1 ≤ c ∧ 0 < p.2.2 ∧ (∀ x, b ≤ x → x < p.1 → f x = 0) ∧ (∀ x, p.1 ≤ x → x < p.2.1 → f x = p.2.2) ∧ (p.2.1 < c → f p.2.1 ≠ p.2.2) ∧ PFt f p.2.1 c r
theorem PFt.done {f : Int → Int} {c : Int} (h0 : ∀ x, c ≤ x → f x = 0) : ∀ {l : List Piece} {b : Int}, PFt f b c l → PF f b l
  | [], b, h => fun x hx => by
    by_cases e : x < c
    · exact h x hx e
    · exact h0 x (by omega)
  | p :: r, b, ⟨h1, h2, h3, h4, h5, h6, h7, h8⟩ => by
    refine ⟨h1, h2, h4, h5, h6, ?_, h8.done h0⟩
    by_cases e : p.2.1 < c
    · exact h7 e
    · have := h0 p.2.1 (by omega)
      omega
theorem PFt.add {f : Int → Int} {c c' d : Int} (hc : c < c') (hf : ∀ x, c ≤ x → x < c' → f x = d) (hd : 0 ≤ d) : ∀ {l : List Piece} {b : Int}, b ≤ c → PFt f b c l → (∀ p, l.getLast? = some p → p.2.1 = c → p.2.2 ≠ d) → PFt f b c' (l ++ if 0 < d then [(c, c', d)] else [])
  | [], b, hb, h, _ => by
    by_cases e : 0 < d
    · rw [if_pos e]
      exact ⟨hb, hc, Int.le_refl _, e, h, hf, fun z => absurd z (Int.lt_irrefl _), fun x h1 h2 => by simp only at h1; omega⟩
    · rw [if_neg e]
      intro x h1 h2
      by_cases z : x < c
      · exact h x h1 z
      · have := hf x (by omega) h2
        omega
  | p :: r, b, hb, ⟨h1, h2, h3, h4, h5, h6, h7, h8⟩, hl => by
    refine ⟨h1, h2, by omega, h4, h5, h6, fun _ => ?_, PFt.add hc hf hd h3 h8 fun q hq hq2 => hl q ?_ hq2⟩
    · by_cases e : p.2.1 < c
      · exact h7 e
      · have e : p.2.1 = c := by omega
        have nr : r = [] := by
          cases r with
          | nil => rfl
          | cons q r =>
            obtain ⟨k1, k2, k3, _⟩ := h8
            omega
        have := hl p (by rw [nr]; rfl) e
        have := hf c (Int.le_refl _) hc
        rw [e]
        omega
    · cases r with
      | nil => simp at hq
      | cons q' r => exact hq
theorem PFt.wide {f : Int → Int} {c c' d : Int} (hc : c < c') (hf : ∀ x, c ≤ x → x < c' → f x = d) (hd : 0 ≤ d) : ∀ {l : List Piece} {b a : Int}, PFt f b c (l ++ [(a, c, d)]) → PFt f b c' (l ++ [(a, c', d)])
  | [], b, a, ⟨h1, h2, h3, h4, h5, h6, h7, h8⟩ => by
    simp only at *
    refine ⟨h1, by show a < c'; omega, Int.le_refl _, h4, h5, fun x k1 k2 => ?_, fun z => absurd z (Int.lt_irrefl _), fun x k1 k2 => by simp only at k1; omega⟩
    simp only at k1 k2
    by_cases e : x < c
    · exact h6 x k1 e
    · exact hf x (by omega) k2
  | p :: r, b, a, ⟨h1, h2, h3, h4, h5, h6, h7, h8⟩ => by
    have lt : p.2.1 < c := by
      cases r with
      | nil =>
        obtain ⟨k1, k2, _⟩ := h8
        simp only at k1 k2
        omega
      | cons q r =>
        obtain ⟨k1, k2, k3, _⟩ := h8
        omega
    exact ⟨h1, h2, by omega, h4, h5, h6, fun _ => h7 lt, PFt.wide hc hf hd h8⟩
/-- one step of the search -/
def stepPc (l : List Piece) (c c' d : Int) : List Piece :=
  match l.getLast? with
  | some p => if p.2.1 = c ∧ p.2.2 = d then l.dropLast ++ [(p.1, c', d)] else l ++ if 0 < d then [(c, c', d)] else []
  | none => l ++ if 0 < d then [(c, c', d)] else []
theorem stepPc_ok {f : Int → Int} {c c' d b : Int} {l : List Piece} (hc : c < c') (hf : ∀ x, c ≤ x → x < c' → f x = d) (hd : 0 ≤ d) (hb : b ≤ c) (h : PFt f b c l) : PFt f b c' (stepPc l c c' d) := by
  unfold stepPc
  cases hl : l.getLast? with
  | none => exact h.add hc hf hd hb fun p hp => by rw [hl] at hp; cases hp
  | some p =>
    by_cases e : p.2.1 = c ∧ p.2.2 = d
    · simp only
      rw [if_pos e]
      have el : l = l.dropLast ++ [(p.1, c, d)] := by
        have ne : l ≠ [] := fun z => by
          rw [z] at hl
          cases hl
        have hp : l.getLast ne = p := by
          rw [List.getLast?_eq_some_getLast ne] at hl
          exact Option.some.inj hl
        have e9 := (List.dropLast_concat_getLast ne).symm
        rw [hp] at e9
        obtain ⟨e1, e2⟩ := e
        obtain ⟨a, b', d'⟩ := p
        simp only at e1 e2
        subst e1 e2
        exact e9
      rw [el] at h
      exact h.wide hc hf hd
    · simp only
      rw [if_neg e]
      refine h.add hc hf hd hb fun q hq hq2 hq3 => e ?_
      rw [hl] at hq
      cases hq
      exact ⟨hq2, hq3⟩
/-- the best, told by all -/
theorem best_of : ∀ {l : List Piece}, (l.map (·.1)).Pairwise (· < ·) → ∀ {d lo : Int}, bestL l = some (d, lo) ↔ ((∃ p ∈ l, p.1 = lo ∧ p.2.2 = d) ∧ ∀ q ∈ l, q.2.2 ≤ d ∧ (q.2.2 = d → lo ≤ q.1)) := by
  have main : ∀ (n : Nat) (l : List Piece), l.length = n → (l.map (·.1)).Pairwise (· < ·) → (l = [] ∧ bestL l = none) ∨ ∃ d lo, bestL l = some (d, lo) ∧ (∃ p ∈ l, p.1 = lo ∧ p.2.2 = d) ∧ ∀ q ∈ l, q.2.2 ≤ d ∧ (q.2.2 = d → lo ≤ q.1) := by
    intro n
    induction n with
    | zero =>
      intro l hl _
      have := List.length_eq_zero_iff.mp hl
      subst this
      exact .inl ⟨rfl, rfl⟩
    | succ n ih =>
      intro l hl hp
      have ne : l ≠ [] := fun z => by rw [z] at hl; cases hl
      obtain ⟨m, x, rfl⟩ : ∃ m x, l = m ++ [x] := ⟨l.dropLast, l.getLast ne, (List.dropLast_concat_getLast ne).symm⟩
      rw [List.map_append, List.pairwise_append] at hp
      obtain ⟨hp1, _, hp3⟩ := hp
      have hx : ∀ q ∈ m, q.1 < x.1 := fun q hq => hp3 q.1 (List.mem_map.mpr ⟨q, hq, rfl⟩) x.1 (by simp)
      right
      rw [bestL_snoc]
      rcases ih m (by simpa using hl) hp1 with ⟨rfl, e⟩ | ⟨d, lo, e, ⟨p, h1, h2, h3⟩, h4⟩
      · rw [e]
        refine ⟨x.2.2, x.1, rfl, ⟨x, by simp, rfl, rfl⟩, fun q hq => ?_⟩
        have : q = x := by simpa using hq
        subst this
        exact ⟨Int.le_refl _, fun _ => Int.le_refl _⟩
      · rw [e]
        by_cases hd : d < x.2.2
        · refine ⟨x.2.2, x.1, by simp [stpB, hd], ⟨x, by simp, rfl, rfl⟩, fun q hq => ?_⟩
          rcases List.mem_append.mp hq with hq | hq
          · have := h4 q hq
            exact ⟨by omega, fun z => by omega⟩
          · have : q = x := by simpa using hq
            subst this
            exact ⟨Int.le_refl _, fun _ => Int.le_refl _⟩
        · refine ⟨d, lo, by simp [stpB, hd], ⟨p, List.mem_append_left _ h1, h2, h3⟩, fun q hq => ?_⟩
          rcases List.mem_append.mp hq with hq | hq
          · exact h4 q hq
          · have : q = x := by simpa using hq
            subst this
            have := hx p h1
            exact ⟨by omega, fun _ => by omega⟩
  intro l hp d lo
  rcases main _ l rfl hp with ⟨rfl, e⟩ | ⟨d', lo', e, ⟨p, h1, h2, h3⟩, h4⟩
  · rw [e]
    constructor
    · intro z
      cases z
    · rintro ⟨⟨p, hp, _⟩, _⟩
      cases hp
  · rw [e]
    constructor
    · intro z
      cases z
      exact ⟨⟨p, h1, h2, h3⟩, h4⟩
    · rintro ⟨⟨q, k1, k2, k3⟩, k4⟩
      have a1 := h4 q k1
      have a2 := k4 p h1
      have e1 : d' = d := by omega
      subst e1
      have e2 : lo' = lo := by
        have := a1.2 k3
        have := a2.2 h3
        omega
      rw [e2]
theorem bestL_ne {l : List Piece} (h : l ≠ []) : ∃ s, bestL l = some s := by
  obtain ⟨m, x, rfl⟩ : ∃ m x, l = m ++ [x] := ⟨l.dropLast, l.getLast h, (List.dropLast_concat_getLast h).symm⟩
  rw [bestL_snoc]
  cases bestL m with
  | none => exact ⟨_, rfl⟩
  | some b =>
    by_cases e : b.1 < x.2.2
    · exact ⟨(x.2.2, x.1), by simp [stpB, e]⟩
    · exact ⟨b, by simp [stpB, e]⟩
section
variable {P : Program} {w : World} {K : PySem.W.Frag} {mg : Str → Option Value} {base : Heap}
/-! ### the law: depths add up -/
theorem Sps.lq {H : Hp} {l : Addr} {us : List V} {ss : List Span} (h : Sps H us ss) (hl : H l = some (.lst us)) : Lq H l ss := ⟨us, hl, h⟩
theorem mem_dep {ss : List Span} {x : Int} : Mem ss x ↔ 0 < ((dep ss x : Nat) : Int) := by
  have := dep_pos (ss := ss) (x := x)
  constructor
  · rintro ⟨s, h1, h2⟩
    have := this.mpr ⟨s, h1, h2⟩
    omega
  · intro h
    obtain ⟨s, h1, h2⟩ := this.mp (by omega)
    exact ⟨s, h1, h2⟩
theorem mem_pcs {ps : List Piece} {x : Int} : Mem (ps.map fun p => (p.1, p.2.1)) x ↔ ∃ p ∈ ps, p.1 ≤ x ∧ x < p.2.1 := by
  constructor
  · rintro ⟨s, hs, h⟩
    obtain ⟨p, hp, rfl⟩ := List.mem_map.mp hs
    exact ⟨p, hp, h⟩
  · rintro ⟨p, hp, h⟩
    exact ⟨_, List.mem_map.mpr ⟨p, hp, rfl⟩, h⟩
/-- the greatest depth -/
def MaxD (ss : List Span) (D : Int) : Prop := (∀ x, ((dep ss x : Nat) : Int) ≤ D) ∧ 0 ≤ D ∧ (0 < D → ∃ x, ((dep ss x : Nat) : Int) = D)
theorem best_max {ss : List Span} {ps : List Piece} (h : Prf ss ps) : (bestL ps = none → MaxD ss 0 ∧ ps = [] ∧ (∀ s ∈ ss, ¬ s.1 < s.2)) ∧ ∀ d lo, bestL ps = some (d, lo) → MaxD ss d ∧ 0 < d ∧ ((dep ss lo : Nat) : Int) = d ∧ ((dep ss (lo - 1) : Nat) : Int) < d := by
  obtain ⟨b0, hb0⟩ := low_of ss
  constructor
  · intro e
    have en : ps = [] := by
      cases hp : ps with
      | nil => rfl
      | cons q r =>
        obtain ⟨s, hs⟩ := bestL_ne (l := ps) (by rw [hp]; simp)
        rw [hs] at e
        cases e
    subst en
    have z : ∀ x, dep ss x = 0 := fun x => by
      have := h (min b0 x) (fun s hs => by have := hb0 s hs; omega) x (by omega)
      have : ((dep ss x : Nat) : Int) = 0 := this
      omega
    refine ⟨⟨fun x => by rw [z x]; exact Int.le_refl _, Int.le_refl _, fun h => absurd h (Int.lt_irrefl _)⟩, rfl, fun s hs hlt => ?_⟩
    have := dep_pos.mpr ⟨s, hs, Int.le_refl _, hlt⟩
    rw [z] at this
    omega
  · intro d lo e
    have pf := h b0 hb0
    obtain ⟨⟨p, hp, e1, e2⟩, all⟩ := (best_of (pf_rise pf)).mp e
    obtain ⟨a1, a2, a3, a4⟩ := pf_lo pf p hp
    have a4 : ((dep ss p.1 : Nat) : Int) = p.2.2 := a4
    have up : ∀ x, ((dep ss x : Nat) : Int) ≤ d ∧ (((dep ss x : Nat) : Int) = d → lo ≤ x) := fun x => by
      have pf' := h (min b0 x) fun s hs => by have := hb0 s hs; omega
      by_cases hz : ((dep ss x : Nat) : Int) = 0
      · exact ⟨by omega, fun z => by omega⟩
      · obtain ⟨q, hq, b1, b2, b3⟩ := pf_in pf' x (by omega) hz
        have b3 : ((dep ss x : Nat) : Int) = q.2.2 := b3
        have := all q hq
        exact ⟨by omega, fun z => by have := this.2 (by omega); omega⟩
    refine ⟨⟨fun x => (up x).1, by omega, fun _ => ⟨p.1, by omega⟩⟩, by omega, by rw [← e1]; omega, ?_⟩
    have u1 := (up (lo - 1)).1
    by_cases z : ((dep ss (lo - 1) : Nat) : Int) = d
    · have := (up (lo - 1)).2 z
      omega
    · omega
def spDeepL : Sp := fun vs H Q _ => ∃ (l : Addr) (ss : List Span), vs = [.ref l] ∧ Lq H l ss ∧ Few ss ∧ ss.all isSpan = true ∧ ∀ H' D, Same H H' → MaxD ss D → Q (.int D) H'
theorem ok_deepL (T : Tx K mg) : FnOk P w K mg base CX0 (7) T.f_l_deep T.fd_l_deep ["_law_spans_here"] spDeepL := by
  have G_deepest : FnOk P w K mg base (L2.CX P w) _ _ _ _ _ := ok_deepest T
  refine T.F_l_deep.ok sc_l_deep (fun vs H Q E h => ?_) (fun cdv A outer s H vs Q E hr h => ?_)
  · obtain ⟨l, ss, rfl, _⟩ := h
    rfl
  · obtain ⟨l, ss, rfl, ⟨us, hl, hS⟩, few, ok, q⟩ := h
    refine ⟨_, (pss_cons (ps_set (i := 1) sc_l_deep.nd rfl (Or.inl rfl) (pe_call G_deepest (hr.mono (by decide)) (by rfl) T.g_deepest T.F_deepest.kp T.b_deepest .nil passL (pa_cons (pv 0) pa_nil)))
      (pss_cons (ps_if (pt_cmpR op_isN (pv 1) pe_non (nomark _)) (pss_one (ps_ret pe_int)) pss_nil)
      (pss_one (ps_ret (pe_ix ix_tup (pv 1) pe_int (fun _ _ => rfl)))))), ?_⟩
    refine ⟨_, rfl, l, us, ss, rfl, hl, hS, few, fun n => ?_, fun _ H1 v ps s1 prf hb => ?_⟩
    · rw [ok] at n
      cases n
    obtain ⟨b1, b2⟩ := best_max prf
    cases e : bestL ps with
    | none =>
      rw [e] at hb
      have hb : v = .non := hb
      subst hb
      exact ⟨_, rfl, rfl, _, rfl, iteT (q H1 0 s1 (b1 e).1)⟩
    | some sb =>
      rw [e] at hb
      obtain ⟨t, rfl, ht⟩ := hb
      obtain ⟨d, lo⟩ := sb
      refine ⟨_, rfl, rfl, _, rfl, iteF ?_⟩
      exact ⟨_, rfl, t, _, _, _, rfl, rfl, SqT.of ht, atI_nat (j := 0) rfl, q H1 d s1 (b2 d lo e).1⟩
def spTwiceL : Sp := fun vs H Q _ => ∃ (l : Addr) (ss : List Span), vs = [.ref l] ∧ Lq H l ss ∧ Few ss ∧ ss.all isSpan = true ∧
  ∀ H' r c, Same H H' → H r = none → Lq H' r c → Can c → (∀ s ∈ c, isSpan s = true) → (∀ x, Mem c x ↔ 1 < ((dep ss x : Nat) : Int)) → c.length ≤ 64 → Q (.ref r) H'
theorem ok_twiceL (T : Tx K mg) : FnOk P w K mg base CX0 (7) T.f_l_twice T.fd_l_twice ["_law_spans_here"] spTwiceL := by
  have G_profile : FnOk P w K mg base (L2.CX P w) _ _ _ _ _ := ok_profile T
  have G_cover_of : FnOk P w K mg base (L2.CX P w) _ _ _ _ _ := ok_cover_of T
  refine T.F_l_twice.ok sc_l_twice (fun vs H Q E h => ?_) (fun cdv A outer s H vs Q E hr h => ?_)
  · obtain ⟨l, ss, rfl, _⟩ := h
    rfl
  · obtain ⟨l, ss, rfl, ⟨us, hl, hS⟩, few, ok, q⟩ := h
    refine ⟨_, (pss_one (ps_ret (pe_call G_cover_of (hr.mono (by decide)) (by rfl) T.g_cover_of T.F_cover_of.kp T.b_cover_of .nil passL (pa_cons (pe_lc (own := [("_law_low", 1), ("_law_high", 2), ("_law_deep_here", 3)]) (g := (gTup K 3 (gCons (gName 1) (gCons (gName 2) (gCons (gName 3) gNil))))) (by rfl) sc_l_twice.nd (pi_list (pe_call G_profile (hr.mono (by decide)) (by rfl) T.g_profile T.F_profile.kp T.b_profile .nil passL (pa_cons (pv 0) pa_nil))) (blkOk_by (own := [("_law_low", 1), ("_law_high", 2), ("_law_deep_here", 3)]) (N := N_l_twice) (sc := defScope s_l_twice) (by decide +kernel)) (fun _ _ _ _ _ => (by exact (pg_tup rfl (pgs_cons (pg_name (i := 1) sc_l_twice.nd rfl (Or.inl rfl)) (pgs_cons (pg_name (i := 2) sc_l_twice.nd rfl (Or.inl rfl)) (pgs_cons (pg_name (i := 3) sc_l_twice.nd rfl (Or.inl rfl)) pgs_nil)))))) (fun _ _ _ _ _ => (pts_one (pt_cmpR op_gt (pv 3) pe_int (nomark _)))) (fun _ _ _ _ _ => (pe_tup (pa_cons (pv 1) (pa_cons (pv 2) pa_nil))))) pa_nil)))), ?_⟩
    refine ⟨_, rfl, l, us, ss, rfl, hl, hS, few, fun n => ?_, fun _ H1 r ws ps s1 nr hr1 hp prf pl => ?_⟩
    · rw [ok] at n
      cases n
    have wl := hp.len
    rw [List.length_map] at wl
    refine ⟨r, rfl, ⟨_, SqL.of hr1⟩, fun D nD => ?_⟩
    refine lc_list (K := K) (a := r) (xs := ws) (fun i H' => Same H1 H' ∧ ∃ xs, H' D = some (.lst xs) ∧ Sps H' xs (((ps.take i).filter fun p => decide (1 < p.2.2)).map fun p => (p.1, p.2.1))) ⟨same_upd nD, [], upd_same, .nil⟩ (fun i H' _ h => SqL.of (h.1 _ _ hr1)) ?_ ?_
    · rintro i y H' hi ⟨sm, xs, hD, hx⟩
      obtain ⟨row, er, hrow⟩ := hp.get hi
      rw [List.getElem?_map] at er
      obtain ⟨pc, ep, rfl⟩ := Option.map_eq_some_iff.mp er
      obtain ⟨t, rfl, ht⟩ := hrow
      have tk : ps.take (i + 1) = ps.take i ++ [pc] := by
        rw [List.take_add_one, ep]
        rfl
      have xl := hx.len
      have xl2 : xs.length ≤ 64 := by
        rw [xl, List.length_map]
        have h1 := List.length_filter_le (fun p : Piece => decide (1 < p.2.2)) (ps.take i)
        rw [List.length_take] at h1
        omega
      refine ⟨t, _, rfl, SqT.of (sm _ _ ht), rfl, _, _, rfl, _, _, rfl, _, _, rfl, rfl, rfl, ?_⟩
      refine ⟨_, rfl, _, _, rfl, rfl, _, rfl, ?_⟩
      rw [tk, List.filter_append]
      refine ite2 (fun e => ?_) (fun e => ?_)
      · have e : 1 < pc.2.2 := of_decide_eq_true e
        refine ⟨_, rfl, _, rfl, (by show 2 ≤ sizeLine; decide), fun t2 nt2 => ?_⟩
        have st := same_upd (o := .tup [.int pc.1, .int pc.2.1]) nt2
        have cf : Chg [D] (upd H' t2 (.tup [.int pc.1, .int pc.2.1])) (upd (upd H' t2 (.tup [.int pc.1, .int pc.2.1])) D (.lst (xs ++ [.ref t2]))) := Chg.upd List.mem_cons_self
        refine ⟨xs, st _ _ hD, small_lt (by omega), same_more (sm.trans st) nD, xs ++ [.ref t2], upd_same, ?_⟩
        rw [List.map_append, show [pc].filter (fun p : Piece => decide (1 < p.2.2)) = [pc] by simp [e]]
        exact Sps.app ((hx.same st).chg cf (Lsts.of1 (st _ _ hD))) (.one (Spn.chg ⟨t2, rfl, upd_same⟩ cf (Lsts.of1 (st _ _ hD))))
      · have e : ¬ 1 < pc.2.2 := fun z => e (decide_eq_true z)
        rw [show [pc].filter (fun p : Piece => decide (1 < p.2.2)) = [] by simp [e], List.append_nil]
        exact ⟨sm, xs, hD, hx⟩
    · rintro H2 ⟨s2, xs, hD, hx⟩
      rw [wl, List.take_length] at hx
      have sp : ∀ s ∈ (ps.filter fun p => decide (1 < p.2.2)).map fun p => (p.1, p.2.1), isSpan s = true := fun s hs => by
        obtain ⟨p, hp', rfl⟩ := List.mem_map.mp hs
        exact prf_span ok prf p (List.mem_filter.mp hp').1
      have ln : ((ps.filter fun p => decide (1 < p.2.2)).map fun p => (p.1, p.2.1)).length ≤ 64 := by
        rw [List.length_map]
        have h1 := List.length_filter_le (fun p : Piece => decide (1 < p.2.2)) ps
        omega
      refine ⟨D, xs, _, rfl, hD, hx, by omega, fun n => ?_, fun _ H3 g gs c s3 ng hg hc can mem cl => ?_⟩
      · rw [List.all_eq_true.mpr sp] at n
        cases n
      refine q H3 g c (s1.trans (s2.trans s3)) ((s1.trans s2).free ng) ⟨gs, hg, hc⟩ can (can_spans can (fun x => (mem x).mp) sp) (fun x => ?_) (by omega)
      rw [mem x, mem_pcs, ← prf_mem prf 1 (by decide) x]
      constructor
      · rintro ⟨p, hp', h⟩
        obtain ⟨h1, h2⟩ := List.mem_filter.mp hp'
        exact ⟨p, h1, of_decide_eq_true h2, h⟩
      · rintro ⟨p, hp', h1, h⟩
        exact ⟨p, List.mem_filter.mpr ⟨hp', decide_eq_true h1⟩, h⟩
end
section
variable {P : Program} {w : World} {K : PySem.W.Frag} {mg : Str → Option Value} {base : Heap}
theorem place_of {x : Int} (h1 : -999999999999 ≤ x) (h2 : x ≤ 999999999999) : isPlace x = true := by
  unfold isPlace
  rw [decide_eq_true h1, decide_eq_true h2]
  rfl
def spOneL (T : Tx K mg) : Sp := fun vs H Q _ => ∃ (l : Addr) (ss : List Span), vs = [.ref l] ∧ Lq H l ss ∧ Few ss ∧ ss.length ≤ 20 ∧ ss.all isSpan = true ∧ Tb T.tabs H ∧ ∀ H', Kp [] H H' → Tb T.tabs H' → Q (.bl true) H'
theorem ok_oneL (T : Tx K mg) (B : Tbs T base) : FnOk P w K mg base CX0 (7) T.f_l_one_right T.fd_l_one_right ["_law_spans_here"] (spOneL T) := by
  have G_profile : FnOk P w K mg base (L2.CX P w) _ _ _ _ _ := ok_profile T
  have G_cover_of : FnOk P w K mg base (L2.CX P w) _ _ _ _ _ := ok_cover_of T
  have G_deepest : FnOk P w K mg base (L2.CX P w) _ _ _ _ _ := ok_deepest T
  have G_depth_at : FnOk P w K mg base (L2.CX P w) _ _ _ _ _ := ok_depth_at T B
  refine T.F_l_one_right.ok sc_l_one_right (fun vs H Q E h => ?_) (fun cdv A outer s H vs Q E hr h => ?_)
  · obtain ⟨l, ss, rfl, _⟩ := h
    rfl
  · obtain ⟨l, ss, rfl, ⟨us, hl, hS⟩, few, sl, ok, tb, q⟩ := h
    refine ⟨_, (pss_cons (ps_set (i := 1) sc_l_one_right.nd rfl (Or.inl rfl) (pe_call G_profile (hr.mono (by decide)) (by rfl) T.g_profile T.F_profile.kp T.b_profile .nil passL (pa_cons (pv 0) pa_nil)))
      (pss_cons (ps_if (pt_cmpR op_ne (pe_callB (cr_sum rfl) (by rfl) T.m_sum (by decide +kernel) (pa_cons (pe_lc (own := [("_law_low", 4), ("_law_high", 5), ("_law_deep_here", 6)]) (g := (gTup K 3 (gCons (gName 4) (gCons (gName 5) (gCons (gName 6) gNil))))) (by rfl) sc_l_one_right.nd (pi_list (pv 1)) (blkOk_by (own := [("_law_low", 4), ("_law_high", 5), ("_law_deep_here", 6)]) (N := N_l_one_right) (sc := defScope s_l_one_right) (by decide +kernel)) (fun _ _ _ _ _ => (by exact (pg_tup rfl (pgs_cons (pg_name (i := 4) sc_l_one_right.nd rfl (Or.inl rfl)) (pgs_cons (pg_name (i := 5) sc_l_one_right.nd rfl (Or.inl rfl)) (pgs_cons (pg_name (i := 6) sc_l_one_right.nd rfl (Or.inl rfl)) pgs_nil)))))) (fun _ _ _ _ _ => pts_nil) (fun _ _ _ _ _ => (pe_op op_mul (pe_op op_sub (pv 5) (pv 4)) (pv 6)))) pa_nil)) (pe_callB (cr_sum rfl) (by rfl) T.m_sum (by decide +kernel) (pa_cons (pe_lc (own := [("_law_low", 4), ("_law_high", 5)]) (g := (gTup K 2 (gCons (gName 4) (gCons (gName 5) gNil)))) (by rfl) sc_l_one_right.nd (pi_list (pv 0)) (blkOk_by (own := [("_law_low", 4), ("_law_high", 5)]) (N := N_l_one_right) (sc := defScope s_l_one_right) (by decide +kernel)) (fun _ _ _ _ _ => (by exact (pg_tup rfl (pgs_cons (pg_name (i := 4) sc_l_one_right.nd rfl (Or.inl rfl)) (pgs_cons (pg_name (i := 5) sc_l_one_right.nd rfl (Or.inl rfl)) pgs_nil))))) (fun _ _ _ _ _ => pts_nil) (fun _ _ _ _ _ => (pe_op op_sub (pv 5) (pv 4)))) pa_nil)) (nomark _)) (pss_one (ps_ret pe_bl)) pss_nil)
      (pss_cons (ps_if (pt_cmpR (op_neD hr.units) (pe_call G_cover_of (hr.mono (by decide)) (by rfl) T.g_cover_of T.F_cover_of.kp T.b_cover_of .nil passL (pa_cons (pe_lc (own := [("_law_low", 4), ("_law_high", 5), ("_law_deep_here", 6)]) (g := (gTup K 3 (gCons (gName 4) (gCons (gName 5) (gCons (gName 6) gNil))))) (by rfl) sc_l_one_right.nd (pi_list (pv 1)) (blkOk_by (own := [("_law_low", 4), ("_law_high", 5), ("_law_deep_here", 6)]) (N := N_l_one_right) (sc := defScope s_l_one_right) (by decide +kernel)) (fun _ _ _ _ _ => (by exact (pg_tup rfl (pgs_cons (pg_name (i := 4) sc_l_one_right.nd rfl (Or.inl rfl)) (pgs_cons (pg_name (i := 5) sc_l_one_right.nd rfl (Or.inl rfl)) (pgs_cons (pg_name (i := 6) sc_l_one_right.nd rfl (Or.inl rfl)) pgs_nil)))))) (fun _ _ _ _ _ => pts_nil) (fun _ _ _ _ _ => (pe_tup (pa_cons (pv 4) (pa_cons (pv 5) pa_nil))))) pa_nil)) (pe_call G_cover_of (hr.mono (by decide)) (by rfl) T.g_cover_of T.F_cover_of.kp T.b_cover_of .nil passL (pa_cons (pv 0) pa_nil)) (nomark _)) (pss_one (ps_ret pe_bl)) pss_nil)
      (pss_cons (ps_if (pt_cmpR (op_neD hr.units) (pe_call G_profile (hr.mono (by decide)) (by rfl) T.g_profile T.F_profile.kp T.b_profile .nil passL (pa_cons (pe_op op_cat (pv 0) (pv 0)) pa_nil)) (pe_lc (own := [("_law_low", 4), ("_law_high", 5), ("_law_deep_here", 6)]) (g := (gTup K 3 (gCons (gName 4) (gCons (gName 5) (gCons (gName 6) gNil))))) (by rfl) sc_l_one_right.nd (pi_list (pv 1)) (blkOk_by (own := [("_law_low", 4), ("_law_high", 5), ("_law_deep_here", 6)]) (N := N_l_one_right) (sc := defScope s_l_one_right) (by decide +kernel)) (fun _ _ _ _ _ => (by exact (pg_tup rfl (pgs_cons (pg_name (i := 4) sc_l_one_right.nd rfl (Or.inl rfl)) (pgs_cons (pg_name (i := 5) sc_l_one_right.nd rfl (Or.inl rfl)) (pgs_cons (pg_name (i := 6) sc_l_one_right.nd rfl (Or.inl rfl)) pgs_nil)))))) (fun _ _ _ _ _ => pts_nil) (fun _ _ _ _ _ => (pe_tup (pa_cons (pv 4) (pa_cons (pv 5) (pa_cons (pe_op op_mul pe_int (pv 6)) pa_nil)))))) (nomark _)) (pss_one (ps_ret pe_bl)) pss_nil)
      (pss_cons (ps_set (i := 2) sc_l_one_right.nd rfl (Or.inl rfl) (pe_call G_deepest (hr.mono (by decide)) (by rfl) T.g_deepest T.F_deepest.kp T.b_deepest .nil passL (pa_cons (pv 0) pa_nil)))
      (pss_cons (ps_if (pt_cmpR op_isN (pv 2) pe_non (nomark _)) (pss_one (ps_ret (pe_and (pe_cmpR (op_eqD hr.units) (pv 0) (pe_lst pa_nil) (nomark _)) (pe_one (pe_cmpR (op_eqD hr.units) (pv 1) (pe_lst pa_nil) (nomark _)))))) pss_nil)
      (pss_cons (ps_set (i := 3) sc_l_one_right.nd rfl (Or.inl rfl) (pe_callB (call_max2 rfl) (by rfl) T.m_max (by decide +kernel) (pa_cons (pe_op op_sub (pe_ix ix_tup (pv 2) pe_int (fun _ _ => rfl)) pe_int) (pa_cons (pe_op op_sub pe_int (pe_op op_pow pe_int pe_int)) pa_nil))))
      (pss_cons (ps_if (PW.pt (pw_and (pt_cmpR op_lt (pv 3) (pe_ix ix_tup (pv 2) pe_int (fun _ _ => rfl)) (nomark _)) (pw_and1 (pt_cmpR op_ge (pe_call G_depth_at (hr.mono (by decide)) (by rfl) T.g_depth_at T.F_depth_at.kp T.b_depth_at .nil passL (pa_cons (pv 0) (pa_cons (pv 3) pa_nil))) (pe_ix ix_tup (pv 2) pe_int (fun _ _ => rfl)) (nomark _))))) (pss_one (ps_ret pe_bl)) pss_nil)
      (pss_one (ps_ret (pe_cmpR op_eq (pe_call G_depth_at (hr.mono (by decide)) (by rfl) T.g_depth_at T.F_depth_at.kp T.b_depth_at .nil passL (pa_cons (pv 0) (pa_cons (pe_ix ix_tup (pv 2) pe_int (fun _ _ => rfl)) pa_nil))) (pe_ix ix_tup (pv 2) pe_int (fun _ _ => rfl)) (nomark _)))))))))))), ?_⟩
    have noB : ∀ {A : Prop}, ss.all isSpan = false → A := fun {A} n => by
      rw [ok] at n
      cases n
    have ul := hS.len
    have okm := List.all_eq_true.mp ok
    refine ⟨_, rfl, l, us, ss, rfl, hl, hS, few, noB, fun _ H1 r ws ps s1 nr hr1 hp prf pl => ?_⟩
    have wl := hp.len
    rw [List.length_map] at wl
    have hl1 := s1 _ _ hl
    have hS1 := hS.same s1
    have psp := prf_span ok prf
    -- the sum of the pieces
    refine ⟨_, rfl, r, rfl, ⟨_, SqL.of hr1⟩, fun D nD => ?_⟩
    refine lc_list (K := K) (a := r) (xs := ws) (fun i H' => Same H1 H' ∧ H' D = some (.lst (((ps.take i).map fun p => (p.2.1 - p.1) * p.2.2).map V.int))) ⟨same_upd nD, upd_same⟩ (fun i H' _ h => SqL.of (h.1 _ _ hr1)) ?_ ?_
    · rintro i y H' hi ⟨sm, hD⟩
      obtain ⟨row, er, hrow⟩ := hp.get hi
      rw [List.getElem?_map] at er
      obtain ⟨pc, ep, rfl⟩ := Option.map_eq_some_iff.mp er
      obtain ⟨t, rfl, ht⟩ := hrow
      have hb := (isSpan_iff _).mp (psp pc (List.mem_of_getElem? ep))
      simp only at hb
      refine ⟨t, _, rfl, SqT.of (sm _ _ ht), rfl, _, _, rfl, _, _, rfl, _, _, rfl, rfl, rfl, ?_⟩
      unfold tYes
      refine iteT ⟨_, rfl, _, rfl, _, _, rfl, rfl, _, rfl, _, _, rfl, rfl, .inl ⟨by omega, by omega⟩, _, hD, small_lt ?_, same_more sm nD, ?_⟩
      · rw [List.length_map, List.length_map, List.length_take]
        omega
      · rw [upd_same, List.take_add_one, ep, List.map_append, List.map_append]
        rfl
    rintro H2 ⟨s2, hD⟩
    rw [wl, List.take_length] at hD
    refine ⟨D, _, rfl, SqL.of hD, ?_⟩
    -- the sum of the spans
    have hl2 := s2 _ _ hl1
    have hS2 := hS1.same s2
    refine ⟨_, rfl, l, rfl, ⟨_, SqL.of hl2⟩, fun D2 nD2 => ?_⟩
    refine lc_list (K := K) (a := l) (xs := us) (fun i H' => Same H2 H' ∧ H' D2 = some (.lst (((ss.take i).map fun s => s.2 - s.1).map V.int))) ⟨same_upd nD2, upd_same⟩ (fun i H' _ h => SqL.of (h.1 _ _ hl2)) ?_ ?_
    · rintro i y H' hi ⟨sm, hD2⟩
      obtain ⟨sp, es, hsp⟩ := hS2.get hi
      obtain ⟨t, rfl, ht⟩ := hsp.same sm
      refine ⟨t, _, rfl, SqT.of ht, rfl, _, _, rfl, _, _, rfl, rfl, rfl, ?_⟩
      unfold tYes
      refine iteT ⟨_, rfl, _, rfl, _, _, rfl, rfl, _, hD2, small_lt ?_, same_more sm nD2, ?_⟩
      · rw [List.length_map, List.length_map, List.length_take]
        omega
      · rw [upd_same, List.take_add_one, es, List.map_append, List.map_append]
        rfl
    rintro H3 ⟨s3, hD2⟩
    rw [ul, List.take_length] at hD2
    refine ⟨D2, _, rfl, SqL.of hD2, ?_⟩
    refine ⟨rfl, _, rfl, iteNS (congrArg V.int (prf_sum ok prf)) ?_⟩
    have a3 := s2.trans s3
    have hr3 := a3 _ _ hr1
    have hp3 := hp.same a3
    -- the cover of the pieces
    refine ⟨_, rfl, r, rfl, ⟨_, SqL.of hr3⟩, fun D3 nD3 => ?_⟩
    refine lc_list (K := K) (a := r) (xs := ws) (fun i H' => Same H3 H' ∧ ∃ xs, H' D3 = some (.lst xs) ∧ Sps H' xs ((ps.take i).map fun p => (p.1, p.2.1))) ⟨same_upd nD3, [], upd_same, .nil⟩ (fun i H' _ h => SqL.of (h.1 _ _ hr3)) ?_ ?_
    · rintro i y H' hi ⟨sm, xs, hD3, hx⟩
      obtain ⟨row, er, hrow⟩ := hp3.get hi
      rw [List.getElem?_map] at er
      obtain ⟨pc, ep, rfl⟩ := Option.map_eq_some_iff.mp er
      obtain ⟨t, rfl, ht⟩ := hrow
      have tk : ps.take (i + 1) = ps.take i ++ [pc] := by
        rw [List.take_add_one, ep]
        rfl
      have xl := hx.len
      rw [List.length_map, List.length_take] at xl
      refine ⟨t, _, rfl, SqT.of (sm _ _ ht), rfl, _, _, rfl, _, _, rfl, _, _, rfl, rfl, rfl, ?_⟩
      unfold tYes
      refine iteT ⟨_, rfl, _, rfl, (by show 2 ≤ sizeLine; decide), fun t2 nt2 => ?_⟩
      have st := same_upd (o := .tup [.int pc.1, .int pc.2.1]) nt2
      have cf : Chg [D3] (upd H' t2 (.tup [.int pc.1, .int pc.2.1])) (upd (upd H' t2 (.tup [.int pc.1, .int pc.2.1])) D3 (.lst (xs ++ [.ref t2]))) := Chg.upd List.mem_cons_self
      refine ⟨xs, st _ _ hD3, small_lt (by omega), same_more (sm.trans st) nD3, xs ++ [.ref t2], upd_same, ?_⟩
      rw [tk, List.map_append]
      exact Sps.app ((hx.same st).chg cf (Lsts.of1 (st _ _ hD3))) (.one (Spn.chg ⟨t2, rfl, upd_same⟩ cf (Lsts.of1 (st _ _ hD3))))
    rintro H4 ⟨s4, xs, hD3, hx⟩
    rw [wl, List.take_length] at hx
    have sp : ∀ s ∈ ps.map fun p => (p.1, p.2.1), isSpan s = true := fun s hs => by
      obtain ⟨p, hp', rfl⟩ := List.mem_map.mp hs
      exact psp p hp'
    refine ⟨D3, xs, _, rfl, hD3, hx, by rw [List.length_map]; omega, fun n => ?_, fun _ H5 g gs c s5 ng hg hc can mem cl => ?_⟩
    · rw [List.all_eq_true.mpr sp] at n
      cases n
    have a5 := a3.trans (s4.trans s5)
    refine ⟨_, rfl, l, us, ss, rfl, a5 _ _ hl1, hS1.same a5, by omega, noB, fun _ H6 g2 gs2 c2 s6 ng2 hg2 hc2 can2 mem2 cl2 => ?_⟩
    have ec : c = c2 := can_ext can can2 fun x => by
      rw [mem x, mem2 x, mem_pcs, mem_dep, ← prf_mem prf 0 (by decide) x]
      constructor
      · rintro ⟨p, hp', h⟩
        obtain ⟨b, hb⟩ := low_of ss
        exact ⟨p, hp', (pf_lo (prf b hb) p hp').2.2.1, h⟩
      · rintro ⟨p, hp', _, h⟩
        exact ⟨p, hp', h⟩
    subst ec
    refine ⟨_, _, (hc.same s6).dp (SqL.of (s6 _ _ hg)), hc2.dp (SqL.of hg2), shaped_spans _, shaped_spans _, _, rfl, ?_⟩
    rw [eqv_spans, decide_eq_true rfl]
    refine iteF ?_
    have a6 := a5.trans s6
    have hl6 := a6 _ _ hl1
    have hS6 := hS1.same a6
    have hr6 := a6 _ _ hr1
    have hp6 := hp.same a6
    -- told twice
    refine ⟨_, rfl, _, rfl, l, l, us, us, rfl, rfl, hl6, hl6, small_le (by omega), fun x nx => ?_⟩
    obtain ⟨gx, sx⟩ := upd_at (o := .lst (us ++ us)) nx
    refine ⟨x, us ++ us, ss ++ ss, rfl, gx, (hS6.app hS6).same sx, few_twice few (by omega), fun n => ?_, fun _ H7 r7 ws7 ps7 s7 nr7 hr7 hp7 prf7 pl7 => ?_⟩
    · rw [List.all_append, ok] at n
      cases n
    have e7 : ps7 = ps.map fun p => (p.1, p.2.1, 2 * p.2.2) := by
      obtain ⟨b, hb⟩ := low_of (ss ++ ss)
      exact prf7.ext (prf_dbl prf) (fun _ => rfl) b hb hb
    subst e7
    have a7 := sx.trans s7
    have hr8 := a7 _ _ hr6
    have hp8 := hp6.same a7
    refine ⟨_, rfl, r, rfl, ⟨_, SqL.of hr8⟩, fun D4 nD4 => ?_⟩
    refine lc_list (K := K) (a := r) (xs := ws) (fun i H' => Same H7 H' ∧ ∃ xs, H' D4 = some (.lst xs) ∧ Rws H' xs (((ps.take i).map fun p => (p.1, p.2.1, 2 * p.2.2)).map pcR)) ⟨same_upd nD4, [], upd_same, .nil⟩ (fun i H' _ h => SqL.of (h.1 _ _ hr8)) ?_ ?_
    · rintro i y H' hi ⟨sm, xs, hD4, hx⟩
      obtain ⟨row, er, hrow⟩ := hp8.get hi
      rw [List.getElem?_map] at er
      obtain ⟨pc, ep, rfl⟩ := Option.map_eq_some_iff.mp er
      obtain ⟨t, rfl, ht⟩ := hrow
      have tk : ps.take (i + 1) = ps.take i ++ [pc] := by
        rw [List.take_add_one, ep]
        rfl
      have xl := hx.len
      rw [List.length_map, List.length_map, List.length_take] at xl
      refine ⟨t, _, rfl, SqT.of (sm _ _ ht), rfl, _, _, rfl, _, _, rfl, _, _, rfl, rfl, rfl, ?_⟩
      unfold tYes
      refine iteT ⟨_, rfl, _, rfl, _, rfl, _, _, rfl, rfl, .inl ⟨by decide, by decide⟩, (by show 3 ≤ sizeLine; decide), fun t2 nt2 => ?_⟩
      have st := same_upd (o := .tup [.int pc.1, .int pc.2.1, .int (2 * pc.2.2)]) nt2
      have cf : Chg [D4] (upd H' t2 (.tup [.int pc.1, .int pc.2.1, .int (2 * pc.2.2)])) (upd (upd H' t2 (.tup [.int pc.1, .int pc.2.1, .int (2 * pc.2.2)])) D4 (.lst (xs ++ [.ref t2]))) := Chg.upd List.mem_cons_self
      refine ⟨xs, st _ _ hD4, small_lt (by omega), same_more (sm.trans st) nD4, xs ++ [.ref t2], upd_same, ?_⟩
      rw [tk, List.map_append, List.map_append]
      exact Rws.app ((Kp.chg cf).rws (Lsts.of1 (st _ _ hD4)) (hx.same st)) (.one ((Kp.chg cf).rw (Lsts.of1 (st _ _ hD4)) ⟨t2, rfl, upd_same⟩))
    rintro H8 ⟨s8, xs8, hD4, hx8⟩
    rw [wl, List.take_length] at hx8
    refine ⟨_, _, (hp7.same s8).dp (SqL.of (s8 _ _ hr7)), hx8.dp (SqL.of hD4), shaped_rows _, shaped_rows _, _, rfl, ?_⟩
    rw [eqv_rows, decide_eq_true rfl]
    refine iteF ?_
    have a8 := a6.trans (a7.trans s8)
    have hl8 := a8 _ _ hl1
    have hS8 := hS1.same a8
    -- the deepest
    refine ⟨_, rfl, l, us, ss, rfl, hl8, hS8, few, noB, fun _ H9 v ps9 s9 prf9 hv => ?_⟩
    have e9 : ps9 = ps := prf9.perm prf (List.Perm.refl _)
    subst e9
    have a9 := a8.trans s9
    have hl9 := a9 _ _ hl1
    have hS9 := hS1.same a9
    have kk : Kp [] H H9 := .of (s1.trans a9)
    have tb9 := (tb.same s1).same a9
    obtain ⟨b1, b2⟩ := best_max prf
    cases e : bestL ps9 with
    | none =>
      rw [e] at hv
      have hv : v = .non := hv
      subst hv
      obtain ⟨_, n1, n2⟩ := b1 e
      have sn : ss = [] := by
        cases ss with
        | nil => rfl
        | cons s0 r0 => exact absurd (all_lt ok s0 List.mem_cons_self) (n2 s0 List.mem_cons_self)
      refine ⟨_, rfl, rfl, _, rfl, iteT ?_⟩
      refine ⟨_, rfl, Nat.zero_le _, fun m nm => ?_⟩
      obtain ⟨gm, smm⟩ := upd_at (o := .lst []) nm
      refine ⟨_, _, (hS9.same smm).dp (SqL.of (smm _ _ hl9)), .lst (SqL.of gm) .nil, shaped_spans _, shaped_nil, _, rfl, ?_⟩
      rw [eqv_spans_nil, decide_eq_true sn]
      have hr9 := (a9.trans smm) _ _ hr1
      have hp9 := hp.same (a9.trans smm)
      refine iteT ⟨_, rfl, Nat.zero_le _, fun m2 nm2 => ?_⟩
      obtain ⟨gm2, sm2⟩ := upd_at (o := .lst []) nm2
      refine ⟨_, _, (hp9.same sm2).dp (SqL.of (sm2 _ _ hr9)), .lst (SqL.of gm2) .nil, shaped_rows _, shaped_nil, ?_⟩
      rw [eqv_rows_nil, decide_eq_true (by rw [n1]; rfl)]
      exact q _ (kk.trans (.of (smm.trans sm2))) ((tb9.same smm).same sm2)
    | some sb =>
      rw [e] at hv
      obtain ⟨t, rfl, ht⟩ := hv
      obtain ⟨d, lo⟩ := sb
      obtain ⟨mx, d0, dlo, dlt⟩ := b2 d lo e
      have e12 : (10 : Int) ^ (12 : Int).toNat = 1000000000000 := by decide
      have lob : -999999999999 ≤ lo ∧ lo ≤ 999999999999 := by
        obtain ⟨s0, hs0, z1, z2⟩ := dep_pos.mp (show 0 < dep ss lo by omega)
        have := (isSpan_iff s0).mp (okm s0 hs0)
        omega
      refine ⟨_, rfl, rfl, _, rfl, iteF ?_⟩
      refine ⟨_, rfl, t, _, _, _, rfl, rfl, SqT.of ht, atI_nat (j := 1) rfl, _, _, rfl, rfl, _, _, rfl, rfl, ⟨by decide, by decide, by decide⟩, _, _, rfl, rfl, _, _, rfl, ?_⟩
      rw [e12]
      have fin : ∀ H' : Hp, Kp [] H9 H' → Tb T.tabs H' → tRet (tOp rEq (tCall (spDepthAt T) [] E0 (tCons (tVar 0) (tCons (tOp (rIxT K) (tVar 2) (tC (.int 1))) tNil))) (tOp (rIxT K) (tVar 2) (tC (.int 0)))) { nx := fun _ H' => Q .non H', rt := Q } [some (.ref l), some (.ref r), some (.ref t), some (.int (if lo - 1 < 1 - 1000000000000 then 1 - 1000000000000 else lo - 1)), none, none, none] H' := fun H' k' tb' => by
        refine ⟨_, rfl, _, rfl, t, _, _, _, rfl, rfl, SqT.of (k'.tup List.not_mem_nil ht), atI_nat (j := 1) rfl, l, us, ss, lo, rfl, k'.lst List.not_mem_nil hl9, k'.sps (lsts0 _) hS9, tb', noB, fun _ n => ?_, fun _ _ H11 k11 tb11 => ?_⟩
        · rw [place_of lob.1 lob.2] at n
          cases n
        refine ⟨_, rfl, t, _, _, _, rfl, rfl, SqT.of ((k'.trans k11).tup List.not_mem_nil ht), atI_nat (j := 0) rfl, rfl, ?_⟩
        rw [decide_eq_true (congrArg V.int dlo)]
        exact q _ (kk.trans (k'.trans k11)) tb11
      refine ⟨_, rfl, _, rfl, t, _, _, _, rfl, rfl, SqT.of ht, atI_nat (j := 1) rfl, _, _, rfl, rfl, _, rfl, ite2 (fun e1 => ?_) (fun e1 => ?_)⟩
      · have e1 : (if lo - 1 < 1 - 1000000000000 then 1 - 1000000000000 else lo - 1) < lo := of_decide_eq_true e1
        have eb : (if lo - 1 < 1 - 1000000000000 then (1 - 1000000000000 : Int) else lo - 1) = lo - 1 := by
          split at e1 <;> split <;> omega
        refine ⟨_, rfl, _, rfl, l, us, ss, _, rfl, hl9, hS9, tb9, noB, fun _ n => ?_, fun _ _ H10 k10 tb10 => ?_⟩
        · rw [eb, place_of (by omega) (by omega)] at n
          cases n
        refine ⟨_, rfl, t, _, _, _, rfl, rfl, SqT.of (k10.tup List.not_mem_nil ht), atI_nat (j := 0) rfl, _, _, rfl, rfl, _, rfl, ?_⟩
        rw [eb, decide_eq_false (by omega)]
        refine iteF ?_
        have := fin H10 k10 tb10
        rw [eb] at this
        exact this
      · exact iteF (fin H9 (Kp.refl _ _) tb9)
end
section
variable {P : Program} {w : World} {K : PySem.W.Frag} {mg : Str → Option Value} {base : Heap}
theorem few_app {ss ts : List Span} (h : ss.length + ts.length < 32) : Few (ss ++ ts) := few_of (by rw [List.length_append]; omega)
theorem dp_cat {H : Hp} {l m x : Addr} {us ws : List V} {ss ts : List Span} (h1 : Sps H us ss) (h2 : Sps H ws ts) (hx : H x = some (.lst (us ++ ws))) : Lq H x (ss ++ ts) := ⟨_, hx, h1.app h2⟩
def spLaw (T : Tx K mg) : Sp := fun vs H Q _ => ∃ (a : Addr) (ns : List Int), vs = [.ref a] ∧ SqL K H a (ns.map V.int) ∧ ns.length ≤ 63 ∧ Tb T.tabs H ∧ ∀ H', Q (.bl true) H'
theorem ok_law (T : Tx K mg) (B : Tbs T base) {f : Addr} {fd : FuncData} (F : Fun K "law" "law" s_law f fd) : FnOk P w K mg base CX0 (9) f fd ["_law_script"] (spLaw T) := by
  have G_l_purse : FnOk P w K mg base CX0 _ _ _ _ _ := ok_purse T
  have G_l_spans : FnOk P w K mg base CX0 _ _ _ _ _ := ok_spans T
  have G_l_one_right : FnOk P w K mg base CX0 _ _ _ _ _ := ok_oneL T B
  have G_l_deep : FnOk P w K mg base CX0 _ _ _ _ _ := ok_deepL T
  have G_l_twice : FnOk P w K mg base CX0 _ _ _ _ _ := ok_twiceL T
  have G_depth_at : FnOk P w K mg base (L2.CX P w) _ _ _ _ _ := ok_depth_at T B
  have G_cover_of : FnOk P w K mg base (L2.CX P w) _ _ _ _ _ := ok_cover_of T
  have G_both : FnOk P w K mg base (L2.CX P w) _ _ _ _ _ := ok_both T B
  have G_either : FnOk P w K mg base (L2.CX P w) _ _ _ _ _ := ok_either T B
  refine F.ok sc_law (fun vs H Q E h => ?_) (fun cdv A outer s H vs Q E hr h => ?_)
  · obtain ⟨a, ns, rfl, _⟩ := h
    rfl
  · obtain ⟨a, ns, rfl, hS, hlen, tb, q⟩ := h
    refine ⟨_, (pss_cons (ps_set (i := 1) sc_law.nd rfl (Or.inl rfl) (pe_call G_l_purse (hr.mono (by decide)) (by rfl) T.g_l_purse T.F_l_purse.kp T.b_l_purse .nil pass0 (pa_cons (pv 0) (pa_cons pe_int pa_nil))))
      (pss_cons (ps_set (i := 2) sc_law.nd rfl (Or.inl rfl) (pe_lst (pa_cons pe_int pa_nil)))
      (pss_cons (ps_set (i := 3) sc_law.nd rfl (Or.inl rfl) (pe_call G_l_spans (hr.mono (by decide)) (by rfl) T.g_l_spans T.F_l_spans.kp T.b_l_spans .nil pass0 (pa_cons (pv 1) (pa_cons (pv 2) (pa_cons pe_int pa_nil)))))
      (pss_cons (ps_set (i := 4) sc_law.nd rfl (Or.inl rfl) (pe_call G_l_spans (hr.mono (by decide)) (by rfl) T.g_l_spans T.F_l_spans.kp T.b_l_spans .nil pass0 (pa_cons (pv 1) (pa_cons (pv 2) (pa_cons pe_int pa_nil)))))
      (pss_cons (ps_if (PW.pt (pw_or (pt_not (pt_val (pe_call G_l_one_right (hr.mono (by decide)) (by rfl) T.g_l_one_right T.F_l_one_right.kp T.b_l_one_right .nil pass0 (pa_cons (pv 3) pa_nil)))) (pw_or (pt_not (pt_val (pe_call G_l_one_right (hr.mono (by decide)) (by rfl) T.g_l_one_right T.F_l_one_right.kp T.b_l_one_right .nil pass0 (pa_cons (pv 4) pa_nil)))) (pw_or1 (pt_not (pt_val (pe_call G_l_one_right (hr.mono (by decide)) (by rfl) T.g_l_one_right T.F_l_one_right.kp T.b_l_one_right .nil pass0 (pa_cons (pe_op op_cat (pv 3) (pv 4)) pa_nil)))))))) (pss_one (ps_ret pe_bl)) pss_nil)
      (pss_cons (ps_for PassesOwn.never (by rfl) (pi_list (pv 2)) (pg_name (i := 5) sc_law.nd rfl (Or.inl rfl))
        (pss_one (ps_if (pt_cmpR op_ne (pe_op op_add (pe_call G_depth_at (hr.mono (by decide)) (by rfl) T.g_depth_at T.F_depth_at.kp T.b_depth_at .nil passL (pa_cons (pv 3) (pa_cons (pv 5) pa_nil))) (pe_call G_depth_at (hr.mono (by decide)) (by rfl) T.g_depth_at T.F_depth_at.kp T.b_depth_at .nil passL (pa_cons (pv 4) (pa_cons (pv 5) pa_nil)))) (pe_call G_depth_at (hr.mono (by decide)) (by rfl) T.g_depth_at T.F_depth_at.kp T.b_depth_at .nil passL (pa_cons (pe_op op_cat (pv 3) (pv 4)) (pa_cons (pv 5) pa_nil))) (nomark _)) (pss_one (ps_ret pe_bl)) pss_nil)))
      (pss_cons (ps_set (i := 6) sc_law.nd rfl (Or.inl rfl) (pe_call G_l_deep (hr.mono (by decide)) (by rfl) T.g_l_deep T.F_l_deep.kp T.b_l_deep .nil pass0 (pa_cons (pe_op op_cat (pv 3) (pv 4)) pa_nil)))
      (pss_cons (ps_if (pt_not (pt_chain op_le op_le (pe_callB (call_max2 rfl) (by rfl) T.m_max (by decide +kernel) (pa_cons (pe_call G_l_deep (hr.mono (by decide)) (by rfl) T.g_l_deep T.F_l_deep.kp T.b_l_deep .nil pass0 (pa_cons (pv 3) pa_nil)) (pa_cons (pe_call G_l_deep (hr.mono (by decide)) (by rfl) T.g_l_deep T.F_l_deep.kp T.b_l_deep .nil pass0 (pa_cons (pv 4) pa_nil)) pa_nil))) (pv 6) (pe_op op_add (pe_call G_l_deep (hr.mono (by decide)) (by rfl) T.g_l_deep T.F_l_deep.kp T.b_l_deep .nil pass0 (pa_cons (pv 3) pa_nil)) (pe_call G_l_deep (hr.mono (by decide)) (by rfl) T.g_l_deep T.F_l_deep.kp T.b_l_deep .nil pass0 (pa_cons (pv 4) pa_nil))))) (pss_one (ps_ret pe_bl)) pss_nil)
      (pss_cons (ps_set (i := 7) sc_law.nd rfl (Or.inl rfl) (pe_call G_either (hr.mono (by decide)) (by rfl) T.g_either T.F_either.kp T.b_either .nil passL (pa_cons (pe_call G_either (hr.mono (by decide)) (by rfl) T.g_either T.F_either.kp T.b_either .nil passL (pa_cons (pe_call G_l_twice (hr.mono (by decide)) (by rfl) T.g_l_twice T.F_l_twice.kp T.b_l_twice .nil pass0 (pa_cons (pv 3) pa_nil)) (pa_cons (pe_call G_l_twice (hr.mono (by decide)) (by rfl) T.g_l_twice T.F_l_twice.kp T.b_l_twice .nil pass0 (pa_cons (pv 4) pa_nil)) pa_nil))) (pa_cons (pe_call G_both (hr.mono (by decide)) (by rfl) T.g_both T.F_both.kp T.b_both .nil passL (pa_cons (pe_call G_cover_of (hr.mono (by decide)) (by rfl) T.g_cover_of T.F_cover_of.kp T.b_cover_of .nil passL (pa_cons (pv 3) pa_nil)) (pa_cons (pe_call G_cover_of (hr.mono (by decide)) (by rfl) T.g_cover_of T.F_cover_of.kp T.b_cover_of .nil passL (pa_cons (pv 4) pa_nil)) pa_nil))) pa_nil))))
      (pss_one (ps_ret (pe_cmpR (op_eqD hr.units) (pe_call G_l_twice (hr.mono (by decide)) (by rfl) T.g_l_twice T.F_l_twice.kp T.b_l_twice .nil pass0 (pa_cons (pe_op op_cat (pv 3) (pv 4)) pa_nil)) (pv 7) (nomark _))))))))))))), ?_⟩
    refine ⟨_, rfl, a, ns, 0, rfl, hS, by decide, by decide, fun H1 p s1 np p1 => ?_⟩
    have tb1 := tb.same s1
    have pT : p ∉ T.tabs := tb.new np
    refine ⟨small_le (by simp), fun e ne => ?_⟩
    obtain ⟨ge, s2⟩ := upd_at (o := .lst [.int 0]) ne
    have eT : e ∉ T.tabs := tb1.new ne
    have tb2 := tb1.same s2
    have nep : e ≠ p := (p1.ne ne).symm
    have out : ∀ P ∈ T.tabs, P ∉ [p, e] := fun P hP => nmem2 (fun z => pT (z ▸ hP)) (fun z => eT (z ▸ hP))
    refine ⟨_, rfl, _, rfl, p, e, 10, 63000, [0], rfl, p1.same s2, by decide, ge, nep, by decide, by decide, (fun z h => by rw [List.mem_singleton.mp h]; decide), fun H3 l us ss zs c3 p3 hE zl zb nl hl hss ok sl => ?_⟩
    have tb3 : Tb T.tabs H3 := tb2.chg c3 out
    have nlp : l ≠ p := ((p1.same s2).ne nl).symm
    have nle : l ≠ e := (ne_of_none ge nl).symm
    refine ⟨_, rfl, _, rfl, p, e, 10, 63213, zs, rfl, p3, by decide, hE, nep, by have := zl; simp at this; omega, by decide, zb, fun H4 m vs ts ys c4 p4 hE4 yl yb nm hm hts ok4 tl => ?_⟩
    have tb4 : Tb T.tabs H4 := tb3.chg c4 out
    have lpe : Lsts [p, e] H3 := p3.lsts.two (Lsts.of1 hE)
    have hl4 := c4 _ _ (nmem2 nlp nle) hl
    have hss4 := hss.chg c4 lpe
    have A1 : ss.all isSpan = true := List.all_eq_true.mpr ok
    have A2 : ts.all isSpan = true := List.all_eq_true.mpr ok4
    have A3 : (ss ++ ts).all isSpan = true := by
      rw [List.all_append, A1, A2]
      rfl
    have F1 : Few ss := few_of (by omega)
    have F2 : Few ts := few_of (by omega)
    have F3 : Few (ss ++ ts) := few_app (by omega)
    have ul := hss4.len
    have vl := hts.len
    -- what stands, at any later heap
    have st : ∀ Hx, Kp [] H4 Hx → Hx l = some (.lst us) ∧ Sps Hx us ss ∧ Hx m = some (.lst vs) ∧ Sps Hx vs ts ∧ Hx e = some (.lst (ys.map V.int)) := fun Hx k =>
      ⟨k.lst List.not_mem_nil hl4, k.sps (lsts0 _) hss4, k.lst List.not_mem_nil hm, k.sps (lsts0 _) hts, k.lst List.not_mem_nil hE4⟩
    have cat : ∀ Hx x, Kp [] H4 Hx → Hx x = none → Kp [] H4 (upd Hx x (.lst (us ++ vs))) ∧ Lq (upd Hx x (.lst (us ++ vs))) x (ss ++ ts) := fun Hx x k nx => by
      obtain ⟨_, b, _, d, _⟩ := st Hx k
      exact ⟨k.new nx, _, upd_same, (b.app d).same (same_upd nx)⟩
    -- each of the three
    obtain ⟨a1, a2, a3, a4, a5⟩ := st H4 (Kp.refl _ _)
    refine ⟨_, rfl, l, ss, rfl, ⟨us, a1, a2⟩, F1, by omega, A1, tb4, fun H5 k5 tb5 => ⟨true, rfl, iteF ?_⟩⟩
    obtain ⟨a1, a2, a3, a4, a5⟩ := st H5 k5
    refine ⟨_, rfl, m, ts, rfl, ⟨vs, a3, a4⟩, F2, by omega, A2, tb5, fun H6 k6 tb6 => ⟨true, rfl, iteF ?_⟩⟩
    have k6 := k5.trans k6
    obtain ⟨a1, a2, a3, a4, a5⟩ := st H6 k6
    refine ⟨_, rfl, _, rfl, l, m, us, vs, rfl, rfl, a1, a3, small_le (by omega), fun x nx => ?_⟩
    obtain ⟨kx, X⟩ := cat H6 x k6 nx
    refine ⟨x, ss ++ ts, rfl, X, F3, by rw [List.length_append]; omega, A3, tb6.same (same_upd nx), fun H7 k7 tb7 => ⟨true, rfl, iteF ?_⟩⟩
    have k7 := kx.trans k7
    -- at each end
    obtain ⟨b1, b2, b3, b4, b5⟩ := st H7 k7
    refine ⟨_, rfl, e, rfl, ⟨_, SqL.of b5⟩, for_list (K := K) (a := e) (xs := ys.map V.int) (fun i σ H' => ∃ y5, σ = [some (.ref a), some (.ref p), some (.ref e), some (.ref l), some (.ref m), y5, none, none] ∧ Kp [] H4 H' ∧ Tb T.tabs H') ⟨none, rfl, k7, tb7⟩ (fun i σ H' _ ⟨_, _, k, _⟩ => SqL.of (st H' k).2.2.2.2) ?_ ?_⟩
    · rintro i y σ H' hi ⟨y5, rfl, kk, tb'⟩
      rw [List.getElem?_map] at hi
      obtain ⟨z, ez, rfl⟩ := Option.map_eq_some_iff.mp hi
      obtain ⟨z1, z2⟩ := yb z (List.mem_of_getElem? ez)
      have pz := place_of z1 z2
      have np' : ∀ {A : Prop}, isPlace z = false → A := fun {A} n => by
        rw [pz] at n
        cases n
      obtain ⟨a1, a2, a3, a4, a5⟩ := st H' kk
      refine ⟨_, rfl, _, rfl, l, us, ss, z, rfl, a1, a2, tb', (fun n => by rw [A1] at n; cases n), fun _ n => np' n, fun _ _ H8 k8 tb8 => ?_⟩
      have k8 := kk.trans k8
      obtain ⟨a1, a2, a3, a4, a5⟩ := st H8 k8
      refine ⟨_, rfl, _, rfl, m, vs, ts, z, rfl, a3, a4, tb8, (fun n => by rw [A2] at n; cases n), fun _ n => np' n, fun _ _ H9 k9 tb9 => ?_⟩
      have k9 := k8.trans k9
      obtain ⟨a1, a2, a3, a4, a5⟩ := st H9 k9
      refine ⟨_, _, rfl, rfl, _, rfl, _, rfl, l, m, us, vs, rfl, rfl, a1, a3, small_le (by omega), fun x2 nx2 => ?_⟩
      obtain ⟨kx2, us2, X1, X2⟩ := cat H9 x2 k9 nx2
      refine ⟨_, rfl, x2, us2, ss ++ ts, z, rfl, X1, X2, tb9.same (same_upd nx2), (fun n => by rw [A3] at n; cases n), fun _ n => np' n, fun _ _ H10 k10 tb10 => ?_⟩
      refine ⟨rfl, _, rfl, iteNS (congrArg V.int ?_) ⟨_, rfl, kx2.trans k10, tb10⟩⟩
      rw [dep_app]
      push_cast
      rfl
    · rintro σ H8 ⟨y5, rfl, k8, tb8⟩
      obtain ⟨a1, a2, a3, a4, a5⟩ := st H8 k8
      -- the greatest depths
      refine ⟨_, rfl, _, rfl, l, m, us, vs, rfl, rfl, a1, a3, small_le (by omega), fun x nx => ?_⟩
      obtain ⟨kx, X⟩ := cat H8 x k8 nx
      refine ⟨x, ss ++ ts, rfl, X, F3, A3, fun H9 D3 s9 m3 => ?_⟩
      have k9 := kx.trans (.of s9)
      have tb9 := (tb8.same (same_upd nx)).same s9
      obtain ⟨a1, a2, a3, a4, a5⟩ := st H9 k9
      refine ⟨_, rfl, l, ss, rfl, ⟨us, a1, a2⟩, F1, A1, fun H10 D1 s10 m1 => ?_⟩
      have k10 := k9.trans (.of s10)
      obtain ⟨a1, a2, a3, a4, a5⟩ := st H10 k10
      refine ⟨_, rfl, m, ts, rfl, ⟨vs, a3, a4⟩, F2, A2, fun H11 D2 s11 m2 => ?_⟩
      have k11 := k10.trans (.of s11)
      have le : max D1 D2 ≤ D3 ∧ D3 ≤ D1 + D2 := by
        have h : ∀ x, ((dep (ss ++ ts) x : Nat) : Int) = ((dep ss x : Nat) : Int) + ((dep ts x : Nat) : Int) := fun x => by
          rw [dep_app]
          push_cast
          rfl
        constructor
        · have h1 : D1 ≤ D3 := by
            by_cases z : 0 < D1
            · obtain ⟨x, hx⟩ := m1.2.2 z
              have := m3.1 x
              have := h x
              omega
            · have := m3.2.1
              omega
          have h2 : D2 ≤ D3 := by
            by_cases z : 0 < D2
            · obtain ⟨x, hx⟩ := m2.2.2 z
              have := m3.1 x
              have := h x
              omega
            · have := m3.2.1
              omega
          omega
        · by_cases z : 0 < D3
          · obtain ⟨x, hx⟩ := m3.2.2 z
            have := m1.1 x
            have := m2.1 x
            have := h x
            omega
          · have := m1.2.1
            have := m2.2.1
            omega
      refine ⟨_, _, rfl, _, rfl, _, _, rfl, rfl, _, rfl, ?_⟩
      have l1 : (if D1 < D2 then D2 else D1) ≤ D3 := by
        split <;> omega
      rw [decide_eq_true l1]
      obtain ⟨a1, a2, a3, a4, a5⟩ := st H11 k11
      refine iteT ⟨_, rfl, l, ss, rfl, ⟨us, a1, a2⟩, F1, A1, fun H12 D1' s12 m1' => ?_⟩
      have k12 := k11.trans (.of s12)
      obtain ⟨a1, a2, a3, a4, a5⟩ := st H12 k12
      refine ⟨_, rfl, m, ts, rfl, ⟨vs, a3, a4⟩, F2, A2, fun H13 D2' s13 m2' => ?_⟩
      have k13 := k12.trans (.of s13)
      have un : ∀ {rs : List Span} {D D' : Int}, MaxD rs D → MaxD rs D' → D = D' := fun {rs D D'} h h' => by
        have x1 : D ≤ D' := by
          by_cases z : 0 < D
          · obtain ⟨x, hx⟩ := h.2.2 z
            have := h'.1 x
            omega
          · have := h'.2.1
            omega
        have x2 : D' ≤ D := by
          by_cases z : 0 < D'
          · obtain ⟨x, hx⟩ := h'.2.2 z
            have := h.1 x
            omega
          · have := h.2.1
            omega
        omega
      rw [un m1' m1, un m2' m2]
      refine ⟨_, _, rfl, rfl, _, _, rfl, rfl, _, rfl, ?_⟩
      rw [decide_eq_true le.2]
      refine iteF ?_
      have tb13 := (((tb9.same s10).same s11).same s12).same s13
      -- twice
      obtain ⟨a1, a2, a3, a4, a5⟩ := st H13 k13
      refine ⟨_, rfl, l, ss, rfl, ⟨us, a1, a2⟩, F1, A1, fun H14 r1 c1 s14 nr1 R1 can1 sp1 mem1 len1 => ?_⟩
      have k14 := k13.trans (.of s14)
      obtain ⟨a1, a2, a3, a4, a5⟩ := st H14 k14
      refine ⟨_, rfl, m, ts, rfl, ⟨vs, a3, a4⟩, F2, A2, fun H15 r2 c2 s15 nr2 R2 can2 sp2 mem2 len2 => ?_⟩
      have k15 := k14.trans (.of s15)
      have tb15 := (tb13.same s14).same s15
      obtain ⟨u1, g1, h1⟩ := R1.same s15
      obtain ⟨u2, g2, h2⟩ := id R2
      have z1 : ref1 c1 = 0 := can_ref1 can1 sp1 (by omega)
      have z2 : ref1 c2 = 0 := can_ref1 can2 sp2 (by omega)
      refine ⟨r1, r2, u1, u2, c1, c2, rfl, ⟨g1, h1, g2, h2, tb15⟩, fun _ _ H16 r3 u3 c3 ch3 tb16 nr3 g3 h3 can3 sp3 mem3 len3 => ?_, fun n n0 hh => ?_⟩
      case refine_2 =>
        rcases hh with hh | ⟨_, hh⟩ <;> omega
      have kc : ∀ {Ha Hb : Hp}, Tb T.tabs Ha → Tb T.tabs Hb → Chg T.tabs Ha Hb → Kp [] Ha Hb := fun {Ha Hb} ta tbb c b o _ h => by
        by_cases hb : b ∈ T.tabs
        · obtain ⟨ps, h1, _⟩ := ta b hb
          obtain ⟨qs, h2, _⟩ := tbb b hb
          rw [h1] at h
          cases h
          exact .inr ⟨ps, qs, rfl, h2⟩
        · exact .inl (c b o hb h)
      have k16 := k15.trans (kc tb15 tb16 ch3)
      obtain ⟨a1, a2, a3, a4, a5⟩ := st H16 k16
      refine ⟨_, rfl, l, us, ss, rfl, a1, a2, by omega, (fun n => by rw [A1] at n; cases n), fun _ H17 r4 u4 c4 s17 nr4 g4 h4 can4 mem4 len4 => ?_⟩
      have k17 := k16.trans (.of s17)
      obtain ⟨a1, a2, a3, a4, a5⟩ := st H17 k17
      refine ⟨_, rfl, m, vs, ts, rfl, a3, a4, by omega, (fun n => by rw [A2] at n; cases n), fun _ H18 r5 u5 c5 s18 nr5 g5 h5 can5 mem5 len5 => ?_⟩
      have k18 := k17.trans (.of s18)
      have tb18 := (tb16.same s17).same s18
      have sp4 := can_spans can4 (fun x => (mem4 x).mp) ok
      have sp5 := can_spans can5 (fun x => (mem5 x).mp) ok4
      have z4 : ref1 c4 = 0 := can_ref1 can4 sp4 (by omega)
      have z5 : ref1 c5 = 0 := can_ref1 can5 sp5 (by omega)
      refine ⟨r4, r5, u4, u5, c4, c5, rfl, ⟨s18 _ _ g4, h4.same s18, g5, h5, tb18⟩, fun _ _ H19 r6 u6 c6 ch6 tb19 nr6 g6 h6 can6 sp6 mem6 len6 => ?_, fun n n0 hh => ?_⟩
      case refine_2 =>
        rcases hh with hh | ⟨_, hh⟩ <;> omega
      have k19 := k18.trans (kc tb18 tb19 ch6)
      have kk : Kp [] H16 H19 := (Kp.of (s17.trans s18)).trans (kc tb18 tb19 ch6)
      have z3 : ref1 c3 = 0 := can_ref1 can3 sp3 (by omega)
      have z6 : ref1 c6 = 0 := can_ref1 can6 sp6 (by omega)
      refine ⟨r3, r6, u3, u6, c3, c6, rfl, ⟨kk.lst List.not_mem_nil g3, kk.sps (lsts0 _) h3, g6, h6, tb19⟩, fun _ _ H20 r7 u7 c7 ch7 tb20 nr7 g7 h7 can7 sp7 mem7 len7 => ?_, fun n n0 hh => ?_⟩
      case refine_2 =>
        rcases hh with hh | ⟨_, hh⟩ <;> omega
      have k20 := k19.trans (kc tb19 tb20 ch7)
      obtain ⟨a1, a2, a3, a4, a5⟩ := st H20 k20
      -- the whole
      refine ⟨_, rfl, _, rfl, l, m, us, vs, rfl, rfl, a1, a3, small_le (by omega), fun x2 nx2 => ?_⟩
      obtain ⟨kx2, X2⟩ := cat H20 x2 k20 nx2
      refine ⟨x2, ss ++ ts, rfl, X2, F3, A3, fun H21 r8 c8 s21 nr8 R8 can8 sp8 mem8 len8 => ?_⟩
      have e8 : c8 = c7 := can_ext can8 can7 fun x => by
        rw [mem8 x, mem7 x]
        show _ ↔ Mem c3 x ∨ Mem c6 x
        rw [mem3 x, mem6 x]
        show _ ↔ (Mem c1 x ∨ Mem c2 x) ∨ (Mem c4 x ∧ Mem c5 x)
        rw [mem1 x, mem2 x, mem4 x, mem5 x, mem_dep, mem_dep, dep_app]
        push_cast
        omega
      subst e8
      have s22 := (same_upd (o := .lst (us ++ vs)) nx2).trans s21
      refine ⟨_, rfl, _, _, R8.dp, (h7.same s22).dp (SqL.of (s22 _ _ g7)), shaped_spans _, shaped_spans _, ?_⟩
      rw [eqv_spans, decide_eq_true rfl]
      exact q _
end
theorem all_mk {l : PySem.W.OpenLaw} {w : World} {K : PySem.W.Frag} {h : Heap} {mg : Str → Option Value} {fa : Addr} (X : K.In h) (G : h.Ns mainGlobals mg) (hfa : mg "law" = some (.ref fa))
    {f_is_whole : Addr} {od_is_whole an_is_whole : Option Addr} {sl_is_whole : Array (Option Value)} {oc_is_whole kV_is_whole dc_is_whole pm_is_whole cd_is_whole ct_is_whole : Value}
    {f_is_place : Addr} {od_is_place an_is_place : Option Addr} {sl_is_place : Array (Option Value)} {oc_is_place kV_is_place dc_is_place pm_is_place cd_is_place ct_is_place : Value}
    {f_is_span : Addr} {od_is_span an_is_span : Option Addr} {sl_is_span : Array (Option Value)} {oc_is_span kV_is_span dc_is_span pm_is_span cd_is_span ct_is_span : Value}
    {f_check_span : Addr} {od_check_span an_check_span : Option Addr} {sl_check_span : Array (Option Value)} {oc_check_span kV_check_span dc_check_span pm_check_span cd_check_span ct_check_span : Value}
    {f_check_spans : Addr} {od_check_spans an_check_spans : Option Addr} {sl_check_spans : Array (Option Value)} {oc_check_spans kV_check_spans dc_check_spans pm_check_spans cd_check_spans ct_check_spans : Value}
    {f_check_place : Addr} {od_check_place an_check_place : Option Addr} {sl_check_place : Array (Option Value)} {oc_check_place kV_check_place dc_check_place pm_check_place cd_check_place ct_check_place : Value}
    {f_count_at : Addr} {od_count_at an_count_at : Option Addr} {sl_count_at : Array (Option Value)} {oc_count_at kV_count_at dc_count_at pm_count_at ct_count_at ec_count_at : Value} {cA_count_at pA_count_at : Addr} {dd_count_at : Option Addr} {vc_count_at : Array Value} {sc_t_count_at : Array (Option Value)}
    {f_changes_of : Addr} {od_changes_of an_changes_of : Option Addr} {sl_changes_of : Array (Option Value)} {oc_changes_of kV_changes_of dc_changes_of pm_changes_of cd_changes_of ct_changes_of : Value}
    {f_layers_of : Addr} {od_layers_of an_layers_of : Option Addr} {sl_layers_of : Array (Option Value)} {oc_layers_of kV_layers_of dc_layers_of pm_layers_of cd_layers_of ct_layers_of : Value}
    {f_deepest_layer : Addr} {od_deepest_layer an_deepest_layer : Option Addr} {sl_deepest_layer : Array (Option Value)} {oc_deepest_layer kV_deepest_layer dc_deepest_layer pm_deepest_layer cd_deepest_layer ct_deepest_layer : Value}
    {f_depth_at : Addr} {od_depth_at an_depth_at : Option Addr} {sl_depth_at : Array (Option Value)} {oc_depth_at kV_depth_at dc_depth_at pm_depth_at cd_depth_at ct_depth_at : Value}
    {f_profile : Addr} {od_profile an_profile : Option Addr} {sl_profile : Array (Option Value)} {oc_profile kV_profile dc_profile pm_profile cd_profile ct_profile : Value}
    {f_deepest : Addr} {od_deepest an_deepest : Option Addr} {sl_deepest : Array (Option Value)} {oc_deepest kV_deepest dc_deepest pm_deepest cd_deepest ct_deepest : Value}
    {f_is_cover : Addr} {od_is_cover an_is_cover : Option Addr} {sl_is_cover : Array (Option Value)} {oc_is_cover kV_is_cover dc_is_cover pm_is_cover ct_is_cover ec_is_cover : Value} {cA_is_cover pA_is_cover : Addr} {dd_is_cover : Option Addr} {vc_is_cover : Array Value} {sc_t_is_cover : Array (Option Value)}
    {f_check_cover : Addr} {od_check_cover an_check_cover : Option Addr} {sl_check_cover : Array (Option Value)} {oc_check_cover kV_check_cover dc_check_cover pm_check_cover cd_check_cover ct_check_cover : Value}
    {f_check_covers : Addr} {od_check_covers an_check_covers : Option Addr} {sl_check_covers : Array (Option Value)} {oc_check_covers kV_check_covers dc_check_covers pm_check_covers cd_check_covers ct_check_covers : Value}
    {f_joined : Addr} {od_joined an_joined : Option Addr} {sl_joined : Array (Option Value)} {oc_joined kV_joined dc_joined pm_joined cd_joined ct_joined : Value}
    {f_common : Addr} {od_common an_common : Option Addr} {sl_common : Array (Option Value)} {oc_common kV_common dc_common pm_common cd_common ct_common : Value}
    {f_cover_of : Addr} {od_cover_of an_cover_of : Option Addr} {sl_cover_of : Array (Option Value)} {oc_cover_of kV_cover_of dc_cover_of pm_cover_of cd_cover_of ct_cover_of : Value}
    {f_both : Addr} {od_both an_both : Option Addr} {sl_both : Array (Option Value)} {oc_both kV_both dc_both pm_both cd_both ct_both : Value}
    {f_either : Addr} {od_either an_either : Option Addr} {sl_either : Array (Option Value)} {oc_either kV_either dc_either pm_either cd_either ct_either : Value}
    {f_l_at : Addr} {od_l_at an_l_at : Option Addr} {sl_l_at : Array (Option Value)} {oc_l_at kV_l_at dc_l_at pm_l_at cd_l_at ct_l_at : Value}
    {f_l_mixed : Addr} {od_l_mixed an_l_mixed : Option Addr} {sl_l_mixed : Array (Option Value)} {oc_l_mixed kV_l_mixed dc_l_mixed pm_l_mixed cd_l_mixed ct_l_mixed : Value}
    {f_l_purse : Addr} {od_l_purse an_l_purse : Option Addr} {sl_l_purse : Array (Option Value)} {oc_l_purse kV_l_purse dc_l_purse pm_l_purse cd_l_purse ct_l_purse : Value}
    {f_l_draw : Addr} {od_l_draw an_l_draw : Option Addr} {sl_l_draw : Array (Option Value)} {oc_l_draw kV_l_draw dc_l_draw pm_l_draw cd_l_draw ct_l_draw : Value}
    {f_l_number : Addr} {od_l_number an_l_number : Option Addr} {sl_l_number : Array (Option Value)} {oc_l_number kV_l_number dc_l_number pm_l_number cd_l_number ct_l_number : Value}
    {f_l_end : Addr} {od_l_end an_l_end : Option Addr} {sl_l_end : Array (Option Value)} {oc_l_end kV_l_end dc_l_end pm_l_end cd_l_end ct_l_end : Value}
    {f_l_span : Addr} {od_l_span an_l_span : Option Addr} {sl_l_span : Array (Option Value)} {oc_l_span kV_l_span dc_l_span pm_l_span cd_l_span ct_l_span : Value}
    {f_l_spans : Addr} {od_l_spans an_l_spans : Option Addr} {sl_l_spans : Array (Option Value)} {oc_l_spans kV_l_spans dc_l_spans pm_l_spans cd_l_spans ct_l_spans : Value}
    {f_l_deep : Addr} {od_l_deep an_l_deep : Option Addr} {sl_l_deep : Array (Option Value)} {oc_l_deep kV_l_deep dc_l_deep pm_l_deep cd_l_deep ct_l_deep : Value}
    {f_l_twice : Addr} {od_l_twice an_l_twice : Option Addr} {sl_l_twice : Array (Option Value)} {oc_l_twice kV_l_twice dc_l_twice pm_l_twice cd_l_twice ct_l_twice : Value}
    {f_l_one_right : Addr} {od_l_one_right an_l_one_right : Option Addr} {sl_l_one_right : Array (Option Value)} {oc_l_one_right kV_l_one_right dc_l_one_right pm_l_one_right cd_l_one_right ct_l_one_right : Value}
    {f_law : Addr} {od_law an_law : Option Addr} {sl_law : Array (Option Value)} {oc_law kV_law dc_law pm_law cd_law ct_law : Value}
    {tc_LEAST_PLACE : Tok}
    {tc_GREATEST_PLACE : Tok}
    {tc_MOST_SPANS : Tok}
    {C_ShelfError : Addr}
    {C_NoSpan : Addr}
    {C_NoPlace : Addr}
    {C_NoCover : Addr}
    (a_is_whole : PySem.W.nsIn K mainGlobals "is_whole" = some (some (.ref f_is_whole)))
    (l_is_whole : K.lookup f_is_whole = some ⟨oc_is_whole, od_is_whole, .func (PySem.W.fnOf "is_whole" "is_whole" (defArgs s_is_whole) (defBody s_is_whole) (defScope s_is_whole) .none kV_is_whole dc_is_whole pm_is_whole an_is_whole cd_is_whole ct_is_whole), sl_is_whole⟩)
    (c_is_whole : PySem.W.codeIn K cd_is_whole "is_whole" = true)
    (k_is_whole : PySem.W.keepIn K (.ref f_is_whole) = true)
    (a_is_place : PySem.W.nsIn K mainGlobals "is_place" = some (some (.ref f_is_place)))
    (l_is_place : K.lookup f_is_place = some ⟨oc_is_place, od_is_place, .func (PySem.W.fnOf "is_place" "is_place" (defArgs s_is_place) (defBody s_is_place) (defScope s_is_place) .none kV_is_place dc_is_place pm_is_place an_is_place cd_is_place ct_is_place), sl_is_place⟩)
    (c_is_place : PySem.W.codeIn K cd_is_place "is_place" = true)
    (k_is_place : PySem.W.keepIn K (.ref f_is_place) = true)
    (a_is_span : PySem.W.nsIn K mainGlobals "is_span" = some (some (.ref f_is_span)))
    (l_is_span : K.lookup f_is_span = some ⟨oc_is_span, od_is_span, .func (PySem.W.fnOf "is_span" "is_span" (defArgs s_is_span) (defBody s_is_span) (defScope s_is_span) .none kV_is_span dc_is_span pm_is_span an_is_span cd_is_span ct_is_span), sl_is_span⟩)
    (c_is_span : PySem.W.codeIn K cd_is_span "is_span" = true)
    (k_is_span : PySem.W.keepIn K (.ref f_is_span) = true)
    (a_check_span : PySem.W.nsIn K mainGlobals "check_span" = some (some (.ref f_check_span)))
    (l_check_span : K.lookup f_check_span = some ⟨oc_check_span, od_check_span, .func (PySem.W.fnOf "check_span" "check_span" (defArgs s_check_span) (defBody s_check_span) (defScope s_check_span) .none kV_check_span dc_check_span pm_check_span an_check_span cd_check_span ct_check_span), sl_check_span⟩)
    (c_check_span : PySem.W.codeIn K cd_check_span "check_span" = true)
    (k_check_span : PySem.W.keepIn K (.ref f_check_span) = true)
    (a_check_spans : PySem.W.nsIn K mainGlobals "check_spans" = some (some (.ref f_check_spans)))
    (l_check_spans : K.lookup f_check_spans = some ⟨oc_check_spans, od_check_spans, .func (PySem.W.fnOf "check_spans" "check_spans" (defArgs s_check_spans) (defBody s_check_spans) (defScope s_check_spans) .none kV_check_spans dc_check_spans pm_check_spans an_check_spans cd_check_spans ct_check_spans), sl_check_spans⟩)
    (c_check_spans : PySem.W.codeIn K cd_check_spans "check_spans" = true)
    (k_check_spans : PySem.W.keepIn K (.ref f_check_spans) = true)
    (a_check_place : PySem.W.nsIn K mainGlobals "check_place" = some (some (.ref f_check_place)))
    (l_check_place : K.lookup f_check_place = some ⟨oc_check_place, od_check_place, .func (PySem.W.fnOf "check_place" "check_place" (defArgs s_check_place) (defBody s_check_place) (defScope s_check_place) .none kV_check_place dc_check_place pm_check_place an_check_place cd_check_place ct_check_place), sl_check_place⟩)
    (c_check_place : PySem.W.codeIn K cd_check_place "check_place" = true)
    (k_check_place : PySem.W.keepIn K (.ref f_check_place) = true)
    (a_count_at : PySem.W.nsIn K mainGlobals "count_at" = some (some (.ref f_count_at)))
    (l_count_at : K.lookup f_count_at = some ⟨oc_count_at, od_count_at, .func (PySem.W.fnOf "count_at" "count_at" (defArgs s_count_at) (defBody s_count_at) (defScope s_count_at) .none kV_count_at dc_count_at pm_count_at an_count_at (.ref cA_count_at) ct_count_at), sl_count_at⟩)
    (c_count_at : PySem.W.codeIn K (.ref cA_count_at) "count_at" = true)
    (k_count_at : PySem.W.keepIn K (.ref f_count_at) = true)
    (y1_count_at : K.lookup cA_count_at = some ⟨ec_count_at, dd_count_at, .fields vc_count_at, sc_t_count_at⟩)
    (y2_count_at : vc_count_at[11]? = some (.ref pA_count_at))
    (y3_count_at : K.lookup pA_count_at = none)
    (a_changes_of : PySem.W.nsIn K mainGlobals "changes_of" = some (some (.ref f_changes_of)))
    (l_changes_of : K.lookup f_changes_of = some ⟨oc_changes_of, od_changes_of, .func (PySem.W.fnOf "changes_of" "changes_of" (defArgs s_changes_of) (defBody s_changes_of) (defScope s_changes_of) .none kV_changes_of dc_changes_of pm_changes_of an_changes_of cd_changes_of ct_changes_of), sl_changes_of⟩)
    (c_changes_of : PySem.W.codeIn K cd_changes_of "changes_of" = true)
    (k_changes_of : PySem.W.keepIn K (.ref f_changes_of) = true)
    (a_layers_of : PySem.W.nsIn K mainGlobals "layers_of" = some (some (.ref f_layers_of)))
    (l_layers_of : K.lookup f_layers_of = some ⟨oc_layers_of, od_layers_of, .func (PySem.W.fnOf "layers_of" "layers_of" (defArgs s_layers_of) (defBody s_layers_of) (defScope s_layers_of) .none kV_layers_of dc_layers_of pm_layers_of an_layers_of cd_layers_of ct_layers_of), sl_layers_of⟩)
    (c_layers_of : PySem.W.codeIn K cd_layers_of "layers_of" = true)
    (k_layers_of : PySem.W.keepIn K (.ref f_layers_of) = true)
    (a_deepest_layer : PySem.W.nsIn K mainGlobals "deepest_layer" = some (some (.ref f_deepest_layer)))
    (l_deepest_layer : K.lookup f_deepest_layer = some ⟨oc_deepest_layer, od_deepest_layer, .func (PySem.W.fnOf "deepest_layer" "deepest_layer" (defArgs s_deepest_layer) (defBody s_deepest_layer) (defScope s_deepest_layer) .none kV_deepest_layer dc_deepest_layer pm_deepest_layer an_deepest_layer cd_deepest_layer ct_deepest_layer), sl_deepest_layer⟩)
    (c_deepest_layer : PySem.W.codeIn K cd_deepest_layer "deepest_layer" = true)
    (k_deepest_layer : PySem.W.keepIn K (.ref f_deepest_layer) = true)
    (a_depth_at : PySem.W.nsIn K mainGlobals "depth_at" = some (some (.ref f_depth_at)))
    (l_depth_at : K.lookup f_depth_at = some ⟨oc_depth_at, od_depth_at, .func (PySem.W.fnOf "depth_at" "depth_at" (defArgs s_depth_at) (defBody s_depth_at) (defScope s_depth_at) .none kV_depth_at dc_depth_at pm_depth_at an_depth_at cd_depth_at ct_depth_at), sl_depth_at⟩)
    (c_depth_at : PySem.W.codeIn K cd_depth_at "depth_at" = true)
    (k_depth_at : PySem.W.keepIn K (.ref f_depth_at) = true)
    (a_profile : PySem.W.nsIn K mainGlobals "profile" = some (some (.ref f_profile)))
    (l_profile : K.lookup f_profile = some ⟨oc_profile, od_profile, .func (PySem.W.fnOf "profile" "profile" (defArgs s_profile) (defBody s_profile) (defScope s_profile) .none kV_profile dc_profile pm_profile an_profile cd_profile ct_profile), sl_profile⟩)
    (c_profile : PySem.W.codeIn K cd_profile "profile" = true)
    (k_profile : PySem.W.keepIn K (.ref f_profile) = true)
    (a_deepest : PySem.W.nsIn K mainGlobals "deepest" = some (some (.ref f_deepest)))
    (l_deepest : K.lookup f_deepest = some ⟨oc_deepest, od_deepest, .func (PySem.W.fnOf "deepest" "deepest" (defArgs s_deepest) (defBody s_deepest) (defScope s_deepest) .none kV_deepest dc_deepest pm_deepest an_deepest cd_deepest ct_deepest), sl_deepest⟩)
    (c_deepest : PySem.W.codeIn K cd_deepest "deepest" = true)
    (k_deepest : PySem.W.keepIn K (.ref f_deepest) = true)
    (a_is_cover : PySem.W.nsIn K mainGlobals "is_cover" = some (some (.ref f_is_cover)))
    (l_is_cover : K.lookup f_is_cover = some ⟨oc_is_cover, od_is_cover, .func (PySem.W.fnOf "is_cover" "is_cover" (defArgs s_is_cover) (defBody s_is_cover) (defScope s_is_cover) .none kV_is_cover dc_is_cover pm_is_cover an_is_cover (.ref cA_is_cover) ct_is_cover), sl_is_cover⟩)
    (c_is_cover : PySem.W.codeIn K (.ref cA_is_cover) "is_cover" = true)
    (k_is_cover : PySem.W.keepIn K (.ref f_is_cover) = true)
    (y1_is_cover : K.lookup cA_is_cover = some ⟨ec_is_cover, dd_is_cover, .fields vc_is_cover, sc_t_is_cover⟩)
    (y2_is_cover : vc_is_cover[11]? = some (.ref pA_is_cover))
    (y3_is_cover : K.lookup pA_is_cover = none)
    (a_check_cover : PySem.W.nsIn K mainGlobals "check_cover" = some (some (.ref f_check_cover)))
    (l_check_cover : K.lookup f_check_cover = some ⟨oc_check_cover, od_check_cover, .func (PySem.W.fnOf "check_cover" "check_cover" (defArgs s_check_cover) (defBody s_check_cover) (defScope s_check_cover) .none kV_check_cover dc_check_cover pm_check_cover an_check_cover cd_check_cover ct_check_cover), sl_check_cover⟩)
    (c_check_cover : PySem.W.codeIn K cd_check_cover "check_cover" = true)
    (k_check_cover : PySem.W.keepIn K (.ref f_check_cover) = true)
    (a_check_covers : PySem.W.nsIn K mainGlobals "check_covers" = some (some (.ref f_check_covers)))
    (l_check_covers : K.lookup f_check_covers = some ⟨oc_check_covers, od_check_covers, .func (PySem.W.fnOf "check_covers" "check_covers" (defArgs s_check_covers) (defBody s_check_covers) (defScope s_check_covers) .none kV_check_covers dc_check_covers pm_check_covers an_check_covers cd_check_covers ct_check_covers), sl_check_covers⟩)
    (c_check_covers : PySem.W.codeIn K cd_check_covers "check_covers" = true)
    (k_check_covers : PySem.W.keepIn K (.ref f_check_covers) = true)
    (a_joined : PySem.W.nsIn K mainGlobals "joined" = some (some (.ref f_joined)))
    (l_joined : K.lookup f_joined = some ⟨oc_joined, od_joined, .func (PySem.W.fnOf "joined" "joined" (defArgs s_joined) (defBody s_joined) (defScope s_joined) .none kV_joined dc_joined pm_joined an_joined cd_joined ct_joined), sl_joined⟩)
    (c_joined : PySem.W.codeIn K cd_joined "joined" = true)
    (k_joined : PySem.W.keepIn K (.ref f_joined) = true)
    (a_common : PySem.W.nsIn K mainGlobals "common" = some (some (.ref f_common)))
    (l_common : K.lookup f_common = some ⟨oc_common, od_common, .func (PySem.W.fnOf "common" "common" (defArgs s_common) (defBody s_common) (defScope s_common) .none kV_common dc_common pm_common an_common cd_common ct_common), sl_common⟩)
    (c_common : PySem.W.codeIn K cd_common "common" = true)
    (k_common : PySem.W.keepIn K (.ref f_common) = true)
    (a_cover_of : PySem.W.nsIn K mainGlobals "cover_of" = some (some (.ref f_cover_of)))
    (l_cover_of : K.lookup f_cover_of = some ⟨oc_cover_of, od_cover_of, .func (PySem.W.fnOf "cover_of" "cover_of" (defArgs s_cover_of) (defBody s_cover_of) (defScope s_cover_of) .none kV_cover_of dc_cover_of pm_cover_of an_cover_of cd_cover_of ct_cover_of), sl_cover_of⟩)
    (c_cover_of : PySem.W.codeIn K cd_cover_of "cover_of" = true)
    (k_cover_of : PySem.W.keepIn K (.ref f_cover_of) = true)
    (a_both : PySem.W.nsIn K mainGlobals "both" = some (some (.ref f_both)))
    (l_both : K.lookup f_both = some ⟨oc_both, od_both, .func (PySem.W.fnOf "both" "both" (defArgs s_both) (defBody s_both) (defScope s_both) .none kV_both dc_both pm_both an_both cd_both ct_both), sl_both⟩)
    (c_both : PySem.W.codeIn K cd_both "both" = true)
    (k_both : PySem.W.keepIn K (.ref f_both) = true)
    (a_either : PySem.W.nsIn K mainGlobals "either" = some (some (.ref f_either)))
    (l_either : K.lookup f_either = some ⟨oc_either, od_either, .func (PySem.W.fnOf "either" "either" (defArgs s_either) (defBody s_either) (defScope s_either) .none kV_either dc_either pm_either an_either cd_either ct_either), sl_either⟩)
    (c_either : PySem.W.codeIn K cd_either "either" = true)
    (k_either : PySem.W.keepIn K (.ref f_either) = true)
    (a_l_at : PySem.W.nsIn K mainGlobals "_law_at" = some (some (.ref f_l_at)))
    (l_l_at : K.lookup f_l_at = some ⟨oc_l_at, od_l_at, .func (PySem.W.fnOf "_law_at" "_law_at" (defArgs s_l_at) (defBody s_l_at) (defScope s_l_at) .none kV_l_at dc_l_at pm_l_at an_l_at cd_l_at ct_l_at), sl_l_at⟩)
    (c_l_at : PySem.W.codeIn K cd_l_at "_law_at" = true)
    (k_l_at : PySem.W.keepIn K (.ref f_l_at) = true)
    (a_l_mixed : PySem.W.nsIn K mainGlobals "_law_mixed" = some (some (.ref f_l_mixed)))
    (l_l_mixed : K.lookup f_l_mixed = some ⟨oc_l_mixed, od_l_mixed, .func (PySem.W.fnOf "_law_mixed" "_law_mixed" (defArgs s_l_mixed) (defBody s_l_mixed) (defScope s_l_mixed) .none kV_l_mixed dc_l_mixed pm_l_mixed an_l_mixed cd_l_mixed ct_l_mixed), sl_l_mixed⟩)
    (c_l_mixed : PySem.W.codeIn K cd_l_mixed "_law_mixed" = true)
    (k_l_mixed : PySem.W.keepIn K (.ref f_l_mixed) = true)
    (a_l_purse : PySem.W.nsIn K mainGlobals "_law_purse" = some (some (.ref f_l_purse)))
    (l_l_purse : K.lookup f_l_purse = some ⟨oc_l_purse, od_l_purse, .func (PySem.W.fnOf "_law_purse" "_law_purse" (defArgs s_l_purse) (defBody s_l_purse) (defScope s_l_purse) .none kV_l_purse dc_l_purse pm_l_purse an_l_purse cd_l_purse ct_l_purse), sl_l_purse⟩)
    (c_l_purse : PySem.W.codeIn K cd_l_purse "_law_purse" = true)
    (k_l_purse : PySem.W.keepIn K (.ref f_l_purse) = true)
    (a_l_draw : PySem.W.nsIn K mainGlobals "_law_draw" = some (some (.ref f_l_draw)))
    (l_l_draw : K.lookup f_l_draw = some ⟨oc_l_draw, od_l_draw, .func (PySem.W.fnOf "_law_draw" "_law_draw" (defArgs s_l_draw) (defBody s_l_draw) (defScope s_l_draw) .none kV_l_draw dc_l_draw pm_l_draw an_l_draw cd_l_draw ct_l_draw), sl_l_draw⟩)
    (c_l_draw : PySem.W.codeIn K cd_l_draw "_law_draw" = true)
    (k_l_draw : PySem.W.keepIn K (.ref f_l_draw) = true)
    (a_l_number : PySem.W.nsIn K mainGlobals "_law_number" = some (some (.ref f_l_number)))
    (l_l_number : K.lookup f_l_number = some ⟨oc_l_number, od_l_number, .func (PySem.W.fnOf "_law_number" "_law_number" (defArgs s_l_number) (defBody s_l_number) (defScope s_l_number) .none kV_l_number dc_l_number pm_l_number an_l_number cd_l_number ct_l_number), sl_l_number⟩)
    (c_l_number : PySem.W.codeIn K cd_l_number "_law_number" = true)
    (k_l_number : PySem.W.keepIn K (.ref f_l_number) = true)
    (a_l_end : PySem.W.nsIn K mainGlobals "_law_end" = some (some (.ref f_l_end)))
    (l_l_end : K.lookup f_l_end = some ⟨oc_l_end, od_l_end, .func (PySem.W.fnOf "_law_end" "_law_end" (defArgs s_l_end) (defBody s_l_end) (defScope s_l_end) .none kV_l_end dc_l_end pm_l_end an_l_end cd_l_end ct_l_end), sl_l_end⟩)
    (c_l_end : PySem.W.codeIn K cd_l_end "_law_end" = true)
    (k_l_end : PySem.W.keepIn K (.ref f_l_end) = true)
    (a_l_span : PySem.W.nsIn K mainGlobals "_law_span" = some (some (.ref f_l_span)))
    (l_l_span : K.lookup f_l_span = some ⟨oc_l_span, od_l_span, .func (PySem.W.fnOf "_law_span" "_law_span" (defArgs s_l_span) (defBody s_l_span) (defScope s_l_span) .none kV_l_span dc_l_span pm_l_span an_l_span cd_l_span ct_l_span), sl_l_span⟩)
    (c_l_span : PySem.W.codeIn K cd_l_span "_law_span" = true)
    (k_l_span : PySem.W.keepIn K (.ref f_l_span) = true)
    (a_l_spans : PySem.W.nsIn K mainGlobals "_law_spans" = some (some (.ref f_l_spans)))
    (l_l_spans : K.lookup f_l_spans = some ⟨oc_l_spans, od_l_spans, .func (PySem.W.fnOf "_law_spans" "_law_spans" (defArgs s_l_spans) (defBody s_l_spans) (defScope s_l_spans) .none kV_l_spans dc_l_spans pm_l_spans an_l_spans cd_l_spans ct_l_spans), sl_l_spans⟩)
    (c_l_spans : PySem.W.codeIn K cd_l_spans "_law_spans" = true)
    (k_l_spans : PySem.W.keepIn K (.ref f_l_spans) = true)
    (a_l_deep : PySem.W.nsIn K mainGlobals "_law_deep" = some (some (.ref f_l_deep)))
    (l_l_deep : K.lookup f_l_deep = some ⟨oc_l_deep, od_l_deep, .func (PySem.W.fnOf "_law_deep" "_law_deep" (defArgs s_l_deep) (defBody s_l_deep) (defScope s_l_deep) .none kV_l_deep dc_l_deep pm_l_deep an_l_deep cd_l_deep ct_l_deep), sl_l_deep⟩)
    (c_l_deep : PySem.W.codeIn K cd_l_deep "_law_deep" = true)
    (k_l_deep : PySem.W.keepIn K (.ref f_l_deep) = true)
    (a_l_twice : PySem.W.nsIn K mainGlobals "_law_twice" = some (some (.ref f_l_twice)))
    (l_l_twice : K.lookup f_l_twice = some ⟨oc_l_twice, od_l_twice, .func (PySem.W.fnOf "_law_twice" "_law_twice" (defArgs s_l_twice) (defBody s_l_twice) (defScope s_l_twice) .none kV_l_twice dc_l_twice pm_l_twice an_l_twice cd_l_twice ct_l_twice), sl_l_twice⟩)
    (c_l_twice : PySem.W.codeIn K cd_l_twice "_law_twice" = true)
    (k_l_twice : PySem.W.keepIn K (.ref f_l_twice) = true)
    (a_l_one_right : PySem.W.nsIn K mainGlobals "_law_one_right" = some (some (.ref f_l_one_right)))
    (l_l_one_right : K.lookup f_l_one_right = some ⟨oc_l_one_right, od_l_one_right, .func (PySem.W.fnOf "_law_one_right" "_law_one_right" (defArgs s_l_one_right) (defBody s_l_one_right) (defScope s_l_one_right) .none kV_l_one_right dc_l_one_right pm_l_one_right an_l_one_right cd_l_one_right ct_l_one_right), sl_l_one_right⟩)
    (c_l_one_right : PySem.W.codeIn K cd_l_one_right "_law_one_right" = true)
    (k_l_one_right : PySem.W.keepIn K (.ref f_l_one_right) = true)
    (a_law : PySem.W.nsIn K mainGlobals "law" = some (some (.ref f_law)))
    (l_law : K.lookup f_law = some ⟨oc_law, od_law, .func (PySem.W.fnOf "law" "law" (defArgs s_law) (defBody s_law) (defScope s_law) .none kV_law dc_law pm_law an_law cd_law ct_law), sl_law⟩)
    (c_law : PySem.W.codeIn K cd_law "law" = true)
    (k_law : PySem.W.keepIn K (.ref f_law) = true)
    (n_LEAST_PLACE : PySem.W.nsIn K mainGlobals "LEAST_PLACE" = some (some (.int (-999999999999) tc_LEAST_PLACE)))
    (n_GREATEST_PLACE : PySem.W.nsIn K mainGlobals "GREATEST_PLACE" = some (some (.int (999999999999) tc_GREATEST_PLACE)))
    (n_MOST_SPANS : PySem.W.nsIn K mainGlobals "MOST_SPANS" = some (some (.int (200) tc_MOST_SPANS)))
    (a_ShelfError : PySem.W.nsIn K mainGlobals "ShelfError" = some (some (.ref C_ShelfError)))
    (x_ShelfError : PySem.W.excIn K C_ShelfError [.type "ValueError", .type "Exception", .type "BaseException", .type "object"] "ValueError.__new__" = true)
    (k_ShelfError : PySem.W.keepIn K (.ref C_ShelfError) = true)
    (b_ShelfError : PySem.W.subIn K (.ref C_ShelfError) (.type "BaseException") = some true)
    (t_ShelfError : PySem.W.typeIn K (.ref C_ShelfError) = some (.type "type"))
    (a_NoSpan : PySem.W.nsIn K mainGlobals "NoSpan" = some (some (.ref C_NoSpan)))
    (x_NoSpan : PySem.W.excIn K C_NoSpan [.type "ValueError", .type "Exception", .type "BaseException", .type "object"] "ValueError.__new__" = true)
    (k_NoSpan : PySem.W.keepIn K (.ref C_NoSpan) = true)
    (b_NoSpan : PySem.W.subIn K (.ref C_NoSpan) (.type "BaseException") = some true)
    (t_NoSpan : PySem.W.typeIn K (.ref C_NoSpan) = some (.type "type"))
    (a_NoPlace : PySem.W.nsIn K mainGlobals "NoPlace" = some (some (.ref C_NoPlace)))
    (x_NoPlace : PySem.W.excIn K C_NoPlace [.type "ValueError", .type "Exception", .type "BaseException", .type "object"] "ValueError.__new__" = true)
    (k_NoPlace : PySem.W.keepIn K (.ref C_NoPlace) = true)
    (b_NoPlace : PySem.W.subIn K (.ref C_NoPlace) (.type "BaseException") = some true)
    (t_NoPlace : PySem.W.typeIn K (.ref C_NoPlace) = some (.type "type"))
    (a_NoCover : PySem.W.nsIn K mainGlobals "NoCover" = some (some (.ref C_NoCover)))
    (x_NoCover : PySem.W.excIn K C_NoCover [.type "ValueError", .type "Exception", .type "BaseException", .type "object"] "ValueError.__new__" = true)
    (k_NoCover : PySem.W.keepIn K (.ref C_NoCover) = true)
    (b_NoCover : PySem.W.subIn K (.ref C_NoCover) (.type "BaseException") = some true)
    (t_NoCover : PySem.W.typeIn K (.ref C_NoCover) = some (.type "type"))
    (z_all : PySem.W.nsIn K mainGlobals "all" = some none)
    (z_bool : PySem.W.nsIn K mainGlobals "bool" = some none)
    (z_int : PySem.W.nsIn K mainGlobals "int" = some none)
    (z_isinstance : PySem.W.nsIn K mainGlobals "isinstance" = some none)
    (z_len : PySem.W.nsIn K mainGlobals "len" = some none)
    (z_max : PySem.W.nsIn K mainGlobals "max" = some none)
    (z_min : PySem.W.nsIn K mainGlobals "min" = some none)
    (z_range : PySem.W.nsIn K mainGlobals "range" = some none)
    (z_sorted : PySem.W.nsIn K mainGlobals "sorted" = some none)
    (z_sum : PySem.W.nsIn K mainGlobals "sum" = some none)
    (z_tuple : PySem.W.nsIn K mainGlobals "tuple" = some none)
    (z_zip : PySem.W.nsIn K mainGlobals "zip" = some none)
    (R : ∀ nm ∈ (["count_at", "is_cover"] : List Str), TabRec h mg nm)
    : LamX.LawAtS l w K CX0 9 63 "_law_script" mg fa h := by
  have e := hfa.symm.trans (PySem.W.mg_of X G a_law)
  cases e
  have F_is_whole := fun_mk (st := s_is_whole) l_is_whole c_is_whole k_is_whole
  have b_is_whole := F_is_whole.binds (ps := ["number"]) fun _ _ _ _ _ _ us hl => match us, hl with | [_], _ => rfl
  have F_is_place := fun_mk (st := s_is_place) l_is_place c_is_place k_is_place
  have b_is_place := F_is_place.binds (ps := ["number"]) fun _ _ _ _ _ _ us hl => match us, hl with | [_], _ => rfl
  have F_is_span := fun_mk (st := s_is_span) l_is_span c_is_span k_is_span
  have b_is_span := F_is_span.binds (ps := ["span"]) fun _ _ _ _ _ _ us hl => match us, hl with | [_], _ => rfl
  have F_check_span := fun_mk (st := s_check_span) l_check_span c_check_span k_check_span
  have b_check_span := F_check_span.binds (ps := ["span"]) fun _ _ _ _ _ _ us hl => match us, hl with | [_], _ => rfl
  have F_check_spans := fun_mk (st := s_check_spans) l_check_spans c_check_spans k_check_spans
  have b_check_spans := F_check_spans.binds (ps := ["spans"]) fun _ _ _ _ _ _ us hl => match us, hl with | [_], _ => rfl
  have F_check_place := fun_mk (st := s_check_place) l_check_place c_check_place k_check_place
  have b_check_place := F_check_place.binds (ps := ["place"]) fun _ _ _ _ _ _ us hl => match us, hl with | [_], _ => rfl
  have F_count_at := fun_mk (st := s_count_at) l_count_at c_count_at k_count_at
  have b_count_at := F_count_at.binds (ps := ["spans", "place"]) fun _ _ _ _ _ _ us hl => match us, hl with | [_, _], _ => rfl
  have F_changes_of := fun_mk (st := s_changes_of) l_changes_of c_changes_of k_changes_of
  have b_changes_of := F_changes_of.binds (ps := ["spans"]) fun _ _ _ _ _ _ us hl => match us, hl with | [_], _ => rfl
  have F_layers_of := fun_mk (st := s_layers_of) l_layers_of c_layers_of k_layers_of
  have b_layers_of := F_layers_of.binds (ps := ["spans"]) fun _ _ _ _ _ _ us hl => match us, hl with | [_], _ => rfl
  have F_deepest_layer := fun_mk (st := s_deepest_layer) l_deepest_layer c_deepest_layer k_deepest_layer
  have b_deepest_layer := F_deepest_layer.binds (ps := ["spans"]) fun _ _ _ _ _ _ us hl => match us, hl with | [_], _ => rfl
  have F_depth_at := fun_mk (st := s_depth_at) l_depth_at c_depth_at k_depth_at
  have b_depth_at := F_depth_at.binds (ps := ["spans", "place"]) fun _ _ _ _ _ _ us hl => match us, hl with | [_, _], _ => rfl
  have F_profile := fun_mk (st := s_profile) l_profile c_profile k_profile
  have b_profile := F_profile.binds (ps := ["spans"]) fun _ _ _ _ _ _ us hl => match us, hl with | [_], _ => rfl
  have F_deepest := fun_mk (st := s_deepest) l_deepest c_deepest k_deepest
  have b_deepest := F_deepest.binds (ps := ["spans"]) fun _ _ _ _ _ _ us hl => match us, hl with | [_], _ => rfl
  have F_is_cover := fun_mk (st := s_is_cover) l_is_cover c_is_cover k_is_cover
  have b_is_cover := F_is_cover.binds (ps := ["spans"]) fun _ _ _ _ _ _ us hl => match us, hl with | [_], _ => rfl
  have F_check_cover := fun_mk (st := s_check_cover) l_check_cover c_check_cover k_check_cover
  have b_check_cover := F_check_cover.binds (ps := ["cover"]) fun _ _ _ _ _ _ us hl => match us, hl with | [_], _ => rfl
  have F_check_covers := fun_mk (st := s_check_covers) l_check_covers c_check_covers k_check_covers
  have b_check_covers := F_check_covers.binds (ps := ["one", "other"]) fun _ _ _ _ _ _ us hl => match us, hl with | [_, _], _ => rfl
  have F_joined := fun_mk (st := s_joined) l_joined c_joined k_joined
  have b_joined := F_joined.binds (ps := ["spans"]) fun _ _ _ _ _ _ us hl => match us, hl with | [_], _ => rfl
  have F_common := fun_mk (st := s_common) l_common c_common k_common
  have b_common := F_common.binds (ps := ["one", "other"]) fun _ _ _ _ _ _ us hl => match us, hl with | [_, _], _ => rfl
  have F_cover_of := fun_mk (st := s_cover_of) l_cover_of c_cover_of k_cover_of
  have b_cover_of := F_cover_of.binds (ps := ["spans"]) fun _ _ _ _ _ _ us hl => match us, hl with | [_], _ => rfl
  have F_both := fun_mk (st := s_both) l_both c_both k_both
  have b_both := F_both.binds (ps := ["one", "other"]) fun _ _ _ _ _ _ us hl => match us, hl with | [_, _], _ => rfl
  have F_either := fun_mk (st := s_either) l_either c_either k_either
  have b_either := F_either.binds (ps := ["one", "other"]) fun _ _ _ _ _ _ us hl => match us, hl with | [_, _], _ => rfl
  have F_l_at := fun_mk (st := s_l_at) l_l_at c_l_at k_l_at
  have b_l_at := F_l_at.binds (ps := ["_law_script", "_law_k"]) fun _ _ _ _ _ _ us hl => match us, hl with | [_, _], _ => rfl
  have F_l_mixed := fun_mk (st := s_l_mixed) l_l_mixed c_l_mixed k_l_mixed
  have b_l_mixed := F_l_mixed.binds (ps := ["_law_cell", "_law_k"]) fun _ _ _ _ _ _ us hl => match us, hl with | [_, _], _ => rfl
  have F_l_purse := fun_mk (st := s_l_purse) l_l_purse c_l_purse k_l_purse
  have b_l_purse := F_l_purse.binds (ps := ["_law_script", "_law_at_here"]) fun _ _ _ _ _ _ us hl => match us, hl with | [_, _], _ => rfl
  have F_l_draw := fun_mk (st := s_l_draw) l_l_draw c_l_draw k_l_draw
  have b_l_draw := F_l_draw.binds (ps := ["_law_purse_here", "_law_out_of"]) fun _ _ _ _ _ _ us hl => match us, hl with | [_, _], _ => rfl
  have F_l_number := fun_mk (st := s_l_number) l_l_number c_l_number k_l_number
  have b_l_number := F_l_number.binds (ps := ["_law_purse_here", "_law_most"]) fun _ _ _ _ _ _ us hl => match us, hl with | [_, _], _ => rfl
  have F_l_end := fun_mk (st := s_l_end) l_l_end c_l_end k_l_end
  have b_l_end := F_l_end.binds (ps := ["_law_purse_here", "_law_ends", "_law_most"]) fun _ _ _ _ _ _ us hl => match us, hl with | [_, _, _], _ => rfl
  have F_l_span := fun_mk (st := s_l_span) l_l_span c_l_span k_l_span
  have b_l_span := F_l_span.binds (ps := ["_law_purse_here", "_law_ends", "_law_most"]) fun _ _ _ _ _ _ us hl => match us, hl with | [_, _, _], _ => rfl
  have F_l_spans := fun_mk (st := s_l_spans) l_l_spans c_l_spans k_l_spans
  have b_l_spans := F_l_spans.binds (ps := ["_law_purse_here", "_law_ends", "_law_most"]) fun _ _ _ _ _ _ us hl => match us, hl with | [_, _, _], _ => rfl
  have F_l_deep := fun_mk (st := s_l_deep) l_l_deep c_l_deep k_l_deep
  have b_l_deep := F_l_deep.binds (ps := ["_law_spans_here"]) fun _ _ _ _ _ _ us hl => match us, hl with | [_], _ => rfl
  have F_l_twice := fun_mk (st := s_l_twice) l_l_twice c_l_twice k_l_twice
  have b_l_twice := F_l_twice.binds (ps := ["_law_spans_here"]) fun _ _ _ _ _ _ us hl => match us, hl with | [_], _ => rfl
  have F_l_one_right := fun_mk (st := s_l_one_right) l_l_one_right c_l_one_right k_l_one_right
  have b_l_one_right := F_l_one_right.binds (ps := ["_law_spans_here"]) fun _ _ _ _ _ _ us hl => match us, hl with | [_], _ => rfl
  have F_law := fun_mk (st := s_law) l_law c_law k_law
  have b_law := F_law.binds (ps := ["_law_script"]) fun _ _ _ _ _ _ us hl => match us, hl with | [_], _ => rfl
  let T : Tx K mg := { f_is_whole := _, fd_is_whole := _, F_is_whole := F_is_whole, b_is_whole := b_is_whole, g_is_whole := PySem.W.mg_of X G a_is_whole, f_is_place := _, fd_is_place := _, F_is_place := F_is_place, b_is_place := b_is_place, g_is_place := PySem.W.mg_of X G a_is_place, f_is_span := _, fd_is_span := _, F_is_span := F_is_span, b_is_span := b_is_span, g_is_span := PySem.W.mg_of X G a_is_span, f_check_span := _, fd_check_span := _, F_check_span := F_check_span, b_check_span := b_check_span, g_check_span := PySem.W.mg_of X G a_check_span, f_check_spans := _, fd_check_spans := _, F_check_spans := F_check_spans, b_check_spans := b_check_spans, g_check_spans := PySem.W.mg_of X G a_check_spans, f_check_place := _, fd_check_place := _, F_check_place := F_check_place, b_check_place := b_check_place, g_check_place := PySem.W.mg_of X G a_check_place, f_count_at := _, fd_count_at := _, F_count_at := F_count_at, b_count_at := b_count_at, g_count_at := PySem.W.mg_of X G a_count_at, cA_count_at := cA_count_at, pA_count_at := pA_count_at, FC_count_at := ⟨⟨_, _, _, _, _, _, _, _, rfl, l_count_at, c_count_at⟩⟩, f_changes_of := _, fd_changes_of := _, F_changes_of := F_changes_of, b_changes_of := b_changes_of, g_changes_of := PySem.W.mg_of X G a_changes_of, f_layers_of := _, fd_layers_of := _, F_layers_of := F_layers_of, b_layers_of := b_layers_of, g_layers_of := PySem.W.mg_of X G a_layers_of, f_deepest_layer := _, fd_deepest_layer := _, F_deepest_layer := F_deepest_layer, b_deepest_layer := b_deepest_layer, g_deepest_layer := PySem.W.mg_of X G a_deepest_layer, f_depth_at := _, fd_depth_at := _, F_depth_at := F_depth_at, b_depth_at := b_depth_at, g_depth_at := PySem.W.mg_of X G a_depth_at, f_profile := _, fd_profile := _, F_profile := F_profile, b_profile := b_profile, g_profile := PySem.W.mg_of X G a_profile, f_deepest := _, fd_deepest := _, F_deepest := F_deepest, b_deepest := b_deepest, g_deepest := PySem.W.mg_of X G a_deepest, f_is_cover := _, fd_is_cover := _, F_is_cover := F_is_cover, b_is_cover := b_is_cover, g_is_cover := PySem.W.mg_of X G a_is_cover, cA_is_cover := cA_is_cover, pA_is_cover := pA_is_cover, FC_is_cover := ⟨⟨_, _, _, _, _, _, _, _, rfl, l_is_cover, c_is_cover⟩⟩, f_check_cover := _, fd_check_cover := _, F_check_cover := F_check_cover, b_check_cover := b_check_cover, g_check_cover := PySem.W.mg_of X G a_check_cover, f_check_covers := _, fd_check_covers := _, F_check_covers := F_check_covers, b_check_covers := b_check_covers, g_check_covers := PySem.W.mg_of X G a_check_covers, f_joined := _, fd_joined := _, F_joined := F_joined, b_joined := b_joined, g_joined := PySem.W.mg_of X G a_joined, f_common := _, fd_common := _, F_common := F_common, b_common := b_common, g_common := PySem.W.mg_of X G a_common, f_cover_of := _, fd_cover_of := _, F_cover_of := F_cover_of, b_cover_of := b_cover_of, g_cover_of := PySem.W.mg_of X G a_cover_of, f_both := _, fd_both := _, F_both := F_both, b_both := b_both, g_both := PySem.W.mg_of X G a_both, f_either := _, fd_either := _, F_either := F_either, b_either := b_either, g_either := PySem.W.mg_of X G a_either, f_l_at := _, fd_l_at := _, F_l_at := F_l_at, b_l_at := b_l_at, g_l_at := PySem.W.mg_of X G a_l_at, f_l_mixed := _, fd_l_mixed := _, F_l_mixed := F_l_mixed, b_l_mixed := b_l_mixed, g_l_mixed := PySem.W.mg_of X G a_l_mixed, f_l_purse := _, fd_l_purse := _, F_l_purse := F_l_purse, b_l_purse := b_l_purse, g_l_purse := PySem.W.mg_of X G a_l_purse, f_l_draw := _, fd_l_draw := _, F_l_draw := F_l_draw, b_l_draw := b_l_draw, g_l_draw := PySem.W.mg_of X G a_l_draw, f_l_number := _, fd_l_number := _, F_l_number := F_l_number, b_l_number := b_l_number, g_l_number := PySem.W.mg_of X G a_l_number, f_l_end := _, fd_l_end := _, F_l_end := F_l_end, b_l_end := b_l_end, g_l_end := PySem.W.mg_of X G a_l_end, f_l_span := _, fd_l_span := _, F_l_span := F_l_span, b_l_span := b_l_span, g_l_span := PySem.W.mg_of X G a_l_span, f_l_spans := _, fd_l_spans := _, F_l_spans := F_l_spans, b_l_spans := b_l_spans, g_l_spans := PySem.W.mg_of X G a_l_spans, f_l_deep := _, fd_l_deep := _, F_l_deep := F_l_deep, b_l_deep := b_l_deep, g_l_deep := PySem.W.mg_of X G a_l_deep, f_l_twice := _, fd_l_twice := _, F_l_twice := F_l_twice, b_l_twice := b_l_twice, g_l_twice := PySem.W.mg_of X G a_l_twice, f_l_one_right := _, fd_l_one_right := _, F_l_one_right := F_l_one_right, b_l_one_right := b_l_one_right, g_l_one_right := PySem.W.mg_of X G a_l_one_right, f_law := _, fd_law := _, F_law := F_law, b_law := b_law, g_law := PySem.W.mg_of X G a_law, tc_LEAST_PLACE := _, c_LEAST_PLACE := PySem.W.mg_of X G n_LEAST_PLACE, tc_GREATEST_PLACE := _, c_GREATEST_PLACE := PySem.W.mg_of X G n_GREATEST_PLACE, tc_MOST_SPANS := _, c_MOST_SPANS := PySem.W.mg_of X G n_MOST_SPANS, C_ShelfError := _, g_ShelfError := PySem.W.mg_of X G a_ShelfError, x_ShelfError := x_ShelfError, k_ShelfError := k_ShelfError, b_ShelfError := b_ShelfError, t_ShelfError := t_ShelfError, C_NoSpan := _, g_NoSpan := PySem.W.mg_of X G a_NoSpan, x_NoSpan := x_NoSpan, k_NoSpan := k_NoSpan, b_NoSpan := b_NoSpan, t_NoSpan := t_NoSpan, C_NoPlace := _, g_NoPlace := PySem.W.mg_of X G a_NoPlace, x_NoPlace := x_NoPlace, k_NoPlace := k_NoPlace, b_NoPlace := b_NoPlace, t_NoPlace := t_NoPlace, C_NoCover := _, g_NoCover := PySem.W.mg_of X G a_NoCover, x_NoCover := x_NoCover, k_NoCover := k_NoCover, b_NoCover := b_NoCover, t_NoCover := t_NoCover, m_all := PySem.W.mg_none_of X G z_all, m_bool := PySem.W.mg_none_of X G z_bool, m_int := PySem.W.mg_none_of X G z_int, m_isinstance := PySem.W.mg_none_of X G z_isinstance, m_len := PySem.W.mg_none_of X G z_len, m_max := PySem.W.mg_none_of X G z_max, m_min := PySem.W.mg_none_of X G z_min, m_range := PySem.W.mg_none_of X G z_range, m_sorted := PySem.W.mg_none_of X G z_sorted, m_sum := PySem.W.mg_none_of X G z_sum, m_tuple := PySem.W.mg_none_of X G z_tuple, m_zip := PySem.W.mg_none_of X G z_zip }
  have z_t0 := tab_of X (R "count_at" (by simp)) (PySem.W.mg_of X G a_count_at) l_count_at rfl y1_count_at y2_count_at
  have z_t1 := tab_of X (R "is_cover" (by simp)) (PySem.W.mg_of X G a_is_cover) l_is_cover rfl y1_is_cover y2_is_cover
  have e1 : ∀ p ∈ ([(cA_count_at, pA_count_at), (cA_is_cover, pA_is_cover)] : List (Addr × Addr)), h.get? p.2 = some { cls := .none, data := .fields #[] } ∧ K.lookup p.2 = none ∧ PySem.W.CodeHd h p.1 p.2 := fun p hp => by
    simp only [List.mem_cons, List.not_mem_nil, or_false] at hp
    rcases hp with rfl | rfl
    · exact ⟨z_t0.1, y3_count_at, z_t0.2⟩
    · exact ⟨z_t1.1, y3_is_cover, z_t1.2⟩
  refine ⟨PySem.W.fnOf "law" "law" (defArgs s_law) (defBody s_law) (defScope s_law) .none kV_law dc_law pm_law an_law cd_law ct_law, [(cA_count_at, pA_count_at), (cA_is_cover, pA_is_cover)], spLaw T, fun p hp => (e1 p hp).1, fun p hp => (e1 p hp).2.1, fun p hp => (e1 p hp).2.2, fun s v => .of_eq rfl, fun H a ns hl _ hT hS => ?_, fun base _ _ hB => ?_⟩
  · refine ⟨a, ns, rfl, hS, hl, fun P hP => ⟨#[], ?_, True.intro⟩, fun _ => rfl⟩
    have hP : P ∈ [pA_count_at, pA_is_cover] := hP
    simp only [List.mem_cons, List.not_mem_nil, or_false] at hP
    rcases hP with hP | hP
    · rw [hP]
      exact hT (cA_count_at, pA_count_at) (by simp)
    · rw [hP]
      exact hT (cA_is_cover, pA_is_cover) (by simp)
  · exact ok_law T { t_count_at := ⟨(hB (cA_count_at, pA_count_at) (by simp)).code, (hB (cA_count_at, pA_count_at) (by simp)).bm, (hB (cA_count_at, pA_count_at) (by simp)).gP⟩, t_is_cover := ⟨(hB (cA_is_cover, pA_is_cover) (by simp)).code, (hB (cA_is_cover, pA_is_cover) (by simp)).bm, (hB (cA_is_cover, pA_is_cover) (by simp)).gP⟩ } F_law
end Sp
open PySem PySem.W PyProof.Rows
set_option maxHeartbeats 0 in
theorem PySem.Challenge.cw_spanshelf_k12_whole_depths_add_up_holds : PySem.Challenge.rw_spanshelf_k12_whole_depths_add_up.Holds := by
  w_on; o_law; k_head; (case hw => w_witness2)
  k_fill
  refine Sp.walk_tabs (l := PySem.Challenge.rw_spanshelf_k12_whole_depths_add_up) (n := 63) (k := 9) (x := "_law_script") (CX := fun _ => L2.CX0) ["count_at", "is_cover"] rfl (by decide) rfl ⟨rfl, by decide, by decide⟩ (by first | rfl | decide +kernel) (fun w h Y => PySem.W.kIn_of Y) ?F (fun _ _ _ _ _ h => h)
  case F =>
    intro w mg fa h KX G hmg hR
    refine' Sp.all_mk KX G hmg ?a_is_whole ?l_is_whole ?c_is_whole ?k_is_whole ?a_is_place ?l_is_place ?c_is_place ?k_is_place ?a_is_span ?l_is_span ?c_is_span ?k_is_span ?a_check_span ?l_check_span ?c_check_span ?k_check_span ?a_check_spans ?l_check_spans ?c_check_spans ?k_check_spans ?a_check_place ?l_check_place ?c_check_place ?k_check_place ?a_count_at ?l_count_at ?c_count_at ?k_count_at ?y1_count_at ?y2_count_at ?y3_count_at ?a_changes_of ?l_changes_of ?c_changes_of ?k_changes_of ?a_layers_of ?l_layers_of ?c_layers_of ?k_layers_of ?a_deepest_layer ?l_deepest_layer ?c_deepest_layer ?k_deepest_layer ?a_depth_at ?l_depth_at ?c_depth_at ?k_depth_at ?a_profile ?l_profile ?c_profile ?k_profile ?a_deepest ?l_deepest ?c_deepest ?k_deepest ?a_is_cover ?l_is_cover ?c_is_cover ?k_is_cover ?y1_is_cover ?y2_is_cover ?y3_is_cover ?a_check_cover ?l_check_cover ?c_check_cover ?k_check_cover ?a_check_covers ?l_check_covers ?c_check_covers ?k_check_covers ?a_joined ?l_joined ?c_joined ?k_joined ?a_common ?l_common ?c_common ?k_common ?a_cover_of ?l_cover_of ?c_cover_of ?k_cover_of ?a_both ?l_both ?c_both ?k_both ?a_either ?l_either ?c_either ?k_either ?a_l_at ?l_l_at ?c_l_at ?k_l_at ?a_l_mixed ?l_l_mixed ?c_l_mixed ?k_l_mixed ?a_l_purse ?l_l_purse ?c_l_purse ?k_l_purse ?a_l_draw ?l_l_draw ?c_l_draw ?k_l_draw ?a_l_number ?l_l_number ?c_l_number ?k_l_number ?a_l_end ?l_l_end ?c_l_end ?k_l_end ?a_l_span ?l_l_span ?c_l_span ?k_l_span ?a_l_spans ?l_l_spans ?c_l_spans ?k_l_spans ?a_l_deep ?l_l_deep ?c_l_deep ?k_l_deep ?a_l_twice ?l_l_twice ?c_l_twice ?k_l_twice ?a_l_one_right ?l_l_one_right ?c_l_one_right ?k_l_one_right ?a_law ?l_law ?c_law ?k_law ?n_LEAST_PLACE ?n_GREATEST_PLACE ?n_MOST_SPANS ?a_ShelfError ?x_ShelfError ?k_ShelfError ?b_ShelfError ?t_ShelfError ?a_NoSpan ?x_NoSpan ?k_NoSpan ?b_NoSpan ?t_NoSpan ?a_NoPlace ?x_NoPlace ?k_NoPlace ?b_NoPlace ?t_NoPlace ?a_NoCover ?x_NoCover ?k_NoCover ?b_NoCover ?t_NoCover ?z_all ?z_bool ?z_int ?z_isinstance ?z_len ?z_max ?z_min ?z_range ?z_sorted ?z_sum ?z_tuple ?z_zip hR
    (case a_is_whole => first | k_is | rfl)
    (case l_is_whole => first | k_is | rfl)
    (case c_is_whole => first | k_is | rfl)
    (case k_is_whole => first | k_is | rfl)
    (case a_is_place => first | k_is | rfl)
    (case l_is_place => first | k_is | rfl)
    (case c_is_place => first | k_is | rfl)
    (case k_is_place => first | k_is | rfl)
    (case a_is_span => first | k_is | rfl)
    (case l_is_span => first | k_is | rfl)
    (case c_is_span => first | k_is | rfl)
    (case k_is_span => first | k_is | rfl)
    (case a_check_span => first | k_is | rfl)
    (case l_check_span => first | k_is | rfl)
    (case c_check_span => first | k_is | rfl)
    (case k_check_span => first | k_is | rfl)
    (case a_check_spans => first | k_is | rfl)
    (case l_check_spans => first | k_is | rfl)
    (case c_check_spans => first | k_is | rfl)
    (case k_check_spans => first | k_is | rfl)
    (case a_check_place => first | k_is | rfl)
    (case l_check_place => first | k_is | rfl)
    (case c_check_place => first | k_is | rfl)
    (case k_check_place => first | k_is | rfl)
    (case a_count_at => first | k_is | rfl)
    (case l_count_at => first | k_is | rfl)
    (case c_count_at => first | k_is | rfl)
    (case k_count_at => first | k_is | rfl)
    (case y1_count_at => first | k_is | rfl)
    (case y2_count_at => rfl)
    (case y3_count_at => first | k_is | kernel_rfl)
    (case a_changes_of => first | k_is | rfl)
    (case l_changes_of => first | k_is | rfl)
    (case c_changes_of => first | k_is | rfl)
    (case k_changes_of => first | k_is | rfl)
    (case a_layers_of => first | k_is | rfl)
    (case l_layers_of => first | k_is | rfl)
    (case c_layers_of => first | k_is | rfl)
    (case k_layers_of => first | k_is | rfl)
    (case a_deepest_layer => first | k_is | rfl)
    (case l_deepest_layer => first | k_is | rfl)
    (case c_deepest_layer => first | k_is | rfl)
    (case k_deepest_layer => first | k_is | rfl)
    (case a_depth_at => first | k_is | rfl)
    (case l_depth_at => first | k_is | rfl)
    (case c_depth_at => first | k_is | rfl)
    (case k_depth_at => first | k_is | rfl)
    (case a_profile => first | k_is | rfl)
    (case l_profile => first | k_is | rfl)
    (case c_profile => first | k_is | rfl)
    (case k_profile => first | k_is | rfl)
    (case a_deepest => first | k_is | rfl)
    (case l_deepest => first | k_is | rfl)
    (case c_deepest => first | k_is | rfl)
    (case k_deepest => first | k_is | rfl)
    (case a_is_cover => first | k_is | rfl)
    (case l_is_cover => first | k_is | rfl)
    (case c_is_cover => first | k_is | rfl)
    (case k_is_cover => first | k_is | rfl)
    (case y1_is_cover => first | k_is | rfl)
    (case y2_is_cover => rfl)
    (case y3_is_cover => first | k_is | kernel_rfl)
    (case a_check_cover => first | k_is | rfl)
    (case l_check_cover => first | k_is | rfl)
    (case c_check_cover => first | k_is | rfl)
    (case k_check_cover => first | k_is | rfl)
    (case a_check_covers => first | k_is | rfl)
    (case l_check_covers => first | k_is | rfl)
    (case c_check_covers => first | k_is | rfl)
    (case k_check_covers => first | k_is | rfl)
    (case a_joined => first | k_is | rfl)
    (case l_joined => first | k_is | rfl)
    (case c_joined => first | k_is | rfl)
    (case k_joined => first | k_is | rfl)
    (case a_common => first | k_is | rfl)
    (case l_common => first | k_is | rfl)
    (case c_common => first | k_is | rfl)
    (case k_common => first | k_is | rfl)
    (case a_cover_of => first | k_is | rfl)
    (case l_cover_of => first | k_is | rfl)
    (case c_cover_of => first | k_is | rfl)
    (case k_cover_of => first | k_is | rfl)
    (case a_both => first | k_is | rfl)
    (case l_both => first | k_is | rfl)
    (case c_both => first | k_is | rfl)
    (case k_both => first | k_is | rfl)
    (case a_either => first | k_is | rfl)
    (case l_either => first | k_is | rfl)
    (case c_either => first | k_is | rfl)
    (case k_either => first | k_is | rfl)
    (case a_l_at => first | k_is | rfl)
    (case l_l_at => first | k_is | rfl)
    (case c_l_at => first | k_is | rfl)
    (case k_l_at => first | k_is | rfl)
    (case a_l_mixed => first | k_is | rfl)
    (case l_l_mixed => first | k_is | rfl)
    (case c_l_mixed => first | k_is | rfl)
    (case k_l_mixed => first | k_is | rfl)
    (case a_l_purse => first | k_is | rfl)
    (case l_l_purse => first | k_is | rfl)
    (case c_l_purse => first | k_is | rfl)
    (case k_l_purse => first | k_is | rfl)
    (case a_l_draw => first | k_is | rfl)
    (case l_l_draw => first | k_is | rfl)
    (case c_l_draw => first | k_is | rfl)
    (case k_l_draw => first | k_is | rfl)
    (case a_l_number => first | k_is | rfl)
    (case l_l_number => first | k_is | rfl)
    (case c_l_number => first | k_is | rfl)
    (case k_l_number => first | k_is | rfl)
    (case a_l_end => first | k_is | rfl)
    (case l_l_end => first | k_is | rfl)
    (case c_l_end => first | k_is | rfl)
    (case k_l_end => first | k_is | rfl)
    (case a_l_span => first | k_is | rfl)
    (case l_l_span => first | k_is | rfl)
    (case c_l_span => first | k_is | rfl)
    (case k_l_span => first | k_is | rfl)
    (case a_l_spans => first | k_is | rfl)
    (case l_l_spans => first | k_is | rfl)
    (case c_l_spans => first | k_is | rfl)
    (case k_l_spans => first | k_is | rfl)
    (case a_l_deep => first | k_is | rfl)
    (case l_l_deep => first | k_is | rfl)
    (case c_l_deep => first | k_is | rfl)
    (case k_l_deep => first | k_is | rfl)
    (case a_l_twice => first | k_is | rfl)
    (case l_l_twice => first | k_is | rfl)
    (case c_l_twice => first | k_is | rfl)
    (case k_l_twice => first | k_is | rfl)
    (case a_l_one_right => first | k_is | rfl)
    (case l_l_one_right => first | k_is | rfl)
    (case c_l_one_right => first | k_is | rfl)
    (case k_l_one_right => first | k_is | rfl)
    (case a_law => first | k_is | rfl)
    (case l_law => first | k_is | rfl)
    (case c_law => first | k_is | rfl)
    (case k_law => first | k_is | rfl)
    (case n_LEAST_PLACE => first | k_is | rfl)
    (case n_GREATEST_PLACE => first | k_is | rfl)
    (case n_MOST_SPANS => first | k_is | rfl)
    (case a_ShelfError => first | k_is | rfl)
    (case x_ShelfError => k_exc)
    (case k_ShelfError => first | k_is | rfl)
    (case b_ShelfError => first | k_is | rfl)
    (case t_ShelfError => first | k_is | rfl)
    (case a_NoSpan => first | k_is | rfl)
    (case x_NoSpan => k_exc)
    (case k_NoSpan => first | k_is | rfl)
    (case b_NoSpan => first | k_is | rfl)
    (case t_NoSpan => first | k_is | rfl)
    (case a_NoPlace => first | k_is | rfl)
    (case x_NoPlace => k_exc)
    (case k_NoPlace => first | k_is | rfl)
    (case b_NoPlace => first | k_is | rfl)
    (case t_NoPlace => first | k_is | rfl)
    (case a_NoCover => first | k_is | rfl)
    (case x_NoCover => k_exc)
    (case k_NoCover => first | k_is | rfl)
    (case b_NoCover => first | k_is | rfl)
    (case t_NoCover => first | k_is | rfl)
    (case z_all => first | k_is | rfl)
    (case z_bool => first | k_is | rfl)
    (case z_int => first | k_is | rfl)
    (case z_isinstance => first | k_is | rfl)
    (case z_len => first | k_is | rfl)
    (case z_max => first | k_is | rfl)
    (case z_min => first | k_is | rfl)
    (case z_range => first | k_is | rfl)
    (case z_sorted => first | k_is | rfl)
    (case z_sum => first | k_is | rfl)
    (case z_tuple => first | k_is | rfl)
    (case z_zip => first | k_is | rfl)
