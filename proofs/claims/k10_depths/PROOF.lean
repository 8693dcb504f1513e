import PyProof.Rows.All
import Wide.All
import OpenK.AllK
import Wide.FinOn
import PySem.Challenge.RW_spanshelf_k10_depths
import HandS.ForMost
import HandS.ForExc
import HandS.IsInst
import HandS.Wide
import HandS.WideBits
import HandS.Flt
import HandS.ExcIs
import HandS.ExcValue
import HandS.AnyAll
import HandS.EndTab
import HandS.GenList
import HandS.Codes
import HandS.Small
import HandS.More
import HandS.Strs
import HandS.SetFor
import HandS.SortRule
import HandS.Style
import HandS.TupSets
import HandS.TupLe
import HandS.SortInts
import HandS.Conv
set_option Elab.async false
set_option linter.all false
set_option maxRecDepth 100000
set_option maxHeartbeats 4000000
namespace Sp
open PySem PySem.Spec PyProof.Rows L2
/-! ### heaps -/
theorem same_upd {H : Hp} {p : Addr} {o : HO} (h : H p = none) : Same H (upd H p o) := fun b x e => by
  rw [upd_ne (ne_of_none e h)]
  exact e
theorem upd_at {H : Hp} {p : Addr} {o : HO} (h : H p = none) : (upd H p o) p = some o ∧ Same H (upd H p o) := ⟨upd_same, same_upd h⟩
theorem same_more {H H' : Hp} {p : Addr} {o : HO} (h : Same H H') (n : H p = none) : Same H (upd H' p o) := fun b x e => by
  rw [upd_ne (ne_of_none e n)]
  exact h _ _ e
/-- all but what stands at the addresses of L is kept -/
def Chg (L : List Addr) (H H' : Hp) : Prop := ∀ b o, b ∉ L → H b = some o → H' b = some o
theorem Chg.refl (L : List Addr) (H : Hp) : Chg L H H := fun _ _ _ h => h
theorem Chg.trans {L : List Addr} {H H1 H2 : Hp} (a : Chg L H H1) (b : Chg L H1 H2) : Chg L H H2 := fun c o n h => b c o n (a c o n h)
theorem Chg.of_same {L : List Addr} {H H' : Hp} (a : Same H H') : Chg L H H' := fun c o _ h => a c o h
theorem Chg.same {H H' : Hp} (a : Chg [] H H') : Same H H' := fun c o h => a c o List.not_mem_nil h
theorem Chg.mono {L L' : List Addr} {H H' : Hp} (a : Chg L H H') (h : ∀ x ∈ L, x ∈ L') : Chg L' H H' := fun c o n e => a c o (fun q => n (h c q)) e
theorem Chg.upd {L : List Addr} {H : Hp} {p : Addr} {o : HO} (h : p ∈ L) : Chg L H (upd H p o) := fun b x n e => by
  have hne : b ≠ p := fun z => n (by rw [z]; exact h)
  rw [upd_ne hne]
  exact e
theorem Chg.free {L : List Addr} {H H' : Hp} (a : Chg L H H') {l : Addr} (hl : l ∉ L) (h : H' l = none) : H l = none := by
  cases q : H l with
  | none => rfl
  | some o =>
    rw [a l o hl q] at h
    cases h
theorem Chg.seq {K : PySem.W.Frag} {L : List Addr} {H H' : Hp} {a : Addr} {xs : List V} (e : Chg L H H') (n : a ∉ L) (h : SqL K H a xs) : SqL K H' a xs := by
  rcases h with (h | ⟨o, h⟩) | h
  · exact .inl (.inl (e _ _ n h))
  · exact .inl (.inr ⟨o, e _ _ n h⟩)
  · exact .inr h
theorem same_tup {K : PySem.W.Frag} {H H' : Hp} {a : Addr} {xs : List V} (e : Same H H') (h : SqT K H a xs) : SqT K H' a xs := by
  rcases h with (h | ⟨o, h⟩) | h
  · exact .inl (.inl (e _ _ h))
  · exact .inl (.inr ⟨o, e _ _ h⟩)
  · exact .inr h
theorem nmem1 {a b : Addr} (h : a ≠ b) : a ∉ [b] := fun q => h (List.mem_singleton.mp q)
theorem nmem2 {a b c : Addr} (h : a ≠ b) (h2 : a ≠ c) : a ∉ [b, c] := fun q => by
  rcases List.mem_cons.mp q with q | q
  · exact h q
  · exact h2 (List.mem_singleton.mp q)
theorem small_lt {n : Nat} (h : n ≤ 1000000) : n < sizeLine := Nat.lt_of_le_of_lt h (by decide)
theorem small_le {n : Nat} (h : n ≤ 1000000) : n ≤ sizeLine := Nat.le_of_lt (small_lt h)
/-- a list of whole numbers at p that may be changed -/
def Pu (H : Hp) (p : Addr) (n : Nat) : Prop := ∃ a b c : Int, H p = some (.lst [.int a, .int b, .int c]) ∧ 0 ≤ a ∧ 0 ≤ b ∧ b < 2147483647 ∧ 0 ≤ c ∧ c ≤ n
theorem Pu.chg {L : List Addr} {H H' : Hp} {p : Addr} {n : Nat} (h : Pu H p n) (e : Chg L H H') (hp : p ∉ L) : Pu H' p n := by
  obtain ⟨a, b, c, h1, h2⟩ := h
  exact ⟨a, b, c, e _ _ hp h1, h2⟩
theorem Pu.same {H H' : Hp} {p : Addr} {n : Nat} (h : Pu H p n) (e : Same H H') : Pu H' p n := h.chg (L := []) (Chg.of_same e) List.not_mem_nil
theorem Pu.mono {H : Hp} {p : Addr} {n m : Nat} (h : Pu H p n) (e : n ≤ m) : Pu H p m := by
  obtain ⟨a, b, c, h1, h2, h3, h4, h5, h6⟩ := h
  exact ⟨a, b, c, h1, h2, h3, h4, h5, by omega⟩
theorem Pu.ne {H : Hp} {p q : Addr} {n : Nat} (h : Pu H p n) (e : H q = none) : p ≠ q := by
  obtain ⟨a, b, c, h1, _⟩ := h
  exact ne_of_none h1 e
theorem Pu.at {H : Hp} {p : Addr} {n : Nat} (h : Pu H p n) : ∃ o, H p = some o := by
  obtain ⟨a, b, c, h1, _⟩ := h
  exact ⟨_, h1⟩
/-! ### data: whole numbers, spans, lists of them -/
theorem dpAll_ints {K : PySem.W.Frag} {H : Hp} : ∀ ns : List Int, DpAll K H (ns.map V.int) (ns.map PyData.int)
  | [] => .nil
  | n :: r => .cons (.int n) (dpAll_ints r)
theorem lay_ints : ∀ ns : List Int, PyData.canLayAll0 (ns.map PyData.int) = true ∧ PyData.depthAll (ns.map PyData.int) = 0
  | [] => ⟨rfl, rfl⟩
  | n :: r => by
    obtain ⟨h1, h2⟩ := lay_ints r
    refine ⟨?_, ?_⟩
    · show (PyData.canLay0 (.int n) && PyData.canLayAll0 (r.map PyData.int)) = true
      rw [h1]
      rfl
    · show max (PyData.depth (.int n)) (PyData.depthAll (r.map PyData.int)) = 0
      rw [h2]
      rfl
theorem shaped_ints (ns : List Int) : SeqAt.shaped (.list (ns.map PyData.int)) = true := by
  obtain ⟨h1, h2⟩ := lay_ints ns
  show (PyData.canLayAll0 (ns.map PyData.int) && decide (PyData.depthAll (ns.map PyData.int) + 1 ≤ 64)) = true
  rw [h1, h2]
  rfl
theorem shaped_nil : SeqAt.shaped (.list []) = true := rfl
theorem eqv_ints_nil (ns : List Int) : PyData.eqv (.list (ns.map PyData.int)) (.list []) = decide (ns = []) := by
  cases ns with
  | nil => rfl
  | cons n r => simp [PyData.eqv, PyData.eqvAll]
abbrev Span := Int × Int
def spD (s : Span) : PyData := .tuple [.int s.1, .int s.2]
/-- v is the span s -/
def Spn (H : Hp) (v : V) (s : Span) : Prop := ∃ t, v = .ref t ∧ H t = some (.tup [.int s.1, .int s.2])
inductive Sps (H : Hp) : List V → List Span → Prop where
  | nil : Sps H [] []
  | cons {v : V} {s : Span} {vs : List V} {ss : List Span} : Spn H v s → Sps H vs ss → Sps H (v :: vs) (s :: ss)
theorem Spn.same {H H' : Hp} {v : V} {s : Span} (h : Spn H v s) (e : Same H H') : Spn H' v s := by
  obtain ⟨t, rfl, ht⟩ := h
  exact ⟨t, rfl, e _ _ ht⟩
theorem Sps.same {H H' : Hp} (e : Same H H') : ∀ {vs : List V} {ss : List Span}, Sps H vs ss → Sps H' vs ss
  | _, _, .nil => .nil
  | _, _, .cons h t => .cons (h.same e) (Sps.same e t)
/-- only lists are changed: spans stay -/
def Lsts (L : List Addr) (H : Hp) : Prop := ∀ p ∈ L, ∀ xs, H p ≠ some (.tup xs)
theorem Pu.lsts {H : Hp} {p : Addr} {n : Nat} (h : Pu H p n) : Lsts [p] H := fun b hb xs => by
  obtain ⟨_, _, _, h1, _⟩ := h
  rw [List.mem_singleton.mp hb, h1]
  exact fun z => by cases z
theorem Lsts.of1 {H : Hp} {l : Addr} {ys : List V} (h : H l = some (.lst ys)) : Lsts [l] H := fun b hb xs => by
  rw [List.mem_singleton.mp hb, h]
  exact fun z => by cases z
theorem Lsts.two {H : Hp} {p q : Addr} (h : Lsts [p] H) (h2 : Lsts [q] H) : Lsts [p, q] H := fun b hb xs => by
  rcases List.mem_cons.mp hb with e | e
  · rw [e]
    exact h p List.mem_cons_self xs
  · exact h2 b e xs
theorem Spn.chg {L : List Addr} {H H' : Hp} {v : V} {s : Span} (h : Spn H v s) (e : Chg L H H') (l : Lsts L H) : Spn H' v s := by
  obtain ⟨t, rfl, ht⟩ := h
  exact ⟨t, rfl, e _ _ (fun q => l t q _ ht) ht⟩
theorem Sps.chg {L : List Addr} {H H' : Hp} (e : Chg L H H') (l : Lsts L H) : ∀ {vs : List V} {ss : List Span}, Sps H vs ss → Sps H' vs ss
  | _, _, .nil => .nil
  | _, _, .cons h t => .cons (h.chg e l) (Sps.chg e l t)
theorem Sps.len {H : Hp} : ∀ {vs : List V} {ss : List Span}, Sps H vs ss → vs.length = ss.length
  | _, _, .nil => rfl
  | _, _, .cons _ t => congrArg (· + 1) t.len
theorem Sps.app {H : Hp} : ∀ {vs ws : List V} {ss ts : List Span}, Sps H vs ss → Sps H ws ts → Sps H (vs ++ ws) (ss ++ ts)
  | _, _, _, _, .nil, h => h
  | _, _, _, _, .cons a t, h => .cons a (Sps.app t h)
theorem Sps.one {H : Hp} {v : V} {s : Span} (h : Spn H v s) : Sps H [v] [s] := .cons h .nil
theorem Sps.get {H : Hp} : ∀ {vs : List V} {ss : List Span} {i : Nat} {v : V}, Sps H vs ss → vs[i]? = some v → ∃ s, ss[i]? = some s ∧ Spn H v s
  | _, _, _, _, .nil, e => by simp at e
  | _, _, 0, v, .cons (s := s) h t, e => ⟨s, rfl, by
      have q := Option.some.inj (show some _ = some v from e)
      rw [← q]
      exact h⟩
  | _, _, i + 1, v, .cons h t, e => Sps.get (i := i) t e
theorem Sps.get' {H : Hp} : ∀ {vs : List V} {ss : List Span} {i : Nat} {s : Span}, Sps H vs ss → ss[i]? = some s → ∃ v, vs[i]? = some v ∧ Spn H v s
  | _, _, _, _, .nil, e => by simp at e
  | _, _, 0, s, .cons (v := v) h t, e => ⟨v, rfl, by
      have q := Option.some.inj (show some _ = some s from e)
      rw [← q]
      exact h⟩
  | _, _, i + 1, v, .cons h t, e => Sps.get' (i := i) t e
theorem Spn.dp {K : PySem.W.Frag} {H : Hp} {v : V} {s : Span} (h : Spn H v s) : Dp K H v (spD s) := by
  obtain ⟨t, rfl, ht⟩ := h
  exact .tup (SqT.of ht) (.cons (.int _) (.cons (.int _) .nil))
theorem Sps.dpAll {K : PySem.W.Frag} {H : Hp} : ∀ {vs : List V} {ss : List Span}, Sps H vs ss → DpAll K H vs (ss.map spD)
  | _, _, .nil => .nil
  | _, _, .cons h t => .cons h.dp t.dpAll
theorem Sps.dp {K : PySem.W.Frag} {H : Hp} {a : Addr} {vs : List V} {ss : List Span} (h : Sps H vs ss) (q : SqL K H a vs) : Dp K H (.ref a) (.list (ss.map spD)) := .lst q h.dpAll
theorem lay_spans : ∀ ss : List Span, PyData.canLayAll0 (ss.map spD) = true ∧ PyData.depthAll (ss.map spD) ≤ 1
  | [] => ⟨rfl, by decide⟩
  | s :: r => by
    obtain ⟨h1, h2⟩ := lay_spans r
    refine ⟨?_, ?_⟩
    · show (PyData.canLay0 (spD s) && PyData.canLayAll0 (r.map spD)) = true
      rw [h1]
      rfl
    · show max (PyData.depth (spD s)) (PyData.depthAll (r.map spD)) ≤ 1
      have e : PyData.depth (spD s) = 1 := rfl
      rw [e]
      omega
theorem shaped_spans (ss : List Span) : SeqAt.shaped (.list (ss.map spD)) = true := by
  obtain ⟨h1, h2⟩ := lay_spans ss
  show (PyData.canLayAll0 (ss.map spD) && decide (PyData.depthAll (ss.map spD) + 1 ≤ 64)) = true
  rw [h1, decide_eq_true (by omega)]
  rfl
theorem eqv_span (s t : Span) : PyData.eqv (spD s) (spD t) = decide (s = t) := by
  obtain ⟨a, b⟩ := s
  obtain ⟨c, d⟩ := t
  simp [PyData.eqv, PyData.eqvAll, spD, Bool.beq_eq_decide_eq]
theorem eqvAll_spans : ∀ ss ts : List Span, PyData.eqvAll (ss.map spD) (ts.map spD) = decide (ss = ts)
  | [], [] => rfl
  | [], _ :: _ => rfl
  | _ :: _, [] => rfl
  | s :: ss, t :: ts => by
    show (PyData.eqv (spD s) (spD t) && PyData.eqvAll (ss.map spD) (ts.map spD)) = _
    rw [eqv_span, eqvAll_spans ss ts]
    by_cases h : s = t <;> by_cases h2 : ss = ts <;> simp [h, h2]
theorem eqv_spans (ss ts : List Span) : PyData.eqv (.list (ss.map spD)) (.list (ts.map spD)) = decide (ss = ts) := eqvAll_spans ss ts
theorem eqv_spans_nil (ss : List Span) : PyData.eqv (.list (ss.map spD)) (.list []) = decide (ss = []) := eqvAll_spans ss []
/-! ### generator expressions: elements judged in the generator's own frame -/
section
open GenW
/-- the generator's frame, woken below two calls of built-ins -/
abbrev gcx (X : Cx) (s : Shared) (H : Hp) (cenv : Env) (fp : List Addr) : Cx := { X with A := X.A.in1.in1.deeper cenv, s_0 := s, H_0 := H, env := cenv, outer := X.stack, stack := cenv :: X.stack, ex := fp, fn := fun _ => false, pn := [], xe := fun _ _ => False }
/-- the names of a generator expression: its own (with their places in N), or captured ones -/
structure GBlk (N : List Str) (sc scope : Scope) (own : List (Str × Nat)) : Prop where
  kind : scope.kind = .function
  co : scope.isCoroutine = false
  nocell : ∀ y ∈ scope.names, y.2 ≠ .cell
  dot : scope.names.lookup (".0" : Str) = some NameKind.local
  uniq : ∀ y ∈ scope.names, scope.names.lookup y.1 = some y.2
  ix : ∀ p ∈ own, N[p.2]? = some p.1
  free : ∀ y ∈ scope.names, y.2 = .free → sc.names.lookup y.1 = some .cell ∨ sc.names.lookup y.1 = some .free
  own : ∀ y ∈ scope.names, y.2 = .local → y.1 ∈ own.map (·.1) ∨ y.1 ∉ N
def gblkC (N : List Str) (sc scope : Scope) (own : List (Str × Nat)) : Bool :=
  decide (scope.kind = .function) && !scope.isCoroutine && scope.names.all (fun y => decide (y.2 ≠ .cell)) && decide (scope.names.lookup (".0" : Str) = some NameKind.local) && scope.names.all (fun y => decide (scope.names.lookup y.1 = some y.2)) &&
    own.all (fun p => decide (N[p.2]? = some p.1)) && scope.names.all (fun y => decide (y.2 ≠ .free) || decide (sc.names.lookup y.1 = some .cell) || decide (sc.names.lookup y.1 = some .free)) && scope.names.all (fun y => decide (y.2 ≠ .local) || decide (y.1 ∈ own.map (·.1)) || decide (y.1 ∉ N))
theorem gblk_by {N : List Str} {sc scope : Scope} {own : List (Str × Nat)} (h : gblkC N sc scope own = true) : GBlk N sc scope own := by
  unfold gblkC at h
  simp only [Bool.and_eq_true, Bool.or_eq_true, decide_eq_true_eq, List.all_eq_true, Bool.not_eq_true'] at h
  obtain ⟨⟨⟨⟨⟨⟨⟨h1, h2⟩, h3⟩, h4⟩, h5⟩, h6⟩, h7⟩, h8⟩ := h
  refine ⟨h1, h2, h3, h4, h5, h6, fun y hy e => ?_, fun y hy e => ?_⟩
  · rcases h7 y hy with (z | z) | z
    · exact absurd e z
    · exact .inl z
    · exact .inr z
  · rcases h8 y hy with (z | z) | z
    · exact absurd e z
    · exact .inl z
    · exact .inr z
variable {X : Cx} {pins : List (Addr × Obj)} {σ : L2.St} {H : Hp} {s : Shared}
theorem inv_regen {X : Cx} {pins : List (Addr × Obj)} {σ : L2.St} {H : Hp} {s s' : Shared} (I : Inv X pins σ H s) (ho : s'.os = s.os) (hh : s'.heap = s.heap) (hb : AllBare s'.gens) : Inv X pins σ H s' := by
  obtain ⟨h', g', d', t', o'⟩ := s'
  cases ho
  cases hh
  exact ⟨I.ok, I.os, hb, I.base, I.loc, I.cell, I.free, I.freeC, I.pin, I.hok, I.len⟩
/-- the frame stands -/
theorem gblk_start {scope : Scope} {own : List (Str × Nat)} {fp : List Addr} {h' : Heap} {g' : Array GenState} {tk : Nat} {itv code : Value} (I : Inv X pins σ H s) (ok : GBlk X.N X.env.scope scope own) (hN : X.N.Nodup) (hfp : ∀ b ∈ fp, FpOk X pins H b ∧ b < s.heap.objs.size)
    (hn : h'.Ns s.heap.objs.size (fun y => if y = ".0" then some itv else none)) (kp : ∀ b o, s.heap.get? b = some o → h'.get? b = some o) (hb : AllBare g') :
    Inv (gcx X s H (genEnv scope (cloFrom X.env.cells scope.names []) s.heap.objs.size code builtinsNs X.env) fp) [] (wipe σ (own.map (·.2))) H { s with heap := h', gens := g', toks := tk } := by
  have hfree : ∀ y ∈ scope.names, y.2 = .free → ∃ c, X.env.cells.lookup y.1 = some c := fun y hy e =>
    (ok.free y hy e).elim (fun k => I.ok.has _ (.inl k)) fun k => I.ok.has _ (.inr k)
  generalize hce : genEnv scope (cloFrom X.env.cells scope.names []) s.heap.objs.size code builtinsNs X.env = ce
  have hL : ce.locals = s.heap.objs.size := by subst hce; rfl
  have hcl : ce.cells = cloFrom X.env.cells scope.names [] := by subst hce; rfl
  have hsc : ce.scope = scope := by subst hce; rfl
  have cm : ∀ {y c}, ce.cells.lookup y = some c → X.env.cells.lookup y = some c ∧ c < s.heap.objs.size := fun {y c} e => by
    rw [hcl] at e
    rcases cloFrom_mem (PySem.mem_of_lookup e) with hm | ⟨h1, rfl⟩
    · cases hm
    · obtain ⟨c, hc⟩ := hfree _ h1 rfl
      rw [hc]
      obtain ⟨w, z⟩ := I.cell _ _ hc
      exact ⟨rfl, z.lt⟩
  have look : ∀ {y}, scope.names.lookup y = some .free → ∃ c, ce.cells.lookup y = some c ∧ X.env.cells.lookup y = some c := fun {y} hl => by
    have hy : (y, NameKind.free) ∈ scope.names := PySem.mem_of_lookup hl
    obtain ⟨c', e'⟩ := mem_lookup (cloFrom_has (cells := X.env.cells) (acc := []) hy)
    rw [← hcl] at e'
    exact ⟨c', e', (cm e').1⟩
  have nocell : ∀ {y}, ce.kindOf y ≠ some .cell := fun {y} e => by
    have e : ce.scope.names.lookup y = some .cell := e
    rw [hsc] at e
    exact ok.nocell _ (PySem.mem_of_lookup e) rfl
  have okB : (gcx X s H ce fp).Ok := by
    refine ⟨I.ok.mod, by show ce.scope.kind = _; rw [hsc]; exact ok.kind, by show ce.globals = _; rw [← hce]; exact I.ok.glob, by show ce.builtins = _; rw [← hce]; rfl, by show s.heap.objs.size ≤ ce.locals; rw [hL]; exact Nat.le_refl _,
      fun y z c e1 e2 => ?_, fun y hy => ?_, fun y c z e => ?_, I.ok.hd, ?_, .inr ⟨rfl, ?_⟩, fun b hb => ⟨?_, fun y c e z => ?_⟩, I.bs, Nat.le_trans I.ok.bsz I.sz, fun b o e hb => ?_, fun b hb z => ?_, I.stack, I.stkFree⟩
    · exact I.ok.inj y z c (cm e1).1 (cm e2).1
    · rcases hy with hy | hy
      · exact absurd hy nocell
      · have hy : ce.scope.names.lookup y = some .free := hy
        rw [hsc] at hy
        obtain ⟨c, h1, _⟩ := look hy
        exact ⟨c, h1⟩
    · cases z
    · exact Around.frames_deeper (show X.A.in1.in1.frames = some X.stack from I.ok.frames)
    · show ce.frame = some ce.locals
      rw [← hce]
      rfl
    · show b ≠ ce.locals
      rw [hL]
      exact Nat.ne_of_lt (hfp b hb).2
    · exact (hfp b hb).1.2.2.2.2.1 y c (cm e).1 z
    · rcases (hfp b hb).1.2.2.2.1 with z | z
      · exact I.ok.noex b o e z
      · exact absurd (Nat.lt_of_lt_of_le (Heap.lt_size e) (Nat.le_trans I.ok.bsz z)) (Nat.lt_irrefl _)
    · rcases List.mem_cons.mp (I.stkSub b z) with z | z
      · exact (hfp b hb).1.2.1 z
      · exact (hfp b hb).1.2.2.1 z
  refine ⟨okB, rfl, hb, Un.kept kp, ⟨fun y => if y = ".0" then some itv else none, ?_, fun i y av e1 e2 e3 => ?_⟩, fun y c e => ?_, ?_, fun y c e => I.freeC y c (cm e).1, fun p hp => ?_, I.hok.kept kp, by rw [wipe_length]; exact I.len⟩
  · show Heap.Ns _ ce.locals _
    rw [hL]
    exact hn
  · obtain ⟨e2, hne⟩ := wipe_some e2
    have hfr : scope.names.lookup y = some .free := by
      have e3 : Vis ce.scope y := e3
      rw [hsc] at e3
      rcases e3 with e3 | e3 | e3
      · rcases ok.own _ (PySem.mem_of_lookup e3) rfl with e' | e'
        · obtain ⟨p, hp, hpy⟩ := List.mem_map.mp e'
          have e4 := ok.ix p hp
          have hpy : p.1 = y := hpy
          rw [hpy] at e4
          exact absurd (List.mem_map.mpr ⟨p, hp, nodup_ix hN e4 e1⟩) hne
        · exact absurd (List.mem_of_getElem? e1) e'
      · exact absurd rfl (ok.nocell _ (PySem.mem_of_lookup e3))
      · exact e3
    obtain ⟨m, hn', hl⟩ := I.loc
    have vis : Vis X.env.scope y := (ok.free _ (PySem.mem_of_lookup hfr) rfl).elim (fun k => .inr (.inl k)) (fun k => .inr (.inr k))
    obtain ⟨w, r, q⟩ := hl i y av e1 e2 vis
    obtain ⟨c, h1, h2⟩ := look hfr
    refine ⟨w, r, .inr ⟨.inr (by show ce.scope.names.lookup y = _; rw [hsc]; exact hfr), c, h1, ?_⟩⟩
    rcases q with ⟨k, _⟩ | ⟨_, c', e', z⟩
    · have k : X.env.scope.names.lookup y = some .local := k
      rcases ok.free _ (PySem.mem_of_lookup hfr) rfl with k' | k' <;> rw [show X.env.scope.names.lookup y = _ from k'] at k <;> cases k
    · rw [h2] at e'
      cases e'
      exact z.keeps kp
  · obtain ⟨w, z⟩ := I.cell y c (cm e).1
    exact ⟨w, z.keeps kp⟩
  · show H ce.locals = none
    rw [hL]
    exact I.hok.fresh (Nat.le_refl _)
  · exact absurd (show p ∈ ([] : List (Addr × Obj)) ++ [] from hp) (by simp)
/-! the consumer: a: what it has gathered, told by the state; os: its own objects -/
structure Cons (α : Type) where
  step : α → V → (α → Prop) → (V → Prop) → Prop
  fin : α → (V → Prop) → Prop
/-- while the generator sleeps, all but the consumer's own is kept -/
structure Slp (ol : List Addr) (s s' : Shared) : Prop where
  same : s'.os = s.os
  bare : AllBare s'.gens
  keep : ∀ b o, b ∉ ol → s.heap.get? b = some o → s'.heap.get? b = some o
  own : ∀ b ∈ ol, ∃ o, s'.heap.get? b = some o ∧ ∀ v, o.data ≠ .cell v
def OsOk (X : Cx) (os : List Addr) : Prop := ∀ b ∈ os, X.s_0.heap.objs.size ≤ b ∧ b ≠ X.env.locals ∧ (∀ x c, X.env.cells.lookup x = some c → c ≠ b) ∧ b ∉ X.ex
theorem inv_woken {os : List Addr} {ip : List (Addr × Obj)} {s s' s₀ : Shared} (I : Inv X (pinsAt os s₀.heap ++ ip) σ H s) (hpn : X.pn = []) (h₀ : ∀ b ∈ os, ∃ o, s₀.heap.get? b = some o) (hO : OsOk X os) (z : Slp os s s') : Inv X (pinsAt os s'.heap) σ H s' ∧ ∀ b ∈ os, H b = none ∧ b ∉ X.fs := by
  have hb0 : ∀ b ∈ os, H b = none ∧ b ∉ X.fs := fun b hb => by
    obtain ⟨o, e⟩ := h₀ b hb
    obtain ⟨_, h2, _, h4, _⟩ := I.pin (b, o) (List.mem_append_right _ (List.mem_append_left _ (mem_pinsAt hb e)))
    exact ⟨h2, h4⟩
  have I0 : Inv X [] σ H s := I.pins_of fun p hp => absurd hp (by simp)
  have I1 : Inv X [] σ H { s with heap := s'.heap, toks := s.toks } := I0.turnedL (ch := os) (fun b o hb e => z.keep b o hb e) fun b hb =>
    ⟨(hb0 b hb).1, (hO b hb).2.1, (hb0 b hb).2, .inr (hO b hb).1, (hO b hb).2.2.1, fun p hp => absurd (show p ∈ ([] : List (Addr × Obj)) from by rw [hpn] at hp; exact hp) (by simp)⟩
  have I2 : Inv X [] σ H s' := inv_regen I1 z.same rfl z.bare
  refine ⟨I2.pins_of fun p hp => ?_, hb0⟩
  obtain ⟨hb, e⟩ := of_pinsAt hp
  obtain ⟨o, e', hc⟩ := z.own p.1 hb
  rw [e] at e'
  cases e'
  exact ⟨e, (hb0 p.1 hb).1, (hO p.1 hb).2.1, (hb0 p.1 hb).2, hc⟩
section
variable {α : Type}
def GYx (Z : Cx) (os : List Addr) (c : Cons α) (Rel : α → Shared → Prop) (Q : VK) : Protocol := fun n s₀ v s kap =>
  ∃ (a : α) (y : V) (H : Hp) (ip : List (Addr × Obj)) (τ : L2.St) (Nx : α → Prop), Rel a s₀ ∧ RelV y v ∧ Inv Z (pinsAt os s₀.heap ++ ip) τ H s ∧ c.step a y Nx (fun u => Q u H) ∧ ∀ s' a', Nx a' → Rel a' s' → Slp os s s' → kap (.send .none) s'
def GEx (Z : Cx) (os : List Addr) (c : Cons α) (Rel : α → Shared → Prop) (Q : VK) : GenEnd := fun n s₀ r s =>
  ((r = .ok (.ret .none) ∨ r = .ok .next) ∧ ∃ (a : α) (H : Hp) (τ : L2.St), Rel a s₀ ∧ Inv Z (pinsAt os s₀.heap) τ H s ∧ c.fin a (fun u => Q u H)) ∨ ∃ e, r = .error e ∧ False
/-- the loop: what is asked -/
def Runs1 (J : It) (g : TG) (tt : TT) (te : TE) (vs : List Nat) (σ : L2.St) (c : Cons α) (Q : VK) (W : Nat → Nat → α → Hp → Prop) : Prop :=
  ∀ i m a H, W i m a H → (J.stop i H ∧ c.fin a (fun u => Q u H)) ∨ (J.go i H ∧ ∃ Nx : α → Hp → Prop, (∀ a' H', Nx a' H' → ∃ m', m' < m ∧ W (i + 1) m' a' H') ∧ ∀ x H', J.yld i H x H' → g x (wipe σ vs) H' fun σ2 H2 => wipe σ2 vs = wipe σ vs ∧ tt σ2 H2 fun b H3 =>
    if b = true then te σ2 H3 fun y H4 => c.step a y (fun a' => Nx a' H4) (fun u => Q u H4) else Nx a H3)
theorem gx_over {A : Around} {elt tg iter : Expr} {ifs : List Expr} {scope : Scope} {pos : Pos} {it acc : Value} {ce : Env} : A.over (.compLoop (.GeneratorExp elt [⟨tg, iter, ifs, 0⟩] scope pos) 0 it acc ce) [] = A.deeper ce := by
  first
    | rfl
    | (obtain ⟨hd, d, fr, gs, u⟩ := A; simp [Around.over, Around.deeper, marksOver, frameCount, unitsOf, envsOf, guardsOf, pushEnvs, pushGuards, Code.envs, Code.env?, Code.isFrame, Code.guards, Code.isGuard, Code.weight, Code.frames, Code.isCreation, Code.isCaller, Code.cUnits])
theorem gx_over0 {A : Around} {elt tg iter : Expr} {ifs : List Expr} {scope : Scope} {pos : Pos} {it acc : Value} {ce : Env} : A.over (.compStart (.GeneratorExp elt [⟨tg, iter, ifs, 0⟩] scope pos) 0 it acc ce) [] = A.deeper ce := by
  first
    | rfl
    | (obtain ⟨hd, d, fr, gs, u⟩ := A; simp [Around.over, Around.deeper, marksOver, frameCount, unitsOf, envsOf, guardsOf, pushEnvs, pushGuards, Code.envs, Code.env?, Code.isFrame, Code.guards, Code.isGuard, Code.weight, Code.frames, Code.isCreation, Code.isCaller, Code.cUnits])
/-- what stands at a turn -/
structure At (Z : Cx) (os fp : List Addr) (tn : Nat → Heap → Prop) (σ : L2.St) (vs : List Nat) (i : Nat) (H : Hp) (s₀ s : Shared) : Prop where
  inv : Inv Z (pinsAt os s₀.heap) (wipe σ vs) H s
  tn : tn i s.heap
  fpn : ∀ b ∈ fp, H b = none
  ex : ∀ b ∈ os, ∃ o, s₀.heap.get? b = some o
theorem gx_loop {Z : Cx} {os fp : List Addr} {c : Cons α} {Rel : α → Shared → Prop} {Q : VK} {elt tg iter : Expr} {ifs : List Expr} {scope : Scope} {pos : Pos} {it : Addr} {tn : Nat → Heap → Prop} {J : It} {g : TG} {tt : TT} {te : TE} {vs : List Nat} {W : Nat → Nat → α → Hp → Prop} {A : Around}
    (hA : A.deeper Z.env = Z.A) (hpn : Z.pn = []) (hex : Z.ex = fp) (hc : Z.calm = true) (hxe : Z.xe = fun _ _ => False) (hco : Z.env.scope.isCoroutine = false) (hO : OsOk Z os) (T : Turn Z.prog Z.w Z.K tg J fp it tn) (pg : PG Z tg g) (pt : PTs Z ifs tt) (pe : PE Z elt te) (run : Runs1 J g tt te vs σ c Q W) :
    ∀ (m n i : Nat) (a : α) (H : Hp) (s₀ s : Shared), m < n → W i m a H → Rel a s₀ → At Z os fp tn σ vs i H s₀ s →
      Seg (model Z.prog Z.w) A (GEx Z os c Rel Q) (GYx Z os c Rel Q) n s₀ (.compLoop (.GeneratorExp elt [⟨tg, iter, ifs, 0⟩] scope pos) 0 (.ref it) .none Z.env) ((model Z.prog Z.w).den (.compLoop (.GeneratorExp elt [⟨tg, iter, ifs, 0⟩] scope pos) 0 (.ref it) .none Z.env)) [] s := by
  intro m
  induction m using Nat.strongRecOn with
  | ind m ih =>
    intro n i a H s₀ s hmn w hrel at_
    obtain ⟨I, st, nfp, h0⟩ := at_
    have stat : ∀ {pins : List (Addr × Obj)} {σ' : L2.St} {H' : Hp} {s' : Shared}, Inv Z pins σ' H' s' → (∀ p ∈ pins, p.1 ∈ os) → (∀ b ∈ fp, H' b = none) → ∀ b ∈ fp, FpOk Z pins H' b := fun {pins σ' H' s'} I' hp hn b hb => by
      have hb' : b ∈ Z.ex := by rw [hex]; exact hb
      refine ⟨hn b hb, (I'.ok.exf b hb').1, I'.ok.exfs b hb', .inl hb', fun x c e => (I'.ok.exf b hb').2 x c e, fun p hq => ?_⟩
      rw [hpn] at hq
      have := hO p.1 (hp p hq)
      intro z
      rw [z] at this
      exact this.2.2.2 hb'
    have pos_ : ∀ p ∈ pinsAt os s₀.heap, p.1 ∈ os := fun p hp => (of_pinsAt hp).1
    have noE : ∀ {β : Type} {t : Sem β} {Qx : β → Shared → Prop} {E' : Value → Shared → Prop} {s : Shared}, wpAny (model Z.prog Z.w) Z.A t Qx Z.xe s → wpAny (model Z.prog Z.w) Z.A t Qx E' s := fun h => wpAny_mono h (fun _ _ z => z) fun _ _ z => by rw [hxe] at z; exact z.elim
    show Seg _ A _ _ _ s₀ _ ((compTurn (.GeneratorExp elt [⟨tg, iter, ifs, 0⟩] scope pos) 0 (.ref it) .none Z.env).onRaise (leaving Z.env)) [] s
    rw [compTurn_gen, Sem.onRaise_eq_wrap]
    refine seg_bind_wrap ?_
    rw [gx_over, hA]
    refine wpAny_standAt (seg_bind_wrap ?_)
    rw [gx_over, hA]
    rcases run i m a H w with ⟨stop, qq⟩ | ⟨go, Nx, hNx, step⟩
    · refine wpAny_mono (T.done Z rfl rfl rfl hc i _ s _ H (fun _ _ => False) I (stat I pos_ nfp) st stop) (fun r s1 ⟨hr, I1⟩ => ?_) fun _ _ z => z.elim
      subst hr
      exact seg_end (.ok .next) (.inl ⟨.inr rfl, a, H, _, hrel, I1, qq⟩)
    · refine wpAny_mono (T.item Z rfl rfl rfl hc i _ s _ H (fun _ _ => False) I (stat I pos_ nfp) st go) (fun r s1 ⟨u, hr, h1⟩ => ?_) fun _ _ z => z.elim
      subst hr
      refine seg_bind_wrap ?_
      rw [gx_over, hA]
      refine wpAny_mono h1 (fun _ s7 ⟨x, H7, I7, r7, y7, st7, n7⟩ => ?_) fun _ _ z => z.elim
      have I7' := I7.pinned (stat I7 pos_ n7) (T.obj _ _ st7)
      refine seg_bind_wrap ?_
      rw [gx_over, hA]
      refine noE (wpAny_mono (pg.run _ s7 _ H7 x u _ I7' r7 (step x H7 y7)) (fun _ s8 ⟨σ8, H8, I8, hw8, q8⟩ => ?_) fun _ _ z => z)
      refine seg_bind_wrap ?_
      rw [gx_over, hA]
      refine noE (wpAny_mono (pt.run _ s8 σ8 H8 _ I8 q8) (fun b s9 ⟨H9, I9, q9⟩ => ?_) fun _ _ z => z)
      have hl : (wipe σ vs).length = σ8.length := by rw [← hw8, wipe_length]
      have wk : ∀ (j : Nat) v, (wipe σ vs)[j]? = some (some v) → σ8[j]? = some (some v) := fun j v e => by
        rw [← hw8] at e
        exact (wipe_some e).1
      have pin' : ∀ {s' : Shared} {H' : Hp}, Inv Z (pinsAt os s₀.heap ++ pinsAt fp s7.heap) σ8 H' s' → ∀ b ∈ fp, ∀ o, s7.heap.get? b = some o → s'.heap.get? b = some o ∧ H' b = none := fun {s' H'} I' b hb o e =>
        let z := I'.pin (b, o) (List.mem_append_right _ (List.mem_append_right _ (mem_pinsAt hb e)))
        ⟨z.1, z.2.1⟩
      have fpn : ∀ {s' : Shared} {H' : Hp}, Inv Z (pinsAt os s₀.heap ++ pinsAt fp s7.heap) σ8 H' s' → ∀ b ∈ fp, H' b = none := fun {s' H'} I' b hb => by
        obtain ⟨o, e, _⟩ := T.obj _ _ st7 b hb
        exact (pin' I' b hb o e).2
      cases b with
      | false =>
        simp only [Bool.false_eq_true, if_false] at q9 ⊢
        obtain ⟨m', hm, w'⟩ := hNx a H9 q9
        exact seg_again rfl (ih m' hm n (i + 1) a H9 s₀ s9 (by omega) w' hrel ⟨I9.unpinned.weak hl wk, T.keep _ _ _ st7 fun b hb o e => (pin' I9 b hb o e).1, fpn I9, h0⟩)
      | true =>
        simp only [if_true] at q9 ⊢
        have hy : ∀ v, yieldOut Z.env v = yieldValue v := fun v => by simp only [yieldOut, hco, Bool.false_eq_true, if_false]
        simp only [hy]
        rw [Sem.bind_eq_wrap', Sem.bind_eq_wrap', Sem.wrap_wrap, Sem.wrap_wrap]
        refine seg_wrap ?_
        rw [gx_over, hA]
        refine noE (wpAny_mono (pe.run _ s9 σ8 H9 _ I9 q9) (fun z s10 ⟨yv, H10, I10, r10, stp⟩ => ?_) fun _ _ z => z)
        cases n with
        | zero =>
          exact absurd hmn (Nat.not_lt_zero _)
        | succ n =>
          refine seg_at (seg_yield rfl rfl rfl ⟨a, yv, H10, pinsAt fp s7.heap, σ8, fun a' => Nx a' H10, hrel, r10, I10, stp, fun s' a' nx rel' slp => ?_⟩)
          obtain ⟨m', hm, w'⟩ := hNx a' H10 nx
          obtain ⟨I11, _⟩ := inv_woken I10 hpn h0 hO slp
          refine seg_again rfl (ih m' hm n (i + 1) a' H10 s' s' (by omega) w' rel' ⟨I11.weak hl wk, T.keep _ _ _ st7 fun b hb o e => slp.keep b o (fun hbo => ?_) (pin' I10 b hb o e).1, fpn I10, fun b hb => ?_⟩)
          · exact (hO b hbo).2.2.2 (by rw [hex]; exact hb)
          · obtain ⟨o, e, _⟩ := slp.own b hb
            exact ⟨o, e⟩
end
end
section
open GenW
variable {X : Cx} {pins : List (Addr × Obj)} {σ : L2.St} {H : Hp} {s : Shared} {α : Type}
theorem gx_start {Z : Cx} {os fp : List Addr} {c : Cons α} {Rel : α → Shared → Prop} {Q : VK} {elt tg iter : Expr} {ifs : List Expr} {scope : Scope} {pos : Pos} {it : Addr} {tn : Nat → Heap → Prop} {J : It} {g : TG} {tt : TT} {te : TE} {vs : List Nat} {W : Nat → Nat → α → Hp → Prop} {A : Around}
    (hA : A.deeper Z.env = Z.A) (hpn : Z.pn = []) (hex : Z.ex = fp) (hc : Z.calm = true) (hxe : Z.xe = fun _ _ => False) (hco : Z.env.scope.isCoroutine = false) (hO : OsOk Z os) (T : Turn Z.prog Z.w Z.K tg J fp it tn) (pg : PG Z tg g) (pt : PTs Z ifs tt) (pe : PE Z elt te) (run : Runs1 J g tt te vs σ c Q W)
    {m n : Nat} {a : α} {H : Hp} {s₀ s : Shared} (hmn : m < n) (w : W 0 m a H) (hrel : Rel a s₀) (at_ : At Z os fp tn σ vs 0 H s₀ s) :
      Seg (model Z.prog Z.w) A (GEx Z os c Rel Q) (GYx Z os c Rel Q) n s₀ (.compStart (.GeneratorExp elt [⟨tg, iter, ifs, 0⟩] scope pos) 0 (.ref it) .none Z.env) ((model Z.prog Z.w).den (.compStart (.GeneratorExp elt [⟨tg, iter, ifs, 0⟩] scope pos) 0 (.ref it) .none Z.env)) [] s := by
  have loop := gx_loop (iter := iter) (scope := scope) (pos := pos) hA hpn hex hc hxe hco hO T pg pt pe run m n 0 a H s₀ s hmn w hrel at_
  show Seg _ A _ _ _ s₀ _ ((compStart (.GeneratorExp elt [⟨tg, iter, ifs, 0⟩] scope pos) 0 (.ref it) .none Z.env).onRaise (leaving Z.env)) [] s
  unfold compStart
  rw [Sem.onRaise_eq_wrap]
  show Seg _ A _ _ _ s₀ _ ((ask >>= _).wrap _ _ _ _) [] s
  refine seg_bind_wrap (wpAny_askSetting ?_)
  split
  · exact seg_again rfl loop
  · refine seg_bind_wrap (wpAny_rule ?_)
    show Seg _ A _ _ _ s₀ _ ((standAt iter.pos >>= _).wrap _ _ _ _) [] s
    exact seg_bind_wrap (wpAny_standAt (seg_bind_wrap (T.self _ 0 s _ _ at_.tn (seg_again rfl loop))))
/-! the consumers -/
def cAll : Cons Unit := ⟨fun _ y k f => ∃ b, y = .bl b ∧ (if b = true then k () else f (.bl false)), fun _ f => f (.bl true)⟩
def cAny : Cons Unit := ⟨fun _ y k f => ∃ b, y = .bl b ∧ (if b = true then f (.bl true) else k ()), fun _ f => f (.bl false)⟩
def cSum : Cons Int := ⟨fun a y k _ => ∃ j, y = .int j ∧ k (a + j), fun a f => f (.int a)⟩
theorem gen_own {Z : Cx} {os : List Addr} {ip : List (Addr × Obj)} {τ : L2.St} {H : Hp} {s₀ s : Shared} {ga : Addr} {g : Nat} (hm : ga ∈ os) (hg : s₀.heap.IsGen ga g) (I : Inv Z (pinsAt os s₀.heap ++ ip) τ H s) : s.heap.IsGen ga g ∧ ∃ o, s.heap.get? ga = some o ∧ ∀ v, o.data ≠ .cell v := by
  obtain ⟨o, nm, qn, ho, h1, h2, h3⟩ := hg
  obtain ⟨e, _, _, _, hc⟩ := I.pin (ga, o) (List.mem_append_right _ (List.mem_append_left _ (mem_pinsAt hm ho)))
  exact ⟨⟨o, nm, qn, e, h1, h2, h3⟩, o, e, hc⟩
section
variable {Z : Cx} {ga : Addr} {g : Nat} {Q : VK} {A : Around} {Rf : Result → Shared → Prop}
theorem bool_drain {c : Cons Unit} {id : String} (bk bd : Bool)
    (hstep : ∀ y k f, c.step () y k f → ∃ b, y = .bl b ∧ (b = bk → k ()) ∧ (b = (!bk) → f (.bl bd))) (hfin : ∀ f, c.fin () f → f (.bl (!bd)))
    (hh : A.handled = none) (hd : A.depth < recursionLimit) (hR : ∀ b H τ s', Inv Z [] τ H s' → Q (.bl b) H → Rf (.ok (.ret (.bool b))) s')
    (body : ∀ (s : Shared), wpAny (model Z.prog Z.w) A.in1 (pyNext (.ref ga)) (fun r s' => match r with
        | none => Rf (.ok (.ret (.bool (!bd)))) s'
        | some v => ∃ b, v = .bool b ∧ (b = bk → codeAny (model Z.prog Z.w) A (.builtin id ⟨[.ref ga], []⟩) Rf s') ∧ (b = (!bk) → Rf (.ok (.ret (.bool bd))) s')) (fun _ _ => False) s → codeAny (model Z.prog Z.w) A (.builtin id ⟨[.ref ga], []⟩) Rf s) :
    ∀ (n : Nat) (s : Shared), s.heap.IsGen ga g → s.heap.NoLimit → (∃ gs, s.gens[g]? = some gs ∧ gs.Goes (model Z.prog Z.w) A.in1.in1 (GEx Z [ga] c (fun _ _ => True) Q) (GYx Z [ga] c (fun _ _ => True) Q) n (.send .none) (s.setGen g .running)) →
      codeAny (model Z.prog Z.w) A (.builtin id ⟨[.ref ga], []⟩) Rf s := by
  intro n
  induction n with
  | zero =>
    rintro s hg hl ⟨gs, hgs, hgo⟩
    refine body s (next_genG (A := A.in1) (F := fun n s₀ s => ∃ (a : Unit) (H : Hp) (τ : L2.St), True ∧ Inv Z (pinsAt [ga] s₀.heap) τ H s ∧ c.fin a (fun u => Q u H)) (Er := fun _ _ => False) hh hl hd hg hgs hgo (fun v s₁ gs' bare hv => ?_) (fun s₁ hp h' hk => ?_) fun e s₁ he => he.elim)
    · obtain ⟨_, y, H, ip, τ, Nx, _, rv, I, st, kap⟩ := hv
      obtain ⟨b, rfl, h1, h2⟩ := hstep y _ _ st
      have ev : v = .bool b := rv
      refine ⟨b, ev, fun e => ?_, fun e => hR bd H τ _ (inv_regen (s := s₁) (I.pins_of fun p hp => absurd hp (by simp)) rfl rfl (allBare_setGen I.bare bare)) (h2 e)⟩
      exfalso
      obtain ⟨_, o, ho, hc⟩ := gen_own (os := [ga]) (s₀ := s.setGen g .running) List.mem_cons_self hg I
      refine kap s₁ () (h1 e) True.intro ⟨rfl, I.bare, fun b o _ e => e, fun b hb => ?_⟩
      rw [List.mem_singleton.mp hb]
      exact ⟨o, ho, hc⟩
    · obtain ⟨_, H, τ, _, I, hf⟩ := hp
      refine hR (!bd) H τ _ (inv_regen (s := { s₁ with heap := h', toks := s₁.toks }) (L2.Inv.kept (I.pins_of fun p hp => absurd hp (by simp)) hk) rfl rfl (allBare_setGen I.bare rfl)) (hfin _ hf)
  | succ n ih =>
    rintro s hg hl ⟨gs, hgs, hgo⟩
    have hgl : g < s.gens.size := (Array.getElem?_eq_some_iff.mp hgs).1
    refine body s (wpAny_gsz (n := g + 1) hgl (next_genG (A := A.in1) (F := fun n s₀ s => ∃ (a : Unit) (H : Hp) (τ : L2.St), True ∧ Inv Z (pinsAt [ga] s₀.heap) τ H s ∧ c.fin a (fun u => Q u H)) (Er := fun _ _ => False) hh hl hd hg hgs hgo (fun v s₁ gs' bare hv => ?_) (fun s₁ hp h' hk => ?_) fun e s₁ he => he.elim))
    · intro hsz
      obtain ⟨_, y, H, ip, τ, Nx, _, rv, I, st, kap⟩ := hv
      obtain ⟨b, rfl, h1, h2⟩ := hstep y _ _ st
      have ev : v = .bool b := rv
      refine ⟨b, ev, fun e => ?_, fun e => hR bd H τ _ (inv_regen (s := s₁) (I.pins_of fun p hp => absurd hp (by simp)) rfl rfl (allBare_setGen I.bare bare)) (h2 e)⟩
      obtain ⟨hg1, o, ho, hc⟩ := gen_own (os := [ga]) (s₀ := s.setGen g .running) List.mem_cons_self hg I
      have hsz1 : g < s₁.gens.size := by
        have q : (s₁.setGen g gs').gens.size = s₁.gens.size := setGen_size _ _ _
        have hsz' : g + 1 ≤ (s₁.setGen g gs').gens.size := hsz
        omega
      refine ih (s₁.setGen g gs') hg1 I.nolimit ⟨gs', setGen_at hsz1, ?_⟩
      refine kap _ () (h1 e) True.intro ⟨rfl, allBare_setGen (s := s₁.setGen g gs') (allBare_setGen I.bare bare) rfl, fun b o _ e => e, fun b hb => ?_⟩
      rw [List.mem_singleton.mp hb]
      exact ⟨o, ho, hc⟩
    · intro _
      obtain ⟨_, H, τ, _, I, hf⟩ := hp
      refine hR (!bd) H τ _ (inv_regen (s := { s₁ with heap := h', toks := s₁.toks }) (L2.Inv.kept (I.pins_of fun p hp => absurd hp (by simp)) hk) rfl rfl (allBare_setGen I.bare rfl)) (hfin _ hf)
theorem all_body (s : Shared) (h : wpAny (model Z.prog Z.w) A.in1 (pyNext (.ref ga)) (fun r s' => match r with
        | none => Rf (.ok (.ret (.bool true))) s'
        | some v => ∃ b, v = .bool b ∧ (b = true → codeAny (model Z.prog Z.w) A (.builtin "all.loop" ⟨[.ref ga], []⟩) Rf s') ∧ (b = false → Rf (.ok (.ret (.bool false))) s')) (fun _ _ => False) s) : codeAny (model Z.prog Z.w) A (.builtin "all.loop" ⟨[.ref ga], []⟩) Rf s := by
  refine codeAny_builtin F.entry_all_loop ?_
  rw [Around.under_plainId F.plain_all_loop _]
  show wpAny _ A.in1 (pyNext (.ref ga) >>= _) _ _ s
  refine wpAny_bind (wpAny_mono h (fun r s' hr => ?_) fun _ _ z => z.elim)
  cases r with
  | none => exact wpAny_bind (wpAny_rule (wpAny_pure hr))
  | some v =>
    obtain ⟨b, rfl, h1, h2⟩ := hr
    refine wpAny_bind (wpAny_holding (wpAny_truthy_bool ?_))
    refine wpAny_bind (wpAny_letGo ?_)
    cases b with
    | true => exact wpAny_pure ⟨plainId_quiet F.plain_all_loop _, h1 rfl⟩
    | false => exact wpAny_bind (wpAny_rule (wpAny_pure (h2 rfl)))
theorem any_body (s : Shared) (h : wpAny (model Z.prog Z.w) A.in1 (pyNext (.ref ga)) (fun r s' => match r with
        | none => Rf (.ok (.ret (.bool false))) s'
        | some v => ∃ b, v = .bool b ∧ (b = false → codeAny (model Z.prog Z.w) A (.builtin "any.loop" ⟨[.ref ga], []⟩) Rf s') ∧ (b = true → Rf (.ok (.ret (.bool true))) s')) (fun _ _ => False) s) : codeAny (model Z.prog Z.w) A (.builtin "any.loop" ⟨[.ref ga], []⟩) Rf s := by
  refine codeAny_builtin F.entry_any_loop ?_
  rw [Around.under_plainId F.plain_any_loop _]
  show wpAny _ A.in1 (pyNext (.ref ga) >>= _) _ _ s
  refine wpAny_bind (wpAny_mono h (fun r s' hr => ?_) fun _ _ z => z.elim)
  cases r with
  | none => exact wpAny_bind (wpAny_rule (wpAny_pure hr))
  | some v =>
    obtain ⟨b, rfl, h1, h2⟩ := hr
    refine wpAny_bind (wpAny_holding (wpAny_truthy_bool ?_))
    refine wpAny_bind (wpAny_letGo ?_)
    cases b with
    | true => exact wpAny_bind (wpAny_rule (wpAny_pure (h2 rfl)))
    | false => exact wpAny_pure ⟨plainId_quiet F.plain_any_loop _, h1 rfl⟩
/-- the sum's own list -/
abbrev sumO (z : Int) (t : Tok) (c : Nat) : Obj := { cls := .type "list", dict := none, data := .seq #[.int z t] c, slots := #[] }
def SumR (S : Addr) (z : Int) (s : Shared) : Prop := ∃ (t : Tok) (c : Nat), s.heap.get? S = some (sumO z t c)
theorem sum_drain {S : Addr} (hSg : S ≠ ga) (hh : A.handled = none) (hd : A.depth < recursionLimit) (hR : ∀ z t H τ s', Inv Z [] τ H s' → Q (.int z) H → Rf (.ok (.ret (.int z t))) s') :
    ∀ (n : Nat) (s : Shared) (st : Int), (st = 0 ∨ st = 2) → s.heap.IsGen ga g → s.heap.NoLimit → (∃ z, SumR S z s) → (∃ gs, s.gens[g]? = some gs ∧ gs.Goes (model Z.prog Z.w) A.in1.in1 (GEx Z [ga, S] cSum (SumR S) Q) (GYx Z [ga, S] cSum (SumR S) Q) n (.send .none) (s.setGen g .running)) →
      codeAny (model Z.prog Z.w) A (.builtin "sum.loop" ⟨[.ref ga, .ref S, rawInt st, rawInt 0], []⟩) Rf s := by
  -- what is told by one step
  have core : ∀ (n : Nat) (s : Shared) (st : Int), (st = 0 ∨ st = 2) → s.heap.IsGen ga g → s.heap.NoLimit → (∃ z, SumR S z s) →
      (∃ gs, s.gens[g]? = some gs ∧ gs.Goes (model Z.prog Z.w) A.in1.in1 (GEx Z [ga, S] cSum (SumR S) Q) (GYx Z [ga, S] cSum (SumR S) Q) n (.send .none) (s.setGen g .running)) →
      (∀ (m : Nat) (s' : Shared) (st' : Int), m + 1 = n → (st' = 0 ∨ st' = 2) → s'.heap.IsGen ga g → s'.heap.NoLimit → (∃ z, SumR S z s') → (∃ gs, s'.gens[g]? = some gs ∧ gs.Goes (model Z.prog Z.w) A.in1.in1 (GEx Z [ga, S] cSum (SumR S) Q) (GYx Z [ga, S] cSum (SumR S) Q) m (.send .none) (s'.setGen g .running)) →
        codeAny (model Z.prog Z.w) A (.builtin "sum.loop" ⟨[.ref ga, .ref S, rawInt st', rawInt 0], []⟩) Rf s') →
      codeAny (model Z.prog Z.w) A (.builtin "sum.loop" ⟨[.ref ga, .ref S, rawInt st, rawInt 0], []⟩) Rf s := by
    rintro n s st hst2 hg hl ⟨z, tA, cS, hS⟩ ⟨gs, hgs, hgo⟩ ih
    have hgl : g < s.gens.size := (Array.getElem?_eq_some_iff.mp hgs).1
    refine codeAny_builtin F.entry_sum_loop ?_
    rw [Around.under_plainId F.plain_sum_loop _]
    show wpAny _ A.in1 (seqItems? (.ref S) >>= _) _ _ s
    refine wpAny_bind (wpAny_seqItems hS rfl ?_)
    show wpAny _ A.in1 (tryCatch (pyNext (.ref ga)) _ >>= _) _ _ s
    refine wpAny_bind (wpAny_tryCatch (wpAny_gsz (n := g + 1) hgl (next_genG (A := A.in1) (F := fun n s₀ s => ∃ (a : Int) (H : Hp) (τ : L2.St), SumR S a s₀ ∧ Inv Z (pinsAt [ga, S] s₀.heap) τ H s ∧ cSum.fin a (fun u => Q u H)) (Er := fun _ _ => False) hh hl hd hg hgs hgo (fun v s₁ gs' bare hv => ?_) (fun s₁ hp h' hk => ?_) fun e s₁ he => he.elim)))
    · intro hsz
      obtain ⟨a, y, H, ip, τ, Nx, ⟨ta, ca, ea⟩, rv, I, ⟨j, rfl, nx⟩, kap⟩ := hv
      have ea : s.heap.get? S = some (sumO a ta ca) := ea
      rw [hS] at ea
      have eaz : z = a ∧ tA = ta := by
        have := congrArg (fun o : Option Obj => o.map (·.data)) ea
        simp [sumO] at this
        exact this.1
      obtain ⟨rfl, rfl⟩ := eaz
      obtain ⟨t, rfl⟩ : ∃ t, v = .int j t := rv
      obtain ⟨hg1, o, ho, hc⟩ := gen_own (os := [ga, S]) (s₀ := s.setGen g .running) List.mem_cons_self hg I
      have hS' : s₁.heap.get? S = some (sumO z tA cS) := (I.pin (S, sumO z tA cS) (List.mem_append_right _ (List.mem_append_left _ (mem_pinsAt (List.mem_cons_of_mem _ List.mem_cons_self) hS)))).1
      have hsz1 : g < s₁.gens.size := by
        have q : (s₁.setGen g gs').gens.size = s₁.gens.size := setGen_size _ _ _
        have hsz' : g + 1 ≤ (s₁.setGen g gs').gens.size := hsz
        omega
      -- the next turn: the list at S holds the new sum
      have nxt : ∀ (h3 : Heap) (t3 : Tok) (c3 tk : Nat) (st' : Int), (st' = 0 ∨ st' = 2) → (∀ b ob, b ≠ S → s₁.heap.get? b = some ob → h3.get? b = some ob) → h3.get? S = some (sumO (z + j) t3 c3) →
          codeAny (model Z.prog Z.w) A (.builtin "sum.loop" ⟨[.ref ga, .ref S, rawInt st', rawInt 0], []⟩) Rf { s₁.setGen g gs' with heap := h3, toks := tk } := fun h3 t3 c3 tk st' hst' hk3 hS3 => by
        have slp : ∀ s', s'.os = s₁.os → AllBare s'.gens → s'.heap = h3 → Slp [ga, S] s₁ s' := fun s' e1 e2 e3 => by
          refine ⟨e1, e2, fun b ob hb e => ?_, fun b hb => ?_⟩
          · rw [e3]
            exact hk3 b ob (fun z => hb (by rw [z]; exact List.mem_cons_of_mem _ List.mem_cons_self)) e
          · rw [e3]
            rcases List.mem_cons.mp hb with hb | hb
            · rw [hb]
              exact ⟨o, hk3 ga o hSg.symm ho, hc⟩
            · rw [List.mem_singleton.mp hb]
              exact ⟨_, hS3, fun v q => by cases q⟩
        cases n with
        | zero =>
          exfalso
          exact kap { s₁ with heap := h3 } (z + j) nx ⟨t3, c3, hS3⟩ (slp _ rfl I.bare rfl)
        | succ n =>
          have hcs : S ≠ cStatics := fun q => by
            obtain ⟨_, hns, _⟩ := I.nolimit
            obtain ⟨o', es, ep, ho', hd', _⟩ := hns
            rw [← q, hS'] at ho'
            cases ho'
            cases hd'
          refine ih n _ st' rfl hst' ?_ ?_ ⟨z + j, t3, c3, hS3⟩ ⟨gs', setGen_at (s := { s₁ with heap := h3, toks := tk }) hsz1, ?_⟩
          · obtain ⟨o1, nm, qn, e1, r⟩ := hg1
            exact ⟨o1, nm, qn, hk3 _ _ hSg.symm e1, r⟩
          · obtain ⟨mc, hns, hnn⟩ := I.nolimit
            exact ⟨mc, hns.at' fun o e => hk3 _ o hcs.symm e, hnn⟩
          · exact kap _ (z + j) nx ⟨t3, c3, hS3⟩ (slp _ rfl (allBare_setGen (s := { s₁.setGen g gs' with heap := h3, toks := tk }) (allBare_setGen I.bare bare) rfl) rfl)
      have kp1 : ∀ (h : Heap) (f : Obj → Obj), (∀ b ob, b ≠ S → s₁.heap.get? b = some ob → h.get? b = some ob) → ∀ b ob, b ≠ S → s₁.heap.get? b = some ob → (h.update S f).get? b = some ob := fun h f q b ob hb e =>
        (Heap.get?_update_other _ _ (Ne.symm hb)).trans (q b ob hb e)
      rcases hst2 with rfl | rfl
      · show wpAny _ A.in1 (if (_ : Bool) = true then (mkInt (z + j) >>= _) else _) _ _ _
        split
        · refine wpAny_bind (wpAny_mkInt ?_)
          show wpAny _ A.in1 (updateSeq S (fun _ => #[.int (z + j) s₁.toks]) >>= _) _ _ _
          refine wpAny_bind ?_
          refine wpAny_updateSeq (o := sumO z tA cS) hS' rfl (wpAny_pure ⟨plainId_quiet F.plain_sum_loop _, ?_⟩)
          exact nxt _ _ _ _ 0 (.inl rfl) (kp1 _ _ fun b ob _ e => e) (Heap.get?_update_self _ hS' rfl)
        · refine wpAny_bind (wpAny_rule ?_)
          refine wpAny_bind (wpAny_attempt (wpAny_holding (wpAny_add_int ?_)))
          show wpAny _ A.in1 (updateSeq S (fun _ => #[.int (z + j) s₁.toks]) >>= _) _ _ _
          refine wpAny_bind (wpAny_updateSeq (o := sumO z tA cS) hS' rfl ?_)
          have hS2 := Heap.get?_update_self (Obj.mapSeq fun _ => #[Value.int (z + j) s₁.toks]) hS' rfl
          refine wpAny_bind (wpAny_letGo ?_)
          refine wpAny_bind (wpAny_updateSeq hS2 rfl (wpAny_pure ⟨plainId_quiet F.plain_sum_loop _, ?_⟩))
          exact nxt _ _ _ _ 2 (.inr rfl) (kp1 _ _ (kp1 _ _ fun b ob _ e => e)) (Heap.get?_update_self _ hS2 rfl)
      · show wpAny _ A.in1 ((holding [Value.int j t] (binaryOp .Add (.int z tA) (.int j t))).attempt >>= _) _ _ _
        refine wpAny_bind (wpAny_attempt (wpAny_holding (wpAny_add_int ?_)))
        show wpAny _ A.in1 (updateSeq S (fun _ => #[.int (z + j) s₁.toks]) >>= _) _ _ _
        refine wpAny_bind (wpAny_updateSeq (o := sumO z tA cS) hS' rfl ?_)
        have hS2 := Heap.get?_update_self (Obj.mapSeq fun _ => #[Value.int (z + j) s₁.toks]) hS' rfl
        refine wpAny_bind (wpAny_letGo ?_)
        refine wpAny_bind (wpAny_updateSeq hS2 rfl (wpAny_pure ⟨plainId_quiet F.plain_sum_loop _, ?_⟩))
        exact nxt _ _ _ _ 2 (.inr rfl) (kp1 _ _ (kp1 _ _ fun b ob _ e => e)) (Heap.get?_update_self _ hS2 rfl)
    · intro _
      obtain ⟨a, H, τ, ⟨ta, ca, ea⟩, I, hf⟩ := hp
      have ea : s.heap.get? S = some (sumO a ta ca) := ea
      rw [hS] at ea
      have eaz : z = a ∧ tA = ta := by
        have := congrArg (fun o : Option Obj => o.map (·.data)) ea
        simp [sumO] at this
        exact this.1
      obtain ⟨rfl, rfl⟩ := eaz
      exact wpAny_pure (hR z tA H τ _ (inv_regen (s := { s₁ with heap := h', toks := s₁.toks }) (L2.Inv.kept (I.pins_of fun p hp => absurd hp (by simp)) hk) rfl rfl (allBare_setGen I.bare rfl)) hf)
  intro n
  induction n with
  | zero => exact fun s st h1 h2 h3 h4 h5 => core 0 s st h1 h2 h3 h4 h5 fun m _ _ e => by omega
  | succ n ih =>
    refine fun s st h1 h2 h3 h4 h5 => core (n + 1) s st h1 h2 h3 h4 h5 fun m s' st' e a1 a2 a3 a4 a5 => ?_
    have e : m = n := by omega
    subst e
    exact ih s' st' a1 a2 a3 a4 a5
end
end
section
open GenW
variable {X : Cx} {pins : List (Addr × Obj)} {σ : L2.St} {H : Hp} {s : Shared} {α : Type}
/-- a generator expression is walked: what is asked -/
def tGx (P : Addr) (c : Cons α) (a0 : α) (wi : TI) (g : TG) (tt : TT) (te : TE) (vs : List Nat) : TE := fun σ H Q => wi σ H fun J H1 => GxR.TabG H1 P ∧ ∀ H2, GxR.Tabbed P H1 H2 → ∃ W : Nat → Nat → α → Hp → Prop, (∃ m, W 0 m a0 H2) ∧ Runs1 J g tt te vs σ c Q W
/-- the generator at ga stands ready -/
def GxReady (X : Cx) (pins : List (Addr × Obj)) (σ : L2.St) (c : Cons α) (a0 : α) (Q : VK) (ga : Addr) (s5 : Shared) : Prop :=
  ∃ (Z : Cx) (g n : Nat) (c0 : Code), s5.heap.IsGen ga g ∧ s5.gens[g]? = some (.fresh c0) ∧ s5.heap.NoLimit ∧ AllBare s5.gens ∧ Z.prog = X.prog ∧ Z.w = X.w ∧ (∀ τ H s', Inv Z [] τ H s' → Inv X pins σ H s') ∧ OsOk Z [ga] ∧ (∀ S, s5.heap.objs.size ≤ S → OsOk Z [ga, S] ∧ S ≠ ga) ∧
    ∀ (os : List Addr) (Rel : α → Shared → Prop) (s2 : Shared), OsOk Z os → (∀ b ∈ os, b = ga ∨ s5.heap.objs.size ≤ b) → (∀ b o, s5.heap.get? b = some o → s2.heap.get? b = some o) → s2.os = s5.os → AllBare s2.gens → (∀ b ∈ os, ∃ o, s2.heap.get? b = some o ∧ ∀ v, o.data ≠ .cell v) → Rel a0 s2 →
      Seg (model Z.prog Z.w) X.A.in1.in1 (GEx Z os c Rel Q) (GYx Z os c Rel Q) n s2 c0 ((model Z.prog Z.w).den c0) [] s2
theorem gx_make {c P : Addr} {elt tg iter : Expr} {ifs : List Expr} {scope : Scope} {own : List (Str × Nat)} {gpos : Pos} {k : Nat} {wi : TI} {g : TG} {tt : TT} {te : TE} {cs : Cons α} {a0 : α} {Q : VK} {Q' : Value → Shared → Prop}
    (hr : Room k X.A) (hcalm : X.calm = true) (hN : X.N.Nodup) (TB : GxR.TabB X.base X.mg c P) (hcode : X.env.code = .ref c) (ok : GBlk X.N X.env.scope scope own) (hi : PI X tg iter wi) (hs : ∀ v, genFold iter X.env v = pure v)
    (hg : ∀ (s : Shared) (H : Hp) (C : Addr) (code : Value) (fp : List Addr), PG (gcx X s H (genEnv scope (cloFrom X.env.cells scope.names []) C code builtinsNs X.env) fp) tg g)
    (ht : ∀ (s : Shared) (H : Hp) (C : Addr) (code : Value) (fp : List Addr), PTs (gcx X s H (genEnv scope (cloFrom X.env.cells scope.names []) C code builtinsNs X.env) fp) ifs tt)
    (he : ∀ (s : Shared) (H : Hp) (C : Addr) (code : Value) (fp : List Addr), PE (gcx X s H (genEnv scope (cloFrom X.env.cells scope.names []) C code builtinsNs X.env) fp) elt te)
    (I : Inv X pins σ H s) (h : tGx P cs a0 wi g tt te (own.map (·.2)) σ H Q) (fin : ∀ ga s5, GxReady X pins σ cs a0 Q ga s5 → Q' (.ref ga) s5) :
    wpAny (model X.prog X.w) X.A (eval (.GeneratorExp elt [⟨tg, iter, ifs, 0⟩] scope gpos) X.env) Q' X.xe s := by
  have hfree : ∀ y ∈ scope.names, y.2 = .free → ∃ c, X.env.cells.lookup y.1 = some c := fun y hy e =>
    (ok.free y hy e).elim (fun k => I.ok.has _ (.inl k)) fun k => I.ok.has _ (.inr k)
  refine wpAny_GeneratorExp_make ok.co (closure_ok hfree) ok.nocell ok.dot ok.kind hr.depth ?_ hs
  refine thn (hi.run pins s σ H _ I h) fun xv t1 hx => thn hx fun itv t2 h2 => ?_
  obtain ⟨it, fp, tn, J, H1, rfl, I1, T, st1, f1, tab, q⟩ := h2
  obtain ⟨ps, hP, tr⟩ := id tab
  have gP : t2.heap.get? P = some { cls := .none, data := .fields ps } := I1.hok P _ hP
  have cd : PySem.W.CodeHd t2.heap c P := TB.code.keeps fun b u e => I1.bk b u e
  refine ⟨I1.nolimit, ?_⟩
  have fpP : ∀ b ∈ fp, b ≠ P := fun b hb z => by
    have := (f1 b hb).1
    rw [z, hP] at this
    cases this
  have rest : ∀ (code : Value) (h3 : Heap) (tk : Nat) (qs : Array Value), Heap.ExtBut P t2.heap h3 → t2.heap.objs.size ≤ h3.objs.size → h3.get? P = some { cls := .none, data := .fields qs } → (∃ more, qs = ps ++ more) → TriplesOk qs.toList →
      wpAny (model X.prog X.w) X.A (builtinsFor X.env.globals X.env.builtins) (fun bi s₄ => ∀ h', h'.Ns s₄.heap.objs.size (fun y => if y = ".0" then some (.ref it) else none) → Heap.SameBut s₄.heap.objs.size (s₄.heap.push { cls := .type "frame", data := .dict #[] }) h' →
          Q' (.ref h'.objs.size) { s₄ with gens := s₄.gens.push (.fresh (.compStart (.GeneratorExp elt [⟨tg, iter, ifs, 0⟩] scope gpos) 0 (.ref it) .none (genEnv scope (cloFrom X.env.cells scope.names []) s₄.heap.objs.size code bi X.env))), toks := s₄.toks + 1 + 1 + 1, heap := h'.push { cls := .type "generator", data := .fields #[.int s₄.gens.size 0, .str "<genexpr>" (s₄.toks + 1), .str (X.env.qual ++ "<genexpr>") (s₄.toks + 1 + 1)] } }) X.xe { t2 with heap := h3, toks := tk } := by
    intro code h3 tk qs hx hsz gP3 ⟨more, em⟩ tr3
    obtain ⟨bm, ob, b1, b2, b3, b4, b5, b6, b7, b8⟩ := TB.bm
    have kp3 : ∀ b u, b ≠ P → t2.heap.get? b = some u → h3.get? b = some u := fun b u hb e => hx b u hb e
    refine wpAny_builtinsFor (m := X.mg) (by rw [I1.ok.glob]; exact (I1.mod.glob.keeps I1.bk).extBut hx TB.gP) b1 b2 (kp3 _ _ b4 (I1.bk _ _ b5)) b6 b7 b8 ?_
    subst em
    have I3 : Inv X pins σ (upd H1 P (.tbl (ps ++ more))) { t2 with heap := h3, gens := t2.gens, drawn := t2.drawn, toks := tk } := GxR.inv_tab I1 hP kp3 gP3 I1.bare
    obtain ⟨W, ⟨m0, w0⟩, run⟩ := q (upd H1 P (.tbl (ps ++ more))) ⟨⟨_, upd_same, tr3⟩, fun b hb => upd_ne hb⟩
    have lt1 : ∀ b ∈ fp, b < t2.heap.objs.size := fun b hb => by
      obtain ⟨o, e, _⟩ := T.obj _ _ st1 b hb
      exact Heap.lt_size e
    have st3 : tn 0 h3 := T.keep _ _ _ st1 fun b hb o e => kp3 b o (fpP b hb) e
    have f3 : ∀ b ∈ fp, FpOk X pins (upd H1 P (.tbl (ps ++ more))) b ∧ b < h3.objs.size := fun b hb => by
      refine ⟨⟨?_, (f1 b hb).2⟩, Nat.lt_of_lt_of_le (lt1 b hb) hsz⟩
      rw [upd_ne (fpP b hb)]
      exact (f1 b hb).1
    intro h' hn' sb'
    have sz' : h'.objs.size = h3.objs.size + 1 := by
      rw [sb'.1, Heap.size_push]
    have kp' : ∀ b o, h3.get? b = some o → h'.get? b = some o := fun b o e => sb'.extBut b o (Nat.ne_of_lt (Heap.lt_size e)) (Heap.get?_push_of_some _ e)
    generalize hgo : ({ cls := .type "generator", data := .fields #[.int t2.gens.size 0, .str "<genexpr>" (tk + 1), .str (X.env.qual ++ "<genexpr>") (tk + 1 + 1)] } : Obj) = go
    have kp5 : ∀ b o, h3.get? b = some o → (h'.push go).get? b = some o := fun b o e => Heap.get?_push_of_some _ (kp' b o e)
    generalize hH3 : upd H1 P (.tbl (ps ++ more)) = H3 at I3 w0 f3
    have at5 : (h'.push go).get? h'.objs.size = some go := by
      rw [← hgo]
      exact Heap.get?_push_size _ rfl
    have bare5 : AllBare (t2.gens.push (.fresh (.compStart (.GeneratorExp elt [⟨tg, iter, ifs, 0⟩] scope gpos) 0 (.ref it) .none (genEnv scope (cloFrom X.env.cells scope.names []) h3.objs.size code builtinsNs X.env)))) := AllBare.push I1.bare rfl
    have pg := hg { t2 with heap := h3, gens := t2.gens, drawn := t2.drawn, toks := tk } H3 h3.objs.size code fp
    have pt := ht { t2 with heap := h3, gens := t2.gens, drawn := t2.drawn, toks := tk } H3 h3.objs.size code fp
    have pe := he { t2 with heap := h3, gens := t2.gens, drawn := t2.drawn, toks := tk } H3 h3.objs.size code fp
    have start : ∀ (h2 : Heap) (g2 : Array GenState) (tk2 : Nat), h2.Ns h3.objs.size (fun y => if y = ".0" then some (.ref it) else none) → (∀ b o, h3.get? b = some o → h2.get? b = some o) → AllBare g2 → _ := fun h2 g2 tk2 a1 a2 a3 =>
      gblk_start (s := { t2 with heap := h3, gens := t2.gens, drawn := t2.drawn, toks := tk }) (code := code) (h' := h2) (g' := g2) (tk := tk2) I3 ok hN f3 a1 a2 a3
    have hco' : (genEnv scope (cloFrom X.env.cells scope.names []) h3.objs.size code builtinsNs X.env).scope.isCoroutine = false := ok.co
    have hL : (genEnv scope (cloFrom X.env.cells scope.names []) h3.objs.size code builtinsNs X.env).locals = h3.objs.size := rfl
    have oso : ∀ b, h3.objs.size < b → h3.objs.size ≤ b ∧ b ≠ h3.objs.size ∧ (∀ x c, (cloFrom X.env.cells scope.names []).lookup x = some c → c ≠ b) ∧ b ∉ fp := fun b hb => by
      refine ⟨Nat.le_of_lt hb, Nat.ne_of_gt hb, fun x c e z => ?_, fun hm => ?_⟩
      · rcases cloFrom_mem (PySem.mem_of_lookup e) with hm | ⟨h1, h2⟩
        · cases hm
        · obtain ⟨c', hc'⟩ := hfree _ h1 rfl
          rw [hc'] at h2
          have h2 : c = c' := h2
          obtain ⟨w, zz⟩ := I3.cell _ _ hc'
          have := zz.lt
          have : c' < h3.objs.size := this
          rw [← h2, z] at this
          exact absurd (Nat.lt_trans this hb) (Nat.lt_irrefl _)
      · exact absurd (Nat.lt_trans (f3 b hm).2 hb) (Nat.lt_irrefl _)
    refine fin h'.objs.size _ ⟨gcx X { t2 with heap := h3, gens := t2.gens, drawn := t2.drawn, toks := tk } H3 (genEnv scope (cloFrom X.env.cells scope.names []) h3.objs.size code builtinsNs X.env) fp, t2.gens.size, m0 + 1, _, ⟨go, _, _, at5, by rw [← hgo], by rw [← hgo], by rw [← hgo]⟩, Array.getElem?_push_size .., I3.nolimit.keeps kp5, bare5, rfl, rfl, fun τ H' s' I' => ?_, fun b hb => ?_, fun S hS => ⟨fun b hb => ?_, ?_⟩, ?_⟩
    · exact I3.call' (ch := fp) I'.os I'.base I'.hok I'.bare fun b hb => ⟨(f3 b hb).1.2.2.2.1, (f3 b hb).1.2.1, (f3 b hb).1.2.2.2.2.1, (f3 b hb).1.2.2.2.2.2⟩
    · rw [List.mem_singleton.mp hb]
      exact oso _ (by rw [sz']; exact Nat.lt_succ_self _)
    · have hS : (h'.push go).objs.size ≤ S := hS
      rw [Heap.size_push] at hS
      rcases List.mem_cons.mp hb with e | e
      · rw [e]
        exact oso _ (by rw [sz']; exact Nat.lt_succ_self _)
      · rw [List.mem_singleton.mp e]
        exact oso _ (by omega)
    · have hS : (h'.push go).objs.size ≤ S := hS
      rw [Heap.size_push] at hS
      exact Nat.ne_of_gt hS
    · intro os Rel s2 hO hos hk2 ho2 hb2 hex2 rel
      have hk3 : ∀ b o, h3.get? b = some o → s2.heap.get? b = some o := fun b o e => hk2 b o (kp5 b o e)
      have hn2 : s2.heap.Ns h3.objs.size (fun y => if y = ".0" then some (.ref it) else none) := Heap.Ns.keeps hn' fun b o e => hk2 b o (Heap.get?_push_of_some _ e)
      have J0 := start s2.heap s2.gens s2.toks hn2 hk3 hb2
      have J2 := inv_regen (s' := s2) J0 (ho2.trans rfl) rfl hb2
      have hos3 : ∀ b ∈ os, h3.objs.size < b := fun b hb => by
        rcases hos b hb with e | e
        · rw [e, sz']
          exact Nat.lt_succ_self _
        · have e : (h'.push go).objs.size ≤ b := e
          rw [Heap.size_push] at e
          omega
      have J3 := J2.pins_of (pins' := pinsAt os s2.heap) fun p hp => by
        obtain ⟨hb, e⟩ := of_pinsAt hp
        obtain ⟨o, e', hc⟩ := hex2 p.1 hb
        rw [e] at e'
        cases e'
        refine ⟨e, I3.hok.fresh (Nat.le_of_lt (hos3 p.1 hb)), (hO p.1 hb).2.1, fun hm => ?_, hc⟩
        have hm : p.1 ∈ frs X.stack := hm
        have := (I3.stack.mem hm).2
        obtain ⟨o2, e2, _⟩ := this
        exact absurd (Nat.lt_trans (Heap.lt_size e2) (hos3 p.1 hb)) (Nat.lt_irrefl _)
      exact gx_start (Z := gcx X { t2 with heap := h3, gens := t2.gens, drawn := t2.drawn, toks := tk } H3 (genEnv scope (cloFrom X.env.cells scope.names []) h3.objs.size code builtinsNs X.env) fp) (A := X.A.in1.in1) rfl rfl rfl hcalm rfl hco' hO T pg pt pe run (Nat.lt_succ_self m0) w0 rel ⟨J3, T.keep _ _ _ st3 fun b hb o e => hk3 b o e, fun b hb => (f3 b hb).1.1, fun b hb => by
        obtain ⟨o, e, _⟩ := hex2 b hb
        exact ⟨o, e⟩⟩
  cases hf : codeAmong gpos ps.toList with
  | none =>
    refine wpAny_genexprCodeX hcode (cd.code gP tr) (cd.tab gP) hf fun c' h' tk hx hge hlt hco _ htab _ => ?_
    obtain ⟨_, _, _, _, _, _, _, _, _, _, _, _, _, _, _, _, _, _, _, htr, _⟩ := hco
    exact rest _ h' tk _ hx (Nat.le_trans hge (Nat.le_of_lt hlt)) htab.2 ⟨_, rfl⟩ htr
  | some cv =>
    refine wpAny_genexprCode_hit hcode (cd.code gP tr) hf ?_
    exact rest cv t2.heap t2.toks ps (Heap.ExtBut.refl _ _) (Nat.le_refl _) gP ⟨#[], by simp⟩ tr
theorem room_u {k : Nat} {A : Around} (r : Room k A) : A.units + 1 < cLine := by
  have := r.units
  omega
theorem room_gx {k : Nat} {A : Around} (r : Room (k + 3) A) (env : Env) : Room k (A.in1.in1.deeper env) := Room.deeper (Room.in1 (Room.in1 r)) env
section
variable {c P : Addr} {elt tg iter : Expr} {ifs : List Expr} {scope : Scope} {own : List (Str × Nat)} {gpos p pos : Pos} {k : Nat} {wi : TI} {g : TG} {tt : TT} {te : TE}
theorem pe_gxAll (hr : Room k X.A) (hcalm : X.calm = true) (hN : X.N.Nodup) (hgl : Gl X "all") (hm : X.mg "all" = none) (hba : bootBuiltins "all" = some (.builtin "all")) (TB : GxR.TabB X.base X.mg c P) (hcode : X.env.code = .ref c) (ok : GBlk X.N X.env.scope scope own) (hi : PI X tg iter wi)
    (hg : ∀ (s : Shared) (H : Hp) (C : Addr) (code : Value) (fp : List Addr), PG (gcx X s H (genEnv scope (cloFrom X.env.cells scope.names []) C code builtinsNs X.env) fp) tg g)
    (ht : ∀ (s : Shared) (H : Hp) (C : Addr) (code : Value) (fp : List Addr), PTs (gcx X s H (genEnv scope (cloFrom X.env.cells scope.names []) C code builtinsNs X.env) fp) ifs tt)
    (he : ∀ (s : Shared) (H : Hp) (C : Addr) (code : Value) (fp : List Addr), PE (gcx X s H (genEnv scope (cloFrom X.env.cells scope.names []) C code builtinsNs X.env) fp) elt te) (hs : ∀ v, genFold iter X.env v = pure v)
    (hst : starEach [.GeneratorExp elt [⟨tg, iter, ifs, 0⟩] scope gpos] X.env = (false, eval (.GeneratorExp elt [⟨tg, iter, ifs, 0⟩] scope gpos) X.env) :: starEach [] X.env := by rfl) :
    PE X (.Call (.Name "all" p) [.GeneratorExp elt [⟨tg, iter, ifs, 0⟩] scope gpos] [] pos) (tGx P cAll () wi g tt te (own.map (·.2))) := by
  constructor
  intro pins s σ H Q I hh
  refine wpAny_Call_Name_kw (ld_blt I hgl hm hba ?_)
  refine PyProof.Rows.callWith_builtin1 ?_ hst (by rfl)
  rw [hst]
  show wpAny _ _ (spliced ((false, eval (.GeneratorExp elt [⟨tg, iter, ifs, 0⟩] scope gpos) X.env) :: backTo pos (starEach [] X.env))) _ _ s
  refine Calls.spliced_cons (gx_make hr hcalm hN TB hcode ok hi hs hg ht he I hh fun ga s5 R => Calls.spliced_nil ?_)
  obtain ⟨Z, gi, n, c0, hgen, hgs, hl, hb, eP, eW, back, hO, _, seg⟩ := R
  rw [← eP, ← eW] at *
  refine call_function_tree F.kind_all F.plain_all F.entry_all (F.args_all1 _) ?_
  unfold Builtin.«all»
  refine wpAny_bind (m := oneArg "all" _) (wpAny_pure ?_)
  refine wpAny_bind (wpAny_pyIter_gen hgen ?_)
  refine wpAny_pure ⟨plainId_quiet F.plain_all_loop _, bool_drain (Z := Z) (g := gi) (Q := Q) (c := cAll) true false (fun y k f h => ?_) (fun f h => h) hr.hd hr.depth (fun b H' τ s' I' q => ?_) all_body n s5 hgen hl ⟨_, hgs, rfl, seg [ga] _ _ hO (fun b hb => .inl (List.mem_singleton.mp hb)) (fun b o e => e) rfl (allBare_setGen hb rfl) (fun b hb => ?_) True.intro⟩⟩
  · obtain ⟨b, rfl, h⟩ := h
    exact ⟨b, rfl, fun e => by rw [if_pos (show b = true from e)] at h; exact h, fun e => by rw [if_neg (by rw [e]; decide)] at h; exact h⟩
  · exact ⟨.bl b, H', back τ H' s' I', rfl, q⟩
  · rw [List.mem_singleton.mp hb]
    obtain ⟨o, nm, qn, ho, h1, h2, h3⟩ := hgen
    exact ⟨o, ho, fun v q => by rw [h2] at q; cases q⟩
theorem pe_gxAny (hr : Room k X.A) (hcalm : X.calm = true) (hN : X.N.Nodup) (hgl : Gl X "any") (hm : X.mg "any" = none) (hba : bootBuiltins "any" = some (.builtin "any")) (TB : GxR.TabB X.base X.mg c P) (hcode : X.env.code = .ref c) (ok : GBlk X.N X.env.scope scope own) (hi : PI X tg iter wi)
    (hg : ∀ (s : Shared) (H : Hp) (C : Addr) (code : Value) (fp : List Addr), PG (gcx X s H (genEnv scope (cloFrom X.env.cells scope.names []) C code builtinsNs X.env) fp) tg g)
    (ht : ∀ (s : Shared) (H : Hp) (C : Addr) (code : Value) (fp : List Addr), PTs (gcx X s H (genEnv scope (cloFrom X.env.cells scope.names []) C code builtinsNs X.env) fp) ifs tt)
    (he : ∀ (s : Shared) (H : Hp) (C : Addr) (code : Value) (fp : List Addr), PE (gcx X s H (genEnv scope (cloFrom X.env.cells scope.names []) C code builtinsNs X.env) fp) elt te) (hs : ∀ v, genFold iter X.env v = pure v)
    (hst : starEach [.GeneratorExp elt [⟨tg, iter, ifs, 0⟩] scope gpos] X.env = (false, eval (.GeneratorExp elt [⟨tg, iter, ifs, 0⟩] scope gpos) X.env) :: starEach [] X.env := by rfl) :
    PE X (.Call (.Name "any" p) [.GeneratorExp elt [⟨tg, iter, ifs, 0⟩] scope gpos] [] pos) (tGx P cAny () wi g tt te (own.map (·.2))) := by
  constructor
  intro pins s σ H Q I hh
  refine wpAny_Call_Name_kw (ld_blt I hgl hm hba ?_)
  refine PyProof.Rows.callWith_builtin1 ?_ hst (by rfl)
  rw [hst]
  show wpAny _ _ (spliced ((false, eval (.GeneratorExp elt [⟨tg, iter, ifs, 0⟩] scope gpos) X.env) :: backTo pos (starEach [] X.env))) _ _ s
  refine Calls.spliced_cons (gx_make hr hcalm hN TB hcode ok hi hs hg ht he I hh fun ga s5 R => Calls.spliced_nil ?_)
  obtain ⟨Z, gi, n, c0, hgen, hgs, hl, hb, eP, eW, back, hO, _, seg⟩ := R
  rw [← eP, ← eW] at *
  refine call_function_tree F.kind_any F.plain_any F.entry_any (F.args_any1 _) ?_
  unfold Builtin.«any»
  refine wpAny_bind (m := oneArg "any" _) (wpAny_pure ?_)
  refine wpAny_bind (wpAny_pyIter_gen hgen ?_)
  refine wpAny_pure ⟨plainId_quiet F.plain_any_loop _, bool_drain (Z := Z) (g := gi) (Q := Q) (c := cAny) false true (fun y k f h => ?_) (fun f h => h) hr.hd hr.depth (fun b H' τ s' I' q => ?_) any_body n s5 hgen hl ⟨_, hgs, rfl, seg [ga] _ _ hO (fun b hb => .inl (List.mem_singleton.mp hb)) (fun b o e => e) rfl (allBare_setGen hb rfl) (fun b hb => ?_) True.intro⟩⟩
  · obtain ⟨b, rfl, h⟩ := h
    exact ⟨b, rfl, fun e => by rw [if_neg (by rw [e]; decide)] at h; exact h, fun e => by rw [if_pos (show b = true from e)] at h; exact h⟩
  · exact ⟨.bl b, H', back τ H' s' I', rfl, q⟩
  · rw [List.mem_singleton.mp hb]
    obtain ⟨o, nm, qn, ho, h1, h2, h3⟩ := hgen
    exact ⟨o, ho, fun v q => by rw [h2] at q; cases q⟩
theorem pe_gxSum (hr : Room k X.A) (hcalm : X.calm = true) (hN : X.N.Nodup) (hgl : Gl X "sum") (hm : X.mg "sum" = none) (TB : GxR.TabB X.base X.mg c P) (hcode : X.env.code = .ref c) (ok : GBlk X.N X.env.scope scope own) (hi : PI X tg iter wi)
    (hg : ∀ (s : Shared) (H : Hp) (C : Addr) (code : Value) (fp : List Addr), PG (gcx X s H (genEnv scope (cloFrom X.env.cells scope.names []) C code builtinsNs X.env) fp) tg g)
    (ht : ∀ (s : Shared) (H : Hp) (C : Addr) (code : Value) (fp : List Addr), PTs (gcx X s H (genEnv scope (cloFrom X.env.cells scope.names []) C code builtinsNs X.env) fp) ifs tt)
    (he : ∀ (s : Shared) (H : Hp) (C : Addr) (code : Value) (fp : List Addr), PE (gcx X s H (genEnv scope (cloFrom X.env.cells scope.names []) C code builtinsNs X.env) fp) elt te) (hs : ∀ v, genFold iter X.env v = pure v)
    (hst : starEach [.GeneratorExp elt [⟨tg, iter, ifs, 0⟩] scope gpos] X.env = (false, eval (.GeneratorExp elt [⟨tg, iter, ifs, 0⟩] scope gpos) X.env) :: starEach [] X.env := by rfl) :
    PE X (.Call (.Name "sum" p) [.GeneratorExp elt [⟨tg, iter, ifs, 0⟩] scope gpos] [] pos) (tGx P cSum 0 wi g tt te (own.map (·.2))) := by
  constructor
  intro pins s σ H Q I hh
  refine wpAny_Call_Name_kw (ld_blt I hgl hm boot_sum ?_)
  refine PyProof.Rows.callWith_builtin1 ?_ hst (by rfl)
  rw [hst]
  show wpAny _ _ (spliced ((false, eval (.GeneratorExp elt [⟨tg, iter, ifs, 0⟩] scope gpos) X.env) :: backTo pos (starEach [] X.env))) _ _ s
  refine Calls.spliced_cons (gx_make hr hcalm hN TB hcode ok hi hs hg ht he I hh fun ga s5 R => Calls.spliced_nil ?_)
  obtain ⟨Z, gi, n, c0, hgen, hgs, hl, hb, eP, eW, back, _, hOS, seg⟩ := R
  rw [← eP, ← eW] at *
  refine call_function_tree F.kind_sum F.plain_sum F.entry_sum (F.args_sum1 _) ?_
  unfold Builtin.«sum»
  simp only [List.length_cons, List.length_nil]
  rw [if_neg (by decide)]
  refine wpAny_bind (wpAny_of_eq (show Builtin.Builtins.bindParams "sum" ["start"] 0 { } = pure [none] from rfl) ?_)
  refine wpAny_bind (wpAny_pyIter_gen hgen ?_)
  refine wpAny_bind (wpAny_mkInt ?_)
  refine wpAny_bind (wpAny_pure ?_)
  simp only [List.forIn_cons, List.forIn_nil]
  refine wpAny_bind (wpAny_bind (wpAny_bind (wpAny_isInstance (T := "int") (b := false) (typeIs_int _ _ _) PySem.sub_int_str ?_)))
  simp only [Bool.false_eq_true, if_false]
  refine wpAny_pure (wpAny_bind (wpAny_bind (wpAny_isInstance (T := "int") (b := false) (typeIs_int _ _ _) PySem.sub_int_bytes ?_)))
  simp only [Bool.false_eq_true, if_false]
  refine wpAny_pure (wpAny_bind (wpAny_bind (wpAny_isInstance (T := "int") (b := false) (typeIs_int _ _ _) PySem.sub_int_bytearray ?_)))
  simp only [Bool.false_eq_true, if_false]
  refine wpAny_pure (wpAny_pure ?_)
  refine wpAny_bind (wpAny_newObj_type ?_)
  obtain ⟨hO, hSg⟩ := hOS s5.heap.objs.size (Nat.le_refl _)
  have kp : ∀ b o, s5.heap.get? b = some o → (s5.heap.push { cls := .type "list", data := .seq #[.int 0 s5.toks] }).get? b = some o := fun b o e => Heap.get?_push_of_some _ e
  have hS : (s5.heap.push { cls := .type "list", data := .seq #[.int 0 s5.toks] }).get? s5.heap.objs.size = some (sumO 0 s5.toks 0) := Heap.get?_push_size _ rfl
  refine wpAny_pure ⟨plainId_quiet F.plain_sum_loop _, sum_drain (Z := Z) (g := gi) (Q := Q) hSg hr.hd hr.depth (fun z t H' τ s' I' q => ?_) n _ 0 (.inl rfl) (hgen.keeps kp) (hl.keeps kp) ⟨0, _, _, hS⟩ ⟨_, hgs, rfl, seg [ga, s5.heap.objs.size] _ _ hO (fun b hb => ?_) kp rfl (allBare_setGen (s := { s5 with heap := _, toks := _ }) hb rfl) (fun b hb => ?_) ⟨_, _, hS⟩⟩⟩
  · exact ⟨.int z, H', back τ H' s' I', ⟨t, rfl⟩, q⟩
  · rcases List.mem_cons.mp hb with e | e
    · exact .inl e
    · exact .inr (by rw [List.mem_singleton.mp e]; exact Nat.le_refl _)
  · rcases List.mem_cons.mp hb with e | e
    · rw [e]
      obtain ⟨o, nm, qn, ho, h1, h2, h3⟩ := hgen
      exact ⟨o, kp _ _ ho, fun v q => by rw [h2] at q; cases q⟩
    · rw [List.mem_singleton.mp e]
      exact ⟨_, hS, fun v q => by cases q⟩
end
end
/-! ### defs that hold generator expressions: their code objects and tables -/
structure FunC (K : PySem.W.Frag) (x qual : Str) (st : Stmt) (f : Addr) (fd : FuncData) (c : Addr) : Prop where
  ex : ∃ (oc : Value) (od : Option Addr) (kV doc pm : Value) (an : Option Addr) (ct : Value) (osl : Array (Option Value)),
    fd = PySem.W.fnOf x qual (defArgs st) (defBody st) (defScope st) .none kV doc pm an (.ref c) ct ∧ K.lookup f = some ⟨oc, od, .func fd, osl⟩ ∧ PySem.W.codeIn K (.ref c) qual = true
section
variable {P : Program} {w : World} {K : PySem.W.Frag} {mg : Str → Option Value} {base : Heap}
theorem FunC.ok {x qual : Str} {st : Stmt} {f c : Addr} {fd : FuncData} {N ps : List Str} {k : Nat} {sp : Sp} (F : FunC K x qual st f fd c) (S : FnScope N ps (defScope st)) (len : ∀ vs H Q E, sp vs H Q E → vs.length = ps.length)
    (hbody : ∀ (A : Around) (outer : List Env) (s : Shared) (H : Hp) (vs : List V) (Q : VK) (E : XK), Room k (A.deeper (envOfC qual (defScope st) s.heap.objs.size f (.ref c))) → sp vs H Q E →
      ∃ t, PSs (cxOf CX0 P w K mg base N qual (defScope st) f (.ref c) A outer s H E).nox (defBody st) t ∧ t { nx := fun _ H' => Q .non H', rt := Q } (start N vs) H) : FnOk P w K mg base CX0 (k + 1) f fd ps sp := by
  obtain ⟨oc, od, kV, doc, pm, an, ct, osl, rfl, lk, hcd⟩ := F.ex
  refine fn_of lk hcd S len fun A outer s H vs Q E hr hsp => ?_
  obtain ⟨t, h, q⟩ := hbody A outer s H vs Q E hr hsp
  exact ⟨t, h.nox, q⟩
theorem FunC.okX {x qual : Str} {st : Stmt} {f c : Addr} {fd : FuncData} {N ps : List Str} {k : Nat} {sp : Sp} (F : FunC K x qual st f fd c) (S : FnScope N ps (defScope st)) (len : ∀ vs H Q E, sp vs H Q E → vs.length = ps.length)
    (hbody : ∀ (A : Around) (outer : List Env) (s : Shared) (H : Hp) (vs : List V) (Q : VK) (E : XK), Room k (A.deeper (envOfC qual (defScope st) s.heap.objs.size f (.ref c))) → sp vs H Q E →
      ∃ t, PSs (cxOf (L2.CX P w) P w K mg base N qual (defScope st) f (.ref c) A outer s H E) (defBody st) t ∧ t { nx := fun _ H' => Q .non H', rt := Q } (start N vs) H) : FnOk P w K mg base (L2.CX P w) (k + 1) f fd ps sp := by
  obtain ⟨oc, od, kV, doc, pm, an, ct, osl, rfl, lk, hcd⟩ := F.ex
  exact fn_of lk hcd S len fun A outer s H vs Q E hr hsp => hbody A outer s H vs Q E hr hsp
end
/-- the head's word about a def's code object and its table -/
def TabRec (h : Heap) (mg : Str → Option Value) (nm : Str) : Prop := ∃ (a : Addr) (o : Obj) (fd : FuncData) (c P : Addr), mg nm = some (.ref a) ∧ h.get? a = some o ∧ o.data = .func fd ∧ fd.code = .ref c ∧ h.IsCode c P #[] ∧ h.TableAt c P #[]
theorem walk_tabs {l : PySem.W.OpenLaw} {n k : Nat} {q : Program} {loose : List Str} {XP : (Str → Option Value) → Heap → Prop} {YP : World → Heap → Prop} {d : DefRec} {K : Params → PySem.W.Frag} {CX : World → CXT} {x : Str} (nms : List Str)
    (hn : l.most = some n) (hn2 : n ≤ sizeLine) (hdf : d.params.defaults = []) (hr : Room k callerA) (hrec : (nms.all fun nm => (recsOf q).any fun e => e.name == nm) = true) (hY : ∀ (w : World) (h : Heap), YP w h → (K w.params).In h)
    (F : ∀ (w : World) (mg : Str → Option Value) (fa : Addr) (h : Heap), (K w.params).In h → h.Ns mainGlobals mg → mg d.name = some (.ref fa) → (∀ nm ∈ nms, TabRec h mg nm) → LamX.LawAtS l w (K w.params) (CX w) k n x mg fa h)
    (hCX : ∀ (w : World) (H : Hp) (s : Shared) (e : Value) (s' : Shared), CX w [] H s (fun _ _ _ => False) e s' → False) :
    PySem.W.WalkO q loose XP YP l.row.toRowW d [] (fun f vs => PySem.call f vs) := by
  refine Att.attach_callB hn hdf fun w s0 s1 mg mb fa o pm cd doc a vs ns G Y ho hd hcd hmg hobj hints hlen hbits hg => ?_
  have KX := hY w _ Y
  have tabs : ∀ nm ∈ nms, TabRec s1.heap mg nm := fun nm hm => by
    obtain ⟨dL, h1, h2⟩ := List.any_eq_true.mp (List.all_eq_true.mp hrec nm hm)
    obtain ⟨a', o', fd', c', P', k1, k2, k3, k4, k5, k6⟩ := G.T.tab dL h1
    rw [beq_iff_eq.mp h2] at k1
    exact ⟨a', o', fd', c', P', k1, k2, k3, k4, k5, k6⟩
  obtain ⟨fd, cs, sp, hT, nT, C, hb, hsp, hF⟩ := F w mg fa _ KX G.T.g hmg tabs
  exact LamX.law_callTs KX G.T.g G.T.b G.T.builtins G.T.nolimit hg hT nT C G.T.bmain hobj hints (Nat.le_trans hlen hn2) hr hF hb (fun H hH hS => hsp H a ns hlen hbits hH hS) fun H e s' => hCX w H s1 e s'
/-- the table of the def at f, as the written part names it -/
theorem tab_of {K : PySem.W.Frag} {h : Heap} {mg : Str → Option Value} {nm : Str} {f c P : Addr} {fd : FuncData} {oc : Value} {od : Option Addr} {osl : Array (Option Value)} {ec : Value} {dc : Option Addr} {vc : Array Value} {sl : Array (Option Value)} (X : K.In h) (R : TabRec h mg nm)
    (g : mg nm = some (.ref f)) (lf : K.lookup f = some ⟨oc, od, .func fd, osl⟩) (hc : fd.code = .ref c) (lc : K.lookup c = some ⟨ec, dc, .fields vc, sl⟩) (h11 : vc[11]? = some (.ref P)) :
    h.get? P = some { cls := .none, data := .fields #[] } ∧ PySem.W.CodeHd h c P := by
  obtain ⟨a, o, fd', c', P', k1, k2, k3, k4, k5, k6⟩ := R
  rw [g] at k1
  cases k1
  rw [X _ _ lf] at k2
  cases k2
  cases k3
  rw [hc] at k4
  cases k4
  have hd := PySem.W.CodeHd.of k5 k6
  obtain ⟨⟨o2, v2, e1, _, e3, e4⟩, hP⟩ := k6
  rw [X _ _ lc] at e1
  cases e1
  cases e3
  rw [h11] at e4
  cases e4
  exact ⟨hP, hd⟩
/-- the tables stand -/
def Tb (Ps : List Addr) (H : Hp) : Prop := ∀ P ∈ Ps, GxR.TabG H P
theorem Tb.same {Ps : List Addr} {H H' : Hp} (t : Tb Ps H) (e : Same H H') : Tb Ps H' := fun P hP => by
  obtain ⟨ps, h1, h2⟩ := t P hP
  exact ⟨ps, e _ _ h1, h2⟩
theorem Tb.chg {Ps L : List Addr} {H H' : Hp} (t : Tb Ps H) (e : Chg L H H') (n : ∀ P ∈ Ps, P ∉ L) : Tb Ps H' := fun P hP => by
  obtain ⟨ps, h1, h2⟩ := t P hP
  exact ⟨ps, e _ _ (n P hP) h1, h2⟩
theorem Tb.out {Ps : List Addr} {H : Hp} {a : Addr} {o : HO} (t : Tb Ps H) (h : H a = some o) (n : ∀ ps, o ≠ .tbl ps) : a ∉ Ps := fun hm => by
  obtain ⟨ps, h1, _⟩ := t a hm
  rw [h] at h1
  exact n ps (Option.some.inj h1)
theorem Tb.new {Ps : List Addr} {H : Hp} {a : Addr} (t : Tb Ps H) (h : H a = none) : a ∉ Ps := fun hm => by
  obtain ⟨ps, h1, _⟩ := t a hm
  rw [h] at h1
  cases h1
theorem Tb.lsts {Ps : List Addr} {H : Hp} (t : Tb Ps H) : Lsts Ps H := fun P hP xs z => by
  obtain ⟨ps, h1, _⟩ := t P hP
  rw [h1] at z
  cases z
theorem Tb.tabbed {Ps : List Addr} {H H' : Hp} {P : Addr} (t : Tb Ps H) (hP : P ∈ Ps) (e : GxR.Tabbed P H H') : Tb Ps H' ∧ Chg Ps H H' := by
  refine ⟨fun Q hQ => ?_, fun b o n h => ?_⟩
  · by_cases z : Q = P
    · rw [z]
      exact e.1
    · obtain ⟨ps, h1, h2⟩ := t Q hQ
      exact ⟨ps, by rw [e.2 Q z]; exact h1, h2⟩
  · have z : b ≠ P := fun z => n (by rw [z]; exact hP)
    rw [e.2 b z]
    exact h
/-! ### all but what stands at L is kept; tables of code objects may grow -/
def Kp (L : List Addr) (H H' : Hp) : Prop := ∀ b o, b ∉ L → H b = some o → H' b = some o ∨ ∃ ps qs, o = .tbl ps ∧ H' b = some (.tbl qs)
theorem Kp.refl (L : List Addr) (H : Hp) : Kp L H H := fun _ _ _ h => .inl h
theorem Kp.trans {L : List Addr} {H H1 H2 : Hp} (a : Kp L H H1) (b : Kp L H1 H2) : Kp L H H2 := fun c o n h => by
  rcases a c o n h with z | ⟨ps, qs, rfl, z⟩
  · exact b c o n z
  · rcases b c _ n z with y | ⟨ps', qs', _, y⟩
    · exact .inr ⟨ps, qs, rfl, y⟩
    · exact .inr ⟨ps, qs', rfl, y⟩
theorem Kp.chg {L : List Addr} {H H' : Hp} (c : Chg L H H') : Kp L H H' := fun b o n h => .inl (c b o n h)
theorem Kp.of {L : List Addr} {H H' : Hp} (c : Same H H') : Kp L H H' := fun b o _ h => .inl (c b o h)
theorem Kp.mono {L L' : List Addr} {H H' : Hp} (a : Kp L H H') (h : ∀ x ∈ L, x ∈ L') : Kp L' H H' := fun c o n e => a c o (fun q => n (h c q)) e
theorem Kp.nil {L : List Addr} {H H' : Hp} (a : Kp [] H H') : Kp L H H' := a.mono fun _ h => nomatch h
theorem Kp.lst {L : List Addr} {H H' : Hp} (a : Kp L H H') {l : Addr} {us : List V} (n : l ∉ L) (h : H l = some (.lst us)) : H' l = some (.lst us) := by
  rcases a l _ n h with z | ⟨ps, qs, z, _⟩
  · exact z
  · cases z
theorem Kp.tup {L : List Addr} {H H' : Hp} (a : Kp L H H') {l : Addr} {us : List V} (n : l ∉ L) (h : H l = some (.tup us)) : H' l = some (.tup us) := by
  rcases a l _ n h with z | ⟨ps, qs, z, _⟩
  · exact z
  · cases z
theorem Kp.free {L : List Addr} {H H' : Hp} (a : Kp L H H') {l : Addr} (hl : l ∉ L) (h : H' l = none) : H l = none := by
  cases q : H l with
  | none => rfl
  | some o =>
    rcases a l o hl q with z | ⟨ps, qs, _, z⟩
    · rw [z] at h
      cases h
    · rw [z] at h
      cases h
theorem Kp.seq {K : PySem.W.Frag} {L : List Addr} {H H' : Hp} {a : Addr} {xs : List V} (e : Kp L H H') (n : a ∉ L) (h : SqL K H a xs) : SqL K H' a xs := by
  rcases h with (h | ⟨o, h⟩) | h
  · exact .inl (.inl (e.lst n h))
  · rcases e a _ n h with z | ⟨ps, qs, z, _⟩
    · exact .inl (.inr ⟨o, z⟩)
    · cases z
  · exact .inr h
theorem Kp.spn {L : List Addr} {H H' : Hp} (e : Kp L H H') (l : Lsts L H) {v : V} {s : Span} (h : Spn H v s) : Spn H' v s := by
  obtain ⟨t, rfl, ht⟩ := h
  exact ⟨t, rfl, e.tup (fun q => l t q _ ht) ht⟩
theorem Kp.sps {L : List Addr} {H H' : Hp} (e : Kp L H H') (l : Lsts L H) : ∀ {vs : List V} {ss : List Span}, Sps H vs ss → Sps H' vs ss
  | _, _, .nil => .nil
  | _, _, .cons h t => .cons (e.spn l h) (Kp.sps e l t)
theorem lsts0 (H : Hp) : Lsts [] H := fun _ h => nomatch h
theorem Kp.pu {L : List Addr} {H H' : Hp} {p : Addr} {n : Nat} (e : Kp L H H') (hp : p ∉ L) (h : Pu H p n) : Pu H' p n := by
  obtain ⟨a, b, c, h1, h2⟩ := h
  exact ⟨a, b, c, e.lst hp h1, h2⟩
theorem Kp.upd {L : List Addr} {H : Hp} {p : Addr} {o : HO} (h : p ∈ L) : Kp L H (upd H p o) := .chg (Chg.upd h)
theorem Kp.new {L : List Addr} {H H' : Hp} {p : Addr} {o : HO} (e : Kp L H H') (n : H' p = none) : Kp L H (L2.upd H' p o) := e.trans (.of (same_upd n))
/-- a new object changed: nothing of what stood before is -/
theorem Kp.own {L : List Addr} {H H' : Hp} {p : Addr} {o : HO} (e : Kp L H H') (n : H p = none) : Kp L H (L2.upd H' p o) := fun b x nb h => by
  have hne : b ≠ p := ne_of_none h n
  rw [upd_ne hne]
  exact e b x nb h
theorem Kp.tb {Ps L : List Addr} {H H' : Hp} (e : Kp L H H') (hL : ∀ P ∈ Ps, P ∉ L) (hT : ∀ P ∈ Ps, GxR.TabG H P → ∀ qs, H' P = some (.tbl qs) → TriplesOk qs.toList) (t : Tb Ps H) : Tb Ps H' := fun P hP => by
  obtain ⟨ps, h1, h2⟩ := t P hP
  rcases e P _ (hL P hP) h1 with z | ⟨_, qs, _, z⟩
  · exact ⟨ps, z, h2⟩
  · exact ⟨qs, z, hT P hP (t P hP) qs z⟩
theorem Tb.kp {Ps : List Addr} {P : Addr} {H H' : Hp} (t : Tb Ps H) (mP : P ∈ Ps) (h : GxR.Tabbed P H H') : Tb Ps H' ∧ Kp [] H H' := by
  refine ⟨fun Q hQ => ?_, fun b o _ e => ?_⟩
  · by_cases q : Q = P
    · rw [q]
      exact h.1
    · obtain ⟨ps, h1, h2⟩ := t Q hQ
      exact ⟨ps, by rw [h.2 Q q]; exact h1, h2⟩
  · by_cases q : b = P
    · obtain ⟨ps, h1, _⟩ := t P mP
      obtain ⟨qs, h3, _⟩ := h.1
      rw [q] at e ⊢
      rw [h1] at e
      cases e
      exact .inr ⟨ps, qs, rfl, h3⟩
    · exact .inl (by rw [h.2 b q]; exact e)
theorem Tb.own {Ps : List Addr} {H H' : Hp} {p : Addr} {o : HO} (t : Tb Ps H') (n : H p = none) (t0 : Tb Ps H) : Tb Ps (upd H' p o) := fun P hP => by
  obtain ⟨ps, h1, h2⟩ := t P hP
  obtain ⟨qs, h3, _⟩ := t0 P hP
  exact ⟨ps, by rw [upd_ne (ne_of_none h3 n)]; exact h1, h2⟩
theorem Tb.at1 {Ps : List Addr} {H : Hp} {p : Addr} {o : HO} (t : Tb Ps H) (hp : p ∉ Ps) : Tb Ps (upd H p o) := fun P hP => by
  obtain ⟨ps, h1, h2⟩ := t P hP
  exact ⟨ps, by rw [upd_ne (fun z => hp (by rw [← z]; exact hP))]; exact h1, h2⟩
theorem iteNT {c A B : Prop} [Decidable c] (hc : ¬ c) (h : A) : if (!decide c) = true then A else B := by
  rw [decide_eq_false hc]
  exact h
/-! walks of generator expressions over a list, a range -/
theorem gx_list {α : Type} {K : PySem.W.Frag} {a : Addr} {xs : List V} {g : TG} {tt : TT} {te : TE} {vs : List Nat} {σ : L2.St} {c : Cons α} {a0 : α} {Q : VK} {H1 : Hp} (Pv : Nat → α → Hp → Prop) (h0 : Pv 0 a0 H1) (hl : ∀ i z H, i ≤ xs.length → Pv i z H → SqL K H a xs)
    (hs : ∀ i x z H, xs[i]? = some x → Pv i z H → g x (wipe σ vs) H fun σ2 H2 => wipe σ2 vs = wipe σ vs ∧ tt σ2 H2 fun b H3 => if b = true then te σ2 H3 fun y H4 => c.step z y (fun z' => Pv (i + 1) z' H4) (fun u => Q u H4) else Pv (i + 1) z H3)
    (hd : ∀ z H, Pv xs.length z H → c.fin z (fun u => Q u H)) : ∃ W : Nat → Nat → α → Hp → Prop, (∃ m, W 0 m a0 H1) ∧ Runs1 (Itl K a) g tt te vs σ c Q W := by
  refine ⟨fun i m z H => m = xs.length - i ∧ i ≤ xs.length ∧ Pv i z H, ⟨xs.length, by simp, Nat.zero_le _, h0⟩, ?_⟩
  rintro i m z H ⟨rfl, hi, p⟩
  have q := hl i z H hi p
  by_cases hlt : i < xs.length
  · refine .inr ⟨⟨xs, xs[i], q, by simp [hlt]⟩, Pv (i + 1), fun z' H' p' => ⟨xs.length - (i + 1), by omega, rfl, hlt, p'⟩, fun x H' y => ?_⟩
    obtain ⟨e, y⟩ := y
    subst e
    exact hs i x z _ (y xs q) p
  · have e : i = xs.length := by omega
    subst e
    exact .inl ⟨⟨xs, q, Nat.le_refl _⟩, hd z H p⟩
theorem gx_range {α : Type} {lo : Int} {n : Nat} {g : TG} {tt : TT} {te : TE} {vs : List Nat} {σ : L2.St} {c : Cons α} {a0 : α} {Q : VK} {H1 : Hp} (Pv : Nat → α → Hp → Prop) (h0 : Pv 0 a0 H1)
    (hs : ∀ i z H, i < n → Pv i z H → g (.int (lo + i)) (wipe σ vs) H fun σ2 H2 => wipe σ2 vs = wipe σ vs ∧ tt σ2 H2 fun b H3 => if b = true then te σ2 H3 fun y H4 => c.step z y (fun z' => Pv (i + 1) z' H4) (fun u => Q u H4) else Pv (i + 1) z H3)
    (hd : ∀ z H, Pv n z H → c.fin z (fun u => Q u H)) : ∃ W : Nat → Nat → α → Hp → Prop, (∃ m, W 0 m a0 H1) ∧ Runs1 (Itr lo n) g tt te vs σ c Q W := by
  refine ⟨fun i m z H => m = n - i ∧ i ≤ n ∧ Pv i z H, ⟨n, by simp, Nat.zero_le _, h0⟩, ?_⟩
  rintro i m z H ⟨rfl, hi, p⟩
  by_cases hlt : i < n
  · refine .inr ⟨hlt, Pv (i + 1), fun z' H' p' => ⟨n - (i + 1), by omega, rfl, hlt, p'⟩, fun x H' y => ?_⟩
    obtain ⟨e, y⟩ := y
    subst e y
    exact hs i z _ hlt p
  · have e : i = n := by omega
    subst e
    exact .inl ⟨Nat.le_refl _, hd z H p⟩
/-! ### rows: tuples of whole numbers, lists of them -/
def rwD (r : List Int) : PyData := .tuple (r.map PyData.int)
def Rw (H : Hp) (v : V) (r : List Int) : Prop := ∃ t, v = .ref t ∧ H t = some (.tup (r.map V.int))
inductive Rws (H : Hp) : List V → List (List Int) → Prop where
  | nil : Rws H [] []
  | cons {v : V} {s : List Int} {vs : List V} {ss : List (List Int)} : Rw H v s → Rws H vs ss → Rws H (v :: vs) (s :: ss)
theorem Kp.rw {L : List Addr} {H H' : Hp} (e : Kp L H H') (l : Lsts L H) {v : V} {s : List Int} (h : Rw H v s) : Rw H' v s := by
  obtain ⟨t, rfl, ht⟩ := h
  exact ⟨t, rfl, e.tup (fun q => l t q _ ht) ht⟩
theorem Kp.rws {L : List Addr} {H H' : Hp} (e : Kp L H H') (l : Lsts L H) : ∀ {vs : List V} {ss : List (List Int)}, Rws H vs ss → Rws H' vs ss
  | _, _, .nil => .nil
  | _, _, .cons h t => .cons (e.rw l h) (Kp.rws e l t)
theorem Rws.same {H H' : Hp} {vs : List V} {ss : List (List Int)} (h : Rws H vs ss) (e : Same H H') : Rws H' vs ss := (Kp.of (L := []) e).rws (lsts0 H) h
theorem Rws.len {H : Hp} : ∀ {vs : List V} {ss : List (List Int)}, Rws H vs ss → vs.length = ss.length
  | _, _, .nil => rfl
  | _, _, .cons _ t => congrArg (· + 1) t.len
theorem Rws.app {H : Hp} : ∀ {vs ws : List V} {ss ts : List (List Int)}, Rws H vs ss → Rws H ws ts → Rws H (vs ++ ws) (ss ++ ts)
  | _, _, _, _, .nil, h => h
  | _, _, _, _, .cons a t, h => .cons a (Rws.app t h)
theorem Rws.one {H : Hp} {v : V} {s : List Int} (h : Rw H v s) : Rws H [v] [s] := .cons h .nil
theorem Rws.get {H : Hp} : ∀ {vs : List V} {ss : List (List Int)} {i : Nat} {v : V}, Rws H vs ss → vs[i]? = some v → ∃ s, ss[i]? = some s ∧ Rw H v s
  | _, _, _, _, .nil, e => by simp at e
  | _, _, 0, v, .cons (s := s) h t, e => ⟨s, rfl, by
      have q := Option.some.inj (show some _ = some v from e)
      rw [← q]
      exact h⟩
  | _, _, i + 1, v, .cons h t, e => Rws.get (i := i) t e
theorem Rws.get' {H : Hp} : ∀ {vs : List V} {ss : List (List Int)} {i : Nat} {s : List Int}, Rws H vs ss → ss[i]? = some s → ∃ v, vs[i]? = some v ∧ Rw H v s
  | _, _, _, _, .nil, e => by simp at e
  | _, _, 0, s, .cons (v := v) h t, e => ⟨v, rfl, by
      have q := Option.some.inj (show some _ = some s from e)
      rw [← q]
      exact h⟩
  | _, _, i + 1, v, .cons h t, e => Rws.get' (i := i) t e
theorem Rw.dp {K : PySem.W.Frag} {H : Hp} {v : V} {s : List Int} (h : Rw H v s) : Dp K H v (rwD s) := by
  obtain ⟨t, rfl, ht⟩ := h
  exact .tup (SqT.of ht) (dpAll_ints s)
theorem Rws.dpAll {K : PySem.W.Frag} {H : Hp} : ∀ {vs : List V} {ss : List (List Int)}, Rws H vs ss → DpAll K H vs (ss.map rwD)
  | _, _, .nil => .nil
  | _, _, .cons h t => .cons h.dp t.dpAll
theorem Rws.dp {K : PySem.W.Frag} {H : Hp} {a : Addr} {vs : List V} {ss : List (List Int)} (h : Rws H vs ss) (q : SqL K H a vs) : Dp K H (.ref a) (.list (ss.map rwD)) := .lst q h.dpAll
theorem lay_row (r : List Int) : PyData.canLay0 (rwD r) = true ∧ PyData.depth (rwD r) = 1 := by
  obtain ⟨h1, h2⟩ := lay_ints r
  refine ⟨h1, ?_⟩
  show PyData.depthAll (r.map PyData.int) + 1 = 1
  rw [h2]
theorem lay_rows : ∀ ss : List (List Int), PyData.canLayAll0 (ss.map rwD) = true ∧ PyData.depthAll (ss.map rwD) ≤ 1
  | [] => ⟨rfl, by decide⟩
  | s :: r => by
    obtain ⟨h1, h2⟩ := lay_rows r
    obtain ⟨h3, h4⟩ := lay_row s
    refine ⟨?_, ?_⟩
    · show (PyData.canLay0 (rwD s) && PyData.canLayAll0 (r.map rwD)) = true
      rw [h1, h3]
      rfl
    · show max (PyData.depth (rwD s)) (PyData.depthAll (r.map rwD)) ≤ 1
      rw [h4]
      omega
theorem shaped_rows (ss : List (List Int)) : SeqAt.shaped (.list (ss.map rwD)) = true := by
  obtain ⟨h1, h2⟩ := lay_rows ss
  show (PyData.canLayAll0 (ss.map rwD) && decide (PyData.depthAll (ss.map rwD) + 1 ≤ 64)) = true
  rw [h1, decide_eq_true (by omega)]
  rfl
theorem shaped_row (r : List Int) : SeqAt.shaped (rwD r) = true := by
  obtain ⟨h1, h2⟩ := lay_ints r
  show (PyData.canLayAll0 (r.map PyData.int) && decide (PyData.depthAll (r.map PyData.int) + 1 ≤ 64)) = true
  rw [h1, h2]
  rfl
theorem eqvAll_nums : ∀ ss ts : List Int, PyData.eqvAll (ss.map PyData.int) (ts.map PyData.int) = decide (ss = ts)
  | [], [] => rfl
  | [], _ :: _ => rfl
  | _ :: _, [] => rfl
  | s :: ss, t :: ts => by
    show (PyData.eqv (.int s) (.int t) && PyData.eqvAll (ss.map PyData.int) (ts.map PyData.int)) = _
    rw [eqvAll_nums ss ts]
    have e : PyData.eqv (.int s) (.int t) = decide (s = t) := by simp [PyData.eqv, Bool.beq_eq_decide_eq]
    rw [e]
    by_cases h : s = t <;> by_cases h2 : ss = ts <;> simp [h, h2]
theorem eqv_row (s t : List Int) : PyData.eqv (rwD s) (rwD t) = decide (s = t) := eqvAll_nums s t
theorem eqvAll_rows : ∀ ss ts : List (List Int), PyData.eqvAll (ss.map rwD) (ts.map rwD) = decide (ss = ts)
  | [], [] => rfl
  | [], _ :: _ => rfl
  | _ :: _, [] => rfl
  | s :: ss, t :: ts => by
    show (PyData.eqv (rwD s) (rwD t) && PyData.eqvAll (ss.map rwD) (ts.map rwD)) = _
    rw [eqv_row, eqvAll_rows ss ts]
    by_cases h : s = t <;> by_cases h2 : ss = ts <;> simp [h, h2]
theorem eqv_rows (ss ts : List (List Int)) : PyData.eqv (.list (ss.map rwD)) (.list (ts.map rwD)) = decide (ss = ts) := eqvAll_rows ss ts
theorem eqv_rows_nil (ss : List (List Int)) : PyData.eqv (.list (ss.map rwD)) (.list []) = decide (ss = []) := eqvAll_rows ss []
theorem eqv_nums (ss ts : List Int) : PyData.eqv (.list (ss.map PyData.int)) (.list (ts.map PyData.int)) = decide (ss = ts) := eqvAll_nums ss ts
/-! ### lists of spans as they stand -/
def Lq (H : Hp) (l : Addr) (ss : List Span) : Prop := ∃ us, H l = some (.lst us) ∧ Sps H us ss
theorem Kp.lq {L : List Addr} {H H' : Hp} (e : Kp L H H') {l : Addr} (n : l ∉ L) (hL : Lsts L H) {ss : List Span} (h : Lq H l ss) : Lq H' l ss := by
  obtain ⟨us, h1, h2⟩ := h
  exact ⟨us, e.lst n h1, e.sps hL h2⟩
theorem Lq.same {H H' : Hp} {l : Addr} {ss : List Span} (h : Lq H l ss) (e : Same H H') : Lq H' l ss := (Kp.of (L := []) e).lq List.not_mem_nil (lsts0 H) h
theorem Lq.dp {K : PySem.W.Frag} {H : Hp} {l : Addr} {ss : List Span} (h : Lq H l ss) : Dp K H (.ref l) (.list (ss.map spD)) := by
  obtain ⟨us, h1, h2⟩ := h
  exact h2.dp (SqL.of h1)
theorem cut_take {xs : List V} {z : Int} {k : Nat} (e : z = (k : Int)) : cutV xs none (some z) = xs.take k := by
  subst e
  unfold cutV
  rw [HT.sIx_none, HT.sIx_nat, List.drop_zero, Nat.sub_zero]
  by_cases h : k ≤ xs.length
  · rw [Nat.min_eq_left h]
  · rw [Nat.min_eq_right (by omega), List.take_length, List.take_of_length_le (by omega)]
theorem cut_drop {xs : List V} {z : Int} {k : Nat} (e : z = (k : Int)) (h : k ≤ xs.length) : cutV xs (some z) none = xs.drop k := by
  subst e
  unfold cutV
  rw [HT.sIx_none, HT.sIx_nat, Nat.min_eq_left h]
  exact List.take_of_length_le (by rw [List.length_drop]; exact Nat.le_refl _)
theorem Sps.takeN {H : Hp} : ∀ {vs : List V} {ss : List Span} (n : Nat), Sps H vs ss → Sps H (vs.take n) (ss.take n)
  | _, _, 0, _ => by
    rw [List.take_zero, List.take_zero]
    exact .nil
  | _, _, _ + 1, .nil => .nil
  | _, _, n + 1, .cons h t => .cons h (Sps.takeN n t)
theorem Sps.dropN {H : Hp} : ∀ {vs : List V} {ss : List Span} (n : Nat), Sps H vs ss → Sps H (vs.drop n) (ss.drop n)
  | _, _, 0, h => h
  | _, _, _ + 1, .nil => .nil
  | _, _, n + 1, .cons _ t => Sps.dropN n t
theorem Sps.rev {H : Hp} {vs : List V} {ts : List Span} (h : Sps H vs ts) : Sps H vs.reverse ts.reverse := by
  induction h with
  | nil => exact .nil
  | cons a b ih =>
    rw [List.reverse_cons, List.reverse_cons]
    exact ih.app (.one a)
theorem nodup_len : ∀ {l m : List Int}, l.Nodup → (∀ x ∈ l, x ∈ m) → l.length ≤ m.length
  | [], _, _, _ => Nat.zero_le _
  | a :: l, m, h, sub => by
    have ha := sub a List.mem_cons_self
    have h1 := List.nodup_cons.mp h
    have ih := nodup_len (l := l) (m := m.erase a) h1.2 fun x hx => by
      have ne : x ≠ a := fun z => h1.1 (by rw [← z]; exact hx)
      exact (List.mem_erase_of_ne ne).mpr (sub x (List.mem_cons_of_mem _ hx))
    rw [List.length_erase_of_mem ha] at ih
    have hp := List.length_pos_of_mem ha
    show l.length + 1 ≤ m.length
    omega
def topS (i : Nat) : Stmt := PySem.Challenge.pw_spanshelf_k10_depths.main.body.getD i (.Pass ⟨0, 0, 0, 0⟩)
abbrev s_is_whole : Stmt := topS 17
abbrev N_is_whole : List Str := ["number"]
theorem sc_is_whole : FnScope N_is_whole ["number"] (defScope s_is_whole) := ⟨rfl, rfl, rfl, by decide +kernel, rfl, by decide +kernel, by decide +kernel⟩
abbrev s_is_place : Stmt := topS 18
abbrev N_is_place : List Str := ["number"]
theorem sc_is_place : FnScope N_is_place ["number"] (defScope s_is_place) := ⟨rfl, rfl, rfl, by decide +kernel, rfl, by decide +kernel, by decide +kernel⟩
abbrev s_is_span : Stmt := topS 19
abbrev N_is_span : List Str := ["span", "low", "high"]
theorem sc_is_span : FnScope N_is_span ["span"] (defScope s_is_span) := ⟨rfl, rfl, rfl, by decide +kernel, rfl, by decide +kernel, by decide +kernel⟩
abbrev s_check_span : Stmt := topS 20
abbrev N_check_span : List Str := ["span"]
theorem sc_check_span : FnScope N_check_span ["span"] (defScope s_check_span) := ⟨rfl, rfl, rfl, by decide +kernel, rfl, by decide +kernel, by decide +kernel⟩
abbrev s_check_spans : Stmt := topS 21
abbrev N_check_spans : List Str := ["spans", "span"]
theorem sc_check_spans : FnScope N_check_spans ["spans"] (defScope s_check_spans) := ⟨rfl, rfl, rfl, by decide +kernel, rfl, by decide +kernel, by decide +kernel⟩
abbrev s_check_place : Stmt := topS 22
abbrev N_check_place : List Str := ["place"]
theorem sc_check_place : FnScope N_check_place ["place"] (defScope s_check_place) := ⟨rfl, rfl, rfl, by decide +kernel, rfl, by decide +kernel, by decide +kernel⟩
abbrev s_count_at : Stmt := topS 24
abbrev N_count_at : List Str := ["spans", "place", "low", "high"]
theorem sc_count_at : FnScope N_count_at ["spans", "place"] (defScope s_count_at) := ⟨rfl, rfl, rfl, by decide +kernel, rfl, by decide +kernel, by decide +kernel⟩
abbrev s_changes_of : Stmt := topS 25
abbrev N_changes_of : List Str := ["spans", "changes", "low", "high", "place"]
theorem sc_changes_of : FnScope N_changes_of ["spans"] (defScope s_changes_of) := ⟨rfl, rfl, rfl, by decide +kernel, rfl, by decide +kernel, by decide +kernel⟩
abbrev s_layers_of : Stmt := topS 26
abbrev N_layers_of : List Str := ["spans", "layers", "depth", "begin", "place", "change"]
theorem sc_layers_of : FnScope N_layers_of ["spans"] (defScope s_layers_of) := ⟨rfl, rfl, rfl, by decide +kernel, rfl, by decide +kernel, by decide +kernel⟩
abbrev s_deepest_layer : Stmt := topS 27
abbrev N_deepest_layer : List Str := ["spans", "best", "low", "high", "depth"]
theorem sc_deepest_layer : FnScope N_deepest_layer ["spans"] (defScope s_deepest_layer) := ⟨rfl, rfl, rfl, by decide +kernel, rfl, by decide +kernel, by decide +kernel⟩
abbrev s_depth_at : Stmt := topS 28
abbrev N_depth_at : List Str := ["spans", "place"]
theorem sc_depth_at : FnScope N_depth_at ["spans", "place"] (defScope s_depth_at) := ⟨rfl, rfl, rfl, by decide +kernel, rfl, by decide +kernel, by decide +kernel⟩
abbrev s_profile : Stmt := topS 29
abbrev N_profile : List Str := ["spans"]
theorem sc_profile : FnScope N_profile ["spans"] (defScope s_profile) := ⟨rfl, rfl, rfl, by decide +kernel, rfl, by decide +kernel, by decide +kernel⟩
abbrev s_deepest : Stmt := topS 30
abbrev N_deepest : List Str := ["spans"]
theorem sc_deepest : FnScope N_deepest ["spans"] (defScope s_deepest) := ⟨rfl, rfl, rfl, by decide +kernel, rfl, by decide +kernel, by decide +kernel⟩
abbrev s_l_at : Stmt := topS 32
abbrev N_l_at : List Str := ["_law_script", "_law_k"]
theorem sc_l_at : FnScope N_l_at ["_law_script", "_law_k"] (defScope s_l_at) := ⟨rfl, rfl, rfl, by decide +kernel, rfl, by decide +kernel, by decide +kernel⟩
abbrev s_l_mixed : Stmt := topS 33
abbrev N_l_mixed : List Str := ["_law_cell", "_law_k", "_law_number_here"]
theorem sc_l_mixed : FnScope N_l_mixed ["_law_cell", "_law_k"] (defScope s_l_mixed) := ⟨rfl, rfl, rfl, by decide +kernel, rfl, by decide +kernel, by decide +kernel⟩
abbrev s_l_purse : Stmt := topS 34
abbrev N_l_purse : List Str := ["_law_script", "_law_at_here", "_law_cell"]
theorem sc_l_purse : FnScope N_l_purse ["_law_script", "_law_at_here"] (defScope s_l_purse) := ⟨rfl, rfl, rfl, by decide +kernel, rfl, by decide +kernel, by decide +kernel⟩
abbrev s_l_draw : Stmt := topS 35
abbrev N_l_draw : List Str := ["_law_purse_here", "_law_out_of", "_law_drawn", "_law_number_here", "_law_k"]
theorem sc_l_draw : FnScope N_l_draw ["_law_purse_here", "_law_out_of"] (defScope s_l_draw) := ⟨rfl, rfl, rfl, by decide +kernel, rfl, by decide +kernel, by decide +kernel⟩
abbrev s_l_number : Stmt := topS 36
abbrev N_l_number : List Str := ["_law_purse_here", "_law_most", "_law_far"]
theorem sc_l_number : FnScope N_l_number ["_law_purse_here", "_law_most"] (defScope s_l_number) := ⟨rfl, rfl, rfl, by decide +kernel, rfl, by decide +kernel, by decide +kernel⟩
abbrev s_l_end : Stmt := topS 37
abbrev N_l_end : List Str := ["_law_purse_here", "_law_ends", "_law_most", "_law_near"]
theorem sc_l_end : FnScope N_l_end ["_law_purse_here", "_law_ends", "_law_most"] (defScope s_l_end) := ⟨rfl, rfl, rfl, by decide +kernel, rfl, by decide +kernel, by decide +kernel⟩
abbrev s_l_span : Stmt := topS 38
abbrev N_l_span : List Str := ["_law_purse_here", "_law_ends", "_law_most", "_law_one", "_law_other", "_law_low", "_law_high"]
theorem sc_l_span : FnScope N_l_span ["_law_purse_here", "_law_ends", "_law_most"] (defScope s_l_span) := ⟨rfl, rfl, rfl, by decide +kernel, rfl, by decide +kernel, by decide +kernel⟩
abbrev s_l_spans : Stmt := topS 39
abbrev N_l_spans : List Str := ["_law_purse_here", "_law_ends", "_law_most", "_law_found", "_law_k"]
theorem sc_l_spans : FnScope N_l_spans ["_law_purse_here", "_law_ends", "_law_most"] (defScope s_l_spans) := ⟨rfl, rfl, rfl, by decide +kernel, rfl, by decide +kernel, by decide +kernel⟩
abbrev s_l_holds : Stmt := topS 40
abbrev N_l_holds : List Str := ["_law_span_here", "_law_place"]
theorem sc_l_holds : FnScope N_l_holds ["_law_span_here", "_law_place"] (defScope s_l_holds) := ⟨rfl, rfl, rfl, by decide +kernel, rfl, by decide +kernel, by decide +kernel⟩
abbrev s_l_depth : Stmt := topS 41
abbrev N_l_depth : List Str := ["_law_spans_here", "_law_place", "_law_span_here"]
theorem sc_l_depth : FnScope N_l_depth ["_law_spans_here", "_law_place"] (defScope s_l_depth) := ⟨rfl, rfl, rfl, by decide +kernel, rfl, by decide +kernel, by decide +kernel⟩
abbrev s_l_whole : Stmt := topS 42
abbrev N_l_whole : List Str := ["_law_number_here"]
theorem sc_l_whole : FnScope N_l_whole ["_law_number_here"] (defScope s_l_whole) := ⟨rfl, rfl, rfl, by decide +kernel, rfl, by decide +kernel, by decide +kernel⟩
abbrev s_l_kinds : Stmt := topS 43
abbrev N_l_kinds : List Str := ["_law_e", "_law_found", "_law_k"]
theorem sc_l_kinds : FnScope N_l_kinds ["_law_e"] (defScope s_l_kinds) := ⟨rfl, rfl, rfl, by decide +kernel, rfl, by decide +kernel, by decide +kernel⟩
abbrev s_l_bad_span : Stmt := topS 44
abbrev N_l_bad_span : List Str := ["_law_purse_here", "_law_far", "_law_one", "_law_some"]
theorem sc_l_bad_span : FnScope N_l_bad_span ["_law_purse_here"] (defScope s_l_bad_span) := ⟨rfl, rfl, rfl, by decide +kernel, rfl, by decide +kernel, by decide +kernel⟩
abbrev s_l_caught : Stmt := topS 45
abbrev N_l_caught : List Str := ["_law_way", "_law_spans_here", "_law_place", "_law_caught_here", "_law_e"]
theorem sc_l_caught : FnScope N_l_caught ["_law_way", "_law_spans_here", "_law_place"] (defScope s_l_caught) := ⟨rfl, rfl, rfl, by decide +kernel, rfl, by decide +kernel, by decide +kernel⟩
abbrev s_law : Stmt := topS 46
abbrev N_law : List Str := ["_law_script", "_law_purse_here", "_law_ends", "_law_spans_here", "_law_kept", "_law_places", "_law_end_here", "_law_place", "_law_found", "_law_at_here", "_law_bad", "_law_far", "_law_way"]
theorem sc_law : FnScope N_law ["_law_script"] (defScope s_law) := ⟨rfl, rfl, rfl, by decide +kernel, rfl, by decide +kernel, by decide +kernel⟩

structure Tx (K : PySem.W.Frag) (mg : Str → Option Value) where
  f_is_whole : Addr
  fd_is_whole : FuncData
  F_is_whole : Fun K "is_whole" "is_whole" s_is_whole f_is_whole fd_is_whole
  b_is_whole : Binds K fd_is_whole ["number"] []
  g_is_whole : mg "is_whole" = some (.ref f_is_whole)
  f_is_place : Addr
  fd_is_place : FuncData
  F_is_place : Fun K "is_place" "is_place" s_is_place f_is_place fd_is_place
  b_is_place : Binds K fd_is_place ["number"] []
  g_is_place : mg "is_place" = some (.ref f_is_place)
  f_is_span : Addr
  fd_is_span : FuncData
  F_is_span : Fun K "is_span" "is_span" s_is_span f_is_span fd_is_span
  b_is_span : Binds K fd_is_span ["span"] []
  g_is_span : mg "is_span" = some (.ref f_is_span)
  f_check_span : Addr
  fd_check_span : FuncData
  F_check_span : Fun K "check_span" "check_span" s_check_span f_check_span fd_check_span
  b_check_span : Binds K fd_check_span ["span"] []
  g_check_span : mg "check_span" = some (.ref f_check_span)
  f_check_spans : Addr
  fd_check_spans : FuncData
  F_check_spans : Fun K "check_spans" "check_spans" s_check_spans f_check_spans fd_check_spans
  b_check_spans : Binds K fd_check_spans ["spans"] []
  g_check_spans : mg "check_spans" = some (.ref f_check_spans)
  f_check_place : Addr
  fd_check_place : FuncData
  F_check_place : Fun K "check_place" "check_place" s_check_place f_check_place fd_check_place
  b_check_place : Binds K fd_check_place ["place"] []
  g_check_place : mg "check_place" = some (.ref f_check_place)
  f_count_at : Addr
  fd_count_at : FuncData
  F_count_at : Fun K "count_at" "count_at" s_count_at f_count_at fd_count_at
  b_count_at : Binds K fd_count_at ["spans", "place"] []
  g_count_at : mg "count_at" = some (.ref f_count_at)
  cA_count_at : Addr
  pA_count_at : Addr
  FC_count_at : FunC K "count_at" "count_at" s_count_at f_count_at fd_count_at cA_count_at
  f_changes_of : Addr
  fd_changes_of : FuncData
  F_changes_of : Fun K "changes_of" "changes_of" s_changes_of f_changes_of fd_changes_of
  b_changes_of : Binds K fd_changes_of ["spans"] []
  g_changes_of : mg "changes_of" = some (.ref f_changes_of)
  f_layers_of : Addr
  fd_layers_of : FuncData
  F_layers_of : Fun K "layers_of" "layers_of" s_layers_of f_layers_of fd_layers_of
  b_layers_of : Binds K fd_layers_of ["spans"] []
  g_layers_of : mg "layers_of" = some (.ref f_layers_of)
  f_deepest_layer : Addr
  fd_deepest_layer : FuncData
  F_deepest_layer : Fun K "deepest_layer" "deepest_layer" s_deepest_layer f_deepest_layer fd_deepest_layer
  b_deepest_layer : Binds K fd_deepest_layer ["spans"] []
  g_deepest_layer : mg "deepest_layer" = some (.ref f_deepest_layer)
  f_depth_at : Addr
  fd_depth_at : FuncData
  F_depth_at : Fun K "depth_at" "depth_at" s_depth_at f_depth_at fd_depth_at
  b_depth_at : Binds K fd_depth_at ["spans", "place"] []
  g_depth_at : mg "depth_at" = some (.ref f_depth_at)
  f_profile : Addr
  fd_profile : FuncData
  F_profile : Fun K "profile" "profile" s_profile f_profile fd_profile
  b_profile : Binds K fd_profile ["spans"] []
  g_profile : mg "profile" = some (.ref f_profile)
  f_deepest : Addr
  fd_deepest : FuncData
  F_deepest : Fun K "deepest" "deepest" s_deepest f_deepest fd_deepest
  b_deepest : Binds K fd_deepest ["spans"] []
  g_deepest : mg "deepest" = some (.ref f_deepest)
  f_l_at : Addr
  fd_l_at : FuncData
  F_l_at : Fun K "_law_at" "_law_at" s_l_at f_l_at fd_l_at
  b_l_at : Binds K fd_l_at ["_law_script", "_law_k"] []
  g_l_at : mg "_law_at" = some (.ref f_l_at)
  f_l_mixed : Addr
  fd_l_mixed : FuncData
  F_l_mixed : Fun K "_law_mixed" "_law_mixed" s_l_mixed f_l_mixed fd_l_mixed
  b_l_mixed : Binds K fd_l_mixed ["_law_cell", "_law_k"] []
  g_l_mixed : mg "_law_mixed" = some (.ref f_l_mixed)
  f_l_purse : Addr
  fd_l_purse : FuncData
  F_l_purse : Fun K "_law_purse" "_law_purse" s_l_purse f_l_purse fd_l_purse
  b_l_purse : Binds K fd_l_purse ["_law_script", "_law_at_here"] []
  g_l_purse : mg "_law_purse" = some (.ref f_l_purse)
  f_l_draw : Addr
  fd_l_draw : FuncData
  F_l_draw : Fun K "_law_draw" "_law_draw" s_l_draw f_l_draw fd_l_draw
  b_l_draw : Binds K fd_l_draw ["_law_purse_here", "_law_out_of"] []
  g_l_draw : mg "_law_draw" = some (.ref f_l_draw)
  f_l_number : Addr
  fd_l_number : FuncData
  F_l_number : Fun K "_law_number" "_law_number" s_l_number f_l_number fd_l_number
  b_l_number : Binds K fd_l_number ["_law_purse_here", "_law_most"] []
  g_l_number : mg "_law_number" = some (.ref f_l_number)
  f_l_end : Addr
  fd_l_end : FuncData
  F_l_end : Fun K "_law_end" "_law_end" s_l_end f_l_end fd_l_end
  b_l_end : Binds K fd_l_end ["_law_purse_here", "_law_ends", "_law_most"] []
  g_l_end : mg "_law_end" = some (.ref f_l_end)
  f_l_span : Addr
  fd_l_span : FuncData
  F_l_span : Fun K "_law_span" "_law_span" s_l_span f_l_span fd_l_span
  b_l_span : Binds K fd_l_span ["_law_purse_here", "_law_ends", "_law_most"] []
  g_l_span : mg "_law_span" = some (.ref f_l_span)
  f_l_spans : Addr
  fd_l_spans : FuncData
  F_l_spans : Fun K "_law_spans" "_law_spans" s_l_spans f_l_spans fd_l_spans
  b_l_spans : Binds K fd_l_spans ["_law_purse_here", "_law_ends", "_law_most"] []
  g_l_spans : mg "_law_spans" = some (.ref f_l_spans)
  f_l_holds : Addr
  fd_l_holds : FuncData
  F_l_holds : Fun K "_law_holds" "_law_holds" s_l_holds f_l_holds fd_l_holds
  b_l_holds : Binds K fd_l_holds ["_law_span_here", "_law_place"] []
  g_l_holds : mg "_law_holds" = some (.ref f_l_holds)
  f_l_depth : Addr
  fd_l_depth : FuncData
  F_l_depth : Fun K "_law_depth" "_law_depth" s_l_depth f_l_depth fd_l_depth
  b_l_depth : Binds K fd_l_depth ["_law_spans_here", "_law_place"] []
  g_l_depth : mg "_law_depth" = some (.ref f_l_depth)
  f_l_whole : Addr
  fd_l_whole : FuncData
  F_l_whole : Fun K "_law_whole" "_law_whole" s_l_whole f_l_whole fd_l_whole
  b_l_whole : Binds K fd_l_whole ["_law_number_here"] []
  g_l_whole : mg "_law_whole" = some (.ref f_l_whole)
  f_l_kinds : Addr
  fd_l_kinds : FuncData
  F_l_kinds : Fun K "_law_kinds" "_law_kinds" s_l_kinds f_l_kinds fd_l_kinds
  b_l_kinds : Binds K fd_l_kinds ["_law_e"] []
  g_l_kinds : mg "_law_kinds" = some (.ref f_l_kinds)
  f_l_bad_span : Addr
  fd_l_bad_span : FuncData
  F_l_bad_span : Fun K "_law_bad_span" "_law_bad_span" s_l_bad_span f_l_bad_span fd_l_bad_span
  b_l_bad_span : Binds K fd_l_bad_span ["_law_purse_here"] []
  g_l_bad_span : mg "_law_bad_span" = some (.ref f_l_bad_span)
  f_l_caught : Addr
  fd_l_caught : FuncData
  F_l_caught : Fun K "_law_caught" "_law_caught" s_l_caught f_l_caught fd_l_caught
  b_l_caught : Binds K fd_l_caught ["_law_way", "_law_spans_here", "_law_place"] []
  g_l_caught : mg "_law_caught" = some (.ref f_l_caught)
  f_law : Addr
  fd_law : FuncData
  F_law : Fun K "law" "law" s_law f_law fd_law
  b_law : Binds K fd_law ["_law_script"] []
  g_law : mg "law" = some (.ref f_law)
  tc_LEAST_PLACE : Tok
  c_LEAST_PLACE : mg "LEAST_PLACE" = some (.int (-999999999999) tc_LEAST_PLACE)
  tc_GREATEST_PLACE : Tok
  c_GREATEST_PLACE : mg "GREATEST_PLACE" = some (.int (999999999999) tc_GREATEST_PLACE)
  C_ShelfError : Addr
  g_ShelfError : mg "ShelfError" = some (.ref C_ShelfError)
  x_ShelfError : PySem.W.excIn K C_ShelfError [.type "ValueError", .type "Exception", .type "BaseException", .type "object"] "ValueError.__new__" = true
  k_ShelfError : PySem.W.keepIn K (.ref C_ShelfError) = true
  b_ShelfError : PySem.W.subIn K (.ref C_ShelfError) (.type "BaseException") = some true
  t_ShelfError : PySem.W.typeIn K (.ref C_ShelfError) = some (.type "type")
  C_NoSpan : Addr
  g_NoSpan : mg "NoSpan" = some (.ref C_NoSpan)
  x_NoSpan : PySem.W.excIn K C_NoSpan [.type "ValueError", .type "Exception", .type "BaseException", .type "object"] "ValueError.__new__" = true
  k_NoSpan : PySem.W.keepIn K (.ref C_NoSpan) = true
  b_NoSpan : PySem.W.subIn K (.ref C_NoSpan) (.type "BaseException") = some true
  t_NoSpan : PySem.W.typeIn K (.ref C_NoSpan) = some (.type "type")
  C_NoPlace : Addr
  g_NoPlace : mg "NoPlace" = some (.ref C_NoPlace)
  x_NoPlace : PySem.W.excIn K C_NoPlace [.type "ValueError", .type "Exception", .type "BaseException", .type "object"] "ValueError.__new__" = true
  k_NoPlace : PySem.W.keepIn K (.ref C_NoPlace) = true
  b_NoPlace : PySem.W.subIn K (.ref C_NoPlace) (.type "BaseException") = some true
  t_NoPlace : PySem.W.typeIn K (.ref C_NoPlace) = some (.type "type")
  C_NoCover : Addr
  g_NoCover : mg "NoCover" = some (.ref C_NoCover)
  x_NoCover : PySem.W.excIn K C_NoCover [.type "ValueError", .type "Exception", .type "BaseException", .type "object"] "ValueError.__new__" = true
  k_NoCover : PySem.W.keepIn K (.ref C_NoCover) = true
  b_NoCover : PySem.W.subIn K (.ref C_NoCover) (.type "BaseException") = some true
  t_NoCover : PySem.W.typeIn K (.ref C_NoCover) = some (.type "type")
  C_NoWeight : Addr
  g_NoWeight : mg "NoWeight" = some (.ref C_NoWeight)
  x_NoWeight : PySem.W.excIn K C_NoWeight [.type "ValueError", .type "Exception", .type "BaseException", .type "object"] "ValueError.__new__" = true
  k_NoWeight : PySem.W.keepIn K (.ref C_NoWeight) = true
  b_NoWeight : PySem.W.subIn K (.ref C_NoWeight) (.type "BaseException") = some true
  t_NoWeight : PySem.W.typeIn K (.ref C_NoWeight) = some (.type "type")
  C_NoCount : Addr
  g_NoCount : mg "NoCount" = some (.ref C_NoCount)
  x_NoCount : PySem.W.excIn K C_NoCount [.type "ValueError", .type "Exception", .type "BaseException", .type "object"] "ValueError.__new__" = true
  k_NoCount : PySem.W.keepIn K (.ref C_NoCount) = true
  b_NoCount : PySem.W.subIn K (.ref C_NoCount) (.type "BaseException") = some true
  t_NoCount : PySem.W.typeIn K (.ref C_NoCount) = some (.type "type")
  C_NoName : Addr
  g_NoName : mg "NoName" = some (.ref C_NoName)
  x_NoName : PySem.W.excIn K C_NoName [.type "ValueError", .type "Exception", .type "BaseException", .type "object"] "ValueError.__new__" = true
  k_NoName : PySem.W.keepIn K (.ref C_NoName) = true
  b_NoName : PySem.W.subIn K (.ref C_NoName) (.type "BaseException") = some true
  t_NoName : PySem.W.typeIn K (.ref C_NoName) = some (.type "type")
  C_Twice : Addr
  g_Twice : mg "Twice" = some (.ref C_Twice)
  x_Twice : PySem.W.excIn K C_Twice [.type "ValueError", .type "Exception", .type "BaseException", .type "object"] "ValueError.__new__" = true
  k_Twice : PySem.W.keepIn K (.ref C_Twice) = true
  b_Twice : PySem.W.subIn K (.ref C_Twice) (.type "BaseException") = some true
  t_Twice : PySem.W.typeIn K (.ref C_Twice) = some (.type "type")
  C_Full : Addr
  g_Full : mg "Full" = some (.ref C_Full)
  x_Full : PySem.W.excIn K C_Full [.type "ValueError", .type "Exception", .type "BaseException", .type "object"] "ValueError.__new__" = true
  k_Full : PySem.W.keepIn K (.ref C_Full) = true
  b_Full : PySem.W.subIn K (.ref C_Full) (.type "BaseException") = some true
  t_Full : PySem.W.typeIn K (.ref C_Full) = some (.type "type")
  C_Bare : Addr
  g_Bare : mg "Bare" = some (.ref C_Bare)
  x_Bare : PySem.W.excIn K C_Bare [.type "ValueError", .type "Exception", .type "BaseException", .type "object"] "ValueError.__new__" = true
  k_Bare : PySem.W.keepIn K (.ref C_Bare) = true
  b_Bare : PySem.W.subIn K (.ref C_Bare) (.type "BaseException") = some true
  t_Bare : PySem.W.typeIn K (.ref C_Bare) = some (.type "type")
  C_NoDeed : Addr
  g_NoDeed : mg "NoDeed" = some (.ref C_NoDeed)
  x_NoDeed : PySem.W.excIn K C_NoDeed [.type "ValueError", .type "Exception", .type "BaseException", .type "object"] "ValueError.__new__" = true
  k_NoDeed : PySem.W.keepIn K (.ref C_NoDeed) = true
  b_NoDeed : PySem.W.subIn K (.ref C_NoDeed) (.type "BaseException") = some true
  t_NoDeed : PySem.W.typeIn K (.ref C_NoDeed) = some (.type "type")
  C_NoText : Addr
  g_NoText : mg "NoText" = some (.ref C_NoText)
  x_NoText : PySem.W.excIn K C_NoText [.type "ValueError", .type "Exception", .type "BaseException", .type "object"] "ValueError.__new__" = true
  k_NoText : PySem.W.keepIn K (.ref C_NoText) = true
  b_NoText : PySem.W.subIn K (.ref C_NoText) (.type "BaseException") = some true
  t_NoText : PySem.W.typeIn K (.ref C_NoText) = some (.type "type")
  C_NoLine : Addr
  g_NoLine : mg "NoLine" = some (.ref C_NoLine)
  x_NoLine : PySem.W.excIn K C_NoLine [.type "ValueError", .type "Exception", .type "BaseException", .type "object"] "ValueError.__new__" = true
  k_NoLine : PySem.W.keepIn K (.ref C_NoLine) = true
  b_NoLine : PySem.W.subIn K (.ref C_NoLine) (.type "BaseException") = some true
  t_NoLine : PySem.W.typeIn K (.ref C_NoLine) = some (.type "type")
  m_ValueError : mg "ValueError" = none
  m_bool : mg "bool" = none
  m_int : mg "int" = none
  m_isinstance : mg "isinstance" = none
  m_len : mg "len" = none
  m_list : mg "list" = none
  m_max : mg "max" = none
  m_min : mg "min" = none
  m_range : mg "range" = none
  m_sorted : mg "sorted" = none
  m_sum : mg "sum" = none
  m_tuple : mg "tuple" = none
  excs : ([C_ShelfError, C_NoSpan, C_NoPlace, C_NoCover, C_NoWeight, C_NoCount, C_NoName, C_Twice, C_Full, C_Bare, C_NoDeed, C_NoText, C_NoLine].map fun (D : Addr) => (PySem.W.findIn K (.ref D) "__getattribute__", PySem.W.findIn K (.ref D) "__getattr__", PySem.W.subIn K (.ref D) (.type "BaseException"), PySem.W.hasDictIn K D, PySem.W.findIn K (.ref D) "__class__", PySem.W.mroIn K D (.type "object"))) = [C_ShelfError, C_NoSpan, C_NoPlace, C_NoCover, C_NoWeight, C_NoCount, C_NoName, C_Twice, C_Full, C_Bare, C_NoDeed, C_NoText, C_NoLine].map fun (_ : Addr) => (some (some (.builtin "BaseException.__getattribute__")), some none, some true, true, some (some (.builtin "object.__class__")), some true)
  gets : (PySem.W.specialIn K (.builtin "object.__class__") "__get__", PySem.W.takesIn K (.builtin "object.__class__")) = (some (some (.builtin "getset_descriptor.__get__")), some true)
  kits : ([C_ShelfError, C_NoSpan, C_NoPlace, C_NoCover, C_NoWeight, C_NoCount, C_NoName, C_Twice, C_Full, C_Bare, C_NoDeed, C_NoText, C_NoLine].map fun (D : Addr) => [C_NoSpan, C_NoPlace, C_NoCover, C_NoWeight, C_NoCount, C_NoName, C_Twice, C_Full, C_Bare, C_NoDeed, C_NoText, C_NoLine].map fun (C : Addr) => PySem.W.kitOne K (.ref D) (.ref C)) = (List.range 13).map fun i => (List.range 12).map fun j => some (i == j + 1)
  tops : ([C_ShelfError, C_NoSpan, C_NoPlace, C_NoCover, C_NoWeight, C_NoCount, C_NoName, C_Twice, C_Full, C_Bare, C_NoDeed, C_NoText, C_NoLine].map fun (D : Addr) => (PySem.W.kitOne K (.ref D) (.ref C_ShelfError), PySem.W.kitOne K (.ref D) (.type "ValueError"))) = [C_ShelfError, C_NoSpan, C_NoPlace, C_NoCover, C_NoWeight, C_NoCount, C_NoName, C_Twice, C_Full, C_Bare, C_NoDeed, C_NoText, C_NoLine].map fun (_ : Addr) => (some true, some true)
  nones : ([C_ShelfError, C_NoSpan, C_NoPlace, C_NoCover, C_NoWeight, C_NoCount, C_NoName, C_Twice, C_Full, C_Bare, C_NoDeed, C_NoText, C_NoLine].map fun (C : Addr) => PySem.W.kitOne K (.type "NoneType") (.ref C)) = [C_ShelfError, C_NoSpan, C_NoPlace, C_NoCover, C_NoWeight, C_NoCount, C_NoName, C_Twice, C_Full, C_Bare, C_NoDeed, C_NoText, C_NoLine].map fun (_ : Addr) => some false
  exms : ([C_ShelfError, C_NoSpan, C_NoPlace, C_NoCover, C_NoWeight, C_NoCount, C_NoName, C_Twice, C_Full, C_Bare, C_NoDeed, C_NoText, C_NoLine].map fun (D : Addr) => PySem.W.exmOne K (.ref D) (.ref C_ShelfError)) = [C_ShelfError, C_NoSpan, C_NoPlace, C_NoCover, C_NoWeight, C_NoCount, C_NoName, C_Twice, C_Full, C_Bare, C_NoDeed, C_NoText, C_NoLine].map fun (_ : Addr) => some true
structure Tbs {K : PySem.W.Frag} {mg : Str → Option Value} (T : Tx K mg) (base : Heap) : Prop where
  t_count_at : GxR.TabB base mg T.cA_count_at T.pA_count_at
def Tx.tabs {K : PySem.W.Frag} {mg : Str → Option Value} (T : Tx K mg) : List Addr := [T.pA_count_at]
section
variable {P : Program} {w : World} {K : PySem.W.Frag} {mg : Str → Option Value} {base : Heap}
/-! ### the cell, the mixing, the purse, a draw -/
def spAt (K : PySem.W.Frag) : Sp := fun vs H Q _ => ∃ (a : Addr) (ns : List Int) (k : Int), vs = [.ref a, .int k] ∧ SqL K H a (ns.map V.int) ∧ 0 ≤ k ∧ ∀ z, Q (.int z) H
theorem ok_at (T : Tx K mg) : FnOk P w K mg base CX0 (1) T.f_l_at T.fd_l_at ["_law_script", "_law_k"] (spAt K) := by
  refine T.F_l_at.ok sc_l_at (fun vs H Q E h => ?_) (fun cdv A outer s H vs Q E hr h => ?_)
  · obtain ⟨a, ns, k, rfl, _⟩ := h
    rfl
  · obtain ⟨a, ns, k, rfl, hS, h0, q⟩ := h
    refine ⟨_, (pss_cons (ps_if (pt_cmpR op_lt (pv 1) (pe_callB call_len_seq (by rfl) T.m_len PySem.boot_len (pa_cons (pv 0) pa_nil)) (nomark _)) (pss_one (ps_ret (pe_ix ix_list (pv 0) (pv 1) (fun _ _ => rfl)))) pss_nil)
      (pss_one (ps_ret pe_int))), ?_⟩
    refine ⟨_, rfl, _, rfl, a, _, rfl, .inl hS, _, _, rfl, rfl, _, rfl, ite2 (fun e => ?_) (fun e => ?_)⟩
    · have e0 : k < ((ns.map V.int).length : Int) := of_decide_eq_true e
      rw [List.length_map] at e0
      have h1 : k.toNat < ns.length := by omega
      refine ⟨_, rfl, _, rfl, a, _, k, .int ns[k.toNat], rfl, rfl, hS, at_of (j := k.toNat) (by omega) ?_, q _⟩
      rw [List.getElem?_map, List.getElem?_eq_getElem h1]
      rfl
    · exact q 0
def spMixed : Sp := fun vs H Q _ => ∃ (a k : Int), vs = [.int a, .int k] ∧ 0 ≤ k ∧ k < 2 ^ 60 ∧ 0 ≤ a ∧ a < 2 ^ 60 ∧ ∀ z : Int, 0 ≤ z → z < 2147483587 → Q (.int z) H
theorem ok_mixed (T : Tx K mg) : FnOk P w K mg base CX0 (1) T.f_l_mixed T.fd_l_mixed ["_law_cell", "_law_k"] spMixed := by
  refine T.F_l_mixed.ok sc_l_mixed (fun vs H Q E h => ?_) (fun cdv A outer s H vs Q E hr h => ?_)
  · obtain ⟨a, k, rfl, _⟩ := h
    rfl
  · obtain ⟨a, k, rfl, h0, h1, h2, h3, q⟩ := h
    refine ⟨_, (pss_cons (ps_set (i := 2) sc_l_mixed.nd rfl (Or.inl rfl) (pe_op op_mod (pe_op op_add (pe_op op_add (pe_op op_add (pe_op op_mul (pv 0) pe_int) (pe_op op_mul (pe_op op_mul pe_int (pv 1)) (pv 1))) (pv 1)) pe_int) pe_int))
      (pss_cons (ps_set (i := 2) sc_l_mixed.nd rfl (Or.inl rfl) (pe_op op_mod (pe_op op_add (pe_op op_mul (pv 2) (pv 2)) pe_int) pe_int))
      (pss_one (ps_ret (pe_op op_mod (pe_op op_mul (pv 2) pe_int) pe_int))))), ?_⟩
    refine ⟨_, rfl, _, _, rfl, rfl, .inr ⟨by decide, by decide⟩, _, rfl, _, _, rfl, rfl, .inl ⟨by decide, by decide⟩, _, rfl, _, _, rfl, rfl, .inr ⟨by omega, by omega⟩, _, _, rfl, rfl, _, rfl, _, _, rfl, rfl, _, _, rfl, rfl, _, _, rfl, rfl, by show (0 : Int) < 2147483647; decide, ?_⟩
    generalize hx : (a * 1103515245 + 7919 * k * k + k + 1) % 2147483647 = x
    have x0 : 0 ≤ x := by omega
    have x1 : x < 2147483647 := by omega
    clear hx
    refine ⟨_, rfl, _, rfl, _, _, rfl, rfl, .inl ⟨by omega, by omega⟩, _, _, rfl, rfl, _, _, rfl, rfl, by show (0 : Int) < 2147483629; decide, ?_⟩
    generalize hy : (x * x + 69621) % 2147483629 = y
    have y0 : 0 ≤ y := by omega
    have y1 : y < 2147483629 := by omega
    clear hy
    refine ⟨_, rfl, _, _, rfl, rfl, .inl ⟨by omega, by omega⟩, _, _, rfl, rfl, by show (0 : Int) < 2147483587; decide, ?_⟩
    exact q _ (by omega) (by omega)
def spPurse (K : PySem.W.Frag) : Sp := fun vs H Q _ => ∃ (a : Addr) (ns : List Int) (k : Int), vs = [.ref a, .int k] ∧ SqL K H a (ns.map V.int) ∧ 0 ≤ k ∧ k ≤ 63 ∧ ∀ H' p, Same H H' → H p = none → Pu H' p 63000 → Q (.ref p) H'
theorem ok_purse (T : Tx K mg) : FnOk P w K mg base CX0 (2) T.f_l_purse T.fd_l_purse ["_law_script", "_law_at_here"] (spPurse K) := by
  have G_l_at : FnOk P w K mg base CX0 _ _ _ _ _ := ok_at T
  refine T.F_l_purse.ok sc_l_purse (fun vs H Q E h => ?_) (fun cdv A outer s H vs Q E hr h => ?_)
  · obtain ⟨a, ns, k, rfl, _⟩ := h
    rfl
  · obtain ⟨a, ns, k, rfl, hS, h0, h1, q⟩ := h
    refine ⟨_, (pss_cons (ps_set (i := 2) sc_l_purse.nd rfl (Or.inl rfl) (pe_call G_l_at (hr.mono (by decide)) (by rfl) T.g_l_at T.F_l_at.kp T.b_l_at .nil pass0 (pa_cons (pv 0) (pa_cons (pv 1) pa_nil))))
      (pss_one (ps_ret (pe_lst (pa_cons (pe_callB (call_max2 rfl) (by rfl) T.m_max (by decide +kernel) (pa_cons (pe_op op_sub (pv 2) (pe_op op_pow pe_int pe_int)) (pa_cons pe_int pa_nil))) (pa_cons (pe_op op_mod (pv 2) pe_int) (pa_cons (pe_op op_mul pe_int (pv 1)) pa_nil))))))), ?_⟩
    refine ⟨_, rfl, _, rfl, a, ns, k, rfl, hS, h0, fun z => ?_⟩
    refine ⟨_, rfl, _, _, rfl, rfl, ⟨by decide, by decide, by decide⟩, _, _, rfl, rfl, _, _, rfl, _, rfl, _, _, rfl, rfl, by show (0 : Int) < 2147483647; decide, _, rfl, _, _, rfl, rfl, .inl ⟨by decide, by decide⟩, small_le (by simp), fun p np => ?_⟩
    refine q _ p (same_upd np) np ⟨_, _, _, upd_same, ?_, by omega, by omega, by omega, by omega⟩
    split <;> omega
def spDraw : Sp := fun vs H Q _ => ∃ (p : Addr) (m : Int) (n : Nat), vs = [.ref p, .int m] ∧ Pu H p n ∧ n ≤ 1000000000 ∧ 0 < m ∧ m < 2 ^ 88 ∧ ∀ H' r, Chg [p] H H' → Pu H' p (n + 3) → 0 ≤ r → r < m → Q (.int r) H'
theorem bits_le {m : Int} (h0 : 0 < m) (h1 : m < 2 ^ 88) : (Builtin.Int.intBits m : Nat) ≤ 88 := by
  have h : m.natAbs < 2 ^ 88 := by
    have e : (2 : Int) ^ 88 = ((2 ^ 88 : Nat) : Int) := by decide
    rw [e] at h1
    omega
  exact PyProof.Rows.intBits_le h
theorem ok_draw (T : Tx K mg) : FnOk P w K mg base CX0 (2) T.f_l_draw T.fd_l_draw ["_law_purse_here", "_law_out_of"] spDraw := by
  have G_l_mixed : FnOk P w K mg base CX0 _ _ _ _ _ := ok_mixed T
  refine T.F_l_draw.ok sc_l_draw (fun vs H Q E h => ?_) (fun cdv A outer s H vs Q E hr h => ?_)
  · obtain ⟨p, m, n, rfl, _⟩ := h
    rfl
  · obtain ⟨p, m, n, rfl, hp, hn, h0, h1, q⟩ := h
    obtain ⟨a, b, c, hP, ha, hb, hb1, hc, hc1⟩ := hp
    refine ⟨_, (pss_cons (ps_if (pt_cmpR op_gt (pe_ix ix_list (pv 0) pe_int (fun _ _ => rfl)) pe_int (nomark _)) (pss_cons (ps_set (i := 2) sc_l_draw.nd rfl (Or.inl rfl) (pe_op op_mod (pe_ix ix_list (pv 0) pe_int (fun _ _ => rfl)) (pv 1)))
      (pss_cons (ps_asg (pe_op op_fdivW (pe_ix ix_list (pv 0) pe_int (fun _ _ => rfl)) (pv 1)) (pg_sub (pv 0) pe_int set_list))
      (pss_one (ps_ret (pv 2))))) pss_nil)
      (pss_cons (ps_set (i := 3) sc_l_draw.nd rfl (Or.inl rfl) pe_int)
      (pss_cons (ps_for PassesOwn.never (by rfl) (pi_range1 (by rfl) T.m_range (pa_cons (pe_op op_add pe_int (pe_op op_fdiv (pe_bits (pv 1)) pe_int)) pa_nil)) (pg_name (i := 4) sc_l_draw.nd rfl (Or.inl rfl))
        (pss_cons (ps_asg (pe_op op_add (pe_ix ix_list (pv 0) pe_int (fun _ _ => rfl)) pe_int) (pg_sub (pv 0) pe_int set_list))
      (pss_one (ps_set (i := 3) sc_l_draw.nd rfl (Or.inl rfl) (pe_op op_add (pe_op op_mul (pv 3) pe_int) (pe_call G_l_mixed (hr.mono (by decide)) (by rfl) T.g_l_mixed T.F_l_mixed.kp T.b_l_mixed .nil pass0 (pa_cons (pe_ix ix_list (pv 0) pe_int (fun _ _ => rfl)) (pa_cons (pe_ix ix_list (pv 0) pe_int (fun _ _ => rfl)) pa_nil))))))))
      (pss_one (ps_ret (pe_op op_mod (pv 3) (pv 1))))))), ?_⟩
    have hS : SqL K H p [.int a, .int b, .int c] := SqL.of hP
    refine ⟨_, rfl, p, _, _, _, rfl, rfl, hS, atI_nat (j := 0) rfl, _, _, rfl, rfl, _, rfl, ite2 (fun e => ?_) (fun e => ?_)⟩
    · have ea : 0 < a := of_decide_eq_true e
      refine ⟨_, rfl, p, _, _, _, rfl, rfl, hS, atI_nat (j := 0) rfl, _, rfl, _, _, rfl, rfl, h0, ?_⟩
      refine ⟨_, rfl, p, _, _, _, rfl, rfl, hS, atI_nat (j := 0) rfl, _, rfl, _, _, rfl, rfl, wide_div (b := 88) h0 ?_ (by decide) (by decide), ?_⟩
      · have e : (2 : Int) ^ 88 = ((2 ^ 88 : Nat) : Int) := by decide
        rw [e] at h1
        omega
      refine ⟨_, rfl, p, _, _, 0, rfl, rfl, hP, rfl, ?_⟩
      refine ⟨_, rfl, ?_⟩
      refine q _ _ (Chg.upd List.mem_cons_self) ⟨a / m, b, c, upd_same, Int.ediv_nonneg ha (by omega), hb, hb1, hc, by omega⟩ (Int.emod_nonneg _ (by omega)) (Int.emod_lt_of_pos _ h0)
    · have hb88 := bits_le h0 h1
      refine ⟨_, rfl, _, rfl, _, _, rfl, rfl, ⟨by decide, by decide⟩, _, _, rfl, rfl, _, rfl, by omega, by omega, ?_⟩
      refine for_range (lo := 0) (n := (1 + ((Builtin.Int.intBits m : Nat) : Int) / 30).toNat) (fun i σ H' => ∃ (x : Int) (c' : Int) (y4 : Option V), σ = [some (.ref p), some (.int m), none, some (.int x), y4] ∧ Chg [p] H H' ∧ H' p = some (.lst [.int a, .int b, .int c']) ∧ c' = c + i ∧ 0 ≤ x ∧ x < 2 ^ (32 * i)) ⟨0, c, none, rfl, Chg.refl _ _, hP, by omega, by omega, by decide⟩ ?_ ?_
      · rintro i σ H' hi ⟨x, c', y4, rfl, hch, hP', hc', x0, x1⟩
        have hi3 : i ≤ 2 := by omega
        refine ⟨_, rfl, p, _, _, _, rfl, rfl, SqL.of hP', atI_nat (j := 2) rfl, _, _, rfl, rfl, _, rfl, p, _, _, 2, rfl, rfl, hP', rfl, ?_⟩
        have hP2 : (upd H' p (.lst [.int a, .int b, .int (c' + 1)])) p = some (.lst [.int a, .int b, .int (c' + 1)]) := upd_same
        refine ⟨_, rfl, _, _, rfl, rfl, .inr ⟨by decide, by decide⟩, _, rfl, p, _, _, _, rfl, rfl, SqL.of hP2, atI_nat (j := 1) rfl, _, rfl, p, _, _, _, rfl, rfl, SqL.of hP2, atI_nat (j := 2) rfl, b, c' + 1, rfl, by omega, by omega, hb, by omega, fun z z0 z1 => ?_⟩
        refine ⟨_, _, rfl, rfl, x * 2147483587 + z, c' + 1, _, rfl, hch.trans (Chg.upd List.mem_cons_self), hP2, by omega, by omega, ?_⟩
        have e : (2 : Int) ^ (32 * (i + 1)) = 2 ^ (32 * i) * 4294967296 := by
          rw [Nat.mul_add, Int.pow_add]
          rfl
        rw [e]
        omega
      · rintro σ H' ⟨x, c', y4, rfl, hch, hP', hc', x0, x1⟩
        refine ⟨_, rfl, _, rfl, _, _, rfl, rfl, h0, ?_⟩
        exact q _ _ hch ⟨a, b, c', hP', ha, hb, hb1, by omega, by omega⟩ (Int.emod_nonneg _ (by omega)) (Int.emod_lt_of_pos _ h0)
end
section
variable {P : Program} {w : World} {K : PySem.W.Frag} {mg : Str → Option Value} {base : Heap}
/-! ### a number, an end, a span -/
def spNumber : Sp := fun vs H Q _ => ∃ (p : Addr) (m : Int) (n : Nat), vs = [.ref p, .int m] ∧ Pu H p n ∧ n + 6 ≤ 1000000000 ∧ 30 ≤ m ∧ m < 2 ^ 60 ∧ ∀ H' r, Chg [p] H H' → Pu H' p (n + 6) → -m ≤ r → r ≤ m → Q (.int r) H'
theorem far_of {m r : Int} (h0 : 0 ≤ r) (h1 : r < 4) (hm : 30 ≤ m) : ∃ f, ([.int 1, .int 4, .int 30, .int m] : List V)[r.toNat]? = some (.int f) ∧ 1 ≤ f ∧ f ≤ m := by
  have h : r = 0 ∨ r = 1 ∨ r = 2 ∨ r = 3 := by omega
  rcases h with rfl | rfl | rfl | rfl
  · exact ⟨1, rfl, by omega, by omega⟩
  · exact ⟨4, rfl, by omega, by omega⟩
  · exact ⟨30, rfl, by omega, by omega⟩
  · exact ⟨m, rfl, by omega, by omega⟩
theorem ok_number (T : Tx K mg) : FnOk P w K mg base CX0 (3) T.f_l_number T.fd_l_number ["_law_purse_here", "_law_most"] spNumber := by
  have G_l_draw : FnOk P w K mg base CX0 _ _ _ _ _ := ok_draw T
  refine T.F_l_number.ok sc_l_number (fun vs H Q E h => ?_) (fun cdv A outer s H vs Q E hr h => ?_)
  · obtain ⟨p, m, n, rfl, _⟩ := h
    rfl
  · obtain ⟨p, m, n, rfl, hp, hn, h0, h1, q⟩ := h
    refine ⟨_, (pss_cons (ps_set (i := 2) sc_l_number.nd rfl (Or.inl rfl) (pe_ix ix_list (pe_lst (pa_cons pe_int (pa_cons pe_int (pa_cons pe_int (pa_cons (pv 1) pa_nil))))) (pe_call G_l_draw (hr.mono (by decide)) (by rfl) T.g_l_draw T.F_l_draw.kp T.b_l_draw .nil pass0 (pa_cons (pv 0) (pa_cons pe_int pa_nil))) (fun _ _ => rfl)))
      (pss_one (ps_ret (pe_op op_sub (pe_call G_l_draw (hr.mono (by decide)) (by rfl) T.g_l_draw T.F_l_draw.kp T.b_l_draw .nil pass0 (pa_cons (pv 0) (pa_cons (pe_op op_add (pe_op op_mul pe_int (pv 2)) pe_int) pa_nil))) (pv 2))))), ?_⟩
    refine ⟨_, rfl, small_le (by simp), fun l nl => ?_⟩
    have s1 := same_upd (o := .lst [.int 1, .int 4, .int 30, .int m]) nl
    have npl : p ≠ l := hp.ne nl
    refine ⟨_, rfl, p, 4, n, rfl, hp.same s1, by omega, by decide, by decide, fun H1 r c1 p1 r0 r1 => ?_⟩
    obtain ⟨f, hf, f0, f1⟩ := far_of r0 r1 h0
    refine ⟨l, _, r, _, rfl, rfl, SqL.of (c1 _ _ (nmem1 npl.symm) upd_same), at_of (j := r.toNat) (by omega) hf, ?_⟩
    refine ⟨_, rfl, _, rfl, _, _, rfl, rfl, .inl ⟨by decide, by decide⟩, _, _, rfl, rfl, p, 2 * f + 1, n + 3, rfl, p1, by omega, by omega, by omega, fun H2 x c2 p2 x0 x1 => ?_⟩
    refine ⟨_, rfl, _, _, rfl, rfl, q _ _ ((Chg.of_same s1).trans (c1.trans c2)) p2 (by omega) (by omega)⟩
def spEnd (K : PySem.W.Frag) : Sp := fun vs H Q _ => ∃ (p e : Addr) (m : Int) (n : Nat) (ns : List Int), vs = [.ref p, .ref e, .int m] ∧ Pu H p n ∧ n + 9 ≤ 1000000000 ∧ SqL K H e (ns.map V.int) ∧ e ≠ p ∧ ns.length ≤ 1000000 ∧ 30 ≤ m ∧ m < 2 ^ 60 ∧
  ∀ H' r, Chg [p] H H' → Pu H' p (n + 9) → -m ≤ r → r ≤ m → Q (.int r) H'
theorem ok_end (T : Tx K mg) : FnOk P w K mg base CX0 (4) T.f_l_end T.fd_l_end ["_law_purse_here", "_law_ends", "_law_most"] (spEnd K) := by
  have G_l_draw : FnOk P w K mg base CX0 _ _ _ _ _ := ok_draw T
  have G_l_number : FnOk P w K mg base CX0 _ _ _ _ _ := ok_number T
  refine T.F_l_end.ok sc_l_end (fun vs H Q E h => ?_) (fun cdv A outer s H vs Q E hr h => ?_)
  · obtain ⟨p, e, m, n, ns, rfl, _⟩ := h
    rfl
  · obtain ⟨p, e, m, n, ns, rfl, hp, hn, hE, hne, hlen, h0, h1, q⟩ := h
    refine ⟨_, (pss_cons (ps_if (PW.pt (pw_and (pt_cmpR (op_neD hr.units) (pv 1) (pe_lst pa_nil) (nomark _)) (pw_and1 (pt_cmpR op_gt (pe_call G_l_draw (hr.mono (by decide)) (by rfl) T.g_l_draw T.F_l_draw.kp T.b_l_draw .nil pass0 (pa_cons (pv 0) (pa_cons pe_int pa_nil))) pe_int (nomark _))))) (pss_cons (ps_set (i := 3) sc_l_end.nd rfl (Or.inl rfl) (pe_op op_sub (pe_op op_add (pe_ix ix_list (pv 1) (pe_call G_l_draw (hr.mono (by decide)) (by rfl) T.g_l_draw T.F_l_draw.kp T.b_l_draw .nil pass0 (pa_cons (pv 0) (pa_cons (pe_callB call_len_seq (by rfl) T.m_len PySem.boot_len (pa_cons (pv 1) pa_nil)) pa_nil))) (fun _ _ => rfl)) (pe_call G_l_draw (hr.mono (by decide)) (by rfl) T.g_l_draw T.F_l_draw.kp T.b_l_draw .nil pass0 (pa_cons (pv 0) (pa_cons pe_int pa_nil)))) pe_int))
      (pss_one (ps_ret (pe_callB (call_max2 rfl) (by rfl) T.m_max (by decide +kernel) (pa_cons (pe_op op_sub pe_int (pv 2)) (pa_cons (pe_callB (call_min2 rfl) (by rfl) T.m_min (by decide +kernel) (pa_cons (pv 2) (pa_cons (pv 3) pa_nil))) pa_nil)))))) pss_nil)
      (pss_one (ps_ret (pe_call G_l_number (hr.mono (by decide)) (by rfl) T.g_l_number T.F_l_number.kp T.b_l_number .nil pass0 (pa_cons (pv 0) (pa_cons (pv 2) pa_nil)))))), ?_⟩
    refine ⟨_, rfl, Nat.zero_le _, fun l nl => ?_⟩
    have s1 := same_upd (o := .lst []) nl
    refine ⟨_, _, .lst (s1.seq hE) (dpAll_ints ns), .lst (SqL.of upd_same) .nil, shaped_ints ns, shaped_nil, _, rfl, ?_⟩
    rw [eqv_ints_nil]
    by_cases hnil : ns = []
    · rw [decide_eq_true hnil]
      refine iteF (iteF ?_)
      exact ⟨_, rfl, _, rfl, p, m, n, rfl, hp.same s1, by omega, h0, h1, fun H2 x c2 p2 x0 x1 => q _ _ ((Chg.of_same s1).trans c2) (p2.mono (by omega)) x0 x1⟩
    · rw [decide_eq_false hnil]
      have hl0 : 0 < ns.length := List.length_pos_iff.mpr hnil
      refine iteT ?_
      refine ⟨_, rfl, p, 3, n, rfl, hp.same s1, by omega, by decide, by decide, fun H1 r c1 p1 r0 r1 => ?_⟩
      have hE1 : SqL K H1 e (ns.map V.int) := c1.seq (nmem1 hne) (s1.seq hE)
      refine ⟨_, _, rfl, rfl, _, rfl, ite2 (fun _ => ?_) (fun _ => ?_)⟩
      · refine ⟨_, rfl, _, rfl, _, rfl, e, _, rfl, .inl hE1, p, ns.length, n + 3, ?_, p1, by omega, by omega, by omega, fun H2 x c2 p2 x0 x1 => ?_⟩
        · rw [List.length_map]
          rfl
        have hx : x.toNat < ns.length := by omega
        refine ⟨e, _, x, .int ns[x.toNat], rfl, rfl, c2.seq (nmem1 hne) hE1, at_of (j := x.toNat) (by omega) ?_, ?_⟩
        · rw [List.getElem?_map, List.getElem?_eq_getElem hx]
          rfl
        refine ⟨_, rfl, p, 3, n + 6, rfl, p2, by omega, by decide, by decide, fun H3 y c3 p3 y0 y1 => ?_⟩
        refine ⟨_, _, rfl, rfl, _, _, rfl, rfl, ?_⟩
        refine ⟨_, rfl, _, _, rfl, rfl, _, rfl, _, rfl, _, _, rfl, _, _, rfl, ?_⟩
        refine q _ _ ((Chg.of_same s1).trans (c1.trans (c2.trans c3))) p3 ?_ ?_
        · split <;> split <;> omega
        · split <;> split <;> omega
      · exact ⟨_, rfl, _, rfl, p, m, n + 3, rfl, p1, by omega, h0, h1, fun H2 x c2 p2 x0 x1 => q _ _ ((Chg.of_same s1).trans (c1.trans c2)) p2 x0 x1⟩
theorem min3_of (a b c : Int) : ∃ z, nuMin3 (.int a) (.int b) (.int c) = some (.int z) ∧ z ≤ a ∧ z ≤ b ∧ z ≤ c ∧ (z = a ∨ z = b ∨ z = c) := by
  have e2 : ∀ x y : Int, nuMin2 (.int x) (.int y) = some (.int (if y < x then y else x)) := fun x y => by
    show (some (decide (y < x))).map (fun c => if c = true then V.int y else V.int x) = _
    by_cases h : y < x <;> simp [h]
  refine ⟨if c < (if b < a then b else a) then c else (if b < a then b else a), ?_, ?_⟩
  · unfold nuMin3
    rw [e2]
    show nuMin2 _ _ = _
    rw [e2]
  · split <;> split <;> omega
theorem max3_of (a b c : Int) : ∃ z, nuMax3 (.int a) (.int b) (.int c) = some (.int z) ∧ a ≤ z ∧ b ≤ z ∧ c ≤ z ∧ (z = a ∨ z = b ∨ z = c) := by
  have e2 : ∀ x y : Int, nuMax2 (.int x) (.int y) = some (.int (if x < y then y else x)) := fun x y => by
    show (some (decide (x < y))).map (fun c => if c = true then V.int y else V.int x) = _
    by_cases h : x < y <;> simp [h]
  refine ⟨if (if a < b then b else a) < c then c else (if a < b then b else a), ?_, ?_⟩
  · unfold nuMax3
    rw [e2]
    show nuMax2 _ _ = _
    rw [e2]
  · split <;> split <;> omega
def spSpan : Sp := fun vs H Q _ => ∃ (p e : Addr) (m : Int) (n : Nat) (ns : List Int), vs = [.ref p, .ref e, .int m] ∧ Pu H p n ∧ n + 18 ≤ 1000000000 ∧ H e = some (.lst (ns.map V.int)) ∧ e ≠ p ∧ ns.length ≤ 100000 ∧ 30 ≤ m ∧ m < 2 ^ 60 ∧
  ∀ H' t lo hi, Chg [p, e] H H' → Pu H' p (n + 18) → H' e = some (.lst ((ns ++ [lo, hi]).map V.int)) → H t = none → H' t = some (.tup [.int lo, .int hi]) → -m ≤ lo → lo < hi → hi ≤ m → Q (.ref t) H'
theorem ok_span (T : Tx K mg) : FnOk P w K mg base CX0 (5) T.f_l_span T.fd_l_span ["_law_purse_here", "_law_ends", "_law_most"] spSpan := by
  have G_l_end : FnOk P w K mg base CX0 _ _ _ _ _ := ok_end T
  refine T.F_l_span.ok sc_l_span (fun vs H Q E h => ?_) (fun cdv A outer s H vs Q E hr h => ?_)
  · obtain ⟨p, e, m, n, ns, rfl, _⟩ := h
    rfl
  · obtain ⟨p, e, m, n, ns, rfl, hp, hn, hE, hne, hlen, h0, h1, q⟩ := h
    refine ⟨_, (pss_cons (ps_set (i := 3) sc_l_span.nd rfl (Or.inl rfl) (pe_call G_l_end (hr.mono (by decide)) (by rfl) T.g_l_end T.F_l_end.kp T.b_l_end .nil pass0 (pa_cons (pv 0) (pa_cons (pv 1) (pa_cons (pv 2) pa_nil)))))
      (pss_cons (ps_set (i := 4) sc_l_span.nd rfl (Or.inl rfl) (pe_call G_l_end (hr.mono (by decide)) (by rfl) T.g_l_end T.F_l_end.kp T.b_l_end .nil pass0 (pa_cons (pv 0) (pa_cons (pe_op op_cat (pv 1) (pe_lst (pa_cons (pv 3) pa_nil))) (pa_cons (pv 2) pa_nil)))))
      (pss_cons (ps_set (i := 5) sc_l_span.nd rfl (Or.inl rfl) (pe_callB (call_min3Nu rfl) (by rfl) T.m_min (by decide +kernel) (pa_cons (pv 3) (pa_cons (pv 4) (pa_cons (pe_op op_sub (pv 2) pe_int) pa_nil)))))
      (pss_cons (ps_set (i := 6) sc_l_span.nd rfl (Or.inl rfl) (pe_callB (call_max3Nu rfl) (by rfl) T.m_max (by decide +kernel) (pa_cons (pv 3) (pa_cons (pv 4) (pa_cons (pe_op op_add (pv 5) pe_int) pa_nil)))))
      (pss_cons (ps_expr (pe_bm PySem.F.plainAttrs_list PySem.F.slot_list_append PySem.F.type_list_append mt_append (pv 1) (pa_cons (pv 5) pa_nil)))
      (pss_cons (ps_expr (pe_bm PySem.F.plainAttrs_list PySem.F.slot_list_append PySem.F.type_list_append mt_append (pv 1) (pa_cons (pv 6) pa_nil)))
      (pss_one (ps_ret (pe_tup (pa_cons (pv 5) (pa_cons (pv 6) pa_nil))))))))))), ?_⟩
    have up : ∀ {H H' : Hp}, Chg [p] H H' → Chg [p, e] H H' := fun c => c.mono fun x hx => by
      rw [List.mem_singleton.mp hx]
      exact List.mem_cons_self
    refine ⟨_, rfl, _, rfl, _, rfl, p, e, m, n, ns, rfl, hp, by omega, SqL.of hE, hne, by omega, h0, h1, fun H1 x c1 p1 x0 x1 => ?_⟩
    have hE1 : H1 e = some (.lst (ns.map V.int)) := c1 _ _ (nmem1 hne) hE
    refine ⟨_, rfl, _, rfl, _, rfl, small_le (by simp), fun l1 nl1 => ?_⟩
    have s1 := same_upd (o := .lst [.int x]) nl1
    refine ⟨e, l1, _, _, rfl, rfl, s1 _ _ hE1, upd_same, ?_, fun l2 nl2 => ?_⟩
    · rw [List.length_map]
      exact small_le (by simp; omega)
    have s2 := same_upd (o := .lst (ns.map V.int ++ [.int x])) nl2
    have p3 := (p1.same s1).same s2
    refine ⟨_, rfl, p, l2, m, n + 9, ns ++ [x], rfl, p3, by omega, SqL.of ?_, ?_, ?_, h0, h1, fun H2 y c2 p2 y0 y1 => ?_⟩
    · rw [List.map_append]
      exact upd_same
    · exact ((p1.same s1).ne nl2).symm
    · simp
      omega
    have hE2 : H2 e = some (.lst (ns.map V.int)) := c2 _ _ (nmem1 hne) (s2 _ _ (s1 _ _ hE1))
    have cc : Chg [p] H H2 := c1.trans ((Chg.of_same s1).trans ((Chg.of_same s2).trans c2))
    obtain ⟨lo, elo, l_1, l_2, l_3, l_4⟩ := min3_of x y (m - 1)
    refine ⟨_, rfl, _, rfl, _, rfl, _, _, rfl, rfl, _, _, _, _, rfl, elo, ?_⟩
    obtain ⟨hi, ehi, i_1, i_2, i_3, i_4⟩ := max3_of x y (lo + 1)
    refine ⟨_, rfl, _, rfl, _, rfl, _, _, rfl, rfl, _, _, _, _, rfl, ehi, ?_⟩
    refine ⟨_, rfl, .inl ⟨rfl, _, SqL.of hE2⟩, _, rfl, e, _, _, rfl, rfl, hE2, ?_, ?_⟩
    · rw [List.length_map]
      exact small_lt (by omega)
    have hE3 : (upd H2 e (.lst (ns.map V.int ++ [.int lo]))) e = some (.lst (ns.map V.int ++ [.int lo])) := upd_same
    refine ⟨_, rfl, .inl ⟨rfl, _, SqL.of hE3⟩, _, rfl, e, _, _, rfl, rfl, hE3, ?_, ?_⟩
    · rw [List.length_append, List.length_map]
      exact small_lt (by simp; omega)
    rw [upd_upd]
    refine ⟨_, rfl, _, rfl, (by show 2 ≤ sizeLine; decide), fun t nt => ?_⟩
    have hE4 : (upd H2 e (.lst (ns.map V.int ++ [.int lo] ++ [.int hi]))) e = some (.lst (ns.map V.int ++ [.int lo] ++ [.int hi])) := upd_same
    have c5 : Chg [p, e] H (upd (upd H2 e (.lst (ns.map V.int ++ [.int lo] ++ [.int hi]))) t (.tup [.int lo, .int hi])) := (up cc).trans ((Chg.upd (List.mem_cons_of_mem _ List.mem_cons_self)).trans (Chg.of_same (same_upd nt)))
    have te : t ≠ e := (ne_of_none hE4 nt).symm
    have p5 : Pu (upd H2 e (.lst (ns.map V.int ++ [.int lo] ++ [.int hi]))) p (n + 18) := p2.chg (L := [e]) (Chg.upd List.mem_cons_self) (nmem1 hne.symm)
    have tp : t ≠ p := (p5.ne nt).symm
    refine q _ t lo hi c5 (p5.same (same_upd nt)) ?_ ?_ upd_same (by omega) (by omega) (by omega)
    · rw [upd_ne te.symm, upd_same, List.map_append, List.append_assoc]
      rfl
    · rw [upd_ne te] at nt
      exact cc.free (nmem1 tp) nt
end
section
variable {P : Program} {w : World} {K : PySem.W.Frag} {mg : Str → Option Value} {base : Heap}
/-! ### the program: spans -/
def isPlace (i : Int) : Bool := decide (-999999999999 ≤ i) && decide (i ≤ 999999999999)
def isSpan (s : Span) : Bool := isPlace s.1 && isPlace s.2 && decide (s.1 < s.2)
theorem isSpan_iff (s : Span) : isSpan s = true ↔ (-999999999999 ≤ s.1 ∧ s.1 < s.2 ∧ s.2 ≤ 999999999999) := by
  unfold isSpan isPlace
  simp only [Bool.and_eq_true, decide_eq_true_eq]
  omega
def spWhole : Sp := fun vs H Q _ => ∃ i : Int, vs = [.int i] ∧ Q (.bl true) H
theorem ok_is_whole (T : Tx K mg) : FnOk P w K mg base CX0 (1) T.f_is_whole T.fd_is_whole ["number"] spWhole := by
  refine T.F_is_whole.ok sc_is_whole (fun vs H Q E h => ?_) (fun cdv A outer s H vs Q E hr h => ?_)
  · obtain ⟨i, rfl, _⟩ := h
    rfl
  · obtain ⟨i, rfl, q⟩ := h
    refine ⟨_, (pss_one (ps_ret (pe_and (pe_callB call_isi (by rfl) T.m_isinstance (by decide +kernel) (pa_cons (pv 0) (pa_cons (pe_bltn (v := .ty "int") (by rfl) T.m_int (by decide +kernel) rfl) pa_nil))) (pe_one (pe_not (pe_callB call_isi (by rfl) T.m_isinstance (by decide +kernel) (pa_cons (pv 0) (pa_cons (pe_bltn (v := .ty "bool") (by rfl) T.m_bool (by decide +kernel) rfl) pa_nil)))))))), ?_⟩
    refine ⟨_, rfl, _, _, _, _, true, rfl, .ty _, .base (.int i), kit_ty (by decide +kernel), true, rfl, iteT ?_⟩
    exact ⟨_, rfl, _, _, _, _, false, rfl, .ty _, .base (.int i), kit_ty (by decide +kernel), false, rfl, q⟩
def spPlace : Sp := fun vs H Q _ => ∃ i : Int, vs = [.int i] ∧ Q (.bl (isPlace i)) H
theorem ok_is_place (T : Tx K mg) : FnOk P w K mg base CX0 (2) T.f_is_place T.fd_is_place ["number"] spPlace := by
  have G_is_whole : FnOk P w K mg base CX0 _ _ _ _ _ := ok_is_whole T
  refine T.F_is_place.ok sc_is_place (fun vs H Q E h => ?_) (fun cdv A outer s H vs Q E hr h => ?_)
  · obtain ⟨i, rfl, _⟩ := h
    rfl
  · obtain ⟨i, rfl, q⟩ := h
    refine ⟨_, (pss_one (ps_ret (pe_and (pe_call G_is_whole (hr.mono (by decide)) (by rfl) T.g_is_whole T.F_is_whole.kp T.b_is_whole .nil pass0 (pa_cons (pv 0) pa_nil)) (pe_one (pe_chain op_le op_le (pe_glob (v := .int (-999999999999)) (by rfl) T.c_LEAST_PLACE ⟨_, rfl⟩) (pv 0) (pe_glob (v := .int (999999999999)) (by rfl) T.c_GREATEST_PLACE ⟨_, rfl⟩)))))), ?_⟩
    refine ⟨_, rfl, i, rfl, true, rfl, iteT ?_⟩
    refine ⟨_, rfl, _, _, rfl, rfl, _, rfl, ?_⟩
    unfold isPlace at q
    by_cases h : -999999999999 ≤ i
    · rw [decide_eq_true h] at q ⊢
      exact iteT ⟨_, _, rfl, rfl, q⟩
    · rw [decide_eq_false h] at q ⊢
      exact iteF q
def spIsSpan : Sp := fun vs H Q _ => ∃ (v : V) (s : Span), vs = [v] ∧ Spn H v s ∧ Q (.bl (isSpan s)) H
theorem ok_is_span (T : Tx K mg) : FnOk P w K mg base CX0 (3) T.f_is_span T.fd_is_span ["span"] spIsSpan := by
  have G_is_place : FnOk P w K mg base CX0 _ _ _ _ _ := ok_is_place T
  refine T.F_is_span.ok sc_is_span (fun vs H Q E h => ?_) (fun cdv A outer s H vs Q E hr h => ?_)
  · obtain ⟨v, s, rfl, _⟩ := h
    rfl
  · obtain ⟨v, s, rfl, ⟨t, rfl, ht⟩, q⟩ := h
    refine ⟨_, (pss_cons (ps_if (PW.pt (pw_or (pt_not (pt_val (pe_callB call_isi (by rfl) T.m_isinstance (by decide +kernel) (pa_cons (pv 0) (pa_cons (pe_bltn (v := .ty "tuple") (by rfl) T.m_tuple (by decide +kernel) rfl) pa_nil))))) (pw_or1 (pt_cmpR op_ne (pe_callB call_len_seq (by rfl) T.m_len PySem.boot_len (pa_cons (pv 0) pa_nil)) pe_int (nomark _))))) (pss_one (ps_ret pe_bl)) pss_nil)
      (pss_cons (ps_asg (pv 0) (pg_tup rfl (pgs_cons (pg_name (i := 1) sc_is_span.nd rfl (Or.inl rfl)) (pgs_cons (pg_name (i := 2) sc_is_span.nd rfl (Or.inl rfl)) pgs_nil))))
      (pss_one (ps_ret (pe_and (pe_call G_is_place (hr.mono (by decide)) (by rfl) T.g_is_place T.F_is_place.kp T.b_is_place .nil pass0 (pa_cons (pv 1) pa_nil)) (pe_and (pe_call G_is_place (hr.mono (by decide)) (by rfl) T.g_is_place T.F_is_place.kp T.b_is_place .nil pass0 (pa_cons (pv 2) pa_nil)) (pe_one (pe_cmpR op_lt (pv 1) (pv 2) (nomark _))))))))), ?_⟩
    refine ⟨_, rfl, _, _, _, _, true, rfl, .ty _, .base (.tup ht), kit_ty (by decide +kernel), true, rfl, iteF ?_⟩
    refine ⟨_, rfl, t, _, rfl, .inr (SqT.of ht), rfl, _, rfl, iteF ?_⟩
    refine ⟨_, rfl, t, _, rfl, SqT.of ht, rfl, _, _, rfl, _, _, rfl, rfl, ?_⟩
    unfold isSpan at q
    refine ⟨_, rfl, s.1, rfl, _, rfl, ?_⟩
    by_cases h1 : isPlace s.1 = true
    · rw [h1] at q ⊢
      refine iteT ⟨_, rfl, s.2, rfl, _, rfl, ?_⟩
      by_cases h2 : isPlace s.2 = true
      · rw [h2] at q ⊢
        exact iteT ⟨_, rfl, _, rfl, _, _, rfl, rfl, q⟩
      · rw [Bool.not_eq_true] at h2
        rw [h2] at q ⊢
        exact iteF q
    · rw [Bool.not_eq_true] at h1
      rw [h1] at q ⊢
      exact iteF q
def spCheck (C : Addr) : Sp := fun vs H Q E => ∃ (v : V) (s : Span), vs = [v] ∧ Spn H v s ∧ (isSpan s = true → Q .non H) ∧ (isSpan s = false → E (.ref C) none H)
theorem ok_check_span (T : Tx K mg) : FnOk P w K mg base (L2.CX P w) (4) T.f_check_span T.fd_check_span ["span"] (spCheck T.C_NoSpan) := by
  have G_is_span : FnOk P w K mg base CX0 _ _ _ _ _ := ok_is_span T
  refine T.F_check_span.okX sc_check_span (fun vs H Q E h => ?_) (fun cdv A outer s H vs Q E hr h => ?_)
  · obtain ⟨v, s, rfl, _⟩ := h
    rfl
  · obtain ⟨v, s, rfl, hv, q, e⟩ := h
    refine ⟨_, (pss_one (ps_if (pt_not (pt_val (pe_call G_is_span (hr.mono (by decide)) (by rfl) T.g_is_span T.F_is_span.kp T.b_is_span .nil pass0 (pa_cons (pv 0) pa_nil)))) (pss_one (ps_raise (by rfl) (takes_of rfl rfl rfl rfl) (pmk_own PySem.F.excBase_ValueError T.x_NoSpan T.g_NoSpan T.k_NoSpan (raises_own T.b_NoSpan T.t_NoSpan) (by exact rfl)))) pss_nil)), ?_⟩
    refine ⟨_, rfl, v, s, rfl, hv, _, rfl, ?_⟩
    by_cases h : isSpan s = true
    · rw [h]
      exact iteF (q h)
    · rw [Bool.not_eq_true] at h
      rw [h]
      exact iteT (e h)
end
section
variable {P : Program} {w : World} {K : PySem.W.Frag} {mg : Str → Option Value} {base : Heap}
/-! ### the program: covers -/
def spCheckSpans (C : Addr) : Sp := fun vs H Q E => ∃ (l : Addr) (us : List V) (ss : List Span), vs = [.ref l] ∧ H l = some (.lst us) ∧ Sps H us ss ∧ (ss.all isSpan = true → Q .non H) ∧ (ss.all isSpan = false → E (.ref C) none H)
theorem ok_check_spans (T : Tx K mg) : FnOk P w K mg base (L2.CX P w) (5) T.f_check_spans T.fd_check_spans ["spans"] (spCheckSpans T.C_NoSpan) := by
  have G_check_span : FnOk P w K mg base (L2.CX P w) _ _ _ _ _ := ok_check_span T
  refine T.F_check_spans.okX sc_check_spans (fun vs H Q E h => ?_) (fun cdv A outer s H vs Q E hr h => ?_)
  · obtain ⟨l, us, ss, rfl, _⟩ := h
    rfl
  · obtain ⟨l, us, ss, rfl, hl, hS, q, e⟩ := h
    refine ⟨_, (pss_one (ps_for (passes_of rfl) (by rfl) (pi_list (pv 0)) (pg_name (i := 1) sc_check_spans.nd rfl (Or.inl rfl))
        (pss_one (ps_expr (pe_call G_check_span (hr.mono (by decide)) (by rfl) T.g_check_span T.F_check_span.kp T.b_check_span .nil (passes_call (takes_of rfl rfl rfl rfl) (fun _ _ _ _ h => h)) (pa_cons (pv 1) pa_nil)))))), ?_⟩
    refine ⟨_, rfl, l, rfl, ⟨_, SqL.of hl⟩, for_list (K := K) (a := l) (xs := us) (fun i σ H' => ∃ y1, σ = [some (.ref l), y1] ∧ H' = H ∧ (ss.take i).all isSpan = true) ⟨none, rfl, rfl, rfl⟩ (fun i σ H' _ ⟨_, _, e, _⟩ => by rw [e]; exact SqL.of hl) ?_ ?_⟩
    · rintro i y σ H' hi ⟨y1, rfl, rfl, ha⟩
      obtain ⟨sp, hs, hv⟩ := hS.get hi
      have tk : ss.take (i + 1) = ss.take i ++ [sp] := by
        rw [List.take_add_one, hs]
        rfl
      refine ⟨_, rfl, y, sp, rfl, hv, fun ok => ⟨_, rfl, rfl, ?_⟩, fun no => e ?_⟩
      · rw [tk, List.all_append, ha, List.all_cons, ok]
        rfl
      · rw [List.all_eq_false]
        exact ⟨sp, List.mem_of_getElem? hs, by rw [no]; decide⟩
    · rintro σ H' ⟨y1, rfl, rfl, ha⟩
      rw [hS.len, List.take_length] at ha
      exact q ha
end
/-! ### depths, changes, pieces of one depth: arithmetic -/
def holdsB (x : Int) (s : Span) : Bool := decide (s.1 ≤ x) && decide (x < s.2)
theorem holds_iff {x : Int} {s : Span} : holdsB x s = true ↔ s.1 ≤ x ∧ x < s.2 := by
  unfold holdsB
  rw [Bool.and_eq_true, decide_eq_true_eq, decide_eq_true_eq]
def dep (ss : List Span) (x : Int) : Nat := (ss.filter (holdsB x)).length
theorem dep_cons (s : Span) (ss : List Span) (x : Int) : dep (s :: ss) x = (if holdsB x s = true then 1 else 0) + dep ss x := by
  unfold dep
  rw [List.filter_cons]
  split
  · simp
    omega
  · simp
theorem dep_perm {ss ts : List Span} (h : ss.Perm ts) (x : Int) : dep ss x = dep ts x := (h.filter _).length_eq
theorem dep_app (ss ts : List Span) (x : Int) : dep (ss ++ ts) x = dep ss x + dep ts x := by
  unfold dep
  rw [List.filter_append, List.length_append]
/-- the change at a place: how many begin, less how many end -/
def chgAt : List Span → Int → Int
  | [], _ => 0
  | s :: ss, x => ((if s.1 = x then 1 else 0) - (if s.2 = x then 1 else 0)) + chgAt ss x
theorem chgAt_app (ss ts : List Span) (x : Int) : chgAt (ss ++ ts) x = chgAt ss x + chgAt ts x := by
  induction ss with
  | nil => simp [chgAt]
  | cons s r ih =>
    show _ + chgAt (r ++ ts) x = _
    rw [ih]
    simp only [chgAt]
    omega
theorem dep_step {ss : List Span} (h : ∀ s ∈ ss, s.1 < s.2) (x : Int) : ((dep ss x : Nat) : Int) = dep ss (x - 1) + chgAt ss x := by
  induction ss with
  | nil => rfl
  | cons s r ih =>
    have h1 := h s List.mem_cons_self
    have h2 := ih fun t ht => h t (List.mem_cons_of_mem _ ht)
    rw [dep_cons, dep_cons]
    simp only [chgAt, holdsB, Bool.and_eq_true, decide_eq_true_eq]
    push_cast
    split <;> split <;> split <;> split <;> omega
theorem chgAt_out {ss : List Span} {x : Int} (h : ∀ s ∈ ss, s.1 ≠ x ∧ s.2 ≠ x) : chgAt ss x = 0 := by
  induction ss with
  | nil => rfl
  | cons s r ih =>
    have h1 := h s List.mem_cons_self
    simp only [chgAt]
    rw [ih fun t ht => h t (List.mem_cons_of_mem _ ht), if_neg h1.1, if_neg h1.2]
    rfl
theorem dep_zero {ss : List Span} {x : Int} (h : ∀ s ∈ ss, x < s.1 ∨ s.2 ≤ x) : dep ss x = 0 := by
  unfold dep
  rw [List.length_eq_zero_iff, List.filter_eq_nil_iff]
  intro s hs z
  have := holds_iff.mp z
  have := h s hs
  omega
abbrev Piece := Int × Int × Int
/-- the pieces of one depth above 0, as long as can be, from b on -/
def PF (f : Int → Int) : Int → List Piece → Prop
  | b, [] => ∀ x, b ≤ x → f x = 0
  | b, p :: r => b ≤ p.1 ∧ p.1 < p.2.1 ∧ 0 < p.2.2 ∧ (∀ x, b ≤ x → x < p.1 → f x = 0) ∧ (∀ x, p.1 ≤ x → x < p.2.1 → f x = p.2.2) ∧ f p.2.1 ≠ p.2.2 ∧ PF f p.2.1 r
theorem PF.ext {f : Int → Int} : ∀ {l m : List Piece} {b : Int}, PF f b l → PF f b m → l = m
  | [], [], _, _, _ => rfl
  | [], q :: m, b, h, k => by
    obtain ⟨k1, k2, k3, k4, k5, k6, k7⟩ := k
    have := h q.1 k1
    have := k5 q.1 (Int.le_refl _) k2
    omega
  | p :: l, [], b, h, k => by
    obtain ⟨k1, k2, k3, k4, k5, k6, k7⟩ := h
    have := k p.1 k1
    have := k5 p.1 (Int.le_refl _) k2
    omega
  | (a, c, d) :: l, (a', c', d') :: m, b, h, k => by
    obtain ⟨h1, h2, h3, h4, h5, h6, h7⟩ := h
    obtain ⟨k1, k2, k3, k4, k5, k6, k7⟩ := k
    simp only at *
    have ea : a = a' := by
      rcases Int.lt_trichotomy a a' with z | z | z
      · have := k4 a h1 z
        have := h5 a (Int.le_refl _) h2
        omega
      · exact z
      · have := h4 a' k1 z
        have := k5 a' (Int.le_refl _) k2
        omega
    subst ea
    have ed : d = d' := by
      have := h5 a (Int.le_refl _) h2
      have := k5 a (Int.le_refl _) k2
      omega
    subst ed
    have ec : c = c' := by
      rcases Int.lt_trichotomy c c' with z | z | z
      · have := k5 c (by omega) z
        omega
      · exact z
      · have := h5 c' (by omega) z
        omega
    subst ec
    rw [PF.ext h7 k7]
theorem PF.back {f : Int → Int} {b c : Int} : ∀ {l : List Piece}, PF f b l → (∀ x, c ≤ x → x < b → f x = 0) → c ≤ b → PF f c l
  | [], h, z, hc => fun x hx => by
    by_cases e : x < b
    · exact z x hx e
    · exact h x (by omega)
  | p :: r, ⟨h1, h2, h3, h4, h5, h6, h7⟩, z, hc => ⟨by omega, h2, h3, fun x hx hp => by
      by_cases e : x < b
      · exact z x hx e
      · exact h4 x (by omega) hp, h5, h6, h7⟩
/-- what is built of the changes -/
def lay (d b : Int) : List Span → List Piece
  | [] => []
  | (p, c) :: r => if 0 < d then (b, p, d) :: lay (d + c) p r else lay (d + c) p r
/-- all changes behind b -/
def Chs (f : Int → Int) : Int → List Span → Prop
  | b, [] => ∀ x, b < x → f x = f (x - 1)
  | b, (p, c) :: r => b < p ∧ (∀ x, b < x → x < p → f x = f (x - 1)) ∧ f p = f (p - 1) + c ∧ c ≠ 0 ∧ Chs f p r
theorem const_on {f : Int → Int} {b : Int} : ∀ (n : Nat), (∀ x, b < x → x < b + 1 + n → f x = f (x - 1)) → f (b + n) = f b
  | 0, _ => by simp
  | n + 1, h => by
    have e := h (b + (n + 1 : Nat)) (by omega) (by omega)
    have := const_on n fun x h1 h2 => h x h1 (by omega)
    rw [show b + ((n + 1 : Nat) : Int) - 1 = b + n by omega] at e
    omega
theorem const_at {f : Int → Int} {b p x : Int} (h : ∀ x, b < x → x < p → f x = f (x - 1)) (h1 : b ≤ x) (h2 : x < p) : f x = f b := by
  have e := const_on (f := f) (b := b) (x - b).toNat fun y h3 h4 => h y h3 (by omega)
  rw [show b + ((x - b).toNat : Int) = x by omega] at e
  exact e
theorem lay_pf {f : Int → Int} (f0 : ∀ x, 0 ≤ f x) {B : Int} (hB : ∀ x, B ≤ x → f x = 0) : ∀ {l : List Span} {b : Int}, Chs f b l → PF f b (lay (f b) b l)
  | [], b, h => fun x hx => by
    have h1 := const_at (f := f) (b := b) (p := max B x + 1) (x := max B x) (fun y h1 _ => h y h1) (by omega) (by omega)
    have h2 := const_at (f := f) (b := b) (p := x + 1) (x := x) (fun y h1 _ => h y h1) hx (by omega)
    have h3 := hB (max B x) (by omega)
    omega
  | (p, c) :: r, b, ⟨h1, h2, h3, h4, h5⟩ => by
    have hp : f (p - 1) = f b := const_at h2 (by omega) (by omega)
    have ih := lay_pf f0 hB h5
    have e : f b + c = f p := by omega
    show PF f b (if 0 < f b then (b, p, f b) :: lay (f b + c) p r else lay (f b + c) p r)
    rw [e]
    split
    · rename_i hd
      exact ⟨Int.le_refl _, h1, hd, fun x a b' => by omega, fun x a b' => const_at h2 a b', by show f p ≠ f b; omega, ih⟩
    · rename_i hd
      refine ih.back (fun x a b' => ?_) (by omega)
      have := const_at h2 a b'
      have := f0 b
      omega
theorem lay_zero {d b b' : Int} (h : ¬ 0 < d) : ∀ l, lay d b l = lay d b' l
  | [] => rfl
  | (p, c) :: r => by
    show (if 0 < d then _ else _) = (if 0 < d then _ else _)
    rw [if_neg h, if_neg h]
/-- the changes, told by their places -/
theorem chs_of {f : Int → Int} : ∀ {l : List Span} {b : Int}, (l.map (·.1)).Pairwise (· < ·) → (∀ q ∈ l, b < q.1 ∧ q.2 ≠ 0 ∧ f q.1 = f (q.1 - 1) + q.2) → (∀ x, b < x → f x ≠ f (x - 1) → x ∈ l.map (·.1)) → Chs f b l
  | [], b, _, _, h => fun x hx => by
    by_cases e : f x = f (x - 1)
    · exact e
    · exact absurd (h x hx e) (by simp)
  | (p, c) :: r, b, h1, h2, h3 => by
    obtain ⟨h11, h12⟩ := List.pairwise_cons.mp h1
    obtain ⟨a1, a2, a3⟩ := h2 (p, c) List.mem_cons_self
    refine ⟨a1, fun x x1 x2 => ?_, a3, a2, chs_of h12 (fun q hq => ⟨h11 q.1 (List.mem_map.mpr ⟨q, hq, rfl⟩), (h2 q (List.mem_cons_of_mem _ hq)).2⟩) fun x x1 x2 => ?_⟩
    · by_cases e : f x = f (x - 1)
      · exact e
      · rcases List.mem_cons.mp (h3 x x1 e) with z | z
        · simp only at z
          omega
        · have := h11 x z
          simp only at this
          omega
    · rcases List.mem_cons.mp (h3 x (by simp only at a1; omega) x2) with z | z
      · simp only at z
        omega
      · exact z
theorem pf_lo {f : Int → Int} : ∀ {l : List Piece} {b : Int}, PF f b l → ∀ p ∈ l, b ≤ p.1 ∧ p.1 < p.2.1 ∧ 0 < p.2.2 ∧ f p.1 = p.2.2
  | q :: l, b, ⟨h1, h2, h3, h4, h5, h6, h7⟩, p, hp => by
    rcases List.mem_cons.mp hp with rfl | hp
    · exact ⟨h1, h2, h3, h5 _ (Int.le_refl _) h2⟩
    · obtain ⟨a1, a2⟩ := pf_lo h7 p hp
      exact ⟨by omega, a2⟩
theorem pf_rise {f : Int → Int} : ∀ {l : List Piece} {b : Int}, PF f b l → (l.map (·.1)).Pairwise (· < ·)
  | [], _, _ => List.Pairwise.nil
  | q :: l, b, ⟨h1, h2, h3, h4, h5, h6, h7⟩ => by
    refine List.pairwise_cons.mpr ⟨fun x hx => ?_, pf_rise h7⟩
    obtain ⟨p, hp, rfl⟩ := List.mem_map.mp hx
    have := (pf_lo h7 p hp).1
    show q.1 < p.1
    omega
theorem pf_in {f : Int → Int} : ∀ {l : List Piece} {b : Int}, PF f b l → ∀ x, b ≤ x → f x ≠ 0 → ∃ p ∈ l, p.1 ≤ x ∧ x < p.2.1 ∧ f x = p.2.2
  | [], b, h, x, hx, hf => absurd (h x hx) hf
  | q :: l, b, ⟨h1, h2, h3, h4, h5, h6, h7⟩, x, hx, hf => by
    by_cases e : x < q.1
    · exact absurd (h4 x hx e) hf
    · by_cases e2 : x < q.2.1
      · exact ⟨q, List.mem_cons_self, by omega, e2, h5 x (by omega) e2⟩
      · obtain ⟨p, hp, a⟩ := pf_in h7 x (by omega) hf
        exact ⟨p, List.mem_cons_of_mem _ hp, a⟩
/-- the deepest of the pieces, the first one -/
def stpB : Option Span → Piece → Option Span
  | none, p => some (p.2.2, p.1)
  | some b, p => if b.1 < p.2.2 then some (p.2.2, p.1) else some b
def bestL (l : List Piece) : Option Span := l.foldl stpB none
theorem bestL_snoc (l : List Piece) (p : Piece) : bestL (l ++ [p]) = stpB (bestL l) p := by
  unfold bestL
  rw [List.foldl_append]
  rfl
/-- ps are the pieces of the spans ss -/
def Prf (ss : List Span) (ps : List Piece) : Prop := ∀ b, (∀ s ∈ ss, b < s.1) → PF (fun x => ((dep ss x : Nat) : Int)) b ps
theorem low_of (ss : List Span) : ∃ b : Int, ∀ s ∈ ss, b < s.1 := by
  induction ss with
  | nil => exact ⟨0, fun s h => nomatch h⟩
  | cons s r ih =>
    obtain ⟨b, h⟩ := ih
    refine ⟨min b (s.1 - 1), fun t ht => ?_⟩
    rcases List.mem_cons.mp ht with rfl | ht
    · omega
    · have := h t ht
      omega
theorem Prf.ext {ss ts : List Span} {l m : List Piece} (h : Prf ss l) (k : Prf ts m) (e : ∀ x, dep ss x = dep ts x) (b : Int) (h1 : ∀ s ∈ ss, b < s.1) (h2 : ∀ s ∈ ts, b < s.1) : l = m := by
  have k' := k b h2
  have : (fun x => ((dep ts x : Nat) : Int)) = fun x => ((dep ss x : Nat) : Int) := funext fun x => by rw [e x]
  rw [this] at k'
  exact (h b h1).ext k'
theorem Prf.perm {ss ts : List Span} {l m : List Piece} (h : Prf ss l) (k : Prf ts m) (e : ss.Perm ts) : l = m := by
  obtain ⟨b, hb⟩ := low_of ss
  exact h.ext k (dep_perm e) b hb fun s hs => hb s (e.mem_iff.mpr hs)
theorem high_of (ss : List Span) : ∃ b : Int, ∀ s ∈ ss, s.2 ≤ b := by
  induction ss with
  | nil => exact ⟨0, fun s h => nomatch h⟩
  | cons s r ih =>
    obtain ⟨b, h⟩ := ih
    refine ⟨max b s.2, fun t ht => ?_⟩
    rcases List.mem_cons.mp ht with rfl | ht
    · omega
    · have := h t ht
      omega
/-- the told changes of ss -/
def Cng (ss : List Span) (cs : List Span) : Prop := (cs.map (·.1)).Pairwise (· < ·) ∧ (∀ q ∈ cs, q.2 ≠ 0 ∧ q.2 = chgAt ss q.1) ∧ ∀ x, chgAt ss x ≠ 0 → x ∈ cs.map (·.1)
theorem lay_prf {ss cs : List Span} (hs : ∀ s ∈ ss, s.1 < s.2) (h : Cng ss cs) (b0 : Int) : Prf ss (lay 0 b0 cs) := fun b hb => by
  obtain ⟨h1, h2, h3⟩ := h
  obtain ⟨B, hB⟩ := high_of ss
  have st := dep_step hs
  have f0 : dep ss b = 0 := dep_zero fun s h => .inl (hb s h)
  have e : lay 0 b0 cs = lay (((dep ss b : Nat) : Int)) b cs := by
    rw [f0]
    exact lay_zero (by decide) cs
  rw [e]
  refine lay_pf (f := fun x => ((dep ss x : Nat) : Int)) (fun x => Int.natCast_nonneg _) (B := B) (fun x hx => ?_) (chs_of h1 (fun q hq => ⟨?_, (h2 q hq).1, ?_⟩) fun x hx hne => h3 x ?_)
  · have := dep_zero (ss := ss) (x := x) fun s h => .inr (by have := hB s h; omega)
    show ((dep ss x : Nat) : Int) = 0
    rw [this]
    rfl
  · obtain ⟨q1, q2⟩ := h2 q hq
    by_cases e : b < q.1
    · exact e
    · exact absurd (chgAt_out (ss := ss) (x := q.1) fun s h => by have := hb s h; have := hs s h; omega) (by omega)
  · have := st q.1
    have := (h2 q hq).2
    show ((dep ss q.1 : Nat) : Int) = ((dep ss (q.1 - 1) : Nat) : Int) + q.2
    omega
  · have h9 := st x
    have hne : ((dep ss x : Nat) : Int) ≠ ((dep ss (x - 1) : Nat) : Int) := hne
    omega
/-- few ends -/
def Few (ss : List Span) : Prop := ss.length ≤ 400 ∧ ∃ es : List Int, es.length < 64 ∧ ∀ s ∈ ss, s.1 ∈ es ∧ s.2 ∈ es
theorem few_of {ss : List Span} (h : ss.length < 32) : Few ss := ⟨by omega, ss.map (·.1) ++ ss.map (·.2), by rw [List.length_append, List.length_map, List.length_map]; omega, fun s hs => ⟨List.mem_append_left _ (List.mem_map.mpr ⟨s, hs, rfl⟩), List.mem_append_right _ (List.mem_map.mpr ⟨s, hs, rfl⟩)⟩⟩
theorem few_two {ss ts : List Span} {n : Nat} (hn : ss.length + ts.length < n) (h : 2 * n ≤ 64) : Few (ss ++ ts) := few_of (by rw [List.length_append]; omega)
theorem few_twice {ss : List Span} (h : Few ss) (h2 : ss.length ≤ 200) : Few (ss ++ ss) := by
  obtain ⟨_, es, e1, e2⟩ := h
  refine ⟨by rw [List.length_append]; omega, es, e1, fun s hs => ?_⟩
  rcases List.mem_append.mp hs with z | z
  · exact e2 s z
  · exact e2 s z
section
variable {P : Program} {w : World} {K : PySem.W.Frag} {mg : Str → Option Value} {base : Heap}
/-! ### the program: depths -/
/-- what a dict of counts holds -/
structure Cnt (kvs : List (Key × V)) (ks : List Int) (g : Int → Int) : Prop where
  keys : kvs.map (·.1) = ks.map Sum.inl
  nd : ks.Nodup
  val : ∀ p : Int, valV kvs (.inl p) = if p ∈ ks then some (.int (g p)) else none
  out : ∀ p, p ∉ ks → g p = 0
theorem Cnt.nil : Cnt [] [] (fun _ => 0) := ⟨rfl, List.nodup_nil, fun _ => rfl, fun _ _ => rfl⟩
theorem Cnt.get {kvs : List (Key × V)} {ks : List Int} {g : Int → Int} (h : Cnt kvs ks g) (p : Int) : (valV kvs (.inl p)).getD (.int 0) = .int (g p) := by
  rw [h.val p]
  by_cases e : p ∈ ks
  · rw [if_pos e]
    rfl
  · rw [if_neg e, h.out p e]
    rfl
theorem Cnt.put {kvs : List (Key × V)} {ks : List Int} {g : Int → Int} (h : Cnt kvs ks g) (p d : Int) : ∃ ks', Cnt (putK kvs (.inl p) (.int (g p + d))) ks' (fun q => g q + if q = p then d else 0) ∧ (∀ q, q ∈ ks' ↔ q ∈ ks ∨ q = p) ∧ ks'.length ≤ ks.length + 1 := by
  by_cases e : p ∈ ks
  · have hs : (kvs.any fun kv => decide (kv.1 = (Sum.inl p : Key))) = true := by
      rw [valV_any, h.val p, if_pos e]
      rfl
    refine ⟨ks, ⟨?_, h.nd, fun q => ?_, fun q hq => ?_⟩, fun q => ⟨.inl, fun z => z.elim id fun z => by rw [z]; exact e⟩, by omega⟩
    · unfold putK
      rw [if_pos hs, List.map_map, ← h.keys]
      refine List.map_congr_left fun kv _ => ?_
      show (if kv.1 = Sum.inl p then (kv.1, V.int (g p + d)) else kv).1 = kv.1
      split <;> rfl
    · rw [valV_put]
      by_cases eq : q = p
      · subst eq
        rw [if_pos rfl, if_pos e, if_pos rfl]
      · rw [if_neg (fun z => eq (Sum.inl.inj z)), h.val q, if_neg eq, Int.add_zero]
    · rw [h.out q hq, if_neg (fun z => hq (by rw [z]; exact e))]
      rfl
  · have hn : valV kvs (.inl p) = none := by rw [h.val p, if_neg e]
    refine ⟨ks ++ [p], ⟨?_, ?_, fun q => ?_, fun q hq => ?_⟩, fun q => by simp, by simp⟩
    · rw [putK_new _ hn, List.map_append, h.keys, List.map_append]
      rfl
    · rw [List.nodup_append]
      exact ⟨h.nd, by simp, fun a ha b hb => by rw [List.mem_singleton.mp hb]; exact fun z => e (by rw [← z]; exact ha)⟩
    · rw [valV_put]
      by_cases eq : q = p
      · subst eq
        rw [if_pos rfl, if_pos (by simp), if_pos rfl]
      · rw [if_neg (fun z => eq (Sum.inl.inj z)), h.val q, if_neg eq, Int.add_zero]
        by_cases e2 : q ∈ ks
        · rw [if_pos e2, if_pos (List.mem_append_left _ e2)]
        · rw [if_neg e2, if_neg (by simp [e2, eq])]
    · have h1 : q ∉ ks := fun z => hq (List.mem_append_left _ z)
      rw [h.out q h1, if_neg (fun z => hq (by rw [z]; simp))]
      rfl
def spChanges : Sp := fun vs H Q _ => ∃ (l : Addr) (us : List V) (ss : List Span), vs = [.ref l] ∧ H l = some (.lst us) ∧ Sps H us ss ∧ Few ss ∧
  ∀ (H' : Hp) (r : Addr) (ws : List V) (cs : List Span), Same H H' → H r = none → H' r = some (.lst ws) → Sps H' ws cs → Cng ss cs → cs.length ≤ 64 → Q (.ref r) H'
theorem ok_changes_of (T : Tx K mg) : FnOk P w K mg base CX0 (1) T.f_changes_of T.fd_changes_of ["spans"] spChanges := by
  refine T.F_changes_of.ok sc_changes_of (fun vs H Q E h => ?_) (fun cdv A outer s H vs Q E hr h => ?_)
  · obtain ⟨l, us, ss, rfl, _⟩ := h
    rfl
  · obtain ⟨l, us, ss, rfl, hl, hS, few, q⟩ := h
    have hlen := few.1
    refine ⟨_, (pss_cons (ps_set (i := 1) sc_changes_of.nd rfl (Or.inr rfl) pe_dnewK)
      (pss_cons (ps_for PassesOwn.never (by rfl) (pi_list (pv 0)) (pg_tup rfl (pgs_cons (pg_name (i := 2) sc_changes_of.nd rfl (Or.inl rfl)) (pgs_cons (pg_name (i := 3) sc_changes_of.nd rfl (Or.inl rfl)) pgs_nil)))
        (pss_cons (ps_asg (pe_op op_add (pe_dget2 (room_u hr) (pv 1) (pv 2) pe_int ⟨rfl, rfl, rfl, rfl⟩) pe_int) (pg_sub (pv 1) (pv 2) (set_dict (room_u hr))))
      (pss_one (ps_asg (pe_op op_sub (pe_dget2 (room_u hr) (pv 1) (pv 3) pe_int ⟨rfl, rfl, rfl, rfl⟩) pe_int) (pg_sub (pv 1) (pv 3) (set_dict (room_u hr)))))))
      (pss_one (ps_ret (pe_lc (own := [("place", 4)]) (g := (gName 4)) (by rfl) sc_changes_of.nd (pi_list (pe_callB (call_sortedDI rfl) (by rfl) T.m_sorted (by decide +kernel) (pa_cons (pv 1) pa_nil))) (blkOk_by (own := [("place", 4)]) (N := N_changes_of) (sc := defScope s_changes_of) (by decide +kernel)) (fun _ _ _ _ _ => (pg_name (i := 4) sc_changes_of.nd rfl (Or.inl rfl))) (fun _ _ _ _ _ => (pts_one (pt_cmpR op_ne (pe_dget (room_u hr) (pv 1) (pv 4) (fun _ _ => rfl)) pe_int (nomark _)))) (fun _ _ _ _ _ => (pe_tup (pa_cons (pv 4) (pa_cons (pe_dget (room_u hr) (pv 1) (pv 4) (fun _ _ => rfl)) pa_nil))))))))), ?_⟩
    have hul := hS.len
    intro D nD
    refine ⟨_, rfl, l, rfl, ⟨_, SqL.of ((same_upd nD) _ _ hl)⟩, for_list (K := K) (a := l) (xs := us) (fun i σ H' => ∃ y2 y3 y4 kvs ks, σ = [some (.ref l), some (.ref D), y2, y3, y4] ∧ Same H H' ∧ H' D = some (.dK kvs) ∧ Cnt kvs ks (chgAt (ss.take i)) ∧ ks.length ≤ 2 * i ∧ (∀ p ∈ ks, ∃ s ∈ ss, p = s.1 ∨ p = s.2))
      ⟨none, none, none, [], [], rfl, same_upd nD, upd_same, Cnt.nil, by simp, fun p h => nomatch h⟩ (fun i σ H' _ ⟨_, _, _, _, _, _, sm, _⟩ => SqL.of (sm _ _ hl)) ?_ ?_⟩
    · rintro i y σ H' hi ⟨y2, y3, y4, kvs, ks, rfl, sm, hD, hC, hk, hks⟩
      obtain ⟨sp, es, hsp⟩ := hS.get hi
      obtain ⟨t, rfl, ht⟩ := hsp.same sm
      have hi' : i < us.length := (List.getElem?_eq_some_iff.mp hi).1
      have kl : kvs.length = ks.length := by
        have := congrArg List.length hC.keys
        simpa using this
      refine ⟨t, _, rfl, SqT.of ht, rfl, _, _, rfl, _, _, rfl, rfl, ?_⟩
      refine ⟨_, rfl, D, rfl, .inl ⟨_, .inl hD⟩, _, rfl, _, DGet.k (k := .inl sp.1) hD, ?_⟩
      rw [hC.get]
      refine ⟨_, _, rfl, rfl, _, rfl, _, rfl, D, _, rfl, DPut.k (k := .inl sp.1) hD (small_lt (by omega)), ?_⟩
      obtain ⟨ks1, hC1, hm1, hl1⟩ := hC.put sp.1 1
      have hD1 : (upd H' D (.dK (putK kvs (.inl sp.1) (.int (chgAt (ss.take i) sp.1 + 1))))) D = some (.dK (putK kvs (.inl sp.1) (.int (chgAt (ss.take i) sp.1 + 1)))) := upd_same
      have sm1 := same_more (o := .dK (putK kvs (.inl sp.1) (.int (chgAt (ss.take i) sp.1 + 1)))) sm nD
      revert hC1 hD1 sm1
      generalize upd H' D (.dK (putK kvs (.inl sp.1) (.int (chgAt (ss.take i) sp.1 + 1)))) = H1
      generalize putK kvs (.inl sp.1) (.int (chgAt (ss.take i) sp.1 + 1)) = kv1
      intro hC1 hD1 sm1
      have kl1 : kv1.length = ks1.length := by
        have := congrArg List.length hC1.keys
        simpa using this
      refine ⟨_, rfl, D, rfl, .inl ⟨_, .inl hD1⟩, _, rfl, _, DGet.k (k := .inl sp.2) hD1, ?_⟩
      rw [hC1.get]
      refine ⟨_, _, rfl, rfl, _, rfl, _, rfl, D, _, rfl, DPut.k (k := .inl sp.2) hD1 (small_lt (by omega)), ?_⟩
      obtain ⟨ks2, hC2, hm2, hl2⟩ := hC1.put sp.2 (-1)
      refine ⟨_, _, _, _, ks2, rfl, same_more sm1 nD, upd_same, ?_, by omega, fun p hp => ?_⟩
      · have e : chgAt (ss.take (i + 1)) = fun q => chgAt (ss.take i) q + (if q = sp.1 then 1 else 0) + (if q = sp.2 then -1 else 0) := funext fun q => by
          rw [List.take_add_one, es]
          show chgAt (ss.take i ++ [sp]) q = _
          rw [chgAt_app]
          simp only [chgAt]
          split <;> split <;> split <;> split <;> omega
        rw [e]
        exact hC2
      · rcases (hm2 p).mp hp with z | z
        · rcases (hm1 p).mp z with z | z
          · exact hks p z
          · exact ⟨sp, List.mem_of_getElem? es, .inl z⟩
        · exact ⟨sp, List.mem_of_getElem? es, .inr z⟩
    · rintro σ H1 ⟨y2, y3, y4, kvs, ks, rfl, sm, hD, hC, hk, hks⟩
      rw [hul, List.take_length] at hC
      have k64 : ks.length < 64 := by
        obtain ⟨_, es, e1, e2⟩ := few
        have := nodup_len hC.nd (m := es) fun x hx => by
          obtain ⟨s, hs, z⟩ := hks x hx
          rcases z with z | z
          · rw [z]
            exact (e2 s hs).1
          · rw [z]
            exact (e2 s hs).2
        omega
      refine ⟨_, rfl, D, kvs, ks, rfl, .inl hD, hC.keys, k64, fun ys p prm srt np => ?_⟩
      obtain ⟨gp, sp⟩ := upd_at (o := .lst (ys.map V.int)) np
      have hD2 := sp _ _ hD
      have sm2 := sm.trans sp
      revert gp hD2 sm2
      generalize upd H1 p (.lst (ys.map V.int)) = H2
      intro gp hD2 sm2
      have mem : ∀ z, z ∈ ys ↔ z ∈ ks := fun z => prm.mem_iff
      have nd : ys.Nodup := prm.nodup_iff.mpr hC.nd
      have str : ys.Pairwise (· < ·) := (srt.and nd).imp fun {a b} ⟨h1, h2⟩ => by
        have : a ≠ b := h2
        omega
      have ylen : ys.length ≤ 64 := by
        have := prm.length_eq
        omega
      refine ⟨p, rfl, ⟨_, SqL.of gp⟩, fun D2 nD2 => ?_⟩
      refine lc_list (K := K) (a := p) (xs := ys.map V.int) (fun i H' => Same H2 H' ∧ ∃ ws, H' D2 = some (.lst ws) ∧ Sps H' ws (((ys.take i).filter fun z => decide (chgAt ss z ≠ 0)).map fun z => (z, chgAt ss z))) ⟨same_upd nD2, [], upd_same, .nil⟩ (fun i H' _ h => SqL.of (h.1 _ _ gp)) ?_ ?_
      · rintro i y H' hi ⟨sm3, ws, hw, hws⟩
        rw [List.getElem?_map] at hi
        obtain ⟨z, ez, rfl⟩ := Option.map_eq_some_iff.mp hi
        have hz : z ∈ ks := (mem z).mp (List.mem_of_getElem? ez)
        have tk : ys.take (i + 1) = ys.take i ++ [z] := by
          rw [List.take_add_one, ez]
          rfl
        have g1 : valV kvs (.inl z) = some (.int (chgAt ss z)) := by rw [hC.val z, if_pos hz]
        have wl := hws.len
        have wl2 : ws.length ≤ 64 := by
          rw [wl, List.length_map]
          have h1 := List.length_filter_le (fun z => decide (chgAt ss z ≠ 0)) (ys.take i)
          have h2 : (ys.take i).length ≤ ys.length := by
            rw [List.length_take]
            exact Nat.min_le_right _ _
          omega
        refine ⟨rfl, _, rfl, _, rfl, D, .int (chgAt ss z), rfl, ?_, ?_⟩
        · exact .inl ⟨kvs, .inl z, .inl (sm3 _ _ hD2), rfl, g1.symm⟩
        refine ⟨rfl, _, rfl, ?_⟩
        rw [tk, List.filter_append]
        by_cases h0 : chgAt ss z = 0
        · refine iteNS (congrArg V.int h0) ?_
          rw [show [z].filter (fun z => decide (chgAt ss z ≠ 0)) = [] by simp [h0], List.append_nil]
          exact ⟨sm3, ws, hw, hws⟩
        · refine iteNT (fun e => h0 (V.int.inj e)) ?_
          refine ⟨_, rfl, _, rfl, _, rfl, D, .int (chgAt ss z), rfl, .inl ⟨kvs, .inl z, .inl (sm3 _ _ hD2), rfl, g1.symm⟩, (by show 2 ≤ sizeLine; decide), fun t nt => ?_⟩
          have st := same_upd (o := .tup [.int z, .int (chgAt ss z)]) nt
          have nt2 : t ≠ D2 := (ne_of_none hw nt).symm
          refine ⟨ws, st _ _ hw, small_lt (by omega), ?_, ws ++ [.ref t], upd_same, ?_⟩
          · exact same_more (sm3.trans st) nD2
          · have cf : Chg [D2] (upd H' t (.tup [.int z, .int (chgAt ss z)])) (upd (upd H' t (.tup [.int z, .int (chgAt ss z)])) D2 (.lst (ws ++ [.ref t]))) := Chg.upd List.mem_cons_self
            rw [List.map_append]
            refine Sps.app ((hws.same st).chg cf (Lsts.of1 (st _ _ hw))) ?_
            rw [show [z].filter (fun z => decide (chgAt ss z ≠ 0)) = [z] by simp [h0]]
            exact .one (Spn.chg ⟨t, rfl, upd_same⟩ cf (Lsts.of1 (st _ _ hw)))
      · rintro H' ⟨sm3, ws, hw, hws⟩
        rw [List.length_map, List.take_length] at hws
        refine q H' D2 ws _ (sm2.trans sm3) (sm2.free nD2) hw hws ⟨?_, fun c hc => ?_, fun x hx => ?_⟩ ?_
        · rw [List.map_map]
          show (List.map (fun z => z) _).Pairwise _
          rw [List.map_id']
          exact str.filter _
        · obtain ⟨z, hz, rfl⟩ := List.mem_map.mp hc
          exact ⟨of_decide_eq_true (List.mem_filter.mp hz).2, rfl⟩
        · rw [List.map_map]
          refine List.mem_map.mpr ⟨x, List.mem_filter.mpr ⟨(mem x).mpr ?_, decide_eq_true hx⟩, rfl⟩
          by_cases e : x ∈ ks
          · exact e
          · exact absurd (hC.out x e) hx
        · rw [List.length_map]
          have h1 := List.length_filter_le (fun z => decide (chgAt ss z ≠ 0)) ys
          omega
end
section
variable {P : Program} {w : World} {K : PySem.W.Frag} {mg : Str → Option Value} {base : Heap}
/-- the rows of pieces -/
def pcR (p : Piece) : List Int := [p.1, p.2.1, p.2.2]
theorem pcR_inj {p q : Piece} (h : pcR p = pcR q) : p = q := by
  obtain ⟨a, b, c⟩ := p
  obtain ⟨d, e, f⟩ := q
  simp only [pcR, List.cons.injEq, and_true] at h
  obtain ⟨rfl, rfl, rfl⟩ := h
  rfl
theorem pcRs_inj : ∀ {l m : List Piece}, l.map pcR = m.map pcR → l = m
  | [], [], _ => rfl
  | [], _ :: _, h => by simp at h
  | _ :: _, [], h => by simp at h
  | a :: l, b :: m, h => by
    rw [List.map_cons, List.map_cons, List.cons.injEq] at h
    rw [pcR_inj h.1, pcRs_inj h.2]
/-- the depth and the place behind the changes -/
def endD : Int → List Span → Int
  | d, [] => d
  | d, q :: r => endD (d + q.2) r
def endB : Int → List Span → Int
  | b, [] => b
  | _, q :: r => endB q.1 r
theorem lay_more (p c : Int) : ∀ (l : List Span) (d b : Int), lay d b (l ++ [(p, c)]) = lay d b l ++ (if 0 < endD d l then [(endB b l, p, endD d l)] else []) ∧ endD d (l ++ [(p, c)]) = endD d l + c ∧ endB b (l ++ [(p, c)]) = p
  | [], d, b => ⟨by show (if 0 < d then [(b, p, d)] else []) = [] ++ (if 0 < d then [(b, p, d)] else []); rw [List.nil_append], rfl, rfl⟩
  | (x, y) :: r, d, b => by
    obtain ⟨h1, h2, h3⟩ := lay_more p c r (d + y) x
    refine ⟨?_, h2, h3⟩
    show (if 0 < d then (b, x, d) :: lay (d + y) x (r ++ [(p, c)]) else lay (d + y) x (r ++ [(p, c)])) = (if 0 < d then (b, x, d) :: lay (d + y) x r else lay (d + y) x r) ++ (if 0 < endD (d + y) r then [(endB x r, p, endD (d + y) r)] else [])
    rw [h1]
    by_cases hd : 0 < d
    · rw [if_pos hd, if_pos hd]
      rfl
    · rw [if_neg hd, if_neg hd]
theorem lay_len : ∀ (l : List Span) (d b : Int), (lay d b l).length ≤ l.length
  | [], _, _ => Nat.le_refl _
  | (x, y) :: r, d, b => by
    have := lay_len r (d + y) x
    show (if 0 < d then (b, x, d) :: lay (d + y) x r else lay (d + y) x r).length ≤ r.length + 1
    split
    · rw [List.length_cons]
      omega
    · omega
def spLayers : Sp := fun vs H Q _ => ∃ (l : Addr) (us : List V) (ss : List Span), vs = [.ref l] ∧ H l = some (.lst us) ∧ Sps H us ss ∧ Few ss ∧ (∀ s ∈ ss, s.1 < s.2) ∧
  ∀ (H' : Hp) (r : Addr) (ws : List V) (ps : List Piece), Same H H' → H r = none → H' r = some (.lst ws) → Rws H' ws (ps.map pcR) → Prf ss ps → ps.length ≤ 64 → Q (.ref r) H'
theorem ok_layers_of (T : Tx K mg) : FnOk P w K mg base CX0 (2) T.f_layers_of T.fd_layers_of ["spans"] spLayers := by
  have G_changes_of : FnOk P w K mg base CX0 _ _ _ _ _ := ok_changes_of T
  refine T.F_layers_of.ok sc_layers_of (fun vs H Q E h => ?_) (fun cdv A outer s H vs Q E hr h => ?_)
  · obtain ⟨l, us, ss, rfl, _⟩ := h
    rfl
  · obtain ⟨l, us, ss, rfl, hl, hS, hlen, hlt, q⟩ := h
    refine ⟨_, (pss_cons (ps_set (i := 1) sc_layers_of.nd rfl (Or.inl rfl) (pe_lst pa_nil))
      (pss_cons (ps_set (i := 2) sc_layers_of.nd rfl (Or.inl rfl) pe_int)
      (pss_cons (ps_set (i := 3) sc_layers_of.nd rfl (Or.inl rfl) pe_int)
      (pss_cons (ps_for PassesOwn.never (by rfl) (pi_list (pe_call G_changes_of (hr.mono (by decide)) (by rfl) T.g_changes_of T.F_changes_of.kp T.b_changes_of .nil pass0 (pa_cons (pv 0) pa_nil))) (pg_tup rfl (pgs_cons (pg_name (i := 4) sc_layers_of.nd rfl (Or.inl rfl)) (pgs_cons (pg_name (i := 5) sc_layers_of.nd rfl (Or.inl rfl)) pgs_nil)))
        (pss_cons (ps_if (pt_cmpR op_gt (pv 2) pe_int (nomark _)) (pss_one (ps_expr (pe_bm PySem.F.plainAttrs_list PySem.F.slot_list_append PySem.F.type_list_append mt_append (pv 1) (pa_cons (pe_tup (pa_cons (pv 3) (pa_cons (pv 4) (pa_cons (pv 2) pa_nil)))) pa_nil)))) pss_nil)
      (pss_cons (ps_aug (i := 2) sc_layers_of.nd rfl (Or.inl rfl) (pv 5) ip_add)
      (pss_one (ps_set (i := 3) sc_layers_of.nd rfl (Or.inl rfl) (pv 4))))))
      (pss_one (ps_ret (pv 1))))))), ?_⟩
    refine ⟨Nat.zero_le _, fun D nD => ?_⟩
    obtain ⟨gD, sD⟩ := upd_at (o := .lst []) nD
    refine ⟨_, rfl, l, us, ss, rfl, sD _ _ hl, hS.same sD, hlen, fun H1 r ws cs s1 nr hr1 hcs hC hcl => ?_⟩
    have sm1 := sD.trans s1
    have cl := hcs.len
    refine ⟨r, rfl, ⟨_, SqL.of hr1⟩, for_list (K := K) (a := r) (xs := ws) (fun i σ H' => ∃ y4 y5 vs, σ = [some (.ref l), some (.ref D), some (.int (endD 0 (cs.take i))), some (.int (endB 0 (cs.take i))), y4, y5] ∧ Same H H' ∧ Chg [D] H1 H' ∧ H' D = some (.lst vs) ∧ Rws H' vs ((lay 0 0 (cs.take i)).map pcR))
      ⟨none, none, [], rfl, sm1, Chg.refl _ _, s1 _ _ gD, .nil⟩ (fun i σ H' _ ⟨_, _, _, _, _, c, _⟩ => SqL.of (c _ _ (nmem1 (ne_of_none gD nr).symm) hr1)) ?_ ?_⟩
    · rintro i y σ H' hi ⟨y4, y5, vs, rfl, sm, cD, hD, hv⟩
      have rD : r ≠ D := (ne_of_none gD nr).symm
      obtain ⟨cp, ec, hcp⟩ := hcs.get hi
      have lD : Lsts [D] H1 := Lsts.of1 (s1 _ _ gD)
      obtain ⟨t, rfl, ht⟩ := hcp.chg cD lD
      have hi' : i < ws.length := (List.getElem?_eq_some_iff.mp hi).1
      have tk : cs.take (i + 1) = cs.take i ++ [(cp.1, cp.2)] := by
        rw [List.take_add_one, ec]
        rfl
      obtain ⟨m1, m2, m3⟩ := lay_more cp.1 cp.2 (cs.take i) 0 0
      have vl := hv.len
      have vl2 : vs.length ≤ 64 := by
        rw [vl, List.length_map]
        have h1 := lay_len (cs.take i) 0 0
        have h2 : (cs.take i).length ≤ cs.length := by
          rw [List.length_take]
          exact Nat.min_le_right _ _
        omega
      refine ⟨t, _, rfl, SqT.of ht, rfl, _, _, rfl, _, _, rfl, rfl, ?_⟩
      refine ⟨_, rfl, _, _, rfl, rfl, _, rfl, ?_⟩
      rw [tk, m1, m2, m3]
      refine ite2 (fun e => ?_) (fun e => ?_)
      · have e : 0 < endD 0 (cs.take i) := of_decide_eq_true e
        refine ⟨_, rfl, .inl ⟨rfl, _, SqL.of hD⟩, _, rfl, _, rfl, _, rfl, (by show 3 ≤ sizeLine; decide), fun t2 nt2 => ?_⟩
        have st := same_upd (o := .tup [.int (endB 0 (cs.take i)), .int cp.1, .int (endD 0 (cs.take i))]) nt2
        have hD2 := st _ _ hD
        refine ⟨D, vs, _, rfl, rfl, hD2, small_lt (by omega), ?_⟩
        have cf : Chg [D] (upd H' t2 (.tup [.int (endB 0 (cs.take i)), .int cp.1, .int (endD 0 (cs.take i))])) (upd (upd H' t2 (.tup [.int (endB 0 (cs.take i)), .int cp.1, .int (endD 0 (cs.take i))])) D (.lst (vs ++ [.ref t2]))) := Chg.upd List.mem_cons_self
        refine ⟨_, rfl, _, rfl, _, _, rfl, rfl, _, rfl, _, _, vs ++ [.ref t2], rfl, same_more (sm.trans st) nD, (cD.trans (Chg.of_same st)).trans cf, upd_same, ?_⟩
        rw [if_pos e, List.map_append]
        exact Rws.app ((Kp.chg cf).rws (Lsts.of1 hD2) (hv.same st)) (.one ((Kp.chg cf).rw (Lsts.of1 hD2) ⟨t2, rfl, upd_same⟩))
      · have e : ¬ 0 < endD 0 (cs.take i) := fun z => e (decide_eq_true z)
        refine ⟨_, rfl, _, rfl, _, _, rfl, rfl, _, rfl, _, _, vs, rfl, sm, cD, hD, ?_⟩
        rw [if_neg e, List.append_nil]
        exact hv
    · rintro σ H' ⟨y4, y5, vs, rfl, sm, cD, hD, hv⟩
      rw [cl, List.take_length] at hv
      have := lay_len cs 0 0
      exact ⟨_, rfl, q H' D vs _ sm nD hD hv (lay_prf hlt hC 0) (by omega)⟩
theorem all_lt {ss : List Span} (h : ss.all isSpan = true) : ∀ s ∈ ss, s.1 < s.2 := fun s hs => ((isSpan_iff s).mp (List.all_eq_true.mp h s hs)).2.1
/-- the best of pieces as a value -/
def Bst (H : Hp) (v : V) : Option Span → Prop
  | none => v = .non
  | some s => Spn H v s
def spDeepL : Sp := fun vs H Q _ => ∃ (l : Addr) (us : List V) (ss : List Span), vs = [.ref l] ∧ H l = some (.lst us) ∧ Sps H us ss ∧ Few ss ∧ (∀ s ∈ ss, s.1 < s.2) ∧
  ∀ (H' : Hp) (v : V) (ps : List Piece), Same H H' → Prf ss ps → Bst H' v (bestL ps) → Q v H'
theorem ok_deepest_layer (T : Tx K mg) : FnOk P w K mg base CX0 (3) T.f_deepest_layer T.fd_deepest_layer ["spans"] spDeepL := by
  have G_layers_of : FnOk P w K mg base CX0 _ _ _ _ _ := ok_layers_of T
  refine T.F_deepest_layer.ok sc_deepest_layer (fun vs H Q E h => ?_) (fun cdv A outer s H vs Q E hr h => ?_)
  · obtain ⟨l, us, ss, rfl, _⟩ := h
    rfl
  · obtain ⟨l, us, ss, rfl, hl, hS, hlen, hlt, q⟩ := h
    refine ⟨_, (pss_cons (ps_set (i := 1) sc_deepest_layer.nd rfl (Or.inl rfl) pe_non)
      (pss_cons (ps_for PassesOwn.never (by rfl) (pi_list (pe_call G_layers_of (hr.mono (by decide)) (by rfl) T.g_layers_of T.F_layers_of.kp T.b_layers_of .nil pass0 (pa_cons (pv 0) pa_nil))) (pg_tup rfl (pgs_cons (pg_name (i := 2) sc_deepest_layer.nd rfl (Or.inl rfl)) (pgs_cons (pg_name (i := 3) sc_deepest_layer.nd rfl (Or.inl rfl)) (pgs_cons (pg_name (i := 4) sc_deepest_layer.nd rfl (Or.inl rfl)) pgs_nil))))
        (pss_one (ps_if (PW.pt (pw_or (pt_cmpR op_isN (pv 1) pe_non (nomark _)) (pw_or1 (pt_cmpR op_gt (pv 4) (pe_ix ix_tup (pv 1) pe_int (fun _ _ => rfl)) (nomark _))))) (pss_one (ps_set (i := 1) sc_deepest_layer.nd rfl (Or.inl rfl) (pe_tup (pa_cons (pv 4) (pa_cons (pv 2) pa_nil))))) pss_nil)))
      (pss_one (ps_ret (pv 1))))), ?_⟩
    refine ⟨_, rfl, l, us, ss, rfl, hl, hS, hlen, hlt, fun H1 r ws ps s1 nr hr1 hp prf pl => ?_⟩
    have wl := hp.len
    refine ⟨r, rfl, ⟨_, SqL.of hr1⟩, for_list (K := K) (a := r) (xs := ws) (fun i σ H' => ∃ v y2 y3 y4, σ = [some (.ref l), some v, y2, y3, y4] ∧ Same H1 H' ∧ Bst H' v (bestL (ps.take i)))
      ⟨.non, none, none, none, rfl, Same.refl _, rfl⟩ (fun i σ H' _ ⟨_, _, _, _, _, c, _⟩ => SqL.of (c _ _ hr1)) ?_ ?_⟩
    · rintro i y σ H' hi ⟨v, y2, y3, y4, rfl, sm, hb⟩
      obtain ⟨row, er, hrow⟩ := hp.get hi
      rw [List.getElem?_map] at er
      obtain ⟨pc, ep, rfl⟩ := Option.map_eq_some_iff.mp er
      obtain ⟨t, rfl, ht⟩ := hrow
      have tk : ps.take (i + 1) = ps.take i ++ [pc] := by
        rw [List.take_add_one, ep]
        rfl
      rw [tk, bestL_snoc]
      refine ⟨t, _, rfl, SqT.of (sm _ _ ht), rfl, _, _, rfl, _, _, rfl, _, _, rfl, rfl, ?_⟩
      have new : tAsg (tTup (tCons (tVar 4) (tCons (tVar 2) tNil))) (gName 1) { nx := fun σ H' => ∃ v y2 y3 y4, σ = [some (.ref l), some v, y2, y3, y4] ∧ Same H1 H' ∧ Bst H' v (some (pc.2.2, pc.1)), rt := Q } [some (.ref l), some v, some (.int pc.1), some (.int pc.2.1), some (.int pc.2.2)] H' := by
        refine ⟨_, rfl, _, rfl, (by show 2 ≤ sizeLine; decide), fun t2 nt2 => ?_⟩
        exact ⟨_, _, _, _, rfl, sm.trans (same_upd nt2), t2, rfl, upd_same⟩
      cases hbb : bestL (ps.take i) with
      | none =>
        rw [hbb] at hb
        have hb : v = .non := hb
        subst hb
        refine ⟨_, rfl, rfl, _, rfl, iteT ?_⟩
        exact new
      | some b =>
        rw [hbb] at hb
        obtain ⟨t3, rfl, ht3⟩ := hb
        refine ⟨_, rfl, rfl, _, rfl, iteF ?_⟩
        refine ⟨_, rfl, _, rfl, t3, _, _, _, rfl, rfl, SqT.of ht3, atI_nat (j := 0) rfl, _, _, rfl, rfl, _, rfl, ite2 (fun e => ?_) (fun e => ?_)⟩
        · have e : b.1 < pc.2.2 := of_decide_eq_true e
          show tAsg _ _ _ _ _
          simp only [stpB]
          rw [if_pos e]
          exact new
        · have e : ¬ b.1 < pc.2.2 := fun z => e (decide_eq_true z)
          simp only [stpB]
          rw [if_neg e]
          exact ⟨_, _, _, _, rfl, sm, t3, rfl, ht3⟩
    · rintro σ H' ⟨v, y2, y3, y4, rfl, sm, hb⟩
      rw [wl, List.length_map, List.take_length] at hb
      exact ⟨_, rfl, q H' v ps (s1.trans sm) prf hb⟩
def spDeepest (C : Addr) : Sp := fun vs H Q E => ∃ (l : Addr) (us : List V) (ss : List Span), vs = [.ref l] ∧ H l = some (.lst us) ∧ Sps H us ss ∧ Few ss ∧ (ss.all isSpan = false → E (.ref C) none H) ∧
  (ss.all isSpan = true → ∀ (H' : Hp) (v : V) (ps : List Piece), Same H H' → Prf ss ps → Bst H' v (bestL ps) → Q v H')
theorem ok_deepest (T : Tx K mg) : FnOk P w K mg base (L2.CX P w) (6) T.f_deepest T.fd_deepest ["spans"] (spDeepest T.C_NoSpan) := by
  have G_check_spans : FnOk P w K mg base (L2.CX P w) _ _ _ _ _ := ok_check_spans T
  have G_deepest_layer : FnOk P w K mg base CX0 _ _ _ _ _ := ok_deepest_layer T
  refine T.F_deepest.okX sc_deepest (fun vs H Q E h => ?_) (fun cdv A outer s H vs Q E hr h => ?_)
  · obtain ⟨l, us, ss, rfl, _⟩ := h
    rfl
  · obtain ⟨l, us, ss, rfl, hl, hS, hlen, e, q⟩ := h
    refine ⟨_, (pss_cons (ps_expr (pe_call G_check_spans (hr.mono (by decide)) (by rfl) T.g_check_spans T.F_check_spans.kp T.b_check_spans .nil (passes_call (takes_of rfl rfl rfl rfl) (fun _ _ _ _ h => h)) (pa_cons (pv 0) pa_nil)))
      (pss_one (ps_ret (pe_call G_deepest_layer (hr.mono (by decide)) (by rfl) T.g_deepest_layer T.F_deepest_layer.kp T.b_deepest_layer .nil pass0 (pa_cons (pv 0) pa_nil))))), ?_⟩
    exact ⟨_, rfl, l, us, ss, rfl, hl, hS, fun ok => ⟨_, rfl, l, us, ss, rfl, hl, hS, hlen, all_lt ok, fun H' v ps s1 p b => q ok H' v ps s1 p b⟩, e⟩
end
section
variable {P : Program} {w : World} {K : PySem.W.Frag} {mg : Str → Option Value} {base : Heap}
def spProfile (C : Addr) : Sp := fun vs H Q E => ∃ (l : Addr) (us : List V) (ss : List Span), vs = [.ref l] ∧ H l = some (.lst us) ∧ Sps H us ss ∧ Few ss ∧ (ss.all isSpan = false → E (.ref C) none H) ∧
  (ss.all isSpan = true → ∀ (H' : Hp) (r : Addr) (ws : List V) (ps : List Piece), Same H H' → H r = none → H' r = some (.lst ws) → Rws H' ws (ps.map pcR) → Prf ss ps → ps.length ≤ 64 → Q (.ref r) H')
theorem ok_profile (T : Tx K mg) : FnOk P w K mg base (L2.CX P w) (6) T.f_profile T.fd_profile ["spans"] (spProfile T.C_NoSpan) := by
  have G_check_spans : FnOk P w K mg base (L2.CX P w) _ _ _ _ _ := ok_check_spans T
  have G_layers_of : FnOk P w K mg base CX0 _ _ _ _ _ := ok_layers_of T
  refine T.F_profile.okX sc_profile (fun vs H Q E h => ?_) (fun cdv A outer s H vs Q E hr h => ?_)
  · obtain ⟨l, us, ss, rfl, _⟩ := h
    rfl
  · obtain ⟨l, us, ss, rfl, hl, hS, hlen, e, q⟩ := h
    refine ⟨_, (pss_cons (ps_expr (pe_call G_check_spans (hr.mono (by decide)) (by rfl) T.g_check_spans T.F_check_spans.kp T.b_check_spans .nil (passes_call (takes_of rfl rfl rfl rfl) (fun _ _ _ _ h => h)) (pa_cons (pv 0) pa_nil)))
      (pss_one (ps_ret (pe_call G_layers_of (hr.mono (by decide)) (by rfl) T.g_layers_of T.F_layers_of.kp T.b_layers_of .nil pass0 (pa_cons (pv 0) pa_nil))))), ?_⟩
    refine ⟨_, rfl, l, us, ss, rfl, hl, hS, fun ok => ?_, e⟩
    exact ⟨_, rfl, l, us, ss, rfl, hl, hS, hlen, all_lt ok, q ok⟩
end
section
variable {P : Program} {w : World} {K : PySem.W.Frag} {mg : Str → Option Value} {base : Heap}
/-! ### the program: how many hold a place -/
def spCount (T : Tx K mg) : Sp := fun vs H Q _ => ∃ (l : Addr) (us : List V) (ss : List Span) (x : Int), vs = [.ref l, .int x] ∧ SqL K H l us ∧ Sps H us ss ∧ Tb T.tabs H ∧ ∀ H', Kp [] H H' → Tb T.tabs H' → Q (.int (dep ss x : Nat)) H'
theorem ok_count_at (T : Tx K mg) (B : Tbs T base) : FnOk P w K mg base CX0 (1) T.f_count_at T.fd_count_at ["spans", "place"] (spCount T) := by
  refine T.FC_count_at.ok sc_count_at (fun vs H Q E h => ?_) (fun A outer s H vs Q E hr h => ?_)
  · obtain ⟨l, us, ss, x, rfl, _⟩ := h
    rfl
  · obtain ⟨l, us, ss, x, rfl, hl, hS, tb, q⟩ := h
    refine ⟨_, (pss_one (ps_ret (pe_gxSum (own := [("low", 2), ("high", 3)]) (g := (gTup K 2 (gCons (gName 2) (gCons (gName 3) gNil)))) hr rfl sc_count_at.nd (by rfl) T.m_sum B.t_count_at rfl (gblk_by (own := [("low", 2), ("high", 3)]) (N := N_count_at) (sc := defScope s_count_at) (by decide +kernel)) (pi_list (pv 0)) (fun _ _ _ _ _ => by exact (pg_tup rfl (pgs_cons (pg_name (i := 2) sc_count_at.nd rfl (Or.inl rfl)) (pgs_cons (pg_name (i := 3) sc_count_at.nd rfl (Or.inl rfl)) pgs_nil)))) (fun _ _ _ _ _ => (pts_one (pt_chain op_le op_lt (pv 2) (pv 1) (pv 3)))) (fun _ _ _ _ _ => pe_int) (fun _ => rfl)))), ?_⟩
    have mP : T.pA_count_at ∈ T.tabs := by
      unfold Tx.tabs
      simp
    refine ⟨_, rfl, l, rfl, ⟨_, hl⟩, tb _ mP, fun H2 t2 => ?_⟩
    obtain ⟨tb2, k2⟩ := tb.kp mP t2
    have hl2 := k2.seq List.not_mem_nil hl
    have hS2 := k2.sps (lsts0 H) hS
    refine gx_list (K := K) (a := l) (xs := us) (fun i z H' => H' = H2 ∧ z = ((dep (ss.take i) x : Nat) : Int)) ⟨rfl, rfl⟩ (fun i z H' _ h => by rw [h.1]; exact hl2) ?_ ?_
    · rintro i y z H' hi ⟨rfl, rfl⟩
      obtain ⟨sp, es, hsp⟩ := hS2.get hi
      obtain ⟨t, rfl, ht⟩ := hsp
      have tk : ss.take (i + 1) = ss.take i ++ [sp] := by
        rw [List.take_add_one, es]
        rfl
      have d1 : dep (ss.take (i + 1)) x = dep (ss.take i) x + (if holdsB x sp = true then 1 else 0) := by
        rw [tk, dep_app, dep_cons]
        rfl
      refine ⟨t, _, rfl, SqT.of ht, rfl, _, _, rfl, _, _, rfl, rfl, rfl, ?_⟩
      refine ⟨_, rfl, _, rfl, _, _, rfl, rfl, _, rfl, ?_⟩
      by_cases h1 : sp.1 ≤ x
      · rw [decide_eq_true h1]
        refine iteT ⟨_, rfl, _, _, rfl, rfl, _, rfl, ?_⟩
        by_cases h2 : x < sp.2
        · rw [decide_eq_true h2]
          refine iteT ⟨1, rfl, rfl, ?_⟩
          rw [d1, if_pos (holds_iff.mpr ⟨h1, h2⟩)]
          rfl
        · rw [decide_eq_false h2]
          refine iteF ⟨rfl, ?_⟩
          rw [d1, if_neg (fun z => h2 (holds_iff.mp z).2)]
          rfl
      · rw [decide_eq_false h1]
        refine iteF ⟨_, rfl, iteF ⟨rfl, ?_⟩⟩
        rw [d1, if_neg (fun z => h1 (holds_iff.mp z).1)]
        rfl
    · rintro z H' ⟨rfl, rfl⟩
      rw [hS2.len, List.take_length]
      exact q _ k2 tb2
end
section
variable {P : Program} {w : World} {K : PySem.W.Frag} {mg : Str → Option Value} {base : Heap}
def spCheckPlace (C : Addr) : Sp := fun vs H Q E => ∃ i : Int, vs = [.int i] ∧ (isPlace i = true → Q .non H) ∧ (isPlace i = false → E (.ref C) none H)
theorem ok_check_place (T : Tx K mg) : FnOk P w K mg base (L2.CX P w) (3) T.f_check_place T.fd_check_place ["place"] (spCheckPlace T.C_NoPlace) := by
  have G_is_place : FnOk P w K mg base CX0 _ _ _ _ _ := ok_is_place T
  refine T.F_check_place.okX sc_check_place (fun vs H Q E h => ?_) (fun cdv A outer s H vs Q E hr h => ?_)
  · obtain ⟨i, rfl, _⟩ := h
    rfl
  · obtain ⟨i, rfl, q, e⟩ := h
    refine ⟨_, (pss_one (ps_if (pt_not (pt_val (pe_call G_is_place (hr.mono (by decide)) (by rfl) T.g_is_place T.F_is_place.kp T.b_is_place .nil pass0 (pa_cons (pv 0) pa_nil)))) (pss_one (ps_raise (by rfl) (takes_of rfl rfl rfl rfl) (pmk_own PySem.F.excBase_ValueError T.x_NoPlace T.g_NoPlace T.k_NoPlace (raises_own T.b_NoPlace T.t_NoPlace) (by exact rfl)))) pss_nil)), ?_⟩
    refine ⟨_, rfl, i, rfl, _, rfl, ?_⟩
    by_cases h : isPlace i = true
    · rw [h]
      exact iteF (q h)
    · rw [Bool.not_eq_true] at h
      rw [h]
      exact iteT (e h)
def spDepthAt (T : Tx K mg) : Sp := fun vs H Q E => ∃ (l : Addr) (us : List V) (ss : List Span) (x : Int), vs = [.ref l, .int x] ∧ H l = some (.lst us) ∧ Sps H us ss ∧ Tb T.tabs H ∧ (ss.all isSpan = false → E (.ref T.C_NoSpan) none H) ∧ (ss.all isSpan = true → isPlace x = false → E (.ref T.C_NoPlace) none H) ∧
  (ss.all isSpan = true → isPlace x = true → ∀ H', Kp [] H H' → Tb T.tabs H' → Q (.int (dep ss x : Nat)) H')
theorem ok_depth_at (T : Tx K mg) (B : Tbs T base) : FnOk P w K mg base (L2.CX P w) (6) T.f_depth_at T.fd_depth_at ["spans", "place"] (spDepthAt T) := by
  have G_check_spans : FnOk P w K mg base (L2.CX P w) _ _ _ _ _ := ok_check_spans T
  have G_check_place : FnOk P w K mg base (L2.CX P w) _ _ _ _ _ := ok_check_place T
  have G_count_at : FnOk P w K mg base CX0 _ _ _ _ _ := ok_count_at T B
  refine T.F_depth_at.okX sc_depth_at (fun vs H Q E h => ?_) (fun cdv A outer s H vs Q E hr h => ?_)
  · obtain ⟨l, us, ss, x, rfl, _⟩ := h
    rfl
  · obtain ⟨l, us, ss, x, rfl, hl, hS, tb, e1, e2, q⟩ := h
    refine ⟨_, (pss_cons (ps_expr (pe_call G_check_spans (hr.mono (by decide)) (by rfl) T.g_check_spans T.F_check_spans.kp T.b_check_spans .nil (passes_call (takes_of rfl rfl rfl rfl) (fun _ _ _ _ h => h)) (pa_cons (pv 0) pa_nil)))
      (pss_cons (ps_expr (pe_call G_check_place (hr.mono (by decide)) (by rfl) T.g_check_place T.F_check_place.kp T.b_check_place .nil (passes_call (takes_of rfl rfl rfl rfl) (fun _ _ _ _ h => h)) (pa_cons (pv 1) pa_nil)))
      (pss_one (ps_ret (pe_call G_count_at (hr.mono (by decide)) (by rfl) T.g_count_at T.F_count_at.kp T.b_count_at .nil pass0 (pa_cons (pv 0) (pa_cons (pv 1) pa_nil))))))), ?_⟩
    refine ⟨_, rfl, l, us, ss, rfl, hl, hS, fun ok => ?_, e1⟩
    refine ⟨_, rfl, x, rfl, fun hx => ?_, e2 ok⟩
    exact ⟨_, rfl, _, rfl, l, us, ss, x, rfl, SqL.of hl, hS, tb, q ok hx⟩
end
/-! ### exceptions as values -/
/-- what stands at a is an exception of the class cls -/
def ExP (cls : Value) (a : Addr) : HO := .ext fun h => ∃ (ob : Obj) (fv : Array Value), h.get? a = some ob ∧ Zc cls none ob ∧ ob.data = .fields fv
def IsEx (H : Hp) (cls : Value) (a : Addr) : Prop := ∃ φ : Heap → Prop, H a = some (.ext φ) ∧ ∀ h, φ h → ∃ (ob : Obj) (fv : Array Value), h.get? a = some ob ∧ Zc cls none ob ∧ ob.data = .fields fv
theorem isEx_P {H : Hp} {cls : Value} {a : Addr} (e : H a = some (ExP cls a)) : IsEx H cls a := ⟨_, e, fun _ q => q⟩
theorem isEx_O {H : Hp} {cls : Value} {a : Addr} (e : H a = some (ExO cls a)) : IsEx H cls a := ⟨_, e, fun _ q => by
  obtain ⟨ob, fv, h1, h2, h3, _⟩ := q
  exact ⟨ob, fv, h1, h2, h3⟩⟩
theorem IsEx.same {H H' : Hp} {cls : Value} {a : Addr} (x : IsEx H cls a) (e : Same H H') : IsEx H' cls a := by
  obtain ⟨φ, h1, h2⟩ := x
  exact ⟨φ, e _ _ h1, h2⟩
/-- isinstance(x, c), x an exception that is tracked -/
def rIsX (K : PySem.W.Frag) : List V → Hp → VK → Prop := fun xs H Q => ∃ (a D : Addr) (c : V) (u : Value) (b : Bool), xs = [.ref a, c] ∧ IsEx H (.ref D) a ∧ ExcC K D ∧ ClsV c u ∧ PySem.W.kitOne K (.ref D) u = some b ∧ Q (.bl b) H
theorem call_isX {X : Cx} : CallR X (.builtin "isinstance") (rIsX X.K) := by
  intro pins s σ H xs us Q I r hh
  obtain ⟨a, D, c, u, b, rfl, ⟨φ, hφ, ex⟩, C, kc, e, q⟩ := hh
  obtain ⟨u1, u2, rfl, r1, r2⟩ := vals2 r
  have e2 := kc.eq r2
  subst e2
  cases (show u1 = Value.ref a from r1)
  obtain ⟨p, _, _⟩ := (show ObjOk X.prog X.w H s.heap a (.ext φ) from I.hok a _ hφ)
  obtain ⟨⟨oc, od, oda, osl⟩, fv, h1, ⟨z1, z2⟩, h3⟩ := ex _ p
  dsimp only at z1 z2 h3
  subst z1 z2 h3
  have J : PySem.W.InstAt s.heap a ⟨.ref D, none, .fields fv, osl⟩ D none := ⟨h1, rfl, rfl, trivial⟩
  have kx := PySem.W.handS_kitx_exc (ox := ⟨.ref D, none, .fields fv, osl⟩) (x := a) C.hg C.hk C.hs C.hd C.ha C.hn C.ht C.hm
  exact PySem.W.kia_one kx I.kIn J e (fun z => nomatch z) fun tk => ⟨.bl b, H, I.tok tk, rfl, q⟩
/-- a tracked exception, or any other value -/
def rIsY (K : PySem.W.Frag) : List V → Hp → VK → Prop := fun xs H Q => rIsX K xs H Q ∨ rIsi K xs H Q
theorem call_isY {X : Cx} : CallR X (.builtin "isinstance") (rIsY X.K) := fun pins s σ H xs us Q I r hh => by
  rcases hh with hh | hh
  · exact call_isX pins s σ H xs us Q I r hh
  · exact call_isi pins s σ H xs us Q I r hh
/-- X(), an own exception class without own __init__, as a value -/
theorem pe_exc0 {X : Cx} {C : Addr} {bmB : List Value} {B newId initId : String} {x : Str} {p pos : Pos} (F : ExcBaseFacts B newId initId bmB) (q : PySem.W.excIn X.K C bmB newId = true) (gC : X.mg x = some (.ref C))
    (kC : PySem.W.keepIn X.K (.ref C) = true) (hg : Gl X x) (hdb : (x == ("__debug__" : Str)) = false := by decide) :
    PE X (.Call (.Name x p) [] [] pos) (fun _ H Q => ∀ a, H a = none → Q (.ref a) (upd H a (ExO (.ref C) a))) := by
  constructor
  intro pins s σ H Q I hh
  refine wpAny_Call_Name_kw (ld_glob I hg gC ?_ hdb)
  refine PySem.W.callWith_K0 I.kIn kC ?_
  rw [List.append_nil]
  obtain ⟨_, _, _, _, _, _, _, _, _, _, _, _, _, _, _, _, _, hC, hN, hni, tl⟩ := exc_obj I.kIn q
  refine wpAny_call_exc_subT F tl hC hN hni (fun h' a hm => ?_) (Nat.zero_le _)
  have hn : H a = none := I.hok.gone hm.new
  obtain ⟨t, ht, _, _⟩ := hm.there
  exact ⟨.ref a, _, I.laidN hm.keeps hm.new hn (exO_ok ht ⟨rfl, rfl⟩ rfl rfl rfl (by decide : 4 < 6)), rfl, hh a hn⟩
/-- an exception that stands pinned, younger than the entry, may be tracked -/
theorem inv_track {X : Cx} {pins : List (Addr × Obj)} {σ : L2.St} {H : Hp} {s : Shared} {a : Addr} {ob : Obj} {fv : Array Value} {cls : Value} (I : Inv X ((a, ob) :: pins) σ H s) (hz : Zc cls none ob) (hd : ob.data = .fields fv)
    (h0 : ∀ o, X.s_0.heap.get? a ≠ some o) (hp : ∀ p ∈ X.pn ++ pins, p.1 ≠ a) : Inv X pins σ (upd H a (ExP cls a)) s := by
  obtain ⟨g1, g2, g3, g4, g5⟩ := I.pin (a, ob) (List.mem_append_right _ List.mem_cons_self)
  have out : ∀ p ∈ X.pn ++ pins, p ∈ X.pn ++ (a, ob) :: pins := fun p m => by
    rcases List.mem_append.mp m with m | m
    · exact List.mem_append_left _ m
    · exact List.mem_append_right _ (List.mem_cons_of_mem _ m)
  refine { ok := I.ok, os := I.os, bare := I.bare, loc := I.loc, cell := I.cell, len := I.len, base := ?b, free := ?f, freeC := ?c, pin := ?p, hok := ?k }
  case b =>
    refine { keep := I.base.keep, slot := I.base.slot, there := I.base.there, free := fun b o e n x => ?_, tups := fun b xs e => ?_, frzs := fun b o u e => ?_, tbls := fun b ps e => ?_ }
    · have nb : b ≠ a := fun z => h0 o (by rw [← z]; exact e)
      rw [upd_ne nb]
      exact I.base.free b o e n x
    · have h1 := I.base.tups b xs e
      rw [upd_ne (ne_of_none h1 g2)]
      exact h1
    · have h1 := I.base.frzs b o u e
      rw [upd_ne (ne_of_none h1 g2)]
      exact h1
    · obtain ⟨m, h1⟩ := I.base.tbls b ps e
      exact ⟨m, by rw [upd_ne (ne_of_none h1 g2)]; exact h1⟩
  case f =>
    rw [upd_ne (Ne.symm g3)]
    exact I.free
  case c =>
    intro y c e
    have nc : c ≠ a := fun z => by
      obtain ⟨v, o, h1, h2⟩ := I.cell y c e
      rw [z, g1] at h1
      cases h1
      exact g5 _ h2
    rw [upd_ne nc]
    exact I.freeC y c e
  case p =>
    intro p m
    obtain ⟨k1, k2, k3, k4, k5⟩ := I.pin p (out p m)
    exact ⟨k1, by rw [upd_ne (hp p m)]; exact k2, k3, k4, k5⟩
  case k =>
    refine HOk.laidN I.hok (fun _ _ z => z) g2 ⟨⟨ob, fv, g1, hz, hd⟩, ⟨ob, g1⟩, fun h1 h2 x y => ?_⟩
    obtain ⟨o', f', q1, q2⟩ := x
    exact ⟨o', f', y _ q1, q2⟩
/-- the wish of a clause «except c as n: y = n»: slots i of n, j of y -/
def wKept (K : PySem.W.Frag) (c : Value) (i j : Nat) (D : Ends) : WX := fun cls d σ H => d = none ∧ PySem.W.exmOne K cls c = some true ∧ ∀ a, H a = none → D.nx ((σ.set j (some (.ref a))).set i none) (upd H a (ExP cls a))
/-- behind the look at the frame: the handlers -/
def atHandlers (X : Cx) (pins : List (Addr × Obj)) (D : Ends) (hs : List ExceptHandler) : Value → Shared → Prop := fun e t => wpAny (model X.prog X.w) X.A (noteFrame e X.env)
  (fun _ t1 => wpAny (model X.prog X.w) X.A (setFlight e none) (fun _ t2 => wpAny (model X.prog X.w) X.A (handleBy e X.env hs) (SP X pins D) X.xe t2) X.xe t1) X.xe t
section
variable {X : Cx} {x n y : Str} {c : Value} {i j : Nat} {body : List Stmt} {np pos pos' py pv' sp' : Pos} {tb : WX → TS}
theorem kept_catch (hs : X.stack = X.env :: X.outer) (hf : X.env.frame = some X.env.locals) (hN : X.N.Nodup) (hi : X.N[i]? = some n) (hln : X.env.kindOf n = some .local) (hj : X.N[j]? = some y) (hly : X.env.scope.names.lookup y = some .local)
    (nd : (n == ("__debug__" : Str)) = false) (ncd : (n == ("__classdict__" : Str)) = false) (hsw : swapsWith (.Name n pv') (some (.Name y py)) sp'.line X.env = pure false) (hc : Names X x c) (hex : X.ex = [])
    {pins : List (Addr × Obj)} {D : Ends} {u : Value} {s' : Shared} (ok : X.Ok) {pn0 : List (Addr × Obj)} {xe0 : Value → Shared → Prop} (hpn : pn0 = X.pn ++ pins)
    (z : XE (X.tr pn0 xe0) (wKept X.K c i j D) u s') : atHandlers X pins D [.ExceptHandler (some (.Name x np)) (some n) [.Assign [.Name y py] (.Name n pv') sp'] pos'] u s' := by
  subst hpn
  obtain ⟨a, B, sI, pq, τ, H', cls, d, rfl, J0, nb, up, sky, na, os, ag, rfl, te, nx⟩ := z
  have J : Inv X pins τ H' sI := J0.ofTry ok
  have hfr : X.A.frames = some (X.env :: X.outer) := by
    rw [← hs]
    exact ok.frames
  unfold atHandlers
  refine Sky.land Zc.steady hfr hf (by rw [← hs]; exact sky) fun h3 fl3 up3 => ?_
  have J3 : Inv X pins τ H' { s' with heap := h3 } := J.landed nb fl3.1 (up.trans up3) os ag
  obtain ⟨o3, f3, ho3, hz3, hd3⟩ := fl3.there
  have nfr : a ∉ frs (X.env :: X.outer) := fun hm => by
    obtain ⟨_, o', e', hnf⟩ := fl3.2.2.1.mem hm
    rw [ho3] at e'
    cases e'
    exact hnf _ hd3
  have nL : a ≠ X.env.locals := fun e => nfr (List.mem_filterMap.mpr ⟨X.env, List.mem_cons_self, by rw [hf, e]⟩)
  have nF : a ∉ X.fs := fun hm => by
    obtain ⟨e, he, q⟩ := List.mem_filterMap.mp hm
    exact nfr (List.mem_filterMap.mpr ⟨e, List.mem_cons_of_mem _ he, q⟩)
  have newI : ∀ o, sI.heap.get? a ≠ some o := fun o e => by
    have h1 := nb a o e (by rw [show frs (X.tr (X.pn ++ pins) xe0).stack = frs (X.env :: X.outer) from congrArg frs hs]; exact nfr)
    rw [fl3.2.1] at h1
    cases h1
  have new0 : ∀ o, X.s_0.heap.get? a ≠ some o := fun o e => by
    obtain ⟨o', e'⟩ := J.base.there a o e (by rw [hex]; exact List.not_mem_nil)
    exact newI _ e'
  have newP : ∀ p ∈ X.pn ++ pins, p.1 ≠ a := fun p m e => newI _ (by rw [← e]; exact (J.pin p m).1)
  have S3 := J3.suite ho3 hd3 na nL nF
  refine wpAny_handleBy_cons (codeAny_handlers_test ?_) (by intro q; cases q)
  have isT : PySem.W.Looks (model X.prog X.w) h3 (typeOf (.ref a)) cls := fun A Q E t k q => wpAny_typeOf_ref (k _ _ ho3) (by rw [hz3.1]; exact q)
  have isM := PySem.W.exm_one (M := model X.prog X.w) J3.kIn isT te
  have nm : ∀ {Q : Value → Shared → Prop} {E : Value → Shared → Prop}, Q c { s' with heap := h3 } → wpAny (model X.prog X.w) (X.A.mark (some (.ref a))) (eval (.Name x np) X.env) Q E { s' with heap := h3 } := fun q => by
    obtain ⟨k1, k2, k3 | ⟨k3, k4, k5⟩⟩ := hc
    · exact ld_glob (X := X.suite a ((a, o3) :: (X.pn ++ pins))) S3 k1 k3 q k2
    · exact ld_blt (X := X.suite a ((a, o3) :: (X.pn ++ pins))) S3 k1 k3 k4 q k5 k2
  refine nm (isM.here (codeAny_handlers_suite_as ?_))
  refine HandSPX.lands_againZ fl3 fun h4 fl4 up4 => ?_
  have J4 : Inv X pins τ H' { s' with heap := h4 } := J.landed nb fl4.1 ((up.trans up3).trans up4) os ag
  obtain ⟨o4, f4, ho4, hz4, hd4⟩ := fl4.there
  have S4 := J4.suite ho4 hd4 na nL nF
  refine store_ok (X := X.suite a ((a, o4) :: (X.pn ++ pins))) (v := .ref a) S4 hN hi (.inl hln) rfl (fun s5 S5 => ?_) (.inr hln)
  have hlen : i < τ.length := by
    rw [J.len]
    exact (List.getElem?_eq_some_iff.mp hi).1
  have suite : PSs (X.suite a ((a, o4) :: (X.pn ++ pins))) [.Assign [.Name y py] (.Name n pv') sp'] (tAsg (tVar i) (gName j)) :=
    pss_one (ps_set (i := j) hN hj (.inl hly) (pe_var hi (.inl hln) nd ncd) hsw (.inr hly))
  let D5 : Ends := { nx := fun σ6 H6 => σ6 = (τ.set i (some (.ref a))).set j (some (.ref a)) ∧ H6 = H', rt := fun _ _ => False, bk := fun _ _ => False, ct := fun _ _ => False }
  refine wpAny_mono (suite.run [] s5 _ H' D5 S5 ⟨.ref a, by rw [List.getElem?_set_self hlen], rfl, rfl⟩) (fun f s6 got => ?_) (fun _ _ w => False.elim w)
  cases f with
  | next =>
    obtain ⟨σ6, H6, S6, rfl, rfl⟩ := got
    have J6 : Inv X ((a, o4) :: pins) ((τ.set i (some (.ref a))).set j (some (.ref a))) H6 s6 :=
      { ok := ok, os := S6.os, bare := S6.bare, base := S6.base, loc := S6.loc, cell := S6.cell, free := S6.free, freeC := S6.freeC, hok := S6.hok, len := S6.len,
        pin := fun p m => S6.pin p (by
          rw [List.append_nil]
          rcases List.mem_append.mp m with m | m
          · exact List.mem_cons_of_mem _ (List.mem_append_left _ m)
          · rcases List.mem_cons.mp m with m | m
            · rw [m]
              exact List.mem_cons_self
            · exact List.mem_cons_of_mem _ (List.mem_append_right _ m)) }
    refine gone_ok J6 hN hi hln fun s7 J7 => ⟨_, _, inv_track J7 hz4 hd4 new0 newP, ?_⟩
    have hsl : ((τ.set i (some (V.ref a))).set j (some (.ref a))).set i none = (τ.set j (some (.ref a))).set i none := by
      apply List.ext_getElem?
      intro k
      simp only [List.getElem?_set, List.length_set]
      by_cases h1 : i = k <;> by_cases h2 : j = k <;> simp [h1, h2]
    rw [hsl]
    exact nx a na
  | brk =>
    obtain ⟨_, _, _, w⟩ := got
    exact w.elim
  | cont =>
    obtain ⟨_, _, _, w⟩ := got
    exact w.elim
  | ret v =>
    obtain ⟨_, _, _, _, _, w⟩ := got
    exact w.elim
/-- try: body except x as n: y = n -/
theorem ps_try_kept (i j : Nat) (hs : X.stack = X.env :: X.outer) (hf : X.env.frame = some X.env.locals) (hN : X.N.Nodup) (hi : X.N[i]? = some n) (hln : X.env.kindOf n = some .local) (hj : X.N[j]? = some y) (hly : X.env.scope.names.lookup y = some .local) (hc : Names X x c) (hex : X.ex = [])
    (hb : ∀ (W : WX) (pn : List (Addr × Obj)) (xe : Value → Shared → Prop), Takes (X.tr pn xe) W → PassesOwn (model X.prog X.w) X.A X.env xe → PSs (X.tr pn xe) body (tb W))
    (nd : (n == ("__debug__" : Str)) = false := by decide) (ncd : (n == ("__classdict__" : Str)) = false := by decide) (hsw : swapsWith (.Name n pv') (some (.Name y py)) sp'.line X.env = pure false := by rfl) :
    PS X (.Try body [.ExceptHandler (some (.Name x np)) (some n) [.Assign [.Name y py] (.Name n pv') sp'] pos'] [] [] pos) (fun D σ H => tb (wKept X.K c i j D) D σ H) := by
  constructor
  intro pins s σ H D I hh
  have ok := I.ok
  refine wpAny_Try_except ?_
  have run := (hb (wKept X.K c i j D) (X.pn ++ pins) (atHandlers X pins D [.ExceptHandler (some (.Name x np)) (some n) [.Assign [.Name y py] (.Name n pv') sp'] pos']) (fun u s' z => kept_catch hs hf hN hi hln hj hly nd ncd hsw hc hex ok rfl z) PassesOwn.looking).run [] s σ H D (I.toTry _) hh
  refine wpAny_mono run (fun f s1 got => ?_) (fun _ _ w => w)
  cases f with
  | next =>
    obtain ⟨σ1, H1, J1, q⟩ := got
    exact wpAny_execs_nil ⟨σ1, H1, J1.ofTry ok, q⟩
  | brk =>
    obtain ⟨σ1, H1, J1, q⟩ := got
    exact ⟨σ1, H1, J1.ofTry ok, q⟩
  | cont =>
    obtain ⟨σ1, H1, J1, q⟩ := got
    exact ⟨σ1, H1, J1.ofTry ok, q⟩
  | ret v =>
    obtain ⟨v1, σ1, H1, J1, r, q⟩ := got
    exact ⟨v1, σ1, H1, J1.ofTry ok, r, q⟩
end
section
variable {P : Program} {w : World} {K : PySem.W.Frag} {mg : Str → Option Value} {base : Heap}
/-! ### the kinds of refusals -/
def Tx.Cs (T : Tx K mg) : List Addr := [T.C_NoSpan, T.C_NoPlace, T.C_NoCover, T.C_NoWeight, T.C_NoCount, T.C_NoName, T.C_Twice, T.C_Full, T.C_Bare, T.C_NoDeed, T.C_NoText, T.C_NoLine]
theorem excC_of (T : Tx K mg) {D : Addr} (h : D ∈ T.C_ShelfError :: T.Cs) : ExcC K D := by
  have hd := (List.map_inj_left.mp T.excs) D h
  simp only [Prod.mk.injEq] at hd
  obtain ⟨h1, h2, h3, h4, h5, h6⟩ := hd
  have hg := T.gets
  simp only [Prod.mk.injEq] at hg
  exact ⟨h1, h2, h3, h4, h5, hg.1, hg.2, h6⟩
theorem kit_row (T : Tx K mg) {i j : Nat} {D C : Addr} (hi : (T.C_ShelfError :: T.Cs)[i]? = some D) (hj : T.Cs[j]? = some C) : PySem.W.kitOne K (.ref D) (.ref C) = some (i == j + 1) := by
  have e := congrArg (fun l => l[i]?) T.kits
  rw [List.getElem?_map, show ([T.C_ShelfError, T.C_NoSpan, T.C_NoPlace, T.C_NoCover, T.C_NoWeight, T.C_NoCount, T.C_NoName, T.C_Twice, T.C_Full, T.C_Bare, T.C_NoDeed, T.C_NoText, T.C_NoLine] : List Addr) = T.C_ShelfError :: T.Cs from rfl, hi] at e
  have hl : i < 13 := by
    have := (List.getElem?_eq_some_iff.mp hi).1
    simpa [Tx.Cs] using this
  have hl2 : j < 12 := by
    have := (List.getElem?_eq_some_iff.mp hj).1
    simpa [Tx.Cs] using this
  rw [List.getElem?_map, List.getElem?_range hl] at e
  have e := Option.some.inj e
  have e2 := congrArg (fun l => l[j]?) e
  rw [List.getElem?_map, List.getElem?_map, show ([T.C_NoSpan, T.C_NoPlace, T.C_NoCover, T.C_NoWeight, T.C_NoCount, T.C_NoName, T.C_Twice, T.C_Full, T.C_Bare, T.C_NoDeed, T.C_NoText, T.C_NoLine] : List Addr) = T.Cs from rfl, hj, List.getElem?_range hl2] at e2
  exact Option.some.inj e2
theorem kit_tops (T : Tx K mg) {D : Addr} (h : D ∈ T.C_ShelfError :: T.Cs) : PySem.W.kitOne K (.ref D) (.ref T.C_ShelfError) = some true ∧ PySem.W.kitOne K (.ref D) (.type "ValueError") = some true := by
  have hd := (List.map_inj_left.mp T.tops) D h
  simp only [Prod.mk.injEq] at hd
  exact hd
theorem kit_none (T : Tx K mg) {C : Addr} (h : C ∈ T.C_ShelfError :: T.Cs) : PySem.W.kitOne K (.type "NoneType") (.ref C) = some false := (List.map_inj_left.mp T.nones) C h
theorem exm_all (T : Tx K mg) {D : Addr} (h : D ∈ T.C_ShelfError :: T.Cs) : PySem.W.exmOne K (.ref D) (.ref T.C_ShelfError) = some true := (List.map_inj_left.mp T.exms) D h
/-- v is a refusal of the kind r, or None, or a bare ShelfError (r is empty) -/
def Kd (T : Tx K mg) (H : Hp) (v : V) (r : List Int) : Prop :=
  (∃ (a : Addr) (i : Nat) (D : Addr), v = .ref a ∧ (T.C_ShelfError :: T.Cs)[i]? = some D ∧ IsEx H (.ref D) a ∧ r = if i = 0 then [] else [(i : Int) - 1]) ∨ (v = .non ∧ r = [])
theorem Kd.same {T : Tx K mg} {H H' : Hp} {v : V} {r : List Int} (h : Kd T H v r) (e : Same H H') : Kd T H' v r := by
  rcases h with ⟨a, i, D, h1, h2, h3, h4⟩ | h
  · exact .inl ⟨a, i, D, h1, h2, h3.same e, h4⟩
  · exact .inr h
theorem Kd.is {T : Tx K mg} {H : Hp} {v : V} {r : List Int} {Q : VK} (h : Kd T H v r) (j : Nat) {C : Addr} (hj : T.Cs[j]? = some C) (q : Q (.bl (decide (r = [(j : Int)]))) H) : rIsY K [v, .ref C] H Q := by
  rcases h with ⟨a, i, D, rfl, h2, h3, h4⟩ | ⟨rfl, h4⟩
  · refine .inl ⟨a, D, _, _, _, rfl, h3, excC_of T (List.mem_of_getElem? h2), .own C, kit_row T h2 hj, ?_⟩
    have e : decide (r = [(j : Int)]) = (i == j + 1) := by
      rw [h4]
      by_cases hi : i = 0
      · rw [if_pos hi, hi]
        simp
      · rw [if_neg hi]
        by_cases h5 : i = j + 1
        · subst h5
          simp
        · have : ¬ ((i : Int) - 1 = (j : Int)) := by omega
          simp [h5, this]
    rw [← e]
    exact q
  · refine .inr ⟨_, _, _, _, false, rfl, .own C, .base .non, kit_none T (List.mem_cons_of_mem _ (List.mem_of_getElem? hj)), ?_⟩
    have e : decide (r = [(j : Int)]) = false := by
      rw [h4]
      simp
    rw [← e]
    exact q
def spKinds (T : Tx K mg) : Sp := fun vs H Q _ => ∃ (v : V) (r : List Int), vs = [v] ∧ Kd T H v r ∧ ∀ H' p, Same H H' → H p = none → H' p = some (.lst (r.map V.int)) → Q (.ref p) H'
theorem kd_twelve {T : Tx K mg} {H : Hp} {v : V} {r : List Int} (h : Kd T H v r) : ((List.range 12).filter (fun (k : Nat) => decide (r = [(k : Int)]))).map (fun (k : Nat) => (k : Int)) = r := by
  have key : ∀ i : Nat, i < 13 → ((List.range 12).filter (fun (k : Nat) => decide ((if i = 0 then [] else [(i : Int) - 1]) = [(k : Int)]))).map (fun (k : Nat) => (k : Int)) = if i = 0 then [] else [(i : Int) - 1] := by decide +kernel
  rcases h with ⟨a, i, D, rfl, h2, h3, h4⟩ | ⟨rfl, h4⟩
  · have hl : i < 13 := by
      have := (List.getElem?_eq_some_iff.mp h2).1
      simpa [Tx.Cs] using this
    rw [h4]
    exact key i hl
  · rw [h4]
    exact key 0 (by decide)
theorem ok_kinds (T : Tx K mg) : FnOk P w K mg base CX0 (1) T.f_l_kinds T.fd_l_kinds ["_law_e"] (spKinds T) := by
  refine T.F_l_kinds.ok sc_l_kinds (fun vs H Q E h => ?_) (fun cdv A outer s H vs Q E hr h => ?_)
  · obtain ⟨v, r, rfl, _⟩ := h
    rfl
  · obtain ⟨v, r, rfl, h, q⟩ := h
    refine ⟨_, (pss_cons (ps_set (i := 1) sc_l_kinds.nd rfl (Or.inr rfl) (pe_lst (pa_cons (pe_callB call_isY (by rfl) T.m_isinstance (by decide +kernel) (pa_cons (pv 0) (pa_cons (pe_glob (v := .ref T.C_NoSpan) (by rfl) T.g_NoSpan rfl) pa_nil))) (pa_cons (pe_callB call_isY (by rfl) T.m_isinstance (by decide +kernel) (pa_cons (pv 0) (pa_cons (pe_glob (v := .ref T.C_NoPlace) (by rfl) T.g_NoPlace rfl) pa_nil))) (pa_cons (pe_callB call_isY (by rfl) T.m_isinstance (by decide +kernel) (pa_cons (pv 0) (pa_cons (pe_glob (v := .ref T.C_NoCover) (by rfl) T.g_NoCover rfl) pa_nil))) (pa_cons (pe_callB call_isY (by rfl) T.m_isinstance (by decide +kernel) (pa_cons (pv 0) (pa_cons (pe_glob (v := .ref T.C_NoWeight) (by rfl) T.g_NoWeight rfl) pa_nil))) pa_nil))))))
      (pss_cons (ps_set (i := 1) sc_l_kinds.nd rfl (Or.inr rfl) (pe_op op_cat (pv 1) (pe_lst (pa_cons (pe_callB call_isY (by rfl) T.m_isinstance (by decide +kernel) (pa_cons (pv 0) (pa_cons (pe_glob (v := .ref T.C_NoCount) (by rfl) T.g_NoCount rfl) pa_nil))) (pa_cons (pe_callB call_isY (by rfl) T.m_isinstance (by decide +kernel) (pa_cons (pv 0) (pa_cons (pe_glob (v := .ref T.C_NoName) (by rfl) T.g_NoName rfl) pa_nil))) (pa_cons (pe_callB call_isY (by rfl) T.m_isinstance (by decide +kernel) (pa_cons (pv 0) (pa_cons (pe_glob (v := .ref T.C_Twice) (by rfl) T.g_Twice rfl) pa_nil))) (pa_cons (pe_callB call_isY (by rfl) T.m_isinstance (by decide +kernel) (pa_cons (pv 0) (pa_cons (pe_glob (v := .ref T.C_Full) (by rfl) T.g_Full rfl) pa_nil))) pa_nil)))))))
      (pss_cons (ps_set (i := 1) sc_l_kinds.nd rfl (Or.inr rfl) (pe_op op_cat (pv 1) (pe_lst (pa_cons (pe_callB call_isY (by rfl) T.m_isinstance (by decide +kernel) (pa_cons (pv 0) (pa_cons (pe_glob (v := .ref T.C_Bare) (by rfl) T.g_Bare rfl) pa_nil))) (pa_cons (pe_callB call_isY (by rfl) T.m_isinstance (by decide +kernel) (pa_cons (pv 0) (pa_cons (pe_glob (v := .ref T.C_NoDeed) (by rfl) T.g_NoDeed rfl) pa_nil))) (pa_cons (pe_callB call_isY (by rfl) T.m_isinstance (by decide +kernel) (pa_cons (pv 0) (pa_cons (pe_glob (v := .ref T.C_NoText) (by rfl) T.g_NoText rfl) pa_nil))) (pa_cons (pe_callB call_isY (by rfl) T.m_isinstance (by decide +kernel) (pa_cons (pv 0) (pa_cons (pe_glob (v := .ref T.C_NoLine) (by rfl) T.g_NoLine rfl) pa_nil))) pa_nil)))))))
      (pss_cons (ps_if (PW.pt (pw_or (pt_not (pt_val (pe_callB call_isY (by rfl) T.m_isinstance (by decide +kernel) (pa_cons (pv 0) (pa_cons (pe_glob (v := .ref T.C_ShelfError) (by rfl) T.g_ShelfError rfl) pa_nil))))) (pw_or1 (pt_not (pt_val (pe_callB call_isY (by rfl) T.m_isinstance (by decide +kernel) (pa_cons (pv 0) (pa_cons (pe_bltn (v := .ty "ValueError") (by rfl) T.m_ValueError (by decide +kernel) rfl) pa_nil)))))))) (pss_one (ps_ret (pe_lst pa_nil))) pss_nil)
      (pss_one (ps_ret (pe_lc (own := [("_law_k", 2)]) (g := (gName 2)) (by rfl) sc_l_kinds.nd (pi_range1 (by rfl) T.m_range (pa_cons pe_int pa_nil)) (blkOk_by (own := [("_law_k", 2)]) (N := N_l_kinds) (sc := defScope s_l_kinds) (by decide +kernel)) (fun _ _ _ _ _ => (pg_name (i := 2) sc_l_kinds.nd rfl (Or.inl rfl))) (fun _ _ _ _ _ => (pts_one (pt_val (pe_ix (show IxR _ (rIxL K) from ix_list) (pv 1) (pv 2) (fun _ _ => rfl))))) (fun _ _ _ _ _ => (pv 2))))))))), ?_⟩
    refine ⟨_, rfl, h.is 0 rfl ⟨_, rfl, h.is 1 rfl ⟨_, rfl, h.is 2 rfl ⟨_, rfl, h.is 3 rfl ⟨small_le (by simp), fun l1 n1 => ?_⟩⟩⟩⟩⟩
    have s1 := same_upd (o := .lst [.bl (decide (r = [((0 : Nat) : Int)])), .bl (decide (r = [((1 : Nat) : Int)])), .bl (decide (r = [((2 : Nat) : Int)])), .bl (decide (r = [((3 : Nat) : Int)]))]) n1
    have h := h.same s1
    refine ⟨_, rfl, _, rfl, h.is 4 rfl ⟨_, rfl, h.is 5 rfl ⟨_, rfl, h.is 6 rfl ⟨_, rfl, h.is 7 rfl ⟨small_le (by simp), fun l2 n2 => ?_⟩⟩⟩⟩⟩
    have s2 := same_upd (o := .lst [.bl (decide (r = [((4 : Nat) : Int)])), .bl (decide (r = [((5 : Nat) : Int)])), .bl (decide (r = [((6 : Nat) : Int)])), .bl (decide (r = [((7 : Nat) : Int)]))]) n2
    have h := h.same s2
    refine ⟨l1, l2, _, _, rfl, rfl, s2 _ _ upd_same, upd_same, small_le (by simp), fun l3 n3 => ?_⟩
    have s3 := same_upd (o := .lst ([.bl (decide (r = [((0 : Nat) : Int)])), .bl (decide (r = [((1 : Nat) : Int)])), .bl (decide (r = [((2 : Nat) : Int)])), .bl (decide (r = [((3 : Nat) : Int)]))] ++ [.bl (decide (r = [((4 : Nat) : Int)])), .bl (decide (r = [((5 : Nat) : Int)])), .bl (decide (r = [((6 : Nat) : Int)])), .bl (decide (r = [((7 : Nat) : Int)]))])) n3
    have h := h.same s3
    refine ⟨_, rfl, _, rfl, h.is 8 rfl ⟨_, rfl, h.is 9 rfl ⟨_, rfl, h.is 10 rfl ⟨_, rfl, h.is 11 rfl ⟨small_le (by simp), fun l4 n4 => ?_⟩⟩⟩⟩⟩
    have s4 := same_upd (o := .lst [.bl (decide (r = [((8 : Nat) : Int)])), .bl (decide (r = [((9 : Nat) : Int)])), .bl (decide (r = [((10 : Nat) : Int)])), .bl (decide (r = [((11 : Nat) : Int)]))]) n4
    have h := h.same s4
    refine ⟨l3, l4, _, _, rfl, rfl, s4 _ _ upd_same, upd_same, small_le (by simp), fun l5 n5 => ?_⟩
    obtain ⟨e5, s5⟩ := upd_at (o := .lst ([.bl (decide (r = [((0 : Nat) : Int)])), .bl (decide (r = [((1 : Nat) : Int)])), .bl (decide (r = [((2 : Nat) : Int)])), .bl (decide (r = [((3 : Nat) : Int)]))] ++ [.bl (decide (r = [((4 : Nat) : Int)])), .bl (decide (r = [((5 : Nat) : Int)])), .bl (decide (r = [((6 : Nat) : Int)])), .bl (decide (r = [((7 : Nat) : Int)]))] ++ [.bl (decide (r = [((8 : Nat) : Int)])), .bl (decide (r = [((9 : Nat) : Int)])), .bl (decide (r = [((10 : Nat) : Int)])), .bl (decide (r = [((11 : Nat) : Int)]))])) n5
    have h := h.same s5
    have all := s1.trans (s2.trans (s3.trans (s4.trans s5)))
    have h0 := h
    rcases h0 with ⟨a, i, D, rfl, h2, h3, h4⟩ | ⟨rfl, h4⟩
    · have hm := List.mem_of_getElem? h2
      have kt := kit_tops T hm
      refine ⟨_, rfl, .inl ⟨a, D, _, _, true, rfl, h3, excC_of T hm, .own _, kt.1, true, rfl, iteF ?_⟩⟩
      refine ⟨_, rfl, .inl ⟨a, D, _, _, true, rfl, h3, excC_of T hm, .ty _, kt.2, true, rfl, iteF ?_⟩⟩
      refine ⟨12, rfl, by decide, by decide, fun Dl nD => ?_⟩
      have nD0 := all.free nD
      have nl5 : l5 ≠ Dl := ne_of_none e5 nD
      refine lc_range (lo := 0) (n := 12) (fun k H' => Same H H' ∧ H' l5 = some (.lst ((List.range 12).map fun (k : Nat) => V.bl (decide (r = [(k : Int)])))) ∧ H' Dl = some (.lst ((((List.range k).filter (fun (k : Nat) => decide (r = [(k : Int)]))).map (fun (k : Nat) => (k : Int))).map V.int))) ⟨same_more all nD0, same_upd nD _ _ e5, upd_same⟩ ?_ ?_
      · rintro k H' hk ⟨sm, h5, hD⟩
        refine ⟨rfl, _, rfl, _, rfl, l5, _, _, _, rfl, rfl, SqL.of h5, at_of (j := k) (by omega) (v := V.bl (decide (r = [(k : Int)]))) ?_, _, rfl, ?_⟩
        · rw [List.getElem?_map, List.getElem?_range hk]
          rfl
        have hr : List.range (k + 1) = List.range k ++ [k] := List.range_succ
        by_cases hq : r = [(k : Int)]
        · rw [decide_eq_true hq]
          refine iteT ⟨_, rfl, _, hD, ?_, same_more sm nD0, ?_, ?_⟩
          · refine small_lt ?_
            rw [List.length_map, List.length_map]
            refine Nat.le_trans (List.length_filter_le _ _) ?_
            rw [List.length_range]
            omega
          · rw [upd_ne nl5]
            exact h5
          · rw [upd_same, hr, List.filter_append, List.map_append, List.map_append]
            simp [hq]
        · rw [decide_eq_false hq]
          refine iteF ⟨sm, h5, ?_⟩
          rw [hr, List.filter_append, List.map_append, List.map_append, hD]
          simp [hq]
      · rintro H' ⟨sm, h5, hD⟩
        rw [kd_twelve h] at hD
        exact q _ _ sm nD0 hD
    · refine ⟨_, rfl, .inr ⟨_, _, _, _, false, rfl, .own _, .base .non, kit_none T List.mem_cons_self, false, rfl, iteT (iteT ?_)⟩⟩
      refine ⟨Nat.zero_le _, fun p np => ?_⟩
      subst h4
      exact q _ p (all.trans (same_upd np)) (all.free np) upd_same
end
section
variable {K : PySem.W.Frag} {mg : Str → Option Value}
/-- refusals by their numbers -/
theorem kd_at (T : Tx K mg) {j : Nat} {C : Addr} (hj : T.Cs[j]? = some C) {H : Hp} {a : Addr} (h : IsEx H (.ref C) a) : Kd T H (.ref a) [(j : Int)] := .inl ⟨a, j + 1, C, rfl, hj, h, by rw [if_neg (by omega)]; congr 1; omega⟩
theorem exm_at (T : Tx K mg) {j : Nat} {C : Addr} (hj : T.Cs[j]? = some C) : PySem.W.exmOne K (.ref C) (.ref T.C_ShelfError) = some true := exm_all T (List.mem_cons_of_mem _ (List.mem_of_getElem? hj))
end
section
variable {P : Program} {w : World} {K : PySem.W.Frag} {mg : Str → Option Value} {base : Heap}
/-! ### a tuple that is no span -/
def spBad : Sp := fun vs H Q _ => ∃ (p : Addr) (n : Nat), vs = [.ref p] ∧ Pu H p n ∧ n + 12 ≤ 1000000000 ∧ ∀ H' v s, Chg [p] H H' → Pu H' p (n + 12) → Spn H' v s → isSpan s = false → (∀ a, v = .ref a → H a = none) → Q v H'
theorem not_span {a b : Int} (h : ¬ (-999999999999 ≤ a ∧ a < b ∧ b ≤ 999999999999)) : isSpan (a, b) = false := by
  cases e : isSpan (a, b) with
  | false => rfl
  | true => exact absurd ((isSpan_iff (a, b)).mp e) h
theorem ok_bad_span (T : Tx K mg) : FnOk P w K mg base CX0 (4) T.f_l_bad_span T.fd_l_bad_span ["_law_purse_here"] spBad := by
  have G_l_draw : FnOk P w K mg base CX0 _ _ _ _ _ := ok_draw T
  have G_l_number : FnOk P w K mg base CX0 _ _ _ _ _ := ok_number T
  refine T.F_l_bad_span.ok sc_l_bad_span (fun vs H Q E h => ?_) (fun cdv A outer s H vs Q E hr h => ?_)
  · obtain ⟨p, n, rfl, _⟩ := h
    rfl
  · obtain ⟨p, n, rfl, hp, hn, q⟩ := h
    refine ⟨_, (pss_cons (ps_set (i := 1) sc_l_bad_span.nd rfl (Or.inl rfl) (pe_op op_add (pe_op op_pow pe_int pe_int) (pe_call G_l_draw (hr.mono (by decide)) (by rfl) T.g_l_draw T.F_l_draw.kp T.b_l_draw .nil pass0 (pa_cons (pv 0) (pa_cons (pe_op op_pow pe_int pe_int) pa_nil)))))
      (pss_cons (ps_set (i := 2) sc_l_bad_span.nd rfl (Or.inl rfl) (pe_call G_l_number (hr.mono (by decide)) (by rfl) T.g_l_number T.F_l_number.kp T.b_l_number .nil pass0 (pa_cons (pv 0) (pa_cons (pe_op op_sub (pe_op op_pow pe_int pe_int) pe_int) pa_nil))))
      (pss_cons (ps_set (i := 3) sc_l_bad_span.nd rfl (Or.inl rfl) (pe_lst (pa_cons (pe_tup (pa_cons (pv 2) (pa_cons (pv 2) pa_nil))) (pa_cons (pe_tup (pa_cons (pe_op op_add (pv 2) pe_int) (pa_cons (pv 2) pa_nil))) (pa_cons (pe_tup (pa_cons (pv 2) (pa_cons (pv 1) pa_nil))) (pa_cons (pe_tup (pa_cons (pe_op op_sub pe_int (pv 1)) (pa_cons (pv 2) pa_nil))) (pa_cons (pe_tup (pa_cons (pv 1) (pa_cons (pe_op op_add (pv 1) pe_int) pa_nil))) (pa_cons (pe_tup (pa_cons (pe_op op_sub (pe_op op_sub pe_int (pv 1)) pe_int) (pa_cons (pe_op op_sub pe_int (pv 1)) pa_nil))) pa_nil))))))))
      (pss_cons (ps_set (i := 3) sc_l_bad_span.nd rfl (Or.inl rfl) (pe_op op_cat (pv 3) (pe_lst (pa_cons (pe_tup (pa_cons (pe_op op_sub pe_int (pe_op op_pow pe_int pe_int)) (pa_cons pe_int pa_nil))) (pa_cons (pe_tup (pa_cons pe_int (pa_cons (pe_op op_pow pe_int pe_int) pa_nil))) (pa_cons (pe_tup (pa_cons (pe_op op_pow pe_int pe_int) (pa_cons (pe_op op_sub pe_int (pe_op op_pow pe_int pe_int)) pa_nil))) pa_nil))))))
      (pss_one (ps_ret (pe_ix ix_list (pv 3) (pe_call G_l_draw (hr.mono (by decide)) (by rfl) T.g_l_draw T.F_l_draw.kp T.b_l_draw .nil pass0 (pa_cons (pv 0) (pa_cons pe_int pa_nil))) (fun _ _ => rfl)))))))), ?_⟩
    have e12 : (10 : Int) ^ (12 : Int).toNat = 1000000000000 := by decide
    have e18 : (10 : Int) ^ (18 : Int).toNat = 1000000000000000000 := by decide
    have e29 : (10 : Int) ^ (29 : Int).toNat = 100000000000000000000000000000 := by decide
    refine ⟨_, _, rfl, rfl, ⟨by decide, by decide, by decide⟩, _, rfl, _, _, rfl, rfl, ⟨by decide, by decide, by decide⟩, p, _, n, rfl, hp, by omega, ?_, ?_, fun H1 r c1 p1 r0 r1 => ?_⟩
    · rw [e18]
      decide
    · rw [e18]
      decide
    rw [e18] at r1
    refine ⟨_, _, rfl, rfl, ?_⟩
    rw [e12]
    refine ⟨_, rfl, _, _, rfl, rfl, ⟨by decide, by decide, by decide⟩, _, _, rfl, rfl, p, _, n + 3, rfl, p1, by omega, ?_, ?_, fun H2 x c2 p2 x0 x1 => ?_⟩
    · rw [e12]
      decide
    · rw [e12]
      decide
    rw [e12] at x0 x1
    refine ⟨_, rfl, _, rfl, (by show 2 ≤ sizeLine; decide), fun t1 n1 => ?_⟩
    obtain ⟨g1, s1⟩ := upd_at (o := .tup [.int x, .int x]) n1
    refine ⟨_, rfl, _, _, rfl, rfl, _, rfl, (by show 2 ≤ sizeLine; decide), fun t2 n2 => ?_⟩
    obtain ⟨g2, s2⟩ := upd_at (o := .tup [.int (x + 1), .int x]) n2
    refine ⟨_, rfl, _, rfl, (by show 2 ≤ sizeLine; decide), fun t3 n3 => ?_⟩
    obtain ⟨g3, s3⟩ := upd_at (o := .tup [.int x, .int (1000000000000 + r)]) n3
    refine ⟨_, rfl, _, _, rfl, rfl, _, rfl, (by show 2 ≤ sizeLine; decide), fun t4 n4 => ?_⟩
    obtain ⟨g4, s4⟩ := upd_at (o := .tup [.int (0 - (1000000000000 + r)), .int x]) n4
    refine ⟨_, rfl, _, rfl, _, _, rfl, rfl, (by show 2 ≤ sizeLine; decide), fun t5 n5 => ?_⟩
    obtain ⟨g5, s5⟩ := upd_at (o := .tup [.int (1000000000000 + r), .int (1000000000000 + r + 1)]) n5
    refine ⟨_, rfl, _, _, rfl, rfl, _, _, rfl, rfl, _, rfl, _, _, rfl, rfl, (by show 2 ≤ sizeLine; decide), fun t6 n6 => ?_⟩
    obtain ⟨g6, s6⟩ := upd_at (o := .tup [.int (0 - (1000000000000 + r) - 1), .int (0 - (1000000000000 + r))]) n6
    refine ⟨small_le (by simp), fun l1 m1 => ?_⟩
    obtain ⟨k1, u1⟩ := upd_at (o := .lst [.ref t1, .ref t2, .ref t3, .ref t4, .ref t5, .ref t6]) m1
    refine ⟨_, rfl, _, _, rfl, rfl, ⟨by decide, by decide, by decide⟩, _, _, rfl, rfl, (by show 2 ≤ sizeLine; decide), fun t7 n7 => ?_⟩
    obtain ⟨g7, s7⟩ := upd_at (o := .tup [.int (0 - (10 : Int) ^ (12 : Int).toNat), .int 0]) n7
    refine ⟨_, _, rfl, rfl, ⟨by decide, by decide, by decide⟩, (by show 2 ≤ sizeLine; decide), fun t8 n8 => ?_⟩
    obtain ⟨g8, s8⟩ := upd_at (o := .tup [.int 0, .int ((10 : Int) ^ (12 : Int).toNat)]) n8
    refine ⟨_, _, rfl, rfl, ⟨by decide, by decide, by decide⟩, _, _, rfl, rfl, ⟨by decide, by decide, by decide⟩, _, _, rfl, rfl, (by show 2 ≤ sizeLine; decide), fun t9 n9 => ?_⟩
    obtain ⟨g9, s9⟩ := upd_at (o := .tup [.int ((10 : Int) ^ (29 : Int).toNat), .int (0 - (10 : Int) ^ (29 : Int).toNat)]) n9
    refine ⟨small_le (by simp), fun l2 m2 => ?_⟩
    obtain ⟨k2, u2⟩ := upd_at (o := .lst [.ref t7, .ref t8, .ref t9]) m2
    refine ⟨l1, l2, _, _, rfl, rfl, u2 _ _ (s9 _ _ (s8 _ _ (s7 _ _ k1))), k2, small_le (by simp), fun l3 m3 => ?_⟩
    obtain ⟨k3, u3⟩ := upd_at (o := .lst ([.ref t1, .ref t2, .ref t3, .ref t4, .ref t5, .ref t6] ++ [.ref t7, .ref t8, .ref t9])) m3
    have z9 := u2.trans u3
    have z8 := s9.trans z9
    have z7 := s8.trans z8
    have z6 := u1.trans (s7.trans z7)
    have z5 := s6.trans z6
    have z4 := s5.trans z5
    have z3 := s4.trans z4
    have z2 := s3.trans z3
    have z1 := s2.trans z2
    have z0 := s1.trans z1
    have cc : Chg [p] H _ := c1.trans (c2.trans (Chg.of_same z0))
    have pp := p2.same z0
    have old : ∀ a, H2 a = none → a ≠ p → H a = none := fun a h ne => (c1.trans c2).free (nmem1 ne) h
    have fr : ∀ (b : Addr) (H' : Hp), Same H2 H' → H' b = none → H b = none := fun b H' e h => old b (e.free h) (fun z => by
      obtain ⟨o, ho⟩ := p2.at
      rw [z, e _ _ ho] at h
      cases h)
    have f1 := fr t1 _ (Same.refl _) n1
    have f2 := fr t2 _ s1 n2
    have f3 := fr t3 _ (s1.trans s2) n3
    have f4 := fr t4 _ (s1.trans (s2.trans s3)) n4
    have f5 := fr t5 _ (s1.trans (s2.trans (s3.trans s4))) n5
    have f6 := fr t6 _ (s1.trans (s2.trans (s3.trans (s4.trans s5)))) n6
    have f7 := fr t7 _ (s1.trans (s2.trans (s3.trans (s4.trans (s5.trans (s6.trans u1)))))) n7
    have f8 := fr t8 _ (s1.trans (s2.trans (s3.trans (s4.trans (s5.trans (s6.trans (u1.trans s7))))))) n8
    have f9 := fr t9 _ (s1.trans (s2.trans (s3.trans (s4.trans (s5.trans (s6.trans (u1.trans (s7.trans s8)))))))) n9
    have nine : ∀ i : Nat, i < 9 → ∃ t s, ([.ref t1, .ref t2, .ref t3, .ref t4, .ref t5, .ref t6] ++ [.ref t7, .ref t8, .ref t9] : List V)[i]? = some (.ref t) ∧ Spn _ (.ref t) s ∧ isSpan s = false ∧ H t = none := fun i hi => by
      rcases i with _ | _ | _ | _ | _ | _ | _ | _ | _ | i
      · exact ⟨t1, (x, x), rfl, ⟨t1, rfl, z1 _ _ g1⟩, not_span (by omega), f1⟩
      · exact ⟨t2, (x + 1, x), rfl, ⟨t2, rfl, z2 _ _ g2⟩, not_span (by omega), f2⟩
      · exact ⟨t3, (x, 1000000000000 + r), rfl, ⟨t3, rfl, z3 _ _ g3⟩, not_span (by omega), f3⟩
      · exact ⟨t4, (0 - (1000000000000 + r), x), rfl, ⟨t4, rfl, z4 _ _ g4⟩, not_span (by omega), f4⟩
      · exact ⟨t5, (1000000000000 + r, 1000000000000 + r + 1), rfl, ⟨t5, rfl, z5 _ _ g5⟩, not_span (by omega), f5⟩
      · exact ⟨t6, (0 - (1000000000000 + r) - 1, 0 - (1000000000000 + r)), rfl, ⟨t6, rfl, z6 _ _ g6⟩, not_span (by omega), f6⟩
      · exact ⟨t7, (0 - (10 : Int) ^ (12 : Int).toNat, 0), rfl, ⟨t7, rfl, z7 _ _ g7⟩, not_span (by rw [e12]; omega), f7⟩
      · exact ⟨t8, (0, (10 : Int) ^ (12 : Int).toNat), rfl, ⟨t8, rfl, z8 _ _ g8⟩, not_span (by rw [e12]; omega), f8⟩
      · exact ⟨t9, ((10 : Int) ^ (29 : Int).toNat, 0 - (10 : Int) ^ (29 : Int).toNat), rfl, ⟨t9, rfl, z9 _ _ g9⟩, not_span (by rw [e29]; omega), f9⟩
      · omega
    refine ⟨_, rfl, _, rfl, p, 9, n + 9, rfl, pp, by omega, by decide, by decide, fun H3 y c3 p3 y0 y1 => ?_⟩
    obtain ⟨t, sp, hi, hs, bad, ft⟩ := nine y.toNat (by omega)
    have l3p : l3 ≠ p := fun z => by
      obtain ⟨o, ho⟩ := (p2.same (s1.trans (s2.trans (s3.trans (s4.trans (s5.trans (s6.trans (u1.trans (s7.trans (s8.trans (s9.trans u2))))))))))).at
      rw [z, ho] at m3
      cases m3
    have ls := pp.lsts
    refine ⟨l3, _, y, .ref t, rfl, rfl, SqL.of (c3 _ _ (nmem1 l3p) k3), at_of (j := y.toNat) (by omega) hi, ?_⟩
    exact q _ _ sp (cc.trans c3) (p3.mono (by omega)) (hs.chg c3 ls) bad (fun a ha => by cases ha; exact ft)
end
section
variable {P : Program} {w : World} {K : PySem.W.Frag} {mg : Str → Option Value} {base : Heap}
/-! ### the law's own spans and covers -/
def spSpansL : Sp := fun vs H Q _ => ∃ (p e : Addr) (m : Nat) (n : Nat) (zs : List Int), vs = [.ref p, .ref e, .int (m : Int)] ∧ Pu H p n ∧ n + 3 + 21 * (m + 1) ≤ 1000000000 ∧ H e = some (.lst (zs.map V.int)) ∧ e ≠ p ∧ zs.length ≤ 1000 ∧ m ≤ 100 ∧ (∀ z ∈ zs, -999999999999 ≤ z ∧ z ≤ 999999999999) ∧
  ∀ (H' : Hp) (f : Addr) (us : List V) (ss : List Span) (zs' : List Int), Chg [p, e] H H' → Pu H' p (n + 3 + 21 * m) → H' e = some (.lst (zs'.map V.int)) → zs'.length ≤ zs.length + 2 * m → (∀ z ∈ zs', -999999999999 ≤ z ∧ z ≤ 999999999999) → H f = none → H' f = some (.lst us) → Sps H' us ss → (∀ s ∈ ss, isSpan s = true) → ss.length ≤ m → Q (.ref f) H'
theorem ok_spans (T : Tx K mg) : FnOk P w K mg base CX0 (6) T.f_l_spans T.fd_l_spans ["_law_purse_here", "_law_ends", "_law_most"] spSpansL := by
  have G_l_draw : FnOk P w K mg base CX0 _ _ _ _ _ := ok_draw T
  have G_l_span : FnOk P w K mg base CX0 _ _ _ _ _ := ok_span T
  refine T.F_l_spans.ok sc_l_spans (fun vs H Q E h => ?_) (fun cdv A outer s H vs Q E hr h => ?_)
  · obtain ⟨p, e, m, n, zs, rfl, _⟩ := h
    rfl
  · obtain ⟨p, e, m, n, zs, rfl, pu, hn, hE, nep, hz, hm, hzb, q⟩ := h
    refine ⟨_, (pss_cons (ps_set (i := 3) sc_l_spans.nd rfl (Or.inl rfl) (pe_lst pa_nil))
      (pss_cons (ps_for PassesOwn.never (by rfl) (pi_range1 (by rfl) T.m_range (pa_cons (pe_call G_l_draw (hr.mono (by decide)) (by rfl) T.g_l_draw T.F_l_draw.kp T.b_l_draw .nil pass0 (pa_cons (pv 0) (pa_cons (pe_op op_add (pv 2) pe_int) pa_nil))) pa_nil)) (pg_name (i := 4) sc_l_spans.nd rfl (Or.inl rfl))
        (pss_one (ps_if (PW.pt (pw_and (pt_cmpR (op_neD hr.units) (pv 3) (pe_lst pa_nil) (nomark _)) (pw_and1 (pt_cmpR op_eq (pe_call G_l_draw (hr.mono (by decide)) (by rfl) T.g_l_draw T.F_l_draw.kp T.b_l_draw .nil pass0 (pa_cons (pv 0) (pa_cons pe_int pa_nil))) pe_int (nomark _))))) (pss_one (ps_expr (pe_bm PySem.F.plainAttrs_list PySem.F.slot_list_append PySem.F.type_list_append mt_append (pv 3) (pa_cons (pe_ix ix_list (pv 3) (pe_call G_l_draw (hr.mono (by decide)) (by rfl) T.g_l_draw T.F_l_draw.kp T.b_l_draw .nil pass0 (pa_cons (pv 0) (pa_cons (pe_callB call_len_seq (by rfl) T.m_len PySem.boot_len (pa_cons (pv 3) pa_nil)) pa_nil))) (fun _ _ => rfl)) pa_nil)))) (pss_one (ps_expr (pe_bm PySem.F.plainAttrs_list PySem.F.slot_list_append PySem.F.type_list_append mt_append (pv 3) (pa_cons (pe_call G_l_span (hr.mono (by decide)) (by rfl) T.g_l_span T.F_l_span.kp T.b_l_span .nil pass0 (pa_cons (pv 0) (pa_cons (pv 1) (pa_cons (pe_op op_sub (pe_op op_pow pe_int pe_int) pe_int) pa_nil)))) pa_nil)))))))
      (pss_one (ps_ret (pv 3))))), ?_⟩
    have e12 : (10 : Int) ^ (12 : Int).toNat = 1000000000000 := by decide
    refine ⟨Nat.zero_le _, fun f nf => ?_⟩
    obtain ⟨gf, sf⟩ := upd_at (o := .lst []) nf
    have nfp : f ≠ p := (pu.ne nf).symm
    have nfe : f ≠ e := (ne_of_none hE nf).symm
    refine ⟨_, rfl, _, rfl, _, _, rfl, rfl, p, _, n, rfl, pu.same sf, by omega, by omega, by omega, fun H1 r c1 p1 r0 r1 => ?_⟩
    have rm : r.toNat ≤ m := by omega
    refine ⟨r, rfl, by omega, by omega, ?_⟩
    refine for_range (lo := 0) (n := r.toNat) (fun i σ H' => ∃ (y4 : Option V) (us : List V) (ss : List Span) (ws : List Int), σ = [some (.ref p), some (.ref e), some (.int (m : Int)), some (.ref f), y4] ∧ Chg [p, e] H H' ∧ Pu H' p (n + 3 + 21 * i) ∧ H' e = some (.lst (ws.map V.int)) ∧ ws.length ≤ zs.length + 2 * i ∧ (∀ z ∈ ws, -999999999999 ≤ z ∧ z ≤ 999999999999) ∧ H' f = some (.lst us) ∧ Sps H' us ss ∧ (∀ s ∈ ss, isSpan s = true) ∧ ss.length = i)
      ⟨none, [], [], zs, rfl, (Chg.of_same sf).trans (c1.mono fun x hx => by rw [List.mem_singleton.mp hx]; exact List.mem_cons_self), p1, c1 _ _ (nmem1 nep) (sf _ _ hE), by omega, hzb, c1 _ _ (nmem1 nfp) gf, .nil, (fun s hs => nomatch hs), rfl⟩ ?_ ?_
    · rintro i σ H' hi ⟨y4, us, ss, ws, rfl, cc, pi, hE', hw, hwb, hf, hS, ok, hl⟩
      have hul := hS.len
      refine ⟨_, rfl, Nat.zero_le _, fun l nl => ?_⟩
      obtain ⟨gl, sl⟩ := upd_at (o := .lst []) nl
      refine ⟨_, _, hS.same sl |>.dp (SqL.of (sl _ _ hf)), .lst (SqL.of gl) .nil, shaped_spans ss, shaped_nil, _, rfl, ?_⟩
      rw [eqv_spans_nil]
      have up : ∀ {X Y : Hp}, Chg [p] X Y → Chg [p, e] X Y := fun c => c.mono fun x hx => by
        rw [List.mem_singleton.mp hx]
        exact List.mem_cons_self
      -- a new span
      have fresh : ∀ (H2 : Hp), Chg [p, e] H' H2 → Pu H2 p (n + 3 + 21 * i + 3) → H2 e = some (.lst (ws.map V.int)) → H2 f = some (.lst us) → Sps H2 us ss →
          (tDrop (tBM K "list" rAppend (tVar 3) (tCons (tCall spSpan [] E0 (tCons (tVar 0) (tCons (tVar 1) (tCons (tOp (rI0 fun i j => .int (i - j)) (tOp (rI CPow fun i j => .int (i ^ j.toNat)) (tC (.int 10)) (tC (.int 12))) (tC (.int 1))) tNil)))) tNil))) { nx := fun σ' H3 => ∃ (y4 : Option V) (us : List V) (ss : List Span) (ws : List Int), σ' = [some (.ref p), some (.ref e), some (.int (m : Int)), some (.ref f), y4] ∧ Chg [p, e] H H3 ∧ Pu H3 p (n + 3 + 21 * (i + 1)) ∧ H3 e = some (.lst (ws.map V.int)) ∧ ws.length ≤ zs.length + 2 * (i + 1) ∧ (∀ z ∈ ws, -999999999999 ≤ z ∧ z ≤ 999999999999) ∧ H3 f = some (.lst us) ∧ Sps H3 us ss ∧ (∀ s ∈ ss, isSpan s = true) ∧ ss.length = i + 1, rt := Q } [some (.ref p), some (.ref e), some (.int (m : Int)), some (.ref f), some (.int (0 + (i : Int)))] H2 := fun H2 c2 p2 hE2 hf2 hS2 => by
        refine ⟨_, rfl, .inl ⟨rfl, _, SqL.of hf2⟩, _, rfl, _, rfl, _, _, rfl, rfl, ⟨by decide, by decide, by decide⟩, _, _, rfl, rfl, p, e, _, _, ws, rfl, p2, by omega, hE2, nep, by omega, by rw [e12]; decide, by rw [e12]; decide, fun H3 t lo hi c3 p3 hE3 nt ht b1 b2 b3 => ?_⟩
        rw [e12] at b1 b3
        have hf3 := c3 _ _ (nmem2 nfp nfe) hf2
        have lp : Lsts [p, e] H2 := p2.lsts.two (Lsts.of1 hE2)
        have hS3 : Sps H3 (us ++ [.ref t]) (ss ++ [(lo, hi)]) := (hS2.chg c3 lp).app (.one ⟨t, rfl, ht⟩)
        have cf : Chg [f] H3 (upd H3 f (.lst (us ++ [.ref t]))) := Chg.upd List.mem_cons_self
        have lf : Lsts [f] H3 := Lsts.of1 hf3
        refine ⟨f, us, .ref t, rfl, rfl, hf3, small_lt (by omega), _, us ++ [.ref t], ss ++ [(lo, hi)], ws ++ [lo, hi], rfl, ?_, (p3.chg cf (nmem1 nfp.symm)).mono (by omega), cf _ _ (nmem1 nfe.symm) hE3, ?_, fun z hz => ?_, upd_same, hS3.chg cf lf, fun s hs => ?_, ?_⟩
        · exact fun b o nb hb => by
            have h3 := (cc.trans (c2.trans c3)) b o nb hb
            rw [upd_ne (ne_of_none hb nf)]
            exact h3
        · rw [List.length_append]
          simp
          omega
        · rcases List.mem_append.mp hz with h | h
          · exact hwb z h
          · rcases List.mem_cons.mp h with h | h
            · rw [h]
              omega
            · rw [List.mem_singleton.mp h]
              omega
        · rcases List.mem_append.mp hs with h | h
          · exact ok s h
          · rw [List.mem_singleton.mp h]
            exact (isSpan_iff (lo, hi)).mpr ⟨by simpa using b1, b2, by simpa using b3⟩
        · rw [List.length_append, hl]
          rfl
      by_cases hnil : ss = []
      · rw [decide_eq_true hnil]
        exact iteF (iteF (fresh _ (Chg.of_same sl) ((pi.same sl).mono (by omega)) (sl _ _ hE') (sl _ _ hf) (hS.same sl)))
      · rw [decide_eq_false hnil]
        have h0 : 0 < ss.length := List.length_pos_iff.mpr hnil
        refine iteT ⟨_, rfl, p, 6, _, rfl, pi.same sl, by omega, by decide, by decide, fun H2 x c2 p2 x0 x1 => ?_⟩
        have hE2 := c2 _ _ (nmem1 nep) (sl _ _ hE')
        have hf2 := c2 _ _ (nmem1 nfp) (sl _ _ hf)
        have hS2 := (hS.same sl).chg c2 (pi.same sl).lsts
        refine ⟨rfl, _, rfl, ite2 (fun _ => ?_) (fun _ => ?_)⟩
        · refine ⟨_, rfl, .inl ⟨rfl, _, SqL.of hf2⟩, _, rfl, _, rfl, _, rfl, f, _, rfl, .inl (SqL.of hf2), p, us.length, _, rfl, p2, by omega, by omega, by omega, fun H3 y c3 p3 y0 y1 => ?_⟩
          have hf3 := c3 _ _ (nmem1 nfp) hf2
          have hS3 := hS2.chg c3 p2.lsts
          have hy : y.toNat < us.length := by omega
          obtain ⟨sp, es, hsp⟩ := hS3.get (List.getElem?_eq_getElem hy)
          refine ⟨f, us, y, us[y.toNat], rfl, rfl, SqL.of hf3, at_of (j := y.toNat) (by omega) (List.getElem?_eq_getElem hy), ?_⟩
          have cf : Chg [f] H3 (upd H3 f (.lst (us ++ [us[y.toNat]]))) := Chg.upd List.mem_cons_self
          have lf : Lsts [f] H3 := Lsts.of1 hf3
          refine ⟨f, us, _, rfl, rfl, hf3, small_lt (by omega), _, us ++ [us[y.toNat]], ss ++ [sp], ws, rfl, ?_, (p3.chg cf (nmem1 nfp.symm)).mono (by omega), cf _ _ (nmem1 nfe.symm) (c3 _ _ (nmem1 nep) hE2), by omega, hwb, upd_same, (hS3.app (.one hsp)).chg cf lf, fun s hs => ?_, ?_⟩
          · exact fun b o nb hb => by
              have h3 := (cc.trans ((Chg.of_same sl).trans (up (c2.trans c3)))) b o nb hb
              rw [upd_ne (ne_of_none hb nf)]
              exact h3
          · rcases List.mem_append.mp hs with h | h
            · exact ok s h
            · rw [List.mem_singleton.mp h]
              exact ok sp (List.mem_of_getElem? es)
          · rw [List.length_append, hl]
            rfl
        · exact fresh _ ((Chg.of_same sl).trans (up c2)) p2 hE2 hf2 hS2
    · rintro σ H' ⟨y4, us, ss, ws, rfl, cc, pi, hE', hw, hwb, hf, hS, ok, hl⟩
      exact ⟨_, rfl, q H' f us ss ws cc (pi.mono (by omega)) hE' (by omega) hwb nf hf hS ok (by omega)⟩
end
section
variable {P : Program} {w : World} {K : PySem.W.Frag} {mg : Str → Option Value} {base : Heap}
def spHolds : Sp := fun vs H Q _ => ∃ (v : V) (s : Span) (x : Int), vs = [v, .int x] ∧ Spn H v s ∧ Q (.bl (holdsB x s)) H
theorem ok_holds (T : Tx K mg) : FnOk P w K mg base CX0 (1) T.f_l_holds T.fd_l_holds ["_law_span_here", "_law_place"] spHolds := by
  refine T.F_l_holds.ok sc_l_holds (fun vs H Q E h => ?_) (fun cdv A outer s H vs Q E hr h => ?_)
  · obtain ⟨v, s, x, rfl, _⟩ := h
    rfl
  · obtain ⟨v, s, x, rfl, ⟨t, rfl, ht⟩, q⟩ := h
    refine ⟨_, (pss_one (ps_ret (pe_and (pe_cmpR op_le (pe_ix ix_tup (pv 0) pe_int (fun _ _ => rfl)) (pv 1) (nomark _)) (pe_one (pe_cmpR op_lt (pv 1) (pe_ix ix_tup (pv 0) pe_int (fun _ _ => rfl)) (nomark _)))))), ?_⟩
    unfold holdsB at q
    refine ⟨_, rfl, t, _, _, _, rfl, rfl, SqT.of ht, atI_nat (j := 0) rfl, _, rfl, _, _, rfl, rfl, _, rfl, ?_⟩
    by_cases h : s.1 ≤ x
    · rw [decide_eq_true h] at q ⊢
      exact iteT ⟨_, rfl, _, rfl, t, _, _, _, rfl, rfl, SqT.of ht, atI_nat (j := 1) rfl, _, _, rfl, rfl, q⟩
    · rw [decide_eq_false h] at q ⊢
      exact iteF q
def spDepth : Sp := fun vs H Q _ => ∃ (l : Addr) (us : List V) (ss : List Span) (x : Int), vs = [.ref l, .int x] ∧ H l = some (.lst us) ∧ Sps H us ss ∧ ss.length ≤ 100000 ∧ ∀ H', Same H H' → Q (.int ((ss.filter (holdsB x)).length : Nat)) H'
theorem ok_depth (T : Tx K mg) : FnOk P w K mg base CX0 (2) T.f_l_depth T.fd_l_depth ["_law_spans_here", "_law_place"] spDepth := by
  have G_l_holds : FnOk P w K mg base CX0 _ _ _ _ _ := ok_holds T
  refine T.F_l_depth.ok sc_l_depth (fun vs H Q E h => ?_) (fun cdv A outer s H vs Q E hr h => ?_)
  · obtain ⟨l, us, ss, x, rfl, _⟩ := h
    rfl
  · obtain ⟨l, us, ss, x, rfl, hl, hS, hlen, q⟩ := h
    refine ⟨_, (pss_one (ps_ret (pe_callB call_len_seq (by rfl) T.m_len PySem.boot_len (pa_cons (pe_lc (own := [("_law_span_here", 2)]) (g := (gName 2)) (by rfl) sc_l_depth.nd (pi_list (pv 0)) (blkOk_by (own := [("_law_span_here", 2)]) (N := N_l_depth) (sc := defScope s_l_depth) (by decide +kernel)) (fun _ _ _ _ _ => (pg_name (i := 2) sc_l_depth.nd rfl (Or.inl rfl))) (fun _ _ _ _ _ => (pts_one (pt_val (pe_call G_l_holds (hr.mono (by decide)) (by rfl) T.g_l_holds T.F_l_holds.kp T.b_l_holds .nil pass0 (pa_cons (pv 2) (pa_cons (pv 1) pa_nil)))))) (fun _ _ _ _ _ => (pv 2))) pa_nil)))), ?_⟩
    refine ⟨_, rfl, l, rfl, ⟨_, SqL.of hl⟩, fun D nD => ?_⟩
    refine lc_list (K := K) (a := l) (xs := us) (fun i H' => Same H H' ∧ ∃ ws, H' D = some (.lst ws) ∧ ws.length = ((ss.take i).filter (holdsB x)).length) ⟨same_upd nD, [], upd_same, rfl⟩ (fun i H' _ h => SqL.of (h.1 _ _ hl)) ?_ ?_
    · rintro i y H' hi ⟨sm, ws, hD, hw⟩
      obtain ⟨sp, es, hsp⟩ := hS.get hi
      have tk : ss.take (i + 1) = ss.take i ++ [sp] := by
        rw [List.take_add_one, es]
        rfl
      refine ⟨rfl, _, rfl, _, rfl, y, sp, x, rfl, hsp.same sm, _, rfl, ?_⟩
      by_cases hb : holdsB x sp = true
      · rw [hb]
        refine iteT ⟨_, rfl, ws, hD, small_lt ?_, same_more sm nD, _, upd_same, ?_⟩
        · rw [hw]
          have h1 := List.length_filter_le (holdsB x) (ss.take i)
          have h2 := List.length_take_le i ss
          have h3 : (ss.take i).length ≤ ss.length := by
            rw [List.length_take]
            exact Nat.min_le_right _ _
          omega
        · rw [tk, List.filter_append, List.length_append, List.length_append, hw]
          simp [hb]
      · rw [Bool.not_eq_true] at hb
        rw [hb]
        refine iteF ⟨sm, ws, hD, ?_⟩
        rw [tk, List.filter_append, List.length_append, hw]
        simp [hb]
    · rintro H' ⟨sm, ws, hD, hw⟩
      rw [hS.len, List.take_length] at hw
      refine ⟨D, ws, rfl, .inl (SqL.of hD), ?_⟩
      rw [hw]
      exact q H' sm
end
section
variable {P : Program} {w : World} {K : PySem.W.Frag} {mg : Str → Option Value} {base : Heap}
def spWholeL : Sp := fun vs H Q _ => ∃ i : Int, vs = [.int i] ∧ Q (.bl true) H
theorem ok_whole (T : Tx K mg) : FnOk P w K mg base CX0 (1) T.f_l_whole T.fd_l_whole ["_law_number_here"] spWholeL := by
  refine T.F_l_whole.ok sc_l_whole (fun vs H Q E h => ?_) (fun cdv A outer s H vs Q E hr h => ?_)
  · obtain ⟨i, rfl, _⟩ := h
    rfl
  · obtain ⟨i, rfl, q⟩ := h
    refine ⟨_, (pss_one (ps_ret (pe_and (pe_callB call_isi (by rfl) T.m_isinstance (by decide +kernel) (pa_cons (pv 0) (pa_cons (pe_bltn (v := .ty "int") (by rfl) T.m_int (by decide +kernel) rfl) pa_nil))) (pe_one (pe_not (pe_callB call_isi (by rfl) T.m_isinstance (by decide +kernel) (pa_cons (pv 0) (pa_cons (pe_bltn (v := .ty "bool") (by rfl) T.m_bool (by decide +kernel) rfl) pa_nil)))))))), ?_⟩
    refine ⟨_, rfl, _, _, _, _, true, rfl, .ty _, .base (.int i), kit_ty (by decide +kernel), true, rfl, iteT ?_⟩
    exact ⟨_, rfl, _, _, _, _, false, rfl, .ty _, .base (.int i), kit_ty (by decide +kernel), false, rfl, q⟩
end
section
variable {P : Program} {w : World} {K : PySem.W.Frag} {mg : Str → Option Value} {base : Heap}
/-! ### the law: depths, and what is refused -/
/-- which refusal is due -/
def due10 (wy : Int) (ss : List Span) (x : Int) : List Int := if ss.all isSpan = false then [0] else if wy = 0 ∧ isPlace x = false then [1] else []
def spCaught10 (T : Tx K mg) : Sp := fun vs H Q _ => ∃ (wy x : Int) (l : Addr) (us : List V) (ss : List Span), vs = [.int wy, .ref l, .int x] ∧ H l = some (.lst us) ∧ Sps H us ss ∧ Few ss ∧ Tb T.tabs H ∧
  ∀ H' p, Kp [] H H' → Tb T.tabs H' → H' p = some (.lst ((due10 wy ss x).map V.int)) → Q (.ref p) H'
theorem ok_caught (T : Tx K mg) (B : Tbs T base) : FnOk P w K mg base CX0 (7) T.f_l_caught T.fd_l_caught ["_law_way", "_law_spans_here", "_law_place"] (spCaught10 T) := by
  have G_depth_at : FnOk P w K mg base (L2.CX P w) _ _ _ _ _ := ok_depth_at T B
  have G_profile : FnOk P w K mg base (L2.CX P w) _ _ _ _ _ := ok_profile T
  have G_deepest : FnOk P w K mg base (L2.CX P w) _ _ _ _ _ := ok_deepest T
  have G_l_kinds : FnOk P w K mg base CX0 _ _ _ _ _ := ok_kinds T
  refine T.F_l_caught.ok sc_l_caught (fun vs H Q E h => ?_) (fun cdv A outer s H vs Q E hr h => ?_)
  · obtain ⟨wy, x, l, us, ss, rfl, _⟩ := h
    rfl
  · obtain ⟨wy, x, l, us, ss, rfl, hl, hS, hlen, tb, q⟩ := h
    refine ⟨_, (pss_cons (ps_set (i := 3) sc_l_caught.nd rfl (Or.inl rfl) pe_non)
      (pss_cons (ps_try_kept 4 3 rfl rfl sc_l_caught.nd rfl rfl rfl rfl ⟨rfl, by decide, Or.inl T.g_ShelfError⟩ rfl (fun W pn xe tk _ => (pss_one (ps_if (pt_cmpR op_eq (pv 0) pe_int (nomark _)) (pss_one (ps_expr (pe_callS G_depth_at (hr.mono (by decide)) (by rfl) T.g_depth_at T.F_depth_at.kp T.b_depth_at (fun σ => passAt tk σ) (pa_cons (pv 1) (pa_cons (pv 2) pa_nil))))) (pss_one (ps_if (pt_cmpR op_eq (pv 0) pe_int (nomark _)) (pss_one (ps_expr (pe_callS G_profile (hr.mono (by decide)) (by rfl) T.g_profile T.F_profile.kp T.b_profile (fun σ => passAt tk σ) (pa_cons (pv 1) pa_nil)))) (pss_one (ps_expr (pe_callS G_deepest (hr.mono (by decide)) (by rfl) T.g_deepest T.F_deepest.kp T.b_deepest (fun σ => passAt tk σ) (pa_cons (pv 1) pa_nil))))))))))
      (pss_one (ps_ret (pe_call G_l_kinds (hr.mono (by decide)) (by rfl) T.g_l_kinds T.F_l_kinds.kp T.b_l_kinds .nil pass0 (pa_cons (pv 3) pa_nil)))))), ?_⟩
    have good : ∀ H1, Kp [] H H1 → Tb T.tabs H1 → due10 wy ss x = [] → (tRet (tCall (spKinds T) [] E0 (tCons (tVar 3) tNil))) { nx := fun _ H' => Q .non H', rt := Q } [some (.int wy), some (.ref l), some (.int x), some .non, none] H1 := fun H1 k1 tb1 e => by
      refine ⟨_, rfl, .non, [], rfl, .inr ⟨rfl, rfl⟩, fun H' p s1 np hp => q H' p (k1.trans (.of s1)) (tb1.same s1) ?_⟩
      rw [e]
      exact hp
    have bad : ∀ (j : Nat) (C : Addr), T.Cs[j]? = some C → due10 wy ss x = [(j : Int)] → ∀ y, H y = none → (tRet (tCall (spKinds T) [] E0 (tCons (tVar 3) tNil))) { nx := fun _ H' => Q .non H', rt := Q } [some (.int wy), some (.ref l), some (.int x), some (.ref y), none] (upd H y (ExP (.ref C) y)) := fun j C hj e y ny => by
      obtain ⟨ea, sa⟩ := upd_at (o := ExP (.ref C) y) ny
      refine ⟨_, rfl, .ref y, _, rfl, kd_at T hj (isEx_P ea), fun H' p s1 np hp => q H' p (.of (sa.trans s1)) ((tb.same sa).same s1) ?_⟩
      rw [e]
      exact hp
    have noS : ss.all isSpan = false → due10 wy ss x = [((0 : Nat) : Int)] := fun e => by
      unfold due10
      rw [if_pos e]
      rfl
    refine ⟨_, rfl, rfl, _, rfl, ite2 (fun e => ?_) (fun e => ?_)⟩
    · have e0 : wy = 0 := V.int.inj (of_decide_eq_true e)
      refine ⟨_, rfl, _, rfl, l, us, ss, x, rfl, hl, hS, tb, fun n => ⟨rfl, exm_at T (j := 0) rfl, bad 0 _ rfl (noS n)⟩, fun y n => ⟨rfl, exm_at T (j := 1) rfl, bad 1 _ rfl ?_⟩, fun y1 y2 H1 k1 tb1 => good H1 k1 tb1 ?_⟩
      · unfold due10
        rw [if_neg (by rw [y]; decide), if_pos ⟨e0, n⟩]
        rfl
      · unfold due10
        rw [if_neg (by rw [y1]; decide), if_neg (by rw [y2]; intro z; cases z.2)]
    · have e0 : ¬ wy = 0 := fun z => e (decide_eq_true (congrArg V.int z))
      have fine : ss.all isSpan = true → due10 wy ss x = [] := fun y => by
        unfold due10
        rw [if_neg (by rw [y]; decide), if_neg (fun z => e0 z.1)]
      refine ⟨_, rfl, rfl, _, rfl, ite2 (fun _ => ?_) (fun _ => ?_)⟩
      · exact ⟨_, rfl, l, us, ss, rfl, hl, hS, hlen, fun n => ⟨rfl, exm_at T (j := 0) rfl, bad 0 _ rfl (noS n)⟩, fun y H1 r ws ps s1 nr hr1 hp prf pl => good H1 (.of s1) (tb.same s1) (fine y)⟩
      · exact ⟨_, rfl, l, us, ss, rfl, hl, hS, hlen, fun n => ⟨rfl, exm_at T (j := 0) rfl, bad 0 _ rfl (noS n)⟩, fun y H1 v ps s1 prf hb => good H1 (.of s1) (tb.same s1) (fine y)⟩
end
section
variable {P : Program} {w : World} {K : PySem.W.Frag} {mg : Str → Option Value} {base : Heap}
theorem place_of {x : Int} (h1 : -999999999999 ≤ x) (h2 : x ≤ 999999999999) : isPlace x = true := by
  unfold isPlace
  rw [decide_eq_true h1, decide_eq_true h2]
  rfl
theorem no_place {x : Int} (h : x < -999999999999 ∨ 999999999999 < x) : isPlace x = false := by
  unfold isPlace
  rcases h with h | h
  · rw [decide_eq_false (by omega)]
    rfl
  · rw [decide_eq_false (p := x ≤ 999999999999) (by omega), Bool.and_false]
def spLaw (T : Tx K mg) : Sp := fun vs H Q _ => ∃ (a : Addr) (ns : List Int), vs = [.ref a] ∧ SqL K H a (ns.map V.int) ∧ ns.length ≤ 63 ∧ Tb T.tabs H ∧ ∀ H', Q (.bl true) H'
theorem ok_law (T : Tx K mg) (B : Tbs T base) {f : Addr} {fd : FuncData} (F : Fun K "law" "law" s_law f fd) : FnOk P w K mg base CX0 (8) f fd ["_law_script"] (spLaw T) := by
  have G_l_purse : FnOk P w K mg base CX0 _ _ _ _ _ := ok_purse T
  have G_l_spans : FnOk P w K mg base CX0 _ _ _ _ _ := ok_spans T
  have G_l_number : FnOk P w K mg base CX0 _ _ _ _ _ := ok_number T
  have G_l_draw : FnOk P w K mg base CX0 _ _ _ _ _ := ok_draw T
  have G_l_whole : FnOk P w K mg base CX0 _ _ _ _ _ := ok_whole T
  have G_l_depth : FnOk P w K mg base CX0 _ _ _ _ _ := ok_depth T
  have G_l_bad_span : FnOk P w K mg base CX0 _ _ _ _ _ := ok_bad_span T
  have G_l_caught : FnOk P w K mg base CX0 _ _ _ _ _ := ok_caught T B
  have G_depth_at : FnOk P w K mg base (L2.CX P w) _ _ _ _ _ := ok_depth_at T B
  refine F.ok sc_law (fun vs H Q E h => ?_) (fun cdv A outer s H vs Q E hr h => ?_)
  · obtain ⟨a, ns, rfl, _⟩ := h
    rfl
  · obtain ⟨a, ns, rfl, hS, hlen, tb, q⟩ := h
    refine ⟨_, (pss_cons (ps_set (i := 1) sc_law.nd rfl (Or.inl rfl) (pe_call G_l_purse (hr.mono (by decide)) (by rfl) T.g_l_purse T.F_l_purse.kp T.b_l_purse .nil pass0 (pa_cons (pv 0) (pa_cons pe_int pa_nil))))
      (pss_cons (ps_set (i := 2) sc_law.nd rfl (Or.inl rfl) (pe_lst pa_nil))
      (pss_cons (ps_set (i := 3) sc_law.nd rfl (Or.inl rfl) (pe_call G_l_spans (hr.mono (by decide)) (by rfl) T.g_l_spans T.F_l_spans.kp T.b_l_spans .nil pass0 (pa_cons (pv 1) (pa_cons (pv 2) (pa_cons pe_int pa_nil)))))
      (pss_cons (ps_set (i := 4) sc_law.nd rfl (Or.inl rfl) (pe_callTy call_list_of (by rfl) T.m_list (by decide +kernel) (pa_cons (pv 3) pa_nil)))
      (pss_cons (ps_set (i := 5) sc_law.nd rfl (Or.inl rfl) (pe_lst (pa_cons (pe_call G_l_number (hr.mono (by decide)) (by rfl) T.g_l_number T.F_l_number.kp T.b_l_number .nil pass0 (pa_cons (pv 1) (pa_cons (pe_op op_sub (pe_op op_pow pe_int pe_int) pe_int) pa_nil))) (pa_cons (pe_call G_l_number (hr.mono (by decide)) (by rfl) T.g_l_number T.F_l_number.kp T.b_l_number .nil pass0 (pa_cons (pv 1) (pa_cons (pe_op op_sub (pe_op op_pow pe_int pe_int) pe_int) pa_nil))) (pa_cons (pe_op op_sub pe_int (pe_op op_pow pe_int pe_int)) (pa_cons (pe_op op_sub (pe_op op_pow pe_int pe_int) pe_int) pa_nil))))))
      (pss_cons (ps_for PassesOwn.never (by rfl) (pi_list (pv 2)) (pg_name (i := 6) sc_law.nd rfl (Or.inl rfl))
        (pss_one (ps_set (i := 5) sc_law.nd rfl (Or.inl rfl) (pe_op op_cat (pv 5) (pe_lst (pa_cons (pe_callB (call_max2 rfl) (by rfl) T.m_max (by decide +kernel) (pa_cons (pe_op op_sub pe_int (pe_op op_pow pe_int pe_int)) (pa_cons (pe_op op_sub (pv 6) pe_int) pa_nil))) (pa_cons (pv 6) (pa_cons (pe_callB (call_min2 rfl) (by rfl) T.m_min (by decide +kernel) (pa_cons (pe_op op_sub (pe_op op_pow pe_int pe_int) pe_int) (pa_cons (pe_op op_add (pv 6) pe_int) pa_nil))) pa_nil))))))))
      (pss_cons (ps_for PassesOwn.never (by rfl) (pi_list (pv 5)) (pg_name (i := 7) sc_law.nd rfl (Or.inl rfl))
        (pss_cons (ps_set (i := 8) sc_law.nd rfl (Or.inl rfl) (pe_call G_depth_at (hr.mono (by decide)) (by rfl) T.g_depth_at T.F_depth_at.kp T.b_depth_at .nil passL (pa_cons (pv 3) (pa_cons (pv 7) pa_nil))))
      (pss_one (ps_if (PW.pt (pw_or (pt_not (pt_val (pe_call G_l_whole (hr.mono (by decide)) (by rfl) T.g_l_whole T.F_l_whole.kp T.b_l_whole .nil pass0 (pa_cons (pv 8) pa_nil)))) (pw_or (pt_cmpR op_ne (pv 8) (pe_call G_l_depth (hr.mono (by decide)) (by rfl) T.g_l_depth T.F_l_depth.kp T.b_l_depth .nil pass0 (pa_cons (pv 4) (pa_cons (pv 7) pa_nil))) (nomark _)) (pw_or1 (pt_cmpR (op_neD hr.units) (pv 3) (pv 4) (nomark _)))))) (pss_one (ps_ret pe_bl)) pss_nil))))
      (pss_cons (ps_set (i := 9) sc_law.nd rfl (Or.inl rfl) (pe_call G_l_draw (hr.mono (by decide)) (by rfl) T.g_l_draw T.F_l_draw.kp T.b_l_draw .nil pass0 (pa_cons (pv 1) (pa_cons (pe_op op_add (pe_callB call_len_seq (by rfl) T.m_len PySem.boot_len (pa_cons (pv 3) pa_nil)) pe_int) pa_nil))))
      (pss_cons (ps_set (i := 10) sc_law.nd rfl (Or.inl rfl) (pe_op op_cat (pe_op op_cat (pe_slice sl_list (pv 3) po_none (po_some (pv 9))) (pe_lst (pa_cons (pe_call G_l_bad_span (hr.mono (by decide)) (by rfl) T.g_l_bad_span T.F_l_bad_span.kp T.b_l_bad_span .nil pass0 (pa_cons (pv 1) pa_nil)) pa_nil))) (pe_slice sl_list (pv 3) (po_some (pv 9)) po_none)))
      (pss_cons (ps_set (i := 11) sc_law.nd rfl (Or.inl rfl) (pe_op op_mul (pe_op op_add (pe_op op_pow pe_int pe_int) (pe_call G_l_draw (hr.mono (by decide)) (by rfl) T.g_l_draw T.F_l_draw.kp T.b_l_draw .nil pass0 (pa_cons (pv 1) (pa_cons (pe_op op_pow pe_int pe_int) pa_nil)))) (pe_op op_sub pe_int (pe_op op_mul pe_int (pe_call G_l_draw (hr.mono (by decide)) (by rfl) T.g_l_draw T.F_l_draw.kp T.b_l_draw .nil pass0 (pa_cons (pv 1) (pa_cons pe_int pa_nil)))))))
      (pss_cons (ps_for PassesOwn.never (by rfl) (pi_list (pe_lst (pa_cons (pv 11) (pa_cons (pe_op op_pow pe_int pe_int) (pa_cons (pe_op op_sub pe_int (pe_op op_pow pe_int pe_int)) (pa_cons (pe_op op_pow pe_int pe_int) pa_nil)))))) (pg_name (i := 7) sc_law.nd rfl (Or.inl rfl))
        (pss_one (ps_if (PW.pt (pw_or (pt_cmpR (op_neD hr.units) (pe_call G_l_caught (hr.mono (by decide)) (by rfl) T.g_l_caught T.F_l_caught.kp T.b_l_caught .nil pass0 (pa_cons pe_int (pa_cons (pv 3) (pa_cons (pv 7) pa_nil)))) (pe_lst (pa_cons pe_int pa_nil)) (nomark _)) (pw_or1 (pt_cmpR (op_neD hr.units) (pe_call G_l_caught (hr.mono (by decide)) (by rfl) T.g_l_caught T.F_l_caught.kp T.b_l_caught .nil pass0 (pa_cons pe_int (pa_cons (pv 10) (pa_cons (pv 7) pa_nil)))) (pe_lst (pa_cons pe_int pa_nil)) (nomark _))))) (pss_one (ps_ret pe_bl)) pss_nil)))
      (pss_cons (ps_for PassesOwn.never (by rfl) (pi_range1 (by rfl) T.m_range (pa_cons pe_int pa_nil)) (pg_name (i := 12) sc_law.nd rfl (Or.inl rfl))
        (pss_one (ps_if (PW.pt (pw_or (pt_cmpR (op_neD hr.units) (pe_call G_l_caught (hr.mono (by decide)) (by rfl) T.g_l_caught T.F_l_caught.kp T.b_l_caught .nil pass0 (pa_cons (pv 12) (pa_cons (pv 10) (pa_cons pe_int pa_nil)))) (pe_lst (pa_cons pe_int pa_nil)) (nomark _)) (pw_or1 (pt_cmpR (op_neD hr.units) (pe_call G_l_caught (hr.mono (by decide)) (by rfl) T.g_l_caught T.F_l_caught.kp T.b_l_caught .nil pass0 (pa_cons (pv 12) (pa_cons (pv 3) (pa_cons pe_int pa_nil)))) (pe_lst pa_nil) (nomark _))))) (pss_one (ps_ret pe_bl)) pss_nil)))
      (pss_one (ps_ret (pe_cmpR (op_eqD hr.units) (pv 3) (pv 4) (nomark _)))))))))))))))), ?_⟩
    have e12 : (10 : Int) ^ (12 : Int).toNat = 1000000000000 := by decide
    have e18 : (10 : Int) ^ (18 : Int).toNat = 1000000000000000000 := by decide
    refine ⟨_, rfl, a, ns, 0, rfl, hS, by decide, by decide, fun H1 p s1 np p1 => ?_⟩
    have tb1 := tb.same s1
    have pT : p ∉ T.tabs := tb.new np
    have out : ∀ Q ∈ T.tabs, Q ∉ [p] := fun Q hQ => nmem1 fun z => pT (z ▸ hQ)
    refine ⟨Nat.zero_le _, fun e ne => ?_⟩
    obtain ⟨ge, s2⟩ := upd_at (o := .lst []) ne
    have eT : e ∉ T.tabs := tb1.new ne
    have tb2 := tb1.same s2
    have nep : e ≠ p := (p1.ne ne).symm
    refine ⟨_, rfl, _, rfl, p, e, 12, 63000, [], rfl, p1.same s2, by decide, ge, nep, by decide, by decide, (fun z h => nomatch h), fun H3 l us ss zs c3 p3 hE zl zb nl hl hss ok sl => ?_⟩
    have tb3 : Tb T.tabs H3 := tb2.chg c3 fun P hP => nmem2 (fun z => pT (z ▸ hP)) (fun z => eT (z ▸ hP))
    have nlp : l ≠ p := ((p1.same s2).ne nl).symm
    have allok : ss.all isSpan = true := List.all_eq_true.mpr ok
    have L3 : Lq H3 l ss := ⟨us, hl, hss⟩
    have zl : zs.length ≤ 24 := by simpa using zl
    -- kept
    refine ⟨_, rfl, l, us, rfl, .inl (SqL.of hl), fun k nk => ?_⟩
    obtain ⟨gk, sk⟩ := upd_at (o := .lst us) nk
    have nkp : k ≠ p := (p3.ne nk).symm
    have L4 := L3.same sk
    have K4 : Lq (upd H3 k (.lst us)) k ss := ⟨us, gk, hss.same sk⟩
    have E4 := sk _ _ hE
    have p4 := p3.same sk
    have tb4 := tb3.same sk
    revert L4 K4 E4 p4 tb4
    generalize upd H3 k (.lst us) = H4
    intro L4 K4 E4 p4 tb4
    -- places
    refine ⟨_, rfl, _, _, rfl, rfl, ⟨by decide, by decide, by decide⟩, _, _, rfl, rfl, p, _, 63255, rfl, p4, by decide, by rw [e12]; decide, by rw [e12]; decide, fun H5 r5 c5 p5 a5 b5 => ?_⟩
    refine ⟨_, rfl, _, _, rfl, rfl, ⟨by decide, by decide, by decide⟩, _, _, rfl, rfl, p, _, 63261, rfl, p5, by decide, by rw [e12]; decide, by rw [e12]; decide, fun H6 r6 c6 p6 a6 b6 => ?_⟩
    rw [e12] at a5 b5 a6 b6
    refine ⟨_, _, rfl, rfl, ⟨by decide, by decide, by decide⟩, _, _, rfl, rfl, _, _, rfl, rfl, ⟨by decide, by decide, by decide⟩, _, _, rfl, rfl, small_le (by simp), fun x nx => ?_⟩
    rw [e12]
    have k6 : Kp [p] H4 H6 := (Kp.chg c5).trans (.chg c6)
    have tb6 : Tb T.tabs H6 := (tb4.chg c5 out).chg c6 out
    have L6 := k6.lq (nmem1 nlp) p4.lsts L4
    have K6 := k6.lq (nmem1 nkp) p4.lsts K4
    have E6 := k6.lst (nmem1 nep) E4
    obtain ⟨gx, sx⟩ := upd_at (o := .lst [.int r5, .int r6, .int (1 - 1000000000000), .int (1000000000000 - 1)]) nx
    have L7 := L6.same sx
    have K7 := K6.same sx
    have E7 := sx _ _ E6
    have p7 := p6.same sx
    have tb7 := tb6.same sx
    revert L7 K7 E7 p7 tb7 gx
    generalize upd H6 x (.lst [.int r5, .int r6, .int (1 - 1000000000000), .int (1000000000000 - 1)]) = H7
    intro gx L7 K7 E7 p7 tb7
    refine ⟨_, rfl, e, rfl, ⟨_, SqL.of E7⟩, for_list (K := K) (a := e) (xs := zs.map V.int) (fun i σ H' => ∃ y6 x ms, σ = [some (.ref a), some (.ref p), some (.ref e), some (.ref l), some (.ref k), some (.ref x), y6, none, none, none, none, none, none] ∧ Same H7 H' ∧ H' x = some (.lst (ms.map V.int)) ∧ (∀ z ∈ ms, isPlace z = true) ∧ ms.length = 4 + 3 * i)
      ⟨none, x, [r5, r6, 1 - 1000000000000, 1000000000000 - 1], rfl, Same.refl _, gx, ?_, rfl⟩ (fun i σ H' _ ⟨_, _, _, _, c, _⟩ => SqL.of (c _ _ E7)) ?_ ?_⟩
    · intro z hz
      simp only [List.mem_cons, List.not_mem_nil, or_false] at hz
      rcases hz with rfl | rfl | rfl | rfl <;> exact place_of (by omega) (by omega)
    · rintro i y σ H' hi ⟨y6, x, ms, rfl, sm, hx, pl, ml⟩
      rw [List.getElem?_map] at hi
      obtain ⟨z, ez, rfl⟩ := Option.map_eq_some_iff.mp hi
      have zi : i < zs.length := (List.getElem?_eq_some_iff.mp ez).1
      obtain ⟨z1, z2⟩ := zb z (List.mem_of_getElem? ez)
      refine ⟨_, rfl, _, _, rfl, rfl, ⟨by decide, by decide, by decide⟩, _, _, rfl, rfl, _, rfl, _, _, rfl, rfl, _, _, rfl, _, rfl, _, _, rfl, rfl, ⟨by decide, by decide, by decide⟩, _, _, rfl, rfl, _, rfl, _, _, rfl, rfl, _, _, rfl, small_le (by simp), fun x2 n2 => ?_⟩
      rw [e12]
      obtain ⟨g2, s2⟩ := upd_at (o := .lst [.int (if (1 - 1000000000000 : Int) < z - 1 then z - 1 else 1 - 1000000000000), .int z, .int (if z + 1 < (1000000000000 - 1 : Int) then z + 1 else 1000000000000 - 1)]) n2
      refine ⟨x, x2, _, _, rfl, rfl, s2 _ _ hx, g2, small_le (by simp; omega), fun x3 n3 => ?_⟩
      refine ⟨_, x3, ms ++ [if (1 - 1000000000000 : Int) < z - 1 then z - 1 else 1 - 1000000000000, z, if z + 1 < (1000000000000 - 1 : Int) then z + 1 else 1000000000000 - 1], rfl, sm.trans (s2.trans (same_upd n3)), ?_, fun u hu => ?_, ?_⟩
      · rw [List.map_append]
        exact upd_same
      · rcases List.mem_append.mp hu with h | h
        · exact pl u h
        · simp only [List.mem_cons, List.not_mem_nil, or_false] at h
          rcases h with rfl | rfl | rfl
          · exact place_of (by split <;> omega) (by split <;> omega)
          · exact place_of z1 z2
          · exact place_of (by split <;> omega) (by split <;> omega)
      · rw [List.length_append, ml]
        simp
        omega
    · rintro σ H8 ⟨y6, x, ms, rfl, sm, hx, pl, ml⟩
      rw [List.length_map] at ml
      have L8 := L7.same sm
      have K8 := K7.same sm
      have p8 := p7.same sm
      have tb8 := tb7.same sm
      -- depths
      refine ⟨_, rfl, x, rfl, ⟨_, SqL.of hx⟩, for_list (K := K) (a := x) (xs := ms.map V.int) (fun i σ H' => ∃ y7 y8, σ = [some (.ref a), some (.ref p), some (.ref e), some (.ref l), some (.ref k), some (.ref x), y6, y7, y8, none, none, none, none] ∧ Kp [] H8 H' ∧ Tb T.tabs H')
        ⟨none, none, rfl, Kp.refl _ _, tb8⟩ (fun i σ H' _ ⟨_, _, _, c, _⟩ => SqL.of (c.lst List.not_mem_nil hx)) ?_ ?_⟩
      · rintro i y σ H' hi ⟨y7, y8, rfl, kk, tb'⟩
        rw [List.getElem?_map] at hi
        obtain ⟨z, ez, rfl⟩ := Option.map_eq_some_iff.mp hi
        have hz := pl z (List.mem_of_getElem? ez)
        obtain ⟨us', L9, S9⟩ := kk.lq List.not_mem_nil (lsts0 _) L8
        refine ⟨_, rfl, _, rfl, l, us', ss, z, rfl, L9, S9, tb', fun n => ?_, fun _ n => ?_, fun _ _ H9 k9 tb9 => ?_⟩
        · rw [allok] at n
          cases n
        · rw [hz] at n
          cases n
        refine ⟨_, rfl, _, rfl, true, rfl, iteF ?_⟩
        obtain ⟨vs', K9, V9⟩ := (kk.trans k9).lq List.not_mem_nil (lsts0 _) K8
        refine ⟨_, rfl, _, rfl, _, rfl, k, vs', ss, z, rfl, K9, V9, by omega, fun H10 s10 => ⟨rfl, _, rfl, iteNS rfl ?_⟩⟩
        have k10 := (kk.trans k9).trans (.of s10)
        refine ⟨_, rfl, _, rfl, _, _, (k10.lq List.not_mem_nil (lsts0 _) L8).dp, (k10.lq List.not_mem_nil (lsts0 _) K8).dp, shaped_spans _, shaped_spans _, _, rfl, ?_⟩
        rw [eqv_spans, decide_eq_true rfl]
        exact iteF ⟨_, _, rfl, k10, tb9.same s10⟩
      · rintro σ H9 ⟨y7, y8, rfl, k9, tb9⟩
        have L9 := k9.lq List.not_mem_nil (lsts0 _) L8
        have K9 := k9.lq List.not_mem_nil (lsts0 _) K8
        have p9 := k9.pu List.not_mem_nil p8
        obtain ⟨us9, l9, S9⟩ := L9
        have ul := S9.len
        -- the bad list
        refine ⟨_, rfl, _, rfl, l, us9, rfl, .inl (SqL.of l9), _, _, rfl, rfl, p, _, 63267, rfl, p9, by decide, by omega, by omega, fun H10 r c10 p10 r0 r1 => ?_⟩
        obtain ⟨n, rfl⟩ := Int.eq_ofNat_of_zero_le r0
        have l10 := c10 _ _ (nmem1 nlp) l9
        have S10 := S9.chg c10 p9.lsts
        refine ⟨_, rfl, _, rfl, _, rfl, l, us9, rfl, SqL.of l10, fun x1 n1 => ?_⟩
        rw [cut_take (k := n) rfl]
        obtain ⟨g1, u1⟩ := upd_at (o := .lst (us9.take n)) n1
        have nx1 : x1 ≠ p := (p10.ne n1).symm
        refine ⟨_, rfl, p, 63270, rfl, p10.same u1, by decide, fun H11 v sv c11 p11 hv badv _ => ?_⟩
        have l11 := c11 _ _ (nmem1 nlp) (u1 _ _ l10)
        have S11 := (S10.same u1).chg c11 (p10.same u1).lsts
        have g11 := c11 _ _ (nmem1 nx1) g1
        refine ⟨small_le (by simp), fun x2 n2 => ?_⟩
        obtain ⟨g2, u2⟩ := upd_at (o := .lst [v]) n2
        refine ⟨x1, x2, _, _, rfl, rfl, u2 _ _ g11, g2, small_le (by simp; omega), fun x3 n3 => ?_⟩
        obtain ⟨g3, u3⟩ := upd_at (o := .lst (us9.take n ++ [v])) n3
        refine ⟨_, rfl, _, rfl, _, rfl, l, us9, rfl, SqL.of ((u2.trans u3) _ _ l11), fun x4 n4 => ?_⟩
        rw [cut_drop (k := n) rfl (by omega)]
        obtain ⟨g4, u4⟩ := upd_at (o := .lst (us9.drop n)) n4
        refine ⟨x3, x4, _, _, rfl, rfl, u4 _ _ g3, g4, small_le (by simp; omega), fun d nd => ?_⟩
        obtain ⟨gd, u5⟩ := upd_at (o := .lst (us9.take n ++ [v] ++ us9.drop n)) nd
        have a5 := u2.trans (u3.trans (u4.trans u5))
        have ndp : d ≠ p := ((((p11.same u2).same u3).same u4).ne nd).symm
        have k11 : Kp [p] H9 H11 := (Kp.chg c10).trans ((Kp.of u1).trans (.chg c11))
        have tb11 : Tb T.tabs H11 := ((tb9.chg c10 out).same u1).chg c11 out
        have L12 := (k11.lq (nmem1 nlp) p9.lsts ⟨us9, l9, S9⟩).same a5
        have K12 := (k11.lq (nmem1 nkp) p9.lsts K9).same a5
        have D12 : Lq _ d (ss.take n ++ [sv] ++ ss.drop n) := ⟨_, gd, ((((S11.takeN n).app (.one hv)).app (S11.dropN n)).same a5)⟩
        have p12 := p11.same a5
        have tb12 := tb11.same a5
        revert L12 K12 D12 p12 tb12
        generalize upd (upd (upd (upd H11 x2 (.lst [v])) x3 (.lst (us9.take n ++ [v]))) x4 (.lst (us9.drop n))) d (.lst (us9.take n ++ [v] ++ us9.drop n)) = H12
        intro L12 K12 D12 p12 tb12
        have bD : (ss.take n ++ [sv] ++ ss.drop n).all isSpan = false := by
          rw [List.all_eq_false]
          exact ⟨sv, by simp, by rw [badv]; decide⟩
        have lD : (ss.take n ++ [sv] ++ ss.drop n).length < 32 := by
          simp only [List.length_append, List.length_cons, List.length_nil, List.length_take, List.length_drop]
          omega
        revert D12 bD lD
        generalize ss.take n ++ [sv] ++ ss.drop n = ds
        intro D12 bD lD
        -- far
        refine ⟨_, _, rfl, rfl, ⟨by decide, by decide, by decide⟩, _, rfl, _, _, rfl, rfl, ⟨by decide, by decide, by decide⟩, p, _, 63282, rfl, p12, by decide, by rw [e18]; decide, by rw [e18]; decide, fun H13 r3 c13 p13 a3 b3 => ?_⟩
        rw [e18] at b3
        refine ⟨_, _, rfl, rfl, _, rfl, p, 2, 63285, rfl, p13, by decide, by decide, by decide, fun H14 r4 c14 p14 a4 b4 => ?_⟩
        refine ⟨_, _, rfl, rfl, .inl ⟨by decide, by decide⟩, _, _, rfl, rfl, _, _, rfl, rfl, .inr ⟨by omega, by omega⟩, ?_⟩
        have hfar : isPlace (((10 : Int) ^ (12 : Int).toNat + r3) * (1 - 2 * r4)) = false := by
          rw [e12]
          have h4 : r4 = 0 ∨ r4 = 1 := by omega
          rcases h4 with rfl | rfl
          · exact no_place (.inr (by omega))
          · exact no_place (.inl (by omega))
        have k14 : Kp [p] H12 H14 := (Kp.chg c13).trans (.chg c14)
        have tb14 : Tb T.tabs H14 := (tb12.chg c13 out).chg c14 out
        have L14 := k14.lq (nmem1 nlp) p12.lsts L12
        have K14 := k14.lq (nmem1 nkp) p12.lsts K12
        have D14 := k14.lq (nmem1 ndp) p12.lsts D12
        refine ⟨_, rfl, _, _, rfl, rfl, ⟨by decide, by decide, by decide⟩, _, _, rfl, rfl, ⟨by decide, by decide, by decide⟩, _, _, rfl, rfl, _, _, rfl, rfl, ⟨by decide, by decide, by decide⟩, small_le (by simp), fun b nb => ?_⟩
        generalize hb : upd H14 b _ = H15
        have four : ∀ (i : Nat) (y : V), ([.int (((10 : Int) ^ (12 : Int).toNat + r3) * (1 - 2 * r4)), .int ((10 : Int) ^ (12 : Int).toNat), .int (0 - (10 : Int) ^ (12 : Int).toNat), .int ((10 : Int) ^ (29 : Int).toNat)] : List V)[i]? = some y → ∃ z, y = .int z ∧ isPlace z = false := fun i y e => by
          rcases i with _ | _ | _ | _ | i
          · exact ⟨(((10 : Int) ^ (12 : Int).toNat + r3) * (1 - 2 * r4)), (Option.some.inj e).symm, hfar⟩
          · exact ⟨_, (Option.some.inj e).symm, no_place (.inr (by decide))⟩
          · exact ⟨_, (Option.some.inj e).symm, no_place (.inl (by decide))⟩
          · exact ⟨_, (Option.some.inj e).symm, no_place (.inr (by decide))⟩
          · simp at e
        have gb : H15 b = some (.lst [.int (((10 : Int) ^ (12 : Int).toNat + r3) * (1 - 2 * r4)), .int ((10 : Int) ^ (12 : Int).toNat), .int (0 - (10 : Int) ^ (12 : Int).toNat), .int ((10 : Int) ^ (29 : Int).toNat)]) := by
          rw [← hb]
          exact upd_same
        have sb : Same H14 H15 := by
          rw [← hb]
          exact same_upd nb
        have L15 := L14.same sb
        have K15 := K14.same sb
        have D15 := D14.same sb
        have tb15 := tb14.same sb
        revert gb four
        generalize ([.int (((10 : Int) ^ (12 : Int).toNat + r3) * (1 - 2 * r4)), .int ((10 : Int) ^ (12 : Int).toNat), .int (0 - (10 : Int) ^ (12 : Int).toNat), .int ((10 : Int) ^ (29 : Int).toNat)] : List V) = bs
        intro four gb
        refine ⟨b, rfl, ⟨_, SqL.of gb⟩, for_list (K := K) (a := b) (xs := bs) (fun i σ H' => ∃ y7, σ = [some (.ref a), some (.ref p), some (.ref e), some (.ref l), some (.ref k), some (.ref x), y6, y7, y8, some (.int (n : Int)), some (.ref d), some (.int (((10 : Int) ^ (12 : Int).toNat + r3) * (1 - 2 * r4))), none] ∧ Kp [] H15 H' ∧ Tb T.tabs H')
          ⟨y7, rfl, Kp.refl _ _, tb15⟩ (fun i σ H' _ ⟨_, _, c, _⟩ => SqL.of (c.lst List.not_mem_nil gb)) ?_ ?_⟩
        · rintro i y σ H' hi ⟨y7, rfl, kk, tb'⟩
          obtain ⟨z, rfl, hz⟩ := four i y hi
          obtain ⟨us', L16, S16⟩ := kk.lq List.not_mem_nil (lsts0 _) L15
          refine ⟨_, rfl, _, rfl, 0, z, l, us', ss, rfl, L16, S16, few_of (by omega), tb', fun H16 c1 k16 tb16 hc1 => ?_⟩
          have d1 : due10 0 ss z = [1] := by
            unfold due10
            rw [if_neg (by rw [allok]; decide), if_pos ⟨rfl, hz⟩]
          rw [d1] at hc1
          refine ⟨small_le (by simp), fun m nm => ?_⟩
          obtain ⟨gm, sm1⟩ := upd_at (o := .lst [.int 1]) nm
          refine ⟨_, _, .lst (SqL.of (sm1 _ _ hc1)) (dpAll_ints [1]), .lst (SqL.of gm) (dpAll_ints [1]), shaped_ints [1], shaped_ints [1], false, rfl, iteF ?_⟩
          have k17 := (kk.trans k16).trans (.of sm1)
          obtain ⟨ds', D17, Ds17⟩ := k17.lq List.not_mem_nil (lsts0 _) D15
          refine ⟨_, rfl, _, rfl, 0, z, d, ds', ds, rfl, D17, Ds17, few_of lD, tb16.same sm1, fun H18 c2 k18 tb18 hc2 => ?_⟩
          have d2 : due10 0 ds z = [0] := by
            unfold due10
            rw [if_pos bD]
          rw [d2] at hc2
          refine ⟨small_le (by simp), fun m2 nm2 => ?_⟩
          obtain ⟨gm2, sm2⟩ := upd_at (o := .lst [.int 0]) nm2
          refine ⟨_, _, .lst (SqL.of (sm2 _ _ hc2)) (dpAll_ints [0]), .lst (SqL.of gm2) (dpAll_ints [0]), shaped_ints [0], shaped_ints [0], false, rfl, iteF ?_⟩
          exact ⟨_, rfl, (k17.trans k18).trans (.of sm2), tb18.same sm2⟩
        · rintro σ H16 ⟨y7, rfl, k16, tb16⟩
          refine ⟨3, rfl, by decide, by decide, for_range (lo := 0) (n := 3) (fun i σ H' => ∃ y12, σ = [some (.ref a), some (.ref p), some (.ref e), some (.ref l), some (.ref k), some (.ref x), y6, y7, y8, some (.int (n : Int)), some (.ref d), some (.int (((10 : Int) ^ (12 : Int).toNat + r3) * (1 - 2 * r4))), y12] ∧ Kp [] H15 H' ∧ Tb T.tabs H') ⟨none, rfl, k16, tb16⟩ ?_ ?_⟩
          · rintro i σ H' hi ⟨y12, rfl, kk, tb'⟩
            rw [Int.zero_add]
            obtain ⟨ds', D17, Ds17⟩ := kk.lq List.not_mem_nil (lsts0 _) D15
            refine ⟨_, rfl, _, rfl, _, 0, d, ds', ds, rfl, D17, Ds17, few_of lD, tb', fun H18 c2 k18 tb18 hc2 => ?_⟩
            have d2 : due10 (i : Int) ds 0 = [0] := by
              unfold due10
              rw [if_pos bD]
            rw [d2] at hc2
            refine ⟨small_le (by simp), fun m2 nm2 => ?_⟩
            obtain ⟨gm2, sm2⟩ := upd_at (o := .lst [.int 0]) nm2
            refine ⟨_, _, .lst (SqL.of (sm2 _ _ hc2)) (dpAll_ints [0]), .lst (SqL.of gm2) (dpAll_ints [0]), shaped_ints [0], shaped_ints [0], false, rfl, iteF ?_⟩
            have k19 := (kk.trans k18).trans (.of sm2)
            obtain ⟨us', L19, S19⟩ := k19.lq List.not_mem_nil (lsts0 _) L15
            refine ⟨_, rfl, _, rfl, _, 0, l, us', ss, rfl, L19, S19, few_of (by omega), tb18.same sm2, fun H20 c3 k20 tb20 hc3 => ?_⟩
            have d3 : due10 (i : Int) ss 0 = [] := by
              unfold due10
              rw [if_neg (by rw [allok]; decide), if_neg (fun z => by have := z.2; revert this; decide)]
            rw [d3] at hc3
            refine ⟨Nat.zero_le _, fun m3 nm3 => ?_⟩
            obtain ⟨gm3, sm3⟩ := upd_at (o := .lst []) nm3
            refine ⟨_, _, .lst (SqL.of (sm3 _ _ hc3)) .nil, .lst (SqL.of gm3) .nil, shaped_nil, shaped_nil, false, rfl, iteF ?_⟩
            exact ⟨_, rfl, (k19.trans k20).trans (.of sm3), tb20.same sm3⟩
          · rintro σ H17 ⟨y12, rfl, k17, tb17⟩
            refine ⟨_, rfl, _, rfl, _, _, (k17.lq List.not_mem_nil (lsts0 _) L15).dp, (k17.lq List.not_mem_nil (lsts0 _) K15).dp, shaped_spans _, shaped_spans _, ?_⟩
            rw [eqv_spans, decide_eq_true rfl]
            exact q _
end
theorem all_mk {l : PySem.W.OpenLaw} {w : World} {K : PySem.W.Frag} {h : Heap} {mg : Str → Option Value} {fa : Addr} (X : K.In h) (G : h.Ns mainGlobals mg) (hfa : mg "law" = some (.ref fa))
    {f_is_whole : Addr} {od_is_whole an_is_whole : Option Addr} {sl_is_whole : Array (Option Value)} {oc_is_whole kV_is_whole dc_is_whole pm_is_whole cd_is_whole ct_is_whole : Value}
    {f_is_place : Addr} {od_is_place an_is_place : Option Addr} {sl_is_place : Array (Option Value)} {oc_is_place kV_is_place dc_is_place pm_is_place cd_is_place ct_is_place : Value}
    {f_is_span : Addr} {od_is_span an_is_span : Option Addr} {sl_is_span : Array (Option Value)} {oc_is_span kV_is_span dc_is_span pm_is_span cd_is_span ct_is_span : Value}
    {f_check_span : Addr} {od_check_span an_check_span : Option Addr} {sl_check_span : Array (Option Value)} {oc_check_span kV_check_span dc_check_span pm_check_span cd_check_span ct_check_span : Value}
    {f_check_spans : Addr} {od_check_spans an_check_spans : Option Addr} {sl_check_spans : Array (Option Value)} {oc_check_spans kV_check_spans dc_check_spans pm_check_spans cd_check_spans ct_check_spans : Value}
    {f_check_place : Addr} {od_check_place an_check_place : Option Addr} {sl_check_place : Array (Option Value)} {oc_check_place kV_check_place dc_check_place pm_check_place cd_check_place ct_check_place : Value}
    {f_count_at : Addr} {od_count_at an_count_at : Option Addr} {sl_count_at : Array (Option Value)} {oc_count_at kV_count_at dc_count_at pm_count_at ct_count_at ec_count_at : Value} {cA_count_at pA_count_at : Addr} {dd_count_at : Option Addr} {vc_count_at : Array Value} {sc_t_count_at : Array (Option Value)}
    {f_changes_of : Addr} {od_changes_of an_changes_of : Option Addr} {sl_changes_of : Array (Option Value)} {oc_changes_of kV_changes_of dc_changes_of pm_changes_of cd_changes_of ct_changes_of : Value}
    {f_layers_of : Addr} {od_layers_of an_layers_of : Option Addr} {sl_layers_of : Array (Option Value)} {oc_layers_of kV_layers_of dc_layers_of pm_layers_of cd_layers_of ct_layers_of : Value}
    {f_deepest_layer : Addr} {od_deepest_layer an_deepest_layer : Option Addr} {sl_deepest_layer : Array (Option Value)} {oc_deepest_layer kV_deepest_layer dc_deepest_layer pm_deepest_layer cd_deepest_layer ct_deepest_layer : Value}
    {f_depth_at : Addr} {od_depth_at an_depth_at : Option Addr} {sl_depth_at : Array (Option Value)} {oc_depth_at kV_depth_at dc_depth_at pm_depth_at cd_depth_at ct_depth_at : Value}
    {f_profile : Addr} {od_profile an_profile : Option Addr} {sl_profile : Array (Option Value)} {oc_profile kV_profile dc_profile pm_profile cd_profile ct_profile : Value}
    {f_deepest : Addr} {od_deepest an_deepest : Option Addr} {sl_deepest : Array (Option Value)} {oc_deepest kV_deepest dc_deepest pm_deepest cd_deepest ct_deepest : Value}
    {f_l_at : Addr} {od_l_at an_l_at : Option Addr} {sl_l_at : Array (Option Value)} {oc_l_at kV_l_at dc_l_at pm_l_at cd_l_at ct_l_at : Value}
    {f_l_mixed : Addr} {od_l_mixed an_l_mixed : Option Addr} {sl_l_mixed : Array (Option Value)} {oc_l_mixed kV_l_mixed dc_l_mixed pm_l_mixed cd_l_mixed ct_l_mixed : Value}
    {f_l_purse : Addr} {od_l_purse an_l_purse : Option Addr} {sl_l_purse : Array (Option Value)} {oc_l_purse kV_l_purse dc_l_purse pm_l_purse cd_l_purse ct_l_purse : Value}
    {f_l_draw : Addr} {od_l_draw an_l_draw : Option Addr} {sl_l_draw : Array (Option Value)} {oc_l_draw kV_l_draw dc_l_draw pm_l_draw cd_l_draw ct_l_draw : Value}
    {f_l_number : Addr} {od_l_number an_l_number : Option Addr} {sl_l_number : Array (Option Value)} {oc_l_number kV_l_number dc_l_number pm_l_number cd_l_number ct_l_number : Value}
    {f_l_end : Addr} {od_l_end an_l_end : Option Addr} {sl_l_end : Array (Option Value)} {oc_l_end kV_l_end dc_l_end pm_l_end cd_l_end ct_l_end : Value}
    {f_l_span : Addr} {od_l_span an_l_span : Option Addr} {sl_l_span : Array (Option Value)} {oc_l_span kV_l_span dc_l_span pm_l_span cd_l_span ct_l_span : Value}
    {f_l_spans : Addr} {od_l_spans an_l_spans : Option Addr} {sl_l_spans : Array (Option Value)} {oc_l_spans kV_l_spans dc_l_spans pm_l_spans cd_l_spans ct_l_spans : Value}
    {f_l_holds : Addr} {od_l_holds an_l_holds : Option Addr} {sl_l_holds : Array (Option Value)} {oc_l_holds kV_l_holds dc_l_holds pm_l_holds cd_l_holds ct_l_holds : Value}
    {f_l_depth : Addr} {od_l_depth an_l_depth : Option Addr} {sl_l_depth : Array (Option Value)} {oc_l_depth kV_l_depth dc_l_depth pm_l_depth cd_l_depth ct_l_depth : Value}
    {f_l_whole : Addr} {od_l_whole an_l_whole : Option Addr} {sl_l_whole : Array (Option Value)} {oc_l_whole kV_l_whole dc_l_whole pm_l_whole cd_l_whole ct_l_whole : Value}
    {f_l_kinds : Addr} {od_l_kinds an_l_kinds : Option Addr} {sl_l_kinds : Array (Option Value)} {oc_l_kinds kV_l_kinds dc_l_kinds pm_l_kinds cd_l_kinds ct_l_kinds : Value}
    {f_l_bad_span : Addr} {od_l_bad_span an_l_bad_span : Option Addr} {sl_l_bad_span : Array (Option Value)} {oc_l_bad_span kV_l_bad_span dc_l_bad_span pm_l_bad_span cd_l_bad_span ct_l_bad_span : Value}
    {f_l_caught : Addr} {od_l_caught an_l_caught : Option Addr} {sl_l_caught : Array (Option Value)} {oc_l_caught kV_l_caught dc_l_caught pm_l_caught cd_l_caught ct_l_caught : Value}
    {f_law : Addr} {od_law an_law : Option Addr} {sl_law : Array (Option Value)} {oc_law kV_law dc_law pm_law cd_law ct_law : Value}
    {tc_LEAST_PLACE : Tok}
    {tc_GREATEST_PLACE : Tok}
    {C_ShelfError : Addr}
    {C_NoSpan : Addr}
    {C_NoPlace : Addr}
    {C_NoCover : Addr}
    {C_NoWeight : Addr}
    {C_NoCount : Addr}
    {C_NoName : Addr}
    {C_Twice : Addr}
    {C_Full : Addr}
    {C_Bare : Addr}
    {C_NoDeed : Addr}
    {C_NoText : Addr}
    {C_NoLine : Addr}
    (a_is_whole : PySem.W.nsIn K mainGlobals "is_whole" = some (some (.ref f_is_whole)))
    (l_is_whole : K.lookup f_is_whole = some ⟨oc_is_whole, od_is_whole, .func (PySem.W.fnOf "is_whole" "is_whole" (defArgs s_is_whole) (defBody s_is_whole) (defScope s_is_whole) .none kV_is_whole dc_is_whole pm_is_whole an_is_whole cd_is_whole ct_is_whole), sl_is_whole⟩)
    (c_is_whole : PySem.W.codeIn K cd_is_whole "is_whole" = true)
    (k_is_whole : PySem.W.keepIn K (.ref f_is_whole) = true)
    (a_is_place : PySem.W.nsIn K mainGlobals "is_place" = some (some (.ref f_is_place)))
    (l_is_place : K.lookup f_is_place = some ⟨oc_is_place, od_is_place, .func (PySem.W.fnOf "is_place" "is_place" (defArgs s_is_place) (defBody s_is_place) (defScope s_is_place) .none kV_is_place dc_is_place pm_is_place an_is_place cd_is_place ct_is_place), sl_is_place⟩)
    (c_is_place : PySem.W.codeIn K cd_is_place "is_place" = true)
    (k_is_place : PySem.W.keepIn K (.ref f_is_place) = true)
    (a_is_span : PySem.W.nsIn K mainGlobals "is_span" = some (some (.ref f_is_span)))
    (l_is_span : K.lookup f_is_span = some ⟨oc_is_span, od_is_span, .func (PySem.W.fnOf "is_span" "is_span" (defArgs s_is_span) (defBody s_is_span) (defScope s_is_span) .none kV_is_span dc_is_span pm_is_span an_is_span cd_is_span ct_is_span), sl_is_span⟩)
    (c_is_span : PySem.W.codeIn K cd_is_span "is_span" = true)
    (k_is_span : PySem.W.keepIn K (.ref f_is_span) = true)
    (a_check_span : PySem.W.nsIn K mainGlobals "check_span" = some (some (.ref f_check_span)))
    (l_check_span : K.lookup f_check_span = some ⟨oc_check_span, od_check_span, .func (PySem.W.fnOf "check_span" "check_span" (defArgs s_check_span) (defBody s_check_span) (defScope s_check_span) .none kV_check_span dc_check_span pm_check_span an_check_span cd_check_span ct_check_span), sl_check_span⟩)
    (c_check_span : PySem.W.codeIn K cd_check_span "check_span" = true)
    (k_check_span : PySem.W.keepIn K (.ref f_check_span) = true)
    (a_check_spans : PySem.W.nsIn K mainGlobals "check_spans" = some (some (.ref f_check_spans)))
    (l_check_spans : K.lookup f_check_spans = some ⟨oc_check_spans, od_check_spans, .func (PySem.W.fnOf "check_spans" "check_spans" (defArgs s_check_spans) (defBody s_check_spans) (defScope s_check_spans) .none kV_check_spans dc_check_spans pm_check_spans an_check_spans cd_check_spans ct_check_spans), sl_check_spans⟩)
    (c_check_spans : PySem.W.codeIn K cd_check_spans "check_spans" = true)
    (k_check_spans : PySem.W.keepIn K (.ref f_check_spans) = true)
    (a_check_place : PySem.W.nsIn K mainGlobals "check_place" = some (some (.ref f_check_place)))
    (l_check_place : K.lookup f_check_place = some ⟨oc_check_place, od_check_place, .func (PySem.W.fnOf "check_place" "check_place" (defArgs s_check_place) (defBody s_check_place) (defScope s_check_place) .none kV_check_place dc_check_place pm_check_place an_check_place cd_check_place ct_check_place), sl_check_place⟩)
    (c_check_place : PySem.W.codeIn K cd_check_place "check_place" = true)
    (k_check_place : PySem.W.keepIn K (.ref f_check_place) = true)
    (a_count_at : PySem.W.nsIn K mainGlobals "count_at" = some (some (.ref f_count_at)))
    (l_count_at : K.lookup f_count_at = some ⟨oc_count_at, od_count_at, .func (PySem.W.fnOf "count_at" "count_at" (defArgs s_count_at) (defBody s_count_at) (defScope s_count_at) .none kV_count_at dc_count_at pm_count_at an_count_at (.ref cA_count_at) ct_count_at), sl_count_at⟩)
    (c_count_at : PySem.W.codeIn K (.ref cA_count_at) "count_at" = true)
    (k_count_at : PySem.W.keepIn K (.ref f_count_at) = true)
    (y1_count_at : K.lookup cA_count_at = some ⟨ec_count_at, dd_count_at, .fields vc_count_at, sc_t_count_at⟩)
    (y2_count_at : vc_count_at[11]? = some (.ref pA_count_at))
    (y3_count_at : K.lookup pA_count_at = none)
    (a_changes_of : PySem.W.nsIn K mainGlobals "changes_of" = some (some (.ref f_changes_of)))
    (l_changes_of : K.lookup f_changes_of = some ⟨oc_changes_of, od_changes_of, .func (PySem.W.fnOf "changes_of" "changes_of" (defArgs s_changes_of) (defBody s_changes_of) (defScope s_changes_of) .none kV_changes_of dc_changes_of pm_changes_of an_changes_of cd_changes_of ct_changes_of), sl_changes_of⟩)
    (c_changes_of : PySem.W.codeIn K cd_changes_of "changes_of" = true)
    (k_changes_of : PySem.W.keepIn K (.ref f_changes_of) = true)
    (a_layers_of : PySem.W.nsIn K mainGlobals "layers_of" = some (some (.ref f_layers_of)))
    (l_layers_of : K.lookup f_layers_of = some ⟨oc_layers_of, od_layers_of, .func (PySem.W.fnOf "layers_of" "layers_of" (defArgs s_layers_of) (defBody s_layers_of) (defScope s_layers_of) .none kV_layers_of dc_layers_of pm_layers_of an_layers_of cd_layers_of ct_layers_of), sl_layers_of⟩)
    (c_layers_of : PySem.W.codeIn K cd_layers_of "layers_of" = true)
    (k_layers_of : PySem.W.keepIn K (.ref f_layers_of) = true)
    (a_deepest_layer : PySem.W.nsIn K mainGlobals "deepest_layer" = some (some (.ref f_deepest_layer)))
    (l_deepest_layer : K.lookup f_deepest_layer = some ⟨oc_deepest_layer, od_deepest_layer, .func (PySem.W.fnOf "deepest_layer" "deepest_layer" (defArgs s_deepest_layer) (defBody s_deepest_layer) (defScope s_deepest_layer) .none kV_deepest_layer dc_deepest_layer pm_deepest_layer an_deepest_layer cd_deepest_layer ct_deepest_layer), sl_deepest_layer⟩)
    (c_deepest_layer : PySem.W.codeIn K cd_deepest_layer "deepest_layer" = true)
    (k_deepest_layer : PySem.W.keepIn K (.ref f_deepest_layer) = true)
    (a_depth_at : PySem.W.nsIn K mainGlobals "depth_at" = some (some (.ref f_depth_at)))
    (l_depth_at : K.lookup f_depth_at = some ⟨oc_depth_at, od_depth_at, .func (PySem.W.fnOf "depth_at" "depth_at" (defArgs s_depth_at) (defBody s_depth_at) (defScope s_depth_at) .none kV_depth_at dc_depth_at pm_depth_at an_depth_at cd_depth_at ct_depth_at), sl_depth_at⟩)
    (c_depth_at : PySem.W.codeIn K cd_depth_at "depth_at" = true)
    (k_depth_at : PySem.W.keepIn K (.ref f_depth_at) = true)
    (a_profile : PySem.W.nsIn K mainGlobals "profile" = some (some (.ref f_profile)))
    (l_profile : K.lookup f_profile = some ⟨oc_profile, od_profile, .func (PySem.W.fnOf "profile" "profile" (defArgs s_profile) (defBody s_profile) (defScope s_profile) .none kV_profile dc_profile pm_profile an_profile cd_profile ct_profile), sl_profile⟩)
    (c_profile : PySem.W.codeIn K cd_profile "profile" = true)
    (k_profile : PySem.W.keepIn K (.ref f_profile) = true)
    (a_deepest : PySem.W.nsIn K mainGlobals "deepest" = some (some (.ref f_deepest)))
    (l_deepest : K.lookup f_deepest = some ⟨oc_deepest, od_deepest, .func (PySem.W.fnOf "deepest" "deepest" (defArgs s_deepest) (defBody s_deepest) (defScope s_deepest) .none kV_deepest dc_deepest pm_deepest an_deepest cd_deepest ct_deepest), sl_deepest⟩)
    (c_deepest : PySem.W.codeIn K cd_deepest "deepest" = true)
    (k_deepest : PySem.W.keepIn K (.ref f_deepest) = true)
    (a_l_at : PySem.W.nsIn K mainGlobals "_law_at" = some (some (.ref f_l_at)))
    (l_l_at : K.lookup f_l_at = some ⟨oc_l_at, od_l_at, .func (PySem.W.fnOf "_law_at" "_law_at" (defArgs s_l_at) (defBody s_l_at) (defScope s_l_at) .none kV_l_at dc_l_at pm_l_at an_l_at cd_l_at ct_l_at), sl_l_at⟩)
    (c_l_at : PySem.W.codeIn K cd_l_at "_law_at" = true)
    (k_l_at : PySem.W.keepIn K (.ref f_l_at) = true)
    (a_l_mixed : PySem.W.nsIn K mainGlobals "_law_mixed" = some (some (.ref f_l_mixed)))
    (l_l_mixed : K.lookup f_l_mixed = some ⟨oc_l_mixed, od_l_mixed, .func (PySem.W.fnOf "_law_mixed" "_law_mixed" (defArgs s_l_mixed) (defBody s_l_mixed) (defScope s_l_mixed) .none kV_l_mixed dc_l_mixed pm_l_mixed an_l_mixed cd_l_mixed ct_l_mixed), sl_l_mixed⟩)
    (c_l_mixed : PySem.W.codeIn K cd_l_mixed "_law_mixed" = true)
    (k_l_mixed : PySem.W.keepIn K (.ref f_l_mixed) = true)
    (a_l_purse : PySem.W.nsIn K mainGlobals "_law_purse" = some (some (.ref f_l_purse)))
    (l_l_purse : K.lookup f_l_purse = some ⟨oc_l_purse, od_l_purse, .func (PySem.W.fnOf "_law_purse" "_law_purse" (defArgs s_l_purse) (defBody s_l_purse) (defScope s_l_purse) .none kV_l_purse dc_l_purse pm_l_purse an_l_purse cd_l_purse ct_l_purse), sl_l_purse⟩)
    (c_l_purse : PySem.W.codeIn K cd_l_purse "_law_purse" = true)
    (k_l_purse : PySem.W.keepIn K (.ref f_l_purse) = true)
    (a_l_draw : PySem.W.nsIn K mainGlobals "_law_draw" = some (some (.ref f_l_draw)))
    (l_l_draw : K.lookup f_l_draw = some ⟨oc_l_draw, od_l_draw, .func (PySem.W.fnOf "_law_draw" "_law_draw" (defArgs s_l_draw) (defBody s_l_draw) (defScope s_l_draw) .none kV_l_draw dc_l_draw pm_l_draw an_l_draw cd_l_draw ct_l_draw), sl_l_draw⟩)
    (c_l_draw : PySem.W.codeIn K cd_l_draw "_law_draw" = true)
    (k_l_draw : PySem.W.keepIn K (.ref f_l_draw) = true)
    (a_l_number : PySem.W.nsIn K mainGlobals "_law_number" = some (some (.ref f_l_number)))
    (l_l_number : K.lookup f_l_number = some ⟨oc_l_number, od_l_number, .func (PySem.W.fnOf "_law_number" "_law_number" (defArgs s_l_number) (defBody s_l_number) (defScope s_l_number) .none kV_l_number dc_l_number pm_l_number an_l_number cd_l_number ct_l_number), sl_l_number⟩)
    (c_l_number : PySem.W.codeIn K cd_l_number "_law_number" = true)
    (k_l_number : PySem.W.keepIn K (.ref f_l_number) = true)
    (a_l_end : PySem.W.nsIn K mainGlobals "_law_end" = some (some (.ref f_l_end)))
    (l_l_end : K.lookup f_l_end = some ⟨oc_l_end, od_l_end, .func (PySem.W.fnOf "_law_end" "_law_end" (defArgs s_l_end) (defBody s_l_end) (defScope s_l_end) .none kV_l_end dc_l_end pm_l_end an_l_end cd_l_end ct_l_end), sl_l_end⟩)
    (c_l_end : PySem.W.codeIn K cd_l_end "_law_end" = true)
    (k_l_end : PySem.W.keepIn K (.ref f_l_end) = true)
    (a_l_span : PySem.W.nsIn K mainGlobals "_law_span" = some (some (.ref f_l_span)))
    (l_l_span : K.lookup f_l_span = some ⟨oc_l_span, od_l_span, .func (PySem.W.fnOf "_law_span" "_law_span" (defArgs s_l_span) (defBody s_l_span) (defScope s_l_span) .none kV_l_span dc_l_span pm_l_span an_l_span cd_l_span ct_l_span), sl_l_span⟩)
    (c_l_span : PySem.W.codeIn K cd_l_span "_law_span" = true)
    (k_l_span : PySem.W.keepIn K (.ref f_l_span) = true)
    (a_l_spans : PySem.W.nsIn K mainGlobals "_law_spans" = some (some (.ref f_l_spans)))
    (l_l_spans : K.lookup f_l_spans = some ⟨oc_l_spans, od_l_spans, .func (PySem.W.fnOf "_law_spans" "_law_spans" (defArgs s_l_spans) (defBody s_l_spans) (defScope s_l_spans) .none kV_l_spans dc_l_spans pm_l_spans an_l_spans cd_l_spans ct_l_spans), sl_l_spans⟩)
    (c_l_spans : PySem.W.codeIn K cd_l_spans "_law_spans" = true)
    (k_l_spans : PySem.W.keepIn K (.ref f_l_spans) = true)
    (a_l_holds : PySem.W.nsIn K mainGlobals "_law_holds" = some (some (.ref f_l_holds)))
    (l_l_holds : K.lookup f_l_holds = some ⟨oc_l_holds, od_l_holds, .func (PySem.W.fnOf "_law_holds" "_law_holds" (defArgs s_l_holds) (defBody s_l_holds) (defScope s_l_holds) .none kV_l_holds dc_l_holds pm_l_holds an_l_holds cd_l_holds ct_l_holds), sl_l_holds⟩)
    (c_l_holds : PySem.W.codeIn K cd_l_holds "_law_holds" = true)
    (k_l_holds : PySem.W.keepIn K (.ref f_l_holds) = true)
    (a_l_depth : PySem.W.nsIn K mainGlobals "_law_depth" = some (some (.ref f_l_depth)))
    (l_l_depth : K.lookup f_l_depth = some ⟨oc_l_depth, od_l_depth, .func (PySem.W.fnOf "_law_depth" "_law_depth" (defArgs s_l_depth) (defBody s_l_depth) (defScope s_l_depth) .none kV_l_depth dc_l_depth pm_l_depth an_l_depth cd_l_depth ct_l_depth), sl_l_depth⟩)
    (c_l_depth : PySem.W.codeIn K cd_l_depth "_law_depth" = true)
    (k_l_depth : PySem.W.keepIn K (.ref f_l_depth) = true)
    (a_l_whole : PySem.W.nsIn K mainGlobals "_law_whole" = some (some (.ref f_l_whole)))
    (l_l_whole : K.lookup f_l_whole = some ⟨oc_l_whole, od_l_whole, .func (PySem.W.fnOf "_law_whole" "_law_whole" (defArgs s_l_whole) (defBody s_l_whole) (defScope s_l_whole) .none kV_l_whole dc_l_whole pm_l_whole an_l_whole cd_l_whole ct_l_whole), sl_l_whole⟩)
    (c_l_whole : PySem.W.codeIn K cd_l_whole "_law_whole" = true)
    (k_l_whole : PySem.W.keepIn K (.ref f_l_whole) = true)
    (a_l_kinds : PySem.W.nsIn K mainGlobals "_law_kinds" = some (some (.ref f_l_kinds)))
    (l_l_kinds : K.lookup f_l_kinds = some ⟨oc_l_kinds, od_l_kinds, .func (PySem.W.fnOf "_law_kinds" "_law_kinds" (defArgs s_l_kinds) (defBody s_l_kinds) (defScope s_l_kinds) .none kV_l_kinds dc_l_kinds pm_l_kinds an_l_kinds cd_l_kinds ct_l_kinds), sl_l_kinds⟩)
    (c_l_kinds : PySem.W.codeIn K cd_l_kinds "_law_kinds" = true)
    (k_l_kinds : PySem.W.keepIn K (.ref f_l_kinds) = true)
    (a_l_bad_span : PySem.W.nsIn K mainGlobals "_law_bad_span" = some (some (.ref f_l_bad_span)))
    (l_l_bad_span : K.lookup f_l_bad_span = some ⟨oc_l_bad_span, od_l_bad_span, .func (PySem.W.fnOf "_law_bad_span" "_law_bad_span" (defArgs s_l_bad_span) (defBody s_l_bad_span) (defScope s_l_bad_span) .none kV_l_bad_span dc_l_bad_span pm_l_bad_span an_l_bad_span cd_l_bad_span ct_l_bad_span), sl_l_bad_span⟩)
    (c_l_bad_span : PySem.W.codeIn K cd_l_bad_span "_law_bad_span" = true)
    (k_l_bad_span : PySem.W.keepIn K (.ref f_l_bad_span) = true)
    (a_l_caught : PySem.W.nsIn K mainGlobals "_law_caught" = some (some (.ref f_l_caught)))
    (l_l_caught : K.lookup f_l_caught = some ⟨oc_l_caught, od_l_caught, .func (PySem.W.fnOf "_law_caught" "_law_caught" (defArgs s_l_caught) (defBody s_l_caught) (defScope s_l_caught) .none kV_l_caught dc_l_caught pm_l_caught an_l_caught cd_l_caught ct_l_caught), sl_l_caught⟩)
    (c_l_caught : PySem.W.codeIn K cd_l_caught "_law_caught" = true)
    (k_l_caught : PySem.W.keepIn K (.ref f_l_caught) = true)
    (a_law : PySem.W.nsIn K mainGlobals "law" = some (some (.ref f_law)))
    (l_law : K.lookup f_law = some ⟨oc_law, od_law, .func (PySem.W.fnOf "law" "law" (defArgs s_law) (defBody s_law) (defScope s_law) .none kV_law dc_law pm_law an_law cd_law ct_law), sl_law⟩)
    (c_law : PySem.W.codeIn K cd_law "law" = true)
    (k_law : PySem.W.keepIn K (.ref f_law) = true)
    (n_LEAST_PLACE : PySem.W.nsIn K mainGlobals "LEAST_PLACE" = some (some (.int (-999999999999) tc_LEAST_PLACE)))
    (n_GREATEST_PLACE : PySem.W.nsIn K mainGlobals "GREATEST_PLACE" = some (some (.int (999999999999) tc_GREATEST_PLACE)))
    (a_ShelfError : PySem.W.nsIn K mainGlobals "ShelfError" = some (some (.ref C_ShelfError)))
    (x_ShelfError : PySem.W.excIn K C_ShelfError [.type "ValueError", .type "Exception", .type "BaseException", .type "object"] "ValueError.__new__" = true)
    (k_ShelfError : PySem.W.keepIn K (.ref C_ShelfError) = true)
    (b_ShelfError : PySem.W.subIn K (.ref C_ShelfError) (.type "BaseException") = some true)
    (t_ShelfError : PySem.W.typeIn K (.ref C_ShelfError) = some (.type "type"))
    (a_NoSpan : PySem.W.nsIn K mainGlobals "NoSpan" = some (some (.ref C_NoSpan)))
    (x_NoSpan : PySem.W.excIn K C_NoSpan [.type "ValueError", .type "Exception", .type "BaseException", .type "object"] "ValueError.__new__" = true)
    (k_NoSpan : PySem.W.keepIn K (.ref C_NoSpan) = true)
    (b_NoSpan : PySem.W.subIn K (.ref C_NoSpan) (.type "BaseException") = some true)
    (t_NoSpan : PySem.W.typeIn K (.ref C_NoSpan) = some (.type "type"))
    (a_NoPlace : PySem.W.nsIn K mainGlobals "NoPlace" = some (some (.ref C_NoPlace)))
    (x_NoPlace : PySem.W.excIn K C_NoPlace [.type "ValueError", .type "Exception", .type "BaseException", .type "object"] "ValueError.__new__" = true)
    (k_NoPlace : PySem.W.keepIn K (.ref C_NoPlace) = true)
    (b_NoPlace : PySem.W.subIn K (.ref C_NoPlace) (.type "BaseException") = some true)
    (t_NoPlace : PySem.W.typeIn K (.ref C_NoPlace) = some (.type "type"))
    (a_NoCover : PySem.W.nsIn K mainGlobals "NoCover" = some (some (.ref C_NoCover)))
    (x_NoCover : PySem.W.excIn K C_NoCover [.type "ValueError", .type "Exception", .type "BaseException", .type "object"] "ValueError.__new__" = true)
    (k_NoCover : PySem.W.keepIn K (.ref C_NoCover) = true)
    (b_NoCover : PySem.W.subIn K (.ref C_NoCover) (.type "BaseException") = some true)
    (t_NoCover : PySem.W.typeIn K (.ref C_NoCover) = some (.type "type"))
    (a_NoWeight : PySem.W.nsIn K mainGlobals "NoWeight" = some (some (.ref C_NoWeight)))
    (x_NoWeight : PySem.W.excIn K C_NoWeight [.type "ValueError", .type "Exception", .type "BaseException", .type "object"] "ValueError.__new__" = true)
    (k_NoWeight : PySem.W.keepIn K (.ref C_NoWeight) = true)
    (b_NoWeight : PySem.W.subIn K (.ref C_NoWeight) (.type "BaseException") = some true)
    (t_NoWeight : PySem.W.typeIn K (.ref C_NoWeight) = some (.type "type"))
    (a_NoCount : PySem.W.nsIn K mainGlobals "NoCount" = some (some (.ref C_NoCount)))
    (x_NoCount : PySem.W.excIn K C_NoCount [.type "ValueError", .type "Exception", .type "BaseException", .type "object"] "ValueError.__new__" = true)
    (k_NoCount : PySem.W.keepIn K (.ref C_NoCount) = true)
    (b_NoCount : PySem.W.subIn K (.ref C_NoCount) (.type "BaseException") = some true)
    (t_NoCount : PySem.W.typeIn K (.ref C_NoCount) = some (.type "type"))
    (a_NoName : PySem.W.nsIn K mainGlobals "NoName" = some (some (.ref C_NoName)))
    (x_NoName : PySem.W.excIn K C_NoName [.type "ValueError", .type "Exception", .type "BaseException", .type "object"] "ValueError.__new__" = true)
    (k_NoName : PySem.W.keepIn K (.ref C_NoName) = true)
    (b_NoName : PySem.W.subIn K (.ref C_NoName) (.type "BaseException") = some true)
    (t_NoName : PySem.W.typeIn K (.ref C_NoName) = some (.type "type"))
    (a_Twice : PySem.W.nsIn K mainGlobals "Twice" = some (some (.ref C_Twice)))
    (x_Twice : PySem.W.excIn K C_Twice [.type "ValueError", .type "Exception", .type "BaseException", .type "object"] "ValueError.__new__" = true)
    (k_Twice : PySem.W.keepIn K (.ref C_Twice) = true)
    (b_Twice : PySem.W.subIn K (.ref C_Twice) (.type "BaseException") = some true)
    (t_Twice : PySem.W.typeIn K (.ref C_Twice) = some (.type "type"))
    (a_Full : PySem.W.nsIn K mainGlobals "Full" = some (some (.ref C_Full)))
    (x_Full : PySem.W.excIn K C_Full [.type "ValueError", .type "Exception", .type "BaseException", .type "object"] "ValueError.__new__" = true)
    (k_Full : PySem.W.keepIn K (.ref C_Full) = true)
    (b_Full : PySem.W.subIn K (.ref C_Full) (.type "BaseException") = some true)
    (t_Full : PySem.W.typeIn K (.ref C_Full) = some (.type "type"))
    (a_Bare : PySem.W.nsIn K mainGlobals "Bare" = some (some (.ref C_Bare)))
    (x_Bare : PySem.W.excIn K C_Bare [.type "ValueError", .type "Exception", .type "BaseException", .type "object"] "ValueError.__new__" = true)
    (k_Bare : PySem.W.keepIn K (.ref C_Bare) = true)
    (b_Bare : PySem.W.subIn K (.ref C_Bare) (.type "BaseException") = some true)
    (t_Bare : PySem.W.typeIn K (.ref C_Bare) = some (.type "type"))
    (a_NoDeed : PySem.W.nsIn K mainGlobals "NoDeed" = some (some (.ref C_NoDeed)))
    (x_NoDeed : PySem.W.excIn K C_NoDeed [.type "ValueError", .type "Exception", .type "BaseException", .type "object"] "ValueError.__new__" = true)
    (k_NoDeed : PySem.W.keepIn K (.ref C_NoDeed) = true)
    (b_NoDeed : PySem.W.subIn K (.ref C_NoDeed) (.type "BaseException") = some true)
    (t_NoDeed : PySem.W.typeIn K (.ref C_NoDeed) = some (.type "type"))
    (a_NoText : PySem.W.nsIn K mainGlobals "NoText" = some (some (.ref C_NoText)))
    (x_NoText : PySem.W.excIn K C_NoText [.type "ValueError", .type "Exception", .type "BaseException", .type "object"] "ValueError.__new__" = true)
    (k_NoText : PySem.W.keepIn K (.ref C_NoText) = true)
    (b_NoText : PySem.W.subIn K (.ref C_NoText) (.type "BaseException") = some true)
    (t_NoText : PySem.W.typeIn K (.ref C_NoText) = some (.type "type"))
    (a_NoLine : PySem.W.nsIn K mainGlobals "NoLine" = some (some (.ref C_NoLine)))
    (x_NoLine : PySem.W.excIn K C_NoLine [.type "ValueError", .type "Exception", .type "BaseException", .type "object"] "ValueError.__new__" = true)
    (k_NoLine : PySem.W.keepIn K (.ref C_NoLine) = true)
    (b_NoLine : PySem.W.subIn K (.ref C_NoLine) (.type "BaseException") = some true)
    (t_NoLine : PySem.W.typeIn K (.ref C_NoLine) = some (.type "type"))
    (z_ValueError : PySem.W.nsIn K mainGlobals "ValueError" = some none)
    (z_bool : PySem.W.nsIn K mainGlobals "bool" = some none)
    (z_int : PySem.W.nsIn K mainGlobals "int" = some none)
    (z_isinstance : PySem.W.nsIn K mainGlobals "isinstance" = some none)
    (z_len : PySem.W.nsIn K mainGlobals "len" = some none)
    (z_list : PySem.W.nsIn K mainGlobals "list" = some none)
    (z_max : PySem.W.nsIn K mainGlobals "max" = some none)
    (z_min : PySem.W.nsIn K mainGlobals "min" = some none)
    (z_range : PySem.W.nsIn K mainGlobals "range" = some none)
    (z_sorted : PySem.W.nsIn K mainGlobals "sorted" = some none)
    (z_sum : PySem.W.nsIn K mainGlobals "sum" = some none)
    (z_tuple : PySem.W.nsIn K mainGlobals "tuple" = some none)
    (excs : ([C_ShelfError, C_NoSpan, C_NoPlace, C_NoCover, C_NoWeight, C_NoCount, C_NoName, C_Twice, C_Full, C_Bare, C_NoDeed, C_NoText, C_NoLine].map fun (D : Addr) => (PySem.W.findIn K (.ref D) "__getattribute__", PySem.W.findIn K (.ref D) "__getattr__", PySem.W.subIn K (.ref D) (.type "BaseException"), PySem.W.hasDictIn K D, PySem.W.findIn K (.ref D) "__class__", PySem.W.mroIn K D (.type "object"))) = [C_ShelfError, C_NoSpan, C_NoPlace, C_NoCover, C_NoWeight, C_NoCount, C_NoName, C_Twice, C_Full, C_Bare, C_NoDeed, C_NoText, C_NoLine].map fun (_ : Addr) => (some (some (.builtin "BaseException.__getattribute__")), some none, some true, true, some (some (.builtin "object.__class__")), some true))
    (gets : (PySem.W.specialIn K (.builtin "object.__class__") "__get__", PySem.W.takesIn K (.builtin "object.__class__")) = (some (some (.builtin "getset_descriptor.__get__")), some true))
    (kits : ([C_ShelfError, C_NoSpan, C_NoPlace, C_NoCover, C_NoWeight, C_NoCount, C_NoName, C_Twice, C_Full, C_Bare, C_NoDeed, C_NoText, C_NoLine].map fun (D : Addr) => [C_NoSpan, C_NoPlace, C_NoCover, C_NoWeight, C_NoCount, C_NoName, C_Twice, C_Full, C_Bare, C_NoDeed, C_NoText, C_NoLine].map fun (C : Addr) => PySem.W.kitOne K (.ref D) (.ref C)) = (List.range 13).map fun i => (List.range 12).map fun j => some (i == j + 1))
    (tops : ([C_ShelfError, C_NoSpan, C_NoPlace, C_NoCover, C_NoWeight, C_NoCount, C_NoName, C_Twice, C_Full, C_Bare, C_NoDeed, C_NoText, C_NoLine].map fun (D : Addr) => (PySem.W.kitOne K (.ref D) (.ref C_ShelfError), PySem.W.kitOne K (.ref D) (.type "ValueError"))) = [C_ShelfError, C_NoSpan, C_NoPlace, C_NoCover, C_NoWeight, C_NoCount, C_NoName, C_Twice, C_Full, C_Bare, C_NoDeed, C_NoText, C_NoLine].map fun (_ : Addr) => (some true, some true))
    (nones : ([C_ShelfError, C_NoSpan, C_NoPlace, C_NoCover, C_NoWeight, C_NoCount, C_NoName, C_Twice, C_Full, C_Bare, C_NoDeed, C_NoText, C_NoLine].map fun (C : Addr) => PySem.W.kitOne K (.type "NoneType") (.ref C)) = [C_ShelfError, C_NoSpan, C_NoPlace, C_NoCover, C_NoWeight, C_NoCount, C_NoName, C_Twice, C_Full, C_Bare, C_NoDeed, C_NoText, C_NoLine].map fun (_ : Addr) => some false)
    (exms : ([C_ShelfError, C_NoSpan, C_NoPlace, C_NoCover, C_NoWeight, C_NoCount, C_NoName, C_Twice, C_Full, C_Bare, C_NoDeed, C_NoText, C_NoLine].map fun (D : Addr) => PySem.W.exmOne K (.ref D) (.ref C_ShelfError)) = [C_ShelfError, C_NoSpan, C_NoPlace, C_NoCover, C_NoWeight, C_NoCount, C_NoName, C_Twice, C_Full, C_Bare, C_NoDeed, C_NoText, C_NoLine].map fun (_ : Addr) => some true)
    (R : ∀ nm ∈ (["count_at"] : List Str), TabRec h mg nm)
    : LamX.LawAtS l w K CX0 8 63 "_law_script" mg fa h := by
  have e := hfa.symm.trans (PySem.W.mg_of X G a_law)
  cases e
  have F_is_whole := fun_mk (st := s_is_whole) l_is_whole c_is_whole k_is_whole
  have b_is_whole := F_is_whole.binds (ps := ["number"]) fun _ _ _ _ _ _ us hl => match us, hl with | [_], _ => rfl
  have F_is_place := fun_mk (st := s_is_place) l_is_place c_is_place k_is_place
  have b_is_place := F_is_place.binds (ps := ["number"]) fun _ _ _ _ _ _ us hl => match us, hl with | [_], _ => rfl
  have F_is_span := fun_mk (st := s_is_span) l_is_span c_is_span k_is_span
  have b_is_span := F_is_span.binds (ps := ["span"]) fun _ _ _ _ _ _ us hl => match us, hl with | [_], _ => rfl
  have F_check_span := fun_mk (st := s_check_span) l_check_span c_check_span k_check_span
  have b_check_span := F_check_span.binds (ps := ["span"]) fun _ _ _ _ _ _ us hl => match us, hl with | [_], _ => rfl
  have F_check_spans := fun_mk (st := s_check_spans) l_check_spans c_check_spans k_check_spans
  have b_check_spans := F_check_spans.binds (ps := ["spans"]) fun _ _ _ _ _ _ us hl => match us, hl with | [_], _ => rfl
  have F_check_place := fun_mk (st := s_check_place) l_check_place c_check_place k_check_place
  have b_check_place := F_check_place.binds (ps := ["place"]) fun _ _ _ _ _ _ us hl => match us, hl with | [_], _ => rfl
  have F_count_at := fun_mk (st := s_count_at) l_count_at c_count_at k_count_at
  have b_count_at := F_count_at.binds (ps := ["spans", "place"]) fun _ _ _ _ _ _ us hl => match us, hl with | [_, _], _ => rfl
  have F_changes_of := fun_mk (st := s_changes_of) l_changes_of c_changes_of k_changes_of
  have b_changes_of := F_changes_of.binds (ps := ["spans"]) fun _ _ _ _ _ _ us hl => match us, hl with | [_], _ => rfl
  have F_layers_of := fun_mk (st := s_layers_of) l_layers_of c_layers_of k_layers_of
  have b_layers_of := F_layers_of.binds (ps := ["spans"]) fun _ _ _ _ _ _ us hl => match us, hl with | [_], _ => rfl
  have F_deepest_layer := fun_mk (st := s_deepest_layer) l_deepest_layer c_deepest_layer k_deepest_layer
  have b_deepest_layer := F_deepest_layer.binds (ps := ["spans"]) fun _ _ _ _ _ _ us hl => match us, hl with | [_], _ => rfl
  have F_depth_at := fun_mk (st := s_depth_at) l_depth_at c_depth_at k_depth_at
  have b_depth_at := F_depth_at.binds (ps := ["spans", "place"]) fun _ _ _ _ _ _ us hl => match us, hl with | [_, _], _ => rfl
  have F_profile := fun_mk (st := s_profile) l_profile c_profile k_profile
  have b_profile := F_profile.binds (ps := ["spans"]) fun _ _ _ _ _ _ us hl => match us, hl with | [_], _ => rfl
  have F_deepest := fun_mk (st := s_deepest) l_deepest c_deepest k_deepest
  have b_deepest := F_deepest.binds (ps := ["spans"]) fun _ _ _ _ _ _ us hl => match us, hl with | [_], _ => rfl
  have F_l_at := fun_mk (st := s_l_at) l_l_at c_l_at k_l_at
  have b_l_at := F_l_at.binds (ps := ["_law_script", "_law_k"]) fun _ _ _ _ _ _ us hl => match us, hl with | [_, _], _ => rfl
  have F_l_mixed := fun_mk (st := s_l_mixed) l_l_mixed c_l_mixed k_l_mixed
  have b_l_mixed := F_l_mixed.binds (ps := ["_law_cell", "_law_k"]) fun _ _ _ _ _ _ us hl => match us, hl with | [_, _], _ => rfl
  have F_l_purse := fun_mk (st := s_l_purse) l_l_purse c_l_purse k_l_purse
  have b_l_purse := F_l_purse.binds (ps := ["_law_script", "_law_at_here"]) fun _ _ _ _ _ _ us hl => match us, hl with | [_, _], _ => rfl
  have F_l_draw := fun_mk (st := s_l_draw) l_l_draw c_l_draw k_l_draw
  have b_l_draw := F_l_draw.binds (ps := ["_law_purse_here", "_law_out_of"]) fun _ _ _ _ _ _ us hl => match us, hl with | [_, _], _ => rfl
  have F_l_number := fun_mk (st := s_l_number) l_l_number c_l_number k_l_number
  have b_l_number := F_l_number.binds (ps := ["_law_purse_here", "_law_most"]) fun _ _ _ _ _ _ us hl => match us, hl with | [_, _], _ => rfl
  have F_l_end := fun_mk (st := s_l_end) l_l_end c_l_end k_l_end
  have b_l_end := F_l_end.binds (ps := ["_law_purse_here", "_law_ends", "_law_most"]) fun _ _ _ _ _ _ us hl => match us, hl with | [_, _, _], _ => rfl
  have F_l_span := fun_mk (st := s_l_span) l_l_span c_l_span k_l_span
  have b_l_span := F_l_span.binds (ps := ["_law_purse_here", "_law_ends", "_law_most"]) fun _ _ _ _ _ _ us hl => match us, hl with | [_, _, _], _ => rfl
  have F_l_spans := fun_mk (st := s_l_spans) l_l_spans c_l_spans k_l_spans
  have b_l_spans := F_l_spans.binds (ps := ["_law_purse_here", "_law_ends", "_law_most"]) fun _ _ _ _ _ _ us hl => match us, hl with | [_, _, _], _ => rfl
  have F_l_holds := fun_mk (st := s_l_holds) l_l_holds c_l_holds k_l_holds
  have b_l_holds := F_l_holds.binds (ps := ["_law_span_here", "_law_place"]) fun _ _ _ _ _ _ us hl => match us, hl with | [_, _], _ => rfl
  have F_l_depth := fun_mk (st := s_l_depth) l_l_depth c_l_depth k_l_depth
  have b_l_depth := F_l_depth.binds (ps := ["_law_spans_here", "_law_place"]) fun _ _ _ _ _ _ us hl => match us, hl with | [_, _], _ => rfl
  have F_l_whole := fun_mk (st := s_l_whole) l_l_whole c_l_whole k_l_whole
  have b_l_whole := F_l_whole.binds (ps := ["_law_number_here"]) fun _ _ _ _ _ _ us hl => match us, hl with | [_], _ => rfl
  have F_l_kinds := fun_mk (st := s_l_kinds) l_l_kinds c_l_kinds k_l_kinds
  have b_l_kinds := F_l_kinds.binds (ps := ["_law_e"]) fun _ _ _ _ _ _ us hl => match us, hl with | [_], _ => rfl
  have F_l_bad_span := fun_mk (st := s_l_bad_span) l_l_bad_span c_l_bad_span k_l_bad_span
  have b_l_bad_span := F_l_bad_span.binds (ps := ["_law_purse_here"]) fun _ _ _ _ _ _ us hl => match us, hl with | [_], _ => rfl
  have F_l_caught := fun_mk (st := s_l_caught) l_l_caught c_l_caught k_l_caught
  have b_l_caught := F_l_caught.binds (ps := ["_law_way", "_law_spans_here", "_law_place"]) fun _ _ _ _ _ _ us hl => match us, hl with | [_, _, _], _ => rfl
  have F_law := fun_mk (st := s_law) l_law c_law k_law
  have b_law := F_law.binds (ps := ["_law_script"]) fun _ _ _ _ _ _ us hl => match us, hl with | [_], _ => rfl
  let T : Tx K mg := { f_is_whole := _, fd_is_whole := _, F_is_whole := F_is_whole, b_is_whole := b_is_whole, g_is_whole := PySem.W.mg_of X G a_is_whole, f_is_place := _, fd_is_place := _, F_is_place := F_is_place, b_is_place := b_is_place, g_is_place := PySem.W.mg_of X G a_is_place, f_is_span := _, fd_is_span := _, F_is_span := F_is_span, b_is_span := b_is_span, g_is_span := PySem.W.mg_of X G a_is_span, f_check_span := _, fd_check_span := _, F_check_span := F_check_span, b_check_span := b_check_span, g_check_span := PySem.W.mg_of X G a_check_span, f_check_spans := _, fd_check_spans := _, F_check_spans := F_check_spans, b_check_spans := b_check_spans, g_check_spans := PySem.W.mg_of X G a_check_spans, f_check_place := _, fd_check_place := _, F_check_place := F_check_place, b_check_place := b_check_place, g_check_place := PySem.W.mg_of X G a_check_place, f_count_at := _, fd_count_at := _, F_count_at := F_count_at, b_count_at := b_count_at, g_count_at := PySem.W.mg_of X G a_count_at, cA_count_at := cA_count_at, pA_count_at := pA_count_at, FC_count_at := ⟨⟨_, _, _, _, _, _, _, _, rfl, l_count_at, c_count_at⟩⟩, f_changes_of := _, fd_changes_of := _, F_changes_of := F_changes_of, b_changes_of := b_changes_of, g_changes_of := PySem.W.mg_of X G a_changes_of, f_layers_of := _, fd_layers_of := _, F_layers_of := F_layers_of, b_layers_of := b_layers_of, g_layers_of := PySem.W.mg_of X G a_layers_of, f_deepest_layer := _, fd_deepest_layer := _, F_deepest_layer := F_deepest_layer, b_deepest_layer := b_deepest_layer, g_deepest_layer := PySem.W.mg_of X G a_deepest_layer, f_depth_at := _, fd_depth_at := _, F_depth_at := F_depth_at, b_depth_at := b_depth_at, g_depth_at := PySem.W.mg_of X G a_depth_at, f_profile := _, fd_profile := _, F_profile := F_profile, b_profile := b_profile, g_profile := PySem.W.mg_of X G a_profile, f_deepest := _, fd_deepest := _, F_deepest := F_deepest, b_deepest := b_deepest, g_deepest := PySem.W.mg_of X G a_deepest, f_l_at := _, fd_l_at := _, F_l_at := F_l_at, b_l_at := b_l_at, g_l_at := PySem.W.mg_of X G a_l_at, f_l_mixed := _, fd_l_mixed := _, F_l_mixed := F_l_mixed, b_l_mixed := b_l_mixed, g_l_mixed := PySem.W.mg_of X G a_l_mixed, f_l_purse := _, fd_l_purse := _, F_l_purse := F_l_purse, b_l_purse := b_l_purse, g_l_purse := PySem.W.mg_of X G a_l_purse, f_l_draw := _, fd_l_draw := _, F_l_draw := F_l_draw, b_l_draw := b_l_draw, g_l_draw := PySem.W.mg_of X G a_l_draw, f_l_number := _, fd_l_number := _, F_l_number := F_l_number, b_l_number := b_l_number, g_l_number := PySem.W.mg_of X G a_l_number, f_l_end := _, fd_l_end := _, F_l_end := F_l_end, b_l_end := b_l_end, g_l_end := PySem.W.mg_of X G a_l_end, f_l_span := _, fd_l_span := _, F_l_span := F_l_span, b_l_span := b_l_span, g_l_span := PySem.W.mg_of X G a_l_span, f_l_spans := _, fd_l_spans := _, F_l_spans := F_l_spans, b_l_spans := b_l_spans, g_l_spans := PySem.W.mg_of X G a_l_spans, f_l_holds := _, fd_l_holds := _, F_l_holds := F_l_holds, b_l_holds := b_l_holds, g_l_holds := PySem.W.mg_of X G a_l_holds, f_l_depth := _, fd_l_depth := _, F_l_depth := F_l_depth, b_l_depth := b_l_depth, g_l_depth := PySem.W.mg_of X G a_l_depth, f_l_whole := _, fd_l_whole := _, F_l_whole := F_l_whole, b_l_whole := b_l_whole, g_l_whole := PySem.W.mg_of X G a_l_whole, f_l_kinds := _, fd_l_kinds := _, F_l_kinds := F_l_kinds, b_l_kinds := b_l_kinds, g_l_kinds := PySem.W.mg_of X G a_l_kinds, f_l_bad_span := _, fd_l_bad_span := _, F_l_bad_span := F_l_bad_span, b_l_bad_span := b_l_bad_span, g_l_bad_span := PySem.W.mg_of X G a_l_bad_span, f_l_caught := _, fd_l_caught := _, F_l_caught := F_l_caught, b_l_caught := b_l_caught, g_l_caught := PySem.W.mg_of X G a_l_caught, f_law := _, fd_law := _, F_law := F_law, b_law := b_law, g_law := PySem.W.mg_of X G a_law, tc_LEAST_PLACE := _, c_LEAST_PLACE := PySem.W.mg_of X G n_LEAST_PLACE, tc_GREATEST_PLACE := _, c_GREATEST_PLACE := PySem.W.mg_of X G n_GREATEST_PLACE, C_ShelfError := _, g_ShelfError := PySem.W.mg_of X G a_ShelfError, x_ShelfError := x_ShelfError, k_ShelfError := k_ShelfError, b_ShelfError := b_ShelfError, t_ShelfError := t_ShelfError, C_NoSpan := _, g_NoSpan := PySem.W.mg_of X G a_NoSpan, x_NoSpan := x_NoSpan, k_NoSpan := k_NoSpan, b_NoSpan := b_NoSpan, t_NoSpan := t_NoSpan, C_NoPlace := _, g_NoPlace := PySem.W.mg_of X G a_NoPlace, x_NoPlace := x_NoPlace, k_NoPlace := k_NoPlace, b_NoPlace := b_NoPlace, t_NoPlace := t_NoPlace, C_NoCover := _, g_NoCover := PySem.W.mg_of X G a_NoCover, x_NoCover := x_NoCover, k_NoCover := k_NoCover, b_NoCover := b_NoCover, t_NoCover := t_NoCover, C_NoWeight := _, g_NoWeight := PySem.W.mg_of X G a_NoWeight, x_NoWeight := x_NoWeight, k_NoWeight := k_NoWeight, b_NoWeight := b_NoWeight, t_NoWeight := t_NoWeight, C_NoCount := _, g_NoCount := PySem.W.mg_of X G a_NoCount, x_NoCount := x_NoCount, k_NoCount := k_NoCount, b_NoCount := b_NoCount, t_NoCount := t_NoCount, C_NoName := _, g_NoName := PySem.W.mg_of X G a_NoName, x_NoName := x_NoName, k_NoName := k_NoName, b_NoName := b_NoName, t_NoName := t_NoName, C_Twice := _, g_Twice := PySem.W.mg_of X G a_Twice, x_Twice := x_Twice, k_Twice := k_Twice, b_Twice := b_Twice, t_Twice := t_Twice, C_Full := _, g_Full := PySem.W.mg_of X G a_Full, x_Full := x_Full, k_Full := k_Full, b_Full := b_Full, t_Full := t_Full, C_Bare := _, g_Bare := PySem.W.mg_of X G a_Bare, x_Bare := x_Bare, k_Bare := k_Bare, b_Bare := b_Bare, t_Bare := t_Bare, C_NoDeed := _, g_NoDeed := PySem.W.mg_of X G a_NoDeed, x_NoDeed := x_NoDeed, k_NoDeed := k_NoDeed, b_NoDeed := b_NoDeed, t_NoDeed := t_NoDeed, C_NoText := _, g_NoText := PySem.W.mg_of X G a_NoText, x_NoText := x_NoText, k_NoText := k_NoText, b_NoText := b_NoText, t_NoText := t_NoText, C_NoLine := _, g_NoLine := PySem.W.mg_of X G a_NoLine, x_NoLine := x_NoLine, k_NoLine := k_NoLine, b_NoLine := b_NoLine, t_NoLine := t_NoLine, m_ValueError := PySem.W.mg_none_of X G z_ValueError, m_bool := PySem.W.mg_none_of X G z_bool, m_int := PySem.W.mg_none_of X G z_int, m_isinstance := PySem.W.mg_none_of X G z_isinstance, m_len := PySem.W.mg_none_of X G z_len, m_list := PySem.W.mg_none_of X G z_list, m_max := PySem.W.mg_none_of X G z_max, m_min := PySem.W.mg_none_of X G z_min, m_range := PySem.W.mg_none_of X G z_range, m_sorted := PySem.W.mg_none_of X G z_sorted, m_sum := PySem.W.mg_none_of X G z_sum, m_tuple := PySem.W.mg_none_of X G z_tuple, excs := excs, gets := gets, kits := kits, tops := tops, nones := nones, exms := exms }
  have z_t0 := tab_of X (R "count_at" (by simp)) (PySem.W.mg_of X G a_count_at) l_count_at rfl y1_count_at y2_count_at
  have e1 : ∀ p ∈ ([(cA_count_at, pA_count_at)] : List (Addr × Addr)), h.get? p.2 = some { cls := .none, data := .fields #[] } ∧ K.lookup p.2 = none ∧ PySem.W.CodeHd h p.1 p.2 := fun p hp => by
    simp only [List.mem_cons, List.not_mem_nil, or_false] at hp
    rcases hp with rfl
    · exact ⟨z_t0.1, y3_count_at, z_t0.2⟩
  refine ⟨PySem.W.fnOf "law" "law" (defArgs s_law) (defBody s_law) (defScope s_law) .none kV_law dc_law pm_law an_law cd_law ct_law, [(cA_count_at, pA_count_at)], spLaw T, fun p hp => (e1 p hp).1, fun p hp => (e1 p hp).2.1, fun p hp => (e1 p hp).2.2, fun s v => .of_eq rfl, fun H a ns hl _ hT hS => ?_, fun base _ _ hB => ?_⟩
  · refine ⟨a, ns, rfl, hS, hl, fun P hP => ⟨#[], ?_, True.intro⟩, fun _ => rfl⟩
    have hP : P ∈ [pA_count_at] := hP
    simp only [List.mem_cons, List.not_mem_nil, or_false] at hP
    rcases hP with hP
    · rw [hP]
      exact hT (cA_count_at, pA_count_at) (by simp)
  · exact ok_law T { t_count_at := ⟨(hB (cA_count_at, pA_count_at) (by simp)).code, (hB (cA_count_at, pA_count_at) (by simp)).bm, (hB (cA_count_at, pA_count_at) (by simp)).gP⟩ } F_law
end Sp
open PySem PySem.W PyProof.Rows
set_option maxHeartbeats 0 in
theorem PySem.Challenge.cw_spanshelf_k10_depths_holds : PySem.Challenge.rw_spanshelf_k10_depths.Holds := by
  w_on; o_law; k_head; (case hw => w_witness2)
  k_fill
  refine Sp.walk_tabs (l := PySem.Challenge.rw_spanshelf_k10_depths) (n := 63) (k := 8) (x := "_law_script") (CX := fun _ => L2.CX0) ["count_at"] rfl (by decide) rfl ⟨rfl, by decide, by decide⟩ (by first | rfl | decide +kernel) (fun w h Y => PySem.W.kIn_of Y) ?F (fun _ _ _ _ _ h => h)
  case F =>
    intro w mg fa h KX G hmg hR
    refine' Sp.all_mk KX G hmg ?a_is_whole ?l_is_whole ?c_is_whole ?k_is_whole ?a_is_place ?l_is_place ?c_is_place ?k_is_place ?a_is_span ?l_is_span ?c_is_span ?k_is_span ?a_check_span ?l_check_span ?c_check_span ?k_check_span ?a_check_spans ?l_check_spans ?c_check_spans ?k_check_spans ?a_check_place ?l_check_place ?c_check_place ?k_check_place ?a_count_at ?l_count_at ?c_count_at ?k_count_at ?y1_count_at ?y2_count_at ?y3_count_at ?a_changes_of ?l_changes_of ?c_changes_of ?k_changes_of ?a_layers_of ?l_layers_of ?c_layers_of ?k_layers_of ?a_deepest_layer ?l_deepest_layer ?c_deepest_layer ?k_deepest_layer ?a_depth_at ?l_depth_at ?c_depth_at ?k_depth_at ?a_profile ?l_profile ?c_profile ?k_profile ?a_deepest ?l_deepest ?c_deepest ?k_deepest ?a_l_at ?l_l_at ?c_l_at ?k_l_at ?a_l_mixed ?l_l_mixed ?c_l_mixed ?k_l_mixed ?a_l_purse ?l_l_purse ?c_l_purse ?k_l_purse ?a_l_draw ?l_l_draw ?c_l_draw ?k_l_draw ?a_l_number ?l_l_number ?c_l_number ?k_l_number ?a_l_end ?l_l_end ?c_l_end ?k_l_end ?a_l_span ?l_l_span ?c_l_span ?k_l_span ?a_l_spans ?l_l_spans ?c_l_spans ?k_l_spans ?a_l_holds ?l_l_holds ?c_l_holds ?k_l_holds ?a_l_depth ?l_l_depth ?c_l_depth ?k_l_depth ?a_l_whole ?l_l_whole ?c_l_whole ?k_l_whole ?a_l_kinds ?l_l_kinds ?c_l_kinds ?k_l_kinds ?a_l_bad_span ?l_l_bad_span ?c_l_bad_span ?k_l_bad_span ?a_l_caught ?l_l_caught ?c_l_caught ?k_l_caught ?a_law ?l_law ?c_law ?k_law ?n_LEAST_PLACE ?n_GREATEST_PLACE ?a_ShelfError ?x_ShelfError ?k_ShelfError ?b_ShelfError ?t_ShelfError ?a_NoSpan ?x_NoSpan ?k_NoSpan ?b_NoSpan ?t_NoSpan ?a_NoPlace ?x_NoPlace ?k_NoPlace ?b_NoPlace ?t_NoPlace ?a_NoCover ?x_NoCover ?k_NoCover ?b_NoCover ?t_NoCover ?a_NoWeight ?x_NoWeight ?k_NoWeight ?b_NoWeight ?t_NoWeight ?a_NoCount ?x_NoCount ?k_NoCount ?b_NoCount ?t_NoCount ?a_NoName ?x_NoName ?k_NoName ?b_NoName ?t_NoName ?a_Twice ?x_Twice ?k_Twice ?b_Twice ?t_Twice ?a_Full ?x_Full ?k_Full ?b_Full ?t_Full ?a_Bare ?x_Bare ?k_Bare ?b_Bare ?t_Bare ?a_NoDeed ?x_NoDeed ?k_NoDeed ?b_NoDeed ?t_NoDeed ?a_NoText ?x_NoText ?k_NoText ?b_NoText ?t_NoText ?a_NoLine ?x_NoLine ?k_NoLine ?b_NoLine ?t_NoLine ?z_ValueError ?z_bool ?z_int ?z_isinstance ?z_len ?z_list ?z_max ?z_min ?z_range ?z_sorted ?z_sum ?z_tuple ?excs ?gets ?kits ?tops ?nones ?exms hR
    (case a_is_whole => first | k_is | rfl)
    (case l_is_whole => first | k_is | rfl)
    (case c_is_whole => first | k_is | rfl)
    (case k_is_whole => first | k_is | rfl)
    (case a_is_place => first | k_is | rfl)
    (case l_is_place => first | k_is | rfl)
    (case c_is_place => first | k_is | rfl)
    (case k_is_place => first | k_is | rfl)
    (case a_is_span => first | k_is | rfl)
    (case l_is_span => first | k_is | rfl)
    (case c_is_span => first | k_is | rfl)
    (case k_is_span => first | k_is | rfl)
    (case a_check_span => first | k_is | rfl)
    (case l_check_span => first | k_is | rfl)
    (case c_check_span => first | k_is | rfl)
    (case k_check_span => first | k_is | rfl)
    (case a_check_spans => first | k_is | rfl)
    (case l_check_spans => first | k_is | rfl)
    (case c_check_spans => first | k_is | rfl)
    (case k_check_spans => first | k_is | rfl)
    (case a_check_place => first | k_is | rfl)
    (case l_check_place => first | k_is | rfl)
    (case c_check_place => first | k_is | rfl)
    (case k_check_place => first | k_is | rfl)
    (case a_count_at => first | k_is | rfl)
    (case l_count_at => first | k_is | rfl)
    (case c_count_at => first | k_is | rfl)
    (case k_count_at => first | k_is | rfl)
    (case y1_count_at => first | k_is | rfl)
    (case y2_count_at => rfl)
    (case y3_count_at => first | k_is | kernel_rfl)
    (case a_changes_of => first | k_is | rfl)
    (case l_changes_of => first | k_is | rfl)
    (case c_changes_of => first | k_is | rfl)
    (case k_changes_of => first | k_is | rfl)
    (case a_layers_of => first | k_is | rfl)
    (case l_layers_of => first | k_is | rfl)
    (case c_layers_of => first | k_is | rfl)
    (case k_layers_of => first | k_is | rfl)
    (case a_deepest_layer => first | k_is | rfl)
    (case l_deepest_layer => first | k_is | rfl)
    (case c_deepest_layer => first | k_is | rfl)
    (case k_deepest_layer => first | k_is | rfl)
    (case a_depth_at => first | k_is | rfl)
    (case l_depth_at => first | k_is | rfl)
    (case c_depth_at => first | k_is | rfl)
    (case k_depth_at => first | k_is | rfl)
    (case a_profile => first | k_is | rfl)
    (case l_profile => first | k_is | rfl)
    (case c_profile => first | k_is | rfl)
    (case k_profile => first | k_is | rfl)
    (case a_deepest => first | k_is | rfl)
    (case l_deepest => first | k_is | rfl)
    (case c_deepest => first | k_is | rfl)
    (case k_deepest => first | k_is | rfl)
    (case a_l_at => first | k_is | rfl)
    (case l_l_at => first | k_is | rfl)
    (case c_l_at => first | k_is | rfl)
    (case k_l_at => first | k_is | rfl)
    (case a_l_mixed => first | k_is | rfl)
    (case l_l_mixed => first | k_is | rfl)
    (case c_l_mixed => first | k_is | rfl)
    (case k_l_mixed => first | k_is | rfl)
    (case a_l_purse => first | k_is | rfl)
    (case l_l_purse => first | k_is | rfl)
    (case c_l_purse => first | k_is | rfl)
    (case k_l_purse => first | k_is | rfl)
    (case a_l_draw => first | k_is | rfl)
    (case l_l_draw => first | k_is | rfl)
    (case c_l_draw => first | k_is | rfl)
    (case k_l_draw => first | k_is | rfl)
    (case a_l_number => first | k_is | rfl)
    (case l_l_number => first | k_is | rfl)
    (case c_l_number => first | k_is | rfl)
    (case k_l_number => first | k_is | rfl)
    (case a_l_end => first | k_is | rfl)
    (case l_l_end => first | k_is | rfl)
    (case c_l_end => first | k_is | rfl)
    (case k_l_end => first | k_is | rfl)
    (case a_l_span => first | k_is | rfl)
    (case l_l_span => first | k_is | rfl)
    (case c_l_span => first | k_is | rfl)
    (case k_l_span => first | k_is | rfl)
    (case a_l_spans => first | k_is | rfl)
    (case l_l_spans => first | k_is | rfl)
    (case c_l_spans => first | k_is | rfl)
    (case k_l_spans => first | k_is | rfl)
    (case a_l_holds => first | k_is | rfl)
    (case l_l_holds => first | k_is | rfl)
    (case c_l_holds => first | k_is | rfl)
    (case k_l_holds => first | k_is | rfl)
    (case a_l_depth => first | k_is | rfl)
    (case l_l_depth => first | k_is | rfl)
    (case c_l_depth => first | k_is | rfl)
    (case k_l_depth => first | k_is | rfl)
    (case a_l_whole => first | k_is | rfl)
    (case l_l_whole => first | k_is | rfl)
    (case c_l_whole => first | k_is | rfl)
    (case k_l_whole => first | k_is | rfl)
    (case a_l_kinds => first | k_is | rfl)
    (case l_l_kinds => first | k_is | rfl)
    (case c_l_kinds => first | k_is | rfl)
    (case k_l_kinds => first | k_is | rfl)
    (case a_l_bad_span => first | k_is | rfl)
    (case l_l_bad_span => first | k_is | rfl)
    (case c_l_bad_span => first | k_is | rfl)
    (case k_l_bad_span => first | k_is | rfl)
    (case a_l_caught => first | k_is | rfl)
    (case l_l_caught => first | k_is | rfl)
    (case c_l_caught => first | k_is | rfl)
    (case k_l_caught => first | k_is | rfl)
    (case a_law => first | k_is | rfl)
    (case l_law => first | k_is | rfl)
    (case c_law => first | k_is | rfl)
    (case k_law => first | k_is | rfl)
    (case n_LEAST_PLACE => first | k_is | rfl)
    (case n_GREATEST_PLACE => first | k_is | rfl)
    (case a_ShelfError => first | k_is | rfl)
    (case x_ShelfError => k_exc)
    (case k_ShelfError => first | k_is | rfl)
    (case b_ShelfError => first | k_is | rfl)
    (case t_ShelfError => first | k_is | rfl)
    (case a_NoSpan => first | k_is | rfl)
    (case x_NoSpan => k_exc)
    (case k_NoSpan => first | k_is | rfl)
    (case b_NoSpan => first | k_is | rfl)
    (case t_NoSpan => first | k_is | rfl)
    (case a_NoPlace => first | k_is | rfl)
    (case x_NoPlace => k_exc)
    (case k_NoPlace => first | k_is | rfl)
    (case b_NoPlace => first | k_is | rfl)
    (case t_NoPlace => first | k_is | rfl)
    (case a_NoCover => first | k_is | rfl)
    (case x_NoCover => k_exc)
    (case k_NoCover => first | k_is | rfl)
    (case b_NoCover => first | k_is | rfl)
    (case t_NoCover => first | k_is | rfl)
    (case a_NoWeight => first | k_is | rfl)
    (case x_NoWeight => k_exc)
    (case k_NoWeight => first | k_is | rfl)
    (case b_NoWeight => first | k_is | rfl)
    (case t_NoWeight => first | k_is | rfl)
    (case a_NoCount => first | k_is | rfl)
    (case x_NoCount => k_exc)
    (case k_NoCount => first | k_is | rfl)
    (case b_NoCount => first | k_is | rfl)
    (case t_NoCount => first | k_is | rfl)
    (case a_NoName => first | k_is | rfl)
    (case x_NoName => k_exc)
    (case k_NoName => first | k_is | rfl)
    (case b_NoName => first | k_is | rfl)
    (case t_NoName => first | k_is | rfl)
    (case a_Twice => first | k_is | rfl)
    (case x_Twice => k_exc)
    (case k_Twice => first | k_is | rfl)
    (case b_Twice => first | k_is | rfl)
    (case t_Twice => first | k_is | rfl)
    (case a_Full => first | k_is | rfl)
    (case x_Full => k_exc)
    (case k_Full => first | k_is | rfl)
    (case b_Full => first | k_is | rfl)
    (case t_Full => first | k_is | rfl)
    (case a_Bare => first | k_is | rfl)
    (case x_Bare => k_exc)
    (case k_Bare => first | k_is | rfl)
    (case b_Bare => first | k_is | rfl)
    (case t_Bare => first | k_is | rfl)
    (case a_NoDeed => first | k_is | rfl)
    (case x_NoDeed => k_exc)
    (case k_NoDeed => first | k_is | rfl)
    (case b_NoDeed => first | k_is | rfl)
    (case t_NoDeed => first | k_is | rfl)
    (case a_NoText => first | k_is | rfl)
    (case x_NoText => k_exc)
    (case k_NoText => first | k_is | rfl)
    (case b_NoText => first | k_is | rfl)
    (case t_NoText => first | k_is | rfl)
    (case a_NoLine => first | k_is | rfl)
    (case x_NoLine => k_exc)
    (case k_NoLine => first | k_is | rfl)
    (case b_NoLine => first | k_is | rfl)
    (case t_NoLine => first | k_is | rfl)
    (case z_ValueError => first | k_is | rfl)
    (case z_bool => first | k_is | rfl)
    (case z_int => first | k_is | rfl)
    (case z_isinstance => first | k_is | rfl)
    (case z_len => first | k_is | rfl)
    (case z_list => first | k_is | rfl)
    (case z_max => first | k_is | rfl)
    (case z_min => first | k_is | rfl)
    (case z_range => first | k_is | rfl)
    (case z_sorted => first | k_is | rfl)
    (case z_sum => first | k_is | rfl)
    (case z_tuple => first | k_is | rfl)
    (case excs => kernel_rfl)
    (case gets => kernel_rfl)
    (case kits => kernel_rfl)
    (case tops => kernel_rfl)
    (case nones => kernel_rfl)
    (case exms => kernel_rfl)
