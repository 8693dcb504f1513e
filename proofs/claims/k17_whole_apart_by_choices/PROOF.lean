import PyProof.Rows.All
import Wide.All
import OpenK.AllK
import Wide.FinOn
import PySem.Challenge.RW_spanshelf_k17_whole_apart_by_choices
import HandS.ForMost
import HandS.ForExc
import HandS.IsInst
import HandS.Wide
import HandS.WideBits
import HandS.Flt
import HandS.ExcIs
import HandS.ExcValue
import HandS.AnyAll
import HandS.EndTab
import HandS.GenList
import HandS.Codes
import HandS.Small
import HandS.More
import HandS.Strs
import HandS.SetFor
import HandS.SortRule
import HandS.Style
import HandS.TupSets
import HandS.TupLe
import HandS.SortInts
import HandS.Conv
set_option Elab.async false
set_option linter.all false
set_option maxRecDepth 100000
set_option maxHeartbeats 4000000
namespace Sp
open PySem PySem.Spec PyProof.Rows L2
/-! ### heaps -/
theorem same_upd {H : Hp} {p : Addr} {o : HO} (h : H p = none) : Same H (upd H p o) := fun b x e => by
  rw [upd_ne (ne_of_none e h)]
  exact e
theorem upd_at {H : Hp} {p : Addr} {o : HO} (h : H p = none) : (upd H p o) p = some o ∧ Same H (upd H p o) := ⟨upd_same, same_upd h⟩
theorem same_more {H H' : Hp} {p : Addr} {o : HO} (h : Same H H') (n : H p = none) : Same H (upd H' p o) := fun b x e => by
  rw [upd_ne (ne_of_none e n)]
  exact h _ _ e
/-- all but what stands at the addresses of L is kept -/
def Chg (L : List Addr) (H H' : Hp) : Prop := ∀ b o, b ∉ L → H b = some o → H' b = some o
theorem Chg.refl (L : List Addr) (H : Hp) : Chg L H H := fun _ _ _ h => h
theorem Chg.trans {L : List Addr} {H H1 H2 : Hp} (a : Chg L H H1) (b : Chg L H1 H2) : Chg L H H2 := fun c o n h => b c o n (a c o n h)
theorem Chg.of_same {L : List Addr} {H H' : Hp} (a : Same H H') : Chg L H H' := fun c o _ h => a c o h
theorem Chg.same {H H' : Hp} (a : Chg [] H H') : Same H H' := fun c o h => a c o List.not_mem_nil h
theorem Chg.mono {L L' : List Addr} {H H' : Hp} (a : Chg L H H') (h : ∀ x ∈ L, x ∈ L') : Chg L' H H' := fun c o n e => a c o (fun q => n (h c q)) e
theorem Chg.upd {L : List Addr} {H : Hp} {p : Addr} {o : HO} (h : p ∈ L) : Chg L H (upd H p o) := fun b x n e => by
  have hne : b ≠ p := fun z => n (by rw [z]; exact h)
  rw [upd_ne hne]
  exact e
theorem Chg.free {L : List Addr} {H H' : Hp} (a : Chg L H H') {l : Addr} (hl : l ∉ L) (h : H' l = none) : H l = none := by
  cases q : H l with
  | none => rfl
  | some o =>
    rw [a l o hl q] at h
    cases h
theorem Chg.seq {K : PySem.W.Frag} {L : List Addr} {H H' : Hp} {a : Addr} {xs : List V} (e : Chg L H H') (n : a ∉ L) (h : SqL K H a xs) : SqL K H' a xs := by
  rcases h with (h | ⟨o, h⟩) | h
  · exact .inl (.inl (e _ _ n h))
  · exact .inl (.inr ⟨o, e _ _ n h⟩)
  · exact .inr h
theorem same_tup {K : PySem.W.Frag} {H H' : Hp} {a : Addr} {xs : List V} (e : Same H H') (h : SqT K H a xs) : SqT K H' a xs := by
  rcases h with (h | ⟨o, h⟩) | h
  · exact .inl (.inl (e _ _ h))
  · exact .inl (.inr ⟨o, e _ _ h⟩)
  · exact .inr h
theorem nmem1 {a b : Addr} (h : a ≠ b) : a ∉ [b] := fun q => h (List.mem_singleton.mp q)
theorem nmem2 {a b c : Addr} (h : a ≠ b) (h2 : a ≠ c) : a ∉ [b, c] := fun q => by
  rcases List.mem_cons.mp q with q | q
  · exact h q
  · exact h2 (List.mem_singleton.mp q)
theorem small_lt {n : Nat} (h : n ≤ 1000000) : n < sizeLine := Nat.lt_of_le_of_lt h (by decide)
theorem small_le {n : Nat} (h : n ≤ 1000000) : n ≤ sizeLine := Nat.le_of_lt (small_lt h)
/-- a list of whole numbers at p that may be changed -/
def Pu (H : Hp) (p : Addr) (n : Nat) : Prop := ∃ a b c : Int, H p = some (.lst [.int a, .int b, .int c]) ∧ 0 ≤ a ∧ 0 ≤ b ∧ b < 2147483647 ∧ 0 ≤ c ∧ c ≤ n
theorem Pu.chg {L : List Addr} {H H' : Hp} {p : Addr} {n : Nat} (h : Pu H p n) (e : Chg L H H') (hp : p ∉ L) : Pu H' p n := by
  obtain ⟨a, b, c, h1, h2⟩ := h
  exact ⟨a, b, c, e _ _ hp h1, h2⟩
theorem Pu.same {H H' : Hp} {p : Addr} {n : Nat} (h : Pu H p n) (e : Same H H') : Pu H' p n := h.chg (L := []) (Chg.of_same e) List.not_mem_nil
theorem Pu.mono {H : Hp} {p : Addr} {n m : Nat} (h : Pu H p n) (e : n ≤ m) : Pu H p m := by
  obtain ⟨a, b, c, h1, h2, h3, h4, h5, h6⟩ := h
  exact ⟨a, b, c, h1, h2, h3, h4, h5, by omega⟩
theorem Pu.ne {H : Hp} {p q : Addr} {n : Nat} (h : Pu H p n) (e : H q = none) : p ≠ q := by
  obtain ⟨a, b, c, h1, _⟩ := h
  exact ne_of_none h1 e
theorem Pu.at {H : Hp} {p : Addr} {n : Nat} (h : Pu H p n) : ∃ o, H p = some o := by
  obtain ⟨a, b, c, h1, _⟩ := h
  exact ⟨_, h1⟩
/-! ### data: whole numbers, spans, lists of them -/
theorem dpAll_ints {K : PySem.W.Frag} {H : Hp} : ∀ ns : List Int, DpAll K H (ns.map V.int) (ns.map PyData.int)
  | [] => .nil
  | n :: r => .cons (.int n) (dpAll_ints r)
theorem lay_ints : ∀ ns : List Int, PyData.canLayAll0 (ns.map PyData.int) = true ∧ PyData.depthAll (ns.map PyData.int) = 0
  | [] => ⟨rfl, rfl⟩
  | n :: r => by
    obtain ⟨h1, h2⟩ := lay_ints r
    refine ⟨?_, ?_⟩
    · show (PyData.canLay0 (.int n) && PyData.canLayAll0 (r.map PyData.int)) = true
      rw [h1]
      rfl
    · show max (PyData.depth (.int n)) (PyData.depthAll (r.map PyData.int)) = 0
      rw [h2]
      rfl
theorem shaped_ints (ns : List Int) : SeqAt.shaped (.list (ns.map PyData.int)) = true := by
  obtain ⟨h1, h2⟩ := lay_ints ns
  show (PyData.canLayAll0 (ns.map PyData.int) && decide (PyData.depthAll (ns.map PyData.int) + 1 ≤ 64)) = true
  rw [h1, h2]
  rfl
theorem shaped_nil : SeqAt.shaped (.list []) = true := rfl
theorem eqv_ints_nil (ns : List Int) : PyData.eqv (.list (ns.map PyData.int)) (.list []) = decide (ns = []) := by
  cases ns with
  | nil => rfl
  | cons n r => simp [PyData.eqv, PyData.eqvAll]
abbrev Span := Int × Int
def spD (s : Span) : PyData := .tuple [.int s.1, .int s.2]
/-- v is the span s -/
def Spn (H : Hp) (v : V) (s : Span) : Prop := ∃ t, v = .ref t ∧ H t = some (.tup [.int s.1, .int s.2])
inductive Sps (H : Hp) : List V → List Span → Prop where
  | nil : Sps H [] []
  | cons {v : V} {s : Span} {vs : List V} {ss : List Span} : Spn H v s → Sps H vs ss → Sps H (v :: vs) (s :: ss)
theorem Spn.same {H H' : Hp} {v : V} {s : Span} (h : Spn H v s) (e : Same H H') : Spn H' v s := by
  obtain ⟨t, rfl, ht⟩ := h
  exact ⟨t, rfl, e _ _ ht⟩
theorem Sps.same {H H' : Hp} (e : Same H H') : ∀ {vs : List V} {ss : List Span}, Sps H vs ss → Sps H' vs ss
  | _, _, .nil => .nil
  | _, _, .cons h t => .cons (h.same e) (Sps.same e t)
/-- only lists are changed: spans stay -/
def Lsts (L : List Addr) (H : Hp) : Prop := ∀ p ∈ L, ∀ xs, H p ≠ some (.tup xs)
theorem Pu.lsts {H : Hp} {p : Addr} {n : Nat} (h : Pu H p n) : Lsts [p] H := fun b hb xs => by
  obtain ⟨_, _, _, h1, _⟩ := h
  rw [List.mem_singleton.mp hb, h1]
  exact fun z => by cases z
theorem Lsts.of1 {H : Hp} {l : Addr} {ys : List V} (h : H l = some (.lst ys)) : Lsts [l] H := fun b hb xs => by
  rw [List.mem_singleton.mp hb, h]
  exact fun z => by cases z
theorem Lsts.two {H : Hp} {p q : Addr} (h : Lsts [p] H) (h2 : Lsts [q] H) : Lsts [p, q] H := fun b hb xs => by
  rcases List.mem_cons.mp hb with e | e
  · rw [e]
    exact h p List.mem_cons_self xs
  · exact h2 b e xs
theorem Spn.chg {L : List Addr} {H H' : Hp} {v : V} {s : Span} (h : Spn H v s) (e : Chg L H H') (l : Lsts L H) : Spn H' v s := by
  obtain ⟨t, rfl, ht⟩ := h
  exact ⟨t, rfl, e _ _ (fun q => l t q _ ht) ht⟩
theorem Sps.chg {L : List Addr} {H H' : Hp} (e : Chg L H H') (l : Lsts L H) : ∀ {vs : List V} {ss : List Span}, Sps H vs ss → Sps H' vs ss
  | _, _, .nil => .nil
  | _, _, .cons h t => .cons (h.chg e l) (Sps.chg e l t)
theorem Sps.len {H : Hp} : ∀ {vs : List V} {ss : List Span}, Sps H vs ss → vs.length = ss.length
  | _, _, .nil => rfl
  | _, _, .cons _ t => congrArg (· + 1) t.len
theorem Sps.app {H : Hp} : ∀ {vs ws : List V} {ss ts : List Span}, Sps H vs ss → Sps H ws ts → Sps H (vs ++ ws) (ss ++ ts)
  | _, _, _, _, .nil, h => h
  | _, _, _, _, .cons a t, h => .cons a (Sps.app t h)
theorem Sps.one {H : Hp} {v : V} {s : Span} (h : Spn H v s) : Sps H [v] [s] := .cons h .nil
theorem Sps.get {H : Hp} : ∀ {vs : List V} {ss : List Span} {i : Nat} {v : V}, Sps H vs ss → vs[i]? = some v → ∃ s, ss[i]? = some s ∧ Spn H v s
  | _, _, _, _, .nil, e => by simp at e
  | _, _, 0, v, .cons (s := s) h t, e => ⟨s, rfl, by
      have q := Option.some.inj (show some _ = some v from e)
      rw [← q]
      exact h⟩
  | _, _, i + 1, v, .cons h t, e => Sps.get (i := i) t e
theorem Sps.get' {H : Hp} : ∀ {vs : List V} {ss : List Span} {i : Nat} {s : Span}, Sps H vs ss → ss[i]? = some s → ∃ v, vs[i]? = some v ∧ Spn H v s
  | _, _, _, _, .nil, e => by simp at e
  | _, _, 0, s, .cons (v := v) h t, e => ⟨v, rfl, by
      have q := Option.some.inj (show some _ = some s from e)
      rw [← q]
      exact h⟩
  | _, _, i + 1, v, .cons h t, e => Sps.get' (i := i) t e
theorem Spn.dp {K : PySem.W.Frag} {H : Hp} {v : V} {s : Span} (h : Spn H v s) : Dp K H v (spD s) := by
  obtain ⟨t, rfl, ht⟩ := h
  exact .tup (SqT.of ht) (.cons (.int _) (.cons (.int _) .nil))
theorem Sps.dpAll {K : PySem.W.Frag} {H : Hp} : ∀ {vs : List V} {ss : List Span}, Sps H vs ss → DpAll K H vs (ss.map spD)
  | _, _, .nil => .nil
  | _, _, .cons h t => .cons h.dp t.dpAll
theorem Sps.dp {K : PySem.W.Frag} {H : Hp} {a : Addr} {vs : List V} {ss : List Span} (h : Sps H vs ss) (q : SqL K H a vs) : Dp K H (.ref a) (.list (ss.map spD)) := .lst q h.dpAll
theorem lay_spans : ∀ ss : List Span, PyData.canLayAll0 (ss.map spD) = true ∧ PyData.depthAll (ss.map spD) ≤ 1
  | [] => ⟨rfl, by decide⟩
  | s :: r => by
    obtain ⟨h1, h2⟩ := lay_spans r
    refine ⟨?_, ?_⟩
    · show (PyData.canLay0 (spD s) && PyData.canLayAll0 (r.map spD)) = true
      rw [h1]
      rfl
    · show max (PyData.depth (spD s)) (PyData.depthAll (r.map spD)) ≤ 1
      have e : PyData.depth (spD s) = 1 := rfl
      rw [e]
      omega
theorem shaped_spans (ss : List Span) : SeqAt.shaped (.list (ss.map spD)) = true := by
  obtain ⟨h1, h2⟩ := lay_spans ss
  show (PyData.canLayAll0 (ss.map spD) && decide (PyData.depthAll (ss.map spD) + 1 ≤ 64)) = true
  rw [h1, decide_eq_true (by omega)]
  rfl
theorem eqv_span (s t : Span) : PyData.eqv (spD s) (spD t) = decide (s = t) := by
  obtain ⟨a, b⟩ := s
  obtain ⟨c, d⟩ := t
  simp [PyData.eqv, PyData.eqvAll, spD, Bool.beq_eq_decide_eq]
theorem eqvAll_spans : ∀ ss ts : List Span, PyData.eqvAll (ss.map spD) (ts.map spD) = decide (ss = ts)
  | [], [] => rfl
  | [], _ :: _ => rfl
  | _ :: _, [] => rfl
  | s :: ss, t :: ts => by
    show (PyData.eqv (spD s) (spD t) && PyData.eqvAll (ss.map spD) (ts.map spD)) = _
    rw [eqv_span, eqvAll_spans ss ts]
    by_cases h : s = t <;> by_cases h2 : ss = ts <;> simp [h, h2]
theorem eqv_spans (ss ts : List Span) : PyData.eqv (.list (ss.map spD)) (.list (ts.map spD)) = decide (ss = ts) := eqvAll_spans ss ts
theorem eqv_spans_nil (ss : List Span) : PyData.eqv (.list (ss.map spD)) (.list []) = decide (ss = []) := eqvAll_spans ss []
/-! ### generator expressions: elements judged in the generator's own frame -/
section
open GenW
/-- the generator's frame, woken below two calls of built-ins -/
abbrev gcx (X : Cx) (s : Shared) (H : Hp) (cenv : Env) (fp : List Addr) : Cx := { X with A := X.A.in1.in1.deeper cenv, s_0 := s, H_0 := H, env := cenv, outer := X.stack, stack := cenv :: X.stack, ex := fp, fn := fun _ => false, pn := [], xe := fun _ _ => False }
/-- the names of a generator expression: its own (with their places in N), or captured ones -/
structure GBlk (N : List Str) (sc scope : Scope) (own : List (Str × Nat)) : Prop where
  kind : scope.kind = .function
  co : scope.isCoroutine = false
  nocell : ∀ y ∈ scope.names, y.2 ≠ .cell
  dot : scope.names.lookup (".0" : Str) = some NameKind.local
  uniq : ∀ y ∈ scope.names, scope.names.lookup y.1 = some y.2
  ix : ∀ p ∈ own, N[p.2]? = some p.1
  free : ∀ y ∈ scope.names, y.2 = .free → sc.names.lookup y.1 = some .cell ∨ sc.names.lookup y.1 = some .free
  own : ∀ y ∈ scope.names, y.2 = .local → y.1 ∈ own.map (·.1) ∨ y.1 ∉ N
def gblkC (N : List Str) (sc scope : Scope) (own : List (Str × Nat)) : Bool :=
  decide (scope.kind = .function) && !scope.isCoroutine && scope.names.all (fun y => decide (y.2 ≠ .cell)) && decide (scope.names.lookup (".0" : Str) = some NameKind.local) && scope.names.all (fun y => decide (scope.names.lookup y.1 = some y.2)) &&
    own.all (fun p => decide (N[p.2]? = some p.1)) && scope.names.all (fun y => decide (y.2 ≠ .free) || decide (sc.names.lookup y.1 = some .cell) || decide (sc.names.lookup y.1 = some .free)) && scope.names.all (fun y => decide (y.2 ≠ .local) || decide (y.1 ∈ own.map (·.1)) || decide (y.1 ∉ N))
theorem gblk_by {N : List Str} {sc scope : Scope} {own : List (Str × Nat)} (h : gblkC N sc scope own = true) : GBlk N sc scope own := by
  unfold gblkC at h
  simp only [Bool.and_eq_true, Bool.or_eq_true, decide_eq_true_eq, List.all_eq_true, Bool.not_eq_true'] at h
  obtain ⟨⟨⟨⟨⟨⟨⟨h1, h2⟩, h3⟩, h4⟩, h5⟩, h6⟩, h7⟩, h8⟩ := h
  refine ⟨h1, h2, h3, h4, h5, h6, fun y hy e => ?_, fun y hy e => ?_⟩
  · rcases h7 y hy with (z | z) | z
    · exact absurd e z
    · exact .inl z
    · exact .inr z
  · rcases h8 y hy with (z | z) | z
    · exact absurd e z
    · exact .inl z
    · exact .inr z
variable {X : Cx} {pins : List (Addr × Obj)} {σ : L2.St} {H : Hp} {s : Shared}
theorem inv_regen {X : Cx} {pins : List (Addr × Obj)} {σ : L2.St} {H : Hp} {s s' : Shared} (I : Inv X pins σ H s) (ho : s'.os = s.os) (hh : s'.heap = s.heap) (hb : AllBare s'.gens) : Inv X pins σ H s' := by
  obtain ⟨h', g', d', t', o'⟩ := s'
  cases ho
  cases hh
  exact ⟨I.ok, I.os, hb, I.base, I.loc, I.cell, I.free, I.freeC, I.pin, I.hok, I.len⟩
/-- the frame stands -/
theorem gblk_start {scope : Scope} {own : List (Str × Nat)} {fp : List Addr} {h' : Heap} {g' : Array GenState} {tk : Nat} {itv code : Value} (I : Inv X pins σ H s) (ok : GBlk X.N X.env.scope scope own) (hN : X.N.Nodup) (hfp : ∀ b ∈ fp, FpOk X pins H b ∧ b < s.heap.objs.size)
    (hn : h'.Ns s.heap.objs.size (fun y => if y = ".0" then some itv else none)) (kp : ∀ b o, s.heap.get? b = some o → h'.get? b = some o) (hb : AllBare g') :
    Inv (gcx X s H (genEnv scope (cloFrom X.env.cells scope.names []) s.heap.objs.size code builtinsNs X.env) fp) [] (wipe σ (own.map (·.2))) H { s with heap := h', gens := g', toks := tk } := by
  have hfree : ∀ y ∈ scope.names, y.2 = .free → ∃ c, X.env.cells.lookup y.1 = some c := fun y hy e =>
    (ok.free y hy e).elim (fun k => I.ok.has _ (.inl k)) fun k => I.ok.has _ (.inr k)
  generalize hce : genEnv scope (cloFrom X.env.cells scope.names []) s.heap.objs.size code builtinsNs X.env = ce
  have hL : ce.locals = s.heap.objs.size := by subst hce; rfl
  have hcl : ce.cells = cloFrom X.env.cells scope.names [] := by subst hce; rfl
  have hsc : ce.scope = scope := by subst hce; rfl
  have cm : ∀ {y c}, ce.cells.lookup y = some c → X.env.cells.lookup y = some c ∧ c < s.heap.objs.size := fun {y c} e => by
    rw [hcl] at e
    rcases cloFrom_mem (PySem.mem_of_lookup e) with hm | ⟨h1, rfl⟩
    · cases hm
    · obtain ⟨c, hc⟩ := hfree _ h1 rfl
      rw [hc]
      obtain ⟨w, z⟩ := I.cell _ _ hc
      exact ⟨rfl, z.lt⟩
  have look : ∀ {y}, scope.names.lookup y = some .free → ∃ c, ce.cells.lookup y = some c ∧ X.env.cells.lookup y = some c := fun {y} hl => by
    have hy : (y, NameKind.free) ∈ scope.names := PySem.mem_of_lookup hl
    obtain ⟨c', e'⟩ := mem_lookup (cloFrom_has (cells := X.env.cells) (acc := []) hy)
    rw [← hcl] at e'
    exact ⟨c', e', (cm e').1⟩
  have nocell : ∀ {y}, ce.kindOf y ≠ some .cell := fun {y} e => by
    have e : ce.scope.names.lookup y = some .cell := e
    rw [hsc] at e
    exact ok.nocell _ (PySem.mem_of_lookup e) rfl
  have okB : (gcx X s H ce fp).Ok := by
    refine ⟨I.ok.mod, by show ce.scope.kind = _; rw [hsc]; exact ok.kind, by show ce.globals = _; rw [← hce]; exact I.ok.glob, by show ce.builtins = _; rw [← hce]; rfl, by show s.heap.objs.size ≤ ce.locals; rw [hL]; exact Nat.le_refl _,
      fun y z c e1 e2 => ?_, fun y hy => ?_, fun y c z e => ?_, I.ok.hd, ?_, .inr ⟨rfl, ?_⟩, fun b hb => ⟨?_, fun y c e z => ?_⟩, I.bs, Nat.le_trans I.ok.bsz I.sz, fun b o e hb => ?_, fun b hb z => ?_, I.stack, I.stkFree⟩
    · exact I.ok.inj y z c (cm e1).1 (cm e2).1
    · rcases hy with hy | hy
      · exact absurd hy nocell
      · have hy : ce.scope.names.lookup y = some .free := hy
        rw [hsc] at hy
        obtain ⟨c, h1, _⟩ := look hy
        exact ⟨c, h1⟩
    · cases z
    · exact Around.frames_deeper (show X.A.in1.in1.frames = some X.stack from I.ok.frames)
    · show ce.frame = some ce.locals
      rw [← hce]
      rfl
    · show b ≠ ce.locals
      rw [hL]
      exact Nat.ne_of_lt (hfp b hb).2
    · exact (hfp b hb).1.2.2.2.2.1 y c (cm e).1 z
    · rcases (hfp b hb).1.2.2.2.1 with z | z
      · exact I.ok.noex b o e z
      · exact absurd (Nat.lt_of_lt_of_le (Heap.lt_size e) (Nat.le_trans I.ok.bsz z)) (Nat.lt_irrefl _)
    · rcases List.mem_cons.mp (I.stkSub b z) with z | z
      · exact (hfp b hb).1.2.1 z
      · exact (hfp b hb).1.2.2.1 z
  refine ⟨okB, rfl, hb, Un.kept kp, ⟨fun y => if y = ".0" then some itv else none, ?_, fun i y av e1 e2 e3 => ?_⟩, fun y c e => ?_, ?_, fun y c e => I.freeC y c (cm e).1, fun p hp => ?_, I.hok.kept kp, by rw [wipe_length]; exact I.len⟩
  · show Heap.Ns _ ce.locals _
    rw [hL]
    exact hn
  · obtain ⟨e2, hne⟩ := wipe_some e2
    have hfr : scope.names.lookup y = some .free := by
      have e3 : Vis ce.scope y := e3
      rw [hsc] at e3
      rcases e3 with e3 | e3 | e3
      · rcases ok.own _ (PySem.mem_of_lookup e3) rfl with e' | e'
        · obtain ⟨p, hp, hpy⟩ := List.mem_map.mp e'
          have e4 := ok.ix p hp
          have hpy : p.1 = y := hpy
          rw [hpy] at e4
          exact absurd (List.mem_map.mpr ⟨p, hp, nodup_ix hN e4 e1⟩) hne
        · exact absurd (List.mem_of_getElem? e1) e'
      · exact absurd rfl (ok.nocell _ (PySem.mem_of_lookup e3))
      · exact e3
    obtain ⟨m, hn', hl⟩ := I.loc
    have vis : Vis X.env.scope y := (ok.free _ (PySem.mem_of_lookup hfr) rfl).elim (fun k => .inr (.inl k)) (fun k => .inr (.inr k))
    obtain ⟨w, r, q⟩ := hl i y av e1 e2 vis
    obtain ⟨c, h1, h2⟩ := look hfr
    refine ⟨w, r, .inr ⟨.inr (by show ce.scope.names.lookup y = _; rw [hsc]; exact hfr), c, h1, ?_⟩⟩
    rcases q with ⟨k, _⟩ | ⟨_, c', e', z⟩
    · have k : X.env.scope.names.lookup y = some .local := k
      rcases ok.free _ (PySem.mem_of_lookup hfr) rfl with k' | k' <;> rw [show X.env.scope.names.lookup y = _ from k'] at k <;> cases k
    · rw [h2] at e'
      cases e'
      exact z.keeps kp
  · obtain ⟨w, z⟩ := I.cell y c (cm e).1
    exact ⟨w, z.keeps kp⟩
  · show H ce.locals = none
    rw [hL]
    exact I.hok.fresh (Nat.le_refl _)
  · exact absurd (show p ∈ ([] : List (Addr × Obj)) ++ [] from hp) (by simp)
/-! the consumer: a: what it has gathered, told by the state; os: its own objects -/
structure Cons (α : Type) where
  step : α → V → (α → Prop) → (V → Prop) → Prop
  fin : α → (V → Prop) → Prop
/-- while the generator sleeps, all but the consumer's own is kept -/
structure Slp (ol : List Addr) (s s' : Shared) : Prop where
  same : s'.os = s.os
  bare : AllBare s'.gens
  keep : ∀ b o, b ∉ ol → s.heap.get? b = some o → s'.heap.get? b = some o
  own : ∀ b ∈ ol, ∃ o, s'.heap.get? b = some o ∧ ∀ v, o.data ≠ .cell v
def OsOk (X : Cx) (os : List Addr) : Prop := ∀ b ∈ os, X.s_0.heap.objs.size ≤ b ∧ b ≠ X.env.locals ∧ (∀ x c, X.env.cells.lookup x = some c → c ≠ b) ∧ b ∉ X.ex
theorem inv_woken {os : List Addr} {ip : List (Addr × Obj)} {s s' s₀ : Shared} (I : Inv X (pinsAt os s₀.heap ++ ip) σ H s) (hpn : X.pn = []) (h₀ : ∀ b ∈ os, ∃ o, s₀.heap.get? b = some o) (hO : OsOk X os) (z : Slp os s s') : Inv X (pinsAt os s'.heap) σ H s' ∧ ∀ b ∈ os, H b = none ∧ b ∉ X.fs := by
  have hb0 : ∀ b ∈ os, H b = none ∧ b ∉ X.fs := fun b hb => by
    obtain ⟨o, e⟩ := h₀ b hb
    obtain ⟨_, h2, _, h4, _⟩ := I.pin (b, o) (List.mem_append_right _ (List.mem_append_left _ (mem_pinsAt hb e)))
    exact ⟨h2, h4⟩
  have I0 : Inv X [] σ H s := I.pins_of fun p hp => absurd hp (by simp)
  have I1 : Inv X [] σ H { s with heap := s'.heap, toks := s.toks } := I0.turnedL (ch := os) (fun b o hb e => z.keep b o hb e) fun b hb =>
    ⟨(hb0 b hb).1, (hO b hb).2.1, (hb0 b hb).2, .inr (hO b hb).1, (hO b hb).2.2.1, fun p hp => absurd (show p ∈ ([] : List (Addr × Obj)) from by rw [hpn] at hp; exact hp) (by simp)⟩
  have I2 : Inv X [] σ H s' := inv_regen I1 z.same rfl z.bare
  refine ⟨I2.pins_of fun p hp => ?_, hb0⟩
  obtain ⟨hb, e⟩ := of_pinsAt hp
  obtain ⟨o, e', hc⟩ := z.own p.1 hb
  rw [e] at e'
  cases e'
  exact ⟨e, (hb0 p.1 hb).1, (hO p.1 hb).2.1, (hb0 p.1 hb).2, hc⟩
section
variable {α : Type}
def GYx (Z : Cx) (os : List Addr) (c : Cons α) (Rel : α → Shared → Prop) (Q : VK) : Protocol := fun n s₀ v s kap =>
  ∃ (a : α) (y : V) (H : Hp) (ip : List (Addr × Obj)) (τ : L2.St) (Nx : α → Prop), Rel a s₀ ∧ RelV y v ∧ Inv Z (pinsAt os s₀.heap ++ ip) τ H s ∧ c.step a y Nx (fun u => Q u H) ∧ ∀ s' a', Nx a' → Rel a' s' → Slp os s s' → kap (.send .none) s'
def GEx (Z : Cx) (os : List Addr) (c : Cons α) (Rel : α → Shared → Prop) (Q : VK) : GenEnd := fun n s₀ r s =>
  ((r = .ok (.ret .none) ∨ r = .ok .next) ∧ ∃ (a : α) (H : Hp) (τ : L2.St), Rel a s₀ ∧ Inv Z (pinsAt os s₀.heap) τ H s ∧ c.fin a (fun u => Q u H)) ∨ ∃ e, r = .error e ∧ False
/-- the loop: what is asked -/
def Runs1 (J : It) (g : TG) (tt : TT) (te : TE) (vs : List Nat) (σ : L2.St) (c : Cons α) (Q : VK) (W : Nat → Nat → α → Hp → Prop) : Prop :=
  ∀ i m a H, W i m a H → (J.stop i H ∧ c.fin a (fun u => Q u H)) ∨ (J.go i H ∧ ∃ Nx : α → Hp → Prop, (∀ a' H', Nx a' H' → ∃ m', m' < m ∧ W (i + 1) m' a' H') ∧ ∀ x H', J.yld i H x H' → g x (wipe σ vs) H' fun σ2 H2 => wipe σ2 vs = wipe σ vs ∧ tt σ2 H2 fun b H3 =>
    if b = true then te σ2 H3 fun y H4 => c.step a y (fun a' => Nx a' H4) (fun u => Q u H4) else Nx a H3)
theorem gx_over {A : Around} {elt tg iter : Expr} {ifs : List Expr} {scope : Scope} {pos : Pos} {it acc : Value} {ce : Env} : A.over (.compLoop (.GeneratorExp elt [⟨tg, iter, ifs, 0⟩] scope pos) 0 it acc ce) [] = A.deeper ce := by
  first
    | rfl
    | (obtain ⟨hd, d, fr, gs, u⟩ := A; simp [Around.over, Around.deeper, marksOver, frameCount, unitsOf, envsOf, guardsOf, pushEnvs, pushGuards, Code.envs, Code.env?, Code.isFrame, Code.guards, Code.isGuard, Code.weight, Code.frames, Code.isCreation, Code.isCaller, Code.cUnits])
theorem gx_over0 {A : Around} {elt tg iter : Expr} {ifs : List Expr} {scope : Scope} {pos : Pos} {it acc : Value} {ce : Env} : A.over (.compStart (.GeneratorExp elt [⟨tg, iter, ifs, 0⟩] scope pos) 0 it acc ce) [] = A.deeper ce := by
  first
    | rfl
    | (obtain ⟨hd, d, fr, gs, u⟩ := A; simp [Around.over, Around.deeper, marksOver, frameCount, unitsOf, envsOf, guardsOf, pushEnvs, pushGuards, Code.envs, Code.env?, Code.isFrame, Code.guards, Code.isGuard, Code.weight, Code.frames, Code.isCreation, Code.isCaller, Code.cUnits])
/-- what stands at a turn -/
structure At (Z : Cx) (os fp : List Addr) (tn : Nat → Heap → Prop) (σ : L2.St) (vs : List Nat) (i : Nat) (H : Hp) (s₀ s : Shared) : Prop where
  inv : Inv Z (pinsAt os s₀.heap) (wipe σ vs) H s
  tn : tn i s.heap
  fpn : ∀ b ∈ fp, H b = none
  ex : ∀ b ∈ os, ∃ o, s₀.heap.get? b = some o
theorem gx_loop {Z : Cx} {os fp : List Addr} {c : Cons α} {Rel : α → Shared → Prop} {Q : VK} {elt tg iter : Expr} {ifs : List Expr} {scope : Scope} {pos : Pos} {it : Addr} {tn : Nat → Heap → Prop} {J : It} {g : TG} {tt : TT} {te : TE} {vs : List Nat} {W : Nat → Nat → α → Hp → Prop} {A : Around}
    (hA : A.deeper Z.env = Z.A) (hpn : Z.pn = []) (hex : Z.ex = fp) (hc : Z.calm = true) (hxe : Z.xe = fun _ _ => False) (hco : Z.env.scope.isCoroutine = false) (hO : OsOk Z os) (T : Turn Z.prog Z.w Z.K tg J fp it tn) (pg : PG Z tg g) (pt : PTs Z ifs tt) (pe : PE Z elt te) (run : Runs1 J g tt te vs σ c Q W) :
    ∀ (m n i : Nat) (a : α) (H : Hp) (s₀ s : Shared), m < n → W i m a H → Rel a s₀ → At Z os fp tn σ vs i H s₀ s →
      Seg (model Z.prog Z.w) A (GEx Z os c Rel Q) (GYx Z os c Rel Q) n s₀ (.compLoop (.GeneratorExp elt [⟨tg, iter, ifs, 0⟩] scope pos) 0 (.ref it) .none Z.env) ((model Z.prog Z.w).den (.compLoop (.GeneratorExp elt [⟨tg, iter, ifs, 0⟩] scope pos) 0 (.ref it) .none Z.env)) [] s := by
  intro m
  induction m using Nat.strongRecOn with
  | ind m ih =>
    intro n i a H s₀ s hmn w hrel at_
    obtain ⟨I, st, nfp, h0⟩ := at_
    have stat : ∀ {pins : List (Addr × Obj)} {σ' : L2.St} {H' : Hp} {s' : Shared}, Inv Z pins σ' H' s' → (∀ p ∈ pins, p.1 ∈ os) → (∀ b ∈ fp, H' b = none) → ∀ b ∈ fp, FpOk Z pins H' b := fun {pins σ' H' s'} I' hp hn b hb => by
      have hb' : b ∈ Z.ex := by rw [hex]; exact hb
      refine ⟨hn b hb, (I'.ok.exf b hb').1, I'.ok.exfs b hb', .inl hb', fun x c e => (I'.ok.exf b hb').2 x c e, fun p hq => ?_⟩
      rw [hpn] at hq
      have := hO p.1 (hp p hq)
      intro z
      rw [z] at this
      exact this.2.2.2 hb'
    have pos_ : ∀ p ∈ pinsAt os s₀.heap, p.1 ∈ os := fun p hp => (of_pinsAt hp).1
    have noE : ∀ {β : Type} {t : Sem β} {Qx : β → Shared → Prop} {E' : Value → Shared → Prop} {s : Shared}, wpAny (model Z.prog Z.w) Z.A t Qx Z.xe s → wpAny (model Z.prog Z.w) Z.A t Qx E' s := fun h => wpAny_mono h (fun _ _ z => z) fun _ _ z => by rw [hxe] at z; exact z.elim
    show Seg _ A _ _ _ s₀ _ ((compTurn (.GeneratorExp elt [⟨tg, iter, ifs, 0⟩] scope pos) 0 (.ref it) .none Z.env).onRaise (leaving Z.env)) [] s
    rw [compTurn_gen, Sem.onRaise_eq_wrap]
    refine seg_bind_wrap ?_
    rw [gx_over, hA]
    refine wpAny_standAt (seg_bind_wrap ?_)
    rw [gx_over, hA]
    rcases run i m a H w with ⟨stop, qq⟩ | ⟨go, Nx, hNx, step⟩
    · refine wpAny_mono (T.done Z rfl rfl rfl hc i _ s _ H (fun _ _ => False) I (stat I pos_ nfp) st stop) (fun r s1 ⟨hr, I1⟩ => ?_) fun _ _ z => z.elim
      subst hr
      exact seg_end (.ok .next) (.inl ⟨.inr rfl, a, H, _, hrel, I1, qq⟩)
    · refine wpAny_mono (T.item Z rfl rfl rfl hc i _ s _ H (fun _ _ => False) I (stat I pos_ nfp) st go) (fun r s1 ⟨u, hr, h1⟩ => ?_) fun _ _ z => z.elim
      subst hr
      refine seg_bind_wrap ?_
      rw [gx_over, hA]
      refine wpAny_mono h1 (fun _ s7 ⟨x, H7, I7, r7, y7, st7, n7⟩ => ?_) fun _ _ z => z.elim
      have I7' := I7.pinned (stat I7 pos_ n7) (T.obj _ _ st7)
      refine seg_bind_wrap ?_
      rw [gx_over, hA]
      refine noE (wpAny_mono (pg.run _ s7 _ H7 x u _ I7' r7 (step x H7 y7)) (fun _ s8 ⟨σ8, H8, I8, hw8, q8⟩ => ?_) fun _ _ z => z)
      refine seg_bind_wrap ?_
      rw [gx_over, hA]
      refine noE (wpAny_mono (pt.run _ s8 σ8 H8 _ I8 q8) (fun b s9 ⟨H9, I9, q9⟩ => ?_) fun _ _ z => z)
      have hl : (wipe σ vs).length = σ8.length := by rw [← hw8, wipe_length]
      have wk : ∀ (j : Nat) v, (wipe σ vs)[j]? = some (some v) → σ8[j]? = some (some v) := fun j v e => by
        rw [← hw8] at e
        exact (wipe_some e).1
      have pin' : ∀ {s' : Shared} {H' : Hp}, Inv Z (pinsAt os s₀.heap ++ pinsAt fp s7.heap) σ8 H' s' → ∀ b ∈ fp, ∀ o, s7.heap.get? b = some o → s'.heap.get? b = some o ∧ H' b = none := fun {s' H'} I' b hb o e =>
        let z := I'.pin (b, o) (List.mem_append_right _ (List.mem_append_right _ (mem_pinsAt hb e)))
        ⟨z.1, z.2.1⟩
      have fpn : ∀ {s' : Shared} {H' : Hp}, Inv Z (pinsAt os s₀.heap ++ pinsAt fp s7.heap) σ8 H' s' → ∀ b ∈ fp, H' b = none := fun {s' H'} I' b hb => by
        obtain ⟨o, e, _⟩ := T.obj _ _ st7 b hb
        exact (pin' I' b hb o e).2
      cases b with
      | false =>
        simp only [Bool.false_eq_true, if_false] at q9 ⊢
        obtain ⟨m', hm, w'⟩ := hNx a H9 q9
        exact seg_again rfl (ih m' hm n (i + 1) a H9 s₀ s9 (by omega) w' hrel ⟨I9.unpinned.weak hl wk, T.keep _ _ _ st7 fun b hb o e => (pin' I9 b hb o e).1, fpn I9, h0⟩)
      | true =>
        simp only [if_true] at q9 ⊢
        have hy : ∀ v, yieldOut Z.env v = yieldValue v := fun v => by simp only [yieldOut, hco, Bool.false_eq_true, if_false]
        simp only [hy]
        rw [Sem.bind_eq_wrap', Sem.bind_eq_wrap', Sem.wrap_wrap, Sem.wrap_wrap]
        refine seg_wrap ?_
        rw [gx_over, hA]
        refine noE (wpAny_mono (pe.run _ s9 σ8 H9 _ I9 q9) (fun z s10 ⟨yv, H10, I10, r10, stp⟩ => ?_) fun _ _ z => z)
        cases n with
        | zero =>
          exact absurd hmn (Nat.not_lt_zero _)
        | succ n =>
          refine seg_at (seg_yield rfl rfl rfl ⟨a, yv, H10, pinsAt fp s7.heap, σ8, fun a' => Nx a' H10, hrel, r10, I10, stp, fun s' a' nx rel' slp => ?_⟩)
          obtain ⟨m', hm, w'⟩ := hNx a' H10 nx
          obtain ⟨I11, _⟩ := inv_woken I10 hpn h0 hO slp
          refine seg_again rfl (ih m' hm n (i + 1) a' H10 s' s' (by omega) w' rel' ⟨I11.weak hl wk, T.keep _ _ _ st7 fun b hb o e => slp.keep b o (fun hbo => ?_) (pin' I10 b hb o e).1, fpn I10, fun b hb => ?_⟩)
          · exact (hO b hbo).2.2.2 (by rw [hex]; exact hb)
          · obtain ⟨o, e, _⟩ := slp.own b hb
            exact ⟨o, e⟩
end
end
section
open GenW
variable {X : Cx} {pins : List (Addr × Obj)} {σ : L2.St} {H : Hp} {s : Shared} {α : Type}
theorem gx_start {Z : Cx} {os fp : List Addr} {c : Cons α} {Rel : α → Shared → Prop} {Q : VK} {elt tg iter : Expr} {ifs : List Expr} {scope : Scope} {pos : Pos} {it : Addr} {tn : Nat → Heap → Prop} {J : It} {g : TG} {tt : TT} {te : TE} {vs : List Nat} {W : Nat → Nat → α → Hp → Prop} {A : Around}
    (hA : A.deeper Z.env = Z.A) (hpn : Z.pn = []) (hex : Z.ex = fp) (hc : Z.calm = true) (hxe : Z.xe = fun _ _ => False) (hco : Z.env.scope.isCoroutine = false) (hO : OsOk Z os) (T : Turn Z.prog Z.w Z.K tg J fp it tn) (pg : PG Z tg g) (pt : PTs Z ifs tt) (pe : PE Z elt te) (run : Runs1 J g tt te vs σ c Q W)
    {m n : Nat} {a : α} {H : Hp} {s₀ s : Shared} (hmn : m < n) (w : W 0 m a H) (hrel : Rel a s₀) (at_ : At Z os fp tn σ vs 0 H s₀ s) :
      Seg (model Z.prog Z.w) A (GEx Z os c Rel Q) (GYx Z os c Rel Q) n s₀ (.compStart (.GeneratorExp elt [⟨tg, iter, ifs, 0⟩] scope pos) 0 (.ref it) .none Z.env) ((model Z.prog Z.w).den (.compStart (.GeneratorExp elt [⟨tg, iter, ifs, 0⟩] scope pos) 0 (.ref it) .none Z.env)) [] s := by
  have loop := gx_loop (iter := iter) (scope := scope) (pos := pos) hA hpn hex hc hxe hco hO T pg pt pe run m n 0 a H s₀ s hmn w hrel at_
  show Seg _ A _ _ _ s₀ _ ((compStart (.GeneratorExp elt [⟨tg, iter, ifs, 0⟩] scope pos) 0 (.ref it) .none Z.env).onRaise (leaving Z.env)) [] s
  unfold compStart
  rw [Sem.onRaise_eq_wrap]
  show Seg _ A _ _ _ s₀ _ ((ask >>= _).wrap _ _ _ _) [] s
  refine seg_bind_wrap (wpAny_askSetting ?_)
  split
  · exact seg_again rfl loop
  · refine seg_bind_wrap (wpAny_rule ?_)
    show Seg _ A _ _ _ s₀ _ ((standAt iter.pos >>= _).wrap _ _ _ _) [] s
    exact seg_bind_wrap (wpAny_standAt (seg_bind_wrap (T.self _ 0 s _ _ at_.tn (seg_again rfl loop))))
/-! the consumers -/
def cAll : Cons Unit := ⟨fun _ y k f => ∃ b, y = .bl b ∧ (if b = true then k () else f (.bl false)), fun _ f => f (.bl true)⟩
def cAny : Cons Unit := ⟨fun _ y k f => ∃ b, y = .bl b ∧ (if b = true then f (.bl true) else k ()), fun _ f => f (.bl false)⟩
def cSum : Cons Int := ⟨fun a y k _ => ∃ j, y = .int j ∧ k (a + j), fun a f => f (.int a)⟩
theorem gen_own {Z : Cx} {os : List Addr} {ip : List (Addr × Obj)} {τ : L2.St} {H : Hp} {s₀ s : Shared} {ga : Addr} {g : Nat} (hm : ga ∈ os) (hg : s₀.heap.IsGen ga g) (I : Inv Z (pinsAt os s₀.heap ++ ip) τ H s) : s.heap.IsGen ga g ∧ ∃ o, s.heap.get? ga = some o ∧ ∀ v, o.data ≠ .cell v := by
  obtain ⟨o, nm, qn, ho, h1, h2, h3⟩ := hg
  obtain ⟨e, _, _, _, hc⟩ := I.pin (ga, o) (List.mem_append_right _ (List.mem_append_left _ (mem_pinsAt hm ho)))
  exact ⟨⟨o, nm, qn, e, h1, h2, h3⟩, o, e, hc⟩
section
variable {Z : Cx} {ga : Addr} {g : Nat} {Q : VK} {A : Around} {Rf : Result → Shared → Prop}
theorem bool_drain {c : Cons Unit} {id : String} (bk bd : Bool)
    (hstep : ∀ y k f, c.step () y k f → ∃ b, y = .bl b ∧ (b = bk → k ()) ∧ (b = (!bk) → f (.bl bd))) (hfin : ∀ f, c.fin () f → f (.bl (!bd)))
    (hh : A.handled = none) (hd : A.depth < recursionLimit) (hR : ∀ b H τ s', Inv Z [] τ H s' → Q (.bl b) H → Rf (.ok (.ret (.bool b))) s')
    (body : ∀ (s : Shared), wpAny (model Z.prog Z.w) A.in1 (pyNext (.ref ga)) (fun r s' => match r with
        | none => Rf (.ok (.ret (.bool (!bd)))) s'
        | some v => ∃ b, v = .bool b ∧ (b = bk → codeAny (model Z.prog Z.w) A (.builtin id ⟨[.ref ga], []⟩) Rf s') ∧ (b = (!bk) → Rf (.ok (.ret (.bool bd))) s')) (fun _ _ => False) s → codeAny (model Z.prog Z.w) A (.builtin id ⟨[.ref ga], []⟩) Rf s) :
    ∀ (n : Nat) (s : Shared), s.heap.IsGen ga g → s.heap.NoLimit → (∃ gs, s.gens[g]? = some gs ∧ gs.Goes (model Z.prog Z.w) A.in1.in1 (GEx Z [ga] c (fun _ _ => True) Q) (GYx Z [ga] c (fun _ _ => True) Q) n (.send .none) (s.setGen g .running)) →
      codeAny (model Z.prog Z.w) A (.builtin id ⟨[.ref ga], []⟩) Rf s := by
  intro n
  induction n with
  | zero =>
    rintro s hg hl ⟨gs, hgs, hgo⟩
    refine body s (next_genG (A := A.in1) (F := fun n s₀ s => ∃ (a : Unit) (H : Hp) (τ : L2.St), True ∧ Inv Z (pinsAt [ga] s₀.heap) τ H s ∧ c.fin a (fun u => Q u H)) (Er := fun _ _ => False) hh hl hd hg hgs hgo (fun v s₁ gs' bare hv => ?_) (fun s₁ hp h' hk => ?_) fun e s₁ he => he.elim)
    · obtain ⟨_, y, H, ip, τ, Nx, _, rv, I, st, kap⟩ := hv
      obtain ⟨b, rfl, h1, h2⟩ := hstep y _ _ st
      have ev : v = .bool b := rv
      refine ⟨b, ev, fun e => ?_, fun e => hR bd H τ _ (inv_regen (s := s₁) (I.pins_of fun p hp => absurd hp (by simp)) rfl rfl (allBare_setGen I.bare bare)) (h2 e)⟩
      exfalso
      obtain ⟨_, o, ho, hc⟩ := gen_own (os := [ga]) (s₀ := s.setGen g .running) List.mem_cons_self hg I
      refine kap s₁ () (h1 e) True.intro ⟨rfl, I.bare, fun b o _ e => e, fun b hb => ?_⟩
      rw [List.mem_singleton.mp hb]
      exact ⟨o, ho, hc⟩
    · obtain ⟨_, H, τ, _, I, hf⟩ := hp
      refine hR (!bd) H τ _ (inv_regen (s := { s₁ with heap := h', toks := s₁.toks }) (L2.Inv.kept (I.pins_of fun p hp => absurd hp (by simp)) hk) rfl rfl (allBare_setGen I.bare rfl)) (hfin _ hf)
  | succ n ih =>
    rintro s hg hl ⟨gs, hgs, hgo⟩
    have hgl : g < s.gens.size := (Array.getElem?_eq_some_iff.mp hgs).1
    refine body s (wpAny_gsz (n := g + 1) hgl (next_genG (A := A.in1) (F := fun n s₀ s => ∃ (a : Unit) (H : Hp) (τ : L2.St), True ∧ Inv Z (pinsAt [ga] s₀.heap) τ H s ∧ c.fin a (fun u => Q u H)) (Er := fun _ _ => False) hh hl hd hg hgs hgo (fun v s₁ gs' bare hv => ?_) (fun s₁ hp h' hk => ?_) fun e s₁ he => he.elim))
    · intro hsz
      obtain ⟨_, y, H, ip, τ, Nx, _, rv, I, st, kap⟩ := hv
      obtain ⟨b, rfl, h1, h2⟩ := hstep y _ _ st
      have ev : v = .bool b := rv
      refine ⟨b, ev, fun e => ?_, fun e => hR bd H τ _ (inv_regen (s := s₁) (I.pins_of fun p hp => absurd hp (by simp)) rfl rfl (allBare_setGen I.bare bare)) (h2 e)⟩
      obtain ⟨hg1, o, ho, hc⟩ := gen_own (os := [ga]) (s₀ := s.setGen g .running) List.mem_cons_self hg I
      have hsz1 : g < s₁.gens.size := by
        have q : (s₁.setGen g gs').gens.size = s₁.gens.size := setGen_size _ _ _
        have hsz' : g + 1 ≤ (s₁.setGen g gs').gens.size := hsz
        omega
      refine ih (s₁.setGen g gs') hg1 I.nolimit ⟨gs', setGen_at hsz1, ?_⟩
      refine kap _ () (h1 e) True.intro ⟨rfl, allBare_setGen (s := s₁.setGen g gs') (allBare_setGen I.bare bare) rfl, fun b o _ e => e, fun b hb => ?_⟩
      rw [List.mem_singleton.mp hb]
      exact ⟨o, ho, hc⟩
    · intro _
      obtain ⟨_, H, τ, _, I, hf⟩ := hp
      refine hR (!bd) H τ _ (inv_regen (s := { s₁ with heap := h', toks := s₁.toks }) (L2.Inv.kept (I.pins_of fun p hp => absurd hp (by simp)) hk) rfl rfl (allBare_setGen I.bare rfl)) (hfin _ hf)
theorem all_body (s : Shared) (h : wpAny (model Z.prog Z.w) A.in1 (pyNext (.ref ga)) (fun r s' => match r with
        | none => Rf (.ok (.ret (.bool true))) s'
        | some v => ∃ b, v = .bool b ∧ (b = true → codeAny (model Z.prog Z.w) A (.builtin "all.loop" ⟨[.ref ga], []⟩) Rf s') ∧ (b = false → Rf (.ok (.ret (.bool false))) s')) (fun _ _ => False) s) : codeAny (model Z.prog Z.w) A (.builtin "all.loop" ⟨[.ref ga], []⟩) Rf s := by
  refine codeAny_builtin F.entry_all_loop ?_
  rw [Around.under_plainId F.plain_all_loop _]
  show wpAny _ A.in1 (pyNext (.ref ga) >>= _) _ _ s
  refine wpAny_bind (wpAny_mono h (fun r s' hr => ?_) fun _ _ z => z.elim)
  cases r with
  | none => exact wpAny_bind (wpAny_rule (wpAny_pure hr))
  | some v =>
    obtain ⟨b, rfl, h1, h2⟩ := hr
    refine wpAny_bind (wpAny_holding (wpAny_truthy_bool ?_))
    refine wpAny_bind (wpAny_letGo ?_)
    cases b with
    | true => exact wpAny_pure ⟨plainId_quiet F.plain_all_loop _, h1 rfl⟩
    | false => exact wpAny_bind (wpAny_rule (wpAny_pure (h2 rfl)))
theorem any_body (s : Shared) (h : wpAny (model Z.prog Z.w) A.in1 (pyNext (.ref ga)) (fun r s' => match r with
        | none => Rf (.ok (.ret (.bool false))) s'
        | some v => ∃ b, v = .bool b ∧ (b = false → codeAny (model Z.prog Z.w) A (.builtin "any.loop" ⟨[.ref ga], []⟩) Rf s') ∧ (b = true → Rf (.ok (.ret (.bool true))) s')) (fun _ _ => False) s) : codeAny (model Z.prog Z.w) A (.builtin "any.loop" ⟨[.ref ga], []⟩) Rf s := by
  refine codeAny_builtin F.entry_any_loop ?_
  rw [Around.under_plainId F.plain_any_loop _]
  show wpAny _ A.in1 (pyNext (.ref ga) >>= _) _ _ s
  refine wpAny_bind (wpAny_mono h (fun r s' hr => ?_) fun _ _ z => z.elim)
  cases r with
  | none => exact wpAny_bind (wpAny_rule (wpAny_pure hr))
  | some v =>
    obtain ⟨b, rfl, h1, h2⟩ := hr
    refine wpAny_bind (wpAny_holding (wpAny_truthy_bool ?_))
    refine wpAny_bind (wpAny_letGo ?_)
    cases b with
    | true => exact wpAny_bind (wpAny_rule (wpAny_pure (h2 rfl)))
    | false => exact wpAny_pure ⟨plainId_quiet F.plain_any_loop _, h1 rfl⟩
/-- the sum's own list -/
abbrev sumO (z : Int) (t : Tok) (c : Nat) : Obj := { cls := .type "list", dict := none, data := .seq #[.int z t] c, slots := #[] }
def SumR (S : Addr) (z : Int) (s : Shared) : Prop := ∃ (t : Tok) (c : Nat), s.heap.get? S = some (sumO z t c)
theorem sum_drain {S : Addr} (hSg : S ≠ ga) (hh : A.handled = none) (hd : A.depth < recursionLimit) (hR : ∀ z t H τ s', Inv Z [] τ H s' → Q (.int z) H → Rf (.ok (.ret (.int z t))) s') :
    ∀ (n : Nat) (s : Shared) (st : Int), (st = 0 ∨ st = 2) → s.heap.IsGen ga g → s.heap.NoLimit → (∃ z, SumR S z s) → (∃ gs, s.gens[g]? = some gs ∧ gs.Goes (model Z.prog Z.w) A.in1.in1 (GEx Z [ga, S] cSum (SumR S) Q) (GYx Z [ga, S] cSum (SumR S) Q) n (.send .none) (s.setGen g .running)) →
      codeAny (model Z.prog Z.w) A (.builtin "sum.loop" ⟨[.ref ga, .ref S, rawInt st, rawInt 0], []⟩) Rf s := by
  -- what is told by one step
  have core : ∀ (n : Nat) (s : Shared) (st : Int), (st = 0 ∨ st = 2) → s.heap.IsGen ga g → s.heap.NoLimit → (∃ z, SumR S z s) →
      (∃ gs, s.gens[g]? = some gs ∧ gs.Goes (model Z.prog Z.w) A.in1.in1 (GEx Z [ga, S] cSum (SumR S) Q) (GYx Z [ga, S] cSum (SumR S) Q) n (.send .none) (s.setGen g .running)) →
      (∀ (m : Nat) (s' : Shared) (st' : Int), m + 1 = n → (st' = 0 ∨ st' = 2) → s'.heap.IsGen ga g → s'.heap.NoLimit → (∃ z, SumR S z s') → (∃ gs, s'.gens[g]? = some gs ∧ gs.Goes (model Z.prog Z.w) A.in1.in1 (GEx Z [ga, S] cSum (SumR S) Q) (GYx Z [ga, S] cSum (SumR S) Q) m (.send .none) (s'.setGen g .running)) →
        codeAny (model Z.prog Z.w) A (.builtin "sum.loop" ⟨[.ref ga, .ref S, rawInt st', rawInt 0], []⟩) Rf s') →
      codeAny (model Z.prog Z.w) A (.builtin "sum.loop" ⟨[.ref ga, .ref S, rawInt st, rawInt 0], []⟩) Rf s := by
    rintro n s st hst2 hg hl ⟨z, tA, cS, hS⟩ ⟨gs, hgs, hgo⟩ ih
    have hgl : g < s.gens.size := (Array.getElem?_eq_some_iff.mp hgs).1
    refine codeAny_builtin F.entry_sum_loop ?_
    rw [Around.under_plainId F.plain_sum_loop _]
    show wpAny _ A.in1 (seqItems? (.ref S) >>= _) _ _ s
    refine wpAny_bind (wpAny_seqItems hS rfl ?_)
    show wpAny _ A.in1 (tryCatch (pyNext (.ref ga)) _ >>= _) _ _ s
    refine wpAny_bind (wpAny_tryCatch (wpAny_gsz (n := g + 1) hgl (next_genG (A := A.in1) (F := fun n s₀ s => ∃ (a : Int) (H : Hp) (τ : L2.St), SumR S a s₀ ∧ Inv Z (pinsAt [ga, S] s₀.heap) τ H s ∧ cSum.fin a (fun u => Q u H)) (Er := fun _ _ => False) hh hl hd hg hgs hgo (fun v s₁ gs' bare hv => ?_) (fun s₁ hp h' hk => ?_) fun e s₁ he => he.elim)))
    · intro hsz
      obtain ⟨a, y, H, ip, τ, Nx, ⟨ta, ca, ea⟩, rv, I, ⟨j, rfl, nx⟩, kap⟩ := hv
      have ea : s.heap.get? S = some (sumO a ta ca) := ea
      rw [hS] at ea
      have eaz : z = a ∧ tA = ta := by
        have := congrArg (fun o : Option Obj => o.map (·.data)) ea
        simp [sumO] at this
        exact this.1
      obtain ⟨rfl, rfl⟩ := eaz
      obtain ⟨t, rfl⟩ : ∃ t, v = .int j t := rv
      obtain ⟨hg1, o, ho, hc⟩ := gen_own (os := [ga, S]) (s₀ := s.setGen g .running) List.mem_cons_self hg I
      have hS' : s₁.heap.get? S = some (sumO z tA cS) := (I.pin (S, sumO z tA cS) (List.mem_append_right _ (List.mem_append_left _ (mem_pinsAt (List.mem_cons_of_mem _ List.mem_cons_self) hS)))).1
      have hsz1 : g < s₁.gens.size := by
        have q : (s₁.setGen g gs').gens.size = s₁.gens.size := setGen_size _ _ _
        have hsz' : g + 1 ≤ (s₁.setGen g gs').gens.size := hsz
        omega
      -- the next turn: the list at S holds the new sum
      have nxt : ∀ (h3 : Heap) (t3 : Tok) (c3 tk : Nat) (st' : Int), (st' = 0 ∨ st' = 2) → (∀ b ob, b ≠ S → s₁.heap.get? b = some ob → h3.get? b = some ob) → h3.get? S = some (sumO (z + j) t3 c3) →
          codeAny (model Z.prog Z.w) A (.builtin "sum.loop" ⟨[.ref ga, .ref S, rawInt st', rawInt 0], []⟩) Rf { s₁.setGen g gs' with heap := h3, toks := tk } := fun h3 t3 c3 tk st' hst' hk3 hS3 => by
        have slp : ∀ s', s'.os = s₁.os → AllBare s'.gens → s'.heap = h3 → Slp [ga, S] s₁ s' := fun s' e1 e2 e3 => by
          refine ⟨e1, e2, fun b ob hb e => ?_, fun b hb => ?_⟩
          · rw [e3]
            exact hk3 b ob (fun z => hb (by rw [z]; exact List.mem_cons_of_mem _ List.mem_cons_self)) e
          · rw [e3]
            rcases List.mem_cons.mp hb with hb | hb
            · rw [hb]
              exact ⟨o, hk3 ga o hSg.symm ho, hc⟩
            · rw [List.mem_singleton.mp hb]
              exact ⟨_, hS3, fun v q => by cases q⟩
        cases n with
        | zero =>
          exfalso
          exact kap { s₁ with heap := h3 } (z + j) nx ⟨t3, c3, hS3⟩ (slp _ rfl I.bare rfl)
        | succ n =>
          have hcs : S ≠ cStatics := fun q => by
            obtain ⟨_, hns, _⟩ := I.nolimit
            obtain ⟨o', es, ep, ho', hd', _⟩ := hns
            rw [← q, hS'] at ho'
            cases ho'
            cases hd'
          refine ih n _ st' rfl hst' ?_ ?_ ⟨z + j, t3, c3, hS3⟩ ⟨gs', setGen_at (s := { s₁ with heap := h3, toks := tk }) hsz1, ?_⟩
          · obtain ⟨o1, nm, qn, e1, r⟩ := hg1
            exact ⟨o1, nm, qn, hk3 _ _ hSg.symm e1, r⟩
          · obtain ⟨mc, hns, hnn⟩ := I.nolimit
            exact ⟨mc, hns.at' fun o e => hk3 _ o hcs.symm e, hnn⟩
          · exact kap _ (z + j) nx ⟨t3, c3, hS3⟩ (slp _ rfl (allBare_setGen (s := { s₁.setGen g gs' with heap := h3, toks := tk }) (allBare_setGen I.bare bare) rfl) rfl)
      have kp1 : ∀ (h : Heap) (f : Obj → Obj), (∀ b ob, b ≠ S → s₁.heap.get? b = some ob → h.get? b = some ob) → ∀ b ob, b ≠ S → s₁.heap.get? b = some ob → (h.update S f).get? b = some ob := fun h f q b ob hb e =>
        (Heap.get?_update_other _ _ (Ne.symm hb)).trans (q b ob hb e)
      rcases hst2 with rfl | rfl
      · show wpAny _ A.in1 (if (_ : Bool) = true then (mkInt (z + j) >>= _) else _) _ _ _
        split
        · refine wpAny_bind (wpAny_mkInt ?_)
          show wpAny _ A.in1 (updateSeq S (fun _ => #[.int (z + j) s₁.toks]) >>= _) _ _ _
          refine wpAny_bind ?_
          refine wpAny_updateSeq (o := sumO z tA cS) hS' rfl (wpAny_pure ⟨plainId_quiet F.plain_sum_loop _, ?_⟩)
          exact nxt _ _ _ _ 0 (.inl rfl) (kp1 _ _ fun b ob _ e => e) (Heap.get?_update_self _ hS' rfl)
        · refine wpAny_bind (wpAny_rule ?_)
          refine wpAny_bind (wpAny_attempt (wpAny_holding (wpAny_add_int ?_)))
          show wpAny _ A.in1 (updateSeq S (fun _ => #[.int (z + j) s₁.toks]) >>= _) _ _ _
          refine wpAny_bind (wpAny_updateSeq (o := sumO z tA cS) hS' rfl ?_)
          have hS2 := Heap.get?_update_self (Obj.mapSeq fun _ => #[Value.int (z + j) s₁.toks]) hS' rfl
          refine wpAny_bind (wpAny_letGo ?_)
          refine wpAny_bind (wpAny_updateSeq hS2 rfl (wpAny_pure ⟨plainId_quiet F.plain_sum_loop _, ?_⟩))
          exact nxt _ _ _ _ 2 (.inr rfl) (kp1 _ _ (kp1 _ _ fun b ob _ e => e)) (Heap.get?_update_self _ hS2 rfl)
      · show wpAny _ A.in1 ((holding [Value.int j t] (binaryOp .Add (.int z tA) (.int j t))).attempt >>= _) _ _ _
        refine wpAny_bind (wpAny_attempt (wpAny_holding (wpAny_add_int ?_)))
        show wpAny _ A.in1 (updateSeq S (fun _ => #[.int (z + j) s₁.toks]) >>= _) _ _ _
        refine wpAny_bind (wpAny_updateSeq (o := sumO z tA cS) hS' rfl ?_)
        have hS2 := Heap.get?_update_self (Obj.mapSeq fun _ => #[Value.int (z + j) s₁.toks]) hS' rfl
        refine wpAny_bind (wpAny_letGo ?_)
        refine wpAny_bind (wpAny_updateSeq hS2 rfl (wpAny_pure ⟨plainId_quiet F.plain_sum_loop _, ?_⟩))
        exact nxt _ _ _ _ 2 (.inr rfl) (kp1 _ _ (kp1 _ _ fun b ob _ e => e)) (Heap.get?_update_self _ hS2 rfl)
    · intro _
      obtain ⟨a, H, τ, ⟨ta, ca, ea⟩, I, hf⟩ := hp
      have ea : s.heap.get? S = some (sumO a ta ca) := ea
      rw [hS] at ea
      have eaz : z = a ∧ tA = ta := by
        have := congrArg (fun o : Option Obj => o.map (·.data)) ea
        simp [sumO] at this
        exact this.1
      obtain ⟨rfl, rfl⟩ := eaz
      exact wpAny_pure (hR z tA H τ _ (inv_regen (s := { s₁ with heap := h', toks := s₁.toks }) (L2.Inv.kept (I.pins_of fun p hp => absurd hp (by simp)) hk) rfl rfl (allBare_setGen I.bare rfl)) hf)
  intro n
  induction n with
  | zero => exact fun s st h1 h2 h3 h4 h5 => core 0 s st h1 h2 h3 h4 h5 fun m _ _ e => by omega
  | succ n ih =>
    refine fun s st h1 h2 h3 h4 h5 => core (n + 1) s st h1 h2 h3 h4 h5 fun m s' st' e a1 a2 a3 a4 a5 => ?_
    have e : m = n := by omega
    subst e
    exact ih s' st' a1 a2 a3 a4 a5
end
end
section
open GenW
variable {X : Cx} {pins : List (Addr × Obj)} {σ : L2.St} {H : Hp} {s : Shared} {α : Type}
/-- a generator expression is walked: what is asked -/
def tGx (P : Addr) (c : Cons α) (a0 : α) (wi : TI) (g : TG) (tt : TT) (te : TE) (vs : List Nat) : TE := fun σ H Q => wi σ H fun J H1 => GxR.TabG H1 P ∧ ∀ H2, GxR.Tabbed P H1 H2 → ∃ W : Nat → Nat → α → Hp → Prop, (∃ m, W 0 m a0 H2) ∧ Runs1 J g tt te vs σ c Q W
/-- the generator at ga stands ready -/
def GxReady (X : Cx) (pins : List (Addr × Obj)) (σ : L2.St) (c : Cons α) (a0 : α) (Q : VK) (ga : Addr) (s5 : Shared) : Prop :=
  ∃ (Z : Cx) (g n : Nat) (c0 : Code), s5.heap.IsGen ga g ∧ s5.gens[g]? = some (.fresh c0) ∧ s5.heap.NoLimit ∧ AllBare s5.gens ∧ Z.prog = X.prog ∧ Z.w = X.w ∧ (∀ τ H s', Inv Z [] τ H s' → Inv X pins σ H s') ∧ OsOk Z [ga] ∧ (∀ S, s5.heap.objs.size ≤ S → OsOk Z [ga, S] ∧ S ≠ ga) ∧
    ∀ (os : List Addr) (Rel : α → Shared → Prop) (s2 : Shared), OsOk Z os → (∀ b ∈ os, b = ga ∨ s5.heap.objs.size ≤ b) → (∀ b o, s5.heap.get? b = some o → s2.heap.get? b = some o) → s2.os = s5.os → AllBare s2.gens → (∀ b ∈ os, ∃ o, s2.heap.get? b = some o ∧ ∀ v, o.data ≠ .cell v) → Rel a0 s2 →
      Seg (model Z.prog Z.w) X.A.in1.in1 (GEx Z os c Rel Q) (GYx Z os c Rel Q) n s2 c0 ((model Z.prog Z.w).den c0) [] s2
theorem gx_make {c P : Addr} {elt tg iter : Expr} {ifs : List Expr} {scope : Scope} {own : List (Str × Nat)} {gpos : Pos} {k : Nat} {wi : TI} {g : TG} {tt : TT} {te : TE} {cs : Cons α} {a0 : α} {Q : VK} {Q' : Value → Shared → Prop}
    (hr : Room k X.A) (hcalm : X.calm = true) (hN : X.N.Nodup) (TB : GxR.TabB X.base X.mg c P) (hcode : X.env.code = .ref c) (ok : GBlk X.N X.env.scope scope own) (hi : PI X tg iter wi) (hs : ∀ v, genFold iter X.env v = pure v)
    (hg : ∀ (s : Shared) (H : Hp) (C : Addr) (code : Value) (fp : List Addr), PG (gcx X s H (genEnv scope (cloFrom X.env.cells scope.names []) C code builtinsNs X.env) fp) tg g)
    (ht : ∀ (s : Shared) (H : Hp) (C : Addr) (code : Value) (fp : List Addr), PTs (gcx X s H (genEnv scope (cloFrom X.env.cells scope.names []) C code builtinsNs X.env) fp) ifs tt)
    (he : ∀ (s : Shared) (H : Hp) (C : Addr) (code : Value) (fp : List Addr), PE (gcx X s H (genEnv scope (cloFrom X.env.cells scope.names []) C code builtinsNs X.env) fp) elt te)
    (I : Inv X pins σ H s) (h : tGx P cs a0 wi g tt te (own.map (·.2)) σ H Q) (fin : ∀ ga s5, GxReady X pins σ cs a0 Q ga s5 → Q' (.ref ga) s5) :
    wpAny (model X.prog X.w) X.A (eval (.GeneratorExp elt [⟨tg, iter, ifs, 0⟩] scope gpos) X.env) Q' X.xe s := by
  have hfree : ∀ y ∈ scope.names, y.2 = .free → ∃ c, X.env.cells.lookup y.1 = some c := fun y hy e =>
    (ok.free y hy e).elim (fun k => I.ok.has _ (.inl k)) fun k => I.ok.has _ (.inr k)
  refine wpAny_GeneratorExp_make ok.co (closure_ok hfree) ok.nocell ok.dot ok.kind hr.depth ?_ hs
  refine thn (hi.run pins s σ H _ I h) fun xv t1 hx => thn hx fun itv t2 h2 => ?_
  obtain ⟨it, fp, tn, J, H1, rfl, I1, T, st1, f1, tab, q⟩ := h2
  obtain ⟨ps, hP, tr⟩ := id tab
  have gP : t2.heap.get? P = some { cls := .none, data := .fields ps } := I1.hok P _ hP
  have cd : PySem.W.CodeHd t2.heap c P := TB.code.keeps fun b u e => I1.bk b u e
  refine ⟨I1.nolimit, ?_⟩
  have fpP : ∀ b ∈ fp, b ≠ P := fun b hb z => by
    have := (f1 b hb).1
    rw [z, hP] at this
    cases this
  have rest : ∀ (code : Value) (h3 : Heap) (tk : Nat) (qs : Array Value), Heap.ExtBut P t2.heap h3 → t2.heap.objs.size ≤ h3.objs.size → h3.get? P = some { cls := .none, data := .fields qs } → (∃ more, qs = ps ++ more) → TriplesOk qs.toList →
      wpAny (model X.prog X.w) X.A (builtinsFor X.env.globals X.env.builtins) (fun bi s₄ => ∀ h', h'.Ns s₄.heap.objs.size (fun y => if y = ".0" then some (.ref it) else none) → Heap.SameBut s₄.heap.objs.size (s₄.heap.push { cls := .type "frame", data := .dict #[] }) h' →
          Q' (.ref h'.objs.size) { s₄ with gens := s₄.gens.push (.fresh (.compStart (.GeneratorExp elt [⟨tg, iter, ifs, 0⟩] scope gpos) 0 (.ref it) .none (genEnv scope (cloFrom X.env.cells scope.names []) s₄.heap.objs.size code bi X.env))), toks := s₄.toks + 1 + 1 + 1, heap := h'.push { cls := .type "generator", data := .fields #[.int s₄.gens.size 0, .str "<genexpr>" (s₄.toks + 1), .str (X.env.qual ++ "<genexpr>") (s₄.toks + 1 + 1)] } }) X.xe { t2 with heap := h3, toks := tk } := by
    intro code h3 tk qs hx hsz gP3 ⟨more, em⟩ tr3
    obtain ⟨bm, ob, b1, b2, b3, b4, b5, b6, b7, b8⟩ := TB.bm
    have kp3 : ∀ b u, b ≠ P → t2.heap.get? b = some u → h3.get? b = some u := fun b u hb e => hx b u hb e
    refine wpAny_builtinsFor (m := X.mg) (by rw [I1.ok.glob]; exact (I1.mod.glob.keeps I1.bk).extBut hx TB.gP) b1 b2 (kp3 _ _ b4 (I1.bk _ _ b5)) b6 b7 b8 ?_
    subst em
    have I3 : Inv X pins σ (upd H1 P (.tbl (ps ++ more))) { t2 with heap := h3, gens := t2.gens, drawn := t2.drawn, toks := tk } := GxR.inv_tab I1 hP kp3 gP3 I1.bare
    obtain ⟨W, ⟨m0, w0⟩, run⟩ := q (upd H1 P (.tbl (ps ++ more))) ⟨⟨_, upd_same, tr3⟩, fun b hb => upd_ne hb⟩
    have lt1 : ∀ b ∈ fp, b < t2.heap.objs.size := fun b hb => by
      obtain ⟨o, e, _⟩ := T.obj _ _ st1 b hb
      exact Heap.lt_size e
    have st3 : tn 0 h3 := T.keep _ _ _ st1 fun b hb o e => kp3 b o (fpP b hb) e
    have f3 : ∀ b ∈ fp, FpOk X pins (upd H1 P (.tbl (ps ++ more))) b ∧ b < h3.objs.size := fun b hb => by
      refine ⟨⟨?_, (f1 b hb).2⟩, Nat.lt_of_lt_of_le (lt1 b hb) hsz⟩
      rw [upd_ne (fpP b hb)]
      exact (f1 b hb).1
    intro h' hn' sb'
    have sz' : h'.objs.size = h3.objs.size + 1 := by
      rw [sb'.1, Heap.size_push]
    have kp' : ∀ b o, h3.get? b = some o → h'.get? b = some o := fun b o e => sb'.extBut b o (Nat.ne_of_lt (Heap.lt_size e)) (Heap.get?_push_of_some _ e)
    generalize hgo : ({ cls := .type "generator", data := .fields #[.int t2.gens.size 0, .str "<genexpr>" (tk + 1), .str (X.env.qual ++ "<genexpr>") (tk + 1 + 1)] } : Obj) = go
    have kp5 : ∀ b o, h3.get? b = some o → (h'.push go).get? b = some o := fun b o e => Heap.get?_push_of_some _ (kp' b o e)
    generalize hH3 : upd H1 P (.tbl (ps ++ more)) = H3 at I3 w0 f3
    have at5 : (h'.push go).get? h'.objs.size = some go := by
      rw [← hgo]
      exact Heap.get?_push_size _ rfl
    have bare5 : AllBare (t2.gens.push (.fresh (.compStart (.GeneratorExp elt [⟨tg, iter, ifs, 0⟩] scope gpos) 0 (.ref it) .none (genEnv scope (cloFrom X.env.cells scope.names []) h3.objs.size code builtinsNs X.env)))) := AllBare.push I1.bare rfl
    have pg := hg { t2 with heap := h3, gens := t2.gens, drawn := t2.drawn, toks := tk } H3 h3.objs.size code fp
    have pt := ht { t2 with heap := h3, gens := t2.gens, drawn := t2.drawn, toks := tk } H3 h3.objs.size code fp
    have pe := he { t2 with heap := h3, gens := t2.gens, drawn := t2.drawn, toks := tk } H3 h3.objs.size code fp
    have start : ∀ (h2 : Heap) (g2 : Array GenState) (tk2 : Nat), h2.Ns h3.objs.size (fun y => if y = ".0" then some (.ref it) else none) → (∀ b o, h3.get? b = some o → h2.get? b = some o) → AllBare g2 → _ := fun h2 g2 tk2 a1 a2 a3 =>
      gblk_start (s := { t2 with heap := h3, gens := t2.gens, drawn := t2.drawn, toks := tk }) (code := code) (h' := h2) (g' := g2) (tk := tk2) I3 ok hN f3 a1 a2 a3
    have hco' : (genEnv scope (cloFrom X.env.cells scope.names []) h3.objs.size code builtinsNs X.env).scope.isCoroutine = false := ok.co
    have hL : (genEnv scope (cloFrom X.env.cells scope.names []) h3.objs.size code builtinsNs X.env).locals = h3.objs.size := rfl
    have oso : ∀ b, h3.objs.size < b → h3.objs.size ≤ b ∧ b ≠ h3.objs.size ∧ (∀ x c, (cloFrom X.env.cells scope.names []).lookup x = some c → c ≠ b) ∧ b ∉ fp := fun b hb => by
      refine ⟨Nat.le_of_lt hb, Nat.ne_of_gt hb, fun x c e z => ?_, fun hm => ?_⟩
      · rcases cloFrom_mem (PySem.mem_of_lookup e) with hm | ⟨h1, h2⟩
        · cases hm
        · obtain ⟨c', hc'⟩ := hfree _ h1 rfl
          rw [hc'] at h2
          have h2 : c = c' := h2
          obtain ⟨w, zz⟩ := I3.cell _ _ hc'
          have := zz.lt
          have : c' < h3.objs.size := this
          rw [← h2, z] at this
          exact absurd (Nat.lt_trans this hb) (Nat.lt_irrefl _)
      · exact absurd (Nat.lt_trans (f3 b hm).2 hb) (Nat.lt_irrefl _)
    refine fin h'.objs.size _ ⟨gcx X { t2 with heap := h3, gens := t2.gens, drawn := t2.drawn, toks := tk } H3 (genEnv scope (cloFrom X.env.cells scope.names []) h3.objs.size code builtinsNs X.env) fp, t2.gens.size, m0 + 1, _, ⟨go, _, _, at5, by rw [← hgo], by rw [← hgo], by rw [← hgo]⟩, Array.getElem?_push_size .., I3.nolimit.keeps kp5, bare5, rfl, rfl, fun τ H' s' I' => ?_, fun b hb => ?_, fun S hS => ⟨fun b hb => ?_, ?_⟩, ?_⟩
    · exact I3.call' (ch := fp) I'.os I'.base I'.hok I'.bare fun b hb => ⟨(f3 b hb).1.2.2.2.1, (f3 b hb).1.2.1, (f3 b hb).1.2.2.2.2.1, (f3 b hb).1.2.2.2.2.2⟩
    · rw [List.mem_singleton.mp hb]
      exact oso _ (by rw [sz']; exact Nat.lt_succ_self _)
    · have hS : (h'.push go).objs.size ≤ S := hS
      rw [Heap.size_push] at hS
      rcases List.mem_cons.mp hb with e | e
      · rw [e]
        exact oso _ (by rw [sz']; exact Nat.lt_succ_self _)
      · rw [List.mem_singleton.mp e]
        exact oso _ (by omega)
    · have hS : (h'.push go).objs.size ≤ S := hS
      rw [Heap.size_push] at hS
      exact Nat.ne_of_gt hS
    · intro os Rel s2 hO hos hk2 ho2 hb2 hex2 rel
      have hk3 : ∀ b o, h3.get? b = some o → s2.heap.get? b = some o := fun b o e => hk2 b o (kp5 b o e)
      have hn2 : s2.heap.Ns h3.objs.size (fun y => if y = ".0" then some (.ref it) else none) := Heap.Ns.keeps hn' fun b o e => hk2 b o (Heap.get?_push_of_some _ e)
      have J0 := start s2.heap s2.gens s2.toks hn2 hk3 hb2
      have J2 := inv_regen (s' := s2) J0 (ho2.trans rfl) rfl hb2
      have hos3 : ∀ b ∈ os, h3.objs.size < b := fun b hb => by
        rcases hos b hb with e | e
        · rw [e, sz']
          exact Nat.lt_succ_self _
        · have e : (h'.push go).objs.size ≤ b := e
          rw [Heap.size_push] at e
          omega
      have J3 := J2.pins_of (pins' := pinsAt os s2.heap) fun p hp => by
        obtain ⟨hb, e⟩ := of_pinsAt hp
        obtain ⟨o, e', hc⟩ := hex2 p.1 hb
        rw [e] at e'
        cases e'
        refine ⟨e, I3.hok.fresh (Nat.le_of_lt (hos3 p.1 hb)), (hO p.1 hb).2.1, fun hm => ?_, hc⟩
        have hm : p.1 ∈ frs X.stack := hm
        have := (I3.stack.mem hm).2
        obtain ⟨o2, e2, _⟩ := this
        exact absurd (Nat.lt_trans (Heap.lt_size e2) (hos3 p.1 hb)) (Nat.lt_irrefl _)
      exact gx_start (Z := gcx X { t2 with heap := h3, gens := t2.gens, drawn := t2.drawn, toks := tk } H3 (genEnv scope (cloFrom X.env.cells scope.names []) h3.objs.size code builtinsNs X.env) fp) (A := X.A.in1.in1) rfl rfl rfl hcalm rfl hco' hO T pg pt pe run (Nat.lt_succ_self m0) w0 rel ⟨J3, T.keep _ _ _ st3 fun b hb o e => hk3 b o e, fun b hb => (f3 b hb).1.1, fun b hb => by
        obtain ⟨o, e, _⟩ := hex2 b hb
        exact ⟨o, e⟩⟩
  cases hf : codeAmong gpos ps.toList with
  | none =>
    refine wpAny_genexprCodeX hcode (cd.code gP tr) (cd.tab gP) hf fun c' h' tk hx hge hlt hco _ htab _ => ?_
    obtain ⟨_, _, _, _, _, _, _, _, _, _, _, _, _, _, _, _, _, _, _, htr, _⟩ := hco
    exact rest _ h' tk _ hx (Nat.le_trans hge (Nat.le_of_lt hlt)) htab.2 ⟨_, rfl⟩ htr
  | some cv =>
    refine wpAny_genexprCode_hit hcode (cd.code gP tr) hf ?_
    exact rest cv t2.heap t2.toks ps (Heap.ExtBut.refl _ _) (Nat.le_refl _) gP ⟨#[], by simp⟩ tr
theorem room_u {k : Nat} {A : Around} (r : Room k A) : A.units + 1 < cLine := by
  have := r.units
  omega
theorem room_gx {k : Nat} {A : Around} (r : Room (k + 3) A) (env : Env) : Room k (A.in1.in1.deeper env) := Room.deeper (Room.in1 (Room.in1 r)) env
section
variable {c P : Addr} {elt tg iter : Expr} {ifs : List Expr} {scope : Scope} {own : List (Str × Nat)} {gpos p pos : Pos} {k : Nat} {wi : TI} {g : TG} {tt : TT} {te : TE}
theorem pe_gxAll (hr : Room k X.A) (hcalm : X.calm = true) (hN : X.N.Nodup) (hgl : Gl X "all") (hm : X.mg "all" = none) (hba : bootBuiltins "all" = some (.builtin "all")) (TB : GxR.TabB X.base X.mg c P) (hcode : X.env.code = .ref c) (ok : GBlk X.N X.env.scope scope own) (hi : PI X tg iter wi)
    (hg : ∀ (s : Shared) (H : Hp) (C : Addr) (code : Value) (fp : List Addr), PG (gcx X s H (genEnv scope (cloFrom X.env.cells scope.names []) C code builtinsNs X.env) fp) tg g)
    (ht : ∀ (s : Shared) (H : Hp) (C : Addr) (code : Value) (fp : List Addr), PTs (gcx X s H (genEnv scope (cloFrom X.env.cells scope.names []) C code builtinsNs X.env) fp) ifs tt)
    (he : ∀ (s : Shared) (H : Hp) (C : Addr) (code : Value) (fp : List Addr), PE (gcx X s H (genEnv scope (cloFrom X.env.cells scope.names []) C code builtinsNs X.env) fp) elt te) (hs : ∀ v, genFold iter X.env v = pure v)
    (hst : starEach [.GeneratorExp elt [⟨tg, iter, ifs, 0⟩] scope gpos] X.env = (false, eval (.GeneratorExp elt [⟨tg, iter, ifs, 0⟩] scope gpos) X.env) :: starEach [] X.env := by rfl) :
    PE X (.Call (.Name "all" p) [.GeneratorExp elt [⟨tg, iter, ifs, 0⟩] scope gpos] [] pos) (tGx P cAll () wi g tt te (own.map (·.2))) := by
  constructor
  intro pins s σ H Q I hh
  refine wpAny_Call_Name_kw (ld_blt I hgl hm hba ?_)
  refine PyProof.Rows.callWith_builtin1 ?_ hst (by rfl)
  rw [hst]
  show wpAny _ _ (spliced ((false, eval (.GeneratorExp elt [⟨tg, iter, ifs, 0⟩] scope gpos) X.env) :: backTo pos (starEach [] X.env))) _ _ s
  refine Calls.spliced_cons (gx_make hr hcalm hN TB hcode ok hi hs hg ht he I hh fun ga s5 R => Calls.spliced_nil ?_)
  obtain ⟨Z, gi, n, c0, hgen, hgs, hl, hb, eP, eW, back, hO, _, seg⟩ := R
  rw [← eP, ← eW] at *
  refine call_function_tree F.kind_all F.plain_all F.entry_all (F.args_all1 _) ?_
  unfold Builtin.«all»
  refine wpAny_bind (m := oneArg "all" _) (wpAny_pure ?_)
  refine wpAny_bind (wpAny_pyIter_gen hgen ?_)
  refine wpAny_pure ⟨plainId_quiet F.plain_all_loop _, bool_drain (Z := Z) (g := gi) (Q := Q) (c := cAll) true false (fun y k f h => ?_) (fun f h => h) hr.hd hr.depth (fun b H' τ s' I' q => ?_) all_body n s5 hgen hl ⟨_, hgs, rfl, seg [ga] _ _ hO (fun b hb => .inl (List.mem_singleton.mp hb)) (fun b o e => e) rfl (allBare_setGen hb rfl) (fun b hb => ?_) True.intro⟩⟩
  · obtain ⟨b, rfl, h⟩ := h
    exact ⟨b, rfl, fun e => by rw [if_pos (show b = true from e)] at h; exact h, fun e => by rw [if_neg (by rw [e]; decide)] at h; exact h⟩
  · exact ⟨.bl b, H', back τ H' s' I', rfl, q⟩
  · rw [List.mem_singleton.mp hb]
    obtain ⟨o, nm, qn, ho, h1, h2, h3⟩ := hgen
    exact ⟨o, ho, fun v q => by rw [h2] at q; cases q⟩
theorem pe_gxAny (hr : Room k X.A) (hcalm : X.calm = true) (hN : X.N.Nodup) (hgl : Gl X "any") (hm : X.mg "any" = none) (hba : bootBuiltins "any" = some (.builtin "any")) (TB : GxR.TabB X.base X.mg c P) (hcode : X.env.code = .ref c) (ok : GBlk X.N X.env.scope scope own) (hi : PI X tg iter wi)
    (hg : ∀ (s : Shared) (H : Hp) (C : Addr) (code : Value) (fp : List Addr), PG (gcx X s H (genEnv scope (cloFrom X.env.cells scope.names []) C code builtinsNs X.env) fp) tg g)
    (ht : ∀ (s : Shared) (H : Hp) (C : Addr) (code : Value) (fp : List Addr), PTs (gcx X s H (genEnv scope (cloFrom X.env.cells scope.names []) C code builtinsNs X.env) fp) ifs tt)
    (he : ∀ (s : Shared) (H : Hp) (C : Addr) (code : Value) (fp : List Addr), PE (gcx X s H (genEnv scope (cloFrom X.env.cells scope.names []) C code builtinsNs X.env) fp) elt te) (hs : ∀ v, genFold iter X.env v = pure v)
    (hst : starEach [.GeneratorExp elt [⟨tg, iter, ifs, 0⟩] scope gpos] X.env = (false, eval (.GeneratorExp elt [⟨tg, iter, ifs, 0⟩] scope gpos) X.env) :: starEach [] X.env := by rfl) :
    PE X (.Call (.Name "any" p) [.GeneratorExp elt [⟨tg, iter, ifs, 0⟩] scope gpos] [] pos) (tGx P cAny () wi g tt te (own.map (·.2))) := by
  constructor
  intro pins s σ H Q I hh
  refine wpAny_Call_Name_kw (ld_blt I hgl hm hba ?_)
  refine PyProof.Rows.callWith_builtin1 ?_ hst (by rfl)
  rw [hst]
  show wpAny _ _ (spliced ((false, eval (.GeneratorExp elt [⟨tg, iter, ifs, 0⟩] scope gpos) X.env) :: backTo pos (starEach [] X.env))) _ _ s
  refine Calls.spliced_cons (gx_make hr hcalm hN TB hcode ok hi hs hg ht he I hh fun ga s5 R => Calls.spliced_nil ?_)
  obtain ⟨Z, gi, n, c0, hgen, hgs, hl, hb, eP, eW, back, hO, _, seg⟩ := R
  rw [← eP, ← eW] at *
  refine call_function_tree F.kind_any F.plain_any F.entry_any (F.args_any1 _) ?_
  unfold Builtin.«any»
  refine wpAny_bind (m := oneArg "any" _) (wpAny_pure ?_)
  refine wpAny_bind (wpAny_pyIter_gen hgen ?_)
  refine wpAny_pure ⟨plainId_quiet F.plain_any_loop _, bool_drain (Z := Z) (g := gi) (Q := Q) (c := cAny) false true (fun y k f h => ?_) (fun f h => h) hr.hd hr.depth (fun b H' τ s' I' q => ?_) any_body n s5 hgen hl ⟨_, hgs, rfl, seg [ga] _ _ hO (fun b hb => .inl (List.mem_singleton.mp hb)) (fun b o e => e) rfl (allBare_setGen hb rfl) (fun b hb => ?_) True.intro⟩⟩
  · obtain ⟨b, rfl, h⟩ := h
    exact ⟨b, rfl, fun e => by rw [if_neg (by rw [e]; decide)] at h; exact h, fun e => by rw [if_pos (show b = true from e)] at h; exact h⟩
  · exact ⟨.bl b, H', back τ H' s' I', rfl, q⟩
  · rw [List.mem_singleton.mp hb]
    obtain ⟨o, nm, qn, ho, h1, h2, h3⟩ := hgen
    exact ⟨o, ho, fun v q => by rw [h2] at q; cases q⟩
theorem pe_gxSum (hr : Room k X.A) (hcalm : X.calm = true) (hN : X.N.Nodup) (hgl : Gl X "sum") (hm : X.mg "sum" = none) (TB : GxR.TabB X.base X.mg c P) (hcode : X.env.code = .ref c) (ok : GBlk X.N X.env.scope scope own) (hi : PI X tg iter wi)
    (hg : ∀ (s : Shared) (H : Hp) (C : Addr) (code : Value) (fp : List Addr), PG (gcx X s H (genEnv scope (cloFrom X.env.cells scope.names []) C code builtinsNs X.env) fp) tg g)
    (ht : ∀ (s : Shared) (H : Hp) (C : Addr) (code : Value) (fp : List Addr), PTs (gcx X s H (genEnv scope (cloFrom X.env.cells scope.names []) C code builtinsNs X.env) fp) ifs tt)
    (he : ∀ (s : Shared) (H : Hp) (C : Addr) (code : Value) (fp : List Addr), PE (gcx X s H (genEnv scope (cloFrom X.env.cells scope.names []) C code builtinsNs X.env) fp) elt te) (hs : ∀ v, genFold iter X.env v = pure v)
    (hst : starEach [.GeneratorExp elt [⟨tg, iter, ifs, 0⟩] scope gpos] X.env = (false, eval (.GeneratorExp elt [⟨tg, iter, ifs, 0⟩] scope gpos) X.env) :: starEach [] X.env := by rfl) :
    PE X (.Call (.Name "sum" p) [.GeneratorExp elt [⟨tg, iter, ifs, 0⟩] scope gpos] [] pos) (tGx P cSum 0 wi g tt te (own.map (·.2))) := by
  constructor
  intro pins s σ H Q I hh
  refine wpAny_Call_Name_kw (ld_blt I hgl hm boot_sum ?_)
  refine PyProof.Rows.callWith_builtin1 ?_ hst (by rfl)
  rw [hst]
  show wpAny _ _ (spliced ((false, eval (.GeneratorExp elt [⟨tg, iter, ifs, 0⟩] scope gpos) X.env) :: backTo pos (starEach [] X.env))) _ _ s
  refine Calls.spliced_cons (gx_make hr hcalm hN TB hcode ok hi hs hg ht he I hh fun ga s5 R => Calls.spliced_nil ?_)
  obtain ⟨Z, gi, n, c0, hgen, hgs, hl, hb, eP, eW, back, _, hOS, seg⟩ := R
  rw [← eP, ← eW] at *
  refine call_function_tree F.kind_sum F.plain_sum F.entry_sum (F.args_sum1 _) ?_
  unfold Builtin.«sum»
  simp only [List.length_cons, List.length_nil]
  rw [if_neg (by decide)]
  refine wpAny_bind (wpAny_of_eq (show Builtin.Builtins.bindParams "sum" ["start"] 0 { } = pure [none] from rfl) ?_)
  refine wpAny_bind (wpAny_pyIter_gen hgen ?_)
  refine wpAny_bind (wpAny_mkInt ?_)
  refine wpAny_bind (wpAny_pure ?_)
  simp only [List.forIn_cons, List.forIn_nil]
  refine wpAny_bind (wpAny_bind (wpAny_bind (wpAny_isInstance (T := "int") (b := false) (typeIs_int _ _ _) PySem.sub_int_str ?_)))
  simp only [Bool.false_eq_true, if_false]
  refine wpAny_pure (wpAny_bind (wpAny_bind (wpAny_isInstance (T := "int") (b := false) (typeIs_int _ _ _) PySem.sub_int_bytes ?_)))
  simp only [Bool.false_eq_true, if_false]
  refine wpAny_pure (wpAny_bind (wpAny_bind (wpAny_isInstance (T := "int") (b := false) (typeIs_int _ _ _) PySem.sub_int_bytearray ?_)))
  simp only [Bool.false_eq_true, if_false]
  refine wpAny_pure (wpAny_pure ?_)
  refine wpAny_bind (wpAny_newObj_type ?_)
  obtain ⟨hO, hSg⟩ := hOS s5.heap.objs.size (Nat.le_refl _)
  have kp : ∀ b o, s5.heap.get? b = some o → (s5.heap.push { cls := .type "list", data := .seq #[.int 0 s5.toks] }).get? b = some o := fun b o e => Heap.get?_push_of_some _ e
  have hS : (s5.heap.push { cls := .type "list", data := .seq #[.int 0 s5.toks] }).get? s5.heap.objs.size = some (sumO 0 s5.toks 0) := Heap.get?_push_size _ rfl
  refine wpAny_pure ⟨plainId_quiet F.plain_sum_loop _, sum_drain (Z := Z) (g := gi) (Q := Q) hSg hr.hd hr.depth (fun z t H' τ s' I' q => ?_) n _ 0 (.inl rfl) (hgen.keeps kp) (hl.keeps kp) ⟨0, _, _, hS⟩ ⟨_, hgs, rfl, seg [ga, s5.heap.objs.size] _ _ hO (fun b hb => ?_) kp rfl (allBare_setGen (s := { s5 with heap := _, toks := _ }) hb rfl) (fun b hb => ?_) ⟨_, _, hS⟩⟩⟩
  · exact ⟨.int z, H', back τ H' s' I', ⟨t, rfl⟩, q⟩
  · rcases List.mem_cons.mp hb with e | e
    · exact .inl e
    · exact .inr (by rw [List.mem_singleton.mp e]; exact Nat.le_refl _)
  · rcases List.mem_cons.mp hb with e | e
    · rw [e]
      obtain ⟨o, nm, qn, ho, h1, h2, h3⟩ := hgen
      exact ⟨o, kp _ _ ho, fun v q => by rw [h2] at q; cases q⟩
    · rw [List.mem_singleton.mp e]
      exact ⟨_, hS, fun v q => by cases q⟩
end
end
/-! ### defs that hold generator expressions: their code objects and tables -/
structure FunC (K : PySem.W.Frag) (x qual : Str) (st : Stmt) (f : Addr) (fd : FuncData) (c : Addr) : Prop where
  ex : ∃ (oc : Value) (od : Option Addr) (kV doc pm : Value) (an : Option Addr) (ct : Value) (osl : Array (Option Value)),
    fd = PySem.W.fnOf x qual (defArgs st) (defBody st) (defScope st) .none kV doc pm an (.ref c) ct ∧ K.lookup f = some ⟨oc, od, .func fd, osl⟩ ∧ PySem.W.codeIn K (.ref c) qual = true
section
variable {P : Program} {w : World} {K : PySem.W.Frag} {mg : Str → Option Value} {base : Heap}
theorem FunC.ok {x qual : Str} {st : Stmt} {f c : Addr} {fd : FuncData} {N ps : List Str} {k : Nat} {sp : Sp} (F : FunC K x qual st f fd c) (S : FnScope N ps (defScope st)) (len : ∀ vs H Q E, sp vs H Q E → vs.length = ps.length)
    (hbody : ∀ (A : Around) (outer : List Env) (s : Shared) (H : Hp) (vs : List V) (Q : VK) (E : XK), Room k (A.deeper (envOfC qual (defScope st) s.heap.objs.size f (.ref c))) → sp vs H Q E →
      ∃ t, PSs (cxOf CX0 P w K mg base N qual (defScope st) f (.ref c) A outer s H E).nox (defBody st) t ∧ t { nx := fun _ H' => Q .non H', rt := Q } (start N vs) H) : FnOk P w K mg base CX0 (k + 1) f fd ps sp := by
  obtain ⟨oc, od, kV, doc, pm, an, ct, osl, rfl, lk, hcd⟩ := F.ex
  refine fn_of lk hcd S len fun A outer s H vs Q E hr hsp => ?_
  obtain ⟨t, h, q⟩ := hbody A outer s H vs Q E hr hsp
  exact ⟨t, h.nox, q⟩
theorem FunC.okX {x qual : Str} {st : Stmt} {f c : Addr} {fd : FuncData} {N ps : List Str} {k : Nat} {sp : Sp} (F : FunC K x qual st f fd c) (S : FnScope N ps (defScope st)) (len : ∀ vs H Q E, sp vs H Q E → vs.length = ps.length)
    (hbody : ∀ (A : Around) (outer : List Env) (s : Shared) (H : Hp) (vs : List V) (Q : VK) (E : XK), Room k (A.deeper (envOfC qual (defScope st) s.heap.objs.size f (.ref c))) → sp vs H Q E →
      ∃ t, PSs (cxOf (L2.CX P w) P w K mg base N qual (defScope st) f (.ref c) A outer s H E) (defBody st) t ∧ t { nx := fun _ H' => Q .non H', rt := Q } (start N vs) H) : FnOk P w K mg base (L2.CX P w) (k + 1) f fd ps sp := by
  obtain ⟨oc, od, kV, doc, pm, an, ct, osl, rfl, lk, hcd⟩ := F.ex
  exact fn_of lk hcd S len fun A outer s H vs Q E hr hsp => hbody A outer s H vs Q E hr hsp
end
/-- the head's word about a def's code object and its table -/
def TabRec (h : Heap) (mg : Str → Option Value) (nm : Str) : Prop := ∃ (a : Addr) (o : Obj) (fd : FuncData) (c P : Addr), mg nm = some (.ref a) ∧ h.get? a = some o ∧ o.data = .func fd ∧ fd.code = .ref c ∧ h.IsCode c P #[] ∧ h.TableAt c P #[]
theorem walk_tabs {l : PySem.W.OpenLaw} {n k : Nat} {q : Program} {loose : List Str} {XP : (Str → Option Value) → Heap → Prop} {YP : World → Heap → Prop} {d : DefRec} {K : Params → PySem.W.Frag} {CX : World → CXT} {x : Str} (nms : List Str)
    (hn : l.most = some n) (hn2 : n ≤ sizeLine) (hdf : d.params.defaults = []) (hr : Room k callerA) (hrec : (nms.all fun nm => (recsOf q).any fun e => e.name == nm) = true) (hY : ∀ (w : World) (h : Heap), YP w h → (K w.params).In h)
    (F : ∀ (w : World) (mg : Str → Option Value) (fa : Addr) (h : Heap), (K w.params).In h → h.Ns mainGlobals mg → mg d.name = some (.ref fa) → (∀ nm ∈ nms, TabRec h mg nm) → LamX.LawAtS l w (K w.params) (CX w) k n x mg fa h)
    (hCX : ∀ (w : World) (H : Hp) (s : Shared) (e : Value) (s' : Shared), CX w [] H s (fun _ _ _ => False) e s' → False) :
    PySem.W.WalkO q loose XP YP l.row.toRowW d [] (fun f vs => PySem.call f vs) := by
  refine Att.attach_callB hn hdf fun w s0 s1 mg mb fa o pm cd doc a vs ns G Y ho hd hcd hmg hobj hints hlen hbits hg => ?_
  have KX := hY w _ Y
  have tabs : ∀ nm ∈ nms, TabRec s1.heap mg nm := fun nm hm => by
    obtain ⟨dL, h1, h2⟩ := List.any_eq_true.mp (List.all_eq_true.mp hrec nm hm)
    obtain ⟨a', o', fd', c', P', k1, k2, k3, k4, k5, k6⟩ := G.T.tab dL h1
    rw [beq_iff_eq.mp h2] at k1
    exact ⟨a', o', fd', c', P', k1, k2, k3, k4, k5, k6⟩
  obtain ⟨fd, cs, sp, hT, nT, C, hb, hsp, hF⟩ := F w mg fa _ KX G.T.g hmg tabs
  exact LamX.law_callTs KX G.T.g G.T.b G.T.builtins G.T.nolimit hg hT nT C G.T.bmain hobj hints (Nat.le_trans hlen hn2) hr hF hb (fun H hH hS => hsp H a ns hlen hbits hH hS) fun H e s' => hCX w H s1 e s'
/-- the table of the def at f, as the written part names it -/
theorem tab_of {K : PySem.W.Frag} {h : Heap} {mg : Str → Option Value} {nm : Str} {f c P : Addr} {fd : FuncData} {oc : Value} {od : Option Addr} {osl : Array (Option Value)} {ec : Value} {dc : Option Addr} {vc : Array Value} {sl : Array (Option Value)} (X : K.In h) (R : TabRec h mg nm)
    (g : mg nm = some (.ref f)) (lf : K.lookup f = some ⟨oc, od, .func fd, osl⟩) (hc : fd.code = .ref c) (lc : K.lookup c = some ⟨ec, dc, .fields vc, sl⟩) (h11 : vc[11]? = some (.ref P)) :
    h.get? P = some { cls := .none, data := .fields #[] } ∧ PySem.W.CodeHd h c P := by
  obtain ⟨a, o, fd', c', P', k1, k2, k3, k4, k5, k6⟩ := R
  rw [g] at k1
  cases k1
  rw [X _ _ lf] at k2
  cases k2
  cases k3
  rw [hc] at k4
  cases k4
  have hd := PySem.W.CodeHd.of k5 k6
  obtain ⟨⟨o2, v2, e1, _, e3, e4⟩, hP⟩ := k6
  rw [X _ _ lc] at e1
  cases e1
  cases e3
  rw [h11] at e4
  cases e4
  exact ⟨hP, hd⟩
/-- the tables stand -/
def Tb (Ps : List Addr) (H : Hp) : Prop := ∀ P ∈ Ps, GxR.TabG H P
theorem Tb.same {Ps : List Addr} {H H' : Hp} (t : Tb Ps H) (e : Same H H') : Tb Ps H' := fun P hP => by
  obtain ⟨ps, h1, h2⟩ := t P hP
  exact ⟨ps, e _ _ h1, h2⟩
theorem Tb.chg {Ps L : List Addr} {H H' : Hp} (t : Tb Ps H) (e : Chg L H H') (n : ∀ P ∈ Ps, P ∉ L) : Tb Ps H' := fun P hP => by
  obtain ⟨ps, h1, h2⟩ := t P hP
  exact ⟨ps, e _ _ (n P hP) h1, h2⟩
theorem Tb.out {Ps : List Addr} {H : Hp} {a : Addr} {o : HO} (t : Tb Ps H) (h : H a = some o) (n : ∀ ps, o ≠ .tbl ps) : a ∉ Ps := fun hm => by
  obtain ⟨ps, h1, _⟩ := t a hm
  rw [h] at h1
  exact n ps (Option.some.inj h1)
theorem Tb.new {Ps : List Addr} {H : Hp} {a : Addr} (t : Tb Ps H) (h : H a = none) : a ∉ Ps := fun hm => by
  obtain ⟨ps, h1, _⟩ := t a hm
  rw [h] at h1
  cases h1
theorem Tb.lsts {Ps : List Addr} {H : Hp} (t : Tb Ps H) : Lsts Ps H := fun P hP xs z => by
  obtain ⟨ps, h1, _⟩ := t P hP
  rw [h1] at z
  cases z
theorem Tb.tabbed {Ps : List Addr} {H H' : Hp} {P : Addr} (t : Tb Ps H) (hP : P ∈ Ps) (e : GxR.Tabbed P H H') : Tb Ps H' ∧ Chg Ps H H' := by
  refine ⟨fun Q hQ => ?_, fun b o n h => ?_⟩
  · by_cases z : Q = P
    · rw [z]
      exact e.1
    · obtain ⟨ps, h1, h2⟩ := t Q hQ
      exact ⟨ps, by rw [e.2 Q z]; exact h1, h2⟩
  · have z : b ≠ P := fun z => n (by rw [z]; exact hP)
    rw [e.2 b z]
    exact h
/-! ### all but what stands at L is kept; tables of code objects may grow -/
def Kp (L : List Addr) (H H' : Hp) : Prop := ∀ b o, b ∉ L → H b = some o → H' b = some o ∨ ∃ ps qs, o = .tbl ps ∧ H' b = some (.tbl qs)
theorem Kp.refl (L : List Addr) (H : Hp) : Kp L H H := fun _ _ _ h => .inl h
theorem Kp.trans {L : List Addr} {H H1 H2 : Hp} (a : Kp L H H1) (b : Kp L H1 H2) : Kp L H H2 := fun c o n h => by
  rcases a c o n h with z | ⟨ps, qs, rfl, z⟩
  · exact b c o n z
  · rcases b c _ n z with y | ⟨ps', qs', _, y⟩
    · exact .inr ⟨ps, qs, rfl, y⟩
    · exact .inr ⟨ps, qs', rfl, y⟩
theorem Kp.chg {L : List Addr} {H H' : Hp} (c : Chg L H H') : Kp L H H' := fun b o n h => .inl (c b o n h)
theorem Kp.of {L : List Addr} {H H' : Hp} (c : Same H H') : Kp L H H' := fun b o _ h => .inl (c b o h)
theorem Kp.mono {L L' : List Addr} {H H' : Hp} (a : Kp L H H') (h : ∀ x ∈ L, x ∈ L') : Kp L' H H' := fun c o n e => a c o (fun q => n (h c q)) e
theorem Kp.nil {L : List Addr} {H H' : Hp} (a : Kp [] H H') : Kp L H H' := a.mono fun _ h => nomatch h
theorem Kp.lst {L : List Addr} {H H' : Hp} (a : Kp L H H') {l : Addr} {us : List V} (n : l ∉ L) (h : H l = some (.lst us)) : H' l = some (.lst us) := by
  rcases a l _ n h with z | ⟨ps, qs, z, _⟩
  · exact z
  · cases z
theorem Kp.tup {L : List Addr} {H H' : Hp} (a : Kp L H H') {l : Addr} {us : List V} (n : l ∉ L) (h : H l = some (.tup us)) : H' l = some (.tup us) := by
  rcases a l _ n h with z | ⟨ps, qs, z, _⟩
  · exact z
  · cases z
theorem Kp.free {L : List Addr} {H H' : Hp} (a : Kp L H H') {l : Addr} (hl : l ∉ L) (h : H' l = none) : H l = none := by
  cases q : H l with
  | none => rfl
  | some o =>
    rcases a l o hl q with z | ⟨ps, qs, _, z⟩
    · rw [z] at h
      cases h
    · rw [z] at h
      cases h
theorem Kp.seq {K : PySem.W.Frag} {L : List Addr} {H H' : Hp} {a : Addr} {xs : List V} (e : Kp L H H') (n : a ∉ L) (h : SqL K H a xs) : SqL K H' a xs := by
  rcases h with (h | ⟨o, h⟩) | h
  · exact .inl (.inl (e.lst n h))
  · rcases e a _ n h with z | ⟨ps, qs, z, _⟩
    · exact .inl (.inr ⟨o, z⟩)
    · cases z
  · exact .inr h
theorem Kp.spn {L : List Addr} {H H' : Hp} (e : Kp L H H') (l : Lsts L H) {v : V} {s : Span} (h : Spn H v s) : Spn H' v s := by
  obtain ⟨t, rfl, ht⟩ := h
  exact ⟨t, rfl, e.tup (fun q => l t q _ ht) ht⟩
theorem Kp.sps {L : List Addr} {H H' : Hp} (e : Kp L H H') (l : Lsts L H) : ∀ {vs : List V} {ss : List Span}, Sps H vs ss → Sps H' vs ss
  | _, _, .nil => .nil
  | _, _, .cons h t => .cons (e.spn l h) (Kp.sps e l t)
theorem lsts0 (H : Hp) : Lsts [] H := fun _ h => nomatch h
theorem Kp.pu {L : List Addr} {H H' : Hp} {p : Addr} {n : Nat} (e : Kp L H H') (hp : p ∉ L) (h : Pu H p n) : Pu H' p n := by
  obtain ⟨a, b, c, h1, h2⟩ := h
  exact ⟨a, b, c, e.lst hp h1, h2⟩
theorem Kp.upd {L : List Addr} {H : Hp} {p : Addr} {o : HO} (h : p ∈ L) : Kp L H (upd H p o) := .chg (Chg.upd h)
theorem Kp.new {L : List Addr} {H H' : Hp} {p : Addr} {o : HO} (e : Kp L H H') (n : H' p = none) : Kp L H (L2.upd H' p o) := e.trans (.of (same_upd n))
/-- a new object changed: nothing of what stood before is -/
theorem Kp.own {L : List Addr} {H H' : Hp} {p : Addr} {o : HO} (e : Kp L H H') (n : H p = none) : Kp L H (L2.upd H' p o) := fun b x nb h => by
  have hne : b ≠ p := ne_of_none h n
  rw [upd_ne hne]
  exact e b x nb h
theorem Kp.tb {Ps L : List Addr} {H H' : Hp} (e : Kp L H H') (hL : ∀ P ∈ Ps, P ∉ L) (hT : ∀ P ∈ Ps, GxR.TabG H P → ∀ qs, H' P = some (.tbl qs) → TriplesOk qs.toList) (t : Tb Ps H) : Tb Ps H' := fun P hP => by
  obtain ⟨ps, h1, h2⟩ := t P hP
  rcases e P _ (hL P hP) h1 with z | ⟨_, qs, _, z⟩
  · exact ⟨ps, z, h2⟩
  · exact ⟨qs, z, hT P hP (t P hP) qs z⟩
theorem Tb.kp {Ps : List Addr} {P : Addr} {H H' : Hp} (t : Tb Ps H) (mP : P ∈ Ps) (h : GxR.Tabbed P H H') : Tb Ps H' ∧ Kp [] H H' := by
  refine ⟨fun Q hQ => ?_, fun b o _ e => ?_⟩
  · by_cases q : Q = P
    · rw [q]
      exact h.1
    · obtain ⟨ps, h1, h2⟩ := t Q hQ
      exact ⟨ps, by rw [h.2 Q q]; exact h1, h2⟩
  · by_cases q : b = P
    · obtain ⟨ps, h1, _⟩ := t P mP
      obtain ⟨qs, h3, _⟩ := h.1
      rw [q] at e ⊢
      rw [h1] at e
      cases e
      exact .inr ⟨ps, qs, rfl, h3⟩
    · exact .inl (by rw [h.2 b q]; exact e)
theorem Tb.own {Ps : List Addr} {H H' : Hp} {p : Addr} {o : HO} (t : Tb Ps H') (n : H p = none) (t0 : Tb Ps H) : Tb Ps (upd H' p o) := fun P hP => by
  obtain ⟨ps, h1, h2⟩ := t P hP
  obtain ⟨qs, h3, _⟩ := t0 P hP
  exact ⟨ps, by rw [upd_ne (ne_of_none h3 n)]; exact h1, h2⟩
theorem Tb.at1 {Ps : List Addr} {H : Hp} {p : Addr} {o : HO} (t : Tb Ps H) (hp : p ∉ Ps) : Tb Ps (upd H p o) := fun P hP => by
  obtain ⟨ps, h1, h2⟩ := t P hP
  exact ⟨ps, by rw [upd_ne (fun z => hp (by rw [← z]; exact hP))]; exact h1, h2⟩
theorem iteNT {c A B : Prop} [Decidable c] (hc : ¬ c) (h : A) : if (!decide c) = true then A else B := by
  rw [decide_eq_false hc]
  exact h
/-! walks of generator expressions over a list, a range -/
theorem gx_list {α : Type} {K : PySem.W.Frag} {a : Addr} {xs : List V} {g : TG} {tt : TT} {te : TE} {vs : List Nat} {σ : L2.St} {c : Cons α} {a0 : α} {Q : VK} {H1 : Hp} (Pv : Nat → α → Hp → Prop) (h0 : Pv 0 a0 H1) (hl : ∀ i z H, i ≤ xs.length → Pv i z H → SqL K H a xs)
    (hs : ∀ i x z H, xs[i]? = some x → Pv i z H → g x (wipe σ vs) H fun σ2 H2 => wipe σ2 vs = wipe σ vs ∧ tt σ2 H2 fun b H3 => if b = true then te σ2 H3 fun y H4 => c.step z y (fun z' => Pv (i + 1) z' H4) (fun u => Q u H4) else Pv (i + 1) z H3)
    (hd : ∀ z H, Pv xs.length z H → c.fin z (fun u => Q u H)) : ∃ W : Nat → Nat → α → Hp → Prop, (∃ m, W 0 m a0 H1) ∧ Runs1 (Itl K a) g tt te vs σ c Q W := by
  refine ⟨fun i m z H => m = xs.length - i ∧ i ≤ xs.length ∧ Pv i z H, ⟨xs.length, by simp, Nat.zero_le _, h0⟩, ?_⟩
  rintro i m z H ⟨rfl, hi, p⟩
  have q := hl i z H hi p
  by_cases hlt : i < xs.length
  · refine .inr ⟨⟨xs, xs[i], q, by simp [hlt]⟩, Pv (i + 1), fun z' H' p' => ⟨xs.length - (i + 1), by omega, rfl, hlt, p'⟩, fun x H' y => ?_⟩
    obtain ⟨e, y⟩ := y
    subst e
    exact hs i x z _ (y xs q) p
  · have e : i = xs.length := by omega
    subst e
    exact .inl ⟨⟨xs, q, Nat.le_refl _⟩, hd z H p⟩
theorem gx_range {α : Type} {lo : Int} {n : Nat} {g : TG} {tt : TT} {te : TE} {vs : List Nat} {σ : L2.St} {c : Cons α} {a0 : α} {Q : VK} {H1 : Hp} (Pv : Nat → α → Hp → Prop) (h0 : Pv 0 a0 H1)
    (hs : ∀ i z H, i < n → Pv i z H → g (.int (lo + i)) (wipe σ vs) H fun σ2 H2 => wipe σ2 vs = wipe σ vs ∧ tt σ2 H2 fun b H3 => if b = true then te σ2 H3 fun y H4 => c.step z y (fun z' => Pv (i + 1) z' H4) (fun u => Q u H4) else Pv (i + 1) z H3)
    (hd : ∀ z H, Pv n z H → c.fin z (fun u => Q u H)) : ∃ W : Nat → Nat → α → Hp → Prop, (∃ m, W 0 m a0 H1) ∧ Runs1 (Itr lo n) g tt te vs σ c Q W := by
  refine ⟨fun i m z H => m = n - i ∧ i ≤ n ∧ Pv i z H, ⟨n, by simp, Nat.zero_le _, h0⟩, ?_⟩
  rintro i m z H ⟨rfl, hi, p⟩
  by_cases hlt : i < n
  · refine .inr ⟨hlt, Pv (i + 1), fun z' H' p' => ⟨n - (i + 1), by omega, rfl, hlt, p'⟩, fun x H' y => ?_⟩
    obtain ⟨e, y⟩ := y
    subst e y
    exact hs i z _ hlt p
  · have e : i = n := by omega
    subst e
    exact .inl ⟨Nat.le_refl _, hd z H p⟩
/-! ### rows: tuples of whole numbers, lists of them -/
def rwD (r : List Int) : PyData := .tuple (r.map PyData.int)
def Rw (H : Hp) (v : V) (r : List Int) : Prop := ∃ t, v = .ref t ∧ H t = some (.tup (r.map V.int))
inductive Rws (H : Hp) : List V → List (List Int) → Prop where
  | nil : Rws H [] []
  | cons {v : V} {s : List Int} {vs : List V} {ss : List (List Int)} : Rw H v s → Rws H vs ss → Rws H (v :: vs) (s :: ss)
theorem Kp.rw {L : List Addr} {H H' : Hp} (e : Kp L H H') (l : Lsts L H) {v : V} {s : List Int} (h : Rw H v s) : Rw H' v s := by
  obtain ⟨t, rfl, ht⟩ := h
  exact ⟨t, rfl, e.tup (fun q => l t q _ ht) ht⟩
theorem Kp.rws {L : List Addr} {H H' : Hp} (e : Kp L H H') (l : Lsts L H) : ∀ {vs : List V} {ss : List (List Int)}, Rws H vs ss → Rws H' vs ss
  | _, _, .nil => .nil
  | _, _, .cons h t => .cons (e.rw l h) (Kp.rws e l t)
theorem Rws.same {H H' : Hp} {vs : List V} {ss : List (List Int)} (h : Rws H vs ss) (e : Same H H') : Rws H' vs ss := (Kp.of (L := []) e).rws (lsts0 H) h
theorem Rws.len {H : Hp} : ∀ {vs : List V} {ss : List (List Int)}, Rws H vs ss → vs.length = ss.length
  | _, _, .nil => rfl
  | _, _, .cons _ t => congrArg (· + 1) t.len
theorem Rws.app {H : Hp} : ∀ {vs ws : List V} {ss ts : List (List Int)}, Rws H vs ss → Rws H ws ts → Rws H (vs ++ ws) (ss ++ ts)
  | _, _, _, _, .nil, h => h
  | _, _, _, _, .cons a t, h => .cons a (Rws.app t h)
theorem Rws.one {H : Hp} {v : V} {s : List Int} (h : Rw H v s) : Rws H [v] [s] := .cons h .nil
theorem Rws.get {H : Hp} : ∀ {vs : List V} {ss : List (List Int)} {i : Nat} {v : V}, Rws H vs ss → vs[i]? = some v → ∃ s, ss[i]? = some s ∧ Rw H v s
  | _, _, _, _, .nil, e => by simp at e
  | _, _, 0, v, .cons (s := s) h t, e => ⟨s, rfl, by
      have q := Option.some.inj (show some _ = some v from e)
      rw [← q]
      exact h⟩
  | _, _, i + 1, v, .cons h t, e => Rws.get (i := i) t e
theorem Rws.get' {H : Hp} : ∀ {vs : List V} {ss : List (List Int)} {i : Nat} {s : List Int}, Rws H vs ss → ss[i]? = some s → ∃ v, vs[i]? = some v ∧ Rw H v s
  | _, _, _, _, .nil, e => by simp at e
  | _, _, 0, s, .cons (v := v) h t, e => ⟨v, rfl, by
      have q := Option.some.inj (show some _ = some s from e)
      rw [← q]
      exact h⟩
  | _, _, i + 1, v, .cons h t, e => Rws.get' (i := i) t e
theorem Rw.dp {K : PySem.W.Frag} {H : Hp} {v : V} {s : List Int} (h : Rw H v s) : Dp K H v (rwD s) := by
  obtain ⟨t, rfl, ht⟩ := h
  exact .tup (SqT.of ht) (dpAll_ints s)
theorem Rws.dpAll {K : PySem.W.Frag} {H : Hp} : ∀ {vs : List V} {ss : List (List Int)}, Rws H vs ss → DpAll K H vs (ss.map rwD)
  | _, _, .nil => .nil
  | _, _, .cons h t => .cons h.dp t.dpAll
theorem Rws.dp {K : PySem.W.Frag} {H : Hp} {a : Addr} {vs : List V} {ss : List (List Int)} (h : Rws H vs ss) (q : SqL K H a vs) : Dp K H (.ref a) (.list (ss.map rwD)) := .lst q h.dpAll
theorem lay_row (r : List Int) : PyData.canLay0 (rwD r) = true ∧ PyData.depth (rwD r) = 1 := by
  obtain ⟨h1, h2⟩ := lay_ints r
  refine ⟨h1, ?_⟩
  show PyData.depthAll (r.map PyData.int) + 1 = 1
  rw [h2]
theorem lay_rows : ∀ ss : List (List Int), PyData.canLayAll0 (ss.map rwD) = true ∧ PyData.depthAll (ss.map rwD) ≤ 1
  | [] => ⟨rfl, by decide⟩
  | s :: r => by
    obtain ⟨h1, h2⟩ := lay_rows r
    obtain ⟨h3, h4⟩ := lay_row s
    refine ⟨?_, ?_⟩
    · show (PyData.canLay0 (rwD s) && PyData.canLayAll0 (r.map rwD)) = true
      rw [h1, h3]
      rfl
    · show max (PyData.depth (rwD s)) (PyData.depthAll (r.map rwD)) ≤ 1
      rw [h4]
      omega
theorem shaped_rows (ss : List (List Int)) : SeqAt.shaped (.list (ss.map rwD)) = true := by
  obtain ⟨h1, h2⟩ := lay_rows ss
  show (PyData.canLayAll0 (ss.map rwD) && decide (PyData.depthAll (ss.map rwD) + 1 ≤ 64)) = true
  rw [h1, decide_eq_true (by omega)]
  rfl
theorem shaped_row (r : List Int) : SeqAt.shaped (rwD r) = true := by
  obtain ⟨h1, h2⟩ := lay_ints r
  show (PyData.canLayAll0 (r.map PyData.int) && decide (PyData.depthAll (r.map PyData.int) + 1 ≤ 64)) = true
  rw [h1, h2]
  rfl
theorem eqvAll_nums : ∀ ss ts : List Int, PyData.eqvAll (ss.map PyData.int) (ts.map PyData.int) = decide (ss = ts)
  | [], [] => rfl
  | [], _ :: _ => rfl
  | _ :: _, [] => rfl
  | s :: ss, t :: ts => by
    show (PyData.eqv (.int s) (.int t) && PyData.eqvAll (ss.map PyData.int) (ts.map PyData.int)) = _
    rw [eqvAll_nums ss ts]
    have e : PyData.eqv (.int s) (.int t) = decide (s = t) := by simp [PyData.eqv, Bool.beq_eq_decide_eq]
    rw [e]
    by_cases h : s = t <;> by_cases h2 : ss = ts <;> simp [h, h2]
theorem eqv_row (s t : List Int) : PyData.eqv (rwD s) (rwD t) = decide (s = t) := eqvAll_nums s t
theorem eqvAll_rows : ∀ ss ts : List (List Int), PyData.eqvAll (ss.map rwD) (ts.map rwD) = decide (ss = ts)
  | [], [] => rfl
  | [], _ :: _ => rfl
  | _ :: _, [] => rfl
  | s :: ss, t :: ts => by
    show (PyData.eqv (rwD s) (rwD t) && PyData.eqvAll (ss.map rwD) (ts.map rwD)) = _
    rw [eqv_row, eqvAll_rows ss ts]
    by_cases h : s = t <;> by_cases h2 : ss = ts <;> simp [h, h2]
theorem eqv_rows (ss ts : List (List Int)) : PyData.eqv (.list (ss.map rwD)) (.list (ts.map rwD)) = decide (ss = ts) := eqvAll_rows ss ts
theorem eqv_rows_nil (ss : List (List Int)) : PyData.eqv (.list (ss.map rwD)) (.list []) = decide (ss = []) := eqvAll_rows ss []
theorem eqv_nums (ss ts : List Int) : PyData.eqv (.list (ss.map PyData.int)) (.list (ts.map PyData.int)) = decide (ss = ts) := eqvAll_nums ss ts
/-! ### lists of spans as they stand -/
def Lq (H : Hp) (l : Addr) (ss : List Span) : Prop := ∃ us, H l = some (.lst us) ∧ Sps H us ss
theorem Kp.lq {L : List Addr} {H H' : Hp} (e : Kp L H H') {l : Addr} (n : l ∉ L) (hL : Lsts L H) {ss : List Span} (h : Lq H l ss) : Lq H' l ss := by
  obtain ⟨us, h1, h2⟩ := h
  exact ⟨us, e.lst n h1, e.sps hL h2⟩
theorem Lq.same {H H' : Hp} {l : Addr} {ss : List Span} (h : Lq H l ss) (e : Same H H') : Lq H' l ss := (Kp.of (L := []) e).lq List.not_mem_nil (lsts0 H) h
theorem Lq.dp {K : PySem.W.Frag} {H : Hp} {l : Addr} {ss : List Span} (h : Lq H l ss) : Dp K H (.ref l) (.list (ss.map spD)) := by
  obtain ⟨us, h1, h2⟩ := h
  exact h2.dp (SqL.of h1)
theorem cut_take {xs : List V} {z : Int} {k : Nat} (e : z = (k : Int)) : cutV xs none (some z) = xs.take k := by
  subst e
  unfold cutV
  rw [HT.sIx_none, HT.sIx_nat, List.drop_zero, Nat.sub_zero]
  by_cases h : k ≤ xs.length
  · rw [Nat.min_eq_left h]
  · rw [Nat.min_eq_right (by omega), List.take_length, List.take_of_length_le (by omega)]
theorem cut_drop {xs : List V} {z : Int} {k : Nat} (e : z = (k : Int)) (h : k ≤ xs.length) : cutV xs (some z) none = xs.drop k := by
  subst e
  unfold cutV
  rw [HT.sIx_none, HT.sIx_nat, Nat.min_eq_left h]
  exact List.take_of_length_le (by rw [List.length_drop]; exact Nat.le_refl _)
theorem Sps.takeN {H : Hp} : ∀ {vs : List V} {ss : List Span} (n : Nat), Sps H vs ss → Sps H (vs.take n) (ss.take n)
  | _, _, 0, _ => by
    rw [List.take_zero, List.take_zero]
    exact .nil
  | _, _, _ + 1, .nil => .nil
  | _, _, n + 1, .cons h t => .cons h (Sps.takeN n t)
theorem Sps.dropN {H : Hp} : ∀ {vs : List V} {ss : List Span} (n : Nat), Sps H vs ss → Sps H (vs.drop n) (ss.drop n)
  | _, _, 0, h => h
  | _, _, _ + 1, .nil => .nil
  | _, _, n + 1, .cons _ t => Sps.dropN n t
theorem Sps.rev {H : Hp} {vs : List V} {ts : List Span} (h : Sps H vs ts) : Sps H vs.reverse ts.reverse := by
  induction h with
  | nil => exact .nil
  | cons a b ih =>
    rw [List.reverse_cons, List.reverse_cons]
    exact ih.app (.one a)
/-! ### set(xs), xs a list of whole numbers, to be sorted -/
section
variable {P : Program} {w : World} {A : Around} {E : Value → Shared → Prop} {s : Shared}
abbrev set0 (w : World) : Obj := { cls := .type "set", dict := none, data := .set #[] 0 (.fresh 0 0 (!w.params.followText "set-order")) }
set_option maxHeartbeats 8000000 in
theorem call_set_lstI {l : Addr} {items : Array Value} (ns : List Int) {Q : Value → Shared → Prop} (hh : A.handled = none) (hl : s.heap.IsList l items) (hit : IntsAre items.toList ns) (hb : ns.length + 1 < scanBound)
    (h : ∀ (h' : Heap) (tk c : Nat), SetR w h' s.heap.objs.size (fun j => decide (j ∈ ns)) c → c ≤ ns.length → (∀ b o, s.heap.get? b = some o → h'.get? b = some o) → Q (.ref s.heap.objs.size) { s with heap := h', toks := tk }) :
    wpAny (model P w) A (call (.type "set") [.ref l]) Q E s := by
  have hisz : items.size = ns.length := by
    have q := IntsAre.length hit
    rw [Array.length_toList] at q
    exact q
  obtain ⟨c0, tl, hmro⟩ := F.called_set.mro
  have hmade := F.called_set.made
  have hsub := F.called_set.sub
  refine wpAny_call (codeAny_of_tree ?_)
  show wpAny _ _ (callAny (.type "set") _) _ _ _
  refine wpAny_pure ⟨Code.quiet_builtin _ (by decide +kernel), codeAny_builtin F.entry_type_call ?_⟩
  rw [Around.under_plain (weight_type_call_type "set" [.ref l] []) rfl]
  have t1 := F.called_set.notType
  have t2 := F.called_set.canCreate
  have t3 := F.typeCall_set_1 (.ref l)
  repeat (any_goals (first | assumption | wp_step))
  refine codeAny_mono (L2.code_set_led1 (.ref l) (E := E) (Q₁ := fun obj u => obj = .ref s.heap.objs.size ∧ u = { s with heap := s.heap.push (set0 w) }) ⟨rfl, rfl⟩) fun r u hr => ?_
  cases r with
  | error e => exact hr
  | ok fl =>
    cases fl with
    | ret obj =>
      obtain ⟨rfl, rfl⟩ := hr
      have gS : (s.heap.push (set0 w)).get? s.heap.objs.size = some (set0 w) := Heap.get?_push_size _ rfl
      have gT : Shared.TypeIs { s with heap := s.heap.push (set0 w) } (.ref s.heap.objs.size) "set" := ⟨_, gS, rfl⟩
      have i1 := F.called_set.init.lookup
      have i2 := F.called_set.init.bind (.ref s.heap.objs.size)
      repeat (any_goals (first | assumption | wp_step))
      refine codeAny_mono (codeAny_call_builtin (R := wants (fun r u2 => r = .none ∧ ∃ h' tk c, u2 = { s with heap := h', toks := tk } ∧ SetR w h' s.heap.objs.size (fun j => decide (j ∈ ns)) c ∧ c ≤ ns.length ∧ (∀ b o, s.heap.get? b = some o → h'.get? b = some o)) E) F.called_set.init.plain F.entry_set_init (check_set_init_1 gT ?_)) fun r2 u2 hr2 => ?_
      · obtain ⟨ol, hol, hcl, nl, hdl⟩ := hl
        obtain ⟨ocls, odict, odata, oslots⟩ := ol
        simp only at hcl hdl
        subst hcl
        subst hdl
        have gol : (s.heap.push (set0 w)).get? l = some { cls := .type "list", dict := odict, data := .seq items nl, slots := oslots } := Heap.get?_push_of_some _ hol
        have k1 := F.sub_list_set
        have k2 := F.sub_list_frozenset
        have k3 : (Value.type "list" == Value.type "dict") = false := by decide
        have isl : (s.heap.push (set0 w)).IsList l items := ⟨_, gol, rfl, nl, rfl⟩
        unfold Builtin.«set.__init__» noKeywords Builtin.Frozenset.updateFrom
        generalize hPI : pyIter = PI
        wp_walk
        subst hPI
        refine wpAny_pyIter_list isl ?_
        refine wpAny_bind (wpAny_runValue ?_)
        have ll : l < s.heap.objs.size := Heap.lt_size hol
        have hh3 : A.in1.in1.in1.handled = none := by simp [hh]
        have neI : l ≠ (s.heap.push (set0 w)).objs.size := by
          rw [Heap.size_push]
          exact Nat.ne_of_lt (Nat.lt_succ_of_lt ll)
        have outS : s.heap.objs.size ∉ [(s.heap.push (set0 w)).objs.size, l] := by
          rw [Heap.size_push]
          simp only [List.mem_cons, List.not_mem_nil, or_false, not_or]
          exact ⟨Nat.ne_of_lt (Nat.lt_succ_self _), Nat.ne_of_gt ll⟩
        have val : ∀ (i : Nat) (v : Value), items[i]? = some v → ∃ k t, ns[i]? = some k ∧ v = .int k t := fun i v hv => by
          have hv2 : items.toList[i]? = some v := by rw [Array.getElem?_toList]; exact hv
          obtain ⟨t, e⟩ := IntsAre.int_at hit i v hv2
          have hi : i < ns.length := by
            have := (List.getElem?_eq_some_iff.mp hv2).1
            rw [Array.length_toList] at this
            omega
          refine ⟨ns[i], t, List.getElem?_eq_getElem hi, ?_⟩
          rw [e, List.getD_eq_getElem?_getD, List.getElem?_eq_getElem hi]
          rfl
        refine L2.set_update_ints ((Walks.list hh3 _ l neI items).toS) s.heap.objs.size outS ns hisz hb val _ 0 _ rfl (Nat.zero_le _) ?_ ⟨0, Nat.le_refl _, L2.setR_new_at (by rw [Heap.get?_push_of_some _ gS])⟩ fun s' c mv hc R => ?_
        · exact ⟨⟨_, Heap.get?_push_size _ rfl, rfl, rfl⟩, isl.push _⟩
        · obtain ⟨h', g2, d2, tk2, os2⟩ := s'
          obtain rfl : g2 = s.gens := mv.gens
          obtain rfl : d2 = s.drawn := mv.drawn
          obtain rfl : os2 = s.os := mv.os
          refine wpAny_pure ?_
          show wpAny _ _ (ret Value.none) _ _ _
          rw [hisz] at hc
          refine wpAny_pure ⟨rfl, h', tk2, c, rfl, R, hc, fun b o e => ?_⟩
          have l0 : b < s.heap.objs.size := Heap.lt_size e
          refine mv.heap b o (fun z => ?_) (Heap.get?_push_of_some _ (Heap.get?_push_of_some _ e))
          rw [Heap.size_push] at z
          simp only [List.mem_cons, List.not_mem_nil, or_false] at z
          rcases z with z | z
          · exact Nat.ne_of_lt l0 z
          · exact Nat.ne_of_lt (Nat.lt_succ_of_lt l0) z
      · cases r2 with
        | error e => exact hr2
        | ok fl2 =>
          cases fl2 with
          | ret r =>
            obtain ⟨rfl, h', tk, c, rfl, R, hc, k⟩ := hr2
            have fin := h h' tk c R hc k
            repeat (any_goals (first | assumption | wp_step))
          | _ => exact hr2.elim
    | _ => exact hr.elim
end
section
variable {X : Cx}
def rSetOf (K : PySem.W.Frag) (w : World) : List V → Hp → VK → Prop := fun vs H Q => ∃ (a : Addr) (ns : List Int), vs = [.ref a] ∧ SqL K H a (ns.map V.int) ∧ ns.length ≤ 1000 ∧ ∀ (p : Addr) (ds : List Int), H p = none → ds.Nodup → (∀ k, k ∈ ds ↔ k ∈ ns) → Q (.ref p) (upd H p (SetO w p (fun j => decide (j ∈ ns)) ds.length))
theorem call_set_of (hc : X.calm = true) : CallR X (.type "set") (rSetOf X.K X.w) := by
  intro pins s σ H vs us Q I r hh
  obtain ⟨a, ns, rfl, hq, hl, q⟩ := hh
  obtain ⟨its, rv, pl, hz⟩ := I.list hq
  rw [Vals.ref1 r]
  refine call_set_lstI ns (I.ok.hd hc) pl.isList (by simpa using rv.ints) (by unfold scanBound; omega) fun h' tk c R hc' k => ?_
  have hn : H s.heap.objs.size = none := I.hok.fresh (Nat.le_refl _)
  obtain ⟨o, es, ep, t, k1, k2, k3, k4, k5, k6, k7, k8, k9, k10, k11⟩ := id R
  have ln : (es.toList.map keyOf).length = c := by
    rw [List.length_map, Array.length_toList]
    exact k9
  have fin := q s.heap.objs.size (es.toList.map keyOf) hn k5 fun k => by
    rw [← k6, decide_eq_true_eq]
  rw [ln] at fin
  exact ⟨.ref s.heap.objs.size, _, I.laid k (Nat.le_refl _) (setO_new R), rfl, fin⟩
end
theorem nodup_len : ∀ {l m : List Int}, l.Nodup → (∀ x ∈ l, x ∈ m) → l.length ≤ m.length
  | [], _, _, _ => Nat.zero_le _
  | a :: l, m, h, sub => by
    have ha := sub a List.mem_cons_self
    have h1 := List.nodup_cons.mp h
    have ih := nodup_len (l := l) (m := m.erase a) h1.2 fun x hx => by
      have ne : x ≠ a := fun z => h1.1 (by rw [← z]; exact hx)
      exact (List.mem_erase_of_ne ne).mpr (sub x (List.mem_cons_of_mem _ hx))
    rw [List.length_erase_of_mem ha] at ih
    have hp := List.length_pos_of_mem ha
    show l.length + 1 ≤ m.length
    omega
/-! ### sorted of triples of whole numbers; how many in a set -/
namespace Tri
open SrtO
def IsTrip (h : Heap) (v : Value) (x y z : Int) : Prop := ∃ (a : Addr) (o : Obj) (t u r : Tok) (n : Nat), v = .ref a ∧ h.get? a = some o ∧ o.cls = .type "tuple" ∧ o.data = .seq #[.int x t, .int y u, .int z r] n
theorem IsTrip.keeps {h h' : Heap} {v : Value} {x y z : Int} (p : IsTrip h v x y z) (k : ∀ b o, h.get? b = some o → o.cls = .type "tuple" → h'.get? b = some o) : IsTrip h' v x y z := by
  obtain ⟨a, o, t, u, r, n, e, ho, hc, hd⟩ := p
  exact ⟨a, o, t, u, r, n, e, k a o ho hc, hc, hd⟩
abbrev I3 := Int × Int × Int
/-- by the first, then by the second, then by the third -/
def lex3 (p q : I3) : Bool := if p.1 = q.1 then (if p.2.1 = q.2.1 then decide (p.2.2 < q.2.2) else decide (p.2.1 < q.2.1)) else decide (p.1 < q.1)
theorem lex3_iff {p q : I3} : lex3 p q = true ↔ p.1 < q.1 ∨ (p.1 = q.1 ∧ (p.2.1 < q.2.1 ∨ (p.2.1 = q.2.1 ∧ p.2.2 < q.2.2))) := by
  unfold lex3
  by_cases e : p.1 = q.1
  · rw [if_pos e]
    by_cases e2 : p.2.1 = q.2.1
    · rw [if_pos e2, decide_eq_true_eq]
      omega
    · rw [if_neg e2, decide_eq_true_eq]
      omega
  · rw [if_neg e, decide_eq_true_eq]
    omega
theorem lex3_no {p q : I3} : lex3 p q = false ↔ ¬ (p.1 < q.1 ∨ (p.1 = q.1 ∧ (p.2.1 < q.2.1 ∨ (p.2.1 = q.2.1 ∧ p.2.2 < q.2.2)))) := by
  rw [← lex3_iff]
  cases lex3 p q <;> simp
theorem swo3 {α : Type} (k : α → I3) : Swo fun v u => lex3 (k v) (k u) := by
  refine ⟨fun x y h => ?_, fun x y z h1 h2 => ?_⟩
  · have a := lex3_iff.mp h
    refine lex3_no.mpr ?_
    omega
  · have a := lex3_no.mp h1
    have b := lex3_no.mp h2
    refine lex3_no.mpr ?_
    omega
section
variable {prog : Program} {w : World} {A : Around} {E : Value → Shared → Prop} {s : Shared}
theorem trip_cmp {vs : List Value} {k : Value → I3} (hp : ∀ v ∈ vs, IsTrip s.heap v (k v).1 (k v).2.1 (k v).2.2) : Cmp prog w A s (tuples' true) (fun p => p.1 ∈ vs) (lt2 fun v u => lex3 (k v) (k u)) := by
  intro p q hm hm'
  have h1 := hp _ hm
  have h2 := hp _ hm'
  show wpAny (model prog w) A (keyLt' (tuples' true) p.1 q.1) (fun r s' => s' = s ∧ r = lex3 (k p.1) (k q.1)) (fun _ _ => False) s
  unfold lex3
  generalize (k p.1).1 = x at h1 ⊢
  generalize (k p.1).2.1 = y at h1 ⊢
  generalize (k p.1).2.2 = z at h1 ⊢
  generalize (k q.1).1 = x' at h2 ⊢
  generalize (k q.1).2.1 = y' at h2 ⊢
  generalize (k q.1).2.2 = z' at h2 ⊢
  obtain ⟨a, o, t, u, r, n, e, ho, hc, hd⟩ := h1
  obtain ⟨a', o', t', u', r', n', e', ho', hc', hd'⟩ := h2
  rw [e, e']
  refine PySem.W.kat_lt ho hd ho' hd' ?_
  show PySem.W.KatLex prog w A true (decide (3 < 3)) _ [(.int x t, .int x' t'), (.int y u, .int y' u'), (.int z r, .int z' r')] 0 s
  generalize hr : (if x = x' then (if y = y' then decide (z < z') else decide (y < y')) else decide (x < x')) = res
  refine PySem.W.kat_cons (SeqAt.EqAt.int_int x t x' t' prog w _ _ ?_)
  refine PySem.W.kat_go (fun e1 => ?_) (fun e1 => ?_)
  · have ex : x = x' := by simpa using e1
    rw [if_pos ex] at hr
    refine PySem.W.kat_yes (PySem.W.kat_cons (SeqAt.EqAt.int_int y u y' u' prog w _ _ ?_))
    refine PySem.W.kat_go (fun e2 => ?_) (fun e2 => ?_)
    · have ey : y = y' := by simpa using e2
      rw [if_pos ey] at hr
      refine PySem.W.kat_yes (PySem.W.kat_cons (SeqAt.EqAt.int_int z r z' r' prog w _ _ ?_))
      refine PySem.W.kat_go (fun e3 => ?_) (fun e3 => ?_)
      · have ez : z = z' := by simpa using e3
        have e4 : res = false := by
          rw [← hr, ez]
          exact decide_eq_false (Int.lt_irrefl _)
        exact PySem.W.kat_yes (PySem.W.kat_nil ⟨rfl, e4.symm⟩)
      · refine PySem.W.kat_no (PySem.W.kat_one _ _ (PyProof.Rows.lt_int ?_))
        exact (show s = s ∧ decide (z < z') = res from ⟨rfl, hr⟩)
    · have ey : ¬ y = y' := by simpa using e2
      rw [if_neg ey] at hr
      refine PySem.W.kat_no (PySem.W.kat_one _ _ (PyProof.Rows.lt_int ?_))
      exact (show s = s ∧ decide (y < y') = res from ⟨rfl, hr⟩)
  · have ex : ¬ x = x' := by simpa using e1
    rw [if_neg ex] at hr
    exact PySem.W.kat_no (oneLt_int ⟨rfl, hr⟩)
theorem firsts3 {h : Heap} : ∀ {vs : List Value}, (∀ v ∈ vs, ∃ x y z, IsTrip h v x y z) → ∃ fs, PySem.W.KatTups h vs fs ∧ fs.length = vs.length ∧ ∀ f ∈ fs, ∃ x t, f = Value.int x t
  | [], _ => ⟨[], PySem.W.KatTups.nil, rfl, fun f h => nomatch h⟩
  | v :: vs, hv => by
    obtain ⟨fs, h1, h2, h3⟩ := firsts3 (vs := vs) fun u hu => hv u (List.mem_cons_of_mem _ hu)
    obtain ⟨x, y, z, a, o, t, u, r, n, rfl, ho, hc, hd⟩ := hv v List.mem_cons_self
    refine ⟨.int x t :: fs, PySem.W.KatTups.cons ho hc hd rfl h1, by rw [List.length_cons, List.length_cons, h2], fun f hf => ?_⟩
    rcases List.mem_cons.mp hf with e | e
    · exact ⟨x, t, e⟩
    · exact h3 f e
theorem trips_sortable {a : Addr} {vs : List Value} {k : Value → I3} (h0 : 0 < vs.length) (hp : ∀ v ∈ vs, IsTrip s.heap v (k v).1 (k v).2.1 (k v).2.2) (ha : ∀ o, s.heap.get? a = some o → o.cls ≠ .type "tuple") : SortableO prog w A s a vs fun v u => lex3 (k v) (k u) := by
  intro h' keep
  have hp' : ∀ v ∈ vs, IsTrip h' v (k v).1 (k v).2.1 (k v).2.2 := fun v hm => (hp v hm).keeps fun b o e c => keep b o (fun z => by subst z; exact ha o e c) e
  obtain ⟨fs, h1, h2, h3⟩ := firsts3 fun v hm => ⟨_, _, _, hp' v hm⟩
  refine ⟨tuples' true, fun Q E hq => ?_, trip_cmp hp'⟩
  refine PySem.W.kat_kind (T := .type "int") h1 (by omega) (fun f hm => ?_) (by rfl) ?_
  · obtain ⟨x, t, rfl⟩ := h3 f hm
    exact PySem.W.Looks.now
  · have e : (Value.type "int" != Value.type "tuple") = true := by first | decide +kernel | rfl | decide
    rw [e]
    exact hq
theorem sorted_trips {l : Addr} {vs : List Value} {k : Value → I3} {Q : Value → Shared → Prop} (hl : s.heap.IsList l vs.toArray) (hz : vs.length ≤ sizeLine) (hp : ∀ v ∈ vs, IsTrip s.heap v (k v).1 (k v).2.1 (k v).2.2)
    (h : ∀ (h' : Heap) (d : Addr) (out : List Value), Srtd (fun v u => lex3 (k v) (k u)) out → Stb (fun v u => lex3 (k v) (k u)) out vs → (∀ b o, s.heap.get? b = some o → h'.get? b = some o) → s.heap.objs.size ≤ d → (∃ n, h'.get? d = some (seqObj "list" out.toArray n)) → Q (.ref d) { s with heap := h' }) :
    wpAny (model prog w) A (call (.builtin "sorted") [.ref l]) Q E s := by
  refine sorted_ord (swo3 k) hl hz (fun h2 h₁ a ha kk => ?_) fun out hs hb => ?_
  · refine trips_sortable (s := { s with heap := h₁ }) (by omega) (fun v hm => (hp v hm).keeps fun b o e _ => (kk b o e).2) fun o e => ?_
    have e' : some o = some (seqObj "list" vs.toArray 0) := e.symm.trans ha
    cases e'
    intro c
    exact absurd (Value.type.inj c) (by decide)
  · exact h _ _ out hs hb (fun b o e => sortedAll_old e) (Nat.le_succ _) (sortedAll_at s.heap vs out.toArray)
end
/-- sorted(xs), xs a list of triples of ints -/
def rSorted3 (K : PySem.W.Frag) : List V → Hp → VK → Prop := fun vs H Q => ∃ (a : Addr) (xs : List V) (k : V → I3), vs = [V.ref a] ∧ SqL K H a xs ∧ (∀ x ∈ xs, ∃ t, x = V.ref t ∧ H t = some (.tup [.int (k x).1, .int (k x).2.1, .int (k x).2.2])) ∧
  ∀ ys p, Srtd (fun v u => lex3 (k v) (k u)) ys → Stb (fun v u => lex3 (k v) (k u)) ys xs → H p = none → Q (.ref p) (upd H p (.lst ys))
theorem vals3 {x y z : V} {us : List Value} (h : Vals [x, y, z] us) : ∃ u v w, us = [u, v, w] ∧ RelV x u ∧ RelV y v ∧ RelV z w := by
  cases h with
  | cons a h => cases h with
    | cons b h => cases h with
      | cons c h =>
        cases h
        exact ⟨_, _, _, rfl, a, b, c⟩
theorem cr_sorted3 {X : Cx} : CallR X (.builtin "sorted") (rSorted3 X.K) := by
  intro pins s σ H vs us Q I r h
  obtain ⟨a, xs, k, rfl, hs, hx, q⟩ := h
  obtain ⟨its, rv, hl, hz⟩ := I.list hs
  obtain ⟨u, rfl, ru⟩ := vals1 r
  obtain rfl : u = Value.ref a := ru
  obtain ⟨e1, e2⟩ := refs_back rv fun x m => by
    obtain ⟨t, e, _⟩ := hx x m
    exact ⟨t, e⟩
  refine sorted_trips (k := fun u => k (backV u)) hl.isList (by rw [← rv.length]; exact hz) (fun v hv => ?_) fun h' d out h1 h2 kp hd hn => ?_
  · obtain ⟨t, rfl⟩ := e2 v hv
    have hm : V.ref t ∈ xs := by rw [e1]; exact List.mem_map.mpr ⟨_, hv, rfl⟩
    obtain ⟨t', e, ht⟩ := hx _ hm
    cases e
    obtain ⟨_, its2, r2, o, ho, hc, n, hd⟩ := I.hok _ _ ht
    obtain ⟨u1, u2, u3, rfl, ri, rj, rk⟩ := vals3 r2
    obtain ⟨t1, rfl⟩ := ri
    obtain ⟨t2, rfl⟩ := rj
    obtain ⟨t3, rfl⟩ := rk
    exact ⟨t, o, t1, t2, t3, n, rfl, ho, hc, hd⟩
  · have h3 : ∀ u ∈ out, ∃ a, u = Value.ref a := fun u hu => e2 u (h2.perm.mem_iff.mp hu)
    obtain ⟨n, hn⟩ := hn
    have hb : Stb (fun v u => lex3 (k v) (k u)) (out.map backV) xs := by
      rw [e1]
      exact Stb.map (swo3 k) backV h2
    refine ⟨.ref d, upd H d (.lst (out.map backV)), I.laid (t' := s.toks) kp hd ⟨?_, out, n, vals_back h3, hn⟩, rfl, q _ d (srtd_map h1) hb (I.hok.fresh hd)⟩
    rw [hb.len]
    exact hz
end Tri
/-! how many in a set of whole numbers -/
theorem met_facts (f : Nat → Int) : ∀ n, (firstMet f n).Nodup ∧ ∀ k, k ∈ firstMet f n ↔ ∃ i, i < n ∧ f i = k
  | 0 => ⟨List.nodup_nil, fun k => ⟨(fun h => nomatch h), fun ⟨i, h, _⟩ => by omega⟩⟩
  | n + 1 => by
    obtain ⟨h1, h2⟩ := met_facts f n
    rw [firstMet_succ]
    unfold step_dedup
    by_cases e : (firstMet f n).any (· == f n) = true
    · rw [if_pos e]
      obtain ⟨x, hx, ex⟩ := List.any_eq_true.mp e
      have ex : x = f n := beq_iff_eq.mp ex
      refine ⟨h1, fun k => ⟨fun h => ?_, fun ⟨i, hi, hk⟩ => ?_⟩⟩
      · obtain ⟨i, hi, hk⟩ := (h2 k).mp h
        exact ⟨i, by omega, hk⟩
      · by_cases z : i = n
        · rw [← hk, z, ← ex]
          exact hx
        · exact (h2 k).mpr ⟨i, by omega, hk⟩
    · rw [if_neg e]
      have nx : f n ∉ firstMet f n := fun z => e (List.any_eq_true.mpr ⟨_, z, by simp⟩)
      refine ⟨?_, fun k => ⟨fun h => ?_, fun ⟨i, hi, hk⟩ => ?_⟩⟩
      · rw [List.nodup_append]
        exact ⟨h1, by simp, fun a ha b hb => by rw [List.mem_singleton.mp hb]; exact fun z => nx (by rw [← z]; exact ha)⟩
      · rcases List.mem_append.mp h with h | h
        · obtain ⟨i, hi, hk⟩ := (h2 k).mp h
          exact ⟨i, by omega, hk⟩
        · exact ⟨n, by omega, (List.mem_singleton.mp h).symm⟩
      · by_cases z : i = n
        · rw [← hk, z]
          simp
        · exact List.mem_append_left _ ((h2 k).mpr ⟨i, by omega, hk⟩)
def tLenSet (K : PySem.W.Frag) (ta : TE) : TE := fun σ H Q => ta σ H fun x H1 => ∃ (l : Addr) (ns : List Int), x = V.ref l ∧ SqL K H1 l (ns.map V.int) ∧ ns.length ≤ 1000 ∧ ∀ ds : List Int, ds.Nodup → (∀ k, k ∈ ds ↔ k ∈ ns) → Q (.int (ds.length : Nat)) H1
theorem pe_lenSet {X : Cx} {a : Expr} {ta : TE} {p p2 q pos : Pos} (hc : X.calm = true) (hg : Gl X "len") (hm : X.mg "len" = none) (hg2 : Gl X "set") (hm2 : X.mg "set" = none) (ha : PE X a ta)
    (na : starEach [a] X.env = (false, eval a X.env) :: starEach [] X.env := by rfl) : PE X (.Call (.Name "len" p) [.Call (.Name "set" p2) [a] [] q] [] pos) (tLenSet X.K ta) := by
  refine ⟨fun pins s σ H Q I h => ?_⟩
  refine Call_ (ld_blt I hg hm PySem.boot_len ?_)
  refine PyProof.Rows.callWith_builtin1 (PyProof.Rows.args_cons ?_ rfl) rfl rfl
  refine Call_ (ld_blt I hg2 hm2 PyProof.Rows.boot_set ?_)
  refine PyProof.Rows.callWith_type1 (PyProof.Rows.args_cons (thn (ha.run pins s σ H _ I h) fun v s1 ⟨x, H1, I1, r1, q1⟩ => PyProof.Rows.args_nil ?_) na) na rfl
  obtain ⟨l, ns, rfl, hq, h1, q1⟩ := q1
  cases r1
  obtain ⟨its, r, pl, hz⟩ := I1.list hq
  have hl : its.toArray.size = ns.length := by rw [List.size_toArray, ← r.length, List.length_map]
  refine call_set_list (I1.ok.hd hc) pl.isList (ns := ns) (by simpa using r.ints) (by unfold scanBound; omega) fun h' tk hS hk => ?_
  rw [hl] at hS
  obtain ⟨m1, m2⟩ := met_facts (fun i => ns.getD i 0) ns.length
  have m3 : ∀ k, k ∈ firstMet (fun i => ns.getD i 0) ns.length ↔ k ∈ ns := fun k => by
    rw [m2 k]
    constructor
    · rintro ⟨i, hi, rfl⟩
      rw [List.getD_eq_getElem?_getD, List.getElem?_eq_getElem hi]
      exact List.getElem_mem hi
    · intro hk
      obtain ⟨i, hi, e⟩ := List.getElem_of_mem hk
      exact ⟨i, hi, by rw [List.getD_eq_getElem?_getD, List.getElem?_eq_getElem hi, Option.getD_some, e]⟩
  have q2 := q1 _ m1 m3
  have bl : (firstMet (fun i => ns.getD i 0) ns.length).length ≤ ns.length := nodup_len m1 fun x hx => (m3 x).mp hx
  revert hS q2 bl
  generalize firstMet (fun i => ns.getD i 0) ns.length = ds
  intro hS q2 bl
  refine PyProof.Rows.args_nil ?_
  obtain ⟨o, es, ep, t, ho, hex, hd, _, _, _, hf, hn⟩ := hS
  have I2 : Inv X pins σ H1 { s1 with heap := h', toks := tk } := I1.kept fun b o e => hk b o (Heap.lt_size e) e
  refine call_len_set ho hex hd hf (by rw [hn] <;> omega) ⟨.int ds.length, H1, I2.tok _, ⟨_, by rw [hn]⟩, q2⟩
/-- a set of as many: none stands twice -/
theorem nodup_of_len : ∀ {ns ds : List Int}, ds.Nodup → (∀ x ∈ ds, x ∈ ns) → ns.length ≤ ds.length → ns.Nodup
  | [], _, _, _, _ => List.nodup_nil
  | a :: r, ds, h1, h2, h3 => by
    by_cases ha : a ∈ r
    · have := nodup_len h1 (m := r) fun x hx => by
        rcases List.mem_cons.mp (h2 x hx) with e | e
        · rw [e]
          exact ha
        · exact e
      rw [List.length_cons] at h3
      omega
    · refine List.nodup_cons.mpr ⟨ha, nodup_of_len (ds := ds.erase a) (h1.erase a) (fun x hx => ?_) ?_⟩
      · have hx' := List.mem_of_mem_erase hx
        rcases List.mem_cons.mp (h2 x hx') with e | e
        · subst e
          exact absurd hx ((h1.mem_erase_iff.mp hx).1 rfl).elim
        · exact e
      · rw [List.length_cons] at h3
        rw [List.length_erase]
        split <;> omega
theorem len_nodup {ns ds : List Int} (h1 : ds.Nodup) (h2 : ∀ k, k ∈ ds ↔ k ∈ ns) : ds.length = ns.length ↔ ns.Nodup := by
  constructor
  · intro e
    exact nodup_of_len h1 (fun x hx => (h2 x).mp hx) (by omega)
  · intro h
    have a := nodup_len h1 fun x hx => (h2 x).mp hx
    have b := nodup_len h fun x hx => (h2 x).mpr hx
    omega
/-! walks of generator expressions over two lists side by side -/
theorem gx_zip {α : Type} {K : PySem.W.Frag} {a b : Addr} {xs ys : List V} {g : TG} {tt : TT} {te : TE} {vs : List Nat} {σ : L2.St} {c : Cons α} {a0 : α} {Q : VK} {H1 : Hp} (Pv : Nat → α → Hp → Prop) (h0 : Pv 0 a0 H1) (hl : ∀ i z H, i ≤ min xs.length ys.length → Pv i z H → SqL K H a xs ∧ SqL K H b ys)
    (hs : ∀ i x y z H t, xs[i]? = some x → ys[i]? = some y → Pv i z H → H t = none → g (.ref t) (wipe σ vs) (upd H t (.tup [x, y])) fun σ2 H2 => wipe σ2 vs = wipe σ vs ∧ tt σ2 H2 fun b H3 => if b = true then te σ2 H3 fun y H4 => c.step z y (fun z' => Pv (i + 1) z' H4) (fun u => Q u H4) else Pv (i + 1) z H3)
    (hd : ∀ z H, Pv (min xs.length ys.length) z H → c.fin z (fun u => Q u H)) : ∃ W : Nat → Nat → α → Hp → Prop, (∃ m, W 0 m a0 H1) ∧ Runs1 (Itz K a b) g tt te vs σ c Q W := by
  refine ⟨fun i m z H => m = min xs.length ys.length - i ∧ i ≤ min xs.length ys.length ∧ Pv i z H, ⟨min xs.length ys.length, by simp, Nat.zero_le _, h0⟩, ?_⟩
  rintro i m z H ⟨rfl, hi, p⟩
  obtain ⟨q1, q2⟩ := hl i z H hi p
  by_cases hlt : i < min xs.length ys.length
  · have l1 : i < xs.length := by omega
    have l2 : i < ys.length := by omega
    refine .inr ⟨⟨xs, ys, xs[i], ys[i], q1, q2, by simp [l1], by simp [l2]⟩, Pv (i + 1), fun z' H' p' => ⟨_, by omega, rfl, hlt, p'⟩, fun x H' y => ?_⟩
    obtain ⟨t, x1, y1, rfl, nt, rfl, h1, h2⟩ := y
    exact hs i x1 y1 z H t (h1 xs q1) (h2 ys q2) p nt
  · refine .inl ⟨⟨xs, ys, q1, q2, by omega⟩, ?_⟩
    have e : i = min xs.length ys.length := by omega
    rw [e] at p
    exact hd z H p
def topS (i : Nat) : Stmt := PySem.Challenge.pw_spanshelf_k17_whole_apart_by_choices.main.body.getD i (.Pass ⟨0, 0, 0, 0⟩)
abbrev s_is_whole : Stmt := topS 6
abbrev N_is_whole : List Str := ["number"]
theorem sc_is_whole : FnScope N_is_whole ["number"] (defScope s_is_whole) := ⟨rfl, rfl, rfl, by decide +kernel, rfl, by decide +kernel, by decide +kernel⟩
abbrev s_is_place : Stmt := topS 7
abbrev N_is_place : List Str := ["number"]
theorem sc_is_place : FnScope N_is_place ["number"] (defScope s_is_place) := ⟨rfl, rfl, rfl, by decide +kernel, rfl, by decide +kernel, by decide +kernel⟩
abbrev s_is_span : Stmt := topS 8
abbrev N_is_span : List Str := ["span", "low", "high"]
theorem sc_is_span : FnScope N_is_span ["span"] (defScope s_is_span) := ⟨rfl, rfl, rfl, by decide +kernel, rfl, by decide +kernel, by decide +kernel⟩
abbrev s_check_span : Stmt := topS 9
abbrev N_check_span : List Str := ["span"]
theorem sc_check_span : FnScope N_check_span ["span"] (defScope s_check_span) := ⟨rfl, rfl, rfl, by decide +kernel, rfl, by decide +kernel, by decide +kernel⟩
abbrev s_check_spans : Stmt := topS 10
abbrev N_check_spans : List Str := ["spans", "span"]
theorem sc_check_spans : FnScope N_check_spans ["spans"] (defScope s_check_spans) := ⟨rfl, rfl, rfl, by decide +kernel, rfl, by decide +kernel, by decide +kernel⟩
abbrev s_are_numbers : Stmt := topS 11
abbrev N_are_numbers : List Str := ["chosen", "spans", "number"]
theorem sc_are_numbers : FnScope N_are_numbers ["chosen", "spans"] (defScope s_are_numbers) := ⟨rfl, rfl, rfl, by decide +kernel, rfl, by decide +kernel, by decide +kernel⟩
abbrev s_all_apart : Stmt := topS 12
abbrev N_all_apart : List Str := ["spans", "ordered", "ahead", "behind"]
theorem sc_all_apart : FnScope N_all_apart ["spans"] (defScope s_all_apart) := ⟨rfl, rfl, rfl, by decide +kernel, rfl, by decide +kernel, by decide +kernel⟩
abbrev s_is_pierced : Stmt := topS 14
abbrev N_is_pierced : List Str := ["span", "pins", "high", "low", "pin"]
theorem sc_is_pierced : FnScope N_is_pierced ["span", "pins"] (defScope s_is_pierced) := ⟨rfl, rfl, rfl, by decide +kernel, rfl, by decide +kernel, by decide +kernel⟩
abbrev s_most_apart : Stmt := topS 15
abbrev N_most_apart : List Str := ["spans", "chosen", "pins", "number", "low", "high"]
theorem sc_most_apart : FnScope N_most_apart ["spans"] (defScope s_most_apart) := ⟨rfl, rfl, rfl, by decide +kernel, rfl, by decide +kernel, by decide +kernel⟩
abbrev s_shows_apart : Stmt := topS 16
abbrev N_shows_apart : List Str := ["spans", "chosen", "pins", "span", "number"]
theorem sc_shows_apart : FnScope N_shows_apart ["spans", "chosen", "pins"] (defScope s_shows_apart) := ⟨rfl, rfl, rfl, by decide +kernel, rfl, by decide +kernel, by decide +kernel⟩
abbrev s_l_at : Stmt := topS 18
abbrev N_l_at : List Str := ["_law_script", "_law_k"]
theorem sc_l_at : FnScope N_l_at ["_law_script", "_law_k"] (defScope s_l_at) := ⟨rfl, rfl, rfl, by decide +kernel, rfl, by decide +kernel, by decide +kernel⟩
abbrev s_l_mixed : Stmt := topS 19
abbrev N_l_mixed : List Str := ["_law_cell", "_law_k", "_law_number_here"]
theorem sc_l_mixed : FnScope N_l_mixed ["_law_cell", "_law_k"] (defScope s_l_mixed) := ⟨rfl, rfl, rfl, by decide +kernel, rfl, by decide +kernel, by decide +kernel⟩
abbrev s_l_purse : Stmt := topS 20
abbrev N_l_purse : List Str := ["_law_script", "_law_at_here", "_law_cell"]
theorem sc_l_purse : FnScope N_l_purse ["_law_script", "_law_at_here"] (defScope s_l_purse) := ⟨rfl, rfl, rfl, by decide +kernel, rfl, by decide +kernel, by decide +kernel⟩
abbrev s_l_draw : Stmt := topS 21
abbrev N_l_draw : List Str := ["_law_purse_here", "_law_out_of", "_law_drawn", "_law_number_here", "_law_k"]
theorem sc_l_draw : FnScope N_l_draw ["_law_purse_here", "_law_out_of"] (defScope s_l_draw) := ⟨rfl, rfl, rfl, by decide +kernel, rfl, by decide +kernel, by decide +kernel⟩
abbrev s_l_number : Stmt := topS 22
abbrev N_l_number : List Str := ["_law_purse_here", "_law_most", "_law_far"]
theorem sc_l_number : FnScope N_l_number ["_law_purse_here", "_law_most"] (defScope s_l_number) := ⟨rfl, rfl, rfl, by decide +kernel, rfl, by decide +kernel, by decide +kernel⟩
abbrev s_l_end : Stmt := topS 23
abbrev N_l_end : List Str := ["_law_purse_here", "_law_ends", "_law_most", "_law_near"]
theorem sc_l_end : FnScope N_l_end ["_law_purse_here", "_law_ends", "_law_most"] (defScope s_l_end) := ⟨rfl, rfl, rfl, by decide +kernel, rfl, by decide +kernel, by decide +kernel⟩
abbrev s_l_span : Stmt := topS 24
abbrev N_l_span : List Str := ["_law_purse_here", "_law_ends", "_law_most", "_law_one", "_law_other", "_law_low", "_law_high"]
theorem sc_l_span : FnScope N_l_span ["_law_purse_here", "_law_ends", "_law_most"] (defScope s_l_span) := ⟨rfl, rfl, rfl, by decide +kernel, rfl, by decide +kernel, by decide +kernel⟩
abbrev s_l_spans : Stmt := topS 25
abbrev N_l_spans : List Str := ["_law_purse_here", "_law_ends", "_law_most", "_law_found", "_law_k"]
theorem sc_l_spans : FnScope N_l_spans ["_law_purse_here", "_law_ends", "_law_most"] (defScope s_l_spans) := ⟨rfl, rfl, rfl, by decide +kernel, rfl, by decide +kernel, by decide +kernel⟩
abbrev s_l_holds : Stmt := topS 26
abbrev N_l_holds : List Str := ["_law_span_here", "_law_place"]
theorem sc_l_holds : FnScope N_l_holds ["_law_span_here", "_law_place"] (defScope s_l_holds) := ⟨rfl, rfl, rfl, by decide +kernel, rfl, by decide +kernel, by decide +kernel⟩
abbrev s_l_meet : Stmt := topS 27
abbrev N_l_meet : List Str := ["_law_one", "_law_other"]
theorem sc_l_meet : FnScope N_l_meet ["_law_one", "_law_other"] (defScope s_l_meet) := ⟨rfl, rfl, rfl, by decide +kernel, rfl, by decide +kernel, by decide +kernel⟩
abbrev s_l_apart : Stmt := topS 28
abbrev N_l_apart : List Str := ["_law_spans_here", "_law_k", "_law_one"]
theorem sc_l_apart : FnScope N_l_apart ["_law_spans_here"] (defScope s_l_apart) := ⟨rfl, rfl, rfl, by decide +kernel, rfl, by decide +kernel, by decide +kernel⟩
abbrev s_l_unpierced : Stmt := topS 29
abbrev N_l_unpierced : List Str := ["_law_spans_here", "_law_pins", "_law_found", "_law_span_here", "_law_pin"]
theorem sc_l_unpierced : FnScope N_l_unpierced ["_law_spans_here", "_law_pins"] (defScope s_l_unpierced) := ⟨rfl, rfl, rfl, by decide +kernel, rfl, by decide +kernel, by decide +kernel⟩
abbrev s_l_lots : Stmt := topS 30
abbrev N_l_lots : List Str := ["_law_some", "_law_lots_here", "_law_one", "_law_lot"]
theorem sc_l_lots : FnScope N_l_lots ["_law_some"] (defScope s_l_lots) := ⟨rfl, rfl, rfl, by decide +kernel, rfl, by decide +kernel, by decide +kernel⟩
abbrev s_l_many : Stmt := topS 31
abbrev N_l_many : List Str := ["_law_spans_here"]
theorem sc_l_many : FnScope N_l_many ["_law_spans_here"] (defScope s_l_many) := ⟨rfl, rfl, rfl, by decide +kernel, rfl, by decide +kernel, by decide +kernel⟩
abbrev s_law : Stmt := topS 32
abbrev N_law : List Str := ["_law_script", "_law_purse_here", "_law_spans_here", "_law_many_here", "_law_best", "_law_lot", "_law_some", "_law_least", "_law_pins", "_law_chosen", "_law_twice", "_law_number_here", "_law_span_here"]
theorem sc_law : FnScope N_law ["_law_script"] (defScope s_law) := ⟨rfl, rfl, rfl, by decide +kernel, rfl, by decide +kernel, by decide +kernel⟩

structure Tx (K : PySem.W.Frag) (mg : Str → Option Value) where
  f_is_whole : Addr
  fd_is_whole : FuncData
  F_is_whole : Fun K "is_whole" "is_whole" s_is_whole f_is_whole fd_is_whole
  b_is_whole : Binds K fd_is_whole ["number"] []
  g_is_whole : mg "is_whole" = some (.ref f_is_whole)
  f_is_place : Addr
  fd_is_place : FuncData
  F_is_place : Fun K "is_place" "is_place" s_is_place f_is_place fd_is_place
  b_is_place : Binds K fd_is_place ["number"] []
  g_is_place : mg "is_place" = some (.ref f_is_place)
  f_is_span : Addr
  fd_is_span : FuncData
  F_is_span : Fun K "is_span" "is_span" s_is_span f_is_span fd_is_span
  b_is_span : Binds K fd_is_span ["span"] []
  g_is_span : mg "is_span" = some (.ref f_is_span)
  f_check_span : Addr
  fd_check_span : FuncData
  F_check_span : Fun K "check_span" "check_span" s_check_span f_check_span fd_check_span
  b_check_span : Binds K fd_check_span ["span"] []
  g_check_span : mg "check_span" = some (.ref f_check_span)
  f_check_spans : Addr
  fd_check_spans : FuncData
  F_check_spans : Fun K "check_spans" "check_spans" s_check_spans f_check_spans fd_check_spans
  b_check_spans : Binds K fd_check_spans ["spans"] []
  g_check_spans : mg "check_spans" = some (.ref f_check_spans)
  f_are_numbers : Addr
  fd_are_numbers : FuncData
  F_are_numbers : Fun K "are_numbers" "are_numbers" s_are_numbers f_are_numbers fd_are_numbers
  b_are_numbers : Binds K fd_are_numbers ["chosen", "spans"] []
  g_are_numbers : mg "are_numbers" = some (.ref f_are_numbers)
  cA_are_numbers : Addr
  pA_are_numbers : Addr
  FC_are_numbers : FunC K "are_numbers" "are_numbers" s_are_numbers f_are_numbers fd_are_numbers cA_are_numbers
  f_all_apart : Addr
  fd_all_apart : FuncData
  F_all_apart : Fun K "all_apart" "all_apart" s_all_apart f_all_apart fd_all_apart
  b_all_apart : Binds K fd_all_apart ["spans"] []
  g_all_apart : mg "all_apart" = some (.ref f_all_apart)
  cA_all_apart : Addr
  pA_all_apart : Addr
  FC_all_apart : FunC K "all_apart" "all_apart" s_all_apart f_all_apart fd_all_apart cA_all_apart
  f_is_pierced : Addr
  fd_is_pierced : FuncData
  F_is_pierced : Fun K "is_pierced" "is_pierced" s_is_pierced f_is_pierced fd_is_pierced
  b_is_pierced : Binds K fd_is_pierced ["span", "pins"] []
  g_is_pierced : mg "is_pierced" = some (.ref f_is_pierced)
  cA_is_pierced : Addr
  pA_is_pierced : Addr
  FC_is_pierced : FunC K "is_pierced" "is_pierced" s_is_pierced f_is_pierced fd_is_pierced cA_is_pierced
  f_most_apart : Addr
  fd_most_apart : FuncData
  F_most_apart : Fun K "most_apart" "most_apart" s_most_apart f_most_apart fd_most_apart
  b_most_apart : Binds K fd_most_apart ["spans"] []
  g_most_apart : mg "most_apart" = some (.ref f_most_apart)
  f_shows_apart : Addr
  fd_shows_apart : FuncData
  F_shows_apart : Fun K "shows_apart" "shows_apart" s_shows_apart f_shows_apart fd_shows_apart
  b_shows_apart : Binds K fd_shows_apart ["spans", "chosen", "pins"] []
  g_shows_apart : mg "shows_apart" = some (.ref f_shows_apart)
  cA_shows_apart : Addr
  pA_shows_apart : Addr
  FC_shows_apart : FunC K "shows_apart" "shows_apart" s_shows_apart f_shows_apart fd_shows_apart cA_shows_apart
  f_l_at : Addr
  fd_l_at : FuncData
  F_l_at : Fun K "_law_at" "_law_at" s_l_at f_l_at fd_l_at
  b_l_at : Binds K fd_l_at ["_law_script", "_law_k"] []
  g_l_at : mg "_law_at" = some (.ref f_l_at)
  f_l_mixed : Addr
  fd_l_mixed : FuncData
  F_l_mixed : Fun K "_law_mixed" "_law_mixed" s_l_mixed f_l_mixed fd_l_mixed
  b_l_mixed : Binds K fd_l_mixed ["_law_cell", "_law_k"] []
  g_l_mixed : mg "_law_mixed" = some (.ref f_l_mixed)
  f_l_purse : Addr
  fd_l_purse : FuncData
  F_l_purse : Fun K "_law_purse" "_law_purse" s_l_purse f_l_purse fd_l_purse
  b_l_purse : Binds K fd_l_purse ["_law_script", "_law_at_here"] []
  g_l_purse : mg "_law_purse" = some (.ref f_l_purse)
  f_l_draw : Addr
  fd_l_draw : FuncData
  F_l_draw : Fun K "_law_draw" "_law_draw" s_l_draw f_l_draw fd_l_draw
  b_l_draw : Binds K fd_l_draw ["_law_purse_here", "_law_out_of"] []
  g_l_draw : mg "_law_draw" = some (.ref f_l_draw)
  f_l_number : Addr
  fd_l_number : FuncData
  F_l_number : Fun K "_law_number" "_law_number" s_l_number f_l_number fd_l_number
  b_l_number : Binds K fd_l_number ["_law_purse_here", "_law_most"] []
  g_l_number : mg "_law_number" = some (.ref f_l_number)
  f_l_end : Addr
  fd_l_end : FuncData
  F_l_end : Fun K "_law_end" "_law_end" s_l_end f_l_end fd_l_end
  b_l_end : Binds K fd_l_end ["_law_purse_here", "_law_ends", "_law_most"] []
  g_l_end : mg "_law_end" = some (.ref f_l_end)
  f_l_span : Addr
  fd_l_span : FuncData
  F_l_span : Fun K "_law_span" "_law_span" s_l_span f_l_span fd_l_span
  b_l_span : Binds K fd_l_span ["_law_purse_here", "_law_ends", "_law_most"] []
  g_l_span : mg "_law_span" = some (.ref f_l_span)
  f_l_spans : Addr
  fd_l_spans : FuncData
  F_l_spans : Fun K "_law_spans" "_law_spans" s_l_spans f_l_spans fd_l_spans
  b_l_spans : Binds K fd_l_spans ["_law_purse_here", "_law_ends", "_law_most"] []
  g_l_spans : mg "_law_spans" = some (.ref f_l_spans)
  f_l_holds : Addr
  fd_l_holds : FuncData
  F_l_holds : Fun K "_law_holds" "_law_holds" s_l_holds f_l_holds fd_l_holds
  b_l_holds : Binds K fd_l_holds ["_law_span_here", "_law_place"] []
  g_l_holds : mg "_law_holds" = some (.ref f_l_holds)
  f_l_meet : Addr
  fd_l_meet : FuncData
  F_l_meet : Fun K "_law_meet" "_law_meet" s_l_meet f_l_meet fd_l_meet
  b_l_meet : Binds K fd_l_meet ["_law_one", "_law_other"] []
  g_l_meet : mg "_law_meet" = some (.ref f_l_meet)
  f_l_apart : Addr
  fd_l_apart : FuncData
  F_l_apart : Fun K "_law_apart" "_law_apart" s_l_apart f_l_apart fd_l_apart
  b_l_apart : Binds K fd_l_apart ["_law_spans_here"] []
  g_l_apart : mg "_law_apart" = some (.ref f_l_apart)
  f_l_unpierced : Addr
  fd_l_unpierced : FuncData
  F_l_unpierced : Fun K "_law_unpierced" "_law_unpierced" s_l_unpierced f_l_unpierced fd_l_unpierced
  b_l_unpierced : Binds K fd_l_unpierced ["_law_spans_here", "_law_pins"] []
  g_l_unpierced : mg "_law_unpierced" = some (.ref f_l_unpierced)
  f_l_lots : Addr
  fd_l_lots : FuncData
  F_l_lots : Fun K "_law_lots" "_law_lots" s_l_lots f_l_lots fd_l_lots
  b_l_lots : Binds K fd_l_lots ["_law_some"] []
  g_l_lots : mg "_law_lots" = some (.ref f_l_lots)
  f_l_many : Addr
  fd_l_many : FuncData
  F_l_many : Fun K "_law_many" "_law_many" s_l_many f_l_many fd_l_many
  b_l_many : Binds K fd_l_many ["_law_spans_here"] []
  g_l_many : mg "_law_many" = some (.ref f_l_many)
  f_law : Addr
  fd_law : FuncData
  F_law : Fun K "law" "law" s_law f_law fd_law
  b_law : Binds K fd_law ["_law_script"] []
  g_law : mg "law" = some (.ref f_law)
  tc_LEAST_PLACE : Tok
  c_LEAST_PLACE : mg "LEAST_PLACE" = some (.int (-999999999999) tc_LEAST_PLACE)
  tc_GREATEST_PLACE : Tok
  c_GREATEST_PLACE : mg "GREATEST_PLACE" = some (.int (999999999999) tc_GREATEST_PLACE)
  C_ShelfError : Addr
  g_ShelfError : mg "ShelfError" = some (.ref C_ShelfError)
  x_ShelfError : PySem.W.excIn K C_ShelfError [.type "ValueError", .type "Exception", .type "BaseException", .type "object"] "ValueError.__new__" = true
  k_ShelfError : PySem.W.keepIn K (.ref C_ShelfError) = true
  b_ShelfError : PySem.W.subIn K (.ref C_ShelfError) (.type "BaseException") = some true
  t_ShelfError : PySem.W.typeIn K (.ref C_ShelfError) = some (.type "type")
  C_NoSpan : Addr
  g_NoSpan : mg "NoSpan" = some (.ref C_NoSpan)
  x_NoSpan : PySem.W.excIn K C_NoSpan [.type "ValueError", .type "Exception", .type "BaseException", .type "object"] "ValueError.__new__" = true
  k_NoSpan : PySem.W.keepIn K (.ref C_NoSpan) = true
  b_NoSpan : PySem.W.subIn K (.ref C_NoSpan) (.type "BaseException") = some true
  t_NoSpan : PySem.W.typeIn K (.ref C_NoSpan) = some (.type "type")
  m_all : mg "all" = none
  m_any : mg "any" = none
  m_bool : mg "bool" = none
  m_enumerate : mg "enumerate" = none
  m_int : mg "int" = none
  m_isinstance : mg "isinstance" = none
  m_len : mg "len" = none
  m_list : mg "list" = none
  m_max : mg "max" = none
  m_min : mg "min" = none
  m_range : mg "range" = none
  m_set : mg "set" = none
  m_sorted : mg "sorted" = none
  m_tuple : mg "tuple" = none
  m_zip : mg "zip" = none
structure Tbs {K : PySem.W.Frag} {mg : Str → Option Value} (T : Tx K mg) (base : Heap) : Prop where
  t_are_numbers : GxR.TabB base mg T.cA_are_numbers T.pA_are_numbers
  t_all_apart : GxR.TabB base mg T.cA_all_apart T.pA_all_apart
  t_is_pierced : GxR.TabB base mg T.cA_is_pierced T.pA_is_pierced
  t_shows_apart : GxR.TabB base mg T.cA_shows_apart T.pA_shows_apart
def Tx.tabs {K : PySem.W.Frag} {mg : Str → Option Value} (T : Tx K mg) : List Addr := [T.pA_are_numbers, T.pA_all_apart, T.pA_is_pierced, T.pA_shows_apart]
section
variable {P : Program} {w : World} {K : PySem.W.Frag} {mg : Str → Option Value} {base : Heap}
/-! ### the cell, the mixing, the purse, a draw -/
def spAt (K : PySem.W.Frag) : Sp := fun vs H Q _ => ∃ (a : Addr) (ns : List Int) (k : Int), vs = [.ref a, .int k] ∧ SqL K H a (ns.map V.int) ∧ 0 ≤ k ∧ ∀ z, Q (.int z) H
theorem ok_at (T : Tx K mg) : FnOk P w K mg base CX0 (1) T.f_l_at T.fd_l_at ["_law_script", "_law_k"] (spAt K) := by
  refine T.F_l_at.ok sc_l_at (fun vs H Q E h => ?_) (fun cdv A outer s H vs Q E hr h => ?_)
  · obtain ⟨a, ns, k, rfl, _⟩ := h
    rfl
  · obtain ⟨a, ns, k, rfl, hS, h0, q⟩ := h
    refine ⟨_, (pss_cons (ps_if (pt_cmpR op_lt (pv 1) (pe_callB call_len_seq (by rfl) T.m_len PySem.boot_len (pa_cons (pv 0) pa_nil)) (nomark _)) (pss_one (ps_ret (pe_ix ix_list (pv 0) (pv 1) (fun _ _ => rfl)))) pss_nil)
      (pss_one (ps_ret pe_int))), ?_⟩
    refine ⟨_, rfl, _, rfl, a, _, rfl, .inl hS, _, _, rfl, rfl, _, rfl, ite2 (fun e => ?_) (fun e => ?_)⟩
    · have e0 : k < ((ns.map V.int).length : Int) := of_decide_eq_true e
      rw [List.length_map] at e0
      have h1 : k.toNat < ns.length := by omega
      refine ⟨_, rfl, _, rfl, a, _, k, .int ns[k.toNat], rfl, rfl, hS, at_of (j := k.toNat) (by omega) ?_, q _⟩
      rw [List.getElem?_map, List.getElem?_eq_getElem h1]
      rfl
    · exact q 0
def spMixed : Sp := fun vs H Q _ => ∃ (a k : Int), vs = [.int a, .int k] ∧ 0 ≤ k ∧ k < 2 ^ 60 ∧ 0 ≤ a ∧ a < 2 ^ 60 ∧ ∀ z : Int, 0 ≤ z → z < 2147483587 → Q (.int z) H
theorem ok_mixed (T : Tx K mg) : FnOk P w K mg base CX0 (1) T.f_l_mixed T.fd_l_mixed ["_law_cell", "_law_k"] spMixed := by
  refine T.F_l_mixed.ok sc_l_mixed (fun vs H Q E h => ?_) (fun cdv A outer s H vs Q E hr h => ?_)
  · obtain ⟨a, k, rfl, _⟩ := h
    rfl
  · obtain ⟨a, k, rfl, h0, h1, h2, h3, q⟩ := h
    refine ⟨_, (pss_cons (ps_set (i := 2) sc_l_mixed.nd rfl (Or.inl rfl) (pe_op op_mod (pe_op op_add (pe_op op_add (pe_op op_add (pe_op op_mul (pv 0) pe_int) (pe_op op_mul (pe_op op_mul pe_int (pv 1)) (pv 1))) (pv 1)) pe_int) pe_int))
      (pss_cons (ps_set (i := 2) sc_l_mixed.nd rfl (Or.inl rfl) (pe_op op_mod (pe_op op_add (pe_op op_mul (pv 2) (pv 2)) pe_int) pe_int))
      (pss_one (ps_ret (pe_op op_mod (pe_op op_mul (pv 2) pe_int) pe_int))))), ?_⟩
    refine ⟨_, rfl, _, _, rfl, rfl, .inr ⟨by decide, by decide⟩, _, rfl, _, _, rfl, rfl, .inl ⟨by decide, by decide⟩, _, rfl, _, _, rfl, rfl, .inr ⟨by omega, by omega⟩, _, _, rfl, rfl, _, rfl, _, _, rfl, rfl, _, _, rfl, rfl, _, _, rfl, rfl, by show (0 : Int) < 2147483647; decide, ?_⟩
    generalize hx : (a * 1103515245 + 7919 * k * k + k + 1) % 2147483647 = x
    have x0 : 0 ≤ x := by omega
    have x1 : x < 2147483647 := by omega
    clear hx
    refine ⟨_, rfl, _, rfl, _, _, rfl, rfl, .inl ⟨by omega, by omega⟩, _, _, rfl, rfl, _, _, rfl, rfl, by show (0 : Int) < 2147483629; decide, ?_⟩
    generalize hy : (x * x + 69621) % 2147483629 = y
    have y0 : 0 ≤ y := by omega
    have y1 : y < 2147483629 := by omega
    clear hy
    refine ⟨_, rfl, _, _, rfl, rfl, .inl ⟨by omega, by omega⟩, _, _, rfl, rfl, by show (0 : Int) < 2147483587; decide, ?_⟩
    exact q _ (by omega) (by omega)
def spPurse (K : PySem.W.Frag) : Sp := fun vs H Q _ => ∃ (a : Addr) (ns : List Int) (k : Int), vs = [.ref a, .int k] ∧ SqL K H a (ns.map V.int) ∧ 0 ≤ k ∧ k ≤ 63 ∧ ∀ H' p, Same H H' → H p = none → Pu H' p 63000 → Q (.ref p) H'
theorem ok_purse (T : Tx K mg) : FnOk P w K mg base CX0 (2) T.f_l_purse T.fd_l_purse ["_law_script", "_law_at_here"] (spPurse K) := by
  have G_l_at : FnOk P w K mg base CX0 _ _ _ _ _ := ok_at T
  refine T.F_l_purse.ok sc_l_purse (fun vs H Q E h => ?_) (fun cdv A outer s H vs Q E hr h => ?_)
  · obtain ⟨a, ns, k, rfl, _⟩ := h
    rfl
  · obtain ⟨a, ns, k, rfl, hS, h0, h1, q⟩ := h
    refine ⟨_, (pss_cons (ps_set (i := 2) sc_l_purse.nd rfl (Or.inl rfl) (pe_call G_l_at (hr.mono (by decide)) (by rfl) T.g_l_at T.F_l_at.kp T.b_l_at .nil pass0 (pa_cons (pv 0) (pa_cons (pv 1) pa_nil))))
      (pss_one (ps_ret (pe_lst (pa_cons (pe_callB (call_max2 rfl) (by rfl) T.m_max (by decide +kernel) (pa_cons (pe_op op_sub (pv 2) (pe_op op_pow pe_int pe_int)) (pa_cons pe_int pa_nil))) (pa_cons (pe_op op_mod (pv 2) pe_int) (pa_cons (pe_op op_mul pe_int (pv 1)) pa_nil))))))), ?_⟩
    refine ⟨_, rfl, _, rfl, a, ns, k, rfl, hS, h0, fun z => ?_⟩
    refine ⟨_, rfl, _, _, rfl, rfl, ⟨by decide, by decide, by decide⟩, _, _, rfl, rfl, _, _, rfl, _, rfl, _, _, rfl, rfl, by show (0 : Int) < 2147483647; decide, _, rfl, _, _, rfl, rfl, .inl ⟨by decide, by decide⟩, small_le (by simp), fun p np => ?_⟩
    refine q _ p (same_upd np) np ⟨_, _, _, upd_same, ?_, by omega, by omega, by omega, by omega⟩
    split <;> omega
def spDraw : Sp := fun vs H Q _ => ∃ (p : Addr) (m : Int) (n : Nat), vs = [.ref p, .int m] ∧ Pu H p n ∧ n ≤ 1000000000 ∧ 0 < m ∧ m < 2 ^ 88 ∧ ∀ H' r, Chg [p] H H' → Pu H' p (n + 3) → 0 ≤ r → r < m → Q (.int r) H'
theorem bits_le {m : Int} (h0 : 0 < m) (h1 : m < 2 ^ 88) : (Builtin.Int.intBits m : Nat) ≤ 88 := by
  have h : m.natAbs < 2 ^ 88 := by
    have e : (2 : Int) ^ 88 = ((2 ^ 88 : Nat) : Int) := by decide
    rw [e] at h1
    omega
  exact PyProof.Rows.intBits_le h
theorem ok_draw (T : Tx K mg) : FnOk P w K mg base CX0 (2) T.f_l_draw T.fd_l_draw ["_law_purse_here", "_law_out_of"] spDraw := by
  have G_l_mixed : FnOk P w K mg base CX0 _ _ _ _ _ := ok_mixed T
  refine T.F_l_draw.ok sc_l_draw (fun vs H Q E h => ?_) (fun cdv A outer s H vs Q E hr h => ?_)
  · obtain ⟨p, m, n, rfl, _⟩ := h
    rfl
  · obtain ⟨p, m, n, rfl, hp, hn, h0, h1, q⟩ := h
    obtain ⟨a, b, c, hP, ha, hb, hb1, hc, hc1⟩ := hp
    refine ⟨_, (pss_cons (ps_if (pt_cmpR op_gt (pe_ix ix_list (pv 0) pe_int (fun _ _ => rfl)) pe_int (nomark _)) (pss_cons (ps_set (i := 2) sc_l_draw.nd rfl (Or.inl rfl) (pe_op op_mod (pe_ix ix_list (pv 0) pe_int (fun _ _ => rfl)) (pv 1)))
      (pss_cons (ps_asg (pe_op op_fdivW (pe_ix ix_list (pv 0) pe_int (fun _ _ => rfl)) (pv 1)) (pg_sub (pv 0) pe_int set_list))
      (pss_one (ps_ret (pv 2))))) pss_nil)
      (pss_cons (ps_set (i := 3) sc_l_draw.nd rfl (Or.inl rfl) pe_int)
      (pss_cons (ps_for PassesOwn.never (by rfl) (pi_range1 (by rfl) T.m_range (pa_cons (pe_op op_add pe_int (pe_op op_fdiv (pe_bits (pv 1)) pe_int)) pa_nil)) (pg_name (i := 4) sc_l_draw.nd rfl (Or.inl rfl))
        (pss_cons (ps_asg (pe_op op_add (pe_ix ix_list (pv 0) pe_int (fun _ _ => rfl)) pe_int) (pg_sub (pv 0) pe_int set_list))
      (pss_one (ps_set (i := 3) sc_l_draw.nd rfl (Or.inl rfl) (pe_op op_add (pe_op op_mul (pv 3) pe_int) (pe_call G_l_mixed (hr.mono (by decide)) (by rfl) T.g_l_mixed T.F_l_mixed.kp T.b_l_mixed .nil pass0 (pa_cons (pe_ix ix_list (pv 0) pe_int (fun _ _ => rfl)) (pa_cons (pe_ix ix_list (pv 0) pe_int (fun _ _ => rfl)) pa_nil))))))))
      (pss_one (ps_ret (pe_op op_mod (pv 3) (pv 1))))))), ?_⟩
    have hS : SqL K H p [.int a, .int b, .int c] := SqL.of hP
    refine ⟨_, rfl, p, _, _, _, rfl, rfl, hS, atI_nat (j := 0) rfl, _, _, rfl, rfl, _, rfl, ite2 (fun e => ?_) (fun e => ?_)⟩
    · have ea : 0 < a := of_decide_eq_true e
      refine ⟨_, rfl, p, _, _, _, rfl, rfl, hS, atI_nat (j := 0) rfl, _, rfl, _, _, rfl, rfl, h0, ?_⟩
      refine ⟨_, rfl, p, _, _, _, rfl, rfl, hS, atI_nat (j := 0) rfl, _, rfl, _, _, rfl, rfl, wide_div (b := 88) h0 ?_ (by decide) (by decide), ?_⟩
      · have e : (2 : Int) ^ 88 = ((2 ^ 88 : Nat) : Int) := by decide
        rw [e] at h1
        omega
      refine ⟨_, rfl, p, _, _, 0, rfl, rfl, hP, rfl, ?_⟩
      refine ⟨_, rfl, ?_⟩
      refine q _ _ (Chg.upd List.mem_cons_self) ⟨a / m, b, c, upd_same, Int.ediv_nonneg ha (by omega), hb, hb1, hc, by omega⟩ (Int.emod_nonneg _ (by omega)) (Int.emod_lt_of_pos _ h0)
    · have hb88 := bits_le h0 h1
      refine ⟨_, rfl, _, rfl, _, _, rfl, rfl, ⟨by decide, by decide⟩, _, _, rfl, rfl, _, rfl, by omega, by omega, ?_⟩
      refine for_range (lo := 0) (n := (1 + ((Builtin.Int.intBits m : Nat) : Int) / 30).toNat) (fun i σ H' => ∃ (x : Int) (c' : Int) (y4 : Option V), σ = [some (.ref p), some (.int m), none, some (.int x), y4] ∧ Chg [p] H H' ∧ H' p = some (.lst [.int a, .int b, .int c']) ∧ c' = c + i ∧ 0 ≤ x ∧ x < 2 ^ (32 * i)) ⟨0, c, none, rfl, Chg.refl _ _, hP, by omega, by omega, by decide⟩ ?_ ?_
      · rintro i σ H' hi ⟨x, c', y4, rfl, hch, hP', hc', x0, x1⟩
        have hi3 : i ≤ 2 := by omega
        refine ⟨_, rfl, p, _, _, _, rfl, rfl, SqL.of hP', atI_nat (j := 2) rfl, _, _, rfl, rfl, _, rfl, p, _, _, 2, rfl, rfl, hP', rfl, ?_⟩
        have hP2 : (upd H' p (.lst [.int a, .int b, .int (c' + 1)])) p = some (.lst [.int a, .int b, .int (c' + 1)]) := upd_same
        refine ⟨_, rfl, _, _, rfl, rfl, .inr ⟨by decide, by decide⟩, _, rfl, p, _, _, _, rfl, rfl, SqL.of hP2, atI_nat (j := 1) rfl, _, rfl, p, _, _, _, rfl, rfl, SqL.of hP2, atI_nat (j := 2) rfl, b, c' + 1, rfl, by omega, by omega, hb, by omega, fun z z0 z1 => ?_⟩
        refine ⟨_, _, rfl, rfl, x * 2147483587 + z, c' + 1, _, rfl, hch.trans (Chg.upd List.mem_cons_self), hP2, by omega, by omega, ?_⟩
        have e : (2 : Int) ^ (32 * (i + 1)) = 2 ^ (32 * i) * 4294967296 := by
          rw [Nat.mul_add, Int.pow_add]
          rfl
        rw [e]
        omega
      · rintro σ H' ⟨x, c', y4, rfl, hch, hP', hc', x0, x1⟩
        refine ⟨_, rfl, _, rfl, _, _, rfl, rfl, h0, ?_⟩
        exact q _ _ hch ⟨a, b, c', hP', ha, hb, hb1, by omega, by omega⟩ (Int.emod_nonneg _ (by omega)) (Int.emod_lt_of_pos _ h0)
end
section
variable {P : Program} {w : World} {K : PySem.W.Frag} {mg : Str → Option Value} {base : Heap}
/-! ### a number, an end, a span -/
def spNumber : Sp := fun vs H Q _ => ∃ (p : Addr) (m : Int) (n : Nat), vs = [.ref p, .int m] ∧ Pu H p n ∧ n + 6 ≤ 1000000000 ∧ 30 ≤ m ∧ m < 2 ^ 60 ∧ ∀ H' r, Chg [p] H H' → Pu H' p (n + 6) → -m ≤ r → r ≤ m → Q (.int r) H'
theorem far_of {m r : Int} (h0 : 0 ≤ r) (h1 : r < 4) (hm : 30 ≤ m) : ∃ f, ([.int 1, .int 4, .int 30, .int m] : List V)[r.toNat]? = some (.int f) ∧ 1 ≤ f ∧ f ≤ m := by
  have h : r = 0 ∨ r = 1 ∨ r = 2 ∨ r = 3 := by omega
  rcases h with rfl | rfl | rfl | rfl
  · exact ⟨1, rfl, by omega, by omega⟩
  · exact ⟨4, rfl, by omega, by omega⟩
  · exact ⟨30, rfl, by omega, by omega⟩
  · exact ⟨m, rfl, by omega, by omega⟩
theorem ok_number (T : Tx K mg) : FnOk P w K mg base CX0 (3) T.f_l_number T.fd_l_number ["_law_purse_here", "_law_most"] spNumber := by
  have G_l_draw : FnOk P w K mg base CX0 _ _ _ _ _ := ok_draw T
  refine T.F_l_number.ok sc_l_number (fun vs H Q E h => ?_) (fun cdv A outer s H vs Q E hr h => ?_)
  · obtain ⟨p, m, n, rfl, _⟩ := h
    rfl
  · obtain ⟨p, m, n, rfl, hp, hn, h0, h1, q⟩ := h
    refine ⟨_, (pss_cons (ps_set (i := 2) sc_l_number.nd rfl (Or.inl rfl) (pe_ix ix_list (pe_lst (pa_cons pe_int (pa_cons pe_int (pa_cons pe_int (pa_cons (pv 1) pa_nil))))) (pe_call G_l_draw (hr.mono (by decide)) (by rfl) T.g_l_draw T.F_l_draw.kp T.b_l_draw .nil pass0 (pa_cons (pv 0) (pa_cons pe_int pa_nil))) (fun _ _ => rfl)))
      (pss_one (ps_ret (pe_op op_sub (pe_call G_l_draw (hr.mono (by decide)) (by rfl) T.g_l_draw T.F_l_draw.kp T.b_l_draw .nil pass0 (pa_cons (pv 0) (pa_cons (pe_op op_add (pe_op op_mul pe_int (pv 2)) pe_int) pa_nil))) (pv 2))))), ?_⟩
    refine ⟨_, rfl, small_le (by simp), fun l nl => ?_⟩
    have s1 := same_upd (o := .lst [.int 1, .int 4, .int 30, .int m]) nl
    have npl : p ≠ l := hp.ne nl
    refine ⟨_, rfl, p, 4, n, rfl, hp.same s1, by omega, by decide, by decide, fun H1 r c1 p1 r0 r1 => ?_⟩
    obtain ⟨f, hf, f0, f1⟩ := far_of r0 r1 h0
    refine ⟨l, _, r, _, rfl, rfl, SqL.of (c1 _ _ (nmem1 npl.symm) upd_same), at_of (j := r.toNat) (by omega) hf, ?_⟩
    refine ⟨_, rfl, _, rfl, _, _, rfl, rfl, .inl ⟨by decide, by decide⟩, _, _, rfl, rfl, p, 2 * f + 1, n + 3, rfl, p1, by omega, by omega, by omega, fun H2 x c2 p2 x0 x1 => ?_⟩
    refine ⟨_, rfl, _, _, rfl, rfl, q _ _ ((Chg.of_same s1).trans (c1.trans c2)) p2 (by omega) (by omega)⟩
def spEnd (K : PySem.W.Frag) : Sp := fun vs H Q _ => ∃ (p e : Addr) (m : Int) (n : Nat) (ns : List Int), vs = [.ref p, .ref e, .int m] ∧ Pu H p n ∧ n + 9 ≤ 1000000000 ∧ SqL K H e (ns.map V.int) ∧ e ≠ p ∧ ns.length ≤ 1000000 ∧ 30 ≤ m ∧ m < 2 ^ 60 ∧
  ∀ H' r, Chg [p] H H' → Pu H' p (n + 9) → -m ≤ r → r ≤ m → Q (.int r) H'
theorem ok_end (T : Tx K mg) : FnOk P w K mg base CX0 (4) T.f_l_end T.fd_l_end ["_law_purse_here", "_law_ends", "_law_most"] (spEnd K) := by
  have G_l_draw : FnOk P w K mg base CX0 _ _ _ _ _ := ok_draw T
  have G_l_number : FnOk P w K mg base CX0 _ _ _ _ _ := ok_number T
  refine T.F_l_end.ok sc_l_end (fun vs H Q E h => ?_) (fun cdv A outer s H vs Q E hr h => ?_)
  · obtain ⟨p, e, m, n, ns, rfl, _⟩ := h
    rfl
  · obtain ⟨p, e, m, n, ns, rfl, hp, hn, hE, hne, hlen, h0, h1, q⟩ := h
    refine ⟨_, (pss_cons (ps_if (PW.pt (pw_and (pt_cmpR (op_neD hr.units) (pv 1) (pe_lst pa_nil) (nomark _)) (pw_and1 (pt_cmpR op_gt (pe_call G_l_draw (hr.mono (by decide)) (by rfl) T.g_l_draw T.F_l_draw.kp T.b_l_draw .nil pass0 (pa_cons (pv 0) (pa_cons pe_int pa_nil))) pe_int (nomark _))))) (pss_cons (ps_set (i := 3) sc_l_end.nd rfl (Or.inl rfl) (pe_op op_sub (pe_op op_add (pe_ix ix_list (pv 1) (pe_call G_l_draw (hr.mono (by decide)) (by rfl) T.g_l_draw T.F_l_draw.kp T.b_l_draw .nil pass0 (pa_cons (pv 0) (pa_cons (pe_callB call_len_seq (by rfl) T.m_len PySem.boot_len (pa_cons (pv 1) pa_nil)) pa_nil))) (fun _ _ => rfl)) (pe_call G_l_draw (hr.mono (by decide)) (by rfl) T.g_l_draw T.F_l_draw.kp T.b_l_draw .nil pass0 (pa_cons (pv 0) (pa_cons pe_int pa_nil)))) pe_int))
      (pss_one (ps_ret (pe_callB (call_max2 rfl) (by rfl) T.m_max (by decide +kernel) (pa_cons (pe_op op_sub pe_int (pv 2)) (pa_cons (pe_callB (call_min2 rfl) (by rfl) T.m_min (by decide +kernel) (pa_cons (pv 2) (pa_cons (pv 3) pa_nil))) pa_nil)))))) pss_nil)
      (pss_one (ps_ret (pe_call G_l_number (hr.mono (by decide)) (by rfl) T.g_l_number T.F_l_number.kp T.b_l_number .nil pass0 (pa_cons (pv 0) (pa_cons (pv 2) pa_nil)))))), ?_⟩
    refine ⟨_, rfl, Nat.zero_le _, fun l nl => ?_⟩
    have s1 := same_upd (o := .lst []) nl
    refine ⟨_, _, .lst (s1.seq hE) (dpAll_ints ns), .lst (SqL.of upd_same) .nil, shaped_ints ns, shaped_nil, _, rfl, ?_⟩
    rw [eqv_ints_nil]
    by_cases hnil : ns = []
    · rw [decide_eq_true hnil]
      refine iteF (iteF ?_)
      exact ⟨_, rfl, _, rfl, p, m, n, rfl, hp.same s1, by omega, h0, h1, fun H2 x c2 p2 x0 x1 => q _ _ ((Chg.of_same s1).trans c2) (p2.mono (by omega)) x0 x1⟩
    · rw [decide_eq_false hnil]
      have hl0 : 0 < ns.length := List.length_pos_iff.mpr hnil
      refine iteT ?_
      refine ⟨_, rfl, p, 3, n, rfl, hp.same s1, by omega, by decide, by decide, fun H1 r c1 p1 r0 r1 => ?_⟩
      have hE1 : SqL K H1 e (ns.map V.int) := c1.seq (nmem1 hne) (s1.seq hE)
      refine ⟨_, _, rfl, rfl, _, rfl, ite2 (fun _ => ?_) (fun _ => ?_)⟩
      · refine ⟨_, rfl, _, rfl, _, rfl, e, _, rfl, .inl hE1, p, ns.length, n + 3, ?_, p1, by omega, by omega, by omega, fun H2 x c2 p2 x0 x1 => ?_⟩
        · rw [List.length_map]
          rfl
        have hx : x.toNat < ns.length := by omega
        refine ⟨e, _, x, .int ns[x.toNat], rfl, rfl, c2.seq (nmem1 hne) hE1, at_of (j := x.toNat) (by omega) ?_, ?_⟩
        · rw [List.getElem?_map, List.getElem?_eq_getElem hx]
          rfl
        refine ⟨_, rfl, p, 3, n + 6, rfl, p2, by omega, by decide, by decide, fun H3 y c3 p3 y0 y1 => ?_⟩
        refine ⟨_, _, rfl, rfl, _, _, rfl, rfl, ?_⟩
        refine ⟨_, rfl, _, _, rfl, rfl, _, rfl, _, rfl, _, _, rfl, _, _, rfl, ?_⟩
        refine q _ _ ((Chg.of_same s1).trans (c1.trans (c2.trans c3))) p3 ?_ ?_
        · split <;> split <;> omega
        · split <;> split <;> omega
      · exact ⟨_, rfl, _, rfl, p, m, n + 3, rfl, p1, by omega, h0, h1, fun H2 x c2 p2 x0 x1 => q _ _ ((Chg.of_same s1).trans (c1.trans c2)) p2 x0 x1⟩
theorem min3_of (a b c : Int) : ∃ z, nuMin3 (.int a) (.int b) (.int c) = some (.int z) ∧ z ≤ a ∧ z ≤ b ∧ z ≤ c ∧ (z = a ∨ z = b ∨ z = c) := by
  have e2 : ∀ x y : Int, nuMin2 (.int x) (.int y) = some (.int (if y < x then y else x)) := fun x y => by
    show (some (decide (y < x))).map (fun c => if c = true then V.int y else V.int x) = _
    by_cases h : y < x <;> simp [h]
  refine ⟨if c < (if b < a then b else a) then c else (if b < a then b else a), ?_, ?_⟩
  · unfold nuMin3
    rw [e2]
    show nuMin2 _ _ = _
    rw [e2]
  · split <;> split <;> omega
theorem max3_of (a b c : Int) : ∃ z, nuMax3 (.int a) (.int b) (.int c) = some (.int z) ∧ a ≤ z ∧ b ≤ z ∧ c ≤ z ∧ (z = a ∨ z = b ∨ z = c) := by
  have e2 : ∀ x y : Int, nuMax2 (.int x) (.int y) = some (.int (if x < y then y else x)) := fun x y => by
    show (some (decide (x < y))).map (fun c => if c = true then V.int y else V.int x) = _
    by_cases h : x < y <;> simp [h]
  refine ⟨if (if a < b then b else a) < c then c else (if a < b then b else a), ?_, ?_⟩
  · unfold nuMax3
    rw [e2]
    show nuMax2 _ _ = _
    rw [e2]
  · split <;> split <;> omega
def spSpan : Sp := fun vs H Q _ => ∃ (p e : Addr) (m : Int) (n : Nat) (ns : List Int), vs = [.ref p, .ref e, .int m] ∧ Pu H p n ∧ n + 18 ≤ 1000000000 ∧ H e = some (.lst (ns.map V.int)) ∧ e ≠ p ∧ ns.length ≤ 100000 ∧ 30 ≤ m ∧ m < 2 ^ 60 ∧
  ∀ H' t lo hi, Chg [p, e] H H' → Pu H' p (n + 18) → H' e = some (.lst ((ns ++ [lo, hi]).map V.int)) → H t = none → H' t = some (.tup [.int lo, .int hi]) → -m ≤ lo → lo < hi → hi ≤ m → Q (.ref t) H'
theorem ok_span (T : Tx K mg) : FnOk P w K mg base CX0 (5) T.f_l_span T.fd_l_span ["_law_purse_here", "_law_ends", "_law_most"] spSpan := by
  have G_l_end : FnOk P w K mg base CX0 _ _ _ _ _ := ok_end T
  refine T.F_l_span.ok sc_l_span (fun vs H Q E h => ?_) (fun cdv A outer s H vs Q E hr h => ?_)
  · obtain ⟨p, e, m, n, ns, rfl, _⟩ := h
    rfl
  · obtain ⟨p, e, m, n, ns, rfl, hp, hn, hE, hne, hlen, h0, h1, q⟩ := h
    refine ⟨_, (pss_cons (ps_set (i := 3) sc_l_span.nd rfl (Or.inl rfl) (pe_call G_l_end (hr.mono (by decide)) (by rfl) T.g_l_end T.F_l_end.kp T.b_l_end .nil pass0 (pa_cons (pv 0) (pa_cons (pv 1) (pa_cons (pv 2) pa_nil)))))
      (pss_cons (ps_set (i := 4) sc_l_span.nd rfl (Or.inl rfl) (pe_call G_l_end (hr.mono (by decide)) (by rfl) T.g_l_end T.F_l_end.kp T.b_l_end .nil pass0 (pa_cons (pv 0) (pa_cons (pe_op op_cat (pv 1) (pe_lst (pa_cons (pv 3) pa_nil))) (pa_cons (pv 2) pa_nil)))))
      (pss_cons (ps_set (i := 5) sc_l_span.nd rfl (Or.inl rfl) (pe_callB (call_min3Nu rfl) (by rfl) T.m_min (by decide +kernel) (pa_cons (pv 3) (pa_cons (pv 4) (pa_cons (pe_op op_sub (pv 2) pe_int) pa_nil)))))
      (pss_cons (ps_set (i := 6) sc_l_span.nd rfl (Or.inl rfl) (pe_callB (call_max3Nu rfl) (by rfl) T.m_max (by decide +kernel) (pa_cons (pv 3) (pa_cons (pv 4) (pa_cons (pe_op op_add (pv 5) pe_int) pa_nil)))))
      (pss_cons (ps_expr (pe_bm PySem.F.plainAttrs_list PySem.F.slot_list_append PySem.F.type_list_append mt_append (pv 1) (pa_cons (pv 5) pa_nil)))
      (pss_cons (ps_expr (pe_bm PySem.F.plainAttrs_list PySem.F.slot_list_append PySem.F.type_list_append mt_append (pv 1) (pa_cons (pv 6) pa_nil)))
      (pss_one (ps_ret (pe_tup (pa_cons (pv 5) (pa_cons (pv 6) pa_nil))))))))))), ?_⟩
    have up : ∀ {H H' : Hp}, Chg [p] H H' → Chg [p, e] H H' := fun c => c.mono fun x hx => by
      rw [List.mem_singleton.mp hx]
      exact List.mem_cons_self
    refine ⟨_, rfl, _, rfl, _, rfl, p, e, m, n, ns, rfl, hp, by omega, SqL.of hE, hne, by omega, h0, h1, fun H1 x c1 p1 x0 x1 => ?_⟩
    have hE1 : H1 e = some (.lst (ns.map V.int)) := c1 _ _ (nmem1 hne) hE
    refine ⟨_, rfl, _, rfl, _, rfl, small_le (by simp), fun l1 nl1 => ?_⟩
    have s1 := same_upd (o := .lst [.int x]) nl1
    refine ⟨e, l1, _, _, rfl, rfl, s1 _ _ hE1, upd_same, ?_, fun l2 nl2 => ?_⟩
    · rw [List.length_map]
      exact small_le (by simp; omega)
    have s2 := same_upd (o := .lst (ns.map V.int ++ [.int x])) nl2
    have p3 := (p1.same s1).same s2
    refine ⟨_, rfl, p, l2, m, n + 9, ns ++ [x], rfl, p3, by omega, SqL.of ?_, ?_, ?_, h0, h1, fun H2 y c2 p2 y0 y1 => ?_⟩
    · rw [List.map_append]
      exact upd_same
    · exact ((p1.same s1).ne nl2).symm
    · simp
      omega
    have hE2 : H2 e = some (.lst (ns.map V.int)) := c2 _ _ (nmem1 hne) (s2 _ _ (s1 _ _ hE1))
    have cc : Chg [p] H H2 := c1.trans ((Chg.of_same s1).trans ((Chg.of_same s2).trans c2))
    obtain ⟨lo, elo, l_1, l_2, l_3, l_4⟩ := min3_of x y (m - 1)
    refine ⟨_, rfl, _, rfl, _, rfl, _, _, rfl, rfl, _, _, _, _, rfl, elo, ?_⟩
    obtain ⟨hi, ehi, i_1, i_2, i_3, i_4⟩ := max3_of x y (lo + 1)
    refine ⟨_, rfl, _, rfl, _, rfl, _, _, rfl, rfl, _, _, _, _, rfl, ehi, ?_⟩
    refine ⟨_, rfl, .inl ⟨rfl, _, SqL.of hE2⟩, _, rfl, e, _, _, rfl, rfl, hE2, ?_, ?_⟩
    · rw [List.length_map]
      exact small_lt (by omega)
    have hE3 : (upd H2 e (.lst (ns.map V.int ++ [.int lo]))) e = some (.lst (ns.map V.int ++ [.int lo])) := upd_same
    refine ⟨_, rfl, .inl ⟨rfl, _, SqL.of hE3⟩, _, rfl, e, _, _, rfl, rfl, hE3, ?_, ?_⟩
    · rw [List.length_append, List.length_map]
      exact small_lt (by simp; omega)
    rw [upd_upd]
    refine ⟨_, rfl, _, rfl, (by show 2 ≤ sizeLine; decide), fun t nt => ?_⟩
    have hE4 : (upd H2 e (.lst (ns.map V.int ++ [.int lo] ++ [.int hi]))) e = some (.lst (ns.map V.int ++ [.int lo] ++ [.int hi])) := upd_same
    have c5 : Chg [p, e] H (upd (upd H2 e (.lst (ns.map V.int ++ [.int lo] ++ [.int hi]))) t (.tup [.int lo, .int hi])) := (up cc).trans ((Chg.upd (List.mem_cons_of_mem _ List.mem_cons_self)).trans (Chg.of_same (same_upd nt)))
    have te : t ≠ e := (ne_of_none hE4 nt).symm
    have p5 : Pu (upd H2 e (.lst (ns.map V.int ++ [.int lo] ++ [.int hi]))) p (n + 18) := p2.chg (L := [e]) (Chg.upd List.mem_cons_self) (nmem1 hne.symm)
    have tp : t ≠ p := (p5.ne nt).symm
    refine q _ t lo hi c5 (p5.same (same_upd nt)) ?_ ?_ upd_same (by omega) (by omega) (by omega)
    · rw [upd_ne te.symm, upd_same, List.map_append, List.append_assoc]
      rfl
    · rw [upd_ne te] at nt
      exact cc.free (nmem1 tp) nt
end
section
variable {P : Program} {w : World} {K : PySem.W.Frag} {mg : Str → Option Value} {base : Heap}
/-! ### the program: spans -/
def isPlace (i : Int) : Bool := decide (-999999999999 ≤ i) && decide (i ≤ 999999999999)
def isSpan (s : Span) : Bool := isPlace s.1 && isPlace s.2 && decide (s.1 < s.2)
theorem isSpan_iff (s : Span) : isSpan s = true ↔ (-999999999999 ≤ s.1 ∧ s.1 < s.2 ∧ s.2 ≤ 999999999999) := by
  unfold isSpan isPlace
  simp only [Bool.and_eq_true, decide_eq_true_eq]
  omega
def spWhole : Sp := fun vs H Q _ => ∃ i : Int, vs = [.int i] ∧ Q (.bl true) H
theorem ok_is_whole (T : Tx K mg) : FnOk P w K mg base CX0 (1) T.f_is_whole T.fd_is_whole ["number"] spWhole := by
  refine T.F_is_whole.ok sc_is_whole (fun vs H Q E h => ?_) (fun cdv A outer s H vs Q E hr h => ?_)
  · obtain ⟨i, rfl, _⟩ := h
    rfl
  · obtain ⟨i, rfl, q⟩ := h
    refine ⟨_, (pss_one (ps_ret (pe_and (pe_callB call_isi (by rfl) T.m_isinstance (by decide +kernel) (pa_cons (pv 0) (pa_cons (pe_bltn (v := .ty "int") (by rfl) T.m_int (by decide +kernel) rfl) pa_nil))) (pe_one (pe_not (pe_callB call_isi (by rfl) T.m_isinstance (by decide +kernel) (pa_cons (pv 0) (pa_cons (pe_bltn (v := .ty "bool") (by rfl) T.m_bool (by decide +kernel) rfl) pa_nil)))))))), ?_⟩
    refine ⟨_, rfl, _, _, _, _, true, rfl, .ty _, .base (.int i), kit_ty (by decide +kernel), true, rfl, iteT ?_⟩
    exact ⟨_, rfl, _, _, _, _, false, rfl, .ty _, .base (.int i), kit_ty (by decide +kernel), false, rfl, q⟩
def spPlace : Sp := fun vs H Q _ => ∃ i : Int, vs = [.int i] ∧ Q (.bl (isPlace i)) H
theorem ok_is_place (T : Tx K mg) : FnOk P w K mg base CX0 (2) T.f_is_place T.fd_is_place ["number"] spPlace := by
  have G_is_whole : FnOk P w K mg base CX0 _ _ _ _ _ := ok_is_whole T
  refine T.F_is_place.ok sc_is_place (fun vs H Q E h => ?_) (fun cdv A outer s H vs Q E hr h => ?_)
  · obtain ⟨i, rfl, _⟩ := h
    rfl
  · obtain ⟨i, rfl, q⟩ := h
    refine ⟨_, (pss_one (ps_ret (pe_and (pe_call G_is_whole (hr.mono (by decide)) (by rfl) T.g_is_whole T.F_is_whole.kp T.b_is_whole .nil pass0 (pa_cons (pv 0) pa_nil)) (pe_one (pe_chain op_le op_le (pe_glob (v := .int (-999999999999)) (by rfl) T.c_LEAST_PLACE ⟨_, rfl⟩) (pv 0) (pe_glob (v := .int (999999999999)) (by rfl) T.c_GREATEST_PLACE ⟨_, rfl⟩)))))), ?_⟩
    refine ⟨_, rfl, i, rfl, true, rfl, iteT ?_⟩
    refine ⟨_, rfl, _, _, rfl, rfl, _, rfl, ?_⟩
    unfold isPlace at q
    by_cases h : -999999999999 ≤ i
    · rw [decide_eq_true h] at q ⊢
      exact iteT ⟨_, _, rfl, rfl, q⟩
    · rw [decide_eq_false h] at q ⊢
      exact iteF q
def spIsSpan : Sp := fun vs H Q _ => ∃ (v : V) (s : Span), vs = [v] ∧ Spn H v s ∧ Q (.bl (isSpan s)) H
theorem ok_is_span (T : Tx K mg) : FnOk P w K mg base CX0 (3) T.f_is_span T.fd_is_span ["span"] spIsSpan := by
  have G_is_place : FnOk P w K mg base CX0 _ _ _ _ _ := ok_is_place T
  refine T.F_is_span.ok sc_is_span (fun vs H Q E h => ?_) (fun cdv A outer s H vs Q E hr h => ?_)
  · obtain ⟨v, s, rfl, _⟩ := h
    rfl
  · obtain ⟨v, s, rfl, ⟨t, rfl, ht⟩, q⟩ := h
    refine ⟨_, (pss_cons (ps_if (PW.pt (pw_or (pt_not (pt_val (pe_callB call_isi (by rfl) T.m_isinstance (by decide +kernel) (pa_cons (pv 0) (pa_cons (pe_bltn (v := .ty "tuple") (by rfl) T.m_tuple (by decide +kernel) rfl) pa_nil))))) (pw_or1 (pt_cmpR op_ne (pe_callB call_len_seq (by rfl) T.m_len PySem.boot_len (pa_cons (pv 0) pa_nil)) pe_int (nomark _))))) (pss_one (ps_ret pe_bl)) pss_nil)
      (pss_cons (ps_asg (pv 0) (pg_tup rfl (pgs_cons (pg_name (i := 1) sc_is_span.nd rfl (Or.inl rfl)) (pgs_cons (pg_name (i := 2) sc_is_span.nd rfl (Or.inl rfl)) pgs_nil))))
      (pss_one (ps_ret (pe_and (pe_call G_is_place (hr.mono (by decide)) (by rfl) T.g_is_place T.F_is_place.kp T.b_is_place .nil pass0 (pa_cons (pv 1) pa_nil)) (pe_and (pe_call G_is_place (hr.mono (by decide)) (by rfl) T.g_is_place T.F_is_place.kp T.b_is_place .nil pass0 (pa_cons (pv 2) pa_nil)) (pe_one (pe_cmpR op_lt (pv 1) (pv 2) (nomark _))))))))), ?_⟩
    refine ⟨_, rfl, _, _, _, _, true, rfl, .ty _, .base (.tup ht), kit_ty (by decide +kernel), true, rfl, iteF ?_⟩
    refine ⟨_, rfl, t, _, rfl, .inr (SqT.of ht), rfl, _, rfl, iteF ?_⟩
    refine ⟨_, rfl, t, _, rfl, SqT.of ht, rfl, _, _, rfl, _, _, rfl, rfl, ?_⟩
    unfold isSpan at q
    refine ⟨_, rfl, s.1, rfl, _, rfl, ?_⟩
    by_cases h1 : isPlace s.1 = true
    · rw [h1] at q ⊢
      refine iteT ⟨_, rfl, s.2, rfl, _, rfl, ?_⟩
      by_cases h2 : isPlace s.2 = true
      · rw [h2] at q ⊢
        exact iteT ⟨_, rfl, _, rfl, _, _, rfl, rfl, q⟩
      · rw [Bool.not_eq_true] at h2
        rw [h2] at q ⊢
        exact iteF q
    · rw [Bool.not_eq_true] at h1
      rw [h1] at q ⊢
      exact iteF q
def spCheck (C : Addr) : Sp := fun vs H Q E => ∃ (v : V) (s : Span), vs = [v] ∧ Spn H v s ∧ (isSpan s = true → Q .non H) ∧ (isSpan s = false → E (.ref C) none H)
theorem ok_check_span (T : Tx K mg) : FnOk P w K mg base (L2.CX P w) (4) T.f_check_span T.fd_check_span ["span"] (spCheck T.C_NoSpan) := by
  have G_is_span : FnOk P w K mg base CX0 _ _ _ _ _ := ok_is_span T
  refine T.F_check_span.okX sc_check_span (fun vs H Q E h => ?_) (fun cdv A outer s H vs Q E hr h => ?_)
  · obtain ⟨v, s, rfl, _⟩ := h
    rfl
  · obtain ⟨v, s, rfl, hv, q, e⟩ := h
    refine ⟨_, (pss_one (ps_if (pt_not (pt_val (pe_call G_is_span (hr.mono (by decide)) (by rfl) T.g_is_span T.F_is_span.kp T.b_is_span .nil pass0 (pa_cons (pv 0) pa_nil)))) (pss_one (ps_raise (by rfl) (takes_of rfl rfl rfl rfl) (pmk_own PySem.F.excBase_ValueError T.x_NoSpan T.g_NoSpan T.k_NoSpan (raises_own T.b_NoSpan T.t_NoSpan) (by exact rfl)))) pss_nil)), ?_⟩
    refine ⟨_, rfl, v, s, rfl, hv, _, rfl, ?_⟩
    by_cases h : isSpan s = true
    · rw [h]
      exact iteF (q h)
    · rw [Bool.not_eq_true] at h
      rw [h]
      exact iteT (e h)
end
section
variable {P : Program} {w : World} {K : PySem.W.Frag} {mg : Str → Option Value} {base : Heap}
/-! ### the program: covers -/
def spCheckSpans (C : Addr) : Sp := fun vs H Q E => ∃ (l : Addr) (us : List V) (ss : List Span), vs = [.ref l] ∧ H l = some (.lst us) ∧ Sps H us ss ∧ (ss.all isSpan = true → Q .non H) ∧ (ss.all isSpan = false → E (.ref C) none H)
theorem ok_check_spans (T : Tx K mg) : FnOk P w K mg base (L2.CX P w) (5) T.f_check_spans T.fd_check_spans ["spans"] (spCheckSpans T.C_NoSpan) := by
  have G_check_span : FnOk P w K mg base (L2.CX P w) _ _ _ _ _ := ok_check_span T
  refine T.F_check_spans.okX sc_check_spans (fun vs H Q E h => ?_) (fun cdv A outer s H vs Q E hr h => ?_)
  · obtain ⟨l, us, ss, rfl, _⟩ := h
    rfl
  · obtain ⟨l, us, ss, rfl, hl, hS, q, e⟩ := h
    refine ⟨_, (pss_one (ps_for (passes_of rfl) (by rfl) (pi_list (pv 0)) (pg_name (i := 1) sc_check_spans.nd rfl (Or.inl rfl))
        (pss_one (ps_expr (pe_call G_check_span (hr.mono (by decide)) (by rfl) T.g_check_span T.F_check_span.kp T.b_check_span .nil (passes_call (takes_of rfl rfl rfl rfl) (fun _ _ _ _ h => h)) (pa_cons (pv 1) pa_nil)))))), ?_⟩
    refine ⟨_, rfl, l, rfl, ⟨_, SqL.of hl⟩, for_list (K := K) (a := l) (xs := us) (fun i σ H' => ∃ y1, σ = [some (.ref l), y1] ∧ H' = H ∧ (ss.take i).all isSpan = true) ⟨none, rfl, rfl, rfl⟩ (fun i σ H' _ ⟨_, _, e, _⟩ => by rw [e]; exact SqL.of hl) ?_ ?_⟩
    · rintro i y σ H' hi ⟨y1, rfl, rfl, ha⟩
      obtain ⟨sp, hs, hv⟩ := hS.get hi
      have tk : ss.take (i + 1) = ss.take i ++ [sp] := by
        rw [List.take_add_one, hs]
        rfl
      refine ⟨_, rfl, y, sp, rfl, hv, fun ok => ⟨_, rfl, rfl, ?_⟩, fun no => e ?_⟩
      · rw [tk, List.all_append, ha, List.all_cons, ok]
        rfl
      · rw [List.all_eq_false]
        exact ⟨sp, List.mem_of_getElem? hs, by rw [no]; decide⟩
    · rintro σ H' ⟨y1, rfl, rfl, ha⟩
      rw [hS.len, List.take_length] at ha
      exact q ha
end
/-! ### depths, changes, pieces of one depth: arithmetic -/
def holdsB (x : Int) (s : Span) : Bool := decide (s.1 ≤ x) && decide (x < s.2)
theorem holds_iff {x : Int} {s : Span} : holdsB x s = true ↔ s.1 ≤ x ∧ x < s.2 := by
  unfold holdsB
  rw [Bool.and_eq_true, decide_eq_true_eq, decide_eq_true_eq]
def dep (ss : List Span) (x : Int) : Nat := (ss.filter (holdsB x)).length
theorem dep_cons (s : Span) (ss : List Span) (x : Int) : dep (s :: ss) x = (if holdsB x s = true then 1 else 0) + dep ss x := by
  unfold dep
  rw [List.filter_cons]
  split
  · simp
    omega
  · simp
theorem dep_perm {ss ts : List Span} (h : ss.Perm ts) (x : Int) : dep ss x = dep ts x := (h.filter _).length_eq
theorem dep_app (ss ts : List Span) (x : Int) : dep (ss ++ ts) x = dep ss x + dep ts x := by
  unfold dep
  rw [List.filter_append, List.length_append]
/-- the change at a place: how many begin, less how many end -/
def chgAt : List Span → Int → Int
  | [], _ => 0
  | s :: ss, x => ((if s.1 = x then 1 else 0) - (if s.2 = x then 1 else 0)) + chgAt ss x
theorem chgAt_app (ss ts : List Span) (x : Int) : chgAt (ss ++ ts) x = chgAt ss x + chgAt ts x := by
  induction ss with
  | nil => simp [chgAt]
  | cons s r ih =>
    show _ + chgAt (r ++ ts) x = _
    rw [ih]
    simp only [chgAt]
    omega
theorem dep_step {ss : List Span} (h : ∀ s ∈ ss, s.1 < s.2) (x : Int) : ((dep ss x : Nat) : Int) = dep ss (x - 1) + chgAt ss x := by
  induction ss with
  | nil => rfl
  | cons s r ih =>
    have h1 := h s List.mem_cons_self
    have h2 := ih fun t ht => h t (List.mem_cons_of_mem _ ht)
    rw [dep_cons, dep_cons]
    simp only [chgAt, holdsB, Bool.and_eq_true, decide_eq_true_eq]
    push_cast
    split <;> split <;> split <;> split <;> omega
theorem chgAt_out {ss : List Span} {x : Int} (h : ∀ s ∈ ss, s.1 ≠ x ∧ s.2 ≠ x) : chgAt ss x = 0 := by
  induction ss with
  | nil => rfl
  | cons s r ih =>
    have h1 := h s List.mem_cons_self
    simp only [chgAt]
    rw [ih fun t ht => h t (List.mem_cons_of_mem _ ht), if_neg h1.1, if_neg h1.2]
    rfl
theorem dep_zero {ss : List Span} {x : Int} (h : ∀ s ∈ ss, x < s.1 ∨ s.2 ≤ x) : dep ss x = 0 := by
  unfold dep
  rw [List.length_eq_zero_iff, List.filter_eq_nil_iff]
  intro s hs z
  have := holds_iff.mp z
  have := h s hs
  omega
abbrev Piece := Int × Int × Int
/-- the pieces of one depth above 0, as long as can be, from b on -/
def PF (f : Int → Int) : Int → List Piece → Prop
  | b, [] => ∀ x, b ≤ x → f x = 0
  | b, p :: r => b ≤ p.1 ∧ p.1 < p.2.1 ∧ 0 < p.2.2 ∧ (∀ x, b ≤ x → x < p.1 → f x = 0) ∧ (∀ x, p.1 ≤ x → x < p.2.1 → f x = p.2.2) ∧ f p.2.1 ≠ p.2.2 ∧ PF f p.2.1 r
theorem PF.ext {f : Int → Int} : ∀ {l m : List Piece} {b : Int}, PF f b l → PF f b m → l = m
  | [], [], _, _, _ => rfl
  | [], q :: m, b, h, k => by
    obtain ⟨k1, k2, k3, k4, k5, k6, k7⟩ := k
    have := h q.1 k1
    have := k5 q.1 (Int.le_refl _) k2
    omega
  | p :: l, [], b, h, k => by
    obtain ⟨k1, k2, k3, k4, k5, k6, k7⟩ := h
    have := k p.1 k1
    have := k5 p.1 (Int.le_refl _) k2
    omega
  | (a, c, d) :: l, (a', c', d') :: m, b, h, k => by
    obtain ⟨h1, h2, h3, h4, h5, h6, h7⟩ := h
    obtain ⟨k1, k2, k3, k4, k5, k6, k7⟩ := k
    simp only at *
    have ea : a = a' := by
      rcases Int.lt_trichotomy a a' with z | z | z
      · have := k4 a h1 z
        have := h5 a (Int.le_refl _) h2
        omega
      · exact z
      · have := h4 a' k1 z
        have := k5 a' (Int.le_refl _) k2
        omega
    subst ea
    have ed : d = d' := by
      have := h5 a (Int.le_refl _) h2
      have := k5 a (Int.le_refl _) k2
      omega
    subst ed
    have ec : c = c' := by
      rcases Int.lt_trichotomy c c' with z | z | z
      · have := k5 c (by omega) z
        omega
      · exact z
      · have := h5 c' (by omega) z
        omega
    subst ec
    rw [PF.ext h7 k7]
theorem PF.back {f : Int → Int} {b c : Int} : ∀ {l : List Piece}, PF f b l → (∀ x, c ≤ x → x < b → f x = 0) → c ≤ b → PF f c l
  | [], h, z, hc => fun x hx => by
    by_cases e : x < b
    · exact z x hx e
    · exact h x (by omega)
  | p :: r, ⟨h1, h2, h3, h4, h5, h6, h7⟩, z, hc => ⟨by omega, h2, h3, fun x hx hp => by
      by_cases e : x < b
      · exact z x hx e
      · exact h4 x (by omega) hp, h5, h6, h7⟩
/-- what is built of the changes -/
def lay (d b : Int) : List Span → List Piece
  | [] => []
  | (p, c) :: r => if 0 < d then (b, p, d) :: lay (d + c) p r else lay (d + c) p r
/-- all changes behind b -/
def Chs (f : Int → Int) : Int → List Span → Prop
  | b, [] => ∀ x, b < x → f x = f (x - 1)
  | b, (p, c) :: r => b < p ∧ (∀ x, b < x → x < p → f x = f (x - 1)) ∧ f p = f (p - 1) + c ∧ c ≠ 0 ∧ Chs f p r
theorem const_on {f : Int → Int} {b : Int} : ∀ (n : Nat), (∀ x, b < x → x < b + 1 + n → f x = f (x - 1)) → f (b + n) = f b
  | 0, _ => by simp
  | n + 1, h => by
    have e := h (b + (n + 1 : Nat)) (by omega) (by omega)
    have := const_on n fun x h1 h2 => h x h1 (by omega)
    rw [show b + ((n + 1 : Nat) : Int) - 1 = b + n by omega] at e
    omega
theorem const_at {f : Int → Int} {b p x : Int} (h : ∀ x, b < x → x < p → f x = f (x - 1)) (h1 : b ≤ x) (h2 : x < p) : f x = f b := by
  have e := const_on (f := f) (b := b) (x - b).toNat fun y h3 h4 => h y h3 (by omega)
  rw [show b + ((x - b).toNat : Int) = x by omega] at e
  exact e
theorem lay_pf {f : Int → Int} (f0 : ∀ x, 0 ≤ f x) {B : Int} (hB : ∀ x, B ≤ x → f x = 0) : ∀ {l : List Span} {b : Int}, Chs f b l → PF f b (lay (f b) b l)
  | [], b, h => fun x hx => by
    have h1 := const_at (f := f) (b := b) (p := max B x + 1) (x := max B x) (fun y h1 _ => h y h1) (by omega) (by omega)
    have h2 := const_at (f := f) (b := b) (p := x + 1) (x := x) (fun y h1 _ => h y h1) hx (by omega)
    have h3 := hB (max B x) (by omega)
    omega
  | (p, c) :: r, b, ⟨h1, h2, h3, h4, h5⟩ => by
    have hp : f (p - 1) = f b := const_at h2 (by omega) (by omega)
    have ih := lay_pf f0 hB h5
    have e : f b + c = f p := by omega
    show PF f b (if 0 < f b then (b, p, f b) :: lay (f b + c) p r else lay (f b + c) p r)
    rw [e]
    split
    · rename_i hd
      exact ⟨Int.le_refl _, h1, hd, fun x a b' => by omega, fun x a b' => const_at h2 a b', by show f p ≠ f b; omega, ih⟩
    · rename_i hd
      refine ih.back (fun x a b' => ?_) (by omega)
      have := const_at h2 a b'
      have := f0 b
      omega
theorem lay_zero {d b b' : Int} (h : ¬ 0 < d) : ∀ l, lay d b l = lay d b' l
  | [] => rfl
  | (p, c) :: r => by
    show (if 0 < d then _ else _) = (if 0 < d then _ else _)
    rw [if_neg h, if_neg h]
/-- the changes, told by their places -/
theorem chs_of {f : Int → Int} : ∀ {l : List Span} {b : Int}, (l.map (·.1)).Pairwise (· < ·) → (∀ q ∈ l, b < q.1 ∧ q.2 ≠ 0 ∧ f q.1 = f (q.1 - 1) + q.2) → (∀ x, b < x → f x ≠ f (x - 1) → x ∈ l.map (·.1)) → Chs f b l
  | [], b, _, _, h => fun x hx => by
    by_cases e : f x = f (x - 1)
    · exact e
    · exact absurd (h x hx e) (by simp)
  | (p, c) :: r, b, h1, h2, h3 => by
    obtain ⟨h11, h12⟩ := List.pairwise_cons.mp h1
    obtain ⟨a1, a2, a3⟩ := h2 (p, c) List.mem_cons_self
    refine ⟨a1, fun x x1 x2 => ?_, a3, a2, chs_of h12 (fun q hq => ⟨h11 q.1 (List.mem_map.mpr ⟨q, hq, rfl⟩), (h2 q (List.mem_cons_of_mem _ hq)).2⟩) fun x x1 x2 => ?_⟩
    · by_cases e : f x = f (x - 1)
      · exact e
      · rcases List.mem_cons.mp (h3 x x1 e) with z | z
        · simp only at z
          omega
        · have := h11 x z
          simp only at this
          omega
    · rcases List.mem_cons.mp (h3 x (by simp only at a1; omega) x2) with z | z
      · simp only at z
        omega
      · exact z
theorem pf_lo {f : Int → Int} : ∀ {l : List Piece} {b : Int}, PF f b l → ∀ p ∈ l, b ≤ p.1 ∧ p.1 < p.2.1 ∧ 0 < p.2.2 ∧ f p.1 = p.2.2
  | q :: l, b, ⟨h1, h2, h3, h4, h5, h6, h7⟩, p, hp => by
    rcases List.mem_cons.mp hp with rfl | hp
    · exact ⟨h1, h2, h3, h5 _ (Int.le_refl _) h2⟩
    · obtain ⟨a1, a2⟩ := pf_lo h7 p hp
      exact ⟨by omega, a2⟩
theorem pf_rise {f : Int → Int} : ∀ {l : List Piece} {b : Int}, PF f b l → (l.map (·.1)).Pairwise (· < ·)
  | [], _, _ => List.Pairwise.nil
  | q :: l, b, ⟨h1, h2, h3, h4, h5, h6, h7⟩ => by
    refine List.pairwise_cons.mpr ⟨fun x hx => ?_, pf_rise h7⟩
    obtain ⟨p, hp, rfl⟩ := List.mem_map.mp hx
    have := (pf_lo h7 p hp).1
    show q.1 < p.1
    omega
theorem pf_in {f : Int → Int} : ∀ {l : List Piece} {b : Int}, PF f b l → ∀ x, b ≤ x → f x ≠ 0 → ∃ p ∈ l, p.1 ≤ x ∧ x < p.2.1 ∧ f x = p.2.2
  | [], b, h, x, hx, hf => absurd (h x hx) hf
  | q :: l, b, ⟨h1, h2, h3, h4, h5, h6, h7⟩, x, hx, hf => by
    by_cases e : x < q.1
    · exact absurd (h4 x hx e) hf
    · by_cases e2 : x < q.2.1
      · exact ⟨q, List.mem_cons_self, by omega, e2, h5 x (by omega) e2⟩
      · obtain ⟨p, hp, a⟩ := pf_in h7 x (by omega) hf
        exact ⟨p, List.mem_cons_of_mem _ hp, a⟩
/-- the deepest of the pieces, the first one -/
def stpB : Option Span → Piece → Option Span
  | none, p => some (p.2.2, p.1)
  | some b, p => if b.1 < p.2.2 then some (p.2.2, p.1) else some b
def bestL (l : List Piece) : Option Span := l.foldl stpB none
theorem bestL_snoc (l : List Piece) (p : Piece) : bestL (l ++ [p]) = stpB (bestL l) p := by
  unfold bestL
  rw [List.foldl_append]
  rfl
/-- ps are the pieces of the spans ss -/
def Prf (ss : List Span) (ps : List Piece) : Prop := ∀ b, (∀ s ∈ ss, b < s.1) → PF (fun x => ((dep ss x : Nat) : Int)) b ps
theorem low_of (ss : List Span) : ∃ b : Int, ∀ s ∈ ss, b < s.1 := by
  induction ss with
  | nil => exact ⟨0, fun s h => nomatch h⟩
  | cons s r ih =>
    obtain ⟨b, h⟩ := ih
    refine ⟨min b (s.1 - 1), fun t ht => ?_⟩
    rcases List.mem_cons.mp ht with rfl | ht
    · omega
    · have := h t ht
      omega
theorem Prf.ext {ss ts : List Span} {l m : List Piece} (h : Prf ss l) (k : Prf ts m) (e : ∀ x, dep ss x = dep ts x) (b : Int) (h1 : ∀ s ∈ ss, b < s.1) (h2 : ∀ s ∈ ts, b < s.1) : l = m := by
  have k' := k b h2
  have : (fun x => ((dep ts x : Nat) : Int)) = fun x => ((dep ss x : Nat) : Int) := funext fun x => by rw [e x]
  rw [this] at k'
  exact (h b h1).ext k'
theorem Prf.perm {ss ts : List Span} {l m : List Piece} (h : Prf ss l) (k : Prf ts m) (e : ss.Perm ts) : l = m := by
  obtain ⟨b, hb⟩ := low_of ss
  exact h.ext k (dep_perm e) b hb fun s hs => hb s (e.mem_iff.mpr hs)
theorem high_of (ss : List Span) : ∃ b : Int, ∀ s ∈ ss, s.2 ≤ b := by
  induction ss with
  | nil => exact ⟨0, fun s h => nomatch h⟩
  | cons s r ih =>
    obtain ⟨b, h⟩ := ih
    refine ⟨max b s.2, fun t ht => ?_⟩
    rcases List.mem_cons.mp ht with rfl | ht
    · omega
    · have := h t ht
      omega
/-- the told changes of ss -/
def Cng (ss : List Span) (cs : List Span) : Prop := (cs.map (·.1)).Pairwise (· < ·) ∧ (∀ q ∈ cs, q.2 ≠ 0 ∧ q.2 = chgAt ss q.1) ∧ ∀ x, chgAt ss x ≠ 0 → x ∈ cs.map (·.1)
theorem lay_prf {ss cs : List Span} (hs : ∀ s ∈ ss, s.1 < s.2) (h : Cng ss cs) (b0 : Int) : Prf ss (lay 0 b0 cs) := fun b hb => by
  obtain ⟨h1, h2, h3⟩ := h
  obtain ⟨B, hB⟩ := high_of ss
  have st := dep_step hs
  have f0 : dep ss b = 0 := dep_zero fun s h => .inl (hb s h)
  have e : lay 0 b0 cs = lay (((dep ss b : Nat) : Int)) b cs := by
    rw [f0]
    exact lay_zero (by decide) cs
  rw [e]
  refine lay_pf (f := fun x => ((dep ss x : Nat) : Int)) (fun x => Int.natCast_nonneg _) (B := B) (fun x hx => ?_) (chs_of h1 (fun q hq => ⟨?_, (h2 q hq).1, ?_⟩) fun x hx hne => h3 x ?_)
  · have := dep_zero (ss := ss) (x := x) fun s h => .inr (by have := hB s h; omega)
    show ((dep ss x : Nat) : Int) = 0
    rw [this]
    rfl
  · obtain ⟨q1, q2⟩ := h2 q hq
    by_cases e : b < q.1
    · exact e
    · exact absurd (chgAt_out (ss := ss) (x := q.1) fun s h => by have := hb s h; have := hs s h; omega) (by omega)
  · have := st q.1
    have := (h2 q hq).2
    show ((dep ss q.1 : Nat) : Int) = ((dep ss (q.1 - 1) : Nat) : Int) + q.2
    omega
  · have h9 := st x
    have hne : ((dep ss x : Nat) : Int) ≠ ((dep ss (x - 1) : Nat) : Int) := hne
    omega
/-- few ends -/
def Few (ss : List Span) : Prop := ss.length ≤ 400 ∧ ∃ es : List Int, es.length < 64 ∧ ∀ s ∈ ss, s.1 ∈ es ∧ s.2 ∈ es
theorem few_of {ss : List Span} (h : ss.length < 32) : Few ss := ⟨by omega, ss.map (·.1) ++ ss.map (·.2), by rw [List.length_append, List.length_map, List.length_map]; omega, fun s hs => ⟨List.mem_append_left _ (List.mem_map.mpr ⟨s, hs, rfl⟩), List.mem_append_right _ (List.mem_map.mpr ⟨s, hs, rfl⟩)⟩⟩
theorem few_two {ss ts : List Span} {n : Nat} (hn : ss.length + ts.length < n) (h : 2 * n ≤ 64) : Few (ss ++ ts) := few_of (by rw [List.length_append]; omega)
theorem few_twice {ss : List Span} (h : Few ss) (h2 : ss.length ≤ 200) : Few (ss ++ ss) := by
  obtain ⟨_, es, e1, e2⟩ := h
  refine ⟨by rw [List.length_append]; omega, es, e1, fun s hs => ?_⟩
  rcases List.mem_append.mp hs with z | z
  · exact e2 s z
  · exact e2 s z
/-! ### the numbers of tuples, read off the heap -/
def kO (H : Hp) (v : V) : Span := match v with
  | .ref t => (match H t with | some (.tup [.int a, .int b]) => (a, b) | _ => (0, 0))
  | _ => (0, 0)
theorem kO_spn {H : Hp} {v : V} {s : Span} (h : Spn H v s) : kO H v = s := by
  obtain ⟨t, rfl, ht⟩ := h
  show (match H t with | some (.tup [.int a, .int b]) => (a, b) | _ => (0, 0)) = s
  rw [ht]
theorem Sps.kOmap {H : Hp} : ∀ {vs : List V} {ss : List Span}, Sps H vs ss → vs.map (kO H) = ss
  | _, _, .nil => rfl
  | _, _, .cons h t => by rw [List.map_cons, kO_spn h, t.kOmap]
theorem spsO_of {H : Hp} : ∀ {vs : List V}, (∀ v ∈ vs, Spn H v (kO H v)) → Sps H vs (vs.map (kO H))
  | [], _ => .nil
  | v :: vs, h => .cons (h v List.mem_cons_self) (spsO_of fun u hu => h u (List.mem_cons_of_mem _ hu))
theorem Sps.memO {H : Hp} {vs : List V} {ss : List Span} (h : Sps H vs ss) {v : V} (hv : v ∈ vs) : ∃ s ∈ ss, Spn H v s := by
  obtain ⟨i, hi⟩ := List.getElem?_of_mem hv
  obtain ⟨s, e, sp⟩ := h.get hi
  exact ⟨s, List.mem_of_getElem? e, sp⟩
/-- sorted pairs as they come -/
theorem sorted_sps {H : Hp} {us ys : List V} {ss : List Span} (hS : Sps H us ss) (srt : SrtO.Srtd (ltP (kO H)) ys) (stb : SrtO.Stb (ltP (kO H)) ys us) : ∃ rs, Sps H ys rs ∧ rs.Perm ss ∧ rs.Pairwise (fun a b => SrtO.lexB b a = false) := by
  have mem : ∀ v ∈ ys, v ∈ us := fun v hv => stb.perm.mem_iff.mp hv
  refine ⟨ys.map (kO H), spsO_of fun v hv => ?_, ?_, ?_⟩
  · obtain ⟨sp, _, h1⟩ := hS.memO (mem v hv)
    rw [kO_spn h1]
    exact h1
  · rw [← hS.kOmap]
    exact stb.perm.map _
  · rw [List.pairwise_map]
    exact srt
theorem cut_1 (xs : List V) : cutV xs (some 1) none = xs.drop 1 := by
  unfold cutV
  rw [show HT.sIx xs.length 0 (some 1) = min 1 xs.length from HT.sIx_nat xs.length 0 1, HT.sIx_none]
  cases xs with
  | nil => rfl
  | cons x r =>
    rw [show min 1 (x :: r).length = 1 from Nat.min_eq_left (Nat.succ_le_succ (Nat.zero_le _))]
    exact List.take_of_length_le (by simp)
def kO3 (H : Hp) (v : V) : Tri.I3 := match v with
  | .ref t => (match H t with | some (.tup [.int a, .int b, .int c]) => (a, b, c) | _ => (0, 0, 0))
  | _ => (0, 0, 0)
def i3R (t : Tri.I3) : List Int := [t.1, t.2.1, t.2.2]
theorem kO3_row {H : Hp} {v : V} {s : Tri.I3} (h : Rw H v (i3R s)) : kO3 H v = s := by
  obtain ⟨t, rfl, ht⟩ := h
  have ht : H t = some (.tup [.int s.1, .int s.2.1, .int s.2.2]) := ht
  show (match H t with | some (.tup [.int a, .int b, .int c]) => (a, b, c) | _ => (0, 0, 0)) = s
  rw [ht]
theorem Rws.kOmap {H : Hp} : ∀ {vs : List V} {ss : List Tri.I3}, Rws H vs (ss.map i3R) → vs.map (kO3 H) = ss
  | [], [], _ => rfl
  | [], _ :: _, h => by cases h
  | _ :: _, [], h => by cases h
  | v :: vs, s :: ss, h => by
    cases h with
    | cons a t => rw [List.map_cons, kO3_row a, Rws.kOmap t]
theorem Rws.memO {H : Hp} {vs : List V} {ss : List Tri.I3} (h : Rws H vs (ss.map i3R)) {v : V} (hv : v ∈ vs) : ∃ s ∈ ss, Rw H v (i3R s) := by
  obtain ⟨i, hi⟩ := List.getElem?_of_mem hv
  obtain ⟨r, e, sp⟩ := h.get hi
  rw [List.getElem?_map] at e
  obtain ⟨s, es, rfl⟩ := Option.map_eq_some_iff.mp e
  exact ⟨s, List.mem_of_getElem? es, sp⟩
theorem rwsO_of {H : Hp} : ∀ {vs : List V}, (∀ v ∈ vs, Rw H v (i3R (kO3 H v))) → Rws H vs ((vs.map (kO3 H)).map i3R)
  | [], _ => .nil
  | v :: vs, h => .cons (h v List.mem_cons_self) (rwsO_of fun u hu => h u (List.mem_cons_of_mem _ hu))
theorem sorted_rws {H : Hp} {us ys : List V} {ss : List Tri.I3} (hS : Rws H us (ss.map i3R)) (srt : SrtO.Srtd (fun v u => Tri.lex3 (kO3 H v) (kO3 H u)) ys) (stb : SrtO.Stb (fun v u => Tri.lex3 (kO3 H v) (kO3 H u)) ys us) : ∃ ts : List Tri.I3, Rws H ys (ts.map i3R) ∧ ts.Perm ss ∧ ts.Pairwise (fun a b => Tri.lex3 b a = false) := by
  have mem : ∀ v ∈ ys, v ∈ us := fun v hv => stb.perm.mem_iff.mp hv
  refine ⟨ys.map (kO3 H), rwsO_of fun v hv => ?_, ?_, ?_⟩
  · obtain ⟨sp, _, h1⟩ := hS.memO (mem v hv)
    rw [kO3_row h1]
    exact h1
  · rw [← hS.kOmap]
    exact stb.perm.map _
  · rw [List.pairwise_map]
    exact srt
/-- over what is told with numbers -/
theorem lc_enum {K : PySem.W.Frag} {a : Addr} {xs : List V} {g : TG} {tt : TT} {te : TE} {vs : List Nat} {σ : L2.St} {H1 : Hp} {D : Addr} {Qd : Hp → Prop} (Pv : Nat → Hp → Prop) (h0 : Pv 0 (upd H1 D (.lst []))) (hl : ∀ i H, i ≤ xs.length → Pv i H → SqL K H a xs)
    (hs : ∀ i x H t, xs[i]? = some x → Pv i H → H t = none → g (.ref t) (wipe σ vs) (upd H t (.tup [.int (i : Nat), x])) fun σ2 H2 => wipe σ2 vs = wipe σ vs ∧ tt σ2 H2 fun b H3 =>
      if b = true then te σ2 H3 fun y H4 => ∃ acc, H4 D = some (.lst acc) ∧ acc.length < sizeLine ∧ Pv (i + 1) (upd H4 D (.lst (acc ++ [y]))) else Pv (i + 1) H3) (hd : ∀ H, Pv xs.length H → Qd H) :
    ∃ W : Nat → Nat → Hp → Prop, (∃ m, W 0 m (upd H1 D (.lst []))) ∧ ∀ i m H, W i m H →
      ((Ite K a).stop i H ∧ Qd H) ∨ ((Ite K a).go i H ∧ ∃ Nx : Hp → Prop, (∀ H', Nx H' → ∃ m', m' < m ∧ W (i + 1) m' H') ∧ ∀ x H', (Ite K a).yld i H x H' → g x (wipe σ vs) H' fun σ2 H2 => wipe σ2 vs = wipe σ vs ∧ tt σ2 H2 fun b H3 =>
        if b = true then te σ2 H3 fun y H4 => ∃ acc, H4 D = some (.lst acc) ∧ acc.length < sizeLine ∧ Nx (upd H4 D (.lst (acc ++ [y]))) else Nx H3) := by
  refine ⟨fun i m H => m = xs.length - i ∧ i ≤ xs.length ∧ Pv i H, ⟨xs.length, by simp, Nat.zero_le _, h0⟩, ?_⟩
  rintro i m H ⟨rfl, hi, p⟩
  have q := hl i H hi p
  by_cases hlt : i < xs.length
  · refine .inr ⟨⟨xs, xs[i], q, by simp [hlt]⟩, Pv (i + 1), fun H' p' => ⟨xs.length - (i + 1), by omega, rfl, hlt, p'⟩, fun x H' y => ?_⟩
    obtain ⟨t, z, rfl, nt, rfl, h1⟩ := y
    exact hs i z H t (h1 xs q) p nt
  · have e : i = xs.length := by omega
    subst e
    exact .inl ⟨⟨xs, q, Nat.le_refl _⟩, hd H p⟩
/-! ### apart: choices and pins -/
def Ap (a b : Span) : Prop := a.2 ≤ b.1 ∨ b.2 ≤ a.1
def NumsOk (ch : List Int) (n : Nat) : Prop := (∀ c ∈ ch, 0 ≤ c ∧ c < n) ∧ ch.Nodup
def pick (ss : List Span) (ch : List Int) : List Span := ch.map fun c => ss.getD c.toNat (0, 0)
def Pierced (ss : List Span) (pins : List Int) : Prop := ∀ s ∈ ss, ∃ p ∈ pins, s.1 ≤ p ∧ p < s.2
def Shows (ss : List Span) (ch pins : List Int) : Prop := NumsOk ch ss.length ∧ pins.length = ch.length ∧ (pick ss ch).Pairwise Ap ∧ Pierced ss pins
/-- the spans as triples (high, low, number) -/
def trip (ss : List Span) : List Tri.I3 := (List.range ss.length).map fun i => ((ss.getD i (0, 0)).2, (ss.getD i (0, 0)).1, (i : Int))
def Tr (ss : List Span) (ts : List Tri.I3) : Prop := ts.Pairwise (fun a b => Tri.lex3 b a = false) ∧ ts.Perm (trip ss)
theorem srt_uniq {α : Type} {lt : α → α → Bool} (anti : ∀ a b, lt a b = false → lt b a = false → a = b) : ∀ {l m : List α}, l.Pairwise (fun a b => lt b a = false) → m.Pairwise (fun a b => lt b a = false) → l.Perm m → l = m
  | [], m, _, _, h => (List.Perm.nil_eq h)
  | a :: l, [], _, _, h => by simpa using h.length_eq
  | a :: l, b :: m, h1, h2, h => by
    obtain ⟨p1, p2⟩ := List.pairwise_cons.mp h1
    obtain ⟨q1, q2⟩ := List.pairwise_cons.mp h2
    have ha : a ∈ b :: m := h.mem_iff.mp List.mem_cons_self
    have hb : b ∈ a :: l := h.mem_iff.mpr List.mem_cons_self
    have e : a = b := by
      rcases List.mem_cons.mp ha with e | ha
      · exact e
      · rcases List.mem_cons.mp hb with e | hb
        · exact e.symm
        · exact anti a b (q1 a ha) (p1 b hb)
    subst e
    rw [srt_uniq anti p2 q2 h.cons_inv]
theorem lex3_anti (a b : Tri.I3) (h1 : Tri.lex3 a b = false) (h2 : Tri.lex3 b a = false) : a = b := by
  have x := Tri.lex3_no.mp h1
  have y := Tri.lex3_no.mp h2
  obtain ⟨a1, a2, a3⟩ := a
  obtain ⟨b1, b2, b3⟩ := b
  simp only at x y
  have e1 : a1 = b1 := by omega
  have e2 : a2 = b2 := by omega
  have e3 : a3 = b3 := by omega
  rw [e1, e2, e3]
theorem Tr.uniq {ss : List Span} {ts us : List Tri.I3} (h : Tr ss ts) (k : Tr ss us) : ts = us := srt_uniq lex3_anti h.1 k.1 (h.2.trans k.2.symm)
/-- the greedy search -/
def gst (st : List Tri.I3 × List Int) (t : Tri.I3) : List Tri.I3 × List Int := if st.2 = [] ∨ st.2.getLastD 0 < t.2.1 then (st.1 ++ [t], st.2 ++ [t.1 - 1]) else st
def greedy (ts : List Tri.I3) : List Tri.I3 × List Int := ts.foldl gst ([], [])
theorem greedy_snoc (ts : List Tri.I3) (t : Tri.I3) : greedy (ts ++ [t]) = gst (greedy ts) t := by
  unfold greedy
  rw [List.foldl_append]
  rfl
structure Gd (ts : List Tri.I3) : Prop where
  pins : (greedy ts).2 = (greedy ts).1.map (·.1 - 1)
  sub : (greedy ts).1.Sublist ts
  apart : (greedy ts).1.Pairwise fun a b => a.1 ≤ b.2.1
  pierce : ∀ t ∈ ts, ∃ p ∈ (greedy ts).2, t.2.1 ≤ p ∧ p < t.1
theorem last_of {l : List Int} (h : l ≠ []) : l.getLastD 0 = l.getLast h := by
  cases l with
  | nil => exact absurd rfl h
  | cons a r => rfl
theorem gd_of : ∀ (n : Nat) (ts : List Tri.I3), ts.length = n → ts.Pairwise (fun a b => a.1 ≤ b.1) → (∀ t ∈ ts, t.2.1 < t.1) → Gd ts := by
  intro n
  induction n with
  | zero =>
    intro ts hl _ _
    have := List.length_eq_zero_iff.mp hl
    subst this
    exact ⟨rfl, List.Sublist.refl _, List.Pairwise.nil, fun t h => nomatch h⟩
  | succ n ih =>
    intro ts hl hp ht
    have ne : ts ≠ [] := fun z => by rw [z] at hl; cases hl
    obtain ⟨us, t, rfl⟩ : ∃ m x, ts = m ++ [x] := ⟨ts.dropLast, ts.getLast ne, (List.dropLast_concat_getLast ne).symm⟩
    obtain ⟨hp1, _, hp3⟩ := List.pairwise_append.mp hp
    obtain ⟨g1, g2, g3, g4⟩ := ih us (by simpa using hl) hp1 fun u hu => ht u (List.mem_append_left _ hu)
    have htt := ht t (by simp)
    have hle : ∀ u ∈ us, u.1 ≤ t.1 := fun u hu => hp3 u hu t (by simp)
    have hlow : ∀ u ∈ us, u.2.1 < u.1 := fun u hu => ht u (List.mem_append_left _ hu)
    have top : (greedy us).2 ≠ [] → ∃ m u, (greedy us).1 = m ++ [u] ∧ (greedy us).2.getLastD 0 = u.1 - 1 ∧ u ∈ us ∧ ∀ v ∈ (greedy us).1, v.1 ≤ u.1 := fun h => by
      have h1 : (greedy us).1 ≠ [] := fun z => h (by rw [g1, z]; rfl)
      obtain ⟨m, u, e⟩ : ∃ m x, (greedy us).1 = m ++ [x] := ⟨_, _, (List.dropLast_concat_getLast h1).symm⟩
      refine ⟨m, u, e, ?_, g2.subset (by rw [e]; simp), fun v hv => ?_⟩
      · rw [g1, e, List.map_append]
        simp
      · rw [e] at hv g3
        rcases List.mem_append.mp hv with hv | hv
        · have h2 := (List.pairwise_append.mp g3).2.2 v hv u (by simp)
          have h3 : u ∈ us := g2.subset (by rw [e]; simp)
          have := hlow u h3
          omega
        · rw [List.mem_singleton.mp hv]
          exact Int.le_refl _
    have e := greedy_snoc us t
    by_cases hc : (greedy us).2 = [] ∨ (greedy us).2.getLastD 0 < t.2.1
    · have e : greedy (us ++ [t]) = ((greedy us).1 ++ [t], (greedy us).2 ++ [t.1 - 1]) := by
        rw [e]
        unfold gst
        rw [if_pos hc]
      refine ⟨?_, ?_, ?_, fun u hu => ?_⟩
      · rw [e]
        simp only
        rw [g1, List.map_append]
        rfl
      · rw [e]
        exact g2.append (List.Sublist.refl _)
      · rw [e]
        simp only
        refine List.pairwise_append.mpr ⟨g3, List.pairwise_singleton _ _, fun v hv w hw => ?_⟩
        rw [List.mem_singleton.mp hw]
        rcases hc with hc | hc
        · have h0 : (greedy us).1 = [] := by
            rw [g1] at hc
            exact List.map_eq_nil_iff.mp hc
          rw [h0] at hv
          cases hv
        · have hne : (greedy us).2 ≠ [] := fun z => by
            rw [g1] at z
            rw [List.map_eq_nil_iff.mp z] at hv
            cases hv
          obtain ⟨m, u, _, e2, _, e4⟩ := top hne
          have := e4 v hv
          omega
      · rw [e]
        simp only
        rcases List.mem_append.mp hu with hu | hu
        · obtain ⟨p, hp, h1⟩ := g4 u hu
          exact ⟨p, List.mem_append_left _ hp, h1⟩
        · rw [List.mem_singleton.mp hu]
          exact ⟨t.1 - 1, by simp, by omega, by omega⟩
    · have e : greedy (us ++ [t]) = greedy us := by
        rw [e]
        unfold gst
        rw [if_neg hc]
      have hne : (greedy us).2 ≠ [] := fun z => hc (.inl z)
      refine ⟨by rw [e]; exact g1, by rw [e]; exact g2.trans (List.sublist_append_left _ _), by rw [e]; exact g3, fun u hu => ?_⟩
      rw [e]
      rcases List.mem_append.mp hu with hu | hu
      · exact g4 u hu
      · rw [List.mem_singleton.mp hu]
        obtain ⟨m, v, e1, e2, e3, _⟩ := top hne
        refine ⟨(greedy us).2.getLastD 0, ?_, ?_, ?_⟩
        · rw [last_of hne]
          exact List.getLast_mem hne
        · have : ¬ (greedy us).2.getLastD 0 < t.2.1 := fun z => hc (.inr z)
          omega
        · have := hle v e3
          omega
/-- the pins by the ends alone -/
def gp (ps : List Int) (q : Span) : List Int := if ps = [] ∨ ps.getLastD 0 < q.2 then ps ++ [q.1 - 1] else ps
def pinsOf (qs : List Span) : List Int := qs.foldl gp []
theorem greedy_pins (ts : List Tri.I3) : (greedy ts).2 = pinsOf (ts.map fun t => (t.1, t.2.1)) := by
  have key : ∀ (ts : List Tri.I3) (st : List Tri.I3 × List Int), (ts.foldl gst st).2 = (ts.map fun t => (t.1, t.2.1)).foldl gp st.2 := by
    intro ts
    induction ts with
    | nil => intro st; rfl
    | cons t r ih =>
      intro st
      show (r.foldl gst (gst st t)).2 = (r.map _).foldl gp (gp st.2 (t.1, t.2.1))
      rw [ih]
      congr 1
      unfold gst gp
      simp only
      split <;> rfl
  exact key ts ([], [])
theorem pinsOf_snoc (qs : List Span) (q : Span) : pinsOf (qs ++ [q]) = gp (pinsOf qs) q := by
  unfold pinsOf
  rw [List.foldl_append]
  rfl
/-- the ends, sorted -/
def Prs (ss : List Span) (qs : List Span) : Prop := qs.Pairwise (fun a b => SrtO.lexB b a = false) ∧ qs.Perm (ss.map fun s => (s.2, s.1))
theorem lexB_anti (a b : Span) (h1 : SrtO.lexB a b = false) (h2 : SrtO.lexB b a = false) : a = b := by
  have x := SrtO.lexB_no.mp h1
  have y := SrtO.lexB_no.mp h2
  obtain ⟨a1, a2⟩ := a
  obtain ⟨b1, b2⟩ := b
  simp only at x y
  have e1 : a1 = b1 := by omega
  have e2 : a2 = b2 := by omega
  rw [e1, e2]
theorem Prs.uniq {ss rs : List Span} {qs us : List Span} (h : Prs ss qs) (k : Prs rs us) (p : ss.Perm rs) : qs = us := srt_uniq lexB_anti h.1 k.1 (h.2.trans ((p.map _).trans k.2.symm))
theorem range_map (ss : List Span) : (List.range ss.length).map (fun i => ss.getD i (0, 0)) = ss := by
  apply List.ext_getElem
  · simp
  · intro i h1 h2
    simp [List.getD_eq_getElem?_getD, h2]
theorem Tr.prs {ss : List Span} {ts : List Tri.I3} (h : Tr ss ts) : Prs ss (ts.map fun t => (t.1, t.2.1)) := by
  refine ⟨List.pairwise_map.mpr (h.1.imp fun {a b} hab => ?_), ?_⟩
  · have := Tri.lex3_no.mp hab
    refine SrtO.lexB_no.mpr ?_
    simp only
    omega
  · have := h.2.map fun t : Tri.I3 => (t.1, t.2.1)
    refine this.trans ?_
    unfold trip
    rw [List.map_map]
    have e : (List.range ss.length).map ((fun t : Tri.I3 => (t.1, t.2.1)) ∘ fun i => ((ss.getD i (0, 0)).2, (ss.getD i (0, 0)).1, (i : Int))) = ((List.range ss.length).map fun i => ss.getD i (0, 0)).map fun s => (s.2, s.1) := by
      rw [List.map_map]
      rfl
    rw [e, range_map]
theorem trip_mem {ss : List Span} {t : Tri.I3} (h : t ∈ trip ss) : 0 ≤ t.2.2 ∧ t.2.2 < ss.length ∧ ss[t.2.2.toNat]? = some (t.2.1, t.1) := by
  unfold trip at h
  obtain ⟨i, hi, rfl⟩ := List.mem_map.mp h
  have hi := List.mem_range.mp hi
  refine ⟨by simp only; omega, by simp only; omega, ?_⟩
  simp [List.getD_eq_getElem?_getD, hi]
theorem trip_has {ss : List Span} {s : Span} (h : s ∈ ss) : ∃ i : Nat, (s.2, s.1, (i : Int)) ∈ trip ss := by
  obtain ⟨i, hi, e⟩ := List.getElem_of_mem h
  refine ⟨i, List.mem_map.mpr ⟨i, List.mem_range.mpr hi, ?_⟩⟩
  simp [List.getD_eq_getElem?_getD, hi, e]
theorem trip_nums (ss : List Span) : (trip ss).map (·.2.2) = (List.range ss.length).map fun i => ((i : Nat) : Int) := by
  unfold trip
  rw [List.map_map]
  rfl
theorem pick_perm {ss : List Span} {a b : List Int} (h : a.Perm b) : (pick ss a).Perm (pick ss b) := h.map _
theorem ap_symm {a b : Span} (h : Ap a b) : Ap b a := h.elim .inr .inl
theorem pw_perm {l m : List Span} (h : l.Perm m) (k : l.Pairwise Ap) : m.Pairwise Ap := h.pairwise k fun {_ _} => ap_symm
/-- the told paper is right -/
theorem told_shows {ss : List Span} {ts : List Tri.I3} (hs : ∀ s ∈ ss, s.1 < s.2) (h : Tr ss ts) {ch : List Int} (hc : ch.Perm ((greedy ts).1.map (·.2.2))) :
    Shows ss ch (greedy ts).2 ∧ (greedy ts).2.Pairwise (· < ·) := by
  have memt : ∀ t ∈ ts, 0 ≤ t.2.2 ∧ t.2.2 < ss.length ∧ ss[t.2.2.toNat]? = some (t.2.1, t.1) := fun t ht => trip_mem (h.2.mem_iff.mp ht)
  have low : ∀ t ∈ ts, t.2.1 < t.1 := fun t ht => hs (t.2.1, t.1) (List.mem_of_getElem? (memt t ht).2.2)
  have gd := gd_of _ ts rfl (h.1.imp fun {a b} hab => by
    have := Tri.lex3_no.mp hab
    omega) low
  obtain ⟨g1, g2, g3, g4⟩ := gd
  have nd : ((greedy ts).1.map (·.2.2)).Nodup := by
    have h1 : (ts.map (·.2.2)).Nodup := ((h.2.map fun t : Tri.I3 => t.2.2).nodup_iff).mpr (by
      rw [trip_nums]
      exact List.pairwise_map.mpr (List.nodup_range.imp fun {a b} hab => fun z => hab (by omega)))
    exact h1.sublist (g2.map _)
  have ndc : ch.Nodup := hc.nodup_iff.mpr nd
  have pk : pick ss ((greedy ts).1.map (·.2.2)) = (greedy ts).1.map fun t => (t.2.1, t.1) := by
    unfold pick
    rw [List.map_map]
    refine List.map_congr_left fun t ht => ?_
    have := (memt t (g2.subset ht)).2.2
    show ss.getD t.2.2.toNat (0, 0) = _
    rw [List.getD_eq_getElem?_getD, this]
    rfl
  refine ⟨⟨⟨fun c hcm => ?_, ndc⟩, ?_, ?_, fun s hsm => ?_⟩, ?_⟩
  · obtain ⟨t, ht, rfl⟩ := List.mem_map.mp (hc.mem_iff.mp hcm)
    have := memt t (g2.subset ht)
    exact ⟨this.1, this.2.1⟩
  · rw [g1, List.length_map, hc.length_eq, List.length_map]
  · refine pw_perm (pick_perm hc.symm) ?_
    rw [pk]
    exact List.pairwise_map.mpr (g3.imp fun {a b} hab => .inl hab)
  · obtain ⟨i, hi⟩ := trip_has hsm
    exact g4 _ (h.2.mem_iff.mpr hi)
  · rw [g1]
    refine List.pairwise_map.mpr ((List.pairwise_iff_forall_sublist.mpr fun {a b} hab => ?_))
    have h1 := List.pairwise_iff_forall_sublist.mp g3 hab
    have h2 := low b (g2.subset (hab.subset (by simp)))
    omega
theorem told_right {ss : List Span} {ts : List Tri.I3} (hs : ∀ s ∈ ss, s.1 < s.2) (h : Tr ss ts) {ch : List Int} (hc : ch.Perm ((greedy ts).1.map (·.2.2))) (hs2 : ch.Pairwise (· ≤ ·)) :
    Shows ss ch (greedy ts).2 ∧ ch.Pairwise (· < ·) ∧ (greedy ts).2.Pairwise (· < ·) := by
  obtain ⟨h1, h2⟩ := told_shows hs h hc
  exact ⟨h1, (hs2.and h1.1.2).imp fun {a b} ⟨h3, h4⟩ => by
    have : a ≠ b := h4
    omega, h2⟩
theorem Shows.perm {ss : List Span} {ch ch' pins pins' : List Int} (h : Shows ss ch pins) (p1 : ch'.Perm ch) (p2 : pins'.Perm pins) : Shows ss ch' pins' := by
  obtain ⟨⟨h1, h2⟩, h3, h4, h5⟩ := h
  refine ⟨⟨fun c hc => h1 c (p1.mem_iff.mp hc), p1.nodup_iff.mpr h2⟩, by rw [p1.length_eq, p2.length_eq, h3], pw_perm (pick_perm p1.symm) h4, fun s hs => ?_⟩
  obtain ⟨p, hp, h6⟩ := h5 s hs
  exact ⟨p, p2.mem_iff.mpr hp, h6⟩
section
variable {P : Program} {w : World} {K : PySem.W.Frag} {mg : Str → Option Value} {base : Heap}
/-! ### the program: apart, the looker's parts -/
def spAreNums (T : Tx K mg) : Sp := fun vs H Q _ => ∃ (c l : Addr) (ch : List Int) (us : List V), vs = [.ref c, .ref l] ∧ SqL K H c (ch.map V.int) ∧ SqL K H l us ∧ ch.length ≤ 1000 ∧ Tb T.tabs H ∧ ∀ H' b, (b = true ↔ NumsOk ch us.length) → Kp [] H H' → Tb T.tabs H' → Q (.bl b) H'
theorem ok_are_numbers (T : Tx K mg) (B : Tbs T base) : FnOk P w K mg base CX0 (1) T.f_are_numbers T.fd_are_numbers ["chosen", "spans"] (spAreNums T) := by
  refine T.FC_are_numbers.ok sc_are_numbers (fun vs H Q E h => ?_) (fun A outer s H vs Q E hr h => ?_)
  · obtain ⟨c, l, ch, us, rfl, _⟩ := h
    rfl
  · obtain ⟨c, l, ch, us, rfl, hc, hl, hlen, tb, q⟩ := h
    refine ⟨_, (pss_one (ps_ret (pe_and (pe_gxAll (own := [("number", 2)]) (g := (gName 2)) hr rfl sc_are_numbers.nd (by rfl) T.m_all (by decide +kernel) B.t_are_numbers rfl (gblk_by (own := [("number", 2)]) (N := N_are_numbers) (sc := defScope s_are_numbers) (by decide +kernel)) (pi_list (pv 0)) (fun _ _ _ _ _ => by exact (pg_name (i := 2) sc_are_numbers.nd rfl (Or.inl rfl))) (fun _ _ _ _ _ => pts_nil) (fun _ _ _ _ _ => (pe_chain op_le op_lt pe_int (pv 2) (pe_callB (show CallR _ (.builtin "len") (fun xs H Q => ∃ p ys, xs = [.ref p] ∧ (SqL K H p ys ∨ SqT K H p ys) ∧ Q (.int ys.length) H) from call_len_seq) (by rfl) T.m_len PySem.boot_len (pa_cons (pv 1) pa_nil)))) (fun _ => rfl)) (pe_one (pe_cmpR op_eq (pe_lenSet rfl (by rfl) T.m_len (by rfl) T.m_set (pv 0)) (pe_callB call_len_seq (by rfl) T.m_len PySem.boot_len (pa_cons (pv 0) pa_nil)) (nomark _)))))), ?_⟩
    have mP : T.pA_are_numbers ∈ T.tabs := by
      unfold Tx.tabs
      simp
    refine ⟨_, rfl, c, rfl, ⟨_, hc⟩, tb _ mP, fun H2 t2 => ?_⟩
    obtain ⟨tb2, k2⟩ := tb.kp mP t2
    have hc2 := k2.seq List.not_mem_nil hc
    have hl2 := k2.seq List.not_mem_nil hl
    refine gx_list (K := K) (a := c) (xs := ch.map V.int) (fun i z H' => H' = H2 ∧ ∀ x ∈ ch.take i, 0 ≤ x ∧ x < us.length) ⟨rfl, fun x h => nomatch h⟩ (fun i z H' _ h => by rw [h.1]; exact hc2) ?_ ?_
    · rintro i y z H' hi ⟨rfl, ih⟩
      rw [List.getElem?_map] at hi
      obtain ⟨x, ex, rfl⟩ := Option.map_eq_some_iff.mp hi
      have tk : ch.take (i + 1) = ch.take i ++ [x] := by
        rw [List.take_add_one, ex]
        rfl
      have bad : ¬ (0 ≤ x ∧ x < us.length) → Q (.bl false) H' := fun hn => q _ false ⟨(fun z => by cases z), fun z => absurd (z.1 x (List.mem_of_getElem? ex)) hn⟩ k2 tb2
      refine ⟨rfl, ?_⟩
      unfold tYes
      refine iteT ⟨_, rfl, _, _, rfl, rfl, ?_⟩
      by_cases h1 : 0 ≤ x
      · refine ⟨_, rfl, ?_⟩
        rw [decide_eq_true h1]
        refine iteT ⟨_, rfl, l, us, rfl, .inl hl2, _, _, rfl, rfl, ?_⟩
        refine ⟨decide (x < us.length), rfl, ?_⟩
        by_cases h2 : x < us.length
        · rw [decide_eq_true h2]
          refine iteT ⟨rfl, fun u hu => ?_⟩
          rw [tk] at hu
          rcases List.mem_append.mp hu with hu | hu
          · exact ih u hu
          · rw [List.mem_singleton.mp hu]
            exact ⟨h1, h2⟩
        · rw [decide_eq_false h2]
          exact iteF ⟨false, rfl, iteF (bad fun z => h2 z.2)⟩
      · refine ⟨_, rfl, ?_⟩
        rw [decide_eq_false h1]
        exact iteF ⟨false, rfl, iteF ⟨false, rfl, iteF (bad fun z => h1 z.1)⟩⟩
    · rintro z H' ⟨rfl, ih⟩
      rw [List.length_map, List.take_length] at ih
      refine ⟨true, rfl, iteT ?_⟩
      refine ⟨_, rfl, c, ch, rfl, hc2, hlen, fun ds nd mem => ?_⟩
      refine ⟨_, rfl, c, _, rfl, .inl hc2, rfl, ?_⟩
      rw [List.length_map]
      refine q _ _ ?_ k2 tb2
      rw [decide_eq_true_iff]
      constructor
      · intro e
        exact ⟨ih, (len_nodup nd mem).mp (by have := V.int.inj e; omega)⟩
      · intro h
        have := (len_nodup nd mem).mpr h.2
        rw [this]
end
section
variable {P : Program} {w : World} {K : PySem.W.Frag} {mg : Str → Option Value} {base : Heap}
/-- in order, neighbours are enough -/
theorem near_apart : ∀ {l : List Span}, (∀ s ∈ l, s.1 < s.2) → l.Pairwise (fun a b => SrtO.lexB b a = false) → ((∀ i a b, l[i]? = some a → l[i + 1]? = some b → a.2 ≤ b.1) ↔ l.Pairwise Ap)
  | [], _, _ => ⟨fun _ => List.Pairwise.nil, fun _ i a b h => by simp at h⟩
  | [x], _, _ => ⟨fun _ => List.pairwise_singleton _ _, fun _ i a b h1 h2 => by simp at h2⟩
  | x :: y :: r, h1, h2 => by
    obtain ⟨p1, p2⟩ := List.pairwise_cons.mp h2
    have ih := near_apart (l := y :: r) (fun s hs => h1 s (List.mem_cons_of_mem _ hs)) p2
    have hx := h1 x List.mem_cons_self
    constructor
    · intro h
      have h3 := ih.mp fun i a b e1 e2 => h (i + 1) a b (by simpa using e1) (by simpa using e2)
      have xy := h 0 x y rfl rfl
      refine List.pairwise_cons.mpr ⟨fun z hz => ?_, h3⟩
      rcases List.mem_cons.mp hz with rfl | hz
      · exact .inl xy
      · have h4 := (List.pairwise_cons.mp p2).1 z hz
        have := SrtO.lexB_no.mp h4
        exact .inl (by omega)
    · intro h i a b e1 e2
      obtain ⟨q1, q2⟩ := List.pairwise_cons.mp h
      cases i with
      | zero =>
        have ea : x = a := by simpa using e1
        have eb : y = b := by simpa using e2
        subst ea eb
        have hy := h1 y (by simp)
        have h5 := SrtO.lexB_no.mp (p1 y (by simp))
        rcases q1 y (by simp) with z | z
        · exact z
        · omega
      | succ i => exact ih.mpr q2 i a b (by simpa using e1) (by simpa using e2)
def spAllApart (T : Tx K mg) : Sp := fun vs H Q _ => ∃ (l : Addr) (us : List V) (ss : List Span), vs = [.ref l] ∧ SqL K H l us ∧ Sps H us ss ∧ (∀ s ∈ ss, s.1 < s.2) ∧ Tb T.tabs H ∧ ∀ H' b, (b = true ↔ ss.Pairwise Ap) → Kp [] H H' → Tb T.tabs H' → Q (.bl b) H'
theorem ok_all_apart (T : Tx K mg) (B : Tbs T base) : FnOk P w K mg base CX0 (1) T.f_all_apart T.fd_all_apart ["spans"] (spAllApart T) := by
  refine T.FC_all_apart.ok sc_all_apart (fun vs H Q E h => ?_) (fun A outer s H vs Q E hr h => ?_)
  · obtain ⟨l, us, ss, rfl, _⟩ := h
    rfl
  · obtain ⟨l, us, ss, rfl, hl, hS, hlt, tb, q⟩ := h
    refine ⟨_, (pss_cons (ps_set (i := 1) sc_all_apart.nd rfl (Or.inl rfl) (pe_callB cr_sortedPO (by rfl) T.m_sorted (by decide +kernel) (pa_cons (pv 0) pa_nil)))
      (pss_one (ps_ret (pe_gxAll (own := [("ahead", 2), ("behind", 3)]) (g := (gTup K 2 (gCons (gName 2) (gCons (gName 3) gNil)))) hr rfl sc_all_apart.nd (by rfl) T.m_all (by decide +kernel) B.t_all_apart rfl (gblk_by (own := [("ahead", 2), ("behind", 3)]) (N := N_all_apart) (sc := defScope s_all_apart) (by decide +kernel)) (pi_zip (by rfl) T.m_zip (pa_cons (pv 1) (pa_cons (pe_slice sl_list (pv 1) (po_some pe_int) po_none) pa_nil))) (fun _ _ _ _ _ => by exact (pg_tup rfl (pgs_cons (pg_name (i := 2) sc_all_apart.nd rfl (Or.inl rfl)) (pgs_cons (pg_name (i := 3) sc_all_apart.nd rfl (Or.inl rfl)) pgs_nil)))) (fun _ _ _ _ _ => pts_nil) (fun _ _ _ _ _ => (pe_cmpR op_le (pe_ix (show IxR _ (rIxT K) from ix_tup) (pv 2) pe_int (fun _ _ => rfl)) (pe_ix (show IxR _ (rIxT K) from ix_tup) (pv 3) pe_int (fun _ _ => rfl)) (nomark _))) (fun _ => rfl))))), ?_⟩
    have mP : T.pA_all_apart ∈ T.tabs := by
      unfold Tx.tabs
      simp
    refine ⟨_, rfl, l, us, kO H, rfl, hl, fun x hx => ?_, fun ys o srt stb no => ?_⟩
    · obtain ⟨sp, _, t, e, ht⟩ := hS.memO hx
      refine ⟨t, e, ?_⟩
      rw [kO_spn ⟨t, e, ht⟩]
      exact ht
    obtain ⟨rs, hR, prm, ord⟩ := sorted_sps hS srt stb
    obtain ⟨go, so⟩ := upd_at (o := .lst ys) no
    have hR1 := hR.same so
    have rlt : ∀ s ∈ rs, s.1 < s.2 := fun s hs => hlt s (prm.mem_iff.mp hs)
    refine ⟨_, rfl, _, rfl, 1, rfl, o, ys, rfl, SqL.of go, fun c nc => ?_⟩
    rw [cut_1]
    obtain ⟨gc, sc⟩ := upd_at (o := .lst (ys.drop 1)) nc
    have go2 := sc _ _ go
    have hR2 := hR1.same sc
    have tb2 := (tb.same so).same sc
    have s2 := so.trans sc
    revert gc go2 hR2 tb2 s2
    generalize upd (upd H o (.lst ys)) c (.lst (ys.drop 1)) = H2
    intro gc go2 hR2 tb2 s2
    refine ⟨o, c, ys, ys.drop 1, rfl, SqL.of go2, SqL.of gc, tb2 _ mP, fun H3 t3 => ?_⟩
    obtain ⟨tb3, k3⟩ := tb2.kp mP t3
    have go3 := k3.lst List.not_mem_nil go2
    have gc3 := k3.lst List.not_mem_nil gc
    have hR3 := k3.sps (lsts0 _) hR2
    have kk : Kp [] H H3 := (Kp.of s2).trans k3
    have yl := hR3.len
    have fin : ∀ H' b, (b = true ↔ ∀ i a b, rs[i]? = some a → rs[i + 1]? = some b → a.2 ≤ b.1) → Kp [] H3 H' → Tb T.tabs H' → Q (.bl b) H' := fun H' b hb k' tb' => q H' b (by
      rw [hb, near_apart rlt ord]
      exact ⟨pw_perm prm, pw_perm prm.symm⟩) (kk.trans k') tb'
    refine gx_zip (K := K) (a := o) (b := c) (xs := ys) (ys := ys.drop 1) (fun i z H' => Same H3 H' ∧ ∀ j a b, j < i → rs[j]? = some a → rs[j + 1]? = some b → a.2 ≤ b.1) ⟨Same.refl _, fun j a b h => by omega⟩ (fun i z H' _ h => ⟨SqL.of (h.1 _ _ go3), SqL.of (h.1 _ _ gc3)⟩) ?_ ?_
    · rintro i x y z H' t hx hy ⟨sm, ih⟩ nt
      rw [List.getElem?_drop] at hy
      obtain ⟨s1, e1, h1⟩ := hR3.get hx
      obtain ⟨s2', e2, h2⟩ := hR3.get hy
      rw [Nat.add_comm] at e2
      obtain ⟨gt, st⟩ := upd_at (o := .tup [x, y]) nt
      have sm2 := sm.trans st
      obtain ⟨t1, rfl, ht1⟩ := h1.same sm2
      obtain ⟨t2, rfl, ht2⟩ := h2.same sm2
      refine ⟨t, _, rfl, SqT.of gt, rfl, _, _, rfl, _, _, rfl, rfl, rfl, ?_⟩
      unfold tYes
      refine iteT ⟨_, rfl, t1, _, _, _, rfl, rfl, SqT.of ht1, atI_nat (j := 1) rfl, _, rfl, t2, _, _, _, rfl, rfl, SqT.of ht2, atI_nat (j := 0) rfl, _, _, rfl, rfl, ?_⟩
      refine ⟨decide (s1.2 ≤ s2'.1), rfl, ?_⟩
      by_cases hle : s1.2 ≤ s2'.1
      · rw [decide_eq_true hle]
        refine iteT ⟨sm2, fun j a b hj ea eb => ?_⟩
        by_cases ji : j = i
        · subst ji
          rw [e1] at ea
          rw [e2] at eb
          cases ea
          cases eb
          exact hle
        · exact ih j a b (by omega) ea eb
      · rw [decide_eq_false hle]
        exact iteF (fin _ false ⟨(fun z => by cases z), fun z => absurd (z i s1 s2' e1 e2) hle⟩ (.of sm2) (tb3.same sm2))
    · rintro z H' ⟨sm, ih⟩
      refine fin H' true ⟨fun _ i a b ea eb => ih i a b ?_ ea eb, fun _ => rfl⟩ (.of sm) (tb3.same sm)
      have := (List.getElem?_eq_some_iff.mp eb).1
      rw [List.length_drop]
      omega
def spPierced (T : Tx K mg) : Sp := fun vs H Q _ => ∃ (v : V) (sp : Span) (c : Addr) (pins : List Int), vs = [v, .ref c] ∧ Spn H v sp ∧ SqL K H c (pins.map V.int) ∧ Tb T.tabs H ∧ ∀ H' b, (b = true ↔ ∃ p ∈ pins, sp.1 ≤ p ∧ p < sp.2) → Kp [] H H' → Tb T.tabs H' → Q (.bl b) H'
theorem ok_is_pierced (T : Tx K mg) (B : Tbs T base) : FnOk P w K mg base CX0 (1) T.f_is_pierced T.fd_is_pierced ["span", "pins"] (spPierced T) := by
  refine T.FC_is_pierced.ok sc_is_pierced (fun vs H Q E h => ?_) (fun A outer s H vs Q E hr h => ?_)
  · obtain ⟨v, sp, c, pins, rfl, _⟩ := h
    rfl
  · obtain ⟨v, sp, c, pins, rfl, ⟨t, rfl, ht⟩, hc, tb, q⟩ := h
    refine ⟨_, (pss_cons (ps_asg (pv 0) (pg_tup rfl (pgs_cons (pg_name (i := 3) sc_is_pierced.nd rfl (Or.inr rfl)) (pgs_cons (pg_name (i := 2) sc_is_pierced.nd rfl (Or.inr rfl)) pgs_nil))))
      (pss_one (ps_ret (pe_gxAny (own := [("pin", 4)]) (g := (gName 4)) hr rfl sc_is_pierced.nd (by rfl) T.m_any (by decide +kernel) B.t_is_pierced rfl (gblk_by (own := [("pin", 4)]) (N := N_is_pierced) (sc := defScope s_is_pierced) (by decide +kernel)) (pi_list (pv 1)) (fun _ _ _ _ _ => by exact (pg_name (i := 4) sc_is_pierced.nd rfl (Or.inl rfl))) (fun _ _ _ _ _ => pts_nil) (fun _ _ _ _ _ => (pe_chain op_le op_lt (pv 3) (pv 4) (pv 2))) (fun _ => rfl))))), ?_⟩
    have mP : T.pA_is_pierced ∈ T.tabs := by
      unfold Tx.tabs
      simp
    refine ⟨_, rfl, t, _, rfl, SqT.of ht, rfl, _, _, rfl, _, _, rfl, rfl, ?_⟩
    refine ⟨_, rfl, c, rfl, ⟨_, hc⟩, tb _ mP, fun H2 t2 => ?_⟩
    obtain ⟨tb2, k2⟩ := tb.kp mP t2
    have hc2 := k2.seq List.not_mem_nil hc
    refine gx_list (K := K) (a := c) (xs := pins.map V.int) (fun i z H' => H' = H2 ∧ ∀ x ∈ pins.take i, ¬ (sp.1 ≤ x ∧ x < sp.2)) ⟨rfl, fun x h => nomatch h⟩ (fun i z H' _ h => by rw [h.1]; exact hc2) ?_ ?_
    · rintro i y z H' hi ⟨rfl, ih⟩
      rw [List.getElem?_map] at hi
      obtain ⟨x, ex, rfl⟩ := Option.map_eq_some_iff.mp hi
      have tk : pins.take (i + 1) = pins.take i ++ [x] := by
        rw [List.take_add_one, ex]
        rfl
      have no : ¬ (sp.1 ≤ x ∧ x < sp.2) → ∀ u ∈ pins.take (i + 1), ¬ (sp.1 ≤ u ∧ u < sp.2) := fun hn u hu => by
        rw [tk] at hu
        rcases List.mem_append.mp hu with hu | hu
        · exact ih u hu
        · rw [List.mem_singleton.mp hu]
          exact hn
      refine ⟨rfl, ?_⟩
      unfold tYes
      refine iteT ⟨_, rfl, _, rfl, _, _, rfl, rfl, ?_⟩
      by_cases h1 : sp.1 ≤ x
      · refine ⟨_, rfl, ?_⟩
        rw [decide_eq_true h1]
        refine iteT ⟨_, rfl, _, _, rfl, rfl, ?_⟩
        refine ⟨decide (x < sp.2), rfl, ?_⟩
        by_cases h2 : x < sp.2
        · rw [decide_eq_true h2]
          exact iteT (q _ true ⟨fun _ => ⟨x, List.mem_of_getElem? ex, h1, h2⟩, fun _ => rfl⟩ k2 tb2)
        · rw [decide_eq_false h2]
          exact iteF ⟨rfl, no fun z => h2 z.2⟩
      · refine ⟨_, rfl, ?_⟩
        rw [decide_eq_false h1]
        exact iteF ⟨false, rfl, iteF ⟨rfl, no fun z => h1 z.1⟩⟩
    · rintro z H' ⟨rfl, ih⟩
      rw [List.length_map, List.take_length] at ih
      exact q _ false ⟨(fun z => by cases z), fun ⟨p, hp, h⟩ => absurd h (ih p hp)⟩ k2 tb2
def spShows (T : Tx K mg) : Sp := fun vs H Q E => ∃ (l c p : Addr) (us : List V) (ss : List Span) (ch pins : List Int), vs = [.ref l, .ref c, .ref p] ∧ H l = some (.lst us) ∧ Sps H us ss ∧ H c = some (.lst (ch.map V.int)) ∧ H p = some (.lst (pins.map V.int)) ∧ ch.length ≤ 1000 ∧ Tb T.tabs H ∧
  (ss.all isSpan = false → E (.ref T.C_NoSpan) none H) ∧ (ss.all isSpan = true → ∀ H' b, (b = true ↔ Shows ss ch pins) → Kp [] H H' → Tb T.tabs H' → Q (.bl b) H')
theorem ok_shows_apart (T : Tx K mg) (B : Tbs T base) : FnOk P w K mg base (L2.CX P w) (6) T.f_shows_apart T.fd_shows_apart ["spans", "chosen", "pins"] (spShows T) := by
  have G_check_spans : FnOk P w K mg base (L2.CX P w) _ _ _ _ _ := ok_check_spans T
  have G_are_numbers : FnOk P w K mg base CX0 _ _ _ _ _ := ok_are_numbers T B
  have G_all_apart : FnOk P w K mg base CX0 _ _ _ _ _ := ok_all_apart T B
  have G_is_pierced : FnOk P w K mg base CX0 _ _ _ _ _ := ok_is_pierced T B
  refine T.FC_shows_apart.okX sc_shows_apart (fun vs H Q E h => ?_) (fun A outer s H vs Q E hr h => ?_)
  · obtain ⟨l, c, p, us, ss, ch, pins, rfl, _⟩ := h
    rfl
  · obtain ⟨l, c, p, us, ss, ch, pins, rfl, hl, hS, hc, hp, chl, tb, e, q⟩ := h
    refine ⟨_, (pss_cons (ps_expr (pe_call G_check_spans (hr.mono (by decide)) (by rfl) T.g_check_spans T.F_check_spans.kp T.b_check_spans .nil (passes_call (takes_of rfl rfl rfl rfl) (fun _ _ _ _ h => h)) (pa_cons (pv 0) pa_nil)))
      (pss_cons (ps_if (PW.pt (pw_or (pt_not (pt_val (pe_call G_are_numbers (hr.mono (by decide)) (by rfl) T.g_are_numbers T.F_are_numbers.kp T.b_are_numbers .nil pass0 (pa_cons (pv 1) (pa_cons (pv 0) pa_nil))))) (pw_or1 (pt_cmpR op_ne (pe_callB call_len_seq (by rfl) T.m_len PySem.boot_len (pa_cons (pv 2) pa_nil)) (pe_callB call_len_seq (by rfl) T.m_len PySem.boot_len (pa_cons (pv 1) pa_nil)) (nomark _))))) (pss_one (ps_ret pe_bl)) pss_nil)
      (pss_cons (ps_if (pt_not (pt_val (pe_call G_all_apart (hr.mono (by decide)) (by rfl) T.g_all_apart T.F_all_apart.kp T.b_all_apart .nil pass0 (pa_cons (pe_lc (own := [("number", 4)]) (g := (gName 4)) (by rfl) sc_shows_apart.nd (pi_list (pv 1)) (blkOk_by (own := [("number", 4)]) (N := N_shows_apart) (sc := defScope s_shows_apart) (by decide +kernel)) (fun _ _ _ _ _ => (pg_name (i := 4) sc_shows_apart.nd rfl (Or.inl rfl))) (fun _ _ _ _ _ => pts_nil) (fun _ _ _ _ _ => (pe_ix (show IxR _ (rIxL K) from ix_list) (pv 0) (pv 4) (fun _ _ => rfl)))) pa_nil)))) (pss_one (ps_ret pe_bl)) pss_nil)
      (pss_one (ps_ret (pe_gxAll (own := [("span", 3)]) (g := (gName 3)) hr rfl sc_shows_apart.nd (by rfl) T.m_all (by decide +kernel) B.t_shows_apart rfl (gblk_by (own := [("span", 3)]) (N := N_shows_apart) (sc := defScope s_shows_apart) (by decide +kernel)) (pi_list (pv 0)) (fun _ _ _ _ _ => by exact (pg_name (i := 3) sc_shows_apart.nd rfl (Or.inl rfl))) (fun _ _ _ _ _ => pts_nil) (fun _ _ _ _ _ => (pe_call G_is_pierced (room_gx (hr.mono (by decide)) _) (by rfl) T.g_is_pierced T.F_is_pierced.kp T.b_is_pierced .nil pass0 (pa_cons (pv 3) (pa_cons (pv 2) pa_nil)))) (fun _ => rfl))))))), ?_⟩
    have mP : T.pA_shows_apart ∈ T.tabs := by
      unfold Tx.tabs
      simp
    have ul := hS.len
    refine ⟨_, rfl, l, us, ss, rfl, hl, hS, fun ok => ?_, e⟩
    have q := q ok
    have hlt : ∀ s ∈ ss, s.1 < s.2 := fun s hs => ((isSpan_iff s).mp (List.all_eq_true.mp ok s hs)).2.1
    have no : ∀ H', ¬ Shows ss ch pins → Kp [] H H' → Tb T.tabs H' → Q (.bl false) H' := fun H' hn k t => q H' false ⟨(fun z => by cases z), fun z => absurd z hn⟩ k t
    refine ⟨_, rfl, _, rfl, c, l, ch, us, rfl, SqL.of hc, SqL.of hl, chl, tb, fun H1 b1 h1 k1 tb1 => ⟨b1, rfl, ?_⟩⟩
    cases b1 with
    | false => exact iteT (no H1 (fun z => by have := h1.mpr (by rw [ul]; exact z.1); cases this) k1 tb1)
    | true =>
      have nums : NumsOk ch ss.length := by
        rw [← ul]
        exact h1.mp rfl
      have hc1 := k1.lst List.not_mem_nil hc
      have hp1 := k1.lst List.not_mem_nil hp
      have hl1 := k1.lst List.not_mem_nil hl
      have hS1 := k1.sps (lsts0 _) hS
      refine iteF ⟨_, rfl, p, _, rfl, .inl (SqL.of hp1), _, rfl, c, _, rfl, .inl (SqL.of hc1), rfl, _, rfl, ?_⟩
      rw [List.length_map, List.length_map]
      by_cases hle : pins.length = ch.length
      case neg =>
        refine iteNT (fun z => hle (by have := V.int.inj z; omega)) (no H1 (fun z => hle z.2.1) k1 tb1)
      refine iteNS (by rw [hle]) ?_
      -- the chosen ones
      refine ⟨_, rfl, c, rfl, ⟨_, SqL.of hc1⟩, fun D nD => ?_⟩
      refine lc_list (K := K) (a := c) (xs := ch.map V.int) (fun i H' => Same H1 H' ∧ ∃ ws, H' D = some (.lst ws) ∧ Sps H' ws (pick ss (ch.take i))) ⟨same_upd nD, [], upd_same, .nil⟩ (fun i H' _ h => SqL.of (h.1 _ _ hc1)) ?_ ?_
      · rintro i y H' hi ⟨sm, ws, hD, hw⟩
        rw [List.getElem?_map] at hi
        obtain ⟨x, ex, rfl⟩ := Option.map_eq_some_iff.mp hi
        have nx := nums.1 x (List.mem_of_getElem? ex)
        have wl := hw.len
        have ii := (List.getElem?_eq_some_iff.mp ex).1
        have hx : x.toNat < us.length := by omega
        obtain ⟨sp, es, hsp⟩ := (hS1.same sm).get (List.getElem?_eq_getElem hx)
        have cf : Chg [D] H' (upd H' D (.lst (ws ++ [us[x.toNat]]))) := Chg.upd List.mem_cons_self
        refine ⟨rfl, ?_⟩
        unfold tYes
        refine iteT ⟨_, rfl, _, rfl, l, us, x, us[x.toNat], rfl, rfl, SqL.of (sm _ _ hl1), at_of (j := x.toNat) (by omega) (List.getElem?_eq_getElem hx), ws, hD, small_lt ?_, same_more sm nD, ws ++ [us[x.toNat]], upd_same, ?_⟩
        · rw [wl]
          unfold pick
          rw [List.length_map, List.length_take]
          omega
        · have e9 : pick ss (ch.take (i + 1)) = pick ss (ch.take i) ++ [sp] := by
            unfold pick
            rw [List.take_add_one, ex, List.map_append]
            congr 1
            show [ss.getD x.toNat (0, 0)] = [sp]
            rw [List.getD_eq_getElem?_getD, es]
            rfl
          rw [e9]
          exact (hw.app (.one hsp)).chg cf (Lsts.of1 hD)
      · rintro H2 ⟨s2, ws, hD, hw⟩
        rw [List.length_map, List.take_length] at hw
        have plt : ∀ s ∈ pick ss ch, s.1 < s.2 := fun s hs => by
          obtain ⟨x, hx, rfl⟩ := List.mem_map.mp hs
          have nx := nums.1 x hx
          have h2 : x.toNat < ss.length := by omega
          rw [List.getD_eq_getElem?_getD, List.getElem?_eq_getElem h2]
          exact hlt _ (List.getElem_mem h2)
        refine ⟨D, ws, _, rfl, SqL.of hD, hw, plt, tb1.same s2, fun H3 b3 h3 k3 tb3 => ⟨b3, rfl, ?_⟩⟩
        have kk : Kp [] H H3 := k1.trans ((Kp.of s2).trans k3)
        cases b3 with
        | false => exact iteT (no H3 (fun z => by have := h3.mpr z.2.2.1; cases this) kk tb3)
        | true =>
          have pw := h3.mp rfl
          have hl3 := kk.lst List.not_mem_nil hl
          have hS3 := kk.sps (lsts0 _) hS
          have hp3 := kk.lst List.not_mem_nil hp
          refine iteF ⟨_, rfl, l, rfl, ⟨_, SqL.of hl3⟩, tb3 _ mP, fun H4 t4 => ?_⟩
          obtain ⟨tb4, k4⟩ := tb3.kp mP t4
          have hl4 := k4.lst List.not_mem_nil hl3
          have hS4 := k4.sps (lsts0 _) hS3
          have hp4 := k4.lst List.not_mem_nil hp3
          have k5 := kk.trans k4
          refine gx_list (K := K) (a := l) (xs := us) (fun i z H' => Kp [] H4 H' ∧ Tb T.tabs H' ∧ ∀ s ∈ ss.take i, ∃ p ∈ pins, s.1 ≤ p ∧ p < s.2) ⟨Kp.refl _ _, tb4, fun x h => nomatch h⟩ (fun i z H' _ h => SqL.of (h.1.lst List.not_mem_nil hl4)) ?_ ?_
          · rintro i y z H' hi ⟨k', tb', ih⟩
            obtain ⟨sp, es, hsp⟩ := hS4.get hi
            have tk : ss.take (i + 1) = ss.take i ++ [sp] := by
              rw [List.take_add_one, es]
              rfl
            refine ⟨rfl, ?_⟩
            unfold tYes
            refine iteT ⟨_, rfl, _, rfl, y, sp, p, pins, rfl, k'.spn (lsts0 _) hsp, SqL.of (k'.lst List.not_mem_nil hp4), tb', fun H6 b6 h6 k6 tb6 => ⟨b6, rfl, ?_⟩⟩
            cases b6 with
            | true =>
              refine iteT ⟨k'.trans k6, tb6, fun u hu => ?_⟩
              rw [tk] at hu
              rcases List.mem_append.mp hu with hu | hu
              · exact ih u hu
              · rw [List.mem_singleton.mp hu]
                exact h6.mp rfl
            | false => exact iteF (no H6 (fun z => by have := h6.mpr (z.2.2.2 sp (List.mem_of_getElem? es)); cases this) (k5.trans (k'.trans k6)) tb6)
          · rintro z H' ⟨k', tb', ih⟩
            rw [ul, List.take_length] at ih
            exact q H' true ⟨fun _ => ⟨nums, hle, pw, ih⟩, fun _ => rfl⟩ (k5.trans k') tb'
end
section
variable {P : Program} {w : World} {K : PySem.W.Frag} {mg : Str → Option Value} {base : Heap}
def tripN (ss : List Span) (n : Nat) : List Tri.I3 := (List.range n).map fun i => ((ss.getD i (0, 0)).2, (ss.getD i (0, 0)).1, (i : Int))
theorem tripN_succ {ss : List Span} {n : Nat} {s : Span} (h : ss[n]? = some s) : tripN ss (n + 1) = tripN ss n ++ [(s.2, s.1, (n : Int))] := by
  unfold tripN
  rw [List.range_succ, List.map_append]
  congr 1
  show [((ss.getD n (0, 0)).2, (ss.getD n (0, 0)).1, (n : Int))] = _
  rw [List.getD_eq_getElem?_getD, h]
  rfl
theorem snocI {ns : List Int} (h : ns ≠ []) : ∃ m, ns = m ++ [ns.getLastD 0] := ⟨ns.dropLast, by
  rw [last_of h]
  exact (List.dropLast_concat_getLast h).symm⟩
def spMost (T : Tx K mg) : Sp := fun vs H Q E => ∃ (l : Addr) (us : List V) (ss : List Span), vs = [.ref l] ∧ H l = some (.lst us) ∧ Sps H us ss ∧ ss.length ≤ 100000 ∧ (ss.all isSpan = false → E (.ref T.C_NoSpan) none H) ∧
  (ss.all isSpan = true → ∀ (H' : Hp) (t c p : Addr) (ts : List Tri.I3) (ch : List Int), Same H H' → H t = none → H c = none → H p = none → c ≠ p → t ≠ c → t ≠ p → H' t = some (.tup [.ref c, .ref p]) → H' c = some (.lst (ch.map V.int)) → H' p = some (.lst ((greedy ts).2.map V.int)) → Tr ss ts → ch.Perm ((greedy ts).1.map (·.2.2)) → ch.Pairwise (· ≤ ·) → Q (.ref t) H')
theorem ok_most_apart (T : Tx K mg) : FnOk P w K mg base (L2.CX P w) (6) T.f_most_apart T.fd_most_apart ["spans"] (spMost T) := by
  have G_check_spans : FnOk P w K mg base (L2.CX P w) _ _ _ _ _ := ok_check_spans T
  refine T.F_most_apart.okX sc_most_apart (fun vs H Q E h => ?_) (fun cdv A outer s H vs Q E hr h => ?_)
  · obtain ⟨l, us, ss, rfl, _⟩ := h
    rfl
  · obtain ⟨l, us, ss, rfl, hl, hS, hlen, e, q⟩ := h
    refine ⟨_, (pss_cons (ps_expr (pe_call G_check_spans (hr.mono (by decide)) (by rfl) T.g_check_spans T.F_check_spans.kp T.b_check_spans .nil (passes_call (takes_of rfl rfl rfl rfl) (fun _ _ _ _ h => h)) (pa_cons (pv 0) pa_nil)))
      (pss_cons (ps_set (i := 1) sc_most_apart.nd rfl (Or.inl rfl) (pe_lst pa_nil))
      (pss_cons (ps_set (i := 2) sc_most_apart.nd rfl (Or.inl rfl) (pe_lst pa_nil))
      (pss_cons (ps_for (passes_of rfl) (by rfl) (pi_list (pe_callB Tri.cr_sorted3 (by rfl) T.m_sorted (by decide +kernel) (pa_cons (pe_lc (own := [("number", 3), ("low", 4), ("high", 5)]) (g := (gTup K 2 (gCons (gName 3) (gCons (gTup K 2 (gCons (gName 4) (gCons (gName 5) gNil))) gNil)))) (by rfl) sc_most_apart.nd (pi_enum (by rfl) T.m_enumerate (pa_cons (pv 0) pa_nil)) (blkOk_by (own := [("number", 3), ("low", 4), ("high", 5)]) (N := N_most_apart) (sc := defScope s_most_apart) (by decide +kernel)) (fun _ _ _ _ _ => (by exact (pg_tup rfl (pgs_cons (pg_name (i := 3) sc_most_apart.nd rfl (Or.inl rfl)) (pgs_cons (pg_tup rfl (pgs_cons (pg_name (i := 4) sc_most_apart.nd rfl (Or.inl rfl)) (pgs_cons (pg_name (i := 5) sc_most_apart.nd rfl (Or.inl rfl)) pgs_nil))) pgs_nil))))) (fun _ _ _ _ _ => pts_nil) (fun _ _ _ _ _ => (pe_tup (pa_cons (pv 5) (pa_cons (pv 4) (pa_cons (pv 3) pa_nil)))))) pa_nil))) (pg_tup rfl (pgs_cons (pg_name (i := 5) sc_most_apart.nd rfl (Or.inl rfl)) (pgs_cons (pg_name (i := 4) sc_most_apart.nd rfl (Or.inl rfl)) (pgs_cons (pg_name (i := 3) sc_most_apart.nd rfl (Or.inl rfl)) pgs_nil))))
        (pss_one (ps_if (PW.pt (pw_or (pt_not (pt_truth (pv 2) (by intro _; rfl))) (pw_or1 (pt_cmpR op_lt (pe_ix ix_list (pv 2) (pe_un un_neg pe_int) (fun _ _ => rfl)) (pv 4) (nomark _))))) (pss_cons (ps_expr (pe_bm PySem.F.plainAttrs_list PySem.F.slot_list_append PySem.F.type_list_append mt_append (pv 1) (pa_cons (pv 3) pa_nil)))
      (pss_one (ps_expr (pe_bm PySem.F.plainAttrs_list PySem.F.slot_list_append PySem.F.type_list_append mt_append (pv 2) (pa_cons (pe_op op_sub (pv 5) pe_int) pa_nil))))) pss_nil)))
      (pss_one (ps_ret (pe_tup (pa_cons (pe_callB cr_sortedI (by rfl) T.m_sorted (by decide +kernel) (pa_cons (pv 1) pa_nil)) (pa_cons (pv 2) pa_nil))))))))), ?_⟩
    refine ⟨_, rfl, l, us, ss, rfl, hl, hS, fun ok => ?_, e⟩
    have q := q ok
    have ul := hS.len
    refine ⟨Nat.zero_le _, fun C nC => ?_⟩
    obtain ⟨gC, sC⟩ := upd_at (o := .lst []) nC
    refine ⟨Nat.zero_le _, fun D nD => ?_⟩
    obtain ⟨gD, sD⟩ := upd_at (o := .lst []) nD
    have nCD : C ≠ D := ne_of_none gC nD
    have nD0 : H D = none := sC.free nD
    have s1 := sC.trans sD
    have gC1 := sD _ _ gC
    revert gC1 gD s1
    generalize upd (upd H C (.lst [])) D (.lst []) = H1
    intro gD s1 gC1
    have hl1 := s1 _ _ hl
    have hS1 := hS.same s1
    refine ⟨_, rfl, l, us, rfl, SqL.of hl1, fun D2 nD2 => ?_⟩
    refine lc_enum (K := K) (a := l) (xs := us) (fun i H' => Same H1 H' ∧ ∃ ws, H' D2 = some (.lst ws) ∧ Rws H' ws ((tripN ss i).map i3R)) ⟨same_upd nD2, [], upd_same, .nil⟩ (fun i H' _ h => SqL.of (h.1 _ _ hl1)) ?_ ?_
    · rintro i x H' t hi ⟨sm, ws, hD2, hw⟩ nt
      obtain ⟨sp, es, hsp⟩ := hS1.get hi
      obtain ⟨gt, st⟩ := upd_at (o := .tup [.int (i : Nat), x]) nt
      have sm2 := sm.trans st
      obtain ⟨t1, rfl, ht1⟩ := hsp.same sm2
      have wl := hw.len
      have wl2 : ws.length = i := by
        rw [wl, List.length_map]
        unfold tripN
        simp
      have ii := (List.getElem?_eq_some_iff.mp hi).1
      refine ⟨t, _, rfl, SqT.of gt, rfl, _, _, rfl, _, _, rfl, t1, _, rfl, SqT.of ht1, rfl, _, _, rfl, _, _, rfl, rfl, rfl, rfl, ?_⟩
      unfold tYes
      refine iteT ⟨_, rfl, _, rfl, _, rfl, (by show 3 ≤ sizeLine; decide), fun t2 nt2 => ?_⟩
      have st2 := same_upd (o := .tup [.int sp.2, .int sp.1, .int (i : Nat)]) nt2
      have sm3 := st.trans st2
      have hD3 := sm3 _ _ hD2
      have cf : Chg [D2] (upd (upd H' t (.tup [.int (i : Nat), .ref t1])) t2 (.tup [.int sp.2, .int sp.1, .int (i : Nat)])) (upd (upd (upd H' t (.tup [.int (i : Nat), .ref t1])) t2 (.tup [.int sp.2, .int sp.1, .int (i : Nat)])) D2 (.lst (ws ++ [.ref t2]))) := Chg.upd List.mem_cons_self
      refine ⟨ws, hD3, small_lt (by omega), same_more (sm2.trans st2) nD2, ws ++ [.ref t2], upd_same, ?_⟩
      rw [tripN_succ es, List.map_append]
      exact Rws.app ((Kp.chg cf).rws (Lsts.of1 hD3) (hw.same sm3)) (.one ((Kp.chg cf).rw (Lsts.of1 hD3) ⟨t2, rfl, upd_same⟩))
    · rintro H2 ⟨s2, ws, hD2, hw⟩
      rw [ul] at hw
      have hw : Rws H2 ws ((trip ss).map i3R) := hw
      refine ⟨D2, ws, kO3 H2, rfl, SqL.of hD2, fun x hx => ?_, fun ys o srt stb no => ?_⟩
      · obtain ⟨r, _, hr⟩ := hw.memO hx
        rw [kO3_row hr]
        exact hr
      obtain ⟨ts, hts, prm, ord⟩ := sorted_rws hw srt stb
      have tr : Tr ss ts := ⟨ord, prm⟩
      obtain ⟨go, so⟩ := upd_at (o := .lst ys) no
      have s3 := s2.trans so
      have hts3 := hts.same so
      revert go s3 hts3
      generalize upd H2 o (.lst ys) = H3
      intro go s3 hts3
      have yl := hts3.len
      rw [List.length_map] at yl
      have nC3 := s3 _ _ gC1
      have nD3 := s3 _ _ gD
      have noC : o ≠ C := (ne_of_none (s2 _ _ gC1) no).symm
      have noD : o ≠ D := (ne_of_none (s2 _ _ gD) no).symm
      refine ⟨o, rfl, ⟨_, SqL.of go⟩, for_list (K := K) (a := o) (xs := ys) (fun i σ H' => ∃ y3 y4 y5, σ = [some (.ref l), some (.ref C), some (.ref D), y3, y4, y5] ∧ Same H H' ∧ Chg [C, D] H3 H' ∧ H' C = some (.lst (((greedy (ts.take i)).1.map (·.2.2)).map V.int)) ∧ H' D = some (.lst ((greedy (ts.take i)).2.map V.int)) ∧ (greedy (ts.take i)).1.length ≤ i ∧ (greedy (ts.take i)).2.length ≤ i)
        ⟨none, none, none, rfl, s1.trans s3, Chg.refl _ _, nC3, nD3, Nat.le_refl _, Nat.le_refl _⟩ (fun i σ H' _ ⟨_, _, _, _, _, c, _⟩ => SqL.of (c _ _ (nmem2 noC noD) go)) ?_ ?_⟩
      · rintro i y σ H' hi ⟨y3, y4, y5, rfl, sm, cc, hC, hD, l1, l2⟩
        obtain ⟨row, er, hrow⟩ := hts3.get hi
        rw [List.getElem?_map] at er
        obtain ⟨t3, et, rfl⟩ := Option.map_eq_some_iff.mp er
        have lcd : Lsts [C, D] H3 := (Lsts.of1 nC3).two (Lsts.of1 nD3)
        obtain ⟨t, rfl, ht⟩ := (Kp.chg cc).rw lcd hrow
        have ii := (List.getElem?_eq_some_iff.mp hi).1
        have prl := prm.length_eq
        have trl : (trip ss).length = ss.length := by
          unfold trip
          simp
        have tk : ts.take (i + 1) = ts.take i ++ [t3] := by
          rw [List.take_add_one, et]
          rfl
        rw [tk, greedy_snoc]
        refine ⟨t, _, rfl, SqT.of ht, rfl, _, _, rfl, _, _, rfl, _, _, rfl, rfl, ?_⟩
        -- it is taken
        have yes : ((greedy (ts.take i)).2 = [] ∨ (greedy (ts.take i)).2.getLastD 0 < t3.2.1) → tSeq (tDrop (tBM K "list" rAppend (tVar 1) (tCons (tVar 3) tNil))) (tDrop (tBM K "list" rAppend (tVar 2) (tCons (tOp (rI0 fun i j => .int (i - j)) (tVar 5) (tC (.int 1))) tNil)))
            { nx := fun σ H' => ∃ y3 y4 y5, σ = [some (.ref l), some (.ref C), some (.ref D), y3, y4, y5] ∧ Same H H' ∧ Chg [C, D] H3 H' ∧ H' C = some (.lst (((gst (greedy (ts.take i)) t3).1.map (·.2.2)).map V.int)) ∧ H' D = some (.lst ((gst (greedy (ts.take i)) t3).2.map V.int)) ∧ (gst (greedy (ts.take i)) t3).1.length ≤ i + 1 ∧ (gst (greedy (ts.take i)) t3).2.length ≤ i + 1, rt := Q }
            [some (.ref l), some (.ref C), some (.ref D), some (.int t3.2.2), some (.int t3.2.1), some (.int t3.1)] H' := fun hcnd => by
          have eg : gst (greedy (ts.take i)) t3 = ((greedy (ts.take i)).1 ++ [t3], (greedy (ts.take i)).2 ++ [t3.1 - 1]) := by
            unfold gst
            rw [if_pos hcnd]
          refine ⟨_, rfl, .inl ⟨rfl, _, SqL.of hC⟩, _, rfl, C, _, _, rfl, rfl, hC, small_lt (by rw [List.length_map, List.length_map]; omega), ?_⟩
          have hD1 : (upd H' C (.lst ((((greedy (ts.take i)).1.map (·.2.2)).map V.int) ++ [.int t3.2.2]))) D = some (.lst ((greedy (ts.take i)).2.map V.int)) := by
            rw [upd_ne nCD.symm]
            exact hD
          refine ⟨_, rfl, .inl ⟨rfl, _, SqL.of hD1⟩, _, rfl, _, _, rfl, rfl, D, _, _, rfl, rfl, hD1, small_lt (by rw [List.length_map]; omega), ?_⟩
          refine ⟨_, _, _, rfl, ?_, ?_, ?_, ?_, ?_, ?_⟩
          · intro b o' hb
            rw [upd_ne (ne_of_none hb nD0), upd_ne (ne_of_none hb nC)]
            exact sm b o' hb
          · exact (cc.trans (Chg.upd List.mem_cons_self)).trans (Chg.upd (List.mem_cons_of_mem _ List.mem_cons_self))
          · rw [upd_ne nCD, upd_same, eg]
            simp
          · rw [upd_same, eg]
            simp
          · rw [eg]
            simp
            omega
          · rw [eg]
            simp
            omega
        by_cases hnil : (greedy (ts.take i)).2 = []
        · exact ⟨_, rfl, false, .inl ⟨_, SqL.of hD, by rw [hnil]; rfl⟩, iteT (yes (.inl hnil))⟩
        · refine ⟨_, rfl, true, .inl ⟨_, SqL.of hD, ?_⟩, ?_⟩
          · cases hq : (greedy (ts.take i)).2 with
            | nil => exact absurd hq hnil
            | cons a b => rfl
          obtain ⟨m, em⟩ := snocI hnil
          have at1 : atI ((greedy (ts.take i)).2.map V.int) (-1) = some (.int ((greedy (ts.take i)).2.getLastD 0)) := by
            conv => lhs; rw [em, List.map_append]
            exact atI_last _ _
          refine iteF ⟨_, rfl, _, rfl, D, _, _, _, rfl, rfl, SqL.of hD, at1, _, rfl, _, _, rfl, rfl, _, rfl, ite2 (fun e => ?_) (fun e => ?_)⟩
          · exact yes (.inr (of_decide_eq_true e))
          · have hn : ¬ ((greedy (ts.take i)).2 = [] ∨ (greedy (ts.take i)).2.getLastD 0 < t3.2.1) := fun z => z.elim hnil fun z => e (decide_eq_true z)
            have eg : gst (greedy (ts.take i)) t3 = greedy (ts.take i) := by
              unfold gst
              rw [if_neg hn]
            rw [eg]
            exact ⟨_, _, _, rfl, sm, cc, hC, hD, by omega, by omega⟩
      · rintro σ H4 ⟨y3, y4, y5, rfl, sm, cc, hC, hD, l1, l2⟩
        rw [yl, List.take_length] at hC hD
        refine ⟨_, rfl, C, _, rfl, SqL.of hC, fun ch c prm2 srt2 nc => ?_⟩
        obtain ⟨gc, sc⟩ := upd_at (o := .lst (ch.map V.int)) nc
        refine ⟨_, rfl, (by show 2 ≤ sizeLine; decide), fun t nt => ?_⟩
        obtain ⟨gt, st⟩ := upd_at (o := .tup [.ref c, .ref D]) nt
        have hD5 := sc _ _ hD
        exact q _ t c D ts ch (sm.trans (sc.trans st)) ((sm.trans sc).free nt) (sm.free nc) nD0 (ne_of_none hD nc).symm (ne_of_none gc nt).symm (ne_of_none hD5 nt).symm gt (st _ _ gc) (st _ _ hD5) tr prm2 srt2
end
section
variable {P : Program} {w : World} {K : PySem.W.Frag} {mg : Str → Option Value} {base : Heap}
/-! ### the law's own spans and covers -/
def spSpansL : Sp := fun vs H Q _ => ∃ (p e : Addr) (m : Nat) (n : Nat) (zs : List Int), vs = [.ref p, .ref e, .int (m : Int)] ∧ Pu H p n ∧ n + 3 + 21 * (m + 1) ≤ 1000000000 ∧ H e = some (.lst (zs.map V.int)) ∧ e ≠ p ∧ zs.length ≤ 1000 ∧ m ≤ 100 ∧ (∀ z ∈ zs, -999999999999 ≤ z ∧ z ≤ 999999999999) ∧
  ∀ (H' : Hp) (f : Addr) (us : List V) (ss : List Span) (zs' : List Int), Chg [p, e] H H' → Pu H' p (n + 3 + 21 * m) → H' e = some (.lst (zs'.map V.int)) → zs'.length ≤ zs.length + 2 * m → (∀ z ∈ zs', -999999999999 ≤ z ∧ z ≤ 999999999999) → H f = none → H' f = some (.lst us) → Sps H' us ss → (∀ s ∈ ss, isSpan s = true) → ss.length ≤ m → Q (.ref f) H'
theorem ok_spans (T : Tx K mg) : FnOk P w K mg base CX0 (6) T.f_l_spans T.fd_l_spans ["_law_purse_here", "_law_ends", "_law_most"] spSpansL := by
  have G_l_draw : FnOk P w K mg base CX0 _ _ _ _ _ := ok_draw T
  have G_l_span : FnOk P w K mg base CX0 _ _ _ _ _ := ok_span T
  refine T.F_l_spans.ok sc_l_spans (fun vs H Q E h => ?_) (fun cdv A outer s H vs Q E hr h => ?_)
  · obtain ⟨p, e, m, n, zs, rfl, _⟩ := h
    rfl
  · obtain ⟨p, e, m, n, zs, rfl, pu, hn, hE, nep, hz, hm, hzb, q⟩ := h
    refine ⟨_, (pss_cons (ps_set (i := 3) sc_l_spans.nd rfl (Or.inl rfl) (pe_lst pa_nil))
      (pss_cons (ps_for PassesOwn.never (by rfl) (pi_range1 (by rfl) T.m_range (pa_cons (pe_call G_l_draw (hr.mono (by decide)) (by rfl) T.g_l_draw T.F_l_draw.kp T.b_l_draw .nil pass0 (pa_cons (pv 0) (pa_cons (pe_op op_add (pv 2) pe_int) pa_nil))) pa_nil)) (pg_name (i := 4) sc_l_spans.nd rfl (Or.inl rfl))
        (pss_one (ps_if (PW.pt (pw_and (pt_cmpR (op_neD hr.units) (pv 3) (pe_lst pa_nil) (nomark _)) (pw_and1 (pt_cmpR op_eq (pe_call G_l_draw (hr.mono (by decide)) (by rfl) T.g_l_draw T.F_l_draw.kp T.b_l_draw .nil pass0 (pa_cons (pv 0) (pa_cons pe_int pa_nil))) pe_int (nomark _))))) (pss_one (ps_expr (pe_bm PySem.F.plainAttrs_list PySem.F.slot_list_append PySem.F.type_list_append mt_append (pv 3) (pa_cons (pe_ix ix_list (pv 3) (pe_call G_l_draw (hr.mono (by decide)) (by rfl) T.g_l_draw T.F_l_draw.kp T.b_l_draw .nil pass0 (pa_cons (pv 0) (pa_cons (pe_callB call_len_seq (by rfl) T.m_len PySem.boot_len (pa_cons (pv 3) pa_nil)) pa_nil))) (fun _ _ => rfl)) pa_nil)))) (pss_one (ps_expr (pe_bm PySem.F.plainAttrs_list PySem.F.slot_list_append PySem.F.type_list_append mt_append (pv 3) (pa_cons (pe_call G_l_span (hr.mono (by decide)) (by rfl) T.g_l_span T.F_l_span.kp T.b_l_span .nil pass0 (pa_cons (pv 0) (pa_cons (pv 1) (pa_cons (pe_op op_sub (pe_op op_pow pe_int pe_int) pe_int) pa_nil)))) pa_nil)))))))
      (pss_one (ps_ret (pv 3))))), ?_⟩
    have e12 : (10 : Int) ^ (12 : Int).toNat = 1000000000000 := by decide
    refine ⟨Nat.zero_le _, fun f nf => ?_⟩
    obtain ⟨gf, sf⟩ := upd_at (o := .lst []) nf
    have nfp : f ≠ p := (pu.ne nf).symm
    have nfe : f ≠ e := (ne_of_none hE nf).symm
    refine ⟨_, rfl, _, rfl, _, _, rfl, rfl, p, _, n, rfl, pu.same sf, by omega, by omega, by omega, fun H1 r c1 p1 r0 r1 => ?_⟩
    have rm : r.toNat ≤ m := by omega
    refine ⟨r, rfl, by omega, by omega, ?_⟩
    refine for_range (lo := 0) (n := r.toNat) (fun i σ H' => ∃ (y4 : Option V) (us : List V) (ss : List Span) (ws : List Int), σ = [some (.ref p), some (.ref e), some (.int (m : Int)), some (.ref f), y4] ∧ Chg [p, e] H H' ∧ Pu H' p (n + 3 + 21 * i) ∧ H' e = some (.lst (ws.map V.int)) ∧ ws.length ≤ zs.length + 2 * i ∧ (∀ z ∈ ws, -999999999999 ≤ z ∧ z ≤ 999999999999) ∧ H' f = some (.lst us) ∧ Sps H' us ss ∧ (∀ s ∈ ss, isSpan s = true) ∧ ss.length = i)
      ⟨none, [], [], zs, rfl, (Chg.of_same sf).trans (c1.mono fun x hx => by rw [List.mem_singleton.mp hx]; exact List.mem_cons_self), p1, c1 _ _ (nmem1 nep) (sf _ _ hE), by omega, hzb, c1 _ _ (nmem1 nfp) gf, .nil, (fun s hs => nomatch hs), rfl⟩ ?_ ?_
    · rintro i σ H' hi ⟨y4, us, ss, ws, rfl, cc, pi, hE', hw, hwb, hf, hS, ok, hl⟩
      have hul := hS.len
      refine ⟨_, rfl, Nat.zero_le _, fun l nl => ?_⟩
      obtain ⟨gl, sl⟩ := upd_at (o := .lst []) nl
      refine ⟨_, _, hS.same sl |>.dp (SqL.of (sl _ _ hf)), .lst (SqL.of gl) .nil, shaped_spans ss, shaped_nil, _, rfl, ?_⟩
      rw [eqv_spans_nil]
      have up : ∀ {X Y : Hp}, Chg [p] X Y → Chg [p, e] X Y := fun c => c.mono fun x hx => by
        rw [List.mem_singleton.mp hx]
        exact List.mem_cons_self
      -- a new span
      have fresh : ∀ (H2 : Hp), Chg [p, e] H' H2 → Pu H2 p (n + 3 + 21 * i + 3) → H2 e = some (.lst (ws.map V.int)) → H2 f = some (.lst us) → Sps H2 us ss →
          (tDrop (tBM K "list" rAppend (tVar 3) (tCons (tCall spSpan [] E0 (tCons (tVar 0) (tCons (tVar 1) (tCons (tOp (rI0 fun i j => .int (i - j)) (tOp (rI CPow fun i j => .int (i ^ j.toNat)) (tC (.int 10)) (tC (.int 12))) (tC (.int 1))) tNil)))) tNil))) { nx := fun σ' H3 => ∃ (y4 : Option V) (us : List V) (ss : List Span) (ws : List Int), σ' = [some (.ref p), some (.ref e), some (.int (m : Int)), some (.ref f), y4] ∧ Chg [p, e] H H3 ∧ Pu H3 p (n + 3 + 21 * (i + 1)) ∧ H3 e = some (.lst (ws.map V.int)) ∧ ws.length ≤ zs.length + 2 * (i + 1) ∧ (∀ z ∈ ws, -999999999999 ≤ z ∧ z ≤ 999999999999) ∧ H3 f = some (.lst us) ∧ Sps H3 us ss ∧ (∀ s ∈ ss, isSpan s = true) ∧ ss.length = i + 1, rt := Q } [some (.ref p), some (.ref e), some (.int (m : Int)), some (.ref f), some (.int (0 + (i : Int)))] H2 := fun H2 c2 p2 hE2 hf2 hS2 => by
        refine ⟨_, rfl, .inl ⟨rfl, _, SqL.of hf2⟩, _, rfl, _, rfl, _, _, rfl, rfl, ⟨by decide, by decide, by decide⟩, _, _, rfl, rfl, p, e, _, _, ws, rfl, p2, by omega, hE2, nep, by omega, by rw [e12]; decide, by rw [e12]; decide, fun H3 t lo hi c3 p3 hE3 nt ht b1 b2 b3 => ?_⟩
        rw [e12] at b1 b3
        have hf3 := c3 _ _ (nmem2 nfp nfe) hf2
        have lp : Lsts [p, e] H2 := p2.lsts.two (Lsts.of1 hE2)
        have hS3 : Sps H3 (us ++ [.ref t]) (ss ++ [(lo, hi)]) := (hS2.chg c3 lp).app (.one ⟨t, rfl, ht⟩)
        have cf : Chg [f] H3 (upd H3 f (.lst (us ++ [.ref t]))) := Chg.upd List.mem_cons_self
        have lf : Lsts [f] H3 := Lsts.of1 hf3
        refine ⟨f, us, .ref t, rfl, rfl, hf3, small_lt (by omega), _, us ++ [.ref t], ss ++ [(lo, hi)], ws ++ [lo, hi], rfl, ?_, (p3.chg cf (nmem1 nfp.symm)).mono (by omega), cf _ _ (nmem1 nfe.symm) hE3, ?_, fun z hz => ?_, upd_same, hS3.chg cf lf, fun s hs => ?_, ?_⟩
        · exact fun b o nb hb => by
            have h3 := (cc.trans (c2.trans c3)) b o nb hb
            rw [upd_ne (ne_of_none hb nf)]
            exact h3
        · rw [List.length_append]
          simp
          omega
        · rcases List.mem_append.mp hz with h | h
          · exact hwb z h
          · rcases List.mem_cons.mp h with h | h
            · rw [h]
              omega
            · rw [List.mem_singleton.mp h]
              omega
        · rcases List.mem_append.mp hs with h | h
          · exact ok s h
          · rw [List.mem_singleton.mp h]
            exact (isSpan_iff (lo, hi)).mpr ⟨by simpa using b1, b2, by simpa using b3⟩
        · rw [List.length_append, hl]
          rfl
      by_cases hnil : ss = []
      · rw [decide_eq_true hnil]
        exact iteF (iteF (fresh _ (Chg.of_same sl) ((pi.same sl).mono (by omega)) (sl _ _ hE') (sl _ _ hf) (hS.same sl)))
      · rw [decide_eq_false hnil]
        have h0 : 0 < ss.length := List.length_pos_iff.mpr hnil
        refine iteT ⟨_, rfl, p, 6, _, rfl, pi.same sl, by omega, by decide, by decide, fun H2 x c2 p2 x0 x1 => ?_⟩
        have hE2 := c2 _ _ (nmem1 nep) (sl _ _ hE')
        have hf2 := c2 _ _ (nmem1 nfp) (sl _ _ hf)
        have hS2 := (hS.same sl).chg c2 (pi.same sl).lsts
        refine ⟨rfl, _, rfl, ite2 (fun _ => ?_) (fun _ => ?_)⟩
        · refine ⟨_, rfl, .inl ⟨rfl, _, SqL.of hf2⟩, _, rfl, _, rfl, _, rfl, f, _, rfl, .inl (SqL.of hf2), p, us.length, _, rfl, p2, by omega, by omega, by omega, fun H3 y c3 p3 y0 y1 => ?_⟩
          have hf3 := c3 _ _ (nmem1 nfp) hf2
          have hS3 := hS2.chg c3 p2.lsts
          have hy : y.toNat < us.length := by omega
          obtain ⟨sp, es, hsp⟩ := hS3.get (List.getElem?_eq_getElem hy)
          refine ⟨f, us, y, us[y.toNat], rfl, rfl, SqL.of hf3, at_of (j := y.toNat) (by omega) (List.getElem?_eq_getElem hy), ?_⟩
          have cf : Chg [f] H3 (upd H3 f (.lst (us ++ [us[y.toNat]]))) := Chg.upd List.mem_cons_self
          have lf : Lsts [f] H3 := Lsts.of1 hf3
          refine ⟨f, us, _, rfl, rfl, hf3, small_lt (by omega), _, us ++ [us[y.toNat]], ss ++ [sp], ws, rfl, ?_, (p3.chg cf (nmem1 nfp.symm)).mono (by omega), cf _ _ (nmem1 nfe.symm) (c3 _ _ (nmem1 nep) hE2), by omega, hwb, upd_same, (hS3.app (.one hsp)).chg cf lf, fun s hs => ?_, ?_⟩
          · exact fun b o nb hb => by
              have h3 := (cc.trans ((Chg.of_same sl).trans (up (c2.trans c3)))) b o nb hb
              rw [upd_ne (ne_of_none hb nf)]
              exact h3
          · rcases List.mem_append.mp hs with h | h
            · exact ok s h
            · rw [List.mem_singleton.mp h]
              exact ok sp (List.mem_of_getElem? es)
          · rw [List.length_append, hl]
            rfl
        · exact fresh _ ((Chg.of_same sl).trans (up c2)) p2 hE2 hf2 hS2
    · rintro σ H' ⟨y4, us, ss, ws, rfl, cc, pi, hE', hw, hwb, hf, hS, ok, hl⟩
      exact ⟨_, rfl, q H' f us ss ws cc (pi.mono (by omega)) hE' (by omega) hwb nf hf hS ok (by omega)⟩
end
section
variable {P : Program} {w : World} {K : PySem.W.Frag} {mg : Str → Option Value} {base : Heap}
def spHolds : Sp := fun vs H Q _ => ∃ (v : V) (s : Span) (x : Int), vs = [v, .int x] ∧ Spn H v s ∧ Q (.bl (holdsB x s)) H
theorem ok_holds (T : Tx K mg) : FnOk P w K mg base CX0 (1) T.f_l_holds T.fd_l_holds ["_law_span_here", "_law_place"] spHolds := by
  refine T.F_l_holds.ok sc_l_holds (fun vs H Q E h => ?_) (fun cdv A outer s H vs Q E hr h => ?_)
  · obtain ⟨v, s, x, rfl, _⟩ := h
    rfl
  · obtain ⟨v, s, x, rfl, ⟨t, rfl, ht⟩, q⟩ := h
    refine ⟨_, (pss_one (ps_ret (pe_and (pe_cmpR op_le (pe_ix ix_tup (pv 0) pe_int (fun _ _ => rfl)) (pv 1) (nomark _)) (pe_one (pe_cmpR op_lt (pv 1) (pe_ix ix_tup (pv 0) pe_int (fun _ _ => rfl)) (nomark _)))))), ?_⟩
    unfold holdsB at q
    refine ⟨_, rfl, t, _, _, _, rfl, rfl, SqT.of ht, atI_nat (j := 0) rfl, _, rfl, _, _, rfl, rfl, _, rfl, ?_⟩
    by_cases h : s.1 ≤ x
    · rw [decide_eq_true h] at q ⊢
      exact iteT ⟨_, rfl, _, rfl, t, _, _, _, rfl, rfl, SqT.of ht, atI_nat (j := 1) rfl, _, _, rfl, rfl, q⟩
    · rw [decide_eq_false h] at q ⊢
      exact iteF q
end
section
variable {P : Program} {w : World} {K : PySem.W.Frag} {mg : Str → Option Value} {base : Heap}
theorem meet_iff {a b : Span} (ha : a.1 < a.2) (hb : b.1 < b.2) : (if a.1 < b.1 then b.1 else a.1) < (if b.2 < a.2 then b.2 else a.2) ↔ ¬ Ap a b := by
  unfold Ap
  split <;> split <;> omega
def spMeetL : Sp := fun vs H Q _ => ∃ (v u : V) (a b : Span), vs = [v, u] ∧ Spn H v a ∧ Spn H u b ∧ a.1 < a.2 ∧ b.1 < b.2 ∧ ∀ c, (c = true ↔ ¬ Ap a b) → Q (.bl c) H
theorem ok_meetL (T : Tx K mg) : FnOk P w K mg base CX0 (1) T.f_l_meet T.fd_l_meet ["_law_one", "_law_other"] spMeetL := by
  refine T.F_l_meet.ok sc_l_meet (fun vs H Q E h => ?_) (fun cdv A outer s H vs Q E hr h => ?_)
  · obtain ⟨v, u, a, b, rfl, _⟩ := h
    rfl
  · obtain ⟨v, u, a, b, rfl, ⟨t, rfl, ht⟩, ⟨r, rfl, hr'⟩, ha, hb, q⟩ := h
    refine ⟨_, (pss_one (ps_ret (pe_cmpR op_lt (pe_callB (call_max2 rfl) (by rfl) T.m_max (by decide +kernel) (pa_cons (pe_ix ix_tup (pv 0) pe_int (fun _ _ => rfl)) (pa_cons (pe_ix ix_tup (pv 1) pe_int (fun _ _ => rfl)) pa_nil))) (pe_callB (call_min2 rfl) (by rfl) T.m_min (by decide +kernel) (pa_cons (pe_ix ix_tup (pv 0) pe_int (fun _ _ => rfl)) (pa_cons (pe_ix ix_tup (pv 1) pe_int (fun _ _ => rfl)) pa_nil))) (nomark _)))), ?_⟩
    refine ⟨_, rfl, t, _, _, _, rfl, rfl, SqT.of ht, atI_nat (j := 0) rfl, _, rfl, r, _, _, _, rfl, rfl, SqT.of hr', atI_nat (j := 0) rfl, _, _, rfl, _, rfl, t, _, _, _, rfl, rfl, SqT.of ht, atI_nat (j := 1) rfl, _, rfl, r, _, _, _, rfl, rfl, SqT.of hr', atI_nat (j := 1) rfl, _, _, rfl, _, _, rfl, rfl, q _ ?_⟩
    rw [decide_eq_true_iff]
    exact meet_iff ha hb
def spApartL : Sp := fun vs H Q _ => ∃ (l : Addr) (us : List V) (ss : List Span), vs = [.ref l] ∧ H l = some (.lst us) ∧ Sps H us ss ∧ ss.length ≤ 100000 ∧ (∀ s ∈ ss, s.1 < s.2) ∧ ∀ H' b, (b = true ↔ ss.Pairwise Ap) → Same H H' → Q (.bl b) H'
theorem pw_take {ss : List Span} {i : Nat} {s : Span} (h : ss[i]? = some s) : (ss.take (i + 1)).Pairwise Ap ↔ (ss.take i).Pairwise Ap ∧ ∀ t ∈ ss.take i, Ap t s := by
  rw [List.take_add_one, h]
  show (ss.take i ++ [s]).Pairwise Ap ↔ _
  rw [List.pairwise_append]
  constructor
  · rintro ⟨h1, _, h3⟩
    exact ⟨h1, fun t ht => h3 t ht s (by simp)⟩
  · rintro ⟨h1, h2⟩
    exact ⟨h1, List.pairwise_singleton _ _, fun a ha b hb => by rw [List.mem_singleton.mp hb]; exact h2 a ha⟩
theorem ok_apartL (T : Tx K mg) : FnOk P w K mg base CX0 (2) T.f_l_apart T.fd_l_apart ["_law_spans_here"] spApartL := by
  have G_l_meet : FnOk P w K mg base CX0 _ _ _ _ _ := ok_meetL T
  refine T.F_l_apart.ok sc_l_apart (fun vs H Q E h => ?_) (fun cdv A outer s H vs Q E hr h => ?_)
  · obtain ⟨l, us, ss, rfl, _⟩ := h
    rfl
  · obtain ⟨l, us, ss, rfl, hl, hS, hlen, hlt, q⟩ := h
    refine ⟨_, (pss_cons (ps_for PassesOwn.never (by rfl) (pi_range1 (by rfl) T.m_range (pa_cons (pe_callB call_len_seq (by rfl) T.m_len PySem.boot_len (pa_cons (pv 0) pa_nil)) pa_nil)) (pg_name (i := 1) sc_l_apart.nd rfl (Or.inr rfl))
        (pss_one (ps_if (pt_cmpR (op_neD hr.units) (pe_lc (own := [("_law_one", 2)]) (g := (gName 2)) (by rfl) sc_l_apart.nd (pi_list (pe_slice sl_list (pv 0) po_none (po_some (pv 1)))) (blkOk_by (own := [("_law_one", 2)]) (N := N_l_apart) (sc := defScope s_l_apart) (by decide +kernel)) (fun _ _ _ _ _ => (pg_name (i := 2) sc_l_apart.nd rfl (Or.inl rfl))) (fun _ _ _ _ _ => (pts_one (pt_val (pe_call G_l_meet (hr.mono (by decide)) (by rfl) T.g_l_meet T.F_l_meet.kp T.b_l_meet .nil pass0 (pa_cons (pv 2) (pa_cons (pe_ix (show IxR _ (rIxL K) from ix_list) (pv 0) (pv 1) (fun _ _ => rfl)) pa_nil)))))) (fun _ _ _ _ _ => (pv 2))) (pe_lst pa_nil) (nomark _)) (pss_one (ps_ret pe_bl)) pss_nil)))
      (pss_one (ps_ret pe_bl))), ?_⟩
    have ul := hS.len
    refine ⟨_, rfl, l, _, rfl, .inl (SqL.of hl), _, rfl, by omega, by omega, ?_⟩
    refine for_range (lo := 0) (n := us.length) (fun i σ H' => ∃ y1 y2, σ = [some (.ref l), y1, y2] ∧ Same H H' ∧ (ss.take i).Pairwise Ap) ⟨none, none, rfl, Same.refl _, by simp⟩ ?_ ?_
    · rintro i σ H' hi ⟨y1, y2, rfl, sm, ih⟩
      rw [Int.zero_add]
      obtain ⟨s0, e0, h0⟩ := (hS.same sm).get (List.getElem?_eq_getElem hi)
      have hl' := sm _ _ hl
      refine ⟨_, rfl, _, rfl, _, rfl, l, us, rfl, SqL.of hl', fun c nc => ?_⟩
      rw [cut_take (k := i) rfl]
      obtain ⟨gc, sc⟩ := upd_at (o := .lst (us.take i)) nc
      have sm2 := sm.trans sc
      have hT := ((hS.same sm2).takeN i)
      refine ⟨c, rfl, ⟨_, SqL.of gc⟩, fun D nD => ?_⟩
      refine lc_list (K := K) (a := c) (xs := us.take i) (fun j H'' => Same (upd H' c (.lst (us.take i))) H'' ∧ ∃ ws rs, H'' D = some (.lst ws) ∧ Sps H'' ws rs ∧ rs.length ≤ j ∧ (rs = [] ↔ ∀ t ∈ (ss.take i).take j, Ap t s0)) ⟨same_upd nD, [], [], upd_same, .nil, Nat.le_refl _, ⟨(fun _ t h => nomatch h), fun _ => rfl⟩⟩ (fun j H'' _ h => SqL.of (h.1 _ _ gc)) ?_ ?_
      · rintro j y H'' hj ⟨s3, ws, rs, hD, hw, hwl, hiff⟩
        obtain ⟨sp, es, hsp⟩ := (hT.same s3).get hj
        have h0' := (h0.same sc).same s3
        have hl2 := s3 _ _ (sc _ _ hl')
        have wl := hw.len
        have jj := (List.getElem?_eq_some_iff.mp hj).1
        rw [List.length_take] at jj
        have mem : sp ∈ ss := List.mem_of_mem_take (List.mem_of_getElem? es)
        have tk : (ss.take i).take (j + 1) = (ss.take i).take j ++ [sp] := by
          rw [List.take_add_one, es]
          rfl
        refine ⟨rfl, _, rfl, _, rfl, _, rfl, l, us, _, _, rfl, rfl, SqL.of hl2, at_of (j := i) rfl (List.getElem?_eq_getElem hi), y, us[i], sp, s0, rfl, hsp, h0', hlt sp mem, hlt s0 (List.mem_of_getElem? e0), fun m hm => ⟨m, rfl, ?_⟩⟩
        cases m with
        | true =>
          have cf : Chg [D] H'' (upd H'' D (.lst (ws ++ [y]))) := Chg.upd List.mem_cons_self
          refine iteT ⟨_, rfl, ws, hD, small_lt (by omega), same_more s3 nD, ws ++ [y], rs ++ [sp], upd_same, (hw.app (.one hsp)).chg cf (Lsts.of1 hD), by simp; omega, ?_⟩
          constructor
          · intro z
            simp at z
          · intro z
            exact absurd (z sp (by rw [tk]; simp)) (hm.mp rfl)
        | false =>
          refine iteF ⟨s3, ws, rs, hD, hw, by omega, ?_⟩
          have ha : Ap sp s0 := by
            by_cases z : Ap sp s0
            · exact z
            · have := hm.mpr z
              cases this
          rw [hiff, tk]
          constructor
          · intro h t ht
            rcases List.mem_append.mp ht with ht | ht
            · exact h t ht
            · rw [List.mem_singleton.mp ht]
              exact ha
          · exact fun h t ht => h t (List.mem_append_left _ ht)
      · rintro H3 ⟨s3, ws, rs, hD, hw, hwl, hiff⟩
        rw [List.length_take, Nat.min_eq_left (by omega), List.take_take, Nat.min_self] at hiff
        refine ⟨Nat.zero_le _, fun m nm => ?_⟩
        obtain ⟨gm, smm⟩ := upd_at (o := .lst []) nm
        refine ⟨_, _, (hw.same smm).dp (SqL.of (smm _ _ hD)), .lst (SqL.of gm) .nil, shaped_spans _, shaped_nil, _, rfl, ?_⟩
        rw [eqv_spans_nil]
        have sm4 := sm2.trans (s3.trans smm)
        by_cases hn : rs = []
        · rw [decide_eq_true hn]
          refine iteF ⟨_, _, rfl, sm4, (pw_take e0).mpr ⟨ih, hiff.mp hn⟩⟩
        · rw [decide_eq_false hn]
          refine iteT (q _ false ⟨(fun z => by cases z), fun z => ?_⟩ sm4)
          have h9 := z.sublist (List.take_sublist (i + 1) ss)
          exact absurd (hiff.mpr ((pw_take e0).mp h9).2) hn
    · rintro σ H' ⟨y1, y2, rfl, sm, ih⟩
      rw [ul, List.take_length] at ih
      exact q H' true ⟨fun _ => ih, fun _ => rfl⟩ sm
end
section
variable {P : Program} {w : World} {K : PySem.W.Frag} {mg : Str → Option Value} {base : Heap}
def spUnpierced : Sp := fun vs H Q _ => ∃ (l p : Addr) (us : List V) (ss : List Span) (pins : List Int), vs = [.ref l, .ref p] ∧ H l = some (.lst us) ∧ Sps H us ss ∧ H p = some (.lst (pins.map V.int)) ∧ ss.length ≤ 100000 ∧ pins.length ≤ 100000 ∧
  ∀ H' r rs, Same H H' → H r = none → Lq H' r rs → (rs = [] ↔ Pierced ss pins) → Q (.ref r) H'
theorem ok_unpierced (T : Tx K mg) : FnOk P w K mg base CX0 (2) T.f_l_unpierced T.fd_l_unpierced ["_law_spans_here", "_law_pins"] spUnpierced := by
  have G_l_holds : FnOk P w K mg base CX0 _ _ _ _ _ := ok_holds T
  refine T.F_l_unpierced.ok sc_l_unpierced (fun vs H Q E h => ?_) (fun cdv A outer s H vs Q E hr h => ?_)
  · obtain ⟨l, p, us, ss, pins, rfl, _⟩ := h
    rfl
  · obtain ⟨l, p, us, ss, pins, rfl, hl, hS, hp, hlen, hpl, q⟩ := h
    refine ⟨_, (pss_cons (ps_set (i := 2) sc_l_unpierced.nd rfl (Or.inl rfl) (pe_lst pa_nil))
      (pss_cons (ps_for PassesOwn.never (by rfl) (pi_list (pv 0)) (pg_name (i := 3) sc_l_unpierced.nd rfl (Or.inr rfl))
        (pss_one (ps_if (pt_cmpR (op_eqD hr.units) (pe_lc (own := [("_law_pin", 4)]) (g := (gName 4)) (by rfl) sc_l_unpierced.nd (pi_list (pv 1)) (blkOk_by (own := [("_law_pin", 4)]) (N := N_l_unpierced) (sc := defScope s_l_unpierced) (by decide +kernel)) (fun _ _ _ _ _ => (pg_name (i := 4) sc_l_unpierced.nd rfl (Or.inl rfl))) (fun _ _ _ _ _ => (pts_one (pt_val (pe_call G_l_holds (hr.mono (by decide)) (by rfl) T.g_l_holds T.F_l_holds.kp T.b_l_holds .nil pass0 (pa_cons (pv 3) (pa_cons (pv 4) pa_nil)))))) (fun _ _ _ _ _ => (pv 4))) (pe_lst pa_nil) (nomark _)) (pss_one (ps_expr (pe_bm PySem.F.plainAttrs_list PySem.F.slot_list_append PySem.F.type_list_append mt_append (pv 2) (pa_cons (pv 3) pa_nil)))) pss_nil)))
      (pss_one (ps_ret (pv 2))))), ?_⟩
    have ul := hS.len
    refine ⟨Nat.zero_le _, fun R nR => ?_⟩
    obtain ⟨gR, sR⟩ := upd_at (o := .lst []) nR
    refine ⟨_, rfl, l, rfl, ⟨_, SqL.of (sR _ _ hl)⟩, for_list (K := K) (a := l) (xs := us) (fun i σ H' => ∃ y3 ws rs, σ = [some (.ref l), some (.ref p), some (.ref R), y3, none] ∧ Same H H' ∧ H' R = some (.lst ws) ∧ Sps H' ws rs ∧ rs.length ≤ i ∧ (rs = [] ↔ Pierced (ss.take i) pins)) ⟨none, [], [], rfl, sR, gR, .nil, Nat.le_refl _, ⟨(fun _ t h => nomatch h), fun _ => rfl⟩⟩ (fun i σ H' _ ⟨_, _, _, _, sm, _⟩ => SqL.of (sm _ _ hl)) ?_ ?_⟩
    · rintro i y σ H' hi ⟨y3, ws, rs, rfl, sm, hR, hw, wl, hiff⟩
      obtain ⟨sp, es, hsp⟩ := (hS.same sm).get hi
      have tk : ss.take (i + 1) = ss.take i ++ [sp] := by
        rw [List.take_add_one, es]
        rfl
      have hp' := sm _ _ hp
      have ii := (List.getElem?_eq_some_iff.mp hi).1
      have wl2 := hw.len
      refine ⟨_, rfl, p, rfl, ⟨_, SqL.of hp'⟩, fun D nD => ?_⟩
      refine lc_list (K := K) (a := p) (xs := pins.map V.int) (fun j H'' => Same H' H'' ∧ ∃ ms : List Int, H'' D = some (.lst (ms.map V.int)) ∧ ms.length ≤ j ∧ (ms = [] ↔ ¬ ∃ x ∈ pins.take j, sp.1 ≤ x ∧ x < sp.2)) ⟨same_upd nD, [], upd_same, Nat.le_refl _, ⟨(fun _ ⟨x, h, _⟩ => nomatch h), fun _ => rfl⟩⟩ (fun j H'' _ h => SqL.of (h.1 _ _ hp')) ?_ ?_
      · rintro j z H'' hj ⟨s2, ms, hD, ml, hms⟩
        rw [List.getElem?_map] at hj
        obtain ⟨x, ex, rfl⟩ := Option.map_eq_some_iff.mp hj
        have jj := (List.getElem?_eq_some_iff.mp ex).1
        have tk2 : pins.take (j + 1) = pins.take j ++ [x] := by
          rw [List.take_add_one, ex]
          rfl
        refine ⟨rfl, _, rfl, _, rfl, y, sp, x, rfl, hsp.same s2, _, rfl, ?_⟩
        by_cases hb : holdsB x sp = true
        · rw [hb]
          refine iteT ⟨_, rfl, _, hD, small_lt (by rw [List.length_map]; omega), same_more s2 nD, ms ++ [x], ?_, by simp; omega, ?_⟩
          · rw [upd_same, List.map_append]
            rfl
          · constructor
            · intro z
              simp at z
            · intro z
              exact absurd ⟨x, by rw [tk2]; simp, holds_iff.mp hb⟩ z
        · rw [Bool.not_eq_true] at hb
          rw [hb]
          refine iteF ⟨s2, ms, hD, by omega, ?_⟩
          rw [hms, tk2]
          constructor
          · rintro h ⟨u, hu, h3⟩
            rcases List.mem_append.mp hu with hu | hu
            · exact h ⟨u, hu, h3⟩
            · rw [List.mem_singleton.mp hu] at h3
              rw [holds_iff.mpr h3] at hb
              cases hb
          · exact fun h ⟨u, hu, h3⟩ => h ⟨u, List.mem_append_left _ hu, h3⟩
      · rintro H2 ⟨s2, ms, hD, ml, hms⟩
        rw [List.length_map, List.take_length] at hms
        refine ⟨Nat.zero_le _, fun m nm => ?_⟩
        obtain ⟨gm, smm⟩ := upd_at (o := .lst []) nm
        refine ⟨_, _, .lst (SqL.of (smm _ _ hD)) (dpAll_ints ms), .lst (SqL.of gm) .nil, shaped_ints ms, shaped_nil, _, rfl, ?_⟩
        rw [eqv_ints_nil]
        have s3 := s2.trans smm
        have hR3 := s3 _ _ hR
        have hw3 := hw.same s3
        by_cases hn : ms = []
        · rw [decide_eq_true hn]
          have cf : Chg [R] (upd H2 m (.lst [])) (upd (upd H2 m (.lst [])) R (.lst (ws ++ [y]))) := Chg.upd List.mem_cons_self
          refine iteT ⟨_, rfl, .inl ⟨rfl, _, SqL.of hR3⟩, _, rfl, R, ws, _, rfl, rfl, hR3, small_lt (by omega), ?_⟩
          refine ⟨_, ws ++ [y], rs ++ [sp], rfl, same_more (sm.trans s3) nR, upd_same, (hw3.app (.one (hsp.same s3))).chg cf (Lsts.of1 hR3), by simp; omega, ?_⟩
          constructor
          · intro z
            simp at z
          · intro z
            exact absurd (z sp (by rw [tk]; simp)) (hms.mp hn)
        · rw [decide_eq_false hn]
          refine iteF ⟨_, ws, rs, rfl, sm.trans s3, hR3, hw3, by omega, ?_⟩
          have hp2 : ∃ x ∈ pins, sp.1 ≤ x ∧ x < sp.2 := by
            by_cases z : ∃ x ∈ pins, sp.1 ≤ x ∧ x < sp.2
            · exact z
            · exact absurd (hms.mpr z) hn
          rw [hiff, tk]
          constructor
          · intro h u hu
            rcases List.mem_append.mp hu with hu | hu
            · exact h u hu
            · rw [List.mem_singleton.mp hu]
              exact hp2
          · exact fun h u hu => h u (List.mem_append_left _ hu)
    · rintro σ H' ⟨y3, ws, rs, rfl, sm, hR, hw, wl, hiff⟩
      rw [ul, List.take_length] at hiff
      exact ⟨_, rfl, q H' R rs sm nR ⟨ws, hR, hw⟩ hiff⟩
end
/-! ### all lots; never more apart than pins -/
theorem snoc_ind {α : Type} {p : List α → Prop} (h0 : p []) (h1 : ∀ l x, p l → p (l ++ [x])) (l : List α) : p l := by
  have key : ∀ m : List α, p m.reverse := by
    intro m
    induction m with
    | nil => exact h0
    | cons x m ih =>
      rw [List.reverse_cons]
      exact h1 _ _ ih
  have := key l.reverse
  rwa [List.reverse_reverse] at this
def lotsL (xs : List Int) : List (List Int) := xs.foldl (fun acc x => acc ++ acc.map (· ++ [x])) [[]]
theorem lotsL_snoc (xs : List Int) (x : Int) : lotsL (xs ++ [x]) = lotsL xs ++ (lotsL xs).map (· ++ [x]) := by
  unfold lotsL
  rw [List.foldl_append]
  rfl
theorem lots_len (xs : List Int) : (lotsL xs).length = 2 ^ xs.length := by
  refine snoc_ind (p := fun xs => (lotsL xs).length = 2 ^ xs.length) rfl (fun l x ih => ?_) xs
  have e : (l ++ [x]).length = l.length + 1 := by simp
  rw [lotsL_snoc, List.length_append, List.length_map, ih, e, Nat.pow_succ]
  omega
theorem lots_sub (xs : List Int) : ∀ y ∈ lotsL xs, y.Sublist xs := by
  refine snoc_ind (p := fun xs => ∀ y ∈ lotsL xs, y.Sublist xs) (fun y h => ?_) (fun l x ih y h => ?_) xs
  · rw [List.mem_singleton.mp h]
    exact List.Sublist.refl _
  · rw [lotsL_snoc] at h
    rcases List.mem_append.mp h with h | h
    · exact (ih y h).trans (List.sublist_append_left _ _)
    · obtain ⟨z, hz, rfl⟩ := List.mem_map.mp h
      exact (ih z hz).append (List.Sublist.refl _)
theorem sub_lots (xs : List Int) : ∀ y : List Int, y.Sublist xs → y ∈ lotsL xs := by
  refine snoc_ind (p := fun xs => ∀ y : List Int, y.Sublist xs → y ∈ lotsL xs) (fun y h => ?_) (fun l x ih y h => ?_) xs
  · rw [List.sublist_nil.mp h]
    exact List.mem_singleton.mpr rfl
  · obtain ⟨a, b, rfl, ha, hb⟩ := List.sublist_append_iff.mp h
    rw [lotsL_snoc]
    cases hb with
    | cons _ hb =>
      rw [List.sublist_nil.mp hb, List.append_nil]
      exact List.mem_append_left _ (ih a ha)
    | cons_cons _ hb =>
      rw [List.sublist_nil.mp hb]
      exact List.mem_append_right _ (List.mem_map.mpr ⟨a, ih a ha, rfl⟩)
theorem sub_sorted : ∀ {b a : List Int}, a.Pairwise (· < ·) → b.Pairwise (· < ·) → (∀ x ∈ a, x ∈ b) → a.Sublist b
  | [], a, _, _, h => by
    cases a with
    | nil => exact List.Sublist.refl _
    | cons x r => exact absurd (h x List.mem_cons_self) (by simp)
  | y :: bs, [], _, _, _ => List.nil_sublist _
  | y :: bs, x :: as, ha, hb, h => by
    obtain ⟨a1, a2⟩ := List.pairwise_cons.mp ha
    obtain ⟨b1, b2⟩ := List.pairwise_cons.mp hb
    by_cases e : x = y
    · subst e
      refine List.Sublist.cons_cons _ (sub_sorted a2 b2 fun z hz => ?_)
      rcases List.mem_cons.mp (h z (List.mem_cons_of_mem _ hz)) with e | e
      · have := a1 z hz
        omega
      · exact e
    · have hx : x ∈ bs := (List.mem_cons.mp (h x List.mem_cons_self)).resolve_left e
      have hy := b1 x hx
      refine List.Sublist.cons _ (sub_sorted ha b2 fun z hz => ?_)
      rcases List.mem_cons.mp (h z hz) with e2 | e2
      · subst e2
        rcases List.mem_cons.mp hz with e3 | e3
        · omega
        · have := a1 z e3
          omega
      · exact e2
theorem weak : ∀ {ss : List Span} {pins : List Int}, ss.Pairwise Ap → (∀ s ∈ ss, ∃ p ∈ pins, s.1 ≤ p ∧ p < s.2) → ss.length ≤ pins.length
  | [], _, _, _ => Nat.zero_le _
  | s :: r, pins, h, hp => by
    obtain ⟨h1, h2⟩ := List.pairwise_cons.mp h
    obtain ⟨p, pm, p1, p2⟩ := hp s List.mem_cons_self
    have ih : r.length ≤ (pins.erase p).length := weak h2 fun t ht => by
      obtain ⟨q, qm, q1, q2⟩ := hp t (List.mem_cons_of_mem _ ht)
      refine ⟨q, (List.mem_erase_of_ne fun z => ?_).mpr qm, q1, q2⟩
      subst z
      rcases h1 t ht with z | z <;> omega
    have := List.length_erase_of_mem pm
    have := List.length_pos_of_mem pm
    show r.length + 1 ≤ pins.length
    omega
theorem pick_mem {ss : List Span} {ch : List Int} (h : ∀ c ∈ ch, 0 ≤ c ∧ c < ss.length) : ∀ s ∈ pick ss ch, s ∈ ss := fun s hs => by
  obtain ⟨c, hc, rfl⟩ := List.mem_map.mp hs
  have := h c hc
  have h2 : c.toNat < ss.length := by omega
  rw [List.getD_eq_getElem?_getD, List.getElem?_eq_getElem h2]
  exact List.getElem_mem h2
theorem pick_len (ss : List Span) (ch : List Int) : (pick ss ch).length = ch.length := List.length_map ..
/-- k spans of ss are apart, and no more -/
def Mx (ss : List Span) (k : Nat) : Prop := ∃ ch pins, Shows ss ch pins ∧ ch.length = k ∧ ch.Pairwise (· < ·) ∧ pins.Pairwise (· < ·) ∧ ∀ p ∈ pins, p ∈ ss.map fun s => s.2 - 1
theorem Mx.le {ss rs : List Span} {k j : Nat} (h : Mx ss k) (g : Mx rs j) (hm : ∀ s ∈ rs, s ∈ ss) : j ≤ k := by
  obtain ⟨ch, pins, ⟨_, h2, _, h4⟩, rfl, _⟩ := h
  obtain ⟨dh, qins, ⟨g1, _, g3, _⟩, rfl, _⟩ := g
  rw [← pick_len rs dh, ← h2]
  exact weak g3 fun s hs => h4 s (hm s (pick_mem g1.1 s hs))
theorem Mx.lot {ss : List Span} {k : Nat} (h : Mx ss k) {y : List Int} (hy : ∀ c ∈ y, 0 ≤ c ∧ c < ss.length) (ha : (pick ss y).Pairwise Ap) : y.length ≤ k := by
  obtain ⟨ch, pins, ⟨_, h2, _, h4⟩, rfl, _⟩ := h
  rw [← pick_len ss y, ← h2]
  exact weak ha fun s hs => h4 s (pick_mem hy s hs)
theorem Mx.pins {ss : List Span} {k : Nat} (h : Mx ss k) {y : List Int} (hp : Pierced ss y) : k ≤ y.length := by
  obtain ⟨ch, pins, ⟨h1, _, h3, _⟩, rfl, _⟩ := h
  rw [← pick_len ss ch]
  exact weak h3 fun s hs => hp s (pick_mem h1.1 s hs)
theorem told_pins {ss : List Span} {ts : List Tri.I3} (hs : ∀ s ∈ ss, s.1 < s.2) (h : Tr ss ts) : ∀ p ∈ (greedy ts).2, p ∈ ss.map fun s => s.2 - 1 := fun p hp => by
  have memt : ∀ t ∈ ts, 0 ≤ t.2.2 ∧ t.2.2 < ss.length ∧ ss[t.2.2.toNat]? = some (t.2.1, t.1) := fun t ht => trip_mem (h.2.mem_iff.mp ht)
  have low : ∀ t ∈ ts, t.2.1 < t.1 := fun t ht => hs (t.2.1, t.1) (List.mem_of_getElem? (memt t ht).2.2)
  obtain ⟨g1, g2, _, _⟩ := gd_of _ ts rfl (h.1.imp fun {a b} hab => by
    have := Tri.lex3_no.mp hab
    omega) low
  rw [g1] at hp
  obtain ⟨t, ht, rfl⟩ := List.mem_map.mp hp
  exact List.mem_map.mpr ⟨_, List.mem_of_getElem? (memt t (g2.subset ht)).2.2, rfl⟩
theorem pick_more {ss rs : List Span} {ch : List Int} (h : ∀ c ∈ ch, 0 ≤ c ∧ c < ss.length) : pick (ss ++ rs) ch = pick ss ch := by
  unfold pick
  refine List.map_congr_left fun c hc => ?_
  have := h c hc
  rw [List.getD_eq_getElem?_getD, List.getD_eq_getElem?_getD, List.getElem?_append_left (by omega)]
theorem Shows.twice {ss : List Span} {ch pins : List Int} (h : Shows ss ch pins) : Shows (ss ++ pick ss ch) ch pins := by
  obtain ⟨⟨h1, h2⟩, h3, h4, h5⟩ := h
  refine ⟨⟨fun c hc => ?_, h2⟩, h3, ?_, fun s hs => ?_⟩
  · have := h1 c hc
    rw [List.length_append]
    omega
  · rw [pick_more h1]
    exact h4
  · rcases List.mem_append.mp hs with hs | hs
    · exact h5 s hs
    · exact h5 s (pick_mem h1 s hs)
theorem nums_len {ch : List Int} {n : Nat} (h : NumsOk ch n) : ch.length ≤ n := by
  have := nodup_len h.2 (m := (List.range n).map fun k : Nat => (k : Int)) fun x hx => by
    have := h.1 x hx
    exact List.mem_map.mpr ⟨x.toNat, List.mem_range.mpr (by omega), by omega⟩
  simpa using this
def nN (m : Nat) : List Int := (List.range m).map fun k : Nat => (k : Int)
theorem nN_len (m : Nat) : (nN m).length = m := by simp [nN]
theorem nN_lt (m : Nat) : (nN m).Pairwise (· < ·) := List.pairwise_map.mpr (List.pairwise_lt_range.imp fun {a b} h => by omega)
theorem nN_mem {m : Nat} {x : Int} : x ∈ nN m ↔ 0 ≤ x ∧ x < m := by
  constructor
  · intro h
    obtain ⟨k, hk, rfl⟩ := List.mem_map.mp h
    have := List.mem_range.mp hk
    omega
  · intro h
    exact List.mem_map.mpr ⟨x.toNat, List.mem_range.mpr (by omega), by omega⟩
/-- the choice is one of the lots -/
theorem lot_ch {ss : List Span} {ch pins : List Int} (h : Shows ss ch pins) (hs : ch.Pairwise (· < ·)) : ch ∈ lotsL (nN ss.length) := sub_lots _ _ (sub_sorted hs (nN_lt _) fun x hx => nN_mem.mpr (h.1.1 x hx))
theorem lot_in {n : Nat} {y : List Int} (h : y ∈ lotsL (nN n)) : (∀ c ∈ y, 0 ≤ c ∧ c < n) ∧ y.length ≤ n := by
  have := lots_sub _ _ h
  refine ⟨fun c hc => nN_mem.mp (this.subset hc), ?_⟩
  have := this.length_le
  rwa [nN_len] at this
/-- lists of lists of whole numbers; none of them is at D -/
def Il (D : Addr) (H : Hp) (v : V) (y : List Int) : Prop := ∃ a, v = .ref a ∧ a ≠ D ∧ H a = some (.lst (y.map V.int))
inductive Lls (D : Addr) (H : Hp) : List V → List (List Int) → Prop
  | nil : Lls D H [] []
  | cons {v : V} {y : List Int} {vs : List V} {ys : List (List Int)} : Il D H v y → Lls D H vs ys → Lls D H (v :: vs) (y :: ys)
theorem Lls.one {D : Addr} {H : Hp} {v : V} {y : List Int} (h : Il D H v y) : Lls D H [v] [y] := .cons h .nil
theorem Lls.len {D : Addr} {H : Hp} : ∀ {vs : List V} {ys : List (List Int)}, Lls D H vs ys → vs.length = ys.length
  | _, _, .nil => rfl
  | _, _, .cons _ t => congrArg (· + 1) t.len
theorem Lls.app {D : Addr} {H : Hp} : ∀ {vs ws : List V} {ss ts : List (List Int)}, Lls D H vs ss → Lls D H ws ts → Lls D H (vs ++ ws) (ss ++ ts)
  | _, _, _, _, .nil, k => k
  | _, _, _, _, .cons h t, k => .cons h (t.app k)
theorem Lls.imp {D D' : Addr} {H H' : Hp} (f : ∀ a (y : List Int), a ≠ D → H a = some (.lst (y.map V.int)) → a ≠ D' ∧ H' a = some (.lst (y.map V.int))) : ∀ {vs : List V} {ys : List (List Int)}, Lls D H vs ys → Lls D' H' vs ys
  | _, _, .nil => .nil
  | _, _, .cons ⟨a, e, n, h⟩ t => .cons ⟨a, e, (f a _ n h).1, (f a _ n h).2⟩ (t.imp f)
theorem Lls.same {D : Addr} {H H' : Hp} {vs : List V} {ys : List (List Int)} (h : Lls D H vs ys) (e : Same H H') : Lls D H' vs ys := h.imp fun _ _ n g => ⟨n, e _ _ g⟩
theorem Lls.fresh {D D' : Addr} {H : Hp} {vs : List V} {ys : List (List Int)} (h : Lls D H vs ys) (e : H D' = none) : Lls D' H vs ys := h.imp fun _ _ _ g => ⟨ne_of_none g e, g⟩
theorem Lls.upd {D : Addr} {H : Hp} {o : HO} {vs : List V} {ys : List (List Int)} (h : Lls D H vs ys) : Lls D (upd H D o) vs ys := h.imp fun _ _ n g => ⟨n, by rw [upd_ne n]; exact g⟩
theorem Lls.get {D : Addr} {H : Hp} : ∀ {vs : List V} {ys : List (List Int)} {i : Nat} {v : V}, Lls D H vs ys → vs[i]? = some v → ∃ y, ys[i]? = some y ∧ Il D H v y
  | _, _, _, _, .nil, e => by simp at e
  | _, _, 0, _, .cons h _, e => ⟨_, rfl, by rw [← Option.some.inj e]; exact h⟩
  | _, _, i + 1, _, .cons _ t, e => by
    obtain ⟨y, e2, h⟩ := t.get (i := i) e
    exact ⟨y, e2, h⟩
section
variable {P : Program} {w : World} {K : PySem.W.Frag} {mg : Str → Option Value} {base : Heap}
def spLots : Sp := fun vs H Q _ => ∃ (a : Addr) (xs : List Int), vs = [.ref a] ∧ H a = some (.lst (xs.map V.int)) ∧ xs.length ≤ 15 ∧
  ∀ (H' : Hp) (r D : Addr) (us : List V), Same H H' → H r = none → H' r = some (.lst us) → Lls D H' us (lotsL xs) → Q (.ref r) H'
theorem ok_lots (T : Tx K mg) : FnOk P w K mg base CX0 (1) T.f_l_lots T.fd_l_lots ["_law_some"] spLots := by
  refine T.F_l_lots.ok sc_l_lots (fun vs H Q E h => ?_) (fun cdv A outer s H vs Q E hr h => ?_)
  · obtain ⟨a, xs, rfl, _⟩ := h
    rfl
  · obtain ⟨a, xs, rfl, ha, xl, q⟩ := h
    refine ⟨_, (pss_cons (ps_set (i := 1) sc_l_lots.nd rfl (Or.inl rfl) (pe_lst (pa_cons (pe_lst pa_nil) pa_nil)))
      (pss_cons (ps_for PassesOwn.never (by rfl) (pi_list (pv 0)) (pg_name (i := 2) sc_l_lots.nd rfl (Or.inr rfl))
        (pss_one (ps_set (i := 1) sc_l_lots.nd rfl (Or.inl rfl) (pe_op op_cat (pv 1) (pe_lc (own := [("_law_lot", 3)]) (g := (gName 3)) (by rfl) sc_l_lots.nd (pi_list (pv 1)) (blkOk_by (own := [("_law_lot", 3)]) (N := N_l_lots) (sc := defScope s_l_lots) (by decide +kernel)) (fun _ _ _ _ _ => (pg_name (i := 3) sc_l_lots.nd rfl (Or.inl rfl))) (fun _ _ _ _ _ => pts_nil) (fun _ _ _ _ _ => (pe_op op_cat (pv 3) (pe_lst (pa_cons (pv 2) pa_nil)))))))))
      (pss_one (ps_ret (pv 1))))), ?_⟩
    refine ⟨Nat.zero_le _, fun e ne => ?_⟩
    obtain ⟨ge, se⟩ := upd_at (o := .lst []) ne
    refine ⟨small_le (by simp), fun r0 nr0 => ?_⟩
    obtain ⟨gr0, sr0⟩ := upd_at (o := .lst [.ref e]) nr0
    have s0 := se.trans sr0
    have er : e ≠ r0 := ne_of_none ge nr0
    have l0 : Lls r0 _ [.ref e] (lotsL (xs.take 0)) := .one ⟨e, rfl, er, sr0 _ _ ge⟩
    have fr0 : H r0 = none := se.free nr0
    revert gr0 l0 s0
    generalize upd (upd H e (.lst [])) r0 (.lst [.ref e]) = H1
    intro gr0 s0 l0
    refine ⟨_, rfl, a, rfl, ⟨_, SqL.of (s0 _ _ ha)⟩, for_list (K := K) (a := a) (xs := xs.map V.int) (fun i σ H' => ∃ y2 y3 r D us, σ = [some (.ref a), some (.ref r), y2, y3] ∧ Same H H' ∧ H r = none ∧ H' r = some (.lst us) ∧ Lls D H' us (lotsL (xs.take i))) ⟨none, none, r0, r0, _, rfl, s0, fr0, gr0, l0⟩ (fun i σ H' _ ⟨_, _, _, _, _, _, sm, _⟩ => SqL.of (sm _ _ ha)) ?_ ?_⟩
    · rintro i y σ H' hi ⟨y2, y3, r, D, us, rfl, sm, nr, hr', hL⟩
      rw [List.getElem?_map] at hi
      obtain ⟨x, ex, rfl⟩ := Option.map_eq_some_iff.mp hi
      have ii := (List.getElem?_eq_some_iff.mp ex).1
      have ul := hL.len
      have ll := lots_len (xs.take i)
      have tl : (xs.take i).length = i := by
        rw [List.length_take]
        omega
      rw [tl] at ll
      have lt14 : 2 ^ i ≤ 2 ^ 14 := Nat.pow_le_pow_right (by decide) (by omega)
      have ub : us.length ≤ 16384 := by omega
      refine ⟨_, rfl, _, rfl, r, rfl, ⟨_, SqL.of hr'⟩, fun D2 nD2 => ?_⟩
      have hL2 := hL.fresh nD2
      refine lc_list (K := K) (a := r) (xs := us) (fun j H2 => Same H' H2 ∧ ∃ ws, H2 D2 = some (.lst ws) ∧ Lls D2 H2 ws (((lotsL (xs.take i)).take j).map (· ++ [x]))) ⟨same_upd nD2, [], upd_same, .nil⟩ (fun j H2 _ h => SqL.of (h.1 _ _ hr')) ?_ ?_
      · rintro j y H2 hj ⟨s2, ws, hD, hw⟩
        obtain ⟨lot, el, ⟨b, rfl, nb, hb⟩⟩ := hL2.get hj
        have hb2 := s2 _ _ hb
        have jj := (List.getElem?_eq_some_iff.mp hj).1
        have wl := hw.len
        rw [List.length_map, List.length_take] at wl
        have lotl := (lots_sub _ _ (List.mem_of_getElem? el)).length_le
        refine ⟨rfl, ?_⟩
        unfold tYes
        refine iteT ⟨_, rfl, _, rfl, small_le (by simp), fun z nz => ?_⟩
        obtain ⟨gz, sz⟩ := upd_at (o := .lst [.int x]) nz
        refine ⟨b, z, _, _, rfl, rfl, sz _ _ hb2, gz, small_le (by simp; omega), fun c nc => ?_⟩
        obtain ⟨gc, sc⟩ := upd_at (o := .lst (lot.map V.int ++ [.int x])) nc
        have sa := sz.trans sc
        have hD3 := sa _ _ hD
        have nc2 : c ≠ D2 := (ne_of_none (sz _ _ hD) nc).symm
        have hw3 := hw.same sa
        have gc2 : (upd (upd H2 z (.lst [.int x])) c (.lst (lot.map V.int ++ [.int x]))) c = some (.lst ((lot ++ [x]).map V.int)) := by
          rw [gc, List.map_append]
          rfl
        refine ⟨ws, hD3, small_lt (by omega), same_more (s2.trans sa) nD2, ws ++ [.ref c], upd_same, ?_⟩
        rw [List.take_add_one, el, List.map_append]
        exact (hw3.app (.one ⟨c, rfl, nc2, gc2⟩)).upd
      · rintro H2 ⟨s2, ws, hD, hw⟩
        rw [ul, List.take_length] at hw
        have wl := hw.len
        rw [List.length_map] at wl
        refine ⟨r, D2, _, _, rfl, rfl, s2 _ _ hr', hD, small_le (by omega), fun c nc => ?_⟩
        obtain ⟨gc, sc⟩ := upd_at (o := .lst (us ++ ws)) nc
        refine ⟨_, _, c, D2, us ++ ws, rfl, sm.trans (s2.trans sc), sm.free (s2.free nc), gc, ?_⟩
        rw [List.take_add_one, ex]
        have e9 : (some x).toList = [x] := rfl
        rw [e9, lotsL_snoc]
        exact ((hL2.same s2).app hw).same sc
    · rintro σ H' ⟨y2, y3, r, D, us, rfl, sm, nr, hr', hL⟩
      rw [List.length_map, List.take_length] at hL
      exact ⟨_, rfl, q H' r D us sm nr hr' hL⟩
def spMany : Sp := fun vs H Q _ => ∃ (l : Addr) (us : List V) (ss : List Span), vs = [.ref l] ∧ H l = some (.lst us) ∧ Sps H us ss ∧ ss.length ≤ 1000 ∧ ss.all isSpan = true ∧
  ∀ (H' : Hp) (k : Nat), Same H H' → Mx ss k → Q (.int k) H'
theorem ok_many (T : Tx K mg) : FnOk P w K mg base CX0 (7) T.f_l_many T.fd_l_many ["_law_spans_here"] spMany := by
  have G_most_apart : FnOk P w K mg base (L2.CX P w) _ _ _ _ _ := ok_most_apart T
  refine T.F_l_many.ok sc_l_many (fun vs H Q E h => ?_) (fun cdv A outer s H vs Q E hr h => ?_)
  · obtain ⟨l, us, ss, rfl, _⟩ := h
    rfl
  · obtain ⟨l, us, ss, rfl, hl, hS, sl, ok, q⟩ := h
    refine ⟨_, (pss_one (ps_ret (pe_callB call_len_seq (by rfl) T.m_len PySem.boot_len (pa_cons (pe_ix ix_tup (pe_call G_most_apart (hr.mono (by decide)) (by rfl) T.g_most_apart T.F_most_apart.kp T.b_most_apart .nil passL (pa_cons (pv 0) pa_nil)) pe_int (fun _ _ => rfl)) pa_nil)))), ?_⟩
    refine ⟨_, rfl, l, us, ss, rfl, hl, hS, by omega, (fun z => by rw [ok] at z; cases z), fun _ H8 t c pp ts ch s8 nt nc npp ncp ntc ntp ht hc hp tr cperm csort => ?_⟩
    have hlt : ∀ s ∈ ss, s.1 < s.2 := fun s hs => ((isSpan_iff s).mp (List.all_eq_true.mp ok s hs)).2.1
    obtain ⟨shw, cs, ps⟩ := told_right hlt tr cperm csort
    refine ⟨t, _, _, _, rfl, rfl, SqT.of ht, atI_nat (j := 0) rfl, c, _, rfl, .inl (SqL.of hc), ?_⟩
    rw [List.length_map]
    exact q H8 ch.length s8 ⟨ch, _, shw, rfl, cs, ps, told_pins hlt tr⟩
end
section
variable {P : Program} {w : World} {K : PySem.W.Frag} {mg : Str → Option Value} {base : Heap}
/-! ### the law: apart, by all choices -/
theorem pick_take {ss : List Span} {ch : List Int} {i : Nat} {x : Int} {sp : Span} (ex : ch[i]? = some x) (es : ss[x.toNat]? = some sp) : pick ss (ch.take (i + 1)) = pick ss (ch.take i) ++ [sp] := by
  unfold pick
  rw [List.take_add_one, ex, List.map_append]
  congr 1
  show [ss.getD x.toNat (0, 0)] = [sp]
  rw [List.getD_eq_getElem?_getD, es]
  rfl
theorem mem_snoc {α : Type} {l : List α} {i : Nat} {x : α} (e : l[i]? = some x) {p : α → Prop} (h : ∀ y ∈ l.take i, p y) (hx : p x) : ∀ y ∈ l.take (i + 1), p y := fun y hy => by
  rw [List.take_add_one, e] at hy
  rcases List.mem_append.mp hy with hy | hy
  · exact h y hy
  · rw [List.mem_singleton.mp hy]
    exact hx
def spLaw (T : Tx K mg) : Sp := fun vs H Q _ => ∃ (a : Addr) (ns : List Int), vs = [.ref a] ∧ SqL K H a (ns.map V.int) ∧ ns.length ≤ 63 ∧ Tb T.tabs H ∧ ∀ H', Q (.bl true) H'
theorem ok_law (T : Tx K mg) (B : Tbs T base) {f : Addr} {fd : FuncData} (F : Fun K "law" "law" s_law f fd) : FnOk P w K mg base CX0 (8) f fd ["_law_script"] (spLaw T) := by
  have G_l_purse : FnOk P w K mg base CX0 _ _ _ _ _ := ok_purse T
  have G_l_spans : FnOk P w K mg base CX0 _ _ _ _ _ := ok_spans T
  have G_l_many : FnOk P w K mg base CX0 _ _ _ _ _ := ok_many T
  have G_l_lots : FnOk P w K mg base CX0 _ _ _ _ _ := ok_lots T
  have G_l_apart : FnOk P w K mg base CX0 _ _ _ _ _ := ok_apartL T
  have G_l_unpierced : FnOk P w K mg base CX0 _ _ _ _ _ := ok_unpierced T
  have G_most_apart : FnOk P w K mg base (L2.CX P w) _ _ _ _ _ := ok_most_apart T
  have G_shows_apart : FnOk P w K mg base (L2.CX P w) _ _ _ _ _ := ok_shows_apart T B
  refine F.ok sc_law (fun vs H Q E h => ?_) (fun cdv A outer s H vs Q E hr h => ?_)
  · obtain ⟨a, ns, rfl, _⟩ := h
    rfl
  · obtain ⟨a, ns, rfl, hS, hlen, tb, q⟩ := h
    refine ⟨_, (pss_cons (ps_set (i := 1) sc_law.nd rfl (Or.inl rfl) (pe_call G_l_purse (hr.mono (by decide)) (by rfl) T.g_l_purse T.F_l_purse.kp T.b_l_purse .nil pass0 (pa_cons (pv 0) (pa_cons pe_int pa_nil))))
      (pss_cons (ps_set (i := 2) sc_law.nd rfl (Or.inr rfl) (pe_call G_l_spans (hr.mono (by decide)) (by rfl) T.g_l_spans T.F_l_spans.kp T.b_l_spans .nil pass0 (pa_cons (pv 1) (pa_cons (pe_lst pa_nil) (pa_cons pe_int pa_nil)))))
      (pss_cons (ps_set (i := 3) sc_law.nd rfl (Or.inl rfl) (pe_call G_l_many (hr.mono (by decide)) (by rfl) T.g_l_many T.F_l_many.kp T.b_l_many .nil pass0 (pa_cons (pv 2) pa_nil)))
      (pss_cons (ps_set (i := 4) sc_law.nd rfl (Or.inl rfl) pe_int)
      (pss_cons (ps_for PassesOwn.never (by rfl) (pi_list (pe_call G_l_lots (hr.mono (by decide)) (by rfl) T.g_l_lots T.F_l_lots.kp T.b_l_lots .nil pass0 (pa_cons (pe_listRg rfl (by rfl) T.m_list (prg_1 (by rfl) T.m_range (pe_callB call_len_seq (by rfl) T.m_len PySem.boot_len (pa_cons (pv 2) pa_nil)))) pa_nil))) (pg_name (i := 5) sc_law.nd rfl (Or.inl rfl))
        (pss_cons (ps_setLc (i := 6) (own := [("_law_number_here", 11)]) (g := (gName 11)) (by rfl) sc_law.nd rfl rfl (sw_true rfl rfl rfl (by decide +kernel)) (pi_list (pv 5)) (blkOk_by (own := [("_law_number_here", 11)]) (N := N_law) (sc := defScope s_law) (by decide +kernel)) (fun _ _ _ _ _ => (pg_name (i := 11) sc_law.nd rfl (Or.inl rfl))) (fun _ _ _ _ _ => pts_nil) (fun _ _ _ _ _ => (pe_ix (show IxR _ (rIxL K) from ix_list) (pv 2) (pv 11) (fun _ _ => rfl))))
      (C8.pss_cut (ps_if (pt_val (pe_call G_l_apart (hr.mono (by decide)) (by rfl) T.g_l_apart T.F_l_apart.kp T.b_l_apart .nil pass0 (pa_cons (pv 6) pa_nil))) (pss_one (ps_set (i := 4) sc_law.nd rfl (Or.inl rfl) (pe_callB (call_max2 rfl) (by rfl) T.m_max (by decide +kernel) (pa_cons (pv 4) (pa_cons (pe_callB call_len_seq (by rfl) T.m_len PySem.boot_len (pa_cons (pv 6) pa_nil)) pa_nil))))) pss_nil)
      (pss_one (ps_if (PW.pt (pw_and (pt_cmpR op_gt (pe_callB call_len_seq (by rfl) T.m_len PySem.boot_len (pa_cons (pv 5) pa_nil)) pe_int (nomark _)) (pw_and1 (pt_cmpR op_gt (pe_call G_l_many (hr.mono (by decide)) (by rfl) T.g_l_many T.F_l_many.kp T.b_l_many .nil pass0 (pa_cons (pv 6) pa_nil)) (pv 3) (nomark _))))) (pss_one (ps_ret pe_bl)) pss_nil)))))
      (pss_cons (ps_if (pt_cmpR op_ne (pv 4) (pv 3) (nomark _)) (pss_one (ps_ret pe_bl)) pss_nil)
      (pss_cons (ps_set (i := 7) sc_law.nd rfl (Or.inl rfl) (pe_callB call_len_seq (by rfl) T.m_len PySem.boot_len (pa_cons (pv 2) pa_nil)))
      (pss_cons (ps_for PassesOwn.never (by rfl) (pi_list (pe_call G_l_lots (hr.mono (by decide)) (by rfl) T.g_l_lots T.F_l_lots.kp T.b_l_lots .nil pass0 (pa_cons (pe_callB (cr_sortedSet rfl) (by rfl) T.m_sorted (by decide +kernel) (pa_cons (pe_callTy (call_set_of rfl) (by rfl) T.m_set (by decide +kernel) (pa_cons (pe_lc (own := [("_law_span_here", 12)]) (g := (gName 12)) (by rfl) sc_law.nd (pi_list (pv 2)) (blkOk_by (own := [("_law_span_here", 12)]) (N := N_law) (sc := defScope s_law) (by decide +kernel)) (fun _ _ _ _ _ => (pg_name (i := 12) sc_law.nd rfl (Or.inl rfl))) (fun _ _ _ _ _ => pts_nil) (fun _ _ _ _ _ => (pe_op op_sub (pe_ix (show IxR _ (rIxT K) from ix_tup) (pv 12) pe_int (fun _ _ => rfl)) pe_int))) pa_nil)) pa_nil)) pa_nil))) (pg_name (i := 8) sc_law.nd rfl (Or.inl rfl))
        (pss_one (ps_if (pt_cmpR (op_eqD hr.units) (pe_call G_l_unpierced (hr.mono (by decide)) (by rfl) T.g_l_unpierced T.F_l_unpierced.kp T.b_l_unpierced .nil pass0 (pa_cons (pv 2) (pa_cons (pv 8) pa_nil))) (pe_lst pa_nil) (nomark _)) (pss_one (ps_set (i := 7) sc_law.nd rfl (Or.inl rfl) (pe_callB (call_min2 rfl) (by rfl) T.m_min (by decide +kernel) (pa_cons (pv 7) (pa_cons (pe_callB call_len_seq (by rfl) T.m_len PySem.boot_len (pa_cons (pv 8) pa_nil)) pa_nil))))) pss_nil)))
      (pss_cons (ps_asg (pe_call G_most_apart (hr.mono (by decide)) (by rfl) T.g_most_apart T.F_most_apart.kp T.b_most_apart .nil passL (pa_cons (pv 2) pa_nil)) (pg_tup rfl (pgs_cons (pg_name (i := 9) sc_law.nd rfl (Or.inl rfl)) (pgs_cons (pg_name (i := 8) sc_law.nd rfl (Or.inl rfl)) pgs_nil))))
      (pss_cons (ps_set (i := 10) sc_law.nd rfl (Or.inl rfl) (pe_op op_cat (pv 2) (pe_lc (own := [("_law_number_here", 11)]) (g := (gName 11)) (by rfl) sc_law.nd (pi_list (pv 9)) (blkOk_by (own := [("_law_number_here", 11)]) (N := N_law) (sc := defScope s_law) (by decide +kernel)) (fun _ _ _ _ _ => (pg_name (i := 11) sc_law.nd rfl (Or.inl rfl))) (fun _ _ _ _ _ => pts_nil) (fun _ _ _ _ _ => (pe_ix (show IxR _ (rIxL K) from ix_list) (pv 2) (pv 11) (fun _ _ => rfl))))))
      (pss_cons (ps_if (PW.pt (pw_or (pt_cmpR op_ne (pv 7) (pv 3) (nomark _)) (pw_or1 (pt_cmpR op_ne (pe_call G_l_many (hr.mono (by decide)) (by rfl) T.g_l_many T.F_l_many.kp T.b_l_many .nil pass0 (pa_cons (pv 10) pa_nil)) (pv 3) (nomark _))))) (pss_one (ps_ret pe_bl)) pss_nil)
      (pss_one (ps_ret (pe_cmpR op_is_bl (pe_call G_shows_apart (hr.mono (by decide)) (by rfl) T.g_shows_apart T.F_shows_apart.kp T.b_shows_apart .nil passL (pa_cons (pv 10) (pa_cons (pv 9) (pa_cons (pv 8) pa_nil)))) pe_bl (nomark _))))))))))))))), ?_⟩
    refine ⟨_, rfl, a, ns, 0, rfl, hS, by decide, by decide, fun H1 p s1 np p1 => ?_⟩
    have tb1 := tb.same s1
    have pT : p ∉ T.tabs := tb.new np
    refine ⟨_, rfl, Nat.zero_le _, fun e ne => ?_⟩
    obtain ⟨ge, s2⟩ := upd_at (o := .lst []) ne
    have eT : e ∉ T.tabs := tb1.new ne
    have tb2 := tb1.same s2
    have nep : e ≠ p := (p1.ne ne).symm
    refine ⟨p, e, 7, 63000, [], rfl, p1.same s2, by decide, ge, nep, by decide, by decide, (fun z h => nomatch h), fun H3 l us ss zs c3 p3 hE zl zb nl hl hss ok sl => ?_⟩
    have tb3 : Tb T.tabs H3 := tb2.chg c3 fun P hP => nmem2 (fun z => pT (z ▸ hP)) (fun z => eT (z ▸ hP))
    have allok : ss.all isSpan = true := List.all_eq_true.mpr ok
    have hlt : ∀ s ∈ ss, s.1 < s.2 := fun s hs => ((isSpan_iff s).mp (ok s hs)).2.1
    have noB : ∀ {A : Prop}, ss.all isSpan = false → A := fun {A} z => by
      rw [allok] at z
      cases z
    have ul := hss.len
    refine ⟨_, rfl, l, us, ss, rfl, hl, hss, by omega, allok, fun H4 k s4 mx => ?_⟩
    have hl4 := s4 _ _ hl
    have hss4 := hss.same s4
    have tb4 := tb3.same s4
    have all : ∀ {y : List Int}, (∀ c ∈ y, 0 ≤ c ∧ c < ss.length) → (pick ss y).all isSpan = true := fun {y} hy => List.all_eq_true.mpr fun s hs => ok s (pick_mem hy s hs)
    refine ⟨_, rfl, l, _, rfl, .inl (SqL.of hl4), _, rfl, RgOk.of_le (by omega) (by omega) (by omega) (by omega), fun R nR => ?_⟩
    have ern : rgV 0 us.length = (nN ss.length).map V.int := by
      unfold rgV nN
      rw [List.map_map, ul]
      simp
    rw [ern]
    obtain ⟨gR, sR⟩ := upd_at (o := .lst ((nN ss.length).map V.int)) nR
    refine ⟨R, nN ss.length, rfl, gR, by rw [nN_len]; omega, fun H5 r D us5 s5 nr hr5 hL5 => ?_⟩
    have s45 := sR.trans s5
    have hl5 := s45 _ _ hl4
    have hss5 := hss4.same s45
    have tb5 := tb4.same s45
    refine ⟨r, rfl, ⟨_, SqL.of hr5⟩, for_list (K := K) (a := r) (xs := us5) (fun i σ H' => ∃ y5 y6, ∃ b : Nat, σ = [some (.ref a), some (.ref p), some (.ref l), some (.int (k : Nat)), some (.int (b : Nat)), y5, y6, none, none, none, none, none, none] ∧ Same H5 H' ∧ b ≤ k ∧ ∀ y ∈ (lotsL (nN ss.length)).take i, (pick ss y).Pairwise Ap → y.length ≤ b) ⟨none, none, 0, rfl, Same.refl _, Nat.zero_le _, (fun y h => by simp at h)⟩ (fun i σ H' _ ⟨_, _, _, _, sm, _⟩ => SqL.of (sm _ _ hr5)) ?_ ?_⟩
    · rintro i y σ H' hi ⟨y5, y6, b, rfl, sm, bk, hb⟩
      obtain ⟨lot, el, ⟨c, rfl, _, hc⟩⟩ := hL5.get hi
      obtain ⟨inl, lenl⟩ := lot_in (List.mem_of_getElem? el)
      have hc' := sm _ _ hc
      have hl' := sm _ _ hl5
      have hss' := hss5.same sm
      refine ⟨_, rfl, c, rfl, ⟨_, SqL.of hc'⟩, fun D nD => ?_⟩
      refine lc_list (K := K) (a := c) (xs := lot.map V.int) (fun i H2 => Same H' H2 ∧ ∃ ws, H2 D = some (.lst ws) ∧ Sps H2 ws (pick ss (lot.take i))) ⟨same_upd nD, [], upd_same, .nil⟩ (fun i H2 _ h => SqL.of (h.1 _ _ hc')) ?_ ?_
      · rintro j y H2 hj ⟨s2, ws, hD, hw⟩
        rw [List.getElem?_map] at hj
        obtain ⟨x, ex, rfl⟩ := Option.map_eq_some_iff.mp hj
        have nx := inl x (List.mem_of_getElem? ex)
        have wl := hw.len
        have jj := (List.getElem?_eq_some_iff.mp ex).1
        have hx : x.toNat < us.length := by omega
        obtain ⟨sp, es, hsp⟩ := (hss'.same s2).get (List.getElem?_eq_getElem hx)
        have cf : Chg [D] H2 (upd H2 D (.lst (ws ++ [us[x.toNat]]))) := Chg.upd List.mem_cons_self
        refine ⟨rfl, ?_⟩
        unfold tYes
        refine iteT ⟨_, rfl, _, rfl, l, us, x, us[x.toNat], rfl, rfl, SqL.of (s2 _ _ hl'), at_of (j := x.toNat) (by omega) (List.getElem?_eq_getElem hx), ws, hD, small_lt ?_, same_more s2 nD, ws ++ [us[x.toNat]], upd_same, ?_⟩
        · rw [wl, pick_len, List.length_take]
          omega
        · rw [pick_take ex es]
          exact (hw.app (.one hsp)).chg cf (Lsts.of1 hD)
      · rintro H2 ⟨s2, ws, hD, hw⟩
        rw [List.length_map, List.take_length] at hw
        have wl := hw.len
        rw [pick_len] at wl
        refine ⟨fun σ' H' => ∃ (b : Nat), σ' = [some (.ref a), some (.ref p), some (.ref l), some (.int (k : Nat)), some (.int (b : Nat)), some (.ref c), some (.ref D), none, none, none, none, none, none] ∧ Same H2 H' ∧ b ≤ k ∧ ∀ y ∈ (lotsL (nN ss.length)).take (i + 1), (pick ss y).Pairwise Ap → y.length ≤ b, ?_, ?_⟩
        · refine ⟨_, rfl, D, ws, _, rfl, hD, hw, by rw [pick_len]; omega, fun s hs => hlt s (pick_mem inl s hs), fun H6 b6 h6 s6 => ⟨b6, rfl, ?_⟩⟩
          cases b6 with
          | true =>
            have ap := h6.mp rfl
            refine iteT ⟨_, rfl, _, rfl, D, _, rfl, .inl (SqL.of (s6 _ _ hD)), _, _, rfl, ?_⟩
            have lk := mx.lot inl ap
            have e9 : (if (ws.length : Int) > (b : Int) then (ws.length : Int) else (b : Int)) = ((max b lot.length : Nat) : Int) := by
              rw [wl]
              split <;> omega
            rw [e9]
            refine ⟨max b lot.length, rfl, s6, by omega, mem_snoc el (fun z hz hp => ?_) fun _ => by omega⟩
            have := hb z hz hp
            omega
          | false =>
            refine iteF ⟨b, rfl, s6, bk, mem_snoc el hb fun z => ?_⟩
            have := h6.mpr z
            cases this
        · rintro σ' H6 ⟨b, rfl, s6, bk, hb⟩
          have done : ∀ H7, Same H6 H7 → ∃ y5 y6, ∃ b' : Nat, ([some (.ref a), some (.ref p), some (.ref l), some (.int (k : Nat)), some (.int (b : Nat)), some (.ref c), some (.ref D), none, none, none, none, none, none] : L2.St) = [some (.ref a), some (.ref p), some (.ref l), some (.int (k : Nat)), some (.int (b' : Nat)), y5, y6, none, none, none, none, none, none] ∧ Same H5 H7 ∧ b' ≤ k ∧ ∀ y ∈ (lotsL (nN ss.length)).take (i + 1), (pick ss y).Pairwise Ap → y.length ≤ b' := fun H7 s7 => ⟨_, _, b, rfl, sm.trans (s2.trans (s6.trans s7)), bk, hb⟩
          refine ⟨_, rfl, c, _, rfl, .inl (SqL.of (s6 _ _ (s2 _ _ hc'))), _, _, rfl, rfl, _, rfl, ite2 (fun _ => ?_) (fun _ => ?_)⟩
          · refine ⟨_, rfl, D, ws, _, rfl, s6 _ _ hD, hw.same s6, by rw [pick_len]; omega, all inl, fun H7 j s7 mj => ⟨_, rfl, _, _, rfl, rfl, _, rfl, ?_⟩⟩
            have := mx.le mj (pick_mem inl)
            rw [decide_eq_false (by omega)]
            exact iteF (done H7 s7)
          · exact iteF (done H6 (Same.refl _))
    · rintro σ H6 ⟨y5, y6, b, rfl, s6, bk, hb⟩
      rw [hL5.len, List.take_length] at hb
      obtain ⟨ch, pins, shw, ek, cs, ps, pm⟩ := id mx
      have b1 := hb ch (lot_ch shw cs) shw.2.2.1
      have eb : b = k := by omega
      subst eb
      refine ⟨_, rfl, _, rfl, rfl, _, rfl, iteNS rfl ?_⟩
      have hl6 := s6 _ _ hl5
      have hss6 := hss5.same s6
      have tb6 := tb5.same s6
      have kn : b ≤ ss.length := by
        have := nums_len shw.1
        omega
      refine ⟨_, rfl, l, _, rfl, .inl (SqL.of hl6), ?_⟩
      refine ⟨_, rfl, l, rfl, ⟨_, SqL.of hl6⟩, fun D nD => ?_⟩
      refine lc_list (K := K) (a := l) (xs := us) (fun i H' => Same H6 H' ∧ H' D = some (.lst (((ss.take i).map fun s => s.2 - 1).map V.int))) ⟨same_upd nD, upd_same⟩ (fun i H' _ h => SqL.of (h.1 _ _ hl6)) ?_ ?_
      · rintro i y H' hi ⟨sm, hD⟩
        obtain ⟨sp, es, hsp⟩ := hss6.get hi
        obtain ⟨t, rfl, ht⟩ := hsp.same sm
        refine ⟨rfl, ?_⟩
        unfold tYes
        refine iteT ⟨_, rfl, t, _, _, _, rfl, rfl, SqT.of ht, atI_nat (j := 1) rfl, _, _, rfl, rfl, _, hD, small_lt ?_, same_more sm nD, ?_⟩
        · rw [List.length_map, List.length_map, List.length_take]
          omega
        · rw [upd_same, List.take_add_one, es, List.map_append, List.map_append]
          rfl
      rintro H7 ⟨s7, hD⟩
      rw [ul, List.take_length] at hD
      refine ⟨D, _, rfl, SqL.of hD, by rw [List.length_map]; omega, fun st ds nst nd mds => ?_⟩
      have dl : ds.length ≤ (ss.map fun s => s.2 - 1).length := nodup_len nd fun x hx => (mds x).mp hx
      rw [List.length_map] at dl
      obtain ⟨gs, ssn⟩ := upd_at (o := SetO w st (fun j => decide (j ∈ ss.map fun s => s.2 - 1)) ds.length) nst
      refine ⟨st, _, ds.length, rfl, gs, by omega, fun xs o pw mem ln no => ?_⟩
      obtain ⟨go, so⟩ := upd_at (o := .lst (xs.map V.int)) no
      refine ⟨o, xs, rfl, go, by omega, fun H8 r8 D8 us8 s8 nr8 hr8 hL8 => ?_⟩
      have a8 := s7.trans (ssn.trans (so.trans s8))
      have hl8 := a8 _ _ hl6
      have hss8 := hss6.same a8
      have tb8 := tb6.same a8
      refine ⟨r8, rfl, ⟨_, SqL.of hr8⟩, for_list (K := K) (a := r8) (xs := us8) (fun i σ H' => ∃ y5 y6 y8, ∃ c : Nat, σ = [some (.ref a), some (.ref p), some (.ref l), some (.int (b : Nat)), some (.int (b : Nat)), y5, y6, some (.int (c : Nat)), y8, none, none, none, none] ∧ Same H8 H' ∧ b ≤ c ∧ ∀ y ∈ (lotsL xs).take i, Pierced ss y → c ≤ y.length) ⟨y5, y6, none, us.length, rfl, Same.refl _, by omega, (fun y h => by simp at h)⟩ (fun i σ H' _ ⟨_, _, _, _, _, sm, _⟩ => SqL.of (sm _ _ hr8)) ?_ ?_⟩
      · rintro i y σ H' hi ⟨y5, y6, y8, c, rfl, sm, bc, hc⟩
        obtain ⟨lot, el, ⟨d, rfl, _, hd⟩⟩ := hL8.get hi
        have lenl := (lots_sub _ _ (List.mem_of_getElem? el)).length_le
        refine ⟨_, rfl, _, rfl, l, d, us, ss, lot, rfl, sm _ _ hl8, hss8.same sm, sm _ _ hd, by omega, by omega, fun H9 r rs s9 nr R hiff => ?_⟩
        refine ⟨Nat.zero_le _, fun m nm => ?_⟩
        obtain ⟨gm, smm⟩ := upd_at (o := .lst []) nm
        refine ⟨_, _, (R.same smm).dp, .lst (SqL.of gm) .nil, shaped_spans _, shaped_nil, _, rfl, ?_⟩
        rw [eqv_spans_nil]
        have s10 := sm.trans (s9.trans smm)
        refine ite2 (fun e => ?_) (fun e => ?_)
        · have prc := hiff.mp (of_decide_eq_true e)
          refine ⟨_, rfl, _, rfl, d, _, rfl, .inl (SqL.of (s10 _ _ hd)), _, _, rfl, ?_⟩
          have kl := mx.pins prc
          rw [List.length_map]
          have e9 : (if (lot.length : Int) < (c : Int) then (lot.length : Int) else (c : Int)) = ((min c lot.length : Nat) : Int) := by
            split <;> omega
          rw [e9]
          refine ⟨_, _, _, min c lot.length, rfl, s10, by omega, mem_snoc el (fun z hz hp => ?_) fun _ => by omega⟩
          have := hc z hz hp
          omega
        · exact ⟨_, _, _, c, rfl, s10, bc, mem_snoc el hc fun z => absurd (decide_eq_true (hiff.mpr z)) e⟩
      · rintro σ H9 ⟨y5, y6, y8, c, rfl, s9, bc, hc⟩
        rw [hL8.len, List.take_length] at hc
        have pin : pins ∈ lotsL xs := sub_lots _ _ (sub_sorted ps pw fun x hx => (mem x).mpr (decide_eq_true (pm x hx)))
        have c1 := hc pins pin shw.2.2.2
        have pl := shw.2.1
        have ec : c = b := by omega
        subst ec
        have hl9 := s9 _ _ hl8
        have hss9 := hss8.same s9
        have tb9 := tb8.same s9
        refine ⟨_, rfl, l, us, ss, rfl, hl9, hss9, by omega, noB, fun _ H10 t cc pp ts dh s10 nt nc npp ncp ntc ntp ht hcc hpp tr cperm csort => ?_⟩
        obtain ⟨shd, ds1, ds2⟩ := told_right hlt tr cperm csort
        refine ⟨t, _, rfl, SqT.of ht, rfl, _, _, rfl, _, _, rfl, rfl, ?_⟩
        have hl10 := s10 _ _ hl9
        have hss10 := hss9.same s10
        have tb10 := tb9.same s10
        have dln := nums_len shd.1
        refine ⟨_, rfl, _, rfl, cc, rfl, ⟨_, SqL.of hcc⟩, fun D2 nD2 => ?_⟩
        refine lc_list (K := K) (a := cc) (xs := dh.map V.int) (fun i H2 => Same H10 H2 ∧ ∃ ws, H2 D2 = some (.lst ws) ∧ Sps H2 ws (pick ss (dh.take i))) ⟨same_upd nD2, [], upd_same, .nil⟩ (fun i H2 _ h => SqL.of (h.1 _ _ hcc)) ?_ ?_
        · rintro j y H2 hj ⟨s2, ws, hD, hw⟩
          rw [List.getElem?_map] at hj
          obtain ⟨x, ex, rfl⟩ := Option.map_eq_some_iff.mp hj
          have nx := shd.1.1 x (List.mem_of_getElem? ex)
          have wl := hw.len
          have jj := (List.getElem?_eq_some_iff.mp ex).1
          have hx : x.toNat < us.length := by omega
          obtain ⟨sp, es, hsp⟩ := (hss10.same s2).get (List.getElem?_eq_getElem hx)
          have cf : Chg [D2] H2 (upd H2 D2 (.lst (ws ++ [us[x.toNat]]))) := Chg.upd List.mem_cons_self
          refine ⟨rfl, ?_⟩
          unfold tYes
          refine iteT ⟨_, rfl, _, rfl, l, us, x, us[x.toNat], rfl, rfl, SqL.of (s2 _ _ hl10), at_of (j := x.toNat) (by omega) (List.getElem?_eq_getElem hx), ws, hD, small_lt ?_, same_more s2 nD2, ws ++ [us[x.toNat]], upd_same, ?_⟩
          · rw [wl, pick_len, List.length_take]
            omega
          · rw [pick_take ex es]
            exact (hw.app (.one hsp)).chg cf (Lsts.of1 hD)
        rintro H11 ⟨s11, ws, hD, hw⟩
        rw [List.length_map, List.take_length] at hw
        have wl := hw.len
        rw [pick_len] at wl
        refine ⟨l, D2, _, _, rfl, rfl, s11 _ _ hl10, hD, small_le (by omega), fun tw ntw => ?_⟩
        obtain ⟨gtw, stw⟩ := upd_at (o := .lst (us ++ ws)) ntw
        have S12 := ((hss10.same s11).app hw).same stw
        have s12 := s11.trans stw
        have tb12 := tb10.same s12
        have hcc12 := s12 _ _ hcc
        have hpp12 := s12 _ _ hpp
        have twin : ∀ s ∈ ss ++ pick ss dh, s ∈ ss := fun s hs => by
          rcases List.mem_append.mp hs with h | h
          · exact h
          · exact pick_mem shd.1.1 s h
        have twok : (ss ++ pick ss dh).all isSpan = true := List.all_eq_true.mpr fun s hs => ok s (twin s hs)
        have twl : (ss ++ pick ss dh).length ≤ 1000 := by
          rw [List.length_append, pick_len]
          omega
        refine ⟨_, rfl, _, rfl, rfl, _, rfl, iteNS rfl ?_⟩
        refine ⟨_, rfl, tw, _, _, rfl, gtw, S12, twl, twok, fun H13 j s13 mj => ⟨_, rfl, rfl, _, rfl, ?_⟩⟩
        have j1 := mx.le mj twin
        have j2 := mj.le mx fun s hs => List.mem_append_left _ hs
        have ej : j = c := by omega
        subst ej
        refine iteNS rfl ?_
        refine ⟨_, rfl, _, rfl, _, rfl, tw, cc, pp, _, _, dh, _, rfl, s13 _ _ gtw, S12.same s13, s13 _ _ hcc12, s13 _ _ hpp12, by omega, tb12.same s13, (fun z => by rw [twok] at z; cases z), fun _ H14 b14 h14 k14 tb14 => ?_⟩
        have e14 : b14 = true := h14.mpr shd.twice
        subst e14
        exact ⟨true, true, rfl, rfl, q _⟩
end
theorem all_mk {l : PySem.W.OpenLaw} {w : World} {K : PySem.W.Frag} {h : Heap} {mg : Str → Option Value} {fa : Addr} (X : K.In h) (G : h.Ns mainGlobals mg) (hfa : mg "law" = some (.ref fa))
    {f_is_whole : Addr} {od_is_whole an_is_whole : Option Addr} {sl_is_whole : Array (Option Value)} {oc_is_whole kV_is_whole dc_is_whole pm_is_whole cd_is_whole ct_is_whole : Value}
    {f_is_place : Addr} {od_is_place an_is_place : Option Addr} {sl_is_place : Array (Option Value)} {oc_is_place kV_is_place dc_is_place pm_is_place cd_is_place ct_is_place : Value}
    {f_is_span : Addr} {od_is_span an_is_span : Option Addr} {sl_is_span : Array (Option Value)} {oc_is_span kV_is_span dc_is_span pm_is_span cd_is_span ct_is_span : Value}
    {f_check_span : Addr} {od_check_span an_check_span : Option Addr} {sl_check_span : Array (Option Value)} {oc_check_span kV_check_span dc_check_span pm_check_span cd_check_span ct_check_span : Value}
    {f_check_spans : Addr} {od_check_spans an_check_spans : Option Addr} {sl_check_spans : Array (Option Value)} {oc_check_spans kV_check_spans dc_check_spans pm_check_spans cd_check_spans ct_check_spans : Value}
    {f_are_numbers : Addr} {od_are_numbers an_are_numbers : Option Addr} {sl_are_numbers : Array (Option Value)} {oc_are_numbers kV_are_numbers dc_are_numbers pm_are_numbers ct_are_numbers ec_are_numbers : Value} {cA_are_numbers pA_are_numbers : Addr} {dd_are_numbers : Option Addr} {vc_are_numbers : Array Value} {sc_t_are_numbers : Array (Option Value)}
    {f_all_apart : Addr} {od_all_apart an_all_apart : Option Addr} {sl_all_apart : Array (Option Value)} {oc_all_apart kV_all_apart dc_all_apart pm_all_apart ct_all_apart ec_all_apart : Value} {cA_all_apart pA_all_apart : Addr} {dd_all_apart : Option Addr} {vc_all_apart : Array Value} {sc_t_all_apart : Array (Option Value)}
    {f_is_pierced : Addr} {od_is_pierced an_is_pierced : Option Addr} {sl_is_pierced : Array (Option Value)} {oc_is_pierced kV_is_pierced dc_is_pierced pm_is_pierced ct_is_pierced ec_is_pierced : Value} {cA_is_pierced pA_is_pierced : Addr} {dd_is_pierced : Option Addr} {vc_is_pierced : Array Value} {sc_t_is_pierced : Array (Option Value)}
    {f_most_apart : Addr} {od_most_apart an_most_apart : Option Addr} {sl_most_apart : Array (Option Value)} {oc_most_apart kV_most_apart dc_most_apart pm_most_apart cd_most_apart ct_most_apart : Value}
    {f_shows_apart : Addr} {od_shows_apart an_shows_apart : Option Addr} {sl_shows_apart : Array (Option Value)} {oc_shows_apart kV_shows_apart dc_shows_apart pm_shows_apart ct_shows_apart ec_shows_apart : Value} {cA_shows_apart pA_shows_apart : Addr} {dd_shows_apart : Option Addr} {vc_shows_apart : Array Value} {sc_t_shows_apart : Array (Option Value)}
    {f_l_at : Addr} {od_l_at an_l_at : Option Addr} {sl_l_at : Array (Option Value)} {oc_l_at kV_l_at dc_l_at pm_l_at cd_l_at ct_l_at : Value}
    {f_l_mixed : Addr} {od_l_mixed an_l_mixed : Option Addr} {sl_l_mixed : Array (Option Value)} {oc_l_mixed kV_l_mixed dc_l_mixed pm_l_mixed cd_l_mixed ct_l_mixed : Value}
    {f_l_purse : Addr} {od_l_purse an_l_purse : Option Addr} {sl_l_purse : Array (Option Value)} {oc_l_purse kV_l_purse dc_l_purse pm_l_purse cd_l_purse ct_l_purse : Value}
    {f_l_draw : Addr} {od_l_draw an_l_draw : Option Addr} {sl_l_draw : Array (Option Value)} {oc_l_draw kV_l_draw dc_l_draw pm_l_draw cd_l_draw ct_l_draw : Value}
    {f_l_number : Addr} {od_l_number an_l_number : Option Addr} {sl_l_number : Array (Option Value)} {oc_l_number kV_l_number dc_l_number pm_l_number cd_l_number ct_l_number : Value}
    {f_l_end : Addr} {od_l_end an_l_end : Option Addr} {sl_l_end : Array (Option Value)} {oc_l_end kV_l_end dc_l_end pm_l_end cd_l_end ct_l_end : Value}
    {f_l_span : Addr} {od_l_span an_l_span : Option Addr} {sl_l_span : Array (Option Value)} {oc_l_span kV_l_span dc_l_span pm_l_span cd_l_span ct_l_span : Value}
    {f_l_spans : Addr} {od_l_spans an_l_spans : Option Addr} {sl_l_spans : Array (Option Value)} {oc_l_spans kV_l_spans dc_l_spans pm_l_spans cd_l_spans ct_l_spans : Value}
    {f_l_holds : Addr} {od_l_holds an_l_holds : Option Addr} {sl_l_holds : Array (Option Value)} {oc_l_holds kV_l_holds dc_l_holds pm_l_holds cd_l_holds ct_l_holds : Value}
    {f_l_meet : Addr} {od_l_meet an_l_meet : Option Addr} {sl_l_meet : Array (Option Value)} {oc_l_meet kV_l_meet dc_l_meet pm_l_meet cd_l_meet ct_l_meet : Value}
    {f_l_apart : Addr} {od_l_apart an_l_apart : Option Addr} {sl_l_apart : Array (Option Value)} {oc_l_apart kV_l_apart dc_l_apart pm_l_apart cd_l_apart ct_l_apart : Value}
    {f_l_unpierced : Addr} {od_l_unpierced an_l_unpierced : Option Addr} {sl_l_unpierced : Array (Option Value)} {oc_l_unpierced kV_l_unpierced dc_l_unpierced pm_l_unpierced cd_l_unpierced ct_l_unpierced : Value}
    {f_l_lots : Addr} {od_l_lots an_l_lots : Option Addr} {sl_l_lots : Array (Option Value)} {oc_l_lots kV_l_lots dc_l_lots pm_l_lots cd_l_lots ct_l_lots : Value}
    {f_l_many : Addr} {od_l_many an_l_many : Option Addr} {sl_l_many : Array (Option Value)} {oc_l_many kV_l_many dc_l_many pm_l_many cd_l_many ct_l_many : Value}
    {f_law : Addr} {od_law an_law : Option Addr} {sl_law : Array (Option Value)} {oc_law kV_law dc_law pm_law cd_law ct_law : Value}
    {tc_LEAST_PLACE : Tok}
    {tc_GREATEST_PLACE : Tok}
    {C_ShelfError : Addr}
    {C_NoSpan : Addr}
    (a_is_whole : PySem.W.nsIn K mainGlobals "is_whole" = some (some (.ref f_is_whole)))
    (l_is_whole : K.lookup f_is_whole = some ⟨oc_is_whole, od_is_whole, .func (PySem.W.fnOf "is_whole" "is_whole" (defArgs s_is_whole) (defBody s_is_whole) (defScope s_is_whole) .none kV_is_whole dc_is_whole pm_is_whole an_is_whole cd_is_whole ct_is_whole), sl_is_whole⟩)
    (c_is_whole : PySem.W.codeIn K cd_is_whole "is_whole" = true)
    (k_is_whole : PySem.W.keepIn K (.ref f_is_whole) = true)
    (a_is_place : PySem.W.nsIn K mainGlobals "is_place" = some (some (.ref f_is_place)))
    (l_is_place : K.lookup f_is_place = some ⟨oc_is_place, od_is_place, .func (PySem.W.fnOf "is_place" "is_place" (defArgs s_is_place) (defBody s_is_place) (defScope s_is_place) .none kV_is_place dc_is_place pm_is_place an_is_place cd_is_place ct_is_place), sl_is_place⟩)
    (c_is_place : PySem.W.codeIn K cd_is_place "is_place" = true)
    (k_is_place : PySem.W.keepIn K (.ref f_is_place) = true)
    (a_is_span : PySem.W.nsIn K mainGlobals "is_span" = some (some (.ref f_is_span)))
    (l_is_span : K.lookup f_is_span = some ⟨oc_is_span, od_is_span, .func (PySem.W.fnOf "is_span" "is_span" (defArgs s_is_span) (defBody s_is_span) (defScope s_is_span) .none kV_is_span dc_is_span pm_is_span an_is_span cd_is_span ct_is_span), sl_is_span⟩)
    (c_is_span : PySem.W.codeIn K cd_is_span "is_span" = true)
    (k_is_span : PySem.W.keepIn K (.ref f_is_span) = true)
    (a_check_span : PySem.W.nsIn K mainGlobals "check_span" = some (some (.ref f_check_span)))
    (l_check_span : K.lookup f_check_span = some ⟨oc_check_span, od_check_span, .func (PySem.W.fnOf "check_span" "check_span" (defArgs s_check_span) (defBody s_check_span) (defScope s_check_span) .none kV_check_span dc_check_span pm_check_span an_check_span cd_check_span ct_check_span), sl_check_span⟩)
    (c_check_span : PySem.W.codeIn K cd_check_span "check_span" = true)
    (k_check_span : PySem.W.keepIn K (.ref f_check_span) = true)
    (a_check_spans : PySem.W.nsIn K mainGlobals "check_spans" = some (some (.ref f_check_spans)))
    (l_check_spans : K.lookup f_check_spans = some ⟨oc_check_spans, od_check_spans, .func (PySem.W.fnOf "check_spans" "check_spans" (defArgs s_check_spans) (defBody s_check_spans) (defScope s_check_spans) .none kV_check_spans dc_check_spans pm_check_spans an_check_spans cd_check_spans ct_check_spans), sl_check_spans⟩)
    (c_check_spans : PySem.W.codeIn K cd_check_spans "check_spans" = true)
    (k_check_spans : PySem.W.keepIn K (.ref f_check_spans) = true)
    (a_are_numbers : PySem.W.nsIn K mainGlobals "are_numbers" = some (some (.ref f_are_numbers)))
    (l_are_numbers : K.lookup f_are_numbers = some ⟨oc_are_numbers, od_are_numbers, .func (PySem.W.fnOf "are_numbers" "are_numbers" (defArgs s_are_numbers) (defBody s_are_numbers) (defScope s_are_numbers) .none kV_are_numbers dc_are_numbers pm_are_numbers an_are_numbers (.ref cA_are_numbers) ct_are_numbers), sl_are_numbers⟩)
    (c_are_numbers : PySem.W.codeIn K (.ref cA_are_numbers) "are_numbers" = true)
    (k_are_numbers : PySem.W.keepIn K (.ref f_are_numbers) = true)
    (y1_are_numbers : K.lookup cA_are_numbers = some ⟨ec_are_numbers, dd_are_numbers, .fields vc_are_numbers, sc_t_are_numbers⟩)
    (y2_are_numbers : vc_are_numbers[11]? = some (.ref pA_are_numbers))
    (y3_are_numbers : K.lookup pA_are_numbers = none)
    (a_all_apart : PySem.W.nsIn K mainGlobals "all_apart" = some (some (.ref f_all_apart)))
    (l_all_apart : K.lookup f_all_apart = some ⟨oc_all_apart, od_all_apart, .func (PySem.W.fnOf "all_apart" "all_apart" (defArgs s_all_apart) (defBody s_all_apart) (defScope s_all_apart) .none kV_all_apart dc_all_apart pm_all_apart an_all_apart (.ref cA_all_apart) ct_all_apart), sl_all_apart⟩)
    (c_all_apart : PySem.W.codeIn K (.ref cA_all_apart) "all_apart" = true)
    (k_all_apart : PySem.W.keepIn K (.ref f_all_apart) = true)
    (y1_all_apart : K.lookup cA_all_apart = some ⟨ec_all_apart, dd_all_apart, .fields vc_all_apart, sc_t_all_apart⟩)
    (y2_all_apart : vc_all_apart[11]? = some (.ref pA_all_apart))
    (y3_all_apart : K.lookup pA_all_apart = none)
    (a_is_pierced : PySem.W.nsIn K mainGlobals "is_pierced" = some (some (.ref f_is_pierced)))
    (l_is_pierced : K.lookup f_is_pierced = some ⟨oc_is_pierced, od_is_pierced, .func (PySem.W.fnOf "is_pierced" "is_pierced" (defArgs s_is_pierced) (defBody s_is_pierced) (defScope s_is_pierced) .none kV_is_pierced dc_is_pierced pm_is_pierced an_is_pierced (.ref cA_is_pierced) ct_is_pierced), sl_is_pierced⟩)
    (c_is_pierced : PySem.W.codeIn K (.ref cA_is_pierced) "is_pierced" = true)
    (k_is_pierced : PySem.W.keepIn K (.ref f_is_pierced) = true)
    (y1_is_pierced : K.lookup cA_is_pierced = some ⟨ec_is_pierced, dd_is_pierced, .fields vc_is_pierced, sc_t_is_pierced⟩)
    (y2_is_pierced : vc_is_pierced[11]? = some (.ref pA_is_pierced))
    (y3_is_pierced : K.lookup pA_is_pierced = none)
    (a_most_apart : PySem.W.nsIn K mainGlobals "most_apart" = some (some (.ref f_most_apart)))
    (l_most_apart : K.lookup f_most_apart = some ⟨oc_most_apart, od_most_apart, .func (PySem.W.fnOf "most_apart" "most_apart" (defArgs s_most_apart) (defBody s_most_apart) (defScope s_most_apart) .none kV_most_apart dc_most_apart pm_most_apart an_most_apart cd_most_apart ct_most_apart), sl_most_apart⟩)
    (c_most_apart : PySem.W.codeIn K cd_most_apart "most_apart" = true)
    (k_most_apart : PySem.W.keepIn K (.ref f_most_apart) = true)
    (a_shows_apart : PySem.W.nsIn K mainGlobals "shows_apart" = some (some (.ref f_shows_apart)))
    (l_shows_apart : K.lookup f_shows_apart = some ⟨oc_shows_apart, od_shows_apart, .func (PySem.W.fnOf "shows_apart" "shows_apart" (defArgs s_shows_apart) (defBody s_shows_apart) (defScope s_shows_apart) .none kV_shows_apart dc_shows_apart pm_shows_apart an_shows_apart (.ref cA_shows_apart) ct_shows_apart), sl_shows_apart⟩)
    (c_shows_apart : PySem.W.codeIn K (.ref cA_shows_apart) "shows_apart" = true)
    (k_shows_apart : PySem.W.keepIn K (.ref f_shows_apart) = true)
    (y1_shows_apart : K.lookup cA_shows_apart = some ⟨ec_shows_apart, dd_shows_apart, .fields vc_shows_apart, sc_t_shows_apart⟩)
    (y2_shows_apart : vc_shows_apart[11]? = some (.ref pA_shows_apart))
    (y3_shows_apart : K.lookup pA_shows_apart = none)
    (a_l_at : PySem.W.nsIn K mainGlobals "_law_at" = some (some (.ref f_l_at)))
    (l_l_at : K.lookup f_l_at = some ⟨oc_l_at, od_l_at, .func (PySem.W.fnOf "_law_at" "_law_at" (defArgs s_l_at) (defBody s_l_at) (defScope s_l_at) .none kV_l_at dc_l_at pm_l_at an_l_at cd_l_at ct_l_at), sl_l_at⟩)
    (c_l_at : PySem.W.codeIn K cd_l_at "_law_at" = true)
    (k_l_at : PySem.W.keepIn K (.ref f_l_at) = true)
    (a_l_mixed : PySem.W.nsIn K mainGlobals "_law_mixed" = some (some (.ref f_l_mixed)))
    (l_l_mixed : K.lookup f_l_mixed = some ⟨oc_l_mixed, od_l_mixed, .func (PySem.W.fnOf "_law_mixed" "_law_mixed" (defArgs s_l_mixed) (defBody s_l_mixed) (defScope s_l_mixed) .none kV_l_mixed dc_l_mixed pm_l_mixed an_l_mixed cd_l_mixed ct_l_mixed), sl_l_mixed⟩)
    (c_l_mixed : PySem.W.codeIn K cd_l_mixed "_law_mixed" = true)
    (k_l_mixed : PySem.W.keepIn K (.ref f_l_mixed) = true)
    (a_l_purse : PySem.W.nsIn K mainGlobals "_law_purse" = some (some (.ref f_l_purse)))
    (l_l_purse : K.lookup f_l_purse = some ⟨oc_l_purse, od_l_purse, .func (PySem.W.fnOf "_law_purse" "_law_purse" (defArgs s_l_purse) (defBody s_l_purse) (defScope s_l_purse) .none kV_l_purse dc_l_purse pm_l_purse an_l_purse cd_l_purse ct_l_purse), sl_l_purse⟩)
    (c_l_purse : PySem.W.codeIn K cd_l_purse "_law_purse" = true)
    (k_l_purse : PySem.W.keepIn K (.ref f_l_purse) = true)
    (a_l_draw : PySem.W.nsIn K mainGlobals "_law_draw" = some (some (.ref f_l_draw)))
    (l_l_draw : K.lookup f_l_draw = some ⟨oc_l_draw, od_l_draw, .func (PySem.W.fnOf "_law_draw" "_law_draw" (defArgs s_l_draw) (defBody s_l_draw) (defScope s_l_draw) .none kV_l_draw dc_l_draw pm_l_draw an_l_draw cd_l_draw ct_l_draw), sl_l_draw⟩)
    (c_l_draw : PySem.W.codeIn K cd_l_draw "_law_draw" = true)
    (k_l_draw : PySem.W.keepIn K (.ref f_l_draw) = true)
    (a_l_number : PySem.W.nsIn K mainGlobals "_law_number" = some (some (.ref f_l_number)))
    (l_l_number : K.lookup f_l_number = some ⟨oc_l_number, od_l_number, .func (PySem.W.fnOf "_law_number" "_law_number" (defArgs s_l_number) (defBody s_l_number) (defScope s_l_number) .none kV_l_number dc_l_number pm_l_number an_l_number cd_l_number ct_l_number), sl_l_number⟩)
    (c_l_number : PySem.W.codeIn K cd_l_number "_law_number" = true)
    (k_l_number : PySem.W.keepIn K (.ref f_l_number) = true)
    (a_l_end : PySem.W.nsIn K mainGlobals "_law_end" = some (some (.ref f_l_end)))
    (l_l_end : K.lookup f_l_end = some ⟨oc_l_end, od_l_end, .func (PySem.W.fnOf "_law_end" "_law_end" (defArgs s_l_end) (defBody s_l_end) (defScope s_l_end) .none kV_l_end dc_l_end pm_l_end an_l_end cd_l_end ct_l_end), sl_l_end⟩)
    (c_l_end : PySem.W.codeIn K cd_l_end "_law_end" = true)
    (k_l_end : PySem.W.keepIn K (.ref f_l_end) = true)
    (a_l_span : PySem.W.nsIn K mainGlobals "_law_span" = some (some (.ref f_l_span)))
    (l_l_span : K.lookup f_l_span = some ⟨oc_l_span, od_l_span, .func (PySem.W.fnOf "_law_span" "_law_span" (defArgs s_l_span) (defBody s_l_span) (defScope s_l_span) .none kV_l_span dc_l_span pm_l_span an_l_span cd_l_span ct_l_span), sl_l_span⟩)
    (c_l_span : PySem.W.codeIn K cd_l_span "_law_span" = true)
    (k_l_span : PySem.W.keepIn K (.ref f_l_span) = true)
    (a_l_spans : PySem.W.nsIn K mainGlobals "_law_spans" = some (some (.ref f_l_spans)))
    (l_l_spans : K.lookup f_l_spans = some ⟨oc_l_spans, od_l_spans, .func (PySem.W.fnOf "_law_spans" "_law_spans" (defArgs s_l_spans) (defBody s_l_spans) (defScope s_l_spans) .none kV_l_spans dc_l_spans pm_l_spans an_l_spans cd_l_spans ct_l_spans), sl_l_spans⟩)
    (c_l_spans : PySem.W.codeIn K cd_l_spans "_law_spans" = true)
    (k_l_spans : PySem.W.keepIn K (.ref f_l_spans) = true)
    (a_l_holds : PySem.W.nsIn K mainGlobals "_law_holds" = some (some (.ref f_l_holds)))
    (l_l_holds : K.lookup f_l_holds = some ⟨oc_l_holds, od_l_holds, .func (PySem.W.fnOf "_law_holds" "_law_holds" (defArgs s_l_holds) (defBody s_l_holds) (defScope s_l_holds) .none kV_l_holds dc_l_holds pm_l_holds an_l_holds cd_l_holds ct_l_holds), sl_l_holds⟩)
    (c_l_holds : PySem.W.codeIn K cd_l_holds "_law_holds" = true)
    (k_l_holds : PySem.W.keepIn K (.ref f_l_holds) = true)
    (a_l_meet : PySem.W.nsIn K mainGlobals "_law_meet" = some (some (.ref f_l_meet)))
    (l_l_meet : K.lookup f_l_meet = some ⟨oc_l_meet, od_l_meet, .func (PySem.W.fnOf "_law_meet" "_law_meet" (defArgs s_l_meet) (defBody s_l_meet) (defScope s_l_meet) .none kV_l_meet dc_l_meet pm_l_meet an_l_meet cd_l_meet ct_l_meet), sl_l_meet⟩)
    (c_l_meet : PySem.W.codeIn K cd_l_meet "_law_meet" = true)
    (k_l_meet : PySem.W.keepIn K (.ref f_l_meet) = true)
    (a_l_apart : PySem.W.nsIn K mainGlobals "_law_apart" = some (some (.ref f_l_apart)))
    (l_l_apart : K.lookup f_l_apart = some ⟨oc_l_apart, od_l_apart, .func (PySem.W.fnOf "_law_apart" "_law_apart" (defArgs s_l_apart) (defBody s_l_apart) (defScope s_l_apart) .none kV_l_apart dc_l_apart pm_l_apart an_l_apart cd_l_apart ct_l_apart), sl_l_apart⟩)
    (c_l_apart : PySem.W.codeIn K cd_l_apart "_law_apart" = true)
    (k_l_apart : PySem.W.keepIn K (.ref f_l_apart) = true)
    (a_l_unpierced : PySem.W.nsIn K mainGlobals "_law_unpierced" = some (some (.ref f_l_unpierced)))
    (l_l_unpierced : K.lookup f_l_unpierced = some ⟨oc_l_unpierced, od_l_unpierced, .func (PySem.W.fnOf "_law_unpierced" "_law_unpierced" (defArgs s_l_unpierced) (defBody s_l_unpierced) (defScope s_l_unpierced) .none kV_l_unpierced dc_l_unpierced pm_l_unpierced an_l_unpierced cd_l_unpierced ct_l_unpierced), sl_l_unpierced⟩)
    (c_l_unpierced : PySem.W.codeIn K cd_l_unpierced "_law_unpierced" = true)
    (k_l_unpierced : PySem.W.keepIn K (.ref f_l_unpierced) = true)
    (a_l_lots : PySem.W.nsIn K mainGlobals "_law_lots" = some (some (.ref f_l_lots)))
    (l_l_lots : K.lookup f_l_lots = some ⟨oc_l_lots, od_l_lots, .func (PySem.W.fnOf "_law_lots" "_law_lots" (defArgs s_l_lots) (defBody s_l_lots) (defScope s_l_lots) .none kV_l_lots dc_l_lots pm_l_lots an_l_lots cd_l_lots ct_l_lots), sl_l_lots⟩)
    (c_l_lots : PySem.W.codeIn K cd_l_lots "_law_lots" = true)
    (k_l_lots : PySem.W.keepIn K (.ref f_l_lots) = true)
    (a_l_many : PySem.W.nsIn K mainGlobals "_law_many" = some (some (.ref f_l_many)))
    (l_l_many : K.lookup f_l_many = some ⟨oc_l_many, od_l_many, .func (PySem.W.fnOf "_law_many" "_law_many" (defArgs s_l_many) (defBody s_l_many) (defScope s_l_many) .none kV_l_many dc_l_many pm_l_many an_l_many cd_l_many ct_l_many), sl_l_many⟩)
    (c_l_many : PySem.W.codeIn K cd_l_many "_law_many" = true)
    (k_l_many : PySem.W.keepIn K (.ref f_l_many) = true)
    (a_law : PySem.W.nsIn K mainGlobals "law" = some (some (.ref f_law)))
    (l_law : K.lookup f_law = some ⟨oc_law, od_law, .func (PySem.W.fnOf "law" "law" (defArgs s_law) (defBody s_law) (defScope s_law) .none kV_law dc_law pm_law an_law cd_law ct_law), sl_law⟩)
    (c_law : PySem.W.codeIn K cd_law "law" = true)
    (k_law : PySem.W.keepIn K (.ref f_law) = true)
    (n_LEAST_PLACE : PySem.W.nsIn K mainGlobals "LEAST_PLACE" = some (some (.int (-999999999999) tc_LEAST_PLACE)))
    (n_GREATEST_PLACE : PySem.W.nsIn K mainGlobals "GREATEST_PLACE" = some (some (.int (999999999999) tc_GREATEST_PLACE)))
    (a_ShelfError : PySem.W.nsIn K mainGlobals "ShelfError" = some (some (.ref C_ShelfError)))
    (x_ShelfError : PySem.W.excIn K C_ShelfError [.type "ValueError", .type "Exception", .type "BaseException", .type "object"] "ValueError.__new__" = true)
    (k_ShelfError : PySem.W.keepIn K (.ref C_ShelfError) = true)
    (b_ShelfError : PySem.W.subIn K (.ref C_ShelfError) (.type "BaseException") = some true)
    (t_ShelfError : PySem.W.typeIn K (.ref C_ShelfError) = some (.type "type"))
    (a_NoSpan : PySem.W.nsIn K mainGlobals "NoSpan" = some (some (.ref C_NoSpan)))
    (x_NoSpan : PySem.W.excIn K C_NoSpan [.type "ValueError", .type "Exception", .type "BaseException", .type "object"] "ValueError.__new__" = true)
    (k_NoSpan : PySem.W.keepIn K (.ref C_NoSpan) = true)
    (b_NoSpan : PySem.W.subIn K (.ref C_NoSpan) (.type "BaseException") = some true)
    (t_NoSpan : PySem.W.typeIn K (.ref C_NoSpan) = some (.type "type"))
    (z_all : PySem.W.nsIn K mainGlobals "all" = some none)
    (z_any : PySem.W.nsIn K mainGlobals "any" = some none)
    (z_bool : PySem.W.nsIn K mainGlobals "bool" = some none)
    (z_enumerate : PySem.W.nsIn K mainGlobals "enumerate" = some none)
    (z_int : PySem.W.nsIn K mainGlobals "int" = some none)
    (z_isinstance : PySem.W.nsIn K mainGlobals "isinstance" = some none)
    (z_len : PySem.W.nsIn K mainGlobals "len" = some none)
    (z_list : PySem.W.nsIn K mainGlobals "list" = some none)
    (z_max : PySem.W.nsIn K mainGlobals "max" = some none)
    (z_min : PySem.W.nsIn K mainGlobals "min" = some none)
    (z_range : PySem.W.nsIn K mainGlobals "range" = some none)
    (z_set : PySem.W.nsIn K mainGlobals "set" = some none)
    (z_sorted : PySem.W.nsIn K mainGlobals "sorted" = some none)
    (z_tuple : PySem.W.nsIn K mainGlobals "tuple" = some none)
    (z_zip : PySem.W.nsIn K mainGlobals "zip" = some none)
    (R : ∀ nm ∈ (["are_numbers", "all_apart", "is_pierced", "shows_apart"] : List Str), TabRec h mg nm)
    : LamX.LawAtS l w K CX0 8 63 "_law_script" mg fa h := by
  have e := hfa.symm.trans (PySem.W.mg_of X G a_law)
  cases e
  have F_is_whole := fun_mk (st := s_is_whole) l_is_whole c_is_whole k_is_whole
  have b_is_whole := F_is_whole.binds (ps := ["number"]) fun _ _ _ _ _ _ us hl => match us, hl with | [_], _ => rfl
  have F_is_place := fun_mk (st := s_is_place) l_is_place c_is_place k_is_place
  have b_is_place := F_is_place.binds (ps := ["number"]) fun _ _ _ _ _ _ us hl => match us, hl with | [_], _ => rfl
  have F_is_span := fun_mk (st := s_is_span) l_is_span c_is_span k_is_span
  have b_is_span := F_is_span.binds (ps := ["span"]) fun _ _ _ _ _ _ us hl => match us, hl with | [_], _ => rfl
  have F_check_span := fun_mk (st := s_check_span) l_check_span c_check_span k_check_span
  have b_check_span := F_check_span.binds (ps := ["span"]) fun _ _ _ _ _ _ us hl => match us, hl with | [_], _ => rfl
  have F_check_spans := fun_mk (st := s_check_spans) l_check_spans c_check_spans k_check_spans
  have b_check_spans := F_check_spans.binds (ps := ["spans"]) fun _ _ _ _ _ _ us hl => match us, hl with | [_], _ => rfl
  have F_are_numbers := fun_mk (st := s_are_numbers) l_are_numbers c_are_numbers k_are_numbers
  have b_are_numbers := F_are_numbers.binds (ps := ["chosen", "spans"]) fun _ _ _ _ _ _ us hl => match us, hl with | [_, _], _ => rfl
  have F_all_apart := fun_mk (st := s_all_apart) l_all_apart c_all_apart k_all_apart
  have b_all_apart := F_all_apart.binds (ps := ["spans"]) fun _ _ _ _ _ _ us hl => match us, hl with | [_], _ => rfl
  have F_is_pierced := fun_mk (st := s_is_pierced) l_is_pierced c_is_pierced k_is_pierced
  have b_is_pierced := F_is_pierced.binds (ps := ["span", "pins"]) fun _ _ _ _ _ _ us hl => match us, hl with | [_, _], _ => rfl
  have F_most_apart := fun_mk (st := s_most_apart) l_most_apart c_most_apart k_most_apart
  have b_most_apart := F_most_apart.binds (ps := ["spans"]) fun _ _ _ _ _ _ us hl => match us, hl with | [_], _ => rfl
  have F_shows_apart := fun_mk (st := s_shows_apart) l_shows_apart c_shows_apart k_shows_apart
  have b_shows_apart := F_shows_apart.binds (ps := ["spans", "chosen", "pins"]) fun _ _ _ _ _ _ us hl => match us, hl with | [_, _, _], _ => rfl
  have F_l_at := fun_mk (st := s_l_at) l_l_at c_l_at k_l_at
  have b_l_at := F_l_at.binds (ps := ["_law_script", "_law_k"]) fun _ _ _ _ _ _ us hl => match us, hl with | [_, _], _ => rfl
  have F_l_mixed := fun_mk (st := s_l_mixed) l_l_mixed c_l_mixed k_l_mixed
  have b_l_mixed := F_l_mixed.binds (ps := ["_law_cell", "_law_k"]) fun _ _ _ _ _ _ us hl => match us, hl with | [_, _], _ => rfl
  have F_l_purse := fun_mk (st := s_l_purse) l_l_purse c_l_purse k_l_purse
  have b_l_purse := F_l_purse.binds (ps := ["_law_script", "_law_at_here"]) fun _ _ _ _ _ _ us hl => match us, hl with | [_, _], _ => rfl
  have F_l_draw := fun_mk (st := s_l_draw) l_l_draw c_l_draw k_l_draw
  have b_l_draw := F_l_draw.binds (ps := ["_law_purse_here", "_law_out_of"]) fun _ _ _ _ _ _ us hl => match us, hl with | [_, _], _ => rfl
  have F_l_number := fun_mk (st := s_l_number) l_l_number c_l_number k_l_number
  have b_l_number := F_l_number.binds (ps := ["_law_purse_here", "_law_most"]) fun _ _ _ _ _ _ us hl => match us, hl with | [_, _], _ => rfl
  have F_l_end := fun_mk (st := s_l_end) l_l_end c_l_end k_l_end
  have b_l_end := F_l_end.binds (ps := ["_law_purse_here", "_law_ends", "_law_most"]) fun _ _ _ _ _ _ us hl => match us, hl with | [_, _, _], _ => rfl
  have F_l_span := fun_mk (st := s_l_span) l_l_span c_l_span k_l_span
  have b_l_span := F_l_span.binds (ps := ["_law_purse_here", "_law_ends", "_law_most"]) fun _ _ _ _ _ _ us hl => match us, hl with | [_, _, _], _ => rfl
  have F_l_spans := fun_mk (st := s_l_spans) l_l_spans c_l_spans k_l_spans
  have b_l_spans := F_l_spans.binds (ps := ["_law_purse_here", "_law_ends", "_law_most"]) fun _ _ _ _ _ _ us hl => match us, hl with | [_, _, _], _ => rfl
  have F_l_holds := fun_mk (st := s_l_holds) l_l_holds c_l_holds k_l_holds
  have b_l_holds := F_l_holds.binds (ps := ["_law_span_here", "_law_place"]) fun _ _ _ _ _ _ us hl => match us, hl with | [_, _], _ => rfl
  have F_l_meet := fun_mk (st := s_l_meet) l_l_meet c_l_meet k_l_meet
  have b_l_meet := F_l_meet.binds (ps := ["_law_one", "_law_other"]) fun _ _ _ _ _ _ us hl => match us, hl with | [_, _], _ => rfl
  have F_l_apart := fun_mk (st := s_l_apart) l_l_apart c_l_apart k_l_apart
  have b_l_apart := F_l_apart.binds (ps := ["_law_spans_here"]) fun _ _ _ _ _ _ us hl => match us, hl with | [_], _ => rfl
  have F_l_unpierced := fun_mk (st := s_l_unpierced) l_l_unpierced c_l_unpierced k_l_unpierced
  have b_l_unpierced := F_l_unpierced.binds (ps := ["_law_spans_here", "_law_pins"]) fun _ _ _ _ _ _ us hl => match us, hl with | [_, _], _ => rfl
  have F_l_lots := fun_mk (st := s_l_lots) l_l_lots c_l_lots k_l_lots
  have b_l_lots := F_l_lots.binds (ps := ["_law_some"]) fun _ _ _ _ _ _ us hl => match us, hl with | [_], _ => rfl
  have F_l_many := fun_mk (st := s_l_many) l_l_many c_l_many k_l_many
  have b_l_many := F_l_many.binds (ps := ["_law_spans_here"]) fun _ _ _ _ _ _ us hl => match us, hl with | [_], _ => rfl
  have F_law := fun_mk (st := s_law) l_law c_law k_law
  have b_law := F_law.binds (ps := ["_law_script"]) fun _ _ _ _ _ _ us hl => match us, hl with | [_], _ => rfl
  let T : Tx K mg := { f_is_whole := _, fd_is_whole := _, F_is_whole := F_is_whole, b_is_whole := b_is_whole, g_is_whole := PySem.W.mg_of X G a_is_whole, f_is_place := _, fd_is_place := _, F_is_place := F_is_place, b_is_place := b_is_place, g_is_place := PySem.W.mg_of X G a_is_place, f_is_span := _, fd_is_span := _, F_is_span := F_is_span, b_is_span := b_is_span, g_is_span := PySem.W.mg_of X G a_is_span, f_check_span := _, fd_check_span := _, F_check_span := F_check_span, b_check_span := b_check_span, g_check_span := PySem.W.mg_of X G a_check_span, f_check_spans := _, fd_check_spans := _, F_check_spans := F_check_spans, b_check_spans := b_check_spans, g_check_spans := PySem.W.mg_of X G a_check_spans, f_are_numbers := _, fd_are_numbers := _, F_are_numbers := F_are_numbers, b_are_numbers := b_are_numbers, g_are_numbers := PySem.W.mg_of X G a_are_numbers, cA_are_numbers := cA_are_numbers, pA_are_numbers := pA_are_numbers, FC_are_numbers := ⟨⟨_, _, _, _, _, _, _, _, rfl, l_are_numbers, c_are_numbers⟩⟩, f_all_apart := _, fd_all_apart := _, F_all_apart := F_all_apart, b_all_apart := b_all_apart, g_all_apart := PySem.W.mg_of X G a_all_apart, cA_all_apart := cA_all_apart, pA_all_apart := pA_all_apart, FC_all_apart := ⟨⟨_, _, _, _, _, _, _, _, rfl, l_all_apart, c_all_apart⟩⟩, f_is_pierced := _, fd_is_pierced := _, F_is_pierced := F_is_pierced, b_is_pierced := b_is_pierced, g_is_pierced := PySem.W.mg_of X G a_is_pierced, cA_is_pierced := cA_is_pierced, pA_is_pierced := pA_is_pierced, FC_is_pierced := ⟨⟨_, _, _, _, _, _, _, _, rfl, l_is_pierced, c_is_pierced⟩⟩, f_most_apart := _, fd_most_apart := _, F_most_apart := F_most_apart, b_most_apart := b_most_apart, g_most_apart := PySem.W.mg_of X G a_most_apart, f_shows_apart := _, fd_shows_apart := _, F_shows_apart := F_shows_apart, b_shows_apart := b_shows_apart, g_shows_apart := PySem.W.mg_of X G a_shows_apart, cA_shows_apart := cA_shows_apart, pA_shows_apart := pA_shows_apart, FC_shows_apart := ⟨⟨_, _, _, _, _, _, _, _, rfl, l_shows_apart, c_shows_apart⟩⟩, f_l_at := _, fd_l_at := _, F_l_at := F_l_at, b_l_at := b_l_at, g_l_at := PySem.W.mg_of X G a_l_at, f_l_mixed := _, fd_l_mixed := _, F_l_mixed := F_l_mixed, b_l_mixed := b_l_mixed, g_l_mixed := PySem.W.mg_of X G a_l_mixed, f_l_purse := _, fd_l_purse := _, F_l_purse := F_l_purse, b_l_purse := b_l_purse, g_l_purse := PySem.W.mg_of X G a_l_purse, f_l_draw := _, fd_l_draw := _, F_l_draw := F_l_draw, b_l_draw := b_l_draw, g_l_draw := PySem.W.mg_of X G a_l_draw, f_l_number := _, fd_l_number := _, F_l_number := F_l_number, b_l_number := b_l_number, g_l_number := PySem.W.mg_of X G a_l_number, f_l_end := _, fd_l_end := _, F_l_end := F_l_end, b_l_end := b_l_end, g_l_end := PySem.W.mg_of X G a_l_end, f_l_span := _, fd_l_span := _, F_l_span := F_l_span, b_l_span := b_l_span, g_l_span := PySem.W.mg_of X G a_l_span, f_l_spans := _, fd_l_spans := _, F_l_spans := F_l_spans, b_l_spans := b_l_spans, g_l_spans := PySem.W.mg_of X G a_l_spans, f_l_holds := _, fd_l_holds := _, F_l_holds := F_l_holds, b_l_holds := b_l_holds, g_l_holds := PySem.W.mg_of X G a_l_holds, f_l_meet := _, fd_l_meet := _, F_l_meet := F_l_meet, b_l_meet := b_l_meet, g_l_meet := PySem.W.mg_of X G a_l_meet, f_l_apart := _, fd_l_apart := _, F_l_apart := F_l_apart, b_l_apart := b_l_apart, g_l_apart := PySem.W.mg_of X G a_l_apart, f_l_unpierced := _, fd_l_unpierced := _, F_l_unpierced := F_l_unpierced, b_l_unpierced := b_l_unpierced, g_l_unpierced := PySem.W.mg_of X G a_l_unpierced, f_l_lots := _, fd_l_lots := _, F_l_lots := F_l_lots, b_l_lots := b_l_lots, g_l_lots := PySem.W.mg_of X G a_l_lots, f_l_many := _, fd_l_many := _, F_l_many := F_l_many, b_l_many := b_l_many, g_l_many := PySem.W.mg_of X G a_l_many, f_law := _, fd_law := _, F_law := F_law, b_law := b_law, g_law := PySem.W.mg_of X G a_law, tc_LEAST_PLACE := _, c_LEAST_PLACE := PySem.W.mg_of X G n_LEAST_PLACE, tc_GREATEST_PLACE := _, c_GREATEST_PLACE := PySem.W.mg_of X G n_GREATEST_PLACE, C_ShelfError := _, g_ShelfError := PySem.W.mg_of X G a_ShelfError, x_ShelfError := x_ShelfError, k_ShelfError := k_ShelfError, b_ShelfError := b_ShelfError, t_ShelfError := t_ShelfError, C_NoSpan := _, g_NoSpan := PySem.W.mg_of X G a_NoSpan, x_NoSpan := x_NoSpan, k_NoSpan := k_NoSpan, b_NoSpan := b_NoSpan, t_NoSpan := t_NoSpan, m_all := PySem.W.mg_none_of X G z_all, m_any := PySem.W.mg_none_of X G z_any, m_bool := PySem.W.mg_none_of X G z_bool, m_enumerate := PySem.W.mg_none_of X G z_enumerate, m_int := PySem.W.mg_none_of X G z_int, m_isinstance := PySem.W.mg_none_of X G z_isinstance, m_len := PySem.W.mg_none_of X G z_len, m_list := PySem.W.mg_none_of X G z_list, m_max := PySem.W.mg_none_of X G z_max, m_min := PySem.W.mg_none_of X G z_min, m_range := PySem.W.mg_none_of X G z_range, m_set := PySem.W.mg_none_of X G z_set, m_sorted := PySem.W.mg_none_of X G z_sorted, m_tuple := PySem.W.mg_none_of X G z_tuple, m_zip := PySem.W.mg_none_of X G z_zip }
  have z_t0 := tab_of X (R "are_numbers" (by simp)) (PySem.W.mg_of X G a_are_numbers) l_are_numbers rfl y1_are_numbers y2_are_numbers
  have z_t1 := tab_of X (R "all_apart" (by simp)) (PySem.W.mg_of X G a_all_apart) l_all_apart rfl y1_all_apart y2_all_apart
  have z_t2 := tab_of X (R "is_pierced" (by simp)) (PySem.W.mg_of X G a_is_pierced) l_is_pierced rfl y1_is_pierced y2_is_pierced
  have z_t3 := tab_of X (R "shows_apart" (by simp)) (PySem.W.mg_of X G a_shows_apart) l_shows_apart rfl y1_shows_apart y2_shows_apart
  have e1 : ∀ p ∈ ([(cA_are_numbers, pA_are_numbers), (cA_all_apart, pA_all_apart), (cA_is_pierced, pA_is_pierced), (cA_shows_apart, pA_shows_apart)] : List (Addr × Addr)), h.get? p.2 = some { cls := .none, data := .fields #[] } ∧ K.lookup p.2 = none ∧ PySem.W.CodeHd h p.1 p.2 := fun p hp => by
    simp only [List.mem_cons, List.not_mem_nil, or_false] at hp
    rcases hp with rfl | rfl | rfl | rfl
    · exact ⟨z_t0.1, y3_are_numbers, z_t0.2⟩
    · exact ⟨z_t1.1, y3_all_apart, z_t1.2⟩
    · exact ⟨z_t2.1, y3_is_pierced, z_t2.2⟩
    · exact ⟨z_t3.1, y3_shows_apart, z_t3.2⟩
  refine ⟨PySem.W.fnOf "law" "law" (defArgs s_law) (defBody s_law) (defScope s_law) .none kV_law dc_law pm_law an_law cd_law ct_law, [(cA_are_numbers, pA_are_numbers), (cA_all_apart, pA_all_apart), (cA_is_pierced, pA_is_pierced), (cA_shows_apart, pA_shows_apart)], spLaw T, fun p hp => (e1 p hp).1, fun p hp => (e1 p hp).2.1, fun p hp => (e1 p hp).2.2, fun s v => .of_eq rfl, fun H a ns hl _ hT hS => ?_, fun base _ _ hB => ?_⟩
  · refine ⟨a, ns, rfl, hS, hl, fun P hP => ⟨#[], ?_, True.intro⟩, fun _ => rfl⟩
    have hP : P ∈ [pA_are_numbers, pA_all_apart, pA_is_pierced, pA_shows_apart] := hP
    simp only [List.mem_cons, List.not_mem_nil, or_false] at hP
    rcases hP with hP | hP | hP | hP
    · rw [hP]
      exact hT (cA_are_numbers, pA_are_numbers) (by simp)
    · rw [hP]
      exact hT (cA_all_apart, pA_all_apart) (by simp)
    · rw [hP]
      exact hT (cA_is_pierced, pA_is_pierced) (by simp)
    · rw [hP]
      exact hT (cA_shows_apart, pA_shows_apart) (by simp)
  · exact ok_law T { t_are_numbers := ⟨(hB (cA_are_numbers, pA_are_numbers) (by simp)).code, (hB (cA_are_numbers, pA_are_numbers) (by simp)).bm, (hB (cA_are_numbers, pA_are_numbers) (by simp)).gP⟩, t_all_apart := ⟨(hB (cA_all_apart, pA_all_apart) (by simp)).code, (hB (cA_all_apart, pA_all_apart) (by simp)).bm, (hB (cA_all_apart, pA_all_apart) (by simp)).gP⟩, t_is_pierced := ⟨(hB (cA_is_pierced, pA_is_pierced) (by simp)).code, (hB (cA_is_pierced, pA_is_pierced) (by simp)).bm, (hB (cA_is_pierced, pA_is_pierced) (by simp)).gP⟩, t_shows_apart := ⟨(hB (cA_shows_apart, pA_shows_apart) (by simp)).code, (hB (cA_shows_apart, pA_shows_apart) (by simp)).bm, (hB (cA_shows_apart, pA_shows_apart) (by simp)).gP⟩ } F_law
end Sp
open PySem PySem.W PyProof.Rows
set_option maxHeartbeats 0 in
theorem PySem.Challenge.cw_spanshelf_k17_whole_apart_by_choices_holds : PySem.Challenge.rw_spanshelf_k17_whole_apart_by_choices.Holds := by
  w_on; o_law; k_head; (case hw => w_witness2)
  k_fill
  refine Sp.walk_tabs (l := PySem.Challenge.rw_spanshelf_k17_whole_apart_by_choices) (n := 63) (k := 8) (x := "_law_script") (CX := fun _ => L2.CX0) ["are_numbers", "all_apart", "is_pierced", "shows_apart"] rfl (by decide) rfl ⟨rfl, by decide, by decide⟩ (by first | rfl | decide +kernel) (fun w h Y => PySem.W.kIn_of Y) ?F (fun _ _ _ _ _ h => h)
  case F =>
    intro w mg fa h KX G hmg hR
    refine' Sp.all_mk KX G hmg ?a_is_whole ?l_is_whole ?c_is_whole ?k_is_whole ?a_is_place ?l_is_place ?c_is_place ?k_is_place ?a_is_span ?l_is_span ?c_is_span ?k_is_span ?a_check_span ?l_check_span ?c_check_span ?k_check_span ?a_check_spans ?l_check_spans ?c_check_spans ?k_check_spans ?a_are_numbers ?l_are_numbers ?c_are_numbers ?k_are_numbers ?y1_are_numbers ?y2_are_numbers ?y3_are_numbers ?a_all_apart ?l_all_apart ?c_all_apart ?k_all_apart ?y1_all_apart ?y2_all_apart ?y3_all_apart ?a_is_pierced ?l_is_pierced ?c_is_pierced ?k_is_pierced ?y1_is_pierced ?y2_is_pierced ?y3_is_pierced ?a_most_apart ?l_most_apart ?c_most_apart ?k_most_apart ?a_shows_apart ?l_shows_apart ?c_shows_apart ?k_shows_apart ?y1_shows_apart ?y2_shows_apart ?y3_shows_apart ?a_l_at ?l_l_at ?c_l_at ?k_l_at ?a_l_mixed ?l_l_mixed ?c_l_mixed ?k_l_mixed ?a_l_purse ?l_l_purse ?c_l_purse ?k_l_purse ?a_l_draw ?l_l_draw ?c_l_draw ?k_l_draw ?a_l_number ?l_l_number ?c_l_number ?k_l_number ?a_l_end ?l_l_end ?c_l_end ?k_l_end ?a_l_span ?l_l_span ?c_l_span ?k_l_span ?a_l_spans ?l_l_spans ?c_l_spans ?k_l_spans ?a_l_holds ?l_l_holds ?c_l_holds ?k_l_holds ?a_l_meet ?l_l_meet ?c_l_meet ?k_l_meet ?a_l_apart ?l_l_apart ?c_l_apart ?k_l_apart ?a_l_unpierced ?l_l_unpierced ?c_l_unpierced ?k_l_unpierced ?a_l_lots ?l_l_lots ?c_l_lots ?k_l_lots ?a_l_many ?l_l_many ?c_l_many ?k_l_many ?a_law ?l_law ?c_law ?k_law ?n_LEAST_PLACE ?n_GREATEST_PLACE ?a_ShelfError ?x_ShelfError ?k_ShelfError ?b_ShelfError ?t_ShelfError ?a_NoSpan ?x_NoSpan ?k_NoSpan ?b_NoSpan ?t_NoSpan ?z_all ?z_any ?z_bool ?z_enumerate ?z_int ?z_isinstance ?z_len ?z_list ?z_max ?z_min ?z_range ?z_set ?z_sorted ?z_tuple ?z_zip hR
    (case a_is_whole => first | k_is | rfl)
    (case l_is_whole => first | k_is | rfl)
    (case c_is_whole => first | k_is | rfl)
    (case k_is_whole => first | k_is | rfl)
    (case a_is_place => first | k_is | rfl)
    (case l_is_place => first | k_is | rfl)
    (case c_is_place => first | k_is | rfl)
    (case k_is_place => first | k_is | rfl)
    (case a_is_span => first | k_is | rfl)
    (case l_is_span => first | k_is | rfl)
    (case c_is_span => first | k_is | rfl)
    (case k_is_span => first | k_is | rfl)
    (case a_check_span => first | k_is | rfl)
    (case l_check_span => first | k_is | rfl)
    (case c_check_span => first | k_is | rfl)
    (case k_check_span => first | k_is | rfl)
    (case a_check_spans => first | k_is | rfl)
    (case l_check_spans => first | k_is | rfl)
    (case c_check_spans => first | k_is | rfl)
    (case k_check_spans => first | k_is | rfl)
    (case a_are_numbers => first | k_is | rfl)
    (case l_are_numbers => first | k_is | rfl)
    (case c_are_numbers => first | k_is | rfl)
    (case k_are_numbers => first | k_is | rfl)
    (case y1_are_numbers => first | k_is | rfl)
    (case y2_are_numbers => rfl)
    (case y3_are_numbers => first | k_is | kernel_rfl)
    (case a_all_apart => first | k_is | rfl)
    (case l_all_apart => first | k_is | rfl)
    (case c_all_apart => first | k_is | rfl)
    (case k_all_apart => first | k_is | rfl)
    (case y1_all_apart => first | k_is | rfl)
    (case y2_all_apart => rfl)
    (case y3_all_apart => first | k_is | kernel_rfl)
    (case a_is_pierced => first | k_is | rfl)
    (case l_is_pierced => first | k_is | rfl)
    (case c_is_pierced => first | k_is | rfl)
    (case k_is_pierced => first | k_is | rfl)
    (case y1_is_pierced => first | k_is | rfl)
    (case y2_is_pierced => rfl)
    (case y3_is_pierced => first | k_is | kernel_rfl)
    (case a_most_apart => first | k_is | rfl)
    (case l_most_apart => first | k_is | rfl)
    (case c_most_apart => first | k_is | rfl)
    (case k_most_apart => first | k_is | rfl)
    (case a_shows_apart => first | k_is | rfl)
    (case l_shows_apart => first | k_is | rfl)
    (case c_shows_apart => first | k_is | rfl)
    (case k_shows_apart => first | k_is | rfl)
    (case y1_shows_apart => first | k_is | rfl)
    (case y2_shows_apart => rfl)
    (case y3_shows_apart => first | k_is | kernel_rfl)
    (case a_l_at => first | k_is | rfl)
    (case l_l_at => first | k_is | rfl)
    (case c_l_at => first | k_is | rfl)
    (case k_l_at => first | k_is | rfl)
    (case a_l_mixed => first | k_is | rfl)
    (case l_l_mixed => first | k_is | rfl)
    (case c_l_mixed => first | k_is | rfl)
    (case k_l_mixed => first | k_is | rfl)
    (case a_l_purse => first | k_is | rfl)
    (case l_l_purse => first | k_is | rfl)
    (case c_l_purse => first | k_is | rfl)
    (case k_l_purse => first | k_is | rfl)
    (case a_l_draw => first | k_is | rfl)
    (case l_l_draw => first | k_is | rfl)
    (case c_l_draw => first | k_is | rfl)
    (case k_l_draw => first | k_is | rfl)
    (case a_l_number => first | k_is | rfl)
    (case l_l_number => first | k_is | rfl)
    (case c_l_number => first | k_is | rfl)
    (case k_l_number => first | k_is | rfl)
    (case a_l_end => first | k_is | rfl)
    (case l_l_end => first | k_is | rfl)
    (case c_l_end => first | k_is | rfl)
    (case k_l_end => first | k_is | rfl)
    (case a_l_span => first | k_is | rfl)
    (case l_l_span => first | k_is | rfl)
    (case c_l_span => first | k_is | rfl)
    (case k_l_span => first | k_is | rfl)
    (case a_l_spans => first | k_is | rfl)
    (case l_l_spans => first | k_is | rfl)
    (case c_l_spans => first | k_is | rfl)
    (case k_l_spans => first | k_is | rfl)
    (case a_l_holds => first | k_is | rfl)
    (case l_l_holds => first | k_is | rfl)
    (case c_l_holds => first | k_is | rfl)
    (case k_l_holds => first | k_is | rfl)
    (case a_l_meet => first | k_is | rfl)
    (case l_l_meet => first | k_is | rfl)
    (case c_l_meet => first | k_is | rfl)
    (case k_l_meet => first | k_is | rfl)
    (case a_l_apart => first | k_is | rfl)
    (case l_l_apart => first | k_is | rfl)
    (case c_l_apart => first | k_is | rfl)
    (case k_l_apart => first | k_is | rfl)
    (case a_l_unpierced => first | k_is | rfl)
    (case l_l_unpierced => first | k_is | rfl)
    (case c_l_unpierced => first | k_is | rfl)
    (case k_l_unpierced => first | k_is | rfl)
    (case a_l_lots => first | k_is | rfl)
    (case l_l_lots => first | k_is | rfl)
    (case c_l_lots => first | k_is | rfl)
    (case k_l_lots => first | k_is | rfl)
    (case a_l_many => first | k_is | rfl)
    (case l_l_many => first | k_is | rfl)
    (case c_l_many => first | k_is | rfl)
    (case k_l_many => first | k_is | rfl)
    (case a_law => first | k_is | rfl)
    (case l_law => first | k_is | rfl)
    (case c_law => first | k_is | rfl)
    (case k_law => first | k_is | rfl)
    (case n_LEAST_PLACE => first | k_is | rfl)
    (case n_GREATEST_PLACE => first | k_is | rfl)
    (case a_ShelfError => first | k_is | rfl)
    (case x_ShelfError => k_exc)
    (case k_ShelfError => first | k_is | rfl)
    (case b_ShelfError => first | k_is | rfl)
    (case t_ShelfError => first | k_is | rfl)
    (case a_NoSpan => first | k_is | rfl)
    (case x_NoSpan => k_exc)
    (case k_NoSpan => first | k_is | rfl)
    (case b_NoSpan => first | k_is | rfl)
    (case t_NoSpan => first | k_is | rfl)
    (case z_all => first | k_is | rfl)
    (case z_any => first | k_is | rfl)
    (case z_bool => first | k_is | rfl)
    (case z_enumerate => first | k_is | rfl)
    (case z_int => first | k_is | rfl)
    (case z_isinstance => first | k_is | rfl)
    (case z_len => first | k_is | rfl)
    (case z_list => first | k_is | rfl)
    (case z_max => first | k_is | rfl)
    (case z_min => first | k_is | rfl)
    (case z_range => first | k_is | rfl)
    (case z_set => first | k_is | rfl)
    (case z_sorted => first | k_is | rfl)
    (case z_tuple => first | k_is | rfl)
    (case z_zip => first | k_is | rfl)
