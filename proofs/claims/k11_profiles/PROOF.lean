import PyProof.Rows.All
import Wide.All
import OpenK.AllK
import Wide.FinOn
import PySem.Challenge.RW_spanshelf_k11_profiles
import HandS.ForMost
import HandS.ForExc
import HandS.IsInst
import HandS.Wide
import HandS.WideBits
import HandS.Flt
import HandS.ExcIs
import HandS.ExcValue
import HandS.AnyAll
import HandS.EndTab
import HandS.GenList
import HandS.Codes
import HandS.Small
import HandS.More
import HandS.Strs
import HandS.SetFor
import HandS.SortRule
import HandS.Style
import HandS.TupSets
import HandS.TupLe
import HandS.SortInts
import HandS.Conv
set_option Elab.async false
set_option linter.all false
set_option maxRecDepth 100000
set_option maxHeartbeats 4000000
namespace Sp
open PySem PySem.Spec PyProof.Rows L2
/-! ### heaps -/
theorem same_upd {H : Hp} {p : Addr} {o : HO} (h : H p = none) : Same H (upd H p o) := fun b x e => by
  rw [upd_ne (ne_of_none e h)]
  exact e
theorem upd_at {H : Hp} {p : Addr} {o : HO} (h : H p = none) : (upd H p o) p = some o ∧ Same H (upd H p o) := ⟨upd_same, same_upd h⟩
theorem same_more {H H' : Hp} {p : Addr} {o : HO} (h : Same H H') (n : H p = none) : Same H (upd H' p o) := fun b x e => by
  rw [upd_ne (ne_of_none e n)]
  exact h _ _ e
/-- all but what stands at the addresses of L is kept -/
def Chg (L : List Addr) (H H' : Hp) : Prop := ∀ b o, b ∉ L → H b = some o → H' b = some o
theorem Chg.refl (L : List Addr) (H : Hp) : Chg L H H := fun _ _ _ h => h
theorem Chg.trans {L : List Addr} {H H1 H2 : Hp} (a : Chg L H H1) (b : Chg L H1 H2) : Chg L H H2 := fun c o n h => b c o n (a c o n h)
theorem Chg.of_same {L : List Addr} {H H' : Hp} (a : Same H H') : Chg L H H' := fun c o _ h => a c o h
theorem Chg.same {H H' : Hp} (a : Chg [] H H') : Same H H' := fun c o h => a c o List.not_mem_nil h
theorem Chg.mono {L L' : List Addr} {H H' : Hp} (a : Chg L H H') (h : ∀ x ∈ L, x ∈ L') : Chg L' H H' := fun c o n e => a c o (fun q => n (h c q)) e
theorem Chg.upd {L : List Addr} {H : Hp} {p : Addr} {o : HO} (h : p ∈ L) : Chg L H (upd H p o) := fun b x n e => by
  have hne : b ≠ p := fun z => n (by rw [z]; exact h)
  rw [upd_ne hne]
  exact e
theorem Chg.free {L : List Addr} {H H' : Hp} (a : Chg L H H') {l : Addr} (hl : l ∉ L) (h : H' l = none) : H l = none := by
  cases q : H l with
  | none => rfl
  | some o =>
    rw [a l o hl q] at h
    cases h
theorem Chg.seq {K : PySem.W.Frag} {L : List Addr} {H H' : Hp} {a : Addr} {xs : List V} (e : Chg L H H') (n : a ∉ L) (h : SqL K H a xs) : SqL K H' a xs := by
  rcases h with (h | ⟨o, h⟩) | h
  · exact .inl (.inl (e _ _ n h))
  · exact .inl (.inr ⟨o, e _ _ n h⟩)
  · exact .inr h
theorem same_tup {K : PySem.W.Frag} {H H' : Hp} {a : Addr} {xs : List V} (e : Same H H') (h : SqT K H a xs) : SqT K H' a xs := by
  rcases h with (h | ⟨o, h⟩) | h
  · exact .inl (.inl (e _ _ h))
  · exact .inl (.inr ⟨o, e _ _ h⟩)
  · exact .inr h
theorem nmem1 {a b : Addr} (h : a ≠ b) : a ∉ [b] := fun q => h (List.mem_singleton.mp q)
theorem nmem2 {a b c : Addr} (h : a ≠ b) (h2 : a ≠ c) : a ∉ [b, c] := fun q => by
  rcases List.mem_cons.mp q with q | q
  · exact h q
  · exact h2 (List.mem_singleton.mp q)
theorem small_lt {n : Nat} (h : n ≤ 1000000) : n < sizeLine := Nat.lt_of_le_of_lt h (by decide)
theorem small_le {n : Nat} (h : n ≤ 1000000) : n ≤ sizeLine := Nat.le_of_lt (small_lt h)
/-- a list of whole numbers at p that may be changed -/
def Pu (H : Hp) (p : Addr) (n : Nat) : Prop := ∃ a b c : Int, H p = some (.lst [.int a, .int b, .int c]) ∧ 0 ≤ a ∧ 0 ≤ b ∧ b < 2147483647 ∧ 0 ≤ c ∧ c ≤ n
theorem Pu.chg {L : List Addr} {H H' : Hp} {p : Addr} {n : Nat} (h : Pu H p n) (e : Chg L H H') (hp : p ∉ L) : Pu H' p n := by
  obtain ⟨a, b, c, h1, h2⟩ := h
  exact ⟨a, b, c, e _ _ hp h1, h2⟩
theorem Pu.same {H H' : Hp} {p : Addr} {n : Nat} (h : Pu H p n) (e : Same H H') : Pu H' p n := h.chg (L := []) (Chg.of_same e) List.not_mem_nil
theorem Pu.mono {H : Hp} {p : Addr} {n m : Nat} (h : Pu H p n) (e : n ≤ m) : Pu H p m := by
  obtain ⟨a, b, c, h1, h2, h3, h4, h5, h6⟩ := h
  exact ⟨a, b, c, h1, h2, h3, h4, h5, by omega⟩
theorem Pu.ne {H : Hp} {p q : Addr} {n : Nat} (h : Pu H p n) (e : H q = none) : p ≠ q := by
  obtain ⟨a, b, c, h1, _⟩ := h
  exact ne_of_none h1 e
theorem Pu.at {H : Hp} {p : Addr} {n : Nat} (h : Pu H p n) : ∃ o, H p = some o := by
  obtain ⟨a, b, c, h1, _⟩ := h
  exact ⟨_, h1⟩
/-! ### data: whole numbers, spans, lists of them -/
theorem dpAll_ints {K : PySem.W.Frag} {H : Hp} : ∀ ns : List Int, DpAll K H (ns.map V.int) (ns.map PyData.int)
  | [] => .nil
  | n :: r => .cons (.int n) (dpAll_ints r)
theorem lay_ints : ∀ ns : List Int, PyData.canLayAll0 (ns.map PyData.int) = true ∧ PyData.depthAll (ns.map PyData.int) = 0
  | [] => ⟨rfl, rfl⟩
  | n :: r => by
    obtain ⟨h1, h2⟩ := lay_ints r
    refine ⟨?_, ?_⟩
    · show (PyData.canLay0 (.int n) && PyData.canLayAll0 (r.map PyData.int)) = true
      rw [h1]
      rfl
    · show max (PyData.depth (.int n)) (PyData.depthAll (r.map PyData.int)) = 0
      rw [h2]
      rfl
theorem shaped_ints (ns : List Int) : SeqAt.shaped (.list (ns.map PyData.int)) = true := by
  obtain ⟨h1, h2⟩ := lay_ints ns
  show (PyData.canLayAll0 (ns.map PyData.int) && decide (PyData.depthAll (ns.map PyData.int) + 1 ≤ 64)) = true
  rw [h1, h2]
  rfl
theorem shaped_nil : SeqAt.shaped (.list []) = true := rfl
theorem eqv_ints_nil (ns : List Int) : PyData.eqv (.list (ns.map PyData.int)) (.list []) = decide (ns = []) := by
  cases ns with
  | nil => rfl
  | cons n r => simp [PyData.eqv, PyData.eqvAll]
abbrev Span := Int × Int
def spD (s : Span) : PyData := .tuple [.int s.1, .int s.2]
/-- v is the span s -/
def Spn (H : Hp) (v : V) (s : Span) : Prop := ∃ t, v = .ref t ∧ H t = some (.tup [.int s.1, .int s.2])
inductive Sps (H : Hp) : List V → List Span → Prop where
  | nil : Sps H [] []
  | cons {v : V} {s : Span} {vs : List V} {ss : List Span} : Spn H v s → Sps H vs ss → Sps H (v :: vs) (s :: ss)
theorem Spn.same {H H' : Hp} {v : V} {s : Span} (h : Spn H v s) (e : Same H H') : Spn H' v s := by
  obtain ⟨t, rfl, ht⟩ := h
  exact ⟨t, rfl, e _ _ ht⟩
theorem Sps.same {H H' : Hp} (e : Same H H') : ∀ {vs : List V} {ss : List Span}, Sps H vs ss → Sps H' vs ss
  | _, _, .nil => .nil
  | _, _, .cons h t => .cons (h.same e) (Sps.same e t)
/-- only lists are changed: spans stay -/
def Lsts (L : List Addr) (H : Hp) : Prop := ∀ p ∈ L, ∀ xs, H p ≠ some (.tup xs)
theorem Pu.lsts {H : Hp} {p : Addr} {n : Nat} (h : Pu H p n) : Lsts [p] H := fun b hb xs => by
  obtain ⟨_, _, _, h1, _⟩ := h
  rw [List.mem_singleton.mp hb, h1]
  exact fun z => by cases z
theorem Lsts.of1 {H : Hp} {l : Addr} {ys : List V} (h : H l = some (.lst ys)) : Lsts [l] H := fun b hb xs => by
  rw [List.mem_singleton.mp hb, h]
  exact fun z => by cases z
theorem Lsts.two {H : Hp} {p q : Addr} (h : Lsts [p] H) (h2 : Lsts [q] H) : Lsts [p, q] H := fun b hb xs => by
  rcases List.mem_cons.mp hb with e | e
  · rw [e]
    exact h p List.mem_cons_self xs
  · exact h2 b e xs
theorem Spn.chg {L : List Addr} {H H' : Hp} {v : V} {s : Span} (h : Spn H v s) (e : Chg L H H') (l : Lsts L H) : Spn H' v s := by
  obtain ⟨t, rfl, ht⟩ := h
  exact ⟨t, rfl, e _ _ (fun q => l t q _ ht) ht⟩
theorem Sps.chg {L : List Addr} {H H' : Hp} (e : Chg L H H') (l : Lsts L H) : ∀ {vs : List V} {ss : List Span}, Sps H vs ss → Sps H' vs ss
  | _, _, .nil => .nil
  | _, _, .cons h t => .cons (h.chg e l) (Sps.chg e l t)
theorem Sps.len {H : Hp} : ∀ {vs : List V} {ss : List Span}, Sps H vs ss → vs.length = ss.length
  | _, _, .nil => rfl
  | _, _, .cons _ t => congrArg (· + 1) t.len
theorem Sps.app {H : Hp} : ∀ {vs ws : List V} {ss ts : List Span}, Sps H vs ss → Sps H ws ts → Sps H (vs ++ ws) (ss ++ ts)
  | _, _, _, _, .nil, h => h
  | _, _, _, _, .cons a t, h => .cons a (Sps.app t h)
theorem Sps.one {H : Hp} {v : V} {s : Span} (h : Spn H v s) : Sps H [v] [s] := .cons h .nil
theorem Sps.get {H : Hp} : ∀ {vs : List V} {ss : List Span} {i : Nat} {v : V}, Sps H vs ss → vs[i]? = some v → ∃ s, ss[i]? = some s ∧ Spn H v s
  | _, _, _, _, .nil, e => by simp at e
  | _, _, 0, v, .cons (s := s) h t, e => ⟨s, rfl, by
      have q := Option.some.inj (show some _ = some v from e)
      rw [← q]
      exact h⟩
  | _, _, i + 1, v, .cons h t, e => Sps.get (i := i) t e
theorem Sps.get' {H : Hp} : ∀ {vs : List V} {ss : List Span} {i : Nat} {s : Span}, Sps H vs ss → ss[i]? = some s → ∃ v, vs[i]? = some v ∧ Spn H v s
  | _, _, _, _, .nil, e => by simp at e
  | _, _, 0, s, .cons (v := v) h t, e => ⟨v, rfl, by
      have q := Option.some.inj (show some _ = some s from e)
      rw [← q]
      exact h⟩
  | _, _, i + 1, v, .cons h t, e => Sps.get' (i := i) t e
theorem Spn.dp {K : PySem.W.Frag} {H : Hp} {v : V} {s : Span} (h : Spn H v s) : Dp K H v (spD s) := by
  obtain ⟨t, rfl, ht⟩ := h
  exact .tup (SqT.of ht) (.cons (.int _) (.cons (.int _) .nil))
theorem Sps.dpAll {K : PySem.W.Frag} {H : Hp} : ∀ {vs : List V} {ss : List Span}, Sps H vs ss → DpAll K H vs (ss.map spD)
  | _, _, .nil => .nil
  | _, _, .cons h t => .cons h.dp t.dpAll
theorem Sps.dp {K : PySem.W.Frag} {H : Hp} {a : Addr} {vs : List V} {ss : List Span} (h : Sps H vs ss) (q : SqL K H a vs) : Dp K H (.ref a) (.list (ss.map spD)) := .lst q h.dpAll
theorem lay_spans : ∀ ss : List Span, PyData.canLayAll0 (ss.map spD) = true ∧ PyData.depthAll (ss.map spD) ≤ 1
  | [] => ⟨rfl, by decide⟩
  | s :: r => by
    obtain ⟨h1, h2⟩ := lay_spans r
    refine ⟨?_, ?_⟩
    · show (PyData.canLay0 (spD s) && PyData.canLayAll0 (r.map spD)) = true
      rw [h1]
      rfl
    · show max (PyData.depth (spD s)) (PyData.depthAll (r.map spD)) ≤ 1
      have e : PyData.depth (spD s) = 1 := rfl
      rw [e]
      omega
theorem shaped_spans (ss : List Span) : SeqAt.shaped (.list (ss.map spD)) = true := by
  obtain ⟨h1, h2⟩ := lay_spans ss
  show (PyData.canLayAll0 (ss.map spD) && decide (PyData.depthAll (ss.map spD) + 1 ≤ 64)) = true
  rw [h1, decide_eq_true (by omega)]
  rfl
theorem eqv_span (s t : Span) : PyData.eqv (spD s) (spD t) = decide (s = t) := by
  obtain ⟨a, b⟩ := s
  obtain ⟨c, d⟩ := t
  simp [PyData.eqv, PyData.eqvAll, spD, Bool.beq_eq_decide_eq]
theorem eqvAll_spans : ∀ ss ts : List Span, PyData.eqvAll (ss.map spD) (ts.map spD) = decide (ss = ts)
  | [], [] => rfl
  | [], _ :: _ => rfl
  | _ :: _, [] => rfl
  | s :: ss, t :: ts => by
    show (PyData.eqv (spD s) (spD t) && PyData.eqvAll (ss.map spD) (ts.map spD)) = _
    rw [eqv_span, eqvAll_spans ss ts]
    by_cases h : s = t <;> by_cases h2 : ss = ts <;> simp [h, h2]
theorem eqv_spans (ss ts : List Span) : PyData.eqv (.list (ss.map spD)) (.list (ts.map spD)) = decide (ss = ts) := eqvAll_spans ss ts
theorem eqv_spans_nil (ss : List Span) : PyData.eqv (.list (ss.map spD)) (.list []) = decide (ss = []) := eqvAll_spans ss []
/-! ### generator expressions: elements judged in the generator's own frame -/
section
open GenW
/-- the generator's frame, woken below two calls of built-ins -/
abbrev gcx (X : Cx) (s : Shared) (H : Hp) (cenv : Env) (fp : List Addr) : Cx := { X with A := X.A.in1.in1.deeper cenv, s_0 := s, H_0 := H, env := cenv, outer := X.stack, stack := cenv :: X.stack, ex := fp, fn := fun _ => false, pn := [], xe := fun _ _ => False }
/-- the names of a generator expression: its own (with their places in N), or captured ones -/
structure GBlk (N : List Str) (sc scope : Scope) (own : List (Str × Nat)) : Prop where
  kind : scope.kind = .function
  co : scope.isCoroutine = false
  nocell : ∀ y ∈ scope.names, y.2 ≠ .cell
  dot : scope.names.lookup (".0" : Str) = some NameKind.local
  uniq : ∀ y ∈ scope.names, scope.names.lookup y.1 = some y.2
  ix : ∀ p ∈ own, N[p.2]? = some p.1
  free : ∀ y ∈ scope.names, y.2 = .free → sc.names.lookup y.1 = some .cell ∨ sc.names.lookup y.1 = some .free
  own : ∀ y ∈ scope.names, y.2 = .local → y.1 ∈ own.map (·.1) ∨ y.1 ∉ N
def gblkC (N : List Str) (sc scope : Scope) (own : List (Str × Nat)) : Bool :=
  decide (scope.kind = .function) && !scope.isCoroutine && scope.names.all (fun y => decide (y.2 ≠ .cell)) && decide (scope.names.lookup (".0" : Str) = some NameKind.local) && scope.names.all (fun y => decide (scope.names.lookup y.1 = some y.2)) &&
    own.all (fun p => decide (N[p.2]? = some p.1)) && scope.names.all (fun y => decide (y.2 ≠ .free) || decide (sc.names.lookup y.1 = some .cell) || decide (sc.names.lookup y.1 = some .free)) && scope.names.all (fun y => decide (y.2 ≠ .local) || decide (y.1 ∈ own.map (·.1)) || decide (y.1 ∉ N))
theorem gblk_by {N : List Str} {sc scope : Scope} {own : List (Str × Nat)} (h : gblkC N sc scope own = true) : GBlk N sc scope own := by
  unfold gblkC at h
  simp only [Bool.and_eq_true, Bool.or_eq_true, decide_eq_true_eq, List.all_eq_true, Bool.not_eq_true'] at h
  obtain ⟨⟨⟨⟨⟨⟨⟨h1, h2⟩, h3⟩, h4⟩, h5⟩, h6⟩, h7⟩, h8⟩ := h
  refine ⟨h1, h2, h3, h4, h5, h6, fun y hy e => ?_, fun y hy e => ?_⟩
  · rcases h7 y hy with (z | z) | z
    · exact absurd e z
    · exact .inl z
    · exact .inr z
  · rcases h8 y hy with (z | z) | z
    · exact absurd e z
    · exact .inl z
    · exact .inr z
variable {X : Cx} {pins : List (Addr × Obj)} {σ : L2.St} {H : Hp} {s : Shared}
theorem inv_regen {X : Cx} {pins : List (Addr × Obj)} {σ : L2.St} {H : Hp} {s s' : Shared} (I : Inv X pins σ H s) (ho : s'.os = s.os) (hh : s'.heap = s.heap) (hb : AllBare s'.gens) : Inv X pins σ H s' := by
  obtain ⟨h', g', d', t', o'⟩ := s'
  cases ho
  cases hh
  exact ⟨I.ok, I.os, hb, I.base, I.loc, I.cell, I.free, I.freeC, I.pin, I.hok, I.len⟩
/-- the frame stands -/
theorem gblk_start {scope : Scope} {own : List (Str × Nat)} {fp : List Addr} {h' : Heap} {g' : Array GenState} {tk : Nat} {itv code : Value} (I : Inv X pins σ H s) (ok : GBlk X.N X.env.scope scope own) (hN : X.N.Nodup) (hfp : ∀ b ∈ fp, FpOk X pins H b ∧ b < s.heap.objs.size)
    (hn : h'.Ns s.heap.objs.size (fun y => if y = ".0" then some itv else none)) (kp : ∀ b o, s.heap.get? b = some o → h'.get? b = some o) (hb : AllBare g') :
    Inv (gcx X s H (genEnv scope (cloFrom X.env.cells scope.names []) s.heap.objs.size code builtinsNs X.env) fp) [] (wipe σ (own.map (·.2))) H { s with heap := h', gens := g', toks := tk } := by
  have hfree : ∀ y ∈ scope.names, y.2 = .free → ∃ c, X.env.cells.lookup y.1 = some c := fun y hy e =>
    (ok.free y hy e).elim (fun k => I.ok.has _ (.inl k)) fun k => I.ok.has _ (.inr k)
  generalize hce : genEnv scope (cloFrom X.env.cells scope.names []) s.heap.objs.size code builtinsNs X.env = ce
  have hL : ce.locals = s.heap.objs.size := by subst hce; rfl
  have hcl : ce.cells = cloFrom X.env.cells scope.names [] := by subst hce; rfl
  have hsc : ce.scope = scope := by subst hce; rfl
  have cm : ∀ {y c}, ce.cells.lookup y = some c → X.env.cells.lookup y = some c ∧ c < s.heap.objs.size := fun {y c} e => by
    rw [hcl] at e
    rcases cloFrom_mem (PySem.mem_of_lookup e) with hm | ⟨h1, rfl⟩
    · cases hm
    · obtain ⟨c, hc⟩ := hfree _ h1 rfl
      rw [hc]
      obtain ⟨w, z⟩ := I.cell _ _ hc
      exact ⟨rfl, z.lt⟩
  have look : ∀ {y}, scope.names.lookup y = some .free → ∃ c, ce.cells.lookup y = some c ∧ X.env.cells.lookup y = some c := fun {y} hl => by
    have hy : (y, NameKind.free) ∈ scope.names := PySem.mem_of_lookup hl
    obtain ⟨c', e'⟩ := mem_lookup (cloFrom_has (cells := X.env.cells) (acc := []) hy)
    rw [← hcl] at e'
    exact ⟨c', e', (cm e').1⟩
  have nocell : ∀ {y}, ce.kindOf y ≠ some .cell := fun {y} e => by
    have e : ce.scope.names.lookup y = some .cell := e
    rw [hsc] at e
    exact ok.nocell _ (PySem.mem_of_lookup e) rfl
  have okB : (gcx X s H ce fp).Ok := by
    refine ⟨I.ok.mod, by show ce.scope.kind = _; rw [hsc]; exact ok.kind, by show ce.globals = _; rw [← hce]; exact I.ok.glob, by show ce.builtins = _; rw [← hce]; rfl, by show s.heap.objs.size ≤ ce.locals; rw [hL]; exact Nat.le_refl _,
      fun y z c e1 e2 => ?_, fun y hy => ?_, fun y c z e => ?_, I.ok.hd, ?_, .inr ⟨rfl, ?_⟩, fun b hb => ⟨?_, fun y c e z => ?_⟩, I.bs, Nat.le_trans I.ok.bsz I.sz, fun b o e hb => ?_, fun b hb z => ?_, I.stack, I.stkFree⟩
    · exact I.ok.inj y z c (cm e1).1 (cm e2).1
    · rcases hy with hy | hy
      · exact absurd hy nocell
      · have hy : ce.scope.names.lookup y = some .free := hy
        rw [hsc] at hy
        obtain ⟨c, h1, _⟩ := look hy
        exact ⟨c, h1⟩
    · cases z
    · exact Around.frames_deeper (show X.A.in1.in1.frames = some X.stack from I.ok.frames)
    · show ce.frame = some ce.locals
      rw [← hce]
      rfl
    · show b ≠ ce.locals
      rw [hL]
      exact Nat.ne_of_lt (hfp b hb).2
    · exact (hfp b hb).1.2.2.2.2.1 y c (cm e).1 z
    · rcases (hfp b hb).1.2.2.2.1 with z | z
      · exact I.ok.noex b o e z
      · exact absurd (Nat.lt_of_lt_of_le (Heap.lt_size e) (Nat.le_trans I.ok.bsz z)) (Nat.lt_irrefl _)
    · rcases List.mem_cons.mp (I.stkSub b z) with z | z
      · exact (hfp b hb).1.2.1 z
      · exact (hfp b hb).1.2.2.1 z
  refine ⟨okB, rfl, hb, Un.kept kp, ⟨fun y => if y = ".0" then some itv else none, ?_, fun i y av e1 e2 e3 => ?_⟩, fun y c e => ?_, ?_, fun y c e => I.freeC y c (cm e).1, fun p hp => ?_, I.hok.kept kp, by rw [wipe_length]; exact I.len⟩
  · show Heap.Ns _ ce.locals _
    rw [hL]
    exact hn
  · obtain ⟨e2, hne⟩ := wipe_some e2
    have hfr : scope.names.lookup y = some .free := by
      have e3 : Vis ce.scope y := e3
      rw [hsc] at e3
      rcases e3 with e3 | e3 | e3
      · rcases ok.own _ (PySem.mem_of_lookup e3) rfl with e' | e'
        · obtain ⟨p, hp, hpy⟩ := List.mem_map.mp e'
          have e4 := ok.ix p hp
          have hpy : p.1 = y := hpy
          rw [hpy] at e4
          exact absurd (List.mem_map.mpr ⟨p, hp, nodup_ix hN e4 e1⟩) hne
        · exact absurd (List.mem_of_getElem? e1) e'
      · exact absurd rfl (ok.nocell _ (PySem.mem_of_lookup e3))
      · exact e3
    obtain ⟨m, hn', hl⟩ := I.loc
    have vis : Vis X.env.scope y := (ok.free _ (PySem.mem_of_lookup hfr) rfl).elim (fun k => .inr (.inl k)) (fun k => .inr (.inr k))
    obtain ⟨w, r, q⟩ := hl i y av e1 e2 vis
    obtain ⟨c, h1, h2⟩ := look hfr
    refine ⟨w, r, .inr ⟨.inr (by show ce.scope.names.lookup y = _; rw [hsc]; exact hfr), c, h1, ?_⟩⟩
    rcases q with ⟨k, _⟩ | ⟨_, c', e', z⟩
    · have k : X.env.scope.names.lookup y = some .local := k
      rcases ok.free _ (PySem.mem_of_lookup hfr) rfl with k' | k' <;> rw [show X.env.scope.names.lookup y = _ from k'] at k <;> cases k
    · rw [h2] at e'
      cases e'
      exact z.keeps kp
  · obtain ⟨w, z⟩ := I.cell y c (cm e).1
    exact ⟨w, z.keeps kp⟩
  · show H ce.locals = none
    rw [hL]
    exact I.hok.fresh (Nat.le_refl _)
  · exact absurd (show p ∈ ([] : List (Addr × Obj)) ++ [] from hp) (by simp)
/-! the consumer: a: what it has gathered, told by the state; os: its own objects -/
structure Cons (α : Type) where
  step : α → V → (α → Prop) → (V → Prop) → Prop
  fin : α → (V → Prop) → Prop
/-- while the generator sleeps, all but the consumer's own is kept -/
structure Slp (ol : List Addr) (s s' : Shared) : Prop where
  same : s'.os = s.os
  bare : AllBare s'.gens
  keep : ∀ b o, b ∉ ol → s.heap.get? b = some o → s'.heap.get? b = some o
  own : ∀ b ∈ ol, ∃ o, s'.heap.get? b = some o ∧ ∀ v, o.data ≠ .cell v
def OsOk (X : Cx) (os : List Addr) : Prop := ∀ b ∈ os, X.s_0.heap.objs.size ≤ b ∧ b ≠ X.env.locals ∧ (∀ x c, X.env.cells.lookup x = some c → c ≠ b) ∧ b ∉ X.ex
theorem inv_woken {os : List Addr} {ip : List (Addr × Obj)} {s s' s₀ : Shared} (I : Inv X (pinsAt os s₀.heap ++ ip) σ H s) (hpn : X.pn = []) (h₀ : ∀ b ∈ os, ∃ o, s₀.heap.get? b = some o) (hO : OsOk X os) (z : Slp os s s') : Inv X (pinsAt os s'.heap) σ H s' ∧ ∀ b ∈ os, H b = none ∧ b ∉ X.fs := by
  have hb0 : ∀ b ∈ os, H b = none ∧ b ∉ X.fs := fun b hb => by
    obtain ⟨o, e⟩ := h₀ b hb
    obtain ⟨_, h2, _, h4, _⟩ := I.pin (b, o) (List.mem_append_right _ (List.mem_append_left _ (mem_pinsAt hb e)))
    exact ⟨h2, h4⟩
  have I0 : Inv X [] σ H s := I.pins_of fun p hp => absurd hp (by simp)
  have I1 : Inv X [] σ H { s with heap := s'.heap, toks := s.toks } := I0.turnedL (ch := os) (fun b o hb e => z.keep b o hb e) fun b hb =>
    ⟨(hb0 b hb).1, (hO b hb).2.1, (hb0 b hb).2, .inr (hO b hb).1, (hO b hb).2.2.1, fun p hp => absurd (show p ∈ ([] : List (Addr × Obj)) from by rw [hpn] at hp; exact hp) (by simp)⟩
  have I2 : Inv X [] σ H s' := inv_regen I1 z.same rfl z.bare
  refine ⟨I2.pins_of fun p hp => ?_, hb0⟩
  obtain ⟨hb, e⟩ := of_pinsAt hp
  obtain ⟨o, e', hc⟩ := z.own p.1 hb
  rw [e] at e'
  cases e'
  exact ⟨e, (hb0 p.1 hb).1, (hO p.1 hb).2.1, (hb0 p.1 hb).2, hc⟩
section
variable {α : Type}
def GYx (Z : Cx) (os : List Addr) (c : Cons α) (Rel : α → Shared → Prop) (Q : VK) : Protocol := fun n s₀ v s kap =>
  ∃ (a : α) (y : V) (H : Hp) (ip : List (Addr × Obj)) (τ : L2.St) (Nx : α → Prop), Rel a s₀ ∧ RelV y v ∧ Inv Z (pinsAt os s₀.heap ++ ip) τ H s ∧ c.step a y Nx (fun u => Q u H) ∧ ∀ s' a', Nx a' → Rel a' s' → Slp os s s' → kap (.send .none) s'
def GEx (Z : Cx) (os : List Addr) (c : Cons α) (Rel : α → Shared → Prop) (Q : VK) : GenEnd := fun n s₀ r s =>
  ((r = .ok (.ret .none) ∨ r = .ok .next) ∧ ∃ (a : α) (H : Hp) (τ : L2.St), Rel a s₀ ∧ Inv Z (pinsAt os s₀.heap) τ H s ∧ c.fin a (fun u => Q u H)) ∨ ∃ e, r = .error e ∧ False
/-- the loop: what is asked -/
def Runs1 (J : It) (g : TG) (tt : TT) (te : TE) (vs : List Nat) (σ : L2.St) (c : Cons α) (Q : VK) (W : Nat → Nat → α → Hp → Prop) : Prop :=
  ∀ i m a H, W i m a H → (J.stop i H ∧ c.fin a (fun u => Q u H)) ∨ (J.go i H ∧ ∃ Nx : α → Hp → Prop, (∀ a' H', Nx a' H' → ∃ m', m' < m ∧ W (i + 1) m' a' H') ∧ ∀ x H', J.yld i H x H' → g x (wipe σ vs) H' fun σ2 H2 => wipe σ2 vs = wipe σ vs ∧ tt σ2 H2 fun b H3 =>
    if b = true then te σ2 H3 fun y H4 => c.step a y (fun a' => Nx a' H4) (fun u => Q u H4) else Nx a H3)
theorem gx_over {A : Around} {elt tg iter : Expr} {ifs : List Expr} {scope : Scope} {pos : Pos} {it acc : Value} {ce : Env} : A.over (.compLoop (.GeneratorExp elt [⟨tg, iter, ifs, 0⟩] scope pos) 0 it acc ce) [] = A.deeper ce := by
  first
    | rfl
    | (obtain ⟨hd, d, fr, gs, u⟩ := A; simp [Around.over, Around.deeper, marksOver, frameCount, unitsOf, envsOf, guardsOf, pushEnvs, pushGuards, Code.envs, Code.env?, Code.isFrame, Code.guards, Code.isGuard, Code.weight, Code.frames, Code.isCreation, Code.isCaller, Code.cUnits])
theorem gx_over0 {A : Around} {elt tg iter : Expr} {ifs : List Expr} {scope : Scope} {pos : Pos} {it acc : Value} {ce : Env} : A.over (.compStart (.GeneratorExp elt [⟨tg, iter, ifs, 0⟩] scope pos) 0 it acc ce) [] = A.deeper ce := by
  first
    | rfl
    | (obtain ⟨hd, d, fr, gs, u⟩ := A; simp [Around.over, Around.deeper, marksOver, frameCount, unitsOf, envsOf, guardsOf, pushEnvs, pushGuards, Code.envs, Code.env?, Code.isFrame, Code.guards, Code.isGuard, Code.weight, Code.frames, Code.isCreation, Code.isCaller, Code.cUnits])
/-- what stands at a turn -/
structure At (Z : Cx) (os fp : List Addr) (tn : Nat → Heap → Prop) (σ : L2.St) (vs : List Nat) (i : Nat) (H : Hp) (s₀ s : Shared) : Prop where
  inv : Inv Z (pinsAt os s₀.heap) (wipe σ vs) H s
  tn : tn i s.heap
  fpn : ∀ b ∈ fp, H b = none
  ex : ∀ b ∈ os, ∃ o, s₀.heap.get? b = some o
theorem gx_loop {Z : Cx} {os fp : List Addr} {c : Cons α} {Rel : α → Shared → Prop} {Q : VK} {elt tg iter : Expr} {ifs : List Expr} {scope : Scope} {pos : Pos} {it : Addr} {tn : Nat → Heap → Prop} {J : It} {g : TG} {tt : TT} {te : TE} {vs : List Nat} {W : Nat → Nat → α → Hp → Prop} {A : Around}
    (hA : A.deeper Z.env = Z.A) (hpn : Z.pn = []) (hex : Z.ex = fp) (hc : Z.calm = true) (hxe : Z.xe = fun _ _ => False) (hco : Z.env.scope.isCoroutine = false) (hO : OsOk Z os) (T : Turn Z.prog Z.w Z.K tg J fp it tn) (pg : PG Z tg g) (pt : PTs Z ifs tt) (pe : PE Z elt te) (run : Runs1 J g tt te vs σ c Q W) :
    ∀ (m n i : Nat) (a : α) (H : Hp) (s₀ s : Shared), m < n → W i m a H → Rel a s₀ → At Z os fp tn σ vs i H s₀ s →
      Seg (model Z.prog Z.w) A (GEx Z os c Rel Q) (GYx Z os c Rel Q) n s₀ (.compLoop (.GeneratorExp elt [⟨tg, iter, ifs, 0⟩] scope pos) 0 (.ref it) .none Z.env) ((model Z.prog Z.w).den (.compLoop (.GeneratorExp elt [⟨tg, iter, ifs, 0⟩] scope pos) 0 (.ref it) .none Z.env)) [] s := by
  intro m
  induction m using Nat.strongRecOn with
  | ind m ih =>
    intro n i a H s₀ s hmn w hrel at_
    obtain ⟨I, st, nfp, h0⟩ := at_
    have stat : ∀ {pins : List (Addr × Obj)} {σ' : L2.St} {H' : Hp} {s' : Shared}, Inv Z pins σ' H' s' → (∀ p ∈ pins, p.1 ∈ os) → (∀ b ∈ fp, H' b = none) → ∀ b ∈ fp, FpOk Z pins H' b := fun {pins σ' H' s'} I' hp hn b hb => by
      have hb' : b ∈ Z.ex := by rw [hex]; exact hb
      refine ⟨hn b hb, (I'.ok.exf b hb').1, I'.ok.exfs b hb', .inl hb', fun x c e => (I'.ok.exf b hb').2 x c e, fun p hq => ?_⟩
      rw [hpn] at hq
      have := hO p.1 (hp p hq)
      intro z
      rw [z] at this
      exact this.2.2.2 hb'
    have pos_ : ∀ p ∈ pinsAt os s₀.heap, p.1 ∈ os := fun p hp => (of_pinsAt hp).1
    have noE : ∀ {β : Type} {t : Sem β} {Qx : β → Shared → Prop} {E' : Value → Shared → Prop} {s : Shared}, wpAny (model Z.prog Z.w) Z.A t Qx Z.xe s → wpAny (model Z.prog Z.w) Z.A t Qx E' s := fun h => wpAny_mono h (fun _ _ z => z) fun _ _ z => by rw [hxe] at z; exact z.elim
    show Seg _ A _ _ _ s₀ _ ((compTurn (.GeneratorExp elt [⟨tg, iter, ifs, 0⟩] scope pos) 0 (.ref it) .none Z.env).onRaise (leaving Z.env)) [] s
    rw [compTurn_gen, Sem.onRaise_eq_wrap]
    refine seg_bind_wrap ?_
    rw [gx_over, hA]
    refine wpAny_standAt (seg_bind_wrap ?_)
    rw [gx_over, hA]
    rcases run i m a H w with ⟨stop, qq⟩ | ⟨go, Nx, hNx, step⟩
    · refine wpAny_mono (T.done Z rfl rfl rfl hc i _ s _ H (fun _ _ => False) I (stat I pos_ nfp) st stop) (fun r s1 ⟨hr, I1⟩ => ?_) fun _ _ z => z.elim
      subst hr
      exact seg_end (.ok .next) (.inl ⟨.inr rfl, a, H, _, hrel, I1, qq⟩)
    · refine wpAny_mono (T.item Z rfl rfl rfl hc i _ s _ H (fun _ _ => False) I (stat I pos_ nfp) st go) (fun r s1 ⟨u, hr, h1⟩ => ?_) fun _ _ z => z.elim
      subst hr
      refine seg_bind_wrap ?_
      rw [gx_over, hA]
      refine wpAny_mono h1 (fun _ s7 ⟨x, H7, I7, r7, y7, st7, n7⟩ => ?_) fun _ _ z => z.elim
      have I7' := I7.pinned (stat I7 pos_ n7) (T.obj _ _ st7)
      refine seg_bind_wrap ?_
      rw [gx_over, hA]
      refine noE (wpAny_mono (pg.run _ s7 _ H7 x u _ I7' r7 (step x H7 y7)) (fun _ s8 ⟨σ8, H8, I8, hw8, q8⟩ => ?_) fun _ _ z => z)
      refine seg_bind_wrap ?_
      rw [gx_over, hA]
      refine noE (wpAny_mono (pt.run _ s8 σ8 H8 _ I8 q8) (fun b s9 ⟨H9, I9, q9⟩ => ?_) fun _ _ z => z)
      have hl : (wipe σ vs).length = σ8.length := by rw [← hw8, wipe_length]
      have wk : ∀ (j : Nat) v, (wipe σ vs)[j]? = some (some v) → σ8[j]? = some (some v) := fun j v e => by
        rw [← hw8] at e
        exact (wipe_some e).1
      have pin' : ∀ {s' : Shared} {H' : Hp}, Inv Z (pinsAt os s₀.heap ++ pinsAt fp s7.heap) σ8 H' s' → ∀ b ∈ fp, ∀ o, s7.heap.get? b = some o → s'.heap.get? b = some o ∧ H' b = none := fun {s' H'} I' b hb o e =>
        let z := I'.pin (b, o) (List.mem_append_right _ (List.mem_append_right _ (mem_pinsAt hb e)))
        ⟨z.1, z.2.1⟩
      have fpn : ∀ {s' : Shared} {H' : Hp}, Inv Z (pinsAt os s₀.heap ++ pinsAt fp s7.heap) σ8 H' s' → ∀ b ∈ fp, H' b = none := fun {s' H'} I' b hb => by
        obtain ⟨o, e, _⟩ := T.obj _ _ st7 b hb
        exact (pin' I' b hb o e).2
      cases b with
      | false =>
        simp only [Bool.false_eq_true, if_false] at q9 ⊢
        obtain ⟨m', hm, w'⟩ := hNx a H9 q9
        exact seg_again rfl (ih m' hm n (i + 1) a H9 s₀ s9 (by omega) w' hrel ⟨I9.unpinned.weak hl wk, T.keep _ _ _ st7 fun b hb o e => (pin' I9 b hb o e).1, fpn I9, h0⟩)
      | true =>
        simp only [if_true] at q9 ⊢
        have hy : ∀ v, yieldOut Z.env v = yieldValue v := fun v => by simp only [yieldOut, hco, Bool.false_eq_true, if_false]
        simp only [hy]
        rw [Sem.bind_eq_wrap', Sem.bind_eq_wrap', Sem.wrap_wrap, Sem.wrap_wrap]
        refine seg_wrap ?_
        rw [gx_over, hA]
        refine noE (wpAny_mono (pe.run _ s9 σ8 H9 _ I9 q9) (fun z s10 ⟨yv, H10, I10, r10, stp⟩ => ?_) fun _ _ z => z)
        cases n with
        | zero =>
          exact absurd hmn (Nat.not_lt_zero _)
        | succ n =>
          refine seg_at (seg_yield rfl rfl rfl ⟨a, yv, H10, pinsAt fp s7.heap, σ8, fun a' => Nx a' H10, hrel, r10, I10, stp, fun s' a' nx rel' slp => ?_⟩)
          obtain ⟨m', hm, w'⟩ := hNx a' H10 nx
          obtain ⟨I11, _⟩ := inv_woken I10 hpn h0 hO slp
          refine seg_again rfl (ih m' hm n (i + 1) a' H10 s' s' (by omega) w' rel' ⟨I11.weak hl wk, T.keep _ _ _ st7 fun b hb o e => slp.keep b o (fun hbo => ?_) (pin' I10 b hb o e).1, fpn I10, fun b hb => ?_⟩)
          · exact (hO b hbo).2.2.2 (by rw [hex]; exact hb)
          · obtain ⟨o, e, _⟩ := slp.own b hb
            exact ⟨o, e⟩
end
end
section
open GenW
variable {X : Cx} {pins : List (Addr × Obj)} {σ : L2.St} {H : Hp} {s : Shared} {α : Type}
theorem gx_start {Z : Cx} {os fp : List Addr} {c : Cons α} {Rel : α → Shared → Prop} {Q : VK} {elt tg iter : Expr} {ifs : List Expr} {scope : Scope} {pos : Pos} {it : Addr} {tn : Nat → Heap → Prop} {J : It} {g : TG} {tt : TT} {te : TE} {vs : List Nat} {W : Nat → Nat → α → Hp → Prop} {A : Around}
    (hA : A.deeper Z.env = Z.A) (hpn : Z.pn = []) (hex : Z.ex = fp) (hc : Z.calm = true) (hxe : Z.xe = fun _ _ => False) (hco : Z.env.scope.isCoroutine = false) (hO : OsOk Z os) (T : Turn Z.prog Z.w Z.K tg J fp it tn) (pg : PG Z tg g) (pt : PTs Z ifs tt) (pe : PE Z elt te) (run : Runs1 J g tt te vs σ c Q W)
    {m n : Nat} {a : α} {H : Hp} {s₀ s : Shared} (hmn : m < n) (w : W 0 m a H) (hrel : Rel a s₀) (at_ : At Z os fp tn σ vs 0 H s₀ s) :
      Seg (model Z.prog Z.w) A (GEx Z os c Rel Q) (GYx Z os c Rel Q) n s₀ (.compStart (.GeneratorExp elt [⟨tg, iter, ifs, 0⟩] scope pos) 0 (.ref it) .none Z.env) ((model Z.prog Z.w).den (.compStart (.GeneratorExp elt [⟨tg, iter, ifs, 0⟩] scope pos) 0 (.ref it) .none Z.env)) [] s := by
  have loop := gx_loop (iter := iter) (scope := scope) (pos := pos) hA hpn hex hc hxe hco hO T pg pt pe run m n 0 a H s₀ s hmn w hrel at_
  show Seg _ A _ _ _ s₀ _ ((compStart (.GeneratorExp elt [⟨tg, iter, ifs, 0⟩] scope pos) 0 (.ref it) .none Z.env).onRaise (leaving Z.env)) [] s
  unfold compStart
  rw [Sem.onRaise_eq_wrap]
  show Seg _ A _ _ _ s₀ _ ((ask >>= _).wrap _ _ _ _) [] s
  refine seg_bind_wrap (wpAny_askSetting ?_)
  split
  · exact seg_again rfl loop
  · refine seg_bind_wrap (wpAny_rule ?_)
    show Seg _ A _ _ _ s₀ _ ((standAt iter.pos >>= _).wrap _ _ _ _) [] s
    exact seg_bind_wrap (wpAny_standAt (seg_bind_wrap (T.self _ 0 s _ _ at_.tn (seg_again rfl loop))))
/-! the consumers -/
def cAll : Cons Unit := ⟨fun _ y k f => ∃ b, y = .bl b ∧ (if b = true then k () else f (.bl false)), fun _ f => f (.bl true)⟩
def cAny : Cons Unit := ⟨fun _ y k f => ∃ b, y = .bl b ∧ (if b = true then f (.bl true) else k ()), fun _ f => f (.bl false)⟩
def cSum : Cons Int := ⟨fun a y k _ => ∃ j, y = .int j ∧ k (a + j), fun a f => f (.int a)⟩
theorem gen_own {Z : Cx} {os : List Addr} {ip : List (Addr × Obj)} {τ : L2.St} {H : Hp} {s₀ s : Shared} {ga : Addr} {g : Nat} (hm : ga ∈ os) (hg : s₀.heap.IsGen ga g) (I : Inv Z (pinsAt os s₀.heap ++ ip) τ H s) : s.heap.IsGen ga g ∧ ∃ o, s.heap.get? ga = some o ∧ ∀ v, o.data ≠ .cell v := by
  obtain ⟨o, nm, qn, ho, h1, h2, h3⟩ := hg
  obtain ⟨e, _, _, _, hc⟩ := I.pin (ga, o) (List.mem_append_right _ (List.mem_append_left _ (mem_pinsAt hm ho)))
  exact ⟨⟨o, nm, qn, e, h1, h2, h3⟩, o, e, hc⟩
section
variable {Z : Cx} {ga : Addr} {g : Nat} {Q : VK} {A : Around} {Rf : Result → Shared → Prop}
theorem bool_drain {c : Cons Unit} {id : String} (bk bd : Bool)
    (hstep : ∀ y k f, c.step () y k f → ∃ b, y = .bl b ∧ (b = bk → k ()) ∧ (b = (!bk) → f (.bl bd))) (hfin : ∀ f, c.fin () f → f (.bl (!bd)))
    (hh : A.handled = none) (hd : A.depth < recursionLimit) (hR : ∀ b H τ s', Inv Z [] τ H s' → Q (.bl b) H → Rf (.ok (.ret (.bool b))) s')
    (body : ∀ (s : Shared), wpAny (model Z.prog Z.w) A.in1 (pyNext (.ref ga)) (fun r s' => match r with
        | none => Rf (.ok (.ret (.bool (!bd)))) s'
        | some v => ∃ b, v = .bool b ∧ (b = bk → codeAny (model Z.prog Z.w) A (.builtin id ⟨[.ref ga], []⟩) Rf s') ∧ (b = (!bk) → Rf (.ok (.ret (.bool bd))) s')) (fun _ _ => False) s → codeAny (model Z.prog Z.w) A (.builtin id ⟨[.ref ga], []⟩) Rf s) :
    ∀ (n : Nat) (s : Shared), s.heap.IsGen ga g → s.heap.NoLimit → (∃ gs, s.gens[g]? = some gs ∧ gs.Goes (model Z.prog Z.w) A.in1.in1 (GEx Z [ga] c (fun _ _ => True) Q) (GYx Z [ga] c (fun _ _ => True) Q) n (.send .none) (s.setGen g .running)) →
      codeAny (model Z.prog Z.w) A (.builtin id ⟨[.ref ga], []⟩) Rf s := by
  intro n
  induction n with
  | zero =>
    rintro s hg hl ⟨gs, hgs, hgo⟩
    refine body s (next_genG (A := A.in1) (F := fun n s₀ s => ∃ (a : Unit) (H : Hp) (τ : L2.St), True ∧ Inv Z (pinsAt [ga] s₀.heap) τ H s ∧ c.fin a (fun u => Q u H)) (Er := fun _ _ => False) hh hl hd hg hgs hgo (fun v s₁ gs' bare hv => ?_) (fun s₁ hp h' hk => ?_) fun e s₁ he => he.elim)
    · obtain ⟨_, y, H, ip, τ, Nx, _, rv, I, st, kap⟩ := hv
      obtain ⟨b, rfl, h1, h2⟩ := hstep y _ _ st
      have ev : v = .bool b := rv
      refine ⟨b, ev, fun e => ?_, fun e => hR bd H τ _ (inv_regen (s := s₁) (I.pins_of fun p hp => absurd hp (by simp)) rfl rfl (allBare_setGen I.bare bare)) (h2 e)⟩
      exfalso
      obtain ⟨_, o, ho, hc⟩ := gen_own (os := [ga]) (s₀ := s.setGen g .running) List.mem_cons_self hg I
      refine kap s₁ () (h1 e) True.intro ⟨rfl, I.bare, fun b o _ e => e, fun b hb => ?_⟩
      rw [List.mem_singleton.mp hb]
      exact ⟨o, ho, hc⟩
    · obtain ⟨_, H, τ, _, I, hf⟩ := hp
      refine hR (!bd) H τ _ (inv_regen (s := { s₁ with heap := h', toks := s₁.toks }) (L2.Inv.kept (I.pins_of fun p hp => absurd hp (by simp)) hk) rfl rfl (allBare_setGen I.bare rfl)) (hfin _ hf)
  | succ n ih =>
    rintro s hg hl ⟨gs, hgs, hgo⟩
    have hgl : g < s.gens.size := (Array.getElem?_eq_some_iff.mp hgs).1
    refine body s (wpAny_gsz (n := g + 1) hgl (next_genG (A := A.in1) (F := fun n s₀ s => ∃ (a : Unit) (H : Hp) (τ : L2.St), True ∧ Inv Z (pinsAt [ga] s₀.heap) τ H s ∧ c.fin a (fun u => Q u H)) (Er := fun _ _ => False) hh hl hd hg hgs hgo (fun v s₁ gs' bare hv => ?_) (fun s₁ hp h' hk => ?_) fun e s₁ he => he.elim))
    · intro hsz
      obtain ⟨_, y, H, ip, τ, Nx, _, rv, I, st, kap⟩ := hv
      obtain ⟨b, rfl, h1, h2⟩ := hstep y _ _ st
      have ev : v = .bool b := rv
      refine ⟨b, ev, fun e => ?_, fun e => hR bd H τ _ (inv_regen (s := s₁) (I.pins_of fun p hp => absurd hp (by simp)) rfl rfl (allBare_setGen I.bare bare)) (h2 e)⟩
      obtain ⟨hg1, o, ho, hc⟩ := gen_own (os := [ga]) (s₀ := s.setGen g .running) List.mem_cons_self hg I
      have hsz1 : g < s₁.gens.size := by
        have q : (s₁.setGen g gs').gens.size = s₁.gens.size := setGen_size _ _ _
        have hsz' : g + 1 ≤ (s₁.setGen g gs').gens.size := hsz
        omega
      refine ih (s₁.setGen g gs') hg1 I.nolimit ⟨gs', setGen_at hsz1, ?_⟩
      refine kap _ () (h1 e) True.intro ⟨rfl, allBare_setGen (s := s₁.setGen g gs') (allBare_setGen I.bare bare) rfl, fun b o _ e => e, fun b hb => ?_⟩
      rw [List.mem_singleton.mp hb]
      exact ⟨o, ho, hc⟩
    · intro _
      obtain ⟨_, H, τ, _, I, hf⟩ := hp
      refine hR (!bd) H τ _ (inv_regen (s := { s₁ with heap := h', toks := s₁.toks }) (L2.Inv.kept (I.pins_of fun p hp => absurd hp (by simp)) hk) rfl rfl (allBare_setGen I.bare rfl)) (hfin _ hf)
theorem all_body (s : Shared) (h : wpAny (model Z.prog Z.w) A.in1 (pyNext (.ref ga)) (fun r s' => match r with
        | none => Rf (.ok (.ret (.bool true))) s'
        | some v => ∃ b, v = .bool b ∧ (b = true → codeAny (model Z.prog Z.w) A (.builtin "all.loop" ⟨[.ref ga], []⟩) Rf s') ∧ (b = false → Rf (.ok (.ret (.bool false))) s')) (fun _ _ => False) s) : codeAny (model Z.prog Z.w) A (.builtin "all.loop" ⟨[.ref ga], []⟩) Rf s := by
  refine codeAny_builtin F.entry_all_loop ?_
  rw [Around.under_plainId F.plain_all_loop _]
  show wpAny _ A.in1 (pyNext (.ref ga) >>= _) _ _ s
  refine wpAny_bind (wpAny_mono h (fun r s' hr => ?_) fun _ _ z => z.elim)
  cases r with
  | none => exact wpAny_bind (wpAny_rule (wpAny_pure hr))
  | some v =>
    obtain ⟨b, rfl, h1, h2⟩ := hr
    refine wpAny_bind (wpAny_holding (wpAny_truthy_bool ?_))
    refine wpAny_bind (wpAny_letGo ?_)
    cases b with
    | true => exact wpAny_pure ⟨plainId_quiet F.plain_all_loop _, h1 rfl⟩
    | false => exact wpAny_bind (wpAny_rule (wpAny_pure (h2 rfl)))
theorem any_body (s : Shared) (h : wpAny (model Z.prog Z.w) A.in1 (pyNext (.ref ga)) (fun r s' => match r with
        | none => Rf (.ok (.ret (.bool false))) s'
        | some v => ∃ b, v = .bool b ∧ (b = false → codeAny (model Z.prog Z.w) A (.builtin "any.loop" ⟨[.ref ga], []⟩) Rf s') ∧ (b = true → Rf (.ok (.ret (.bool true))) s')) (fun _ _ => False) s) : codeAny (model Z.prog Z.w) A (.builtin "any.loop" ⟨[.ref ga], []⟩) Rf s := by
  refine codeAny_builtin F.entry_any_loop ?_
  rw [Around.under_plainId F.plain_any_loop _]
  show wpAny _ A.in1 (pyNext (.ref ga) >>= _) _ _ s
  refine wpAny_bind (wpAny_mono h (fun r s' hr => ?_) fun _ _ z => z.elim)
  cases r with
  | none => exact wpAny_bind (wpAny_rule (wpAny_pure hr))
  | some v =>
    obtain ⟨b, rfl, h1, h2⟩ := hr
    refine wpAny_bind (wpAny_holding (wpAny_truthy_bool ?_))
    refine wpAny_bind (wpAny_letGo ?_)
    cases b with
    | true => exact wpAny_bind (wpAny_rule (wpAny_pure (h2 rfl)))
    | false => exact wpAny_pure ⟨plainId_quiet F.plain_any_loop _, h1 rfl⟩
/-- the sum's own list -/
abbrev sumO (z : Int) (t : Tok) (c : Nat) : Obj := { cls := .type "list", dict := none, data := .seq #[.int z t] c, slots := #[] }
def SumR (S : Addr) (z : Int) (s : Shared) : Prop := ∃ (t : Tok) (c : Nat), s.heap.get? S = some (sumO z t c)
theorem sum_drain {S : Addr} (hSg : S ≠ ga) (hh : A.handled = none) (hd : A.depth < recursionLimit) (hR : ∀ z t H τ s', Inv Z [] τ H s' → Q (.int z) H → Rf (.ok (.ret (.int z t))) s') :
    ∀ (n : Nat) (s : Shared) (st : Int), (st = 0 ∨ st = 2) → s.heap.IsGen ga g → s.heap.NoLimit → (∃ z, SumR S z s) → (∃ gs, s.gens[g]? = some gs ∧ gs.Goes (model Z.prog Z.w) A.in1.in1 (GEx Z [ga, S] cSum (SumR S) Q) (GYx Z [ga, S] cSum (SumR S) Q) n (.send .none) (s.setGen g .running)) →
      codeAny (model Z.prog Z.w) A (.builtin "sum.loop" ⟨[.ref ga, .ref S, rawInt st, rawInt 0], []⟩) Rf s := by
  -- what is told by one step
  have core : ∀ (n : Nat) (s : Shared) (st : Int), (st = 0 ∨ st = 2) → s.heap.IsGen ga g → s.heap.NoLimit → (∃ z, SumR S z s) →
      (∃ gs, s.gens[g]? = some gs ∧ gs.Goes (model Z.prog Z.w) A.in1.in1 (GEx Z [ga, S] cSum (SumR S) Q) (GYx Z [ga, S] cSum (SumR S) Q) n (.send .none) (s.setGen g .running)) →
      (∀ (m : Nat) (s' : Shared) (st' : Int), m + 1 = n → (st' = 0 ∨ st' = 2) → s'.heap.IsGen ga g → s'.heap.NoLimit → (∃ z, SumR S z s') → (∃ gs, s'.gens[g]? = some gs ∧ gs.Goes (model Z.prog Z.w) A.in1.in1 (GEx Z [ga, S] cSum (SumR S) Q) (GYx Z [ga, S] cSum (SumR S) Q) m (.send .none) (s'.setGen g .running)) →
        codeAny (model Z.prog Z.w) A (.builtin "sum.loop" ⟨[.ref ga, .ref S, rawInt st', rawInt 0], []⟩) Rf s') →
      codeAny (model Z.prog Z.w) A (.builtin "sum.loop" ⟨[.ref ga, .ref S, rawInt st, rawInt 0], []⟩) Rf s := by
    rintro n s st hst2 hg hl ⟨z, tA, cS, hS⟩ ⟨gs, hgs, hgo⟩ ih
    have hgl : g < s.gens.size := (Array.getElem?_eq_some_iff.mp hgs).1
    refine codeAny_builtin F.entry_sum_loop ?_
    rw [Around.under_plainId F.plain_sum_loop _]
    show wpAny _ A.in1 (seqItems? (.ref S) >>= _) _ _ s
    refine wpAny_bind (wpAny_seqItems hS rfl ?_)
    show wpAny _ A.in1 (tryCatch (pyNext (.ref ga)) _ >>= _) _ _ s
    refine wpAny_bind (wpAny_tryCatch (wpAny_gsz (n := g + 1) hgl (next_genG (A := A.in1) (F := fun n s₀ s => ∃ (a : Int) (H : Hp) (τ : L2.St), SumR S a s₀ ∧ Inv Z (pinsAt [ga, S] s₀.heap) τ H s ∧ cSum.fin a (fun u => Q u H)) (Er := fun _ _ => False) hh hl hd hg hgs hgo (fun v s₁ gs' bare hv => ?_) (fun s₁ hp h' hk => ?_) fun e s₁ he => he.elim)))
    · intro hsz
      obtain ⟨a, y, H, ip, τ, Nx, ⟨ta, ca, ea⟩, rv, I, ⟨j, rfl, nx⟩, kap⟩ := hv
      have ea : s.heap.get? S = some (sumO a ta ca) := ea
      rw [hS] at ea
      have eaz : z = a ∧ tA = ta := by
        have := congrArg (fun o : Option Obj => o.map (·.data)) ea
        simp [sumO] at this
        exact this.1
      obtain ⟨rfl, rfl⟩ := eaz
      obtain ⟨t, rfl⟩ : ∃ t, v = .int j t := rv
      obtain ⟨hg1, o, ho, hc⟩ := gen_own (os := [ga, S]) (s₀ := s.setGen g .running) List.mem_cons_self hg I
      have hS' : s₁.heap.get? S = some (sumO z tA cS) := (I.pin (S, sumO z tA cS) (List.mem_append_right _ (List.mem_append_left _ (mem_pinsAt (List.mem_cons_of_mem _ List.mem_cons_self) hS)))).1
      have hsz1 : g < s₁.gens.size := by
        have q : (s₁.setGen g gs').gens.size = s₁.gens.size := setGen_size _ _ _
        have hsz' : g + 1 ≤ (s₁.setGen g gs').gens.size := hsz
        omega
      -- the next turn: the list at S holds the new sum
      have nxt : ∀ (h3 : Heap) (t3 : Tok) (c3 tk : Nat) (st' : Int), (st' = 0 ∨ st' = 2) → (∀ b ob, b ≠ S → s₁.heap.get? b = some ob → h3.get? b = some ob) → h3.get? S = some (sumO (z + j) t3 c3) →
          codeAny (model Z.prog Z.w) A (.builtin "sum.loop" ⟨[.ref ga, .ref S, rawInt st', rawInt 0], []⟩) Rf { s₁.setGen g gs' with heap := h3, toks := tk } := fun h3 t3 c3 tk st' hst' hk3 hS3 => by
        have slp : ∀ s', s'.os = s₁.os → AllBare s'.gens → s'.heap = h3 → Slp [ga, S] s₁ s' := fun s' e1 e2 e3 => by
          refine ⟨e1, e2, fun b ob hb e => ?_, fun b hb => ?_⟩
          · rw [e3]
            exact hk3 b ob (fun z => hb (by rw [z]; exact List.mem_cons_of_mem _ List.mem_cons_self)) e
          · rw [e3]
            rcases List.mem_cons.mp hb with hb | hb
            · rw [hb]
              exact ⟨o, hk3 ga o hSg.symm ho, hc⟩
            · rw [List.mem_singleton.mp hb]
              exact ⟨_, hS3, fun v q => by cases q⟩
        cases n with
        | zero =>
          exfalso
          exact kap { s₁ with heap := h3 } (z + j) nx ⟨t3, c3, hS3⟩ (slp _ rfl I.bare rfl)
        | succ n =>
          have hcs : S ≠ cStatics := fun q => by
            obtain ⟨_, hns, _⟩ := I.nolimit
            obtain ⟨o', es, ep, ho', hd', _⟩ := hns
            rw [← q, hS'] at ho'
            cases ho'
            cases hd'
          refine ih n _ st' rfl hst' ?_ ?_ ⟨z + j, t3, c3, hS3⟩ ⟨gs', setGen_at (s := { s₁ with heap := h3, toks := tk }) hsz1, ?_⟩
          · obtain ⟨o1, nm, qn, e1, r⟩ := hg1
            exact ⟨o1, nm, qn, hk3 _ _ hSg.symm e1, r⟩
          · obtain ⟨mc, hns, hnn⟩ := I.nolimit
            exact ⟨mc, hns.at' fun o e => hk3 _ o hcs.symm e, hnn⟩
          · exact kap _ (z + j) nx ⟨t3, c3, hS3⟩ (slp _ rfl (allBare_setGen (s := { s₁.setGen g gs' with heap := h3, toks := tk }) (allBare_setGen I.bare bare) rfl) rfl)
      have kp1 : ∀ (h : Heap) (f : Obj → Obj), (∀ b ob, b ≠ S → s₁.heap.get? b = some ob → h.get? b = some ob) → ∀ b ob, b ≠ S → s₁.heap.get? b = some ob → (h.update S f).get? b = some ob := fun h f q b ob hb e =>
        (Heap.get?_update_other _ _ (Ne.symm hb)).trans (q b ob hb e)
      rcases hst2 with rfl | rfl
      · show wpAny _ A.in1 (if (_ : Bool) = true then (mkInt (z + j) >>= _) else _) _ _ _
        split
        · refine wpAny_bind (wpAny_mkInt ?_)
          show wpAny _ A.in1 (updateSeq S (fun _ => #[.int (z + j) s₁.toks]) >>= _) _ _ _
          refine wpAny_bind ?_
          refine wpAny_updateSeq (o := sumO z tA cS) hS' rfl (wpAny_pure ⟨plainId_quiet F.plain_sum_loop _, ?_⟩)
          exact nxt _ _ _ _ 0 (.inl rfl) (kp1 _ _ fun b ob _ e => e) (Heap.get?_update_self _ hS' rfl)
        · refine wpAny_bind (wpAny_rule ?_)
          refine wpAny_bind (wpAny_attempt (wpAny_holding (wpAny_add_int ?_)))
          show wpAny _ A.in1 (updateSeq S (fun _ => #[.int (z + j) s₁.toks]) >>= _) _ _ _
          refine wpAny_bind (wpAny_updateSeq (o := sumO z tA cS) hS' rfl ?_)
          have hS2 := Heap.get?_update_self (Obj.mapSeq fun _ => #[Value.int (z + j) s₁.toks]) hS' rfl
          refine wpAny_bind (wpAny_letGo ?_)
          refine wpAny_bind (wpAny_updateSeq hS2 rfl (wpAny_pure ⟨plainId_quiet F.plain_sum_loop _, ?_⟩))
          exact nxt _ _ _ _ 2 (.inr rfl) (kp1 _ _ (kp1 _ _ fun b ob _ e => e)) (Heap.get?_update_self _ hS2 rfl)
      · show wpAny _ A.in1 ((holding [Value.int j t] (binaryOp .Add (.int z tA) (.int j t))).attempt >>= _) _ _ _
        refine wpAny_bind (wpAny_attempt (wpAny_holding (wpAny_add_int ?_)))
        show wpAny _ A.in1 (updateSeq S (fun _ => #[.int (z + j) s₁.toks]) >>= _) _ _ _
        refine wpAny_bind (wpAny_updateSeq (o := sumO z tA cS) hS' rfl ?_)
        have hS2 := Heap.get?_update_self (Obj.mapSeq fun _ => #[Value.int (z + j) s₁.toks]) hS' rfl
        refine wpAny_bind (wpAny_letGo ?_)
        refine wpAny_bind (wpAny_updateSeq hS2 rfl (wpAny_pure ⟨plainId_quiet F.plain_sum_loop _, ?_⟩))
        exact nxt _ _ _ _ 2 (.inr rfl) (kp1 _ _ (kp1 _ _ fun b ob _ e => e)) (Heap.get?_update_self _ hS2 rfl)
    · intro _
      obtain ⟨a, H, τ, ⟨ta, ca, ea⟩, I, hf⟩ := hp
      have ea : s.heap.get? S = some (sumO a ta ca) := ea
      rw [hS] at ea
      have eaz : z = a ∧ tA = ta := by
        have := congrArg (fun o : Option Obj => o.map (·.data)) ea
        simp [sumO] at this
        exact this.1
      obtain ⟨rfl, rfl⟩ := eaz
      exact wpAny_pure (hR z tA H τ _ (inv_regen (s := { s₁ with heap := h', toks := s₁.toks }) (L2.Inv.kept (I.pins_of fun p hp => absurd hp (by simp)) hk) rfl rfl (allBare_setGen I.bare rfl)) hf)
  intro n
  induction n with
  | zero => exact fun s st h1 h2 h3 h4 h5 => core 0 s st h1 h2 h3 h4 h5 fun m _ _ e => by omega
  | succ n ih =>
    refine fun s st h1 h2 h3 h4 h5 => core (n + 1) s st h1 h2 h3 h4 h5 fun m s' st' e a1 a2 a3 a4 a5 => ?_
    have e : m = n := by omega
    subst e
    exact ih s' st' a1 a2 a3 a4 a5
end
end
section
open GenW
variable {X : Cx} {pins : List (Addr × Obj)} {σ : L2.St} {H : Hp} {s : Shared} {α : Type}
/-- a generator expression is walked: what is asked -/
def tGx (P : Addr) (c : Cons α) (a0 : α) (wi : TI) (g : TG) (tt : TT) (te : TE) (vs : List Nat) : TE := fun σ H Q => wi σ H fun J H1 => GxR.TabG H1 P ∧ ∀ H2, GxR.Tabbed P H1 H2 → ∃ W : Nat → Nat → α → Hp → Prop, (∃ m, W 0 m a0 H2) ∧ Runs1 J g tt te vs σ c Q W
/-- the generator at ga stands ready -/
def GxReady (X : Cx) (pins : List (Addr × Obj)) (σ : L2.St) (c : Cons α) (a0 : α) (Q : VK) (ga : Addr) (s5 : Shared) : Prop :=
  ∃ (Z : Cx) (g n : Nat) (c0 : Code), s5.heap.IsGen ga g ∧ s5.gens[g]? = some (.fresh c0) ∧ s5.heap.NoLimit ∧ AllBare s5.gens ∧ Z.prog = X.prog ∧ Z.w = X.w ∧ (∀ τ H s', Inv Z [] τ H s' → Inv X pins σ H s') ∧ OsOk Z [ga] ∧ (∀ S, s5.heap.objs.size ≤ S → OsOk Z [ga, S] ∧ S ≠ ga) ∧
    ∀ (os : List Addr) (Rel : α → Shared → Prop) (s2 : Shared), OsOk Z os → (∀ b ∈ os, b = ga ∨ s5.heap.objs.size ≤ b) → (∀ b o, s5.heap.get? b = some o → s2.heap.get? b = some o) → s2.os = s5.os → AllBare s2.gens → (∀ b ∈ os, ∃ o, s2.heap.get? b = some o ∧ ∀ v, o.data ≠ .cell v) → Rel a0 s2 →
      Seg (model Z.prog Z.w) X.A.in1.in1 (GEx Z os c Rel Q) (GYx Z os c Rel Q) n s2 c0 ((model Z.prog Z.w).den c0) [] s2
theorem gx_make {c P : Addr} {elt tg iter : Expr} {ifs : List Expr} {scope : Scope} {own : List (Str × Nat)} {gpos : Pos} {k : Nat} {wi : TI} {g : TG} {tt : TT} {te : TE} {cs : Cons α} {a0 : α} {Q : VK} {Q' : Value → Shared → Prop}
    (hr : Room k X.A) (hcalm : X.calm = true) (hN : X.N.Nodup) (TB : GxR.TabB X.base X.mg c P) (hcode : X.env.code = .ref c) (ok : GBlk X.N X.env.scope scope own) (hi : PI X tg iter wi) (hs : ∀ v, genFold iter X.env v = pure v)
    (hg : ∀ (s : Shared) (H : Hp) (C : Addr) (code : Value) (fp : List Addr), PG (gcx X s H (genEnv scope (cloFrom X.env.cells scope.names []) C code builtinsNs X.env) fp) tg g)
    (ht : ∀ (s : Shared) (H : Hp) (C : Addr) (code : Value) (fp : List Addr), PTs (gcx X s H (genEnv scope (cloFrom X.env.cells scope.names []) C code builtinsNs X.env) fp) ifs tt)
    (he : ∀ (s : Shared) (H : Hp) (C : Addr) (code : Value) (fp : List Addr), PE (gcx X s H (genEnv scope (cloFrom X.env.cells scope.names []) C code builtinsNs X.env) fp) elt te)
    (I : Inv X pins σ H s) (h : tGx P cs a0 wi g tt te (own.map (·.2)) σ H Q) (fin : ∀ ga s5, GxReady X pins σ cs a0 Q ga s5 → Q' (.ref ga) s5) :
    wpAny (model X.prog X.w) X.A (eval (.GeneratorExp elt [⟨tg, iter, ifs, 0⟩] scope gpos) X.env) Q' X.xe s := by
  have hfree : ∀ y ∈ scope.names, y.2 = .free → ∃ c, X.env.cells.lookup y.1 = some c := fun y hy e =>
    (ok.free y hy e).elim (fun k => I.ok.has _ (.inl k)) fun k => I.ok.has _ (.inr k)
  refine wpAny_GeneratorExp_make ok.co (closure_ok hfree) ok.nocell ok.dot ok.kind hr.depth ?_ hs
  refine thn (hi.run pins s σ H _ I h) fun xv t1 hx => thn hx fun itv t2 h2 => ?_
  obtain ⟨it, fp, tn, J, H1, rfl, I1, T, st1, f1, tab, q⟩ := h2
  obtain ⟨ps, hP, tr⟩ := id tab
  have gP : t2.heap.get? P = some { cls := .none, data := .fields ps } := I1.hok P _ hP
  have cd : PySem.W.CodeHd t2.heap c P := TB.code.keeps fun b u e => I1.bk b u e
  refine ⟨I1.nolimit, ?_⟩
  have fpP : ∀ b ∈ fp, b ≠ P := fun b hb z => by
    have := (f1 b hb).1
    rw [z, hP] at this
    cases this
  have rest : ∀ (code : Value) (h3 : Heap) (tk : Nat) (qs : Array Value), Heap.ExtBut P t2.heap h3 → t2.heap.objs.size ≤ h3.objs.size → h3.get? P = some { cls := .none, data := .fields qs } → (∃ more, qs = ps ++ more) → TriplesOk qs.toList →
      wpAny (model X.prog X.w) X.A (builtinsFor X.env.globals X.env.builtins) (fun bi s₄ => ∀ h', h'.Ns s₄.heap.objs.size (fun y => if y = ".0" then some (.ref it) else none) → Heap.SameBut s₄.heap.objs.size (s₄.heap.push { cls := .type "frame", data := .dict #[] }) h' →
          Q' (.ref h'.objs.size) { s₄ with gens := s₄.gens.push (.fresh (.compStart (.GeneratorExp elt [⟨tg, iter, ifs, 0⟩] scope gpos) 0 (.ref it) .none (genEnv scope (cloFrom X.env.cells scope.names []) s₄.heap.objs.size code bi X.env))), toks := s₄.toks + 1 + 1 + 1, heap := h'.push { cls := .type "generator", data := .fields #[.int s₄.gens.size 0, .str "<genexpr>" (s₄.toks + 1), .str (X.env.qual ++ "<genexpr>") (s₄.toks + 1 + 1)] } }) X.xe { t2 with heap := h3, toks := tk } := by
    intro code h3 tk qs hx hsz gP3 ⟨more, em⟩ tr3
    obtain ⟨bm, ob, b1, b2, b3, b4, b5, b6, b7, b8⟩ := TB.bm
    have kp3 : ∀ b u, b ≠ P → t2.heap.get? b = some u → h3.get? b = some u := fun b u hb e => hx b u hb e
    refine wpAny_builtinsFor (m := X.mg) (by rw [I1.ok.glob]; exact (I1.mod.glob.keeps I1.bk).extBut hx TB.gP) b1 b2 (kp3 _ _ b4 (I1.bk _ _ b5)) b6 b7 b8 ?_
    subst em
    have I3 : Inv X pins σ (upd H1 P (.tbl (ps ++ more))) { t2 with heap := h3, gens := t2.gens, drawn := t2.drawn, toks := tk } := GxR.inv_tab I1 hP kp3 gP3 I1.bare
    obtain ⟨W, ⟨m0, w0⟩, run⟩ := q (upd H1 P (.tbl (ps ++ more))) ⟨⟨_, upd_same, tr3⟩, fun b hb => upd_ne hb⟩
    have lt1 : ∀ b ∈ fp, b < t2.heap.objs.size := fun b hb => by
      obtain ⟨o, e, _⟩ := T.obj _ _ st1 b hb
      exact Heap.lt_size e
    have st3 : tn 0 h3 := T.keep _ _ _ st1 fun b hb o e => kp3 b o (fpP b hb) e
    have f3 : ∀ b ∈ fp, FpOk X pins (upd H1 P (.tbl (ps ++ more))) b ∧ b < h3.objs.size := fun b hb => by
      refine ⟨⟨?_, (f1 b hb).2⟩, Nat.lt_of_lt_of_le (lt1 b hb) hsz⟩
      rw [upd_ne (fpP b hb)]
      exact (f1 b hb).1
    intro h' hn' sb'
    have sz' : h'.objs.size = h3.objs.size + 1 := by
      rw [sb'.1, Heap.size_push]
    have kp' : ∀ b o, h3.get? b = some o → h'.get? b = some o := fun b o e => sb'.extBut b o (Nat.ne_of_lt (Heap.lt_size e)) (Heap.get?_push_of_some _ e)
    generalize hgo : ({ cls := .type "generator", data := .fields #[.int t2.gens.size 0, .str "<genexpr>" (tk + 1), .str (X.env.qual ++ "<genexpr>") (tk + 1 + 1)] } : Obj) = go
    have kp5 : ∀ b o, h3.get? b = some o → (h'.push go).get? b = some o := fun b o e => Heap.get?_push_of_some _ (kp' b o e)
    generalize hH3 : upd H1 P (.tbl (ps ++ more)) = H3 at I3 w0 f3
    have at5 : (h'.push go).get? h'.objs.size = some go := by
      rw [← hgo]
      exact Heap.get?_push_size _ rfl
    have bare5 : AllBare (t2.gens.push (.fresh (.compStart (.GeneratorExp elt [⟨tg, iter, ifs, 0⟩] scope gpos) 0 (.ref it) .none (genEnv scope (cloFrom X.env.cells scope.names []) h3.objs.size code builtinsNs X.env)))) := AllBare.push I1.bare rfl
    have pg := hg { t2 with heap := h3, gens := t2.gens, drawn := t2.drawn, toks := tk } H3 h3.objs.size code fp
    have pt := ht { t2 with heap := h3, gens := t2.gens, drawn := t2.drawn, toks := tk } H3 h3.objs.size code fp
    have pe := he { t2 with heap := h3, gens := t2.gens, drawn := t2.drawn, toks := tk } H3 h3.objs.size code fp
    have start : ∀ (h2 : Heap) (g2 : Array GenState) (tk2 : Nat), h2.Ns h3.objs.size (fun y => if y = ".0" then some (.ref it) else none) → (∀ b o, h3.get? b = some o → h2.get? b = some o) → AllBare g2 → _ := fun h2 g2 tk2 a1 a2 a3 =>
      gblk_start (s := { t2 with heap := h3, gens := t2.gens, drawn := t2.drawn, toks := tk }) (code := code) (h' := h2) (g' := g2) (tk := tk2) I3 ok hN f3 a1 a2 a3
    have hco' : (genEnv scope (cloFrom X.env.cells scope.names []) h3.objs.size code builtinsNs X.env).scope.isCoroutine = false := ok.co
    have hL : (genEnv scope (cloFrom X.env.cells scope.names []) h3.objs.size code builtinsNs X.env).locals = h3.objs.size := rfl
    have oso : ∀ b, h3.objs.size < b → h3.objs.size ≤ b ∧ b ≠ h3.objs.size ∧ (∀ x c, (cloFrom X.env.cells scope.names []).lookup x = some c → c ≠ b) ∧ b ∉ fp := fun b hb => by
      refine ⟨Nat.le_of_lt hb, Nat.ne_of_gt hb, fun x c e z => ?_, fun hm => ?_⟩
      · rcases cloFrom_mem (PySem.mem_of_lookup e) with hm | ⟨h1, h2⟩
        · cases hm
        · obtain ⟨c', hc'⟩ := hfree _ h1 rfl
          rw [hc'] at h2
          have h2 : c = c' := h2
          obtain ⟨w, zz⟩ := I3.cell _ _ hc'
          have := zz.lt
          have : c' < h3.objs.size := this
          rw [← h2, z] at this
          exact absurd (Nat.lt_trans this hb) (Nat.lt_irrefl _)
      · exact absurd (Nat.lt_trans (f3 b hm).2 hb) (Nat.lt_irrefl _)
    refine fin h'.objs.size _ ⟨gcx X { t2 with heap := h3, gens := t2.gens, drawn := t2.drawn, toks := tk } H3 (genEnv scope (cloFrom X.env.cells scope.names []) h3.objs.size code builtinsNs X.env) fp, t2.gens.size, m0 + 1, _, ⟨go, _, _, at5, by rw [← hgo], by rw [← hgo], by rw [← hgo]⟩, Array.getElem?_push_size .., I3.nolimit.keeps kp5, bare5, rfl, rfl, fun τ H' s' I' => ?_, fun b hb => ?_, fun S hS => ⟨fun b hb => ?_, ?_⟩, ?_⟩
    · exact I3.call' (ch := fp) I'.os I'.base I'.hok I'.bare fun b hb => ⟨(f3 b hb).1.2.2.2.1, (f3 b hb).1.2.1, (f3 b hb).1.2.2.2.2.1, (f3 b hb).1.2.2.2.2.2⟩
    · rw [List.mem_singleton.mp hb]
      exact oso _ (by rw [sz']; exact Nat.lt_succ_self _)
    · have hS : (h'.push go).objs.size ≤ S := hS
      rw [Heap.size_push] at hS
      rcases List.mem_cons.mp hb with e | e
      · rw [e]
        exact oso _ (by rw [sz']; exact Nat.lt_succ_self _)
      · rw [List.mem_singleton.mp e]
        exact oso _ (by omega)
    · have hS : (h'.push go).objs.size ≤ S := hS
      rw [Heap.size_push] at hS
      exact Nat.ne_of_gt hS
    · intro os Rel s2 hO hos hk2 ho2 hb2 hex2 rel
      have hk3 : ∀ b o, h3.get? b = some o → s2.heap.get? b = some o := fun b o e => hk2 b o (kp5 b o e)
      have hn2 : s2.heap.Ns h3.objs.size (fun y => if y = ".0" then some (.ref it) else none) := Heap.Ns.keeps hn' fun b o e => hk2 b o (Heap.get?_push_of_some _ e)
      have J0 := start s2.heap s2.gens s2.toks hn2 hk3 hb2
      have J2 := inv_regen (s' := s2) J0 (ho2.trans rfl) rfl hb2
      have hos3 : ∀ b ∈ os, h3.objs.size < b := fun b hb => by
        rcases hos b hb with e | e
        · rw [e, sz']
          exact Nat.lt_succ_self _
        · have e : (h'.push go).objs.size ≤ b := e
          rw [Heap.size_push] at e
          omega
      have J3 := J2.pins_of (pins' := pinsAt os s2.heap) fun p hp => by
        obtain ⟨hb, e⟩ := of_pinsAt hp
        obtain ⟨o, e', hc⟩ := hex2 p.1 hb
        rw [e] at e'
        cases e'
        refine ⟨e, I3.hok.fresh (Nat.le_of_lt (hos3 p.1 hb)), (hO p.1 hb).2.1, fun hm => ?_, hc⟩
        have hm : p.1 ∈ frs X.stack := hm
        have := (I3.stack.mem hm).2
        obtain ⟨o2, e2, _⟩ := this
        exact absurd (Nat.lt_trans (Heap.lt_size e2) (hos3 p.1 hb)) (Nat.lt_irrefl _)
      exact gx_start (Z := gcx X { t2 with heap := h3, gens := t2.gens, drawn := t2.drawn, toks := tk } H3 (genEnv scope (cloFrom X.env.cells scope.names []) h3.objs.size code builtinsNs X.env) fp) (A := X.A.in1.in1) rfl rfl rfl hcalm rfl hco' hO T pg pt pe run (Nat.lt_succ_self m0) w0 rel ⟨J3, T.keep _ _ _ st3 fun b hb o e => hk3 b o e, fun b hb => (f3 b hb).1.1, fun b hb => by
        obtain ⟨o, e, _⟩ := hex2 b hb
        exact ⟨o, e⟩⟩
  cases hf : codeAmong gpos ps.toList with
  | none =>
    refine wpAny_genexprCodeX hcode (cd.code gP tr) (cd.tab gP) hf fun c' h' tk hx hge hlt hco _ htab _ => ?_
    obtain ⟨_, _, _, _, _, _, _, _, _, _, _, _, _, _, _, _, _, _, _, htr, _⟩ := hco
    exact rest _ h' tk _ hx (Nat.le_trans hge (Nat.le_of_lt hlt)) htab.2 ⟨_, rfl⟩ htr
  | some cv =>
    refine wpAny_genexprCode_hit hcode (cd.code gP tr) hf ?_
    exact rest cv t2.heap t2.toks ps (Heap.ExtBut.refl _ _) (Nat.le_refl _) gP ⟨#[], by simp⟩ tr
theorem room_u {k : Nat} {A : Around} (r : Room k A) : A.units + 1 < cLine := by
  have := r.units
  omega
theorem room_gx {k : Nat} {A : Around} (r : Room (k + 3) A) (env : Env) : Room k (A.in1.in1.deeper env) := Room.deeper (Room.in1 (Room.in1 r)) env
section
variable {c P : Addr} {elt tg iter : Expr} {ifs : List Expr} {scope : Scope} {own : List (Str × Nat)} {gpos p pos : Pos} {k : Nat} {wi : TI} {g : TG} {tt : TT} {te : TE}
theorem pe_gxAll (hr : Room k X.A) (hcalm : X.calm = true) (hN : X.N.Nodup) (hgl : Gl X "all") (hm : X.mg "all" = none) (hba : bootBuiltins "all" = some (.builtin "all")) (TB : GxR.TabB X.base X.mg c P) (hcode : X.env.code = .ref c) (ok : GBlk X.N X.env.scope scope own) (hi : PI X tg iter wi)
    (hg : ∀ (s : Shared) (H : Hp) (C : Addr) (code : Value) (fp : List Addr), PG (gcx X s H (genEnv scope (cloFrom X.env.cells scope.names []) C code builtinsNs X.env) fp) tg g)
    (ht : ∀ (s : Shared) (H : Hp) (C : Addr) (code : Value) (fp : List Addr), PTs (gcx X s H (genEnv scope (cloFrom X.env.cells scope.names []) C code builtinsNs X.env) fp) ifs tt)
    (he : ∀ (s : Shared) (H : Hp) (C : Addr) (code : Value) (fp : List Addr), PE (gcx X s H (genEnv scope (cloFrom X.env.cells scope.names []) C code builtinsNs X.env) fp) elt te) (hs : ∀ v, genFold iter X.env v = pure v)
    (hst : starEach [.GeneratorExp elt [⟨tg, iter, ifs, 0⟩] scope gpos] X.env = (false, eval (.GeneratorExp elt [⟨tg, iter, ifs, 0⟩] scope gpos) X.env) :: starEach [] X.env := by rfl) :
    PE X (.Call (.Name "all" p) [.GeneratorExp elt [⟨tg, iter, ifs, 0⟩] scope gpos] [] pos) (tGx P cAll () wi g tt te (own.map (·.2))) := by
  constructor
  intro pins s σ H Q I hh
  refine wpAny_Call_Name_kw (ld_blt I hgl hm hba ?_)
  refine PyProof.Rows.callWith_builtin1 ?_ hst (by rfl)
  rw [hst]
  show wpAny _ _ (spliced ((false, eval (.GeneratorExp elt [⟨tg, iter, ifs, 0⟩] scope gpos) X.env) :: backTo pos (starEach [] X.env))) _ _ s
  refine Calls.spliced_cons (gx_make hr hcalm hN TB hcode ok hi hs hg ht he I hh fun ga s5 R => Calls.spliced_nil ?_)
  obtain ⟨Z, gi, n, c0, hgen, hgs, hl, hb, eP, eW, back, hO, _, seg⟩ := R
  rw [← eP, ← eW] at *
  refine call_function_tree F.kind_all F.plain_all F.entry_all (F.args_all1 _) ?_
  unfold Builtin.«all»
  refine wpAny_bind (m := oneArg "all" _) (wpAny_pure ?_)
  refine wpAny_bind (wpAny_pyIter_gen hgen ?_)
  refine wpAny_pure ⟨plainId_quiet F.plain_all_loop _, bool_drain (Z := Z) (g := gi) (Q := Q) (c := cAll) true false (fun y k f h => ?_) (fun f h => h) hr.hd hr.depth (fun b H' τ s' I' q => ?_) all_body n s5 hgen hl ⟨_, hgs, rfl, seg [ga] _ _ hO (fun b hb => .inl (List.mem_singleton.mp hb)) (fun b o e => e) rfl (allBare_setGen hb rfl) (fun b hb => ?_) True.intro⟩⟩
  · obtain ⟨b, rfl, h⟩ := h
    exact ⟨b, rfl, fun e => by rw [if_pos (show b = true from e)] at h; exact h, fun e => by rw [if_neg (by rw [e]; decide)] at h; exact h⟩
  · exact ⟨.bl b, H', back τ H' s' I', rfl, q⟩
  · rw [List.mem_singleton.mp hb]
    obtain ⟨o, nm, qn, ho, h1, h2, h3⟩ := hgen
    exact ⟨o, ho, fun v q => by rw [h2] at q; cases q⟩
theorem pe_gxAny (hr : Room k X.A) (hcalm : X.calm = true) (hN : X.N.Nodup) (hgl : Gl X "any") (hm : X.mg "any" = none) (hba : bootBuiltins "any" = some (.builtin "any")) (TB : GxR.TabB X.base X.mg c P) (hcode : X.env.code = .ref c) (ok : GBlk X.N X.env.scope scope own) (hi : PI X tg iter wi)
    (hg : ∀ (s : Shared) (H : Hp) (C : Addr) (code : Value) (fp : List Addr), PG (gcx X s H (genEnv scope (cloFrom X.env.cells scope.names []) C code builtinsNs X.env) fp) tg g)
    (ht : ∀ (s : Shared) (H : Hp) (C : Addr) (code : Value) (fp : List Addr), PTs (gcx X s H (genEnv scope (cloFrom X.env.cells scope.names []) C code builtinsNs X.env) fp) ifs tt)
    (he : ∀ (s : Shared) (H : Hp) (C : Addr) (code : Value) (fp : List Addr), PE (gcx X s H (genEnv scope (cloFrom X.env.cells scope.names []) C code builtinsNs X.env) fp) elt te) (hs : ∀ v, genFold iter X.env v = pure v)
    (hst : starEach [.GeneratorExp elt [⟨tg, iter, ifs, 0⟩] scope gpos] X.env = (false, eval (.GeneratorExp elt [⟨tg, iter, ifs, 0⟩] scope gpos) X.env) :: starEach [] X.env := by rfl) :
    PE X (.Call (.Name "any" p) [.GeneratorExp elt [⟨tg, iter, ifs, 0⟩] scope gpos] [] pos) (tGx P cAny () wi g tt te (own.map (·.2))) := by
  constructor
  intro pins s σ H Q I hh
  refine wpAny_Call_Name_kw (ld_blt I hgl hm hba ?_)
  refine PyProof.Rows.callWith_builtin1 ?_ hst (by rfl)
  rw [hst]
  show wpAny _ _ (spliced ((false, eval (.GeneratorExp elt [⟨tg, iter, ifs, 0⟩] scope gpos) X.env) :: backTo pos (starEach [] X.env))) _ _ s
  refine Calls.spliced_cons (gx_make hr hcalm hN TB hcode ok hi hs hg ht he I hh fun ga s5 R => Calls.spliced_nil ?_)
  obtain ⟨Z, gi, n, c0, hgen, hgs, hl, hb, eP, eW, back, hO, _, seg⟩ := R
  rw [← eP, ← eW] at *
  refine call_function_tree F.kind_any F.plain_any F.entry_any (F.args_any1 _) ?_
  unfold Builtin.«any»
  refine wpAny_bind (m := oneArg "any" _) (wpAny_pure ?_)
  refine wpAny_bind (wpAny_pyIter_gen hgen ?_)
  refine wpAny_pure ⟨plainId_quiet F.plain_any_loop _, bool_drain (Z := Z) (g := gi) (Q := Q) (c := cAny) false true (fun y k f h => ?_) (fun f h => h) hr.hd hr.depth (fun b H' τ s' I' q => ?_) any_body n s5 hgen hl ⟨_, hgs, rfl, seg [ga] _ _ hO (fun b hb => .inl (List.mem_singleton.mp hb)) (fun b o e => e) rfl (allBare_setGen hb rfl) (fun b hb => ?_) True.intro⟩⟩
  · obtain ⟨b, rfl, h⟩ := h
    exact ⟨b, rfl, fun e => by rw [if_neg (by rw [e]; decide)] at h; exact h, fun e => by rw [if_pos (show b = true from e)] at h; exact h⟩
  · exact ⟨.bl b, H', back τ H' s' I', rfl, q⟩
  · rw [List.mem_singleton.mp hb]
    obtain ⟨o, nm, qn, ho, h1, h2, h3⟩ := hgen
    exact ⟨o, ho, fun v q => by rw [h2] at q; cases q⟩
theorem pe_gxSum (hr : Room k X.A) (hcalm : X.calm = true) (hN : X.N.Nodup) (hgl : Gl X "sum") (hm : X.mg "sum" = none) (TB : GxR.TabB X.base X.mg c P) (hcode : X.env.code = .ref c) (ok : GBlk X.N X.env.scope scope own) (hi : PI X tg iter wi)
    (hg : ∀ (s : Shared) (H : Hp) (C : Addr) (code : Value) (fp : List Addr), PG (gcx X s H (genEnv scope (cloFrom X.env.cells scope.names []) C code builtinsNs X.env) fp) tg g)
    (ht : ∀ (s : Shared) (H : Hp) (C : Addr) (code : Value) (fp : List Addr), PTs (gcx X s H (genEnv scope (cloFrom X.env.cells scope.names []) C code builtinsNs X.env) fp) ifs tt)
    (he : ∀ (s : Shared) (H : Hp) (C : Addr) (code : Value) (fp : List Addr), PE (gcx X s H (genEnv scope (cloFrom X.env.cells scope.names []) C code builtinsNs X.env) fp) elt te) (hs : ∀ v, genFold iter X.env v = pure v)
    (hst : starEach [.GeneratorExp elt [⟨tg, iter, ifs, 0⟩] scope gpos] X.env = (false, eval (.GeneratorExp elt [⟨tg, iter, ifs, 0⟩] scope gpos) X.env) :: starEach [] X.env := by rfl) :
    PE X (.Call (.Name "sum" p) [.GeneratorExp elt [⟨tg, iter, ifs, 0⟩] scope gpos] [] pos) (tGx P cSum 0 wi g tt te (own.map (·.2))) := by
  constructor
  intro pins s σ H Q I hh
  refine wpAny_Call_Name_kw (ld_blt I hgl hm boot_sum ?_)
  refine PyProof.Rows.callWith_builtin1 ?_ hst (by rfl)
  rw [hst]
  show wpAny _ _ (spliced ((false, eval (.GeneratorExp elt [⟨tg, iter, ifs, 0⟩] scope gpos) X.env) :: backTo pos (starEach [] X.env))) _ _ s
  refine Calls.spliced_cons (gx_make hr hcalm hN TB hcode ok hi hs hg ht he I hh fun ga s5 R => Calls.spliced_nil ?_)
  obtain ⟨Z, gi, n, c0, hgen, hgs, hl, hb, eP, eW, back, _, hOS, seg⟩ := R
  rw [← eP, ← eW] at *
  refine call_function_tree F.kind_sum F.plain_sum F.entry_sum (F.args_sum1 _) ?_
  unfold Builtin.«sum»
  simp only [List.length_cons, List.length_nil]
  rw [if_neg (by decide)]
  refine wpAny_bind (wpAny_of_eq (show Builtin.Builtins.bindParams "sum" ["start"] 0 { } = pure [none] from rfl) ?_)
  refine wpAny_bind (wpAny_pyIter_gen hgen ?_)
  refine wpAny_bind (wpAny_mkInt ?_)
  refine wpAny_bind (wpAny_pure ?_)
  simp only [List.forIn_cons, List.forIn_nil]
  refine wpAny_bind (wpAny_bind (wpAny_bind (wpAny_isInstance (T := "int") (b := false) (typeIs_int _ _ _) PySem.sub_int_str ?_)))
  simp only [Bool.false_eq_true, if_false]
  refine wpAny_pure (wpAny_bind (wpAny_bind (wpAny_isInstance (T := "int") (b := false) (typeIs_int _ _ _) PySem.sub_int_bytes ?_)))
  simp only [Bool.false_eq_true, if_false]
  refine wpAny_pure (wpAny_bind (wpAny_bind (wpAny_isInstance (T := "int") (b := false) (typeIs_int _ _ _) PySem.sub_int_bytearray ?_)))
  simp only [Bool.false_eq_true, if_false]
  refine wpAny_pure (wpAny_pure ?_)
  refine wpAny_bind (wpAny_newObj_type ?_)
  obtain ⟨hO, hSg⟩ := hOS s5.heap.objs.size (Nat.le_refl _)
  have kp : ∀ b o, s5.heap.get? b = some o → (s5.heap.push { cls := .type "list", data := .seq #[.int 0 s5.toks] }).get? b = some o := fun b o e => Heap.get?_push_of_some _ e
  have hS : (s5.heap.push { cls := .type "list", data := .seq #[.int 0 s5.toks] }).get? s5.heap.objs.size = some (sumO 0 s5.toks 0) := Heap.get?_push_size _ rfl
  refine wpAny_pure ⟨plainId_quiet F.plain_sum_loop _, sum_drain (Z := Z) (g := gi) (Q := Q) hSg hr.hd hr.depth (fun z t H' τ s' I' q => ?_) n _ 0 (.inl rfl) (hgen.keeps kp) (hl.keeps kp) ⟨0, _, _, hS⟩ ⟨_, hgs, rfl, seg [ga, s5.heap.objs.size] _ _ hO (fun b hb => ?_) kp rfl (allBare_setGen (s := { s5 with heap := _, toks := _ }) hb rfl) (fun b hb => ?_) ⟨_, _, hS⟩⟩⟩
  · exact ⟨.int z, H', back τ H' s' I', ⟨t, rfl⟩, q⟩
  · rcases List.mem_cons.mp hb with e | e
    · exact .inl e
    · exact .inr (by rw [List.mem_singleton.mp e]; exact Nat.le_refl _)
  · rcases List.mem_cons.mp hb with e | e
    · rw [e]
      obtain ⟨o, nm, qn, ho, h1, h2, h3⟩ := hgen
      exact ⟨o, kp _ _ ho, fun v q => by rw [h2] at q; cases q⟩
    · rw [List.mem_singleton.mp e]
      exact ⟨_, hS, fun v q => by cases q⟩
end
end
/-! ### defs that hold generator expressions: their code objects and tables -/
structure FunC (K : PySem.W.Frag) (x qual : Str) (st : Stmt) (f : Addr) (fd : FuncData) (c : Addr) : Prop where
  ex : ∃ (oc : Value) (od : Option Addr) (kV doc pm : Value) (an : Option Addr) (ct : Value) (osl : Array (Option Value)),
    fd = PySem.W.fnOf x qual (defArgs st) (defBody st) (defScope st) .none kV doc pm an (.ref c) ct ∧ K.lookup f = some ⟨oc, od, .func fd, osl⟩ ∧ PySem.W.codeIn K (.ref c) qual = true
section
variable {P : Program} {w : World} {K : PySem.W.Frag} {mg : Str → Option Value} {base : Heap}
theorem FunC.ok {x qual : Str} {st : Stmt} {f c : Addr} {fd : FuncData} {N ps : List Str} {k : Nat} {sp : Sp} (F : FunC K x qual st f fd c) (S : FnScope N ps (defScope st)) (len : ∀ vs H Q E, sp vs H Q E → vs.length = ps.length)
    (hbody : ∀ (A : Around) (outer : List Env) (s : Shared) (H : Hp) (vs : List V) (Q : VK) (E : XK), Room k (A.deeper (envOfC qual (defScope st) s.heap.objs.size f (.ref c))) → sp vs H Q E →
      ∃ t, PSs (cxOf CX0 P w K mg base N qual (defScope st) f (.ref c) A outer s H E).nox (defBody st) t ∧ t { nx := fun _ H' => Q .non H', rt := Q } (start N vs) H) : FnOk P w K mg base CX0 (k + 1) f fd ps sp := by
  obtain ⟨oc, od, kV, doc, pm, an, ct, osl, rfl, lk, hcd⟩ := F.ex
  refine fn_of lk hcd S len fun A outer s H vs Q E hr hsp => ?_
  obtain ⟨t, h, q⟩ := hbody A outer s H vs Q E hr hsp
  exact ⟨t, h.nox, q⟩
theorem FunC.okX {x qual : Str} {st : Stmt} {f c : Addr} {fd : FuncData} {N ps : List Str} {k : Nat} {sp : Sp} (F : FunC K x qual st f fd c) (S : FnScope N ps (defScope st)) (len : ∀ vs H Q E, sp vs H Q E → vs.length = ps.length)
    (hbody : ∀ (A : Around) (outer : List Env) (s : Shared) (H : Hp) (vs : List V) (Q : VK) (E : XK), Room k (A.deeper (envOfC qual (defScope st) s.heap.objs.size f (.ref c))) → sp vs H Q E →
      ∃ t, PSs (cxOf (L2.CX P w) P w K mg base N qual (defScope st) f (.ref c) A outer s H E) (defBody st) t ∧ t { nx := fun _ H' => Q .non H', rt := Q } (start N vs) H) : FnOk P w K mg base (L2.CX P w) (k + 1) f fd ps sp := by
  obtain ⟨oc, od, kV, doc, pm, an, ct, osl, rfl, lk, hcd⟩ := F.ex
  exact fn_of lk hcd S len fun A outer s H vs Q E hr hsp => hbody A outer s H vs Q E hr hsp
end
/-- the head's word about a def's code object and its table -/
def TabRec (h : Heap) (mg : Str → Option Value) (nm : Str) : Prop := ∃ (a : Addr) (o : Obj) (fd : FuncData) (c P : Addr), mg nm = some (.ref a) ∧ h.get? a = some o ∧ o.data = .func fd ∧ fd.code = .ref c ∧ h.IsCode c P #[] ∧ h.TableAt c P #[]
theorem walk_tabs {l : PySem.W.OpenLaw} {n k : Nat} {q : Program} {loose : List Str} {XP : (Str → Option Value) → Heap → Prop} {YP : World → Heap → Prop} {d : DefRec} {K : Params → PySem.W.Frag} {CX : World → CXT} {x : Str} (nms : List Str)
    (hn : l.most = some n) (hn2 : n ≤ sizeLine) (hdf : d.params.defaults = []) (hr : Room k callerA) (hrec : (nms.all fun nm => (recsOf q).any fun e => e.name == nm) = true) (hY : ∀ (w : World) (h : Heap), YP w h → (K w.params).In h)
    (F : ∀ (w : World) (mg : Str → Option Value) (fa : Addr) (h : Heap), (K w.params).In h → h.Ns mainGlobals mg → mg d.name = some (.ref fa) → (∀ nm ∈ nms, TabRec h mg nm) → LamX.LawAtS l w (K w.params) (CX w) k n x mg fa h)
    (hCX : ∀ (w : World) (H : Hp) (s : Shared) (e : Value) (s' : Shared), CX w [] H s (fun _ _ _ => False) e s' → False) :
    PySem.W.WalkO q loose XP YP l.row.toRowW d [] (fun f vs => PySem.call f vs) := by
  refine Att.attach_callB hn hdf fun w s0 s1 mg mb fa o pm cd doc a vs ns G Y ho hd hcd hmg hobj hints hlen hbits hg => ?_
  have KX := hY w _ Y
  have tabs : ∀ nm ∈ nms, TabRec s1.heap mg nm := fun nm hm => by
    obtain ⟨dL, h1, h2⟩ := List.any_eq_true.mp (List.all_eq_true.mp hrec nm hm)
    obtain ⟨a', o', fd', c', P', k1, k2, k3, k4, k5, k6⟩ := G.T.tab dL h1
    rw [beq_iff_eq.mp h2] at k1
    exact ⟨a', o', fd', c', P', k1, k2, k3, k4, k5, k6⟩
  obtain ⟨fd, cs, sp, hT, nT, C, hb, hsp, hF⟩ := F w mg fa _ KX G.T.g hmg tabs
  exact LamX.law_callTs KX G.T.g G.T.b G.T.builtins G.T.nolimit hg hT nT C G.T.bmain hobj hints (Nat.le_trans hlen hn2) hr hF hb (fun H hH hS => hsp H a ns hlen hbits hH hS) fun H e s' => hCX w H s1 e s'
/-- the table of the def at f, as the written part names it -/
theorem tab_of {K : PySem.W.Frag} {h : Heap} {mg : Str → Option Value} {nm : Str} {f c P : Addr} {fd : FuncData} {oc : Value} {od : Option Addr} {osl : Array (Option Value)} {ec : Value} {dc : Option Addr} {vc : Array Value} {sl : Array (Option Value)} (X : K.In h) (R : TabRec h mg nm)
    (g : mg nm = some (.ref f)) (lf : K.lookup f = some ⟨oc, od, .func fd, osl⟩) (hc : fd.code = .ref c) (lc : K.lookup c = some ⟨ec, dc, .fields vc, sl⟩) (h11 : vc[11]? = some (.ref P)) :
    h.get? P = some { cls := .none, data := .fields #[] } ∧ PySem.W.CodeHd h c P := by
  obtain ⟨a, o, fd', c', P', k1, k2, k3, k4, k5, k6⟩ := R
  rw [g] at k1
  cases k1
  rw [X _ _ lf] at k2
  cases k2
  cases k3
  rw [hc] at k4
  cases k4
  have hd := PySem.W.CodeHd.of k5 k6
  obtain ⟨⟨o2, v2, e1, _, e3, e4⟩, hP⟩ := k6
  rw [X _ _ lc] at e1
  cases e1
  cases e3
  rw [h11] at e4
  cases e4
  exact ⟨hP, hd⟩
/-- the tables stand -/
def Tb (Ps : List Addr) (H : Hp) : Prop := ∀ P ∈ Ps, GxR.TabG H P
theorem Tb.same {Ps : List Addr} {H H' : Hp} (t : Tb Ps H) (e : Same H H') : Tb Ps H' := fun P hP => by
  obtain ⟨ps, h1, h2⟩ := t P hP
  exact ⟨ps, e _ _ h1, h2⟩
theorem Tb.chg {Ps L : List Addr} {H H' : Hp} (t : Tb Ps H) (e : Chg L H H') (n : ∀ P ∈ Ps, P ∉ L) : Tb Ps H' := fun P hP => by
  obtain ⟨ps, h1, h2⟩ := t P hP
  exact ⟨ps, e _ _ (n P hP) h1, h2⟩
theorem Tb.out {Ps : List Addr} {H : Hp} {a : Addr} {o : HO} (t : Tb Ps H) (h : H a = some o) (n : ∀ ps, o ≠ .tbl ps) : a ∉ Ps := fun hm => by
  obtain ⟨ps, h1, _⟩ := t a hm
  rw [h] at h1
  exact n ps (Option.some.inj h1)
theorem Tb.new {Ps : List Addr} {H : Hp} {a : Addr} (t : Tb Ps H) (h : H a = none) : a ∉ Ps := fun hm => by
  obtain ⟨ps, h1, _⟩ := t a hm
  rw [h] at h1
  cases h1
theorem Tb.lsts {Ps : List Addr} {H : Hp} (t : Tb Ps H) : Lsts Ps H := fun P hP xs z => by
  obtain ⟨ps, h1, _⟩ := t P hP
  rw [h1] at z
  cases z
theorem Tb.tabbed {Ps : List Addr} {H H' : Hp} {P : Addr} (t : Tb Ps H) (hP : P ∈ Ps) (e : GxR.Tabbed P H H') : Tb Ps H' ∧ Chg Ps H H' := by
  refine ⟨fun Q hQ => ?_, fun b o n h => ?_⟩
  · by_cases z : Q = P
    · rw [z]
      exact e.1
    · obtain ⟨ps, h1, h2⟩ := t Q hQ
      exact ⟨ps, by rw [e.2 Q z]; exact h1, h2⟩
  · have z : b ≠ P := fun z => n (by rw [z]; exact hP)
    rw [e.2 b z]
    exact h
/-! ### all but what stands at L is kept; tables of code objects may grow -/
def Kp (L : List Addr) (H H' : Hp) : Prop := ∀ b o, b ∉ L → H b = some o → H' b = some o ∨ ∃ ps qs, o = .tbl ps ∧ H' b = some (.tbl qs)
theorem Kp.refl (L : List Addr) (H : Hp) : Kp L H H := fun _ _ _ h => .inl h
theorem Kp.trans {L : List Addr} {H H1 H2 : Hp} (a : Kp L H H1) (b : Kp L H1 H2) : Kp L H H2 := fun c o n h => by
  rcases a c o n h with z | ⟨ps, qs, rfl, z⟩
  · exact b c o n z
  · rcases b c _ n z with y | ⟨ps', qs', _, y⟩
    · exact .inr ⟨ps, qs, rfl, y⟩
    · exact .inr ⟨ps, qs', rfl, y⟩
theorem Kp.chg {L : List Addr} {H H' : Hp} (c : Chg L H H') : Kp L H H' := fun b o n h => .inl (c b o n h)
theorem Kp.of {L : List Addr} {H H' : Hp} (c : Same H H') : Kp L H H' := fun b o _ h => .inl (c b o h)
theorem Kp.mono {L L' : List Addr} {H H' : Hp} (a : Kp L H H') (h : ∀ x ∈ L, x ∈ L') : Kp L' H H' := fun c o n e => a c o (fun q => n (h c q)) e
theorem Kp.nil {L : List Addr} {H H' : Hp} (a : Kp [] H H') : Kp L H H' := a.mono fun _ h => nomatch h
theorem Kp.lst {L : List Addr} {H H' : Hp} (a : Kp L H H') {l : Addr} {us : List V} (n : l ∉ L) (h : H l = some (.lst us)) : H' l = some (.lst us) := by
  rcases a l _ n h with z | ⟨ps, qs, z, _⟩
  · exact z
  · cases z
theorem Kp.tup {L : List Addr} {H H' : Hp} (a : Kp L H H') {l : Addr} {us : List V} (n : l ∉ L) (h : H l = some (.tup us)) : H' l = some (.tup us) := by
  rcases a l _ n h with z | ⟨ps, qs, z, _⟩
  · exact z
  · cases z
theorem Kp.free {L : List Addr} {H H' : Hp} (a : Kp L H H') {l : Addr} (hl : l ∉ L) (h : H' l = none) : H l = none := by
  cases q : H l with
  | none => rfl
  | some o =>
    rcases a l o hl q with z | ⟨ps, qs, _, z⟩
    · rw [z] at h
      cases h
    · rw [z] at h
      cases h
theorem Kp.seq {K : PySem.W.Frag} {L : List Addr} {H H' : Hp} {a : Addr} {xs : List V} (e : Kp L H H') (n : a ∉ L) (h : SqL K H a xs) : SqL K H' a xs := by
  rcases h with (h | ⟨o, h⟩) | h
  · exact .inl (.inl (e.lst n h))
  · rcases e a _ n h with z | ⟨ps, qs, z, _⟩
    · exact .inl (.inr ⟨o, z⟩)
    · cases z
  · exact .inr h
theorem Kp.spn {L : List Addr} {H H' : Hp} (e : Kp L H H') (l : Lsts L H) {v : V} {s : Span} (h : Spn H v s) : Spn H' v s := by
  obtain ⟨t, rfl, ht⟩ := h
  exact ⟨t, rfl, e.tup (fun q => l t q _ ht) ht⟩
theorem Kp.sps {L : List Addr} {H H' : Hp} (e : Kp L H H') (l : Lsts L H) : ∀ {vs : List V} {ss : List Span}, Sps H vs ss → Sps H' vs ss
  | _, _, .nil => .nil
  | _, _, .cons h t => .cons (e.spn l h) (Kp.sps e l t)
theorem lsts0 (H : Hp) : Lsts [] H := fun _ h => nomatch h
theorem Kp.pu {L : List Addr} {H H' : Hp} {p : Addr} {n : Nat} (e : Kp L H H') (hp : p ∉ L) (h : Pu H p n) : Pu H' p n := by
  obtain ⟨a, b, c, h1, h2⟩ := h
  exact ⟨a, b, c, e.lst hp h1, h2⟩
theorem Kp.upd {L : List Addr} {H : Hp} {p : Addr} {o : HO} (h : p ∈ L) : Kp L H (upd H p o) := .chg (Chg.upd h)
theorem Kp.new {L : List Addr} {H H' : Hp} {p : Addr} {o : HO} (e : Kp L H H') (n : H' p = none) : Kp L H (L2.upd H' p o) := e.trans (.of (same_upd n))
/-- a new object changed: nothing of what stood before is -/
theorem Kp.own {L : List Addr} {H H' : Hp} {p : Addr} {o : HO} (e : Kp L H H') (n : H p = none) : Kp L H (L2.upd H' p o) := fun b x nb h => by
  have hne : b ≠ p := ne_of_none h n
  rw [upd_ne hne]
  exact e b x nb h
theorem Kp.tb {Ps L : List Addr} {H H' : Hp} (e : Kp L H H') (hL : ∀ P ∈ Ps, P ∉ L) (hT : ∀ P ∈ Ps, GxR.TabG H P → ∀ qs, H' P = some (.tbl qs) → TriplesOk qs.toList) (t : Tb Ps H) : Tb Ps H' := fun P hP => by
  obtain ⟨ps, h1, h2⟩ := t P hP
  rcases e P _ (hL P hP) h1 with z | ⟨_, qs, _, z⟩
  · exact ⟨ps, z, h2⟩
  · exact ⟨qs, z, hT P hP (t P hP) qs z⟩
theorem Tb.kp {Ps : List Addr} {P : Addr} {H H' : Hp} (t : Tb Ps H) (mP : P ∈ Ps) (h : GxR.Tabbed P H H') : Tb Ps H' ∧ Kp [] H H' := by
  refine ⟨fun Q hQ => ?_, fun b o _ e => ?_⟩
  · by_cases q : Q = P
    · rw [q]
      exact h.1
    · obtain ⟨ps, h1, h2⟩ := t Q hQ
      exact ⟨ps, by rw [h.2 Q q]; exact h1, h2⟩
  · by_cases q : b = P
    · obtain ⟨ps, h1, _⟩ := t P mP
      obtain ⟨qs, h3, _⟩ := h.1
      rw [q] at e ⊢
      rw [h1] at e
      cases e
      exact .inr ⟨ps, qs, rfl, h3⟩
    · exact .inl (by rw [h.2 b q]; exact e)
theorem Tb.own {Ps : List Addr} {H H' : Hp} {p : Addr} {o : HO} (t : Tb Ps H') (n : H p = none) (t0 : Tb Ps H) : Tb Ps (upd H' p o) := fun P hP => by
  obtain ⟨ps, h1, h2⟩ := t P hP
  obtain ⟨qs, h3, _⟩ := t0 P hP
  exact ⟨ps, by rw [upd_ne (ne_of_none h3 n)]; exact h1, h2⟩
theorem Tb.at1 {Ps : List Addr} {H : Hp} {p : Addr} {o : HO} (t : Tb Ps H) (hp : p ∉ Ps) : Tb Ps (upd H p o) := fun P hP => by
  obtain ⟨ps, h1, h2⟩ := t P hP
  exact ⟨ps, by rw [upd_ne (fun z => hp (by rw [← z]; exact hP))]; exact h1, h2⟩
theorem iteNT {c A B : Prop} [Decidable c] (hc : ¬ c) (h : A) : if (!decide c) = true then A else B := by
  rw [decide_eq_false hc]
  exact h
/-! walks of generator expressions over a list, a range -/
theorem gx_list {α : Type} {K : PySem.W.Frag} {a : Addr} {xs : List V} {g : TG} {tt : TT} {te : TE} {vs : List Nat} {σ : L2.St} {c : Cons α} {a0 : α} {Q : VK} {H1 : Hp} (Pv : Nat → α → Hp → Prop) (h0 : Pv 0 a0 H1) (hl : ∀ i z H, i ≤ xs.length → Pv i z H → SqL K H a xs)
    (hs : ∀ i x z H, xs[i]? = some x → Pv i z H → g x (wipe σ vs) H fun σ2 H2 => wipe σ2 vs = wipe σ vs ∧ tt σ2 H2 fun b H3 => if b = true then te σ2 H3 fun y H4 => c.step z y (fun z' => Pv (i + 1) z' H4) (fun u => Q u H4) else Pv (i + 1) z H3)
    (hd : ∀ z H, Pv xs.length z H → c.fin z (fun u => Q u H)) : ∃ W : Nat → Nat → α → Hp → Prop, (∃ m, W 0 m a0 H1) ∧ Runs1 (Itl K a) g tt te vs σ c Q W := by
  refine ⟨fun i m z H => m = xs.length - i ∧ i ≤ xs.length ∧ Pv i z H, ⟨xs.length, by simp, Nat.zero_le _, h0⟩, ?_⟩
  rintro i m z H ⟨rfl, hi, p⟩
  have q := hl i z H hi p
  by_cases hlt : i < xs.length
  · refine .inr ⟨⟨xs, xs[i], q, by simp [hlt]⟩, Pv (i + 1), fun z' H' p' => ⟨xs.length - (i + 1), by omega, rfl, hlt, p'⟩, fun x H' y => ?_⟩
    obtain ⟨e, y⟩ := y
    subst e
    exact hs i x z _ (y xs q) p
  · have e : i = xs.length := by omega
    subst e
    exact .inl ⟨⟨xs, q, Nat.le_refl _⟩, hd z H p⟩
theorem gx_range {α : Type} {lo : Int} {n : Nat} {g : TG} {tt : TT} {te : TE} {vs : List Nat} {σ : L2.St} {c : Cons α} {a0 : α} {Q : VK} {H1 : Hp} (Pv : Nat → α → Hp → Prop) (h0 : Pv 0 a0 H1)
    (hs : ∀ i z H, i < n → Pv i z H → g (.int (lo + i)) (wipe σ vs) H fun σ2 H2 => wipe σ2 vs = wipe σ vs ∧ tt σ2 H2 fun b H3 => if b = true then te σ2 H3 fun y H4 => c.step z y (fun z' => Pv (i + 1) z' H4) (fun u => Q u H4) else Pv (i + 1) z H3)
    (hd : ∀ z H, Pv n z H → c.fin z (fun u => Q u H)) : ∃ W : Nat → Nat → α → Hp → Prop, (∃ m, W 0 m a0 H1) ∧ Runs1 (Itr lo n) g tt te vs σ c Q W := by
  refine ⟨fun i m z H => m = n - i ∧ i ≤ n ∧ Pv i z H, ⟨n, by simp, Nat.zero_le _, h0⟩, ?_⟩
  rintro i m z H ⟨rfl, hi, p⟩
  by_cases hlt : i < n
  · refine .inr ⟨hlt, Pv (i + 1), fun z' H' p' => ⟨n - (i + 1), by omega, rfl, hlt, p'⟩, fun x H' y => ?_⟩
    obtain ⟨e, y⟩ := y
    subst e y
    exact hs i z _ hlt p
  · have e : i = n := by omega
    subst e
    exact .inl ⟨Nat.le_refl _, hd z H p⟩
/-! ### rows: tuples of whole numbers, lists of them -/
def rwD (r : List Int) : PyData := .tuple (r.map PyData.int)
def Rw (H : Hp) (v : V) (r : List Int) : Prop := ∃ t, v = .ref t ∧ H t = some (.tup (r.map V.int))
inductive Rws (H : Hp) : List V → List (List Int) → Prop where
  | nil : Rws H [] []
  | cons {v : V} {s : List Int} {vs : List V} {ss : List (List Int)} : Rw H v s → Rws H vs ss → Rws H (v :: vs) (s :: ss)
theorem Kp.rw {L : List Addr} {H H' : Hp} (e : Kp L H H') (l : Lsts L H) {v : V} {s : List Int} (h : Rw H v s) : Rw H' v s := by
  obtain ⟨t, rfl, ht⟩ := h
  exact ⟨t, rfl, e.tup (fun q => l t q _ ht) ht⟩
theorem Kp.rws {L : List Addr} {H H' : Hp} (e : Kp L H H') (l : Lsts L H) : ∀ {vs : List V} {ss : List (List Int)}, Rws H vs ss → Rws H' vs ss
  | _, _, .nil => .nil
  | _, _, .cons h t => .cons (e.rw l h) (Kp.rws e l t)
theorem Rws.same {H H' : Hp} {vs : List V} {ss : List (List Int)} (h : Rws H vs ss) (e : Same H H') : Rws H' vs ss := (Kp.of (L := []) e).rws (lsts0 H) h
theorem Rws.len {H : Hp} : ∀ {vs : List V} {ss : List (List Int)}, Rws H vs ss → vs.length = ss.length
  | _, _, .nil => rfl
  | _, _, .cons _ t => congrArg (· + 1) t.len
theorem Rws.app {H : Hp} : ∀ {vs ws : List V} {ss ts : List (List Int)}, Rws H vs ss → Rws H ws ts → Rws H (vs ++ ws) (ss ++ ts)
  | _, _, _, _, .nil, h => h
  | _, _, _, _, .cons a t, h => .cons a (Rws.app t h)
theorem Rws.one {H : Hp} {v : V} {s : List Int} (h : Rw H v s) : Rws H [v] [s] := .cons h .nil
theorem Rws.get {H : Hp} : ∀ {vs : List V} {ss : List (List Int)} {i : Nat} {v : V}, Rws H vs ss → vs[i]? = some v → ∃ s, ss[i]? = some s ∧ Rw H v s
  | _, _, _, _, .nil, e => by simp at e
  | _, _, 0, v, .cons (s := s) h t, e => ⟨s, rfl, by
      have q := Option.some.inj (show some _ = some v from e)
      rw [← q]
      exact h⟩
  | _, _, i + 1, v, .cons h t, e => Rws.get (i := i) t e
theorem Rws.get' {H : Hp} : ∀ {vs : List V} {ss : List (List Int)} {i : Nat} {s : List Int}, Rws H vs ss → ss[i]? = some s → ∃ v, vs[i]? = some v ∧ Rw H v s
  | _, _, _, _, .nil, e => by simp at e
  | _, _, 0, s, .cons (v := v) h t, e => ⟨v, rfl, by
      have q := Option.some.inj (show some _ = some s from e)
      rw [← q]
      exact h⟩
  | _, _, i + 1, v, .cons h t, e => Rws.get' (i := i) t e
theorem Rw.dp {K : PySem.W.Frag} {H : Hp} {v : V} {s : List Int} (h : Rw H v s) : Dp K H v (rwD s) := by
  obtain ⟨t, rfl, ht⟩ := h
  exact .tup (SqT.of ht) (dpAll_ints s)
theorem Rws.dpAll {K : PySem.W.Frag} {H : Hp} : ∀ {vs : List V} {ss : List (List Int)}, Rws H vs ss → DpAll K H vs (ss.map rwD)
  | _, _, .nil => .nil
  | _, _, .cons h t => .cons h.dp t.dpAll
theorem Rws.dp {K : PySem.W.Frag} {H : Hp} {a : Addr} {vs : List V} {ss : List (List Int)} (h : Rws H vs ss) (q : SqL K H a vs) : Dp K H (.ref a) (.list (ss.map rwD)) := .lst q h.dpAll
theorem lay_row (r : List Int) : PyData.canLay0 (rwD r) = true ∧ PyData.depth (rwD r) = 1 := by
  obtain ⟨h1, h2⟩ := lay_ints r
  refine ⟨h1, ?_⟩
  show PyData.depthAll (r.map PyData.int) + 1 = 1
  rw [h2]
theorem lay_rows : ∀ ss : List (List Int), PyData.canLayAll0 (ss.map rwD) = true ∧ PyData.depthAll (ss.map rwD) ≤ 1
  | [] => ⟨rfl, by decide⟩
  | s :: r => by
    obtain ⟨h1, h2⟩ := lay_rows r
    obtain ⟨h3, h4⟩ := lay_row s
    refine ⟨?_, ?_⟩
    · show (PyData.canLay0 (rwD s) && PyData.canLayAll0 (r.map rwD)) = true
      rw [h1, h3]
      rfl
    · show max (PyData.depth (rwD s)) (PyData.depthAll (r.map rwD)) ≤ 1
      rw [h4]
      omega
theorem shaped_rows (ss : List (List Int)) : SeqAt.shaped (.list (ss.map rwD)) = true := by
  obtain ⟨h1, h2⟩ := lay_rows ss
  show (PyData.canLayAll0 (ss.map rwD) && decide (PyData.depthAll (ss.map rwD) + 1 ≤ 64)) = true
  rw [h1, decide_eq_true (by omega)]
  rfl
theorem shaped_row (r : List Int) : SeqAt.shaped (rwD r) = true := by
  obtain ⟨h1, h2⟩ := lay_ints r
  show (PyData.canLayAll0 (r.map PyData.int) && decide (PyData.depthAll (r.map PyData.int) + 1 ≤ 64)) = true
  rw [h1, h2]
  rfl
theorem eqvAll_nums : ∀ ss ts : List Int, PyData.eqvAll (ss.map PyData.int) (ts.map PyData.int) = decide (ss = ts)
  | [], [] => rfl
  | [], _ :: _ => rfl
  | _ :: _, [] => rfl
  | s :: ss, t :: ts => by
    show (PyData.eqv (.int s) (.int t) && PyData.eqvAll (ss.map PyData.int) (ts.map PyData.int)) = _
    rw [eqvAll_nums ss ts]
    have e : PyData.eqv (.int s) (.int t) = decide (s = t) := by simp [PyData.eqv, Bool.beq_eq_decide_eq]
    rw [e]
    by_cases h : s = t <;> by_cases h2 : ss = ts <;> simp [h, h2]
theorem eqv_row (s t : List Int) : PyData.eqv (rwD s) (rwD t) = decide (s = t) := eqvAll_nums s t
theorem eqvAll_rows : ∀ ss ts : List (List Int), PyData.eqvAll (ss.map rwD) (ts.map rwD) = decide (ss = ts)
  | [], [] => rfl
  | [], _ :: _ => rfl
  | _ :: _, [] => rfl
  | s :: ss, t :: ts => by
    show (PyData.eqv (rwD s) (rwD t) && PyData.eqvAll (ss.map rwD) (ts.map rwD)) = _
    rw [eqv_row, eqvAll_rows ss ts]
    by_cases h : s = t <;> by_cases h2 : ss = ts <;> simp [h, h2]
theorem eqv_rows (ss ts : List (List Int)) : PyData.eqv (.list (ss.map rwD)) (.list (ts.map rwD)) = decide (ss = ts) := eqvAll_rows ss ts
theorem eqv_rows_nil (ss : List (List Int)) : PyData.eqv (.list (ss.map rwD)) (.list []) = decide (ss = []) := eqvAll_rows ss []
theorem eqv_nums (ss ts : List Int) : PyData.eqv (.list (ss.map PyData.int)) (.list (ts.map PyData.int)) = decide (ss = ts) := eqvAll_nums ss ts
/-! ### lists of spans as they stand -/
def Lq (H : Hp) (l : Addr) (ss : List Span) : Prop := ∃ us, H l = some (.lst us) ∧ Sps H us ss
theorem Kp.lq {L : List Addr} {H H' : Hp} (e : Kp L H H') {l : Addr} (n : l ∉ L) (hL : Lsts L H) {ss : List Span} (h : Lq H l ss) : Lq H' l ss := by
  obtain ⟨us, h1, h2⟩ := h
  exact ⟨us, e.lst n h1, e.sps hL h2⟩
theorem Lq.same {H H' : Hp} {l : Addr} {ss : List Span} (h : Lq H l ss) (e : Same H H') : Lq H' l ss := (Kp.of (L := []) e).lq List.not_mem_nil (lsts0 H) h
theorem Lq.dp {K : PySem.W.Frag} {H : Hp} {l : Addr} {ss : List Span} (h : Lq H l ss) : Dp K H (.ref l) (.list (ss.map spD)) := by
  obtain ⟨us, h1, h2⟩ := h
  exact h2.dp (SqL.of h1)
theorem cut_take {xs : List V} {z : Int} {k : Nat} (e : z = (k : Int)) : cutV xs none (some z) = xs.take k := by
  subst e
  unfold cutV
  rw [HT.sIx_none, HT.sIx_nat, List.drop_zero, Nat.sub_zero]
  by_cases h : k ≤ xs.length
  · rw [Nat.min_eq_left h]
  · rw [Nat.min_eq_right (by omega), List.take_length, List.take_of_length_le (by omega)]
theorem cut_drop {xs : List V} {z : Int} {k : Nat} (e : z = (k : Int)) (h : k ≤ xs.length) : cutV xs (some z) none = xs.drop k := by
  subst e
  unfold cutV
  rw [HT.sIx_none, HT.sIx_nat, Nat.min_eq_left h]
  exact List.take_of_length_le (by rw [List.length_drop]; exact Nat.le_refl _)
theorem Sps.takeN {H : Hp} : ∀ {vs : List V} {ss : List Span} (n : Nat), Sps H vs ss → Sps H (vs.take n) (ss.take n)
  | _, _, 0, _ => by
    rw [List.take_zero, List.take_zero]
    exact .nil
  | _, _, _ + 1, .nil => .nil
  | _, _, n + 1, .cons h t => .cons h (Sps.takeN n t)
theorem Sps.dropN {H : Hp} : ∀ {vs : List V} {ss : List Span} (n : Nat), Sps H vs ss → Sps H (vs.drop n) (ss.drop n)
  | _, _, 0, h => h
  | _, _, _ + 1, .nil => .nil
  | _, _, n + 1, .cons _ t => Sps.dropN n t
theorem Sps.rev {H : Hp} {vs : List V} {ts : List Span} (h : Sps H vs ts) : Sps H vs.reverse ts.reverse := by
  induction h with
  | nil => exact .nil
  | cons a b ih =>
    rw [List.reverse_cons, List.reverse_cons]
    exact ih.app (.one a)
/-! ### set(xs), xs a list of whole numbers, to be sorted -/
section
variable {P : Program} {w : World} {A : Around} {E : Value → Shared → Prop} {s : Shared}
abbrev set0 (w : World) : Obj := { cls := .type "set", dict := none, data := .set #[] 0 (.fresh 0 0 (!w.params.followText "set-order")) }
set_option maxHeartbeats 8000000 in
theorem call_set_lstI {l : Addr} {items : Array Value} (ns : List Int) {Q : Value → Shared → Prop} (hh : A.handled = none) (hl : s.heap.IsList l items) (hit : IntsAre items.toList ns) (hb : ns.length + 1 < scanBound)
    (h : ∀ (h' : Heap) (tk c : Nat), SetR w h' s.heap.objs.size (fun j => decide (j ∈ ns)) c → c ≤ ns.length → (∀ b o, s.heap.get? b = some o → h'.get? b = some o) → Q (.ref s.heap.objs.size) { s with heap := h', toks := tk }) :
    wpAny (model P w) A (call (.type "set") [.ref l]) Q E s := by
  have hisz : items.size = ns.length := by
    have q := IntsAre.length hit
    rw [Array.length_toList] at q
    exact q
  obtain ⟨c0, tl, hmro⟩ := F.called_set.mro
  have hmade := F.called_set.made
  have hsub := F.called_set.sub
  refine wpAny_call (codeAny_of_tree ?_)
  show wpAny _ _ (callAny (.type "set") _) _ _ _
  refine wpAny_pure ⟨Code.quiet_builtin _ (by decide +kernel), codeAny_builtin F.entry_type_call ?_⟩
  rw [Around.under_plain (weight_type_call_type "set" [.ref l] []) rfl]
  have t1 := F.called_set.notType
  have t2 := F.called_set.canCreate
  have t3 := F.typeCall_set_1 (.ref l)
  repeat (any_goals (first | assumption | wp_step))
  refine codeAny_mono (L2.code_set_led1 (.ref l) (E := E) (Q₁ := fun obj u => obj = .ref s.heap.objs.size ∧ u = { s with heap := s.heap.push (set0 w) }) ⟨rfl, rfl⟩) fun r u hr => ?_
  cases r with
  | error e => exact hr
  | ok fl =>
    cases fl with
    | ret obj =>
      obtain ⟨rfl, rfl⟩ := hr
      have gS : (s.heap.push (set0 w)).get? s.heap.objs.size = some (set0 w) := Heap.get?_push_size _ rfl
      have gT : Shared.TypeIs { s with heap := s.heap.push (set0 w) } (.ref s.heap.objs.size) "set" := ⟨_, gS, rfl⟩
      have i1 := F.called_set.init.lookup
      have i2 := F.called_set.init.bind (.ref s.heap.objs.size)
      repeat (any_goals (first | assumption | wp_step))
      refine codeAny_mono (codeAny_call_builtin (R := wants (fun r u2 => r = .none ∧ ∃ h' tk c, u2 = { s with heap := h', toks := tk } ∧ SetR w h' s.heap.objs.size (fun j => decide (j ∈ ns)) c ∧ c ≤ ns.length ∧ (∀ b o, s.heap.get? b = some o → h'.get? b = some o)) E) F.called_set.init.plain F.entry_set_init (check_set_init_1 gT ?_)) fun r2 u2 hr2 => ?_
      · obtain ⟨ol, hol, hcl, nl, hdl⟩ := hl
        obtain ⟨ocls, odict, odata, oslots⟩ := ol
        simp only at hcl hdl
        subst hcl
        subst hdl
        have gol : (s.heap.push (set0 w)).get? l = some { cls := .type "list", dict := odict, data := .seq items nl, slots := oslots } := Heap.get?_push_of_some _ hol
        have k1 := F.sub_list_set
        have k2 := F.sub_list_frozenset
        have k3 : (Value.type "list" == Value.type "dict") = false := by decide
        have isl : (s.heap.push (set0 w)).IsList l items := ⟨_, gol, rfl, nl, rfl⟩
        unfold Builtin.«set.__init__» noKeywords Builtin.Frozenset.updateFrom
        generalize hPI : pyIter = PI
        wp_walk
        subst hPI
        refine wpAny_pyIter_list isl ?_
        refine wpAny_bind (wpAny_runValue ?_)
        have ll : l < s.heap.objs.size := Heap.lt_size hol
        have hh3 : A.in1.in1.in1.handled = none := by simp [hh]
        have neI : l ≠ (s.heap.push (set0 w)).objs.size := by
          rw [Heap.size_push]
          exact Nat.ne_of_lt (Nat.lt_succ_of_lt ll)
        have outS : s.heap.objs.size ∉ [(s.heap.push (set0 w)).objs.size, l] := by
          rw [Heap.size_push]
          simp only [List.mem_cons, List.not_mem_nil, or_false, not_or]
          exact ⟨Nat.ne_of_lt (Nat.lt_succ_self _), Nat.ne_of_gt ll⟩
        have val : ∀ (i : Nat) (v : Value), items[i]? = some v → ∃ k t, ns[i]? = some k ∧ v = .int k t := fun i v hv => by
          have hv2 : items.toList[i]? = some v := by rw [Array.getElem?_toList]; exact hv
          obtain ⟨t, e⟩ := IntsAre.int_at hit i v hv2
          have hi : i < ns.length := by
            have := (List.getElem?_eq_some_iff.mp hv2).1
            rw [Array.length_toList] at this
            omega
          refine ⟨ns[i], t, List.getElem?_eq_getElem hi, ?_⟩
          rw [e, List.getD_eq_getElem?_getD, List.getElem?_eq_getElem hi]
          rfl
        refine L2.set_update_ints ((Walks.list hh3 _ l neI items).toS) s.heap.objs.size outS ns hisz hb val _ 0 _ rfl (Nat.zero_le _) ?_ ⟨0, Nat.le_refl _, L2.setR_new_at (by rw [Heap.get?_push_of_some _ gS])⟩ fun s' c mv hc R => ?_
        · exact ⟨⟨_, Heap.get?_push_size _ rfl, rfl, rfl⟩, isl.push _⟩
        · obtain ⟨h', g2, d2, tk2, os2⟩ := s'
          obtain rfl : g2 = s.gens := mv.gens
          obtain rfl : d2 = s.drawn := mv.drawn
          obtain rfl : os2 = s.os := mv.os
          refine wpAny_pure ?_
          show wpAny _ _ (ret Value.none) _ _ _
          rw [hisz] at hc
          refine wpAny_pure ⟨rfl, h', tk2, c, rfl, R, hc, fun b o e => ?_⟩
          have l0 : b < s.heap.objs.size := Heap.lt_size e
          refine mv.heap b o (fun z => ?_) (Heap.get?_push_of_some _ (Heap.get?_push_of_some _ e))
          rw [Heap.size_push] at z
          simp only [List.mem_cons, List.not_mem_nil, or_false] at z
          rcases z with z | z
          · exact Nat.ne_of_lt l0 z
          · exact Nat.ne_of_lt (Nat.lt_succ_of_lt l0) z
      · cases r2 with
        | error e => exact hr2
        | ok fl2 =>
          cases fl2 with
          | ret r =>
            obtain ⟨rfl, h', tk, c, rfl, R, hc, k⟩ := hr2
            have fin := h h' tk c R hc k
            repeat (any_goals (first | assumption | wp_step))
          | _ => exact hr2.elim
    | _ => exact hr.elim
end
section
variable {X : Cx}
def rSetOf (K : PySem.W.Frag) (w : World) : List V → Hp → VK → Prop := fun vs H Q => ∃ (a : Addr) (ns : List Int), vs = [.ref a] ∧ SqL K H a (ns.map V.int) ∧ ns.length ≤ 1000 ∧ ∀ (p : Addr) (ds : List Int), H p = none → ds.Nodup → (∀ k, k ∈ ds ↔ k ∈ ns) → Q (.ref p) (upd H p (SetO w p (fun j => decide (j ∈ ns)) ds.length))
theorem call_set_of (hc : X.calm = true) : CallR X (.type "set") (rSetOf X.K X.w) := by
  intro pins s σ H vs us Q I r hh
  obtain ⟨a, ns, rfl, hq, hl, q⟩ := hh
  obtain ⟨its, rv, pl, hz⟩ := I.list hq
  rw [Vals.ref1 r]
  refine call_set_lstI ns (I.ok.hd hc) pl.isList (by simpa using rv.ints) (by unfold scanBound; omega) fun h' tk c R hc' k => ?_
  have hn : H s.heap.objs.size = none := I.hok.fresh (Nat.le_refl _)
  obtain ⟨o, es, ep, t, k1, k2, k3, k4, k5, k6, k7, k8, k9, k10, k11⟩ := id R
  have ln : (es.toList.map keyOf).length = c := by
    rw [List.length_map, Array.length_toList]
    exact k9
  have fin := q s.heap.objs.size (es.toList.map keyOf) hn k5 fun k => by
    rw [← k6, decide_eq_true_eq]
  rw [ln] at fin
  exact ⟨.ref s.heap.objs.size, _, I.laid k (Nat.le_refl _) (setO_new R), rfl, fin⟩
end
theorem nodup_len : ∀ {l m : List Int}, l.Nodup → (∀ x ∈ l, x ∈ m) → l.length ≤ m.length
  | [], _, _, _ => Nat.zero_le _
  | a :: l, m, h, sub => by
    have ha := sub a List.mem_cons_self
    have h1 := List.nodup_cons.mp h
    have ih := nodup_len (l := l) (m := m.erase a) h1.2 fun x hx => by
      have ne : x ≠ a := fun z => h1.1 (by rw [← z]; exact hx)
      exact (List.mem_erase_of_ne ne).mpr (sub x (List.mem_cons_of_mem _ hx))
    rw [List.length_erase_of_mem ha] at ih
    have hp := List.length_pos_of_mem ha
    show l.length + 1 ≤ m.length
    omega
def topS (i : Nat) : Stmt := PySem.Challenge.pw_spanshelf_k11_profiles.main.body.getD i (.Pass ⟨0, 0, 0, 0⟩)
abbrev s_is_whole : Stmt := topS 6
abbrev N_is_whole : List Str := ["number"]
theorem sc_is_whole : FnScope N_is_whole ["number"] (defScope s_is_whole) := ⟨rfl, rfl, rfl, by decide +kernel, rfl, by decide +kernel, by decide +kernel⟩
abbrev s_is_place : Stmt := topS 7
abbrev N_is_place : List Str := ["number"]
theorem sc_is_place : FnScope N_is_place ["number"] (defScope s_is_place) := ⟨rfl, rfl, rfl, by decide +kernel, rfl, by decide +kernel, by decide +kernel⟩
abbrev s_is_span : Stmt := topS 8
abbrev N_is_span : List Str := ["span", "low", "high"]
theorem sc_is_span : FnScope N_is_span ["span"] (defScope s_is_span) := ⟨rfl, rfl, rfl, by decide +kernel, rfl, by decide +kernel, by decide +kernel⟩
abbrev s_check_span : Stmt := topS 9
abbrev N_check_span : List Str := ["span"]
theorem sc_check_span : FnScope N_check_span ["span"] (defScope s_check_span) := ⟨rfl, rfl, rfl, by decide +kernel, rfl, by decide +kernel, by decide +kernel⟩
abbrev s_check_spans : Stmt := topS 10
abbrev N_check_spans : List Str := ["spans", "span"]
theorem sc_check_spans : FnScope N_check_spans ["spans"] (defScope s_check_spans) := ⟨rfl, rfl, rfl, by decide +kernel, rfl, by decide +kernel, by decide +kernel⟩
abbrev s_changes_of : Stmt := topS 12
abbrev N_changes_of : List Str := ["spans", "changes", "low", "high", "place"]
theorem sc_changes_of : FnScope N_changes_of ["spans"] (defScope s_changes_of) := ⟨rfl, rfl, rfl, by decide +kernel, rfl, by decide +kernel, by decide +kernel⟩
abbrev s_layers_of : Stmt := topS 13
abbrev N_layers_of : List Str := ["spans", "layers", "depth", "begin", "place", "change"]
theorem sc_layers_of : FnScope N_layers_of ["spans"] (defScope s_layers_of) := ⟨rfl, rfl, rfl, by decide +kernel, rfl, by decide +kernel, by decide +kernel⟩
abbrev s_deepest_layer : Stmt := topS 14
abbrev N_deepest_layer : List Str := ["spans", "best", "low", "high", "depth"]
theorem sc_deepest_layer : FnScope N_deepest_layer ["spans"] (defScope s_deepest_layer) := ⟨rfl, rfl, rfl, by decide +kernel, rfl, by decide +kernel, by decide +kernel⟩
abbrev s_profile : Stmt := topS 15
abbrev N_profile : List Str := ["spans"]
theorem sc_profile : FnScope N_profile ["spans"] (defScope s_profile) := ⟨rfl, rfl, rfl, by decide +kernel, rfl, by decide +kernel, by decide +kernel⟩
abbrev s_deepest : Stmt := topS 16
abbrev N_deepest : List Str := ["spans"]
theorem sc_deepest : FnScope N_deepest ["spans"] (defScope s_deepest) := ⟨rfl, rfl, rfl, by decide +kernel, rfl, by decide +kernel, by decide +kernel⟩
abbrev s_l_at : Stmt := topS 18
abbrev N_l_at : List Str := ["_law_script", "_law_k"]
theorem sc_l_at : FnScope N_l_at ["_law_script", "_law_k"] (defScope s_l_at) := ⟨rfl, rfl, rfl, by decide +kernel, rfl, by decide +kernel, by decide +kernel⟩
abbrev s_l_mixed : Stmt := topS 19
abbrev N_l_mixed : List Str := ["_law_cell", "_law_k", "_law_number_here"]
theorem sc_l_mixed : FnScope N_l_mixed ["_law_cell", "_law_k"] (defScope s_l_mixed) := ⟨rfl, rfl, rfl, by decide +kernel, rfl, by decide +kernel, by decide +kernel⟩
abbrev s_l_purse : Stmt := topS 20
abbrev N_l_purse : List Str := ["_law_script", "_law_at_here", "_law_cell"]
theorem sc_l_purse : FnScope N_l_purse ["_law_script", "_law_at_here"] (defScope s_l_purse) := ⟨rfl, rfl, rfl, by decide +kernel, rfl, by decide +kernel, by decide +kernel⟩
abbrev s_l_draw : Stmt := topS 21
abbrev N_l_draw : List Str := ["_law_purse_here", "_law_out_of", "_law_drawn", "_law_number_here", "_law_k"]
theorem sc_l_draw : FnScope N_l_draw ["_law_purse_here", "_law_out_of"] (defScope s_l_draw) := ⟨rfl, rfl, rfl, by decide +kernel, rfl, by decide +kernel, by decide +kernel⟩
abbrev s_l_number : Stmt := topS 22
abbrev N_l_number : List Str := ["_law_purse_here", "_law_most", "_law_far"]
theorem sc_l_number : FnScope N_l_number ["_law_purse_here", "_law_most"] (defScope s_l_number) := ⟨rfl, rfl, rfl, by decide +kernel, rfl, by decide +kernel, by decide +kernel⟩
abbrev s_l_end : Stmt := topS 23
abbrev N_l_end : List Str := ["_law_purse_here", "_law_ends_here", "_law_most", "_law_near"]
theorem sc_l_end : FnScope N_l_end ["_law_purse_here", "_law_ends_here", "_law_most"] (defScope s_l_end) := ⟨rfl, rfl, rfl, by decide +kernel, rfl, by decide +kernel, by decide +kernel⟩
abbrev s_l_span : Stmt := topS 24
abbrev N_l_span : List Str := ["_law_purse_here", "_law_ends_here", "_law_most", "_law_one", "_law_other", "_law_low", "_law_high"]
theorem sc_l_span : FnScope N_l_span ["_law_purse_here", "_law_ends_here", "_law_most"] (defScope s_l_span) := ⟨rfl, rfl, rfl, by decide +kernel, rfl, by decide +kernel, by decide +kernel⟩
abbrev s_l_order : Stmt := topS 25
abbrev N_l_order : List Str := ["_law_purse_here", "_law_some", "_law_left", "_law_found"]
theorem sc_l_order : FnScope N_l_order ["_law_purse_here", "_law_some"] (defScope s_l_order) := ⟨rfl, rfl, rfl, by decide +kernel, rfl, by decide +kernel, by decide +kernel⟩
abbrev s_l_spans : Stmt := topS 26
abbrev N_l_spans : List Str := ["_law_purse_here", "_law_ends_here", "_law_most", "_law_found", "_law_k"]
theorem sc_l_spans : FnScope N_l_spans ["_law_purse_here", "_law_ends_here", "_law_most"] (defScope s_l_spans) := ⟨rfl, rfl, rfl, by decide +kernel, rfl, by decide +kernel, by decide +kernel⟩
abbrev s_l_holds : Stmt := topS 27
abbrev N_l_holds : List Str := ["_law_span_here", "_law_place"]
theorem sc_l_holds : FnScope N_l_holds ["_law_span_here", "_law_place"] (defScope s_l_holds) := ⟨rfl, rfl, rfl, by decide +kernel, rfl, by decide +kernel, by decide +kernel⟩
abbrev s_l_depth : Stmt := topS 28
abbrev N_l_depth : List Str := ["_law_spans_here", "_law_place", "_law_span_here"]
theorem sc_l_depth : FnScope N_l_depth ["_law_spans_here", "_law_place"] (defScope s_l_depth) := ⟨rfl, rfl, rfl, by decide +kernel, rfl, by decide +kernel, by decide +kernel⟩
abbrev s_l_ends : Stmt := topS 29
abbrev N_l_ends : List Str := ["_law_spans_here", "_law_span_here"]
theorem sc_l_ends : FnScope N_l_ends ["_law_spans_here"] (defScope s_l_ends) := ⟨rfl, rfl, rfl, by decide +kernel, rfl, by decide +kernel, by decide +kernel⟩
abbrev s_l_whole : Stmt := topS 30
abbrev N_l_whole : List Str := ["_law_number_here"]
theorem sc_l_whole : FnScope N_l_whole ["_law_number_here"] (defScope s_l_whole) := ⟨rfl, rfl, rfl, by decide +kernel, rfl, by decide +kernel, by decide +kernel⟩
abbrev s_l_wholes : Stmt := topS 31
abbrev N_l_wholes : List Str := ["_law_some", "_law_one"]
theorem sc_l_wholes : FnScope N_l_wholes ["_law_some"] (defScope s_l_wholes) := ⟨rfl, rfl, rfl, by decide +kernel, rfl, by decide +kernel, by decide +kernel⟩
abbrev s_l_pieces : Stmt := topS 32
abbrev N_l_pieces : List Str := ["_law_spans_here", "_law_ends_here", "_law_found", "_law_k", "_law_deep"]
theorem sc_l_pieces : FnScope N_l_pieces ["_law_spans_here"] (defScope s_l_pieces) := ⟨rfl, rfl, rfl, by decide +kernel, rfl, by decide +kernel, by decide +kernel⟩
abbrev s_law : Stmt := topS 33
abbrev N_law : List Str := ["_law_script", "_law_purse_here", "_law_spans_here", "_law_due", "_law_best", "_law_piece", "_law_deep", "_law_some", "_law_kept", "_law_found"]
theorem sc_law : FnScope N_law ["_law_script"] (defScope s_law) := ⟨rfl, rfl, rfl, by decide +kernel, rfl, by decide +kernel, by decide +kernel⟩

structure Tx (K : PySem.W.Frag) (mg : Str → Option Value) where
  f_is_whole : Addr
  fd_is_whole : FuncData
  F_is_whole : Fun K "is_whole" "is_whole" s_is_whole f_is_whole fd_is_whole
  b_is_whole : Binds K fd_is_whole ["number"] []
  g_is_whole : mg "is_whole" = some (.ref f_is_whole)
  f_is_place : Addr
  fd_is_place : FuncData
  F_is_place : Fun K "is_place" "is_place" s_is_place f_is_place fd_is_place
  b_is_place : Binds K fd_is_place ["number"] []
  g_is_place : mg "is_place" = some (.ref f_is_place)
  f_is_span : Addr
  fd_is_span : FuncData
  F_is_span : Fun K "is_span" "is_span" s_is_span f_is_span fd_is_span
  b_is_span : Binds K fd_is_span ["span"] []
  g_is_span : mg "is_span" = some (.ref f_is_span)
  f_check_span : Addr
  fd_check_span : FuncData
  F_check_span : Fun K "check_span" "check_span" s_check_span f_check_span fd_check_span
  b_check_span : Binds K fd_check_span ["span"] []
  g_check_span : mg "check_span" = some (.ref f_check_span)
  f_check_spans : Addr
  fd_check_spans : FuncData
  F_check_spans : Fun K "check_spans" "check_spans" s_check_spans f_check_spans fd_check_spans
  b_check_spans : Binds K fd_check_spans ["spans"] []
  g_check_spans : mg "check_spans" = some (.ref f_check_spans)
  f_changes_of : Addr
  fd_changes_of : FuncData
  F_changes_of : Fun K "changes_of" "changes_of" s_changes_of f_changes_of fd_changes_of
  b_changes_of : Binds K fd_changes_of ["spans"] []
  g_changes_of : mg "changes_of" = some (.ref f_changes_of)
  f_layers_of : Addr
  fd_layers_of : FuncData
  F_layers_of : Fun K "layers_of" "layers_of" s_layers_of f_layers_of fd_layers_of
  b_layers_of : Binds K fd_layers_of ["spans"] []
  g_layers_of : mg "layers_of" = some (.ref f_layers_of)
  f_deepest_layer : Addr
  fd_deepest_layer : FuncData
  F_deepest_layer : Fun K "deepest_layer" "deepest_layer" s_deepest_layer f_deepest_layer fd_deepest_layer
  b_deepest_layer : Binds K fd_deepest_layer ["spans"] []
  g_deepest_layer : mg "deepest_layer" = some (.ref f_deepest_layer)
  f_profile : Addr
  fd_profile : FuncData
  F_profile : Fun K "profile" "profile" s_profile f_profile fd_profile
  b_profile : Binds K fd_profile ["spans"] []
  g_profile : mg "profile" = some (.ref f_profile)
  f_deepest : Addr
  fd_deepest : FuncData
  F_deepest : Fun K "deepest" "deepest" s_deepest f_deepest fd_deepest
  b_deepest : Binds K fd_deepest ["spans"] []
  g_deepest : mg "deepest" = some (.ref f_deepest)
  f_l_at : Addr
  fd_l_at : FuncData
  F_l_at : Fun K "_law_at" "_law_at" s_l_at f_l_at fd_l_at
  b_l_at : Binds K fd_l_at ["_law_script", "_law_k"] []
  g_l_at : mg "_law_at" = some (.ref f_l_at)
  f_l_mixed : Addr
  fd_l_mixed : FuncData
  F_l_mixed : Fun K "_law_mixed" "_law_mixed" s_l_mixed f_l_mixed fd_l_mixed
  b_l_mixed : Binds K fd_l_mixed ["_law_cell", "_law_k"] []
  g_l_mixed : mg "_law_mixed" = some (.ref f_l_mixed)
  f_l_purse : Addr
  fd_l_purse : FuncData
  F_l_purse : Fun K "_law_purse" "_law_purse" s_l_purse f_l_purse fd_l_purse
  b_l_purse : Binds K fd_l_purse ["_law_script", "_law_at_here"] []
  g_l_purse : mg "_law_purse" = some (.ref f_l_purse)
  f_l_draw : Addr
  fd_l_draw : FuncData
  F_l_draw : Fun K "_law_draw" "_law_draw" s_l_draw f_l_draw fd_l_draw
  b_l_draw : Binds K fd_l_draw ["_law_purse_here", "_law_out_of"] []
  g_l_draw : mg "_law_draw" = some (.ref f_l_draw)
  f_l_number : Addr
  fd_l_number : FuncData
  F_l_number : Fun K "_law_number" "_law_number" s_l_number f_l_number fd_l_number
  b_l_number : Binds K fd_l_number ["_law_purse_here", "_law_most"] []
  g_l_number : mg "_law_number" = some (.ref f_l_number)
  f_l_end : Addr
  fd_l_end : FuncData
  F_l_end : Fun K "_law_end" "_law_end" s_l_end f_l_end fd_l_end
  b_l_end : Binds K fd_l_end ["_law_purse_here", "_law_ends_here", "_law_most"] []
  g_l_end : mg "_law_end" = some (.ref f_l_end)
  f_l_span : Addr
  fd_l_span : FuncData
  F_l_span : Fun K "_law_span" "_law_span" s_l_span f_l_span fd_l_span
  b_l_span : Binds K fd_l_span ["_law_purse_here", "_law_ends_here", "_law_most"] []
  g_l_span : mg "_law_span" = some (.ref f_l_span)
  f_l_order : Addr
  fd_l_order : FuncData
  F_l_order : Fun K "_law_order" "_law_order" s_l_order f_l_order fd_l_order
  b_l_order : Binds K fd_l_order ["_law_purse_here", "_law_some"] []
  g_l_order : mg "_law_order" = some (.ref f_l_order)
  f_l_spans : Addr
  fd_l_spans : FuncData
  F_l_spans : Fun K "_law_spans" "_law_spans" s_l_spans f_l_spans fd_l_spans
  b_l_spans : Binds K fd_l_spans ["_law_purse_here", "_law_ends_here", "_law_most"] []
  g_l_spans : mg "_law_spans" = some (.ref f_l_spans)
  f_l_holds : Addr
  fd_l_holds : FuncData
  F_l_holds : Fun K "_law_holds" "_law_holds" s_l_holds f_l_holds fd_l_holds
  b_l_holds : Binds K fd_l_holds ["_law_span_here", "_law_place"] []
  g_l_holds : mg "_law_holds" = some (.ref f_l_holds)
  f_l_depth : Addr
  fd_l_depth : FuncData
  F_l_depth : Fun K "_law_depth" "_law_depth" s_l_depth f_l_depth fd_l_depth
  b_l_depth : Binds K fd_l_depth ["_law_spans_here", "_law_place"] []
  g_l_depth : mg "_law_depth" = some (.ref f_l_depth)
  f_l_ends : Addr
  fd_l_ends : FuncData
  F_l_ends : Fun K "_law_ends" "_law_ends" s_l_ends f_l_ends fd_l_ends
  b_l_ends : Binds K fd_l_ends ["_law_spans_here"] []
  g_l_ends : mg "_law_ends" = some (.ref f_l_ends)
  f_l_whole : Addr
  fd_l_whole : FuncData
  F_l_whole : Fun K "_law_whole" "_law_whole" s_l_whole f_l_whole fd_l_whole
  b_l_whole : Binds K fd_l_whole ["_law_number_here"] []
  g_l_whole : mg "_law_whole" = some (.ref f_l_whole)
  f_l_wholes : Addr
  fd_l_wholes : FuncData
  F_l_wholes : Fun K "_law_wholes" "_law_wholes" s_l_wholes f_l_wholes fd_l_wholes
  b_l_wholes : Binds K fd_l_wholes ["_law_some"] []
  g_l_wholes : mg "_law_wholes" = some (.ref f_l_wholes)
  f_l_pieces : Addr
  fd_l_pieces : FuncData
  F_l_pieces : Fun K "_law_pieces" "_law_pieces" s_l_pieces f_l_pieces fd_l_pieces
  b_l_pieces : Binds K fd_l_pieces ["_law_spans_here"] []
  g_l_pieces : mg "_law_pieces" = some (.ref f_l_pieces)
  f_law : Addr
  fd_law : FuncData
  F_law : Fun K "law" "law" s_law f_law fd_law
  b_law : Binds K fd_law ["_law_script"] []
  g_law : mg "law" = some (.ref f_law)
  tc_LEAST_PLACE : Tok
  c_LEAST_PLACE : mg "LEAST_PLACE" = some (.int (-999999999999) tc_LEAST_PLACE)
  tc_GREATEST_PLACE : Tok
  c_GREATEST_PLACE : mg "GREATEST_PLACE" = some (.int (999999999999) tc_GREATEST_PLACE)
  C_ShelfError : Addr
  g_ShelfError : mg "ShelfError" = some (.ref C_ShelfError)
  x_ShelfError : PySem.W.excIn K C_ShelfError [.type "ValueError", .type "Exception", .type "BaseException", .type "object"] "ValueError.__new__" = true
  k_ShelfError : PySem.W.keepIn K (.ref C_ShelfError) = true
  b_ShelfError : PySem.W.subIn K (.ref C_ShelfError) (.type "BaseException") = some true
  t_ShelfError : PySem.W.typeIn K (.ref C_ShelfError) = some (.type "type")
  C_NoSpan : Addr
  g_NoSpan : mg "NoSpan" = some (.ref C_NoSpan)
  x_NoSpan : PySem.W.excIn K C_NoSpan [.type "ValueError", .type "Exception", .type "BaseException", .type "object"] "ValueError.__new__" = true
  k_NoSpan : PySem.W.keepIn K (.ref C_NoSpan) = true
  b_NoSpan : PySem.W.subIn K (.ref C_NoSpan) (.type "BaseException") = some true
  t_NoSpan : PySem.W.typeIn K (.ref C_NoSpan) = some (.type "type")
  m_bool : mg "bool" = none
  m_int : mg "int" = none
  m_isinstance : mg "isinstance" = none
  m_len : mg "len" = none
  m_list : mg "list" = none
  m_max : mg "max" = none
  m_min : mg "min" = none
  m_range : mg "range" = none
  m_set : mg "set" = none
  m_sorted : mg "sorted" = none
  m_tuple : mg "tuple" = none
section
variable {P : Program} {w : World} {K : PySem.W.Frag} {mg : Str → Option Value} {base : Heap}
/-! ### the cell, the mixing, the purse, a draw -/
def spAt (K : PySem.W.Frag) : Sp := fun vs H Q _ => ∃ (a : Addr) (ns : List Int) (k : Int), vs = [.ref a, .int k] ∧ SqL K H a (ns.map V.int) ∧ 0 ≤ k ∧ ∀ z, Q (.int z) H
theorem ok_at (T : Tx K mg) : FnOk P w K mg base CX0 (1) T.f_l_at T.fd_l_at ["_law_script", "_law_k"] (spAt K) := by
  refine T.F_l_at.ok sc_l_at (fun vs H Q E h => ?_) (fun cdv A outer s H vs Q E hr h => ?_)
  · obtain ⟨a, ns, k, rfl, _⟩ := h
    rfl
  · obtain ⟨a, ns, k, rfl, hS, h0, q⟩ := h
    refine ⟨_, (pss_cons (ps_if (pt_cmpR op_lt (pv 1) (pe_callB call_len_seq (by rfl) T.m_len PySem.boot_len (pa_cons (pv 0) pa_nil)) (nomark _)) (pss_one (ps_ret (pe_ix ix_list (pv 0) (pv 1) (fun _ _ => rfl)))) pss_nil)
      (pss_one (ps_ret pe_int))), ?_⟩
    refine ⟨_, rfl, _, rfl, a, _, rfl, .inl hS, _, _, rfl, rfl, _, rfl, ite2 (fun e => ?_) (fun e => ?_)⟩
    · have e0 : k < ((ns.map V.int).length : Int) := of_decide_eq_true e
      rw [List.length_map] at e0
      have h1 : k.toNat < ns.length := by omega
      refine ⟨_, rfl, _, rfl, a, _, k, .int ns[k.toNat], rfl, rfl, hS, at_of (j := k.toNat) (by omega) ?_, q _⟩
      rw [List.getElem?_map, List.getElem?_eq_getElem h1]
      rfl
    · exact q 0
def spMixed : Sp := fun vs H Q _ => ∃ (a k : Int), vs = [.int a, .int k] ∧ 0 ≤ k ∧ k < 2 ^ 60 ∧ 0 ≤ a ∧ a < 2 ^ 60 ∧ ∀ z : Int, 0 ≤ z → z < 2147483587 → Q (.int z) H
theorem ok_mixed (T : Tx K mg) : FnOk P w K mg base CX0 (1) T.f_l_mixed T.fd_l_mixed ["_law_cell", "_law_k"] spMixed := by
  refine T.F_l_mixed.ok sc_l_mixed (fun vs H Q E h => ?_) (fun cdv A outer s H vs Q E hr h => ?_)
  · obtain ⟨a, k, rfl, _⟩ := h
    rfl
  · obtain ⟨a, k, rfl, h0, h1, h2, h3, q⟩ := h
    refine ⟨_, (pss_cons (ps_set (i := 2) sc_l_mixed.nd rfl (Or.inl rfl) (pe_op op_mod (pe_op op_add (pe_op op_add (pe_op op_add (pe_op op_mul (pv 0) pe_int) (pe_op op_mul (pe_op op_mul pe_int (pv 1)) (pv 1))) (pv 1)) pe_int) pe_int))
      (pss_cons (ps_set (i := 2) sc_l_mixed.nd rfl (Or.inl rfl) (pe_op op_mod (pe_op op_add (pe_op op_mul (pv 2) (pv 2)) pe_int) pe_int))
      (pss_one (ps_ret (pe_op op_mod (pe_op op_mul (pv 2) pe_int) pe_int))))), ?_⟩
    refine ⟨_, rfl, _, _, rfl, rfl, .inr ⟨by decide, by decide⟩, _, rfl, _, _, rfl, rfl, .inl ⟨by decide, by decide⟩, _, rfl, _, _, rfl, rfl, .inr ⟨by omega, by omega⟩, _, _, rfl, rfl, _, rfl, _, _, rfl, rfl, _, _, rfl, rfl, _, _, rfl, rfl, by show (0 : Int) < 2147483647; decide, ?_⟩
    generalize hx : (a * 1103515245 + 7919 * k * k + k + 1) % 2147483647 = x
    have x0 : 0 ≤ x := by omega
    have x1 : x < 2147483647 := by omega
    clear hx
    refine ⟨_, rfl, _, rfl, _, _, rfl, rfl, .inl ⟨by omega, by omega⟩, _, _, rfl, rfl, _, _, rfl, rfl, by show (0 : Int) < 2147483629; decide, ?_⟩
    generalize hy : (x * x + 69621) % 2147483629 = y
    have y0 : 0 ≤ y := by omega
    have y1 : y < 2147483629 := by omega
    clear hy
    refine ⟨_, rfl, _, _, rfl, rfl, .inl ⟨by omega, by omega⟩, _, _, rfl, rfl, by show (0 : Int) < 2147483587; decide, ?_⟩
    exact q _ (by omega) (by omega)
def spPurse (K : PySem.W.Frag) : Sp := fun vs H Q _ => ∃ (a : Addr) (ns : List Int) (k : Int), vs = [.ref a, .int k] ∧ SqL K H a (ns.map V.int) ∧ 0 ≤ k ∧ k ≤ 63 ∧ ∀ H' p, Same H H' → H p = none → Pu H' p 63000 → Q (.ref p) H'
theorem ok_purse (T : Tx K mg) : FnOk P w K mg base CX0 (2) T.f_l_purse T.fd_l_purse ["_law_script", "_law_at_here"] (spPurse K) := by
  have G_l_at : FnOk P w K mg base CX0 _ _ _ _ _ := ok_at T
  refine T.F_l_purse.ok sc_l_purse (fun vs H Q E h => ?_) (fun cdv A outer s H vs Q E hr h => ?_)
  · obtain ⟨a, ns, k, rfl, _⟩ := h
    rfl
  · obtain ⟨a, ns, k, rfl, hS, h0, h1, q⟩ := h
    refine ⟨_, (pss_cons (ps_set (i := 2) sc_l_purse.nd rfl (Or.inl rfl) (pe_call G_l_at (hr.mono (by decide)) (by rfl) T.g_l_at T.F_l_at.kp T.b_l_at .nil pass0 (pa_cons (pv 0) (pa_cons (pv 1) pa_nil))))
      (pss_one (ps_ret (pe_lst (pa_cons (pe_callB (call_max2 rfl) (by rfl) T.m_max (by decide +kernel) (pa_cons (pe_op op_sub (pv 2) (pe_op op_pow pe_int pe_int)) (pa_cons pe_int pa_nil))) (pa_cons (pe_op op_mod (pv 2) pe_int) (pa_cons (pe_op op_mul pe_int (pv 1)) pa_nil))))))), ?_⟩
    refine ⟨_, rfl, _, rfl, a, ns, k, rfl, hS, h0, fun z => ?_⟩
    refine ⟨_, rfl, _, _, rfl, rfl, ⟨by decide, by decide, by decide⟩, _, _, rfl, rfl, _, _, rfl, _, rfl, _, _, rfl, rfl, by show (0 : Int) < 2147483647; decide, _, rfl, _, _, rfl, rfl, .inl ⟨by decide, by decide⟩, small_le (by simp), fun p np => ?_⟩
    refine q _ p (same_upd np) np ⟨_, _, _, upd_same, ?_, by omega, by omega, by omega, by omega⟩
    split <;> omega
def spDraw : Sp := fun vs H Q _ => ∃ (p : Addr) (m : Int) (n : Nat), vs = [.ref p, .int m] ∧ Pu H p n ∧ n ≤ 1000000000 ∧ 0 < m ∧ m < 2 ^ 88 ∧ ∀ H' r, Chg [p] H H' → Pu H' p (n + 3) → 0 ≤ r → r < m → Q (.int r) H'
theorem bits_le {m : Int} (h0 : 0 < m) (h1 : m < 2 ^ 88) : (Builtin.Int.intBits m : Nat) ≤ 88 := by
  have h : m.natAbs < 2 ^ 88 := by
    have e : (2 : Int) ^ 88 = ((2 ^ 88 : Nat) : Int) := by decide
    rw [e] at h1
    omega
  exact PyProof.Rows.intBits_le h
theorem ok_draw (T : Tx K mg) : FnOk P w K mg base CX0 (2) T.f_l_draw T.fd_l_draw ["_law_purse_here", "_law_out_of"] spDraw := by
  have G_l_mixed : FnOk P w K mg base CX0 _ _ _ _ _ := ok_mixed T
  refine T.F_l_draw.ok sc_l_draw (fun vs H Q E h => ?_) (fun cdv A outer s H vs Q E hr h => ?_)
  · obtain ⟨p, m, n, rfl, _⟩ := h
    rfl
  · obtain ⟨p, m, n, rfl, hp, hn, h0, h1, q⟩ := h
    obtain ⟨a, b, c, hP, ha, hb, hb1, hc, hc1⟩ := hp
    refine ⟨_, (pss_cons (ps_if (pt_cmpR op_gt (pe_ix ix_list (pv 0) pe_int (fun _ _ => rfl)) pe_int (nomark _)) (pss_cons (ps_set (i := 2) sc_l_draw.nd rfl (Or.inl rfl) (pe_op op_mod (pe_ix ix_list (pv 0) pe_int (fun _ _ => rfl)) (pv 1)))
      (pss_cons (ps_asg (pe_op op_fdivW (pe_ix ix_list (pv 0) pe_int (fun _ _ => rfl)) (pv 1)) (pg_sub (pv 0) pe_int set_list))
      (pss_one (ps_ret (pv 2))))) pss_nil)
      (pss_cons (ps_set (i := 3) sc_l_draw.nd rfl (Or.inl rfl) pe_int)
      (pss_cons (ps_for PassesOwn.never (by rfl) (pi_range1 (by rfl) T.m_range (pa_cons (pe_op op_add pe_int (pe_op op_fdiv (pe_bits (pv 1)) pe_int)) pa_nil)) (pg_name (i := 4) sc_l_draw.nd rfl (Or.inl rfl))
        (pss_cons (ps_asg (pe_op op_add (pe_ix ix_list (pv 0) pe_int (fun _ _ => rfl)) pe_int) (pg_sub (pv 0) pe_int set_list))
      (pss_one (ps_set (i := 3) sc_l_draw.nd rfl (Or.inl rfl) (pe_op op_add (pe_op op_mul (pv 3) pe_int) (pe_call G_l_mixed (hr.mono (by decide)) (by rfl) T.g_l_mixed T.F_l_mixed.kp T.b_l_mixed .nil pass0 (pa_cons (pe_ix ix_list (pv 0) pe_int (fun _ _ => rfl)) (pa_cons (pe_ix ix_list (pv 0) pe_int (fun _ _ => rfl)) pa_nil))))))))
      (pss_one (ps_ret (pe_op op_mod (pv 3) (pv 1))))))), ?_⟩
    have hS : SqL K H p [.int a, .int b, .int c] := SqL.of hP
    refine ⟨_, rfl, p, _, _, _, rfl, rfl, hS, atI_nat (j := 0) rfl, _, _, rfl, rfl, _, rfl, ite2 (fun e => ?_) (fun e => ?_)⟩
    · have ea : 0 < a := of_decide_eq_true e
      refine ⟨_, rfl, p, _, _, _, rfl, rfl, hS, atI_nat (j := 0) rfl, _, rfl, _, _, rfl, rfl, h0, ?_⟩
      refine ⟨_, rfl, p, _, _, _, rfl, rfl, hS, atI_nat (j := 0) rfl, _, rfl, _, _, rfl, rfl, wide_div (b := 88) h0 ?_ (by decide) (by decide), ?_⟩
      · have e : (2 : Int) ^ 88 = ((2 ^ 88 : Nat) : Int) := by decide
        rw [e] at h1
        omega
      refine ⟨_, rfl, p, _, _, 0, rfl, rfl, hP, rfl, ?_⟩
      refine ⟨_, rfl, ?_⟩
      refine q _ _ (Chg.upd List.mem_cons_self) ⟨a / m, b, c, upd_same, Int.ediv_nonneg ha (by omega), hb, hb1, hc, by omega⟩ (Int.emod_nonneg _ (by omega)) (Int.emod_lt_of_pos _ h0)
    · have hb88 := bits_le h0 h1
      refine ⟨_, rfl, _, rfl, _, _, rfl, rfl, ⟨by decide, by decide⟩, _, _, rfl, rfl, _, rfl, by omega, by omega, ?_⟩
      refine for_range (lo := 0) (n := (1 + ((Builtin.Int.intBits m : Nat) : Int) / 30).toNat) (fun i σ H' => ∃ (x : Int) (c' : Int) (y4 : Option V), σ = [some (.ref p), some (.int m), none, some (.int x), y4] ∧ Chg [p] H H' ∧ H' p = some (.lst [.int a, .int b, .int c']) ∧ c' = c + i ∧ 0 ≤ x ∧ x < 2 ^ (32 * i)) ⟨0, c, none, rfl, Chg.refl _ _, hP, by omega, by omega, by decide⟩ ?_ ?_
      · rintro i σ H' hi ⟨x, c', y4, rfl, hch, hP', hc', x0, x1⟩
        have hi3 : i ≤ 2 := by omega
        refine ⟨_, rfl, p, _, _, _, rfl, rfl, SqL.of hP', atI_nat (j := 2) rfl, _, _, rfl, rfl, _, rfl, p, _, _, 2, rfl, rfl, hP', rfl, ?_⟩
        have hP2 : (upd H' p (.lst [.int a, .int b, .int (c' + 1)])) p = some (.lst [.int a, .int b, .int (c' + 1)]) := upd_same
        refine ⟨_, rfl, _, _, rfl, rfl, .inr ⟨by decide, by decide⟩, _, rfl, p, _, _, _, rfl, rfl, SqL.of hP2, atI_nat (j := 1) rfl, _, rfl, p, _, _, _, rfl, rfl, SqL.of hP2, atI_nat (j := 2) rfl, b, c' + 1, rfl, by omega, by omega, hb, by omega, fun z z0 z1 => ?_⟩
        refine ⟨_, _, rfl, rfl, x * 2147483587 + z, c' + 1, _, rfl, hch.trans (Chg.upd List.mem_cons_self), hP2, by omega, by omega, ?_⟩
        have e : (2 : Int) ^ (32 * (i + 1)) = 2 ^ (32 * i) * 4294967296 := by
          rw [Nat.mul_add, Int.pow_add]
          rfl
        rw [e]
        omega
      · rintro σ H' ⟨x, c', y4, rfl, hch, hP', hc', x0, x1⟩
        refine ⟨_, rfl, _, rfl, _, _, rfl, rfl, h0, ?_⟩
        exact q _ _ hch ⟨a, b, c', hP', ha, hb, hb1, by omega, by omega⟩ (Int.emod_nonneg _ (by omega)) (Int.emod_lt_of_pos _ h0)
end
section
variable {P : Program} {w : World} {K : PySem.W.Frag} {mg : Str → Option Value} {base : Heap}
/-! ### a number, an end, a span -/
def spNumber : Sp := fun vs H Q _ => ∃ (p : Addr) (m : Int) (n : Nat), vs = [.ref p, .int m] ∧ Pu H p n ∧ n + 6 ≤ 1000000000 ∧ 30 ≤ m ∧ m < 2 ^ 60 ∧ ∀ H' r, Chg [p] H H' → Pu H' p (n + 6) → -m ≤ r → r ≤ m → Q (.int r) H'
theorem far_of {m r : Int} (h0 : 0 ≤ r) (h1 : r < 4) (hm : 30 ≤ m) : ∃ f, ([.int 1, .int 4, .int 30, .int m] : List V)[r.toNat]? = some (.int f) ∧ 1 ≤ f ∧ f ≤ m := by
  have h : r = 0 ∨ r = 1 ∨ r = 2 ∨ r = 3 := by omega
  rcases h with rfl | rfl | rfl | rfl
  · exact ⟨1, rfl, by omega, by omega⟩
  · exact ⟨4, rfl, by omega, by omega⟩
  · exact ⟨30, rfl, by omega, by omega⟩
  · exact ⟨m, rfl, by omega, by omega⟩
theorem ok_number (T : Tx K mg) : FnOk P w K mg base CX0 (3) T.f_l_number T.fd_l_number ["_law_purse_here", "_law_most"] spNumber := by
  have G_l_draw : FnOk P w K mg base CX0 _ _ _ _ _ := ok_draw T
  refine T.F_l_number.ok sc_l_number (fun vs H Q E h => ?_) (fun cdv A outer s H vs Q E hr h => ?_)
  · obtain ⟨p, m, n, rfl, _⟩ := h
    rfl
  · obtain ⟨p, m, n, rfl, hp, hn, h0, h1, q⟩ := h
    refine ⟨_, (pss_cons (ps_set (i := 2) sc_l_number.nd rfl (Or.inl rfl) (pe_ix ix_list (pe_lst (pa_cons pe_int (pa_cons pe_int (pa_cons pe_int (pa_cons (pv 1) pa_nil))))) (pe_call G_l_draw (hr.mono (by decide)) (by rfl) T.g_l_draw T.F_l_draw.kp T.b_l_draw .nil pass0 (pa_cons (pv 0) (pa_cons pe_int pa_nil))) (fun _ _ => rfl)))
      (pss_one (ps_ret (pe_op op_sub (pe_call G_l_draw (hr.mono (by decide)) (by rfl) T.g_l_draw T.F_l_draw.kp T.b_l_draw .nil pass0 (pa_cons (pv 0) (pa_cons (pe_op op_add (pe_op op_mul pe_int (pv 2)) pe_int) pa_nil))) (pv 2))))), ?_⟩
    refine ⟨_, rfl, small_le (by simp), fun l nl => ?_⟩
    have s1 := same_upd (o := .lst [.int 1, .int 4, .int 30, .int m]) nl
    have npl : p ≠ l := hp.ne nl
    refine ⟨_, rfl, p, 4, n, rfl, hp.same s1, by omega, by decide, by decide, fun H1 r c1 p1 r0 r1 => ?_⟩
    obtain ⟨f, hf, f0, f1⟩ := far_of r0 r1 h0
    refine ⟨l, _, r, _, rfl, rfl, SqL.of (c1 _ _ (nmem1 npl.symm) upd_same), at_of (j := r.toNat) (by omega) hf, ?_⟩
    refine ⟨_, rfl, _, rfl, _, _, rfl, rfl, .inl ⟨by decide, by decide⟩, _, _, rfl, rfl, p, 2 * f + 1, n + 3, rfl, p1, by omega, by omega, by omega, fun H2 x c2 p2 x0 x1 => ?_⟩
    refine ⟨_, rfl, _, _, rfl, rfl, q _ _ ((Chg.of_same s1).trans (c1.trans c2)) p2 (by omega) (by omega)⟩
def spEnd (K : PySem.W.Frag) : Sp := fun vs H Q _ => ∃ (p e : Addr) (m : Int) (n : Nat) (ns : List Int), vs = [.ref p, .ref e, .int m] ∧ Pu H p n ∧ n + 9 ≤ 1000000000 ∧ SqL K H e (ns.map V.int) ∧ e ≠ p ∧ ns.length ≤ 1000000 ∧ 30 ≤ m ∧ m < 2 ^ 60 ∧
  ∀ H' r, Chg [p] H H' → Pu H' p (n + 9) → -m ≤ r → r ≤ m → Q (.int r) H'
theorem ok_end (T : Tx K mg) : FnOk P w K mg base CX0 (4) T.f_l_end T.fd_l_end ["_law_purse_here", "_law_ends_here", "_law_most"] (spEnd K) := by
  have G_l_draw : FnOk P w K mg base CX0 _ _ _ _ _ := ok_draw T
  have G_l_number : FnOk P w K mg base CX0 _ _ _ _ _ := ok_number T
  refine T.F_l_end.ok sc_l_end (fun vs H Q E h => ?_) (fun cdv A outer s H vs Q E hr h => ?_)
  · obtain ⟨p, e, m, n, ns, rfl, _⟩ := h
    rfl
  · obtain ⟨p, e, m, n, ns, rfl, hp, hn, hE, hne, hlen, h0, h1, q⟩ := h
    refine ⟨_, (pss_cons (ps_if (PW.pt (pw_and (pt_cmpR (op_neD hr.units) (pv 1) (pe_lst pa_nil) (nomark _)) (pw_and1 (pt_cmpR op_gt (pe_call G_l_draw (hr.mono (by decide)) (by rfl) T.g_l_draw T.F_l_draw.kp T.b_l_draw .nil pass0 (pa_cons (pv 0) (pa_cons pe_int pa_nil))) pe_int (nomark _))))) (pss_cons (ps_set (i := 3) sc_l_end.nd rfl (Or.inl rfl) (pe_op op_sub (pe_op op_add (pe_ix ix_list (pv 1) (pe_call G_l_draw (hr.mono (by decide)) (by rfl) T.g_l_draw T.F_l_draw.kp T.b_l_draw .nil pass0 (pa_cons (pv 0) (pa_cons (pe_callB call_len_seq (by rfl) T.m_len PySem.boot_len (pa_cons (pv 1) pa_nil)) pa_nil))) (fun _ _ => rfl)) (pe_call G_l_draw (hr.mono (by decide)) (by rfl) T.g_l_draw T.F_l_draw.kp T.b_l_draw .nil pass0 (pa_cons (pv 0) (pa_cons pe_int pa_nil)))) pe_int))
      (pss_one (ps_ret (pe_callB (call_max2 rfl) (by rfl) T.m_max (by decide +kernel) (pa_cons (pe_op op_sub pe_int (pv 2)) (pa_cons (pe_callB (call_min2 rfl) (by rfl) T.m_min (by decide +kernel) (pa_cons (pv 2) (pa_cons (pv 3) pa_nil))) pa_nil)))))) pss_nil)
      (pss_one (ps_ret (pe_call G_l_number (hr.mono (by decide)) (by rfl) T.g_l_number T.F_l_number.kp T.b_l_number .nil pass0 (pa_cons (pv 0) (pa_cons (pv 2) pa_nil)))))), ?_⟩
    refine ⟨_, rfl, Nat.zero_le _, fun l nl => ?_⟩
    have s1 := same_upd (o := .lst []) nl
    refine ⟨_, _, .lst (s1.seq hE) (dpAll_ints ns), .lst (SqL.of upd_same) .nil, shaped_ints ns, shaped_nil, _, rfl, ?_⟩
    rw [eqv_ints_nil]
    by_cases hnil : ns = []
    · rw [decide_eq_true hnil]
      refine iteF (iteF ?_)
      exact ⟨_, rfl, _, rfl, p, m, n, rfl, hp.same s1, by omega, h0, h1, fun H2 x c2 p2 x0 x1 => q _ _ ((Chg.of_same s1).trans c2) (p2.mono (by omega)) x0 x1⟩
    · rw [decide_eq_false hnil]
      have hl0 : 0 < ns.length := List.length_pos_iff.mpr hnil
      refine iteT ?_
      refine ⟨_, rfl, p, 3, n, rfl, hp.same s1, by omega, by decide, by decide, fun H1 r c1 p1 r0 r1 => ?_⟩
      have hE1 : SqL K H1 e (ns.map V.int) := c1.seq (nmem1 hne) (s1.seq hE)
      refine ⟨_, _, rfl, rfl, _, rfl, ite2 (fun _ => ?_) (fun _ => ?_)⟩
      · refine ⟨_, rfl, _, rfl, _, rfl, e, _, rfl, .inl hE1, p, ns.length, n + 3, ?_, p1, by omega, by omega, by omega, fun H2 x c2 p2 x0 x1 => ?_⟩
        · rw [List.length_map]
          rfl
        have hx : x.toNat < ns.length := by omega
        refine ⟨e, _, x, .int ns[x.toNat], rfl, rfl, c2.seq (nmem1 hne) hE1, at_of (j := x.toNat) (by omega) ?_, ?_⟩
        · rw [List.getElem?_map, List.getElem?_eq_getElem hx]
          rfl
        refine ⟨_, rfl, p, 3, n + 6, rfl, p2, by omega, by decide, by decide, fun H3 y c3 p3 y0 y1 => ?_⟩
        refine ⟨_, _, rfl, rfl, _, _, rfl, rfl, ?_⟩
        refine ⟨_, rfl, _, _, rfl, rfl, _, rfl, _, rfl, _, _, rfl, _, _, rfl, ?_⟩
        refine q _ _ ((Chg.of_same s1).trans (c1.trans (c2.trans c3))) p3 ?_ ?_
        · split <;> split <;> omega
        · split <;> split <;> omega
      · exact ⟨_, rfl, _, rfl, p, m, n + 3, rfl, p1, by omega, h0, h1, fun H2 x c2 p2 x0 x1 => q _ _ ((Chg.of_same s1).trans (c1.trans c2)) p2 x0 x1⟩
theorem min3_of (a b c : Int) : ∃ z, nuMin3 (.int a) (.int b) (.int c) = some (.int z) ∧ z ≤ a ∧ z ≤ b ∧ z ≤ c ∧ (z = a ∨ z = b ∨ z = c) := by
  have e2 : ∀ x y : Int, nuMin2 (.int x) (.int y) = some (.int (if y < x then y else x)) := fun x y => by
    show (some (decide (y < x))).map (fun c => if c = true then V.int y else V.int x) = _
    by_cases h : y < x <;> simp [h]
  refine ⟨if c < (if b < a then b else a) then c else (if b < a then b else a), ?_, ?_⟩
  · unfold nuMin3
    rw [e2]
    show nuMin2 _ _ = _
    rw [e2]
  · split <;> split <;> omega
theorem max3_of (a b c : Int) : ∃ z, nuMax3 (.int a) (.int b) (.int c) = some (.int z) ∧ a ≤ z ∧ b ≤ z ∧ c ≤ z ∧ (z = a ∨ z = b ∨ z = c) := by
  have e2 : ∀ x y : Int, nuMax2 (.int x) (.int y) = some (.int (if x < y then y else x)) := fun x y => by
    show (some (decide (x < y))).map (fun c => if c = true then V.int y else V.int x) = _
    by_cases h : x < y <;> simp [h]
  refine ⟨if (if a < b then b else a) < c then c else (if a < b then b else a), ?_, ?_⟩
  · unfold nuMax3
    rw [e2]
    show nuMax2 _ _ = _
    rw [e2]
  · split <;> split <;> omega
def spSpan : Sp := fun vs H Q _ => ∃ (p e : Addr) (m : Int) (n : Nat) (ns : List Int), vs = [.ref p, .ref e, .int m] ∧ Pu H p n ∧ n + 18 ≤ 1000000000 ∧ H e = some (.lst (ns.map V.int)) ∧ e ≠ p ∧ ns.length ≤ 100000 ∧ 30 ≤ m ∧ m < 2 ^ 60 ∧
  ∀ H' t lo hi, Chg [p, e] H H' → Pu H' p (n + 18) → H' e = some (.lst ((ns ++ [lo, hi]).map V.int)) → H t = none → H' t = some (.tup [.int lo, .int hi]) → -m ≤ lo → lo < hi → hi ≤ m → Q (.ref t) H'
theorem ok_span (T : Tx K mg) : FnOk P w K mg base CX0 (5) T.f_l_span T.fd_l_span ["_law_purse_here", "_law_ends_here", "_law_most"] spSpan := by
  have G_l_end : FnOk P w K mg base CX0 _ _ _ _ _ := ok_end T
  refine T.F_l_span.ok sc_l_span (fun vs H Q E h => ?_) (fun cdv A outer s H vs Q E hr h => ?_)
  · obtain ⟨p, e, m, n, ns, rfl, _⟩ := h
    rfl
  · obtain ⟨p, e, m, n, ns, rfl, hp, hn, hE, hne, hlen, h0, h1, q⟩ := h
    refine ⟨_, (pss_cons (ps_set (i := 3) sc_l_span.nd rfl (Or.inl rfl) (pe_call G_l_end (hr.mono (by decide)) (by rfl) T.g_l_end T.F_l_end.kp T.b_l_end .nil pass0 (pa_cons (pv 0) (pa_cons (pv 1) (pa_cons (pv 2) pa_nil)))))
      (pss_cons (ps_set (i := 4) sc_l_span.nd rfl (Or.inl rfl) (pe_call G_l_end (hr.mono (by decide)) (by rfl) T.g_l_end T.F_l_end.kp T.b_l_end .nil pass0 (pa_cons (pv 0) (pa_cons (pe_op op_cat (pv 1) (pe_lst (pa_cons (pv 3) pa_nil))) (pa_cons (pv 2) pa_nil)))))
      (pss_cons (ps_set (i := 5) sc_l_span.nd rfl (Or.inl rfl) (pe_callB (call_min3Nu rfl) (by rfl) T.m_min (by decide +kernel) (pa_cons (pv 3) (pa_cons (pv 4) (pa_cons (pe_op op_sub (pv 2) pe_int) pa_nil)))))
      (pss_cons (ps_set (i := 6) sc_l_span.nd rfl (Or.inl rfl) (pe_callB (call_max3Nu rfl) (by rfl) T.m_max (by decide +kernel) (pa_cons (pv 3) (pa_cons (pv 4) (pa_cons (pe_op op_add (pv 5) pe_int) pa_nil)))))
      (pss_cons (ps_expr (pe_bm PySem.F.plainAttrs_list PySem.F.slot_list_append PySem.F.type_list_append mt_append (pv 1) (pa_cons (pv 5) pa_nil)))
      (pss_cons (ps_expr (pe_bm PySem.F.plainAttrs_list PySem.F.slot_list_append PySem.F.type_list_append mt_append (pv 1) (pa_cons (pv 6) pa_nil)))
      (pss_one (ps_ret (pe_tup (pa_cons (pv 5) (pa_cons (pv 6) pa_nil))))))))))), ?_⟩
    have up : ∀ {H H' : Hp}, Chg [p] H H' → Chg [p, e] H H' := fun c => c.mono fun x hx => by
      rw [List.mem_singleton.mp hx]
      exact List.mem_cons_self
    refine ⟨_, rfl, _, rfl, _, rfl, p, e, m, n, ns, rfl, hp, by omega, SqL.of hE, hne, by omega, h0, h1, fun H1 x c1 p1 x0 x1 => ?_⟩
    have hE1 : H1 e = some (.lst (ns.map V.int)) := c1 _ _ (nmem1 hne) hE
    refine ⟨_, rfl, _, rfl, _, rfl, small_le (by simp), fun l1 nl1 => ?_⟩
    have s1 := same_upd (o := .lst [.int x]) nl1
    refine ⟨e, l1, _, _, rfl, rfl, s1 _ _ hE1, upd_same, ?_, fun l2 nl2 => ?_⟩
    · rw [List.length_map]
      exact small_le (by simp; omega)
    have s2 := same_upd (o := .lst (ns.map V.int ++ [.int x])) nl2
    have p3 := (p1.same s1).same s2
    refine ⟨_, rfl, p, l2, m, n + 9, ns ++ [x], rfl, p3, by omega, SqL.of ?_, ?_, ?_, h0, h1, fun H2 y c2 p2 y0 y1 => ?_⟩
    · rw [List.map_append]
      exact upd_same
    · exact ((p1.same s1).ne nl2).symm
    · simp
      omega
    have hE2 : H2 e = some (.lst (ns.map V.int)) := c2 _ _ (nmem1 hne) (s2 _ _ (s1 _ _ hE1))
    have cc : Chg [p] H H2 := c1.trans ((Chg.of_same s1).trans ((Chg.of_same s2).trans c2))
    obtain ⟨lo, elo, l_1, l_2, l_3, l_4⟩ := min3_of x y (m - 1)
    refine ⟨_, rfl, _, rfl, _, rfl, _, _, rfl, rfl, _, _, _, _, rfl, elo, ?_⟩
    obtain ⟨hi, ehi, i_1, i_2, i_3, i_4⟩ := max3_of x y (lo + 1)
    refine ⟨_, rfl, _, rfl, _, rfl, _, _, rfl, rfl, _, _, _, _, rfl, ehi, ?_⟩
    refine ⟨_, rfl, .inl ⟨rfl, _, SqL.of hE2⟩, _, rfl, e, _, _, rfl, rfl, hE2, ?_, ?_⟩
    · rw [List.length_map]
      exact small_lt (by omega)
    have hE3 : (upd H2 e (.lst (ns.map V.int ++ [.int lo]))) e = some (.lst (ns.map V.int ++ [.int lo])) := upd_same
    refine ⟨_, rfl, .inl ⟨rfl, _, SqL.of hE3⟩, _, rfl, e, _, _, rfl, rfl, hE3, ?_, ?_⟩
    · rw [List.length_append, List.length_map]
      exact small_lt (by simp; omega)
    rw [upd_upd]
    refine ⟨_, rfl, _, rfl, (by show 2 ≤ sizeLine; decide), fun t nt => ?_⟩
    have hE4 : (upd H2 e (.lst (ns.map V.int ++ [.int lo] ++ [.int hi]))) e = some (.lst (ns.map V.int ++ [.int lo] ++ [.int hi])) := upd_same
    have c5 : Chg [p, e] H (upd (upd H2 e (.lst (ns.map V.int ++ [.int lo] ++ [.int hi]))) t (.tup [.int lo, .int hi])) := (up cc).trans ((Chg.upd (List.mem_cons_of_mem _ List.mem_cons_self)).trans (Chg.of_same (same_upd nt)))
    have te : t ≠ e := (ne_of_none hE4 nt).symm
    have p5 : Pu (upd H2 e (.lst (ns.map V.int ++ [.int lo] ++ [.int hi]))) p (n + 18) := p2.chg (L := [e]) (Chg.upd List.mem_cons_self) (nmem1 hne.symm)
    have tp : t ≠ p := (p5.ne nt).symm
    refine q _ t lo hi c5 (p5.same (same_upd nt)) ?_ ?_ upd_same (by omega) (by omega) (by omega)
    · rw [upd_ne te.symm, upd_same, List.map_append, List.append_assoc]
      rfl
    · rw [upd_ne te] at nt
      exact cc.free (nmem1 tp) nt
end
section
variable {P : Program} {w : World} {K : PySem.W.Frag} {mg : Str → Option Value} {base : Heap}
/-! ### the program: spans -/
def isPlace (i : Int) : Bool := decide (-999999999999 ≤ i) && decide (i ≤ 999999999999)
def isSpan (s : Span) : Bool := isPlace s.1 && isPlace s.2 && decide (s.1 < s.2)
theorem isSpan_iff (s : Span) : isSpan s = true ↔ (-999999999999 ≤ s.1 ∧ s.1 < s.2 ∧ s.2 ≤ 999999999999) := by
  unfold isSpan isPlace
  simp only [Bool.and_eq_true, decide_eq_true_eq]
  omega
def spWhole : Sp := fun vs H Q _ => ∃ i : Int, vs = [.int i] ∧ Q (.bl true) H
theorem ok_is_whole (T : Tx K mg) : FnOk P w K mg base CX0 (1) T.f_is_whole T.fd_is_whole ["number"] spWhole := by
  refine T.F_is_whole.ok sc_is_whole (fun vs H Q E h => ?_) (fun cdv A outer s H vs Q E hr h => ?_)
  · obtain ⟨i, rfl, _⟩ := h
    rfl
  · obtain ⟨i, rfl, q⟩ := h
    refine ⟨_, (pss_one (ps_ret (pe_and (pe_callB call_isi (by rfl) T.m_isinstance (by decide +kernel) (pa_cons (pv 0) (pa_cons (pe_bltn (v := .ty "int") (by rfl) T.m_int (by decide +kernel) rfl) pa_nil))) (pe_one (pe_not (pe_callB call_isi (by rfl) T.m_isinstance (by decide +kernel) (pa_cons (pv 0) (pa_cons (pe_bltn (v := .ty "bool") (by rfl) T.m_bool (by decide +kernel) rfl) pa_nil)))))))), ?_⟩
    refine ⟨_, rfl, _, _, _, _, true, rfl, .ty _, .base (.int i), kit_ty (by decide +kernel), true, rfl, iteT ?_⟩
    exact ⟨_, rfl, _, _, _, _, false, rfl, .ty _, .base (.int i), kit_ty (by decide +kernel), false, rfl, q⟩
def spPlace : Sp := fun vs H Q _ => ∃ i : Int, vs = [.int i] ∧ Q (.bl (isPlace i)) H
theorem ok_is_place (T : Tx K mg) : FnOk P w K mg base CX0 (2) T.f_is_place T.fd_is_place ["number"] spPlace := by
  have G_is_whole : FnOk P w K mg base CX0 _ _ _ _ _ := ok_is_whole T
  refine T.F_is_place.ok sc_is_place (fun vs H Q E h => ?_) (fun cdv A outer s H vs Q E hr h => ?_)
  · obtain ⟨i, rfl, _⟩ := h
    rfl
  · obtain ⟨i, rfl, q⟩ := h
    refine ⟨_, (pss_one (ps_ret (pe_and (pe_call G_is_whole (hr.mono (by decide)) (by rfl) T.g_is_whole T.F_is_whole.kp T.b_is_whole .nil pass0 (pa_cons (pv 0) pa_nil)) (pe_one (pe_chain op_le op_le (pe_glob (v := .int (-999999999999)) (by rfl) T.c_LEAST_PLACE ⟨_, rfl⟩) (pv 0) (pe_glob (v := .int (999999999999)) (by rfl) T.c_GREATEST_PLACE ⟨_, rfl⟩)))))), ?_⟩
    refine ⟨_, rfl, i, rfl, true, rfl, iteT ?_⟩
    refine ⟨_, rfl, _, _, rfl, rfl, _, rfl, ?_⟩
    unfold isPlace at q
    by_cases h : -999999999999 ≤ i
    · rw [decide_eq_true h] at q ⊢
      exact iteT ⟨_, _, rfl, rfl, q⟩
    · rw [decide_eq_false h] at q ⊢
      exact iteF q
def spIsSpan : Sp := fun vs H Q _ => ∃ (v : V) (s : Span), vs = [v] ∧ Spn H v s ∧ Q (.bl (isSpan s)) H
theorem ok_is_span (T : Tx K mg) : FnOk P w K mg base CX0 (3) T.f_is_span T.fd_is_span ["span"] spIsSpan := by
  have G_is_place : FnOk P w K mg base CX0 _ _ _ _ _ := ok_is_place T
  refine T.F_is_span.ok sc_is_span (fun vs H Q E h => ?_) (fun cdv A outer s H vs Q E hr h => ?_)
  · obtain ⟨v, s, rfl, _⟩ := h
    rfl
  · obtain ⟨v, s, rfl, ⟨t, rfl, ht⟩, q⟩ := h
    refine ⟨_, (pss_cons (ps_if (PW.pt (pw_or (pt_not (pt_val (pe_callB call_isi (by rfl) T.m_isinstance (by decide +kernel) (pa_cons (pv 0) (pa_cons (pe_bltn (v := .ty "tuple") (by rfl) T.m_tuple (by decide +kernel) rfl) pa_nil))))) (pw_or1 (pt_cmpR op_ne (pe_callB call_len_seq (by rfl) T.m_len PySem.boot_len (pa_cons (pv 0) pa_nil)) pe_int (nomark _))))) (pss_one (ps_ret pe_bl)) pss_nil)
      (pss_cons (ps_asg (pv 0) (pg_tup rfl (pgs_cons (pg_name (i := 1) sc_is_span.nd rfl (Or.inl rfl)) (pgs_cons (pg_name (i := 2) sc_is_span.nd rfl (Or.inl rfl)) pgs_nil))))
      (pss_one (ps_ret (pe_and (pe_call G_is_place (hr.mono (by decide)) (by rfl) T.g_is_place T.F_is_place.kp T.b_is_place .nil pass0 (pa_cons (pv 1) pa_nil)) (pe_and (pe_call G_is_place (hr.mono (by decide)) (by rfl) T.g_is_place T.F_is_place.kp T.b_is_place .nil pass0 (pa_cons (pv 2) pa_nil)) (pe_one (pe_cmpR op_lt (pv 1) (pv 2) (nomark _))))))))), ?_⟩
    refine ⟨_, rfl, _, _, _, _, true, rfl, .ty _, .base (.tup ht), kit_ty (by decide +kernel), true, rfl, iteF ?_⟩
    refine ⟨_, rfl, t, _, rfl, .inr (SqT.of ht), rfl, _, rfl, iteF ?_⟩
    refine ⟨_, rfl, t, _, rfl, SqT.of ht, rfl, _, _, rfl, _, _, rfl, rfl, ?_⟩
    unfold isSpan at q
    refine ⟨_, rfl, s.1, rfl, _, rfl, ?_⟩
    by_cases h1 : isPlace s.1 = true
    · rw [h1] at q ⊢
      refine iteT ⟨_, rfl, s.2, rfl, _, rfl, ?_⟩
      by_cases h2 : isPlace s.2 = true
      · rw [h2] at q ⊢
        exact iteT ⟨_, rfl, _, rfl, _, _, rfl, rfl, q⟩
      · rw [Bool.not_eq_true] at h2
        rw [h2] at q ⊢
        exact iteF q
    · rw [Bool.not_eq_true] at h1
      rw [h1] at q ⊢
      exact iteF q
def spCheck (C : Addr) : Sp := fun vs H Q E => ∃ (v : V) (s : Span), vs = [v] ∧ Spn H v s ∧ (isSpan s = true → Q .non H) ∧ (isSpan s = false → E (.ref C) none H)
theorem ok_check_span (T : Tx K mg) : FnOk P w K mg base (L2.CX P w) (4) T.f_check_span T.fd_check_span ["span"] (spCheck T.C_NoSpan) := by
  have G_is_span : FnOk P w K mg base CX0 _ _ _ _ _ := ok_is_span T
  refine T.F_check_span.okX sc_check_span (fun vs H Q E h => ?_) (fun cdv A outer s H vs Q E hr h => ?_)
  · obtain ⟨v, s, rfl, _⟩ := h
    rfl
  · obtain ⟨v, s, rfl, hv, q, e⟩ := h
    refine ⟨_, (pss_one (ps_if (pt_not (pt_val (pe_call G_is_span (hr.mono (by decide)) (by rfl) T.g_is_span T.F_is_span.kp T.b_is_span .nil pass0 (pa_cons (pv 0) pa_nil)))) (pss_one (ps_raise (by rfl) (takes_of rfl rfl rfl rfl) (pmk_own PySem.F.excBase_ValueError T.x_NoSpan T.g_NoSpan T.k_NoSpan (raises_own T.b_NoSpan T.t_NoSpan) (by exact rfl)))) pss_nil)), ?_⟩
    refine ⟨_, rfl, v, s, rfl, hv, _, rfl, ?_⟩
    by_cases h : isSpan s = true
    · rw [h]
      exact iteF (q h)
    · rw [Bool.not_eq_true] at h
      rw [h]
      exact iteT (e h)
end
section
variable {P : Program} {w : World} {K : PySem.W.Frag} {mg : Str → Option Value} {base : Heap}
/-! ### the program: covers -/
def spCheckSpans (C : Addr) : Sp := fun vs H Q E => ∃ (l : Addr) (us : List V) (ss : List Span), vs = [.ref l] ∧ H l = some (.lst us) ∧ Sps H us ss ∧ (ss.all isSpan = true → Q .non H) ∧ (ss.all isSpan = false → E (.ref C) none H)
theorem ok_check_spans (T : Tx K mg) : FnOk P w K mg base (L2.CX P w) (5) T.f_check_spans T.fd_check_spans ["spans"] (spCheckSpans T.C_NoSpan) := by
  have G_check_span : FnOk P w K mg base (L2.CX P w) _ _ _ _ _ := ok_check_span T
  refine T.F_check_spans.okX sc_check_spans (fun vs H Q E h => ?_) (fun cdv A outer s H vs Q E hr h => ?_)
  · obtain ⟨l, us, ss, rfl, _⟩ := h
    rfl
  · obtain ⟨l, us, ss, rfl, hl, hS, q, e⟩ := h
    refine ⟨_, (pss_one (ps_for (passes_of rfl) (by rfl) (pi_list (pv 0)) (pg_name (i := 1) sc_check_spans.nd rfl (Or.inl rfl))
        (pss_one (ps_expr (pe_call G_check_span (hr.mono (by decide)) (by rfl) T.g_check_span T.F_check_span.kp T.b_check_span .nil (passes_call (takes_of rfl rfl rfl rfl) (fun _ _ _ _ h => h)) (pa_cons (pv 1) pa_nil)))))), ?_⟩
    refine ⟨_, rfl, l, rfl, ⟨_, SqL.of hl⟩, for_list (K := K) (a := l) (xs := us) (fun i σ H' => ∃ y1, σ = [some (.ref l), y1] ∧ H' = H ∧ (ss.take i).all isSpan = true) ⟨none, rfl, rfl, rfl⟩ (fun i σ H' _ ⟨_, _, e, _⟩ => by rw [e]; exact SqL.of hl) ?_ ?_⟩
    · rintro i y σ H' hi ⟨y1, rfl, rfl, ha⟩
      obtain ⟨sp, hs, hv⟩ := hS.get hi
      have tk : ss.take (i + 1) = ss.take i ++ [sp] := by
        rw [List.take_add_one, hs]
        rfl
      refine ⟨_, rfl, y, sp, rfl, hv, fun ok => ⟨_, rfl, rfl, ?_⟩, fun no => e ?_⟩
      · rw [tk, List.all_append, ha, List.all_cons, ok]
        rfl
      · rw [List.all_eq_false]
        exact ⟨sp, List.mem_of_getElem? hs, by rw [no]; decide⟩
    · rintro σ H' ⟨y1, rfl, rfl, ha⟩
      rw [hS.len, List.take_length] at ha
      exact q ha
end
/-! ### depths, changes, pieces of one depth: arithmetic -/
def holdsB (x : Int) (s : Span) : Bool := decide (s.1 ≤ x) && decide (x < s.2)
theorem holds_iff {x : Int} {s : Span} : holdsB x s = true ↔ s.1 ≤ x ∧ x < s.2 := by
  unfold holdsB
  rw [Bool.and_eq_true, decide_eq_true_eq, decide_eq_true_eq]
def dep (ss : List Span) (x : Int) : Nat := (ss.filter (holdsB x)).length
theorem dep_cons (s : Span) (ss : List Span) (x : Int) : dep (s :: ss) x = (if holdsB x s = true then 1 else 0) + dep ss x := by
  unfold dep
  rw [List.filter_cons]
  split
  · simp
    omega
  · simp
theorem dep_perm {ss ts : List Span} (h : ss.Perm ts) (x : Int) : dep ss x = dep ts x := (h.filter _).length_eq
theorem dep_app (ss ts : List Span) (x : Int) : dep (ss ++ ts) x = dep ss x + dep ts x := by
  unfold dep
  rw [List.filter_append, List.length_append]
/-- the change at a place: how many begin, less how many end -/
def chgAt : List Span → Int → Int
  | [], _ => 0
  | s :: ss, x => ((if s.1 = x then 1 else 0) - (if s.2 = x then 1 else 0)) + chgAt ss x
theorem chgAt_app (ss ts : List Span) (x : Int) : chgAt (ss ++ ts) x = chgAt ss x + chgAt ts x := by
  induction ss with
  | nil => simp [chgAt]
  | cons s r ih =>
    show _ + chgAt (r ++ ts) x = _
    rw [ih]
    simp only [chgAt]
    omega
theorem dep_step {ss : List Span} (h : ∀ s ∈ ss, s.1 < s.2) (x : Int) : ((dep ss x : Nat) : Int) = dep ss (x - 1) + chgAt ss x := by
  induction ss with
  | nil => rfl
  | cons s r ih =>
    have h1 := h s List.mem_cons_self
    have h2 := ih fun t ht => h t (List.mem_cons_of_mem _ ht)
    rw [dep_cons, dep_cons]
    simp only [chgAt, holdsB, Bool.and_eq_true, decide_eq_true_eq]
    push_cast
    split <;> split <;> split <;> split <;> omega
theorem chgAt_out {ss : List Span} {x : Int} (h : ∀ s ∈ ss, s.1 ≠ x ∧ s.2 ≠ x) : chgAt ss x = 0 := by
  induction ss with
  | nil => rfl
  | cons s r ih =>
    have h1 := h s List.mem_cons_self
    simp only [chgAt]
    rw [ih fun t ht => h t (List.mem_cons_of_mem _ ht), if_neg h1.1, if_neg h1.2]
    rfl
theorem dep_zero {ss : List Span} {x : Int} (h : ∀ s ∈ ss, x < s.1 ∨ s.2 ≤ x) : dep ss x = 0 := by
  unfold dep
  rw [List.length_eq_zero_iff, List.filter_eq_nil_iff]
  intro s hs z
  have := holds_iff.mp z
  have := h s hs
  omega
abbrev Piece := Int × Int × Int
/-- the pieces of one depth above 0, as long as can be, from b on -/
def PF (f : Int → Int) : Int → List Piece → Prop
  | b, [] => ∀ x, b ≤ x → f x = 0
  | b, p :: r => b ≤ p.1 ∧ p.1 < p.2.1 ∧ 0 < p.2.2 ∧ (∀ x, b ≤ x → x < p.1 → f x = 0) ∧ (∀ x, p.1 ≤ x → x < p.2.1 → f x = p.2.2) ∧ f p.2.1 ≠ p.2.2 ∧ PF f p.2.1 r
theorem PF.ext {f : Int → Int} : ∀ {l m : List Piece} {b : Int}, PF f b l → PF f b m → l = m
  | [], [], _, _, _ => rfl
  | [], q :: m, b, h, k => by
    obtain ⟨k1, k2, k3, k4, k5, k6, k7⟩ := k
    have := h q.1 k1
    have := k5 q.1 (Int.le_refl _) k2
    omega
  | p :: l, [], b, h, k => by
    obtain ⟨k1, k2, k3, k4, k5, k6, k7⟩ := h
    have := k p.1 k1
    have := k5 p.1 (Int.le_refl _) k2
    omega
  | (a, c, d) :: l, (a', c', d') :: m, b, h, k => by
    obtain ⟨h1, h2, h3, h4, h5, h6, h7⟩ := h
    obtain ⟨k1, k2, k3, k4, k5, k6, k7⟩ := k
    simp only at *
    have ea : a = a' := by
      rcases Int.lt_trichotomy a a' with z | z | z
      · have := k4 a h1 z
        have := h5 a (Int.le_refl _) h2
        omega
      · exact z
      · have := h4 a' k1 z
        have := k5 a' (Int.le_refl _) k2
        omega
    subst ea
    have ed : d = d' := by
      have := h5 a (Int.le_refl _) h2
      have := k5 a (Int.le_refl _) k2
      omega
    subst ed
    have ec : c = c' := by
      rcases Int.lt_trichotomy c c' with z | z | z
      · have := k5 c (by omega) z
        omega
      · exact z
      · have := h5 c' (by omega) z
        omega
    subst ec
    rw [PF.ext h7 k7]
theorem PF.back {f : Int → Int} {b c : Int} : ∀ {l : List Piece}, PF f b l → (∀ x, c ≤ x → x < b → f x = 0) → c ≤ b → PF f c l
  | [], h, z, hc => fun x hx => by
    by_cases e : x < b
    · exact z x hx e
    · exact h x (by omega)
  | p :: r, ⟨h1, h2, h3, h4, h5, h6, h7⟩, z, hc => ⟨by omega, h2, h3, fun x hx hp => by
      by_cases e : x < b
      · exact z x hx e
      · exact h4 x (by omega) hp, h5, h6, h7⟩
/-- what is built of the changes -/
def lay (d b : Int) : List Span → List Piece
  | [] => []
  | (p, c) :: r => if 0 < d then (b, p, d) :: lay (d + c) p r else lay (d + c) p r
/-- all changes behind b -/
def Chs (f : Int → Int) : Int → List Span → Prop
  | b, [] => ∀ x, b < x → f x = f (x - 1)
  | b, (p, c) :: r => b < p ∧ (∀ x, b < x → x < p → f x = f (x - 1)) ∧ f p = f (p - 1) + c ∧ c ≠ 0 ∧ Chs f p r
theorem const_on {f : Int → Int} {b : Int} : ∀ (n : Nat), (∀ x, b < x → x < b + 1 + n → f x = f (x - 1)) → f (b + n) = f b
  | 0, _ => by simp
  | n + 1, h => by
    have e := h (b + (n + 1 : Nat)) (by omega) (by omega)
    have := const_on n fun x h1 h2 => h x h1 (by omega)
    rw [show b + ((n + 1 : Nat) : Int) - 1 = b + n by omega] at e
    omega
theorem const_at {f : Int → Int} {b p x : Int} (h : ∀ x, b < x → x < p → f x = f (x - 1)) (h1 : b ≤ x) (h2 : x < p) : f x = f b := by
  have e := const_on (f := f) (b := b) (x - b).toNat fun y h3 h4 => h y h3 (by omega)
  rw [show b + ((x - b).toNat : Int) = x by omega] at e
  exact e
theorem lay_pf {f : Int → Int} (f0 : ∀ x, 0 ≤ f x) {B : Int} (hB : ∀ x, B ≤ x → f x = 0) : ∀ {l : List Span} {b : Int}, Chs f b l → PF f b (lay (f b) b l)
  | [], b, h => fun x hx => by
    have h1 := const_at (f := f) (b := b) (p := max B x + 1) (x := max B x) (fun y h1 _ => h y h1) (by omega) (by omega)
    have h2 := const_at (f := f) (b := b) (p := x + 1) (x := x) (fun y h1 _ => h y h1) hx (by omega)
    have h3 := hB (max B x) (by omega)
    omega
  | (p, c) :: r, b, ⟨h1, h2, h3, h4, h5⟩ => by
    have hp : f (p - 1) = f b := const_at h2 (by omega) (by omega)
    have ih := lay_pf f0 hB h5
    have e : f b + c = f p := by omega
    show PF f b (if 0 < f b then (b, p, f b) :: lay (f b + c) p r else lay (f b + c) p r)
    rw [e]
    split
    · rename_i hd
      exact ⟨Int.le_refl _, h1, hd, fun x a b' => by omega, fun x a b' => const_at h2 a b', by show f p ≠ f b; omega, ih⟩
    · rename_i hd
      refine ih.back (fun x a b' => ?_) (by omega)
      have := const_at h2 a b'
      have := f0 b
      omega
theorem lay_zero {d b b' : Int} (h : ¬ 0 < d) : ∀ l, lay d b l = lay d b' l
  | [] => rfl
  | (p, c) :: r => by
    show (if 0 < d then _ else _) = (if 0 < d then _ else _)
    rw [if_neg h, if_neg h]
/-- the changes, told by their places -/
theorem chs_of {f : Int → Int} : ∀ {l : List Span} {b : Int}, (l.map (·.1)).Pairwise (· < ·) → (∀ q ∈ l, b < q.1 ∧ q.2 ≠ 0 ∧ f q.1 = f (q.1 - 1) + q.2) → (∀ x, b < x → f x ≠ f (x - 1) → x ∈ l.map (·.1)) → Chs f b l
  | [], b, _, _, h => fun x hx => by
    by_cases e : f x = f (x - 1)
    · exact e
    · exact absurd (h x hx e) (by simp)
  | (p, c) :: r, b, h1, h2, h3 => by
    obtain ⟨h11, h12⟩ := List.pairwise_cons.mp h1
    obtain ⟨a1, a2, a3⟩ := h2 (p, c) List.mem_cons_self
    refine ⟨a1, fun x x1 x2 => ?_, a3, a2, chs_of h12 (fun q hq => ⟨h11 q.1 (List.mem_map.mpr ⟨q, hq, rfl⟩), (h2 q (List.mem_cons_of_mem _ hq)).2⟩) fun x x1 x2 => ?_⟩
    · by_cases e : f x = f (x - 1)
      · exact e
      · rcases List.mem_cons.mp (h3 x x1 e) with z | z
        · simp only at z
          omega
        · have := h11 x z
          simp only at this
          omega
    · rcases List.mem_cons.mp (h3 x (by simp only at a1; omega) x2) with z | z
      · simp only at z
        omega
      · exact z
theorem pf_lo {f : Int → Int} : ∀ {l : List Piece} {b : Int}, PF f b l → ∀ p ∈ l, b ≤ p.1 ∧ p.1 < p.2.1 ∧ 0 < p.2.2 ∧ f p.1 = p.2.2
  | q :: l, b, ⟨h1, h2, h3, h4, h5, h6, h7⟩, p, hp => by
    rcases List.mem_cons.mp hp with rfl | hp
    · exact ⟨h1, h2, h3, h5 _ (Int.le_refl _) h2⟩
    · obtain ⟨a1, a2⟩ := pf_lo h7 p hp
      exact ⟨by omega, a2⟩
theorem pf_rise {f : Int → Int} : ∀ {l : List Piece} {b : Int}, PF f b l → (l.map (·.1)).Pairwise (· < ·)
  | [], _, _ => List.Pairwise.nil
  | q :: l, b, ⟨h1, h2, h3, h4, h5, h6, h7⟩ => by
    refine List.pairwise_cons.mpr ⟨fun x hx => ?_, pf_rise h7⟩
    obtain ⟨p, hp, rfl⟩ := List.mem_map.mp hx
    have := (pf_lo h7 p hp).1
    show q.1 < p.1
    omega
theorem pf_in {f : Int → Int} : ∀ {l : List Piece} {b : Int}, PF f b l → ∀ x, b ≤ x → f x ≠ 0 → ∃ p ∈ l, p.1 ≤ x ∧ x < p.2.1 ∧ f x = p.2.2
  | [], b, h, x, hx, hf => absurd (h x hx) hf
  | q :: l, b, ⟨h1, h2, h3, h4, h5, h6, h7⟩, x, hx, hf => by
    by_cases e : x < q.1
    · exact absurd (h4 x hx e) hf
    · by_cases e2 : x < q.2.1
      · exact ⟨q, List.mem_cons_self, by omega, e2, h5 x (by omega) e2⟩
      · obtain ⟨p, hp, a⟩ := pf_in h7 x (by omega) hf
        exact ⟨p, List.mem_cons_of_mem _ hp, a⟩
/-- the deepest of the pieces, the first one -/
def stpB : Option Span → Piece → Option Span
  | none, p => some (p.2.2, p.1)
  | some b, p => if b.1 < p.2.2 then some (p.2.2, p.1) else some b
def bestL (l : List Piece) : Option Span := l.foldl stpB none
theorem bestL_snoc (l : List Piece) (p : Piece) : bestL (l ++ [p]) = stpB (bestL l) p := by
  unfold bestL
  rw [List.foldl_append]
  rfl
/-- ps are the pieces of the spans ss -/
def Prf (ss : List Span) (ps : List Piece) : Prop := ∀ b, (∀ s ∈ ss, b < s.1) → PF (fun x => ((dep ss x : Nat) : Int)) b ps
theorem low_of (ss : List Span) : ∃ b : Int, ∀ s ∈ ss, b < s.1 := by
  induction ss with
  | nil => exact ⟨0, fun s h => nomatch h⟩
  | cons s r ih =>
    obtain ⟨b, h⟩ := ih
    refine ⟨min b (s.1 - 1), fun t ht => ?_⟩
    rcases List.mem_cons.mp ht with rfl | ht
    · omega
    · have := h t ht
      omega
theorem Prf.ext {ss ts : List Span} {l m : List Piece} (h : Prf ss l) (k : Prf ts m) (e : ∀ x, dep ss x = dep ts x) (b : Int) (h1 : ∀ s ∈ ss, b < s.1) (h2 : ∀ s ∈ ts, b < s.1) : l = m := by
  have k' := k b h2
  have : (fun x => ((dep ts x : Nat) : Int)) = fun x => ((dep ss x : Nat) : Int) := funext fun x => by rw [e x]
  rw [this] at k'
  exact (h b h1).ext k'
theorem Prf.perm {ss ts : List Span} {l m : List Piece} (h : Prf ss l) (k : Prf ts m) (e : ss.Perm ts) : l = m := by
  obtain ⟨b, hb⟩ := low_of ss
  exact h.ext k (dep_perm e) b hb fun s hs => hb s (e.mem_iff.mpr hs)
theorem high_of (ss : List Span) : ∃ b : Int, ∀ s ∈ ss, s.2 ≤ b := by
  induction ss with
  | nil => exact ⟨0, fun s h => nomatch h⟩
  | cons s r ih =>
    obtain ⟨b, h⟩ := ih
    refine ⟨max b s.2, fun t ht => ?_⟩
    rcases List.mem_cons.mp ht with rfl | ht
    · omega
    · have := h t ht
      omega
/-- the told changes of ss -/
def Cng (ss : List Span) (cs : List Span) : Prop := (cs.map (·.1)).Pairwise (· < ·) ∧ (∀ q ∈ cs, q.2 ≠ 0 ∧ q.2 = chgAt ss q.1) ∧ ∀ x, chgAt ss x ≠ 0 → x ∈ cs.map (·.1)
theorem lay_prf {ss cs : List Span} (hs : ∀ s ∈ ss, s.1 < s.2) (h : Cng ss cs) (b0 : Int) : Prf ss (lay 0 b0 cs) := fun b hb => by
  obtain ⟨h1, h2, h3⟩ := h
  obtain ⟨B, hB⟩ := high_of ss
  have st := dep_step hs
  have f0 : dep ss b = 0 := dep_zero fun s h => .inl (hb s h)
  have e : lay 0 b0 cs = lay (((dep ss b : Nat) : Int)) b cs := by
    rw [f0]
    exact lay_zero (by decide) cs
  rw [e]
  refine lay_pf (f := fun x => ((dep ss x : Nat) : Int)) (fun x => Int.natCast_nonneg _) (B := B) (fun x hx => ?_) (chs_of h1 (fun q hq => ⟨?_, (h2 q hq).1, ?_⟩) fun x hx hne => h3 x ?_)
  · have := dep_zero (ss := ss) (x := x) fun s h => .inr (by have := hB s h; omega)
    show ((dep ss x : Nat) : Int) = 0
    rw [this]
    rfl
  · obtain ⟨q1, q2⟩ := h2 q hq
    by_cases e : b < q.1
    · exact e
    · exact absurd (chgAt_out (ss := ss) (x := q.1) fun s h => by have := hb s h; have := hs s h; omega) (by omega)
  · have := st q.1
    have := (h2 q hq).2
    show ((dep ss q.1 : Nat) : Int) = ((dep ss (q.1 - 1) : Nat) : Int) + q.2
    omega
  · have h9 := st x
    have hne : ((dep ss x : Nat) : Int) ≠ ((dep ss (x - 1) : Nat) : Int) := hne
    omega
/-- few ends -/
def Few (ss : List Span) : Prop := ss.length ≤ 400 ∧ ∃ es : List Int, es.length < 64 ∧ ∀ s ∈ ss, s.1 ∈ es ∧ s.2 ∈ es
theorem few_of {ss : List Span} (h : ss.length < 32) : Few ss := ⟨by omega, ss.map (·.1) ++ ss.map (·.2), by rw [List.length_append, List.length_map, List.length_map]; omega, fun s hs => ⟨List.mem_append_left _ (List.mem_map.mpr ⟨s, hs, rfl⟩), List.mem_append_right _ (List.mem_map.mpr ⟨s, hs, rfl⟩)⟩⟩
theorem few_two {ss ts : List Span} {n : Nat} (hn : ss.length + ts.length < n) (h : 2 * n ≤ 64) : Few (ss ++ ts) := few_of (by rw [List.length_append]; omega)
theorem few_twice {ss : List Span} (h : Few ss) (h2 : ss.length ≤ 200) : Few (ss ++ ss) := by
  obtain ⟨_, es, e1, e2⟩ := h
  refine ⟨by rw [List.length_append]; omega, es, e1, fun s hs => ?_⟩
  rcases List.mem_append.mp hs with z | z
  · exact e2 s z
  · exact e2 s z
section
variable {P : Program} {w : World} {K : PySem.W.Frag} {mg : Str → Option Value} {base : Heap}
/-! ### the program: depths -/
/-- what a dict of counts holds -/
structure Cnt (kvs : List (Key × V)) (ks : List Int) (g : Int → Int) : Prop where
  keys : kvs.map (·.1) = ks.map Sum.inl
  nd : ks.Nodup
  val : ∀ p : Int, valV kvs (.inl p) = if p ∈ ks then some (.int (g p)) else none
  out : ∀ p, p ∉ ks → g p = 0
theorem Cnt.nil : Cnt [] [] (fun _ => 0) := ⟨rfl, List.nodup_nil, fun _ => rfl, fun _ _ => rfl⟩
theorem Cnt.get {kvs : List (Key × V)} {ks : List Int} {g : Int → Int} (h : Cnt kvs ks g) (p : Int) : (valV kvs (.inl p)).getD (.int 0) = .int (g p) := by
  rw [h.val p]
  by_cases e : p ∈ ks
  · rw [if_pos e]
    rfl
  · rw [if_neg e, h.out p e]
    rfl
theorem Cnt.put {kvs : List (Key × V)} {ks : List Int} {g : Int → Int} (h : Cnt kvs ks g) (p d : Int) : ∃ ks', Cnt (putK kvs (.inl p) (.int (g p + d))) ks' (fun q => g q + if q = p then d else 0) ∧ (∀ q, q ∈ ks' ↔ q ∈ ks ∨ q = p) ∧ ks'.length ≤ ks.length + 1 := by
  by_cases e : p ∈ ks
  · have hs : (kvs.any fun kv => decide (kv.1 = (Sum.inl p : Key))) = true := by
      rw [valV_any, h.val p, if_pos e]
      rfl
    refine ⟨ks, ⟨?_, h.nd, fun q => ?_, fun q hq => ?_⟩, fun q => ⟨.inl, fun z => z.elim id fun z => by rw [z]; exact e⟩, by omega⟩
    · unfold putK
      rw [if_pos hs, List.map_map, ← h.keys]
      refine List.map_congr_left fun kv _ => ?_
      show (if kv.1 = Sum.inl p then (kv.1, V.int (g p + d)) else kv).1 = kv.1
      split <;> rfl
    · rw [valV_put]
      by_cases eq : q = p
      · subst eq
        rw [if_pos rfl, if_pos e, if_pos rfl]
      · rw [if_neg (fun z => eq (Sum.inl.inj z)), h.val q, if_neg eq, Int.add_zero]
    · rw [h.out q hq, if_neg (fun z => hq (by rw [z]; exact e))]
      rfl
  · have hn : valV kvs (.inl p) = none := by rw [h.val p, if_neg e]
    refine ⟨ks ++ [p], ⟨?_, ?_, fun q => ?_, fun q hq => ?_⟩, fun q => by simp, by simp⟩
    · rw [putK_new _ hn, List.map_append, h.keys, List.map_append]
      rfl
    · rw [List.nodup_append]
      exact ⟨h.nd, by simp, fun a ha b hb => by rw [List.mem_singleton.mp hb]; exact fun z => e (by rw [← z]; exact ha)⟩
    · rw [valV_put]
      by_cases eq : q = p
      · subst eq
        rw [if_pos rfl, if_pos (by simp), if_pos rfl]
      · rw [if_neg (fun z => eq (Sum.inl.inj z)), h.val q, if_neg eq, Int.add_zero]
        by_cases e2 : q ∈ ks
        · rw [if_pos e2, if_pos (List.mem_append_left _ e2)]
        · rw [if_neg e2, if_neg (by simp [e2, eq])]
    · have h1 : q ∉ ks := fun z => hq (List.mem_append_left _ z)
      rw [h.out q h1, if_neg (fun z => hq (by rw [z]; simp))]
      rfl
def spChanges : Sp := fun vs H Q _ => ∃ (l : Addr) (us : List V) (ss : List Span), vs = [.ref l] ∧ H l = some (.lst us) ∧ Sps H us ss ∧ Few ss ∧
  ∀ (H' : Hp) (r : Addr) (ws : List V) (cs : List Span), Same H H' → H r = none → H' r = some (.lst ws) → Sps H' ws cs → Cng ss cs → cs.length ≤ 64 → Q (.ref r) H'
theorem ok_changes_of (T : Tx K mg) : FnOk P w K mg base CX0 (1) T.f_changes_of T.fd_changes_of ["spans"] spChanges := by
  refine T.F_changes_of.ok sc_changes_of (fun vs H Q E h => ?_) (fun cdv A outer s H vs Q E hr h => ?_)
  · obtain ⟨l, us, ss, rfl, _⟩ := h
    rfl
  · obtain ⟨l, us, ss, rfl, hl, hS, few, q⟩ := h
    have hlen := few.1
    refine ⟨_, (pss_cons (ps_set (i := 1) sc_changes_of.nd rfl (Or.inr rfl) pe_dnewK)
      (pss_cons (ps_for PassesOwn.never (by rfl) (pi_list (pv 0)) (pg_tup rfl (pgs_cons (pg_name (i := 2) sc_changes_of.nd rfl (Or.inl rfl)) (pgs_cons (pg_name (i := 3) sc_changes_of.nd rfl (Or.inl rfl)) pgs_nil)))
        (pss_cons (ps_asg (pe_op op_add (pe_dget2 (room_u hr) (pv 1) (pv 2) pe_int ⟨rfl, rfl, rfl, rfl⟩) pe_int) (pg_sub (pv 1) (pv 2) (set_dict (room_u hr))))
      (pss_one (ps_asg (pe_op op_sub (pe_dget2 (room_u hr) (pv 1) (pv 3) pe_int ⟨rfl, rfl, rfl, rfl⟩) pe_int) (pg_sub (pv 1) (pv 3) (set_dict (room_u hr)))))))
      (pss_one (ps_ret (pe_lc (own := [("place", 4)]) (g := (gName 4)) (by rfl) sc_changes_of.nd (pi_list (pe_callB (call_sortedDI rfl) (by rfl) T.m_sorted (by decide +kernel) (pa_cons (pv 1) pa_nil))) (blkOk_by (own := [("place", 4)]) (N := N_changes_of) (sc := defScope s_changes_of) (by decide +kernel)) (fun _ _ _ _ _ => (pg_name (i := 4) sc_changes_of.nd rfl (Or.inl rfl))) (fun _ _ _ _ _ => (pts_one (pt_cmpR op_ne (pe_dget (room_u hr) (pv 1) (pv 4) (fun _ _ => rfl)) pe_int (nomark _)))) (fun _ _ _ _ _ => (pe_tup (pa_cons (pv 4) (pa_cons (pe_dget (room_u hr) (pv 1) (pv 4) (fun _ _ => rfl)) pa_nil))))))))), ?_⟩
    have hul := hS.len
    intro D nD
    refine ⟨_, rfl, l, rfl, ⟨_, SqL.of ((same_upd nD) _ _ hl)⟩, for_list (K := K) (a := l) (xs := us) (fun i σ H' => ∃ y2 y3 y4 kvs ks, σ = [some (.ref l), some (.ref D), y2, y3, y4] ∧ Same H H' ∧ H' D = some (.dK kvs) ∧ Cnt kvs ks (chgAt (ss.take i)) ∧ ks.length ≤ 2 * i ∧ (∀ p ∈ ks, ∃ s ∈ ss, p = s.1 ∨ p = s.2))
      ⟨none, none, none, [], [], rfl, same_upd nD, upd_same, Cnt.nil, by simp, fun p h => nomatch h⟩ (fun i σ H' _ ⟨_, _, _, _, _, _, sm, _⟩ => SqL.of (sm _ _ hl)) ?_ ?_⟩
    · rintro i y σ H' hi ⟨y2, y3, y4, kvs, ks, rfl, sm, hD, hC, hk, hks⟩
      obtain ⟨sp, es, hsp⟩ := hS.get hi
      obtain ⟨t, rfl, ht⟩ := hsp.same sm
      have hi' : i < us.length := (List.getElem?_eq_some_iff.mp hi).1
      have kl : kvs.length = ks.length := by
        have := congrArg List.length hC.keys
        simpa using this
      refine ⟨t, _, rfl, SqT.of ht, rfl, _, _, rfl, _, _, rfl, rfl, ?_⟩
      refine ⟨_, rfl, D, rfl, .inl ⟨_, .inl hD⟩, _, rfl, _, DGet.k (k := .inl sp.1) hD, ?_⟩
      rw [hC.get]
      refine ⟨_, _, rfl, rfl, _, rfl, _, rfl, D, _, rfl, DPut.k (k := .inl sp.1) hD (small_lt (by omega)), ?_⟩
      obtain ⟨ks1, hC1, hm1, hl1⟩ := hC.put sp.1 1
      have hD1 : (upd H' D (.dK (putK kvs (.inl sp.1) (.int (chgAt (ss.take i) sp.1 + 1))))) D = some (.dK (putK kvs (.inl sp.1) (.int (chgAt (ss.take i) sp.1 + 1)))) := upd_same
      have sm1 := same_more (o := .dK (putK kvs (.inl sp.1) (.int (chgAt (ss.take i) sp.1 + 1)))) sm nD
      revert hC1 hD1 sm1
      generalize upd H' D (.dK (putK kvs (.inl sp.1) (.int (chgAt (ss.take i) sp.1 + 1)))) = H1
      generalize putK kvs (.inl sp.1) (.int (chgAt (ss.take i) sp.1 + 1)) = kv1
      intro hC1 hD1 sm1
      have kl1 : kv1.length = ks1.length := by
        have := congrArg List.length hC1.keys
        simpa using this
      refine ⟨_, rfl, D, rfl, .inl ⟨_, .inl hD1⟩, _, rfl, _, DGet.k (k := .inl sp.2) hD1, ?_⟩
      rw [hC1.get]
      refine ⟨_, _, rfl, rfl, _, rfl, _, rfl, D, _, rfl, DPut.k (k := .inl sp.2) hD1 (small_lt (by omega)), ?_⟩
      obtain ⟨ks2, hC2, hm2, hl2⟩ := hC1.put sp.2 (-1)
      refine ⟨_, _, _, _, ks2, rfl, same_more sm1 nD, upd_same, ?_, by omega, fun p hp => ?_⟩
      · have e : chgAt (ss.take (i + 1)) = fun q => chgAt (ss.take i) q + (if q = sp.1 then 1 else 0) + (if q = sp.2 then -1 else 0) := funext fun q => by
          rw [List.take_add_one, es]
          show chgAt (ss.take i ++ [sp]) q = _
          rw [chgAt_app]
          simp only [chgAt]
          split <;> split <;> split <;> split <;> omega
        rw [e]
        exact hC2
      · rcases (hm2 p).mp hp with z | z
        · rcases (hm1 p).mp z with z | z
          · exact hks p z
          · exact ⟨sp, List.mem_of_getElem? es, .inl z⟩
        · exact ⟨sp, List.mem_of_getElem? es, .inr z⟩
    · rintro σ H1 ⟨y2, y3, y4, kvs, ks, rfl, sm, hD, hC, hk, hks⟩
      rw [hul, List.take_length] at hC
      have k64 : ks.length < 64 := by
        obtain ⟨_, es, e1, e2⟩ := few
        have := nodup_len hC.nd (m := es) fun x hx => by
          obtain ⟨s, hs, z⟩ := hks x hx
          rcases z with z | z
          · rw [z]
            exact (e2 s hs).1
          · rw [z]
            exact (e2 s hs).2
        omega
      refine ⟨_, rfl, D, kvs, ks, rfl, .inl hD, hC.keys, k64, fun ys p prm srt np => ?_⟩
      obtain ⟨gp, sp⟩ := upd_at (o := .lst (ys.map V.int)) np
      have hD2 := sp _ _ hD
      have sm2 := sm.trans sp
      revert gp hD2 sm2
      generalize upd H1 p (.lst (ys.map V.int)) = H2
      intro gp hD2 sm2
      have mem : ∀ z, z ∈ ys ↔ z ∈ ks := fun z => prm.mem_iff
      have nd : ys.Nodup := prm.nodup_iff.mpr hC.nd
      have str : ys.Pairwise (· < ·) := (srt.and nd).imp fun {a b} ⟨h1, h2⟩ => by
        have : a ≠ b := h2
        omega
      have ylen : ys.length ≤ 64 := by
        have := prm.length_eq
        omega
      refine ⟨p, rfl, ⟨_, SqL.of gp⟩, fun D2 nD2 => ?_⟩
      refine lc_list (K := K) (a := p) (xs := ys.map V.int) (fun i H' => Same H2 H' ∧ ∃ ws, H' D2 = some (.lst ws) ∧ Sps H' ws (((ys.take i).filter fun z => decide (chgAt ss z ≠ 0)).map fun z => (z, chgAt ss z))) ⟨same_upd nD2, [], upd_same, .nil⟩ (fun i H' _ h => SqL.of (h.1 _ _ gp)) ?_ ?_
      · rintro i y H' hi ⟨sm3, ws, hw, hws⟩
        rw [List.getElem?_map] at hi
        obtain ⟨z, ez, rfl⟩ := Option.map_eq_some_iff.mp hi
        have hz : z ∈ ks := (mem z).mp (List.mem_of_getElem? ez)
        have tk : ys.take (i + 1) = ys.take i ++ [z] := by
          rw [List.take_add_one, ez]
          rfl
        have g1 : valV kvs (.inl z) = some (.int (chgAt ss z)) := by rw [hC.val z, if_pos hz]
        have wl := hws.len
        have wl2 : ws.length ≤ 64 := by
          rw [wl, List.length_map]
          have h1 := List.length_filter_le (fun z => decide (chgAt ss z ≠ 0)) (ys.take i)
          have h2 : (ys.take i).length ≤ ys.length := by
            rw [List.length_take]
            exact Nat.min_le_right _ _
          omega
        refine ⟨rfl, _, rfl, _, rfl, D, .int (chgAt ss z), rfl, ?_, ?_⟩
        · exact .inl ⟨kvs, .inl z, .inl (sm3 _ _ hD2), rfl, g1.symm⟩
        refine ⟨rfl, _, rfl, ?_⟩
        rw [tk, List.filter_append]
        by_cases h0 : chgAt ss z = 0
        · refine iteNS (congrArg V.int h0) ?_
          rw [show [z].filter (fun z => decide (chgAt ss z ≠ 0)) = [] by simp [h0], List.append_nil]
          exact ⟨sm3, ws, hw, hws⟩
        · refine iteNT (fun e => h0 (V.int.inj e)) ?_
          refine ⟨_, rfl, _, rfl, _, rfl, D, .int (chgAt ss z), rfl, .inl ⟨kvs, .inl z, .inl (sm3 _ _ hD2), rfl, g1.symm⟩, (by show 2 ≤ sizeLine; decide), fun t nt => ?_⟩
          have st := same_upd (o := .tup [.int z, .int (chgAt ss z)]) nt
          have nt2 : t ≠ D2 := (ne_of_none hw nt).symm
          refine ⟨ws, st _ _ hw, small_lt (by omega), ?_, ws ++ [.ref t], upd_same, ?_⟩
          · exact same_more (sm3.trans st) nD2
          · have cf : Chg [D2] (upd H' t (.tup [.int z, .int (chgAt ss z)])) (upd (upd H' t (.tup [.int z, .int (chgAt ss z)])) D2 (.lst (ws ++ [.ref t]))) := Chg.upd List.mem_cons_self
            rw [List.map_append]
            refine Sps.app ((hws.same st).chg cf (Lsts.of1 (st _ _ hw))) ?_
            rw [show [z].filter (fun z => decide (chgAt ss z ≠ 0)) = [z] by simp [h0]]
            exact .one (Spn.chg ⟨t, rfl, upd_same⟩ cf (Lsts.of1 (st _ _ hw)))
      · rintro H' ⟨sm3, ws, hw, hws⟩
        rw [List.length_map, List.take_length] at hws
        refine q H' D2 ws _ (sm2.trans sm3) (sm2.free nD2) hw hws ⟨?_, fun c hc => ?_, fun x hx => ?_⟩ ?_
        · rw [List.map_map]
          show (List.map (fun z => z) _).Pairwise _
          rw [List.map_id']
          exact str.filter _
        · obtain ⟨z, hz, rfl⟩ := List.mem_map.mp hc
          exact ⟨of_decide_eq_true (List.mem_filter.mp hz).2, rfl⟩
        · rw [List.map_map]
          refine List.mem_map.mpr ⟨x, List.mem_filter.mpr ⟨(mem x).mpr ?_, decide_eq_true hx⟩, rfl⟩
          by_cases e : x ∈ ks
          · exact e
          · exact absurd (hC.out x e) hx
        · rw [List.length_map]
          have h1 := List.length_filter_le (fun z => decide (chgAt ss z ≠ 0)) ys
          omega
end
section
variable {P : Program} {w : World} {K : PySem.W.Frag} {mg : Str → Option Value} {base : Heap}
/-- the rows of pieces -/
def pcR (p : Piece) : List Int := [p.1, p.2.1, p.2.2]
theorem pcR_inj {p q : Piece} (h : pcR p = pcR q) : p = q := by
  obtain ⟨a, b, c⟩ := p
  obtain ⟨d, e, f⟩ := q
  simp only [pcR, List.cons.injEq, and_true] at h
  obtain ⟨rfl, rfl, rfl⟩ := h
  rfl
theorem pcRs_inj : ∀ {l m : List Piece}, l.map pcR = m.map pcR → l = m
  | [], [], _ => rfl
  | [], _ :: _, h => by simp at h
  | _ :: _, [], h => by simp at h
  | a :: l, b :: m, h => by
    rw [List.map_cons, List.map_cons, List.cons.injEq] at h
    rw [pcR_inj h.1, pcRs_inj h.2]
/-- the depth and the place behind the changes -/
def endD : Int → List Span → Int
  | d, [] => d
  | d, q :: r => endD (d + q.2) r
def endB : Int → List Span → Int
  | b, [] => b
  | _, q :: r => endB q.1 r
theorem lay_more (p c : Int) : ∀ (l : List Span) (d b : Int), lay d b (l ++ [(p, c)]) = lay d b l ++ (if 0 < endD d l then [(endB b l, p, endD d l)] else []) ∧ endD d (l ++ [(p, c)]) = endD d l + c ∧ endB b (l ++ [(p, c)]) = p
  | [], d, b => ⟨by show (if 0 < d then [(b, p, d)] else []) = [] ++ (if 0 < d then [(b, p, d)] else []); rw [List.nil_append], rfl, rfl⟩
  | (x, y) :: r, d, b => by
    obtain ⟨h1, h2, h3⟩ := lay_more p c r (d + y) x
    refine ⟨?_, h2, h3⟩
    show (if 0 < d then (b, x, d) :: lay (d + y) x (r ++ [(p, c)]) else lay (d + y) x (r ++ [(p, c)])) = (if 0 < d then (b, x, d) :: lay (d + y) x r else lay (d + y) x r) ++ (if 0 < endD (d + y) r then [(endB x r, p, endD (d + y) r)] else [])
    rw [h1]
    by_cases hd : 0 < d
    · rw [if_pos hd, if_pos hd]
      rfl
    · rw [if_neg hd, if_neg hd]
theorem lay_len : ∀ (l : List Span) (d b : Int), (lay d b l).length ≤ l.length
  | [], _, _ => Nat.le_refl _
  | (x, y) :: r, d, b => by
    have := lay_len r (d + y) x
    show (if 0 < d then (b, x, d) :: lay (d + y) x r else lay (d + y) x r).length ≤ r.length + 1
    split
    · rw [List.length_cons]
      omega
    · omega
def spLayers : Sp := fun vs H Q _ => ∃ (l : Addr) (us : List V) (ss : List Span), vs = [.ref l] ∧ H l = some (.lst us) ∧ Sps H us ss ∧ Few ss ∧ (∀ s ∈ ss, s.1 < s.2) ∧
  ∀ (H' : Hp) (r : Addr) (ws : List V) (ps : List Piece), Same H H' → H r = none → H' r = some (.lst ws) → Rws H' ws (ps.map pcR) → Prf ss ps → ps.length ≤ 64 → Q (.ref r) H'
theorem ok_layers_of (T : Tx K mg) : FnOk P w K mg base CX0 (2) T.f_layers_of T.fd_layers_of ["spans"] spLayers := by
  have G_changes_of : FnOk P w K mg base CX0 _ _ _ _ _ := ok_changes_of T
  refine T.F_layers_of.ok sc_layers_of (fun vs H Q E h => ?_) (fun cdv A outer s H vs Q E hr h => ?_)
  · obtain ⟨l, us, ss, rfl, _⟩ := h
    rfl
  · obtain ⟨l, us, ss, rfl, hl, hS, hlen, hlt, q⟩ := h
    refine ⟨_, (pss_cons (ps_set (i := 1) sc_layers_of.nd rfl (Or.inl rfl) (pe_lst pa_nil))
      (pss_cons (ps_set (i := 2) sc_layers_of.nd rfl (Or.inl rfl) pe_int)
      (pss_cons (ps_set (i := 3) sc_layers_of.nd rfl (Or.inl rfl) pe_int)
      (pss_cons (ps_for PassesOwn.never (by rfl) (pi_list (pe_call G_changes_of (hr.mono (by decide)) (by rfl) T.g_changes_of T.F_changes_of.kp T.b_changes_of .nil pass0 (pa_cons (pv 0) pa_nil))) (pg_tup rfl (pgs_cons (pg_name (i := 4) sc_layers_of.nd rfl (Or.inl rfl)) (pgs_cons (pg_name (i := 5) sc_layers_of.nd rfl (Or.inl rfl)) pgs_nil)))
        (pss_cons (ps_if (pt_cmpR op_gt (pv 2) pe_int (nomark _)) (pss_one (ps_expr (pe_bm PySem.F.plainAttrs_list PySem.F.slot_list_append PySem.F.type_list_append mt_append (pv 1) (pa_cons (pe_tup (pa_cons (pv 3) (pa_cons (pv 4) (pa_cons (pv 2) pa_nil)))) pa_nil)))) pss_nil)
      (pss_cons (ps_aug (i := 2) sc_layers_of.nd rfl (Or.inl rfl) (pv 5) ip_add)
      (pss_one (ps_set (i := 3) sc_layers_of.nd rfl (Or.inl rfl) (pv 4))))))
      (pss_one (ps_ret (pv 1))))))), ?_⟩
    refine ⟨Nat.zero_le _, fun D nD => ?_⟩
    obtain ⟨gD, sD⟩ := upd_at (o := .lst []) nD
    refine ⟨_, rfl, l, us, ss, rfl, sD _ _ hl, hS.same sD, hlen, fun H1 r ws cs s1 nr hr1 hcs hC hcl => ?_⟩
    have sm1 := sD.trans s1
    have cl := hcs.len
    refine ⟨r, rfl, ⟨_, SqL.of hr1⟩, for_list (K := K) (a := r) (xs := ws) (fun i σ H' => ∃ y4 y5 vs, σ = [some (.ref l), some (.ref D), some (.int (endD 0 (cs.take i))), some (.int (endB 0 (cs.take i))), y4, y5] ∧ Same H H' ∧ Chg [D] H1 H' ∧ H' D = some (.lst vs) ∧ Rws H' vs ((lay 0 0 (cs.take i)).map pcR))
      ⟨none, none, [], rfl, sm1, Chg.refl _ _, s1 _ _ gD, .nil⟩ (fun i σ H' _ ⟨_, _, _, _, _, c, _⟩ => SqL.of (c _ _ (nmem1 (ne_of_none gD nr).symm) hr1)) ?_ ?_⟩
    · rintro i y σ H' hi ⟨y4, y5, vs, rfl, sm, cD, hD, hv⟩
      have rD : r ≠ D := (ne_of_none gD nr).symm
      obtain ⟨cp, ec, hcp⟩ := hcs.get hi
      have lD : Lsts [D] H1 := Lsts.of1 (s1 _ _ gD)
      obtain ⟨t, rfl, ht⟩ := hcp.chg cD lD
      have hi' : i < ws.length := (List.getElem?_eq_some_iff.mp hi).1
      have tk : cs.take (i + 1) = cs.take i ++ [(cp.1, cp.2)] := by
        rw [List.take_add_one, ec]
        rfl
      obtain ⟨m1, m2, m3⟩ := lay_more cp.1 cp.2 (cs.take i) 0 0
      have vl := hv.len
      have vl2 : vs.length ≤ 64 := by
        rw [vl, List.length_map]
        have h1 := lay_len (cs.take i) 0 0
        have h2 : (cs.take i).length ≤ cs.length := by
          rw [List.length_take]
          exact Nat.min_le_right _ _
        omega
      refine ⟨t, _, rfl, SqT.of ht, rfl, _, _, rfl, _, _, rfl, rfl, ?_⟩
      refine ⟨_, rfl, _, _, rfl, rfl, _, rfl, ?_⟩
      rw [tk, m1, m2, m3]
      refine ite2 (fun e => ?_) (fun e => ?_)
      · have e : 0 < endD 0 (cs.take i) := of_decide_eq_true e
        refine ⟨_, rfl, .inl ⟨rfl, _, SqL.of hD⟩, _, rfl, _, rfl, _, rfl, (by show 3 ≤ sizeLine; decide), fun t2 nt2 => ?_⟩
        have st := same_upd (o := .tup [.int (endB 0 (cs.take i)), .int cp.1, .int (endD 0 (cs.take i))]) nt2
        have hD2 := st _ _ hD
        refine ⟨D, vs, _, rfl, rfl, hD2, small_lt (by omega), ?_⟩
        have cf : Chg [D] (upd H' t2 (.tup [.int (endB 0 (cs.take i)), .int cp.1, .int (endD 0 (cs.take i))])) (upd (upd H' t2 (.tup [.int (endB 0 (cs.take i)), .int cp.1, .int (endD 0 (cs.take i))])) D (.lst (vs ++ [.ref t2]))) := Chg.upd List.mem_cons_self
        refine ⟨_, rfl, _, rfl, _, _, rfl, rfl, _, rfl, _, _, vs ++ [.ref t2], rfl, same_more (sm.trans st) nD, (cD.trans (Chg.of_same st)).trans cf, upd_same, ?_⟩
        rw [if_pos e, List.map_append]
        exact Rws.app ((Kp.chg cf).rws (Lsts.of1 hD2) (hv.same st)) (.one ((Kp.chg cf).rw (Lsts.of1 hD2) ⟨t2, rfl, upd_same⟩))
      · have e : ¬ 0 < endD 0 (cs.take i) := fun z => e (decide_eq_true z)
        refine ⟨_, rfl, _, rfl, _, _, rfl, rfl, _, rfl, _, _, vs, rfl, sm, cD, hD, ?_⟩
        rw [if_neg e, List.append_nil]
        exact hv
    · rintro σ H' ⟨y4, y5, vs, rfl, sm, cD, hD, hv⟩
      rw [cl, List.take_length] at hv
      have := lay_len cs 0 0
      exact ⟨_, rfl, q H' D vs _ sm nD hD hv (lay_prf hlt hC 0) (by omega)⟩
theorem all_lt {ss : List Span} (h : ss.all isSpan = true) : ∀ s ∈ ss, s.1 < s.2 := fun s hs => ((isSpan_iff s).mp (List.all_eq_true.mp h s hs)).2.1
/-- the best of pieces as a value -/
def Bst (H : Hp) (v : V) : Option Span → Prop
  | none => v = .non
  | some s => Spn H v s
def spDeepL : Sp := fun vs H Q _ => ∃ (l : Addr) (us : List V) (ss : List Span), vs = [.ref l] ∧ H l = some (.lst us) ∧ Sps H us ss ∧ Few ss ∧ (∀ s ∈ ss, s.1 < s.2) ∧
  ∀ (H' : Hp) (v : V) (ps : List Piece), Same H H' → Prf ss ps → Bst H' v (bestL ps) → Q v H'
theorem ok_deepest_layer (T : Tx K mg) : FnOk P w K mg base CX0 (3) T.f_deepest_layer T.fd_deepest_layer ["spans"] spDeepL := by
  have G_layers_of : FnOk P w K mg base CX0 _ _ _ _ _ := ok_layers_of T
  refine T.F_deepest_layer.ok sc_deepest_layer (fun vs H Q E h => ?_) (fun cdv A outer s H vs Q E hr h => ?_)
  · obtain ⟨l, us, ss, rfl, _⟩ := h
    rfl
  · obtain ⟨l, us, ss, rfl, hl, hS, hlen, hlt, q⟩ := h
    refine ⟨_, (pss_cons (ps_set (i := 1) sc_deepest_layer.nd rfl (Or.inl rfl) pe_non)
      (pss_cons (ps_for PassesOwn.never (by rfl) (pi_list (pe_call G_layers_of (hr.mono (by decide)) (by rfl) T.g_layers_of T.F_layers_of.kp T.b_layers_of .nil pass0 (pa_cons (pv 0) pa_nil))) (pg_tup rfl (pgs_cons (pg_name (i := 2) sc_deepest_layer.nd rfl (Or.inl rfl)) (pgs_cons (pg_name (i := 3) sc_deepest_layer.nd rfl (Or.inl rfl)) (pgs_cons (pg_name (i := 4) sc_deepest_layer.nd rfl (Or.inl rfl)) pgs_nil))))
        (pss_one (ps_if (PW.pt (pw_or (pt_cmpR op_isN (pv 1) pe_non (nomark _)) (pw_or1 (pt_cmpR op_gt (pv 4) (pe_ix ix_tup (pv 1) pe_int (fun _ _ => rfl)) (nomark _))))) (pss_one (ps_set (i := 1) sc_deepest_layer.nd rfl (Or.inl rfl) (pe_tup (pa_cons (pv 4) (pa_cons (pv 2) pa_nil))))) pss_nil)))
      (pss_one (ps_ret (pv 1))))), ?_⟩
    refine ⟨_, rfl, l, us, ss, rfl, hl, hS, hlen, hlt, fun H1 r ws ps s1 nr hr1 hp prf pl => ?_⟩
    have wl := hp.len
    refine ⟨r, rfl, ⟨_, SqL.of hr1⟩, for_list (K := K) (a := r) (xs := ws) (fun i σ H' => ∃ v y2 y3 y4, σ = [some (.ref l), some v, y2, y3, y4] ∧ Same H1 H' ∧ Bst H' v (bestL (ps.take i)))
      ⟨.non, none, none, none, rfl, Same.refl _, rfl⟩ (fun i σ H' _ ⟨_, _, _, _, _, c, _⟩ => SqL.of (c _ _ hr1)) ?_ ?_⟩
    · rintro i y σ H' hi ⟨v, y2, y3, y4, rfl, sm, hb⟩
      obtain ⟨row, er, hrow⟩ := hp.get hi
      rw [List.getElem?_map] at er
      obtain ⟨pc, ep, rfl⟩ := Option.map_eq_some_iff.mp er
      obtain ⟨t, rfl, ht⟩ := hrow
      have tk : ps.take (i + 1) = ps.take i ++ [pc] := by
        rw [List.take_add_one, ep]
        rfl
      rw [tk, bestL_snoc]
      refine ⟨t, _, rfl, SqT.of (sm _ _ ht), rfl, _, _, rfl, _, _, rfl, _, _, rfl, rfl, ?_⟩
      have new : tAsg (tTup (tCons (tVar 4) (tCons (tVar 2) tNil))) (gName 1) { nx := fun σ H' => ∃ v y2 y3 y4, σ = [some (.ref l), some v, y2, y3, y4] ∧ Same H1 H' ∧ Bst H' v (some (pc.2.2, pc.1)), rt := Q } [some (.ref l), some v, some (.int pc.1), some (.int pc.2.1), some (.int pc.2.2)] H' := by
        refine ⟨_, rfl, _, rfl, (by show 2 ≤ sizeLine; decide), fun t2 nt2 => ?_⟩
        exact ⟨_, _, _, _, rfl, sm.trans (same_upd nt2), t2, rfl, upd_same⟩
      cases hbb : bestL (ps.take i) with
      | none =>
        rw [hbb] at hb
        have hb : v = .non := hb
        subst hb
        refine ⟨_, rfl, rfl, _, rfl, iteT ?_⟩
        exact new
      | some b =>
        rw [hbb] at hb
        obtain ⟨t3, rfl, ht3⟩ := hb
        refine ⟨_, rfl, rfl, _, rfl, iteF ?_⟩
        refine ⟨_, rfl, _, rfl, t3, _, _, _, rfl, rfl, SqT.of ht3, atI_nat (j := 0) rfl, _, _, rfl, rfl, _, rfl, ite2 (fun e => ?_) (fun e => ?_)⟩
        · have e : b.1 < pc.2.2 := of_decide_eq_true e
          show tAsg _ _ _ _ _
          simp only [stpB]
          rw [if_pos e]
          exact new
        · have e : ¬ b.1 < pc.2.2 := fun z => e (decide_eq_true z)
          simp only [stpB]
          rw [if_neg e]
          exact ⟨_, _, _, _, rfl, sm, t3, rfl, ht3⟩
    · rintro σ H' ⟨v, y2, y3, y4, rfl, sm, hb⟩
      rw [wl, List.length_map, List.take_length] at hb
      exact ⟨_, rfl, q H' v ps (s1.trans sm) prf hb⟩
def spDeepest (C : Addr) : Sp := fun vs H Q E => ∃ (l : Addr) (us : List V) (ss : List Span), vs = [.ref l] ∧ H l = some (.lst us) ∧ Sps H us ss ∧ Few ss ∧ (ss.all isSpan = false → E (.ref C) none H) ∧
  (ss.all isSpan = true → ∀ (H' : Hp) (v : V) (ps : List Piece), Same H H' → Prf ss ps → Bst H' v (bestL ps) → Q v H')
theorem ok_deepest (T : Tx K mg) : FnOk P w K mg base (L2.CX P w) (6) T.f_deepest T.fd_deepest ["spans"] (spDeepest T.C_NoSpan) := by
  have G_check_spans : FnOk P w K mg base (L2.CX P w) _ _ _ _ _ := ok_check_spans T
  have G_deepest_layer : FnOk P w K mg base CX0 _ _ _ _ _ := ok_deepest_layer T
  refine T.F_deepest.okX sc_deepest (fun vs H Q E h => ?_) (fun cdv A outer s H vs Q E hr h => ?_)
  · obtain ⟨l, us, ss, rfl, _⟩ := h
    rfl
  · obtain ⟨l, us, ss, rfl, hl, hS, hlen, e, q⟩ := h
    refine ⟨_, (pss_cons (ps_expr (pe_call G_check_spans (hr.mono (by decide)) (by rfl) T.g_check_spans T.F_check_spans.kp T.b_check_spans .nil (passes_call (takes_of rfl rfl rfl rfl) (fun _ _ _ _ h => h)) (pa_cons (pv 0) pa_nil)))
      (pss_one (ps_ret (pe_call G_deepest_layer (hr.mono (by decide)) (by rfl) T.g_deepest_layer T.F_deepest_layer.kp T.b_deepest_layer .nil pass0 (pa_cons (pv 0) pa_nil))))), ?_⟩
    exact ⟨_, rfl, l, us, ss, rfl, hl, hS, fun ok => ⟨_, rfl, l, us, ss, rfl, hl, hS, hlen, all_lt ok, fun H' v ps s1 p b => q ok H' v ps s1 p b⟩, e⟩
end
section
variable {P : Program} {w : World} {K : PySem.W.Frag} {mg : Str → Option Value} {base : Heap}
def spProfile (C : Addr) : Sp := fun vs H Q E => ∃ (l : Addr) (us : List V) (ss : List Span), vs = [.ref l] ∧ H l = some (.lst us) ∧ Sps H us ss ∧ Few ss ∧ (ss.all isSpan = false → E (.ref C) none H) ∧
  (ss.all isSpan = true → ∀ (H' : Hp) (r : Addr) (ws : List V) (ps : List Piece), Same H H' → H r = none → H' r = some (.lst ws) → Rws H' ws (ps.map pcR) → Prf ss ps → ps.length ≤ 64 → Q (.ref r) H')
theorem ok_profile (T : Tx K mg) : FnOk P w K mg base (L2.CX P w) (6) T.f_profile T.fd_profile ["spans"] (spProfile T.C_NoSpan) := by
  have G_check_spans : FnOk P w K mg base (L2.CX P w) _ _ _ _ _ := ok_check_spans T
  have G_layers_of : FnOk P w K mg base CX0 _ _ _ _ _ := ok_layers_of T
  refine T.F_profile.okX sc_profile (fun vs H Q E h => ?_) (fun cdv A outer s H vs Q E hr h => ?_)
  · obtain ⟨l, us, ss, rfl, _⟩ := h
    rfl
  · obtain ⟨l, us, ss, rfl, hl, hS, hlen, e, q⟩ := h
    refine ⟨_, (pss_cons (ps_expr (pe_call G_check_spans (hr.mono (by decide)) (by rfl) T.g_check_spans T.F_check_spans.kp T.b_check_spans .nil (passes_call (takes_of rfl rfl rfl rfl) (fun _ _ _ _ h => h)) (pa_cons (pv 0) pa_nil)))
      (pss_one (ps_ret (pe_call G_layers_of (hr.mono (by decide)) (by rfl) T.g_layers_of T.F_layers_of.kp T.b_layers_of .nil pass0 (pa_cons (pv 0) pa_nil))))), ?_⟩
    refine ⟨_, rfl, l, us, ss, rfl, hl, hS, fun ok => ?_, e⟩
    exact ⟨_, rfl, l, us, ss, rfl, hl, hS, hlen, all_lt ok, q ok⟩
end
section
variable {P : Program} {w : World} {K : PySem.W.Frag} {mg : Str → Option Value} {base : Heap}
/-! ### the law's own spans and covers -/
def spSpansL : Sp := fun vs H Q _ => ∃ (p e : Addr) (m : Nat) (n : Nat) (zs : List Int), vs = [.ref p, .ref e, .int (m : Int)] ∧ Pu H p n ∧ n + 3 + 21 * (m + 1) ≤ 1000000000 ∧ H e = some (.lst (zs.map V.int)) ∧ e ≠ p ∧ zs.length ≤ 1000 ∧ m ≤ 100 ∧ (∀ z ∈ zs, -999999999999 ≤ z ∧ z ≤ 999999999999) ∧
  ∀ (H' : Hp) (f : Addr) (us : List V) (ss : List Span) (zs' : List Int), Chg [p, e] H H' → Pu H' p (n + 3 + 21 * m) → H' e = some (.lst (zs'.map V.int)) → zs'.length ≤ zs.length + 2 * m → (∀ z ∈ zs', -999999999999 ≤ z ∧ z ≤ 999999999999) → H f = none → H' f = some (.lst us) → Sps H' us ss → (∀ s ∈ ss, isSpan s = true) → ss.length ≤ m → Q (.ref f) H'
theorem ok_spans (T : Tx K mg) : FnOk P w K mg base CX0 (6) T.f_l_spans T.fd_l_spans ["_law_purse_here", "_law_ends_here", "_law_most"] spSpansL := by
  have G_l_draw : FnOk P w K mg base CX0 _ _ _ _ _ := ok_draw T
  have G_l_span : FnOk P w K mg base CX0 _ _ _ _ _ := ok_span T
  refine T.F_l_spans.ok sc_l_spans (fun vs H Q E h => ?_) (fun cdv A outer s H vs Q E hr h => ?_)
  · obtain ⟨p, e, m, n, zs, rfl, _⟩ := h
    rfl
  · obtain ⟨p, e, m, n, zs, rfl, pu, hn, hE, nep, hz, hm, hzb, q⟩ := h
    refine ⟨_, (pss_cons (ps_set (i := 3) sc_l_spans.nd rfl (Or.inl rfl) (pe_lst pa_nil))
      (pss_cons (ps_for PassesOwn.never (by rfl) (pi_range1 (by rfl) T.m_range (pa_cons (pe_call G_l_draw (hr.mono (by decide)) (by rfl) T.g_l_draw T.F_l_draw.kp T.b_l_draw .nil pass0 (pa_cons (pv 0) (pa_cons (pe_op op_add (pv 2) pe_int) pa_nil))) pa_nil)) (pg_name (i := 4) sc_l_spans.nd rfl (Or.inl rfl))
        (pss_one (ps_if (PW.pt (pw_and (pt_cmpR (op_neD hr.units) (pv 3) (pe_lst pa_nil) (nomark _)) (pw_and1 (pt_cmpR op_eq (pe_call G_l_draw (hr.mono (by decide)) (by rfl) T.g_l_draw T.F_l_draw.kp T.b_l_draw .nil pass0 (pa_cons (pv 0) (pa_cons pe_int pa_nil))) pe_int (nomark _))))) (pss_one (ps_expr (pe_bm PySem.F.plainAttrs_list PySem.F.slot_list_append PySem.F.type_list_append mt_append (pv 3) (pa_cons (pe_ix ix_list (pv 3) (pe_call G_l_draw (hr.mono (by decide)) (by rfl) T.g_l_draw T.F_l_draw.kp T.b_l_draw .nil pass0 (pa_cons (pv 0) (pa_cons (pe_callB call_len_seq (by rfl) T.m_len PySem.boot_len (pa_cons (pv 3) pa_nil)) pa_nil))) (fun _ _ => rfl)) pa_nil)))) (pss_one (ps_expr (pe_bm PySem.F.plainAttrs_list PySem.F.slot_list_append PySem.F.type_list_append mt_append (pv 3) (pa_cons (pe_call G_l_span (hr.mono (by decide)) (by rfl) T.g_l_span T.F_l_span.kp T.b_l_span .nil pass0 (pa_cons (pv 0) (pa_cons (pv 1) (pa_cons (pe_op op_sub (pe_op op_pow pe_int pe_int) pe_int) pa_nil)))) pa_nil)))))))
      (pss_one (ps_ret (pv 3))))), ?_⟩
    have e12 : (10 : Int) ^ (12 : Int).toNat = 1000000000000 := by decide
    refine ⟨Nat.zero_le _, fun f nf => ?_⟩
    obtain ⟨gf, sf⟩ := upd_at (o := .lst []) nf
    have nfp : f ≠ p := (pu.ne nf).symm
    have nfe : f ≠ e := (ne_of_none hE nf).symm
    refine ⟨_, rfl, _, rfl, _, _, rfl, rfl, p, _, n, rfl, pu.same sf, by omega, by omega, by omega, fun H1 r c1 p1 r0 r1 => ?_⟩
    have rm : r.toNat ≤ m := by omega
    refine ⟨r, rfl, by omega, by omega, ?_⟩
    refine for_range (lo := 0) (n := r.toNat) (fun i σ H' => ∃ (y4 : Option V) (us : List V) (ss : List Span) (ws : List Int), σ = [some (.ref p), some (.ref e), some (.int (m : Int)), some (.ref f), y4] ∧ Chg [p, e] H H' ∧ Pu H' p (n + 3 + 21 * i) ∧ H' e = some (.lst (ws.map V.int)) ∧ ws.length ≤ zs.length + 2 * i ∧ (∀ z ∈ ws, -999999999999 ≤ z ∧ z ≤ 999999999999) ∧ H' f = some (.lst us) ∧ Sps H' us ss ∧ (∀ s ∈ ss, isSpan s = true) ∧ ss.length = i)
      ⟨none, [], [], zs, rfl, (Chg.of_same sf).trans (c1.mono fun x hx => by rw [List.mem_singleton.mp hx]; exact List.mem_cons_self), p1, c1 _ _ (nmem1 nep) (sf _ _ hE), by omega, hzb, c1 _ _ (nmem1 nfp) gf, .nil, (fun s hs => nomatch hs), rfl⟩ ?_ ?_
    · rintro i σ H' hi ⟨y4, us, ss, ws, rfl, cc, pi, hE', hw, hwb, hf, hS, ok, hl⟩
      have hul := hS.len
      refine ⟨_, rfl, Nat.zero_le _, fun l nl => ?_⟩
      obtain ⟨gl, sl⟩ := upd_at (o := .lst []) nl
      refine ⟨_, _, hS.same sl |>.dp (SqL.of (sl _ _ hf)), .lst (SqL.of gl) .nil, shaped_spans ss, shaped_nil, _, rfl, ?_⟩
      rw [eqv_spans_nil]
      have up : ∀ {X Y : Hp}, Chg [p] X Y → Chg [p, e] X Y := fun c => c.mono fun x hx => by
        rw [List.mem_singleton.mp hx]
        exact List.mem_cons_self
      -- a new span
      have fresh : ∀ (H2 : Hp), Chg [p, e] H' H2 → Pu H2 p (n + 3 + 21 * i + 3) → H2 e = some (.lst (ws.map V.int)) → H2 f = some (.lst us) → Sps H2 us ss →
          (tDrop (tBM K "list" rAppend (tVar 3) (tCons (tCall spSpan [] E0 (tCons (tVar 0) (tCons (tVar 1) (tCons (tOp (rI0 fun i j => .int (i - j)) (tOp (rI CPow fun i j => .int (i ^ j.toNat)) (tC (.int 10)) (tC (.int 12))) (tC (.int 1))) tNil)))) tNil))) { nx := fun σ' H3 => ∃ (y4 : Option V) (us : List V) (ss : List Span) (ws : List Int), σ' = [some (.ref p), some (.ref e), some (.int (m : Int)), some (.ref f), y4] ∧ Chg [p, e] H H3 ∧ Pu H3 p (n + 3 + 21 * (i + 1)) ∧ H3 e = some (.lst (ws.map V.int)) ∧ ws.length ≤ zs.length + 2 * (i + 1) ∧ (∀ z ∈ ws, -999999999999 ≤ z ∧ z ≤ 999999999999) ∧ H3 f = some (.lst us) ∧ Sps H3 us ss ∧ (∀ s ∈ ss, isSpan s = true) ∧ ss.length = i + 1, rt := Q } [some (.ref p), some (.ref e), some (.int (m : Int)), some (.ref f), some (.int (0 + (i : Int)))] H2 := fun H2 c2 p2 hE2 hf2 hS2 => by
        refine ⟨_, rfl, .inl ⟨rfl, _, SqL.of hf2⟩, _, rfl, _, rfl, _, _, rfl, rfl, ⟨by decide, by decide, by decide⟩, _, _, rfl, rfl, p, e, _, _, ws, rfl, p2, by omega, hE2, nep, by omega, by rw [e12]; decide, by rw [e12]; decide, fun H3 t lo hi c3 p3 hE3 nt ht b1 b2 b3 => ?_⟩
        rw [e12] at b1 b3
        have hf3 := c3 _ _ (nmem2 nfp nfe) hf2
        have lp : Lsts [p, e] H2 := p2.lsts.two (Lsts.of1 hE2)
        have hS3 : Sps H3 (us ++ [.ref t]) (ss ++ [(lo, hi)]) := (hS2.chg c3 lp).app (.one ⟨t, rfl, ht⟩)
        have cf : Chg [f] H3 (upd H3 f (.lst (us ++ [.ref t]))) := Chg.upd List.mem_cons_self
        have lf : Lsts [f] H3 := Lsts.of1 hf3
        refine ⟨f, us, .ref t, rfl, rfl, hf3, small_lt (by omega), _, us ++ [.ref t], ss ++ [(lo, hi)], ws ++ [lo, hi], rfl, ?_, (p3.chg cf (nmem1 nfp.symm)).mono (by omega), cf _ _ (nmem1 nfe.symm) hE3, ?_, fun z hz => ?_, upd_same, hS3.chg cf lf, fun s hs => ?_, ?_⟩
        · exact fun b o nb hb => by
            have h3 := (cc.trans (c2.trans c3)) b o nb hb
            rw [upd_ne (ne_of_none hb nf)]
            exact h3
        · rw [List.length_append]
          simp
          omega
        · rcases List.mem_append.mp hz with h | h
          · exact hwb z h
          · rcases List.mem_cons.mp h with h | h
            · rw [h]
              omega
            · rw [List.mem_singleton.mp h]
              omega
        · rcases List.mem_append.mp hs with h | h
          · exact ok s h
          · rw [List.mem_singleton.mp h]
            exact (isSpan_iff (lo, hi)).mpr ⟨by simpa using b1, b2, by simpa using b3⟩
        · rw [List.length_append, hl]
          rfl
      by_cases hnil : ss = []
      · rw [decide_eq_true hnil]
        exact iteF (iteF (fresh _ (Chg.of_same sl) ((pi.same sl).mono (by omega)) (sl _ _ hE') (sl _ _ hf) (hS.same sl)))
      · rw [decide_eq_false hnil]
        have h0 : 0 < ss.length := List.length_pos_iff.mpr hnil
        refine iteT ⟨_, rfl, p, 6, _, rfl, pi.same sl, by omega, by decide, by decide, fun H2 x c2 p2 x0 x1 => ?_⟩
        have hE2 := c2 _ _ (nmem1 nep) (sl _ _ hE')
        have hf2 := c2 _ _ (nmem1 nfp) (sl _ _ hf)
        have hS2 := (hS.same sl).chg c2 (pi.same sl).lsts
        refine ⟨rfl, _, rfl, ite2 (fun _ => ?_) (fun _ => ?_)⟩
        · refine ⟨_, rfl, .inl ⟨rfl, _, SqL.of hf2⟩, _, rfl, _, rfl, _, rfl, f, _, rfl, .inl (SqL.of hf2), p, us.length, _, rfl, p2, by omega, by omega, by omega, fun H3 y c3 p3 y0 y1 => ?_⟩
          have hf3 := c3 _ _ (nmem1 nfp) hf2
          have hS3 := hS2.chg c3 p2.lsts
          have hy : y.toNat < us.length := by omega
          obtain ⟨sp, es, hsp⟩ := hS3.get (List.getElem?_eq_getElem hy)
          refine ⟨f, us, y, us[y.toNat], rfl, rfl, SqL.of hf3, at_of (j := y.toNat) (by omega) (List.getElem?_eq_getElem hy), ?_⟩
          have cf : Chg [f] H3 (upd H3 f (.lst (us ++ [us[y.toNat]]))) := Chg.upd List.mem_cons_self
          have lf : Lsts [f] H3 := Lsts.of1 hf3
          refine ⟨f, us, _, rfl, rfl, hf3, small_lt (by omega), _, us ++ [us[y.toNat]], ss ++ [sp], ws, rfl, ?_, (p3.chg cf (nmem1 nfp.symm)).mono (by omega), cf _ _ (nmem1 nfe.symm) (c3 _ _ (nmem1 nep) hE2), by omega, hwb, upd_same, (hS3.app (.one hsp)).chg cf lf, fun s hs => ?_, ?_⟩
          · exact fun b o nb hb => by
              have h3 := (cc.trans ((Chg.of_same sl).trans (up (c2.trans c3)))) b o nb hb
              rw [upd_ne (ne_of_none hb nf)]
              exact h3
          · rcases List.mem_append.mp hs with h | h
            · exact ok s h
            · rw [List.mem_singleton.mp h]
              exact ok sp (List.mem_of_getElem? es)
          · rw [List.length_append, hl]
            rfl
        · exact fresh _ ((Chg.of_same sl).trans (up c2)) p2 hE2 hf2 hS2
    · rintro σ H' ⟨y4, us, ss, ws, rfl, cc, pi, hE', hw, hwb, hf, hS, ok, hl⟩
      exact ⟨_, rfl, q H' f us ss ws cc (pi.mono (by omega)) hE' (by omega) hwb nf hf hS ok (by omega)⟩
end
section
variable {P : Program} {w : World} {K : PySem.W.Frag} {mg : Str → Option Value} {base : Heap}
def spHolds : Sp := fun vs H Q _ => ∃ (v : V) (s : Span) (x : Int), vs = [v, .int x] ∧ Spn H v s ∧ Q (.bl (holdsB x s)) H
theorem ok_holds (T : Tx K mg) : FnOk P w K mg base CX0 (1) T.f_l_holds T.fd_l_holds ["_law_span_here", "_law_place"] spHolds := by
  refine T.F_l_holds.ok sc_l_holds (fun vs H Q E h => ?_) (fun cdv A outer s H vs Q E hr h => ?_)
  · obtain ⟨v, s, x, rfl, _⟩ := h
    rfl
  · obtain ⟨v, s, x, rfl, ⟨t, rfl, ht⟩, q⟩ := h
    refine ⟨_, (pss_one (ps_ret (pe_and (pe_cmpR op_le (pe_ix ix_tup (pv 0) pe_int (fun _ _ => rfl)) (pv 1) (nomark _)) (pe_one (pe_cmpR op_lt (pv 1) (pe_ix ix_tup (pv 0) pe_int (fun _ _ => rfl)) (nomark _)))))), ?_⟩
    unfold holdsB at q
    refine ⟨_, rfl, t, _, _, _, rfl, rfl, SqT.of ht, atI_nat (j := 0) rfl, _, rfl, _, _, rfl, rfl, _, rfl, ?_⟩
    by_cases h : s.1 ≤ x
    · rw [decide_eq_true h] at q ⊢
      exact iteT ⟨_, rfl, _, rfl, t, _, _, _, rfl, rfl, SqT.of ht, atI_nat (j := 1) rfl, _, _, rfl, rfl, q⟩
    · rw [decide_eq_false h] at q ⊢
      exact iteF q
def spDepth : Sp := fun vs H Q _ => ∃ (l : Addr) (us : List V) (ss : List Span) (x : Int), vs = [.ref l, .int x] ∧ H l = some (.lst us) ∧ Sps H us ss ∧ ss.length ≤ 100000 ∧ ∀ H', Same H H' → Q (.int ((ss.filter (holdsB x)).length : Nat)) H'
theorem ok_depth (T : Tx K mg) : FnOk P w K mg base CX0 (2) T.f_l_depth T.fd_l_depth ["_law_spans_here", "_law_place"] spDepth := by
  have G_l_holds : FnOk P w K mg base CX0 _ _ _ _ _ := ok_holds T
  refine T.F_l_depth.ok sc_l_depth (fun vs H Q E h => ?_) (fun cdv A outer s H vs Q E hr h => ?_)
  · obtain ⟨l, us, ss, x, rfl, _⟩ := h
    rfl
  · obtain ⟨l, us, ss, x, rfl, hl, hS, hlen, q⟩ := h
    refine ⟨_, (pss_one (ps_ret (pe_callB call_len_seq (by rfl) T.m_len PySem.boot_len (pa_cons (pe_lc (own := [("_law_span_here", 2)]) (g := (gName 2)) (by rfl) sc_l_depth.nd (pi_list (pv 0)) (blkOk_by (own := [("_law_span_here", 2)]) (N := N_l_depth) (sc := defScope s_l_depth) (by decide +kernel)) (fun _ _ _ _ _ => (pg_name (i := 2) sc_l_depth.nd rfl (Or.inl rfl))) (fun _ _ _ _ _ => (pts_one (pt_val (pe_call G_l_holds (hr.mono (by decide)) (by rfl) T.g_l_holds T.F_l_holds.kp T.b_l_holds .nil pass0 (pa_cons (pv 2) (pa_cons (pv 1) pa_nil)))))) (fun _ _ _ _ _ => (pv 2))) pa_nil)))), ?_⟩
    refine ⟨_, rfl, l, rfl, ⟨_, SqL.of hl⟩, fun D nD => ?_⟩
    refine lc_list (K := K) (a := l) (xs := us) (fun i H' => Same H H' ∧ ∃ ws, H' D = some (.lst ws) ∧ ws.length = ((ss.take i).filter (holdsB x)).length) ⟨same_upd nD, [], upd_same, rfl⟩ (fun i H' _ h => SqL.of (h.1 _ _ hl)) ?_ ?_
    · rintro i y H' hi ⟨sm, ws, hD, hw⟩
      obtain ⟨sp, es, hsp⟩ := hS.get hi
      have tk : ss.take (i + 1) = ss.take i ++ [sp] := by
        rw [List.take_add_one, es]
        rfl
      refine ⟨rfl, _, rfl, _, rfl, y, sp, x, rfl, hsp.same sm, _, rfl, ?_⟩
      by_cases hb : holdsB x sp = true
      · rw [hb]
        refine iteT ⟨_, rfl, ws, hD, small_lt ?_, same_more sm nD, _, upd_same, ?_⟩
        · rw [hw]
          have h1 := List.length_filter_le (holdsB x) (ss.take i)
          have h2 := List.length_take_le i ss
          have h3 : (ss.take i).length ≤ ss.length := by
            rw [List.length_take]
            exact Nat.min_le_right _ _
          omega
        · rw [tk, List.filter_append, List.length_append, List.length_append, hw]
          simp [hb]
      · rw [Bool.not_eq_true] at hb
        rw [hb]
        refine iteF ⟨sm, ws, hD, ?_⟩
        rw [tk, List.filter_append, List.length_append, hw]
        simp [hb]
    · rintro H' ⟨sm, ws, hD, hw⟩
      rw [hS.len, List.take_length] at hw
      refine ⟨D, ws, rfl, .inl (SqL.of hD), ?_⟩
      rw [hw]
      exact q H' sm
end
section
variable {P : Program} {w : World} {K : PySem.W.Frag} {mg : Str → Option Value} {base : Heap}
def spEnds : Sp := fun vs H Q _ => ∃ (l : Addr) (us : List V) (ss : List Span), vs = [.ref l] ∧ H l = some (.lst us) ∧ Sps H us ss ∧ Few ss ∧
  ∀ (H' : Hp) (p : Addr) (ns : List Int), Same H H' → H p = none → H' p = some (.lst (ns.map V.int)) → ns.Pairwise (· < ·) → (∀ k, k ∈ ns ↔ k ∈ ss.map (·.1) ++ ss.map (·.2)) → ns.length < 64 → Q (.ref p) H'
theorem ok_ends (T : Tx K mg) : FnOk P w K mg base CX0 (1) T.f_l_ends T.fd_l_ends ["_law_spans_here"] spEnds := by
  refine T.F_l_ends.ok sc_l_ends (fun vs H Q E h => ?_) (fun cdv A outer s H vs Q E hr h => ?_)
  · obtain ⟨l, us, ss, rfl, _⟩ := h
    rfl
  · obtain ⟨l, us, ss, rfl, hl, hS, ⟨hlen, es0, e64, ein⟩, q⟩ := h
    refine ⟨_, (pss_one (ps_ret (pe_callB (cr_sortedSet rfl) (by rfl) T.m_sorted (by decide +kernel) (pa_cons (pe_callTy (call_set_of rfl) (by rfl) T.m_set (by decide +kernel) (pa_cons (pe_op op_cat (pe_lc (own := [("_law_span_here", 1)]) (g := (gName 1)) (by rfl) sc_l_ends.nd (pi_list (pv 0)) (blkOk_by (own := [("_law_span_here", 1)]) (N := N_l_ends) (sc := defScope s_l_ends) (by decide +kernel)) (fun _ _ _ _ _ => (pg_name (i := 1) sc_l_ends.nd rfl (Or.inl rfl))) (fun _ _ _ _ _ => pts_nil) (fun _ _ _ _ _ => (pe_ix (show IxR _ (rIxT K) from ix_tup) (pv 1) pe_int (fun _ _ => rfl)))) (pe_lc (own := [("_law_span_here", 1)]) (g := (gName 1)) (by rfl) sc_l_ends.nd (pi_list (pv 0)) (blkOk_by (own := [("_law_span_here", 1)]) (N := N_l_ends) (sc := defScope s_l_ends) (by decide +kernel)) (fun _ _ _ _ _ => (pg_name (i := 1) sc_l_ends.nd rfl (Or.inl rfl))) (fun _ _ _ _ _ => pts_nil) (fun _ _ _ _ _ => (pe_ix (show IxR _ (rIxT K) from ix_tup) (pv 1) pe_int (fun _ _ => rfl))))) pa_nil)) pa_nil)))), ?_⟩
    have hul := hS.len
    refine ⟨_, rfl, l, rfl, ⟨_, SqL.of hl⟩, fun D nD => ?_⟩
    refine lc_list (K := K) (a := l) (xs := us) (fun i H' => Same H H' ∧ H' D = some (.lst (((ss.take i).map (·.1)).map V.int))) ⟨same_upd nD, upd_same⟩ (fun i H' _ h => SqL.of (h.1 _ _ hl)) ?_ ?_
    · rintro i y H' hi ⟨sm, hD⟩
      obtain ⟨sp, es, hsp⟩ := hS.get hi
      obtain ⟨t, rfl, ht⟩ := hsp.same sm
      refine ⟨rfl, ?_⟩
      unfold tYes
      refine iteT ⟨_, rfl, t, _, _, _, rfl, rfl, SqT.of ht, atI_nat (j := 0) rfl, _, hD, small_lt ?_, same_more sm nD, ?_⟩
      · rw [List.length_map, List.length_map, List.length_take]
        omega
      · rw [upd_same, List.take_add_one, es, List.map_append, List.map_append]
        rfl
    · rintro H1 ⟨sm, hD⟩
      rw [hul, List.take_length] at hD
      refine ⟨_, rfl, l, rfl, ⟨_, SqL.of (sm _ _ hl)⟩, fun D2 nD2 => ?_⟩
      have nDD : D ≠ D2 := ne_of_none hD nD2
      refine lc_list (K := K) (a := l) (xs := us) (fun i H' => Same H1 H' ∧ H' D2 = some (.lst (((ss.take i).map (·.2)).map V.int))) ⟨same_upd nD2, upd_same⟩ (fun i H' _ h => SqL.of (h.1 _ _ (sm _ _ hl))) ?_ ?_
      · rintro i y H' hi ⟨sm2, hD2⟩
        obtain ⟨sp, es, hsp⟩ := hS.get hi
        obtain ⟨t, rfl, ht⟩ := (hsp.same sm).same sm2
        refine ⟨rfl, ?_⟩
        unfold tYes
        refine iteT ⟨_, rfl, t, _, _, _, rfl, rfl, SqT.of ht, atI_nat (j := 1) rfl, _, hD2, small_lt ?_, same_more sm2 nD2, ?_⟩
        · rw [List.length_map, List.length_map, List.length_take]
          omega
        · rw [upd_same, List.take_add_one, es, List.map_append, List.map_append]
          rfl
      · rintro H2 ⟨sm2, hD2⟩
        rw [hul, List.take_length] at hD2
        refine ⟨D, D2, _, _, rfl, rfl, sm2 _ _ hD, hD2, ?_, fun c nc => ?_⟩
        · rw [List.length_map, List.length_map, List.length_map, List.length_map]
          exact small_le (by omega)
        rw [← List.map_append]
        obtain ⟨gc, sc⟩ := upd_at (o := .lst ((ss.map (·.1) ++ ss.map (·.2)).map V.int)) nc
        refine ⟨c, ss.map (·.1) ++ ss.map (·.2), rfl, SqL.of gc, ?_, fun st ds nst nd mds => ?_⟩
        · rw [List.length_append, List.length_map, List.length_map]
          omega
        have dl : ds.length ≤ es0.length := nodup_len nd fun x hx => by
          rcases List.mem_append.mp ((mds x).mp hx) with m | m
          · obtain ⟨sp, h1, rfl⟩ := List.mem_map.mp m
            exact (ein sp h1).1
          · obtain ⟨sp, h1, rfl⟩ := List.mem_map.mp m
            exact (ein sp h1).2
        obtain ⟨gs, ssn⟩ := upd_at (o := SetO w st (fun j => decide (j ∈ ss.map (·.1) ++ ss.map (·.2))) ds.length) nst
        refine ⟨st, _, ds.length, rfl, gs, by omega, fun ns p pw mem ln np => ?_⟩
        have all := sm.trans (sm2.trans (sc.trans ssn))
        refine q _ p ns (same_more all (all.free np)) (all.free np) upd_same pw (fun z => ?_) (by omega)
        rw [mem, decide_eq_true_eq]
end
section
variable {P : Program} {w : World} {K : PySem.W.Frag} {mg : Str → Option Value} {base : Heap}
def spWholeL : Sp := fun vs H Q _ => ∃ i : Int, vs = [.int i] ∧ Q (.bl true) H
theorem ok_whole (T : Tx K mg) : FnOk P w K mg base CX0 (1) T.f_l_whole T.fd_l_whole ["_law_number_here"] spWholeL := by
  refine T.F_l_whole.ok sc_l_whole (fun vs H Q E h => ?_) (fun cdv A outer s H vs Q E hr h => ?_)
  · obtain ⟨i, rfl, _⟩ := h
    rfl
  · obtain ⟨i, rfl, q⟩ := h
    refine ⟨_, (pss_one (ps_ret (pe_and (pe_callB call_isi (by rfl) T.m_isinstance (by decide +kernel) (pa_cons (pv 0) (pa_cons (pe_bltn (v := .ty "int") (by rfl) T.m_int (by decide +kernel) rfl) pa_nil))) (pe_one (pe_not (pe_callB call_isi (by rfl) T.m_isinstance (by decide +kernel) (pa_cons (pv 0) (pa_cons (pe_bltn (v := .ty "bool") (by rfl) T.m_bool (by decide +kernel) rfl) pa_nil)))))))), ?_⟩
    refine ⟨_, rfl, _, _, _, _, true, rfl, .ty _, .base (.int i), kit_ty (by decide +kernel), true, rfl, iteT ?_⟩
    exact ⟨_, rfl, _, _, _, _, false, rfl, .ty _, .base (.int i), kit_ty (by decide +kernel), false, rfl, q⟩
end
section
variable {P : Program} {w : World} {K : PySem.W.Frag} {mg : Str → Option Value} {base : Heap}
def spWholes : Sp := fun vs H Q _ => ∃ (l : Addr) (ns : List Int), vs = [.ref l] ∧ H l = some (.lst (ns.map V.int)) ∧ ∀ H', Same H H' → Q (.bl true) H'
theorem ok_wholes (T : Tx K mg) : FnOk P w K mg base CX0 (2) T.f_l_wholes T.fd_l_wholes ["_law_some"] spWholes := by
  have G_l_whole : FnOk P w K mg base CX0 _ _ _ _ _ := ok_whole T
  refine T.F_l_wholes.ok sc_l_wholes (fun vs H Q E h => ?_) (fun cdv A outer s H vs Q E hr h => ?_)
  · obtain ⟨l, ns, rfl, _⟩ := h
    rfl
  · obtain ⟨l, ns, rfl, hl, q⟩ := h
    refine ⟨_, (pss_one (ps_ret (pe_and (pe_callB call_isi (by rfl) T.m_isinstance (by decide +kernel) (pa_cons (pv 0) (pa_cons (pe_bltn (v := .ty "list") (by rfl) T.m_list (by decide +kernel) rfl) pa_nil))) (pe_one (pe_cmpR (op_eqD hr.units) (pe_lc (own := [("_law_one", 1)]) (g := (gName 1)) (by rfl) sc_l_wholes.nd (pi_list (pv 0)) (blkOk_by (own := [("_law_one", 1)]) (N := N_l_wholes) (sc := defScope s_l_wholes) (by decide +kernel)) (fun _ _ _ _ _ => (pg_name (i := 1) sc_l_wholes.nd rfl (Or.inl rfl))) (fun _ _ _ _ _ => (pts_one (pt_not (pt_val (pe_call G_l_whole (hr.mono (by decide)) (by rfl) T.g_l_whole T.F_l_whole.kp T.b_l_whole .nil pass0 (pa_cons (pv 1) pa_nil)))))) (fun _ _ _ _ _ => (pv 1))) (pe_lst pa_nil) (nomark _)))))), ?_⟩
    refine ⟨_, rfl, _, _, _, _, true, rfl, .ty _, .base (.lst hl), kit_ty (by decide +kernel), true, rfl, iteT ?_⟩
    refine ⟨_, rfl, l, rfl, ⟨_, SqL.of hl⟩, fun D nD => ?_⟩
    refine lc_list (K := K) (a := l) (xs := ns.map V.int) (fun i H' => Same H H' ∧ H' D = some (.lst [])) ⟨same_upd nD, upd_same⟩ (fun i H' _ h => SqL.of (h.1 _ _ hl)) ?_ ?_
    · rintro i y H' hi ⟨sm, hD⟩
      obtain ⟨z, rfl⟩ : ∃ z, y = V.int z := by
        obtain ⟨z, _, e⟩ := List.mem_map.mp (List.mem_of_getElem? hi)
        exact ⟨z, e.symm⟩
      exact ⟨rfl, _, rfl, z, rfl, true, rfl, iteF ⟨sm, hD⟩⟩
    · rintro H' ⟨sm, hD⟩
      refine ⟨Nat.zero_le _, fun e ne => ?_⟩
      obtain ⟨ge, se⟩ := upd_at (o := .lst []) ne
      exact ⟨_, _, .lst (SqL.of (se _ _ hD)) .nil, .lst (SqL.of ge) .nil, shaped_nil, shaped_nil, q _ (sm.trans se)⟩
end
/-! ### pieces found between neighbouring ends -/
def PFt (f : Int → Int) : Int → Int → List Piece → Prop
  | b, c, [] => ∀ x, b ≤ x → x < c → f x = 0
  | b, c, p :: r => b ≤ p.1 ∧ p.1 < p.2.1 ∧ p.2.1 ≤ c ∧ 0 < p.2.2 ∧ (∀ x, b ≤ x → x < p.1 → f x = 0) ∧ (∀ x, p.1 ≤ x → x < p.2.1 → f x = p.2.2) ∧ (p.2.1 < c → f p.2.1 ≠ p.2.2) ∧ PFt f p.2.1 c r
theorem PFt.done {f : Int → Int} {c : Int} (h0 : ∀ x, c ≤ x → f x = 0) : ∀ {l : List Piece} {b : Int}, PFt f b c l → PF f b l
  | [], b, h => fun x hx => by
    by_cases e : x < c
    · exact h x hx e
    · exact h0 x (by omega)
  | p :: r, b, ⟨h1, h2, h3, h4, h5, h6, h7, h8⟩ => by
    refine ⟨h1, h2, h4, h5, h6, ?_, h8.done h0⟩
    by_cases e : p.2.1 < c
    · exact h7 e
    · have := h0 p.2.1 (by omega)
      omega
theorem PFt.add {f : Int → Int} {c c' d : Int} (hc : c < c') (hf : ∀ x, c ≤ x → x < c' → f x = d) (hd : 0 ≤ d) : ∀ {l : List Piece} {b : Int}, b ≤ c → PFt f b c l → (∀ p, l.getLast? = some p → p.2.1 = c → p.2.2 ≠ d) → PFt f b c' (l ++ if 0 < d then [(c, c', d)] else [])
  | [], b, hb, h, _ => by
    by_cases e : 0 < d
    · rw [if_pos e]
      exact ⟨hb, hc, Int.le_refl _, e, h, hf, fun z => absurd z (Int.lt_irrefl _), fun x h1 h2 => by simp only at h1; omega⟩
    · rw [if_neg e]
      intro x h1 h2
      by_cases z : x < c
      · exact h x h1 z
      · have := hf x (by omega) h2
        omega
  | p :: r, b, hb, ⟨h1, h2, h3, h4, h5, h6, h7, h8⟩, hl => by
    refine ⟨h1, h2, by omega, h4, h5, h6, fun _ => ?_, PFt.add hc hf hd h3 h8 fun q hq hq2 => hl q ?_ hq2⟩
    · by_cases e : p.2.1 < c
      · exact h7 e
      · have e : p.2.1 = c := by omega
        have nr : r = [] := by
          cases r with
          | nil => rfl
          | cons q r =>
            obtain ⟨k1, k2, k3, _⟩ := h8
            omega
        have := hl p (by rw [nr]; rfl) e
        have := hf c (Int.le_refl _) hc
        rw [e]
        omega
    · cases r with
      | nil => simp at hq
      | cons q' r => exact hq
theorem PFt.wide {f : Int → Int} {c c' d : Int} (hc : c < c') (hf : ∀ x, c ≤ x → x < c' → f x = d) (hd : 0 ≤ d) : ∀ {l : List Piece} {b a : Int}, PFt f b c (l ++ [(a, c, d)]) → PFt f b c' (l ++ [(a, c', d)])
  | [], b, a, ⟨h1, h2, h3, h4, h5, h6, h7, h8⟩ => by
    simp only at *
    refine ⟨h1, by show a < c'; omega, Int.le_refl _, h4, h5, fun x k1 k2 => ?_, fun z => absurd z (Int.lt_irrefl _), fun x k1 k2 => by simp only at k1; omega⟩
    simp only at k1 k2
    by_cases e : x < c
    · exact h6 x k1 e
    · exact hf x (by omega) k2
  | p :: r, b, a, ⟨h1, h2, h3, h4, h5, h6, h7, h8⟩ => by
    have lt : p.2.1 < c := by
      cases r with
      | nil =>
        obtain ⟨k1, k2, _⟩ := h8
        simp only at k1 k2
        omega
      | cons q r =>
        obtain ⟨k1, k2, k3, _⟩ := h8
        omega
    exact ⟨h1, h2, by omega, h4, h5, h6, fun _ => h7 lt, PFt.wide hc hf hd h8⟩
/-- one step of the search -/
def stepPc (l : List Piece) (c c' d : Int) : List Piece :=
  match l.getLast? with
  | some p => if p.2.1 = c ∧ p.2.2 = d then l.dropLast ++ [(p.1, c', d)] else l ++ if 0 < d then [(c, c', d)] else []
  | none => l ++ if 0 < d then [(c, c', d)] else []
theorem stepPc_ok {f : Int → Int} {c c' d b : Int} {l : List Piece} (hc : c < c') (hf : ∀ x, c ≤ x → x < c' → f x = d) (hd : 0 ≤ d) (hb : b ≤ c) (h : PFt f b c l) : PFt f b c' (stepPc l c c' d) := by
  unfold stepPc
  cases hl : l.getLast? with
  | none => exact h.add hc hf hd hb fun p hp => by rw [hl] at hp; cases hp
  | some p =>
    by_cases e : p.2.1 = c ∧ p.2.2 = d
    · simp only
      rw [if_pos e]
      have el : l = l.dropLast ++ [(p.1, c, d)] := by
        have ne : l ≠ [] := fun z => by
          rw [z] at hl
          cases hl
        have hp : l.getLast ne = p := by
          rw [List.getLast?_eq_some_getLast ne] at hl
          exact Option.some.inj hl
        have e9 := (List.dropLast_concat_getLast ne).symm
        rw [hp] at e9
        obtain ⟨e1, e2⟩ := e
        obtain ⟨a, b', d'⟩ := p
        simp only at e1 e2
        subst e1 e2
        exact e9
      rw [el] at h
      exact h.wide hc hf hd
    · simp only
      rw [if_neg e]
      refine h.add hc hf hd hb fun q hq hq2 hq3 => e ?_
      rw [hl] at hq
      cases hq
      exact ⟨hq2, hq3⟩
/-- the best, told by all -/
theorem best_of : ∀ {l : List Piece}, (l.map (·.1)).Pairwise (· < ·) → ∀ {d lo : Int}, bestL l = some (d, lo) ↔ ((∃ p ∈ l, p.1 = lo ∧ p.2.2 = d) ∧ ∀ q ∈ l, q.2.2 ≤ d ∧ (q.2.2 = d → lo ≤ q.1)) := by
  have main : ∀ (n : Nat) (l : List Piece), l.length = n → (l.map (·.1)).Pairwise (· < ·) → (l = [] ∧ bestL l = none) ∨ ∃ d lo, bestL l = some (d, lo) ∧ (∃ p ∈ l, p.1 = lo ∧ p.2.2 = d) ∧ ∀ q ∈ l, q.2.2 ≤ d ∧ (q.2.2 = d → lo ≤ q.1) := by
    intro n
    induction n with
    | zero =>
      intro l hl _
      have := List.length_eq_zero_iff.mp hl
      subst this
      exact .inl ⟨rfl, rfl⟩
    | succ n ih =>
      intro l hl hp
      have ne : l ≠ [] := fun z => by rw [z] at hl; cases hl
      obtain ⟨m, x, rfl⟩ : ∃ m x, l = m ++ [x] := ⟨l.dropLast, l.getLast ne, (List.dropLast_concat_getLast ne).symm⟩
      rw [List.map_append, List.pairwise_append] at hp
      obtain ⟨hp1, _, hp3⟩ := hp
      have hx : ∀ q ∈ m, q.1 < x.1 := fun q hq => hp3 q.1 (List.mem_map.mpr ⟨q, hq, rfl⟩) x.1 (by simp)
      right
      rw [bestL_snoc]
      rcases ih m (by simpa using hl) hp1 with ⟨rfl, e⟩ | ⟨d, lo, e, ⟨p, h1, h2, h3⟩, h4⟩
      · rw [e]
        refine ⟨x.2.2, x.1, rfl, ⟨x, by simp, rfl, rfl⟩, fun q hq => ?_⟩
        have : q = x := by simpa using hq
        subst this
        exact ⟨Int.le_refl _, fun _ => Int.le_refl _⟩
      · rw [e]
        by_cases hd : d < x.2.2
        · refine ⟨x.2.2, x.1, by simp [stpB, hd], ⟨x, by simp, rfl, rfl⟩, fun q hq => ?_⟩
          rcases List.mem_append.mp hq with hq | hq
          · have := h4 q hq
            exact ⟨by omega, fun z => by omega⟩
          · have : q = x := by simpa using hq
            subst this
            exact ⟨Int.le_refl _, fun _ => Int.le_refl _⟩
        · refine ⟨d, lo, by simp [stpB, hd], ⟨p, List.mem_append_left _ h1, h2, h3⟩, fun q hq => ?_⟩
          rcases List.mem_append.mp hq with hq | hq
          · exact h4 q hq
          · have : q = x := by simpa using hq
            subst this
            have := hx p h1
            exact ⟨by omega, fun _ => by omega⟩
  intro l hp d lo
  rcases main _ l rfl hp with ⟨rfl, e⟩ | ⟨d', lo', e, ⟨p, h1, h2, h3⟩, h4⟩
  · rw [e]
    constructor
    · intro z
      cases z
    · rintro ⟨⟨p, hp, _⟩, _⟩
      cases hp
  · rw [e]
    constructor
    · intro z
      cases z
      exact ⟨⟨p, h1, h2, h3⟩, h4⟩
    · rintro ⟨⟨q, k1, k2, k3⟩, k4⟩
      have a1 := h4 q k1
      have a2 := k4 p h1
      have e1 : d' = d := by omega
      subst e1
      have e2 : lo' = lo := by
        have := a1.2 k3
        have := a2.2 h3
        omega
      rw [e2]
theorem bestL_ne {l : List Piece} (h : l ≠ []) : ∃ s, bestL l = some s := by
  obtain ⟨m, x, rfl⟩ : ∃ m x, l = m ++ [x] := ⟨l.dropLast, l.getLast h, (List.dropLast_concat_getLast h).symm⟩
  rw [bestL_snoc]
  cases bestL m with
  | none => exact ⟨_, rfl⟩
  | some b =>
    by_cases e : b.1 < x.2.2
    · exact ⟨(x.2.2, x.1), by simp [stpB, e]⟩
    · exact ⟨b, by simp [stpB, e]⟩
section
variable {P : Program} {w : World} {K : PySem.W.Frag} {mg : Str → Option Value} {base : Heap}
theorem Rws.snoc {H : Hp} {vs : List V} {c : List (List Int)} {x : List Int} (h : Rws H vs (c ++ [x])) : ∃ us v, vs = us ++ [v] ∧ Rws H us c ∧ Rw H v x := by
  induction c generalizing vs with
  | nil =>
    cases h with
    | cons a t =>
      cases t
      exact ⟨[], _, rfl, .nil, a⟩
  | cons y c ih =>
    cases h with
    | cons a t =>
      obtain ⟨us, v, rfl, h1, h2⟩ := ih t
      exact ⟨_ :: us, v, rfl, .cons a h1, h2⟩
theorem ixN_last (n : Nat) : ixN (n + 1) (-1) = some n := by
  unfold ixN
  rw [if_neg (by decide), if_pos (by omega)]
  congr 1
  omega
/-- the depth is one and the same between neighbouring ends -/
theorem dep_const {ss : List Span} (hs : ∀ s ∈ ss, s.1 < s.2) {a b : Int} (h : ∀ s ∈ ss, ¬ (a < s.1 ∧ s.1 < b) ∧ ¬ (a < s.2 ∧ s.2 < b)) {x : Int} (h1 : a ≤ x) (h2 : x < b) : ((dep ss x : Nat) : Int) = ((dep ss a : Nat) : Int) := by
  refine const_at (f := fun x => ((dep ss x : Nat) : Int)) (b := a) (p := b) (fun y y1 y2 => ?_) h1 h2
  have e := dep_step hs y
  rw [chgAt_out fun s hm => ⟨fun z => (h s hm).1 (by omega), fun z => (h s hm).2 (by omega)⟩] at e
  show ((dep ss y : Nat) : Int) = ((dep ss (y - 1) : Nat) : Int)
  omega
def spPieces : Sp := fun vs H Q _ => ∃ (l : Addr) (us : List V) (ss : List Span), vs = [.ref l] ∧ H l = some (.lst us) ∧ Sps H us ss ∧ Few ss ∧ (∀ s ∈ ss, s.1 < s.2) ∧
  ∀ (H' : Hp) (r : Addr) (ws : List V) (ps : List Piece), Same H H' → H r = none → H' r = some (.lst ws) → Rws H' ws (ps.map pcR) → Prf ss ps → ps.length ≤ 64 → Q (.ref r) H'
theorem ok_pieces (T : Tx K mg) : FnOk P w K mg base CX0 (3) T.f_l_pieces T.fd_l_pieces ["_law_spans_here"] spPieces := by
  have G_l_ends : FnOk P w K mg base CX0 _ _ _ _ _ := ok_ends T
  have G_l_depth : FnOk P w K mg base CX0 _ _ _ _ _ := ok_depth T
  refine T.F_l_pieces.ok sc_l_pieces (fun vs H Q E h => ?_) (fun cdv A outer s H vs Q E hr h => ?_)
  · obtain ⟨l, us, ss, rfl, _⟩ := h
    rfl
  · obtain ⟨l, us, ss, rfl, hl, hS, few, hlt, q⟩ := h
    refine ⟨_, (pss_cons (ps_set (i := 1) sc_l_pieces.nd rfl (Or.inl rfl) (pe_call G_l_ends (hr.mono (by decide)) (by rfl) T.g_l_ends T.F_l_ends.kp T.b_l_ends .nil pass0 (pa_cons (pv 0) pa_nil)))
      (pss_cons (ps_set (i := 2) sc_l_pieces.nd rfl (Or.inl rfl) (pe_lst pa_nil))
      (pss_cons (ps_for PassesOwn.never (by rfl) (pi_range1 (by rfl) T.m_range (pa_cons (pe_op op_sub (pe_callB call_len_seq (by rfl) T.m_len PySem.boot_len (pa_cons (pv 1) pa_nil)) pe_int) pa_nil)) (pg_name (i := 3) sc_l_pieces.nd rfl (Or.inl rfl))
        (pss_cons (ps_set (i := 4) sc_l_pieces.nd rfl (Or.inl rfl) (pe_call G_l_depth (hr.mono (by decide)) (by rfl) T.g_l_depth T.F_l_depth.kp T.b_l_depth .nil pass0 (pa_cons (pv 0) (pa_cons (pe_ix ix_list (pv 1) (pv 3) (fun _ _ => rfl)) pa_nil))))
      (pss_one (ps_if (PW.pt (pw_and (pt_cmpR (op_neD hr.units) (pv 2) (pe_lst pa_nil) (nomark _)) (pw_and (pt_cmpR op_eq (pe_ix ix_tup (pe_ix ix_list (pv 2) (pe_un un_neg pe_int) (fun _ _ => rfl)) pe_int (fun _ _ => rfl)) (pe_ix ix_list (pv 1) (pv 3) (fun _ _ => rfl)) (nomark _)) (pw_and1 (pt_cmpR op_eq (pe_ix ix_tup (pe_ix ix_list (pv 2) (pe_un un_neg pe_int) (fun _ _ => rfl)) pe_int (fun _ _ => rfl)) (pv 4) (nomark _)))))) (pss_one (ps_asg (pe_tup (pa_cons (pe_ix ix_tup (pe_ix ix_list (pv 2) (pe_un un_neg pe_int) (fun _ _ => rfl)) pe_int (fun _ _ => rfl)) (pa_cons (pe_ix ix_list (pv 1) (pe_op op_add (pv 3) pe_int) (fun _ _ => rfl)) (pa_cons (pv 4) pa_nil)))) (pg_sub (pv 2) (pe_un un_neg pe_int) set_list))) (pss_one (ps_if (pt_cmpR op_gt (pv 4) pe_int (nomark _)) (pss_one (ps_expr (pe_bm PySem.F.plainAttrs_list PySem.F.slot_list_append PySem.F.type_list_append mt_append (pv 2) (pa_cons (pe_tup (pa_cons (pe_ix ix_list (pv 1) (pv 3) (fun _ _ => rfl)) (pa_cons (pe_ix ix_list (pv 1) (pe_op op_add (pv 3) pe_int) (fun _ _ => rfl)) (pa_cons (pv 4) pa_nil)))) pa_nil)))) pss_nil))))))
      (pss_one (ps_ret (pv 2)))))), ?_⟩
    refine ⟨_, rfl, l, us, ss, rfl, hl, hS, few, fun H1 e ns s1 ne he pw mem n64 => ?_⟩
    refine ⟨Nat.zero_le _, fun D nD => ?_⟩
    obtain ⟨gD, sD⟩ := upd_at (o := .lst []) nD
    have sm1 := s1.trans sD
    have e1 := sD _ _ he
    have neD : e ≠ D := ne_of_none he nD
    refine ⟨_, rfl, e, _, rfl, .inl (SqL.of e1), _, _, rfl, rfl, _, rfl, by rw [List.length_map]; omega, by rw [List.length_map]; omega, ?_⟩
    rw [List.length_map]
    have rise : ∀ (i j : Nat) (a b : Int), ns[i]? = some a → ns[j]? = some b → i < j → a < b := fun i j a b h1 h2 hij => by
      obtain ⟨h3, rfl⟩ := List.getElem?_eq_some_iff.mp h1
      obtain ⟨h4, rfl⟩ := List.getElem?_eq_some_iff.mp h2
      exact List.pairwise_iff_getElem.mp pw i j h3 h4 hij
    have endin : ∀ s ∈ ss, s.1 ∈ ns ∧ s.2 ∈ ns := fun s hs => ⟨(mem _).mpr (List.mem_append_left _ (List.mem_map.mpr ⟨s, hs, rfl⟩)), (mem _).mpr (List.mem_append_right _ (List.mem_map.mpr ⟨s, hs, rfl⟩))⟩
    -- the pieces up to the i-th end
    refine for_range (lo := 0) (n := ((ns.length : Int) - 1).toNat) (fun i σ H' => ∃ y3 y4 vs ps, σ = [some (.ref l), some (.ref e), some (.ref D), y3, y4] ∧ Same H H' ∧ H' e = some (.lst (ns.map V.int)) ∧ H' D = some (.lst vs) ∧ Rws H' vs (ps.map pcR) ∧ ps.length ≤ i ∧ (∀ c, ns[i]? = some c → ∀ b, (∀ s ∈ ss, b < s.1) → b ≤ c → PFt (fun x => ((dep ss x : Nat) : Int)) b c ps) ∧ (ns = [] → ps = []))
      ⟨none, none, [], [], rfl, sm1, e1, gD, .nil, Nat.le_refl _, fun c hc b hb hbc x x1 x2 => ?_, fun _ => rfl⟩ ?_ ?_
    · have z : dep ss x = 0 := dep_zero fun s hs => .inl (by
        obtain ⟨j, hj⟩ := List.getElem?_of_mem (endin s hs).1
        by_cases j0 : j = 0
        · rw [j0, hc] at hj
          have := Option.some.inj hj
          omega
        · have := rise 0 j c s.1 hc hj (by omega)
          omega)
      show ((dep ss x : Nat) : Int) = 0
      rw [z]
      rfl
    · rintro i σ H' hi ⟨y3, y4, vs, ps, rfl, sm, he', hD, hv, pl, inv, nil⟩
      rw [Int.zero_add]
      have i1 : i < ns.length := by omega
      have i2 : i + 1 < ns.length := by omega
      obtain ⟨c, hc⟩ : ∃ c, ns[i]? = some c := ⟨_, List.getElem?_eq_getElem i1⟩
      obtain ⟨c', hc'⟩ : ∃ c, ns[i + 1]? = some c := ⟨_, List.getElem?_eq_getElem i2⟩
      have hm : (ns.map V.int)[i]? = some (.int c) := by rw [List.getElem?_map, hc]; rfl
      have hm' : (ns.map V.int)[i + 1]? = some (.int c') := by rw [List.getElem?_map, hc']; rfl
      have hcc : c < c' := rise i (i + 1) c c' hc hc' (by omega)
      have hd : ∀ x, c ≤ x → x < c' → ((dep ss x : Nat) : Int) = ((dep ss c : Nat) : Int) := fun x x1 x2 => by
        refine dep_const hlt (a := c) (b := c') (fun s hs => ?_) x1 x2
        have gap : ∀ z ∈ ns, ¬ (c < z ∧ z < c') := fun z hz ⟨z1, z2⟩ => by
          obtain ⟨j, hj⟩ := List.getElem?_of_mem hz
          by_cases j1 : j ≤ i
          · by_cases j2 : j = i
            · rw [j2, hc] at hj
              have := Option.some.inj hj
              omega
            · have := rise j i z c hj hc (by omega)
              omega
          · by_cases j2 : j = i + 1
            · rw [j2, hc'] at hj
              have := Option.some.inj hj
              omega
            · have := rise (i + 1) j c' z hc' hj (by omega)
              omega
        exact ⟨gap _ (endin s hs).1, gap _ (endin s hs).2⟩
      have vl := hv.len
      rw [List.length_map] at vl
      -- the next list
      have next : ∀ (H2 : Hp) (vs2 : List V) (y3 y4 : Option V), Same H H2 → H2 e = some (.lst (ns.map V.int)) → H2 D = some (.lst vs2) → Rws H2 vs2 ((stepPc ps c c' ((dep ss c : Nat) : Int)).map pcR) → (stepPc ps c c' ((dep ss c : Nat) : Int)).length ≤ i + 1 →
          ∃ y3' y4' vs ps, [some (V.ref l), some (.ref e), some (.ref D), y3, y4] = [some (V.ref l), some (.ref e), some (.ref D), y3', y4'] ∧ Same H H2 ∧ H2 e = some (.lst (ns.map V.int)) ∧ H2 D = some (.lst vs) ∧ Rws H2 vs (ps.map pcR) ∧ ps.length ≤ i + 1 ∧ (∀ c, ns[i + 1]? = some c → ∀ b, (∀ s ∈ ss, b < s.1) → b ≤ c → PFt (fun x => ((dep ss x : Nat) : Int)) b c ps) ∧ (ns = [] → ps = []) := fun H2 vs2 y3 y4 a1 a2 a3 a4 a5 => by
        refine ⟨y3, y4, vs2, _, rfl, a1, a2, a3, a4, a5, fun c2 h2 b hb hbc => ?_, fun z => by rw [z] at i1; cases i1⟩
        rw [hc'] at h2
        cases h2
        by_cases bc : b ≤ c
        · exact stepPc_ok hcc hd (Int.natCast_nonneg _) bc (inv c hc b hb bc)
        · -- no span begins below b, so nothing is there
          exfalso
          obtain ⟨k, hk⟩ := List.mem_append.mp ((mem c).mp (List.mem_of_getElem? hc)) |>.elim (fun h => (List.mem_map.mp h).elim fun s hs => ⟨s, hs.1, Or.inl hs.2⟩) (fun h => (List.mem_map.mp h).elim fun s hs => ⟨s, hs.1, Or.inr hs.2⟩) |> fun (h : ∃ s, s ∈ ss ∧ (s.1 = c ∨ s.2 = c)) => h
          have h1 := hb k hk.1
          have h2 := hlt k hk.1
          rcases hk.2 with z | z <;> omega
      refine ⟨_, rfl, _, rfl, _, rfl, e, _, _, _, rfl, rfl, SqL.of he', atI_nat (j := i) hm, l, us, ss, c, rfl, sm _ _ hl, hS.same sm, by have := few.1; omega, fun H2 s2 => ?_⟩
      have sm2 := sm.trans s2
      have he2 := s2 _ _ he'
      have hD2 := s2 _ _ hD
      have hv2 := hv.same s2
      have vl2 := hv2.len
      rw [List.length_map] at vl2
      -- a piece more, or none
      have els : ∀ (H3 : Hp) (y3 : Option V), Same H2 H3 → stepPc ps c c' ((dep ss c : Nat) : Int) = ps ++ (if 0 < ((dep ss c : Nat) : Int) then [(c, c', ((dep ss c : Nat) : Int))] else []) →
          tIfS (tTest (tOp (rI0 fun i j => .bl (decide (j < i))) (tVar 4) (tC (.int 0)))) (tDrop (tBM K "list" rAppend (tVar 2) (tCons (tTup (tCons (tOp (rIxL K) (tVar 1) (tVar 3)) (tCons (tOp (rIxL K) (tVar 1) (tOp (rI0 fun i j => .int (i + j)) (tVar 3) (tC (.int 1)))) (tCons (tVar 4) tNil)))) tNil))) tNext
            { nx := fun σ H2 => ∃ y3' y4' vs ps, σ = [some (V.ref l), some (.ref e), some (.ref D), y3', y4'] ∧ Same H H2 ∧ H2 e = some (.lst (ns.map V.int)) ∧ H2 D = some (.lst vs) ∧ Rws H2 vs (ps.map pcR) ∧ ps.length ≤ i + 1 ∧ (∀ c, ns[i + 1]? = some c → ∀ b, (∀ s ∈ ss, b < s.1) → b ≤ c → PFt (fun x => ((dep ss x : Nat) : Int)) b c ps) ∧ (ns = [] → ps = []), rt := Q } [some (.ref l), some (.ref e), some (.ref D), some (.int (i : Int)), some (.int ((dep ss c : Nat) : Int))] H3 := fun H3 y3 s3 est => by
        have he3 := s3 _ _ he2
        have hD3 := s3 _ _ hD2
        have hv3 := hv2.same s3
        refine ⟨_, rfl, _, _, rfl, rfl, _, rfl, ite2 (fun e => ?_) (fun e => ?_)⟩
        · have e : 0 < ((dep ss c : Nat) : Int) := of_decide_eq_true e
          refine ⟨_, rfl, .inl ⟨rfl, _, SqL.of hD3⟩, _, rfl, _, rfl, _, _, _, _, rfl, rfl, SqL.of he3, atI_nat (j := i) hm, _, rfl, _, rfl, _, _, rfl, rfl, _, _, _, _, rfl, rfl, SqL.of he3, at_of (j := i + 1) (by omega) hm', _, rfl, (by show 3 ≤ sizeLine; decide), fun t2 nt2 => ?_⟩
          have st := same_upd (o := .tup [.int c, .int c', .int ((dep ss c : Nat) : Int)]) nt2
          have hD4 := st _ _ hD3
          refine ⟨D, vs, _, rfl, rfl, hD4, small_lt (by omega), ?_⟩
          have cf : Chg [D] (upd H3 t2 (.tup [.int c, .int c', .int ((dep ss c : Nat) : Int)])) (upd (upd H3 t2 (.tup [.int c, .int c', .int ((dep ss c : Nat) : Int)])) D (.lst (vs ++ [.ref t2]))) := Chg.upd List.mem_cons_self
          refine next _ (vs ++ [.ref t2]) _ _ (same_more ((sm2.trans s3).trans st) (s1.free nD)) (cf _ _ (nmem1 neD) (st _ _ he3)) upd_same ?_ ?_
          · rw [est, if_pos e, List.map_append]
            exact Rws.app ((Kp.chg cf).rws (Lsts.of1 hD4) (hv3.same st)) (.one ((Kp.chg cf).rw (Lsts.of1 hD4) ⟨t2, rfl, upd_same⟩))
          · rw [est, if_pos e, List.length_append]
            show ps.length + 1 ≤ i + 1
            omega
        · have e : ¬ 0 < ((dep ss c : Nat) : Int) := fun z => e (decide_eq_true z)
          refine next _ vs _ _ (sm2.trans s3) he3 hD3 ?_ ?_
          · rw [est, if_neg e, List.append_nil]
            exact hv3
          · rw [est, if_neg e, List.append_nil]
            omega
      refine ⟨_, rfl, Nat.zero_le _, fun m nm => ?_⟩
      obtain ⟨gm, smm⟩ := upd_at (o := .lst []) nm
      refine ⟨_, _, (hv2.same smm).dp (SqL.of (smm _ _ hD2)), .lst (SqL.of gm) .nil, shaped_rows _, shaped_nil, _, rfl, ?_⟩
      rw [eqv_rows_nil]
      by_cases hnil : ps = []
      · rw [decide_eq_true (by rw [hnil]; rfl)]
        refine iteF (iteF (els _ none smm ?_))
        rw [hnil]
        rfl
      · rw [decide_eq_false (fun z => hnil (List.map_eq_nil_iff.mp z))]
        obtain ⟨ps', pc, eps⟩ : ∃ m x, ps = m ++ [x] := ⟨ps.dropLast, ps.getLast hnil, (List.dropLast_concat_getLast hnil).symm⟩
        have hv3 := hv2.same smm
        rw [eps, List.map_append] at hv3
        obtain ⟨vs', v, evs, hv4, t, rfl, ht⟩ := hv3.snoc
        have hD3 := smm _ _ hD2
        have he3 := smm _ _ he2
        have est : stepPc ps c c' ((dep ss c : Nat) : Int) = if pc.2.1 = c ∧ pc.2.2 = ((dep ss c : Nat) : Int) then ps' ++ [(pc.1, c', ((dep ss c : Nat) : Int))] else ps ++ if 0 < ((dep ss c : Nat) : Int) then [(c, c', ((dep ss c : Nat) : Int))] else [] := by
          unfold stepPc
          rw [eps]
          simp
        rw [evs] at hD3
        refine iteT ⟨_, rfl, _, rfl, D, _, _, _, rfl, rfl, SqL.of hD3, atI_last vs' (.ref t), t, _, _, _, rfl, rfl, SqT.of ht, atI_nat (j := 1) rfl, _, rfl, _, rfl, e, _, _, _, rfl, rfl, SqL.of he3, atI_nat (j := i) hm, rfl, _, rfl, ite2 (fun e1 => ?_) (fun e1 => ?_)⟩
        · have e1 : pc.2.1 = c := V.int.inj (of_decide_eq_true e1)
          refine ⟨_, rfl, _, rfl, D, _, _, _, rfl, rfl, SqL.of hD3, atI_last vs' (.ref t), t, _, _, _, rfl, rfl, SqT.of ht, atI_nat (j := 2) rfl, _, rfl, rfl, _, rfl, ite2 (fun e2 => ?_) (fun e2 => ?_)⟩
          · have e2 : pc.2.2 = ((dep ss c : Nat) : Int) := V.int.inj (of_decide_eq_true e2)
            refine ⟨_, rfl, _, rfl, D, _, _, _, rfl, rfl, SqL.of hD3, atI_last vs' (.ref t), t, _, _, _, rfl, rfl, SqT.of ht, atI_nat (j := 0) rfl, _, rfl, _, rfl, _, _, rfl, rfl, _, _, _, _, rfl, rfl, SqL.of he3, at_of (j := i + 1) (by omega) hm', _, rfl, (by show 3 ≤ sizeLine; decide), fun t2 nt2 => ?_⟩
            generalize hu : upd (upd H2 m (.lst [])) t2 _ = H4
            have st : Same (upd H2 m (.lst [])) H4 := by
              rw [← hu]
              exact same_upd nt2
            have gt2 : H4 t2 = some (.tup [.int pc.1, .int c', .int ((dep ss c : Nat) : Int)]) := by
              rw [← hu]
              exact upd_same
            have hD4 := st _ _ hD3
            refine ⟨_, rfl, _, rfl, D, _, _, vs'.length, rfl, rfl, hD4, ?_, ?_⟩
            · rw [List.length_append]
              exact ixN_last _
            have eset : (vs' ++ [V.ref t]).set vs'.length (.ref t2) = vs' ++ [.ref t2] := by simp
            rw [eset]
            have cf : Chg [D] H4 (upd H4 D (.lst (vs' ++ [.ref t2]))) := Chg.upd List.mem_cons_self
            refine next _ (vs' ++ [.ref t2]) _ _ (same_more ((sm2.trans smm).trans st) (s1.free nD)) (cf _ _ (nmem1 neD) (st _ _ he3)) upd_same ?_ ?_
            · rw [est, if_pos ⟨e1, e2⟩, List.map_append]
              exact Rws.app ((Kp.chg cf).rws (Lsts.of1 hD4) (hv4.same st)) (.one ((Kp.chg cf).rw (Lsts.of1 hD4) ⟨t2, rfl, gt2⟩))
            · rw [est, if_pos ⟨e1, e2⟩, List.length_append]
              have := congrArg List.length eps
              rw [List.length_append] at this
              simp at this ⊢
              omega
          · refine els _ none smm ?_
            rw [est, if_neg (fun z => e2 (decide_eq_true (congrArg V.int z.2)))]
        · refine iteF (els _ none smm ?_)
          rw [est, if_neg (fun z => e1 (decide_eq_true (congrArg V.int z.1)))]
    · rintro σ H' ⟨y3, y4, vs, ps, rfl, sm, he', hD, hv, pl, inv, nil⟩
      refine ⟨_, rfl, q H' D vs ps sm (s1.free nD) hD hv (fun b hb => ?_) (by omega)⟩
      by_cases hn : ns = []
      · have hs0 : ss = [] := by
          cases ss with
          | nil => rfl
          | cons s r =>
            have := (endin s List.mem_cons_self).1
            rw [hn] at this
            cases this
        rw [nil hn, hs0]
        intro x _
        rfl
      · have l0 : 0 < ns.length := List.length_pos_iff.mpr hn
        have e0 : ((ns.length : Int) - 1).toNat = ns.length - 1 := by omega
        rw [e0] at inv
        obtain ⟨c, hc⟩ : ∃ c, ns[ns.length - 1]? = some c := ⟨_, List.getElem?_eq_getElem (by omega)⟩
        have top : ∀ z ∈ ns, z ≤ c := fun z hz => by
          obtain ⟨j, hj⟩ := List.getElem?_of_mem hz
          have jl := (List.getElem?_eq_some_iff.mp hj).1
          by_cases j1 : j = ns.length - 1
          · rw [j1, hc] at hj
            have := Option.some.inj hj
            omega
          · have := rise j _ z c hj hc (by omega)
            omega
        have bc : b ≤ c := by
          obtain ⟨z, hz⟩ := List.exists_mem_of_length_pos l0
          rcases List.mem_append.mp ((mem z).mp hz) with h | h
          · obtain ⟨s, hs, rfl⟩ := List.mem_map.mp h
            have := hb s hs
            have := top _ hz
            omega
          · obtain ⟨s, hs, rfl⟩ := List.mem_map.mp h
            have := hb s hs
            have := hlt s hs
            have := top _ hz
            omega
        refine (inv c hc b hb bc).done fun x hx => ?_
        have z : dep ss x = 0 := dep_zero fun s hs => .inr (by
          have := top _ (endin s hs).2
          omega)
        show ((dep ss x : Nat) : Int) = 0
        rw [z]
        rfl
end
section
variable {P : Program} {w : World} {K : PySem.W.Frag} {mg : Str → Option Value} {base : Heap}
theorem Sps.erase {H : Hp} : ∀ {vs : List V} {ss : List Span} (n : Nat), Sps H vs ss → Sps H (vs.eraseIdx n) (ss.eraseIdx n)
  | _, _, _, .nil => .nil
  | _, _, 0, .cons _ t => t
  | _, _, n + 1, .cons h t => .cons h (Sps.erase n t)
theorem erase_perm' {α : Type} : ∀ (l : List α) (i : Nat) (y : α), l[i]? = some y → (y :: l.eraseIdx i).Perm l
  | [], _, _, h => by simp at h
  | a :: l, 0, y, h => by
    have e : a = y := Option.some.inj h
    rw [e]
    exact List.Perm.refl _
  | a :: l, i + 1, y, h => (List.Perm.swap a y _).trans ((erase_perm' l i y h).cons a)
def spOrder : Sp := fun vs H Q _ => ∃ (p l : Addr) (n : Nat) (us : List V) (ss : List Span), vs = [.ref p, .ref l] ∧ Pu H p n ∧ n + 3 * (ss.length + 1) ≤ 1000000000 ∧ H l = some (.lst us) ∧ l ≠ p ∧ Sps H us ss ∧ ss.length ≤ 1000 ∧
  ∀ (H' : Hp) (f : Addr) (ws : List V) (ts : List Span), Chg [p] H H' → Pu H' p (n + 3 * ss.length) → H f = none → H' f = some (.lst ws) → Sps H' ws ts → ts.Perm ss → Q (.ref f) H'
theorem ok_order (T : Tx K mg) : FnOk P w K mg base CX0 (3) T.f_l_order T.fd_l_order ["_law_purse_here", "_law_some"] spOrder := by
  have G_l_draw : FnOk P w K mg base CX0 _ _ _ _ _ := ok_draw T
  refine T.F_l_order.ok sc_l_order (fun vs H Q E h => ?_) (fun cdv A outer s H vs Q E hr h => ?_)
  · obtain ⟨p, l, n, us, ss, rfl, _⟩ := h
    rfl
  · obtain ⟨p, l, n, us, ss, rfl, pu, hn, hl, nlp, hS, hlen, q⟩ := h
    refine ⟨_, (pss_cons (ps_set (i := 2) sc_l_order.nd rfl (Or.inl rfl) (pe_callTy call_list_of (by rfl) T.m_list (by decide +kernel) (pa_cons (pv 1) pa_nil)))
      (pss_cons (ps_set (i := 3) sc_l_order.nd rfl (Or.inl rfl) (pe_lst pa_nil))
      (pss_cons (ps_while PassesOwn.never (pt_cmpR (op_neD hr.units) (pv 2) (pe_lst pa_nil) (nomark _))
        (pss_one (ps_expr (pe_bm PySem.F.plainAttrs_list PySem.F.slot_list_append PySem.F.type_list_append mt_append (pv 3) (pa_cons (pe_bm PySem.F.plainAttrs_list PySem.F.slot_list_pop PySem.F.type_list_pop mt_popAt (pv 2) (pa_cons (pe_call G_l_draw (hr.mono (by decide)) (by rfl) T.g_l_draw T.F_l_draw.kp T.b_l_draw .nil pass0 (pa_cons (pv 0) (pa_cons (pe_callB call_len_seq (by rfl) T.m_len PySem.boot_len (pa_cons (pv 2) pa_nil)) pa_nil))) pa_nil)) pa_nil)))))
      (pss_one (ps_ret (pv 3)))))), ?_⟩
    refine ⟨_, rfl, l, us, rfl, .inl (SqL.of hl), fun L nL => ?_⟩
    obtain ⟨gL, sL⟩ := upd_at (o := .lst us) nL
    refine ⟨Nat.zero_le _, fun f nf => ?_⟩
    obtain ⟨gf, sf⟩ := upd_at (o := .lst []) nf
    have nLp : L ≠ p := (pu.ne nL).symm
    have nfp : f ≠ p := ((pu.same sL).ne nf).symm
    have nLf : L ≠ f := ne_of_none gL nf
    have hf0 : H f = none := sL.free nf
    have hL0 : H L = none := nL
    refine ⟨fun m σ H' => ∃ (ls ws : List V) (lf ts : List Span), σ = [some (.ref p), some (.ref l), some (.ref L), some (.ref f)] ∧ Chg [p] H H' ∧ Pu H' p (n + 3 * ts.length) ∧ H' L = some (.lst ls) ∧ Sps H' ls lf ∧ H' f = some (.lst ws) ∧ Sps H' ws ts ∧ (ts ++ lf).Perm ss ∧ m = lf.length,
      ⟨_, us, [], ss, [], rfl, Chg.of_same (sL.trans sf), (pu.same sL).same sf, sf _ _ gL, (hS.same sL).same sf, gf, .nil, List.Perm.refl _, rfl⟩, ?_⟩
    rintro m σ H' ⟨ls, ws, lf, ts, rfl, cc, pi, hL, hlf, hf, hts, prm, rfl⟩
    have plen := prm.length_eq
    rw [List.length_append] at plen
    have l1 := hlf.len
    have l2 := hts.len
    refine ⟨_, rfl, Nat.zero_le _, fun e ne => ?_⟩
    obtain ⟨ge, se⟩ := upd_at (o := .lst []) ne
    refine ⟨_, _, (hlf.same se).dp (SqL.of (se _ _ hL)), .lst (SqL.of ge) .nil, shaped_spans lf, shaped_nil, _, rfl, ?_⟩
    rw [eqv_spans_nil]
    by_cases hn0 : lf = []
    · rw [decide_eq_true hn0]
      refine iteF ⟨_, rfl, ?_⟩
      rw [hn0, List.append_nil] at prm
      refine q _ f ws ts (cc.trans (Chg.of_same se)) ((pi.same se).mono ?_) hf0 (se _ _ hf) (hts.same se) prm
      have := prm.length_eq
      omega
    · rw [decide_eq_false hn0]
      have h0 : 0 < lf.length := List.length_pos_iff.mpr hn0
      refine iteT ⟨fun σ' H2 => ∃ (ls ws : List V) (lf2 ts : List Span), σ' = [some (.ref p), some (.ref l), some (.ref L), some (.ref f)] ∧ Chg [p] H H2 ∧ Pu H2 p (n + 3 * ts.length) ∧ H2 L = some (.lst ls) ∧ Sps H2 ls lf2 ∧ H2 f = some (.lst ws) ∧ Sps H2 ws ts ∧ (ts ++ lf2).Perm ss ∧ lf2.length < lf.length, fun σ' H2 hN => ?_, ?_⟩
      · obtain ⟨a, b, c, d, h1, h2, h3, h4, h5, h6, h7, h8, h9⟩ := hN
        exact ⟨c.length, h9, a, b, c, d, h1, h2, h3, h4, h5, h6, h7, h8, rfl⟩
      · refine ⟨_, rfl, .inl ⟨rfl, _, SqL.of (se _ _ hf)⟩, _, rfl, .inl ⟨rfl, _, SqL.of (se _ _ hL)⟩, _, rfl, _, rfl, L, _, rfl, .inl (SqL.of (se _ _ hL)), p, ls.length, _, rfl, pi.same se, by omega, by omega, by omega, fun H2 y c2 p2 y0 y1 => ?_⟩
        have hL2 := c2 _ _ (nmem1 nLp) (se _ _ hL)
        have hf2 := c2 _ _ (nmem1 nfp) (se _ _ hf)
        have lp := (pi.same se).lsts
        have hlf2 := (hlf.same se).chg c2 lp
        have hts2 := (hts.same se).chg c2 lp
        have hy : y.toNat < ls.length := by omega
        obtain ⟨sp, es, hsp⟩ := hlf2.get (List.getElem?_eq_getElem hy)
        have six : seqIndex? y ls.length = some y.toNat := seqIndex_of (by omega) (by omega)
        refine ⟨L, ls, y, y.toNat, ls[y.toNat], rfl, rfl, hL2, by omega, by omega, six, List.getElem?_eq_getElem hy, ?_⟩
        have cL : Chg [L] H2 (upd H2 L (.lst (ls.eraseIdx y.toNat))) := Chg.upd List.mem_cons_self
        have lL : Lsts [L] H2 := Lsts.of1 hL2
        have hf3 := cL _ _ (nmem1 nLf.symm) hf2
        have cf : Chg [f] (upd H2 L (.lst (ls.eraseIdx y.toNat))) (upd (upd H2 L (.lst (ls.eraseIdx y.toNat))) f (.lst (ws ++ [ls[y.toNat]]))) := Chg.upd List.mem_cons_self
        have lf' : Lsts [f] (upd H2 L (.lst (ls.eraseIdx y.toNat))) := Lsts.of1 hf3
        have ln : (ts ++ [sp]).length = ts.length + 1 := by simp
        refine ⟨f, ws, _, rfl, rfl, hf3, small_lt (by omega), ls.eraseIdx y.toNat, ws ++ [ls[y.toNat]], lf.eraseIdx y.toNat, ts ++ [sp], rfl, ?_, ((p2.chg cL (nmem1 nLp.symm)).chg cf (nmem1 nfp.symm)).mono (by rw [ln]; omega), ?_, ((hlf2.erase y.toNat).chg cL lL).chg cf lf', upd_same, ((hts2.app (.one hsp)).chg cL lL).chg cf lf', ?_, ?_⟩
        · intro b o nb hb
          have h3 := (cc.trans ((Chg.of_same se).trans c2)) b o nb hb
          rw [upd_ne (ne_of_none hb hf0), upd_ne (ne_of_none hb hL0)]
          exact h3
        · rw [upd_ne nLf, upd_same]
        · rw [List.append_assoc]
          exact (List.Perm.append_left ts (erase_perm' lf y.toNat sp es)).trans prm
        · rw [List.length_eraseIdx, if_pos (by omega)]
          omega
end
section
variable {P : Program} {w : World} {K : PySem.W.Frag} {mg : Str → Option Value} {base : Heap}
/-! ### the law: profiles -/
theorem Bst.same {H H' : Hp} {v : V} {o : Option Span} (h : Bst H v o) (e : Same H H') : Bst H' v o := by
  cases o with
  | none => exact h
  | some s => exact Spn.same h e
def bstD : Option Span → PyData
  | none => .none
  | some s => spD s
theorem Bst.dp {K : PySem.W.Frag} {H : Hp} {v : V} {o : Option Span} (h : Bst H v o) : Dp K H v (bstD o) := by
  cases o with
  | none =>
    have h : v = .non := h
    subst h
    exact .non
  | some s => exact Spn.dp h
theorem shaped_bst (o : Option Span) : SeqAt.shaped (bstD o) = true := by
  cases o with
  | none => rfl
  | some s => exact shaped_row [s.1, s.2]
theorem eqv_bst (o : Option Span) : PyData.eqv (bstD o) (bstD o) = true := by
  cases o with
  | none => rfl
  | some s =>
    show PyData.eqv (spD s) (spD s) = true
    rw [eqv_span, decide_eq_true rfl]
def spLaw (K : PySem.W.Frag) : Sp := fun vs H Q _ => ∃ (a : Addr) (ns : List Int), vs = [.ref a] ∧ SqL K H a (ns.map V.int) ∧ ns.length ≤ 63 ∧ Only H ∧ ∀ H', Q (.bl true) H'
theorem ok_law (T : Tx K mg) {f : Addr} {fd : FuncData} (F : Fun K "law" "law" s_law f fd) : FnOk P w K mg base CX0 (7) f fd ["_law_script"] (spLaw K) := by
  have G_l_purse : FnOk P w K mg base CX0 _ _ _ _ _ := ok_purse T
  have G_l_spans : FnOk P w K mg base CX0 _ _ _ _ _ := ok_spans T
  have G_l_pieces : FnOk P w K mg base CX0 _ _ _ _ _ := ok_pieces T
  have G_l_order : FnOk P w K mg base CX0 _ _ _ _ _ := ok_order T
  have G_l_wholes : FnOk P w K mg base CX0 _ _ _ _ _ := ok_wholes T
  have G_profile : FnOk P w K mg base (L2.CX P w) _ _ _ _ _ := ok_profile T
  have G_deepest : FnOk P w K mg base (L2.CX P w) _ _ _ _ _ := ok_deepest T
  refine F.ok sc_law (fun vs H Q E h => ?_) (fun cdv A outer s H vs Q E hr h => ?_)
  · obtain ⟨a, ns, rfl, _⟩ := h
    rfl
  · obtain ⟨a, ns, rfl, hS, hlen, _, q⟩ := h
    refine ⟨_, (pss_cons (ps_set (i := 1) sc_law.nd rfl (Or.inl rfl) (pe_call G_l_purse (hr.mono (by decide)) (by rfl) T.g_l_purse T.F_l_purse.kp T.b_l_purse .nil pass0 (pa_cons (pv 0) (pa_cons pe_int pa_nil))))
      (pss_cons (ps_set (i := 2) sc_law.nd rfl (Or.inl rfl) (pe_call G_l_spans (hr.mono (by decide)) (by rfl) T.g_l_spans T.F_l_spans.kp T.b_l_spans .nil pass0 (pa_cons (pv 1) (pa_cons (pe_lst pa_nil) (pa_cons pe_int pa_nil)))))
      (pss_cons (ps_set (i := 3) sc_law.nd rfl (Or.inl rfl) (pe_call G_l_pieces (hr.mono (by decide)) (by rfl) T.g_l_pieces T.F_l_pieces.kp T.b_l_pieces .nil pass0 (pa_cons (pv 2) pa_nil)))
      (pss_cons (ps_set (i := 4) sc_law.nd rfl (Or.inl rfl) pe_non)
      (C8.pss_cut (ps_if (pt_cmpR (op_neD hr.units) (pv 3) (pe_lst pa_nil) (nomark _)) (pss_cons (ps_set (i := 6) sc_law.nd rfl (Or.inr rfl) (pe_callB (cr_max rfl) (by rfl) T.m_max (by decide +kernel) (pa_cons (pe_lc (own := [("_law_piece", 5)]) (g := (gName 5)) (by rfl) sc_law.nd (pi_list (pv 3)) (blkOk_by (own := [("_law_piece", 5)]) (N := N_law) (sc := defScope s_law) (by decide +kernel)) (fun _ _ _ _ _ => (pg_name (i := 5) sc_law.nd rfl (Or.inl rfl))) (fun _ _ _ _ _ => pts_nil) (fun _ _ _ _ _ => (pe_ix (show IxR _ (rIxT K) from ix_tup) (pv 5) pe_int (fun _ _ => rfl)))) pa_nil)))
      (pss_one (ps_set (i := 4) sc_law.nd rfl (Or.inl rfl) (pe_tup (pa_cons (pv 6) (pa_cons (pe_callB (cr_min rfl) (by rfl) T.m_min (by decide +kernel) (pa_cons (pe_lc (own := [("_law_piece", 5)]) (g := (gName 5)) (by rfl) sc_law.nd (pi_list (pv 3)) (blkOk_by (own := [("_law_piece", 5)]) (N := N_law) (sc := defScope s_law) (by decide +kernel)) (fun _ _ _ _ _ => (pg_name (i := 5) sc_law.nd rfl (Or.inl rfl))) (fun _ _ _ _ _ => (pts_one (pt_cmpR op_eq (pe_ix (show IxR _ (rIxT K) from ix_tup) (pv 5) pe_int (fun _ _ => rfl)) (pv 6) (nomark _)))) (fun _ _ _ _ _ => (pe_ix (show IxR _ (rIxT K) from ix_tup) (pv 5) pe_int (fun _ _ => rfl)))) pa_nil)) pa_nil)))))) pss_nil)
      (pss_cons (ps_for PassesOwn.never (by rfl) (pi_list (pe_lst (pa_cons (pv 2) (pa_cons (pe_call G_l_order (hr.mono (by decide)) (by rfl) T.g_l_order T.F_l_order.kp T.b_l_order .nil pass0 (pa_cons (pv 1) (pa_cons (pv 2) pa_nil))) (pa_cons (pe_revL (pv 2)) pa_nil))))) (pg_name (i := 7) sc_law.nd rfl (Or.inl rfl))
        (pss_cons (ps_set (i := 8) sc_law.nd rfl (Or.inl rfl) (pe_callTy call_list_of (by rfl) T.m_list (by decide +kernel) (pa_cons (pv 7) pa_nil)))
      (pss_cons (ps_set (i := 9) sc_law.nd rfl (Or.inl rfl) (pe_call G_profile (hr.mono (by decide)) (by rfl) T.g_profile T.F_profile.kp T.b_profile .nil passL (pa_cons (pv 7) pa_nil)))
      (pss_cons (ps_if (PW.pt (pw_or (pt_not (pt_val (pe_callB call_isi (by rfl) T.m_isinstance (by decide +kernel) (pa_cons (pv 9) (pa_cons (pe_bltn (v := .ty "list") (by rfl) T.m_list (by decide +kernel) rfl) pa_nil))))) (pw_or (pt_cmpR (op_neD hr.units) (pv 9) (pv 3) (nomark _)) (pw_or1 (pt_cmpR (op_neD hr.units) (pv 7) (pv 8) (nomark _)))))) (pss_one (ps_ret pe_bl)) pss_nil)
      (pss_cons (ps_for PassesOwn.never (by rfl) (pi_list (pv 9)) (pg_name (i := 5) sc_law.nd rfl (Or.inl rfl))
        (pss_one (ps_if (PW.pt (pw_or (pt_not (pt_val (pe_callB call_isi (by rfl) T.m_isinstance (by decide +kernel) (pa_cons (pv 5) (pa_cons (pe_bltn (v := .ty "tuple") (by rfl) T.m_tuple (by decide +kernel) rfl) pa_nil))))) (pw_or1 (pt_not (pt_val (pe_call G_l_wholes (hr.mono (by decide)) (by rfl) T.g_l_wholes T.F_l_wholes.kp T.b_l_wholes .nil pass0 (pa_cons (pe_callTy call_list_of (by rfl) T.m_list (by decide +kernel) (pa_cons (pv 5) pa_nil)) pa_nil))))))) (pss_one (ps_ret pe_bl)) pss_nil)))
      (pss_cons (ps_if (PW.pt (pw_or (pt_cmpR (op_neD hr.units) (pe_call G_deepest (hr.mono (by decide)) (by rfl) T.g_deepest T.F_deepest.kp T.b_deepest .nil passL (pa_cons (pv 7) pa_nil)) (pv 4) (nomark _)) (pw_or1 (pt_cmpR (op_neD hr.units) (pv 7) (pv 8) (nomark _))))) (pss_one (ps_ret pe_bl)) pss_nil)
      (pss_cons (ps_expr (pe_bm PySem.F.plainAttrs_list PySem.F.slot_list_append PySem.F.type_list_append mt_append (pv 9) (pa_cons (pe_tup (pa_cons pe_int (pa_cons pe_int (pa_cons pe_int pa_nil)))) pa_nil)))
      (pss_one (ps_if (PW.pt (pw_or (pt_cmpR (op_neD hr.units) (pe_call G_profile (hr.mono (by decide)) (by rfl) T.g_profile T.F_profile.kp T.b_profile .nil passL (pa_cons (pv 7) pa_nil)) (pv 3) (nomark _)) (pw_or (pt_cmpR (op_neD hr.units) (pe_call G_deepest (hr.mono (by decide)) (by rfl) T.g_deepest T.F_deepest.kp T.b_deepest .nil passL (pa_cons (pv 7) pa_nil)) (pv 4) (nomark _)) (pw_or1 (pt_cmpR (op_neD hr.units) (pv 7) (pv 8) (nomark _)))))) (pss_one (ps_ret pe_bl)) pss_nil)))))))))
      (pss_one (ps_ret pe_bl)))))))), ?_⟩
    refine ⟨_, rfl, a, ns, 0, rfl, hS, by decide, by decide, fun H1 p s1 np p1 => ?_⟩
    refine ⟨_, rfl, Nat.zero_le _, fun e ne => ?_⟩
    obtain ⟨ge, s2⟩ := upd_at (o := .lst []) ne
    have nep : e ≠ p := (p1.ne ne).symm
    refine ⟨p, e, 12, 63000, [], rfl, p1.same s2, by decide, ge, nep, by decide, by decide, (fun z h => nomatch h), fun H3 l us ss zs c3 p3 hE zl zb nl hl hss ok sl => ?_⟩
    have nlp : l ≠ p := ((p1.same s2).ne nl).symm
    have allok : ss.all isSpan = true := List.all_eq_true.mpr ok
    have hlt := all_lt allok
    refine ⟨_, rfl, l, us, ss, rfl, hl, hss, few_of (by omega), hlt, fun H4 d ds ps s4 nd hd hp prf pl => ?_⟩
    obtain ⟨b0, hb0⟩ := low_of ss
    have pf := prf b0 hb0
    have rise := pf_rise pf
    have ndp : d ≠ p := (p3.ne nd).symm
    -- the best
    refine ⟨fun σ H' => ∃ v y5 y6, σ = [some (.ref a), some (.ref p), some (.ref l), some (.ref d), some v, y5, y6, none, none, none] ∧ Same H4 H' ∧ Bst H' v (bestL ps), ?_, ?_⟩
    · refine ⟨_, rfl, Nat.zero_le _, fun m nm => ?_⟩
      obtain ⟨gm, smm⟩ := upd_at (o := .lst []) nm
      refine ⟨_, _, (hp.same smm).dp (SqL.of (smm _ _ hd)), .lst (SqL.of gm) .nil, shaped_rows _, shaped_nil, _, rfl, ?_⟩
      rw [eqv_rows_nil]
      by_cases hnil : ps = []
      · rw [decide_eq_true (by rw [hnil]; rfl)]
        refine iteF ⟨.non, none, none, rfl, smm, ?_⟩
        rw [hnil]
        rfl
      · rw [decide_eq_false (fun z => hnil (List.map_eq_nil_iff.mp z))]
        have hd5 := smm _ _ hd
        have hp5 := hp.same smm
        revert hd5 hp5 smm gm
        generalize upd H4 m (.lst []) = H5
        intro gm smm hd5 hp5
        have dl := hp5.len
        rw [List.length_map] at dl
        refine iteT ⟨_, rfl, d, rfl, ⟨_, SqL.of hd5⟩, fun D nD => ?_⟩
        refine lc_list (K := K) (a := d) (xs := ds) (fun i H' => Same H5 H' ∧ H' D = some (.lst (((ps.take i).map (·.2.2)).map V.int))) ⟨same_upd nD, upd_same⟩ (fun i H' _ h => SqL.of (h.1 _ _ hd5)) ?_ ?_
        · rintro i y H' hi ⟨sm, hD⟩
          obtain ⟨row, er, hrow⟩ := hp5.get hi
          rw [List.getElem?_map] at er
          obtain ⟨pc, ep, rfl⟩ := Option.map_eq_some_iff.mp er
          obtain ⟨t, rfl, ht⟩ := hrow
          refine ⟨rfl, ?_⟩
          unfold tYes
          refine iteT ⟨_, rfl, t, _, _, _, rfl, rfl, SqT.of (sm _ _ ht), atI_nat (j := 2) rfl, _, hD, small_lt ?_, same_more sm nD, ?_⟩
          · rw [List.length_map, List.length_map, List.length_take]
            omega
          · rw [upd_same, List.take_add_one, ep, List.map_append, List.map_append]
            rfl
        · rintro H6 ⟨s6, hD⟩
          rw [dl, List.take_length] at hD
          refine ⟨D, _, rfl, SqL.of hD, ?_, fun M hM hmax => ?_⟩
          · rw [List.length_map]
            exact List.length_pos_iff.mpr hnil
          refine ⟨_, rfl, _, rfl, d, rfl, ⟨_, SqL.of (s6 _ _ hd5)⟩, fun D2 nD2 => ?_⟩
          have hd6 := s6 _ _ hd5
          have hp6 := hp5.same s6
          refine lc_list (K := K) (a := d) (xs := ds) (fun i H' => Same H6 H' ∧ H' D2 = some (.lst ((((ps.take i).filter fun q => decide (q.2.2 = M)).map (·.1)).map V.int))) ⟨same_upd nD2, upd_same⟩ (fun i H' _ h => SqL.of (h.1 _ _ hd6)) ?_ ?_
          · rintro i y H' hi ⟨sm, hD2⟩
            obtain ⟨row, er, hrow⟩ := hp6.get hi
            rw [List.getElem?_map] at er
            obtain ⟨pc, ep, rfl⟩ := Option.map_eq_some_iff.mp er
            obtain ⟨t, rfl, ht⟩ := hrow
            have tk : ps.take (i + 1) = ps.take i ++ [pc] := by
              rw [List.take_add_one, ep]
              rfl
            refine ⟨rfl, _, rfl, t, _, _, _, rfl, rfl, SqT.of (sm _ _ ht), atI_nat (j := 2) rfl, _, rfl, rfl, _, rfl, ?_⟩
            rw [tk, List.filter_append]
            refine ite2 (fun e => ?_) (fun e => ?_)
            · have e : pc.2.2 = M := V.int.inj (of_decide_eq_true e)
              refine ⟨_, rfl, t, _, _, _, rfl, rfl, SqT.of (sm _ _ ht), atI_nat (j := 0) rfl, _, hD2, small_lt ?_, same_more sm nD2, ?_⟩
              · rw [List.length_map, List.length_map]
                have h1 := List.length_filter_le (fun q : Piece => decide (q.2.2 = M)) (ps.take i)
                rw [List.length_take] at h1
                omega
              · rw [upd_same, List.map_append, List.map_append]
                rw [show [pc].filter (fun q : Piece => decide (q.2.2 = M)) = [pc] by simp [e]]
                rfl
            · have e : ¬ pc.2.2 = M := fun z => e (decide_eq_true (congrArg V.int z))
              rw [show [pc].filter (fun q : Piece => decide (q.2.2 = M)) = [] by simp [e], List.append_nil]
              exact ⟨sm, hD2⟩
          · rintro H7 ⟨s7, hD2⟩
            rw [dl, List.take_length] at hD2
            obtain ⟨pm, hpm, epm⟩ := List.mem_map.mp hM
            refine ⟨D2, _, rfl, SqL.of hD2, ?_, fun lo hlo hmin => ?_⟩
            · rw [List.length_map]
              exact List.length_pos_of_mem (List.mem_filter.mpr ⟨hpm, decide_eq_true epm⟩)
            refine ⟨(by show 2 ≤ sizeLine; decide), fun t2 nt2 => ?_⟩
            refine ⟨.ref t2, none, some (.int M), rfl, smm.trans (s6.trans (s7.trans (same_upd nt2))), ?_⟩
            have eb : bestL ps = some (M, lo) := by
              obtain ⟨pl', hpl, epl⟩ := List.mem_map.mp hlo
              obtain ⟨h1, h2⟩ := List.mem_filter.mp hpl
              refine (best_of rise).mpr ⟨⟨pl', h1, epl, of_decide_eq_true h2⟩, fun q' hq => ⟨hmax _ (List.mem_map.mpr ⟨q', hq, rfl⟩), fun z => hmin _ (List.mem_map.mpr ⟨q', List.mem_filter.mpr ⟨hq, decide_eq_true z⟩, rfl⟩)⟩⟩
            rw [eb]
            exact ⟨t2, rfl, upd_same⟩
    · rintro σ H5 ⟨v, y5, y6, rfl, s5, hv⟩
      have hl5 := (s4.trans s5) _ _ hl
      have hss5 := (hss.same s4).same s5
      have p5 := (p3.same s4).same s5
      have hd5 := s5 _ _ hd
      have hp5 := hp.same s5
      -- the three lists
      refine ⟨_, rfl, _, rfl, _, rfl, p, l, 63255, us, ss, rfl, p5, by omega, hl5, nlp, hss5, by omega, fun H6 o os ts c6 p6 no ho hos prm => ?_⟩
      have k6 : Kp [p] H5 H6 := .chg c6
      have hl6 := c6 _ _ (nmem1 nlp) hl5
      have hss6 := hss5.chg c6 p5.lsts
      have hd6 := c6 _ _ (nmem1 ndp) hd5
      have hp6 := k6.rws p5.lsts hp5
      have hv6 : Bst H6 v (bestL ps) := by
        revert hv
        cases bestL ps with
        | none => exact fun h => h
        | some sb => exact fun h => k6.spn p5.lsts h
      refine ⟨_, rfl, l, us, rfl, SqL.of hl6, fun r nr => ?_⟩
      obtain ⟨gr, sr⟩ := upd_at (o := .lst us.reverse) nr
      refine ⟨small_le (by simp), fun L nL => ?_⟩
      obtain ⟨gL, sL⟩ := upd_at (o := .lst [.ref l, .ref o, .ref r]) nL
      have s7 := sr.trans sL
      have three : ∀ (i : Nat) (y : V), ([.ref l, .ref o, .ref r] : List V)[i]? = some y → ∃ x rs, y = .ref x ∧ Lq (upd (upd H6 r (.lst us.reverse)) L (.lst [.ref l, .ref o, .ref r])) x rs ∧ rs.Perm ss := fun i y e => by
        rcases i with _ | _ | _ | i
        · exact ⟨l, ss, (Option.some.inj e).symm, ⟨us, s7 _ _ hl6, hss6.same s7⟩, List.Perm.refl _⟩
        · exact ⟨o, ts, (Option.some.inj e).symm, ⟨os, s7 _ _ ho, hos.same s7⟩, prm⟩
        · exact ⟨r, ss.reverse, (Option.some.inj e).symm, ⟨us.reverse, sL _ _ gr, hss6.rev.same s7⟩, List.reverse_perm ss⟩
        · simp at e
      have hd7 := s7 _ _ hd6
      have hp7 := hp6.same s7
      have hv7 := hv6.same s7
      revert three hd7 hp7 hv7 gL
      generalize upd (upd H6 r (.lst us.reverse)) L (.lst [.ref l, .ref o, .ref r]) = H7
      intro gL three hd7 hp7 hv7
      refine ⟨L, rfl, ⟨_, SqL.of gL⟩, for_list (K := K) (a := L) (xs := [.ref l, .ref o, .ref r]) (fun i σ H' => ∃ y5 y7 y8 y9, σ = [some (.ref a), some (.ref p), some (.ref l), some (.ref d), some v, y5, y6, y7, y8, y9] ∧ Same H7 H') ⟨y5, none, none, none, rfl, Same.refl _⟩ (fun i σ H' _ ⟨_, _, _, _, _, cc⟩ => SqL.of (cc _ _ gL)) ?_ ?_⟩
      · rintro i y σ H' hi ⟨y5, y7, y8, y9, rfl, cc⟩
        obtain ⟨x, rs, rfl, hx, prm'⟩ := three i y hi
        have hx' := hx.same cc
        obtain ⟨xs, hx1, hrs⟩ := hx'
        have hd8 := cc _ _ hd7
        have hp8 := hp7.same cc
        have hv8 := hv7.same cc
        have rok : rs.all isSpan = true := List.all_eq_true.mpr fun s hs => ok s (prm'.mem_iff.mp hs)
        have rlen := prm'.length_eq
        have uni : ∀ ps', Prf rs ps' → ps' = ps := fun ps' h => h.perm prf prm'
        have noB : ∀ {A : Prop}, rs.all isSpan = false → A := fun {A} z => by
          rw [rok] at z
          cases z
        -- kept
        refine ⟨_, rfl, x, xs, rfl, .inl (SqL.of hx1), fun k nk => ?_⟩
        obtain ⟨gk, sk⟩ := upd_at (o := .lst xs) nk
        have K9 : Lq (upd H' k (.lst xs)) k rs := ⟨xs, gk, hrs.same sk⟩
        have X9 : Lq (upd H' k (.lst xs)) x rs := ⟨xs, sk _ _ hx1, hrs.same sk⟩
        have hd9 := sk _ _ hd8
        have hp9 := hp8.same sk
        have hv9 := hv8.same sk
        have s9 := cc.trans sk
        revert K9 X9 hd9 hp9 hv9 s9
        generalize upd H' k (.lst xs) = H9
        intro K9 X9 hd9 hp9 hv9 s9
        obtain ⟨xs9, hx9, hrs9⟩ := id X9
        -- profile
        refine ⟨_, rfl, x, xs9, rs, rfl, hx9, hrs9, few_of (by omega), noB, fun _ H10 g gs ps1 s10 ng hg hgs prf1 pl1 => ?_⟩
        have e1 := uni _ prf1
        subst e1
        refine ⟨_, rfl, _, _, _, _, true, rfl, .ty _, .base (.lst hg), kit_ty (by decide +kernel), true, rfl, iteF ?_⟩
        refine ⟨_, rfl, _, rfl, _, _, hgs.dp (SqL.of hg), (hp9.same s10).dp (SqL.of (s10 _ _ hd9)), shaped_rows _, shaped_rows _, _, rfl, ?_⟩
        rw [eqv_rows, decide_eq_true rfl]
        refine iteF ?_
        refine ⟨_, rfl, _, rfl, _, _, (X9.same s10).dp, (K9.same s10).dp, shaped_spans _, shaped_spans _, _, rfl, ?_⟩
        rw [eqv_spans, decide_eq_true rfl]
        refine iteF ?_
        -- each piece is a tuple of whole numbers
        refine ⟨_, rfl, g, rfl, ⟨_, SqL.of hg⟩, for_list (K := K) (a := g) (xs := gs) (fun j σ H'' => ∃ y5, σ = [some (.ref a), some (.ref p), some (.ref l), some (.ref d), some v, y5, y6, some (.ref x), some (.ref k), some (.ref g)] ∧ Same H10 H'') ⟨y5, rfl, Same.refl _⟩ (fun j σ H'' _ ⟨_, _, c⟩ => SqL.of (c _ _ hg)) ?_ ?_⟩
        · rintro j z σ H'' hj ⟨y5, rfl, c⟩
          obtain ⟨row, _, t, rfl, ht⟩ := hgs.get hj
          refine ⟨_, rfl, _, _, _, _, true, rfl, .ty _, .base (.tup (c _ _ ht)), kit_ty (by decide +kernel), true, rfl, iteF ?_⟩
          refine ⟨_, rfl, t, _, rfl, .inr (SqT.of (c _ _ ht)), fun m nm => ?_⟩
          obtain ⟨gm, smm⟩ := upd_at (o := .lst (row.map V.int)) nm
          exact ⟨m, row, rfl, gm, fun H2 s2 => ⟨true, rfl, iteF ⟨_, rfl, c.trans (smm.trans s2)⟩⟩⟩
        · rintro σ H11 ⟨y5, rfl, c11⟩
          have a11 := s10.trans c11
          obtain ⟨xs11, hx11, hrs11⟩ := X9.same a11
          -- deepest
          refine ⟨_, rfl, x, xs11, rs, rfl, hx11, hrs11, few_of (by omega), noB, fun _ H12 u ps2 s12 prf2 hu => ?_⟩
          have e2 := uni _ prf2
          subst e2
          have a12 := a11.trans s12
          refine ⟨_, rfl, _, _, hu.dp, (hv9.same a12).dp, shaped_bst _, shaped_bst _, _, rfl, ?_⟩
          rw [eqv_bst]
          refine iteF ?_
          refine ⟨_, rfl, _, rfl, _, _, (X9.same a12).dp, (K9.same a12).dp, shaped_spans _, shaped_spans _, _, rfl, ?_⟩
          rw [eqv_spans, decide_eq_true rfl]
          refine iteF ?_
          -- what was told is changed
          have hg12 := (c11.trans s12) _ _ hg
          have gl := hgs.len
          rw [List.length_map] at gl
          refine ⟨_, rfl, .inl ⟨rfl, _, SqL.of hg12⟩, (by show 3 ≤ sizeLine; decide), fun t nt => ?_⟩
          obtain ⟨gt, st⟩ := upd_at (o := .tup [.int 0, .int 1, .int 1]) nt
          refine ⟨g, gs, .ref t, rfl, rfl, st _ _ hg12, small_lt (by omega), ?_⟩
          have ng9 : H9 g = none := ng
          have s13 : Same H9 (upd (upd H12 t (.tup [.int 0, .int 1, .int 1])) g (.lst (gs ++ [.ref t]))) := same_more (a12.trans st) ng9
          revert s13
          generalize upd (upd H12 t (.tup [.int 0, .int 1, .int 1])) g (.lst (gs ++ [.ref t])) = H13
          intro s13
          obtain ⟨xs13, hx13, hrs13⟩ := X9.same s13
          refine ⟨_, rfl, x, xs13, rs, rfl, hx13, hrs13, few_of (by omega), noB, fun _ H14 g2 gs2 ps3 s14 ng2 hg2 hgs2 prf3 pl3 => ?_⟩
          have e3 := uni _ prf3
          subst e3
          have a14 := s13.trans s14
          refine ⟨_, rfl, _, _, hgs2.dp (SqL.of hg2), (hp9.same a14).dp (SqL.of (a14 _ _ hd9)), shaped_rows _, shaped_rows _, _, rfl, ?_⟩
          rw [eqv_rows, decide_eq_true rfl]
          refine iteF ?_
          obtain ⟨xs14, hx14, hrs14⟩ := X9.same a14
          refine ⟨_, rfl, x, xs14, rs, rfl, hx14, hrs14, few_of (by omega), noB, fun _ H15 u2 ps4 s15 prf4 hu2 => ?_⟩
          have e4 := uni _ prf4
          subst e4
          have a15 := a14.trans s15
          refine ⟨_, rfl, _, _, hu2.dp, (hv9.same a15).dp, shaped_bst _, shaped_bst _, _, rfl, ?_⟩
          rw [eqv_bst]
          refine iteF ?_
          refine ⟨_, rfl, _, rfl, _, _, (X9.same a15).dp, (K9.same a15).dp, shaped_spans _, shaped_spans _, _, rfl, ?_⟩
          rw [eqv_spans, decide_eq_true rfl]
          exact iteF ⟨_, _, _, _, rfl, s9.trans a15⟩
      · rintro σ H' ⟨y5, y7, y8, y9, rfl, cc⟩
        exact q _
end
theorem all_mk {l : PySem.W.OpenLaw} {w : World} {K : PySem.W.Frag} {h : Heap} {mg : Str → Option Value} {fa : Addr} (X : K.In h) (G : h.Ns mainGlobals mg) (hfa : mg "law" = some (.ref fa))
    {f_is_whole : Addr} {od_is_whole an_is_whole : Option Addr} {sl_is_whole : Array (Option Value)} {oc_is_whole kV_is_whole dc_is_whole pm_is_whole cd_is_whole ct_is_whole : Value}
    {f_is_place : Addr} {od_is_place an_is_place : Option Addr} {sl_is_place : Array (Option Value)} {oc_is_place kV_is_place dc_is_place pm_is_place cd_is_place ct_is_place : Value}
    {f_is_span : Addr} {od_is_span an_is_span : Option Addr} {sl_is_span : Array (Option Value)} {oc_is_span kV_is_span dc_is_span pm_is_span cd_is_span ct_is_span : Value}
    {f_check_span : Addr} {od_check_span an_check_span : Option Addr} {sl_check_span : Array (Option Value)} {oc_check_span kV_check_span dc_check_span pm_check_span cd_check_span ct_check_span : Value}
    {f_check_spans : Addr} {od_check_spans an_check_spans : Option Addr} {sl_check_spans : Array (Option Value)} {oc_check_spans kV_check_spans dc_check_spans pm_check_spans cd_check_spans ct_check_spans : Value}
    {f_changes_of : Addr} {od_changes_of an_changes_of : Option Addr} {sl_changes_of : Array (Option Value)} {oc_changes_of kV_changes_of dc_changes_of pm_changes_of cd_changes_of ct_changes_of : Value}
    {f_layers_of : Addr} {od_layers_of an_layers_of : Option Addr} {sl_layers_of : Array (Option Value)} {oc_layers_of kV_layers_of dc_layers_of pm_layers_of cd_layers_of ct_layers_of : Value}
    {f_deepest_layer : Addr} {od_deepest_layer an_deepest_layer : Option Addr} {sl_deepest_layer : Array (Option Value)} {oc_deepest_layer kV_deepest_layer dc_deepest_layer pm_deepest_layer cd_deepest_layer ct_deepest_layer : Value}
    {f_profile : Addr} {od_profile an_profile : Option Addr} {sl_profile : Array (Option Value)} {oc_profile kV_profile dc_profile pm_profile cd_profile ct_profile : Value}
    {f_deepest : Addr} {od_deepest an_deepest : Option Addr} {sl_deepest : Array (Option Value)} {oc_deepest kV_deepest dc_deepest pm_deepest cd_deepest ct_deepest : Value}
    {f_l_at : Addr} {od_l_at an_l_at : Option Addr} {sl_l_at : Array (Option Value)} {oc_l_at kV_l_at dc_l_at pm_l_at cd_l_at ct_l_at : Value}
    {f_l_mixed : Addr} {od_l_mixed an_l_mixed : Option Addr} {sl_l_mixed : Array (Option Value)} {oc_l_mixed kV_l_mixed dc_l_mixed pm_l_mixed cd_l_mixed ct_l_mixed : Value}
    {f_l_purse : Addr} {od_l_purse an_l_purse : Option Addr} {sl_l_purse : Array (Option Value)} {oc_l_purse kV_l_purse dc_l_purse pm_l_purse cd_l_purse ct_l_purse : Value}
    {f_l_draw : Addr} {od_l_draw an_l_draw : Option Addr} {sl_l_draw : Array (Option Value)} {oc_l_draw kV_l_draw dc_l_draw pm_l_draw cd_l_draw ct_l_draw : Value}
    {f_l_number : Addr} {od_l_number an_l_number : Option Addr} {sl_l_number : Array (Option Value)} {oc_l_number kV_l_number dc_l_number pm_l_number cd_l_number ct_l_number : Value}
    {f_l_end : Addr} {od_l_end an_l_end : Option Addr} {sl_l_end : Array (Option Value)} {oc_l_end kV_l_end dc_l_end pm_l_end cd_l_end ct_l_end : Value}
    {f_l_span : Addr} {od_l_span an_l_span : Option Addr} {sl_l_span : Array (Option Value)} {oc_l_span kV_l_span dc_l_span pm_l_span cd_l_span ct_l_span : Value}
    {f_l_order : Addr} {od_l_order an_l_order : Option Addr} {sl_l_order : Array (Option Value)} {oc_l_order kV_l_order dc_l_order pm_l_order cd_l_order ct_l_order : Value}
    {f_l_spans : Addr} {od_l_spans an_l_spans : Option Addr} {sl_l_spans : Array (Option Value)} {oc_l_spans kV_l_spans dc_l_spans pm_l_spans cd_l_spans ct_l_spans : Value}
    {f_l_holds : Addr} {od_l_holds an_l_holds : Option Addr} {sl_l_holds : Array (Option Value)} {oc_l_holds kV_l_holds dc_l_holds pm_l_holds cd_l_holds ct_l_holds : Value}
    {f_l_depth : Addr} {od_l_depth an_l_depth : Option Addr} {sl_l_depth : Array (Option Value)} {oc_l_depth kV_l_depth dc_l_depth pm_l_depth cd_l_depth ct_l_depth : Value}
    {f_l_ends : Addr} {od_l_ends an_l_ends : Option Addr} {sl_l_ends : Array (Option Value)} {oc_l_ends kV_l_ends dc_l_ends pm_l_ends cd_l_ends ct_l_ends : Value}
    {f_l_whole : Addr} {od_l_whole an_l_whole : Option Addr} {sl_l_whole : Array (Option Value)} {oc_l_whole kV_l_whole dc_l_whole pm_l_whole cd_l_whole ct_l_whole : Value}
    {f_l_wholes : Addr} {od_l_wholes an_l_wholes : Option Addr} {sl_l_wholes : Array (Option Value)} {oc_l_wholes kV_l_wholes dc_l_wholes pm_l_wholes cd_l_wholes ct_l_wholes : Value}
    {f_l_pieces : Addr} {od_l_pieces an_l_pieces : Option Addr} {sl_l_pieces : Array (Option Value)} {oc_l_pieces kV_l_pieces dc_l_pieces pm_l_pieces cd_l_pieces ct_l_pieces : Value}
    {f_law : Addr} {od_law an_law : Option Addr} {sl_law : Array (Option Value)} {oc_law kV_law dc_law pm_law cd_law ct_law : Value}
    {tc_LEAST_PLACE : Tok}
    {tc_GREATEST_PLACE : Tok}
    {C_ShelfError : Addr}
    {C_NoSpan : Addr}
    (a_is_whole : PySem.W.nsIn K mainGlobals "is_whole" = some (some (.ref f_is_whole)))
    (l_is_whole : K.lookup f_is_whole = some ⟨oc_is_whole, od_is_whole, .func (PySem.W.fnOf "is_whole" "is_whole" (defArgs s_is_whole) (defBody s_is_whole) (defScope s_is_whole) .none kV_is_whole dc_is_whole pm_is_whole an_is_whole cd_is_whole ct_is_whole), sl_is_whole⟩)
    (c_is_whole : PySem.W.codeIn K cd_is_whole "is_whole" = true)
    (k_is_whole : PySem.W.keepIn K (.ref f_is_whole) = true)
    (a_is_place : PySem.W.nsIn K mainGlobals "is_place" = some (some (.ref f_is_place)))
    (l_is_place : K.lookup f_is_place = some ⟨oc_is_place, od_is_place, .func (PySem.W.fnOf "is_place" "is_place" (defArgs s_is_place) (defBody s_is_place) (defScope s_is_place) .none kV_is_place dc_is_place pm_is_place an_is_place cd_is_place ct_is_place), sl_is_place⟩)
    (c_is_place : PySem.W.codeIn K cd_is_place "is_place" = true)
    (k_is_place : PySem.W.keepIn K (.ref f_is_place) = true)
    (a_is_span : PySem.W.nsIn K mainGlobals "is_span" = some (some (.ref f_is_span)))
    (l_is_span : K.lookup f_is_span = some ⟨oc_is_span, od_is_span, .func (PySem.W.fnOf "is_span" "is_span" (defArgs s_is_span) (defBody s_is_span) (defScope s_is_span) .none kV_is_span dc_is_span pm_is_span an_is_span cd_is_span ct_is_span), sl_is_span⟩)
    (c_is_span : PySem.W.codeIn K cd_is_span "is_span" = true)
    (k_is_span : PySem.W.keepIn K (.ref f_is_span) = true)
    (a_check_span : PySem.W.nsIn K mainGlobals "check_span" = some (some (.ref f_check_span)))
    (l_check_span : K.lookup f_check_span = some ⟨oc_check_span, od_check_span, .func (PySem.W.fnOf "check_span" "check_span" (defArgs s_check_span) (defBody s_check_span) (defScope s_check_span) .none kV_check_span dc_check_span pm_check_span an_check_span cd_check_span ct_check_span), sl_check_span⟩)
    (c_check_span : PySem.W.codeIn K cd_check_span "check_span" = true)
    (k_check_span : PySem.W.keepIn K (.ref f_check_span) = true)
    (a_check_spans : PySem.W.nsIn K mainGlobals "check_spans" = some (some (.ref f_check_spans)))
    (l_check_spans : K.lookup f_check_spans = some ⟨oc_check_spans, od_check_spans, .func (PySem.W.fnOf "check_spans" "check_spans" (defArgs s_check_spans) (defBody s_check_spans) (defScope s_check_spans) .none kV_check_spans dc_check_spans pm_check_spans an_check_spans cd_check_spans ct_check_spans), sl_check_spans⟩)
    (c_check_spans : PySem.W.codeIn K cd_check_spans "check_spans" = true)
    (k_check_spans : PySem.W.keepIn K (.ref f_check_spans) = true)
    (a_changes_of : PySem.W.nsIn K mainGlobals "changes_of" = some (some (.ref f_changes_of)))
    (l_changes_of : K.lookup f_changes_of = some ⟨oc_changes_of, od_changes_of, .func (PySem.W.fnOf "changes_of" "changes_of" (defArgs s_changes_of) (defBody s_changes_of) (defScope s_changes_of) .none kV_changes_of dc_changes_of pm_changes_of an_changes_of cd_changes_of ct_changes_of), sl_changes_of⟩)
    (c_changes_of : PySem.W.codeIn K cd_changes_of "changes_of" = true)
    (k_changes_of : PySem.W.keepIn K (.ref f_changes_of) = true)
    (a_layers_of : PySem.W.nsIn K mainGlobals "layers_of" = some (some (.ref f_layers_of)))
    (l_layers_of : K.lookup f_layers_of = some ⟨oc_layers_of, od_layers_of, .func (PySem.W.fnOf "layers_of" "layers_of" (defArgs s_layers_of) (defBody s_layers_of) (defScope s_layers_of) .none kV_layers_of dc_layers_of pm_layers_of an_layers_of cd_layers_of ct_layers_of), sl_layers_of⟩)
    (c_layers_of : PySem.W.codeIn K cd_layers_of "layers_of" = true)
    (k_layers_of : PySem.W.keepIn K (.ref f_layers_of) = true)
    (a_deepest_layer : PySem.W.nsIn K mainGlobals "deepest_layer" = some (some (.ref f_deepest_layer)))
    (l_deepest_layer : K.lookup f_deepest_layer = some ⟨oc_deepest_layer, od_deepest_layer, .func (PySem.W.fnOf "deepest_layer" "deepest_layer" (defArgs s_deepest_layer) (defBody s_deepest_layer) (defScope s_deepest_layer) .none kV_deepest_layer dc_deepest_layer pm_deepest_layer an_deepest_layer cd_deepest_layer ct_deepest_layer), sl_deepest_layer⟩)
    (c_deepest_layer : PySem.W.codeIn K cd_deepest_layer "deepest_layer" = true)
    (k_deepest_layer : PySem.W.keepIn K (.ref f_deepest_layer) = true)
    (a_profile : PySem.W.nsIn K mainGlobals "profile" = some (some (.ref f_profile)))
    (l_profile : K.lookup f_profile = some ⟨oc_profile, od_profile, .func (PySem.W.fnOf "profile" "profile" (defArgs s_profile) (defBody s_profile) (defScope s_profile) .none kV_profile dc_profile pm_profile an_profile cd_profile ct_profile), sl_profile⟩)
    (c_profile : PySem.W.codeIn K cd_profile "profile" = true)
    (k_profile : PySem.W.keepIn K (.ref f_profile) = true)
    (a_deepest : PySem.W.nsIn K mainGlobals "deepest" = some (some (.ref f_deepest)))
    (l_deepest : K.lookup f_deepest = some ⟨oc_deepest, od_deepest, .func (PySem.W.fnOf "deepest" "deepest" (defArgs s_deepest) (defBody s_deepest) (defScope s_deepest) .none kV_deepest dc_deepest pm_deepest an_deepest cd_deepest ct_deepest), sl_deepest⟩)
    (c_deepest : PySem.W.codeIn K cd_deepest "deepest" = true)
    (k_deepest : PySem.W.keepIn K (.ref f_deepest) = true)
    (a_l_at : PySem.W.nsIn K mainGlobals "_law_at" = some (some (.ref f_l_at)))
    (l_l_at : K.lookup f_l_at = some ⟨oc_l_at, od_l_at, .func (PySem.W.fnOf "_law_at" "_law_at" (defArgs s_l_at) (defBody s_l_at) (defScope s_l_at) .none kV_l_at dc_l_at pm_l_at an_l_at cd_l_at ct_l_at), sl_l_at⟩)
    (c_l_at : PySem.W.codeIn K cd_l_at "_law_at" = true)
    (k_l_at : PySem.W.keepIn K (.ref f_l_at) = true)
    (a_l_mixed : PySem.W.nsIn K mainGlobals "_law_mixed" = some (some (.ref f_l_mixed)))
    (l_l_mixed : K.lookup f_l_mixed = some ⟨oc_l_mixed, od_l_mixed, .func (PySem.W.fnOf "_law_mixed" "_law_mixed" (defArgs s_l_mixed) (defBody s_l_mixed) (defScope s_l_mixed) .none kV_l_mixed dc_l_mixed pm_l_mixed an_l_mixed cd_l_mixed ct_l_mixed), sl_l_mixed⟩)
    (c_l_mixed : PySem.W.codeIn K cd_l_mixed "_law_mixed" = true)
    (k_l_mixed : PySem.W.keepIn K (.ref f_l_mixed) = true)
    (a_l_purse : PySem.W.nsIn K mainGlobals "_law_purse" = some (some (.ref f_l_purse)))
    (l_l_purse : K.lookup f_l_purse = some ⟨oc_l_purse, od_l_purse, .func (PySem.W.fnOf "_law_purse" "_law_purse" (defArgs s_l_purse) (defBody s_l_purse) (defScope s_l_purse) .none kV_l_purse dc_l_purse pm_l_purse an_l_purse cd_l_purse ct_l_purse), sl_l_purse⟩)
    (c_l_purse : PySem.W.codeIn K cd_l_purse "_law_purse" = true)
    (k_l_purse : PySem.W.keepIn K (.ref f_l_purse) = true)
    (a_l_draw : PySem.W.nsIn K mainGlobals "_law_draw" = some (some (.ref f_l_draw)))
    (l_l_draw : K.lookup f_l_draw = some ⟨oc_l_draw, od_l_draw, .func (PySem.W.fnOf "_law_draw" "_law_draw" (defArgs s_l_draw) (defBody s_l_draw) (defScope s_l_draw) .none kV_l_draw dc_l_draw pm_l_draw an_l_draw cd_l_draw ct_l_draw), sl_l_draw⟩)
    (c_l_draw : PySem.W.codeIn K cd_l_draw "_law_draw" = true)
    (k_l_draw : PySem.W.keepIn K (.ref f_l_draw) = true)
    (a_l_number : PySem.W.nsIn K mainGlobals "_law_number" = some (some (.ref f_l_number)))
    (l_l_number : K.lookup f_l_number = some ⟨oc_l_number, od_l_number, .func (PySem.W.fnOf "_law_number" "_law_number" (defArgs s_l_number) (defBody s_l_number) (defScope s_l_number) .none kV_l_number dc_l_number pm_l_number an_l_number cd_l_number ct_l_number), sl_l_number⟩)
    (c_l_number : PySem.W.codeIn K cd_l_number "_law_number" = true)
    (k_l_number : PySem.W.keepIn K (.ref f_l_number) = true)
    (a_l_end : PySem.W.nsIn K mainGlobals "_law_end" = some (some (.ref f_l_end)))
    (l_l_end : K.lookup f_l_end = some ⟨oc_l_end, od_l_end, .func (PySem.W.fnOf "_law_end" "_law_end" (defArgs s_l_end) (defBody s_l_end) (defScope s_l_end) .none kV_l_end dc_l_end pm_l_end an_l_end cd_l_end ct_l_end), sl_l_end⟩)
    (c_l_end : PySem.W.codeIn K cd_l_end "_law_end" = true)
    (k_l_end : PySem.W.keepIn K (.ref f_l_end) = true)
    (a_l_span : PySem.W.nsIn K mainGlobals "_law_span" = some (some (.ref f_l_span)))
    (l_l_span : K.lookup f_l_span = some ⟨oc_l_span, od_l_span, .func (PySem.W.fnOf "_law_span" "_law_span" (defArgs s_l_span) (defBody s_l_span) (defScope s_l_span) .none kV_l_span dc_l_span pm_l_span an_l_span cd_l_span ct_l_span), sl_l_span⟩)
    (c_l_span : PySem.W.codeIn K cd_l_span "_law_span" = true)
    (k_l_span : PySem.W.keepIn K (.ref f_l_span) = true)
    (a_l_order : PySem.W.nsIn K mainGlobals "_law_order" = some (some (.ref f_l_order)))
    (l_l_order : K.lookup f_l_order = some ⟨oc_l_order, od_l_order, .func (PySem.W.fnOf "_law_order" "_law_order" (defArgs s_l_order) (defBody s_l_order) (defScope s_l_order) .none kV_l_order dc_l_order pm_l_order an_l_order cd_l_order ct_l_order), sl_l_order⟩)
    (c_l_order : PySem.W.codeIn K cd_l_order "_law_order" = true)
    (k_l_order : PySem.W.keepIn K (.ref f_l_order) = true)
    (a_l_spans : PySem.W.nsIn K mainGlobals "_law_spans" = some (some (.ref f_l_spans)))
    (l_l_spans : K.lookup f_l_spans = some ⟨oc_l_spans, od_l_spans, .func (PySem.W.fnOf "_law_spans" "_law_spans" (defArgs s_l_spans) (defBody s_l_spans) (defScope s_l_spans) .none kV_l_spans dc_l_spans pm_l_spans an_l_spans cd_l_spans ct_l_spans), sl_l_spans⟩)
    (c_l_spans : PySem.W.codeIn K cd_l_spans "_law_spans" = true)
    (k_l_spans : PySem.W.keepIn K (.ref f_l_spans) = true)
    (a_l_holds : PySem.W.nsIn K mainGlobals "_law_holds" = some (some (.ref f_l_holds)))
    (l_l_holds : K.lookup f_l_holds = some ⟨oc_l_holds, od_l_holds, .func (PySem.W.fnOf "_law_holds" "_law_holds" (defArgs s_l_holds) (defBody s_l_holds) (defScope s_l_holds) .none kV_l_holds dc_l_holds pm_l_holds an_l_holds cd_l_holds ct_l_holds), sl_l_holds⟩)
    (c_l_holds : PySem.W.codeIn K cd_l_holds "_law_holds" = true)
    (k_l_holds : PySem.W.keepIn K (.ref f_l_holds) = true)
    (a_l_depth : PySem.W.nsIn K mainGlobals "_law_depth" = some (some (.ref f_l_depth)))
    (l_l_depth : K.lookup f_l_depth = some ⟨oc_l_depth, od_l_depth, .func (PySem.W.fnOf "_law_depth" "_law_depth" (defArgs s_l_depth) (defBody s_l_depth) (defScope s_l_depth) .none kV_l_depth dc_l_depth pm_l_depth an_l_depth cd_l_depth ct_l_depth), sl_l_depth⟩)
    (c_l_depth : PySem.W.codeIn K cd_l_depth "_law_depth" = true)
    (k_l_depth : PySem.W.keepIn K (.ref f_l_depth) = true)
    (a_l_ends : PySem.W.nsIn K mainGlobals "_law_ends" = some (some (.ref f_l_ends)))
    (l_l_ends : K.lookup f_l_ends = some ⟨oc_l_ends, od_l_ends, .func (PySem.W.fnOf "_law_ends" "_law_ends" (defArgs s_l_ends) (defBody s_l_ends) (defScope s_l_ends) .none kV_l_ends dc_l_ends pm_l_ends an_l_ends cd_l_ends ct_l_ends), sl_l_ends⟩)
    (c_l_ends : PySem.W.codeIn K cd_l_ends "_law_ends" = true)
    (k_l_ends : PySem.W.keepIn K (.ref f_l_ends) = true)
    (a_l_whole : PySem.W.nsIn K mainGlobals "_law_whole" = some (some (.ref f_l_whole)))
    (l_l_whole : K.lookup f_l_whole = some ⟨oc_l_whole, od_l_whole, .func (PySem.W.fnOf "_law_whole" "_law_whole" (defArgs s_l_whole) (defBody s_l_whole) (defScope s_l_whole) .none kV_l_whole dc_l_whole pm_l_whole an_l_whole cd_l_whole ct_l_whole), sl_l_whole⟩)
    (c_l_whole : PySem.W.codeIn K cd_l_whole "_law_whole" = true)
    (k_l_whole : PySem.W.keepIn K (.ref f_l_whole) = true)
    (a_l_wholes : PySem.W.nsIn K mainGlobals "_law_wholes" = some (some (.ref f_l_wholes)))
    (l_l_wholes : K.lookup f_l_wholes = some ⟨oc_l_wholes, od_l_wholes, .func (PySem.W.fnOf "_law_wholes" "_law_wholes" (defArgs s_l_wholes) (defBody s_l_wholes) (defScope s_l_wholes) .none kV_l_wholes dc_l_wholes pm_l_wholes an_l_wholes cd_l_wholes ct_l_wholes), sl_l_wholes⟩)
    (c_l_wholes : PySem.W.codeIn K cd_l_wholes "_law_wholes" = true)
    (k_l_wholes : PySem.W.keepIn K (.ref f_l_wholes) = true)
    (a_l_pieces : PySem.W.nsIn K mainGlobals "_law_pieces" = some (some (.ref f_l_pieces)))
    (l_l_pieces : K.lookup f_l_pieces = some ⟨oc_l_pieces, od_l_pieces, .func (PySem.W.fnOf "_law_pieces" "_law_pieces" (defArgs s_l_pieces) (defBody s_l_pieces) (defScope s_l_pieces) .none kV_l_pieces dc_l_pieces pm_l_pieces an_l_pieces cd_l_pieces ct_l_pieces), sl_l_pieces⟩)
    (c_l_pieces : PySem.W.codeIn K cd_l_pieces "_law_pieces" = true)
    (k_l_pieces : PySem.W.keepIn K (.ref f_l_pieces) = true)
    (a_law : PySem.W.nsIn K mainGlobals "law" = some (some (.ref f_law)))
    (l_law : K.lookup f_law = some ⟨oc_law, od_law, .func (PySem.W.fnOf "law" "law" (defArgs s_law) (defBody s_law) (defScope s_law) .none kV_law dc_law pm_law an_law cd_law ct_law), sl_law⟩)
    (c_law : PySem.W.codeIn K cd_law "law" = true)
    (k_law : PySem.W.keepIn K (.ref f_law) = true)
    (n_LEAST_PLACE : PySem.W.nsIn K mainGlobals "LEAST_PLACE" = some (some (.int (-999999999999) tc_LEAST_PLACE)))
    (n_GREATEST_PLACE : PySem.W.nsIn K mainGlobals "GREATEST_PLACE" = some (some (.int (999999999999) tc_GREATEST_PLACE)))
    (a_ShelfError : PySem.W.nsIn K mainGlobals "ShelfError" = some (some (.ref C_ShelfError)))
    (x_ShelfError : PySem.W.excIn K C_ShelfError [.type "ValueError", .type "Exception", .type "BaseException", .type "object"] "ValueError.__new__" = true)
    (k_ShelfError : PySem.W.keepIn K (.ref C_ShelfError) = true)
    (b_ShelfError : PySem.W.subIn K (.ref C_ShelfError) (.type "BaseException") = some true)
    (t_ShelfError : PySem.W.typeIn K (.ref C_ShelfError) = some (.type "type"))
    (a_NoSpan : PySem.W.nsIn K mainGlobals "NoSpan" = some (some (.ref C_NoSpan)))
    (x_NoSpan : PySem.W.excIn K C_NoSpan [.type "ValueError", .type "Exception", .type "BaseException", .type "object"] "ValueError.__new__" = true)
    (k_NoSpan : PySem.W.keepIn K (.ref C_NoSpan) = true)
    (b_NoSpan : PySem.W.subIn K (.ref C_NoSpan) (.type "BaseException") = some true)
    (t_NoSpan : PySem.W.typeIn K (.ref C_NoSpan) = some (.type "type"))
    (z_bool : PySem.W.nsIn K mainGlobals "bool" = some none)
    (z_int : PySem.W.nsIn K mainGlobals "int" = some none)
    (z_isinstance : PySem.W.nsIn K mainGlobals "isinstance" = some none)
    (z_len : PySem.W.nsIn K mainGlobals "len" = some none)
    (z_list : PySem.W.nsIn K mainGlobals "list" = some none)
    (z_max : PySem.W.nsIn K mainGlobals "max" = some none)
    (z_min : PySem.W.nsIn K mainGlobals "min" = some none)
    (z_range : PySem.W.nsIn K mainGlobals "range" = some none)
    (z_set : PySem.W.nsIn K mainGlobals "set" = some none)
    (z_sorted : PySem.W.nsIn K mainGlobals "sorted" = some none)
    (z_tuple : PySem.W.nsIn K mainGlobals "tuple" = some none)
    : ∃ fd : FuncData, (∀ (s : Shared) (v : Value), BindsTo s fd ⟨[v], []⟩ [("_law_script", v)]) ∧ ∀ base : Heap, K.In base → base.Ns mainGlobals mg → FnOk l.prog w K mg base CX0 7 fa fd ["_law_script"] (spLaw K) := by
  have e := hfa.symm.trans (PySem.W.mg_of X G a_law)
  cases e
  have F_is_whole := fun_mk (st := s_is_whole) l_is_whole c_is_whole k_is_whole
  have b_is_whole := F_is_whole.binds (ps := ["number"]) fun _ _ _ _ _ _ us hl => match us, hl with | [_], _ => rfl
  have F_is_place := fun_mk (st := s_is_place) l_is_place c_is_place k_is_place
  have b_is_place := F_is_place.binds (ps := ["number"]) fun _ _ _ _ _ _ us hl => match us, hl with | [_], _ => rfl
  have F_is_span := fun_mk (st := s_is_span) l_is_span c_is_span k_is_span
  have b_is_span := F_is_span.binds (ps := ["span"]) fun _ _ _ _ _ _ us hl => match us, hl with | [_], _ => rfl
  have F_check_span := fun_mk (st := s_check_span) l_check_span c_check_span k_check_span
  have b_check_span := F_check_span.binds (ps := ["span"]) fun _ _ _ _ _ _ us hl => match us, hl with | [_], _ => rfl
  have F_check_spans := fun_mk (st := s_check_spans) l_check_spans c_check_spans k_check_spans
  have b_check_spans := F_check_spans.binds (ps := ["spans"]) fun _ _ _ _ _ _ us hl => match us, hl with | [_], _ => rfl
  have F_changes_of := fun_mk (st := s_changes_of) l_changes_of c_changes_of k_changes_of
  have b_changes_of := F_changes_of.binds (ps := ["spans"]) fun _ _ _ _ _ _ us hl => match us, hl with | [_], _ => rfl
  have F_layers_of := fun_mk (st := s_layers_of) l_layers_of c_layers_of k_layers_of
  have b_layers_of := F_layers_of.binds (ps := ["spans"]) fun _ _ _ _ _ _ us hl => match us, hl with | [_], _ => rfl
  have F_deepest_layer := fun_mk (st := s_deepest_layer) l_deepest_layer c_deepest_layer k_deepest_layer
  have b_deepest_layer := F_deepest_layer.binds (ps := ["spans"]) fun _ _ _ _ _ _ us hl => match us, hl with | [_], _ => rfl
  have F_profile := fun_mk (st := s_profile) l_profile c_profile k_profile
  have b_profile := F_profile.binds (ps := ["spans"]) fun _ _ _ _ _ _ us hl => match us, hl with | [_], _ => rfl
  have F_deepest := fun_mk (st := s_deepest) l_deepest c_deepest k_deepest
  have b_deepest := F_deepest.binds (ps := ["spans"]) fun _ _ _ _ _ _ us hl => match us, hl with | [_], _ => rfl
  have F_l_at := fun_mk (st := s_l_at) l_l_at c_l_at k_l_at
  have b_l_at := F_l_at.binds (ps := ["_law_script", "_law_k"]) fun _ _ _ _ _ _ us hl => match us, hl with | [_, _], _ => rfl
  have F_l_mixed := fun_mk (st := s_l_mixed) l_l_mixed c_l_mixed k_l_mixed
  have b_l_mixed := F_l_mixed.binds (ps := ["_law_cell", "_law_k"]) fun _ _ _ _ _ _ us hl => match us, hl with | [_, _], _ => rfl
  have F_l_purse := fun_mk (st := s_l_purse) l_l_purse c_l_purse k_l_purse
  have b_l_purse := F_l_purse.binds (ps := ["_law_script", "_law_at_here"]) fun _ _ _ _ _ _ us hl => match us, hl with | [_, _], _ => rfl
  have F_l_draw := fun_mk (st := s_l_draw) l_l_draw c_l_draw k_l_draw
  have b_l_draw := F_l_draw.binds (ps := ["_law_purse_here", "_law_out_of"]) fun _ _ _ _ _ _ us hl => match us, hl with | [_, _], _ => rfl
  have F_l_number := fun_mk (st := s_l_number) l_l_number c_l_number k_l_number
  have b_l_number := F_l_number.binds (ps := ["_law_purse_here", "_law_most"]) fun _ _ _ _ _ _ us hl => match us, hl with | [_, _], _ => rfl
  have F_l_end := fun_mk (st := s_l_end) l_l_end c_l_end k_l_end
  have b_l_end := F_l_end.binds (ps := ["_law_purse_here", "_law_ends_here", "_law_most"]) fun _ _ _ _ _ _ us hl => match us, hl with | [_, _, _], _ => rfl
  have F_l_span := fun_mk (st := s_l_span) l_l_span c_l_span k_l_span
  have b_l_span := F_l_span.binds (ps := ["_law_purse_here", "_law_ends_here", "_law_most"]) fun _ _ _ _ _ _ us hl => match us, hl with | [_, _, _], _ => rfl
  have F_l_order := fun_mk (st := s_l_order) l_l_order c_l_order k_l_order
  have b_l_order := F_l_order.binds (ps := ["_law_purse_here", "_law_some"]) fun _ _ _ _ _ _ us hl => match us, hl with | [_, _], _ => rfl
  have F_l_spans := fun_mk (st := s_l_spans) l_l_spans c_l_spans k_l_spans
  have b_l_spans := F_l_spans.binds (ps := ["_law_purse_here", "_law_ends_here", "_law_most"]) fun _ _ _ _ _ _ us hl => match us, hl with | [_, _, _], _ => rfl
  have F_l_holds := fun_mk (st := s_l_holds) l_l_holds c_l_holds k_l_holds
  have b_l_holds := F_l_holds.binds (ps := ["_law_span_here", "_law_place"]) fun _ _ _ _ _ _ us hl => match us, hl with | [_, _], _ => rfl
  have F_l_depth := fun_mk (st := s_l_depth) l_l_depth c_l_depth k_l_depth
  have b_l_depth := F_l_depth.binds (ps := ["_law_spans_here", "_law_place"]) fun _ _ _ _ _ _ us hl => match us, hl with | [_, _], _ => rfl
  have F_l_ends := fun_mk (st := s_l_ends) l_l_ends c_l_ends k_l_ends
  have b_l_ends := F_l_ends.binds (ps := ["_law_spans_here"]) fun _ _ _ _ _ _ us hl => match us, hl with | [_], _ => rfl
  have F_l_whole := fun_mk (st := s_l_whole) l_l_whole c_l_whole k_l_whole
  have b_l_whole := F_l_whole.binds (ps := ["_law_number_here"]) fun _ _ _ _ _ _ us hl => match us, hl with | [_], _ => rfl
  have F_l_wholes := fun_mk (st := s_l_wholes) l_l_wholes c_l_wholes k_l_wholes
  have b_l_wholes := F_l_wholes.binds (ps := ["_law_some"]) fun _ _ _ _ _ _ us hl => match us, hl with | [_], _ => rfl
  have F_l_pieces := fun_mk (st := s_l_pieces) l_l_pieces c_l_pieces k_l_pieces
  have b_l_pieces := F_l_pieces.binds (ps := ["_law_spans_here"]) fun _ _ _ _ _ _ us hl => match us, hl with | [_], _ => rfl
  have F_law := fun_mk (st := s_law) l_law c_law k_law
  have b_law := F_law.binds (ps := ["_law_script"]) fun _ _ _ _ _ _ us hl => match us, hl with | [_], _ => rfl
  have T : Tx K mg := { f_is_whole := _, fd_is_whole := _, F_is_whole := F_is_whole, b_is_whole := b_is_whole, g_is_whole := PySem.W.mg_of X G a_is_whole, f_is_place := _, fd_is_place := _, F_is_place := F_is_place, b_is_place := b_is_place, g_is_place := PySem.W.mg_of X G a_is_place, f_is_span := _, fd_is_span := _, F_is_span := F_is_span, b_is_span := b_is_span, g_is_span := PySem.W.mg_of X G a_is_span, f_check_span := _, fd_check_span := _, F_check_span := F_check_span, b_check_span := b_check_span, g_check_span := PySem.W.mg_of X G a_check_span, f_check_spans := _, fd_check_spans := _, F_check_spans := F_check_spans, b_check_spans := b_check_spans, g_check_spans := PySem.W.mg_of X G a_check_spans, f_changes_of := _, fd_changes_of := _, F_changes_of := F_changes_of, b_changes_of := b_changes_of, g_changes_of := PySem.W.mg_of X G a_changes_of, f_layers_of := _, fd_layers_of := _, F_layers_of := F_layers_of, b_layers_of := b_layers_of, g_layers_of := PySem.W.mg_of X G a_layers_of, f_deepest_layer := _, fd_deepest_layer := _, F_deepest_layer := F_deepest_layer, b_deepest_layer := b_deepest_layer, g_deepest_layer := PySem.W.mg_of X G a_deepest_layer, f_profile := _, fd_profile := _, F_profile := F_profile, b_profile := b_profile, g_profile := PySem.W.mg_of X G a_profile, f_deepest := _, fd_deepest := _, F_deepest := F_deepest, b_deepest := b_deepest, g_deepest := PySem.W.mg_of X G a_deepest, f_l_at := _, fd_l_at := _, F_l_at := F_l_at, b_l_at := b_l_at, g_l_at := PySem.W.mg_of X G a_l_at, f_l_mixed := _, fd_l_mixed := _, F_l_mixed := F_l_mixed, b_l_mixed := b_l_mixed, g_l_mixed := PySem.W.mg_of X G a_l_mixed, f_l_purse := _, fd_l_purse := _, F_l_purse := F_l_purse, b_l_purse := b_l_purse, g_l_purse := PySem.W.mg_of X G a_l_purse, f_l_draw := _, fd_l_draw := _, F_l_draw := F_l_draw, b_l_draw := b_l_draw, g_l_draw := PySem.W.mg_of X G a_l_draw, f_l_number := _, fd_l_number := _, F_l_number := F_l_number, b_l_number := b_l_number, g_l_number := PySem.W.mg_of X G a_l_number, f_l_end := _, fd_l_end := _, F_l_end := F_l_end, b_l_end := b_l_end, g_l_end := PySem.W.mg_of X G a_l_end, f_l_span := _, fd_l_span := _, F_l_span := F_l_span, b_l_span := b_l_span, g_l_span := PySem.W.mg_of X G a_l_span, f_l_order := _, fd_l_order := _, F_l_order := F_l_order, b_l_order := b_l_order, g_l_order := PySem.W.mg_of X G a_l_order, f_l_spans := _, fd_l_spans := _, F_l_spans := F_l_spans, b_l_spans := b_l_spans, g_l_spans := PySem.W.mg_of X G a_l_spans, f_l_holds := _, fd_l_holds := _, F_l_holds := F_l_holds, b_l_holds := b_l_holds, g_l_holds := PySem.W.mg_of X G a_l_holds, f_l_depth := _, fd_l_depth := _, F_l_depth := F_l_depth, b_l_depth := b_l_depth, g_l_depth := PySem.W.mg_of X G a_l_depth, f_l_ends := _, fd_l_ends := _, F_l_ends := F_l_ends, b_l_ends := b_l_ends, g_l_ends := PySem.W.mg_of X G a_l_ends, f_l_whole := _, fd_l_whole := _, F_l_whole := F_l_whole, b_l_whole := b_l_whole, g_l_whole := PySem.W.mg_of X G a_l_whole, f_l_wholes := _, fd_l_wholes := _, F_l_wholes := F_l_wholes, b_l_wholes := b_l_wholes, g_l_wholes := PySem.W.mg_of X G a_l_wholes, f_l_pieces := _, fd_l_pieces := _, F_l_pieces := F_l_pieces, b_l_pieces := b_l_pieces, g_l_pieces := PySem.W.mg_of X G a_l_pieces, f_law := _, fd_law := _, F_law := F_law, b_law := b_law, g_law := PySem.W.mg_of X G a_law, tc_LEAST_PLACE := _, c_LEAST_PLACE := PySem.W.mg_of X G n_LEAST_PLACE, tc_GREATEST_PLACE := _, c_GREATEST_PLACE := PySem.W.mg_of X G n_GREATEST_PLACE, C_ShelfError := _, g_ShelfError := PySem.W.mg_of X G a_ShelfError, x_ShelfError := x_ShelfError, k_ShelfError := k_ShelfError, b_ShelfError := b_ShelfError, t_ShelfError := t_ShelfError, C_NoSpan := _, g_NoSpan := PySem.W.mg_of X G a_NoSpan, x_NoSpan := x_NoSpan, k_NoSpan := k_NoSpan, b_NoSpan := b_NoSpan, t_NoSpan := t_NoSpan, m_bool := PySem.W.mg_none_of X G z_bool, m_int := PySem.W.mg_none_of X G z_int, m_isinstance := PySem.W.mg_none_of X G z_isinstance, m_len := PySem.W.mg_none_of X G z_len, m_list := PySem.W.mg_none_of X G z_list, m_max := PySem.W.mg_none_of X G z_max, m_min := PySem.W.mg_none_of X G z_min, m_range := PySem.W.mg_none_of X G z_range, m_set := PySem.W.mg_none_of X G z_set, m_sorted := PySem.W.mg_none_of X G z_sorted, m_tuple := PySem.W.mg_none_of X G z_tuple }
  exact ⟨PySem.W.fnOf "law" "law" (defArgs s_law) (defBody s_law) (defScope s_law) .none kV_law dc_law pm_law an_law cd_law ct_law, fun s v => .of_eq rfl, fun base _ _ => ok_law T F_law⟩
end Sp
open PySem PySem.W PyProof.Rows
set_option maxHeartbeats 0 in
theorem PySem.Challenge.cw_spanshelf_k11_profiles_holds : PySem.Challenge.rw_spanshelf_k11_profiles.Holds := by
  w_on; o_law; k_head; (case hw => w_witness2)
  k_fill
  refine L2.walk_of (l := PySem.Challenge.rw_spanshelf_k11_profiles) (n := 63) (k := 7) (x := "_law_script") (CX := fun _ => L2.CX0) (sp := fun w => Sp.spLaw _) rfl (by decide) rfl ⟨rfl, by decide, by decide⟩ (fun w h Y => PySem.W.kIn_of Y) ?F (fun _ _ a ns hl hO hS => ⟨a, ns, rfl, hS, hl, hO, fun _ => rfl⟩) (fun _ _ _ _ _ h => h)
  case F =>
    intro w mg fa h KX G hmg
    refine' Sp.all_mk KX G hmg ?a_is_whole ?l_is_whole ?c_is_whole ?k_is_whole ?a_is_place ?l_is_place ?c_is_place ?k_is_place ?a_is_span ?l_is_span ?c_is_span ?k_is_span ?a_check_span ?l_check_span ?c_check_span ?k_check_span ?a_check_spans ?l_check_spans ?c_check_spans ?k_check_spans ?a_changes_of ?l_changes_of ?c_changes_of ?k_changes_of ?a_layers_of ?l_layers_of ?c_layers_of ?k_layers_of ?a_deepest_layer ?l_deepest_layer ?c_deepest_layer ?k_deepest_layer ?a_profile ?l_profile ?c_profile ?k_profile ?a_deepest ?l_deepest ?c_deepest ?k_deepest ?a_l_at ?l_l_at ?c_l_at ?k_l_at ?a_l_mixed ?l_l_mixed ?c_l_mixed ?k_l_mixed ?a_l_purse ?l_l_purse ?c_l_purse ?k_l_purse ?a_l_draw ?l_l_draw ?c_l_draw ?k_l_draw ?a_l_number ?l_l_number ?c_l_number ?k_l_number ?a_l_end ?l_l_end ?c_l_end ?k_l_end ?a_l_span ?l_l_span ?c_l_span ?k_l_span ?a_l_order ?l_l_order ?c_l_order ?k_l_order ?a_l_spans ?l_l_spans ?c_l_spans ?k_l_spans ?a_l_holds ?l_l_holds ?c_l_holds ?k_l_holds ?a_l_depth ?l_l_depth ?c_l_depth ?k_l_depth ?a_l_ends ?l_l_ends ?c_l_ends ?k_l_ends ?a_l_whole ?l_l_whole ?c_l_whole ?k_l_whole ?a_l_wholes ?l_l_wholes ?c_l_wholes ?k_l_wholes ?a_l_pieces ?l_l_pieces ?c_l_pieces ?k_l_pieces ?a_law ?l_law ?c_law ?k_law ?n_LEAST_PLACE ?n_GREATEST_PLACE ?a_ShelfError ?x_ShelfError ?k_ShelfError ?b_ShelfError ?t_ShelfError ?a_NoSpan ?x_NoSpan ?k_NoSpan ?b_NoSpan ?t_NoSpan ?z_bool ?z_int ?z_isinstance ?z_len ?z_list ?z_max ?z_min ?z_range ?z_set ?z_sorted ?z_tuple
    (case a_is_whole => first | k_is | rfl)
    (case l_is_whole => first | k_is | rfl)
    (case c_is_whole => first | k_is | rfl)
    (case k_is_whole => first | k_is | rfl)
    (case a_is_place => first | k_is | rfl)
    (case l_is_place => first | k_is | rfl)
    (case c_is_place => first | k_is | rfl)
    (case k_is_place => first | k_is | rfl)
    (case a_is_span => first | k_is | rfl)
    (case l_is_span => first | k_is | rfl)
    (case c_is_span => first | k_is | rfl)
    (case k_is_span => first | k_is | rfl)
    (case a_check_span => first | k_is | rfl)
    (case l_check_span => first | k_is | rfl)
    (case c_check_span => first | k_is | rfl)
    (case k_check_span => first | k_is | rfl)
    (case a_check_spans => first | k_is | rfl)
    (case l_check_spans => first | k_is | rfl)
    (case c_check_spans => first | k_is | rfl)
    (case k_check_spans => first | k_is | rfl)
    (case a_changes_of => first | k_is | rfl)
    (case l_changes_of => first | k_is | rfl)
    (case c_changes_of => first | k_is | rfl)
    (case k_changes_of => first | k_is | rfl)
    (case a_layers_of => first | k_is | rfl)
    (case l_layers_of => first | k_is | rfl)
    (case c_layers_of => first | k_is | rfl)
    (case k_layers_of => first | k_is | rfl)
    (case a_deepest_layer => first | k_is | rfl)
    (case l_deepest_layer => first | k_is | rfl)
    (case c_deepest_layer => first | k_is | rfl)
    (case k_deepest_layer => first | k_is | rfl)
    (case a_profile => first | k_is | rfl)
    (case l_profile => first | k_is | rfl)
    (case c_profile => first | k_is | rfl)
    (case k_profile => first | k_is | rfl)
    (case a_deepest => first | k_is | rfl)
    (case l_deepest => first | k_is | rfl)
    (case c_deepest => first | k_is | rfl)
    (case k_deepest => first | k_is | rfl)
    (case a_l_at => first | k_is | rfl)
    (case l_l_at => first | k_is | rfl)
    (case c_l_at => first | k_is | rfl)
    (case k_l_at => first | k_is | rfl)
    (case a_l_mixed => first | k_is | rfl)
    (case l_l_mixed => first | k_is | rfl)
    (case c_l_mixed => first | k_is | rfl)
    (case k_l_mixed => first | k_is | rfl)
    (case a_l_purse => first | k_is | rfl)
    (case l_l_purse => first | k_is | rfl)
    (case c_l_purse => first | k_is | rfl)
    (case k_l_purse => first | k_is | rfl)
    (case a_l_draw => first | k_is | rfl)
    (case l_l_draw => first | k_is | rfl)
    (case c_l_draw => first | k_is | rfl)
    (case k_l_draw => first | k_is | rfl)
    (case a_l_number => first | k_is | rfl)
    (case l_l_number => first | k_is | rfl)
    (case c_l_number => first | k_is | rfl)
    (case k_l_number => first | k_is | rfl)
    (case a_l_end => first | k_is | rfl)
    (case l_l_end => first | k_is | rfl)
    (case c_l_end => first | k_is | rfl)
    (case k_l_end => first | k_is | rfl)
    (case a_l_span => first | k_is | rfl)
    (case l_l_span => first | k_is | rfl)
    (case c_l_span => first | k_is | rfl)
    (case k_l_span => first | k_is | rfl)
    (case a_l_order => first | k_is | rfl)
    (case l_l_order => first | k_is | rfl)
    (case c_l_order => first | k_is | rfl)
    (case k_l_order => first | k_is | rfl)
    (case a_l_spans => first | k_is | rfl)
    (case l_l_spans => first | k_is | rfl)
    (case c_l_spans => first | k_is | rfl)
    (case k_l_spans => first | k_is | rfl)
    (case a_l_holds => first | k_is | rfl)
    (case l_l_holds => first | k_is | rfl)
    (case c_l_holds => first | k_is | rfl)
    (case k_l_holds => first | k_is | rfl)
    (case a_l_depth => first | k_is | rfl)
    (case l_l_depth => first | k_is | rfl)
    (case c_l_depth => first | k_is | rfl)
    (case k_l_depth => first | k_is | rfl)
    (case a_l_ends => first | k_is | rfl)
    (case l_l_ends => first | k_is | rfl)
    (case c_l_ends => first | k_is | rfl)
    (case k_l_ends => first | k_is | rfl)
    (case a_l_whole => first | k_is | rfl)
    (case l_l_whole => first | k_is | rfl)
    (case c_l_whole => first | k_is | rfl)
    (case k_l_whole => first | k_is | rfl)
    (case a_l_wholes => first | k_is | rfl)
    (case l_l_wholes => first | k_is | rfl)
    (case c_l_wholes => first | k_is | rfl)
    (case k_l_wholes => first | k_is | rfl)
    (case a_l_pieces => first | k_is | rfl)
    (case l_l_pieces => first | k_is | rfl)
    (case c_l_pieces => first | k_is | rfl)
    (case k_l_pieces => first | k_is | rfl)
    (case a_law => first | k_is | rfl)
    (case l_law => first | k_is | rfl)
    (case c_law => first | k_is | rfl)
    (case k_law => first | k_is | rfl)
    (case n_LEAST_PLACE => first | k_is | rfl)
    (case n_GREATEST_PLACE => first | k_is | rfl)
    (case a_ShelfError => first | k_is | rfl)
    (case x_ShelfError => k_exc)
    (case k_ShelfError => first | k_is | rfl)
    (case b_ShelfError => first | k_is | rfl)
    (case t_ShelfError => first | k_is | rfl)
    (case a_NoSpan => first | k_is | rfl)
    (case x_NoSpan => k_exc)
    (case k_NoSpan => first | k_is | rfl)
    (case b_NoSpan => first | k_is | rfl)
    (case t_NoSpan => first | k_is | rfl)
    (case z_bool => first | k_is | rfl)
    (case z_int => first | k_is | rfl)
    (case z_isinstance => first | k_is | rfl)
    (case z_len => first | k_is | rfl)
    (case z_list => first | k_is | rfl)
    (case z_max => first | k_is | rfl)
    (case z_min => first | k_is | rfl)
    (case z_range => first | k_is | rfl)
    (case z_set => first | k_is | rfl)
    (case z_sorted => first | k_is | rfl)
    (case z_tuple => first | k_is | rfl)
