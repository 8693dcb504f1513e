import PyProof.Rows.All
import Wide.All
import OpenK.AllK
import Wide.FinOn
import PySem.Challenge.RW_spanshelf_k57_loose_ones_looked_at
import HandS.ForMost
import HandS.ForExc
import HandS.IsInst
import HandS.Wide
import HandS.WideBits
import HandS.Flt
import HandS.ExcIs
import HandS.ExcValue
import HandS.AnyAll
import HandS.EndTab
import HandS.GenList
import HandS.Codes
import HandS.Small
import HandS.More
import HandS.Strs
import HandS.SetFor
import HandS.SortRule
import HandS.Style
import HandS.TupSets
import HandS.TupLe
import HandS.SortInts
import HandS.Conv
import HandS.Flow
import HandS.NoneIn
import KE.DataMinMax
import KE.SortData
import HandS.SetBool
import KE.DataFind
import HandS.WordsDict
import HandS.DictComp
import HandS.Iter
import HandS.Dict
import HandS.Text
import HandS.TryOnly
import HandS.Comp
import HandS.Spec
import PyProof.DictCopy
import PyProof.NeKinds
import PyProof.StrBlock2
import HandS.Deep
import HandS.FStr
import KE.IntTextLaws
import HandS.Replace
set_option Elab.async false
set_option linter.all false
set_option maxRecDepth 100000
set_option maxHeartbeats 4000000
namespace Sp
open PySem PySem.Spec PyProof.Rows L2
/-! ### heaps -/
theorem same_upd {H : Hp} {p : Addr} {o : HO} (h : H p = none) : Same H (upd H p o) := fun b x e => by
  rw [upd_ne (ne_of_none e h)]
  exact e
theorem upd_at {H : Hp} {p : Addr} {o : HO} (h : H p = none) : (upd H p o) p = some o ∧ Same H (upd H p o) := ⟨upd_same, same_upd h⟩
/-- all but what stands at the addresses of L is kept -/
def Chg (L : List Addr) (H H' : Hp) : Prop := ∀ b o, b ∉ L → H b = some o → H' b = some o
theorem Chg.refl (L : List Addr) (H : Hp) : Chg L H H := fun _ _ _ h => h
theorem Chg.trans {L : List Addr} {H H1 H2 : Hp} (a : Chg L H H1) (b : Chg L H1 H2) : Chg L H H2 := fun c o n h => b c o n (a c o n h)
theorem Chg.of_same {L : List Addr} {H H' : Hp} (a : Same H H') : Chg L H H' := fun c o _ h => a c o h
theorem Chg.same {H H' : Hp} (a : Chg [] H H') : Same H H' := fun c o h => a c o List.not_mem_nil h
theorem Chg.mono {L L' : List Addr} {H H' : Hp} (a : Chg L H H') (h : ∀ x ∈ L, x ∈ L') : Chg L' H H' := fun c o n e => a c o (fun q => n (h c q)) e
theorem Chg.upd {L : List Addr} {H : Hp} {p : Addr} {o : HO} (h : p ∈ L) : Chg L H (upd H p o) := fun b x n e => by
  have hne : b ≠ p := fun z => n (by rw [z]; exact h)
  rw [upd_ne hne]
  exact e
theorem Chg.free {L : List Addr} {H H' : Hp} (a : Chg L H H') {l : Addr} (hl : l ∉ L) (h : H' l = none) : H l = none := by
  cases q : H l with
  | none => rfl
  | some o =>
    rw [a l o hl q] at h
    cases h
theorem Chg.seq {K : PySem.W.Frag} {L : List Addr} {H H' : Hp} {a : Addr} {xs : List V} (e : Chg L H H') (n : a ∉ L) (h : SqL K H a xs) : SqL K H' a xs := by
  rcases h with (h | ⟨o, h⟩) | h
  · exact .inl (.inl (e _ _ n h))
  · exact .inl (.inr ⟨o, e _ _ n h⟩)
  · exact .inr h
theorem nmem1 {a b : Addr} (h : a ≠ b) : a ∉ [b] := fun q => h (List.mem_singleton.mp q)
theorem nmem2 {a b c : Addr} (h : a ≠ b) (h2 : a ≠ c) : a ∉ [b, c] := fun q => by
  rcases List.mem_cons.mp q with q | q
  · exact h q
  · exact h2 (List.mem_singleton.mp q)
theorem small_lt {n : Nat} (h : n ≤ 1000000) : n < sizeLine := Nat.lt_of_le_of_lt h (by decide)
theorem small_le {n : Nat} (h : n ≤ 1000000) : n ≤ sizeLine := Nat.le_of_lt (small_lt h)
/-- a list of whole numbers at p that may be changed -/
def Pu (H : Hp) (p : Addr) (n : Nat) : Prop := ∃ a b c : Int, H p = some (.lst [.int a, .int b, .int c]) ∧ 0 ≤ a ∧ 0 ≤ b ∧ b < 2147483647 ∧ 0 ≤ c ∧ c ≤ n
theorem Pu.chg {L : List Addr} {H H' : Hp} {p : Addr} {n : Nat} (h : Pu H p n) (e : Chg L H H') (hp : p ∉ L) : Pu H' p n := by
  obtain ⟨a, b, c, h1, h2⟩ := h
  exact ⟨a, b, c, e _ _ hp h1, h2⟩
theorem Pu.same {H H' : Hp} {p : Addr} {n : Nat} (h : Pu H p n) (e : Same H H') : Pu H' p n := h.chg (L := []) (Chg.of_same e) List.not_mem_nil
theorem Pu.mono {H : Hp} {p : Addr} {n m : Nat} (h : Pu H p n) (e : n ≤ m) : Pu H p m := by
  obtain ⟨a, b, c, h1, h2, h3, h4, h5, h6⟩ := h
  exact ⟨a, b, c, h1, h2, h3, h4, h5, by omega⟩
theorem Pu.ne {H : Hp} {p q : Addr} {n : Nat} (h : Pu H p n) (e : H q = none) : p ≠ q := by
  obtain ⟨a, b, c, h1, _⟩ := h
  exact ne_of_none h1 e
theorem Pu.at {H : Hp} {p : Addr} {n : Nat} (h : Pu H p n) : ∃ o, H p = some o := by
  obtain ⟨a, b, c, h1, _⟩ := h
  exact ⟨_, h1⟩
/-! ### data: whole numbers, spans, lists of them -/
theorem dpAll_ints {K : PySem.W.Frag} {H : Hp} : ∀ ns : List Int, DpAll K H (ns.map V.int) (ns.map PyData.int)
  | [] => .nil
  | n :: r => .cons (.int n) (dpAll_ints r)
theorem lay_ints : ∀ ns : List Int, PyData.canLayAll0 (ns.map PyData.int) = true ∧ PyData.depthAll (ns.map PyData.int) = 0
  | [] => ⟨rfl, rfl⟩
  | n :: r => by
    obtain ⟨h1, h2⟩ := lay_ints r
    refine ⟨?_, ?_⟩
    · show (PyData.canLay0 (.int n) && PyData.canLayAll0 (r.map PyData.int)) = true
      rw [h1]
      rfl
    · show max (PyData.depth (.int n)) (PyData.depthAll (r.map PyData.int)) = 0
      rw [h2]
      rfl
theorem shaped_ints (ns : List Int) : SeqAt.shaped (.list (ns.map PyData.int)) = true := by
  obtain ⟨h1, h2⟩ := lay_ints ns
  show (PyData.canLayAll0 (ns.map PyData.int) && decide (PyData.depthAll (ns.map PyData.int) + 1 ≤ 64)) = true
  rw [h1, h2]
  rfl
theorem shaped_nil : SeqAt.shaped (.list []) = true := rfl
theorem eqv_ints_nil (ns : List Int) : PyData.eqv (.list (ns.map PyData.int)) (.list []) = decide (ns = []) := by
  cases ns with
  | nil => rfl
  | cons n r => simp [PyData.eqv, PyData.eqvAll]
abbrev Span := Int × Int
def spD (s : Span) : PyData := .tuple [.int s.1, .int s.2]
/-- v is the span s -/
def Spn (H : Hp) (v : V) (s : Span) : Prop := ∃ t, v = .ref t ∧ H t = some (.tup [.int s.1, .int s.2])
inductive Sps (H : Hp) : List V → List Span → Prop where
  | nil : Sps H [] []
  | cons {v : V} {s : Span} {vs : List V} {ss : List Span} : Spn H v s → Sps H vs ss → Sps H (v :: vs) (s :: ss)
theorem Spn.same {H H' : Hp} {v : V} {s : Span} (h : Spn H v s) (e : Same H H') : Spn H' v s := by
  obtain ⟨t, rfl, ht⟩ := h
  exact ⟨t, rfl, e _ _ ht⟩
theorem Sps.same {H H' : Hp} (e : Same H H') : ∀ {vs : List V} {ss : List Span}, Sps H vs ss → Sps H' vs ss
  | _, _, .nil => .nil
  | _, _, .cons h t => .cons (h.same e) (Sps.same e t)
/-- only lists are changed: spans stay -/
def Lsts (L : List Addr) (H : Hp) : Prop := ∀ p ∈ L, ∀ xs, H p ≠ some (.tup xs)
theorem Lsts.two {H : Hp} {p q : Addr} (h : Lsts [p] H) (h2 : Lsts [q] H) : Lsts [p, q] H := fun b hb xs => by
  rcases List.mem_cons.mp hb with e | e
  · rw [e]
    exact h p List.mem_cons_self xs
  · exact h2 b e xs
theorem Spn.chg {L : List Addr} {H H' : Hp} {v : V} {s : Span} (h : Spn H v s) (e : Chg L H H') (l : Lsts L H) : Spn H' v s := by
  obtain ⟨t, rfl, ht⟩ := h
  exact ⟨t, rfl, e _ _ (fun q => l t q _ ht) ht⟩
theorem Sps.chg {L : List Addr} {H H' : Hp} (e : Chg L H H') (l : Lsts L H) : ∀ {vs : List V} {ss : List Span}, Sps H vs ss → Sps H' vs ss
  | _, _, .nil => .nil
  | _, _, .cons h t => .cons (h.chg e l) (Sps.chg e l t)
theorem Sps.len {H : Hp} : ∀ {vs : List V} {ss : List Span}, Sps H vs ss → vs.length = ss.length
  | _, _, .nil => rfl
  | _, _, .cons _ t => congrArg (· + 1) t.len
theorem Sps.app {H : Hp} : ∀ {vs ws : List V} {ss ts : List Span}, Sps H vs ss → Sps H ws ts → Sps H (vs ++ ws) (ss ++ ts)
  | _, _, _, _, .nil, h => h
  | _, _, _, _, .cons a t, h => .cons a (Sps.app t h)
theorem Sps.one {H : Hp} {v : V} {s : Span} (h : Spn H v s) : Sps H [v] [s] := .cons h .nil
theorem Sps.get {H : Hp} : ∀ {vs : List V} {ss : List Span} {i : Nat} {v : V}, Sps H vs ss → vs[i]? = some v → ∃ s, ss[i]? = some s ∧ Spn H v s
  | _, _, _, _, .nil, e => by simp at e
  | _, _, 0, v, .cons (s := s) h t, e => ⟨s, rfl, by
      have q := Option.some.inj (show some _ = some v from e)
      rw [← q]
      exact h⟩
  | _, _, i + 1, v, .cons h t, e => Sps.get (i := i) t e
theorem Spn.dp {K : PySem.W.Frag} {H : Hp} {v : V} {s : Span} (h : Spn H v s) : Dp K H v (spD s) := by
  obtain ⟨t, rfl, ht⟩ := h
  exact .tup (SqT.of ht) (.cons (.int _) (.cons (.int _) .nil))
theorem Sps.dpAll {K : PySem.W.Frag} {H : Hp} : ∀ {vs : List V} {ss : List Span}, Sps H vs ss → DpAll K H vs (ss.map spD)
  | _, _, .nil => .nil
  | _, _, .cons h t => .cons h.dp t.dpAll
theorem Sps.dp {K : PySem.W.Frag} {H : Hp} {a : Addr} {vs : List V} {ss : List Span} (h : Sps H vs ss) (q : SqL K H a vs) : Dp K H (.ref a) (.list (ss.map spD)) := .lst q h.dpAll
theorem lay_spans : ∀ ss : List Span, PyData.canLayAll0 (ss.map spD) = true ∧ PyData.depthAll (ss.map spD) ≤ 1
  | [] => ⟨rfl, by decide⟩
  | s :: r => by
    obtain ⟨h1, h2⟩ := lay_spans r
    refine ⟨?_, ?_⟩
    · show (PyData.canLay0 (spD s) && PyData.canLayAll0 (r.map spD)) = true
      rw [h1]
      rfl
    · show max (PyData.depth (spD s)) (PyData.depthAll (r.map spD)) ≤ 1
      have e : PyData.depth (spD s) = 1 := rfl
      rw [e]
      omega
theorem shaped_spans (ss : List Span) : SeqAt.shaped (.list (ss.map spD)) = true := by
  obtain ⟨h1, h2⟩ := lay_spans ss
  show (PyData.canLayAll0 (ss.map spD) && decide (PyData.depthAll (ss.map spD) + 1 ≤ 64)) = true
  rw [h1, decide_eq_true (by omega)]
  rfl
theorem eqv_span (s t : Span) : PyData.eqv (spD s) (spD t) = decide (s = t) := by
  obtain ⟨a, b⟩ := s
  obtain ⟨c, d⟩ := t
  simp [PyData.eqv, PyData.eqvAll, spD, Bool.beq_eq_decide_eq]
/-! ### generator expressions: elements judged in the generator's own frame -/
section
open GenW
/-- the generator's frame, woken below two calls of built-ins -/
abbrev gcx (X : Cx) (s : Shared) (H : Hp) (cenv : Env) (fp : List Addr) : Cx := { X with A := X.A.in1.in1.deeper cenv, s_0 := s, H_0 := H, env := cenv, outer := X.stack, stack := cenv :: X.stack, ex := fp, fn := fun _ => false, pn := [], xe := fun _ _ => False }
/-- the names of a generator expression: its own (with their places in N), or captured ones -/
structure GBlk (N : List Str) (sc scope : Scope) (own : List (Str × Nat)) : Prop where
  kind : scope.kind = .function
  co : scope.isCoroutine = false
  nocell : ∀ y ∈ scope.names, y.2 ≠ .cell
  dot : scope.names.lookup (".0" : Str) = some NameKind.local
  uniq : ∀ y ∈ scope.names, scope.names.lookup y.1 = some y.2
  ix : ∀ p ∈ own, N[p.2]? = some p.1
  free : ∀ y ∈ scope.names, y.2 = .free → sc.names.lookup y.1 = some .cell ∨ sc.names.lookup y.1 = some .free
  own : ∀ y ∈ scope.names, y.2 = .local → y.1 ∈ own.map (·.1) ∨ y.1 ∉ N
def gblkC (N : List Str) (sc scope : Scope) (own : List (Str × Nat)) : Bool :=
  decide (scope.kind = .function) && !scope.isCoroutine && scope.names.all (fun y => decide (y.2 ≠ .cell)) && decide (scope.names.lookup (".0" : Str) = some NameKind.local) && scope.names.all (fun y => decide (scope.names.lookup y.1 = some y.2)) &&
    own.all (fun p => decide (N[p.2]? = some p.1)) && scope.names.all (fun y => decide (y.2 ≠ .free) || decide (sc.names.lookup y.1 = some .cell) || decide (sc.names.lookup y.1 = some .free)) && scope.names.all (fun y => decide (y.2 ≠ .local) || decide (y.1 ∈ own.map (·.1)) || decide (y.1 ∉ N))
theorem gblk_by {N : List Str} {sc scope : Scope} {own : List (Str × Nat)} (h : gblkC N sc scope own = true) : GBlk N sc scope own := by
  unfold gblkC at h
  simp only [Bool.and_eq_true, Bool.or_eq_true, decide_eq_true_eq, List.all_eq_true, Bool.not_eq_true'] at h
  obtain ⟨⟨⟨⟨⟨⟨⟨h1, h2⟩, h3⟩, h4⟩, h5⟩, h6⟩, h7⟩, h8⟩ := h
  refine ⟨h1, h2, h3, h4, h5, h6, fun y hy e => ?_, fun y hy e => ?_⟩
  · rcases h7 y hy with (z | z) | z
    · exact absurd e z
    · exact .inl z
    · exact .inr z
  · rcases h8 y hy with (z | z) | z
    · exact absurd e z
    · exact .inl z
    · exact .inr z
variable {X : Cx} {pins : List (Addr × Obj)} {σ : L2.St} {H : Hp} {s : Shared}
theorem inv_regen {X : Cx} {pins : List (Addr × Obj)} {σ : L2.St} {H : Hp} {s s' : Shared} (I : Inv X pins σ H s) (ho : s'.os = s.os) (hh : s'.heap = s.heap) (hb : AllBare s'.gens) : Inv X pins σ H s' := by
  obtain ⟨h', g', d', t', o'⟩ := s'
  cases ho
  cases hh
  exact ⟨I.ok, I.os, hb, I.base, I.loc, I.cell, I.free, I.freeC, I.pin, I.hok, I.len⟩
/-- the frame stands -/
theorem gblk_start {scope : Scope} {own : List (Str × Nat)} {fp : List Addr} {h' : Heap} {g' : Array GenState} {tk : Nat} {itv code : Value} (I : Inv X pins σ H s) (ok : GBlk X.N X.env.scope scope own) (hN : X.N.Nodup) (hfp : ∀ b ∈ fp, FpOk X pins H b ∧ b < s.heap.objs.size)
    (hn : h'.Ns s.heap.objs.size (fun y => if y = ".0" then some itv else none)) (kp : ∀ b o, s.heap.get? b = some o → h'.get? b = some o) (hb : AllBare g') :
    Inv (gcx X s H (genEnv scope (cloFrom X.env.cells scope.names []) s.heap.objs.size code builtinsNs X.env) fp) [] (wipe σ (own.map (·.2))) H { s with heap := h', gens := g', toks := tk } := by
  have hfree : ∀ y ∈ scope.names, y.2 = .free → ∃ c, X.env.cells.lookup y.1 = some c := fun y hy e =>
    (ok.free y hy e).elim (fun k => I.ok.has _ (.inl k)) fun k => I.ok.has _ (.inr k)
  generalize hce : genEnv scope (cloFrom X.env.cells scope.names []) s.heap.objs.size code builtinsNs X.env = ce
  have hL : ce.locals = s.heap.objs.size := by subst hce; rfl
  have hcl : ce.cells = cloFrom X.env.cells scope.names [] := by subst hce; rfl
  have hsc : ce.scope = scope := by subst hce; rfl
  have cm : ∀ {y c}, ce.cells.lookup y = some c → X.env.cells.lookup y = some c ∧ c < s.heap.objs.size := fun {y c} e => by
    rw [hcl] at e
    rcases cloFrom_mem (PySem.mem_of_lookup e) with hm | ⟨h1, rfl⟩
    · cases hm
    · obtain ⟨c, hc⟩ := hfree _ h1 rfl
      rw [hc]
      obtain ⟨w, z⟩ := I.cell _ _ hc
      exact ⟨rfl, z.lt⟩
  have look : ∀ {y}, scope.names.lookup y = some .free → ∃ c, ce.cells.lookup y = some c ∧ X.env.cells.lookup y = some c := fun {y} hl => by
    have hy : (y, NameKind.free) ∈ scope.names := PySem.mem_of_lookup hl
    obtain ⟨c', e'⟩ := mem_lookup (cloFrom_has (cells := X.env.cells) (acc := []) hy)
    rw [← hcl] at e'
    exact ⟨c', e', (cm e').1⟩
  have nocell : ∀ {y}, ce.kindOf y ≠ some .cell := fun {y} e => by
    have e : ce.scope.names.lookup y = some .cell := e
    rw [hsc] at e
    exact ok.nocell _ (PySem.mem_of_lookup e) rfl
  have okB : (gcx X s H ce fp).Ok := by
    refine ⟨I.ok.mod, by show ce.scope.kind = _; rw [hsc]; exact ok.kind, by show ce.globals = _; rw [← hce]; exact I.ok.glob, by show ce.builtins = _; rw [← hce]; rfl, by show s.heap.objs.size ≤ ce.locals; rw [hL]; exact Nat.le_refl _,
      fun y z c e1 e2 => ?_, fun y hy => ?_, fun y c z e => ?_, I.ok.hd, ?_, .inr ⟨rfl, ?_⟩, fun b hb => ⟨?_, fun y c e z => ?_⟩, I.bs, Nat.le_trans I.ok.bsz I.sz, fun b o e hb => ?_, fun b hb z => ?_, I.stack, I.stkFree⟩
    · exact I.ok.inj y z c (cm e1).1 (cm e2).1
    · rcases hy with hy | hy
      · exact absurd hy nocell
      · have hy : ce.scope.names.lookup y = some .free := hy
        rw [hsc] at hy
        obtain ⟨c, h1, _⟩ := look hy
        exact ⟨c, h1⟩
    · cases z
    · exact Around.frames_deeper (show X.A.in1.in1.frames = some X.stack from I.ok.frames)
    · show ce.frame = some ce.locals
      rw [← hce]
      rfl
    · show b ≠ ce.locals
      rw [hL]
      exact Nat.ne_of_lt (hfp b hb).2
    · exact (hfp b hb).1.2.2.2.2.1 y c (cm e).1 z
    · rcases (hfp b hb).1.2.2.2.1 with z | z
      · exact I.ok.noex b o e z
      · exact absurd (Nat.lt_of_lt_of_le (Heap.lt_size e) (Nat.le_trans I.ok.bsz z)) (Nat.lt_irrefl _)
    · rcases List.mem_cons.mp (I.stkSub b z) with z | z
      · exact (hfp b hb).1.2.1 z
      · exact (hfp b hb).1.2.2.1 z
  refine ⟨okB, rfl, hb, Un.kept kp, ⟨fun y => if y = ".0" then some itv else none, ?_, fun i y av e1 e2 e3 => ?_⟩, fun y c e => ?_, ?_, fun y c e => I.freeC y c (cm e).1, fun p hp => ?_, I.hok.kept kp, by rw [wipe_length]; exact I.len⟩
  · show Heap.Ns _ ce.locals _
    rw [hL]
    exact hn
  · obtain ⟨e2, hne⟩ := wipe_some e2
    have hfr : scope.names.lookup y = some .free := by
      have e3 : Vis ce.scope y := e3
      rw [hsc] at e3
      rcases e3 with e3 | e3 | e3
      · rcases ok.own _ (PySem.mem_of_lookup e3) rfl with e' | e'
        · obtain ⟨p, hp, hpy⟩ := List.mem_map.mp e'
          have e4 := ok.ix p hp
          have hpy : p.1 = y := hpy
          rw [hpy] at e4
          exact absurd (List.mem_map.mpr ⟨p, hp, nodup_ix hN e4 e1⟩) hne
        · exact absurd (List.mem_of_getElem? e1) e'
      · exact absurd rfl (ok.nocell _ (PySem.mem_of_lookup e3))
      · exact e3
    obtain ⟨m, hn', hl⟩ := I.loc
    have vis : Vis X.env.scope y := (ok.free _ (PySem.mem_of_lookup hfr) rfl).elim (fun k => .inr (.inl k)) (fun k => .inr (.inr k))
    obtain ⟨w, r, q⟩ := hl i y av e1 e2 vis
    obtain ⟨c, h1, h2⟩ := look hfr
    refine ⟨w, r, .inr ⟨.inr (by show ce.scope.names.lookup y = _; rw [hsc]; exact hfr), c, h1, ?_⟩⟩
    rcases q with ⟨k, _⟩ | ⟨_, c', e', z⟩
    · have k : X.env.scope.names.lookup y = some .local := k
      rcases ok.free _ (PySem.mem_of_lookup hfr) rfl with k' | k' <;> rw [show X.env.scope.names.lookup y = _ from k'] at k <;> cases k
    · rw [h2] at e'
      cases e'
      exact z.keeps kp
  · obtain ⟨w, z⟩ := I.cell y c (cm e).1
    exact ⟨w, z.keeps kp⟩
  · show H ce.locals = none
    rw [hL]
    exact I.hok.fresh (Nat.le_refl _)
  · exact absurd (show p ∈ ([] : List (Addr × Obj)) ++ [] from hp) (by simp)
/-! the consumer: a: what it has gathered, told by the state; os: its own objects -/
structure Cons (α : Type) where
  step : α → V → (α → Prop) → (V → Prop) → Prop
  fin : α → (V → Prop) → Prop
/-- while the generator sleeps, all but the consumer's own is kept -/
structure Slp (ol : List Addr) (s s' : Shared) : Prop where
  same : s'.os = s.os
  bare : AllBare s'.gens
  keep : ∀ b o, b ∉ ol → s.heap.get? b = some o → s'.heap.get? b = some o
  own : ∀ b ∈ ol, ∃ o, s'.heap.get? b = some o ∧ ∀ v, o.data ≠ .cell v
def OsOk (X : Cx) (os : List Addr) : Prop := ∀ b ∈ os, X.s_0.heap.objs.size ≤ b ∧ b ≠ X.env.locals ∧ (∀ x c, X.env.cells.lookup x = some c → c ≠ b) ∧ b ∉ X.ex
theorem inv_woken {os : List Addr} {ip : List (Addr × Obj)} {s s' s₀ : Shared} (I : Inv X (pinsAt os s₀.heap ++ ip) σ H s) (hpn : X.pn = []) (h₀ : ∀ b ∈ os, ∃ o, s₀.heap.get? b = some o) (hO : OsOk X os) (z : Slp os s s') : Inv X (pinsAt os s'.heap) σ H s' ∧ ∀ b ∈ os, H b = none ∧ b ∉ X.fs := by
  have hb0 : ∀ b ∈ os, H b = none ∧ b ∉ X.fs := fun b hb => by
    obtain ⟨o, e⟩ := h₀ b hb
    obtain ⟨_, h2, _, h4, _⟩ := I.pin (b, o) (List.mem_append_right _ (List.mem_append_left _ (mem_pinsAt hb e)))
    exact ⟨h2, h4⟩
  have I0 : Inv X [] σ H s := I.pins_of fun p hp => absurd hp (by simp)
  have I1 : Inv X [] σ H { s with heap := s'.heap, toks := s.toks } := I0.turnedL (ch := os) (fun b o hb e => z.keep b o hb e) fun b hb =>
    ⟨(hb0 b hb).1, (hO b hb).2.1, (hb0 b hb).2, .inr (hO b hb).1, (hO b hb).2.2.1, fun p hp => absurd (show p ∈ ([] : List (Addr × Obj)) from by rw [hpn] at hp; exact hp) (by simp)⟩
  have I2 : Inv X [] σ H s' := inv_regen I1 z.same rfl z.bare
  refine ⟨I2.pins_of fun p hp => ?_, hb0⟩
  obtain ⟨hb, e⟩ := of_pinsAt hp
  obtain ⟨o, e', hc⟩ := z.own p.1 hb
  rw [e] at e'
  cases e'
  exact ⟨e, (hb0 p.1 hb).1, (hO p.1 hb).2.1, (hb0 p.1 hb).2, hc⟩
section
variable {α : Type}
def GYx (Z : Cx) (os : List Addr) (c : Cons α) (Rel : α → Shared → Prop) (Q : VK) : Protocol := fun n s₀ v s kap =>
  ∃ (a : α) (y : V) (H : Hp) (ip : List (Addr × Obj)) (τ : L2.St) (Nx : α → Prop), Rel a s₀ ∧ RelV y v ∧ Inv Z (pinsAt os s₀.heap ++ ip) τ H s ∧ c.step a y Nx (fun u => Q u H) ∧ ∀ s' a', Nx a' → Rel a' s' → Slp os s s' → kap (.send .none) s'
def GEx (Z : Cx) (os : List Addr) (c : Cons α) (Rel : α → Shared → Prop) (Q : VK) : GenEnd := fun n s₀ r s =>
  ((r = .ok (.ret .none) ∨ r = .ok .next) ∧ ∃ (a : α) (H : Hp) (τ : L2.St), Rel a s₀ ∧ Inv Z (pinsAt os s₀.heap) τ H s ∧ c.fin a (fun u => Q u H)) ∨ ∃ e, r = .error e ∧ False
/-- the loop: what is asked -/
def Runs1 (J : It) (g : TG) (tt : TT) (te : TE) (vs : List Nat) (σ : L2.St) (c : Cons α) (Q : VK) (W : Nat → Nat → α → Hp → Prop) : Prop :=
  ∀ i m a H, W i m a H → (J.stop i H ∧ c.fin a (fun u => Q u H)) ∨ (J.go i H ∧ ∃ Nx : α → Hp → Prop, (∀ a' H', Nx a' H' → ∃ m', m' < m ∧ W (i + 1) m' a' H') ∧ ∀ x H', J.yld i H x H' → g x (wipe σ vs) H' fun σ2 H2 => wipe σ2 vs = wipe σ vs ∧ tt σ2 H2 fun b H3 =>
    if b = true then te σ2 H3 fun y H4 => c.step a y (fun a' => Nx a' H4) (fun u => Q u H4) else Nx a H3)
theorem gx_over {A : Around} {elt tg iter : Expr} {ifs : List Expr} {scope : Scope} {pos : Pos} {it acc : Value} {ce : Env} : A.over (.compLoop (.GeneratorExp elt [⟨tg, iter, ifs, 0⟩] scope pos) 0 it acc ce) [] = A.deeper ce := by
  first
    | rfl
    | (obtain ⟨hd, d, fr, gs, u⟩ := A; simp [Around.over, Around.deeper, marksOver, frameCount, unitsOf, envsOf, guardsOf, pushEnvs, pushGuards, Code.envs, Code.env?, Code.isFrame, Code.guards, Code.isGuard, Code.weight, Code.frames, Code.isCreation, Code.isCaller, Code.cUnits])
/-- what stands at a turn -/
structure At (Z : Cx) (os fp : List Addr) (tn : Nat → Heap → Prop) (σ : L2.St) (vs : List Nat) (i : Nat) (H : Hp) (s₀ s : Shared) : Prop where
  inv : Inv Z (pinsAt os s₀.heap) (wipe σ vs) H s
  tn : tn i s.heap
  fpn : ∀ b ∈ fp, H b = none
  ex : ∀ b ∈ os, ∃ o, s₀.heap.get? b = some o
theorem gx_loop {Z : Cx} {os fp : List Addr} {c : Cons α} {Rel : α → Shared → Prop} {Q : VK} {elt tg iter : Expr} {ifs : List Expr} {scope : Scope} {pos : Pos} {it : Addr} {tn : Nat → Heap → Prop} {J : It} {g : TG} {tt : TT} {te : TE} {vs : List Nat} {W : Nat → Nat → α → Hp → Prop} {A : Around}
    (hA : A.deeper Z.env = Z.A) (hpn : Z.pn = []) (hex : Z.ex = fp) (hc : Z.calm = true) (hxe : Z.xe = fun _ _ => False) (hco : Z.env.scope.isCoroutine = false) (hO : OsOk Z os) (T : Turn Z.prog Z.w Z.K tg J fp it tn) (pg : PG Z tg g) (pt : PTs Z ifs tt) (pe : PE Z elt te) (run : Runs1 J g tt te vs σ c Q W) :
    ∀ (m n i : Nat) (a : α) (H : Hp) (s₀ s : Shared), m < n → W i m a H → Rel a s₀ → At Z os fp tn σ vs i H s₀ s →
      Seg (model Z.prog Z.w) A (GEx Z os c Rel Q) (GYx Z os c Rel Q) n s₀ (.compLoop (.GeneratorExp elt [⟨tg, iter, ifs, 0⟩] scope pos) 0 (.ref it) .none Z.env) ((model Z.prog Z.w).den (.compLoop (.GeneratorExp elt [⟨tg, iter, ifs, 0⟩] scope pos) 0 (.ref it) .none Z.env)) [] s := by
  intro m
  induction m using Nat.strongRecOn with
  | ind m ih =>
    intro n i a H s₀ s hmn w hrel at_
    obtain ⟨I, st, nfp, h0⟩ := at_
    have stat : ∀ {pins : List (Addr × Obj)} {σ' : L2.St} {H' : Hp} {s' : Shared}, Inv Z pins σ' H' s' → (∀ p ∈ pins, p.1 ∈ os) → (∀ b ∈ fp, H' b = none) → ∀ b ∈ fp, FpOk Z pins H' b := fun {pins σ' H' s'} I' hp hn b hb => by
      have hb' : b ∈ Z.ex := by rw [hex]; exact hb
      refine ⟨hn b hb, (I'.ok.exf b hb').1, I'.ok.exfs b hb', .inl hb', fun x c e => (I'.ok.exf b hb').2 x c e, fun p hq => ?_⟩
      rw [hpn] at hq
      have := hO p.1 (hp p hq)
      intro z
      rw [z] at this
      exact this.2.2.2 hb'
    have pos_ : ∀ p ∈ pinsAt os s₀.heap, p.1 ∈ os := fun p hp => (of_pinsAt hp).1
    have noE : ∀ {β : Type} {t : Sem β} {Qx : β → Shared → Prop} {E' : Value → Shared → Prop} {s : Shared}, wpAny (model Z.prog Z.w) Z.A t Qx Z.xe s → wpAny (model Z.prog Z.w) Z.A t Qx E' s := fun h => wpAny_mono h (fun _ _ z => z) fun _ _ z => by rw [hxe] at z; exact z.elim
    show Seg _ A _ _ _ s₀ _ ((compTurn (.GeneratorExp elt [⟨tg, iter, ifs, 0⟩] scope pos) 0 (.ref it) .none Z.env).onRaise (leaving Z.env)) [] s
    rw [compTurn_gen, Sem.onRaise_eq_wrap]
    refine seg_bind_wrap ?_
    rw [gx_over, hA]
    refine wpAny_standAt (seg_bind_wrap ?_)
    rw [gx_over, hA]
    rcases run i m a H w with ⟨stop, qq⟩ | ⟨go, Nx, hNx, step⟩
    · refine wpAny_mono (T.done Z rfl rfl rfl hc i _ s _ H (fun _ _ => False) I (stat I pos_ nfp) st stop) (fun r s1 ⟨hr, I1⟩ => ?_) fun _ _ z => z.elim
      subst hr
      exact seg_end (.ok .next) (.inl ⟨.inr rfl, a, H, _, hrel, I1, qq⟩)
    · refine wpAny_mono (T.item Z rfl rfl rfl hc i _ s _ H (fun _ _ => False) I (stat I pos_ nfp) st go) (fun r s1 ⟨u, hr, h1⟩ => ?_) fun _ _ z => z.elim
      subst hr
      refine seg_bind_wrap ?_
      rw [gx_over, hA]
      refine wpAny_mono h1 (fun _ s7 ⟨x, H7, I7, r7, y7, st7, n7⟩ => ?_) fun _ _ z => z.elim
      have I7' := I7.pinned (stat I7 pos_ n7) (T.obj _ _ st7)
      refine seg_bind_wrap ?_
      rw [gx_over, hA]
      refine noE (wpAny_mono (pg.run _ s7 _ H7 x u _ I7' r7 (step x H7 y7)) (fun _ s8 ⟨σ8, H8, I8, hw8, q8⟩ => ?_) fun _ _ z => z)
      refine seg_bind_wrap ?_
      rw [gx_over, hA]
      refine noE (wpAny_mono (pt.run _ s8 σ8 H8 _ I8 q8) (fun b s9 ⟨H9, I9, q9⟩ => ?_) fun _ _ z => z)
      have hl : (wipe σ vs).length = σ8.length := by rw [← hw8, wipe_length]
      have wk : ∀ (j : Nat) v, (wipe σ vs)[j]? = some (some v) → σ8[j]? = some (some v) := fun j v e => by
        rw [← hw8] at e
        exact (wipe_some e).1
      have pin' : ∀ {s' : Shared} {H' : Hp}, Inv Z (pinsAt os s₀.heap ++ pinsAt fp s7.heap) σ8 H' s' → ∀ b ∈ fp, ∀ o, s7.heap.get? b = some o → s'.heap.get? b = some o ∧ H' b = none := fun {s' H'} I' b hb o e =>
        let z := I'.pin (b, o) (List.mem_append_right _ (List.mem_append_right _ (mem_pinsAt hb e)))
        ⟨z.1, z.2.1⟩
      have fpn : ∀ {s' : Shared} {H' : Hp}, Inv Z (pinsAt os s₀.heap ++ pinsAt fp s7.heap) σ8 H' s' → ∀ b ∈ fp, H' b = none := fun {s' H'} I' b hb => by
        obtain ⟨o, e, _⟩ := T.obj _ _ st7 b hb
        exact (pin' I' b hb o e).2
      cases b with
      | false =>
        simp only [Bool.false_eq_true, if_false] at q9 ⊢
        obtain ⟨m', hm, w'⟩ := hNx a H9 q9
        exact seg_again rfl (ih m' hm n (i + 1) a H9 s₀ s9 (by omega) w' hrel ⟨I9.unpinned.weak hl wk, T.keep _ _ _ st7 fun b hb o e => (pin' I9 b hb o e).1, fpn I9, h0⟩)
      | true =>
        simp only [if_true] at q9 ⊢
        have hy : ∀ v, yieldOut Z.env v = yieldValue v := fun v => by simp only [yieldOut, hco, Bool.false_eq_true, if_false]
        simp only [hy]
        rw [Sem.bind_eq_wrap', Sem.bind_eq_wrap', Sem.wrap_wrap, Sem.wrap_wrap]
        refine seg_wrap ?_
        rw [gx_over, hA]
        refine noE (wpAny_mono (pe.run _ s9 σ8 H9 _ I9 q9) (fun z s10 ⟨yv, H10, I10, r10, stp⟩ => ?_) fun _ _ z => z)
        cases n with
        | zero =>
          exact absurd hmn (Nat.not_lt_zero _)
        | succ n =>
          refine seg_at (seg_yield rfl rfl rfl ⟨a, yv, H10, pinsAt fp s7.heap, σ8, fun a' => Nx a' H10, hrel, r10, I10, stp, fun s' a' nx rel' slp => ?_⟩)
          obtain ⟨m', hm, w'⟩ := hNx a' H10 nx
          obtain ⟨I11, _⟩ := inv_woken I10 hpn h0 hO slp
          refine seg_again rfl (ih m' hm n (i + 1) a' H10 s' s' (by omega) w' rel' ⟨I11.weak hl wk, T.keep _ _ _ st7 fun b hb o e => slp.keep b o (fun hbo => ?_) (pin' I10 b hb o e).1, fpn I10, fun b hb => ?_⟩)
          · exact (hO b hbo).2.2.2 (by rw [hex]; exact hb)
          · obtain ⟨o, e, _⟩ := slp.own b hb
            exact ⟨o, e⟩
end
end
section
open GenW
variable {X : Cx} {pins : List (Addr × Obj)} {σ : L2.St} {H : Hp} {s : Shared} {α : Type}
theorem gx_start {Z : Cx} {os fp : List Addr} {c : Cons α} {Rel : α → Shared → Prop} {Q : VK} {elt tg iter : Expr} {ifs : List Expr} {scope : Scope} {pos : Pos} {it : Addr} {tn : Nat → Heap → Prop} {J : It} {g : TG} {tt : TT} {te : TE} {vs : List Nat} {W : Nat → Nat → α → Hp → Prop} {A : Around}
    (hA : A.deeper Z.env = Z.A) (hpn : Z.pn = []) (hex : Z.ex = fp) (hc : Z.calm = true) (hxe : Z.xe = fun _ _ => False) (hco : Z.env.scope.isCoroutine = false) (hO : OsOk Z os) (T : Turn Z.prog Z.w Z.K tg J fp it tn) (pg : PG Z tg g) (pt : PTs Z ifs tt) (pe : PE Z elt te) (run : Runs1 J g tt te vs σ c Q W)
    {m n : Nat} {a : α} {H : Hp} {s₀ s : Shared} (hmn : m < n) (w : W 0 m a H) (hrel : Rel a s₀) (at_ : At Z os fp tn σ vs 0 H s₀ s) :
      Seg (model Z.prog Z.w) A (GEx Z os c Rel Q) (GYx Z os c Rel Q) n s₀ (.compStart (.GeneratorExp elt [⟨tg, iter, ifs, 0⟩] scope pos) 0 (.ref it) .none Z.env) ((model Z.prog Z.w).den (.compStart (.GeneratorExp elt [⟨tg, iter, ifs, 0⟩] scope pos) 0 (.ref it) .none Z.env)) [] s := by
  have loop := gx_loop (iter := iter) (scope := scope) (pos := pos) hA hpn hex hc hxe hco hO T pg pt pe run m n 0 a H s₀ s hmn w hrel at_
  show Seg _ A _ _ _ s₀ _ ((compStart (.GeneratorExp elt [⟨tg, iter, ifs, 0⟩] scope pos) 0 (.ref it) .none Z.env).onRaise (leaving Z.env)) [] s
  unfold compStart
  rw [Sem.onRaise_eq_wrap]
  show Seg _ A _ _ _ s₀ _ ((ask >>= _).wrap _ _ _ _) [] s
  refine seg_bind_wrap (wpAny_askSetting ?_)
  split
  · exact seg_again rfl loop
  · refine seg_bind_wrap (wpAny_rule ?_)
    show Seg _ A _ _ _ s₀ _ ((standAt iter.pos >>= _).wrap _ _ _ _) [] s
    exact seg_bind_wrap (wpAny_standAt (seg_bind_wrap (T.self _ 0 s _ _ at_.tn (seg_again rfl loop))))
/-! the consumers -/
def cAll : Cons Unit := ⟨fun _ y k f => ∃ b, y = .bl b ∧ (if b = true then k () else f (.bl false)), fun _ f => f (.bl true)⟩
def cAny : Cons Unit := ⟨fun _ y k f => ∃ b, y = .bl b ∧ (if b = true then f (.bl true) else k ()), fun _ f => f (.bl false)⟩
theorem gen_own {Z : Cx} {os : List Addr} {ip : List (Addr × Obj)} {τ : L2.St} {H : Hp} {s₀ s : Shared} {ga : Addr} {g : Nat} (hm : ga ∈ os) (hg : s₀.heap.IsGen ga g) (I : Inv Z (pinsAt os s₀.heap ++ ip) τ H s) : s.heap.IsGen ga g ∧ ∃ o, s.heap.get? ga = some o ∧ ∀ v, o.data ≠ .cell v := by
  obtain ⟨o, nm, qn, ho, h1, h2, h3⟩ := hg
  obtain ⟨e, _, _, _, hc⟩ := I.pin (ga, o) (List.mem_append_right _ (List.mem_append_left _ (mem_pinsAt hm ho)))
  exact ⟨⟨o, nm, qn, e, h1, h2, h3⟩, o, e, hc⟩
section
variable {Z : Cx} {ga : Addr} {g : Nat} {Q : VK} {A : Around} {Rf : Result → Shared → Prop}
theorem bool_drain {c : Cons Unit} {id : String} (bk bd : Bool)
    (hstep : ∀ y k f, c.step () y k f → ∃ b, y = .bl b ∧ (b = bk → k ()) ∧ (b = (!bk) → f (.bl bd))) (hfin : ∀ f, c.fin () f → f (.bl (!bd)))
    (hh : A.handled = none) (hd : A.depth < recursionLimit) (hR : ∀ b H τ s', Inv Z [] τ H s' → Q (.bl b) H → Rf (.ok (.ret (.bool b))) s')
    (body : ∀ (s : Shared), wpAny (model Z.prog Z.w) A.in1 (pyNext (.ref ga)) (fun r s' => match r with
        | none => Rf (.ok (.ret (.bool (!bd)))) s'
        | some v => ∃ b, v = .bool b ∧ (b = bk → codeAny (model Z.prog Z.w) A (.builtin id ⟨[.ref ga], []⟩) Rf s') ∧ (b = (!bk) → Rf (.ok (.ret (.bool bd))) s')) (fun _ _ => False) s → codeAny (model Z.prog Z.w) A (.builtin id ⟨[.ref ga], []⟩) Rf s) :
    ∀ (n : Nat) (s : Shared), s.heap.IsGen ga g → s.heap.NoLimit → (∃ gs, s.gens[g]? = some gs ∧ gs.Goes (model Z.prog Z.w) A.in1.in1 (GEx Z [ga] c (fun _ _ => True) Q) (GYx Z [ga] c (fun _ _ => True) Q) n (.send .none) (s.setGen g .running)) →
      codeAny (model Z.prog Z.w) A (.builtin id ⟨[.ref ga], []⟩) Rf s := by
  intro n
  induction n with
  | zero =>
    rintro s hg hl ⟨gs, hgs, hgo⟩
    refine body s (next_genG (A := A.in1) (F := fun n s₀ s => ∃ (a : Unit) (H : Hp) (τ : L2.St), True ∧ Inv Z (pinsAt [ga] s₀.heap) τ H s ∧ c.fin a (fun u => Q u H)) (Er := fun _ _ => False) hh hl hd hg hgs hgo (fun v s₁ gs' bare hv => ?_) (fun s₁ hp h' hk => ?_) fun e s₁ he => he.elim)
    · obtain ⟨_, y, H, ip, τ, Nx, _, rv, I, st, kap⟩ := hv
      obtain ⟨b, rfl, h1, h2⟩ := hstep y _ _ st
      have ev : v = .bool b := rv
      refine ⟨b, ev, fun e => ?_, fun e => hR bd H τ _ (inv_regen (s := s₁) (I.pins_of fun p hp => absurd hp (by simp)) rfl rfl (allBare_setGen I.bare bare)) (h2 e)⟩
      exfalso
      obtain ⟨_, o, ho, hc⟩ := gen_own (os := [ga]) (s₀ := s.setGen g .running) List.mem_cons_self hg I
      refine kap s₁ () (h1 e) True.intro ⟨rfl, I.bare, fun b o _ e => e, fun b hb => ?_⟩
      rw [List.mem_singleton.mp hb]
      exact ⟨o, ho, hc⟩
    · obtain ⟨_, H, τ, _, I, hf⟩ := hp
      refine hR (!bd) H τ _ (inv_regen (s := { s₁ with heap := h', toks := s₁.toks }) (L2.Inv.kept (I.pins_of fun p hp => absurd hp (by simp)) hk) rfl rfl (allBare_setGen I.bare rfl)) (hfin _ hf)
  | succ n ih =>
    rintro s hg hl ⟨gs, hgs, hgo⟩
    have hgl : g < s.gens.size := (Array.getElem?_eq_some_iff.mp hgs).1
    refine body s (wpAny_gsz (n := g + 1) hgl (next_genG (A := A.in1) (F := fun n s₀ s => ∃ (a : Unit) (H : Hp) (τ : L2.St), True ∧ Inv Z (pinsAt [ga] s₀.heap) τ H s ∧ c.fin a (fun u => Q u H)) (Er := fun _ _ => False) hh hl hd hg hgs hgo (fun v s₁ gs' bare hv => ?_) (fun s₁ hp h' hk => ?_) fun e s₁ he => he.elim))
    · intro hsz
      obtain ⟨_, y, H, ip, τ, Nx, _, rv, I, st, kap⟩ := hv
      obtain ⟨b, rfl, h1, h2⟩ := hstep y _ _ st
      have ev : v = .bool b := rv
      refine ⟨b, ev, fun e => ?_, fun e => hR bd H τ _ (inv_regen (s := s₁) (I.pins_of fun p hp => absurd hp (by simp)) rfl rfl (allBare_setGen I.bare bare)) (h2 e)⟩
      obtain ⟨hg1, o, ho, hc⟩ := gen_own (os := [ga]) (s₀ := s.setGen g .running) List.mem_cons_self hg I
      have hsz1 : g < s₁.gens.size := by
        have q : (s₁.setGen g gs').gens.size = s₁.gens.size := setGen_size _ _ _
        have hsz' : g + 1 ≤ (s₁.setGen g gs').gens.size := hsz
        omega
      refine ih (s₁.setGen g gs') hg1 I.nolimit ⟨gs', setGen_at hsz1, ?_⟩
      refine kap _ () (h1 e) True.intro ⟨rfl, allBare_setGen (s := s₁.setGen g gs') (allBare_setGen I.bare bare) rfl, fun b o _ e => e, fun b hb => ?_⟩
      rw [List.mem_singleton.mp hb]
      exact ⟨o, ho, hc⟩
    · intro _
      obtain ⟨_, H, τ, _, I, hf⟩ := hp
      refine hR (!bd) H τ _ (inv_regen (s := { s₁ with heap := h', toks := s₁.toks }) (L2.Inv.kept (I.pins_of fun p hp => absurd hp (by simp)) hk) rfl rfl (allBare_setGen I.bare rfl)) (hfin _ hf)
theorem all_body (s : Shared) (h : wpAny (model Z.prog Z.w) A.in1 (pyNext (.ref ga)) (fun r s' => match r with
        | none => Rf (.ok (.ret (.bool true))) s'
        | some v => ∃ b, v = .bool b ∧ (b = true → codeAny (model Z.prog Z.w) A (.builtin "all.loop" ⟨[.ref ga], []⟩) Rf s') ∧ (b = false → Rf (.ok (.ret (.bool false))) s')) (fun _ _ => False) s) : codeAny (model Z.prog Z.w) A (.builtin "all.loop" ⟨[.ref ga], []⟩) Rf s := by
  refine codeAny_builtin F.entry_all_loop ?_
  rw [Around.under_plainId F.plain_all_loop _]
  show wpAny _ A.in1 (pyNext (.ref ga) >>= _) _ _ s
  refine wpAny_bind (wpAny_mono h (fun r s' hr => ?_) fun _ _ z => z.elim)
  cases r with
  | none => exact wpAny_bind (wpAny_rule (wpAny_pure hr))
  | some v =>
    obtain ⟨b, rfl, h1, h2⟩ := hr
    refine wpAny_bind (wpAny_holding (wpAny_truthy_bool ?_))
    refine wpAny_bind (wpAny_letGo ?_)
    cases b with
    | true => exact wpAny_pure ⟨plainId_quiet F.plain_all_loop _, h1 rfl⟩
    | false => exact wpAny_bind (wpAny_rule (wpAny_pure (h2 rfl)))
theorem any_body (s : Shared) (h : wpAny (model Z.prog Z.w) A.in1 (pyNext (.ref ga)) (fun r s' => match r with
        | none => Rf (.ok (.ret (.bool false))) s'
        | some v => ∃ b, v = .bool b ∧ (b = false → codeAny (model Z.prog Z.w) A (.builtin "any.loop" ⟨[.ref ga], []⟩) Rf s') ∧ (b = true → Rf (.ok (.ret (.bool true))) s')) (fun _ _ => False) s) : codeAny (model Z.prog Z.w) A (.builtin "any.loop" ⟨[.ref ga], []⟩) Rf s := by
  refine codeAny_builtin F.entry_any_loop ?_
  rw [Around.under_plainId F.plain_any_loop _]
  show wpAny _ A.in1 (pyNext (.ref ga) >>= _) _ _ s
  refine wpAny_bind (wpAny_mono h (fun r s' hr => ?_) fun _ _ z => z.elim)
  cases r with
  | none => exact wpAny_bind (wpAny_rule (wpAny_pure hr))
  | some v =>
    obtain ⟨b, rfl, h1, h2⟩ := hr
    refine wpAny_bind (wpAny_holding (wpAny_truthy_bool ?_))
    refine wpAny_bind (wpAny_letGo ?_)
    cases b with
    | true => exact wpAny_bind (wpAny_rule (wpAny_pure (h2 rfl)))
    | false => exact wpAny_pure ⟨plainId_quiet F.plain_any_loop _, h1 rfl⟩
end
end
section
open GenW
variable {X : Cx} {pins : List (Addr × Obj)} {σ : L2.St} {H : Hp} {s : Shared} {α : Type}
/-- a generator expression is walked: what is asked -/
def tGx (P : Addr) (c : Cons α) (a0 : α) (wi : TI) (g : TG) (tt : TT) (te : TE) (vs : List Nat) : TE := fun σ H Q => wi σ H fun J H1 => GxR.TabG H1 P ∧ ∀ H2, GxR.Tabbed P H1 H2 → ∃ W : Nat → Nat → α → Hp → Prop, (∃ m, W 0 m a0 H2) ∧ Runs1 J g tt te vs σ c Q W
/-- the generator at ga stands ready -/
def GxReady (X : Cx) (pins : List (Addr × Obj)) (σ : L2.St) (c : Cons α) (a0 : α) (Q : VK) (ga : Addr) (s5 : Shared) : Prop :=
  ∃ (Z : Cx) (g n : Nat) (c0 : Code), s5.heap.IsGen ga g ∧ s5.gens[g]? = some (.fresh c0) ∧ s5.heap.NoLimit ∧ AllBare s5.gens ∧ Z.prog = X.prog ∧ Z.w = X.w ∧ Z.pn = [] ∧ (∀ τ H s', Inv Z [] τ H s' → Inv X pins σ H s') ∧ OsOk Z [ga] ∧ (∀ S, s5.heap.objs.size ≤ S → OsOk Z [ga, S] ∧ S ≠ ga) ∧
    ∀ (os : List Addr) (Rel : α → Shared → Prop) (s2 : Shared), OsOk Z os → (∀ b ∈ os, b = ga ∨ s5.heap.objs.size ≤ b) → (∀ b o, s5.heap.get? b = some o → s2.heap.get? b = some o) → s2.os = s5.os → AllBare s2.gens → (∀ b ∈ os, ∃ o, s2.heap.get? b = some o ∧ ∀ v, o.data ≠ .cell v) → Rel a0 s2 →
      Seg (model Z.prog Z.w) X.A.in1.in1 (GEx Z os c Rel Q) (GYx Z os c Rel Q) n s2 c0 ((model Z.prog Z.w).den c0) [] s2
theorem gx_make {c P : Addr} {elt tg iter : Expr} {ifs : List Expr} {scope : Scope} {own : List (Str × Nat)} {gpos : Pos} {k : Nat} {wi : TI} {g : TG} {tt : TT} {te : TE} {cs : Cons α} {a0 : α} {Q : VK} {Q' : Value → Shared → Prop}
    (hr : Room k X.A) (hcalm : X.calm = true) (hN : X.N.Nodup) (TB : GxR.TabB X.base X.mg c P) (hcode : X.env.code = .ref c) (ok : GBlk X.N X.env.scope scope own) (hi : PI X tg iter wi) (hs : ∀ v, genFold iter X.env v = pure v)
    (hg : ∀ (s : Shared) (H : Hp) (C : Addr) (code : Value) (fp : List Addr), PG (gcx X s H (genEnv scope (cloFrom X.env.cells scope.names []) C code builtinsNs X.env) fp) tg g)
    (ht : ∀ (s : Shared) (H : Hp) (C : Addr) (code : Value) (fp : List Addr), PTs (gcx X s H (genEnv scope (cloFrom X.env.cells scope.names []) C code builtinsNs X.env) fp) ifs tt)
    (he : ∀ (s : Shared) (H : Hp) (C : Addr) (code : Value) (fp : List Addr), PE (gcx X s H (genEnv scope (cloFrom X.env.cells scope.names []) C code builtinsNs X.env) fp) elt te)
    (I : Inv X pins σ H s) (h : tGx P cs a0 wi g tt te (own.map (·.2)) σ H Q) (fin : ∀ ga s5, GxReady X pins σ cs a0 Q ga s5 → Q' (.ref ga) s5) :
    wpAny (model X.prog X.w) X.A (eval (.GeneratorExp elt [⟨tg, iter, ifs, 0⟩] scope gpos) X.env) Q' X.xe s := by
  have hfree : ∀ y ∈ scope.names, y.2 = .free → ∃ c, X.env.cells.lookup y.1 = some c := fun y hy e =>
    (ok.free y hy e).elim (fun k => I.ok.has _ (.inl k)) fun k => I.ok.has _ (.inr k)
  refine wpAny_GeneratorExp_make ok.co (closure_ok hfree) ok.nocell ok.dot ok.kind hr.depth ?_ hs
  refine thn (hi.run pins s σ H _ I h) fun xv t1 hx => thn hx fun itv t2 h2 => ?_
  obtain ⟨it, fp, tn, J, H1, rfl, I1, T, st1, f1, tab, q⟩ := h2
  obtain ⟨ps, hP, tr⟩ := id tab
  have gP : t2.heap.get? P = some { cls := .none, data := .fields ps } := I1.hok P _ hP
  have cd : PySem.W.CodeHd t2.heap c P := TB.code.keeps fun b u e => I1.bk b u e
  refine ⟨I1.nolimit, ?_⟩
  have fpP : ∀ b ∈ fp, b ≠ P := fun b hb z => by
    have := (f1 b hb).1
    rw [z, hP] at this
    cases this
  have rest : ∀ (code : Value) (h3 : Heap) (tk : Nat) (qs : Array Value), Heap.ExtBut P t2.heap h3 → t2.heap.objs.size ≤ h3.objs.size → h3.get? P = some { cls := .none, data := .fields qs } → (∃ more, qs = ps ++ more) → TriplesOk qs.toList →
      wpAny (model X.prog X.w) X.A (builtinsFor X.env.globals X.env.builtins) (fun bi s₄ => ∀ h', h'.Ns s₄.heap.objs.size (fun y => if y = ".0" then some (.ref it) else none) → Heap.SameBut s₄.heap.objs.size (s₄.heap.push { cls := .type "frame", data := .dict #[] }) h' →
          Q' (.ref h'.objs.size) { s₄ with gens := s₄.gens.push (.fresh (.compStart (.GeneratorExp elt [⟨tg, iter, ifs, 0⟩] scope gpos) 0 (.ref it) .none (genEnv scope (cloFrom X.env.cells scope.names []) s₄.heap.objs.size code bi X.env))), toks := s₄.toks + 1 + 1 + 1, heap := h'.push { cls := .type "generator", data := .fields #[.int s₄.gens.size 0, .str "<genexpr>" (s₄.toks + 1), .str (X.env.qual ++ "<genexpr>") (s₄.toks + 1 + 1)] } }) X.xe { t2 with heap := h3, toks := tk } := by
    intro code h3 tk qs hx hsz gP3 ⟨more, em⟩ tr3
    obtain ⟨bm, ob, b1, b2, b3, b4, b5, b6, b7, b8⟩ := TB.bm
    have kp3 : ∀ b u, b ≠ P → t2.heap.get? b = some u → h3.get? b = some u := fun b u hb e => hx b u hb e
    refine wpAny_builtinsFor (m := X.mg) (by rw [I1.ok.glob]; exact (I1.mod.glob.keeps I1.bk).extBut hx TB.gP) b1 b2 (kp3 _ _ b4 (I1.bk _ _ b5)) b6 b7 b8 ?_
    subst em
    have I3 : Inv X pins σ (upd H1 P (.tbl (ps ++ more))) { t2 with heap := h3, gens := t2.gens, drawn := t2.drawn, toks := tk } := GxR.inv_tab I1 hP kp3 gP3 I1.bare
    obtain ⟨W, ⟨m0, w0⟩, run⟩ := q (upd H1 P (.tbl (ps ++ more))) ⟨⟨_, upd_same, tr3⟩, fun b hb => upd_ne hb⟩
    have lt1 : ∀ b ∈ fp, b < t2.heap.objs.size := fun b hb => by
      obtain ⟨o, e, _⟩ := T.obj _ _ st1 b hb
      exact Heap.lt_size e
    have st3 : tn 0 h3 := T.keep _ _ _ st1 fun b hb o e => kp3 b o (fpP b hb) e
    have f3 : ∀ b ∈ fp, FpOk X pins (upd H1 P (.tbl (ps ++ more))) b ∧ b < h3.objs.size := fun b hb => by
      refine ⟨⟨?_, (f1 b hb).2⟩, Nat.lt_of_lt_of_le (lt1 b hb) hsz⟩
      rw [upd_ne (fpP b hb)]
      exact (f1 b hb).1
    intro h' hn' sb'
    have sz' : h'.objs.size = h3.objs.size + 1 := by
      rw [sb'.1, Heap.size_push]
    have kp' : ∀ b o, h3.get? b = some o → h'.get? b = some o := fun b o e => sb'.extBut b o (Nat.ne_of_lt (Heap.lt_size e)) (Heap.get?_push_of_some _ e)
    generalize hgo : ({ cls := .type "generator", data := .fields #[.int t2.gens.size 0, .str "<genexpr>" (tk + 1), .str (X.env.qual ++ "<genexpr>") (tk + 1 + 1)] } : Obj) = go
    have kp5 : ∀ b o, h3.get? b = some o → (h'.push go).get? b = some o := fun b o e => Heap.get?_push_of_some _ (kp' b o e)
    generalize hH3 : upd H1 P (.tbl (ps ++ more)) = H3 at I3 w0 f3
    have at5 : (h'.push go).get? h'.objs.size = some go := by
      rw [← hgo]
      exact Heap.get?_push_size _ rfl
    have bare5 : AllBare (t2.gens.push (.fresh (.compStart (.GeneratorExp elt [⟨tg, iter, ifs, 0⟩] scope gpos) 0 (.ref it) .none (genEnv scope (cloFrom X.env.cells scope.names []) h3.objs.size code builtinsNs X.env)))) := AllBare.push I1.bare rfl
    have pg := hg { t2 with heap := h3, gens := t2.gens, drawn := t2.drawn, toks := tk } H3 h3.objs.size code fp
    have pt := ht { t2 with heap := h3, gens := t2.gens, drawn := t2.drawn, toks := tk } H3 h3.objs.size code fp
    have pe := he { t2 with heap := h3, gens := t2.gens, drawn := t2.drawn, toks := tk } H3 h3.objs.size code fp
    have start : ∀ (h2 : Heap) (g2 : Array GenState) (tk2 : Nat), h2.Ns h3.objs.size (fun y => if y = ".0" then some (.ref it) else none) → (∀ b o, h3.get? b = some o → h2.get? b = some o) → AllBare g2 → _ := fun h2 g2 tk2 a1 a2 a3 =>
      gblk_start (s := { t2 with heap := h3, gens := t2.gens, drawn := t2.drawn, toks := tk }) (code := code) (h' := h2) (g' := g2) (tk := tk2) I3 ok hN f3 a1 a2 a3
    have hco' : (genEnv scope (cloFrom X.env.cells scope.names []) h3.objs.size code builtinsNs X.env).scope.isCoroutine = false := ok.co
    have hL : (genEnv scope (cloFrom X.env.cells scope.names []) h3.objs.size code builtinsNs X.env).locals = h3.objs.size := rfl
    have oso : ∀ b, h3.objs.size < b → h3.objs.size ≤ b ∧ b ≠ h3.objs.size ∧ (∀ x c, (cloFrom X.env.cells scope.names []).lookup x = some c → c ≠ b) ∧ b ∉ fp := fun b hb => by
      refine ⟨Nat.le_of_lt hb, Nat.ne_of_gt hb, fun x c e z => ?_, fun hm => ?_⟩
      · rcases cloFrom_mem (PySem.mem_of_lookup e) with hm | ⟨h1, h2⟩
        · cases hm
        · obtain ⟨c', hc'⟩ := hfree _ h1 rfl
          rw [hc'] at h2
          have h2 : c = c' := h2
          obtain ⟨w, zz⟩ := I3.cell _ _ hc'
          have := zz.lt
          have : c' < h3.objs.size := this
          rw [← h2, z] at this
          exact absurd (Nat.lt_trans this hb) (Nat.lt_irrefl _)
      · exact absurd (Nat.lt_trans (f3 b hm).2 hb) (Nat.lt_irrefl _)
    refine fin h'.objs.size _ ⟨gcx X { t2 with heap := h3, gens := t2.gens, drawn := t2.drawn, toks := tk } H3 (genEnv scope (cloFrom X.env.cells scope.names []) h3.objs.size code builtinsNs X.env) fp, t2.gens.size, m0 + 1, _, ⟨go, _, _, at5, by rw [← hgo], by rw [← hgo], by rw [← hgo]⟩, Array.getElem?_push_size .., I3.nolimit.keeps kp5, bare5, rfl, rfl, rfl, fun τ H' s' I' => ?_, fun b hb => ?_, fun S hS => ⟨fun b hb => ?_, ?_⟩, ?_⟩
    · exact I3.call' (ch := fp) I'.os I'.base I'.hok I'.bare fun b hb => ⟨(f3 b hb).1.2.2.2.1, (f3 b hb).1.2.1, (f3 b hb).1.2.2.2.2.1, (f3 b hb).1.2.2.2.2.2⟩
    · rw [List.mem_singleton.mp hb]
      exact oso _ (by rw [sz']; exact Nat.lt_succ_self _)
    · have hS : (h'.push go).objs.size ≤ S := hS
      rw [Heap.size_push] at hS
      rcases List.mem_cons.mp hb with e | e
      · rw [e]
        exact oso _ (by rw [sz']; exact Nat.lt_succ_self _)
      · rw [List.mem_singleton.mp e]
        exact oso _ (by omega)
    · have hS : (h'.push go).objs.size ≤ S := hS
      rw [Heap.size_push] at hS
      exact Nat.ne_of_gt hS
    · intro os Rel s2 hO hos hk2 ho2 hb2 hex2 rel
      have hk3 : ∀ b o, h3.get? b = some o → s2.heap.get? b = some o := fun b o e => hk2 b o (kp5 b o e)
      have hn2 : s2.heap.Ns h3.objs.size (fun y => if y = ".0" then some (.ref it) else none) := Heap.Ns.keeps hn' fun b o e => hk2 b o (Heap.get?_push_of_some _ e)
      have J0 := start s2.heap s2.gens s2.toks hn2 hk3 hb2
      have J2 := inv_regen (s' := s2) J0 (ho2.trans rfl) rfl hb2
      have hos3 : ∀ b ∈ os, h3.objs.size < b := fun b hb => by
        rcases hos b hb with e | e
        · rw [e, sz']
          exact Nat.lt_succ_self _
        · have e : (h'.push go).objs.size ≤ b := e
          rw [Heap.size_push] at e
          omega
      have J3 := J2.pins_of (pins' := pinsAt os s2.heap) fun p hp => by
        obtain ⟨hb, e⟩ := of_pinsAt hp
        obtain ⟨o, e', hc⟩ := hex2 p.1 hb
        rw [e] at e'
        cases e'
        refine ⟨e, I3.hok.fresh (Nat.le_of_lt (hos3 p.1 hb)), (hO p.1 hb).2.1, fun hm => ?_, hc⟩
        have hm : p.1 ∈ frs X.stack := hm
        have := (I3.stack.mem hm).2
        obtain ⟨o2, e2, _⟩ := this
        exact absurd (Nat.lt_trans (Heap.lt_size e2) (hos3 p.1 hb)) (Nat.lt_irrefl _)
      exact gx_start (Z := gcx X { t2 with heap := h3, gens := t2.gens, drawn := t2.drawn, toks := tk } H3 (genEnv scope (cloFrom X.env.cells scope.names []) h3.objs.size code builtinsNs X.env) fp) (A := X.A.in1.in1) rfl rfl rfl hcalm rfl hco' hO T pg pt pe run (Nat.lt_succ_self m0) w0 rel ⟨J3, T.keep _ _ _ st3 fun b hb o e => hk3 b o e, fun b hb => (f3 b hb).1.1, fun b hb => by
        obtain ⟨o, e, _⟩ := hex2 b hb
        exact ⟨o, e⟩⟩
  cases hf : codeAmong gpos ps.toList with
  | none =>
    refine wpAny_genexprCodeX hcode (cd.code gP tr) (cd.tab gP) hf fun c' h' tk hx hge hlt hco _ htab _ => ?_
    obtain ⟨_, _, _, _, _, _, _, _, _, _, _, _, _, _, _, _, _, _, _, htr, _⟩ := hco
    exact rest _ h' tk _ hx (Nat.le_trans hge (Nat.le_of_lt hlt)) htab.2 ⟨_, rfl⟩ htr
  | some cv =>
    refine wpAny_genexprCode_hit hcode (cd.code gP tr) hf ?_
    exact rest cv t2.heap t2.toks ps (Heap.ExtBut.refl _ _) (Nat.le_refl _) gP ⟨#[], by simp⟩ tr
theorem room_u {k : Nat} {A : Around} (r : Room k A) : A.units + 1 < cLine := by
  have := r.units
  omega
theorem room_gx {k : Nat} {A : Around} (r : Room (k + 3) A) (env : Env) : Room k (A.in1.in1.deeper env) := Room.deeper (Room.in1 (Room.in1 r)) env
section
variable {c P : Addr} {elt tg iter : Expr} {ifs : List Expr} {scope : Scope} {own : List (Str × Nat)} {gpos p pos : Pos} {k : Nat} {wi : TI} {g : TG} {tt : TT} {te : TE}
theorem pe_gxAll (hr : Room k X.A) (hcalm : X.calm = true) (hN : X.N.Nodup) (hgl : Gl X "all") (hm : X.mg "all" = none) (hba : bootBuiltins "all" = some (.builtin "all")) (TB : GxR.TabB X.base X.mg c P) (hcode : X.env.code = .ref c) (ok : GBlk X.N X.env.scope scope own) (hi : PI X tg iter wi)
    (hg : ∀ (s : Shared) (H : Hp) (C : Addr) (code : Value) (fp : List Addr), PG (gcx X s H (genEnv scope (cloFrom X.env.cells scope.names []) C code builtinsNs X.env) fp) tg g)
    (ht : ∀ (s : Shared) (H : Hp) (C : Addr) (code : Value) (fp : List Addr), PTs (gcx X s H (genEnv scope (cloFrom X.env.cells scope.names []) C code builtinsNs X.env) fp) ifs tt)
    (he : ∀ (s : Shared) (H : Hp) (C : Addr) (code : Value) (fp : List Addr), PE (gcx X s H (genEnv scope (cloFrom X.env.cells scope.names []) C code builtinsNs X.env) fp) elt te) (hs : ∀ v, genFold iter X.env v = pure v)
    (hst : starEach [.GeneratorExp elt [⟨tg, iter, ifs, 0⟩] scope gpos] X.env = (false, eval (.GeneratorExp elt [⟨tg, iter, ifs, 0⟩] scope gpos) X.env) :: starEach [] X.env := by rfl) :
    PE X (.Call (.Name "all" p) [.GeneratorExp elt [⟨tg, iter, ifs, 0⟩] scope gpos] [] pos) (tGx P cAll () wi g tt te (own.map (·.2))) := by
  constructor
  intro pins s σ H Q I hh
  refine wpAny_Call_Name_kw (ld_blt I hgl hm hba ?_)
  refine PyProof.Rows.callWith_builtin1 ?_ hst (by rfl)
  rw [hst]
  show wpAny _ _ (spliced ((false, eval (.GeneratorExp elt [⟨tg, iter, ifs, 0⟩] scope gpos) X.env) :: backTo pos (starEach [] X.env))) _ _ s
  refine Calls.spliced_cons (gx_make hr hcalm hN TB hcode ok hi hs hg ht he I hh fun ga s5 R => Calls.spliced_nil ?_)
  obtain ⟨Z, gi, n, c0, hgen, hgs, hl, hb, eP, eW, _, back, hO, _, seg⟩ := R
  rw [← eP, ← eW] at *
  refine call_function_tree F.kind_all F.plain_all F.entry_all (F.args_all1 _) ?_
  unfold Builtin.«all»
  refine wpAny_bind (m := oneArg "all" _) (wpAny_pure ?_)
  refine wpAny_bind (wpAny_pyIter_gen hgen ?_)
  refine wpAny_pure ⟨plainId_quiet F.plain_all_loop _, bool_drain (Z := Z) (g := gi) (Q := Q) (c := cAll) true false (fun y k f h => ?_) (fun f h => h) hr.hd hr.depth (fun b H' τ s' I' q => ?_) all_body n s5 hgen hl ⟨_, hgs, rfl, seg [ga] _ _ hO (fun b hb => .inl (List.mem_singleton.mp hb)) (fun b o e => e) rfl (allBare_setGen hb rfl) (fun b hb => ?_) True.intro⟩⟩
  · obtain ⟨b, rfl, h⟩ := h
    exact ⟨b, rfl, fun e => by rw [if_pos (show b = true from e)] at h; exact h, fun e => by rw [if_neg (by rw [e]; decide)] at h; exact h⟩
  · exact ⟨.bl b, H', back τ H' s' I', rfl, q⟩
  · rw [List.mem_singleton.mp hb]
    obtain ⟨o, nm, qn, ho, h1, h2, h3⟩ := hgen
    exact ⟨o, ho, fun v q => by rw [h2] at q; cases q⟩
end
end
/-! ### defs that hold generator expressions: their code objects and tables -/
structure FunC (K : PySem.W.Frag) (x qual : Str) (st : Stmt) (f : Addr) (fd : FuncData) (c : Addr) : Prop where
  ex : ∃ (oc : Value) (od : Option Addr) (kV doc pm : Value) (an : Option Addr) (ct : Value) (osl : Array (Option Value)),
    fd = PySem.W.fnOf x qual (defArgs st) (defBody st) (defScope st) .none kV doc pm an (.ref c) ct ∧ K.lookup f = some ⟨oc, od, .func fd, osl⟩ ∧ PySem.W.codeIn K (.ref c) qual = true
section
variable {P : Program} {w : World} {K : PySem.W.Frag} {mg : Str → Option Value} {base : Heap}
theorem FunC.ok {x qual : Str} {st : Stmt} {f c : Addr} {fd : FuncData} {N ps : List Str} {k : Nat} {sp : Sp} (F : FunC K x qual st f fd c) (S : FnScope N ps (defScope st)) (len : ∀ vs H Q E, sp vs H Q E → vs.length = ps.length)
    (hbody : ∀ (A : Around) (outer : List Env) (s : Shared) (H : Hp) (vs : List V) (Q : VK) (E : XK), Room k (A.deeper (envOfC qual (defScope st) s.heap.objs.size f (.ref c))) → sp vs H Q E →
      ∃ t, PSs (cxOf CX0 P w K mg base N qual (defScope st) f (.ref c) A outer s H E).nox (defBody st) t ∧ t { nx := fun _ H' => Q .non H', rt := Q } (start N vs) H) : FnOk P w K mg base CX0 (k + 1) f fd ps sp := by
  obtain ⟨oc, od, kV, doc, pm, an, ct, osl, rfl, lk, hcd⟩ := F.ex
  refine fn_of lk hcd S len fun A outer s H vs Q E hr hsp => ?_
  obtain ⟨t, h, q⟩ := hbody A outer s H vs Q E hr hsp
  exact ⟨t, h.nox, q⟩
theorem FunC.okX {x qual : Str} {st : Stmt} {f c : Addr} {fd : FuncData} {N ps : List Str} {k : Nat} {sp : Sp} (F : FunC K x qual st f fd c) (S : FnScope N ps (defScope st)) (len : ∀ vs H Q E, sp vs H Q E → vs.length = ps.length)
    (hbody : ∀ (A : Around) (outer : List Env) (s : Shared) (H : Hp) (vs : List V) (Q : VK) (E : XK), Room k (A.deeper (envOfC qual (defScope st) s.heap.objs.size f (.ref c))) → sp vs H Q E →
      ∃ t, PSs (cxOf (L2.CX P w) P w K mg base N qual (defScope st) f (.ref c) A outer s H E) (defBody st) t ∧ t { nx := fun _ H' => Q .non H', rt := Q } (start N vs) H) : FnOk P w K mg base (L2.CX P w) (k + 1) f fd ps sp := by
  obtain ⟨oc, od, kV, doc, pm, an, ct, osl, rfl, lk, hcd⟩ := F.ex
  exact fn_of lk hcd S len fun A outer s H vs Q E hr hsp => hbody A outer s H vs Q E hr hsp
end
/-- the head's word about a def's code object and its table -/
def TabRec (h : Heap) (mg : Str → Option Value) (nm : Str) : Prop := ∃ (a : Addr) (o : Obj) (fd : FuncData) (c P : Addr), mg nm = some (.ref a) ∧ h.get? a = some o ∧ o.data = .func fd ∧ fd.code = .ref c ∧ h.IsCode c P #[] ∧ h.TableAt c P #[]
theorem walk_tabs {l : PySem.W.OpenLaw} {n k : Nat} {q : Program} {loose : List Str} {XP : (Str → Option Value) → Heap → Prop} {YP : World → Heap → Prop} {d : DefRec} {K : Params → PySem.W.Frag} {CX : World → CXT} {x : Str} (nms : List Str)
    (hn : l.most = some n) (hn2 : n ≤ sizeLine) (hdf : d.params.defaults = []) (hr : Room k callerA) (hrec : (nms.all fun nm => (recsOf q).any fun e => e.name == nm) = true) (hY : ∀ (w : World) (h : Heap), YP w h → (K w.params).In h)
    (F : ∀ (w : World) (mg : Str → Option Value) (fa : Addr) (h : Heap), (K w.params).In h → h.Ns mainGlobals mg → mg d.name = some (.ref fa) → (∀ nm ∈ nms, TabRec h mg nm) → LamX.LawAtS l w (K w.params) (CX w) k n x mg fa h)
    (hCX : ∀ (w : World) (H : Hp) (s : Shared) (e : Value) (s' : Shared), CX w [] H s (fun _ _ _ => False) e s' → False) :
    PySem.W.WalkO q loose XP YP l.row.toRowW d [] (fun f vs => PySem.call f vs) := by
  refine Att.attach_callB hn hdf fun w s0 s1 mg mb fa o pm cd doc a vs ns G Y ho hd hcd hmg hobj hints hlen hbits hg => ?_
  have KX := hY w _ Y
  have tabs : ∀ nm ∈ nms, TabRec s1.heap mg nm := fun nm hm => by
    obtain ⟨dL, h1, h2⟩ := List.any_eq_true.mp (List.all_eq_true.mp hrec nm hm)
    obtain ⟨a', o', fd', c', P', k1, k2, k3, k4, k5, k6⟩ := G.T.tab dL h1
    rw [beq_iff_eq.mp h2] at k1
    exact ⟨a', o', fd', c', P', k1, k2, k3, k4, k5, k6⟩
  obtain ⟨fd, cs, sp, hT, nT, C, hb, hsp, hF⟩ := F w mg fa _ KX G.T.g hmg tabs
  exact LamX.law_callTs KX G.T.g G.T.b G.T.builtins G.T.nolimit hg hT nT C G.T.bmain hobj hints (Nat.le_trans hlen hn2) hr hF hb (fun H hH hS => hsp H a ns hlen hbits hH hS) fun H e s' => hCX w H s1 e s'
/-- the table of the def at f, as the written part names it -/
theorem tab_of {K : PySem.W.Frag} {h : Heap} {mg : Str → Option Value} {nm : Str} {f c P : Addr} {fd : FuncData} {oc : Value} {od : Option Addr} {osl : Array (Option Value)} {ec : Value} {dc : Option Addr} {vc : Array Value} {sl : Array (Option Value)} (X : K.In h) (R : TabRec h mg nm)
    (g : mg nm = some (.ref f)) (lf : K.lookup f = some ⟨oc, od, .func fd, osl⟩) (hc : fd.code = .ref c) (lc : K.lookup c = some ⟨ec, dc, .fields vc, sl⟩) (h11 : vc[11]? = some (.ref P)) :
    h.get? P = some { cls := .none, data := .fields #[] } ∧ PySem.W.CodeHd h c P := by
  obtain ⟨a, o, fd', c', P', k1, k2, k3, k4, k5, k6⟩ := R
  rw [g] at k1
  cases k1
  rw [X _ _ lf] at k2
  cases k2
  cases k3
  rw [hc] at k4
  cases k4
  have hd := PySem.W.CodeHd.of k5 k6
  obtain ⟨⟨o2, v2, e1, _, e3, e4⟩, hP⟩ := k6
  rw [X _ _ lc] at e1
  cases e1
  cases e3
  rw [h11] at e4
  cases e4
  exact ⟨hP, hd⟩
/-- tables of code objects: those of generator expressions; those of lambdas, with the lambda's name -/
structure TL where
  g : List Addr
  l : List (Addr × Str) := []
/-- the tables stand -/
def Tb (Ps : TL) (H : Hp) : Prop := (∀ P ∈ Ps.g, GxR.TabG H P) ∧ ∀ p ∈ Ps.l, p.1 ∉ Ps.g ∧ LamX.TabS H p.1 p.2
/-- no lambda's table stands at a, no code object of one -/
def NoLam (Ps : TL) (H : Hp) (a : Addr) : Prop := ∀ p ∈ Ps.l, a ≠ p.1 ∧ ∀ q, H a ≠ some (LamX.CodeO a q)
theorem Tb.same {Ps : TL} {H H' : Hp} (t : Tb Ps H) (e : Same H H') : Tb Ps H' := ⟨fun P hP => by
  obtain ⟨ps, h1, h2⟩ := t.1 P hP
  exact ⟨ps, e _ _ h1, h2⟩, fun p hp => ⟨(t.2 p hp).1, (t.2 p hp).2.ext fun b o h => e b o h⟩⟩
theorem Tb.chg {Ps : TL} {L : List Addr} {H H' : Hp} (t : Tb Ps H) (e : Chg L H H') (n : ∀ P ∈ Ps.g, P ∉ L) (no : ∀ a ∈ L, NoLam Ps H a) : Tb Ps H' := ⟨fun P hP => by
  obtain ⟨ps, h1, h2⟩ := t.1 P hP
  exact ⟨ps, e _ _ (n P hP) h1, h2⟩, fun p hp => by
  obtain ⟨n1, ps, h1, h2, h3⟩ := t.2 p hp
  refine ⟨n1, ps, e _ _ (fun z => (no _ z p hp).1 rfl) h1, h2, fun pos cv hc => ?_⟩
  obtain ⟨c, e1, e2⟩ := h3 pos cv hc
  exact ⟨c, e1, e _ _ (fun z => (no _ z p hp).2 _ e2) e2⟩⟩
theorem Tb.out {Ps : TL} {H : Hp} {a : Addr} {o : HO} (t : Tb Ps H) (h : H a = some o) (n : ∀ ps, o ≠ .tbl ps) : a ∉ Ps.g := fun hm => by
  obtain ⟨ps, h1, _⟩ := t.1 a hm
  rw [h] at h1
  exact n ps (Option.some.inj h1)
theorem Tb.new {Ps : TL} {H : Hp} {a : Addr} (t : Tb Ps H) (h : H a = none) : a ∉ Ps.g := fun hm => by
  obtain ⟨ps, h1, _⟩ := t.1 a hm
  rw [h] at h1
  cases h1
theorem Tb.nolam {Ps : TL} {H : Hp} {a : Addr} {o : HO} (t : Tb Ps H) (h : H a = some o) (n : ∀ ps, o ≠ .tbl ps) (m : ∀ q, o ≠ LamX.CodeO a q) : NoLam Ps H a := fun p hp => by
  refine ⟨fun z => ?_, fun q z => ?_⟩
  · obtain ⟨_, ps, h1, _⟩ := t.2 p hp
    rw [← z, h] at h1
    exact n ps (Option.some.inj h1)
  · rw [h] at z
    exact m q (Option.some.inj z)
theorem Tb.lamTabbed {Ps : TL} {H H' : Hp} {P : Addr} (t : Tb Ps H) (hP : P ∈ Ps.g) (e : ∀ b, b ≠ P → H' b = H b) : ∀ p ∈ Ps.l, p.1 ∉ Ps.g ∧ LamX.TabS H' p.1 p.2 := fun p hp => by
  obtain ⟨n, ps, h1, h2, h3⟩ := t.2 p hp
  refine ⟨n, ps, by rw [e _ fun z => n (by rw [z]; exact hP)]; exact h1, h2, fun pos cv hc => ?_⟩
  obtain ⟨c, e1, e2⟩ := h3 pos cv hc
  refine ⟨c, e1, ?_⟩
  rw [e _ fun z => ?_]
  · exact e2
  · obtain ⟨qs, h4, _⟩ := t.1 P hP
    rw [z, h4] at e2
    exact LamX.codeO_ne qs (Option.some.inj e2).symm
theorem Tb.tabbed {Ps : TL} {H H' : Hp} {P : Addr} (t : Tb Ps H) (hP : P ∈ Ps.g) (e : GxR.Tabbed P H H') : Tb Ps H' ∧ Chg Ps.g H H' := by
  refine ⟨⟨fun Q hQ => ?_, t.lamTabbed hP e.2⟩, fun b o n h => ?_⟩
  · by_cases z : Q = P
    · rw [z]
      exact e.1
    · obtain ⟨ps, h1, h2⟩ := t.1 Q hQ
      exact ⟨ps, by rw [e.2 Q z]; exact h1, h2⟩
  · have z : b ≠ P := fun z => n (by rw [z]; exact hP)
    rw [e.2 b z]
    exact h
/-! ### all but what stands at L is kept; tables of code objects may grow -/
def Kp (L : List Addr) (H H' : Hp) : Prop := ∀ b o, b ∉ L → H b = some o → H' b = some o ∨ ∃ ps qs, o = .tbl ps ∧ H' b = some (.tbl qs)
theorem Kp.refl (L : List Addr) (H : Hp) : Kp L H H := fun _ _ _ h => .inl h
theorem Kp.trans {L : List Addr} {H H1 H2 : Hp} (a : Kp L H H1) (b : Kp L H1 H2) : Kp L H H2 := fun c o n h => by
  rcases a c o n h with z | ⟨ps, qs, rfl, z⟩
  · exact b c o n z
  · rcases b c _ n z with y | ⟨ps', qs', _, y⟩
    · exact .inr ⟨ps, qs, rfl, y⟩
    · exact .inr ⟨ps, qs', rfl, y⟩
theorem Kp.chg {L : List Addr} {H H' : Hp} (c : Chg L H H') : Kp L H H' := fun b o n h => .inl (c b o n h)
theorem Kp.of {L : List Addr} {H H' : Hp} (c : Same H H') : Kp L H H' := fun b o _ h => .inl (c b o h)
theorem Kp.mono {L L' : List Addr} {H H' : Hp} (a : Kp L H H') (h : ∀ x ∈ L, x ∈ L') : Kp L' H H' := fun c o n e => a c o (fun q => n (h c q)) e
theorem Kp.nil {L : List Addr} {H H' : Hp} (a : Kp [] H H') : Kp L H H' := a.mono fun _ h => nomatch h
theorem Kp.lst {L : List Addr} {H H' : Hp} (a : Kp L H H') {l : Addr} {us : List V} (n : l ∉ L) (h : H l = some (.lst us)) : H' l = some (.lst us) := by
  rcases a l _ n h with z | ⟨ps, qs, z, _⟩
  · exact z
  · cases z
theorem Kp.tup {L : List Addr} {H H' : Hp} (a : Kp L H H') {l : Addr} {us : List V} (n : l ∉ L) (h : H l = some (.tup us)) : H' l = some (.tup us) := by
  rcases a l _ n h with z | ⟨ps, qs, z, _⟩
  · exact z
  · cases z
theorem Kp.free {L : List Addr} {H H' : Hp} (a : Kp L H H') {l : Addr} (hl : l ∉ L) (h : H' l = none) : H l = none := by
  cases q : H l with
  | none => rfl
  | some o =>
    rcases a l o hl q with z | ⟨ps, qs, _, z⟩
    · rw [z] at h
      cases h
    · rw [z] at h
      cases h
theorem Kp.seq {K : PySem.W.Frag} {L : List Addr} {H H' : Hp} {a : Addr} {xs : List V} (e : Kp L H H') (n : a ∉ L) (h : SqL K H a xs) : SqL K H' a xs := by
  rcases h with (h | ⟨o, h⟩) | h
  · exact .inl (.inl (e.lst n h))
  · rcases e a _ n h with z | ⟨ps, qs, z, _⟩
    · exact .inl (.inr ⟨o, z⟩)
    · cases z
  · exact .inr h
theorem Kp.spn {L : List Addr} {H H' : Hp} (e : Kp L H H') (l : Lsts L H) {v : V} {s : Span} (h : Spn H v s) : Spn H' v s := by
  obtain ⟨t, rfl, ht⟩ := h
  exact ⟨t, rfl, e.tup (fun q => l t q _ ht) ht⟩
theorem Kp.sps {L : List Addr} {H H' : Hp} (e : Kp L H H') (l : Lsts L H) : ∀ {vs : List V} {ss : List Span}, Sps H vs ss → Sps H' vs ss
  | _, _, .nil => .nil
  | _, _, .cons h t => .cons (e.spn l h) (Kp.sps e l t)
theorem lsts0 (H : Hp) : Lsts [] H := fun _ h => nomatch h
theorem Kp.pu {L : List Addr} {H H' : Hp} {p : Addr} {n : Nat} (e : Kp L H H') (hp : p ∉ L) (h : Pu H p n) : Pu H' p n := by
  obtain ⟨a, b, c, h1, h2⟩ := h
  exact ⟨a, b, c, e.lst hp h1, h2⟩
theorem Kp.upd {L : List Addr} {H : Hp} {p : Addr} {o : HO} (h : p ∈ L) : Kp L H (upd H p o) := .chg (Chg.upd h)
theorem Kp.new {L : List Addr} {H H' : Hp} {p : Addr} {o : HO} (e : Kp L H H') (n : H' p = none) : Kp L H (L2.upd H' p o) := e.trans (.of (same_upd n))
/-- a new object changed: nothing of what stood before is -/
theorem Kp.own {L : List Addr} {H H' : Hp} {p : Addr} {o : HO} (e : Kp L H H') (n : H p = none) : Kp L H (L2.upd H' p o) := fun b x nb h => by
  have hne : b ≠ p := ne_of_none h n
  rw [upd_ne hne]
  exact e b x nb h
theorem Tb.kp {Ps : TL} {P : Addr} {H H' : Hp} (t : Tb Ps H) (mP : P ∈ Ps.g) (h : GxR.Tabbed P H H') : Tb Ps H' ∧ Kp [] H H' := by
  refine ⟨(t.tabbed mP h).1, fun b o _ e => ?_⟩
  by_cases q : b = P
  · obtain ⟨ps, h1, _⟩ := t.1 P mP
    obtain ⟨qs, h3, _⟩ := h.1
    rw [q] at e ⊢
    rw [h1] at e
    cases e
    exact .inr ⟨ps, qs, rfl, h3⟩
  · exact .inl (by rw [h.2 b q]; exact e)
/-- neither a table nor a code object of a lambda -/
def OffT (Ps : TL) (H : Hp) (p : Addr) : Prop := p ∉ Ps.g ∧ NoLam Ps H p
theorem Tb.own {Ps : TL} {H H' : Hp} {p : Addr} {o : HO} (t : Tb Ps H') (n : H p = none) (t0 : Tb Ps H) (no : NoLam Ps H' p) : Tb Ps (upd H' p o) := ⟨fun P hP => by
  obtain ⟨ps, h1, h2⟩ := t.1 P hP
  obtain ⟨qs, h3, _⟩ := t0.1 P hP
  exact ⟨ps, by rw [upd_ne (ne_of_none h3 n)]; exact h1, h2⟩, fun q hq => by
  obtain ⟨n1, ps, h1, h2, h3⟩ := t.2 q hq
  refine ⟨n1, ps, by rw [upd_ne (no q hq).1.symm]; exact h1, h2, fun pos cv hc => ?_⟩
  obtain ⟨c, e1, e2⟩ := h3 pos cv hc
  exact ⟨c, e1, by rw [upd_ne (fun z => (no q hq).2 _ (by rw [← z]; exact e2))]; exact e2⟩⟩
theorem Tb.at1 {Ps : TL} {H : Hp} {p : Addr} {o : HO} (t : Tb Ps H) (hp : OffT Ps H p) : Tb Ps (upd H p o) := ⟨fun P hP => by
  obtain ⟨ps, h1, h2⟩ := t.1 P hP
  exact ⟨ps, by rw [upd_ne (fun z => hp.1 (by rw [← z]; exact hP))]; exact h1, h2⟩, fun q hq => by
  obtain ⟨n1, ps, h1, h2, h3⟩ := t.2 q hq
  refine ⟨n1, ps, by rw [upd_ne (hp.2 q hq).1.symm]; exact h1, h2, fun pos cv hc => ?_⟩
  obtain ⟨c, e1, e2⟩ := h3 pos cv hc
  exact ⟨c, e1, by rw [upd_ne (fun z => (hp.2 q hq).2 _ (by rw [← z]; exact e2))]; exact e2⟩⟩
/-! walks of generator expressions over a list, a range -/
/-! ### rows: tuples of whole numbers, lists of them -/
def rwD (r : List Int) : PyData := .tuple (r.map PyData.int)
def Rw (H : Hp) (v : V) (r : List Int) : Prop := ∃ t, v = .ref t ∧ H t = some (.tup (r.map V.int))
inductive Rws (H : Hp) : List V → List (List Int) → Prop where
  | nil : Rws H [] []
  | cons {v : V} {s : List Int} {vs : List V} {ss : List (List Int)} : Rw H v s → Rws H vs ss → Rws H (v :: vs) (s :: ss)
theorem Kp.rw {L : List Addr} {H H' : Hp} (e : Kp L H H') (l : Lsts L H) {v : V} {s : List Int} (h : Rw H v s) : Rw H' v s := by
  obtain ⟨t, rfl, ht⟩ := h
  exact ⟨t, rfl, e.tup (fun q => l t q _ ht) ht⟩
theorem Kp.rws {L : List Addr} {H H' : Hp} (e : Kp L H H') (l : Lsts L H) : ∀ {vs : List V} {ss : List (List Int)}, Rws H vs ss → Rws H' vs ss
  | _, _, .nil => .nil
  | _, _, .cons h t => .cons (e.rw l h) (Kp.rws e l t)
theorem Rws.same {H H' : Hp} {vs : List V} {ss : List (List Int)} (h : Rws H vs ss) (e : Same H H') : Rws H' vs ss := (Kp.of (L := []) e).rws (lsts0 H) h
theorem Rws.len {H : Hp} : ∀ {vs : List V} {ss : List (List Int)}, Rws H vs ss → vs.length = ss.length
  | _, _, .nil => rfl
  | _, _, .cons _ t => congrArg (· + 1) t.len
theorem Rws.app {H : Hp} : ∀ {vs ws : List V} {ss ts : List (List Int)}, Rws H vs ss → Rws H ws ts → Rws H (vs ++ ws) (ss ++ ts)
  | _, _, _, _, .nil, h => h
  | _, _, _, _, .cons a t, h => .cons a (Rws.app t h)
theorem Rws.one {H : Hp} {v : V} {s : List Int} (h : Rw H v s) : Rws H [v] [s] := .cons h .nil
theorem Rws.get {H : Hp} : ∀ {vs : List V} {ss : List (List Int)} {i : Nat} {v : V}, Rws H vs ss → vs[i]? = some v → ∃ s, ss[i]? = some s ∧ Rw H v s
  | _, _, _, _, .nil, e => by simp at e
  | _, _, 0, v, .cons (s := s) h t, e => ⟨s, rfl, by
      have q := Option.some.inj (show some _ = some v from e)
      rw [← q]
      exact h⟩
  | _, _, i + 1, v, .cons h t, e => Rws.get (i := i) t e
theorem Rw.dp {K : PySem.W.Frag} {H : Hp} {v : V} {s : List Int} (h : Rw H v s) : Dp K H v (rwD s) := by
  obtain ⟨t, rfl, ht⟩ := h
  exact .tup (SqT.of ht) (dpAll_ints s)
theorem Rws.dpAll {K : PySem.W.Frag} {H : Hp} : ∀ {vs : List V} {ss : List (List Int)}, Rws H vs ss → DpAll K H vs (ss.map rwD)
  | _, _, .nil => .nil
  | _, _, .cons h t => .cons h.dp t.dpAll
theorem Rws.dp {K : PySem.W.Frag} {H : Hp} {a : Addr} {vs : List V} {ss : List (List Int)} (h : Rws H vs ss) (q : SqL K H a vs) : Dp K H (.ref a) (.list (ss.map rwD)) := .lst q h.dpAll
/-! ### lists of spans as they stand -/
def Lq (H : Hp) (l : Addr) (ss : List Span) : Prop := ∃ us, H l = some (.lst us) ∧ Sps H us ss
theorem Kp.lq {L : List Addr} {H H' : Hp} (e : Kp L H H') {l : Addr} (n : l ∉ L) (hL : Lsts L H) {ss : List Span} (h : Lq H l ss) : Lq H' l ss := by
  obtain ⟨us, h1, h2⟩ := h
  exact ⟨us, e.lst n h1, e.sps hL h2⟩
theorem Lq.same {H H' : Hp} {l : Addr} {ss : List Span} (h : Lq H l ss) (e : Same H H') : Lq H' l ss := (Kp.of (L := []) e).lq List.not_mem_nil (lsts0 H) h
theorem Lq.dp {K : PySem.W.Frag} {H : Hp} {l : Addr} {ss : List Span} (h : Lq H l ss) : Dp K H (.ref l) (.list (ss.map spD)) := by
  obtain ⟨us, h1, h2⟩ := h
  exact h2.dp (SqL.of h1)
theorem Sps.rev {H : Hp} {vs : List V} {ts : List Span} (h : Sps H vs ts) : Sps H vs.reverse ts.reverse := by
  induction h with
  | nil => exact .nil
  | cons a b ih =>
    rw [List.reverse_cons, List.reverse_cons]
    exact ih.app (.one a)
/-! ### set(xs), xs a list of whole numbers, to be sorted -/
section
variable {P : Program} {w : World} {A : Around} {E : Value → Shared → Prop} {s : Shared}
set_option maxHeartbeats 8000000 in
end
section
variable {X : Cx}
end
theorem nodup_len : ∀ {l m : List Int}, l.Nodup → (∀ x ∈ l, x ∈ m) → l.length ≤ m.length
  | [], _, _, _ => Nat.zero_le _
  | a :: l, m, h, sub => by
    have ha := sub a List.mem_cons_self
    have h1 := List.nodup_cons.mp h
    have ih := nodup_len (l := l) (m := m.erase a) h1.2 fun x hx => by
      have ne : x ≠ a := fun z => h1.1 (by rw [← z]; exact hx)
      exact (List.mem_erase_of_ne ne).mpr (sub x (List.mem_cons_of_mem _ hx))
    rw [List.length_erase_of_mem ha] at ih
    have hp := List.length_pos_of_mem ha
    show l.length + 1 ≤ m.length
    omega
/-! ### sorted of triples of whole numbers; how many in a set -/
namespace Tri
open SrtO
def IsTrip (h : Heap) (v : Value) (x y z : Int) : Prop := ∃ (a : Addr) (o : Obj) (t u r : Tok) (n : Nat), v = .ref a ∧ h.get? a = some o ∧ o.cls = .type "tuple" ∧ o.data = .seq #[.int x t, .int y u, .int z r] n
theorem IsTrip.keeps {h h' : Heap} {v : Value} {x y z : Int} (p : IsTrip h v x y z) (k : ∀ b o, h.get? b = some o → o.cls = .type "tuple" → h'.get? b = some o) : IsTrip h' v x y z := by
  obtain ⟨a, o, t, u, r, n, e, ho, hc, hd⟩ := p
  exact ⟨a, o, t, u, r, n, e, k a o ho hc, hc, hd⟩
abbrev I3 := Int × Int × Int
section
variable {prog : Program} {w : World} {A : Around} {E : Value → Shared → Prop} {s : Shared}
end
end Tri
/-! how many in a set of whole numbers -/
theorem met_facts (f : Nat → Int) : ∀ n, (firstMet f n).Nodup ∧ ∀ k, k ∈ firstMet f n ↔ ∃ i, i < n ∧ f i = k
  | 0 => ⟨List.nodup_nil, fun k => ⟨(fun h => nomatch h), fun ⟨i, h, _⟩ => by omega⟩⟩
  | n + 1 => by
    obtain ⟨h1, h2⟩ := met_facts f n
    rw [firstMet_succ]
    unfold step_dedup
    by_cases e : (firstMet f n).any (· == f n) = true
    · rw [if_pos e]
      obtain ⟨x, hx, ex⟩ := List.any_eq_true.mp e
      have ex : x = f n := beq_iff_eq.mp ex
      refine ⟨h1, fun k => ⟨fun h => ?_, fun ⟨i, hi, hk⟩ => ?_⟩⟩
      · obtain ⟨i, hi, hk⟩ := (h2 k).mp h
        exact ⟨i, by omega, hk⟩
      · by_cases z : i = n
        · rw [← hk, z, ← ex]
          exact hx
        · exact (h2 k).mpr ⟨i, by omega, hk⟩
    · rw [if_neg e]
      have nx : f n ∉ firstMet f n := fun z => e (List.any_eq_true.mpr ⟨_, z, by simp⟩)
      refine ⟨?_, fun k => ⟨fun h => ?_, fun ⟨i, hi, hk⟩ => ?_⟩⟩
      · rw [List.nodup_append]
        exact ⟨h1, by simp, fun a ha b hb => by rw [List.mem_singleton.mp hb]; exact fun z => nx (by rw [← z]; exact ha)⟩
      · rcases List.mem_append.mp h with h | h
        · obtain ⟨i, hi, hk⟩ := (h2 k).mp h
          exact ⟨i, by omega, hk⟩
        · exact ⟨n, by omega, (List.mem_singleton.mp h).symm⟩
      · by_cases z : i = n
        · rw [← hk, z]
          simp
        · exact List.mem_append_left _ ((h2 k).mpr ⟨i, by omega, hk⟩)
def tLenSet (K : PySem.W.Frag) (ta : TE) : TE := fun σ H Q => ta σ H fun x H1 => ∃ (l : Addr) (ns : List Int), x = V.ref l ∧ SqL K H1 l (ns.map V.int) ∧ ns.length ≤ 1000 ∧ ∀ ds : List Int, ds.Nodup → (∀ k, k ∈ ds ↔ k ∈ ns) → Q (.int (ds.length : Nat)) H1
theorem pe_lenSet {X : Cx} {a : Expr} {ta : TE} {p p2 q pos : Pos} (hc : X.calm = true) (hg : Gl X "len") (hm : X.mg "len" = none) (hg2 : Gl X "set") (hm2 : X.mg "set" = none) (ha : PE X a ta)
    (na : starEach [a] X.env = (false, eval a X.env) :: starEach [] X.env := by rfl) : PE X (.Call (.Name "len" p) [.Call (.Name "set" p2) [a] [] q] [] pos) (tLenSet X.K ta) := by
  refine ⟨fun pins s σ H Q I h => ?_⟩
  refine Call_ (ld_blt I hg hm PySem.boot_len ?_)
  refine PyProof.Rows.callWith_builtin1 (PyProof.Rows.args_cons ?_ rfl) rfl rfl
  refine Call_ (ld_blt I hg2 hm2 PyProof.Rows.boot_set ?_)
  refine PyProof.Rows.callWith_type1 (PyProof.Rows.args_cons (thn (ha.run pins s σ H _ I h) fun v s1 ⟨x, H1, I1, r1, q1⟩ => PyProof.Rows.args_nil ?_) na) na rfl
  obtain ⟨l, ns, rfl, hq, h1, q1⟩ := q1
  cases r1
  obtain ⟨its, r, pl, hz⟩ := I1.list hq
  have hl : its.toArray.size = ns.length := by rw [List.size_toArray, ← r.length, List.length_map]
  refine call_set_list (I1.ok.hd hc) pl.isList (ns := ns) (by simpa using r.ints) (by unfold scanBound; omega) fun h' tk hS hk => ?_
  rw [hl] at hS
  obtain ⟨m1, m2⟩ := met_facts (fun i => ns.getD i 0) ns.length
  have m3 : ∀ k, k ∈ firstMet (fun i => ns.getD i 0) ns.length ↔ k ∈ ns := fun k => by
    rw [m2 k]
    constructor
    · rintro ⟨i, hi, rfl⟩
      rw [List.getD_eq_getElem?_getD, List.getElem?_eq_getElem hi]
      exact List.getElem_mem hi
    · intro hk
      obtain ⟨i, hi, e⟩ := List.getElem_of_mem hk
      exact ⟨i, hi, by rw [List.getD_eq_getElem?_getD, List.getElem?_eq_getElem hi, Option.getD_some, e]⟩
  have q2 := q1 _ m1 m3
  have bl : (firstMet (fun i => ns.getD i 0) ns.length).length ≤ ns.length := nodup_len m1 fun x hx => (m3 x).mp hx
  revert hS q2 bl
  generalize firstMet (fun i => ns.getD i 0) ns.length = ds
  intro hS q2 bl
  refine PyProof.Rows.args_nil ?_
  obtain ⟨o, es, ep, t, ho, hex, hd, _, _, _, hf, hn⟩ := hS
  have I2 : Inv X pins σ H1 { s1 with heap := h', toks := tk } := I1.kept fun b o e => hk b o (Heap.lt_size e) e
  refine call_len_set ho hex hd hf (by rw [hn] <;> omega) ⟨.int ds.length, H1, I2.tok _, ⟨_, by rw [hn]⟩, q2⟩
/-- a set of as many: none stands twice -/
theorem nodup_of_len : ∀ {ns ds : List Int}, ds.Nodup → (∀ x ∈ ds, x ∈ ns) → ns.length ≤ ds.length → ns.Nodup
  | [], _, _, _, _ => List.nodup_nil
  | a :: r, ds, h1, h2, h3 => by
    by_cases ha : a ∈ r
    · have := nodup_len h1 (m := r) fun x hx => by
        rcases List.mem_cons.mp (h2 x hx) with e | e
        · rw [e]
          exact ha
        · exact e
      rw [List.length_cons] at h3
      omega
    · refine List.nodup_cons.mpr ⟨ha, nodup_of_len (ds := ds.erase a) (h1.erase a) (fun x hx => ?_) ?_⟩
      · have hx' := List.mem_of_mem_erase hx
        rcases List.mem_cons.mp (h2 x hx') with e | e
        · subst e
          exact absurd hx ((h1.mem_erase_iff.mp hx).1 rfl).elim
        · exact e
      · rw [List.length_cons] at h3
        rw [List.length_erase]
        split <;> omega
theorem len_nodup {ns ds : List Int} (h1 : ds.Nodup) (h2 : ∀ k, k ∈ ds ↔ k ∈ ns) : ds.length = ns.length ↔ ns.Nodup := by
  constructor
  · intro e
    exact nodup_of_len h1 (fun x hx => (h2 x).mp hx) (by omega)
  · intro h
    have a := nodup_len h1 fun x hx => (h2 x).mp hx
    have b := nodup_len h fun x hx => (h2 x).mpr hx
    omega
/-! walks of generator expressions over two lists side by side -/
/-! ### sorted of pairs of a pair and a whole number -/
namespace Nst
open SrtO Tri
def IsNest (h : Heap) (v : Value) (x y z : Int) : Prop := ∃ (a : Addr) (o : Obj) (b : Addr) (t u r : Tok) (n : Nat), v = .ref a ∧ h.get? a = some o ∧ o.cls = .type "tuple" ∧ o.data = .seq #[.ref b, .int z r] n ∧ h.IsTuple b #[.int x t, .int y u]
theorem IsNest.keeps {h h' : Heap} {v : Value} {x y z : Int} (p : IsNest h v x y z) (k : ∀ b o, h.get? b = some o → o.cls = .type "tuple" → h'.get? b = some o) : IsNest h' v x y z := by
  obtain ⟨a, o, b, t, u, r, n, e, ho, hc, hd, ob, hb, cb, m, db⟩ := p
  exact ⟨a, o, b, t, u, r, n, e, k a o ho hc, hc, hd, ob, k b ob hb cb, cb, m, db⟩
section
variable {A : Around} {s : Shared} {b b' : Addr} {x y x' y' : Int} {t u t' u' : Tok}
end
section
variable {prog : Program} {w : World} {A : Around} {E : Value → Shared → Prop} {s : Shared}
end
end Nst
/-! ### exceptions as values -/
def IsEx (H : Hp) (cls : Value) (a : Addr) : Prop := ∃ φ : Heap → Prop, H a = some (.ext φ) ∧ ∀ h, φ h → ∃ (ob : Obj) (fv : Array Value), h.get? a = some ob ∧ Zc cls none ob ∧ ob.data = .fields fv
theorem IsEx.same {H H' : Hp} {cls : Value} {a : Addr} (x : IsEx H cls a) (e : Same H H') : IsEx H' cls a := by
  obtain ⟨φ, h1, h2⟩ := x
  exact ⟨φ, e _ _ h1, h2⟩
/-! ### values without addresses; what a value of the heap stands for, with the addresses of its lists and dicts -/
mutual
inductive Val where
  | non | bl (b : Bool) | int (i : Int) | str (x : Str) | ty (n : String) | opq (a : Addr) | exc (C : Value)
  | tup (xs : List Val) | lst (xs : List Val) | frz (xs : List Val) | dic (kvs : List (Key × Val))
  | fdc (kvs : List (Key × Val)) | gho (S : Addr → Option Cell)
/-- what stands at an address of the store: its parts have no lists and dicts but frozen ones, and addresses of the store -/
inductive Cell where
  | ins (C : Addr) (fs : List (Str × Val)) | lst (xs : List Val) | dic (kvs : List (Key × Val))
end
/-- a list that is read and never written -/
def Frzn (K : PySem.W.Frag) (H : Hp) (l : Addr) (vs : List V) : Prop := (∃ o, H l = some (.frz o (.lst vs))) ∨
  ∃ (o : Obj) (its : Array Value) (n : Nat), K.lookup l = some o ∧ o.cls = .type "list" ∧ o.dict = none ∧ o.data = .seq its n ∧ its.size ≤ sizeLine ∧ Vals vs its.toList
theorem Frzn.seq {K : PySem.W.Frag} {H : Hp} {l : Addr} {vs : List V} (h : Frzn K H l vs) : SqL K H l vs := by
  rcases h with ⟨o, h⟩ | h
  · exact .inl (.inr ⟨o, h⟩)
  · exact .inr h
theorem frzn_of {K : PySem.W.Frag} {H : Hp} {l : Addr} {vs : List V} (h : SqL K H l vs) : H l = some (.lst vs) ∨ Frzn K H l vs := by
  rcases h with (h | ⟨o, h⟩) | h
  · exact .inl h
  · exact .inr (.inl ⟨o, h⟩)
  · exact .inr (.inr h)
mutual
inductive Rp (K : PySem.W.Frag) (H : Hp) : List Addr → V → Val → Prop where
  | non : Rp K H [] .non .non
  | bl (b : Bool) : Rp K H [] (.bl b) (.bl b)
  | int (i : Int) : Rp K H [] (.int i) (.int i)
  | str (x : Str) : Rp K H [] (.str x) (.str x)
  | ty (n : String) : Rp K H [] (.ty n) (.ty n)
  | opq (a : Addr) : Rp K H [] (.ref a) (.opq a)
  | exc {a : Addr} {C : Value} : IsEx H C a → Rp K H [] (.ref a) (.exc C)
  | tup {F : List Addr} {t : Addr} {vs : List V} {ds : List Val} : H t = some (.tup vs) → RpA K H F vs ds → Rp K H F (.ref t) (.tup ds)
  | lst {F : List Addr} {l : Addr} {vs : List V} {ds : List Val} : H l = some (.lst vs) → RpA K H F vs ds → Rp K H (l :: F) (.ref l) (.lst ds)
  | frz {F : List Addr} {l : Addr} {vs : List V} {ds : List Val} : Frzn K H l vs → RpA K H F vs ds → Rp K H F (.ref l) (.frz ds)
  | dic {F : List Addr} {a : Addr} {kvs : List (Key × V)} {es : List (Key × Val)} : H a = some (.dK kvs) → RpD K H F kvs es → Rp K H (a :: F) (.ref a) (.dic es)
  | fdc {F : List Addr} {a : Addr} {o : Obj} {kvs : List (Key × V)} {es : List (Key × Val)} : H a = some (.frz o (.dK kvs)) → RpD K H F kvs es → Rp K H F (.ref a) (.fdc es)
  | gho {F : List Addr} {S : Addr → Option Cell} : F.Nodup → (∀ a, a ∈ F ↔ ∃ c, S a = some c) → (∀ a c, S a = some c → RpC K H a c) → Rp K H F .non (.gho S)
inductive RpA (K : PySem.W.Frag) (H : Hp) : List Addr → List V → List Val → Prop where
  | nil : RpA K H [] [] []
  | cons {F G : List Addr} {v : V} {d : Val} {vs : List V} {ds : List Val} : Rp K H F v d → RpA K H G vs ds → RpA K H (F ++ G) (v :: vs) (d :: ds)
inductive RpD (K : PySem.W.Frag) (H : Hp) : List Addr → List (Key × V) → List (Key × Val) → Prop where
  | nil : RpD K H [] [] []
  | cons {F G : List Addr} {k : Key} {v : V} {d : Val} {kvs : List (Key × V)} {es : List (Key × Val)} : Rp K H F v d → RpD K H G kvs es → RpD K H (F ++ G) ((k, v) :: kvs) ((k, d) :: es)
inductive RpN (K : PySem.W.Frag) (H : Hp) : List (Str × V) → List (Str × Val) → Prop where
  | nil : RpN K H [] []
  | cons {k : Str} {v : V} {d : Val} {kvs : List (Str × V)} {es : List (Str × Val)} : Rp K H [] v d → RpN K H kvs es → RpN K H ((k, v) :: kvs) ((k, d) :: es)
inductive RpC (K : PySem.W.Frag) (H : Hp) : Addr → Cell → Prop where
  | ins {a dx C : Addr} {us : List (Str × V)} {fs : List (Str × Val)} : H a = some (.ins C dx us) → H dx = some (.own a) → RpN K H us fs → RpC K H a (.ins C fs)
  | lst {a : Addr} {vs : List V} {ds : List Val} : H a = some (.lst vs) → RpA K H [] vs ds → RpC K H a (.lst ds)
  | dic {a : Addr} {kvs : List (Key × V)} {es : List (Key × Val)} : H a = some (.dK kvs) → RpD K H [] kvs es → RpC K H a (.dic es)
end
/-- a list, a dict or an instance stands there -/
def Mutb (H : Hp) (a : Addr) : Prop := (∃ xs, H a = some (.lst xs)) ∨ (∃ kvs, H a = some (.dK kvs)) ∨ ∃ C dx us, H a = some (.ins C dx us)
theorem Mutb.ex {H : Hp} {a : Addr} (h : Mutb H a) : H a ≠ none := by
  rcases h with ⟨_, h⟩ | ⟨_, h⟩ | ⟨_, _, _, h⟩ <;> rw [h] <;> exact fun z => by cases z
theorem Mutb.notup {H : Hp} {a : Addr} {vs : List V} (h : Mutb H a) : H a ≠ some (.tup vs) := by
  rcases h with ⟨_, h⟩ | ⟨_, h⟩ | ⟨_, _, _, h⟩ <;> rw [h] <;> exact fun z => by cases z
theorem Mutb.nofrz {H : Hp} {a : Addr} {o : Obj} {u : HO} (h : Mutb H a) : H a ≠ some (.frz o u) := by
  rcases h with ⟨_, h⟩ | ⟨_, h⟩ | ⟨_, _, _, h⟩ <;> rw [h] <;> exact fun z => by cases z
theorem Mutb.noown {H : Hp} {a b : Addr} (h : Mutb H a) : H a ≠ some (.own b) := by
  rcases h with ⟨_, h⟩ | ⟨_, h⟩ | ⟨_, _, _, h⟩ <;> rw [h] <;> exact fun z => by cases z
theorem Mutb.noext {H : Hp} {a : Addr} {φ : Heap → Prop} (h : Mutb H a) : H a ≠ some (.ext φ) := by
  rcases h with ⟨_, h⟩ | ⟨_, h⟩ | ⟨_, _, _, h⟩ <;> rw [h] <;> exact fun z => by cases z
theorem IsEx.kp {L : List Addr} {H H' : Hp} (k : Kp L H H') (m : ∀ a ∈ L, Mutb H a) {C : Value} {a : Addr} (h : IsEx H C a) : IsEx H' C a := by
  obtain ⟨φ, h1, h2⟩ := h
  rcases k a _ (fun z => (m a z).noext h1) h1 with z | ⟨_, _, z, _⟩
  · exact ⟨φ, z, h2⟩
  · cases z
theorem Frzn.kp {K : PySem.W.Frag} {L : List Addr} {H H' : Hp} (k : Kp L H H') (m : ∀ a ∈ L, Mutb H a) {l : Addr} {vs : List V} (h : Frzn K H l vs) : Frzn K H' l vs := by
  rcases h with ⟨o, h⟩ | h
  · rcases k l _ (fun z => (m l z).nofrz h) h with z | ⟨_, _, z, _⟩
    · exact .inl ⟨o, z⟩
    · cases z
  · exact .inr h
theorem Kp.dK {L : List Addr} {H H' : Hp} (a : Kp L H H') {l : Addr} {us : List (Key × V)} (n : l ∉ L) (h : H l = some (.dK us)) : H' l = some (.dK us) := by
  rcases a l _ n h with z | ⟨ps, qs, z, _⟩
  · exact z
  · cases z
theorem Kp.ins {L : List Addr} {H H' : Hp} (a : Kp L H H') {l C dx : Addr} {us : List (Str × V)} (n : l ∉ L) (h : H l = some (.ins C dx us)) : H' l = some (.ins C dx us) := by
  rcases a l _ n h with z | ⟨_, _, z, _⟩
  · exact z
  · cases z
theorem Kp.ownd {L : List Addr} {H H' : Hp} (a : Kp L H H') {l x : Addr} (n : l ∉ L) (h : H l = some (.own x)) : H' l = some (.own x) := by
  rcases a l _ n h with z | ⟨_, _, z, _⟩
  · exact z
  · cases z
theorem Kp.frz {L : List Addr} {H H' : Hp} (a : Kp L H H') {l : Addr} {o : Obj} {u : HO} (n : l ∉ L) (h : H l = some (.frz o u)) : H' l = some (.frz o u) := by
  rcases a l _ n h with z | ⟨_, _, z, _⟩
  · exact z
  · cases z
mutual
theorem Rp.kp {K : PySem.W.Frag} {L : List Addr} {H H' : Hp} (k : Kp L H H') (m : ∀ a ∈ L, Mutb H a) : ∀ {F : List Addr} {v : V} {d : Val}, Rp K H F v d → (∀ a ∈ F, a ∉ L) → Rp K H' F v d
  | _, _, _, .non, _ => .non
  | _, _, _, .bl b, _ => .bl b
  | _, _, _, .int b, _ => .int b
  | _, _, _, .str b, _ => .str b
  | _, _, _, .ty b, _ => .ty b
  | _, _, _, .opq b, _ => .opq b
  | _, _, _, .exc h, _ => .exc (h.kp k m)
  | _, _, _, .tup h r, dj => .tup (k.tup (fun z => (m _ z).notup h) h) (RpA.kp k m r dj)
  | _, _, _, .lst h r, dj => .lst (k.lst (dj _ List.mem_cons_self) h) (RpA.kp k m r fun a ha => dj a (List.mem_cons_of_mem _ ha))
  | _, _, _, .frz h r, dj => .frz (h.kp k m) (RpA.kp k m r dj)
  | _, _, _, .dic h r, dj => .dic (k.dK (dj _ List.mem_cons_self) h) (RpD.kp k m r fun a ha => dj a (List.mem_cons_of_mem _ ha))
  | _, _, _, .fdc h r, dj => .fdc (k.frz (fun z => (m _ z).nofrz h) h) (RpD.kp k m r dj)
  | _, _, _, .gho n f r, dj => .gho n f fun a c e => RpC.kp k m (r a c e) (dj a ((f a).mpr ⟨c, e⟩))
theorem RpA.kp {K : PySem.W.Frag} {L : List Addr} {H H' : Hp} (k : Kp L H H') (m : ∀ a ∈ L, Mutb H a) : ∀ {F : List Addr} {vs : List V} {ds : List Val}, RpA K H F vs ds → (∀ a ∈ F, a ∉ L) → RpA K H' F vs ds
  | _, _, _, .nil, _ => .nil
  | _, _, _, .cons h r, dj => .cons (Rp.kp k m h fun a ha => dj a (List.mem_append_left _ ha)) (RpA.kp k m r fun a ha => dj a (List.mem_append_right _ ha))
theorem RpD.kp {K : PySem.W.Frag} {L : List Addr} {H H' : Hp} (k : Kp L H H') (m : ∀ a ∈ L, Mutb H a) : ∀ {F : List Addr} {vs : List (Key × V)} {ds : List (Key × Val)}, RpD K H F vs ds → (∀ a ∈ F, a ∉ L) → RpD K H' F vs ds
  | _, _, _, .nil, _ => .nil
  | _, _, _, .cons h r, dj => .cons (Rp.kp k m h fun a ha => dj a (List.mem_append_left _ ha)) (RpD.kp k m r fun a ha => dj a (List.mem_append_right _ ha))
theorem RpN.kp {K : PySem.W.Frag} {L : List Addr} {H H' : Hp} (k : Kp L H H') (m : ∀ a ∈ L, Mutb H a) : ∀ {vs : List (Str × V)} {ds : List (Str × Val)}, RpN K H vs ds → RpN K H' vs ds
  | _, _, .nil => .nil
  | _, _, .cons h r => .cons (Rp.kp k m h fun _ z => nomatch z) (RpN.kp k m r)
theorem RpC.kp {K : PySem.W.Frag} {L : List Addr} {H H' : Hp} (k : Kp L H H') (m : ∀ a ∈ L, Mutb H a) : ∀ {a : Addr} {c : Cell}, RpC K H a c → a ∉ L → RpC K H' a c
  | _, _, .ins h1 h2 r, n => .ins (k.ins n h1) (k.ownd (fun z => (m _ z).noown h2) h2) (RpN.kp k m r)
  | _, _, .lst h r, n => .lst (k.lst n h) (RpA.kp k m r fun _ z => nomatch z)
  | _, _, .dic h r, n => .dic (k.dK n h) (RpD.kp k m r fun _ z => nomatch z)
end
theorem RpC.mutb {K : PySem.W.Frag} {H : Hp} {a : Addr} {c : Cell} (h : RpC K H a c) : Mutb H a := by
  cases h with
  | ins h _ _ => exact .inr (.inr ⟨_, _, _, h⟩)
  | lst h _ => exact .inl ⟨_, h⟩
  | dic h _ => exact .inr (.inl ⟨_, h⟩)
mutual
theorem Rp.mutb {K : PySem.W.Frag} {H : Hp} : ∀ {F : List Addr} {v : V} {d : Val}, Rp K H F v d → ∀ a ∈ F, Mutb H a
  | _, _, _, .non, _, h => nomatch h
  | _, _, _, .bl _, _, h => nomatch h
  | _, _, _, .int _, _, h => nomatch h
  | _, _, _, .str _, _, h => nomatch h
  | _, _, _, .ty _, _, h => nomatch h
  | _, _, _, .opq _, _, h => nomatch h
  | _, _, _, .exc _, _, h => nomatch h
  | _, _, _, .tup _ r, a, ha => RpA.mutb r a ha
  | _, _, _, .lst h r, a, ha => (List.mem_cons.mp ha).elim (fun e => e ▸ .inl ⟨_, h⟩) fun z => RpA.mutb r a z
  | _, _, _, .frz _ r, a, ha => RpA.mutb r a ha
  | _, _, _, .dic h r, a, ha => (List.mem_cons.mp ha).elim (fun e => e ▸ .inr (.inl ⟨_, h⟩)) fun z => RpD.mutb r a z
  | _, _, _, .fdc _ r, a, ha => RpD.mutb r a ha
  | _, _, _, .gho _ f r, a, ha => let ⟨c, e⟩ := (f a).mp ha; (r a c e).mutb
theorem RpA.mutb {K : PySem.W.Frag} {H : Hp} : ∀ {F : List Addr} {vs : List V} {ds : List Val}, RpA K H F vs ds → ∀ a ∈ F, Mutb H a
  | _, _, _, .nil, _, h => nomatch h
  | _, _, _, .cons h r, a, ha => (List.mem_append.mp ha).elim (fun z => Rp.mutb h a z) fun z => RpA.mutb r a z
theorem RpD.mutb {K : PySem.W.Frag} {H : Hp} : ∀ {F : List Addr} {vs : List (Key × V)} {ds : List (Key × Val)}, RpD K H F vs ds → ∀ a ∈ F, Mutb H a
  | _, _, _, .nil, _, h => nomatch h
  | _, _, _, .cons h r, a, ha => (List.mem_append.mp ha).elim (fun z => Rp.mutb h a z) fun z => RpD.mutb r a z
end
mutual
/-- no list and no dict within -/
def Val.flat : Val → Bool
  | .tup xs => Val.flatAll xs
  | .lst _ => false
  | .frz xs => Val.flatAll xs
  | .dic _ => false
  | .fdc es => Val.flatAllD es
  | .gho _ => false
  | _ => true
def Val.flatAll : List Val → Bool
  | [] => true
  | x :: xs => x.flat && Val.flatAll xs
def Val.flatAllD : List (Key × Val) → Bool
  | [] => true
  | (_, x) :: xs => x.flat && Val.flatAllD xs
end
mutual
theorem Rp.flat {K : PySem.W.Frag} {H : Hp} : ∀ {F : List Addr} {v : V} {d : Val}, Rp K H F v d → d.flat = true → F = []
  | _, _, _, .non, _ => rfl
  | _, _, _, .bl _, _ => rfl
  | _, _, _, .int _, _ => rfl
  | _, _, _, .str _, _ => rfl
  | _, _, _, .ty _, _ => rfl
  | _, _, _, .opq _, _ => rfl
  | _, _, _, .exc _, _ => rfl
  | _, _, _, .tup _ r, h => RpA.flat r h
  | _, _, _, .lst _ _, h => nomatch h
  | _, _, _, .frz _ r, h => RpA.flat r h
  | _, _, _, .dic _ _, h => nomatch h
  | _, _, _, .fdc _ r, h => RpD.flat r h
  | _, _, _, .gho _ _ _, h => nomatch h
theorem RpA.flat {K : PySem.W.Frag} {H : Hp} : ∀ {F : List Addr} {vs : List V} {ds : List Val}, RpA K H F vs ds → Val.flatAll ds = true → F = []
  | _, _, _, .nil, _ => rfl
  | _, _, _, .cons (d := d) (ds := ds) h r, e => by
    have e2 : (d.flat && Val.flatAll ds) = true := e
    rw [Bool.and_eq_true] at e2
    rw [Rp.flat h e2.1, RpA.flat r e2.2]
    rfl
theorem RpD.flat {K : PySem.W.Frag} {H : Hp} : ∀ {F : List Addr} {vs : List (Key × V)} {ds : List (Key × Val)}, RpD K H F vs ds → Val.flatAllD ds = true → F = []
  | _, _, _, .nil, _ => rfl
  | _, _, _, .cons (d := d) (es := ds) h r, e => by
    have e2 : (d.flat && Val.flatAllD ds) = true := e
    rw [Bool.and_eq_true] at e2
    rw [Rp.flat h e2.1, RpD.flat r e2.2]
    rfl
end
theorem RpA.len {K : PySem.W.Frag} {H : Hp} : ∀ {F : List Addr} {vs : List V} {ds : List Val}, RpA K H F vs ds → vs.length = ds.length
  | _, _, _, .nil => rfl
  | _, _, _, .cons _ r => congrArg (· + 1) r.len
theorem RpA.app {K : PySem.W.Frag} {H : Hp} : ∀ {F G : List Addr} {vs ws : List V} {ds es : List Val}, RpA K H F vs ds → RpA K H G ws es → RpA K H (F ++ G) (vs ++ ws) (ds ++ es)
  | _, _, _, _, _, _, .nil, h => h
  | _, _, _, _, _, _, .cons (F := A) (G := B) a t, h => by
    rw [List.append_assoc]
    exact .cons a (RpA.app t h)
theorem RpA.one {K : PySem.W.Frag} {H : Hp} {F : List Addr} {v : V} {d : Val} (h : Rp K H F v d) : RpA K H F [v] [d] := by
  have := RpA.cons h .nil
  rwa [List.append_nil] at this
/-- the i-th item, with part of the addresses -/
theorem RpA.get {K : PySem.W.Frag} {H : Hp} : ∀ {F : List Addr} {vs : List V} {ds : List Val} {i : Nat} {d : Val}, RpA K H F vs ds → ds[i]? = some d → ∃ v G, vs[i]? = some v ∧ Rp K H G v d ∧ (∀ a ∈ G, a ∈ F) ∧ (F.Nodup → G.Nodup)
  | _, _, _, _, _, .nil, e => by simp at e
  | _, _, _, 0, d, .cons (F := A) (v := v) h t, e => ⟨v, A, rfl, by
      have q := Option.some.inj (show some _ = some d from e)
      rw [← q]
      exact h, fun a ha => List.mem_append_left _ ha, fun n => (List.nodup_append.mp n).1⟩
  | _, _, _, i + 1, d, .cons h t, e => by
    obtain ⟨v, G, h1, h2, h3, h4⟩ := RpA.get (i := i) t e
    exact ⟨v, G, h1, h2, fun a ha => List.mem_append_right _ (h3 a ha), fun n => h4 (List.nodup_append.mp n).2.1⟩
/-- kept where nothing of a tuple, a frozen list, or of the addresses is changed: plain growth -/
theorem Rp.same {K : PySem.W.Frag} {H H' : Hp} {F : List Addr} {v : V} {d : Val} (h : Rp K H F v d) (e : Same H H') : Rp K H' F v d := h.kp (L := []) (.of e) (fun _ z => nomatch z) fun _ _ z => nomatch z
theorem RpA.same {K : PySem.W.Frag} {H H' : Hp} {F : List Addr} {v : List V} {d : List Val} (h : RpA K H F v d) (e : Same H H') : RpA K H' F v d := h.kp (L := []) (.of e) (fun _ z => nomatch z) fun _ _ z => nomatch z
theorem RpA.sub {K : PySem.W.Frag} {H : Hp} : ∀ {F : List Addr} {vs : List V} {ds : List Val}, RpA K H F vs ds → F = [] → ∀ (i : Nat) (d : Val), ds[i]? = some d → ∃ v, vs[i]? = some v ∧ Rp K H [] v d := fun {F vs ds} h e i d hd => by
  obtain ⟨v, G, h1, h2, h3, _⟩ := h.get hd
  have : G = [] := by
    cases G with
    | nil => rfl
    | cons a r =>
      have := h3 a List.mem_cons_self
      rw [e] at this
      cases this
  rw [this] at h2
  exact ⟨v, h1, h2⟩
/-! ### the slots -/
abbrev VEnv := List (Option Val)
abbrev Fp := Nat → List Addr
/-- what may have been changed: the lists of the slots of eff -/
structure Eff (ms eff : List Nat) (Fs : Fp) (H : Hp) (Fs' : Fp) (H' : Hp) : Prop where
  sub : ∀ j ∈ eff, j ∈ ms
  kp : Kp (eff.flatMap Fs) H H'
  gr : ∀ a, H' a = none → H a = none
  out : ∀ j ∈ ms, j ∉ eff → Fs' j = Fs j
  foot : ∀ j ∈ ms, ∀ a ∈ Fs' j, a ∈ Fs j ∨ H a = none
theorem Eff.refl {ms : List Nat} {Fs : Fp} {H : Hp} : Eff ms [] Fs H Fs H := ⟨(fun _ h => nomatch h), Kp.refl _ _, fun _ h => h, fun _ _ _ => rfl, fun _ _ _ h => .inl h⟩
theorem Eff.same {ms : List Nat} {Fs : Fp} {H H' : Hp} (e : Same H H') : Eff ms [] Fs H Fs H' := ⟨(fun _ h => nomatch h), .of e, fun _ h => e.free h, fun _ _ _ => rfl, fun _ _ _ h => .inl h⟩
theorem Eff.kps {ms : List Nat} {Fs : Fp} {H H' : Hp} (k : Kp [] H H') : Eff ms [] Fs H Fs H' := ⟨(fun _ h => nomatch h), k, fun _ h => k.free List.not_mem_nil h, fun _ _ _ => rfl, fun _ _ _ h => .inl h⟩
theorem Eff.trans {ms e1 e2 : List Nat} {F0 F1 F2 : Fp} {H0 H1 H2 : Hp} (a : Eff ms e1 F0 H0 F1 H1) (b : Eff ms e2 F1 H1 F2 H2) : Eff ms (e1 ++ e2) F0 H0 F2 H2 where
  sub := fun j hj => (List.mem_append.mp hj).elim (a.sub j) (b.sub j)
  kp := fun x o hx hH => by
    have n1 : x ∉ e1.flatMap F0 := fun z => hx (by
      rw [List.flatMap_append]
      exact List.mem_append_left _ z)
    have n2 : x ∉ e2.flatMap F1 := fun z => by
      obtain ⟨j, hj, hx1⟩ := List.mem_flatMap.mp z
      rcases a.foot j (b.sub j hj) x hx1 with y | y
      · exact hx (by
          rw [List.flatMap_append]
          exact List.mem_append_right _ (List.mem_flatMap.mpr ⟨j, hj, y⟩))
      · rw [hH] at y
        cases y
    rcases a.kp x o n1 hH with z | ⟨ps, qs, rfl, z⟩
    · exact b.kp x o n2 z
    · rcases b.kp x _ n2 z with y | ⟨_, qs', _, y⟩
      · exact .inr ⟨ps, qs, rfl, y⟩
      · exact .inr ⟨ps, qs', rfl, y⟩
  gr := fun x h => a.gr x (b.gr x h)
  out := fun j hj hn => by rw [b.out j hj fun z => hn (List.mem_append_right _ z), a.out j hj fun z => hn (List.mem_append_left _ z)]
  foot := fun j hj x hx => by
    rcases b.foot j hj x hx with y | y
    · exact a.foot j hj x y
    · exact .inr (a.gr x y)
theorem Eff.mono {ms e e' : List Nat} {F0 F1 : Fp} {H0 H1 : Hp} (a : Eff ms e F0 H0 F1 H1) (h : ∀ j ∈ e, j ∈ e') (h' : ∀ j ∈ e', j ∈ ms) : Eff ms e' F0 H0 F1 H1 :=
  ⟨h', a.kp.mono fun x hx => by
    obtain ⟨j, hj, z⟩ := List.mem_flatMap.mp hx
    exact List.mem_flatMap.mpr ⟨j, h j hj, z⟩, a.gr, fun j hj hn => a.out j hj fun z => hn (h j z), a.foot⟩
/-- what is fixed in a def: the frame, the tables, the slots whose lists are its own, how many slots -/
structure Vc where
  K : PySem.W.Frag
  Ps : TL
  ms : List Nat
  N : Nat
  E : XK := fun _ _ _ => False
  xe : Value → Prop := fun _ => False
  al : Bool := false
  g : Nat := 0
/-- what is wanted of an exception that leaves from here -/
def Xk (c : Vc) (Fs : Fp) (H : Hp) : Prop := ∀ cls H' Fs', Eff c.ms c.ms Fs H Fs' H' → Tb c.Ps H' → c.xe cls → c.E cls none H'
theorem Xk.eff {c : Vc} {e : List Nat} {Fs Fs' : Fp} {H H' : Hp} (x : Xk c Fs H) (h : Eff c.ms e Fs H Fs' H') : Xk c Fs' H' := fun cls H2 Fs2 h2 t z =>
  x cls H2 Fs2 ((h.trans h2).mono (fun j hj => (List.mem_append.mp hj).elim (h.sub j) id) fun _ z => z) t z
/-- what a slot holds; behind the slots stands the store, which no name holds -/
def SlV (n : Nat) (σ : L2.St) (i : Nat) (v : V) : Prop := (i < n → σ[i]? = some (some v)) ∧ (n ≤ i → v = .non)
theorem SlV.of {n : Nat} {σ : L2.St} {i : Nat} {v : V} (h : i < n) (e : σ[i]? = some (some v)) : SlV n σ i v := ⟨fun _ => e, fun z => by omega⟩
theorem SlV.lt {n : Nat} {σ : L2.St} {i : Nat} {v : V} (h : SlV n σ i v) (e : i < n) : σ[i]? = some (some v) := h.1 e
theorem lt_of_blt {i n : Nat} (h : Nat.blt i n = true) : i < n := Nat.le_of_ble_eq_true h
structure Sr (c : Vc) (env : VEnv) (σ : L2.St) (H : Hp) (Fs : Fp) : Prop where
  le : env.length = c.N + c.g
  ls : σ.length = c.N
  at_ : ∀ i d, env[i]? = some (some d) → ∃ v, SlV c.N σ i v ∧ Rp c.K H (Fs i) v d
  emp : ∀ i, (∀ d, env[i]? ≠ some (some d)) → Fs i = []
  sep : ∀ i ∈ c.ms, ∀ j, j ≠ i → ∀ a ∈ Fs i, a ∉ Fs j
  nd : ∀ i ∈ c.ms, (Fs i).Nodup
  tb : Tb c.Ps H
  xk : Xk c Fs H
theorem Sr.mutb {c : Vc} {env : VEnv} {σ : L2.St} {H : Hp} {Fs : Fp} (S : Sr c env σ H Fs) (i : Nat) : ∀ a ∈ Fs i, Mutb H a := fun a ha => by
  by_cases h : ∃ d, env[i]? = some (some d)
  · obtain ⟨d, hd⟩ := h
    obtain ⟨v, _, r⟩ := S.at_ i d hd
    exact r.mutb a ha
  · rw [S.emp i fun d hd => h ⟨d, hd⟩] at ha
    cases ha
theorem Sr.effm {c : Vc} {env : VEnv} {σ : L2.St} {H : Hp} {Fs : Fp} (S : Sr c env σ H Fs) (eff : List Nat) : ∀ a ∈ eff.flatMap Fs, Mutb H a := fun a ha => by
  obtain ⟨j, _, h⟩ := List.mem_flatMap.mp ha
  exact S.mutb j a h
/-- the addresses of a value lie in no own slot but those of src -/
def Src (ms src : List Nat) (F : List Addr) (Fs : Fp) : Prop := ∀ a ∈ F, ∀ j ∈ ms, j ∉ src → a ∉ Fs j
theorem Src.nil {ms src : List Nat} {Fs : Fp} : Src ms src [] Fs := fun _ h => nomatch h
theorem Src.mono {ms src src' : List Nat} {F : List Addr} {Fs : Fp} (h : Src ms src F Fs) (k : ∀ j ∈ src, j ∈ src') : Src ms src' F Fs := fun a ha j hj hn => h a ha j hj fun z => hn (k j z)
def disj (a b : List Nat) : Bool := a.all fun x => !b.contains x
theorem disj_iff {a b : List Nat} (h : disj a b = true) {x : Nat} (hx : x ∈ a) : x ∉ b := fun z => by
  have := List.all_eq_true.mp h x hx
  simp [z] at this
/-- a value waits while something else goes on -/
theorem Rp.eff {c : Vc} {env : VEnv} {σ : L2.St} {H H' : Hp} {Fs Fs' : Fp} {src eff : List Nat} {F : List Addr} {v : V} {d : Val} (S : Sr c env σ H Fs) (e : Eff c.ms eff Fs H Fs' H') (r : Rp c.K H F v d) (s : Src c.ms src F Fs) (hd : disj src eff = true) : Rp c.K H' F v d ∧ Src c.ms src F Fs' := by
  refine ⟨r.kp e.kp (S.effm eff) fun a ha z => ?_, fun a ha j hj hn z => ?_⟩
  · obtain ⟨j, hj, h⟩ := List.mem_flatMap.mp z
    exact s a ha j (e.sub j hj) (fun y => disj_iff hd y hj) h
  · rcases e.foot j hj a z with y | y
    · exact s a ha j hj hn y
    · exact (r.mutb a ha).ex y
theorem RpA.eff {c : Vc} {env : VEnv} {σ : L2.St} {H H' : Hp} {Fs Fs' : Fp} {src eff : List Nat} {F : List Addr} {v : List V} {d : List Val} (S : Sr c env σ H Fs) (e : Eff c.ms eff Fs H Fs' H') (r : RpA c.K H F v d) (s : Src c.ms src F Fs) (hd : disj src eff = true) : RpA c.K H' F v d ∧ Src c.ms src F Fs' := by
  refine ⟨r.kp e.kp (S.effm eff) fun a ha z => ?_, fun a ha j hj hn z => ?_⟩
  · obtain ⟨j, hj, h⟩ := List.mem_flatMap.mp z
    exact s a ha j (e.sub j hj) (fun y => disj_iff hd y hj) h
  · rcases e.foot j hj a z with y | y
    · exact s a ha j hj hn y
    · exact (r.mutb a ha).ex y
/-- plain growth -/
theorem Sr.grow {c : Vc} {env : VEnv} {σ : L2.St} {H H' : Hp} {Fs : Fp} (S : Sr c env σ H Fs) (k : Kp [] H H') (t : Tb c.Ps H') : Sr c env σ H' Fs :=
  ⟨S.le, S.ls, fun i d h => by
    obtain ⟨v, h1, r⟩ := S.at_ i d h
    exact ⟨v, h1, r.kp k (fun _ z => nomatch z) fun _ _ z => nomatch z⟩, S.emp, S.sep, S.nd, t, S.xk.eff (.kps k)⟩
theorem Sr.same {c : Vc} {env : VEnv} {σ : L2.St} {H H' : Hp} {Fs : Fp} (S : Sr c env σ H Fs) (e : Same H H') : Sr c env σ H' Fs := S.grow (.of e) (S.tb.same e)
def upF (Fs : Fp) (i : Nat) (F : List Addr) : Fp := fun j => if j = i then F else Fs j
theorem upF_self {Fs : Fp} {i : Nat} {F : List Addr} : upF Fs i F i = F := by unfold upF; rw [if_pos rfl]
theorem upF_ne {Fs : Fp} {i j : Nat} {F : List Addr} (h : j ≠ i) : upF Fs i F j = Fs j := by unfold upF; rw [if_neg h]
theorem set_at {α : Type} {l : List (Option α)} {i j : Nat} {x y : α} (h : (l.set i (some x))[j]? = some (some y)) : (j = i ∧ x = y) ∨ (j ≠ i ∧ l[j]? = some (some y)) := by
  by_cases e : j = i
  · subst e
    rw [List.getElem?_set] at h
    simp at h
    exact .inl ⟨rfl, h.2⟩
  · rw [List.getElem?_set_ne (fun z => e z.symm)] at h
    exact .inr ⟨e, h⟩
/-- a slot is given a value -/
theorem Sr.put {c : Vc} {env : VEnv} {σ : L2.St} {H : Hp} {Fs : Fp} (S : Sr c env σ H Fs) {i : Nat} (hi : i < c.N) {v : V} {d : Val} {F : List Addr} (r : Rp c.K H F v d) (ho : i ∈ c.ms → F.Nodup ∧ ∀ j, j ≠ i → ∀ a ∈ F, a ∉ Fs j) (hv : Src c.ms [i] F Fs) (xk : Xk c (upF Fs i F) H) : Sr c (env.set i (some d)) (σ.set i (some v)) H (upF Fs i F) where
  le := by rw [List.length_set, S.le]
  ls := by rw [List.length_set, S.ls]
  at_ := fun j e h => by
    rcases set_at h with ⟨rfl, rfl⟩ | ⟨ne, h⟩
    · refine ⟨v, .of hi ?_, by rw [upF_self]; exact r⟩
      rw [List.getElem?_set_self (by rw [S.ls]; exact hi)]
    · obtain ⟨u, h1, h2⟩ := S.at_ j e h
      refine ⟨u, ⟨fun z => ?_, h1.2⟩, by rw [upF_ne ne]; exact h2⟩
      rw [List.getElem?_set_ne (fun z => ne z.symm)]
      exact h1.1 z
  emp := fun j h => by
    by_cases e : j = i
    · subst e
      exact absurd (by rw [List.getElem?_set_self (by rw [S.le]; omega)]) (h d)
    · rw [upF_ne e]
      refine S.emp j fun d' h' => h d' ?_
      rw [List.getElem?_set_ne (fun z => e z.symm)]
      exact h'
  sep := fun j hj k hk a ha z => by
    by_cases e : j = i
    · subst e
      rw [upF_self] at ha
      rw [upF_ne hk] at z
      exact (ho hj).2 k hk a ha z
    · rw [upF_ne e] at ha
      by_cases e2 : k = i
      · subst e2
        rw [upF_self] at z
        exact hv a z j hj (fun q => e (List.mem_singleton.mp q)) ha
      · rw [upF_ne e2] at z
        exact S.sep j hj k hk a ha z
  nd := fun j hj => by
    by_cases e : j = i
    · subst e
      rw [upF_self]
      exact (ho hj).1
    · rw [upF_ne e]
      exact S.nd j hj
  tb := S.tb
  xk := xk
/-! ### expressions over values -/
abbrev VW := VEnv → (Val → VEnv → Prop) → Prop
abbrev VWT := VEnv → (Bool → VEnv → Prop) → Prop
abbrev VWA := VEnv → (List Val → VEnv → Prop) → Prop
/-- new, but for the lists of the slots mv -/
def Frs (fr : Option (List Nat)) (H : Hp) (Fs : Fp) (F : List Addr) : Prop := ∀ mv, fr = some mv → F.Nodup ∧ ∀ a ∈ F, H a = none ∨ ∃ j ∈ mv, a ∈ Fs j
theorem Frs.nil {fr : Option (List Nat)} {H : Hp} {Fs : Fp} : Frs fr H Fs [] := fun _ _ => ⟨List.nodup_nil, fun _ h => nomatch h⟩
theorem Frs.no {H : Hp} {Fs : Fp} {F : List Addr} : Frs none H Fs F := fun _ h => nomatch h
structure Ok0 (c : Vc) (eff : List Nat) (σ : L2.St) (H : Hp) (Fs : Fp) (env' : VEnv) (H' : Hp) (Fs' : Fp) : Prop where
  sr : Sr c env' σ H' Fs'
  ef : Eff c.ms eff Fs H Fs' H'
  vl : ∀ j, j ∉ c.ms → ∀ a ∈ Fs' j, a ∈ Fs j
theorem Ok0.refl {c : Vc} {σ : L2.St} {H : Hp} {Fs : Fp} {env : VEnv} (S : Sr c env σ H Fs) : Ok0 c [] σ H Fs env H Fs := ⟨S, .refl, fun _ _ _ h => h⟩
theorem Ok0.trans {c : Vc} {e1 e2 : List Nat} {σ : L2.St} {H H1 H2 : Hp} {Fs Fs1 Fs2 : Fp} {env1 env2 : VEnv} (a : Ok0 c e1 σ H Fs env1 H1 Fs1) (b : Ok0 c e2 σ H1 Fs1 env2 H2 Fs2) : Ok0 c (e1 ++ e2) σ H Fs env2 H2 Fs2 :=
  ⟨b.sr, a.ef.trans b.ef, fun j h x hx => a.vl j h x (b.vl j h x hx)⟩
theorem Ok0.grow {c : Vc} {e : List Nat} {σ : L2.St} {H H1 H2 : Hp} {Fs Fs1 : Fp} {env1 : VEnv} (a : Ok0 c e σ H Fs env1 H1 Fs1) (s : Same H1 H2) : Ok0 c e σ H Fs env1 H2 Fs1 := by
  have b : Ok0 c (e ++ []) σ H Fs env1 H2 Fs1 := a.trans ⟨a.sr.same s, .same s, fun _ _ _ h => h⟩
  rwa [List.append_nil] at b
def sub (a b : List Nat) : Bool := a.all fun x => b.contains x
theorem sub_iff {a b : List Nat} (h : sub a b = true) : ∀ x ∈ a, x ∈ b := fun x hx => by
  have := List.all_eq_true.mp h x hx
  simpa using this
theorem Ok0.weak {c : Vc} {e e' : List Nat} {σ : L2.St} {H H1 : Hp} {Fs Fs1 : Fp} {env1 : VEnv} (a : Ok0 c e σ H Fs env1 H1 Fs1) (h : ∀ j ∈ e, j ∈ e') (h' : ∀ j ∈ e', j ∈ c.ms) : Ok0 c e' σ H Fs env1 H1 Fs1 := ⟨a.sr, a.ef.mono h h', a.vl⟩
structure SimE (c : Vc) (t : TE) (src : List Nat) (fr : Option (List Nat)) (eff : List Nat) (w : VW) : Prop where
  sim : ∀ (env : VEnv) (σ : L2.St) (H : Hp) (Fs : Fp) (Q : VK) (R : Val → VEnv → Prop), Sr c env σ H Fs → w env R →
    (∀ v d F env' H' Fs', Ok0 c eff σ H Fs env' H' Fs' → Rp c.K H' F v d → Src c.ms src F Fs' → Frs fr H Fs' F → R d env' → Q v H') → t σ H Q
structure SimT (c : Vc) (t : TT) (eff : List Nat) (w : VWT) : Prop where
  sim : ∀ (env : VEnv) (σ : L2.St) (H : Hp) (Fs : Fp) (Q : Bool → Hp → Prop) (R : Bool → VEnv → Prop), Sr c env σ H Fs → w env R →
    (∀ b env' H' Fs', Ok0 c eff σ H Fs env' H' Fs' → R b env' → Q b H') → t σ H Q
section
variable {c : Vc} {ta tb tc t : TE} {sa sb sc s : List Nat} {fa fb fc f : Option (List Nat)} {ea eb ec e : List Nat} {wa wb wc w : VW}
/-! names, constants -/
def wVar (i : Nat) : VW := fun env Q => match env[i]? with
  | some (some d) => Q d env
  | _ => False
theorem wVar_is {i : Nat} {env : VEnv} {Q : Val → VEnv → Prop} (h : wVar i env Q) : ∃ d, env[i]? = some (some d) ∧ Q d env := by
  unfold wVar at h
  split at h
  · exact ⟨_, ‹_›, h⟩
  · exact h.elim
theorem simE_var {i : Nat} (hi : c.ms.contains i = false) (hN : Nat.blt i c.N = true := by rfl) : SimE c (tVar i) [] none [] (wVar i) := ⟨fun env σ H Fs Q R S h k => by
  obtain ⟨d, hd, h⟩ := wVar_is h
  obtain ⟨v, hv, r⟩ := S.at_ i d hd
  have hv := hv.1 (lt_of_blt hN)
  have n : i ∉ c.ms := fun z => by simp [z] at hi
  exact ⟨v, hv, k v d (Fs i) env H Fs (.refl S) r (fun a ha j hj _ z => S.sep j hj i (fun q => n (q ▸ hj)) a z ha) .no h⟩⟩
theorem simE_own {i : Nat} (hN : Nat.blt i c.N = true := by rfl) : SimE c (tVar i) [i] none [] (wVar i) := ⟨fun env σ H Fs Q R S h k => by
  obtain ⟨d, hd, h⟩ := wVar_is h
  obtain ⟨v, hv, r⟩ := S.at_ i d hd
  have hv := hv.1 (lt_of_blt hN)
  exact ⟨v, hv, k v d (Fs i) env H Fs (.refl S) r (fun a ha j hj n z => S.sep j hj i (fun q => n (List.mem_singleton.mpr q.symm)) a z ha) .no h⟩⟩
/-- an own list that is handed on for good -/
theorem simE_move {i : Nat} (hi : c.ms.contains i = true) (hN : Nat.blt i c.N = true := by rfl) : SimE c (tVar i) [i] (some [i]) [] (wVar i) := ⟨fun env σ H Fs Q R S h k => by
  obtain ⟨d, hd, h⟩ := wVar_is h
  obtain ⟨v, hv, r⟩ := S.at_ i d hd
  have hv := hv.1 (lt_of_blt hN)
  refine ⟨v, hv, k v d (Fs i) env H Fs (.refl S) r (fun a ha j hj n z => S.sep j hj i (fun q => n (List.mem_singleton.mpr q.symm)) a z ha) (fun mv e => ?_) h⟩
  cases e
  exact ⟨S.nd i (by simpa using hi), fun a ha => .inr ⟨i, List.mem_singleton.mpr rfl, ha⟩⟩⟩
def wFlat (w : VW) : VW := fun env Q => w env fun d env' => d.flat = true ∧ Q d env'
theorem simE_flat (h : SimE c t s f e w) : SimE c t [] (some []) e (wFlat w) := ⟨fun env σ H Fs Q R S hw k =>
  h.sim env σ H Fs Q _ S hw fun v d F env' H' Fs' o r _ _ ⟨hf, q⟩ => by
    have z := r.flat hf
    subst z
    exact k v d [] env' H' Fs' o r .nil .nil q⟩
def wC (d : Val) : VW := fun env Q => Q d env
theorem simE_c {v : V} {d : Val} (h : ∀ K H, Rp K H [] v d) : SimE c (tC v) [] (some []) [] (wC d) := ⟨fun env σ H Fs Q R S hw k => k v d [] env H Fs (.refl S) (h _ _) .nil .nil hw⟩
theorem simE_int {i : Int} : SimE c (tC (.int i)) [] (some []) [] (wC (.int i)) := simE_c fun _ _ => .int i
theorem simE_bl {b : Bool} : SimE c (tC (.bl b)) [] (some []) [] (wC (.bl b)) := simE_c fun _ _ => .bl b
theorem simE_ty {x : String} : SimE c (tC (.ty x)) [] (some []) [] (wC (.ty x)) := simE_c fun _ _ => .ty x
theorem SimE.weak (h : SimE c t s f e w) {s' e' : List Nat} (hs : sub s s' = true) (he : sub e e' = true) (hm : sub e' c.ms = true) : SimE c t s' f e' w := ⟨fun env σ H Fs Q R S hw k =>
  h.sim env σ H Fs Q _ S hw fun v d F env' H' Fs' o r sr fr q => k v d F env' H' Fs' (o.weak (sub_iff he) (sub_iff hm)) r (sr.mono (sub_iff hs)) fr q⟩
/-! two-place operations whose outcome holds no list -/
def R2S (K : PySem.W.Frag) (r : R2) (g : Val → Val → (Val → Prop) → Prop) : Prop := ∀ (H : Hp) (x y : V) (d e : Val) (F G : List Addr) (Q : VK) (R : Val → Prop), Rp K H F x d → Rp K H G y e → g d e R → (∀ v u, Rp K H [] v u → R u → Q v H) → r x y H Q
def wOp (g : Val → Val → (Val → Prop) → Prop) (wa wb : VW) : VW := fun env Q => wa env fun x env1 => wb env1 fun y env2 => g x y fun z => Q z env2
theorem simE_op {r : R2} {g : Val → Val → (Val → Prop) → Prop} (hr : R2S c.K r g) (ha : SimE c ta sa fa ea wa) (hb : SimE c tb sb fb eb wb) (hd : disj sa eb = true) : SimE c (tOp r ta tb) [] (some []) (ea ++ eb) (wOp g wa wb) := ⟨fun env σ H Fs Q R S h k =>
  ha.sim env σ H Fs _ _ S h fun x d F env1 H1 Fs1 o1 r1 s1 _ h1 => hb.sim env1 σ H1 Fs1 _ _ o1.sr h1 fun y e G env2 H2 Fs2 o2 r2 s2 _ h2 =>
    hr H2 x y d e F G Q _ (r1.eff o1.sr o2.ef s1 hd).1 r2 h2 fun v u ru q => k v u [] env2 H2 Fs2 (o1.trans o2) ru .nil .nil q⟩
def fI (g : Int → Int → Val) : Val → Val → (Val → Prop) → Prop
  | .int a, .int b, Q => Q (g a b)
  | _, _, _ => False
def fIc (C : Int → Int → Prop) (g : Int → Int → Val) : Val → Val → (Val → Prop) → Prop
  | .int a, .int b, Q => C a b ∧ Q (g a b)
  | _, _, _ => False
theorem r2_ii {K : PySem.W.Frag} {g : Int → Int → Int} : R2S K (rI0 fun i j => .int (g i j)) (fI fun i j => .int (g i j)) := fun H x y d e F G Q R h1 h2 h k => by
  cases d <;> try exact h.elim
  cases e <;> try exact h.elim
  cases h1
  cases h2
  exact ⟨_, _, rfl, rfl, k _ _ (.int _) h⟩
theorem r2_ib {K : PySem.W.Frag} {g : Int → Int → Bool} : R2S K (rI0 fun i j => .bl (g i j)) (fI fun i j => .bl (g i j)) := fun H x y d e F G Q R h1 h2 h k => by
  cases d <;> try exact h.elim
  cases e <;> try exact h.elim
  cases h1
  cases h2
  exact ⟨_, _, rfl, rfl, k _ _ (.bl _) h⟩
theorem r2_iic {K : PySem.W.Frag} {C : Int → Int → Prop} {g : Int → Int → Int} : R2S K (rI C fun i j => .int (g i j)) (fIc C fun i j => .int (g i j)) := fun H x y d e F G Q R h1 h2 h k => by
  cases d <;> try exact h.elim
  cases e <;> try exact h.elim
  cases h1
  cases h2
  exact ⟨_, _, rfl, rfl, h.1, k _ _ (.int _) h.2⟩
/-- == and != of ints, texts, None -/
def fEq (neg : Bool) : Val → Val → (Val → Prop) → Prop
  | .int a, .int b, Q => Q (.bl (neg != decide (a = b)))
  | .str a, .str b, Q => Q (.bl (neg != decide (a = b)))
  | .bl a, .bl b, Q => Q (.bl (neg != decide (a = b)))
  | .non, .non, Q => Q (.bl (neg != true))
  | .non, .int _, Q => Q (.bl (neg != false))
  | .int _, .non, Q => Q (.bl (neg != false))
  | _, _, _ => False
theorem dec_of {α β : Type} [DecidableEq α] [DecidableEq β] {a b : α} {x y : β} (h : x = y ↔ a = b) : decide (x = y) = decide (a = b) := by
  by_cases q : a = b
  · rw [decide_eq_true q, decide_eq_true (h.mpr q)]
  · rw [decide_eq_false q, decide_eq_false fun z => q (h.mp z)]
theorem scal_eq {K : PySem.W.Frag} {H : Hp} {x y : V} {d e : Val} {F G : List Addr} {neg : Bool} {R : Val → Prop} (h1 : Rp K H F x d) (h2 : Rp K H G y e) (h : fEq neg d e R) : scal x y = true ∧ R (.bl (neg != decide (x = y))) := by
  cases d <;> cases e <;> first | exact h.elim | skip
  all_goals
    cases h1
    cases h2
    refine ⟨rfl, ?_⟩
  · exact h
  · rw [show decide (V.non = V.int _) = false from rfl]
    exact h
  · rw [dec_of (Iff.intro (fun z => V.bl.inj z) (fun z => congrArg V.bl z))]
    exact h
  · rw [show decide (V.int _ = V.non) = false from rfl]
    exact h
  · rw [dec_of (Iff.intro (fun z => V.int.inj z) (fun z => congrArg V.int z))]
    exact h
  · rw [dec_of (Iff.intro (fun z => V.str.inj z) (fun z => congrArg V.str z))]
    exact h
theorem r2_eq {K : PySem.W.Frag} : R2S K rEq (fEq false) := fun H x y d e F G Q R h1 h2 h k => by
  obtain ⟨z1, z2⟩ := scal_eq h1 h2 h
  exact ⟨z1, k _ _ (.bl _) (by rwa [Bool.false_bne] at z2)⟩
theorem r2_ne {K : PySem.W.Frag} : R2S K rNe (fEq true) := fun H x y d e F G Q R h1 h2 h k => by
  obtain ⟨z1, z2⟩ := scal_eq h1 h2 h
  exact ⟨z1, k _ _ (.bl _) (by rwa [Bool.true_bne] at z2)⟩
end
section
variable {c : Vc} {ta tb tc t : TE} {sa sb sc s : List Nat} {fa fb fc f : Option (List Nat)} {ea eb ec e : List Nat} {wa wb wc w : VW}
/-! is None, is True -/
/-! == of data -/
mutual
def Val.toD : Val → PyData
  | .non => .none
  | .bl b => .bool b
  | .int i => .int i
  | .str x => .str x
  | .ty _ => .none
  | .opq _ => .none
  | .exc _ => .none
  | .tup xs => .tuple (Val.toDs xs)
  | .lst xs => .list (Val.toDs xs)
  | .frz xs => .list (Val.toDs xs)
  | .dic _ => .none
  | .fdc _ => .none
  | .gho _ => .none
def Val.toDs : List Val → List PyData
  | [] => []
  | x :: xs => x.toD :: Val.toDs xs
end
mutual
def Val.isD : Val → Bool
  | .ty _ => false
  | .opq _ => false
  | .exc _ => false
  | .dic _ => false
  | .fdc _ => false
  | .gho _ => false
  | .tup xs => Val.isDs xs
  | .lst xs => Val.isDs xs
  | .frz xs => Val.isDs xs
  | _ => true
def Val.isDs : List Val → Bool
  | [] => true
  | x :: xs => x.isD && Val.isDs xs
end
mutual
theorem Rp.dp {K : PySem.W.Frag} {H : Hp} : ∀ {F : List Addr} {v : V} {d : Val}, Rp K H F v d → d.isD = true → Dp K H v d.toD
  | _, _, _, .non, _ => .non
  | _, _, _, .bl b, _ => .bl b
  | _, _, _, .int b, _ => .int b
  | _, _, _, .str b, _ => .str b
  | _, _, _, .ty b, h => nomatch h
  | _, _, _, .opq b, h => nomatch h
  | _, _, _, .exc _, h => nomatch h
  | _, _, _, .tup h r, e => .tup (SqT.of h) (RpA.dps r e)
  | _, _, _, .lst h r, e => .lst (SqL.of h) (RpA.dps r e)
  | _, _, _, .frz h r, e => .lst h.seq (RpA.dps r e)
  | _, _, _, .dic _ _, h => nomatch h
  | _, _, _, .fdc _ _, h => nomatch h
  | _, _, _, .gho _ _ _, h => nomatch h
theorem RpA.dps {K : PySem.W.Frag} {H : Hp} : ∀ {F : List Addr} {v : List V} {d : List Val}, RpA K H F v d → Val.isDs d = true → DpAll K H v (Val.toDs d)
  | _, _, _, .nil, _ => .nil
  | _, _, _, .cons (d := d) (ds := ds) h r, e => by
    have e2 : (d.isD && Val.isDs ds) = true := e
    rw [Bool.and_eq_true] at e2
    exact .cons (Rp.dp h e2.1) (RpA.dps r e2.2)
end
def Val.okD (d : Val) : Prop := d.isD = true ∧ SeqAt.shaped d.toD = true
def fEqD (neg : Bool) : Val → Val → (Val → Prop) → Prop := fun d e Q => d.okD ∧ e.okD ∧ Q (.bl (neg != PyData.eqv d.toD e.toD))
theorem r2_eqD {K : PySem.W.Frag} : R2S K (rEqD K) (fEqD false) := fun H x y d e F G Q R h1 h2 h k => by
  obtain ⟨h3, h4, h⟩ := h
  rw [Bool.false_bne] at h
  exact ⟨_, _, h1.dp h3.1, h2.dp h4.1, h3.2, h4.2, k _ _ (.bl _) h⟩
theorem r2_neD {K : PySem.W.Frag} : R2S K (rNeD K) (fEqD true) := fun H x y d e F G Q R h1 h2 h k => by
  obtain ⟨h3, h4, h⟩ := h
  rw [Bool.true_bne] at h
  exact ⟨_, _, h1.dp h3.1, h2.dp h4.1, h3.2, h4.2, k _ _ (.bl _) h⟩
/-! chains, and, or, not -/
def wChain (g g' : Val → Val → (Val → Prop) → Prop) (wa wb wc : VW) : VW := fun env Q => wa env fun x env1 => wb env1 fun y env2 => g x y fun z => match z with
  | .bl k => if k = true then wc env2 fun u env3 => g' y u fun z => Q z env3 else Q (.bl false) env2
  | _ => False
theorem simE_chain {r r' : R2} {g g' : Val → Val → (Val → Prop) → Prop} (hr : R2S c.K r g) (hr' : R2S c.K r' g') (ha : SimE c ta sa fa ea wa) (hb : SimE c tb sb fb eb wb) (hc : SimE c tc sc fc ec wc) (hd : disj sa eb = true) (hd' : disj sb ec = true) (hm : sub ec c.ms = true) : SimE c (tChain r r' ta tb tc) [] (some []) (ea ++ eb ++ ec) (wChain g g' wa wb wc) := ⟨fun env σ H Fs Q R S h k =>
  ha.sim env σ H Fs _ _ S h fun x d F env1 H1 Fs1 o1 r1 s1 _ h1 => hb.sim env1 σ H1 Fs1 _ _ o1.sr h1 fun y e G env2 H2 Fs2 o2 r2 s2 _ h2 =>
    hr H2 x y d e F G _ _ (r1.eff o1.sr o2.ef s1 hd).1 r2 h2 fun v u ru q => by
      cases u <;> try exact q.elim
      cases ru
      rename_i k0
      refine ⟨k0, rfl, ?_⟩
      cases k0 with
      | true =>
        refine iteT (hc.sim env2 σ H2 Fs2 _ _ o2.sr q fun z m F3 env3 H3 Fs3 o3 r3 s3 _ h3 => ?_)
        exact hr' H3 y z e m G F3 Q _ (r2.eff o2.sr o3.ef s2 hd').1 r3 h3 fun v u ru q => k v u [] env3 H3 Fs3 ((o1.trans o2).trans o3) ru .nil .nil q
      | false => exact iteF (k _ (.bl false) [] env2 H2 Fs2 ((o1.trans o2).weak (fun j hj => List.mem_append_left _ hj) fun j hj => (List.mem_append.mp hj).elim ((o1.trans o2).ef.sub j) (sub_iff hm j)) (.bl false) .nil .nil q)⟩
def wAndV (wa wb : VW) : VW := fun env Q => wa env fun x env1 => match x with
  | .bl k => if k = true then wb env1 Q else Q (.bl false) env1
  | _ => False
theorem simE_andV (ha : SimE c ta sa fa ea wa) (hb : SimE c tb [] (some []) eb wb) (hm : sub eb c.ms = true) : SimE c (tAndV ta tb) [] (some []) (ea ++ eb) (wAndV wa wb) := ⟨fun env σ H Fs Q R S h k =>
  ha.sim env σ H Fs _ _ S h fun x d F env1 H1 Fs1 o1 r1 s1 f1 h1 => by
    clear f1
    cases d <;> try exact h1.elim
    cases r1
    rename_i k0
    refine ⟨k0, rfl, ?_⟩
    cases k0 with
    | true => exact iteT (hb.sim env1 σ H1 Fs1 _ _ o1.sr h1 fun y e G env2 H2 Fs2 o2 r2 s2 f2 h2 => k y e G env2 H2 Fs2 (o1.trans o2) r2 s2 (fun mv e => (f2 mv e).imp id fun z a ha => (z a ha).imp (o1.ef.gr a) id) h2)
    | false => exact iteF (k _ (.bl false) [] env1 H1 Fs1 (o1.weak (fun j hj => List.mem_append_left _ hj) fun j hj => (List.mem_append.mp hj).elim (o1.ef.sub j) (sub_iff hm j)) (.bl false) .nil .nil h1)⟩
def wNotV (wa : VW) : VW := fun env Q => wa env fun x env1 => match x with
  | .bl k => Q (.bl (!k)) env1
  | _ => False
theorem simE_notV (ha : SimE c ta sa fa ea wa) : SimE c (tNotV ta) [] (some []) ea (wNotV wa) := ⟨fun env σ H Fs Q R S h k =>
  ha.sim env σ H Fs _ _ S h fun x d F env1 H1 Fs1 o1 r1 s1 _ h1 => by
    cases d <;> try exact h1.elim
    cases r1
    exact ⟨_, rfl, k _ _ [] env1 H1 Fs1 o1 (.bl _) .nil .nil h1⟩⟩
/-! tests -/
variable {tA tB' : TT} {wA wB : VWT} {eA eB : List Nat}
def wTest (w : VW) : VWT := fun env Q => w env fun d env' => match d with
  | .bl b => Q b env'
  | _ => False
theorem simT_test (h : SimE c t s f e w) : SimT c (tTest t) e (wTest w) := ⟨fun env σ H Fs Q R S hw k => h.sim env σ H Fs _ _ S hw fun v d F env' H' Fs' o r _ _ q => by
  cases d <;> try exact q.elim
  cases r
  exact ⟨_, rfl, k _ env' H' Fs' o q⟩⟩
theorem simT_tB (h : SimE c t s f e w) : SimT c (L2.tB t) e (wTest w) := ⟨fun env σ H Fs Q R S hw k => h.sim env σ H Fs _ _ S hw fun v d F env' H' Fs' o r _ _ q => by
  cases d <;> try exact q.elim
  cases r
  exact ⟨_, rfl, k _ env' H' Fs' o q⟩⟩
def wNot (w : VWT) : VWT := fun env Q => w env fun b env' => Q (!b) env'
theorem simT_not (h : SimT c tA eA wA) : SimT c (tNot tA) eA (wNot wA) := ⟨fun env σ H Fs Q R S hw k => h.sim env σ H Fs _ _ S hw fun b env' H' Fs' o q => k _ env' H' Fs' o q⟩
def wAnd (w u : VWT) : VWT := fun env Q => w env fun b env' => if b = true then u env' Q else Q false env'
def wOr (w u : VWT) : VWT := fun env Q => w env fun b env' => if b = true then Q true env' else u env' Q
theorem simT_and (h : SimT c tA eA wA) (h2 : SimT c tB' eB wB) (hm : sub eB c.ms = true) : SimT c (tAnd tA tB') (eA ++ eB) (wAnd wA wB) := ⟨fun env σ H Fs Q R S hw k => h.sim env σ H Fs _ _ S hw fun b env' H' Fs' o q => by
  cases b with
  | true => exact iteT (h2.sim env' σ H' Fs' _ _ o.sr q fun b env2 H2 Fs2 o2 q2 => k b env2 H2 Fs2 (o.trans o2) q2)
  | false => exact iteF (k _ env' H' Fs' (o.weak (fun j hj => List.mem_append_left _ hj) fun j hj => (List.mem_append.mp hj).elim (o.ef.sub j) (sub_iff hm j)) q)⟩
theorem simT_or (h : SimT c tA eA wA) (h2 : SimT c tB' eB wB) (hm : sub eB c.ms = true) : SimT c (tOr tA tB') (eA ++ eB) (wOr wA wB) := ⟨fun env σ H Fs Q R S hw k => h.sim env σ H Fs _ _ S hw fun b env' H' Fs' o q => by
  cases b with
  | false => exact iteF (h2.sim env' σ H' Fs' _ _ o.sr q fun b env2 H2 Fs2 o2 q2 => k b env2 H2 Fs2 (o.trans o2) q2)
  | true => exact iteT (k _ env' H' Fs' (o.weak (fun j hj => List.mem_append_left _ hj) fun j hj => (List.mem_append.mp hj).elim (o.ef.sub j) (sub_iff hm j)) q)⟩
/-! a[i] -/
def wIxL (wa wb : VW) : VW := fun env Q => wa env fun x env1 => wb env1 fun y env2 => match x, y with
  | .lst xs, .int i => (match atI xs i with
    | some d => Q d env2
    | none => False)
  | _, _ => False
def wIxF (wa wb : VW) : VW := fun env Q => wa env fun x env1 => wb env1 fun y env2 => match x, y with
  | .frz xs, .int i => (match atI xs i with
    | some d => Q d env2
    | none => False)
  | _, _ => False
def wIxT (wa wb : VW) : VW := fun env Q => wa env fun x env1 => wb env1 fun y env2 => match x, y with
  | .tup xs, .int i => (match atI xs i with
    | some d => Q d env2
    | none => False)
  | _, _ => False
theorem atI_at {α : Type} {xs : List α} {i : Int} {d : α} (h : atI xs i = some d) : ∃ j : Nat, ixN xs.length i = some j ∧ xs[j]? = some d := by
  unfold atI at h
  cases e : ixN xs.length i with
  | none =>
    rw [e] at h
    cases h
  | some j =>
    rw [e] at h
    exact ⟨j, rfl, h⟩
theorem RpA.atI {K : PySem.W.Frag} {H : Hp} {F : List Addr} {vs : List V} {ds : List Val} {i : Int} {d : Val} (h : RpA K H F vs ds) (e : L2.atI ds i = some d) : ∃ v G, L2.atI vs i = some v ∧ Rp K H G v d ∧ (∀ a ∈ G, a ∈ F) ∧ (F.Nodup → G.Nodup) := by
  obtain ⟨j, h1, h2⟩ := atI_at e
  obtain ⟨v, G, h3, h4, h5, h6⟩ := h.get h2
  refine ⟨v, G, ?_, h4, h5, h6⟩
  unfold L2.atI
  rw [h.len, h1]
  exact h3
theorem simE_ixL (ha : SimE c ta sa fa ea wa) (hb : SimE c tb sb fb eb wb) (hd : disj sa eb = true) : SimE c (tOp (rIxL c.K) ta tb) sa none (ea ++ eb) (wIxL wa wb) := ⟨fun env σ H Fs Q R S h k =>
  ha.sim env σ H Fs _ _ S h fun x d F env1 H1 Fs1 o1 r1 s1 f1 h1 => hb.sim env1 σ H1 Fs1 _ _ o1.sr h1 fun y e G env2 H2 Fs2 o2 r2 s2 f2 h2 => by
    obtain ⟨r1', s1'⟩ := r1.eff o1.sr o2.ef s1 hd
    clear f1 f2 h1 h
    cases d <;> try exact h2.elim
    cases e <;> try exact h2.elim
    rename_i xs i
    cases r2
    cases hi : atI xs i with
    | none =>
      simp only [hi] at h2
    | some d =>
      simp only [hi] at h2
      cases r1' with
      | lst hp rr =>
        obtain ⟨v, G, g1, g2, g3, _⟩ := rr.atI hi
        exact ⟨_, _, i, v, rfl, rfl, SqL.of hp, g1, k v d G env2 H2 Fs2 (o1.trans o2) g2 (fun a ha => s1' a (List.mem_cons_of_mem _ (g3 a ha))) .no h2⟩⟩
theorem simE_ixT (ha : SimE c ta sa fa ea wa) (hb : SimE c tb sb fb eb wb) (hd : disj sa eb = true) : SimE c (tOp (rIxT c.K) ta tb) sa none (ea ++ eb) (wIxT wa wb) := ⟨fun env σ H Fs Q R S h k =>
  ha.sim env σ H Fs _ _ S h fun x d F env1 H1 Fs1 o1 r1 s1 f1 h1 => hb.sim env1 σ H1 Fs1 _ _ o1.sr h1 fun y e G env2 H2 Fs2 o2 r2 s2 f2 h2 => by
    obtain ⟨r1', s1'⟩ := r1.eff o1.sr o2.ef s1 hd
    clear f1 f2 h1 h
    cases d <;> try exact h2.elim
    cases e <;> try exact h2.elim
    rename_i xs i
    cases r2
    cases hi : atI xs i with
    | none =>
      simp only [hi] at h2
    | some d =>
      simp only [hi] at h2
      cases r1' with
      | tup hp rr =>
        obtain ⟨v, G, g1, g2, g3, _⟩ := rr.atI hi
        exact ⟨_, _, i, v, rfl, rfl, SqT.of hp, g1, k v d G env2 H2 Fs2 (o1.trans o2) g2 (fun a ha => s1' a (g3 a ha)) .no h2⟩⟩
theorem simE_ixF (ha : SimE c ta sa fa ea wa) (hb : SimE c tb sb fb eb wb) (hd : disj sa eb = true) : SimE c (tOp (rIxL c.K) ta tb) sa none (ea ++ eb) (wIxF wa wb) := ⟨fun env σ H Fs Q R S h k =>
  ha.sim env σ H Fs _ _ S h fun x d F env1 H1 Fs1 o1 r1 s1 f1 h1 => hb.sim env1 σ H1 Fs1 _ _ o1.sr h1 fun y e G env2 H2 Fs2 o2 r2 s2 f2 h2 => by
    obtain ⟨r1', s1'⟩ := r1.eff o1.sr o2.ef s1 hd
    clear f1 f2 h1 h
    cases d <;> try exact h2.elim
    cases e <;> try exact h2.elim
    rename_i xs i
    cases r2
    cases hi : atI xs i with
    | none =>
      simp only [hi] at h2
    | some d =>
      simp only [hi] at h2
      cases r1' with
      | frz hp rr =>
        obtain ⟨v, G, g1, g2, g3, _⟩ := rr.atI hi
        exact ⟨_, _, i, v, rfl, rfl, hp.seq, g1, k v d G env2 H2 Fs2 (o1.trans o2) g2 (fun a ha => s1' a (g3 a ha)) .no h2⟩⟩
end
/-! ### arguments -/
inductive Arg where
  | v (src : List Nat)
  | o (i : Nat)
def Arg.src : Arg → List Nat
  | .v s => s
  | .o i => [i]
inductive RpL (c : Vc) (σ : L2.St) (H : Hp) (Fs : Fp) : List Arg → List (List Addr) → List V → List Val → Prop where
  | nil : RpL c σ H Fs [] [] [] []
  | consV {s : List Nat} {G : List Addr} {v : V} {d : Val} {as : List Arg} {Gs : List (List Addr)} {vs : List V} {ds : List Val} : Rp c.K H G v d → Src c.ms s G Fs → RpL c σ H Fs as Gs vs ds → RpL c σ H Fs (.v s :: as) (G :: Gs) (v :: vs) (d :: ds)
  | consO {i : Nat} {v : V} {d : Val} {as : List Arg} {Gs : List (List Addr)} {vs : List V} {ds : List Val} : i ∈ c.ms → SlV c.N σ i v → Rp c.K H (Fs i) v d → RpL c σ H Fs as Gs vs ds → RpL c σ H Fs (.o i :: as) (Fs i :: Gs) (v :: vs) (d :: ds)
theorem RpL.rpa {c : Vc} {σ : L2.St} {H : Hp} {Fs : Fp} : ∀ {as : List Arg} {Gs : List (List Addr)} {vs : List V} {ds : List Val}, RpL c σ H Fs as Gs vs ds → RpA c.K H Gs.flatten vs ds
  | _, _, _, _, .nil => .nil
  | _, _, _, _, .consV r _ t => .cons r t.rpa
  | _, _, _, _, .consO _ _ r t => .cons r t.rpa
theorem RpL.len {c : Vc} {σ : L2.St} {H : Hp} {Fs : Fp} : ∀ {as : List Arg} {Gs : List (List Addr)} {vs : List V} {ds : List Val}, RpL c σ H Fs as Gs vs ds → vs.length = as.length
  | _, _, _, _, .nil => rfl
  | _, _, _, _, .consV _ _ t => congrArg (· + 1) t.len
  | _, _, _, _, .consO _ _ _ t => congrArg (· + 1) t.len
theorem Sr.srcO {c : Vc} {env : VEnv} {σ : L2.St} {H : Hp} {Fs : Fp} (S : Sr c env σ H Fs) (i : Nat) : Src c.ms [i] (Fs i) Fs := fun a ha j hj n z => S.sep j hj i (fun q => n (List.mem_singleton.mpr q.symm)) a z ha
theorem RpL.src {c : Vc} {env : VEnv} {σ : L2.St} {H : Hp} {Fs : Fp} (S : Sr c env σ H Fs) : ∀ {as : List Arg} {Gs : List (List Addr)} {vs : List V} {ds : List Val}, RpL c σ H Fs as Gs vs ds → Src c.ms (as.flatMap Arg.src) Gs.flatten Fs
  | _, _, _, _, .nil => .nil
  | _, _, _, _, .consV (s := s) (as := as) _ q t => fun a ha j hj n => by
    rw [List.flatMap_cons] at n
    rcases List.mem_append.mp (by rw [List.flatten_cons] at ha; exact ha) with z | z
    · exact q a z j hj fun y => n (List.mem_append_left _ y)
    · exact RpL.src S t a z j hj fun y => n (List.mem_append_right _ y)
  | _, _, _, _, .consO (i := i) (as := as) _ _ _ t => fun a ha j hj n => by
    rw [List.flatMap_cons] at n
    rcases List.mem_append.mp (by rw [List.flatten_cons] at ha; exact ha) with z | z
    · exact S.srcO i a z j hj fun y => n (List.mem_append_left _ y)
    · exact RpL.src S t a z j hj fun y => n (List.mem_append_right _ y)
structure SimA (c : Vc) (t : TA) (as : List Arg) (fr : Option (List Nat)) (eff : List Nat) (w : VWA) : Prop where
  sim : ∀ (env : VEnv) (σ : L2.St) (H : Hp) (Fs : Fp) (Q : List V → Hp → Prop) (R : List Val → VEnv → Prop), Sr c env σ H Fs → w env R →
    (∀ vs ds Gs env' H' Fs', Ok0 c eff σ H Fs env' H' Fs' → RpL c σ H' Fs' as Gs vs ds → Frs fr H Fs' Gs.flatten → R ds env' → Q vs H') → t σ H Q
section
variable {c : Vc} {t : TE} {tr : TA} {s : List Nat} {f f2 : Option (List Nat)} {e e2 m1 m2 : List Nat} {w : VW} {as : List Arg} {w2 : VWA}
def wNil : VWA := fun env Q => Q [] env
def wCons (w : VW) (w2 : VWA) : VWA := fun env Q => w env fun d env1 => w2 env1 fun ds env2 => Q (d :: ds) env2
theorem simA_nil : SimA c tNil [] (some []) [] wNil := ⟨fun env σ H Fs Q R S h k => k [] [] [] env H Fs (.refl S) .nil .nil h⟩
theorem simA_cons (h1 : SimE c t s f e w) (h2 : SimA c tr as f2 e2 w2) (hd : disj s e2 = true) : SimA c (tCons t tr) (.v s :: as) none (e ++ e2) (wCons w w2) := ⟨fun env σ H Fs Q R S h k =>
  h1.sim env σ H Fs _ _ S h fun v d F env1 H1 Fs1 o1 r1 s1 _ q1 => h2.sim env1 σ H1 Fs1 _ _ o1.sr q1 fun vs ds Gs env2 H2 Fs2 o2 r2 _ q2 =>
    have z := r1.eff o1.sr o2.ef s1 hd
    k (v :: vs) (d :: ds) (F :: Gs) env2 H2 Fs2 (o1.trans o2) (.consV z.1 z.2 r2) .no q2⟩
theorem simA_consF (h1 : SimE c t s (some m1) e w) (h2 : SimA c tr as (some m2) e2 w2) (hd : disj s e2 = true) (hm : disj s m2 = true) (hm1 : disj m1 e2 = true) (hs1 : sub m1 c.ms = true) (hs2 : sub m2 c.ms = true) : SimA c (tCons t tr) (.v s :: as) (some (m1 ++ m2)) (e ++ e2) (wCons w w2) := ⟨fun env σ H Fs Q R S h k =>
  h1.sim env σ H Fs _ _ S h fun v d F env1 H1 Fs1 o1 r1 s1 f1 q1 => h2.sim env1 σ H1 Fs1 _ _ o1.sr q1 fun vs ds Gs env2 H2 Fs2 o2 r2 f2 q2 => by
    have z := r1.eff o1.sr o2.ef s1 hd
    refine k (v :: vs) (d :: ds) (F :: Gs) env2 H2 Fs2 (o1.trans o2) (.consV z.1 z.2 r2) (fun mv e => ?_) q2
    cases e
    obtain ⟨n1, g1⟩ := f1 m1 rfl
    obtain ⟨n2, g2⟩ := f2 m2 rfl
    rw [List.flatten_cons]
    refine ⟨List.nodup_append.mpr ⟨n1, n2, fun a ha b hb ab => ?_⟩, fun a ha => ?_⟩
    · subst ab
      rcases g2 a hb with y | ⟨j, hj, y⟩
      · exact (r1.mutb a ha).ex y
      · exact z.2 a ha j (sub_iff hs2 j hj) (fun q => disj_iff hm q hj) y
    · rcases List.mem_append.mp ha with y | y
      · rcases g1 a y with x | ⟨j, hj, x⟩
        · exact .inl x
        · refine .inr ⟨j, List.mem_append_left _ hj, ?_⟩
          rw [o2.ef.out j (sub_iff hs1 j hj) (disj_iff hm1 hj)]
          exact x
      · rcases g2 a y with x | ⟨j, hj, x⟩
        · exact .inl (o1.ef.gr a x)
        · exact .inr ⟨j, List.mem_append_right _ hj, x⟩⟩
/-- a name among the arguments: it is read behind the others -/
def wVarA (i : Nat) (w2 : VWA) : VWA := fun env Q => match env[i]? with
  | some (some _) => w2 env fun ds env' => (match env'[i]? with
    | some (some d) => Q (d :: ds) env'
    | _ => False)
  | _ => False
theorem wVarA_is {i : Nat} {env : VEnv} {Q : List Val → VEnv → Prop} (h : wVarA i w2 env Q) : ∃ d, env[i]? = some (some d) ∧ w2 env fun ds env' => (match env'[i]? with
    | some (some d) => Q (d :: ds) env'
    | _ => False) := by
  unfold wVarA at h
  split at h
  · exact ⟨_, ‹_›, h⟩
  · exact h.elim
theorem varA_is {i : Nat} {env : VEnv} {ds : List Val} {Q : List Val → VEnv → Prop} (h : match env[i]? with
    | some (some d) => Q (d :: ds) env
    | _ => False) : ∃ d, env[i]? = some (some d) ∧ Q (d :: ds) env := by
  split at h
  · exact ⟨_, ‹_›, h⟩
  · exact h.elim
theorem simA_var {i : Nat} (hi : c.ms.contains i = false) (h2 : SimA c tr as f2 e2 w2) (hN : Nat.blt i c.N = true := by rfl) : SimA c (tCons (tVar i) tr) (.v [] :: as) none e2 (wVarA i w2) := ⟨fun env σ H Fs Q R S h k => by
  obtain ⟨d0, hd0, h⟩ := wVarA_is h
  obtain ⟨v, hv, _⟩ := S.at_ i d0 hd0
  have hv := hv.1 (lt_of_blt hN)
  have n : i ∉ c.ms := fun z => by simp [z] at hi
  refine ⟨v, hv, h2.sim env σ H Fs _ _ S h fun vs ds Gs env2 H2 Fs2 o2 r2 _ q2 => ?_⟩
  obtain ⟨d, hd, q⟩ := varA_is q2
  obtain ⟨v', hv', r⟩ := o2.sr.at_ i d hd
  have hv' := hv'.1 (lt_of_blt hN)
  rw [hv] at hv'
  cases hv'
  exact k _ _ (Fs2 i :: Gs) env2 H2 Fs2 o2 (.consV r (fun a ha j hj _ z => o2.sr.sep j hj i (fun q => n (q ▸ hj)) a z ha) r2) .no q⟩
def hdFlat : List Val → Prop
  | d :: _ => d.flat = true
  | [] => False
def wVarF (i : Nat) (w2 : VWA) : VWA := fun env Q => wVarA i w2 env fun ds env' => hdFlat ds ∧ Q ds env'
theorem simA_varF {i : Nat} (h2 : SimA c tr as (some m2) e2 w2) (hN : Nat.blt i c.N = true := by rfl) : SimA c (tCons (tVar i) tr) (.v [] :: as) (some m2) e2 (wVarF i w2) := ⟨fun env σ H Fs Q R S h k => by
  obtain ⟨d0, hd0, h⟩ := wVarA_is h
  obtain ⟨v, hv, _⟩ := S.at_ i d0 hd0
  have hv := hv.1 (lt_of_blt hN)
  refine ⟨v, hv, h2.sim env σ H Fs _ _ S h fun vs ds Gs env2 H2 Fs2 o2 r2 f2 q2 => ?_⟩
  obtain ⟨d, hd, hf, q⟩ := varA_is (Q := fun ds env' => hdFlat ds ∧ R ds env') q2
  obtain ⟨v', hv', r⟩ := o2.sr.at_ i d hd
  have hv' := hv'.1 (lt_of_blt hN)
  rw [hv] at hv'
  cases hv'
  have z := r.flat hf
  rw [z] at r
  exact k _ _ ([] :: Gs) env2 H2 Fs2 o2 (.consV r .nil r2) (fun mv e => by
    rw [List.flatten_cons, List.nil_append]
    exact f2 mv e) q⟩
theorem simA_own {i : Nat} (hi : c.ms.contains i = true) (h2 : SimA c tr as f2 e2 w2) (hN : Nat.blt i c.N = true := by rfl) : SimA c (tCons (tVar i) tr) (.o i :: as) none e2 (wVarA i w2) := ⟨fun env σ H Fs Q R S h k => by
  obtain ⟨d0, hd0, h⟩ := wVarA_is h
  obtain ⟨v, hv, _⟩ := S.at_ i d0 hd0
  have hv := hv.1 (lt_of_blt hN)
  refine ⟨v, hv, h2.sim env σ H Fs _ _ S h fun vs ds Gs env2 H2 Fs2 o2 r2 _ q2 => ?_⟩
  obtain ⟨d, hd, q⟩ := varA_is q2
  obtain ⟨v', hv', r⟩ := o2.sr.at_ i d hd
  have hv' := hv'.1 (lt_of_blt hN)
  rw [hv] at hv'
  cases hv'
  exact k _ _ (Fs2 i :: Gs) env2 H2 Fs2 o2 (.consO (by simpa using hi) (.of (lt_of_blt hN) hv) r r2) .no q⟩
end
section
variable {c : Vc} {ta : TA} {as : List Arg} {f : Option (List Nat)} {e mv : List Nat} {w : VWA}
theorem small1000 {n : Nat} (h : n ≤ 1000) : n ≤ sizeLine := small_le (by omega)
/-! tuples and lists as they are written -/
def wTup (w : VWA) : VW := fun env Q => w env fun ds env' => Q (.tup ds) env'
def wLst (w : VWA) : VW := fun env Q => w env fun ds env' => Q (.lst ds) env'
theorem simE_tup (h : SimA c ta as f e w) (hl : as.length ≤ 1000) : SimE c (tTup ta) (as.flatMap Arg.src) f e (wTup w) := ⟨fun env σ H Fs Q R S hw k =>
  h.sim env σ H Fs _ _ S hw fun vs ds Gs env' H' Fs' o r fr q => ⟨small1000 (by rw [r.len]; exact hl), fun p np => by
    obtain ⟨gp, sp⟩ := upd_at (o := .tup vs) np
    exact k _ _ Gs.flatten env' _ Fs' (o.grow sp) (.tup gp (r.rpa.same sp)) (r.src o.sr) fr q⟩⟩
theorem simE_lst (h : SimA c ta as f e w) (hl : as.length ≤ 1000) : SimE c (tLst ta) (as.flatMap Arg.src) f e (wLst w) := ⟨fun env σ H Fs Q R S hw k =>
  h.sim env σ H Fs _ _ S hw fun vs ds Gs env' H' Fs' o r fr q => ⟨small1000 (by rw [r.len]; exact hl), fun p np => by
    obtain ⟨gp, sp⟩ := upd_at (o := .lst vs) np
    have fresh : p ∉ Gs.flatten := fun z => (r.rpa.mutb p z).ex np
    refine k _ _ (p :: Gs.flatten) env' _ Fs' (o.grow sp) (.lst gp (r.rpa.same sp)) (fun a ha j hj n z => ?_) (fun mv e => ?_) q
    · rcases List.mem_cons.mp ha with y | y
      · subst y
        exact (o.sr.mutb j a z).ex np
      · exact r.src o.sr a y j hj n z
    · obtain ⟨n1, g1⟩ := fr mv e
      refine ⟨List.nodup_cons.mpr ⟨fresh, n1⟩, fun a ha => ?_⟩
      rcases List.mem_cons.mp ha with y | y
      · subst y
        exact .inl (o.ef.gr a np)
      · exact g1 a y⟩⟩
/-! built-in functions whose outcome holds no list -/
def CBS (c : Vc) (r : List V → Hp → VK → Prop) (g : List Val → (Val → Prop) → Prop) : Prop := ∀ (σ : L2.St) (H : Hp) (Fs : Fp) (as : List Arg) (Gs : List (List Addr)) (vs : List V) (ds : List Val) (Q : VK) (R : Val → Prop), RpL c σ H Fs as Gs vs ds → g ds R → (∀ v u, Rp c.K H [] v u → R u → Q v H) → r vs H Q
def wCB (g : List Val → (Val → Prop) → Prop) (w : VWA) : VW := fun env Q => w env fun ds env' => g ds fun z => Q z env'
theorem simE_cb {r : List V → Hp → VK → Prop} {g : List Val → (Val → Prop) → Prop} (hr : CBS c r g) (h : SimA c ta as f e w) : SimE c (tCB r ta) [] (some []) e (wCB g w) := ⟨fun env σ H Fs Q R S hw k =>
  h.sim env σ H Fs _ _ S hw fun vs ds Gs env' H' Fs' o r fr q => hr σ H' Fs' as Gs vs ds Q _ r q fun v u ru z => k v u [] env' H' Fs' o ru .nil .nil z⟩
theorem RpL.one {c : Vc} {σ : L2.St} {H : Hp} {Fs : Fp} {as : List Arg} {Gs : List (List Addr)} {vs : List V} {d : Val} (h : RpL c σ H Fs as Gs vs [d]) : ∃ v F, vs = [v] ∧ Rp c.K H F v d := by
  cases h with
  | consV r _ t =>
    cases t
    exact ⟨_, _, rfl, r⟩
  | consO _ _ r t =>
    cases t
    exact ⟨_, _, rfl, r⟩
theorem RpL.two {c : Vc} {σ : L2.St} {H : Hp} {Fs : Fp} {as : List Arg} {Gs : List (List Addr)} {vs : List V} {d d' : Val} (h : RpL c σ H Fs as Gs vs [d, d']) : ∃ v v' F F', vs = [v, v'] ∧ Rp c.K H F v d ∧ Rp c.K H F' v' d' := by
  cases h with
  | consV r _ t =>
    obtain ⟨v', F', e, r'⟩ := t.one
    subst e
    exact ⟨_, _, _, _, rfl, r, r'⟩
  | consO _ _ r t =>
    obtain ⟨v', F', e, r'⟩ := t.one
    subst e
    exact ⟨_, _, _, _, rfl, r, r'⟩
theorem Rp.asL {K : PySem.W.Frag} {H : Hp} {F : List Addr} {v : V} {ds : List Val} (h : Rp K H F v (.lst ds)) : ∃ l vs G, v = .ref l ∧ H l = some (.lst vs) ∧ RpA K H G vs ds ∧ F = l :: G := by
  cases h with
  | lst h r => exact ⟨_, _, _, rfl, h, r, rfl⟩
theorem Rp.asF {K : PySem.W.Frag} {H : Hp} {F : List Addr} {v : V} {ds : List Val} (h : Rp K H F v (.frz ds)) : ∃ l vs, v = .ref l ∧ SqL K H l vs ∧ RpA K H F vs ds := by
  cases h with
  | frz h r => exact ⟨_, _, rfl, h.seq, r⟩
theorem Rp.asT {K : PySem.W.Frag} {H : Hp} {F : List Addr} {v : V} {ds : List Val} (h : Rp K H F v (.tup ds)) : ∃ l vs, v = .ref l ∧ SqT K H l vs ∧ RpA K H F vs ds := by
  cases h with
  | tup h r => exact ⟨_, _, rfl, SqT.of h, r⟩
def gLen : List Val → (Val → Prop) → Prop
  | [.lst xs], Q => Q (.int xs.length)
  | [.tup xs], Q => Q (.int xs.length)
  | [.frz xs], Q => Q (.int xs.length)
  | _, _ => False
theorem cb_len : CBS c (fun xs H Q => ∃ p ys, xs = [.ref p] ∧ (SqL c.K H p ys ∨ SqT c.K H p ys) ∧ Q (.int ys.length) H) gLen := fun σ H Fs as Gs vs ds Q R r h k => by
  unfold gLen at h
  split at h
  · obtain ⟨v, F, e1, r1⟩ := r.one
    obtain ⟨l, us, G, e2, hs, ra, _⟩ := r1.asL
    subst e1 e2
    exact ⟨l, us, rfl, .inl (SqL.of hs), k _ _ (.int _) (by rw [ra.len]; exact h)⟩
  · obtain ⟨v, F, e1, r1⟩ := r.one
    obtain ⟨l, us, e2, hs, ra⟩ := r1.asT
    subst e1 e2
    exact ⟨l, us, rfl, .inr hs, k _ _ (.int _) (by rw [ra.len]; exact h)⟩
  · obtain ⟨v, F, e1, r1⟩ := r.one
    obtain ⟨l, us, e2, hs, ra⟩ := r1.asF
    subst e1 e2
    exact ⟨l, us, rfl, .inl hs, k _ _ (.int _) (by rw [ra.len]; exact h)⟩
  · exact h.elim
def gMax2 : List Val → (Val → Prop) → Prop
  | [.int i, .int j], Q => Q (.int (if j > i then j else i))
  | _, _ => False
theorem cb_max2 : CBS c (fun xs H Q => ∃ i j, xs = [.int i, .int j] ∧ Q (.int (if j > i then j else i)) H) gMax2 := fun σ H Fs as Gs vs ds Q R r h k => by
  unfold gMax2 at h
  split at h
  · obtain ⟨v, v', F, F', rfl, r1, r2⟩ := r.two
    cases r1
    cases r2
    exact ⟨_, _, rfl, k _ _ (.int _) h⟩
  · exact h.elim
/-- isinstance -/
def Val.tyn : Val → String
  | .non => "NoneType"
  | .bl _ => "bool"
  | .int _ => "int"
  | .str _ => "str"
  | .tup _ => "tuple"
  | .lst _ => "list"
  | .frz _ => "list"
  | .dic _ => "dict"
  | .fdc _ => "dict"
  | .gho _ => "NoneType"
  | _ => "?"
def gIsi : List Val → (Val → Prop) → Prop
  | [d, .ty n], Q => (match d with
    | .ty _ => False
    | .opq _ => False
    | .exc _ => False
    | _ => (match kitB d.tyn n with
      | some b => Q (.bl b)
      | none => False))
  | _, _ => False
theorem tyx_of {K : PySem.W.Frag} {H : Hp} {F : List Addr} {v : V} {d : Val} (h : Rp K H F v d) (h1 : ∀ n, d ≠ .ty n) (h2 : ∀ n, d ≠ .opq n) (h3 : ∀ n, d ≠ .exc n) : TyX K H v (.type d.tyn) := by
  cases h with
  | non => exact .base .non
  | bl b => exact .base (.bl b)
  | int b => exact .base (.int b)
  | str b => exact .base (.str b)
  | ty b => exact absurd rfl (h1 b)
  | opq b => exact absurd rfl (h2 b)
  | exc _ => exact absurd rfl (h3 _)
  | tup h r => exact .base (.tup h)
  | lst h r => exact .base (.lst h)
  | frz h r =>
    rcases h with ⟨o, h⟩ | ⟨o, _, _, h, h', _⟩
    · exact .base (.frz h)
    · exact .kList h h'
  | dic h r => exact .base (.dK h)
  | fdc h r => exact .fDict h
  | gho _ _ _ => exact .base .non
theorem gIsi_is {ds : List Val} {Q : Val → Prop} (h : gIsi ds Q) : ∃ d n b, ds = [d, .ty n] ∧ (∀ n, d ≠ .ty n) ∧ (∀ n, d ≠ .opq n) ∧ (∀ n, d ≠ .exc n) ∧ kitB d.tyn n = some b ∧ Q (.bl b) := by
  unfold gIsi at h
  split at h
  · rename_i d n
    have z : (∀ n, d ≠ .ty n) ∧ (∀ n, d ≠ .opq n) ∧ (∀ n, d ≠ .exc n) ∧ (match kitB d.tyn n with
      | some b => Q (.bl b)
      | none => False) := by
      split at h
      · exact h.elim
      · exact h.elim
      · exact h.elim
      · rename_i h1 h2 h3
        exact ⟨fun n => h1 n, fun n => h2 n, fun n => h3 n, h⟩
    obtain ⟨h1, h2, h0, h3⟩ := z
    split at h3
    · exact ⟨d, n, _, rfl, h1, h2, h0, ‹_›, h3⟩
    · exact h3.elim
  · exact h.elim
theorem cb_isi : CBS c (rIsi c.K) gIsi := fun σ H Fs as Gs vs ds Q R r h k => by
  obtain ⟨d, n, b, rfl, h1, h2, h0, h3, h4⟩ := gIsi_is h
  obtain ⟨v, v', F, F', e, r1, r2⟩ := r.two
  subst e
  cases r2
  exact ⟨v, _, _, _, b, rfl, .ty n, tyx_of r1 h1 h2 h0, kit_ty h3, k _ _ (.bl b) h4⟩
end
/-! ### statements over values -/
theorem ne_mem {l : List Nat} {i j : Nat} (h : j ∈ l) (n : i ∉ l) : j ≠ i := fun z => n (by rw [← z]; exact h)
structure VEnds where
  nx : VEnv → Prop
  rt : Val → VEnv → Prop
  bk : VEnv → Prop := fun _ => False
  ct : VEnv → Prop := fun _ => False
abbrev VWS := VEnds → VEnv → Prop
structure Ok2 (c : Vc) (fx E : List Nat) (σ : L2.St) (H : Hp) (Fs : Fp) (env' : VEnv) (σ' : L2.St) (H' : Hp) (Fs' : Fp) : Prop where
  sr : Sr c env' σ' H' Fs'
  ef : Eff c.ms E Fs H Fs' H'
  fx : ∀ i ∈ fx, σ'[i]? = σ[i]?
theorem Ok2.trans {c : Vc} {fx E : List Nat} {σ σ1 σ2 : L2.St} {H H1 H2 : Hp} {Fs Fs1 Fs2 : Fp} {env1 env2 : VEnv} (a : Ok2 c fx E σ H Fs env1 σ1 H1 Fs1) (b : Ok2 c fx E σ1 H1 Fs1 env2 σ2 H2 Fs2) : Ok2 c fx E σ H Fs env2 σ2 H2 Fs2 :=
  ⟨b.sr, (a.ef.trans b.ef).mono (fun j hj => (List.mem_append.mp hj).elim id id) a.ef.sub, fun i hi => (b.fx i hi).trans (a.fx i hi)⟩
theorem Ok2.weak {c : Vc} {fx E E' : List Nat} {σ σ1 : L2.St} {H H1 : Hp} {Fs Fs1 : Fp} {env1 : VEnv} (a : Ok2 c fx E σ H Fs env1 σ1 H1 Fs1) (h : ∀ j ∈ E, j ∈ E') (h' : ∀ j ∈ E', j ∈ c.ms) : Ok2 c fx E' σ H Fs env1 σ1 H1 Fs1 := ⟨a.sr, a.ef.mono h h', a.fx⟩
theorem Ok0.ok2 {c : Vc} {e E fx : List Nat} {σ : L2.St} {H H1 : Hp} {Fs Fs1 : Fp} {env1 : VEnv} (a : Ok0 c e σ H Fs env1 H1 Fs1) (h : sub e E = true) (hE : sub E c.ms = true) : Ok2 c fx E σ H Fs env1 σ H1 Fs1 := ⟨a.sr, a.ef.mono (sub_iff h) (sub_iff hE), fun _ _ => rfl⟩
/-- what a value handed back is: its lists are new, or own ones of lo -/
structure RtOk (c : Vc) (lo : List Nat) (H : Hp) (F : List Addr) (v : V) (d : Val) (H' : Hp) (Fs' : Fp) : Prop where
  rp : Rp c.K H' F v d
  sc : Src c.ms lo F Fs'
  fs : c.al = false → Frs (some lo) H Fs' F
theorem RtOk.back {c : Vc} {lo : List Nat} {H H1 : Hp} {F : List Addr} {v : V} {d : Val} {H' : Hp} {Fs' : Fp} (h : RtOk c lo H1 F v d H' Fs') (g : ∀ a, H1 a = none → H a = none) : RtOk c lo H F v d H' Fs' :=
  ⟨h.rp, h.sc, fun ha mv e => (h.fs ha mv e).imp id fun z a ha => (z a ha).imp (g a) id⟩
structure SimS (c : Vc) (fx lo E : List Nat) (t : TS) (w : VWS) : Prop where
  sim : ∀ (env : VEnv) (σ : L2.St) (H : Hp) (Fs : Fp) (D : Ends) (R : VEnds), Sr c env σ H Fs → w R env →
    (∀ env' σ' H' Fs', Ok2 c fx E σ H Fs env' σ' H' Fs' → R.nx env' → D.nx σ' H') →
    (∀ env' σ' H' Fs', Ok2 c fx E σ H Fs env' σ' H' Fs' → R.bk env' → D.bk σ' H') →
    (∀ env' σ' H' Fs', Ok2 c fx E σ H Fs env' σ' H' Fs' → R.ct env' → D.ct σ' H') →
    (∀ v d F env' σ' H' Fs', Ok2 c fx E σ H Fs env' σ' H' Fs' → RtOk c lo H F v d H' Fs' → R.rt d env' → D.rt v H') → t D σ H
section
variable {c : Vc} {fx lo E E' : List Nat} {t u : TS} {w w' : VWS} {te : TE} {s e : List Nat} {f : Option (List Nat)} {we : VW} {tt : TT} {wt : VWT}
def wNext : VWS := fun R env => R.nx env
def wSeq (w w' : VWS) : VWS := fun R env => w { R with nx := w' R } env
def wCut (w w' : VWS) : VWS := fun R env => ∃ M : VEnv → Prop, w { R with nx := M } env ∧ ∀ env', M env' → w' R env'
theorem Ok2.refl {σ : L2.St} {H : Hp} {Fs : Fp} {env : VEnv} (S : Sr c env σ H Fs) (hE : sub E c.ms = true) : Ok2 c fx E σ H Fs env σ H Fs := (Ok0.refl S).ok2 rfl hE
theorem simS_next (hE : sub E c.ms = true) : SimS c fx lo E tNext wNext := ⟨fun env σ H Fs D R S h n _ _ _ => n env σ H Fs (.refl S hE) h⟩
theorem simS_seq (h1 : SimS c fx lo E t w) (h2 : SimS c fx lo E u w') : SimS c fx lo E (tSeq t u) (wSeq w w') := ⟨fun env σ H Fs D R S h n b ct rt =>
  h1.sim env σ H Fs _ { R with nx := w' R } S h (fun env1 σ1 H1 Fs1 o q => h2.sim env1 σ1 H1 Fs1 D R o.sr q (fun env2 σ2 H2 Fs2 o2 => n env2 σ2 H2 Fs2 (o.trans o2)) (fun env2 σ2 H2 Fs2 o2 => b env2 σ2 H2 Fs2 (o.trans o2)) (fun env2 σ2 H2 Fs2 o2 => ct env2 σ2 H2 Fs2 (o.trans o2))
    fun v d F env2 σ2 H2 Fs2 o2 r => rt v d F env2 σ2 H2 Fs2 (o.trans o2) (r.back o.ef.gr)) b ct rt⟩
theorem simS_cut (h1 : SimS c fx lo E t w) (h2 : SimS c fx lo E u w') : SimS c fx lo E (tSeq t u) (wCut w w') := ⟨fun env σ H Fs D R S h n b ct rt => by
  obtain ⟨M, h, h'⟩ := h
  exact h1.sim env σ H Fs _ { R with nx := M } S h (fun env1 σ1 H1 Fs1 o q => h2.sim env1 σ1 H1 Fs1 D R o.sr (h' _ q) (fun env2 σ2 H2 Fs2 o2 => n env2 σ2 H2 Fs2 (o.trans o2)) (fun env2 σ2 H2 Fs2 o2 => b env2 σ2 H2 Fs2 (o.trans o2)) (fun env2 σ2 H2 Fs2 o2 => ct env2 σ2 H2 Fs2 (o.trans o2))
    fun v d F env2 σ2 H2 Fs2 o2 r => rt v d F env2 σ2 H2 Fs2 (o.trans o2) (r.back o.ef.gr)) b ct rt⟩
theorem SimS.weak (h1 : SimS c fx lo E' t w) (hs : sub E' E = true) (hE : sub E c.ms = true) : SimS c fx lo E t w := ⟨fun env σ H Fs D R S h n b ct rt =>
  h1.sim env σ H Fs D R S h (fun env2 σ2 H2 Fs2 o2 => n env2 σ2 H2 Fs2 (o2.weak (sub_iff hs) (sub_iff hE))) (fun env2 σ2 H2 Fs2 o2 => b env2 σ2 H2 Fs2 (o2.weak (sub_iff hs) (sub_iff hE))) (fun env2 σ2 H2 Fs2 o2 => ct env2 σ2 H2 Fs2 (o2.weak (sub_iff hs) (sub_iff hE)))
    fun v d F env2 σ2 H2 Fs2 o2 r => rt v d F env2 σ2 H2 Fs2 (o2.weak (sub_iff hs) (sub_iff hE)) r⟩
def wRet (we : VW) : VWS := fun R env => we env R.rt
theorem simS_ret {mv : List Nat} (h : SimE c te s (some mv) e we) (he : sub e E = true) (hE : sub E c.ms = true) (hs : sub s lo = true) (hm : sub mv lo = true) : SimS c fx lo E (tRet te) (wRet we) := ⟨fun env σ H Fs D R S hw n b ct rt =>
  h.sim env σ H Fs _ _ S hw fun v d F env1 H1 Fs1 o r sr fr q => rt v d F env1 σ H1 Fs1 (o.ok2 he hE) ⟨r, sr.mono (sub_iff hs), fun _ mv' e' => by
    cases e'
    obtain ⟨z1, z2⟩ := fr mv rfl
    refine ⟨z1, fun a ha => (z2 a ha).imp id fun ⟨j, hj, y⟩ => ⟨j, sub_iff hm j hj, y⟩⟩⟩ q⟩
def wDrop (we : VW) : VWS := fun R env => we env fun _ env' => R.nx env'
theorem simS_expr (h : SimE c te s f e we) (he : sub e E = true) (hE : sub E c.ms = true) : SimS c fx lo E (tDrop te) (wDrop we) := ⟨fun env σ H Fs D R S hw n b ct rt =>
  h.sim env σ H Fs _ _ S hw fun v d F env1 H1 Fs1 o r sr fr q => n env1 σ H1 Fs1 (o.ok2 he hE) q⟩
def wIfS (wt : VWT) (w w' : VWS) : VWS := fun R env => wt env fun b env' => if b = true then w R env' else w' R env'
theorem simS_if (ht : SimT c tt e wt) (h1 : SimS c fx lo E t w) (h2 : SimS c fx lo E u w') (he : sub e E = true) (hE : sub E c.ms = true) : SimS c fx lo E (tIfS tt t u) (wIfS wt w w') := ⟨fun env σ H Fs D R S hw n b ct rt =>
  ht.sim env σ H Fs _ _ S hw fun k env1 H1 Fs1 o q => by
    have o := o.ok2 (fx := fx) he hE
    cases k with
    | true => exact iteT (h1.sim env1 σ H1 Fs1 D R o.sr q (fun env2 σ2 H2 Fs2 o2 => n env2 σ2 H2 Fs2 (o.trans o2)) (fun env2 σ2 H2 Fs2 o2 => b env2 σ2 H2 Fs2 (o.trans o2)) (fun env2 σ2 H2 Fs2 o2 => ct env2 σ2 H2 Fs2 (o.trans o2)) fun v d F env2 σ2 H2 Fs2 o2 r => rt v d F env2 σ2 H2 Fs2 (o.trans o2) (r.back o.ef.gr))
    | false => exact iteF (h2.sim env1 σ H1 Fs1 D R o.sr q (fun env2 σ2 H2 Fs2 o2 => n env2 σ2 H2 Fs2 (o.trans o2)) (fun env2 σ2 H2 Fs2 o2 => b env2 σ2 H2 Fs2 (o.trans o2)) (fun env2 σ2 H2 Fs2 o2 => ct env2 σ2 H2 Fs2 (o.trans o2)) fun v d F env2 σ2 H2 Fs2 o2 r => rt v d F env2 σ2 H2 Fs2 (o.trans o2) (r.back o.ef.gr))⟩
/-! stores to names -/
abbrev VWG := Val → VEnv → (VEnv → Prop) → Prop
structure SimG (c : Vc) (fx : List Nat) (g : TG) (w : VWG) : Prop where
  sim : ∀ (v : V) (d : Val) (F : List Addr) (env : VEnv) (σ : L2.St) (H : Hp) (Fs : Fp) (Q : L2.St → Hp → Prop) (R : VEnv → Prop), Sr c env σ H Fs → Rp c.K H F v d → Src c.ms [] F Fs → w d env R →
    (∀ env' σ' Fs', Sr c env' σ' H Fs' → (∀ j ∈ c.ms, Fs' j = Fs j) → (∀ i ∈ fx, σ'[i]? = σ[i]? ∧ Fs' i = Fs i) → R env' → Q σ' H) → g v σ H Q
structure SimGs (c : Vc) (fx : List Nat) (g : TGs) (w : List Val → VEnv → (VEnv → Prop) → Prop) : Prop where
  sim : ∀ (vs : List V) (ds : List Val) (F : List Addr) (env : VEnv) (σ : L2.St) (H : Hp) (Fs : Fp) (Q : L2.St → Hp → Prop) (R : VEnv → Prop), Sr c env σ H Fs → RpA c.K H F vs ds → Src c.ms [] F Fs → w ds env R →
    (∀ env' σ' Fs', Sr c env' σ' H Fs' → (∀ j ∈ c.ms, Fs' j = Fs j) → (∀ i ∈ fx, σ'[i]? = σ[i]? ∧ Fs' i = Fs i) → R env' → Q σ' H) → g vs σ H Q
def gvName (i : Nat) : VWG := fun d env R => R (env.set i (some d))
theorem eff_put {ms : List Nat} {Fs : Fp} {H : Hp} {i : Nat} {F : List Addr} (hi : i ∉ ms) : Eff ms [] Fs H (upF Fs i F) H := ⟨(fun _ h => nomatch h), Kp.refl _ _, fun _ h => h, fun j hj _ => upF_ne (ne_mem hj hi), fun j hj a ha => by
  rw [upF_ne (ne_mem hj hi)] at ha
  exact .inl ha⟩
theorem simG_name {i : Nat} (hi : i < c.N) (hm : c.ms.contains i = false) (hf : fx.contains i = false) : SimG c fx (gName i) (gvName i) := ⟨fun v d F env σ H Fs Q R S r sr hw k => by
  have n : i ∉ c.ms := fun z => by simp [z] at hm
  have nf : i ∉ fx := fun z => by simp [z] at hf
  refine k _ _ (upF Fs i F) (S.put hi r (fun z => absurd z n) (sr.mono fun _ h => nomatch h) (S.xk.eff (eff_put n))) (fun j hj => upF_ne (ne_mem hj n)) (fun j hj => ⟨?_, upF_ne (ne_mem hj nf)⟩) hw
  rw [List.getElem?_set_ne (ne_mem hj nf).symm]⟩
def gvNil : List Val → VEnv → (VEnv → Prop) → Prop
  | [], env, R => R env
  | _, _, _ => False
def gvCons (w : VWG) (w' : List Val → VEnv → (VEnv → Prop) → Prop) : List Val → VEnv → (VEnv → Prop) → Prop
  | d :: ds, env, R => w d env fun env' => w' ds env' R
  | [], _, _ => False
def gvTup (n : Nat) (w' : List Val → VEnv → (VEnv → Prop) → Prop) : VWG
  | .tup ds, env, R => ds.length = n ∧ w' ds env R
  | _, _, _ => False
theorem simGs_nil : SimGs c fx gNil gvNil := ⟨fun vs ds F env σ H Fs Q R S r sr hw k => by
  cases r with
  | nil => exact ⟨rfl, k env σ Fs S (fun _ _ => rfl) (fun _ _ => ⟨rfl, rfl⟩) hw⟩
  | cons a b => exact hw.elim⟩
theorem simGs_cons {g : TG} {gs : TGs} {wg : VWG} {wg' : List Val → VEnv → (VEnv → Prop) → Prop} (h1 : SimG c fx g wg) (h2 : SimGs c fx gs wg') : SimGs c fx (gCons g gs) (gvCons wg wg') := ⟨fun vs ds F env σ H Fs Q R S r sr hw k => by
  cases r with
  | nil => exact hw.elim
  | cons a b =>
    refine ⟨_, _, rfl, h1.sim _ _ _ env σ H Fs _ _ S a (fun x hx => sr x (List.mem_append_left _ hx)) hw fun env1 σ1 Fs1 S1 e1 f1 q1 => ?_⟩
    refine h2.sim _ _ _ env1 σ1 H Fs1 Q R S1 b (fun x hx j hj n => ?_) q1 fun env2 σ2 Fs2 S2 e2 f2 q2 => k env2 σ2 Fs2 S2 (fun j hj => (e2 j hj).trans (e1 j hj)) (fun i hi => ⟨(f2 i hi).1.trans (f1 i hi).1, (f2 i hi).2.trans (f1 i hi).2⟩) q2
    rw [e1 j hj]
    exact sr x (List.mem_append_right _ hx) j hj n⟩
theorem simG_tup {gs : TGs} {n : Nat} {wg' : List Val → VEnv → (VEnv → Prop) → Prop} (h : SimGs c fx gs wg') : SimG c fx (gTup c.K n gs) (gvTup n wg') := ⟨fun v d F env σ H Fs Q R S r sr hw k => by
  cases d <;> try exact hw.elim
  obtain ⟨l, vs, e, hs, ra⟩ := r.asT
  subst e
  exact ⟨l, vs, rfl, hs, by rw [ra.len]; exact hw.1, h.sim vs _ F env σ H Fs Q R S ra sr hw.2 k⟩⟩
def wAsg (we : VW) (wg : VWG) : VWS := fun R env => we env fun d env' => wg d env' R.nx
theorem simS_asg {g : TG} {wg : VWG} (h : SimE c te [] f e we) (hg : SimG c fx g wg) (he : sub e E = true) (hE : sub E c.ms = true) : SimS c fx lo E (tAsg te g) (wAsg we wg) := ⟨fun env σ H Fs D R S hw n b ct rt =>
  h.sim env σ H Fs _ _ S hw fun v d F env1 H1 Fs1 o r sr fr q => hg.sim v d F env1 σ H1 Fs1 _ _ o.sr r sr q fun env2 σ2 Fs2 S2 e2 f2 q2 => by
    refine n env2 σ2 H1 Fs2 ⟨S2, ?_, fun i hi => (f2 i hi).1⟩ q2
    have ef := o.ef.mono (sub_iff he) (sub_iff hE)
    exact ⟨ef.sub, ef.kp, ef.gr, fun j hj nn => (e2 j hj).trans (ef.out j hj nn), fun j hj a ha => ef.foot j hj a (by rw [← e2 j hj]; exact ha)⟩⟩
/-- an own slot is given a new value -/
def wSetO (i : Nat) (we : VW) : VWS := fun R env => we env fun d env' => R.nx (env'.set i (some d))
theorem simS_setO {i : Nat} (h : SimE c te [] (some []) e we) (hi : i < c.N) (hm : c.ms.contains i = true) (hf : fx.contains i = false) (hiE : E.contains i = true) (he : sub e E = true) (hE : sub E c.ms = true) : SimS c fx lo E (tAsg te (gName i)) (wSetO i we) := ⟨fun env σ H Fs D R S hw n b ct rt =>
  h.sim env σ H Fs _ _ S hw fun v d F env1 H1 Fs1 o r sr fr q => by
    have hm : i ∈ c.ms := by simpa using hm
    have nf : i ∉ fx := fun z => by simp [z] at hf
    have hiE : i ∈ E := by simpa using hiE
    obtain ⟨nd, new⟩ := fr [] rfl
    have new : ∀ a ∈ F, H a = none := fun a ha => (new a ha).elim id fun ⟨_, h, _⟩ => nomatch h
    have ef := o.ef.mono (sub_iff he) (sub_iff hE)
    have ef2 : Eff c.ms E Fs H (upF Fs1 i F) H1 := ⟨ef.sub, ef.kp, ef.gr, fun j hj nn => by
      rw [upF_ne fun z => nn (by rw [z]; exact hiE)]
      exact ef.out j hj nn, fun j hj a ha => by
      by_cases z : j = i
      · subst z
        rw [upF_self] at ha
        exact .inr (new a ha)
      · rw [upF_ne z] at ha
        exact ef.foot j hj a ha⟩
    refine n _ _ H1 (upF Fs1 i F) ⟨o.sr.put hi r (fun _ => ⟨nd, fun j hj a ha z => ?_⟩) (sr.mono fun _ h => nomatch h) (S.xk.eff ef2), ef2, fun j hj => ?_⟩ q
    · by_cases y : j ∈ c.ms
      · exact sr a ha j y (fun h => nomatch h) z
      · exact (S.mutb j a (o.vl j y a z)).ex (new a ha)
    · rw [List.getElem?_set_ne (ne_mem hj nf).symm]⟩
end
/-! ### own lists are changed -/
theorem RpA.erase {K : PySem.W.Frag} {H : Hp} : ∀ {F : List Addr} {vs : List V} {ds : List Val} (n : Nat), RpA K H F vs ds → ∃ G, RpA K H G (vs.eraseIdx n) (ds.eraseIdx n) ∧ G.Sublist F
  | _, _, _, _, .nil => ⟨[], .nil, .slnil⟩
  | _, _, _, 0, .cons (G := G) _ t => ⟨G, t, List.sublist_append_right _ _⟩
  | _, _, _, n + 1, .cons (F := F) h t => by
    obtain ⟨G, h1, h2⟩ := RpA.erase n t
    exact ⟨F ++ G, .cons h h1, (List.Sublist.refl F).append h2⟩
theorem RpA.set {K : PySem.W.Frag} {H : Hp} {v : V} {d : Val} (r : Rp K H [] v d) : ∀ {F : List Addr} {vs : List V} {ds : List Val} (n : Nat), RpA K H F vs ds → ∃ G, RpA K H G (vs.set n v) (ds.set n d) ∧ G.Sublist F
  | _, _, _, _, .nil => ⟨[], .nil, .slnil⟩
  | _, _, _, 0, .cons (G := G) _ t => ⟨G, .cons r t, List.sublist_append_right _ _⟩
  | _, _, _, n + 1, .cons (F := F) h t => by
    obtain ⟨G, h1, h2⟩ := RpA.set r n t
    exact ⟨F ++ G, .cons h h1, (List.Sublist.refl F).append h2⟩
theorem Tb.notmut {Ps : TL} {H : Hp} (t : Tb Ps H) {l : Addr} (m : Mutb H l) : OffT Ps H l := by
  rcases m with ⟨_, m⟩ | ⟨_, m⟩ | ⟨_, _, _, m⟩
  · exact ⟨t.out m (fun _ z => by cases z), t.nolam m (fun _ z => by cases z) fun _ z => by unfold LamX.CodeO at z; cases z⟩
  · exact ⟨t.out m (fun _ z => by cases z), t.nolam m (fun _ z => by cases z) fun _ z => by unfold LamX.CodeO at z; cases z⟩
  · exact ⟨t.out m (fun _ z => by cases z), t.nolam m (fun _ z => by cases z) fun _ z => by unfold LamX.CodeO at z; cases z⟩
theorem mutO {c : Vc} {env : VEnv} {σ : L2.St} {H : Hp} {Fs : Fp} {i : Nat} {d0 d' : Val} {l : Addr} {G G' : List Addr} {o' : HO} (S : Sr c env σ H Fs) (hB : i < c.N) (hi : i ∈ c.ms) (he : env[i]? = some (some d0)) (hv : σ[i]? = some (some (.ref l))) (hF : Fs i = l :: G) (hs : G'.Sublist G)
    (rp : Rp c.K (upd H l o') (l :: G') (.ref l) d') : Ok0 c [i] σ H Fs (env.set i (some d')) (upd H l o') (upF Fs i (l :: G')) := by
  have ml : Mutb H l := S.mutb i l (by rw [hF]; exact List.mem_cons_self)
  have sl : (l :: G').Sublist (Fs i) := by
    rw [hF]
    exact hs.cons_cons l
  have hN : i < env.length := (List.getElem?_eq_some_iff.mp he).1
  have ef : Eff c.ms [i] Fs H (upF Fs i (l :: G')) (upd H l o') := by
    refine ⟨fun j hj => by rw [List.mem_singleton.mp hj]; exact hi, Kp.upd ?_, fun a ha => ?_, fun j hj nn => upF_ne fun z => nn (List.mem_singleton.mpr z), fun j hj a ha => .inl ?_⟩
    · rw [List.flatMap_singleton, hF]
      exact List.mem_cons_self
    · by_cases z : a = l
      · rw [z, upd_same] at ha
        cases ha
      · rwa [upd_ne z] at ha
    · by_cases z : j = i
      · subst z
        rw [upF_self] at ha
        exact sl.subset ha
      · rwa [upF_ne z] at ha
  have inl : l ∈ Fs i := by
    rw [hF]
    exact List.mem_cons_self
  refine ⟨⟨by rw [List.length_set, S.le], S.ls, fun j d h => ?_, fun j h => ?_, fun j hj k hk a ha z => ?_, fun j hj => ?_, S.tb.at1 (S.tb.notmut ml), S.xk.eff ef⟩, ef, fun j hj a ha => by
    rw [upF_ne fun z => hj (by rw [z]; exact hi)] at ha
    exact ha⟩
  · rcases set_at h with ⟨rfl, rfl⟩ | ⟨ne, h⟩
    · exact ⟨_, .of hB hv, by rw [upF_self]; exact rp⟩
    · obtain ⟨v, h1, r⟩ := S.at_ j d h
      refine ⟨v, h1, ?_⟩
      rw [upF_ne ne]
      refine r.kp (L := [l]) (Kp.upd List.mem_cons_self) (fun a ha => by rw [List.mem_singleton.mp ha]; exact ml) fun a ha z => ?_
      rw [List.mem_singleton.mp z] at ha
      exact S.sep i hi j ne l inl ha
  · by_cases z : j = i
    · subst z
      exact absurd (by rw [List.getElem?_set_self hN]) (h d')
    · rw [upF_ne z]
      refine S.emp j fun d' h' => h d' ?_
      rw [List.getElem?_set_ne (Ne.symm z)]
      exact h'
  · by_cases y : j = i
    · subst y
      rw [upF_self] at ha
      rw [upF_ne hk] at z
      exact S.sep j hj k hk a (sl.subset ha) z
    · rw [upF_ne y] at ha
      by_cases y2 : k = i
      · subst y2
        rw [upF_self] at z
        exact S.sep j hj k hk a ha (sl.subset z)
      · rw [upF_ne y2] at z
        exact S.sep j hj k hk a ha z
  · by_cases y : j = i
    · subst y
      rw [upF_self]
      exact (S.nd j hj).sublist sl
    · rw [upF_ne y]
      exact S.nd j hj
theorem mutL {c : Vc} {env : VEnv} {σ : L2.St} {H : Hp} {Fs : Fp} {i : Nat} {d0 : Val} {l : Addr} {G G' : List Addr} {vs' : List V} {ds' : List Val} (S : Sr c env σ H Fs) (hB : i < c.N) (hi : i ∈ c.ms) (he : env[i]? = some (some d0)) (hv : σ[i]? = some (some (.ref l))) (hF : Fs i = l :: G) (hs : G'.Sublist G)
    (ra : RpA c.K H G' vs' ds') : Ok0 c [i] σ H Fs (env.set i (some (.lst ds'))) (upd H l (.lst vs')) (upF Fs i (l :: G')) := by
  have nd := S.nd i hi
  rw [hF] at nd
  have nl : l ∉ G' := fun z => (List.nodup_cons.mp nd).1 (hs.subset z)
  have ml : Mutb H l := S.mutb i l (by rw [hF]; exact List.mem_cons_self)
  exact mutO S hB hi he hv hF hs (.lst upd_same (ra.kp (L := [l]) (Kp.upd List.mem_cons_self) (fun a ha => by rw [List.mem_singleton.mp ha]; exact ml) fun a ha z => nl (by rw [← List.mem_singleton.mp z]; exact ha)))
/-- what stands in an own slot that is a list -/
theorem Sr.ownL {c : Vc} {env : VEnv} {σ : L2.St} {H : Hp} {Fs : Fp} (S : Sr c env σ H Fs) {i : Nat} (hB : i < c.N) {ds : List Val} (he : env[i]? = some (some (.lst ds))) : ∃ l vs G, σ[i]? = some (some (.ref l)) ∧ H l = some (.lst vs) ∧ RpA c.K H G vs ds ∧ Fs i = l :: G := by
  obtain ⟨v, hv, r⟩ := S.at_ i _ he
  have hv := hv.1 hB
  obtain ⟨l, vs, G, e, h1, h2, h3⟩ := r.asL
  subst e
  exact ⟨l, vs, G, hv, h1, h2, h3⟩
section
variable {c : Vc} {te ti : TE} {s e s' e' : List Nat} {f f' : Option (List Nat)} {we wi : VW} {fx lo E : List Nat}
def lstAt (i : Nat) (env : VEnv) (k : List Val → Prop) : Prop := match env[i]? with
  | some (some (.lst ds)) => k ds
  | _ => False
theorem lstAt_is {i : Nat} {env : VEnv} {k : List Val → Prop} (h : lstAt i env k) : ∃ ds, env[i]? = some (some (.lst ds)) ∧ k ds := by
  unfold lstAt at h
  split at h
  · exact ⟨_, ‹_›, h⟩
  · exact h.elim
/-- x.append(e), e without lists -/
def wApp (i : Nat) (we : VW) : VW := fun env Q => lstAt i env fun _ => we env fun d env' => lstAt i env' fun ds => d.flat = true ∧ ds.length < 1000000 ∧ Q .non (env'.set i (some (.lst (ds ++ [d]))))
theorem simE_app {i : Nat} (h : SimE c te s f e we) (hm : c.ms.contains i = true) (hB : Nat.blt i c.N = true := by rfl) : SimE c (tBM c.K "list" rAppend (tVar i) (tCons te tNil)) [] (some []) (e ++ [i]) (wApp i we) := ⟨fun env σ H Fs Q R S hw k => by
  have hm : i ∈ c.ms := by simpa using hm
  obtain ⟨ds0, he0, hw⟩ := lstAt_is hw
  obtain ⟨l, vs0, _, hv, hl0, _⟩ := S.ownL (lt_of_blt hB) he0
  refine ⟨_, hv, .inl ⟨rfl, _, SqL.of hl0⟩, h.sim env σ H Fs _ _ S hw fun y d F env1 H1 Fs1 o r sr fr q => ?_⟩
  obtain ⟨ds, he, hf, hlen, q⟩ := lstAt_is q
  obtain ⟨l', vs, G, hv', hl, ra, hF⟩ := o.sr.ownL (lt_of_blt hB) he
  rw [hv] at hv'
  cases hv'
  have z := r.flat hf
  subst z
  have ra2 := ra.app (RpA.one r)
  rw [List.append_nil] at ra2
  exact ⟨l, vs, y, rfl, rfl, hl, small_lt (by rw [ra.len]; omega), k _ _ [] _ _ _ (o.trans (mutL o.sr (lt_of_blt hB) hm he hv hF (List.Sublist.refl G) ra2)) .non .nil .nil q⟩⟩
/-- x.append(e), e new -/
def wAppN (i : Nat) (we : VW) : VW := fun env Q => lstAt i env fun _ => we env fun d env' => lstAt i env' fun ds => ds.length < 1000000 ∧ Q .non (env'.set i (some (.lst (ds ++ [d]))))
theorem simE_appN {i : Nat} (h : SimE c te [] (some []) e we) (hm : c.ms.contains i = true) (hB : Nat.blt i c.N = true := by rfl) : SimE c (tBM c.K "list" rAppend (tVar i) (tCons te tNil)) [] (some []) (e ++ [i]) (wAppN i we) := ⟨fun env σ H Fs Q R S hw k => by
  have hm : i ∈ c.ms := by simpa using hm
  obtain ⟨ds0, he0, hw⟩ := lstAt_is hw
  obtain ⟨l, vs0, _, hv, hl0, _⟩ := S.ownL (lt_of_blt hB) he0
  refine ⟨_, hv, .inl ⟨rfl, _, SqL.of hl0⟩, h.sim env σ H Fs _ _ S hw fun y d F2 env1 H1 Fs1 o r sr fr q => ?_⟩
  obtain ⟨ds, he, hlen, q⟩ := lstAt_is q
  obtain ⟨l', vs, G, hv', hl, ra, hF⟩ := o.sr.ownL (lt_of_blt hB) he
  rw [hv] at hv'
  cases hv'
  obtain ⟨nd2, new⟩ := fr [] rfl
  have new : ∀ a ∈ F2, H a = none := fun a ha => (new a ha).elim id fun ⟨_, h, _⟩ => nomatch h
  have nd1 := o.sr.nd i hm
  have lin : l ∈ Fs1 i := by rw [hF]; exact List.mem_cons_self
  have f2d : ∀ j, ∀ a ∈ F2, a ∉ Fs1 j := fun j a ha z => by
    by_cases hj : j ∈ c.ms
    · exact sr a ha j hj (fun h => nomatch h) z
    · exact (S.mutb j a (o.vl j hj a z)).ex (new a ha)
  have l2 : l ∉ F2 := fun z => f2d i l z lin
  have lG : l ∉ G := by
    rw [hF] at nd1
    exact (List.nodup_cons.mp nd1).1
  have nG : G.Nodup := by
    rw [hF] at nd1
    exact (List.nodup_cons.mp nd1).2
  have ml : Mutb H1 l := .inl ⟨_, hl⟩
  have hN : i < env1.length := (List.getElem?_eq_some_iff.mp he).1
  have foot : ∀ a ∈ l :: (G ++ F2), a ∈ Fs i ∨ H a = none := fun a ha => by
    rcases List.mem_cons.mp ha with z | z
    · rw [z]
      exact o.ef.foot i hm l lin
    · rcases List.mem_append.mp z with z | z
      · exact o.ef.foot i hm a (by rw [hF]; exact List.mem_cons_of_mem _ z)
      · exact .inr (new a z)
  have ef : Eff c.ms (e ++ [i]) Fs H (upF Fs1 i (l :: (G ++ F2))) (upd H1 l (.lst (vs ++ [y]))) := by
    refine ⟨fun j hj => (List.mem_append.mp hj).elim (o.ef.sub j) fun z => by rw [List.mem_singleton.mp z]; exact hm, fun b ob hb hH => ?_, fun a ha => ?_, fun j hj nn => ?_, fun j hj a ha => ?_⟩
    · have n1 : b ∉ e.flatMap Fs := fun z => hb (by rw [List.flatMap_append]; exact List.mem_append_left _ z)
      have n2 : b ∉ Fs i := fun z => hb (by rw [List.flatMap_append]; exact List.mem_append_right _ (by rw [List.flatMap_singleton]; exact z))
      have bl : b ≠ l := fun z => by
        rcases o.ef.foot i hm l lin with y | y
        · exact n2 (by rw [z]; exact y)
        · rw [← z, hH] at y
          cases y
      rw [upd_ne bl]
      exact o.ef.kp b ob n1 hH
    · by_cases z : a = l
      · rw [z, upd_same] at ha
        cases ha
      · rw [upd_ne z] at ha
        exact o.ef.gr a ha
    · rw [upF_ne fun z => nn (List.mem_append_right _ (List.mem_singleton.mpr z))]
      exact o.ef.out j hj fun z => nn (List.mem_append_left _ z)
    · by_cases z : j = i
      · rw [z, upF_self] at ha
        rw [z]
        exact foot a ha
      · rw [upF_ne z] at ha
        exact o.ef.foot j hj a ha
  have kl : Kp [l] H1 (upd H1 l (.lst (vs ++ [y]))) := Kp.upd List.mem_cons_self
  have mls : ∀ a ∈ [l], Mutb H1 a := fun a ha => by
    rw [List.mem_singleton.mp ha]
    exact ml
  have rp2 : Rp c.K (upd H1 l (.lst (vs ++ [y]))) (l :: (G ++ F2)) (.ref l) (.lst (ds ++ [d])) := .lst upd_same ((ra.app (RpA.one r)).kp kl mls fun a ha z => by
    rw [List.mem_singleton.mp z] at ha
    exact (List.mem_append.mp ha).elim lG l2)
  have inside : ∀ j, j ≠ i → ∀ a ∈ l :: (G ++ F2), a ∉ Fs1 j := fun j hj a ha z => by
    rcases List.mem_cons.mp ha with y | y
    · rw [y] at z
      exact o.sr.sep i hm j hj l lin z
    · rcases List.mem_append.mp y with y | y
      · exact o.sr.sep i hm j hj a (by rw [hF]; exact List.mem_cons_of_mem _ y) z
      · exact f2d j a y z
  refine ⟨l, vs, y, rfl, rfl, hl, small_lt (by rw [ra.len]; omega), k _ _ [] _ _ (upF Fs1 i (l :: (G ++ F2))) ⟨⟨by rw [List.length_set, o.sr.le], o.sr.ls, fun j d' h => ?_, fun j h => ?_, fun j hj k' hk a ha z => ?_, fun j hj => ?_, o.sr.tb.at1 (o.sr.tb.notmut ml), S.xk.eff ef⟩, ef, fun j hj a ha => ?_⟩ .non .nil .nil q⟩
  · rcases set_at h with ⟨rfl, rfl⟩ | ⟨ne, h⟩
    · exact ⟨_, .of (lt_of_blt hB) hv, by rw [upF_self]; exact rp2⟩
    · obtain ⟨v, h1, r1⟩ := o.sr.at_ j d' h
      refine ⟨v, h1, ?_⟩
      rw [upF_ne ne]
      refine r1.kp kl mls fun a ha z => ?_
      rw [List.mem_singleton.mp z] at ha
      exact o.sr.sep i hm j ne l lin ha
  · by_cases z : j = i
    · subst z
      exact absurd (by rw [List.getElem?_set_self hN]) (h (.lst (ds ++ [d])))
    · rw [upF_ne z]
      refine o.sr.emp j fun d' h' => h d' ?_
      rw [List.getElem?_set_ne (Ne.symm z)]
      exact h'
  · by_cases y : j = i
    · subst y
      rw [upF_self] at ha
      rw [upF_ne hk] at z
      exact inside k' hk a ha z
    · rw [upF_ne y] at ha
      by_cases y2 : k' = i
      · subst y2
        rw [upF_self] at z
        exact inside j y a z ha
      · rw [upF_ne y2] at z
        exact o.sr.sep j hj k' hk a ha z
  · by_cases y : j = i
    · rw [y, upF_self]
      refine List.nodup_cons.mpr ⟨fun z => (List.mem_append.mp z).elim lG l2, List.nodup_append.mpr ⟨nG, nd2, fun a ha b hb ab => ?_⟩⟩
      subst ab
      exact f2d i a hb (by rw [hF]; exact List.mem_cons_of_mem _ ha)
    · rw [upF_ne y]
      exact o.sr.nd j hj
  · rw [upF_ne fun z => hj (by rw [z]; exact hm)] at ha
    exact o.vl j hj a ha⟩
/-- x.pop(e) -/
def wPopAt (i : Nat) (we : VW) : VW := fun env Q => lstAt i env fun _ => we env fun d env' => lstAt i env' fun ds => (match d with
  | .int j => (match ixN ds.length j with
    | some n => (match ds[n]? with
      | some x => x.flat = true ∧ ds.length ≤ 1000000 ∧ Q x (env'.set i (some (.lst (ds.eraseIdx n))))
      | none => False)
    | none => False)
  | _ => False)
theorem simE_popAt {i : Nat} (h : SimE c te s f e we) (hm : c.ms.contains i = true) (hB : Nat.blt i c.N = true := by rfl) : SimE c (tBM c.K "list" rPopAt (tVar i) (tCons te tNil)) [] (some []) (e ++ [i]) (wPopAt i we) := ⟨fun env σ H Fs Q R S hw k => by
  have hm : i ∈ c.ms := by simpa using hm
  obtain ⟨ds0, he0, hw⟩ := lstAt_is hw
  obtain ⟨l, vs0, _, hv, hl0, _⟩ := S.ownL (lt_of_blt hB) he0
  refine ⟨_, hv, .inl ⟨rfl, _, SqL.of hl0⟩, h.sim env σ H Fs _ _ S hw fun y d F env1 H1 Fs1 o r sr fr q0 => ?_⟩
  obtain ⟨ds, he, q⟩ := lstAt_is q0
  clear q0 fr sr
  obtain ⟨l', vs, G, hv', hl, ra, hF⟩ := o.sr.ownL (lt_of_blt hB) he
  rw [hv] at hv'
  cases hv'
  cases d <;> try exact q.elim
  cases r
  rename_i j
  cases hn : ixN ds.length j with
  | none => simp only [hn] at q
  | some n =>
    cases hx : ds[n]? with
    | none => simp only [hn, hx] at q
    | some x =>
      simp only [hn, hx] at q
      obtain ⟨hf, hlen, q⟩ := q
      obtain ⟨h1, h2, h3, h4⟩ := ixN_seq hn
      obtain ⟨v, G1, g1, g2, g3, _⟩ := ra.get hx
      have z := g2.flat hf
      subst z
      obtain ⟨G', ra', sub'⟩ := ra.erase n
      have o2 := mutL o.sr (lt_of_blt hB) hm he hv hF sub' ra'
      refine ⟨l, vs, j, n, v, rfl, rfl, hl, by omega, by omega, by rw [ra.len]; exact h1, g1, k _ x [] _ _ _ (o.trans o2) ?_ .nil .nil q⟩
      exact g2.kp (L := [l]) (Kp.upd List.mem_cons_self) (fun a ha => by rw [List.mem_singleton.mp ha]; exact .inl ⟨_, hl⟩) fun a ha => nomatch ha⟩
/-- x[k] = e -/
def wSetIx (i : Nat) (we wi : VW) : VWS := fun R env => we env fun d env1 => lstAt i env1 fun _ => wi env1 fun k env2 => lstAt i env2 fun ds => (match k with
  | .int j => (match ixN ds.length j with
    | some n => d.flat = true ∧ R.nx (env2.set i (some (.lst (ds.set n d))))
    | none => False)
  | _ => False)
theorem simS_setIx {i : Nat} (h : SimE c te s f e we) (h2 : SimE c ti s' f' e' wi) (hd : disj s e' = true) (hm : c.ms.contains i = true) (he : sub e E = true) (he' : sub e' E = true) (hi : E.contains i = true) (hE : sub E c.ms = true) (hB : Nat.blt i c.N = true := by rfl) : SimS c fx lo E (tAsg te (gSub (tVar i) ti rSetL)) (wSetIx i we wi) := ⟨fun env σ H Fs D R S hw n b ct rt =>
  h.sim env σ H Fs _ _ S hw fun v d F env1 H1 Fs1 o r sr fr q => by
    have hm : i ∈ c.ms := by simpa using hm
    have hi : i ∈ E := by simpa using hi
    obtain ⟨ds0, he0, q⟩ := lstAt_is q
    obtain ⟨l, vs0, _, hv, hl0, _⟩ := o.sr.ownL (lt_of_blt hB) he0
    refine ⟨_, hv, h2.sim env1 σ H1 Fs1 _ _ o.sr q fun y d2 F2 env2 H2 Fs2 o2 r2 sr2 fr2 q0 => ?_⟩
    obtain ⟨ds, he2, q2⟩ := lstAt_is q0
    clear q0
    obtain ⟨l', vs, G, hv', hl, ra, hF⟩ := o2.sr.ownL (lt_of_blt hB) he2
    rw [hv] at hv'
    cases hv'
    clear fr2 sr2
    cases d2 <;> try exact q2.elim
    cases r2
    rename_i j
    cases hn : ixN ds.length j with
    | none => simp only [hn] at q2
    | some m =>
      simp only [hn] at q2
      obtain ⟨hf, q2⟩ := q2
      have r' := (r.eff o.sr o2.ef sr hd).1
      have z := r.flat hf
      subst z
      obtain ⟨G', ra', sub'⟩ := ra.set r' m
      have o3 := mutL o2.sr (lt_of_blt hB) hm he2 hv hF sub' ra'
      refine ⟨l, vs, j, m, rfl, rfl, hl, by rw [ra.len]; exact hn, n _ _ _ _ (((o.trans o2).trans o3).ok2 ?_ hE) q2⟩
      exact List.all_eq_true.mpr fun x hx => by
        rcases List.mem_append.mp hx with hx | hx
        · rcases List.mem_append.mp hx with hx | hx
          · simpa using sub_iff he x hx
          · simpa using sub_iff he' x hx
        · rw [List.mem_singleton.mp hx]
          simpa using hi⟩
end
/-! ### what is walked over -/
abbrev VWI := VEnv → (List Val → VEnv → Prop) → Prop
def ItOk (c : Vc) (J : It) (xs : List Val) (s : List Nat) (H : Hp) (Fs : Fp) : Prop := ∀ (e2 : List Nat) (H2 : Hp) (Fs2 : Fp), Eff c.ms e2 Fs H Fs2 H2 → disj s e2 = true → ∀ i : Nat,
  (∀ x, xs[i]? = some x → J.go i H2 ∧ ∀ v H3, J.yld i H2 v H3 → Same H2 H3 ∧ ∃ F, Rp c.K H3 F v x ∧ Src c.ms s F Fs2) ∧ (xs.length ≤ i → J.stop i H2)
structure SimI (c : Vc) (ti : TI) (s e : List Nat) (w : VWI) : Prop where
  sim : ∀ (env : VEnv) (σ : L2.St) (H : Hp) (Fs : Fp) (Q : It → Hp → Prop) (R : List Val → VEnv → Prop), Sr c env σ H Fs → w env R → (∀ J xs env' H' Fs', Ok0 c e σ H Fs env' H' Fs' → ItOk c J xs s H' Fs' → R xs env' → Q J H') → ti σ H Q
section
variable {c : Vc} {te : TE} {ta : TA} {as : List Arg} {s e : List Nat} {f : Option (List Nat)} {we : VW} {wa : VWA}
theorem SqL.uniq {K : PySem.W.Frag} {H : Hp} {a : Addr} {xs : List V} (h : H a = some (.lst xs)) {i : Nat} {x y : V} (hx : ∀ zs, SqL K H a zs → zs[i]? = some x) (hy : xs[i]? = some y) : x = y := by
  have := hx xs (SqL.of h)
  rw [hy] at this
  exact (Option.some.inj this).symm
def wiL (we : VW) : VWI := fun env Q => we env fun d env' => match d with
  | .lst ds => Q ds env'
  | .frz ds => Q ds env'
  | _ => False
theorem rd_lst {K : PySem.W.Frag} {H : Hp} {F : List Addr} {v : V} {d : Val} {ds : List Val} (r : Rp K H F v d) (h : d = .lst ds ∨ d = .frz ds) : ∃ l vs G, v = .ref l ∧ SqL K H l vs ∧ RpA K H G vs ds ∧ ∀ a ∈ G, a ∈ F := by
  rcases h with rfl | rfl
  · obtain ⟨l, vs, G, e, h1, h2, h3⟩ := r.asL
    exact ⟨l, vs, G, e, SqL.of h1, h2, fun a ha => by rw [h3]; exact List.mem_cons_of_mem _ ha⟩
  · obtain ⟨l, vs, e, h1, h2⟩ := r.asF
    exact ⟨l, vs, F, e, h1, h2, fun a ha => ha⟩
theorem simI_list (h : SimE c te s f e we) : SimI c (iList c.K te) s e (wiL we) := ⟨fun env σ H Fs Q R S hw k =>
  h.sim env σ H Fs _ _ S hw fun v d F env1 H1 Fs1 o r sr fr q => by
    obtain ⟨ds, hd, q⟩ : ∃ ds, (d = .lst ds ∨ d = .frz ds) ∧ R ds env1 := by
      cases d <;> first
        | exact q.elim
        | exact ⟨_, .inl rfl, q⟩
        | exact ⟨_, .inr rfl, q⟩
    obtain ⟨l, vs, G, ev, hs, _, _⟩ := rd_lst r hd
    subst ev
    refine ⟨l, rfl, ⟨vs, hs⟩, k (Itl c.K l) ds env1 H1 Fs1 o (fun e2 H2 Fs2 ef dj i => ?_) q⟩
    obtain ⟨r2, s2⟩ := r.eff o.sr ef sr dj
    obtain ⟨l', vs', G', ev, hs', ra, hG⟩ := rd_lst r2 hd
    cases ev
    refine ⟨fun x hx => ?_, fun hi => ⟨vs', hs', by rw [ra.len]; exact hi⟩⟩
    obtain ⟨v, F', g1, g2, g3, _⟩ := ra.get hx
    refine ⟨⟨vs', v, hs', g1⟩, fun y H3 hy => ?_⟩
    obtain ⟨rfl, hy⟩ := hy
    have ey : v = y := Option.some.inj (g1.symm.trans (hy vs' hs'))
    subst ey
    exact ⟨fun _ _ h => h, F', g2, fun a ha => s2 a (hG a (g3 a ha))⟩⟩
def rngV (lo : Int) (n : Nat) : List Val := (List.range n).map fun i => Val.int (lo + (i : Nat))
theorem rngV_len {lo : Int} {n : Nat} : (rngV lo n).length = n := by
  unfold rngV
  rw [List.length_map, List.length_range]
theorem rngV_at {lo : Int} {n i : Nat} {x : Val} (h : (rngV lo n)[i]? = some x) : i < n ∧ x = .int (lo + (i : Nat)) := by
  have hi := (List.getElem?_eq_some_iff.mp h).1
  rw [rngV_len] at hi
  unfold rngV at h
  rw [List.getElem?_map, List.getElem?_range hi] at h
  exact ⟨hi, (Option.some.inj h).symm⟩
theorem ito_rng {lo : Int} {n : Nat} {H : Hp} {Fs : Fp} : ItOk c (Itr lo n) (rngV lo n) s H Fs := fun e2 H2 Fs2 ef dj i => by
  refine ⟨fun x hx => ?_, fun hi => by rw [rngV_len] at hi; exact hi⟩
  obtain ⟨hi, rfl⟩ := rngV_at hx
  refine ⟨hi, fun v H3 hy => ?_⟩
  obtain ⟨rfl, rfl⟩ := hy
  exact ⟨fun _ _ h => h, [], .int _, .nil⟩
def wiR1 (wa : VWA) : VWI := fun env Q => wa env fun ds env' => match ds with
  | [.int j] => (-(2 ^ 62) ≤ j ∧ j < 2 ^ 62) ∧ Q (rngV 0 j.toNat) env'
  | _ => False
theorem simI_rng1 (h : SimA c ta as f e wa) : SimI c (iRng1 ta) [] e (wiR1 wa) := ⟨fun env σ H Fs Q R S hw k =>
  h.sim env σ H Fs _ _ S hw fun vs ds Gs env1 H1 Fs1 o r fr q => by
    split at q
    · rename_i j
      obtain ⟨v, F, e1, r1⟩ := r.one
      subst e1
      cases r1
      exact ⟨j, rfl, q.1.1, q.1.2, k _ _ env1 H1 Fs1 o ito_rng q.2⟩
    · exact q.elim⟩
end
section
variable {c : Vc} {te : TE} {ta : TA} {as : List Arg} {s e : List Nat} {f : Option (List Nat)} {we : VW} {wa : VWA}
/-! zip, enumerate -/
def zipV : List Val → List Val → List Val
  | x :: xs, y :: ys => .tup [x, y] :: zipV xs ys
  | _, _ => []
theorem zipV_at : ∀ (xs ys : List Val) (j : Nat) (z : Val), (zipV xs ys)[j]? = some z → ∃ x y, z = .tup [x, y] ∧ xs[j]? = some x ∧ ys[j]? = some y
  | [], _, j, z, h => by simp [zipV] at h
  | _ :: _, [], j, z, h => by simp [zipV] at h
  | x :: xs, y :: ys, 0, z, h => ⟨x, y, (Option.some.inj h).symm, rfl, rfl⟩
  | x :: xs, y :: ys, j + 1, z, h => zipV_at xs ys j z h
theorem zipV_len : ∀ (xs ys : List Val), (zipV xs ys).length = min xs.length ys.length
  | [], _ => by simp [zipV]
  | _ :: _, [] => by simp [zipV]
  | x :: xs, y :: ys => by
    show (zipV xs ys).length + 1 = min (xs.length + 1) (ys.length + 1)
    rw [zipV_len xs ys]
    omega
theorem zipV_map {α β : Type} (f : α → Val) (g : β → Val) : ∀ (xs : List α) (ys : List β), zipV (xs.map f) (ys.map g) = (xs.zip ys).map fun p => .tup [f p.1, g p.2]
  | [], _ => rfl
  | _ :: _, [] => rfl
  | x :: xs, y :: ys => congrArg (_ :: ·) (zipV_map f g xs ys)
def wiZ (wa : VWA) : VWI := fun env Q => wa env fun ds env' => match ds with
  | [.lst xs, .lst ys] => Q (zipV xs ys) env'
  | _ => False
theorem Src.app {ms s : List Nat} {F G : List Addr} {Fs : Fp} (a : Src ms s F Fs) (b : Src ms s G Fs) : Src ms s (F ++ G) Fs := fun x hx => (List.mem_append.mp hx).elim (a x) (b x)
theorem RpL.two' {c : Vc} {env : VEnv} {σ : L2.St} {H : Hp} {Fs : Fp} {as : List Arg} {Gs : List (List Addr)} {vs : List V} {d d' : Val} (S : Sr c env σ H Fs) (h : RpL c σ H Fs as Gs vs [d, d']) : ∃ v v' F F', vs = [v, v'] ∧ Rp c.K H F v d ∧ Rp c.K H F' v' d' ∧ Src c.ms (as.flatMap Arg.src) F Fs ∧ Src c.ms (as.flatMap Arg.src) F' Fs := by
  have hs := h.src S
  have hr := h.rpa
  generalize Gs.flatten = F0 at hs hr
  cases hr with
  | cons r t =>
    cases t with
    | cons r' t' =>
      cases t'
      rw [List.append_nil] at hs
      exact ⟨_, _, _, _, rfl, r, r', fun a ha => hs a (List.mem_append_left _ ha), fun a ha => hs a (List.mem_append_right _ ha)⟩
theorem simI_zip (h : SimA c ta as f e wa) : SimI c (iZip c.K ta) (as.flatMap Arg.src) e (wiZ wa) := ⟨fun env σ H Fs Q R S hw k =>
  h.sim env σ H Fs _ _ S hw fun vs ds Gs env1 H1 Fs1 o r fr q => by
    split at q
    · rename_i xs ys
      obtain ⟨v, w, F, F2, e1, r1, q1, sr, sq⟩ := r.two' o.sr
      subst e1
      obtain ⟨l, us, G, e2, hl, ra, hF⟩ := r1.asL
      obtain ⟨m, ws, G2, e3, hm, qa, hF2⟩ := q1.asL
      subst e2 e3
      refine ⟨l, m, us, ws, rfl, SqL.of hl, SqL.of hm, k (Itz c.K l m) _ env1 H1 Fs1 o (fun e2 H2 Fs2 ef dj i => ?_) q⟩
      obtain ⟨r2, s2⟩ := r1.eff o.sr ef sr dj
      obtain ⟨q2, z2⟩ := q1.eff o.sr ef sq dj
      obtain ⟨l', us', G', ev, hl', ra', hF'⟩ := r2.asL
      cases ev
      obtain ⟨m', ws', G2', ev, hm', qa', hF2'⟩ := q2.asL
      cases ev
      rw [zipV_len]
      refine ⟨fun x hx => ?_, fun hi => ⟨us', ws', SqL.of hl', SqL.of hm', by rw [ra'.len, qa'.len]; omega⟩⟩
      obtain ⟨x1, x2, rfl, hx1, hx2⟩ := zipV_at xs ys i x hx
      obtain ⟨v1, F1, g1, g2, g3, _⟩ := ra'.get hx1
      obtain ⟨v2, F2, k1, k2, k3, _⟩ := qa'.get hx2
      refine ⟨⟨us', ws', v1, v2, SqL.of hl', SqL.of hm', g1, k1⟩, fun z H3 hz => ?_⟩
      obtain ⟨T, x0, y0, rfl, nT, rfl, h1, h2⟩ := hz
      have ex : v1 = x0 := Option.some.inj (g1.symm.trans (h1 us' (SqL.of hl')))
      have ey : v2 = y0 := Option.some.inj (k1.symm.trans (h2 ws' (SqL.of hm')))
      subst ex ey
      obtain ⟨gT, sT⟩ := upd_at (o := .tup [v1, v2]) nT
      exact ⟨sT, F1 ++ F2, .tup gT (.cons (g2.same sT) (RpA.one (k2.same sT))), Src.app (fun a ha => s2 a (by rw [hF']; exact List.mem_cons_of_mem _ (g3 a ha))) fun a ha => z2 a (by rw [hF2']; exact List.mem_cons_of_mem _ (k3 a ha))⟩
    · exact q.elim⟩
/-! ### for -/
variable {fx lo E E' : List Nat} {ti : TI} {wi : VWI} {g : TG} {wg : VWG} {tb : TS} {wb : VWS} {tt : TT} {wt : VWT}
def wFor (wi : VWI) (wg : VWG) (wb : VWS) : VWS := fun R env => wi env fun xs env1 => ∃ I : Nat → VEnv → Prop, I 0 env1 ∧
  (∀ i x env', xs[i]? = some x → I i env' → wg x env' fun env2 => wb { nx := I (i + 1), ct := I (i + 1), bk := R.nx, rt := R.rt } env2) ∧ ∀ env', I xs.length env' → R.nx env'
theorem for_core {J : It} {xs : List Val} {σ : L2.St} {H H1 : Hp} {Fs Fs1 : Fp} {env1 : VEnv} {D : Ends} {R : VEnds} (o : Ok2 c fx E σ H Fs env1 σ H1 Fs1) (it : ItOk c J xs s H1 Fs1) (hs : ∀ (i : Nat) (x : Val), xs[i]? = some x → ∀ H3 F v Fs2, Rp c.K H3 F v x → Src c.ms s F Fs2 → Src c.ms [] F Fs2) (hg : SimG c fx g wg) (hb : SimS c fx lo E' tb wb) (hd : disj s E' = true) (hE' : sub E' E = true) (hE2 : sub E' c.ms = true)
    (I : Nat → VEnv → Prop) (I0 : I 0 env1) (step : ∀ (i : Nat) (x : Val) (env' : VEnv), xs[i]? = some x → I i env' → wg x env' fun env2 => wb { nx := I (i + 1), ct := I (i + 1), bk := R.nx, rt := R.rt } env2) (fin : ∀ env', I xs.length env' → R.nx env')
    (n : ∀ env' σ' H' Fs', Ok2 c fx E σ H Fs env' σ' H' Fs' → R.nx env' → D.nx σ' H') (rt : ∀ v d F env' σ' H' Fs', Ok2 c fx E σ H Fs env' σ' H' Fs' → RtOk c lo H F v d H' Fs' → R.rt d env' → D.rt v H') :
    ∃ W : Nat → Nat → L2.St → Hp → Prop, (∃ m, W 0 m σ H1) ∧ ∀ i m σ H, W i m σ H → (J.stop i H ∧ D.nx σ H) ∨ (J.go i H ∧ ∃ N : L2.St → Hp → Prop, (∀ σ' H', N σ' H' → ∃ m', m' < m ∧ W (i + 1) m' σ' H') ∧ ∀ x H', J.yld i H x H' → g x σ H' fun σ2 H2 => tb { D with nx := N, ct := N, bk := D.nx } σ2 H2) := by
  have up : ∀ {env2 : VEnv} {σ2 : L2.St} {H2 : Hp} {Fs2 : Fp}, Ok2 c fx E' σ H1 Fs1 env2 σ2 H2 Fs2 → Ok2 c fx E σ H Fs env2 σ2 H2 Fs2 := fun o2 => o.trans (o2.weak (sub_iff hE') o.ef.sub)
  refine ⟨fun i m σ' H' => m = xs.length - i ∧ i ≤ xs.length ∧ ∃ env' Fs', Ok2 c fx E' σ H1 Fs1 env' σ' H' Fs' ∧ I i env', ⟨xs.length, by simp, Nat.zero_le _, env1, Fs1, .refl o.sr hE2, I0⟩, ?_⟩
  rintro i m σ2 H2 ⟨rfl, hi, env2, Fs2, o2, i2⟩
  by_cases hlt : i < xs.length
  · obtain ⟨x, hx⟩ : ∃ x, xs[i]? = some x := ⟨_, List.getElem?_eq_getElem hlt⟩
    obtain ⟨go, yl⟩ := (it E' H2 Fs2 o2.ef hd i).1 x hx
    refine .inr ⟨go, fun σ' H' => ∃ env' Fs', Ok2 c fx E' σ H1 Fs1 env' σ' H' Fs' ∧ I (i + 1) env', fun σ' H' hN => ⟨xs.length - (i + 1), by omega, rfl, hlt, hN⟩, fun v H3 hy => ?_⟩
    obtain ⟨sm, F, r, sr⟩ := yl v H3 hy
    have S3 := o2.sr.same sm
    have o3 : Ok2 c fx E' σ H1 Fs1 env2 σ2 H3 Fs2 := ⟨S3, (o2.ef.trans (.same sm)).mono (fun j hj => (List.mem_append.mp hj).elim id fun z => nomatch z) o2.ef.sub, o2.fx⟩
    refine hg.sim v x F env2 σ2 H3 Fs2 _ _ S3 r (hs i x hx H3 F v Fs2 r sr) (step i x env2 hx i2) fun env4 σ4 Fs4 S4 e4 f4 q4 => ?_
    have o4 : Ok2 c fx E' σ H1 Fs1 env4 σ4 H3 Fs4 := ⟨S4, ⟨o3.ef.sub, o3.ef.kp, o3.ef.gr, fun j hj nn => (e4 j hj).trans (o3.ef.out j hj nn), fun j hj a ha => o3.ef.foot j hj a (by rw [← e4 j hj]; exact ha)⟩, fun j hj => (f4 j hj).1.trans (o3.fx j hj)⟩
    refine hb.sim env4 σ4 H3 Fs4 _ _ S4 q4 (fun env5 σ5 H5 Fs5 o5 q5 => ⟨env5, Fs5, o4.trans o5, q5⟩) (fun env5 σ5 H5 Fs5 o5 q5 => n env5 σ5 H5 Fs5 (up (o4.trans o5)) q5) (fun env5 σ5 H5 Fs5 o5 q5 => ⟨env5, Fs5, o4.trans o5, q5⟩) fun v d F env5 σ5 H5 Fs5 o5 r5 q5 => rt v d F env5 σ5 H5 Fs5 (up (o4.trans o5)) (r5.back fun a ha => o.ef.gr a (o4.ef.gr a ha)) q5
  · have e0 : i = xs.length := by omega
    subst e0
    exact .inl ⟨(it E' H2 Fs2 o2.ef hd _).2 (Nat.le_refl _), n env2 σ2 H2 Fs2 (up o2) (fin env2 i2)⟩
theorem simS_for (hi : SimI c ti [] e wi) (hg : SimG c fx g wg) (hb : SimS c fx lo E' tb wb) (he : sub e E = true) (hE' : sub E' E = true) (hE : sub E c.ms = true) (hE2 : sub E' c.ms = true) : SimS c fx lo E (tFor ti g tb) (wFor wi wg wb) := ⟨fun env σ H Fs D R S hw n b ct rt =>
  hi.sim env σ H Fs _ _ S hw fun J xs env1 H1 Fs1 o it q => by
    obtain ⟨I, I0, step, fin⟩ := q
    exact for_core (o.ok2 he hE) it (fun _ _ _ _ _ _ _ _ h => h) hg hb rfl hE' hE2 I I0 step fin n rt⟩
/-! while -/
def wWhile (wt : VWT) (wb : VWS) : VWS := fun R env => ∃ (I : VEnv → Prop) (μ : VEnv → Nat), I env ∧ ∀ env', I env' → wt env' fun k env2 => if k = true then wb { nx := fun env3 => I env3 ∧ μ env3 < μ env', ct := fun env3 => I env3 ∧ μ env3 < μ env', bk := R.nx, rt := R.rt } env2 else R.nx env2
theorem simS_while (ht : SimT c tt e wt) (hb : SimS c fx lo E tb wb) (he : sub e E = true) (hE : sub E c.ms = true) : SimS c fx lo E (tWhile tt tb) (wWhile wt wb) := ⟨fun env σ H Fs D R S hw n b ct rt => by
  obtain ⟨I, μ, I0, step⟩ := hw
  refine ⟨fun m σ' H' => ∃ env' Fs', m = μ env' ∧ Ok2 c fx E σ H Fs env' σ' H' Fs' ∧ I env', ⟨_, env, Fs, rfl, .refl S hE, I0⟩, ?_⟩
  rintro m σ2 H2 ⟨env2, Fs2, rfl, o2, i2⟩
  refine ht.sim env2 σ2 H2 Fs2 _ _ o2.sr (step env2 i2) fun k env3 H3 Fs3 o3 q3 => ?_
  have o3 := o2.trans (o3.ok2 (fx := fx) he hE)
  cases k with
  | true =>
    refine iteT ⟨fun σ' H' => ∃ env' Fs', μ env' < μ env2 ∧ Ok2 c fx E σ H Fs env' σ' H' Fs' ∧ I env', fun σ' H' ⟨env', Fs', h1, h2, h3⟩ => ⟨_, h1, env', Fs', rfl, h2, h3⟩, ?_⟩
    exact hb.sim env3 σ2 H3 Fs3 _ _ o3.sr q3 (fun env5 σ5 H5 Fs5 o5 q5 => ⟨env5, Fs5, q5.2, o3.trans o5, q5.1⟩) (fun env5 σ5 H5 Fs5 o5 q5 => n env5 σ5 H5 Fs5 (o3.trans o5) q5) (fun env5 σ5 H5 Fs5 o5 q5 => ⟨env5, Fs5, q5.2, o3.trans o5, q5.1⟩) fun v d F env5 σ5 H5 Fs5 o5 r5 q5 => rt v d F env5 σ5 H5 Fs5 (o3.trans o5) (r5.back fun a ha => o3.ef.gr a ha) q5
  | false => exact iteF (n env3 σ2 H3 Fs3 o3 q3)⟩
end
/-! ### blocks with names of their own -/
def wipeE (env : VEnv) : List Nat → VEnv
  | [] => env
  | v :: vs => (wipeE env vs).set v none
theorem wipeE_length (env : VEnv) : ∀ vs : List Nat, (wipeE env vs).length = env.length
  | [] => rfl
  | v :: vs => by unfold wipeE; rw [List.length_set, wipeE_length env vs]
theorem wipeE_get {env : VEnv} {j : Nat} : ∀ {vs : List Nat}, j ∉ vs → (wipeE env vs)[j]? = env[j]?
  | [], _ => rfl
  | v :: vs, h => by
    unfold wipeE
    rw [List.getElem?_set_ne (fun z => h (by rw [z]; exact List.mem_cons_self))]
    exact wipeE_get fun z => h (List.mem_cons_of_mem _ z)
theorem wipeE_some {env : VEnv} {i : Nat} {x : Val} : ∀ {vs : List Nat}, (wipeE env vs)[i]? = some (some x) → env[i]? = some (some x) ∧ i ∉ vs
  | [], h => ⟨h, by simp⟩
  | v :: vs, h => by
    unfold wipeE at h
    by_cases hi : v = i
    · subst hi
      by_cases hv : v < (wipeE env vs).length
      · rw [List.getElem?_set_self hv] at h; cases h
      · rw [List.getElem?_eq_none (by simpa using hv)] at h; cases h
    · rw [List.getElem?_set_ne hi] at h
      obtain ⟨h1, h2⟩ := wipeE_some h
      exact ⟨h1, by simp only [List.mem_cons, not_or]; exact ⟨fun e => hi e.symm, h2⟩⟩
theorem wipe_get {σ : L2.St} {j : Nat} : ∀ {vs : List Nat}, j ∉ vs → (wipe σ vs)[j]? = σ[j]?
  | [], _ => rfl
  | v :: vs, h => by
    unfold wipe
    rw [List.getElem?_set_ne (fun z => h (by rw [z]; exact List.mem_cons_self))]
    exact wipe_get fun z => h (List.mem_cons_of_mem _ z)
theorem wipe_in {σ : L2.St} {j : Nat} (hj : j < σ.length) : ∀ {vs : List Nat}, j ∈ vs → (wipe σ vs)[j]? = some none
  | v :: vs, h => by
    unfold wipe
    by_cases e : v = j
    · subst e
      rw [List.getElem?_set_self (by rw [wipe_length]; exact hj)]
    · rw [List.getElem?_set_ne e]
      exact wipe_in hj ((List.mem_cons.mp h).resolve_left fun z => e z.symm)
theorem wipe_ext {σ σ' : L2.St} {vs : List Nat} (hl : σ'.length = σ.length) (h : ∀ j, j ∉ vs → σ'[j]? = σ[j]?) : wipe σ' vs = wipe σ vs := by
  apply List.ext_getElem?
  intro j
  by_cases hj : j ∈ vs
  · by_cases hl2 : j < σ.length
    · rw [wipe_in hl2 hj, wipe_in (by omega) hj]
    · rw [List.getElem?_eq_none (by rw [wipe_length]; omega), List.getElem?_eq_none (by rw [wipe_length]; omega)]
  · rw [wipe_get hj, wipe_get hj, h j hj]
def wipeF (Fs : Fp) (vs : List Nat) : Fp := fun j => if j ∈ vs then [] else Fs j
theorem wipeF_sub {Fs : Fp} {vs : List Nat} {j : Nat} {a : Addr} (h : a ∈ wipeF Fs vs j) : a ∈ Fs j := by
  unfold wipeF at h
  by_cases hj : j ∈ vs
  · rw [if_pos hj] at h
    cases h
  · rwa [if_neg hj] at h
theorem wipeF_own {Fs : Fp} {ms vs : List Nat} (hd : disj vs ms = true) {j : Nat} (hj : j ∈ ms) : wipeF Fs vs j = Fs j := by
  unfold wipeF
  rw [if_neg fun z => disj_iff hd z hj]
theorem eff_wipe {ms vs : List Nat} {Fs : Fp} {H : Hp} (hd : disj vs ms = true) : Eff ms [] Fs H (wipeF Fs vs) H := ⟨(fun _ h => nomatch h), Kp.refl _ _, fun _ h => h, fun j hj _ => wipeF_own hd hj, fun j hj a ha => .inl (wipeF_sub ha)⟩
theorem Sr.wipe {c : Vc} {env : VEnv} {σ : L2.St} {H : Hp} {Fs : Fp} (S : Sr c env σ H Fs) {vs : List Nat} (hd : disj vs c.ms = true) : Sr c (wipeE env vs) (L2.wipe σ vs) H (wipeF Fs vs) where
  le := by rw [wipeE_length, S.le]
  ls := by rw [wipe_length, S.ls]
  at_ := fun i d h => by
    obtain ⟨h1, h2⟩ := wipeE_some h
    obtain ⟨v, h3, h4⟩ := S.at_ i d h1
    refine ⟨v, ⟨fun z => by rw [wipe_get h2]; exact h3.1 z, h3.2⟩, ?_⟩
    unfold wipeF
    rw [if_neg h2]
    exact h4
  emp := fun i h => by
    unfold wipeF
    by_cases hi : i ∈ vs
    · rw [if_pos hi]
    · rw [if_neg hi]
      exact S.emp i fun d hd => h d (by rw [wipeE_get hi]; exact hd)
  sep := fun i hi j hj a ha z => S.sep i hi j hj a (wipeF_sub ha) (wipeF_sub z)
  nd := fun i hi => by
    rw [wipeF_own hd hi]
    exact S.nd i hi
  tb := S.tb
  xk := S.xk.eff (eff_wipe hd)
/-- the block's state is the def's, where its own names are forgotten -/
theorem Sr.unwipe {c : Vc} {env : VEnv} {σ : L2.St} {H : Hp} {Fs : Fp} {vs : List Nat} (S : Sr c env (L2.wipe σ vs) H Fs) : Sr c env σ H Fs :=
  ⟨S.le, by rw [← S.ls, wipe_length], fun i d h => by
    obtain ⟨v, h1, h2⟩ := S.at_ i d h
    exact ⟨v, ⟨fun z => (wipe_some (h1.1 z)).1, h1.2⟩, h2⟩, S.emp, S.sep, S.nd, S.tb, S.xk⟩
section
variable {c : Vc} {fx vs E et ee s' : List Nat} {g : TG} {wg : VWG} {tt : TT} {wt : VWT} {te : TE} {we : VW} {f' : Option (List Nat)}
/-- one turn of a block: target, test, element -/
theorem turn_sim {σ : L2.St} {H1 H2 H3 : Hp} {Fs1 Fs2 : Fp} {env2 : VEnv} {v : V} {x : Val} {F : List Addr} {P : V → Hp → Prop} {P' : Hp → Prop} {R : Val → VEnv → Prop} {R' : VEnv → Prop}
    (hg : SimG c fx g wg) (ht : SimT c tt et wt) (he : SimE c te s' f' ee we) (hvs : disj vs c.ms = true) (hfx : ((List.range (c.N + c.g)).all fun j => vs.contains j || fx.contains j) = true) (he1 : sub et E = true) (he2 : sub ee E = true)
    (o : Ok0 c E (wipe σ vs) H1 Fs1 env2 H2 Fs2) (sm : Same H2 H3) (r : Rp c.K H3 F v x) (sr : Src c.ms [] F Fs2) (hw : wg x env2 fun env3 => wt env3 fun b env4 => if b = true then we env4 fun y env5 => R y (wipeE env5 vs) else R' (wipeE env4 vs))
    (k : ∀ y d G env5 H5 Fs5, Ok0 c E (wipe σ vs) H1 Fs1 env5 H5 Fs5 → Rp c.K H5 G y d → Src c.ms s' G Fs5 → R d env5 → P y H5) (k' : ∀ env5 H5 Fs5, Ok0 c E (wipe σ vs) H1 Fs1 env5 H5 Fs5 → R' env5 → P' H5) :
    g v (wipe σ vs) H3 fun σ4 H4 => wipe σ4 vs = wipe σ vs ∧ tt σ4 H4 fun b H5 => if b = true then te σ4 H5 P else P' H5 := by
  have o3 := o.grow sm
  have S3 := o3.sr
  refine hg.sim v x F env2 (wipe σ vs) H3 Fs2 _ _ S3 r sr hw fun env4 σ4 Fs4 S4 e4 f4 q4 => ?_
  have ew : wipe σ4 vs = wipe σ vs := by
    have e0 : wipe σ4 vs = wipe (wipe σ vs) vs := by
      refine wipe_ext (by rw [S4.ls, S3.ls]) fun j hj => ?_
      by_cases hN : j < c.N + c.g
      · have := List.all_eq_true.mp hfx j (List.mem_range.mpr hN)
        rw [Bool.or_eq_true] at this
        rcases this with z | z
        · exact absurd (by simpa using z) hj
        · exact (f4 j (by simpa using z)).1
      · rw [List.getElem?_eq_none (by rw [S4.ls]; omega), List.getElem?_eq_none (by rw [S3.ls]; omega)]
    rw [e0]
    exact wipe_ext (by rw [wipe_length]) fun j hj => wipe_get hj
  have val : ∀ {e' : List Nat} {env5 : VEnv} {H5 : Hp} {Fs5 : Fp}, (∀ j ∈ e', j ∈ E) → Ok0 c e' σ4 H3 Fs4 env5 H5 Fs5 → Ok0 c E (wipe σ vs) H1 Fs1 (wipeE env5 vs) H5 (wipeF Fs5 vs) := fun {e' env5 H5 Fs5} hs o5 => by
    have S5 := o5.sr.wipe (vs := vs) hvs
    rw [ew] at S5
    have ef4 : Eff c.ms [] Fs2 H3 Fs4 H3 := ⟨(fun _ h => nomatch h), Kp.refl _ _, fun _ h => h, fun j hj _ => e4 j hj, fun j hj a ha => .inl (by rw [← e4 j hj]; exact ha)⟩
    refine ⟨S5, (((o3.ef.trans ef4).trans o5.ef).trans (eff_wipe hvs)).mono (fun j hj => ?_) o.ef.sub, fun j hj a ha => ?_⟩
    · simp only [List.append_nil, List.mem_append] at hj
      exact hj.elim id (hs j)
    · have a5 := o5.vl j hj a (wipeF_sub ha)
      -- a slot that is neither own nor of the block stands as it stood
      by_cases hv : j ∈ vs
      · unfold wipeF at ha
        rw [if_pos hv] at ha
        cases ha
      · by_cases hN : j < c.N + c.g
        · have h0 := List.all_eq_true.mp hfx j (List.mem_range.mpr hN)
          rw [Bool.or_eq_true] at h0
          have hjf : j ∈ fx := h0.elim (fun z => absurd (by simpa using z) hv) fun z => by simpa using z
          rw [(f4 j hjf).2] at a5
          exact o3.vl j hj a a5
        · rw [S4.emp j fun d hd => by
            have := (List.getElem?_eq_some_iff.mp hd).1
            rw [S4.le] at this
            omega] at a5
          cases a5
  refine ⟨ew, ht.sim env4 σ4 H3 Fs4 _ _ S4 q4 fun b env5 H5 Fs5 o5 q5 => ?_⟩
  cases b with
  | true =>
    refine iteT (he.sim env5 σ4 H5 Fs5 _ _ o5.sr q5 fun y d G env6 H6 Fs6 o6 r6 s6 _ q6 => ?_)
    refine k y d G _ H6 _ (val (fun j hj => (List.mem_append.mp hj).elim (sub_iff he1 j) (sub_iff he2 j)) (o5.trans o6)) r6 (fun a ha j hj n z => s6 a ha j hj n (wipeF_sub z)) q6
  | false => exact iteF (k' _ H5 _ (val (sub_iff he1) o5) q5)
end
section
variable {c : Vc} {fx vs E ei et ee s' : List Nat} {ti : TI} {wi : VWI} {g : TG} {wg : VWG} {tt : TT} {wt : VWT} {te : TE} {we : VW} {f' : Option (List Nat)}
def wYes : VWT := fun env Q => Q true env
theorem simT_yes : SimT c tYes [] wYes := ⟨fun env σ H Fs Q R S hw k => k true env H Fs (.refl S) hw⟩
/-- the new list of a comprehension grows beside the slots -/
theorem Sr.side {env : VEnv} {σ : L2.St} {H : Hp} {Fs : Fp} {D : Addr} {o : HO} (S : Sr c env σ H Fs) (mD : Mutb H D) (nD : ∀ j, D ∉ Fs j) (xk : Xk c Fs (upd H D o)) : Sr c env σ (upd H D o) Fs :=
  ⟨S.le, S.ls, fun i d h => by
    obtain ⟨v, h1, r⟩ := S.at_ i d h
    exact ⟨v, h1, r.kp (L := [D]) (Kp.upd List.mem_cons_self) (fun a ha => by rw [List.mem_singleton.mp ha]; exact mD) fun a ha z => nD i (by rw [← List.mem_singleton.mp z]; exact ha)⟩, S.emp, S.sep, S.nd, S.tb.at1 (S.tb.notmut mD), xk⟩
theorem Eff.side {ms e : List Nat} {Fs Fs' : Fp} {H H' : Hp} {D : Addr} {o : HO} (h : Eff ms e Fs H Fs' H') (n : H D = none) : Eff ms e Fs H Fs' (upd H' D o) :=
  ⟨h.sub, h.kp.own n, fun a ha => by
    by_cases z : a = D
    · rw [z, upd_same] at ha
      cases ha
    · rw [upd_ne z] at ha
      exact h.gr a ha, h.out, h.foot⟩
/-- a wish, kept together -/
def app2 (Q : Val → VEnv → Prop) (u : Val) (env : VEnv) : Prop := Q u env
def wLc (wi : VWI) (wg : VWG) (wt : VWT) (we : VW) (vs : List Nat) : VW := fun env Q => wi env fun xs env1 => ∃ I : Nat → List Val → VEnv → Prop, I 0 [] (wipeE env1 vs) ∧
  (∀ i x acc env', xs[i]? = some x → I i acc env' → acc.length < 1000000 ∧ wg x env' fun env2 => wt env2 fun b env3 => if b = true then we env3 fun y env4 => y.flat = true ∧ I (i + 1) (acc ++ [y]) (wipeE env4 vs) else I (i + 1) acc (wipeE env3 vs)) ∧
  ∀ acc env', I xs.length acc env' → app2 Q (.lst acc) env'
theorem simE_lc (hi : SimI c ti [] ei wi) (hg : SimG c fx g wg) (ht : SimT c tt et wt) (he : SimE c te s' f' ee we) (hvs : disj vs c.ms = true) (hfx : ((List.range (c.N + c.g)).all fun j => vs.contains j || fx.contains j) = true) (hs1 : sub (et ++ ee) c.ms = true) : SimE c (tLc ti g tt te vs) [] (some []) (ei ++ (et ++ ee)) (wLc wi wg wt we vs) := ⟨fun env σ H Fs Q R S hw k =>
  hi.sim env σ H Fs _ _ S hw fun J xs env1 H1 Fs1 o it q D nD => by
    obtain ⟨I, I0, step, fin⟩ := q
    have S1 := o.sr.wipe (vs := vs) hvs
    have o1 : Ok0 c (et ++ ee) (wipe σ vs) H1 (wipeF Fs1 vs) (wipeE env1 vs) H1 (wipeF Fs1 vs) := (Ok0.refl S1).weak (fun _ h => nomatch h) (sub_iff hs1)
    have ew : Eff c.ms [] Fs1 H1 (wipeF Fs1 vs) H1 := eff_wipe hvs
    refine ⟨fun i m H2 => m = xs.length - i ∧ i ≤ xs.length ∧ ∃ acc env2 Fs2 us, Ok0 c (et ++ ee) (wipe σ vs) H1 (wipeF Fs1 vs) env2 H2 Fs2 ∧ (∀ j, D ∉ Fs2 j) ∧ H2 D = some (.lst us) ∧ RpA c.K H2 [] us acc ∧ I i acc env2,
      ⟨xs.length, by simp, Nat.zero_le _, [], _, _, [], o1.grow (same_upd nD), fun j z => (S1.mutb j D z).ex nD, upd_same, .nil, I0⟩, ?_⟩
    rintro i m H2 ⟨rfl, hi2, acc, env2, Fs2, us, o2, nf, hD, ra, i2⟩
    by_cases hlt : i < xs.length
    · obtain ⟨x, hx⟩ : ∃ x, xs[i]? = some x := ⟨_, List.getElem?_eq_getElem hlt⟩
      obtain ⟨go, yl⟩ := (it _ H2 Fs2 (ew.trans o2.ef) rfl i).1 x hx
      obtain ⟨alen, hstep⟩ := step i x acc env2 hx i2
      refine .inr ⟨go, fun H' => ∃ acc env2 Fs2 us, Ok0 c (et ++ ee) (wipe σ vs) H1 (wipeF Fs1 vs) env2 H' Fs2 ∧ (∀ j, D ∉ Fs2 j) ∧ H' D = some (.lst us) ∧ RpA c.K H' [] us acc ∧ I (i + 1) acc env2, fun H' hN => ⟨xs.length - (i + 1), by omega, rfl, hlt, hN⟩, fun v H3 hy => ?_⟩
      obtain ⟨sm, F, r, sr⟩ := yl v H3 hy
      have ob : Ok0 c (et ++ ee) (wipe σ vs) H2 Fs2 env2 H2 Fs2 := (Ok0.refl o2.sr).weak (fun _ h => nomatch h) (sub_iff hs1)
      have keep : ∀ {env5 : VEnv} {H5 : Hp} {Fs5 : Fp}, Ok0 c (et ++ ee) (wipe σ vs) H2 Fs2 env5 H5 Fs5 → (∀ j, D ∉ Fs5 j) ∧ H5 D = some (.lst us) ∧ RpA c.K H5 [] us acc ∧ Ok0 c (et ++ ee) (wipe σ vs) H1 (wipeF Fs1 vs) env5 H5 Fs5 := fun {env5 H5 Fs5} o5 => by
        refine ⟨fun j z => ?_, o5.ef.kp.lst (fun z => ?_) hD, ra.kp o5.ef.kp (o2.sr.effm _) (fun _ h => nomatch h), (o2.trans o5).weak (fun j hj => (List.mem_append.mp hj).elim id id) (sub_iff hs1)⟩
        · by_cases hj : j ∈ c.ms
          · rcases o5.ef.foot j hj D z with y | y
            · exact nf j y
            · rw [hD] at y
              cases y
          · exact nf j (o5.vl j hj D z)
        · obtain ⟨j, _, y⟩ := List.mem_flatMap.mp z
          exact nf j y
      refine turn_sim hg ht he hvs hfx (List.all_eq_true.mpr fun j hj => by simpa using Or.inl hj) (List.all_eq_true.mpr fun j hj => by simpa using Or.inr hj) ob sm r sr (R := fun y env5 => y.flat = true ∧ I (i + 1) (acc ++ [y]) env5) (R' := fun env5 => I (i + 1) acc env5) hstep ?_ ?_
      · rintro y d G env5 H5 Fs5 o5 r5 _ ⟨fl, q5⟩
        obtain ⟨nf5, hD5, ra5, o15⟩ := keep o5
        have z := r5.flat fl
        subst z
        have kD : Kp [D] H5 (upd H5 D (.lst (us ++ [y]))) := Kp.upd List.mem_cons_self
        have mD : ∀ a ∈ [D], Mutb H5 a := fun a ha => by
          rw [List.mem_singleton.mp ha]
          exact .inl ⟨_, hD5⟩
        have ef : Eff c.ms (et ++ ee) (wipeF Fs1 vs) H1 Fs5 (upd H5 D (.lst (us ++ [y]))) := o15.ef.side nD
        refine ⟨us, hD5, small_lt (by rw [ra5.len]; omega), acc ++ [d], env5, Fs5, us ++ [y], ⟨o15.sr.side (mD D List.mem_cons_self) nf5 (S1.xk.eff ef), ef, o15.vl⟩, nf5, upd_same, ?_, q5⟩
        have := (ra5.app (RpA.one r5)).kp kD mD (fun _ h => nomatch h)
        exact this
      · intro env5 H5 Fs5 o5 q5
        obtain ⟨nf5, hD5, ra5, o15⟩ := keep o5
        exact ⟨acc, env5, Fs5, us, o15, nf5, hD5, ra5, q5⟩
    · have e0 : i = xs.length := by omega
      subst e0
      refine .inl ⟨(it _ H2 Fs2 (ew.trans o2.ef) rfl _).2 (Nat.le_refl _), ?_⟩
      have ef := o.ef.trans (ew.trans o2.ef)
      refine k _ _ [D] env2 H2 Fs2 ⟨o2.sr.unwipe, ef, fun j hj a ha => o.vl j hj a (wipeF_sub (o2.vl j hj a ha))⟩ (.lst hD ra) (fun a ha j hj _ => by rw [List.mem_singleton.mp ha]; exact nf j) (fun mv e => ?_) (fin acc env2 i2)
      cases e
      exact ⟨by simp, fun a ha => .inl (by rw [List.mem_singleton.mp ha]; exact o.ef.gr D nD)⟩⟩
/-! all, any, sum of a generator expression -/
structure VCons (α : Type) where
  step : α → Val → (α → Prop) → (Val → Prop) → Prop
  fin : α → (Val → Prop) → Prop
structure CSim {α : Type} (K : PySem.W.Frag) (cs : Cons α) (vc : VCons α) : Prop where
  step : ∀ (H : Hp) (F : List Addr) (y : V) (d : Val) (a : α) (k k' : α → Prop) (p : Val → Prop) (p' : V → Prop), Rp K H F y d → vc.step a d k p → (∀ a', k a' → k' a') → (∀ v u, Rp K H [] v u → p u → p' v) → cs.step a y k' p'
  fin : ∀ (H : Hp) (a : α) (p : Val → Prop) (p' : V → Prop), vc.fin a p → (∀ v u, Rp K H [] v u → p u → p' v) → cs.fin a p'
def vAll : VCons Unit := ⟨fun _ y k p => match y with
  | .bl b => if b = true then k () else p (.bl false)
  | _ => False, fun _ p => p (.bl true)⟩
def vAny : VCons Unit := ⟨fun _ y k p => match y with
  | .bl b => if b = true then p (.bl true) else k ()
  | _ => False, fun _ p => p (.bl false)⟩
theorem cs_all {K : PySem.W.Frag} : CSim K cAll vAll := ⟨fun H F y d a k k' p p' r h hk hp => by
  cases d <;> try exact h.elim
  cases r
  rename_i b
  cases b with
  | true => exact ⟨true, rfl, iteT (hk _ h)⟩
  | false => exact ⟨false, rfl, iteF (hp _ _ (.bl false) h)⟩, fun H a p p' h hp => hp _ _ (.bl true) h⟩
theorem cs_any {K : PySem.W.Frag} : CSim K cAny vAny := ⟨fun H F y d a k k' p p' r h hk hp => by
  cases d <;> try exact h.elim
  cases r
  rename_i b
  cases b with
  | true => exact ⟨true, rfl, iteT (hp _ _ (.bl true) h)⟩
  | false => exact ⟨false, rfl, iteF (hk _ h)⟩, fun H a p p' h hp => hp _ _ (.bl false) h⟩
def wGx {α : Type} (vc : VCons α) (a0 : α) (wi : VWI) (wg : VWG) (wt : VWT) (we : VW) (vs : List Nat) : VW := fun env Q => wi env fun xs env1 => ∃ I : Nat → α → VEnv → Prop, I 0 a0 (wipeE env1 vs) ∧
  (∀ i x a env', xs[i]? = some x → I i a env' → wg x env' fun env2 => wt env2 fun b env3 => if b = true then we env3 fun y env4 => vc.step a y (fun a' => I (i + 1) a' (wipeE env4 vs)) (fun u => app2 Q u (wipeE env4 vs)) else I (i + 1) a (wipeE env3 vs)) ∧
  ∀ a env', I xs.length a env' → vc.fin a fun u => app2 Q u env'
theorem simE_gx {α : Type} {cs : Cons α} {vc : VCons α} {a0 : α} {P : Addr} (hcs : CSim c.K cs vc) (hi : SimI c ti [] ei wi) (hg : SimG c fx g wg) (ht : SimT c tt et wt) (he : SimE c te s' f' ee we) (hP : P ∈ c.Ps.g) (hvs : disj vs c.ms = true) (hfx : ((List.range (c.N + c.g)).all fun j => vs.contains j || fx.contains j) = true) (hs1 : sub (et ++ ee) c.ms = true) : SimE c (tGx P cs a0 ti g tt te vs) [] (some []) (ei ++ (et ++ ee)) (wGx vc a0 wi wg wt we vs) := ⟨fun env σ H Fs Q R S hw k =>
  hi.sim env σ H Fs _ _ S hw fun J xs env1 H1 Fs1 o it q => ⟨o.sr.tb.1 P hP, fun H2 tb2 => by
    obtain ⟨I, I0, step, fin⟩ := q
    obtain ⟨tb', kp'⟩ := o.sr.tb.kp hP tb2
    have S1 := (o.sr.grow kp' tb').wipe (vs := vs) hvs
    have e12 : Eff c.ms [] Fs1 H1 (wipeF Fs1 vs) H2 := Eff.trans (e1 := []) (e2 := []) (.kps kp') (eff_wipe hvs)
    have o1 : Ok0 c (et ++ ee) (wipe σ vs) H2 (wipeF Fs1 vs) (wipeE env1 vs) H2 (wipeF Fs1 vs) := (Ok0.refl S1).weak (fun _ h => nomatch h) (sub_iff hs1)
    have out : ∀ {env5 : VEnv} {H5 : Hp} {Fs5 : Fp}, Ok0 c (et ++ ee) (wipe σ vs) H2 (wipeF Fs1 vs) env5 H5 Fs5 → Ok0 c (ei ++ (et ++ ee)) σ H Fs env5 H5 Fs5 := fun o5 => ⟨o5.sr.unwipe, o.ef.trans (e12.trans o5.ef), fun j hj a ha => o.vl j hj a (wipeF_sub (o5.vl j hj a ha))⟩
    refine ⟨fun i m a H3 => m = xs.length - i ∧ i ≤ xs.length ∧ ∃ env3 Fs3, Ok0 c (et ++ ee) (wipe σ vs) H2 (wipeF Fs1 vs) env3 H3 Fs3 ∧ I i a env3, ⟨xs.length, by simp, Nat.zero_le _, _, _, o1, I0⟩, ?_⟩
    rintro i m a H3 ⟨rfl, hi3, env3, Fs3, o3, i3⟩
    by_cases hlt : i < xs.length
    · obtain ⟨x, hx⟩ : ∃ x, xs[i]? = some x := ⟨_, List.getElem?_eq_getElem hlt⟩
      obtain ⟨go, yl⟩ := (it _ H3 Fs3 (e12.trans o3.ef) rfl i).1 x hx
      refine .inr ⟨go, fun a' H' => ∃ env' Fs', Ok0 c (et ++ ee) (wipe σ vs) H2 (wipeF Fs1 vs) env' H' Fs' ∧ I (i + 1) a' env', fun a' H' hN => ⟨xs.length - (i + 1), by omega, rfl, hlt, hN⟩, fun v H4 hy => ?_⟩
      obtain ⟨sm, F, r, sr⟩ := yl v H4 hy
      refine turn_sim hg ht he hvs hfx (List.all_eq_true.mpr fun j hj => by simpa using Or.inl hj) (List.all_eq_true.mpr fun j hj => by simpa using Or.inr hj) o3 sm r sr (R := fun y env5 => vc.step a y (fun a' => I (i + 1) a' env5) (fun u => R u env5)) (R' := fun env5 => I (i + 1) a env5) (step i x a env3 hx i3) ?_ ?_
      · intro y d G env5 H5 Fs5 o5 r5 _ q5
        exact hcs.step H5 G y d a _ _ _ _ r5 q5 (fun a' z => ⟨env5, Fs5, o5, z⟩) fun v u ru z => k v u [] env5 H5 Fs5 (out o5) ru .nil .nil z
      · intro env5 H5 Fs5 o5 q5
        exact ⟨env5, Fs5, o5, q5⟩
    · have e0 : i = xs.length := by omega
      subst e0
      exact .inl ⟨(it _ H3 Fs3 (e12.trans o3.ef) rfl _).2 (Nat.le_refl _), hcs.fin H3 a _ _ (fin a env3 i3) fun v u ru z => k v u [] env3 H3 Fs3 (out o3) ru .nil .nil z⟩⟩⟩
end
/-! ### calls -/
abbrev VSpec := List Val → (List Val → Val → Prop) → (Value → Prop) → Prop
structure OutOk (K : PySem.W.Frag) (Ps : TL) (own : List Nat) (vs : List V) (Fs : Fp) (H : Hp) (ds' : List Val) (Fs' : Fp) (H' : Hp) : Prop where
  rp : ∀ p ∈ own, ∃ v d, vs[p]? = some v ∧ ds'[p]? = some d ∧ Rp K H' (Fs' p) v d
  nd : ∀ p ∈ own, (Fs' p).Nodup
  sep : ∀ p ∈ own, ∀ q ∈ own, q ≠ p → ∀ a ∈ Fs' p, a ∉ Fs' q
  ef : Eff own own Fs H Fs' H'
  tb : Tb Ps H'
def vsp (K : PySem.W.Frag) (Ps : TL) (own : List Nat) (n : Nat) (S : VSpec) : Sp := fun vs H Q E => ∃ (ds : List Val) (Fs : Fp), Sr ⟨K, Ps, own, n, fun _ _ _ => False, fun _ => False, false, 0⟩ (ds.map some) (vs.map some) H Fs ∧
  S ds (fun ds' r => ∀ H' v F Fs', OutOk K Ps own vs Fs H ds' Fs' H' → Rp K H' F v r → F.Nodup → (∀ a ∈ F, H a = none ∧ ∀ p ∈ own, a ∉ Fs' p) → Q v H') (fun cls => ∀ H' Fs', Eff own own Fs H Fs' H' → Tb Ps H' → E cls none H')
theorem xk0 {K : PySem.W.Frag} {Ps : TL} {own : List Nat} {n g : Nat} {Fs : Fp} {H : Hp} : Xk ⟨K, Ps, own, n, fun _ _ _ => False, fun _ => False, false, g⟩ Fs H := fun _ _ _ _ _ h => h.elim
theorem vsp_len {K : PySem.W.Frag} {Ps : TL} {own : List Nat} {n : Nat} {S : VSpec} {vs : List V} {H : Hp} {Q : VK} {E : XK} (h : vsp K Ps own n S vs H Q E) : vs.length = n := by
  obtain ⟨ds, Fs, s, _⟩ := h
  have := s.ls
  rw [List.length_map] at this
  exact this
def slotF (own : List Nat) (sl : Nat → Nat) (Gs Fs : Fp) : Fp := fun j => match own.find? (fun p => sl p == j) with
  | some p => Gs p
  | none => Fs j
theorem slotF_at {own : List Nat} {sl : Nat → Nat} (inj : ∀ p ∈ own, ∀ q ∈ own, sl p = sl q → p = q) {Gs Fs : Fp} {p : Nat} (hp : p ∈ own) : slotF own sl Gs Fs (sl p) = Gs p := by
  unfold slotF
  cases h : own.find? (fun q => sl q == sl p) with
  | none =>
    have := List.find?_eq_none.mp h p hp
    simp at this
  | some q =>
    have h1 := List.mem_of_find?_eq_some h
    have h2 := List.find?_some h
    rw [inj q h1 p hp (by simpa using h2)]
theorem slotF_ne {own : List Nat} {sl : Nat → Nat} {Gs Fs : Fp} {j : Nat} (hj : ∀ p ∈ own, sl p ≠ j) : slotF own sl Gs Fs j = Fs j := by
  unfold slotF
  cases h : own.find? (fun q => sl q == j) with
  | none => rfl
  | some q =>
    have h1 := List.mem_of_find?_eq_some h
    have h2 := List.find?_some h
    exact absurd (by simpa using h2) (hj q h1)
theorem RpL.at {c : Vc} {σ : L2.St} {H : Hp} {Fs : Fp} : ∀ {as : List Arg} {Gs : List (List Addr)} {vs : List V} {ds : List Val}, RpL c σ H Fs as Gs vs ds → ∀ (p : Nat) (d : Val), ds[p]? = some d → ∃ G v a, Gs[p]? = some G ∧ vs[p]? = some v ∧ as[p]? = some a ∧ Rp c.K H G v d ∧ (∀ s, a = .v s → Src c.ms s G Fs) ∧ (∀ i, a = .o i → i ∈ c.ms ∧ G = Fs i ∧ SlV c.N σ i v)
  | _, _, _, _, .nil, p, d, h => by simp at h
  | _, _, _, _, .consV r s t, 0, d, h => by
    have e := Option.some.inj (show some _ = some d from h)
    subst e
    exact ⟨_, _, _, rfl, rfl, rfl, r, fun s' e => by cases e; exact s, fun i e => nomatch e⟩
  | _, _, _, _, .consO m v r t, 0, d, h => by
    have e := Option.some.inj (show some _ = some d from h)
    subst e
    exact ⟨_, _, _, rfl, rfl, rfl, r, (fun s' e => nomatch e), fun i e => by cases e; exact ⟨m, rfl, v⟩⟩
  | _, _, _, _, .consV r s t, p + 1, d, h => t.at p d h
  | _, _, _, _, .consO m v r t, p + 1, d, h => t.at p d h
theorem RpL.lend {c : Vc} {σ : L2.St} {H : Hp} {Fs : Fp} {as : List Arg} {Gs : List (List Addr)} {vs : List V} {ds : List Val} (h : RpL c σ H Fs as Gs vs ds) : ds.length = as.length := by
  rw [← h.rpa.len, h.len]
theorem RpL.leng {c : Vc} {σ : L2.St} {H : Hp} {Fs : Fp} : ∀ {as : List Arg} {Gs : List (List Addr)} {vs : List V} {ds : List Val}, RpL c σ H Fs as Gs vs ds → Gs.length = as.length
  | _, _, _, _, .nil => rfl
  | _, _, _, _, .consV _ _ t => congrArg (· + 1) t.leng
  | _, _, _, _, .consO _ _ _ t => congrArg (· + 1) t.leng
theorem RpL.in_ {c : Vc} {σ : L2.St} {H : Hp} {Fs : Fp} {as : List Arg} {Gs : List (List Addr)} {vs : List V} {ds : List Val} (r : RpL c σ H Fs as Gs vs ds) {p : Nat} {a : Addr} (h : a ∈ Gs.getD p []) : ∃ d, ds[p]? = some d := by
  by_cases hp : p < ds.length
  · exact ⟨_, List.getElem?_eq_getElem hp⟩
  · rw [List.getD_eq_getElem?_getD, List.getElem?_eq_none (by rw [r.leng, ← r.lend]; omega)] at h
    cases h
/-- the arguments of a call, as the callee sees them -/
structure Tags (own : List Nat) (sl : Nat → Nat) (as : List Arg) : Prop where
  inj : ∀ p ∈ own, ∀ q ∈ own, sl p = sl q → p = q
  at_ : ∀ p ∈ own, as[p]? = some (.o (sl p))
  only : ∀ p i, as[p]? = some (.o i) → p ∈ own
  ap : ∀ p ∈ own, ∀ (q : Nat) (s : List Nat), as[q]? = some (.v s) → sl p ∉ s
section
variable {c : Vc} {as : List Arg} {own : List Nat} {sl : Nat → Nat}
theorem call_own {σ : L2.St} {H : Hp} {Fs : Fp} {Gs : List (List Addr)} {vs : List V} {ds : List Val} (r : RpL c σ H Fs as Gs vs ds) (T : Tags own sl as) {p : Nat} (hp : p ∈ own) : sl p ∈ c.ms ∧ Gs.getD p [] = Fs (sl p) ∧ ∃ v, vs[p]? = some v ∧ SlV c.N σ (sl p) v := by
  have h1 := T.at_ p hp
  have hl := (List.getElem?_eq_some_iff.mp h1).1
  obtain ⟨G, v, a, g1, g2, g3, _, _, g4⟩ := r.at p _ (List.getElem?_eq_getElem (by rw [r.lend]; exact hl))
  rw [h1] at g3
  cases g3
  obtain ⟨k1, k2, k3⟩ := g4 _ rfl
  exact ⟨k1, by rw [List.getD_eq_getElem?_getD, g1]; exact k2, v, g2, k3⟩
theorem call_sep {σ : L2.St} {H : Hp} {Fs : Fp} {env : VEnv} {Gs : List (List Addr)} {vs : List V} {ds : List Val} (S : Sr c env σ H Fs) (r : RpL c σ H Fs as Gs vs ds) (T : Tags own sl as) {p : Nat} (hp : p ∈ own) {q : Nat} (hq : q ≠ p) {a : Addr} (ha : a ∈ Gs.getD p []) : a ∉ Gs.getD q [] := fun z => by
  obtain ⟨h1, h2, _⟩ := call_own r T hp
  rw [h2] at ha
  obtain ⟨d, hd⟩ := r.in_ z
  obtain ⟨G, v, b, g1, g2, g3, _, g4, g5⟩ := r.at q d hd
  rw [List.getD_eq_getElem?_getD, g1] at z
  cases b with
  | v s => exact g4 s rfl a z _ h1 (T.ap p hp q s g3) ha
  | o i =>
    have hq' := T.only q i g3
    obtain ⟨_, k2, _⟩ := g5 i rfl
    have e1 := T.at_ q hq'
    rw [g3] at e1
    cases e1
    have z : a ∈ Fs (sl q) := by rw [← k2]; exact z
    exact S.sep _ h1 _ (fun y => hq (T.inj q hq' p hp y)) a ha z
theorem call_in {σ : L2.St} {H : Hp} {Fs : Fp} {env : VEnv} {Gs : List (List Addr)} {vs pad : List V} {ds : List Val} (S : Sr c env σ H Fs) (r : RpL c σ H Fs as Gs (vs ++ pad) ds) (T : Tags own sl as) {n g : Nat} (hn : as.length = n + g) (hv : vs.length = n) (hp : ∀ v ∈ pad, v = .non) : Sr ⟨c.K, c.Ps, own, n, fun _ _ _ => False, fun _ => False, false, g⟩ (ds.map some) (vs.map some) H (fun p => Gs.getD p []) where
  le := by
    rw [List.length_map, r.lend, hn]
  ls := by rw [List.length_map, hv]
  at_ := fun p d h => by
    rw [List.getElem?_map] at h
    obtain ⟨d', hd, e⟩ := Option.map_eq_some_iff.mp h
    cases e
    obtain ⟨G, v, a, h1, h2, _, h3, _⟩ := r.at p d hd
    refine ⟨v, ⟨fun z => ?_, fun z => hp v ?_⟩, ?_⟩
    · have z : p < n := z
      rw [List.getElem?_append_left (by omega)] at h2
      rw [List.getElem?_map, h2]
      rfl
    · have z : n ≤ p := z
      rw [List.getElem?_append_right (by omega)] at h2
      exact List.mem_of_getElem? h2
    rw [List.getD_eq_getElem?_getD, h1]
    exact h3
  emp := fun p h => by
    cases hg : Gs.getD p [] with
    | nil => rfl
    | cons a t =>
      obtain ⟨d, hd⟩ := r.in_ (p := p) (a := a) (by rw [hg]; exact List.mem_cons_self)
      exact absurd (by rw [List.getElem?_map, hd]; rfl) (h d)
  sep := fun p hp q hq a ha => call_sep S r T hp hq ha
  nd := fun p hp => by
    obtain ⟨h1, h2, _⟩ := call_own r T hp
    rw [h2]
    exact S.nd _ h1
  tb := S.tb
  xk := xk0
/-- behind the call -/
theorem call_out {σ : L2.St} {H H' : Hp} {Fs Gs' : Fp} {env env' : VEnv} {Gs : List (List Addr)} {vs : List V} {ds ds' : List Val} (S : Sr c env σ H Fs) (r : RpL c σ H Fs as Gs vs ds) (T : Tags own sl as) (O : OutOk c.K c.Ps own vs (fun p => Gs.getD p []) H ds' Gs' H')
    (le : env'.length = c.N + c.g) (e1 : ∀ p ∈ own, ∀ d, ds'[p]? = some d → env'[sl p]? = some (some d)) (e2 : ∀ j, (∀ p ∈ own, sl p ≠ j) → env'[j]? = env[j]?) : Ok0 c (own.map sl) σ H Fs env' H' (slotF own sl Gs' Fs) := by
  have sm : ∀ j ∈ own.map sl, j ∈ c.ms := fun j hj => by
    obtain ⟨p, hp, rfl⟩ := List.mem_map.mp hj
    exact (call_own r T hp).1
  have Lsub : ∀ x ∈ own.flatMap (fun p => Gs.getD p []), x ∈ (own.map sl).flatMap Fs := fun x hx => by
    obtain ⟨p, hp, z⟩ := List.mem_flatMap.mp hx
    refine List.mem_flatMap.mpr ⟨sl p, List.mem_map.mpr ⟨p, hp, rfl⟩, ?_⟩
    rw [← (call_own r T hp).2.1]
    exact z
  have cs : ∀ j, (∃ p ∈ own, sl p = j) ∨ ∀ p ∈ own, sl p ≠ j := fun j => by
    by_cases h : ∃ p ∈ own, sl p = j
    · exact .inl h
    · exact .inr fun p hp z => h ⟨p, hp, z⟩
  have grow : ∀ p ∈ own, ∀ a ∈ Gs' p, a ∈ Fs (sl p) ∨ H a = none := fun p hp a ha => by
    rcases O.ef.foot p hp a ha with z | z
    · exact .inl (by rw [← (call_own r T hp).2.1]; exact z)
    · exact .inr z
  have ef : Eff c.ms (own.map sl) Fs H (slotF own sl Gs' Fs) H' := by
    refine ⟨sm, O.ef.kp.mono Lsub, O.ef.gr, fun j hj nn => slotF_ne fun p hp z => nn (List.mem_map.mpr ⟨p, hp, z⟩), fun j hj a ha => ?_⟩
    rcases cs j with ⟨p, hp, rfl⟩ | hno
    · rw [slotF_at T.inj hp] at ha
      exact grow p hp a ha
    · rw [slotF_ne hno] at ha
      exact .inl ha
  refine ⟨⟨le, S.ls, fun j d h => ?_, fun j h => ?_, fun i hi j hj a ha z => ?_, fun j hj => ?_, O.tb, S.xk.eff ef⟩, ef, fun j hj a ha => ?_⟩
  · rcases cs j with ⟨p, hp, rfl⟩ | hno
    · obtain ⟨v, d', g1, g2, g3⟩ := O.rp p hp
      rw [e1 p hp d' g2] at h
      cases h
      obtain ⟨_, _, v', g4, g5⟩ := call_own r T hp
      rw [g1] at g4
      cases g4
      exact ⟨v, g5, by rw [slotF_at T.inj hp]; exact g3⟩
    · rw [e2 j hno] at h
      obtain ⟨v, h1, h2⟩ := S.at_ j d h
      refine ⟨v, h1, ?_⟩
      rw [slotF_ne hno]
      refine h2.kp ef.kp (S.effm _) fun a ha z => ?_
      obtain ⟨k, hk, y⟩ := List.mem_flatMap.mp z
      obtain ⟨p, hp, rfl⟩ := List.mem_map.mp hk
      exact S.sep _ (sm _ hk) j (fun q => hno p hp q.symm) a y ha
  · rcases cs j with ⟨p, hp, rfl⟩ | hno
    · obtain ⟨v, d', g1, g2, g3⟩ := O.rp p hp
      exact absurd (e1 p hp d' g2) (h d')
    · rw [slotF_ne hno]
      exact S.emp j fun d hd => h d (by rw [e2 j hno]; exact hd)
  · rcases cs i with ⟨p, hp, rfl⟩ | hno
    · rw [slotF_at T.inj hp] at ha
      rcases cs j with ⟨q, hq, rfl⟩ | hno2
      · rw [slotF_at T.inj hq] at z
        exact O.sep p hp q hq (fun y => hj (by rw [y])) a ha z
      · rw [slotF_ne hno2] at z
        rcases grow p hp a ha with y | y
        · exact S.sep _ (call_own r T hp).1 j hj a y z
        · exact (S.mutb j a z).ex y
    · rw [slotF_ne hno] at ha
      rcases cs j with ⟨q, hq, rfl⟩ | hno2
      · rw [slotF_at T.inj hq] at z
        rcases grow q hq a z with y | y
        · exact S.sep i hi _ hj a ha y
        · exact (S.mutb i a ha).ex y
      · rw [slotF_ne hno2] at z
        exact S.sep i hi j hj a ha z
  · rcases cs j with ⟨p, hp, rfl⟩ | hno
    · rw [slotF_at T.inj hp]
      exact O.nd p hp
    · rw [slotF_ne hno]
      exact S.nd j hj
  · rw [slotF_ne fun p hp z => hj (by rw [← z]; exact (call_own r T hp).1)] at ha
    exact ha
variable {ta : TA} {f : Option (List Nat)} {e : List Nat} {wa : VWA} {S : VSpec} {n : Nat}
/-- a call; B puts the own arguments back into their slots -/
def wCall (S : VSpec) (xe : Value → Prop) (B : List Val → VEnv → (VEnv → Prop) → Prop) (wa : VWA) : VW := fun env Q => wa env fun ds env' => S ds (fun ds' r => B ds' env' fun env2 => Q r env2) xe
/-- spec transformers are monotone -/
def Mono (S : VSpec) : Prop := ∀ ds Q Q' E E', (∀ ds' r, Q ds' r → Q' ds' r) → (∀ x, E x → E' x) → S ds Q E → S ds Q' E'
theorem simE_call (hM : Mono S) (h : SimA c ta as f e wa) (T : Tags own sl as) (hn : as.length = n) {B : List Val → VEnv → (VEnv → Prop) → Prop}
    (hB : ∀ ds' env R, env.length = c.N + c.g → B ds' env R → ∃ env', R env' ∧ env'.length = c.N + c.g ∧ (∀ p ∈ own, ∀ d, ds'[p]? = some d → env'[sl p]? = some (some d)) ∧ ∀ j, (∀ p ∈ own, sl p ≠ j) → env'[j]? = env[j]?) :
    SimE c (tCall (vsp c.K c.Ps own n S) [] c.E ta) [] (some []) (e ++ own.map sl) (wCall S c.xe B wa) := ⟨fun env σ H Fs Q R S0 hw k =>
  h.sim env σ H Fs _ _ S0 hw fun vs ds Gs env1 H1 Fs1 o r fr q => by
    rw [List.append_nil]
    refine ⟨ds, fun p => Gs.getD p [], call_in (pad := []) o.sr (by rw [List.append_nil]; exact r) T hn (by rw [r.len, hn]) (fun _ z => nomatch z), hM _ _ _ _ _ (fun ds' rv hb H' v F Gs' O rr nd new => ?_) (fun x hx H' Gs' ef tb => ?_) q⟩
    · obtain ⟨env', hR, le, e1, e2⟩ := hB ds' env1 _ o.sr.le hb
      have o2 := call_out o.sr r T O le e1 e2
      refine k v rv F env' H' _ (o.trans o2) rr (fun a ha j hj _ z => ?_) (fun mv e => ⟨nd, fun a ha => .inl (o.ef.gr a (new a ha).1)⟩) hR
      by_cases hx : ∃ p ∈ own, sl p = j
      · obtain ⟨p, hp, rfl⟩ := hx
        rw [slotF_at T.inj hp] at z
        exact (new a ha).2 p hp z
      · rw [slotF_ne fun p hp y => hx ⟨p, hp, y⟩] at z
        exact (o.sr.mutb j a z).ex (new a ha).1
    · have ef2 : Eff c.ms (own.map sl) Fs1 H1 (slotF own sl Gs' Fs1) H' := by
        refine ⟨fun j hj => ?_, ef.kp.mono fun y hy => ?_, ef.gr, fun j hj nn => slotF_ne fun p hp z => nn (List.mem_map.mpr ⟨p, hp, z⟩), fun j hj a ha => ?_⟩
        · obtain ⟨p, hp, rfl⟩ := List.mem_map.mp hj
          exact (call_own r T hp).1
        · obtain ⟨p, hp, z⟩ := List.mem_flatMap.mp hy
          refine List.mem_flatMap.mpr ⟨sl p, List.mem_map.mpr ⟨p, hp, rfl⟩, ?_⟩
          rw [← (call_own r T hp).2.1]
          exact z
        · by_cases hx : ∃ p ∈ own, sl p = j
          · obtain ⟨p, hp, rfl⟩ := hx
            rw [slotF_at T.inj hp] at ha
            rcases ef.foot p hp a ha with z | z
            · exact .inl (by rw [← (call_own r T hp).2.1]; exact z)
            · exact .inr z
          · rw [slotF_ne fun p hp y => hx ⟨p, hp, y⟩] at ha
            exact .inl ha
      exact o.sr.xk x H' _ (ef2.mono ef2.sub fun _ z => z) tb hx⟩
/-- no own argument; the first one; the first two -/
def B0 : List Val → VEnv → (VEnv → Prop) → Prop := fun _ env R => R env
def B1 (i : Nat) : List Val → VEnv → (VEnv → Prop) → Prop
  | d :: _, env, R => R (env.set i (some d))
  | [], _, _ => False
def B2 (i j : Nat) : List Val → VEnv → (VEnv → Prop) → Prop
  | d :: d' :: _, env, R => R ((env.set i (some d)).set j (some d'))
  | _, _, _ => False
def noO (as : List Arg) : Bool := as.all fun a => match a with
  | .v _ => true
  | .o _ => false
theorem noO_at {as : List Arg} (h : noO as = true) {p i : Nat} : as[p]? ≠ some (.o i) := fun z => by
  have := List.all_eq_true.mp h _ (List.mem_of_getElem? z)
  cases this
theorem simE_call0 (hM : Mono S) (h : SimA c ta as f e wa) (hn : as.length = n) (ho : noO as = true) : SimE c (tCall (vsp c.K c.Ps [] n S) [] c.E ta) [] (some []) (e ++ []) (wCall S c.xe B0 wa) :=
  simE_call (own := []) (sl := id) hM h ⟨(fun _ h => nomatch h), (fun _ h => nomatch h), fun p i z => absurd z (noO_at ho), fun _ h => nomatch h⟩ hn fun ds' env R le hb => ⟨env, hb, le, (fun _ h => nomatch h), fun _ _ => rfl⟩
def apO (i : Nat) (as : List Arg) : Bool := as.all fun a => match a with
  | .v s => !s.contains i
  | .o _ => false
theorem apO_at {i : Nat} {as : List Arg} (h : apO i as = true) {q : Nat} {s : List Nat} (z : as[q]? = some (.v s)) : i ∉ s := fun y => by
  have := List.all_eq_true.mp h _ (List.mem_of_getElem? z)
  simp [y] at this
theorem apO_no {i : Nat} {as : List Arg} (h : apO i as = true) {q j : Nat} : as[q]? ≠ some (.o j) := fun z => by
  have := List.all_eq_true.mp h _ (List.mem_of_getElem? z)
  cases this
theorem simE_call1 {i : Nat} {as' : List Arg} (hM : Mono S) (h : SimA c ta (.o i :: as') f e wa) (hn : (Arg.o i :: as').length = n) (ho : apO i as' = true) (hi : i < c.N) : SimE c (tCall (vsp c.K c.Ps [0] n S) [] c.E ta) [] (some []) (e ++ [i]) (wCall S c.xe (B1 i) wa) := by
  refine simE_call (own := [0]) (sl := fun _ => i) hM h ⟨fun p hp q hq _ => by rw [List.mem_singleton.mp hp, List.mem_singleton.mp hq], fun p hp => by rw [List.mem_singleton.mp hp]; rfl, fun p k z => ?_, fun p hp q s z => ?_⟩ hn fun ds' env R le hb => ?_
  · cases p with
    | zero => exact List.mem_singleton.mpr rfl
    | succ p => exact absurd z (apO_no ho)
  · cases q with
    | zero => cases z
    | succ q => exact apO_at ho z
  · cases ds' with
    | nil => exact hb.elim
    | cons d ds' =>
      refine ⟨_, hb, by rw [List.length_set, le], fun p hp d' z => ?_, fun j hj => ?_⟩
      · rw [List.mem_singleton.mp hp] at z
        cases z
        rw [List.getElem?_set_self (by rw [le]; omega)]
      · rw [List.getElem?_set_ne (hj 0 (List.mem_singleton.mpr rfl))]
theorem simE_call2 {i j : Nat} {as' : List Arg} (hM : Mono S) (h : SimA c ta (.o i :: .o j :: as') f e wa) (hn : (Arg.o i :: Arg.o j :: as').length = n) (ho : apO i as' = true) (ho2 : apO j as' = true) (hij : i ≠ j) (hi : i < c.N) (hj : j < c.N) : SimE c (tCall (vsp c.K c.Ps [0, 1] n S) [] c.E ta) [] (some []) (e ++ [i, j]) (wCall S c.xe (B2 i j) wa) := by
  have two : ∀ {p : Nat}, p ∈ [0, 1] → p = 0 ∨ p = 1 := fun {p} hp => by simpa using hp
  refine simE_call (own := [0, 1]) (sl := fun p => if p = 0 then i else j) hM h ⟨fun p hp q hq z => ?_, fun p hp => ?_, fun p k z => ?_, fun p hp q s z => ?_⟩ hn fun ds' env R le hb => ?_
  · rcases two hp with rfl | rfl <;> rcases two hq with rfl | rfl
    · rfl
    · exact absurd z hij
    · exact absurd z.symm hij
    · rfl
  · rcases two hp with rfl | rfl <;> rfl
  · rcases p with _ | _ | p
    · simp
    · simp
    · exact absurd z (apO_no ho)
  · rcases q with _ | _ | q
    · cases z
    · cases z
    · rcases two hp with rfl | rfl
      · exact apO_at ho z
      · exact apO_at ho2 z
  · rcases ds' with _ | ⟨d, _ | ⟨d', ds'⟩⟩
    · exact hb.elim
    · exact hb.elim
    · refine ⟨_, hb, by rw [List.length_set, List.length_set, le], fun p hp x z => ?_, fun k hk => ?_⟩
      · rcases two hp with rfl | rfl
        · cases z
          show ((env.set i (some d)).set j (some d'))[i]? = _
          rw [List.getElem?_set_ne hij.symm, List.getElem?_set_self (by rw [le]; omega)]
        · cases z
          show ((env.set i (some d)).set j (some d'))[j]? = _
          rw [List.getElem?_set_self (by rw [List.length_set, le]; omega)]
      · have h0 : i ≠ k := hk 0 (by simp)
        have h1 : j ≠ k := hk 1 (by simp)
        rw [List.getElem?_set_ne h1, List.getElem?_set_ne h0]
end
/-! ### bodies -/
section
variable {K : PySem.W.Frag} {Ps : TL} {own lo : List Nat} {n N : Nat} {S : VSpec}
def env0 (N : Nat) (ds : List Val) : VEnv := ds.map some ++ List.replicate (N - ds.length) none
theorem sr_body {ds : List Val} {vs : List V} {H : Hp} {Fs : Fp} {Nm : List Str} {E : XK} {al : Bool} (s : Sr ⟨K, Ps, own, n, fun _ _ _ => False, fun _ => False, false, 0⟩ (ds.map some) (vs.map some) H Fs) (hN : Nm.length = N) (hn : n ≤ N) (hlo : (lo.all fun j => decide (n ≤ j)) = true) :
    Sr ⟨K, Ps, own ++ lo, N, E, fun cls => ∀ H' Fs', Eff own own Fs H Fs' H' → Tb Ps H' → E cls none H', al, 0⟩ (env0 N ds) (start Nm vs) H Fs := by
  have ld : ds.length = n := by have := s.le; rwa [List.length_map] at this
  have lv : vs.length = n := by have := s.ls; rwa [List.length_map] at this
  have hlo : ∀ j ∈ lo, n ≤ j := fun j hj => by simpa using List.all_eq_true.mp hlo j hj
  have at0 : ∀ {j : Nat} {d : Val}, (env0 N ds)[j]? = some (some d) → (ds.map some)[j]? = some (some d) := fun {j d} h => by
    unfold env0 at h
    by_cases hj : j < (ds.map some).length
    · rwa [List.getElem?_append_left hj] at h
    · rw [List.getElem?_append_right (by omega)] at h
      have := List.mem_of_getElem? h
      rw [List.mem_replicate] at this
      cases this.2
  have emp : ∀ j, n ≤ j → Fs j = [] := fun j hj => s.emp j fun d hd => by
    have := (List.getElem?_eq_some_iff.mp hd).1
    rw [List.length_map] at this
    omega
  have nlo : ∀ j ∈ lo, Fs j = [] := fun j hj => emp j (hlo j hj)
  refine ⟨?_, ?_, fun j d h => ?_, fun j h => ?_, fun i hi j hj a ha => ?_, fun i hi => ?_, s.tb, ?_⟩
  · show (env0 N ds).length = N
    unfold env0
    rw [List.length_append, List.length_map, List.length_replicate]
    omega
  · show (start Nm vs).length = N
    unfold L2.start
    rw [List.length_append, List.length_map, List.length_replicate]
    omega
  · obtain ⟨v, h1, h2⟩ := s.at_ j d (at0 h)
    have jn : j < n := by
      have := (List.getElem?_eq_some_iff.mp (at0 h)).1
      rw [s.le] at this
      exact this
    have h1 := h1.1 jn
    refine ⟨v, .of (Nat.lt_of_lt_of_le jn hn) ?_, h2⟩
    unfold L2.start
    rw [List.getElem?_append_left (List.getElem?_eq_some_iff.mp h1).1]
    exact h1
  · by_cases hj : j < n
    · refine s.emp j fun d hd => h d ?_
      unfold env0
      rw [List.getElem?_append_left (List.getElem?_eq_some_iff.mp hd).1]
      exact hd
    · exact emp j (by omega)
  · rcases List.mem_append.mp hi with z | z
    · exact s.sep i z j hj a ha
    · rw [nlo i z] at ha
      cases ha
  · rcases List.mem_append.mp hi with z | z
    · exact s.nd i z
    · show (Fs i).Nodup
      rw [nlo i z]
      exact List.nodup_nil
  · intro cls H' Fs' ef tb h
    refine h H' Fs' ⟨fun _ z => z, ef.kp.mono fun a ha => ?_, ef.gr, fun j hj nn => absurd hj nn, fun j hj => ef.foot j (List.mem_append_left _ hj)⟩ tb
    obtain ⟨j, hj, z⟩ := List.mem_flatMap.mp ha
    rcases List.mem_append.mp hj with y | y
    · exact List.mem_flatMap.mpr ⟨j, y, z⟩
    · rw [nlo j y] at z
      cases z
/-- what a def is asked: U takes the own parameters out at the end -/
theorem vbody {vs : List V} {H : Hp} {Q : VK} {E : XK} {Nm : List Str} {t : TS} {w : (Value → Prop) → VWS} {ds : List Val} {Fs : Fp} {Ef : List Nat} {al : Bool} (U : VEnv → Option (List Val)) (s : Sr ⟨K, Ps, own, n, fun _ _ _ => False, fun _ => False, false, 0⟩ (ds.map some) (vs.map some) H Fs) (hN : Nm.length = N) (hn : n ≤ N) (hlo : (lo.all fun j => decide (n ≤ j)) = true) (hon : (own.all fun j => decide (j < n)) = true)
    (sim : ∀ xe, SimS ⟨K, Ps, own ++ lo, N, E, xe, al, 0⟩ own lo Ef t (w xe)) (hU : ∀ env ds', U env = some ds' → ∀ p ∈ own, ∃ d, ds'[p]? = some d ∧ env[p]? = some (some d))
    (hw : w (fun cls => ∀ H' Fs', Eff own own Fs H Fs' H' → Tb Ps H' → E cls none H')
      { nx := fun env => ∃ ds', U env = some ds' ∧ ∀ H' v F Fs', OutOk K Ps own vs Fs H ds' Fs' H' → Rp K H' F v .non → (al = false → F.Nodup ∧ ∀ a ∈ F, H a = none) → (∀ a ∈ F, ∀ p ∈ own, a ∉ Fs' p) → Q v H',
        rt := fun r env => ∃ ds', U env = some ds' ∧ ∀ H' v F Fs', OutOk K Ps own vs Fs H ds' Fs' H' → Rp K H' F v r → (al = false → F.Nodup ∧ ∀ a ∈ F, H a = none) → (∀ a ∈ F, ∀ p ∈ own, a ∉ Fs' p) → Q v H' } (env0 N ds)) : t { nx := fun _ H' => Q .non H', rt := Q } (start Nm vs) H := by
  have lv : vs.length = n := by have := s.ls; rwa [List.length_map] at this
  have hlo' : ∀ j ∈ lo, n ≤ j := fun j hj => by simpa using List.all_eq_true.mp hlo j hj
  have hon' : ∀ j ∈ own, j < n := fun j hj => by simpa using List.all_eq_true.mp hon j hj
  have nlo : ∀ j ∈ lo, Fs j = [] := fun j hj => s.emp j fun d hd => by
    have h1 := (List.getElem?_eq_some_iff.mp hd).1
    have h2 : (ds.map some).length = n := s.le
    have h3 := hlo' j hj
    omega
  have out : ∀ {env' : VEnv} {σ' : L2.St} {H' : Hp} {Fs' : Fp} {ds' : List Val} {xe : Value → Prop}, Ok2 ⟨K, Ps, own ++ lo, N, E, xe, al, 0⟩ own Ef (start Nm vs) H Fs env' σ' H' Fs' → U env' = some ds' → OutOk K Ps own vs Fs H ds' Fs' H' := fun {env' σ' H' Fs' ds' xe} o hu => by
    refine ⟨fun p hp => ?_, fun p hp => o.sr.nd p (List.mem_append_left _ hp), fun p hp q hq ne => o.sr.sep p (List.mem_append_left _ hp) q ne, ⟨fun _ z => z, o.ef.kp.mono fun a ha => ?_, o.ef.gr, fun j hj nn => absurd hj nn, fun j hj => o.ef.foot j (List.mem_append_left _ hj)⟩, o.sr.tb⟩
    · obtain ⟨d, h1, h2⟩ := hU env' ds' hu p hp
      obtain ⟨v, h3, h4⟩ := o.sr.at_ p d h2
      have h3 := h3.1 (Nat.lt_of_lt_of_le (hon' p hp) hn)
      refine ⟨v, d, ?_, h1, h4⟩
      have h5 := o.fx p hp
      rw [h3] at h5
      unfold L2.start at h5
      rw [List.getElem?_append_left (by rw [List.length_map, lv]; exact hon' p hp), List.getElem?_map] at h5
      obtain ⟨v', h6, h7⟩ := Option.map_eq_some_iff.mp h5.symm
      cases h7
      exact h6
    · obtain ⟨j, hj, z⟩ := List.mem_flatMap.mp ha
      rcases List.mem_append.mp (o.ef.sub j hj) with y | y
      · exact List.mem_flatMap.mpr ⟨j, y, z⟩
      · rw [nlo j y] at z
        cases z
  refine (sim _).sim (env0 N ds) (start Nm vs) H Fs _ _ (sr_body s hN hn hlo) hw (fun env' σ' H' Fs' o ⟨ds', hu, q⟩ => ?_) (fun _ _ _ _ _ h => h.elim) (fun _ _ _ _ _ h => h.elim) (fun v d F env' σ' H' Fs' o r ⟨ds', hu, q⟩ => ?_)
  · exact q H' .non [] Fs' (out o hu) .non (fun _ => ⟨List.nodup_nil, fun _ h => nomatch h⟩) fun _ h => nomatch h
  · refine q H' v F Fs' (out o hu) r.rp (fun ha => ?_) fun a ha p hp => r.sc a ha p (List.mem_append_left _ hp) fun z => ?_
    · obtain ⟨nd, new⟩ := r.fs ha lo rfl
      refine ⟨nd, fun a ha => ?_⟩
      rcases new a ha with z | ⟨j, hj, z⟩
      · exact z
      · rcases o.ef.foot j (List.mem_append_right _ hj) a z with y | y
        · rw [nlo j hj] at y
          cases y
        · exact y
    · have h1 := hon' p hp
      have h2 := hlo' p z
      omega
def U0 : VEnv → Option (List Val) := fun _ => some []
def U1 : VEnv → Option (List Val)
  | some d :: _ => some [d]
  | _ => none
end
/-! ### new lists without lists within -/
theorem rpa_ints {K : PySem.W.Frag} {H : Hp} : ∀ ns : List Int, RpA K H [] (ns.map V.int) (ns.map Val.int)
  | [] => .nil
  | n :: r => RpA.cons (F := []) (.int n) (rpa_ints r)
theorem rpa_ints' {K : PySem.W.Frag} {H : Hp} {G : List Addr} {us : List V} : ∀ {ns : List Int}, RpA K H G us (ns.map Val.int) → us = ns.map V.int := by
  intro ns h
  induction ns generalizing G us with
  | nil =>
    cases h
    rfl
  | cons n r ih =>
    cases h with
    | cons a t =>
      cases a
      rw [ih t]
      rfl
def spV (s : Span) : Val := .tup [.int s.1, .int s.2]
theorem rp_span' {K : PySem.W.Frag} {H : Hp} {F : List Addr} {v : V} {s : Span} (h : Rp K H F v (spV s)) : Spn H v s := by
  unfold spV at h
  cases h with
  | tup ht r =>
    cases r with
    | cons a t =>
      cases t with
      | cons b t =>
        cases t
        cases a
        cases b
        exact ⟨_, rfl, ht⟩
theorem rpa_spans' {K : PySem.W.Frag} {H : Hp} {G : List Addr} {us : List V} : ∀ {ss : List Span}, RpA K H G us (ss.map spV) → Sps H us ss := by
  intro ss h
  induction ss generalizing G us with
  | nil =>
    cases h
    exact .nil
  | cons n r ih =>
    cases h with
    | cons a t => exact .cons (rp_span' a) (ih t)
theorem flat_ints : ∀ ns : List Int, Val.flatAll (ns.map Val.int) = true
  | [] => rfl
  | n :: r => by
    show (Val.flat (.int n) && Val.flatAll (r.map Val.int)) = true
    rw [flat_ints r]
    rfl
theorem flat_spans : ∀ ss : List Span, Val.flatAll (ss.map spV) = true
  | [] => rfl
  | n :: r => by
    show (Val.flat (spV n) && Val.flatAll (r.map spV)) = true
    rw [flat_spans r]
    rfl
theorem flat_map {α : Type} (f : α → Val) (hf : ∀ x, (f x).flat = true) : ∀ l : List α, Val.flatAll (l.map f) = true
  | [] => rfl
  | n :: r => by
    show (Val.flat (f n) && Val.flatAll (r.map f)) = true
    rw [flat_map f hf r, hf n]
    rfl
/-- a list of things without lists -/
theorem Rp.asLF {K : PySem.W.Frag} {H : Hp} {F : List Addr} {v : V} {ds : List Val} (h : Rp K H F v (.lst ds)) (hf : Val.flatAll ds = true) : ∃ l vs, v = .ref l ∧ H l = some (.lst vs) ∧ RpA K H [] vs ds := by
  obtain ⟨l, vs, G, e, h1, h2, _⟩ := h.asL
  have z := h2.flat hf
  subst z
  exact ⟨l, vs, e, h1, h2⟩
section
variable {c : Vc} {ta tb t : TE} {sa sb s : List Nat} {fa fb f : Option (List Nat)} {ea eb e : List Nat} {wa wb w : VW} {tA : TA} {as : List Arg} {wA : VWA}
/-- a new list p of things without lists -/
theorem new_flat {σ : L2.St} {H H1 : Hp} {Fs Fs1 : Fp} {env1 : VEnv} {e : List Nat} {Q : VK} {R : Val → VEnv → Prop} (k : ∀ v d F env' H' Fs', Ok0 c e σ H Fs env' H' Fs' → Rp c.K H' F v d → Src c.ms [] F Fs' → Frs (some []) H Fs' F → R d env' → Q v H') (o : Ok0 c e σ H Fs env1 H1 Fs1) {us : List V} {xs : List Val} (ra : RpA c.K H1 [] us xs) {p : Addr} (np : H1 p = none) (q : R (.lst xs) env1) : Q (.ref p) (upd H1 p (.lst us)) := by
  obtain ⟨gp, sp⟩ := upd_at (o := .lst us) np
  refine k _ _ [p] env1 _ Fs1 (o.grow sp) (.lst gp (ra.same sp)) (fun a ha j hj _ z => ?_) (fun mv e => ?_) q
  · rw [List.mem_singleton.mp ha] at z
    exact (o.sr.mutb j p z).ex np
  · cases e
    exact ⟨by simp, fun a ha => .inl (by rw [List.mem_singleton.mp ha]; exact o.ef.gr p np)⟩
def R2L (K : PySem.W.Frag) (r : R2) (g : Val → Val → (Val → Prop) → Prop) : Prop := ∀ (H : Hp) (x y : V) (d e : Val) (F G : List Addr) (Q : VK) (R : Val → Prop), Rp K H F x d → Rp K H G y e → g d e R → (∀ us xs p, RpA K H [] us xs → H p = none → R (.lst xs) → Q (.ref p) (upd H p (.lst us))) → r x y H Q
theorem simE_opL {r : R2} {g : Val → Val → (Val → Prop) → Prop} (hr : R2L c.K r g) (ha : SimE c ta sa fa ea wa) (hb : SimE c tb sb fb eb wb) (hd : disj sa eb = true) : SimE c (tOp r ta tb) [] (some []) (ea ++ eb) (wOp g wa wb) := ⟨fun env σ H Fs Q R S h k =>
  ha.sim env σ H Fs _ _ S h fun x d F env1 H1 Fs1 o1 r1 s1 _ h1 => hb.sim env1 σ H1 Fs1 _ _ o1.sr h1 fun y e G env2 H2 Fs2 o2 r2 s2 _ h2 =>
    hr H2 x y d e F G Q _ (r1.eff o1.sr o2.ef s1 hd).1 r2 h2 fun us xs p ra np q => new_flat k (o1.trans o2) ra np q⟩
def fCat : Val → Val → (Val → Prop) → Prop
  | .lst xs, .lst ys, Q => Val.flatAll xs = true ∧ Val.flatAll ys = true ∧ xs.length + ys.length ≤ 1000000 ∧ Q (.lst (xs ++ ys))
  | _, _, _ => False
theorem r2_cat {K : PySem.W.Frag} : R2L K rCat fCat := fun H x y d e F G Q R h1 h2 h k => by
  cases d <;> try exact h.elim
  cases e <;> try exact h.elim
  obtain ⟨f1, f2, hl, q⟩ := h
  obtain ⟨l, vs, rfl, hl1, ra⟩ := h1.asLF f1
  obtain ⟨m, ws, rfl, hm1, rb⟩ := h2.asLF f2
  exact ⟨l, m, vs, ws, rfl, rfl, hl1, hm1, small_le (by rw [ra.len, rb.len]; exact hl), fun p np => k _ _ p (ra.app rb) np q⟩
/-! -x -/
def wNeg (w : VW) : VW := fun env Q => w env fun d env' => match d with
  | .int i => Q (.int (-i)) env'
  | _ => False
theorem simE_neg (h : SimE c t s f e w) : SimE c (tUn (rU fun i => .int (-i)) t) [] (some []) e (wNeg w) := ⟨fun env σ H Fs Q R S hw k => h.sim env σ H Fs _ _ S hw fun v d F env' H' Fs' o r _ _ q => by
  cases d <;> try exact q.elim
  cases r
  exact ⟨_, rfl, k _ _ [] env' H' Fs' o (.int _) .nil .nil q⟩⟩
/-! xs[lo:hi], xs[::-1] -/
abbrev VWO := VEnv → (Option Int → VEnv → Prop) → Prop
structure SimO (c : Vc) (t : TO) (e : List Nat) (w : VWO) : Prop where
  sim : ∀ (env : VEnv) (σ : L2.St) (H : Hp) (Fs : Fp) (Q : Option Int → Hp → Prop) (R : Option Int → VEnv → Prop), Sr c env σ H Fs → w env R → (∀ i env' H' Fs', Ok0 c e σ H Fs env' H' Fs' → R i env' → Q i H') → t σ H Q
def woN : VWO := fun env Q => Q none env
def woS (w : VW) : VWO := fun env Q => w env fun d env' => match d with
  | .int i => Q (some i) env'
  | _ => False
theorem simO_none : SimO c tNoPart [] woN := ⟨fun env σ H Fs Q R S hw k => k none env H Fs (.refl S) hw⟩
theorem simO_some (h : SimE c t s f e w) : SimO c (tPart t) e (woS w) := ⟨fun env σ H Fs Q R S hw k => h.sim env σ H Fs _ _ S hw fun v d F env' H' Fs' o r _ _ q => by
  cases d <;> try exact q.elim
  cases r
  exact ⟨_, rfl, k _ env' H' Fs' o q⟩⟩
def cutL {α : Type} (xs : List α) (lo hi : Option Int) : List α := (xs.drop (HT.sIx xs.length 0 lo)).take (HT.sIx xs.length xs.length hi - HT.sIx xs.length 0 lo)
theorem RpA.drop {K : PySem.W.Frag} {H : Hp} : ∀ {us : List V} {xs : List Val} (n : Nat), RpA K H [] us xs → RpA K H [] (us.drop n) (xs.drop n) := fun {us xs} n h => by
  induction n generalizing us xs with
  | zero => exact h
  | succ n ih =>
    generalize hG : ([] : List Addr) = G at h
    cases h with
    | nil => exact .nil
    | cons a t =>
      rename_i A B v d vs ds
      have hA : A = [] ∧ B = [] := List.append_eq_nil_iff.mp hG.symm
      obtain ⟨rfl, rfl⟩ := hA
      exact ih t
theorem RpA.take {K : PySem.W.Frag} {H : Hp} : ∀ {us : List V} {xs : List Val} (n : Nat), RpA K H [] us xs → RpA K H [] (us.take n) (xs.take n) := fun {us xs} n h => by
  induction n generalizing us xs with
  | zero => exact .nil
  | succ n ih =>
    generalize hG : ([] : List Addr) = G at h
    cases h with
    | nil => exact .nil
    | cons a t =>
      rename_i A B v d vs ds
      have hA : A = [] ∧ B = [] := List.append_eq_nil_iff.mp hG.symm
      obtain ⟨rfl, rfl⟩ := hA
      exact RpA.cons (F := []) a (ih t)
theorem RpA.rev {K : PySem.W.Frag} {H : Hp} : ∀ {us : List V} {xs : List Val}, RpA K H [] us xs → RpA K H [] us.reverse xs.reverse := fun {us xs} h => by
  induction xs generalizing us with
  | nil =>
    cases us with
    | nil => exact .nil
    | cons u us => exact absurd h.len (by simp)
  | cons x xs ih =>
    generalize hG : ([] : List Addr) = G at h
    cases h with
    | cons a t =>
      rename_i A B v vs
      have hA : A = [] ∧ B = [] := List.append_eq_nil_iff.mp hG.symm
      obtain ⟨rfl, rfl⟩ := hA
      rw [List.reverse_cons, List.reverse_cons]
      exact (ih t).app (RpA.one a)
theorem RpA.cut {K : PySem.W.Frag} {H : Hp} {us : List V} {xs : List Val} (h : RpA K H [] us xs) (lo hi : Option Int) : RpA K H [] (cutV us lo hi) (cutL xs lo hi) := by
  unfold cutV cutL
  rw [h.len]
  exact (h.drop _).take _
variable {tl th : TO} {wl wh : VWO} {el eh : List Nat}
def wSl (w : VW) (wl wh : VWO) : VW := fun env Q => w env fun d env1 => wl env1 fun a env2 => wh env2 fun b env3 => match d with
  | .lst xs => Val.flatAll xs = true ∧ Q (.lst (cutL xs a b)) env3
  | .frz xs => Val.flatAll xs = true ∧ Q (.lst (cutL xs a b)) env3
  | _ => False
theorem simE_sl (h : SimE c t s f e w) (hl : SimO c tl el wl) (hh : SimO c th eh wh) (hd : disj s el = true) (hd2 : disj s eh = true) : SimE c (tSl (rSlL c.K) t tl th) [] (some []) (e ++ (el ++ eh)) (wSl w wl wh) := ⟨fun env σ H Fs Q R S hw k =>
  h.sim env σ H Fs _ _ S hw fun v d F env1 H1 Fs1 o1 r1 s1 _ q1 => hl.sim env1 σ H1 Fs1 _ _ o1.sr q1 fun a env2 H2 Fs2 o2 q2 => hh.sim env2 σ H2 Fs2 _ _ o2.sr q2 fun b env3 H3 Fs3 o3 q3 => by
    obtain ⟨r2, s2⟩ := r1.eff o1.sr o2.ef s1 hd
    obtain ⟨r3, s3⟩ := r2.eff o2.sr o3.ef s2 hd2
    have O := o1.trans (o2.trans o3)
    cases d <;> try exact q3.elim
    · obtain ⟨hf, q⟩ := q3
      obtain ⟨l, vs, e, h1, ra⟩ := r3.asLF hf
      subst e
      exact ⟨l, vs, rfl, SqL.of h1, fun p np => new_flat k O (ra.cut a b) np q⟩
    · obtain ⟨hf, q⟩ := q3
      obtain ⟨l, vs, e, h1, ra⟩ := r3.asF
      have z := ra.flat hf
      subst e z
      exact ⟨l, vs, rfl, h1, fun p np => new_flat k O (ra.cut a b) np q⟩⟩
def wRev (w : VW) : VW := fun env Q => w env fun d env1 => match d with
  | .lst xs => Val.flatAll xs = true ∧ Q (.lst xs.reverse) env1
  | _ => False
theorem simE_rev (h : SimE c t s f e w) : SimE c (tRevL c.K t) [] (some []) e (wRev w) := ⟨fun env σ H Fs Q R S hw k =>
  h.sim env σ H Fs _ _ S hw fun v d F env1 H1 Fs1 o1 r1 s1 _ q1 => by
    cases d <;> try exact q1.elim
    obtain ⟨hf, q⟩ := q1
    obtain ⟨l, vs, e, h1, ra⟩ := r1.asLF hf
    subst e
    exact ⟨l, vs, rfl, SqL.of h1, fun p np => new_flat k o1 ra.rev np q⟩⟩
/-! built-in functions that make a new list -/
def CBL (c : Vc) (r : List V → Hp → VK → Prop) (g : List Val → (Val → Prop) → Prop) : Prop := ∀ (σ : L2.St) (H : Hp) (Fs : Fp) (as : List Arg) (Gs : List (List Addr)) (vs : List V) (ds : List Val) (Q : VK) (R : Val → Prop), RpL c σ H Fs as Gs vs ds → g ds R → (∀ us xs p, RpA c.K H [] us xs → H p = none → R (.lst xs) → Q (.ref p) (upd H p (.lst us))) → r vs H Q
theorem simE_cbl {r : List V → Hp → VK → Prop} {g : List Val → (Val → Prop) → Prop} (hr : CBL c r g) (h : SimA c tA as f e wA) : SimE c (tCB r tA) [] (some []) e (wCB g wA) := ⟨fun env σ H Fs Q R S hw k =>
  h.sim env σ H Fs _ _ S hw fun vs ds Gs env' H' Fs' o r fr q => hr σ H' Fs' as Gs vs ds Q _ r q fun us xs p ra np z => new_flat k o ra np z⟩
def gList : List Val → (Val → Prop) → Prop
  | [.lst xs], Q => Val.flatAll xs = true ∧ Q (.lst xs)
  | [.tup xs], Q => Val.flatAll xs = true ∧ Q (.lst xs)
  | [.frz xs], Q => Val.flatAll xs = true ∧ Q (.lst xs)
  | _, _ => False
theorem cb_list : CBL c (fun xs H Q => ∃ p ys, xs = [.ref p] ∧ (SqL c.K H p ys ∨ SqT c.K H p ys) ∧ ∀ l, H l = none → Q (.ref l) (upd H l (.lst ys))) gList := fun σ H Fs as Gs vs ds Q R r h k => by
  unfold gList at h
  split at h
  · obtain ⟨v, F, e1, r1⟩ := r.one
    obtain ⟨l, us, e2, hl, ra⟩ := r1.asLF h.1
    subst e1 e2
    exact ⟨l, us, rfl, .inl (SqL.of hl), fun p np => k us _ p ra np h.2⟩
  · obtain ⟨v, F, e1, r1⟩ := r.one
    obtain ⟨l, us, e2, hl, ra⟩ := r1.asT
    have z := ra.flat h.1
    subst e1 e2 z
    exact ⟨l, us, rfl, .inr hl, fun p np => k us _ p ra np h.2⟩
  · obtain ⟨v, F, e1, r1⟩ := r.one
    obtain ⟨l, us, e2, hl, ra⟩ := r1.asF
    have z := ra.flat h.1
    subst e1 e2 z
    exact ⟨l, us, rfl, .inl hl, fun p np => k us _ p ra np h.2⟩
  · exact h.elim
def gSortI : List Val → (Val → Prop) → Prop
  | [.lst xs], Q => ∃ ns : List Int, xs = ns.map Val.int ∧ ∀ ns' : List Int, ns'.Perm ns → ns'.Pairwise (· ≤ ·) → Q (.lst (ns'.map Val.int))
  | _, _ => False
theorem cb_sortI : CBL c (rSortedI c.K) gSortI := fun σ H Fs as Gs vs ds Q R r h k => by
  unfold gSortI at h
  split at h
  · obtain ⟨ns, rfl, h⟩ := h
    obtain ⟨v, F, e1, r1⟩ := r.one
    obtain ⟨l, us, G, e2, hl, ra, _⟩ := r1.asL
    subst e1 e2
    have eu := rpa_ints' ra
    subst eu
    exact ⟨l, ns, rfl, SqL.of hl, fun ns' p hp hs np => k _ _ p (rpa_ints ns') np (h ns' hp hs)⟩
  · exact h.elim
/-! sum, max, min of a list of ints -/
/-! list(range(n)) -/
def wLRg (w : VW) : VW := fun env Q => w env fun d env' => match d with
  | .int n => RgOk 0 n ∧ Q (.lst (rngV 0 n.toNat)) env'
  | _ => False
theorem rgV_0 (n : Int) : rgV 0 n = (List.range n.toNat).map fun i => V.int ((i : Nat) : Int) := by
  unfold rgV
  rw [Int.sub_zero]
  exact List.map_congr_left fun i _ => by rw [Int.zero_add]
theorem simE_lrg (h : SimE c t s f e w) : SimE c (tLstRg (tRg1 t)) [] (some []) e (wLRg w) := ⟨fun env σ H Fs Q R S hw k =>
  h.sim env σ H Fs _ _ S hw fun v d F env1 H1 Fs1 o1 r1 s1 f1 q1 => by
    clear f1
    cases d <;> try exact q1.elim
    cases r1
    rename_i n
    obtain ⟨hr, q⟩ := q1
    refine ⟨n, rfl, hr, fun p np => ?_⟩
    rw [rgV_0 n]
    refine new_flat k o1 ?_ np q
    have e1 : (List.range n.toNat).map (fun i => V.int ((i : Nat) : Int)) = ((List.range n.toNat).map fun i => ((i : Nat) : Int)).map V.int := by
      rw [List.map_map]
      rfl
    have e2 : rngV 0 n.toNat = ((List.range n.toNat).map fun i => ((i : Nat) : Int)).map Val.int := by
      unfold rngV
      rw [List.map_map]
      exact List.map_congr_left fun i _ => by simp
    rw [e1, e2]
    exact rpa_ints _⟩
end
/-! ### defs -/
section
variable {K : PySem.W.Frag} {Ps : TL} {own lo : List Nat} {n N : Nat} {S : VSpec}
def outs (U : VEnv → Option (List Val)) (Q : List Val → Val → Prop) (r : Val) (env : VEnv) : Prop := match U env with
  | some ds => Q ds r
  | none => False
theorem outs_is {U : VEnv → Option (List Val)} {Q : List Val → Val → Prop} {r : Val} {env : VEnv} (h : outs U Q r env) : ∃ ds, U env = some ds ∧ Q ds r := by
  unfold outs at h
  split at h
  · exact ⟨_, ‹_›, h⟩
  · exact h.elim
def endsV (U : VEnv → Option (List Val)) (Q : List Val → Val → Prop) : VEnds := { nx := outs U Q .non, rt := outs U Q }
theorem endsV_nx {U : VEnv → Option (List Val)} {Q : List Val → Val → Prop} {e : VEnv} (h : (endsV U Q).nx e) : ∃ ds, U e = some ds ∧ Q ds .non := outs_is (U := U) (Q := Q) (r := .non) (env := e) h
theorem endsV_rt {U : VEnv → Option (List Val)} {Q : List Val → Val → Prop} {r : Val} {e : VEnv} (h : (endsV U Q).rt r e) : ∃ ds, U e = some ds ∧ Q ds r := outs_is (U := U) (Q := Q) (r := r) (env := e) h
theorem SimS.mapE {c : Vc} {fx Ef : List Nat} {t : TS} {w : VWS} (h : SimS c fx lo Ef t w) {R R' : VEnds} {env : VEnv} (hw : w R env) {σ : L2.St} {H : Hp} {Fs : Fp} {D : Ends} (S : Sr c env σ H Fs) (h1 : ∀ e, R.nx e → R'.nx e) (h2 : ∀ r e, R.rt r e → R'.rt r e) (hb : ∀ e, R.bk e → False) (hc : ∀ e, R.ct e → False)
    (n : ∀ env' σ' H' Fs', Ok2 c fx Ef σ H Fs env' σ' H' Fs' → R'.nx env' → D.nx σ' H') (rt : ∀ v d F env' σ' H' Fs', Ok2 c fx Ef σ H Fs env' σ' H' Fs' → RtOk c lo H F v d H' Fs' → R'.rt d env' → D.rt v H') : t D σ H :=
  h.sim env σ H Fs D R S hw (fun env' σ' H' Fs' o q => n env' σ' H' Fs' o (h1 _ q)) (fun env' _ _ _ _ q => (hb env' q).elim) (fun env' _ _ _ _ q => (hc env' q).elim) fun v d F env' σ' H' Fs' o r q => rt v d F env' σ' H' Fs' o r (h2 _ _ q)
/-- a def that lets exceptions out -/
theorem vfnX {vs : List V} {H : Hp} {Q : VK} {E : XK} {Nm : List Str} {t : TS} {w : (Value → Prop) → VWS} {Ef : List Nat} (U : VEnv → Option (List Val)) (h : vsp K Ps own n S vs H Q E) (hN : Nm.length = N) (hn : n ≤ N) (hlo : (lo.all fun j => decide (n ≤ j)) = true) (hon : (own.all fun j => decide (j < n)) = true)
    (hU : ∀ env ds', U env = some ds' → ∀ p ∈ own, ∃ d, ds'[p]? = some d ∧ env[p]? = some (some d)) (sim : ∀ xe, SimS ⟨K, Ps, own ++ lo, N, E, xe, false, 0⟩ own lo Ef t (w xe))
    (hw : ∀ ds Qc Xc, S ds Qc Xc → w Xc (endsV U Qc) (env0 N ds)) : t { nx := fun _ H' => Q .non H', rt := Q } (L2.start Nm vs) H := by
  obtain ⟨ds, Fs, s, hS⟩ := h
  refine vbody (al := false) (E := E) (own := own) (lo := lo) U s hN hn hlo hon (w := fun xe R env => ∃ R', w xe R' env ∧ (∀ e, R'.nx e → R.nx e) ∧ (∀ r e, R'.rt r e → R.rt r e) ∧ (∀ e, R'.bk e → False) ∧ ∀ e, R'.ct e → False) (Ef := Ef) (fun xe => ⟨fun env σ H Fs D R S0 hw n b ct rt => ?_⟩) hU ?_
  · obtain ⟨R', hw, h1, h2, h3, h4⟩ := hw
    exact (sim xe).mapE hw S0 h1 h2 h3 h4 n rt
  · exact ⟨_, hw ds _ _ hS, fun e h => (endsV_nx h).imp fun ds z => ⟨z.1, fun H' v F Fs' o r nd ds => z.2 H' v F Fs' o r (nd rfl).1 fun a ha => ⟨(nd rfl).2 a ha, ds a ha⟩⟩, fun r e h => (endsV_rt h).imp fun ds z => ⟨z.1, fun H' v F Fs' o r nd ds => z.2 H' v F Fs' o r (nd rfl).1 fun a ha => ⟨(nd rfl).2 a ha, ds a ha⟩⟩, fun _ h => h, fun _ h => h⟩
/-- a def that lets none out -/
theorem vfn {vs : List V} {H : Hp} {Q : VK} {E : XK} {Nm : List Str} {t : TS} {w : VWS} {Ef : List Nat} (U : VEnv → Option (List Val)) (h : vsp K Ps own n S vs H Q E) (hN : Nm.length = N) (hn : n ≤ N) (hlo : (lo.all fun j => decide (n ≤ j)) = true) (hon : (own.all fun j => decide (j < n)) = true)
    (hU : ∀ env ds', U env = some ds' → ∀ p ∈ own, ∃ d, ds'[p]? = some d ∧ env[p]? = some (some d)) (sim : SimS ⟨K, Ps, own ++ lo, N, E0, fun _ => False, false, 0⟩ own lo Ef t w)
    (hw : ∀ ds Qc Xc, S ds Qc Xc → w (endsV U Qc) (env0 N ds)) : t { nx := fun _ H' => Q .non H', rt := Q } (L2.start Nm vs) H := by
  obtain ⟨ds, Fs, s, hS⟩ := h
  -- the same with another wish of exceptions
  have down : ∀ {xe : Value → Prop} {env : VEnv} {σ : L2.St} {H : Hp} {Fs : Fp}, Sr ⟨K, Ps, own ++ lo, N, E, xe, false, 0⟩ env σ H Fs → Sr ⟨K, Ps, own ++ lo, N, E0, fun _ => False, false, 0⟩ env σ H Fs := fun s => ⟨s.le, s.ls, s.at_, s.emp, s.sep, s.nd, s.tb, fun _ _ _ _ _ z => z.elim⟩
  have up : ∀ {xe : Value → Prop} {env : VEnv} {σ : L2.St} {H H0 : Hp} {Fs Fs0 : Fp} {e : List Nat}, Xk ⟨K, Ps, own ++ lo, N, E, xe, false, 0⟩ Fs0 H0 → Eff (own ++ lo) e Fs0 H0 Fs H → Sr ⟨K, Ps, own ++ lo, N, E0, fun _ => False, false, 0⟩ env σ H Fs → Sr ⟨K, Ps, own ++ lo, N, E, xe, false, 0⟩ env σ H Fs := fun xk ef s => ⟨s.le, s.ls, s.at_, s.emp, s.sep, s.nd, s.tb, xk.eff ef⟩
  refine vbody (al := false) (E := E) (own := own) (lo := lo) U s hN hn hlo hon (w := fun _ R env => ∃ R', w R' env ∧ (∀ e, R'.nx e → R.nx e) ∧ (∀ r e, R'.rt r e → R.rt r e) ∧ (∀ e, R'.bk e → False) ∧ ∀ e, R'.ct e → False) (Ef := Ef) (fun xe => ⟨fun env σ H Fs D R S0 hw n b ct rt => ?_⟩) hU ?_
  · obtain ⟨R', hw, h1, h2, h3, h4⟩ := hw
    exact sim.mapE hw (down S0) h1 h2 h3 h4 (fun env' σ' H' Fs' o q => n env' σ' H' Fs' ⟨up S0.xk o.ef o.sr, o.ef, o.fx⟩ q) fun v d F env' σ' H' Fs' o r q => rt v d F env' σ' H' Fs' ⟨up S0.xk o.ef o.sr, o.ef, o.fx⟩ ⟨r.rp, r.sc, r.fs⟩ q
  · exact ⟨_, hw ds _ _ hS, fun e h => (endsV_nx h).imp fun ds z => ⟨z.1, fun H' v F Fs' o r nd ds => z.2 H' v F Fs' o r (nd rfl).1 fun a ha => ⟨(nd rfl).2 a ha, ds a ha⟩⟩, fun r e h => (endsV_rt h).imp fun ds z => ⟨z.1, fun H' v F Fs' o r nd ds => z.2 H' v F Fs' o r (nd rfl).1 fun a ha => ⟨(nd rfl).2 a ha, ds a ha⟩⟩, fun _ h => h, fun _ h => h⟩
theorem hU0 : ∀ env ds', U0 env = some ds' → ∀ p ∈ ([] : List Nat), ∃ d, ds'[p]? = some d ∧ env[p]? = some (some d) := fun _ _ _ _ h => nomatch h
theorem hU1 : ∀ env ds', U1 env = some ds' → ∀ p ∈ [0], ∃ d, ds'[p]? = some d ∧ env[p]? = some (some d) := fun env ds' h p hp => by
  rw [List.mem_singleton.mp hp]
  unfold U1 at h
  split at h
  · cases h
    exact ⟨_, rfl, rfl⟩
  · cases h
end
/-! ### data, as it is compared -/
theorem isD_map {α : Type} (f : α → Val) (hf : ∀ x, (f x).isD = true) : ∀ l : List α, Val.isDs (l.map f) = true
  | [] => rfl
  | n :: r => by
    show (Val.isD (f n) && Val.isDs (r.map f)) = true
    rw [isD_map f hf r, hf n]
    rfl
theorem toDs_map {α : Type} (f : α → Val) : ∀ l : List α, Val.toDs (l.map f) = l.map fun x => (f x).toD
  | [] => rfl
  | n :: r => congrArg (_ :: ·) (toDs_map f r)
theorem toD_ints (ns : List Int) : Val.toD (.lst (ns.map Val.int)) = .list (ns.map PyData.int) := congrArg PyData.list (toDs_map Val.int ns)
theorem toD_spans (ss : List Span) : Val.toD (.lst (ss.map spV)) = .list (ss.map spD) := congrArg PyData.list (toDs_map spV ss)
theorem okD_ints (ns : List Int) : Val.okD (.lst (ns.map Val.int)) := ⟨isD_map Val.int (fun _ => rfl) ns, by rw [toD_ints]; exact shaped_ints ns⟩
theorem okD_spans (ss : List Span) : Val.okD (.lst (ss.map spV)) := ⟨isD_map spV (fun _ => rfl) ss, by rw [toD_spans]; exact shaped_spans ss⟩
theorem okD_nil : Val.okD (.lst []) := okD_ints []
theorem eqv_ints : ∀ a b : List Int, PyData.eqv (.list (a.map PyData.int)) (.list (b.map PyData.int)) = decide (a = b) := by
  have h : ∀ a b : List Int, PyData.eqvAll (a.map PyData.int) (b.map PyData.int) = decide (a = b) := by
    intro a
    induction a with
    | nil => intro b; cases b <;> rfl
    | cons x a ih =>
      intro b
      cases b with
      | nil => rfl
      | cons y b =>
        show (PyData.eqv (.int x) (.int y) && PyData.eqvAll (a.map PyData.int) (b.map PyData.int)) = _
        rw [ih b]
        have : PyData.eqv (.int x) (.int y) = decide (x = y) := by simp [PyData.eqv, Bool.beq_eq_decide_eq]
        rw [this]
        by_cases h1 : x = y <;> by_cases h2 : a = b <;> simp [h1, h2]
  exact h
/-- == of two lists of ints, of two lists of spans -/
theorem eqD_ints (neg : Bool) (a b : List Int) (Q : Val → Prop) (h : Q (.bl (neg != decide (a = b)))) : fEqD neg (.lst (a.map Val.int)) (.lst (b.map Val.int)) Q := by
  refine ⟨okD_ints a, okD_ints b, ?_⟩
  rw [toD_ints, toD_ints, eqv_ints]
  exact h
/-! ### older promises, seen as promises over values -/
section
variable {K : PySem.W.Frag} {Ps : TL} {own : List Nat} {vs : List V} {H : Hp} {Fs : Fp}
theorem arg1 {d : Val} (s : Sr ⟨K, Ps, own, 1, fun _ _ _ => False, fun _ => False, false, 0⟩ ([d].map some) (vs.map some) H Fs) : ∃ v, vs = [v] ∧ Rp K H (Fs 0) v d := by
  have l : vs.length = 1 := by have := s.ls; rwa [List.length_map] at this
  obtain ⟨v, rfl⟩ := List.length_eq_one_iff.mp l
  obtain ⟨v', h1, h2⟩ := s.at_ 0 d rfl
  have h1 := h1.1 (show 0 < 1 by decide)
  cases h1
  exact ⟨v, rfl, h2⟩
theorem arg2 {d d' : Val} (s : Sr ⟨K, Ps, own, 2, fun _ _ _ => False, fun _ => False, false, 0⟩ ([d, d'].map some) (vs.map some) H Fs) : ∃ v v', vs = [v, v'] ∧ Rp K H (Fs 0) v d ∧ Rp K H (Fs 1) v' d' := by
  have l : vs.length = 2 := by have := s.ls; rwa [List.length_map] at this
  obtain ⟨v, v', rfl⟩ : ∃ v v', vs = [v, v'] := by
    rcases vs with _ | ⟨a, _ | ⟨b, _ | ⟨x, r⟩⟩⟩
    · cases l
    · cases l
    · exact ⟨a, b, rfl⟩
    · cases l
  obtain ⟨_, h1, h2⟩ := s.at_ 0 d rfl
  obtain ⟨_, h3, h4⟩ := s.at_ 1 d' rfl
  have h1 := h1.1 (show 0 < 2 by decide)
  have h3 := h3.1 (show 1 < 2 by decide)
  cases h1
  cases h3
  exact ⟨v, v', rfl, h2, h4⟩
theorem arg3 {d d' d'' : Val} (s : Sr ⟨K, Ps, own, 3, fun _ _ _ => False, fun _ => False, false, 0⟩ ([d, d', d''].map some) (vs.map some) H Fs) : ∃ v v' v'', vs = [v, v', v''] ∧ Rp K H (Fs 0) v d ∧ Rp K H (Fs 1) v' d' ∧ Rp K H (Fs 2) v'' d'' := by
  have l : vs.length = 3 := by have := s.ls; rwa [List.length_map] at this
  obtain ⟨v, v', v'', rfl⟩ : ∃ v v' v'', vs = [v, v', v''] := by
    rcases vs with _ | ⟨a, _ | ⟨b, _ | ⟨x, _ | ⟨y, r⟩⟩⟩⟩
    · cases l
    · cases l
    · cases l
    · exact ⟨a, b, x, rfl⟩
    · cases l
  obtain ⟨_, h1, h2⟩ := s.at_ 0 d rfl
  obtain ⟨_, h3, h4⟩ := s.at_ 1 d' rfl
  have h1 := h1.1 (show 0 < 3 by decide)
  have h3 := h3.1 (show 1 < 3 by decide)
  obtain ⟨_, h5, h6⟩ := s.at_ 2 d'' rfl
  have h5 := h5.1 (show 2 < 3 by decide)
  cases h1
  cases h3
  cases h5
  exact ⟨v, v', v'', rfl, h2, h4, h6⟩
theorem out_kp {H' : Hp} {ds' : List Val} (k : Kp [] H H') (t : Tb Ps H') : OutOk K Ps [] vs Fs H ds' Fs H' := ⟨(fun _ h => nomatch h), (fun _ h => nomatch h), (fun _ h => nomatch h), ⟨(fun _ h => nomatch h), k, fun _ h => k.free List.not_mem_nil h, (fun _ h => nomatch h), fun _ h => nomatch h⟩, t⟩
theorem out_same {H' : Hp} {ds' : List Val} (k : Same H H') (t : Tb Ps H) : OutOk K Ps [] vs Fs H ds' Fs H' := out_kp (.of k) (t.same k)
theorem Rp.int_eq {F : List Addr} {v : V} {i : Int} (h : Rp K H F v (.int i)) : v = .int i := by
  cases h
  rfl
theorem Rp.bl_eq {F : List Addr} {v : V} {i : Bool} (h : Rp K H F v (.bl i)) : v = .bl i := by
  cases h
  rfl
theorem Rp.ints {F : List Addr} {v : V} {ns : List Int} (h : Rp K H F v (.lst (ns.map Val.int))) : ∃ l, v = .ref l ∧ H l = some (.lst (ns.map V.int)) ∧ F = [l] := by
  obtain ⟨l, vs, G, e, h1, h2, h3⟩ := h.asL
  have z := h2.flat (flat_ints ns)
  subst e z h3
  rw [rpa_ints' h2] at h1
  exact ⟨l, rfl, h1, rfl⟩
theorem Rp.spans {F : List Addr} {v : V} {ss : List Span} (h : Rp K H F v (.lst (ss.map spV))) : ∃ l us, v = .ref l ∧ H l = some (.lst us) ∧ Sps H us ss ∧ F = [l] := by
  obtain ⟨l, vs, G, e, h1, h2, h3⟩ := h.asL
  have z := h2.flat (flat_spans ss)
  subst e z h3
  exact ⟨l, vs, rfl, h1, rpa_spans' h2, rfl⟩
theorem rp_ints {l : Addr} {ns : List Int} (h : H l = some (.lst (ns.map V.int))) : Rp K H [l] (.ref l) (.lst (ns.map Val.int)) := .lst h (rpa_ints ns)
/-- the purse -/
def PuW (d : Val) (n : Nat) : Prop := ∃ a b c : Int, d = .lst [.int a, .int b, .int c] ∧ 0 ≤ a ∧ 0 ≤ b ∧ b < 2147483647 ∧ 0 ≤ c ∧ c ≤ n
theorem PuW.mono {d : Val} {n m : Nat} (h : PuW d n) (e : n ≤ m) : PuW d m := by
  obtain ⟨a, b, c, h1, h2, h3, h4, h5, h6⟩ := h
  exact ⟨a, b, c, h1, h2, h3, h4, h5, by omega⟩
theorem PuW.pu {F : List Addr} {v : V} {d : Val} {n : Nat} (p : PuW d n) (h : Rp K H F v d) : ∃ l, v = .ref l ∧ Pu H l n ∧ F = [l] := by
  obtain ⟨a, b, c, rfl, h2⟩ := p
  obtain ⟨l, e, h1, h3⟩ := Rp.ints (ns := [a, b, c]) h
  exact ⟨l, e, ⟨a, b, c, h1, h2⟩, h3⟩
theorem PuW.of {p : Addr} {n : Nat} (h : Pu H p n) : ∃ d, PuW d n ∧ Rp K H [p] (.ref p) d := by
  obtain ⟨a, b, c, h1, h2⟩ := h
  exact ⟨.lst [.int a, .int b, .int c], ⟨a, b, c, rfl, h2⟩, rp_ints (ns := [a, b, c]) h1⟩
/-- behind a change of one own list -/
theorem out_own1 {H' : Hp} {p : Addr} {v : V} {vs' : List V} {d : Val} {ds' : List Val} (ev : v = .ref p) (hF : Fs 0 = [p]) (k : Chg [p] H H') (t : Tb Ps H) (hp : H' p ≠ none) (hm : Mutb H p) (r : Rp K H' [p] (.ref p) d) : OutOk K Ps [0] (v :: vs') Fs H (d :: ds') Fs H' := by
  subst ev
  refine ⟨fun q hq => ?_, fun q hq => ?_, fun q hq q' hq' ne => absurd (by rw [List.mem_singleton.mp hq, List.mem_singleton.mp hq']) ne, ⟨fun _ z => z, .chg (k.mono fun x hx => ?_), fun a ha => ?_, fun j hj nn => absurd hj nn, fun j hj a ha => .inl ha⟩, ?_⟩
  · rw [List.mem_singleton.mp hq, hF]
    exact ⟨_, _, rfl, rfl, r⟩
  · rw [List.mem_singleton.mp hq, hF]
    simp
  · rw [List.flatMap_singleton, hF]
    exact hx
  · by_cases z : a = p
    · rw [z] at ha
      exact absurd ha hp
    · exact k.free (nmem1 z) ha
  · exact t.chg k (fun P hP z => (t.notmut hm).1 (by rw [← List.mem_singleton.mp z]; exact hP)) fun a ha => by
      rw [List.mem_singleton.mp ha]
      exact (t.notmut hm).2
theorem out_own2 {H' : Hp} {p q : Addr} {v u : V} {vs' : List V} {d e : Val} {ds' : List Val} (ev : v = .ref p) (eu : u = .ref q) (hF : Fs 0 = [p]) (hG : Fs 1 = [q]) (hne : p ≠ q) (k : Chg [p, q] H H') (t : Tb Ps H) (hm : Mutb H p) (hm2 : Mutb H q) (r : Rp K H' [p] (.ref p) d) (r2 : Rp K H' [q] (.ref q) e) : OutOk K Ps [0, 1] (v :: u :: vs') Fs H (d :: e :: ds') Fs H' := by
  subst ev eu
  have two : ∀ {x : Nat}, x ∈ [0, 1] → x = 0 ∨ x = 1 := fun {x} hx => by simpa using hx
  refine ⟨fun x hx => ?_, fun x hx => ?_, fun x hx y hy ne a ha z => ?_, ⟨fun _ z => z, .chg (k.mono fun x hx => ?_), fun a ha => ?_, fun j hj nn => absurd hj nn, fun j hj a ha => .inl ha⟩, ?_⟩
  · rcases two hx with rfl | rfl
    · rw [hF]
      exact ⟨_, _, rfl, rfl, r⟩
    · rw [hG]
      exact ⟨_, _, rfl, rfl, r2⟩
  · rcases two hx with rfl | rfl
    · rw [hF]
      simp
    · rw [hG]
      simp
  · rcases two hx with rfl | rfl <;> rcases two hy with rfl | rfl
    · exact ne rfl
    · rw [hF] at ha
      rw [hG] at z
      exact hne (by rw [← List.mem_singleton.mp ha, ← List.mem_singleton.mp z])
    · rw [hG] at ha
      rw [hF] at z
      exact hne (by rw [← List.mem_singleton.mp ha, ← List.mem_singleton.mp z])
    · exact ne rfl
  · show x ∈ Fs 0 ++ (Fs 1 ++ [])
    rw [hF, hG]
    exact hx
  · by_cases z : a = p
    · rw [z] at ha
      exact absurd ha (r.mutb p List.mem_cons_self).ex
    · by_cases y : a = q
      · rw [y] at ha
        exact absurd ha (r2.mutb q List.mem_cons_self).ex
      · exact k.free (nmem2 z y) ha
  · have two' : ∀ {a : Addr}, a ∈ [p, q] → a = p ∨ a = q := fun {a} h => by simpa using h
    refine t.chg k (fun P hP z => ?_) fun a ha => ?_
    · rcases two' z with z | z
      · exact (t.notmut hm).1 (by rw [← z]; exact hP)
      · exact (t.notmut hm2).1 (by rw [← z]; exact hP)
    · rcases two' ha with rfl | rfl
      · exact (t.notmut hm).2
      · exact (t.notmut hm2).2
end
section
variable {c : Vc} {t : TE} {s e : List Nat} {f : Option (List Nat)} {w : VW}
/-! sorted(set(ints)) -/
end
/-! ### a call that is handed an own list and a list of nobody's -/
section
variable {c : Vc} {te tm : TE} {we wm : VW} {S : VSpec} {i : Nat}
end
/-! ### comprehensions whose items leave the slots as they are -/
section
variable {α : Type} {wg : VWG} {wt : VWT} {we : VW} {vs : List Nat} {Q : Val → VEnv → Prop} {E0 : VEnv}
theorem lc_ex (l : List α) (g : α → Val) (f : α → Option Val) (step : ∀ x ∈ l, ∀ (R : Val → VEnv → Prop) (R' : VEnv → Prop), (match f x with
      | some y => R y E0
      | none => R' E0) → wg (g x) E0 fun env2 => wt env2 fun b env3 => if b = true then we env3 fun y env4 => R y (wipeE env4 vs) else R' (wipeE env3 vs))
    (fl : ∀ x ∈ l, ∀ y, f x = some y → y.flat = true) (len : l.length < 1000000) (q : Q (.lst (l.filterMap f)) E0) :
    ∃ I : Nat → List Val → VEnv → Prop, I 0 [] E0 ∧ (∀ i x acc env', (l.map g)[i]? = some x → I i acc env' → acc.length < 1000000 ∧ wg x env' fun env2 => wt env2 fun b env3 => if b = true then we env3 fun y env4 => y.flat = true ∧ I (i + 1) (acc ++ [y]) (wipeE env4 vs) else I (i + 1) acc (wipeE env3 vs)) ∧
      ∀ acc env', I (l.map g).length acc env' → app2 Q (.lst acc) env' := by
  refine ⟨fun i acc env => env = E0 ∧ acc = (l.take i).filterMap f, ⟨rfl, rfl⟩, ?_, ?_⟩
  · rintro i x acc env' hx ⟨rfl, rfl⟩
    rw [List.getElem?_map] at hx
    obtain ⟨a, ha, rfl⟩ := Option.map_eq_some_iff.mp hx
    have ma := List.mem_of_getElem? ha
    have tk : l.take (i + 1) = l.take i ++ [a] := by
      rw [List.take_add_one, ha]
      rfl
    refine ⟨?_, step a ma (fun y env5 => y.flat = true ∧ env5 = env' ∧ (l.take i).filterMap f ++ [y] = (l.take (i + 1)).filterMap f) (fun env5 => env5 = env' ∧ (l.take i).filterMap f = (l.take (i + 1)).filterMap f) ?_⟩
    · have h1 := List.length_filterMap_le f (l.take i)
      have h2 : (l.take i).length ≤ l.length := by
        rw [List.length_take]
        exact Nat.min_le_right _ _
      omega
    · cases hf : f a with
      | some y =>
        refine ⟨fl a ma y hf, rfl, ?_⟩
        rw [tk, List.filterMap_append]
        congr 1
        simp [hf]
      | none =>
        refine ⟨rfl, ?_⟩
        rw [tk, List.filterMap_append]
        simp [hf]
  · rintro acc env' ⟨rfl, rfl⟩
    rw [List.length_map, List.take_length]
    exact q
/-- no test, an element for each item -/
theorem lc_map (l : List α) (g : α → Val) (f : α → Val) (step : ∀ x ∈ l, ∀ (R : Val → VEnv → Prop), R (f x) E0 → wg (g x) E0 fun env2 => we env2 fun y env4 => R y (wipeE env4 vs))
    (fl : ∀ x ∈ l, (f x).flat = true) (len : l.length < 1000000) (q : Q (.lst (l.map f)) E0) :
    ∃ I : Nat → List Val → VEnv → Prop, I 0 [] E0 ∧ (∀ i x acc env', (l.map g)[i]? = some x → I i acc env' → acc.length < 1000000 ∧ wg x env' fun env2 => wYes env2 fun b env3 => if b = true then we env3 fun y env4 => y.flat = true ∧ I (i + 1) (acc ++ [y]) (wipeE env4 vs) else I (i + 1) acc (wipeE env3 vs)) ∧
      ∀ acc env', I (l.map g).length acc env' → app2 Q (.lst acc) env' := by
  refine lc_ex l g (fun x => some (f x)) (fun x hx R R' h => ?_) (fun x hx y e => by cases e; exact fl x hx) len ?_
  · have := step x hx R h
    exact this
  · rw [show l.filterMap (fun x => some (f x)) = l.map f by simp]
    exact q
/-- a test, the element the item itself -/
theorem lc_filter (l : List α) (g : α → Val) (p : α → Bool) (step : ∀ x ∈ l, ∀ (R : Val → VEnv → Prop) (R' : VEnv → Prop), (if p x = true then R (g x) E0 else R' E0) → wg (g x) E0 fun env2 => wt env2 fun b env3 => if b = true then we env3 fun y env4 => R y (wipeE env4 vs) else R' (wipeE env3 vs))
    (fl : ∀ x ∈ l, (g x).flat = true) (len : l.length < 1000000) (q : Q (.lst ((l.filter p).map g)) E0) :
    ∃ I : Nat → List Val → VEnv → Prop, I 0 [] E0 ∧ (∀ i x acc env', (l.map g)[i]? = some x → I i acc env' → acc.length < 1000000 ∧ wg x env' fun env2 => wt env2 fun b env3 => if b = true then we env3 fun y env4 => y.flat = true ∧ I (i + 1) (acc ++ [y]) (wipeE env4 vs) else I (i + 1) acc (wipeE env3 vs)) ∧
      ∀ acc env', I (l.map g).length acc env' → app2 Q (.lst acc) env' := by
  refine lc_ex l g (fun x => if p x = true then some (g x) else none) (fun x hx R R' h => step x hx R R' ?_) (fun x hx y e => ?_) len ?_
  · cases hp : p x with
    | true =>
      rw [hp] at h
      exact iteT h
    | false =>
      rw [hp] at h
      exact iteF h
  · cases hp : p x with
    | true =>
      rw [hp] at e
      cases e
      exact fl x hx
    | false =>
      rw [hp] at e
      cases e
  · have e : l.filterMap (fun x => if p x = true then some (g x) else none) = (l.filter p).map g := by
      clear step fl len q
      induction l with
      | nil => rfl
      | cons a l ih =>
        cases hp : p a <;> simp [hp, ih]
    rw [e]
    exact q
end
theorem ifF {b : Bool} {A B : Prop} (h : b = false) (x : B) : if b = true then A else B := by
  rw [h]
  exact x
theorem ifT {b : Bool} {A B : Prop} (h : b = true) (x : A) : if b = true then A else B := by
  rw [h]
  exact x
/-! ### a list within an own tuple is changed -/
section
variable {c : Vc} {te : TE} {s e : List Nat} {f : Option (List Nat)} {we : VW}
end
/-! ### sorted(set of ints), any number of members up to a thousand -/
section
variable {P : Program} {w : World} {A : Around} {E : Value → Shared → Prop} {s : Shared} {a : Addr}
end
section
variable {c : Vc} {t : TE} {s e : List Nat} {f : Option (List Nat)} {w : VW}
end
/-! ### among whole numbers; a list taken apart -/
section
variable {c : Vc} {fx : List Nat}
def fIn (neg : Bool) : Val → Val → (Val → Prop) → Prop := fun d e Q => ∃ (i : Int) (ns : List Int), d = .int i ∧ e = .lst (ns.map Val.int) ∧ Q (.bl (neg != decide (i ∈ ns)))
theorem inV_ints (i : Int) : ∀ ns : List Int, L2.inV (.int i) (ns.map V.int) = decide (i ∈ ns)
  | [] => rfl
  | n :: ns => by
    show (L2.eqV (.int n) (.int i) || L2.inV (.int i) (ns.map V.int)) = _
    rw [inV_ints i ns, show L2.eqV (.int n) (.int i) = decide (n = i) from rfl, Bool.eq_iff_iff, Bool.or_eq_true, decide_eq_true_iff, decide_eq_true_iff, decide_eq_true_iff, List.mem_cons]
    exact ⟨fun h => h.imp Eq.symm id, fun h => h.imp Eq.symm id⟩
theorem all_flat_ints (ns : List Int) : (ns.map V.int).all L2.flatV = true := List.all_eq_true.mpr fun v hv => by
  obtain ⟨n, _, rfl⟩ := List.mem_map.mp hv
  rfl
theorem r2_inI {K : PySem.W.Frag} : R2S K (rIn K false) (fIn false) := fun H x y d e F G Q R h1 h2 h k => by
  obtain ⟨i, ns, rfl, rfl, h⟩ := h
  obtain ⟨l, e2, hl, _⟩ := h2.ints
  have ex := h1.int_eq
  subst ex e2
  refine ⟨l, ns.map V.int, rfl, .inl (SqL.of hl), rfl, all_flat_ints ns, ?_⟩
  rw [inV_ints]
  rw [Bool.false_bne] at h
  exact k _ _ (.bl _) h
theorem r2_notInI {K : PySem.W.Frag} : R2S K (rIn K true) (fIn true) := fun H x y d e F G Q R h1 h2 h k => by
  obtain ⟨i, ns, rfl, rfl, h⟩ := h
  obtain ⟨l, e2, hl, _⟩ := h2.ints
  have ex := h1.int_eq
  subst ex e2
  refine ⟨l, ns.map V.int, rfl, .inl (SqL.of hl), rfl, all_flat_ints ns, ?_⟩
  rw [inV_ints]
  rw [Bool.true_bne] at h
  exact k _ _ (.bl _) h
end
section
variable {c : Vc} {fx vs E ei et ee s s' : List Nat} {ti : TI} {wi : VWI} {g : TG} {wg : VWG} {tt : TT} {wt : VWT} {te : TE} {we : VW} {f' : Option (List Nat)}
/-- over an own list of flat items -/
def wLcF (wi : VWI) (wg : VWG) (wt : VWT) (we : VW) (vs : List Nat) : VW := fun env Q => wi env fun xs env1 => (∀ x ∈ xs, x.flat = true) ∧ ∃ I : Nat → List Val → VEnv → Prop, I 0 [] (wipeE env1 vs) ∧
  (∀ i x acc env', xs[i]? = some x → I i acc env' → acc.length < 1000000 ∧ wg x env' fun env2 => wt env2 fun b env3 => if b = true then we env3 fun y env4 => y.flat = true ∧ I (i + 1) (acc ++ [y]) (wipeE env4 vs) else I (i + 1) acc (wipeE env3 vs)) ∧
  ∀ acc env', I xs.length acc env' → app2 Q (.lst acc) env'
theorem simE_lcF (hi : SimI c ti s ei wi) (hg : SimG c fx g wg) (ht : SimT c tt et wt) (he : SimE c te s' f' ee we) (hvs : disj vs c.ms = true) (hfx : ((List.range (c.N + c.g)).all fun j => vs.contains j || fx.contains j) = true) (hs1 : sub (et ++ ee) c.ms = true) (hd : disj s (et ++ ee) = true) : SimE c (tLc ti g tt te vs) [] (some []) (ei ++ (et ++ ee)) (wLcF wi wg wt we vs) := ⟨fun env σ H Fs Q R S hw k =>
  hi.sim env σ H Fs _ _ S hw fun J xs env1 H1 Fs1 o it q D nD => by
    obtain ⟨fl, I, I0, step, fin⟩ := q
    have S1 := o.sr.wipe (vs := vs) hvs
    have o1 : Ok0 c (et ++ ee) (wipe σ vs) H1 (wipeF Fs1 vs) (wipeE env1 vs) H1 (wipeF Fs1 vs) := (Ok0.refl S1).weak (fun _ h => nomatch h) (sub_iff hs1)
    have ew : Eff c.ms [] Fs1 H1 (wipeF Fs1 vs) H1 := eff_wipe hvs
    refine ⟨fun i m H2 => m = xs.length - i ∧ i ≤ xs.length ∧ ∃ acc env2 Fs2 us, Ok0 c (et ++ ee) (wipe σ vs) H1 (wipeF Fs1 vs) env2 H2 Fs2 ∧ (∀ j, D ∉ Fs2 j) ∧ H2 D = some (.lst us) ∧ RpA c.K H2 [] us acc ∧ I i acc env2,
      ⟨xs.length, by simp, Nat.zero_le _, [], _, _, [], o1.grow (same_upd nD), fun j z => (S1.mutb j D z).ex nD, upd_same, .nil, I0⟩, ?_⟩
    rintro i m H2 ⟨rfl, hi2, acc, env2, Fs2, us, o2, nf, hD, ra, i2⟩
    by_cases hlt : i < xs.length
    · obtain ⟨x, hx⟩ : ∃ x, xs[i]? = some x := ⟨_, List.getElem?_eq_getElem hlt⟩
      obtain ⟨go, yl⟩ := (it _ H2 Fs2 (ew.trans o2.ef) hd i).1 x hx
      obtain ⟨alen, hstep⟩ := step i x acc env2 hx i2
      refine .inr ⟨go, fun H' => ∃ acc env2 Fs2 us, Ok0 c (et ++ ee) (wipe σ vs) H1 (wipeF Fs1 vs) env2 H' Fs2 ∧ (∀ j, D ∉ Fs2 j) ∧ H' D = some (.lst us) ∧ RpA c.K H' [] us acc ∧ I (i + 1) acc env2, fun H' hN => ⟨xs.length - (i + 1), by omega, rfl, hlt, hN⟩, fun v H3 hy => ?_⟩
      obtain ⟨sm, F, r, sr⟩ := yl v H3 hy
      have zF := r.flat (fl x (List.mem_of_getElem? hx))
      subst zF
      have ob : Ok0 c (et ++ ee) (wipe σ vs) H2 Fs2 env2 H2 Fs2 := (Ok0.refl o2.sr).weak (fun _ h => nomatch h) (sub_iff hs1)
      have keep : ∀ {env5 : VEnv} {H5 : Hp} {Fs5 : Fp}, Ok0 c (et ++ ee) (wipe σ vs) H2 Fs2 env5 H5 Fs5 → (∀ j, D ∉ Fs5 j) ∧ H5 D = some (.lst us) ∧ RpA c.K H5 [] us acc ∧ Ok0 c (et ++ ee) (wipe σ vs) H1 (wipeF Fs1 vs) env5 H5 Fs5 := fun {env5 H5 Fs5} o5 => by
        refine ⟨fun j z => ?_, o5.ef.kp.lst (fun z => ?_) hD, ra.kp o5.ef.kp (o2.sr.effm _) (fun _ h => nomatch h), (o2.trans o5).weak (fun j hj => (List.mem_append.mp hj).elim id id) (sub_iff hs1)⟩
        · by_cases hj : j ∈ c.ms
          · rcases o5.ef.foot j hj D z with y | y
            · exact nf j y
            · rw [hD] at y
              cases y
          · exact nf j (o5.vl j hj D z)
        · obtain ⟨j, _, y⟩ := List.mem_flatMap.mp z
          exact nf j y
      refine turn_sim hg ht he hvs hfx (List.all_eq_true.mpr fun j hj => by simpa using Or.inl hj) (List.all_eq_true.mpr fun j hj => by simpa using Or.inr hj) ob sm r .nil (R := fun y env5 => y.flat = true ∧ I (i + 1) (acc ++ [y]) env5) (R' := fun env5 => I (i + 1) acc env5) hstep ?_ ?_
      · rintro y d G env5 H5 Fs5 o5 r5 _ ⟨fl, q5⟩
        obtain ⟨nf5, hD5, ra5, o15⟩ := keep o5
        have z := r5.flat fl
        subst z
        have kD : Kp [D] H5 (upd H5 D (.lst (us ++ [y]))) := Kp.upd List.mem_cons_self
        have mD : ∀ a ∈ [D], Mutb H5 a := fun a ha => by
          rw [List.mem_singleton.mp ha]
          exact .inl ⟨_, hD5⟩
        have ef : Eff c.ms (et ++ ee) (wipeF Fs1 vs) H1 Fs5 (upd H5 D (.lst (us ++ [y]))) := o15.ef.side nD
        refine ⟨us, hD5, small_lt (by rw [ra5.len]; omega), acc ++ [d], env5, Fs5, us ++ [y], ⟨o15.sr.side (mD D List.mem_cons_self) nf5 (S1.xk.eff ef), ef, o15.vl⟩, nf5, upd_same, ?_, q5⟩
        have := (ra5.app (RpA.one r5)).kp kD mD (fun _ h => nomatch h)
        exact this
      · intro env5 H5 Fs5 o5 q5
        obtain ⟨nf5, hD5, ra5, o15⟩ := keep o5
        exact ⟨acc, env5, Fs5, us, o15, nf5, hD5, ra5, q5⟩
    · have e0 : i = xs.length := by omega
      subst e0
      refine .inl ⟨(it _ H2 Fs2 (ew.trans o2.ef) hd _).2 (Nat.le_refl _), ?_⟩
      have ef := o.ef.trans (ew.trans o2.ef)
      refine k _ _ [D] env2 H2 Fs2 ⟨o2.sr.unwipe, ef, fun j hj a ha => o.vl j hj a (wipeF_sub (o2.vl j hj a ha))⟩ (.lst hD ra) (fun a ha j hj _ => by rw [List.mem_singleton.mp ha]; exact nf j) (fun mv e => ?_) (fin acc env2 i2)
      cases e
      exact ⟨by simp, fun a ha => .inl (by rw [List.mem_singleton.mp ha]; exact o.ef.gr D nD)⟩⟩
end
/-! ### how many in a set of whole numbers -/
section
variable {c : Vc} {t : TE} {w : VW} {s e : List Nat} {f : Option (List Nat)}
def wLenSet (w : VW) : VW := fun env Q => w env fun d env' => ∃ ns : List Int, d = .lst (ns.map Val.int) ∧ ns.length ≤ 1000 ∧ ∀ ds : List Int, ds.Nodup → (∀ k, k ∈ ds ↔ k ∈ ns) → Q (.int (ds.length : Nat)) env'
theorem simE_lenSet (h : SimE c t s f e w) : SimE c (tLenSet c.K t) [] (some []) e (wLenSet w) := ⟨fun env σ H Fs Q R S hw k =>
  h.sim env σ H Fs _ _ S hw fun v d F env1 H1 Fs1 o1 r1 s1 _ q1 => by
    obtain ⟨ns, rfl, hl, q⟩ := q1
    obtain ⟨l, e2, hl2, _⟩ := r1.ints
    subst e2
    refine ⟨l, ns, rfl, SqL.of hl2, hl, fun ds nd mem => ?_⟩
    exact k _ _ [] env1 H1 Fs1 o1 (.int _) .nil (fun mv z => by cases z; exact ⟨List.nodup_nil, fun _ h => nomatch h⟩) (q ds nd mem)⟩
end
/-! ### x.insert(a, e), over values -/
section
variable {X : Cx}
end
section
variable {c : Vc} {ta te : TE} {wa we : VW} {s s2 e e2 : List Nat} {f f2 : Option (List Nat)}
end
/-! ### all of a generator expression whose items leave the slots as they are; small things -/
section
variable {α : Type} {wg : VWG} {we : VW} {vs : List Nat} {Q : Val → VEnv → Prop} {E0 : VEnv}
theorem gxv_all (l : List α) (g : α → Val) (p : α → Bool) (step : ∀ x ∈ l, ∀ (R : Val → VEnv → Prop), R (.bl (p x)) E0 → wg (g x) E0 fun env2 => we env2 fun y env4 => R y (wipeE env4 vs)) (q : Q (.bl (l.all p)) E0) :
    ∃ I : Nat → Unit → VEnv → Prop, I 0 () E0 ∧ (∀ i x a env', (l.map g)[i]? = some x → I i a env' → wg x env' fun env2 => wYes env2 fun b env3 => if b = true then we env3 fun y env4 => vAll.step a y (fun a' => I (i + 1) a' (wipeE env4 vs)) (fun u => app2 Q u (wipeE env4 vs)) else I (i + 1) a (wipeE env3 vs)) ∧
      ∀ a env', I (l.map g).length a env' → vAll.fin a fun u => app2 Q u env' := by
  refine ⟨fun i _ env => env = E0 ∧ (l.take i).all p = true, ⟨rfl, rfl⟩, ?_, ?_⟩
  · rintro i x a env' hx ⟨rfl, ih⟩
    rw [List.getElem?_map] at hx
    obtain ⟨a, ha, rfl⟩ := Option.map_eq_some_iff.mp hx
    have ma := List.mem_of_getElem? ha
    have tk : l.take (i + 1) = l.take i ++ [a] := by
      rw [List.take_add_one, ha]
      rfl
    have := step a ma (fun y env5 => vAll.step () y (fun _ => env5 = env' ∧ (l.take (i + 1)).all p = true) (fun u => app2 Q u env5)) ?_
    · exact this
    · cases hp : p a with
      | true =>
        refine ⟨rfl, ?_⟩
        rw [tk, List.all_append, ih, List.all_cons, hp]
        rfl
      | false =>
        have e : l.all p = false := List.all_eq_false.mpr ⟨a, ma, by rw [hp]; decide⟩
        rw [e] at q
        exact q
  · rintro a env' ⟨rfl, ih⟩
    rw [List.length_map, List.take_length] at ih
    rw [ih] at q
    exact q
end
theorem eqv_nilD {α : Type} (f : α → Val) (l : List α) : PyData.eqv (Val.toD (.lst (l.map f))) (Val.toD (.lst [])) = l.isEmpty := by
  cases l with
  | nil => rfl
  | cons x r => rfl
theorem eqv_okD {d : Val} (h : d.okD) : PyData.eqv d.toD d.toD = true := PySem.SeqAt.eqv_refl _ (SeqAt.canLay_of_shaped h.2)
theorem okD_span (s : Span) : (spV s).okD := ⟨rfl, rfl⟩
theorem eqv_spV (s t : Span) : PyData.eqv (spV s).toD (spV t).toD = decide (s = t) := eqv_span s t
theorem flatI (l : List Int) : Val.flatAll (l.map Val.int) = true := flat_map Val.int (fun _ => rfl) l
theorem j1I (a : List Int) (d : Int) : a.map Val.int ++ [Val.int d] = (a ++ [d]).map Val.int := by
  rw [List.map_append]
  rfl
theorem cutL_map {α β : Type} (f : α → β) (l : List α) (a b : Option Int) : cutL (l.map f) a b = (cutL l a b).map f := by
  unfold cutL
  rw [List.length_map, List.map_take, List.map_drop]
theorem cutL_len {α : Type} (l : List α) (a b : Option Int) : (cutL l a b).length ≤ l.length := by
  unfold cutL
  rw [List.length_take, List.length_drop]
  omega
theorem isi_bl {n : String} {b : Bool} {i : Bool} {Q : Val → Prop} (h : kitB "bool" n = some b) (q : Q (.bl b)) : gIsi [.bl i, .ty n] Q := by
  show (match kitB "bool" n with
    | some b => Q (.bl b)
    | none => False)
  rw [h]
  exact q
theorem nodup_le {α : Type} [DecidableEq α] : ∀ {a b : List α}, a.Nodup → (∀ x ∈ a, x ∈ b) → a.length ≤ b.length
  | [], _, _, _ => Nat.zero_le _
  | x :: a, b, h, m => by
    obtain ⟨h1, h2⟩ := List.nodup_cons.mp h
    have := nodup_le (a := a) (b := b.erase x) h2 fun y hy => (List.mem_erase_of_ne fun z => h1 (by rw [← z]; exact hy)).mpr (m y (List.mem_cons_of_mem _ hy))
    have hx := m x List.mem_cons_self
    rw [List.length_erase_of_mem hx] at this
    have := List.length_pos_of_mem hx
    show a.length + 1 ≤ b.length
    omega
/-! ### dicts of whole numbers, over values -/
def lookI (m : List (Int × Int)) (k : Int) : Option Int := (m.find? fun p => decide (p.1 = k)).map (·.2)
def putI (m : List (Int × Int)) (k v : Int) : List (Int × Int) := if (m.any fun p => decide (p.1 = k)) = true then m.map (fun p => if p.1 = k then (p.1, v) else p) else m ++ [(k, v)]
def diE (p : Int × Int) : Key × Val := (.inl p.1, .int p.2)
def diU (p : Int × Int) : Key × V := (.inl p.1, .int p.2)
def diV (m : List (Int × Int)) : Val := .dic (m.map diE)
theorem look_u (m : List (Int × Int)) (k : Int) : valV (m.map diU) (.inl k) = (lookI m k).map V.int := by
  induction m with
  | nil => rfl
  | cons p r ih =>
    by_cases e : p.1 = k
    · rw [List.map_cons, valV_pos (by show (Sum.inl p.1 : Key) = _; rw [e])]
      unfold lookI
      rw [List.find?_cons_of_pos (by simpa using e)]
      rfl
    · rw [List.map_cons, valV_neg (by show ¬ (Sum.inl p.1 : Key) = _; exact fun z => e (Sum.inl.inj z)), ih]
      unfold lookI
      rw [List.find?_cons_of_neg (by simpa using e)]
theorem put_u (m : List (Int × Int)) (k v : Int) : putK (m.map diU) (.inl k) (.int v) = (putI m k v).map diU := by
  have e1 : ((m.map diU).any fun kv => decide (kv.1 = (Sum.inl k : Key))) = (m.any fun p => decide (p.1 = k)) := by
    rw [List.any_map]
    congr 1
    funext p
    show decide ((Sum.inl p.1 : Key) = Sum.inl k) = decide (p.1 = k)
    by_cases e : p.1 = k
    · rw [decide_eq_true e, decide_eq_true (by rw [e])]
    · rw [decide_eq_false e, decide_eq_false fun z => e (Sum.inl.inj z)]
  unfold putK putI
  rw [e1]
  split
  · rw [List.map_map, List.map_map]
    refine List.map_congr_left fun p _ => ?_
    show (if (Sum.inl p.1 : Key) = Sum.inl k then (_, V.int v) else diU p) = diU (if p.1 = k then (p.1, v) else p)
    by_cases e : p.1 = k
    · rw [if_pos e, if_pos (by rw [e])]
      rfl
    · rw [if_neg e, if_neg fun z => e (Sum.inl.inj z)]
  · rw [List.map_append]
    rfl
theorem putI_len (m : List (Int × Int)) (k v : Int) : (putI m k v).length ≤ m.length + 1 := by
  unfold putI
  split
  · rw [List.length_map]
    omega
  · rw [List.length_append]
    exact Nat.le_refl _
theorem look_put (m : List (Int × Int)) (k v k' : Int) : lookI (putI m k v) k' = if k' = k then some v else lookI m k' := by
  unfold putI
  split
  · rename_i h
    have key : ∀ m : List (Int × Int), lookI (m.map fun p => if p.1 = k then (p.1, v) else p) k' = if k' = k then (if (m.any fun p => decide (p.1 = k)) = true then some v else none) else lookI m k' := by
      intro m
      induction m with
      | nil => split <;> rfl
      | cons p r ih =>
        rw [List.map_cons]
        by_cases e : p.1 = k
        · rw [if_pos e]
          by_cases e2 : k' = k
          · rw [if_pos e2, List.any_cons, decide_eq_true e]
            unfold lookI
            rw [List.find?_cons_of_pos (by simp [e, e2])]
            rfl
          · have n1 : ¬ p.1 = k' := fun z => e2 (z.symm.trans e)
            rw [if_neg e2] at ih ⊢
            unfold lookI at ih ⊢
            rw [List.find?_cons_of_neg (by simpa using n1), List.find?_cons_of_neg (by simpa using n1), ih]
        · rw [if_neg e]
          by_cases e3 : p.1 = k'
          · have e2 : ¬ k' = k := fun z => e (e3.trans z)
            rw [if_neg e2]
            unfold lookI
            rw [List.find?_cons_of_pos (by simpa using e3), List.find?_cons_of_pos (by simpa using e3)]
          · unfold lookI at ih ⊢
            rw [List.find?_cons_of_neg (by simpa using e3), List.find?_cons_of_neg (by simpa using e3), ih, List.any_cons, decide_eq_false e, Bool.false_or]
    rw [key, h]
    rfl
  · rename_i h
    have h : (m.any fun p => decide (p.1 = k)) = false := Bool.eq_false_iff.mpr h
    have key : ∀ m : List (Int × Int), (m.any fun p => decide (p.1 = k)) = false → lookI (m ++ [(k, v)]) k' = if k' = k then some v else lookI m k' := by
      intro m
      induction m with
      | nil =>
        intro _
        show lookI [(k, v)] k' = _
        unfold lookI
        by_cases e2 : k' = k
        · rw [if_pos e2, List.find?_cons_of_pos (by simp [e2])]
          rfl
        · rw [if_neg e2, List.find?_cons_of_neg (by simpa using fun z => e2 z.symm)]
      | cons p r ih =>
        intro hn
        rw [List.any_cons, Bool.or_eq_false_iff] at hn
        have ih := ih hn.2
        have e : ¬ p.1 = k := of_decide_eq_false hn.1
        rw [List.cons_append]
        by_cases e3 : p.1 = k'
        · have e2 : ¬ k' = k := fun z => e (e3.trans z)
          rw [if_neg e2]
          unfold lookI
          rw [List.find?_cons_of_pos (by simpa using e3), List.find?_cons_of_pos (by simpa using e3)]
        · unfold lookI at ih ⊢
          rw [List.find?_cons_of_neg (by simpa using e3), ih]
          split
          · rfl
          · rw [List.find?_cons_of_neg (by simpa using e3)]
    exact key m h
theorem rpd_of {K : PySem.W.Frag} {H : Hp} : ∀ m : List (Int × Int), RpD K H [] (m.map diU) (m.map diE)
  | [] => .nil
  | p :: r => RpD.cons (F := []) (.int p.2) (rpd_of r)
theorem rpd_is {K : PySem.W.Frag} {H : Hp} : ∀ {m : List (Int × Int)} {F : List Addr} {kvs : List (Key × V)}, RpD K H F kvs (m.map diE) → F = [] ∧ kvs = m.map diU
  | [], _, _, h => by
    cases h
    exact ⟨rfl, rfl⟩
  | p :: r, _, _, h => by
    cases h with
    | cons a t =>
      obtain ⟨e1, e2⟩ := rpd_is (m := r) t
      have e3 := a.int_eq
      have e4 := a.flat rfl
      subst e1 e2 e3 e4
      exact ⟨rfl, rfl⟩
theorem Rp.asD {K : PySem.W.Frag} {H : Hp} {F : List Addr} {v : V} {m : List (Int × Int)} (h : Rp K H F v (diV m)) : ∃ a, v = .ref a ∧ H a = some (.dK (m.map diU)) ∧ F = [a] := by
  generalize hd : diV m = d at h
  cases h with
  | dic h r =>
    unfold diV at hd
    cases hd
    obtain ⟨e1, e2⟩ := rpd_is r
    subst e1 e2
    exact ⟨_, rfl, h, rfl⟩
  | _ => cases hd
section
variable {c : Vc} {ta tb t : TE} {sa sb s : List Nat} {fa fb f : Option (List Nat)} {ea eb e : List Nat} {wa wb w : VW}
theorem new_dic {σ : L2.St} {H H1 : Hp} {Fs Fs1 : Fp} {env1 : VEnv} {e : List Nat} {Q : VK} {R : Val → VEnv → Prop} (k : ∀ v d F env' H' Fs', Ok0 c e σ H Fs env' H' Fs' → Rp c.K H' F v d → Src c.ms [] F Fs' → Frs (some []) H Fs' F → R d env' → Q v H') (o : Ok0 c e σ H Fs env1 H1 Fs1) (m : List (Int × Int)) {p : Addr} (np : H1 p = none) (q : R (diV m) env1) : Q (.ref p) (upd H1 p (.dK (m.map diU))) := by
  obtain ⟨gp, sp⟩ := upd_at (o := .dK (m.map diU)) np
  refine k _ _ [p] env1 _ Fs1 (o.grow sp) (.dic gp (rpd_of m)) (fun a ha j hj _ z => ?_) (fun mv e => ?_) q
  · rw [List.mem_singleton.mp ha] at z
    exact (o.sr.mutb j p z).ex np
  · cases e
    exact ⟨by simp, fun a ha => .inl (by rw [List.mem_singleton.mp ha]; exact o.ef.gr p np)⟩
def wDNew : VW := fun env Q => Q (diV []) env
theorem simE_dnew : SimE c tDNewK [] (some []) [] wDNew := ⟨fun env σ H Fs Q R S hw k p np => new_dic k (Ok0.refl S) [] np hw⟩
def wDix (wa wb : VW) : VW := fun env Q => wa env fun x env1 => wb env1 fun y env2 => ∃ m i v, x = diV m ∧ y = .int i ∧ lookI m i = some v ∧ Q (.int v) env2
theorem simE_dix (ha : SimE c ta sa fa ea wa) (hb : SimE c tb sb fb eb wb) (hd : disj sa eb = true) : SimE c (tDGet ta tb) [] (some []) (ea ++ eb) (wDix wa wb) := ⟨fun env σ H Fs Q R S h k =>
  ha.sim env σ H Fs _ _ S h fun x d F env1 H1 Fs1 o1 r1 s1 f1 h1 => hb.sim env1 σ H1 Fs1 _ _ o1.sr h1 fun y e G env2 H2 Fs2 o2 r2 s2 f2 h2 => by
    obtain ⟨r1', s1'⟩ := r1.eff o1.sr o2.ef s1 hd
    obtain ⟨m, i, v, rfl, rfl, hl, q⟩ := h2
    obtain ⟨a, rfl, hH, _⟩ := r1'.asD
    have ey := r2.int_eq
    subst ey
    refine ⟨a, .int v, rfl, ?_, k _ _ [] env2 H2 Fs2 (o1.trans o2) (.int v) .nil .nil q⟩
    have := DGet.k (k := .inl i) hH
    rw [look_u, hl] at this
    exact this⟩
def wDIn (neg : Bool) (wa wb : VW) : VW := fun env Q => wa env fun y env1 => wb env1 fun x env2 => ∃ m i, x = diV m ∧ y = .int i ∧ Q (.bl (neg != (lookI m i).isSome)) env2
theorem simE_din (ha : SimE c ta sa fa ea wa) (hb : SimE c tb sb fb eb wb) (hd : disj sa eb = true) : SimE c (tDIn ta tb) [] (some []) (ea ++ eb) (wDIn false wa wb) := ⟨fun env σ H Fs Q R S h k =>
  ha.sim env σ H Fs _ _ S h fun y d F env1 H1 Fs1 o1 r1 s1 f1 h1 => hb.sim env1 σ H1 Fs1 _ _ o1.sr h1 fun x e G env2 H2 Fs2 o2 r2 s2 f2 h2 => by
    obtain ⟨r1', s1'⟩ := r1.eff o1.sr o2.ef s1 hd
    obtain ⟨m, i, rfl, rfl, q⟩ := h2
    obtain ⟨a, rfl, hH, _⟩ := r2.asD
    have ey := r1'.int_eq
    subst ey
    have := DGet.k (k := .inl i) hH
    rw [look_u] at this
    refine ⟨a, _, rfl, this, k _ _ [] env2 H2 Fs2 (o1.trans o2) (.bl _) .nil .nil ?_⟩
    rw [Bool.false_bne] at q
    rw [Option.isSome_map]
    exact q⟩
theorem simE_dnin (ha : SimE c ta sa fa ea wa) (hb : SimE c tb sb fb eb wb) (hd : disj sa eb = true) : SimE c (tDNotIn ta tb) [] (some []) (ea ++ eb) (wDIn true wa wb) := ⟨fun env σ H Fs Q R S h k =>
  ha.sim env σ H Fs _ _ S h fun y d F env1 H1 Fs1 o1 r1 s1 f1 h1 => hb.sim env1 σ H1 Fs1 _ _ o1.sr h1 fun x e G env2 H2 Fs2 o2 r2 s2 f2 h2 => by
    obtain ⟨r1', s1'⟩ := r1.eff o1.sr o2.ef s1 hd
    obtain ⟨m, i, rfl, rfl, q⟩ := h2
    obtain ⟨a, rfl, hH, _⟩ := r2.asD
    have ey := r1'.int_eq
    subst ey
    have := DGet.k (k := .inl i) hH
    rw [look_u] at this
    refine ⟨a, _, rfl, this, k _ _ [] env2 H2 Fs2 (o1.trans o2) (.bl _) .nil .nil ?_⟩
    rw [Bool.true_bne] at q
    rw [Option.isSome_map]
    exact q⟩
end
theorem Sr.ownD {c : Vc} {env : VEnv} {σ : L2.St} {H : Hp} {Fs : Fp} (S : Sr c env σ H Fs) {i : Nat} (hB : i < c.N) {m : List (Int × Int)} (he : env[i]? = some (some (diV m))) : ∃ l, σ[i]? = some (some (.ref l)) ∧ H l = some (.dK (m.map diU)) ∧ Fs i = [l] := by
  obtain ⟨v, hv, r⟩ := S.at_ i _ he
  have hv := hv.1 hB
  obtain ⟨l, e, h1, h3⟩ := r.asD
  subst e
  exact ⟨l, hv, h1, h3⟩
theorem mutD {c : Vc} {env : VEnv} {σ : L2.St} {H : Hp} {Fs : Fp} {i : Nat} {d0 : Val} {l : Addr} (m : List (Int × Int)) (S : Sr c env σ H Fs) (hB : i < c.N) (hi : i ∈ c.ms) (he : env[i]? = some (some d0)) (hv : σ[i]? = some (some (.ref l))) (hF : Fs i = [l]) : Ok0 c [i] σ H Fs (env.set i (some (diV m))) (upd H l (.dK (m.map diU))) (upF Fs i [l]) :=
  mutO S hB hi he hv hF (List.Sublist.refl []) (.dic upd_same (rpd_of m))
section
variable {c : Vc} {te ti tj : TE} {s e s' e' s'' e'' : List Nat} {f f' f'' : Option (List Nat)} {we wi wj : VW} {fx lo E : List Nat}
/-- x[k] = e of a dict -/
def wDset (i : Nat) (we wi : VW) : VWS := fun R env => we env fun d env1 => ∃ m0, env1[i]? = some (some (diV m0)) ∧ wi env1 fun k env2 => ∃ m j v, env2[i]? = some (some (diV m)) ∧ k = .int j ∧ d = .int v ∧ m.length < 1000000 ∧ R.nx (env2.set i (some (diV (putI m j v))))
theorem simS_dset {i : Nat} (h : SimE c te s f e we) (h2 : SimE c ti s' f' e' wi) (hm : c.ms.contains i = true) (he : sub e E = true) (he' : sub e' E = true) (hi : E.contains i = true) (hE : sub E c.ms = true) (hB : Nat.blt i c.N = true := by rfl) : SimS c fx lo E (tAsg te (gSub (tVar i) ti rSetD)) (wDset i we wi) := ⟨fun env σ H Fs D R S hw n b ct rt =>
  h.sim env σ H Fs _ _ S hw fun v d F env1 H1 Fs1 o r sr fr q => by
    have hm : i ∈ c.ms := by simpa using hm
    have hi : i ∈ E := by simpa using hi
    obtain ⟨m0, he0, q⟩ := q
    obtain ⟨l, hv, hl0, _⟩ := o.sr.ownD (lt_of_blt hB) he0
    refine ⟨_, hv, h2.sim env1 σ H1 Fs1 _ _ o.sr q fun y d2 F2 env2 H2 Fs2 o2 r2 sr2 fr2 q0 => ?_⟩
    obtain ⟨m, j, x, he2, rfl, rfl, ml, q2⟩ := q0
    obtain ⟨l', hv', hl, hF⟩ := o2.sr.ownD (lt_of_blt hB) he2
    rw [hv] at hv'
    cases hv'
    have ey := r2.int_eq
    have ev := r.int_eq
    subst ey ev
    have o3 := mutD (putI m j x) o2.sr (lt_of_blt hB) hm he2 hv hF
    refine ⟨l, _, rfl, DPut.k (k := .inl j) hl (small_lt (by rw [List.length_map]; omega)), ?_⟩
    rw [put_u]
    refine n _ _ _ _ (((o.trans o2).trans o3).ok2 ?_ hE) q2
    exact List.all_eq_true.mpr fun x hx => by
      rcases List.mem_append.mp hx with hx | hx
      · rcases List.mem_append.mp hx with hx | hx
        · simpa using sub_iff he x hx
        · simpa using sub_iff he' x hx
      · rw [List.mem_singleton.mp hx]
        simpa using hi⟩
end
section
variable {c : Vc} {ta tb : TE} {sa sb : List Nat} {fa fb : Option (List Nat)} {wa wb : VW}
end
section
variable {c : Vc} {te ti tj : TE} {s s' s'' e : List Nat} {f f' f'' : Option (List Nat)} {we wi wj : VW} {fx lo E : List Nat} {n2 : Nat}
end
/-! ### min of a generator expression -/
section
open GenW
section
variable {Z : Cx} {ga : Addr} {g : Nat} {Q : VK} {A : Around} {Rf : Result → Shared → Prop}
end
section
variable {X : Cx} {c P : Addr} {elt tg iter : Expr} {ifs : List Expr} {scope : Scope} {own : List (Str × Nat)} {gpos p pos : Pos} {k : Nat} {wi : TI} {g : TG} {tt : TT} {te : TE}
end
end
/-! ### the least of pairs -/
section
variable {X : Cx}
end
/-! ### min of a generator expression, the least of pairs, over values -/
section
variable {c : Vc}
end
/-! ### comprehensions of new lists, lists of lists joined -/
section
variable {c : Vc} {fx vs E et ee s' : List Nat} {g : TG} {wg : VWG} {tt : TT} {wt : VWT} {te : TE} {we : VW} {f' : Option (List Nat)}
theorem turn_simN {σ : L2.St} {H1 H2 H3 : Hp} {Fs1 Fs2 : Fp} {env2 : VEnv} {v : V} {x : Val} {F : List Addr} {P : V → Hp → Prop} {P' : Hp → Prop} {R : Val → VEnv → Prop} {R' : VEnv → Prop}
    (hg : SimG c fx g wg) (ht : SimT c tt et wt) (he : SimE c te s' (some []) ee we) (hvs : disj vs c.ms = true) (hfx : ((List.range (c.N + c.g)).all fun j => vs.contains j || fx.contains j) = true) (he1 : sub et E = true) (he2 : sub ee E = true)
    (o : Ok0 c E (wipe σ vs) H1 Fs1 env2 H2 Fs2) (sm : Same H2 H3) (r : Rp c.K H3 F v x) (sr : Src c.ms [] F Fs2) (hw : wg x env2 fun env3 => wt env3 fun b env4 => if b = true then we env4 fun y env5 => R y (wipeE env5 vs) else R' (wipeE env4 vs))
    (k : ∀ y d G env5 H5 Fs5, Ok0 c E (wipe σ vs) H1 Fs1 env5 H5 Fs5 → Rp c.K H5 G y d → Src c.ms s' G Fs5 → (∀ a ∈ G, H2 a = none) → R d env5 → P y H5) (k' : ∀ env5 H5 Fs5, Ok0 c E (wipe σ vs) H1 Fs1 env5 H5 Fs5 → R' env5 → P' H5) :
    g v (wipe σ vs) H3 fun σ4 H4 => wipe σ4 vs = wipe σ vs ∧ tt σ4 H4 fun b H5 => if b = true then te σ4 H5 P else P' H5 := by
  have o3 := o.grow sm
  have S3 := o3.sr
  refine hg.sim v x F env2 (wipe σ vs) H3 Fs2 _ _ S3 r sr hw fun env4 σ4 Fs4 S4 e4 f4 q4 => ?_
  have ew : wipe σ4 vs = wipe σ vs := by
    have e0 : wipe σ4 vs = wipe (wipe σ vs) vs := by
      refine wipe_ext (by rw [S4.ls, S3.ls]) fun j hj => ?_
      by_cases hN : j < c.N + c.g
      · have := List.all_eq_true.mp hfx j (List.mem_range.mpr hN)
        rw [Bool.or_eq_true] at this
        rcases this with z | z
        · exact absurd (by simpa using z) hj
        · exact (f4 j (by simpa using z)).1
      · rw [List.getElem?_eq_none (by rw [S4.ls]; omega), List.getElem?_eq_none (by rw [S3.ls]; omega)]
    rw [e0]
    exact wipe_ext (by rw [wipe_length]) fun j hj => wipe_get hj
  have val : ∀ {e' : List Nat} {env5 : VEnv} {H5 : Hp} {Fs5 : Fp}, (∀ j ∈ e', j ∈ E) → Ok0 c e' σ4 H3 Fs4 env5 H5 Fs5 → Ok0 c E (wipe σ vs) H1 Fs1 (wipeE env5 vs) H5 (wipeF Fs5 vs) := fun {e' env5 H5 Fs5} hs o5 => by
    have S5 := o5.sr.wipe (vs := vs) hvs
    rw [ew] at S5
    have ef4 : Eff c.ms [] Fs2 H3 Fs4 H3 := ⟨(fun _ h => nomatch h), Kp.refl _ _, fun _ h => h, fun j hj _ => e4 j hj, fun j hj a ha => .inl (by rw [← e4 j hj]; exact ha)⟩
    refine ⟨S5, (((o3.ef.trans ef4).trans o5.ef).trans (eff_wipe hvs)).mono (fun j hj => ?_) o.ef.sub, fun j hj a ha => ?_⟩
    · simp only [List.append_nil, List.mem_append] at hj
      exact hj.elim id (hs j)
    · have a5 := o5.vl j hj a (wipeF_sub ha)
      -- a slot that is neither own nor of the block stands as it stood
      by_cases hv : j ∈ vs
      · unfold wipeF at ha
        rw [if_pos hv] at ha
        cases ha
      · by_cases hN : j < c.N + c.g
        · have h0 := List.all_eq_true.mp hfx j (List.mem_range.mpr hN)
          rw [Bool.or_eq_true] at h0
          have hjf : j ∈ fx := h0.elim (fun z => absurd (by simpa using z) hv) fun z => by simpa using z
          rw [(f4 j hjf).2] at a5
          exact o3.vl j hj a a5
        · rw [S4.emp j fun d hd => by
            have := (List.getElem?_eq_some_iff.mp hd).1
            rw [S4.le] at this
            omega] at a5
          cases a5
  refine ⟨ew, ht.sim env4 σ4 H3 Fs4 _ _ S4 q4 fun b env5 H5 Fs5 o5 q5 => ?_⟩
  cases b with
  | true =>
    refine iteT (he.sim env5 σ4 H5 Fs5 _ _ o5.sr q5 fun y d G env6 H6 Fs6 o6 r6 s6 fr6 q6 => ?_)
    refine k y d G _ H6 _ (val (fun j hj => (List.mem_append.mp hj).elim (sub_iff he1 j) (sub_iff he2 j)) (o5.trans o6)) r6 (fun a ha j hj n z => s6 a ha j hj n (wipeF_sub z)) (fun a ha => by
      rcases (fr6 [] rfl).2 a ha with z | ⟨j, hj, _⟩
      · exact sm.free (o5.ef.gr a z)
      · cases hj) q6
  | false => exact iteF (k' _ H5 _ (val (sub_iff he1) o5) q5)
end
section
variable {c : Vc} {fx vs ei : List Nat} {ti : TI} {wi : VWI} {g : TG} {wg : VWG} {tt : TT} {wt : VWT} {te : TE} {we : VW}
def wLcN (wi : VWI) (wg : VWG) (wt : VWT) (we : VW) (vs : List Nat) : VW := fun env Q => wi env fun xs env1 => ∃ I : Nat → List Val → VEnv → Prop, I 0 [] (wipeE env1 vs) ∧
  (∀ i x acc env', xs[i]? = some x → I i acc env' → acc.length < 1000000 ∧ wg x env' fun env2 => wt env2 fun b env3 => if b = true then we env3 fun y env4 => I (i + 1) (acc ++ [y]) (wipeE env4 vs) else I (i + 1) acc (wipeE env3 vs)) ∧
  ∀ acc env', I xs.length acc env' → app2 Q (.lst acc) env'
theorem simE_lcN (hi : SimI c ti [] ei wi) (hg : SimG c fx g wg) (ht : SimT c tt [] wt) (he : SimE c te [] (some []) [] we) (hvs : disj vs c.ms = true) (hfx : ((List.range (c.N + c.g)).all fun j => vs.contains j || fx.contains j) = true) : SimE c (tLc ti g tt te vs) [] none (ei ++ []) (wLcN wi wg wt we vs) := ⟨fun env σ H Fs Q R S hw k =>
  hi.sim env σ H Fs _ _ S hw fun J xs env1 H1 Fs1 o it q D nD => by
    obtain ⟨I, I0, step, fin⟩ := q
    have S1 := o.sr.wipe (vs := vs) hvs
    have o1 : Ok0 c [] (wipe σ vs) H1 (wipeF Fs1 vs) (wipeE env1 vs) H1 (wipeF Fs1 vs) := Ok0.refl S1
    have ew : Eff c.ms [] Fs1 H1 (wipeF Fs1 vs) H1 := eff_wipe hvs
    refine ⟨fun i m H2 => m = xs.length - i ∧ i ≤ xs.length ∧ ∃ acc env2 Fs2 us F, Ok0 c [] (wipe σ vs) H1 (wipeF Fs1 vs) env2 H2 Fs2 ∧ (∀ j, D ∉ Fs2 j) ∧ H2 D = some (.lst us) ∧ RpA c.K H2 F us acc ∧ D ∉ F ∧ Src c.ms [] F Fs2 ∧ I i acc env2,
      ⟨xs.length, by simp, Nat.zero_le _, [], _, _, [], [], o1.grow (same_upd nD), fun j z => (S1.mutb j D z).ex nD, upd_same, .nil, (fun h => nomatch h), .nil, I0⟩, ?_⟩
    rintro i m H2 ⟨rfl, hi2, acc, env2, Fs2, us, F0, o2, nf, hD, ra, nDF, sF, i2⟩
    by_cases hlt : i < xs.length
    · obtain ⟨x, hx⟩ : ∃ x, xs[i]? = some x := ⟨_, List.getElem?_eq_getElem hlt⟩
      obtain ⟨go, yl⟩ := (it _ H2 Fs2 (ew.trans o2.ef) rfl i).1 x hx
      obtain ⟨alen, hstep⟩ := step i x acc env2 hx i2
      refine .inr ⟨go, fun H' => ∃ acc env2 Fs2 us F, Ok0 c [] (wipe σ vs) H1 (wipeF Fs1 vs) env2 H' Fs2 ∧ (∀ j, D ∉ Fs2 j) ∧ H' D = some (.lst us) ∧ RpA c.K H' F us acc ∧ D ∉ F ∧ Src c.ms [] F Fs2 ∧ I (i + 1) acc env2, fun H' hN => ⟨xs.length - (i + 1), by omega, rfl, hlt, hN⟩, fun v H3 hy => ?_⟩
      obtain ⟨sm, F, r, sr⟩ := yl v H3 hy
      have ob : Ok0 c [] (wipe σ vs) H2 Fs2 env2 H2 Fs2 := Ok0.refl o2.sr
      have keep : ∀ {env5 : VEnv} {H5 : Hp} {Fs5 : Fp}, Ok0 c [] (wipe σ vs) H2 Fs2 env5 H5 Fs5 → (∀ j, D ∉ Fs5 j) ∧ H5 D = some (.lst us) ∧ RpA c.K H5 F0 us acc ∧ Src c.ms [] F0 Fs5 ∧ Ok0 c [] (wipe σ vs) H1 (wipeF Fs1 vs) env5 H5 Fs5 := fun {env5 H5 Fs5} o5 => by
        refine ⟨fun j z => ?_, o5.ef.kp.lst (fun z => by simp at z) hD, ra.kp o5.ef.kp (fun a ha => by simp at ha) (fun a _ z => by simp at z), fun a ha j hj n z => ?_, o2.trans o5⟩
        · by_cases hj : j ∈ c.ms
          · rw [o5.ef.out j hj (by simp)] at z
            exact nf j z
          · exact nf j (o5.vl j hj D z)
        · rw [o5.ef.out j hj (by simp)] at z
          exact sF a ha j hj n z
      refine turn_simN hg ht he hvs hfx rfl rfl ob sm r sr (R := fun y env5 => I (i + 1) (acc ++ [y]) env5) (R' := fun env5 => I (i + 1) acc env5) hstep ?_ ?_
      · rintro y d G env5 H5 Fs5 o5 r5 s5 nG q5
        obtain ⟨nf5, hD5, ra5, sF5, o15⟩ := keep o5
        have nDG : D ∉ G := fun z => by
          have := nG D z
          rw [hD] at this
          cases this
        have kD : Kp [D] H5 (upd H5 D (.lst (us ++ [y]))) := Kp.upd List.mem_cons_self
        have mD : ∀ a ∈ [D], Mutb H5 a := fun a ha => by
          rw [List.mem_singleton.mp ha]
          exact .inl ⟨_, hD5⟩
        have ef : Eff c.ms [] (wipeF Fs1 vs) H1 Fs5 (upd H5 D (.lst (us ++ [y]))) := o15.ef.side nD
        have nDF' : D ∉ F0 ++ G := fun z => (List.mem_append.mp z).elim nDF nDG
        refine ⟨us, hD5, small_lt (by rw [ra5.len]; omega), acc ++ [d], env5, Fs5, us ++ [y], F0 ++ G, ⟨o15.sr.side (mD D List.mem_cons_self) nf5 (S1.xk.eff ef), ef, o15.vl⟩, nf5, upd_same, ?_, nDF', ?_, q5⟩
        · exact (ra5.app (RpA.one r5)).kp kD mD (fun a ha z => nDF' (by rw [← List.mem_singleton.mp z]; exact ha))
        · exact fun a ha j hj n z => (List.mem_append.mp ha).elim (fun y => sF5 a y j hj n z) fun y => s5 a y j hj n z
      · intro env5 H5 Fs5 o5 q5
        obtain ⟨nf5, hD5, ra5, sF5, o15⟩ := keep o5
        exact ⟨acc, env5, Fs5, us, F0, o15, nf5, hD5, ra5, nDF, sF5, q5⟩
    · have e0 : i = xs.length := by omega
      subst e0
      refine .inl ⟨(it _ H2 Fs2 (ew.trans o2.ef) rfl _).2 (Nat.le_refl _), ?_⟩
      have ef := o.ef.trans (ew.trans o2.ef)
      refine k _ _ (D :: F0) env2 H2 Fs2 ⟨o2.sr.unwipe, ef, fun j hj a ha => o.vl j hj a (wipeF_sub (o2.vl j hj a ha))⟩ (.lst hD ra) (fun a ha j hj n => ?_) .no (fin acc env2 i2)
      rcases List.mem_cons.mp ha with z | z
      · rw [z]
        exact nf j
      · exact sF a z j hj n⟩
end
section
variable {c : Vc} {ta tb : TE} {sa sb : List Nat} {fa fb : Option (List Nat)} {ea eb : List Nat} {wa wb : VW}
end
/-! ### data that may be compared, piece by piece -/
def okN (n : Nat) (v : Val) : Prop := v.isD = true ∧ PyData.canLay0 v.toD = true ∧ PyData.depth v.toD ≤ n
theorem okN.okD {n : Nat} {v : Val} (h : okN n v) (hn : n ≤ 64) : v.okD := ⟨h.1, by
  show (PyData.canLay0 _ && decide (PyData.depth _ ≤ 64)) = true
  rw [h.2.1, decide_eq_true (Nat.le_trans h.2.2 hn)]
  rfl⟩
theorem okN_int (n : Nat) (i : Int) : okN n (.int i) := ⟨rfl, rfl, Nat.zero_le _⟩
theorem okN_all {n : Nat} : ∀ {l : List Val}, (∀ v ∈ l, okN n v) → Val.isDs l = true ∧ PyData.canLayAll0 (Val.toDs l) = true ∧ PyData.depthAll (Val.toDs l) ≤ n
  | [], _ => ⟨rfl, rfl, Nat.zero_le _⟩
  | v :: l, h => by
    obtain ⟨a1, a2, a3⟩ := h v List.mem_cons_self
    obtain ⟨b1, b2, b3⟩ := okN_all (l := l) fun u hu => h u (List.mem_cons_of_mem _ hu)
    refine ⟨?_, ?_, ?_⟩
    · show (Val.isD v && Val.isDs l) = true
      rw [a1, b1]
      rfl
    · show (PyData.canLay0 v.toD && PyData.canLayAll0 (Val.toDs l)) = true
      rw [a2, b2]
      rfl
    · show max (PyData.depth v.toD) (PyData.depthAll (Val.toDs l)) ≤ n
      omega
theorem okN_lst {n : Nat} {l : List Val} (h : ∀ v ∈ l, okN n v) : okN (n + 1) (.lst l) := by
  obtain ⟨a, b, c⟩ := okN_all h
  exact ⟨a, b, Nat.succ_le_succ c⟩
theorem okN_tup {n : Nat} {l : List Val} (h : ∀ v ∈ l, okN n v) : okN (n + 1) (.tup l) := by
  obtain ⟨a, b, c⟩ := okN_all h
  exact ⟨a, b, Nat.succ_le_succ c⟩
theorem okN_map {α : Type} {n : Nat} {f : α → Val} (hf : ∀ x, okN n (f x)) (l : List α) : okN (n + 1) (.lst (l.map f)) := okN_lst fun v hv => by
  obtain ⟨x, _, rfl⟩ := List.mem_map.mp hv
  exact hf x
theorem okN_ints (ns : List Int) : okN 1 (.lst (ns.map Val.int)) := okN_map (okN_int 0) ns
theorem okN.up {n m : Nat} {v : Val} (h : okN n v) (hn : n ≤ m) : okN m v := ⟨h.1, h.2.1, Nat.le_trans h.2.2 hn⟩
theorem okN_1 {n : Nat} {a : Val} (ha : okN n a) : ∀ v ∈ [a], okN n v := fun v hv => by
  rw [List.mem_singleton.mp hv]
  exact ha
theorem okN_c {n : Nat} {a : Val} {l : List Val} (ha : okN n a) (h : ∀ v ∈ l, okN n v) : ∀ v ∈ a :: l, okN n v := fun v hv => by
  rcases List.mem_cons.mp hv with rfl | hv
  · exact ha
  · exact h v hv
/-! ### dict.get, list.count(None), abs, the least of triples -/
section
variable {c : Vc} {ta tb : TE} {sa sb : List Nat} {fa fb : Option (List Nat)} {ea eb : List Nat} {wa wb : VW}
/-! abs -/
/-! list.count(None) -/
end
/-! ### places given: the one that ends soonest first -/
abbrev Row3 := Int × Int × Int
/-- r is the least of the rows, by its end, its beginning, its number -/
def le3 (a b : Row3) : Prop := a.1 < b.1 ∨ (a.1 = b.1 ∧ (a.2.1 < b.2.1 ∨ (a.2.1 = b.2.1 ∧ a.2.2 ≤ b.2.2)))
theorem le3_anti {a b : Row3} (h : le3 a b) (g : le3 b a) : a = b := by
  obtain ⟨a1, a2, a3⟩ := a
  obtain ⟨b1, b2, b3⟩ := b
  unfold le3 at h g
  simp only at h g
  have e1 : a1 = b1 := by omega
  have e2 : a2 = b2 := by omega
  have e3 : a3 = b3 := by omega
  rw [e1, e2, e3]
def Least3 (l : List Row3) (r : Row3) : Prop := r ∈ l ∧ ∀ q ∈ l, le3 r q
theorem Least3.uniq {l : List Row3} {r r' : Row3} (h : Least3 l r) (g : Least3 l r') : r = r' := le3_anti (h.2 _ g.1) (g.2 _ h.1)
def LeastI (l : List Int) (m : Int) : Prop := m ∈ l ∧ ∀ y ∈ l, m ≤ y
theorem LeastI.uniq {l : List Int} {m m' : Int} (h : LeastI l m) (g : LeastI l m') : m = m' := by
  have := h.2 _ g.1
  have := g.2 _ h.1
  omega
def rest3 (l : List Row3) (r : Row3) (x : Int) : List Row3 := l.filter fun q => decide (q.2.2 ≠ r.2.2) && decide (x < q.1)
def top (p m : Int) : Int := if m > p then m else p
inductive Edf : List Row3 → Int → List (Int × Int) → Prop
  | nil {p : Int} : Edf [] p []
  | cons {l : List Row3} {p m : Int} {r : Row3} {L : List (Int × Int)} : LeastI (l.map (·.2.1)) m → Least3 (l.filter fun q => decide (q.2.1 ≤ top p m)) r → Edf (rest3 l r (top p m + 1)) (top p m + 1) L → Edf l p ((r.2.2, top p m) :: L)
theorem Edf.uniq {l : List Row3} {p : Int} {L L' : List (Int × Int)} (h : Edf l p L) (g : Edf l p L') : L = L' := by
  induction h generalizing L' with
  | nil =>
    cases g with
    | nil => rfl
    | cons h1 _ _ => exact absurd h1.1 List.not_mem_nil
  | cons h1 h2 h3 ih =>
    cases g with
    | nil => exact absurd h1.1 List.not_mem_nil
    | cons g1 g2 g3 =>
      have em := h1.uniq g1
      subst em
      have er := h2.uniq g2
      subst er
      rw [ih g3]
def Rise (W : List Span) : Prop := W.Pairwise fun a b => a.2 ≤ b.1
/-! ### windows and givings: no giving leaves out fewer than windows ask for -/
def inW (w s : Span) : Bool := decide (w.1 ≤ s.1) && decide (s.2 ≤ w.2)
def overS (ss : List Span) (w : Span) : Int := (ss.countP (inW w) : Int) - (w.2 - w.1)
def sumS (ss : List Span) (W : List Span) : Int := (W.map (overS ss)).sum
structure Good (ss : List Span) (g : List (Option Int)) : Prop where
  len : g.length = ss.length
  within : ∀ p ∈ ss.zip g, ∀ x, p.2 = some x → p.1.1 ≤ x ∧ x < p.1.2
  nd : (g.filterMap id).Nodup
theorem sum_swap {α β : Type} (f : α → β → Bool) : ∀ (W : List α) (z : List β), ((W.map fun w => (z.countP (f w) : Nat)).sum) = (z.map fun x => W.countP fun w => f w x).sum
  | W, [] => by
    induction W with
    | nil => rfl
    | cons w W ih => rw [List.map_cons, List.sum_cons, ih]; rfl
  | W, x :: z => by
    have ih := sum_swap f W z
    rw [List.map_cons, List.sum_cons, ← ih]
    clear ih
    induction W with
    | nil => rfl
    | cons w W ih =>
      rw [List.map_cons, List.sum_cons, List.map_cons, List.sum_cons, List.countP_cons, List.countP_cons, ih]
      omega
theorem sum_le_countP {β : Type} (h : β → Bool) (f : β → Nat) : ∀ z : List β, (∀ x ∈ z, f x ≤ if h x = true then 1 else 0) → (z.map f).sum ≤ z.countP h
  | [], _ => Nat.le_refl _
  | x :: z, k => by
    have ih := sum_le_countP h f z fun y hy => k y (List.mem_cons_of_mem _ hy)
    have := k x List.mem_cons_self
    rw [List.map_cons, List.sum_cons, List.countP_cons]
    omega
theorem one_window {W : List Span} (ri : Rise W) (ok : ∀ w ∈ W, w.1 < w.2) {s : Span} (hs : s.1 < s.2) : W.countP (fun w => inW w s) ≤ 1 := by
  induction W with
  | nil => exact Nat.zero_le _
  | cons w W ih =>
    obtain ⟨r1, r2⟩ := List.pairwise_cons.mp ri
    rw [List.countP_cons]
    by_cases e : inW w s = true
    · rw [if_pos e]
      have : W.countP (fun w => inW w s) = 0 := List.countP_eq_zero.mpr fun u hu h => by
        have a := r1 u hu
        unfold inW at e h
        rw [Bool.and_eq_true, decide_eq_true_iff, decide_eq_true_iff] at e h
        omega
      omega
    · rw [if_neg e]
      exact ih r2 fun u hu => ok u (List.mem_cons_of_mem _ hu)
theorem nodup_room {l : List Int} {a b : Int} (nd : l.Nodup) (h : ∀ x ∈ l, a ≤ x ∧ x < b) (ab : a ≤ b) : (l.length : Int) ≤ b - a := by
  have h2 := nodup_le (a := l) (b := (List.range (b - a).toNat).map fun (i : Nat) => a + (i : Int)) nd fun x hx => by
    have := h x hx
    exact List.mem_map.mpr ⟨(x - a).toNat, List.mem_range.mpr (by omega), by omega⟩
  rw [List.length_map, List.length_range] at h2
  omega
theorem countP_zip {α β : Type} (f : α → Bool) : ∀ (a : List α) (b : List β), b.length = a.length → a.countP f = (a.zip b).countP fun p => f p.1
  | [], [], _ => rfl
  | x :: a, y :: b, h => by
    rw [List.zip_cons_cons, List.countP_cons, List.countP_cons, countP_zip f a b (Nat.succ.inj h)]
theorem zip_filter_sub (f : Span × Option Int → Bool) : ∀ (a : List Span) (b : List (Option Int)), List.Sublist (((a.zip b).filter f).filterMap (·.2)) (b.filterMap id)
  | [], b => List.nil_sublist _
  | x :: a, [] => List.Sublist.refl _
  | x :: a, y :: b => by
    have ih := zip_filter_sub f a b
    rw [List.zip_cons_cons]
    by_cases e : f (x, y) = true
    · rw [List.filter_cons_of_pos e, List.filterMap_cons, List.filterMap_cons]
      cases y with
      | none => exact ih
      | some v => exact ih.cons_cons v
    · rw [List.filter_cons_of_neg e, List.filterMap_cons]
      cases y with
      | none => exact ih
      | some v => exact ih.cons v
theorem countP_some : ∀ l : List (Span × Option Int), (l.filterMap (·.2)).length = l.countP fun p => p.2.isSome
  | [] => rfl
  | (s, o) :: l => by
    rw [List.filterMap_cons, List.countP_cons]
    cases o with
    | none => exact countP_some l
    | some v => rw [List.length_cons, countP_some l]; rfl
theorem Good.low {ss : List Span} {g : List (Option Int)} (h : Good ss g) (hs : ∀ s ∈ ss, s.1 < s.2) {W : List Span} (ri : Rise W) (ok : ∀ w ∈ W, w.1 < w.2) : sumS ss W ≤ (g.countP (·.isNone) : Nat) := by
  -- one window
  have one : ∀ w : Span, w.1 < w.2 → overS ss w ≤ ((ss.zip g).countP fun p => inW w p.1 && p.2.isNone : Nat) := fun w hw => by
    unfold overS
    rw [countP_zip (inW w) ss g h.len]
    have sp : (ss.zip g).countP (fun p => inW w p.1) = ((ss.zip g).filter fun p => inW w p.1).countP (fun p => p.2.isNone) + ((ss.zip g).filter fun p => inW w p.1).countP (fun p => p.2.isSome) := by
      rw [List.countP_eq_length_filter]
      generalize (ss.zip g).filter (fun p => inW w p.1) = l
      induction l with
      | nil => rfl
      | cons p l ih =>
        rw [List.length_cons, List.countP_cons, List.countP_cons, ih]
        cases p.2 with
        | none => simp; omega
        | some v => simp; omega
    have e1 : ((ss.zip g).filter fun p => inW w p.1).countP (fun p => p.2.isNone) = (ss.zip g).countP fun p => inW w p.1 && p.2.isNone := by
      rw [List.countP_filter]
      exact List.countP_congr fun p _ => by rw [Bool.and_comm]
    have e2 : (((ss.zip g).filter fun p => inW w p.1).countP (fun p => p.2.isSome) : Int) ≤ w.2 - w.1 := by
      rw [← countP_some]
      refine nodup_room (h.nd.sublist (zip_filter_sub _ ss g)) (fun x hx => ?_) (by omega)
      obtain ⟨p, hp, e⟩ := List.mem_filterMap.mp hx
      have hp := List.mem_filter.mp hp
      have a := h.within p hp.1 x e
      have b : inW w p.1 = true := hp.2
      unfold inW at b
      rw [Bool.and_eq_true, decide_eq_true_iff, decide_eq_true_iff] at b
      omega
    omega
  have a1 : sumS ss W ≤ (((W.map fun w => ((ss.zip g).countP fun p => inW w p.1 && p.2.isNone)).sum : Nat) : Int) := by
    unfold sumS
    clear ri
    induction W with
    | nil => exact Int.le_refl _
    | cons w W ih =>
      have := one w (ok w List.mem_cons_self)
      have := ih fun u hu => ok u (List.mem_cons_of_mem _ hu)
      rw [List.map_cons, List.sum_cons, List.map_cons, List.sum_cons]
      omega
  rw [sum_swap (fun w (p : Span × Option Int) => inW w p.1 && p.2.isNone)] at a1
  have a2 := sum_le_countP (fun (p : Span × Option Int) => p.2.isNone) (fun p => W.countP fun w => inW w p.1 && p.2.isNone) (ss.zip g) fun p hp => by
    cases e : p.2.isNone with
    | true =>
      rw [if_pos rfl]
      have := one_window ri ok (hs p.1 (List.of_mem_zip hp).1)
      simpa using this
    | false => simp
  have a3 : (ss.zip g).countP (fun (p : Span × Option Int) => p.2.isNone) = g.countP (·.isNone) := by
    have hl := h.len
    clear a1 a2 one h
    induction ss generalizing g with
    | nil =>
      cases g with
      | nil => rfl
      | cons y g => cases hl
    | cons x ss ih =>
      cases g with
      | nil => cases hl
      | cons y g =>
        rw [List.zip_cons_cons, List.countP_cons, List.countP_cons, ih (fun s hs' => hs s (List.mem_cons_of_mem _ hs')) (Nat.succ.inj hl)]
  omega
/-! ### the greediest windows -/
def EAt (E : List Int) (i : Nat) : Int := E[i]?.getD 0
/-- what the table of the greediest windows holds -/
structure DpW (ss : List Span) (E : List Int) (M : Nat → Int) (C : Nat → Option Nat) (n : Nat) : Prop where
  z : M 0 = 0
  up : ∀ t, t + 1 < n → M t ≤ M (t + 1)
  low : ∀ t, t + 1 < n → ∀ h, h ≤ t → EAt E (t + 1) - EAt E h < (ss.length : Int) → M h + overS ss (EAt E h, EAt E (t + 1)) ≤ M (t + 1)
  at_ : ∀ t, t + 1 < n → (C (t + 1) = none ∧ M (t + 1) = M t) ∨ ∃ h, h ≤ t ∧ C (t + 1) = some h ∧ M t < M (t + 1) ∧ EAt E (t + 1) - EAt E h < (ss.length : Int) ∧ M (t + 1) = M h + overS ss (EAt E h, EAt E (t + 1)) ∧ ∀ h', h' < h → EAt E (t + 1) - EAt E h' < (ss.length : Int) → M h' + overS ss (EAt E h', EAt E (t + 1)) < M (t + 1)
theorem DpW.same {ss : List Span} {E : List Int} {M M' : Nat → Int} {C C' : Nat → Option Nat} {n : Nat} (h : DpW ss E M C n) (g : DpW ss E M' C' n) : ∀ t, t < n → M t = M' t := by
  intro t
  induction t using Nat.strongRecOn with
  | _ t ih =>
    intro ht
    cases t with
    | zero => rw [h.z, g.z]
    | succ t =>
      have e0 := ih t (by omega) (by omega)
      have a : M (t + 1) ≤ M' (t + 1) := by
        rcases h.at_ t ht with ⟨_, z⟩ | ⟨k, kt, _, _, kl, z, _⟩
        · have := g.up t ht
          omega
        · have := g.low t ht k kt kl
          have := ih k (by omega) (by omega)
          omega
      have b : M' (t + 1) ≤ M (t + 1) := by
        rcases g.at_ t ht with ⟨_, z⟩ | ⟨k, kt, _, _, kl, z, _⟩
        · have := h.up t ht
          omega
        · have := h.low t ht k kt kl
          have := ih k (by omega) (by omega)
          omega
      omega
inductive BackW (E : List Int) (C : Nat → Option Nat) : Nat → List Span → Prop
  | stop : BackW E C 0 []
  | skip {t : Nat} {V : List Span} : C (t + 1) = none → BackW E C t V → BackW E C (t + 1) V
  | take {t h : Nat} {V : List Span} : C (t + 1) = some h → h ≤ t → BackW E C h V → BackW E C (t + 1) ((EAt E h, EAt E (t + 1)) :: V)
theorem BackW.same {E : List Int} {C C' : Nat → Option Nat} {t : Nat} {V V' : List Span} (h : BackW E C t V) (g : BackW E C' t V') (e : ∀ u, u < t → C (u + 1) = C' (u + 1)) : V = V' := by
  induction h generalizing V' with
  | stop =>
    cases g
    rfl
  | skip c b ih =>
    rename_i t V
    have e1 := e t (Nat.lt_succ_self _)
    cases g with
    | skip c' b' => exact ih b' fun u hu => e u (by omega)
    | take c' _ _ => rw [c, c'] at e1; cases e1
  | take c hl b ih =>
    rename_i t h V
    have e1 := e t (Nat.lt_succ_self _)
    cases g with
    | skip c' b' => rw [c, c'] at e1; cases e1
    | take c' hl' b' =>
      rw [c, c'] at e1
      cases e1
      rw [ih b' fun u hu => e u (by omega)]
theorem eat_lt {E : List Int} (h : E.Pairwise (· < ·)) {i j : Nat} (ij : i < j) (hj : j < E.length) : EAt E i < EAt E j := by
  unfold EAt
  rw [List.getElem?_eq_getElem hj, List.getElem?_eq_getElem (show i < E.length by omega)]
  exact List.pairwise_iff_getElem.mp h i j (by omega) hj ij
theorem eat_le {E : List Int} (h : E.Pairwise (· < ·)) {i j : Nat} (ij : i ≤ j) (hj : j < E.length) : EAt E i ≤ EAt E j := by
  rcases Nat.lt_or_ge i j with z | z
  · exact Int.le_of_lt (eat_lt h z hj)
  · have : i = j := by omega
    rw [this]
    exact Int.le_refl _
theorem DpW.mono {ss : List Span} {E : List Int} {M : Nat → Int} {C : Nat → Option Nat} {n : Nat} (h : DpW ss E M C n) {i : Nat} : ∀ {j : Nat}, i ≤ j → j < n → M i ≤ M j := by
  intro j
  induction j with
  | zero =>
    intro a _
    have : i = 0 := by omega
    rw [this]
    exact Int.le_refl _
  | succ j ih =>
    intro a b
    rcases Nat.lt_or_ge i (j + 1) with z | z
    · exact Int.le_trans (ih (by omega) (by omega)) (h.up j b)
    · have : i = j + 1 := by omega
      rw [this]
      exact Int.le_refl _
theorem leastI_ex : ∀ {l : List Int}, l ≠ [] → ∃ m, LeastI l m
  | [], h => absurd rfl h
  | [x], _ => ⟨x, List.mem_singleton.mpr rfl, fun y hy => by rw [List.mem_singleton.mp hy]; exact Int.le_refl _⟩
  | x :: y :: l, _ => by
    obtain ⟨m, h1, h2⟩ := leastI_ex (l := y :: l) (fun z => nomatch z)
    by_cases c : x ≤ m
    · refine ⟨x, List.mem_cons_self, fun u hu => ?_⟩
      rcases List.mem_cons.mp hu with rfl | hu
      · exact Int.le_refl _
      · have := h2 u hu
        omega
    · refine ⟨m, List.mem_cons_of_mem _ h1, fun u hu => ?_⟩
      rcases List.mem_cons.mp hu with rfl | hu
      · omega
      · exact h2 u hu
theorem mostI_ex {l : List Int} (h : l ≠ []) : ∃ m, m ∈ l ∧ ∀ y ∈ l, y ≤ m := by
  obtain ⟨m, h1, h2⟩ := leastI_ex (l := l.map fun x => -x) (by simpa using h)
  obtain ⟨x, hx, rfl⟩ := List.mem_map.mp h1
  refine ⟨x, hx, fun y hy => ?_⟩
  have := h2 (-y) (List.mem_map.mpr ⟨y, hy, rfl⟩)
  omega
/-- windows drawn in to the ends of what they hold -/
theorem shrink {ss : List Span} {E : List Int} (mE : ∀ s ∈ ss, s.1 ∈ E ∧ s.2 ∈ E) (hs : ∀ s ∈ ss, s.1 < s.2) : ∀ {W : List Span}, Rise W → (∀ w ∈ W, w.1 < w.2) → ∃ V : List Span, Rise V ∧ (∀ v ∈ V, v.1 < v.2 ∧ v.1 ∈ E ∧ v.2 ∈ E ∧ ∃ w ∈ W, w.1 ≤ v.1 ∧ v.2 ≤ w.2) ∧ sumS ss W ≤ sumS ss V
  | [], _, _ => ⟨[], List.Pairwise.nil, (fun _ h => nomatch h), Int.le_refl _⟩
  | w :: W, ri, ok => by
    obtain ⟨r1, r2⟩ := List.pairwise_cons.mp ri
    obtain ⟨V, a1, a2, a3⟩ := shrink mE hs r2 fun u hu => ok u (List.mem_cons_of_mem _ hu)
    have hw := ok w List.mem_cons_self
    have a2' : ∀ v ∈ V, v.1 < v.2 ∧ v.1 ∈ E ∧ v.2 ∈ E ∧ ∃ u ∈ w :: W, u.1 ≤ v.1 ∧ v.2 ≤ u.2 := fun v hv => by
      obtain ⟨b1, b2, b3, u, hu, b4⟩ := a2 v hv
      exact ⟨b1, b2, b3, u, List.mem_cons_of_mem _ hu, b4⟩
    by_cases e : ss.filter (inW w) = []
    · refine ⟨V, a1, a2', ?_⟩
      have : overS ss w ≤ 0 := by
        unfold overS
        rw [List.countP_eq_length_filter, e]
        show (0 : Int) - (w.2 - w.1) ≤ 0
        omega
      unfold sumS at a3 ⊢
      rw [List.map_cons, List.sum_cons]
      omega
    · obtain ⟨lo, l1, l2⟩ := leastI_ex (l := (ss.filter (inW w)).map (·.1)) (by simpa using e)
      obtain ⟨hi, g1, g2⟩ := mostI_ex (l := (ss.filter (inW w)).map (·.2)) (by simpa using e)
      obtain ⟨s, ms, rfl⟩ := List.mem_map.mp l1
      obtain ⟨t, mt, rfl⟩ := List.mem_map.mp g1
      have ms := List.mem_filter.mp ms
      have mt := List.mem_filter.mp mt
      have is : inW w s = true := ms.2
      have it : inW w t = true := mt.2
      unfold inW at is it
      rw [Bool.and_eq_true, decide_eq_true_iff, decide_eq_true_iff] at is it
      have st : s.1 < t.2 := by
        have := g2 s.2 (List.mem_map.mpr ⟨s, List.mem_filter.mpr ms, rfl⟩)
        have := hs s ms.1
        omega
      refine ⟨(s.1, t.2) :: V, List.Pairwise.cons (fun v hv => ?_) a1, fun v hv => ?_, ?_⟩
      · obtain ⟨_, _, _, u, hu, b4⟩ := a2 v hv
        have : w.2 ≤ u.1 := r1 u hu
        show t.2 ≤ v.1
        omega
      · rcases List.mem_cons.mp hv with rfl | hv
        · exact ⟨st, (mE s ms.1).1, (mE t mt.1).2, w, List.mem_cons_self, is.1, it.2⟩
        · exact a2' v hv
      · have : overS ss w ≤ overS ss (s.1, t.2) := by
          unfold overS
          have : ss.countP (inW w) ≤ ss.countP (inW (s.1, t.2)) := List.countP_mono_left fun u hu h => by
            have mu := List.mem_filter.mpr ⟨hu, h⟩
            have b1 := l2 u.1 (List.mem_map.mpr ⟨u, mu, rfl⟩)
            have b2 := g2 u.2 (List.mem_map.mpr ⟨u, mu, rfl⟩)
            unfold inW
            rw [Bool.and_eq_true, decide_eq_true_iff, decide_eq_true_iff]
            exact ⟨b1, b2⟩
          show _ ≤ _ - (t.2 - s.1)
          omega
        unfold sumS at a3 ⊢
        rw [List.map_cons, List.sum_cons, List.map_cons, List.sum_cons]
        omega
theorem eat_of {E : List Int} {x : Int} (h : x ∈ E) : ∃ i, i < E.length ∧ EAt E i = x := by
  obtain ⟨i, hi, e⟩ := List.getElem_of_mem h
  exact ⟨i, hi, by unfold EAt; rw [List.getElem?_eq_getElem hi, e]; rfl⟩
theorem DpW.greedy {ss : List Span} {E : List Int} {M : Nat → Int} {C : Nat → Option Nat} (D : DpW ss E M C E.length) (hE : E.Pairwise (· < ·)) : ∀ {V : List Span}, V.Pairwise (fun a b => b.2 ≤ a.1) → (∀ v ∈ V, v.1 < v.2 ∧ v.1 ∈ E ∧ v.2 ∈ E) → ∀ t, t < E.length → (∀ v ∈ V, v.2 ≤ EAt E t) → sumS ss V ≤ M t
  | [], _, _, t, ht, _ => by
    have := D.mono (Nat.zero_le t) ht
    rw [D.z] at this
    exact this
  | v :: V, pw, ok, t, ht, hb => by
    obtain ⟨p1, p2⟩ := List.pairwise_cons.mp pw
    obtain ⟨o1, o2, o3⟩ := ok v List.mem_cons_self
    obtain ⟨h, hh, eh⟩ := eat_of o2
    obtain ⟨u, hu, eu⟩ := eat_of o3
    have hlt : h < u := by
      rcases Nat.lt_or_ge h u with z | z
      · exact z
      · have := eat_le hE z hh
        omega
    have ut : u ≤ t := by
      rcases Nat.lt_or_ge t u with z | z
      · have := eat_lt hE z hu
        have := hb v List.mem_cons_self
        omega
      · exact z
    have ih := DpW.greedy D hE p2 (fun x hx => ok x (List.mem_cons_of_mem _ hx)) h hh fun x hx => by
      have := p1 x hx
      omega
    obtain ⟨u', rfl⟩ : ∃ u', u = u' + 1 := ⟨u - 1, by omega⟩
    have m1 := D.mono ut ht
    have m2 := D.mono (show h ≤ t by omega) ht
    have ev : v = (EAt E h, EAt E (u' + 1)) := by rw [eh, eu]
    unfold sumS at ih ⊢
    rw [List.map_cons, List.sum_cons]
    by_cases c : EAt E (u' + 1) - EAt E h < (ss.length : Int)
    · have := D.low u' hu h (by omega) c
      rw [ev]
      omega
    · have : overS ss v ≤ 0 := by
        unfold overS
        have := List.countP_le_length (p := inW v) (l := ss)
        omega
      omega
/-- the table tells as much as any windows ask for -/
theorem DpW.most {ss : List Span} {E : List Int} {M : Nat → Int} {C : Nat → Option Nat} (D : DpW ss E M C E.length) (hE : E.Pairwise (· < ·)) (mE : ∀ s ∈ ss, s.1 ∈ E ∧ s.2 ∈ E) (hs : ∀ s ∈ ss, s.1 < s.2) (hl : 0 < E.length) {W : List Span} (ri : Rise W) (ok : ∀ w ∈ W, w.1 < w.2) : sumS ss W ≤ M (E.length - 1) := by
  obtain ⟨V, a1, a2, a3⟩ := shrink mE hs ri ok
  have rv : V.reverse.Pairwise (fun a b => b.2 ≤ a.1) := by
    rw [List.pairwise_reverse]
    exact a1
  have := D.greedy hE rv (fun v hv => by
    obtain ⟨b1, b2, b3, _⟩ := a2 v (List.mem_reverse.mp hv)
    exact ⟨b1, b2, b3⟩) (E.length - 1) (by omega) fun v hv => by
    obtain ⟨_, _, b3, _⟩ := a2 v (List.mem_reverse.mp hv)
    obtain ⟨i, hi, e⟩ := eat_of b3
    rw [← e]
    exact eat_le hE (by omega) (by omega)
  have e : sumS ss V.reverse = sumS ss V := by
    unfold sumS
    rw [List.map_reverse, List.sum_reverse]
  omega
/-! ### the numbers of tuples, read off the heap -/
/-! ### triples sorted -/
section
variable {c : Vc}
end
/-! ### pairs sorted -/
section
variable {c : Vc}
end
/-! ### the least of triples -/
section
variable {X : Cx}
end
section
variable {c : Vc}
end
/-! ### {e for a in x for b in y}: a set of whole numbers, two clauses, no tests -/
section
variable {prog : Program} {w : World} {A : Around} {R : Result → Shared → Prop} {s : Shared} {el ta ia tb ib : Expr} {sc : Scope} {ps : Pos} {it acc : Value} {en : Env}
end
section
variable {X : Cx}
end
/-! ### which lots can all have places; what is left out by one that cannot grow -/
/-! ### None not in a list, len of a dict, int of a truth, a triple removed -/
section
variable {c : Vc} {te : TE} {s e : List Nat} {f : Option (List Nat)} {we : VW}
def gIntB : List Val → (Val → Prop) → Prop := fun ds Q => ∃ b : Bool, ds = [.bl b] ∧ Q (.int (if b then 1 else 0))
theorem cb_intB : CBS c (fun xs H Q => (∃ i, xs = [.int i] ∧ Q (.int i) H) ∨ ∃ k, xs = [.bl k] ∧ Q (.int (if k then 1 else 0)) H) gIntB := fun σ H Fs as Gs vs ds Q R r h k => by
  obtain ⟨b, rfl, h⟩ := h
  obtain ⟨v, F, e1, r1⟩ := r.one
  subst e1
  rw [r1.bl_eq]
  exact .inr ⟨b, rfl, k _ _ (.int _) h⟩
/-! list.remove of a triple -/
end
/-! ### the lot chosen by falling weights is a heaviest -/
/-! ### for x in (new list of lists): if test: ys.append(x) — the items are handed on for good -/
section
variable {c : Vc} {te : TE} {e E fx lo : List Nat} {we : VW} {tt : TT} {wt : VWT}
end
/-! ### a op1 b op2 c op3 d -/
section
variable {X : Cx} {a b c d : Expr} {ta tb tc td : TE} {pos : Pos}
end
section
variable {c : Vc} {ta tb tc td : TE} {sa sb sc sd : List Nat} {fa fb fc fd : Option (List Nat)} {ea eb ec ed : List Nat} {wa wb wc wd : VW}
end
/-! None in -/
/-! ### a generator expression with two fors -/
section
theorem compTurn_y0 (elt tg0 it0 tg1 it1 : Expr) (ifs0 ifs1 : List Expr) (scope : Scope) (pos : Pos) (it acc : Value) (env : Env) :
    compTurn (.GeneratorExp elt [⟨tg0, it0, ifs0, 0⟩, ⟨tg1, it1, ifs1, 0⟩] scope pos) 0 it acc env = (do
      standAt it0.pos
      match ← pyNext it with
      | none => pure (.done .next)
      | some v =>
        letOwnedTupleGo tg0 it v
        assign tg0 env v
        let mut ok := true
        for c in ifs0 do
          if ok then ok ← isTrue c env (eval c env)
        if ok then
          let x ← eval it1 env
          standAt it1.pos
          let x ← foldedSetIterable it1 env x
          let _ ← runOwn (.compStart (.GeneratorExp elt [⟨tg0, it0, ifs0, 0⟩, ⟨tg1, it1, ifs1, 0⟩] scope pos) 1 (← holding [x] (pyIter x)) acc env) env
        again (.compLoop (.GeneratorExp elt [⟨tg0, it0, ifs0, 0⟩, ⟨tg1, it1, ifs1, 0⟩] scope pos) 0 it acc env)) := by rfl
theorem compTurn_y1 (elt tg0 it0 tg1 it1 : Expr) (ifs0 ifs1 : List Expr) (scope : Scope) (pos : Pos) (it acc : Value) (env : Env) :
    compTurn (.GeneratorExp elt [⟨tg0, it0, ifs0, 0⟩, ⟨tg1, it1, ifs1, 0⟩] scope pos) 1 it acc env = (do
      standAt it1.pos
      match ← pyNext it with
      | none => pure (.done .next)
      | some v =>
        letOwnedTupleGo tg1 it v
        assign tg1 env v
        let mut ok := true
        for c in ifs1 do
          if ok then ok ← isTrue c env (eval c env)
        if ok then
          (do let v ← eval elt env; standAt elt.pos; let _ ← yieldOut env v)
        again (.compLoop (.GeneratorExp elt [⟨tg0, it0, ifs0, 0⟩, ⟨tg1, it1, ifs1, 0⟩] scope pos) 1 it acc env)) := by rfl
theorem gy_over {A : Around} {elt tg0 it0 tg1 it1 : Expr} {ifs0 ifs1 : List Expr} {scope : Scope} {pos : Pos} {it acc : Value} {ce : Env} : A.over (.compLoop (.GeneratorExp elt [⟨tg0, it0, ifs0, 0⟩, ⟨tg1, it1, ifs1, 0⟩] scope pos) 0 it acc ce) [] = A.deeper ce := by
  first
    | rfl
    | (obtain ⟨hd, d, fr, gs, u⟩ := A; simp [Around.over, Around.deeper, marksOver, frameCount, unitsOf, envsOf, guardsOf, pushEnvs, pushGuards, Code.envs, Code.env?, Code.isFrame, Code.guards, Code.isGuard, Code.weight, Code.frames, Code.isCreation, Code.isCaller, Code.cUnits])
theorem gy_over1 {A : Around} {elt tg0 it0 tg1 it1 : Expr} {ifs0 ifs1 : List Expr} {scope : Scope} {pos : Pos} {it it' acc : Value} {ce : Env} {k : Result → Sem PySem.Fin} {p : Pos} :
    A.over (.compLoop (.GeneratorExp elt [⟨tg0, it0, ifs0, 0⟩, ⟨tg1, it1, ifs1, 0⟩] scope pos) 1 it' acc ce) [.ret k none false [] (.compLoop (.GeneratorExp elt [⟨tg0, it0, ifs0, 0⟩, ⟨tg1, it1, ifs1, 0⟩] scope pos) 0 it acc ce) p []] = A.deeper ce := by
  obtain ⟨hd, d, fr, gs, u⟩ := A; simp [Around.over, Around.deeper, marksOver, frameCount, unitsOf, envsOf, guardsOf, pushEnvs, pushGuards, Code.envs, Code.env?, Code.isFrame, Code.guards, Code.isGuard, Code.weight, Code.frames, Code.isCreation, Code.isCaller, Code.cUnits, Frame.where_, Frame.marks]; cases hd <;> rfl
end
section
open GenW
variable {α : Type}
/-- what is asked of the second clause -/
def RunsI (J1 : It) (g1 : TG) (tt1 : TT) (te : TE) (vs1 : List Nat) (σ2 : L2.St) (c : Cons α) (Q : VK) (En : Nat → α → Hp → Prop) (W1 : Nat → Nat → α → Hp → Prop) : Prop :=
  ∀ j k a H, W1 j k a H → (J1.stop j H ∧ En k a H) ∨ (J1.go j H ∧ ∃ Nx : α → Hp → Prop, (∀ a' H', Nx a' H' → ∃ k', k' < k ∧ W1 (j + 1) k' a' H') ∧ ∀ x H', J1.yld j H x H' → g1 x (wipe σ2 vs1) H' fun σ3 H5 => wipe σ3 vs1 = wipe σ2 vs1 ∧ tt1 σ3 H5 fun b H6 =>
    if b = true then te σ3 H6 fun y H7 => c.step a y (fun a' => Nx a' H7) (fun u => Q u H7) else Nx a H6)
structure At1 (Z : Cx) (os fp fp1 : List Addr) (tn tn1 : Nat → Heap → Prop) (τ : L2.St) (i j : Nat) (H : Hp) (s₀ sp s : Shared) : Prop where
  inv : Inv Z (pinsAt os s₀.heap ++ pinsAt fp sp.heap) τ H s
  tn : tn i sp.heap
  tn1 : tn1 j s.heap
  fpn1 : ∀ b ∈ fp1, H b = none
  ex : ∀ b ∈ os, ∃ o, s₀.heap.get? b = some o
theorem gy_in {Z : Cx} {os fp fp1 : List Addr} {c : Cons α} {Rel : α → Shared → Prop} {Q : VK} {elt tg iter tg1 iter1 : Expr} {ifs ifs1 : List Expr} {scope : Scope} {pos : Pos} {it it1 : Addr} {tn tn1 : Nat → Heap → Prop} {J J1 : It} {g1 : TG} {tt1 : TT} {te : TE} {vs vs1 : List Nat} {σ σ8 : L2.St} {En : Nat → α → Hp → Prop} {W1 : Nat → Nat → α → Hp → Prop} {A : Around} {kf : Result → Sem PySem.Fin} {p : Pos} {i : Nat}
    (hA : A.deeper Z.env = Z.A) (hpn : Z.pn = []) (hex : Z.ex = fp) (hc : Z.calm = true) (hxe : Z.xe = fun _ _ => False) (hco : Z.env.scope.isCoroutine = false) (hO : OsOk Z os) (T : Turn Z.prog Z.w Z.K tg J fp it tn) (T1 : Turn Z.prog Z.w Z.K tg1 J1 fp1 it1 tn1)
    (pg : PG Z tg1 g1) (pt : PTs Z ifs1 tt1) (pe : PE Z elt te) (run : RunsI J1 g1 tt1 te vs1 σ8 c Q En W1)
    (B1 : ∀ b ∈ fp1, FpOk Z [] (fun _ => none) b ∧ b ∉ os ∧ b ∉ fp) (hl : (wipe σ vs).length = (wipe σ8 vs1).length) (wk : ∀ (j : Nat) v, (wipe σ vs)[j]? = some (some v) → (wipe σ8 vs1)[j]? = some (some v)) (k0 : Nat)
    (hk : ∀ (k n : Nat) (a : α) (H : Hp) (s₀ s : Shared), k ≤ k0 → k < n → En k a H → Rel a s₀ → At Z os fp tn σ vs i H s₀ s → Seg (model Z.prog Z.w) A (GEx Z os c Rel Q) (GYx Z os c Rel Q) n s₀ (.compLoop (.GeneratorExp elt [⟨tg, iter, ifs, 0⟩, ⟨tg1, iter1, ifs1, 0⟩] scope pos) 0 (.ref it) .none Z.env) (kf (.ok .next)) [] s) :
    ∀ (k n j : Nat) (a : α) (H : Hp) (s₀ sp s : Shared), k ≤ k0 → k < n → W1 j k a H → Rel a s₀ → At1 Z os fp fp1 tn tn1 (wipe σ8 vs1) i j H s₀ sp s →
      Seg (model Z.prog Z.w) A (GEx Z os c Rel Q) (GYx Z os c Rel Q) n s₀ (.compLoop (.GeneratorExp elt [⟨tg, iter, ifs, 0⟩, ⟨tg1, iter1, ifs1, 0⟩] scope pos) 1 (.ref it1) .none Z.env) ((model Z.prog Z.w).den (.compLoop (.GeneratorExp elt [⟨tg, iter, ifs, 0⟩, ⟨tg1, iter1, ifs1, 0⟩] scope pos) 1 (.ref it1) .none Z.env))
        [.ret kf none false [] (.compLoop (.GeneratorExp elt [⟨tg, iter, ifs, 0⟩, ⟨tg1, iter1, ifs1, 0⟩] scope pos) 0 (.ref it) .none Z.env) p []] s := by
  intro k
  induction k using Nat.strongRecOn with
  | ind k ih =>
    intro n j a H s₀ sp s hk0 hkn w hrel at_
    obtain ⟨I, st0, st, nfp, h0⟩ := at_
    have inos : ∀ {b : Addr} {pl : List (Addr × Obj)} {s' : Shared}, b ∈ fp1 → ∀ q ∈ Z.pn ++ (pinsAt os s₀.heap ++ pinsAt fp s'.heap), q.1 ≠ b := fun {b pl s'} hb q hq z => by
      rw [hpn] at hq
      rcases List.mem_append.mp hq with hq | hq
      · cases hq
      · rcases List.mem_append.mp hq with hq | hq
        · exact (B1 b hb).2.1 (z ▸ (of_pinsAt hq).1)
        · exact (B1 b hb).2.2 (z ▸ (of_pinsAt hq).1)
    have stat : ∀ {H' : Hp} {s' : Shared}, (∀ b ∈ fp1, H' b = none) → ∀ b ∈ fp1, FpOk Z (pinsAt os s₀.heap ++ pinsAt fp s'.heap) H' b := fun {H' s'} hn b hb =>
      let ⟨_, z1, z2, z3, z4, _⟩ := (B1 b hb).1
      ⟨hn b hb, z1, z2, z3, z4, inos (pl := []) hb⟩
    have noE : ∀ {β : Type} {t : Sem β} {Qx : β → Shared → Prop} {E' : Value → Shared → Prop} {s : Shared}, wpAny (model Z.prog Z.w) Z.A t Qx Z.xe s → wpAny (model Z.prog Z.w) Z.A t Qx E' s := fun h => wpAny_mono h (fun _ _ z => z) fun _ _ z => by rw [hxe] at z; exact z.elim
    have pin0 : ∀ {pl : List (Addr × Obj)} {τ : L2.St} {s' : Shared} {H' : Hp}, Inv Z (pinsAt os s₀.heap ++ (pinsAt fp sp.heap ++ pl)) τ H' s' → ∀ b ∈ fp, ∀ o, sp.heap.get? b = some o → s'.heap.get? b = some o ∧ H' b = none := fun {pl τ s' H'} I' b hb o e =>
      let z := I'.pin (b, o) (List.mem_append_right _ (List.mem_append_right _ (List.mem_append_left _ (mem_pinsAt hb e))))
      ⟨z.1, z.2.1⟩
    have fpn0 : ∀ {pl : List (Addr × Obj)} {τ : L2.St} {s' : Shared} {H' : Hp}, Inv Z (pinsAt os s₀.heap ++ (pinsAt fp sp.heap ++ pl)) τ H' s' → ∀ b ∈ fp, H' b = none := fun {pl τ s' H'} I' b hb => by
      obtain ⟨o, e, _⟩ := T.obj _ _ st0 b hb
      exact (pin0 I' b hb o e).2
    show Seg _ A _ _ _ s₀ _ ((compTurn (.GeneratorExp elt [⟨tg, iter, ifs, 0⟩, ⟨tg1, iter1, ifs1, 0⟩] scope pos) 1 (.ref it1) .none Z.env).onRaise (fun x => do noteFrame x Z.env; theTreesLotGoes x)) _ s
    rw [compTurn_y1, Sem.onRaise_eq_wrap]
    refine seg_bind_wrap ?_
    rw [gy_over1, hA]
    refine wpAny_standAt (seg_bind_wrap ?_)
    rw [gy_over1, hA]
    rcases run j k a H w with ⟨stop, qq⟩ | ⟨go, Nx, hNx, step⟩
    · refine wpAny_mono (T1.done Z rfl rfl rfl hc j _ s _ H (fun _ _ => False) I (stat nfp) st stop) (fun r s1 ⟨hr, I1⟩ => ?_) fun _ _ z => z.elim
      subst hr
      have I1' : Inv Z (pinsAt os s₀.heap ++ (pinsAt fp sp.heap ++ [])) (wipe σ8 vs1) H s1 := by rw [List.append_nil]; exact I1
      exact seg_leaf (.ok .next) (hk k n a H s₀ s1 hk0 hkn qq hrel ⟨I1.unpinned.weak hl wk, T.keep _ _ _ st0 fun b hb o e => (pin0 I1' b hb o e).1, fpn0 I1', h0⟩)
    · refine wpAny_mono (T1.item Z rfl rfl rfl hc j _ s _ H (fun _ _ => False) I (stat nfp) st go) (fun r s1 ⟨u, hr, h1⟩ => ?_) fun _ _ z => z.elim
      subst hr
      refine seg_bind_wrap ?_
      rw [gy_over1, hA]
      refine wpAny_mono h1 (fun _ s7 ⟨x, H7, I7, r7, y7, st7, n7⟩ => ?_) fun _ _ z => z.elim
      have I7' := I7.pinned (stat n7) (T1.obj _ _ st7)
      refine seg_bind_wrap ?_
      rw [gy_over1, hA]
      refine noE (wpAny_mono (pg.run _ s7 _ H7 x u _ I7' r7 (step x H7 y7)) (fun _ s8 ⟨σ9, H8, I8, hw8, q8⟩ => ?_) fun _ _ z => z)
      refine seg_bind_wrap ?_
      rw [gy_over1, hA]
      refine noE (wpAny_mono (pt.run _ s8 σ9 H8 _ I8 q8) (fun b s9 ⟨H9, I9, q9⟩ => ?_) fun _ _ z => z)
      have hl9 : (wipe σ8 vs1).length = σ9.length := by rw [← hw8, wipe_length]
      have wk9 : ∀ (j : Nat) v, (wipe σ8 vs1)[j]? = some (some v) → σ9[j]? = some (some v) := fun j v e => by
        rw [← hw8] at e
        exact (wipe_some e).1
      have pin1 : ∀ {s' : Shared} {H' : Hp}, Inv Z ((pinsAt os s₀.heap ++ pinsAt fp sp.heap) ++ pinsAt fp1 s7.heap) σ9 H' s' → ∀ b ∈ fp1, ∀ o, s7.heap.get? b = some o → s'.heap.get? b = some o ∧ H' b = none := fun {s' H'} I' b hb o e =>
        let z := I'.pin (b, o) (List.mem_append_right _ (List.mem_append_right _ (mem_pinsAt hb e)))
        ⟨z.1, z.2.1⟩
      have fpn1 : ∀ {s' : Shared} {H' : Hp}, Inv Z ((pinsAt os s₀.heap ++ pinsAt fp sp.heap) ++ pinsAt fp1 s7.heap) σ9 H' s' → ∀ b ∈ fp1, H' b = none := fun {s' H'} I' b hb => by
        obtain ⟨o, e, _⟩ := T1.obj _ _ st7 b hb
        exact (pin1 I' b hb o e).2
      cases b with
      | false =>
        simp only [Bool.false_eq_true, if_false] at q9 ⊢
        obtain ⟨k', hm, w'⟩ := hNx a H9 q9
        exact seg_again rfl (ih k' hm n (j + 1) a H9 s₀ sp s9 (by omega) (by omega) w' hrel ⟨I9.unpinned.weak hl9 wk9, st0, T1.keep _ _ _ st7 fun b hb o e => (pin1 I9 b hb o e).1, fpn1 I9, h0⟩)
      | true =>
        simp only [if_true] at q9 ⊢
        have hy : ∀ v, yieldOut Z.env v = yieldValue v := fun v => by simp only [yieldOut, hco, Bool.false_eq_true, if_false]
        simp only [hy]
        rw [Sem.bind_eq_wrap', Sem.bind_eq_wrap', Sem.wrap_wrap, Sem.wrap_wrap]
        refine seg_wrap ?_
        rw [gy_over1, hA]
        refine noE (wpAny_mono (pe.run _ s9 σ9 H9 _ I9 q9) (fun z s10 ⟨yv, H10, I10, r10, stp⟩ => ?_) fun _ _ z => z)
        cases n with
        | zero => exact absurd hkn (Nat.not_lt_zero _)
        | succ n =>
          have I10' := I10
          rw [List.append_assoc] at I10'
          refine seg_at (seg_yield rfl rfl rfl ⟨a, yv, H10, _, σ9, fun a' => Nx a' H10, hrel, r10, I10', stp, fun s' a' nx rel' slp => ?_⟩)
          obtain ⟨k', hm, w'⟩ := hNx a' H10 nx
          obtain ⟨I11, _⟩ := inv_woken I10' hpn h0 hO slp
          have st0' : tn i s'.heap := T.keep _ _ _ st0 fun b hb o e => slp.keep b o (fun hbo => (hO b hbo).2.2.2 (by rw [hex]; exact hb)) (pin0 I10' b hb o e).1
          have fpok : ∀ b ∈ fp, FpOk Z (pinsAt os s'.heap) H10 b := fun b hb => by
            have hb' : b ∈ Z.ex := by rw [hex]; exact hb
            refine ⟨fpn0 I10' b hb, (I11.ok.exf b hb').1, I11.ok.exfs b hb', .inl hb', fun x c e => (I11.ok.exf b hb').2 x c e, fun p hq => ?_⟩
            rw [hpn] at hq
            rcases List.mem_append.mp hq with hq | hq
            · cases hq
            · intro z
              exact (hO p.1 (of_pinsAt hq).1).2.2.2 (by rw [z]; exact hb')
          have I12 := I11.pinned fpok (T.obj _ _ st0')
          refine seg_again rfl (ih k' hm n (j + 1) a' H10 s' s' s' (by omega) (by omega) w' rel' ⟨I12.weak hl9 wk9, st0', T1.keep _ _ _ st7 fun b hb o e => slp.keep b o (B1 b hb).2.1 (pin1 I10 b hb o e).1, fpn1 I10, fun b hb => ?_⟩)
          obtain ⟨o, e, _⟩ := slp.own b hb
          exact ⟨o, e⟩
end
section
open GenW
variable {α : Type}
/-- what is asked of both clauses: one measure -/
def Runs2 (J : It) (g : TG) (tt : TT) (wi1 : TI) (g1 : TG) (tt1 : TT) (te : TE) (vs vs1 : List Nat) (σ : L2.St) (c : Cons α) (Q : VK) (W : Nat → Nat → α → Hp → Prop) : Prop :=
  ∀ i m a H, W i m a H → (J.stop i H ∧ c.fin a (fun u => Q u H)) ∨ (J.go i H ∧ ∀ x H', J.yld i H x H' → g x (wipe σ vs) H' fun σ2 H2 => wipe σ2 vs = wipe σ vs ∧ tt σ2 H2 fun b H3 =>
    if b = true then wi1 σ2 H3 fun J1 H4 => ∃ W1 : Nat → Nat → α → Hp → Prop, (∃ k, k < m ∧ W1 0 k a H4) ∧ RunsI J1 g1 tt1 te vs1 σ2 c Q (fun k a' H' => ∃ m', m' ≤ k ∧ W (i + 1) m' a' H') W1
    else ∃ m', m' < m ∧ W (i + 1) m' a H3)
theorem gy_start1 {Z : Cx} {os : List Addr} {c : Cons α} {Rel : α → Shared → Prop} {Q : VK} {elt tg iter tg1 iter1 : Expr} {ifs ifs1 : List Expr} {scope : Scope} {pos : Pos} {it1 : Addr} {A : Around} {n : Nat} {s₀ s : Shared} {F : Frame} {J1 : It} {fp1 : List Addr} {tn1 : Nat → Heap → Prop} (T1 : Turn Z.prog Z.w Z.K tg1 J1 fp1 it1 tn1) (st : tn1 0 s.heap)
    (loop : Seg (model Z.prog Z.w) A (GEx Z os c Rel Q) (GYx Z os c Rel Q) n s₀ (.compLoop (.GeneratorExp elt [⟨tg, iter, ifs, 0⟩, ⟨tg1, iter1, ifs1, 0⟩] scope pos) 1 (.ref it1) .none Z.env) ((model Z.prog Z.w).den (.compLoop (.GeneratorExp elt [⟨tg, iter, ifs, 0⟩, ⟨tg1, iter1, ifs1, 0⟩] scope pos) 1 (.ref it1) .none Z.env)) [F] s) :
    Seg (model Z.prog Z.w) A (GEx Z os c Rel Q) (GYx Z os c Rel Q) n s₀ (.compStart (.GeneratorExp elt [⟨tg, iter, ifs, 0⟩, ⟨tg1, iter1, ifs1, 0⟩] scope pos) 1 (.ref it1) .none Z.env) ((model Z.prog Z.w).den (.compStart (.GeneratorExp elt [⟨tg, iter, ifs, 0⟩, ⟨tg1, iter1, ifs1, 0⟩] scope pos) 1 (.ref it1) .none Z.env)) [F] s := by
  show Seg _ A _ _ _ s₀ _ ((compStart (.GeneratorExp elt [⟨tg, iter, ifs, 0⟩, ⟨tg1, iter1, ifs1, 0⟩] scope pos) 1 (.ref it1) .none Z.env).onRaise (fun x => do noteFrame x Z.env; standAt theWindowsPlace)) _ s
  unfold compStart
  rw [Sem.onRaise_eq_wrap]
  show Seg _ A _ _ _ s₀ _ ((ask >>= _).wrap _ _ _ _) _ s
  refine seg_bind_wrap (wpAny_askSetting ?_)
  split
  · exact seg_again rfl loop
  · refine seg_bind_wrap (wpAny_rule ?_)
    show Seg _ A _ _ _ s₀ _ ((standAt iter1.pos >>= _).wrap _ _ _ _) _ s
    exact seg_bind_wrap (wpAny_standAt (seg_bind_wrap (T1.self _ 0 s _ _ st (seg_again rfl loop))))
theorem gy_loop {Z : Cx} {os fp : List Addr} {c : Cons α} {Rel : α → Shared → Prop} {Q : VK} {elt tg iter tg1 iter1 : Expr} {ifs ifs1 : List Expr} {scope : Scope} {pos : Pos} {it : Addr} {tn : Nat → Heap → Prop} {J : It} {g g1 : TG} {tt tt1 : TT} {te : TE} {wi1 : TI} {vs vs1 : List Nat} {σ : L2.St} {W : Nat → Nat → α → Hp → Prop} {A : Around}
    (hA : A.deeper Z.env = Z.A) (hpn : Z.pn = []) (hex : Z.ex = fp) (hc : Z.calm = true) (hxe : Z.xe = fun _ _ => False) (hco : Z.env.scope.isCoroutine = false) (hO : OsOk Z os) (T : Turn Z.prog Z.w Z.K tg J fp it tn) (pg : PG Z tg g) (pt : PTs Z ifs tt) (pi1 : PI Z tg1 iter1 wi1) (pg1 : PG Z tg1 g1) (pt1 : PTs Z ifs1 tt1) (pe : PE Z elt te)
    (hs1 : ∀ x, foldedSetIterable iter1 Z.env x = pure x) (hv : ∀ i ∈ vs1, i ∈ vs) (run : Runs2 J g tt wi1 g1 tt1 te vs vs1 σ c Q W) :
    ∀ (m n i : Nat) (a : α) (H : Hp) (s₀ s : Shared), m < n → W i m a H → Rel a s₀ → At Z os fp tn σ vs i H s₀ s →
      Seg (model Z.prog Z.w) A (GEx Z os c Rel Q) (GYx Z os c Rel Q) n s₀ (.compLoop (.GeneratorExp elt [⟨tg, iter, ifs, 0⟩, ⟨tg1, iter1, ifs1, 0⟩] scope pos) 0 (.ref it) .none Z.env) ((model Z.prog Z.w).den (.compLoop (.GeneratorExp elt [⟨tg, iter, ifs, 0⟩, ⟨tg1, iter1, ifs1, 0⟩] scope pos) 0 (.ref it) .none Z.env)) [] s := by
  intro m
  induction m using Nat.strongRecOn with
  | ind m ih =>
    intro n i a H s₀ s hmn w hrel at_
    obtain ⟨I, st, nfp, h0⟩ := at_
    have stat : ∀ {pins : List (Addr × Obj)} {σ' : L2.St} {H' : Hp} {s' : Shared}, Inv Z pins σ' H' s' → (∀ p ∈ pins, p.1 ∈ os) → (∀ b ∈ fp, H' b = none) → ∀ b ∈ fp, FpOk Z pins H' b := fun {pins σ' H' s'} I' hp hn b hb => by
      have hb' : b ∈ Z.ex := by rw [hex]; exact hb
      refine ⟨hn b hb, (I'.ok.exf b hb').1, I'.ok.exfs b hb', .inl hb', fun x c e => (I'.ok.exf b hb').2 x c e, fun p hq => ?_⟩
      rw [hpn] at hq
      have := hO p.1 (hp p hq)
      intro z
      rw [z] at this
      exact this.2.2.2 hb'
    have pos_ : ∀ p ∈ pinsAt os s₀.heap, p.1 ∈ os := fun p hp => (of_pinsAt hp).1
    have noE : ∀ {β : Type} {t : Sem β} {Qx : β → Shared → Prop} {E' : Value → Shared → Prop} {s : Shared}, wpAny (model Z.prog Z.w) Z.A t Qx Z.xe s → wpAny (model Z.prog Z.w) Z.A t Qx E' s := fun h => wpAny_mono h (fun _ _ z => z) fun _ _ z => by rw [hxe] at z; exact z.elim
    show Seg _ A _ _ _ s₀ _ ((compTurn (.GeneratorExp elt [⟨tg, iter, ifs, 0⟩, ⟨tg1, iter1, ifs1, 0⟩] scope pos) 0 (.ref it) .none Z.env).onRaise (leaving Z.env)) [] s
    rw [compTurn_y0, Sem.onRaise_eq_wrap]
    refine seg_bind_wrap ?_
    rw [gy_over, hA]
    refine wpAny_standAt (seg_bind_wrap ?_)
    rw [gy_over, hA]
    rcases run i m a H w with ⟨stop, qq⟩ | ⟨go, step⟩
    · refine wpAny_mono (T.done Z rfl rfl rfl hc i _ s _ H (fun _ _ => False) I (stat I pos_ nfp) st stop) (fun r s1 ⟨hr, I1⟩ => ?_) fun _ _ z => z.elim
      subst hr
      exact seg_end (.ok .next) (.inl ⟨.inr rfl, a, H, _, hrel, I1, qq⟩)
    · refine wpAny_mono (T.item Z rfl rfl rfl hc i _ s _ H (fun _ _ => False) I (stat I pos_ nfp) st go) (fun r s1 ⟨u, hr, h1⟩ => ?_) fun _ _ z => z.elim
      subst hr
      refine seg_bind_wrap ?_
      rw [gy_over, hA]
      refine wpAny_mono h1 (fun _ s7 ⟨x, H7, I7, r7, y7, st7, n7⟩ => ?_) fun _ _ z => z.elim
      have I7' := I7.pinned (stat I7 pos_ n7) (T.obj _ _ st7)
      refine seg_bind_wrap ?_
      rw [gy_over, hA]
      refine noE (wpAny_mono (pg.run _ s7 _ H7 x u _ I7' r7 (step x H7 y7)) (fun _ s8 ⟨σ8, H8, I8, hw8, q8⟩ => ?_) fun _ _ z => z)
      refine seg_bind_wrap ?_
      rw [gy_over, hA]
      refine noE (wpAny_mono (pt.run _ s8 σ8 H8 _ I8 q8) (fun b s9 ⟨H9, I9, q9⟩ => ?_) fun _ _ z => z)
      have hl : (wipe σ vs).length = σ8.length := by rw [← hw8, wipe_length]
      have wk : ∀ (j : Nat) v, (wipe σ vs)[j]? = some (some v) → σ8[j]? = some (some v) := fun j v e => by
        rw [← hw8] at e
        exact (wipe_some e).1
      have wk9 : ∀ (j : Nat) v, (wipe σ vs)[j]? = some (some v) → (wipe σ8 vs1)[j]? = some (some v) := fun j v e => by
        rw [← hw8] at e
        obtain ⟨e1, e2⟩ := wipe_some e
        rw [wipe_out fun z => e2 (hv j z)]
        exact e1
      have pin' : ∀ {s' : Shared} {H' : Hp}, Inv Z (pinsAt os s₀.heap ++ pinsAt fp s7.heap) σ8 H' s' → ∀ b ∈ fp, ∀ o, s7.heap.get? b = some o → s'.heap.get? b = some o ∧ H' b = none := fun {s' H'} I' b hb o e =>
        let z := I'.pin (b, o) (List.mem_append_right _ (List.mem_append_right _ (mem_pinsAt hb e)))
        ⟨z.1, z.2.1⟩
      have fpn : ∀ {s' : Shared} {H' : Hp}, Inv Z (pinsAt os s₀.heap ++ pinsAt fp s7.heap) σ8 H' s' → ∀ b ∈ fp, H' b = none := fun {s' H'} I' b hb => by
        obtain ⟨o, e, _⟩ := T.obj _ _ st7 b hb
        exact (pin' I' b hb o e).2
      cases b with
      | false =>
        simp only [Bool.false_eq_true, if_false] at q9 ⊢
        obtain ⟨m', hm, w'⟩ := q9
        exact seg_again rfl (ih m' hm n (i + 1) a H9 s₀ s9 (by omega) w' hrel ⟨I9.unpinned.weak hl wk, T.keep _ _ _ st7 fun b hb o e => (pin' I9 b hb o e).1, fpn I9, h0⟩)
      | true =>
        simp only [if_true] at q9 ⊢
        refine seg_bind_wrap ?_
        rw [gy_over, hA]
        refine noE (wpAny_mono (pi1.run _ s9 σ8 H9 _ I9 q9) (fun xv s10 hx => ?_) fun _ _ z => z)
        refine seg_bind_wrap (wpAny_standAt (seg_bind_wrap (wpAny_of_eq (hs1 xv) (seg_bind_wrap (wpAny_holding ?_)))))
        rw [gy_over, hA]
        refine noE (wpAny_mono hx (fun itv s11 h11 => ?_) fun _ _ z => z)
        obtain ⟨it1, fp1, tn1, J1, H11, rfl, I11, T1, st11, f11, W1, ⟨k0, hk0, w1⟩, run1⟩ := h11
        unfold runOwn PySem.run
        rw [Sem.onRaise_eq_wrap, Sem.bind_eq_wrap', Sem.wrap_wrap, Sem.wrap_wrap]
        refine seg_call fun p => ?_
        refine gy_start1 T1 st11 ?_
        refine gy_in hA hpn hex hc hxe hco hO T T1 pg1 pt1 pe run1 (fun b hb => ?_) (hl.trans (wipe_length σ8 vs1).symm) wk9 k0 (fun k n a' H' s₀' s' hk hkn en hrel' at' => ?_) k0 n 0 a H11 s₀ s7 s11 (Nat.le_refl _) (by omega) w1 hrel ⟨I11.weak (wipe_length _ _) (fun j v e => (wipe_some e).1), st7, st11, fun b hb => (f11 b hb).1, h0⟩
        · obtain ⟨_, z1, z2, z3, z4, z5⟩ := f11 b hb
          refine ⟨⟨rfl, z1, z2, z3, z4, fun p hp => absurd (show p ∈ ([] : List (Addr × Obj)) from by rw [hpn] at hp; exact hp) (by simp)⟩, fun hbo => ?_, fun hbf => ?_⟩
          · obtain ⟨o, e⟩ := h0 b hbo
            exact z5 (b, o) (List.mem_append_right _ (List.mem_append_left _ (mem_pinsAt hbo e))) rfl
          · obtain ⟨o, e, _⟩ := T.obj _ _ st7 b hbf
            exact z5 (b, o) (List.mem_append_right _ (List.mem_append_right _ (mem_pinsAt hbf e))) rfl
        · obtain ⟨m', hm', w'⟩ := en
          exact seg_again rfl (ih m' (by omega) n (i + 1) a' H' s₀' s' (by omega) w' hrel' at')
end
section
open GenW
/-- a generator expression of any clauses is made -/
theorem gy_eval (elt tg iter : Expr) (ifs : List Expr) (rest : List Comprehension) (scope : Scope) (pos : Pos) (env : Env) (hr : rest.all (fun c => c.is_async == 0) = true) (hco : scope.isCoroutine = false) :
    eval (.GeneratorExp elt (⟨tg, iter, ifs, 0⟩ :: rest) scope pos) env = (do
      let x ← genFold iter env (← (do let v ← eval iter env; standAt iter.pos; pure v))
      let it ← holding [x] (pyIter x)
      enterFrame
      let cl ← closureFor scope env
      let code ← genexprCode env pos (env.qual ++ "<genexpr>") scope
      let bi ← builtinsFor env.globals env.builtins
      newGenerator (.compStart (.GeneratorExp elt (⟨tg, iter, ifs, 0⟩ :: rest) scope pos) 0 it .none (← newFunctionEnv scope env.globals cl [(".0", it)] (env.qual ++ "<genexpr>.") none code none bi)) "<genexpr>" (env.qual ++ "<genexpr>")) := by
  rw [arm_eval_GeneratorExp]
  simp only [hco, Bool.false_eq_true, if_false]
  cases iter <;> simp only [bind_assoc, pure_bind] <;> rfl
end
section
variable {M : Model} {A : Around} {E : Value → Shared → Prop} {s : Shared}
/-- it is made, and stands unwoken -/
theorem gy_gen {env : Env} {elt tg iter : Expr} {ifs : List Expr} {rest : List Comprehension} {scope : Scope} {cl : List (Str × Addr)} {pos : Pos} {Q : Value → Shared → Prop}
    (hco : scope.isCoroutine = false) (hclos : closureFor scope env = pure cl) (hcell : ∀ y ∈ scope.names, y.2 ≠ .cell) (hdot : scope.names.lookup (".0" : Str) = some NameKind.local) (hkind : scope.kind = .function) (hroom : A.depth < recursionLimit)
    (h : wpAny M A (eval iter env) (fun xv t1 => wpAny M A (pyIter xv) (fun it t2 => t2.heap.NoLimit ∧
      wpAny M A (genexprCode env pos (env.qual ++ "<genexpr>") scope) (fun code t3 => wpAny M A (builtinsFor env.globals env.builtins) (fun bi t4 =>
        ∀ h', h'.Ns t4.heap.objs.size (fun y => if y = ".0" then some it else none) → Heap.SameBut t4.heap.objs.size (t4.heap.push { cls := .type "frame", data := .dict #[] }) h' →
          Q (.ref h'.objs.size) { t4 with gens := t4.gens.push (.fresh (.compStart (.GeneratorExp elt (⟨tg, iter, ifs, 0⟩ :: rest) scope pos) 0 it .none (genEnv scope cl t4.heap.objs.size code bi env))), toks := t4.toks + 1 + 1 + 1, heap := h'.push { cls := .type "generator", data := .fields #[.int t4.gens.size 0, .str "<genexpr>" (t4.toks + 1), .str (env.qual ++ "<genexpr>") (t4.toks + 1 + 1)] } }) E t3) E t2) E t1) E s)
    (hs : ∀ x, genFold iter env x = pure x) (hr : rest.all (fun c => c.is_async == 0) = true := by rfl) :
    wpAny M A (eval (.GeneratorExp elt (⟨tg, iter, ifs, 0⟩ :: rest) scope pos) env) Q E s := by
  rw [gy_eval _ _ _ _ _ _ _ _ hr hco, hclos]
  refine wpAny_bind (wpAny_bind (wpAny_mono h (fun xv t1 h1 => ?_) fun _ _ e => e))
  refine wpAny_bind (wpAny_standAt (wpAny_pure (wpAny_bind (wpAny_of_eq (hs xv) ?_))))
  refine wpAny_bind (wpAny_holding (wpAny_mono h1 (fun it t2 h2 => ?_) fun _ _ e => e))
  refine wpAny_bind (wpAny_enterFrame h2.1 hroom (wpAny_bind (wpAny_pure (wpAny_bind (wpAny_mono h2.2 (fun code t3 h3 => wpAny_bind (wpAny_mono h3 (fun bi t4 h4 => ?_) fun _ _ e => e)) fun _ _ e => e)))))
  have hb : ∀ y ∈ ([((".0" : Str), it)] : List (Str × Value)), scope.names.lookup y.1 = some NameKind.local := fun y hy => by
    rw [List.mem_singleton.mp hy]
    exact hdot
  refine wpAny_bind (wpAny_newFunctionEnv hcell hb (fun h' hn hk => ?_) hkind)
  have e : (fun y : Str => ([((".0" : Str), it)] : List (Str × Value)).reverse.lookup y) = fun y : Str => if y = (".0" : Str) then some it else none := by
    funext y
    by_cases hy : y = (".0" : Str)
    · simp [hy]
    · have z : (y == (".0" : Str)) = false := beq_eq_false_iff_ne.mpr hy
      simp only [List.reverse_singleton, List.lookup, z, if_neg hy]
  rw [e] at hn
  simp only [newGenerator, newFields]
  exact wpAny_bind (wpAny_newGen (wpAny_bind (wpAny_mkText (wpAny_bind (wpAny_mkText (wpAny_newObj_type (h4 h' hn hk) (by size_fits)))))))
end
section
open GenW
variable {X : Cx} {pins : List (Addr × Obj)} {σ : L2.St} {H : Hp} {s : Shared} {α : Type}
theorem gy_start0 {Z : Cx} {os fp : List Addr} {c : Cons α} {Rel : α → Shared → Prop} {Q : VK} {elt tg iter tg1 iter1 : Expr} {ifs ifs1 : List Expr} {scope : Scope} {pos : Pos} {it : Addr} {tn : Nat → Heap → Prop} {J : It} {g g1 : TG} {tt tt1 : TT} {te : TE} {wi1 : TI} {vs vs1 : List Nat} {W : Nat → Nat → α → Hp → Prop} {A : Around}
    (hA : A.deeper Z.env = Z.A) (hpn : Z.pn = []) (hex : Z.ex = fp) (hc : Z.calm = true) (hxe : Z.xe = fun _ _ => False) (hco : Z.env.scope.isCoroutine = false) (hO : OsOk Z os) (T : Turn Z.prog Z.w Z.K tg J fp it tn) (pg : PG Z tg g) (pt : PTs Z ifs tt) (pi1 : PI Z tg1 iter1 wi1) (pg1 : PG Z tg1 g1) (pt1 : PTs Z ifs1 tt1) (pe : PE Z elt te)
    (hs1 : ∀ x, foldedSetIterable iter1 Z.env x = pure x) (hv : ∀ i ∈ vs1, i ∈ vs) (run : Runs2 J g tt wi1 g1 tt1 te vs vs1 σ c Q W)
    {m n : Nat} {a : α} {H : Hp} {s₀ s : Shared} (hmn : m < n) (w : W 0 m a H) (hrel : Rel a s₀) (at_ : At Z os fp tn σ vs 0 H s₀ s) :
      Seg (model Z.prog Z.w) A (GEx Z os c Rel Q) (GYx Z os c Rel Q) n s₀ (.compStart (.GeneratorExp elt [⟨tg, iter, ifs, 0⟩, ⟨tg1, iter1, ifs1, 0⟩] scope pos) 0 (.ref it) .none Z.env) ((model Z.prog Z.w).den (.compStart (.GeneratorExp elt [⟨tg, iter, ifs, 0⟩, ⟨tg1, iter1, ifs1, 0⟩] scope pos) 0 (.ref it) .none Z.env)) [] s := by
  have loop := gy_loop (iter := iter) (iter1 := iter1) (scope := scope) (pos := pos) hA hpn hex hc hxe hco hO T pg pt pi1 pg1 pt1 pe hs1 hv run m n 0 a H s₀ s hmn w hrel at_
  show Seg _ A _ _ _ s₀ _ ((compStart (.GeneratorExp elt [⟨tg, iter, ifs, 0⟩, ⟨tg1, iter1, ifs1, 0⟩] scope pos) 0 (.ref it) .none Z.env).onRaise (leaving Z.env)) [] s
  unfold compStart
  rw [Sem.onRaise_eq_wrap]
  show Seg _ A _ _ _ s₀ _ ((ask >>= _).wrap _ _ _ _) [] s
  refine seg_bind_wrap (wpAny_askSetting ?_)
  split
  · exact seg_again rfl loop
  · refine seg_bind_wrap (wpAny_rule ?_)
    show Seg _ A _ _ _ s₀ _ ((standAt iter.pos >>= _).wrap _ _ _ _) [] s
    exact seg_bind_wrap (wpAny_standAt (seg_bind_wrap (T.self _ 0 s _ _ at_.tn (seg_again rfl loop))))
/-- walked: what is asked -/
def tGy (P : Addr) (c : Cons α) (a0 : α) (wi : TI) (g : TG) (tt : TT) (wi1 : TI) (g1 : TG) (tt1 : TT) (te : TE) (vs vs1 : List Nat) : TE := fun σ H Q => wi σ H fun J H1 => GxR.TabG H1 P ∧ ∀ H2, GxR.Tabbed P H1 H2 → ∃ W : Nat → Nat → α → Hp → Prop, (∃ m, W 0 m a0 H2) ∧ Runs2 J g tt wi1 g1 tt1 te vs vs1 σ c Q W
theorem gy_make {c P : Addr} {elt tg iter tg1 iter1 : Expr} {ifs ifs1 : List Expr} {scope : Scope} {own : List (Str × Nat)} {gpos : Pos} {k : Nat} {vs1 : List Nat} {wi wi1 : TI} {g g1 : TG} {tt tt1 : TT} {te : TE} {cs : Cons α} {a0 : α} {Q : VK} {Q' : Value → Shared → Prop}
    (hr : Room k X.A) (hcalm : X.calm = true) (hN : X.N.Nodup) (TB : GxR.TabB X.base X.mg c P) (hcode : X.env.code = .ref c) (ok : GBlk X.N X.env.scope scope own) (hi : PI X tg iter wi) (hs : ∀ v, genFold iter X.env v = pure v)
    (hg : ∀ (s : Shared) (H : Hp) (C : Addr) (code : Value) (fp : List Addr), PG (gcx X s H (genEnv scope (cloFrom X.env.cells scope.names []) C code builtinsNs X.env) fp) tg g)
    (ht : ∀ (s : Shared) (H : Hp) (C : Addr) (code : Value) (fp : List Addr), PTs (gcx X s H (genEnv scope (cloFrom X.env.cells scope.names []) C code builtinsNs X.env) fp) ifs tt)
    (hi1 : ∀ (s : Shared) (H : Hp) (C : Addr) (code : Value) (fp : List Addr), PI (gcx X s H (genEnv scope (cloFrom X.env.cells scope.names []) C code builtinsNs X.env) fp) tg1 iter1 wi1)
    (hg1 : ∀ (s : Shared) (H : Hp) (C : Addr) (code : Value) (fp : List Addr), PG (gcx X s H (genEnv scope (cloFrom X.env.cells scope.names []) C code builtinsNs X.env) fp) tg1 g1)
    (ht1 : ∀ (s : Shared) (H : Hp) (C : Addr) (code : Value) (fp : List Addr), PTs (gcx X s H (genEnv scope (cloFrom X.env.cells scope.names []) C code builtinsNs X.env) fp) ifs1 tt1)
    (hs1 : ∀ env x, foldedSetIterable iter1 env x = pure x) (hv : ∀ i ∈ vs1, i ∈ own.map (·.2))
    (he : ∀ (s : Shared) (H : Hp) (C : Addr) (code : Value) (fp : List Addr), PE (gcx X s H (genEnv scope (cloFrom X.env.cells scope.names []) C code builtinsNs X.env) fp) elt te)
    (I : Inv X pins σ H s) (h : tGy P cs a0 wi g tt wi1 g1 tt1 te (own.map (·.2)) vs1 σ H Q) (fin : ∀ ga s5, GxReady X pins σ cs a0 Q ga s5 → Q' (.ref ga) s5) :
    wpAny (model X.prog X.w) X.A (eval (.GeneratorExp elt [⟨tg, iter, ifs, 0⟩, ⟨tg1, iter1, ifs1, 0⟩] scope gpos) X.env) Q' X.xe s := by
  have hfree : ∀ y ∈ scope.names, y.2 = .free → ∃ c, X.env.cells.lookup y.1 = some c := fun y hy e =>
    (ok.free y hy e).elim (fun k => I.ok.has _ (.inl k)) fun k => I.ok.has _ (.inr k)
  refine gy_gen ok.co (closure_ok hfree) ok.nocell ok.dot ok.kind hr.depth ?_ hs
  refine thn (hi.run pins s σ H _ I h) fun xv t1 hx => thn hx fun itv t2 h2 => ?_
  obtain ⟨it, fp, tn, J, H1, rfl, I1, T, st1, f1, tab, q⟩ := h2
  obtain ⟨ps, hP, tr⟩ := id tab
  have gP : t2.heap.get? P = some { cls := .none, data := .fields ps } := I1.hok P _ hP
  have cd : PySem.W.CodeHd t2.heap c P := TB.code.keeps fun b u e => I1.bk b u e
  refine ⟨I1.nolimit, ?_⟩
  have fpP : ∀ b ∈ fp, b ≠ P := fun b hb z => by
    have := (f1 b hb).1
    rw [z, hP] at this
    cases this
  have rest : ∀ (code : Value) (h3 : Heap) (tk : Nat) (qs : Array Value), Heap.ExtBut P t2.heap h3 → t2.heap.objs.size ≤ h3.objs.size → h3.get? P = some { cls := .none, data := .fields qs } → (∃ more, qs = ps ++ more) → TriplesOk qs.toList →
      wpAny (model X.prog X.w) X.A (builtinsFor X.env.globals X.env.builtins) (fun bi s₄ => ∀ h', h'.Ns s₄.heap.objs.size (fun y => if y = ".0" then some (.ref it) else none) → Heap.SameBut s₄.heap.objs.size (s₄.heap.push { cls := .type "frame", data := .dict #[] }) h' →
          Q' (.ref h'.objs.size) { s₄ with gens := s₄.gens.push (.fresh (.compStart (.GeneratorExp elt [⟨tg, iter, ifs, 0⟩, ⟨tg1, iter1, ifs1, 0⟩] scope gpos) 0 (.ref it) .none (genEnv scope (cloFrom X.env.cells scope.names []) s₄.heap.objs.size code bi X.env))), toks := s₄.toks + 1 + 1 + 1, heap := h'.push { cls := .type "generator", data := .fields #[.int s₄.gens.size 0, .str "<genexpr>" (s₄.toks + 1), .str (X.env.qual ++ "<genexpr>") (s₄.toks + 1 + 1)] } }) X.xe { t2 with heap := h3, toks := tk } := by
    intro code h3 tk qs hx hsz gP3 ⟨more, em⟩ tr3
    obtain ⟨bm, ob, b1, b2, b3, b4, b5, b6, b7, b8⟩ := TB.bm
    have kp3 : ∀ b u, b ≠ P → t2.heap.get? b = some u → h3.get? b = some u := fun b u hb e => hx b u hb e
    refine wpAny_builtinsFor (m := X.mg) (by rw [I1.ok.glob]; exact (I1.mod.glob.keeps I1.bk).extBut hx TB.gP) b1 b2 (kp3 _ _ b4 (I1.bk _ _ b5)) b6 b7 b8 ?_
    subst em
    have I3 : Inv X pins σ (upd H1 P (.tbl (ps ++ more))) { t2 with heap := h3, gens := t2.gens, drawn := t2.drawn, toks := tk } := GxR.inv_tab I1 hP kp3 gP3 I1.bare
    obtain ⟨W, ⟨m0, w0⟩, run⟩ := q (upd H1 P (.tbl (ps ++ more))) ⟨⟨_, upd_same, tr3⟩, fun b hb => upd_ne hb⟩
    have lt1 : ∀ b ∈ fp, b < t2.heap.objs.size := fun b hb => by
      obtain ⟨o, e, _⟩ := T.obj _ _ st1 b hb
      exact Heap.lt_size e
    have st3 : tn 0 h3 := T.keep _ _ _ st1 fun b hb o e => kp3 b o (fpP b hb) e
    have f3 : ∀ b ∈ fp, FpOk X pins (upd H1 P (.tbl (ps ++ more))) b ∧ b < h3.objs.size := fun b hb => by
      refine ⟨⟨?_, (f1 b hb).2⟩, Nat.lt_of_lt_of_le (lt1 b hb) hsz⟩
      rw [upd_ne (fpP b hb)]
      exact (f1 b hb).1
    intro h' hn' sb'
    have sz' : h'.objs.size = h3.objs.size + 1 := by
      rw [sb'.1, Heap.size_push]
    have kp' : ∀ b o, h3.get? b = some o → h'.get? b = some o := fun b o e => sb'.extBut b o (Nat.ne_of_lt (Heap.lt_size e)) (Heap.get?_push_of_some _ e)
    generalize hgo : ({ cls := .type "generator", data := .fields #[.int t2.gens.size 0, .str "<genexpr>" (tk + 1), .str (X.env.qual ++ "<genexpr>") (tk + 1 + 1)] } : Obj) = go
    have kp5 : ∀ b o, h3.get? b = some o → (h'.push go).get? b = some o := fun b o e => Heap.get?_push_of_some _ (kp' b o e)
    generalize hH3 : upd H1 P (.tbl (ps ++ more)) = H3 at I3 w0 f3
    have at5 : (h'.push go).get? h'.objs.size = some go := by
      rw [← hgo]
      exact Heap.get?_push_size _ rfl
    have bare5 : AllBare (t2.gens.push (.fresh (.compStart (.GeneratorExp elt [⟨tg, iter, ifs, 0⟩, ⟨tg1, iter1, ifs1, 0⟩] scope gpos) 0 (.ref it) .none (genEnv scope (cloFrom X.env.cells scope.names []) h3.objs.size code builtinsNs X.env)))) := AllBare.push I1.bare rfl
    have pg := hg { t2 with heap := h3, gens := t2.gens, drawn := t2.drawn, toks := tk } H3 h3.objs.size code fp
    have pt := ht { t2 with heap := h3, gens := t2.gens, drawn := t2.drawn, toks := tk } H3 h3.objs.size code fp
    have pi1 := hi1 { t2 with heap := h3, gens := t2.gens, drawn := t2.drawn, toks := tk } H3 h3.objs.size code fp
    have pg1 := hg1 { t2 with heap := h3, gens := t2.gens, drawn := t2.drawn, toks := tk } H3 h3.objs.size code fp
    have pt1 := ht1 { t2 with heap := h3, gens := t2.gens, drawn := t2.drawn, toks := tk } H3 h3.objs.size code fp
    have pe := he { t2 with heap := h3, gens := t2.gens, drawn := t2.drawn, toks := tk } H3 h3.objs.size code fp
    have start : ∀ (h2 : Heap) (g2 : Array GenState) (tk2 : Nat), h2.Ns h3.objs.size (fun y => if y = ".0" then some (.ref it) else none) → (∀ b o, h3.get? b = some o → h2.get? b = some o) → AllBare g2 → _ := fun h2 g2 tk2 a1 a2 a3 =>
      gblk_start (s := { t2 with heap := h3, gens := t2.gens, drawn := t2.drawn, toks := tk }) (code := code) (h' := h2) (g' := g2) (tk := tk2) I3 ok hN f3 a1 a2 a3
    have hco' : (genEnv scope (cloFrom X.env.cells scope.names []) h3.objs.size code builtinsNs X.env).scope.isCoroutine = false := ok.co
    have hL : (genEnv scope (cloFrom X.env.cells scope.names []) h3.objs.size code builtinsNs X.env).locals = h3.objs.size := rfl
    have oso : ∀ b, h3.objs.size < b → h3.objs.size ≤ b ∧ b ≠ h3.objs.size ∧ (∀ x c, (cloFrom X.env.cells scope.names []).lookup x = some c → c ≠ b) ∧ b ∉ fp := fun b hb => by
      refine ⟨Nat.le_of_lt hb, Nat.ne_of_gt hb, fun x c e z => ?_, fun hm => ?_⟩
      · rcases cloFrom_mem (PySem.mem_of_lookup e) with hm | ⟨h1, h2⟩
        · cases hm
        · obtain ⟨c', hc'⟩ := hfree _ h1 rfl
          rw [hc'] at h2
          have h2 : c = c' := h2
          obtain ⟨w, zz⟩ := I3.cell _ _ hc'
          have := zz.lt
          have : c' < h3.objs.size := this
          rw [← h2, z] at this
          exact absurd (Nat.lt_trans this hb) (Nat.lt_irrefl _)
      · exact absurd (Nat.lt_trans (f3 b hm).2 hb) (Nat.lt_irrefl _)
    refine fin h'.objs.size _ ⟨gcx X { t2 with heap := h3, gens := t2.gens, drawn := t2.drawn, toks := tk } H3 (genEnv scope (cloFrom X.env.cells scope.names []) h3.objs.size code builtinsNs X.env) fp, t2.gens.size, m0 + 1, _, ⟨go, _, _, at5, by rw [← hgo], by rw [← hgo], by rw [← hgo]⟩, Array.getElem?_push_size .., I3.nolimit.keeps kp5, bare5, rfl, rfl, rfl, fun τ H' s' I' => ?_, fun b hb => ?_, fun S hS => ⟨fun b hb => ?_, ?_⟩, ?_⟩
    · exact I3.call' (ch := fp) I'.os I'.base I'.hok I'.bare fun b hb => ⟨(f3 b hb).1.2.2.2.1, (f3 b hb).1.2.1, (f3 b hb).1.2.2.2.2.1, (f3 b hb).1.2.2.2.2.2⟩
    · rw [List.mem_singleton.mp hb]
      exact oso _ (by rw [sz']; exact Nat.lt_succ_self _)
    · have hS : (h'.push go).objs.size ≤ S := hS
      rw [Heap.size_push] at hS
      rcases List.mem_cons.mp hb with e | e
      · rw [e]
        exact oso _ (by rw [sz']; exact Nat.lt_succ_self _)
      · rw [List.mem_singleton.mp e]
        exact oso _ (by omega)
    · have hS : (h'.push go).objs.size ≤ S := hS
      rw [Heap.size_push] at hS
      exact Nat.ne_of_gt hS
    · intro os Rel s2 hO hos hk2 ho2 hb2 hex2 rel
      have hk3 : ∀ b o, h3.get? b = some o → s2.heap.get? b = some o := fun b o e => hk2 b o (kp5 b o e)
      have hn2 : s2.heap.Ns h3.objs.size (fun y => if y = ".0" then some (.ref it) else none) := Heap.Ns.keeps hn' fun b o e => hk2 b o (Heap.get?_push_of_some _ e)
      have J0 := start s2.heap s2.gens s2.toks hn2 hk3 hb2
      have J2 := inv_regen (s' := s2) J0 (ho2.trans rfl) rfl hb2
      have hos3 : ∀ b ∈ os, h3.objs.size < b := fun b hb => by
        rcases hos b hb with e | e
        · rw [e, sz']
          exact Nat.lt_succ_self _
        · have e : (h'.push go).objs.size ≤ b := e
          rw [Heap.size_push] at e
          omega
      have J3 := J2.pins_of (pins' := pinsAt os s2.heap) fun p hp => by
        obtain ⟨hb, e⟩ := of_pinsAt hp
        obtain ⟨o, e', hc⟩ := hex2 p.1 hb
        rw [e] at e'
        cases e'
        refine ⟨e, I3.hok.fresh (Nat.le_of_lt (hos3 p.1 hb)), (hO p.1 hb).2.1, fun hm => ?_, hc⟩
        have hm : p.1 ∈ frs X.stack := hm
        have := (I3.stack.mem hm).2
        obtain ⟨o2, e2, _⟩ := this
        exact absurd (Nat.lt_trans (Heap.lt_size e2) (hos3 p.1 hb)) (Nat.lt_irrefl _)
      exact gy_start0 (Z := gcx X { t2 with heap := h3, gens := t2.gens, drawn := t2.drawn, toks := tk } H3 (genEnv scope (cloFrom X.env.cells scope.names []) h3.objs.size code builtinsNs X.env) fp) (A := X.A.in1.in1) rfl rfl rfl hcalm rfl hco' hO T pg pt pi1 pg1 pt1 pe (hs1 _) hv run (Nat.lt_succ_self m0) w0 rel ⟨J3, T.keep _ _ _ st3 fun b hb o e => hk3 b o e, fun b hb => (f3 b hb).1.1, fun b hb => by
        obtain ⟨o, e, _⟩ := hex2 b hb
        exact ⟨o, e⟩⟩
  cases hf : codeAmong gpos ps.toList with
  | none =>
    refine wpAny_genexprCodeX hcode (cd.code gP tr) (cd.tab gP) hf fun c' h' tk hx hge hlt hco _ htab _ => ?_
    obtain ⟨_, _, _, _, _, _, _, _, _, _, _, _, _, _, _, _, _, _, _, htr, _⟩ := hco
    exact rest _ h' tk _ hx (Nat.le_trans hge (Nat.le_of_lt hlt)) htab.2 ⟨_, rfl⟩ htr
  | some cv =>
    refine wpAny_genexprCode_hit hcode (cd.code gP tr) hf ?_
    exact rest cv t2.heap t2.toks ps (Heap.ExtBut.refl _ _) (Nat.le_refl _) gP ⟨#[], by simp⟩ tr
end
section
open GenW
variable {X : Cx} {c P : Addr} {elt tg iter tg1 iter1 : Expr} {ifs ifs1 : List Expr} {scope : Scope} {own : List (Str × Nat)} {gpos p pos : Pos} {k : Nat} {vs1 : List Nat} {wi wi1 : TI} {g g1 : TG} {tt tt1 : TT} {te : TE}
theorem pe_gyAny (hr : Room k X.A) (hcalm : X.calm = true) (hN : X.N.Nodup) (hgl : Gl X "any") (hm : X.mg "any" = none) (hba : bootBuiltins "any" = some (.builtin "any")) (TB : GxR.TabB X.base X.mg c P) (hcode : X.env.code = .ref c) (ok : GBlk X.N X.env.scope scope own) (hi : PI X tg iter wi)
    (hg : ∀ (s : Shared) (H : Hp) (C : Addr) (code : Value) (fp : List Addr), PG (gcx X s H (genEnv scope (cloFrom X.env.cells scope.names []) C code builtinsNs X.env) fp) tg g)
    (ht : ∀ (s : Shared) (H : Hp) (C : Addr) (code : Value) (fp : List Addr), PTs (gcx X s H (genEnv scope (cloFrom X.env.cells scope.names []) C code builtinsNs X.env) fp) ifs tt)
    (hi1 : ∀ (s : Shared) (H : Hp) (C : Addr) (code : Value) (fp : List Addr), PI (gcx X s H (genEnv scope (cloFrom X.env.cells scope.names []) C code builtinsNs X.env) fp) tg1 iter1 wi1)
    (hg1 : ∀ (s : Shared) (H : Hp) (C : Addr) (code : Value) (fp : List Addr), PG (gcx X s H (genEnv scope (cloFrom X.env.cells scope.names []) C code builtinsNs X.env) fp) tg1 g1)
    (ht1 : ∀ (s : Shared) (H : Hp) (C : Addr) (code : Value) (fp : List Addr), PTs (gcx X s H (genEnv scope (cloFrom X.env.cells scope.names []) C code builtinsNs X.env) fp) ifs1 tt1)
    (hs1 : ∀ env x, foldedSetIterable iter1 env x = pure x) (hv : ∀ i ∈ vs1, i ∈ own.map (·.2))
    (he : ∀ (s : Shared) (H : Hp) (C : Addr) (code : Value) (fp : List Addr), PE (gcx X s H (genEnv scope (cloFrom X.env.cells scope.names []) C code builtinsNs X.env) fp) elt te) (hs : ∀ v, genFold iter X.env v = pure v)
    (hst : starEach [.GeneratorExp elt [⟨tg, iter, ifs, 0⟩, ⟨tg1, iter1, ifs1, 0⟩] scope gpos] X.env = (false, eval (.GeneratorExp elt [⟨tg, iter, ifs, 0⟩, ⟨tg1, iter1, ifs1, 0⟩] scope gpos) X.env) :: starEach [] X.env := by rfl) :
    PE X (.Call (.Name "any" p) [.GeneratorExp elt [⟨tg, iter, ifs, 0⟩, ⟨tg1, iter1, ifs1, 0⟩] scope gpos] [] pos) (tGy P cAny () wi g tt wi1 g1 tt1 te (own.map (·.2)) vs1) := by
  constructor
  intro pins s σ H Q I hh
  refine wpAny_Call_Name_kw (ld_blt I hgl hm hba ?_)
  refine PyProof.Rows.callWith_builtin1 ?_ hst (by rfl)
  rw [hst]
  show wpAny _ _ (spliced ((false, eval (.GeneratorExp elt [⟨tg, iter, ifs, 0⟩, ⟨tg1, iter1, ifs1, 0⟩] scope gpos) X.env) :: backTo pos (starEach [] X.env))) _ _ s
  refine Calls.spliced_cons (gy_make hr hcalm hN TB hcode ok hi hs hg ht hi1 hg1 ht1 hs1 hv he I hh fun ga s5 R => Calls.spliced_nil ?_)
  obtain ⟨Z, gi, n, c0, hgen, hgs, hl, hb, eP, eW, _, back, hO, _, seg⟩ := R
  rw [← eP, ← eW] at *
  refine call_function_tree F.kind_any F.plain_any F.entry_any (F.args_any1 _) ?_
  unfold Builtin.«any»
  refine wpAny_bind (m := oneArg "any" _) (wpAny_pure ?_)
  refine wpAny_bind (wpAny_pyIter_gen hgen ?_)
  refine wpAny_pure ⟨plainId_quiet F.plain_any_loop _, bool_drain (Z := Z) (g := gi) (Q := Q) (c := cAny) false true (fun y k f h => ?_) (fun f h => h) hr.hd hr.depth (fun b H' τ s' I' q => ?_) any_body n s5 hgen hl ⟨_, hgs, rfl, seg [ga] _ _ hO (fun b hb => .inl (List.mem_singleton.mp hb)) (fun b o e => e) rfl (allBare_setGen hb rfl) (fun b hb => ?_) True.intro⟩⟩
  · obtain ⟨b, rfl, h⟩ := h
    exact ⟨b, rfl, fun e => by rw [if_neg (by rw [e]; decide)] at h; exact h, fun e => by rw [if_pos (show b = true from e)] at h; exact h⟩
  · exact ⟨.bl b, H', back τ H' s' I', rfl, q⟩
  · rw [List.mem_singleton.mp hb]
    obtain ⟨o, nm, qn, ho, h1, h2, h3⟩ := hgen
    exact ⟨o, ho, fun v q => by rw [h2] at q; cases q⟩
end
section
variable {c : Vc} {fx vs E et : List Nat} {g : TG} {wg : VWG} {tt : TT} {wt : VWT}
/-- a turn whose inside is told by what follows -/
theorem turn_simK {σ : L2.St} {H1 H2 H3 : Hp} {Fs1 Fs2 : Fp} {env2 : VEnv} {v : V} {x : Val} {F : List Addr} {PT : L2.St → Hp → Prop} {P' : Hp → Prop} {RT R' : VEnv → Prop}
    (hg : SimG c fx g wg) (ht : SimT c tt et wt) (hvs : disj vs c.ms = true) (hfx : ((List.range (c.N + c.g)).all fun j => vs.contains j || fx.contains j) = true) (he1 : sub et E = true)
    (o : Ok0 c E (wipe σ vs) H1 Fs1 env2 H2 Fs2) (sm : Same H2 H3) (r : Rp c.K H3 F v x) (sr : Src c.ms [] F Fs2) (hw : wg x env2 fun env3 => wt env3 fun b env4 => if b = true then RT env4 else R' (wipeE env4 vs))
    (k : ∀ σ4 env5 H5 Fs5, wipe σ4 vs = wipe σ vs → Sr c env5 σ4 H5 Fs5 → (∀ (e' : List Nat) env6 H6 Fs6, (∀ j ∈ e', j ∈ E) → Ok0 c e' σ4 H5 Fs5 env6 H6 Fs6 → Ok0 c E (wipe σ vs) H1 Fs1 (wipeE env6 vs) H6 (wipeF Fs6 vs)) → RT env5 → PT σ4 H5)
    (k' : ∀ env5 H5 Fs5, Ok0 c E (wipe σ vs) H1 Fs1 env5 H5 Fs5 → R' env5 → P' H5) :
    g v (wipe σ vs) H3 fun σ4 H4 => wipe σ4 vs = wipe σ vs ∧ tt σ4 H4 fun b H5 => if b = true then PT σ4 H5 else P' H5 := by
  have o3 := o.grow sm
  have S3 := o3.sr
  refine hg.sim v x F env2 (wipe σ vs) H3 Fs2 _ _ S3 r sr hw fun env4 σ4 Fs4 S4 e4 f4 q4 => ?_
  have ew : wipe σ4 vs = wipe σ vs := by
    have e0 : wipe σ4 vs = wipe (wipe σ vs) vs := by
      refine wipe_ext (by rw [S4.ls, S3.ls]) fun j hj => ?_
      by_cases hN : j < c.N + c.g
      · have := List.all_eq_true.mp hfx j (List.mem_range.mpr hN)
        rw [Bool.or_eq_true] at this
        rcases this with z | z
        · exact absurd (by simpa using z) hj
        · exact (f4 j (by simpa using z)).1
      · rw [List.getElem?_eq_none (by rw [S4.ls]; omega), List.getElem?_eq_none (by rw [S3.ls]; omega)]
    rw [e0]
    exact wipe_ext (by rw [wipe_length]) fun j hj => wipe_get hj
  have val : ∀ {e' : List Nat} {env5 : VEnv} {H5 : Hp} {Fs5 : Fp}, (∀ j ∈ e', j ∈ E) → Ok0 c e' σ4 H3 Fs4 env5 H5 Fs5 → Ok0 c E (wipe σ vs) H1 Fs1 (wipeE env5 vs) H5 (wipeF Fs5 vs) := fun {e' env5 H5 Fs5} hs o5 => by
    have S5 := o5.sr.wipe (vs := vs) hvs
    rw [ew] at S5
    have ef4 : Eff c.ms [] Fs2 H3 Fs4 H3 := ⟨(fun _ h => nomatch h), Kp.refl _ _, fun _ h => h, fun j hj _ => e4 j hj, fun j hj a ha => .inl (by rw [← e4 j hj]; exact ha)⟩
    refine ⟨S5, (((o3.ef.trans ef4).trans o5.ef).trans (eff_wipe hvs)).mono (fun j hj => ?_) o.ef.sub, fun j hj a ha => ?_⟩
    · simp only [List.append_nil, List.mem_append] at hj
      exact hj.elim id (hs j)
    · have a5 := o5.vl j hj a (wipeF_sub ha)
      -- a slot that is neither own nor of the block stands as it stood
      by_cases hv : j ∈ vs
      · unfold wipeF at ha
        rw [if_pos hv] at ha
        cases ha
      · by_cases hN : j < c.N + c.g
        · have h0 := List.all_eq_true.mp hfx j (List.mem_range.mpr hN)
          rw [Bool.or_eq_true] at h0
          have hjf : j ∈ fx := h0.elim (fun z => absurd (by simpa using z) hv) fun z => by simpa using z
          rw [(f4 j hjf).2] at a5
          exact o3.vl j hj a a5
        · rw [S4.emp j fun d hd => by
            have := (List.getElem?_eq_some_iff.mp hd).1
            rw [S4.le] at this
            omega] at a5
          cases a5
  refine ⟨ew, ht.sim env4 σ4 H3 Fs4 _ _ S4 q4 fun b env5 H5 Fs5 o5 q5 => ?_⟩
  cases b with
  | true => exact iteT (k σ4 env5 H5 Fs5 ew o5.sr (fun e' env6 H6 Fs6 hs o6 => val (fun j hj => (List.mem_append.mp hj).elim (sub_iff he1 j) (hs j)) (o5.trans o6)) q5)
  | false => exact iteF (k' _ H5 _ (val (sub_iff he1) o5) q5)
end
section
variable {c : Vc} {fx fx1 vs vs1 ei et ei1 et1 ee s' : List Nat} {ti ti1 : TI} {wi wi1 : VWI} {g g1 : TG} {wg wg1 : VWG} {tt tt1 : TT} {wt wt1 : VWT} {te : TE} {we : VW} {f' : Option (List Nat)}
/-- L: no second list is longer -/
def wGy {α : Type} (vc : VCons α) (a0 : α) (wi : VWI) (wg : VWG) (wt : VWT) (wi1 : VWI) (wg1 : VWG) (wt1 : VWT) (we : VW) (vs vs1 : List Nat) : VW := fun env Q => wi env fun xs env1 => ∃ (L : Nat) (I : Nat → α → VEnv → Prop), I 0 a0 (wipeE env1 vs) ∧
  (∀ i x a env', xs[i]? = some x → I i a env' → wg x env' fun env2 => wt env2 fun b env3 => if b = true then wi1 env3 fun ys env4 => ys.length ≤ L ∧ ∃ I1 : Nat → α → VEnv → Prop, I1 0 a (wipeE env4 vs1) ∧
      (∀ j y a env', ys[j]? = some y → I1 j a env' → wg1 y env' fun env5 => wt1 env5 fun b env6 => if b = true then we env6 fun z env7 => vc.step a z (fun a' => I1 (j + 1) a' (wipeE env7 vs1)) (fun u => app2 Q u (wipeE (wipeE env7 vs1) vs)) else I1 (j + 1) a (wipeE env6 vs1)) ∧
      ∀ a env', I1 ys.length a env' → I (i + 1) a (wipeE env' vs)
    else I (i + 1) a (wipeE env3 vs)) ∧
  ∀ a env', I xs.length a env' → vc.fin a fun u => app2 Q u env'
theorem simE_gy {α : Type} {cs : Cons α} {vc : VCons α} {a0 : α} {P : Addr} (hcs : CSim c.K cs vc) (hi : SimI c ti [] ei wi) (hg : SimG c fx g wg) (ht : SimT c tt et wt) (hi1 : SimI c ti1 [] ei1 wi1) (hg1 : SimG c fx1 g1 wg1) (ht1 : SimT c tt1 et1 wt1) (he : SimE c te s' f' ee we) (hP : P ∈ c.Ps.g) (hvs : disj vs c.ms = true) (hvs1 : disj vs1 c.ms = true)
    (hfx : ((List.range (c.N + c.g)).all fun j => vs.contains j || fx.contains j) = true) (hfx1 : ((List.range (c.N + c.g)).all fun j => vs1.contains j || fx1.contains j) = true) (hs1 : sub (et ++ (ei1 ++ (et1 ++ ee))) c.ms = true) (hs2 : sub (et1 ++ ee) c.ms = true) :
    SimE c (tGy P cs a0 ti g tt ti1 g1 tt1 te vs vs1) [] (some []) (ei ++ (et ++ (ei1 ++ (et1 ++ ee)))) (wGy vc a0 wi wg wt wi1 wg1 wt1 we vs vs1) := ⟨fun env σ H Fs Q R S hw k =>
  hi.sim env σ H Fs _ _ S hw fun J xs env1 H1 Fs1 o it q => ⟨o.sr.tb.1 P hP, fun H2 tb2 => by
    obtain ⟨L, I, I0, step, fin⟩ := q
    obtain ⟨tb', kp'⟩ := o.sr.tb.kp hP tb2
    have S1 := (o.sr.grow kp' tb').wipe (vs := vs) hvs
    have e12 : Eff c.ms [] Fs1 H1 (wipeF Fs1 vs) H2 := Eff.trans (e1 := []) (e2 := []) (.kps kp') (eff_wipe hvs)
    have o1 : Ok0 c (et ++ (ei1 ++ (et1 ++ ee))) (wipe σ vs) H2 (wipeF Fs1 vs) (wipeE env1 vs) H2 (wipeF Fs1 vs) := (Ok0.refl S1).weak (fun _ h => nomatch h) (sub_iff hs1)
    have out : ∀ {env5 : VEnv} {H5 : Hp} {Fs5 : Fp}, Ok0 c (et ++ (ei1 ++ (et1 ++ ee))) (wipe σ vs) H2 (wipeF Fs1 vs) env5 H5 Fs5 → Ok0 c (ei ++ (et ++ (ei1 ++ (et1 ++ ee)))) σ H Fs env5 H5 Fs5 := fun o5 => ⟨o5.sr.unwipe, o.ef.trans (e12.trans o5.ef), fun j hj a ha => o.vl j hj a (wipeF_sub (o5.vl j hj a ha))⟩
    refine ⟨fun i m a H3 => m = (xs.length - i) * (L + 1) ∧ i ≤ xs.length ∧ ∃ env3 Fs3, Ok0 c (et ++ (ei1 ++ (et1 ++ ee))) (wipe σ vs) H2 (wipeF Fs1 vs) env3 H3 Fs3 ∧ I i a env3, ⟨_, rfl, Nat.zero_le _, _, _, o1, I0⟩, ?_⟩
    rintro i m a H3 ⟨rfl, hi3, env3, Fs3, o3, i3⟩
    by_cases hlt : i < xs.length
    · obtain ⟨x, hx⟩ : ∃ x, xs[i]? = some x := ⟨_, List.getElem?_eq_getElem hlt⟩
      obtain ⟨go, yl⟩ := (it _ H3 Fs3 (e12.trans o3.ef) rfl i).1 x hx
      have hm : (xs.length - i) * (L + 1) = (xs.length - (i + 1)) * (L + 1) + (L + 1) := by
        rw [show xs.length - i = (xs.length - (i + 1)) + 1 by omega, Nat.succ_mul]
      refine .inr ⟨go, fun v H4 hy => ?_⟩
      obtain ⟨sm, F, r, sr⟩ := yl v H4 hy
      refine turn_simK hg ht hvs hfx (List.all_eq_true.mpr fun j hj => by simpa using Or.inl hj) o3 sm r sr (R' := fun env5 => I (i + 1) a env5) (step i x a env3 hx i3) ?_ ?_
      · intro σ4 env5 H5 Fs5 ew S5 back q5
        refine hi1.sim env5 σ4 H5 Fs5 _ _ S5 q5 fun J1 ys env6 H6 Fs6 o6 it1 q6 => ?_
        obtain ⟨hL, I1, I10, step1, fin1⟩ := q6
        have S6 := o6.sr.wipe (vs := vs1) hvs1
        have o7 : Ok0 c (et1 ++ ee) (wipe σ4 vs1) H6 (wipeF Fs6 vs1) (wipeE env6 vs1) H6 (wipeF Fs6 vs1) := (Ok0.refl S6).weak (fun _ h => nomatch h) (sub_iff hs2)
        have ew6 : Eff c.ms [] Fs6 H6 (wipeF Fs6 vs1) H6 := eff_wipe hvs1
        have out1 : ∀ {env8 : VEnv} {H8 : Hp} {Fs8 : Fp}, Ok0 c (et1 ++ ee) (wipe σ4 vs1) H6 (wipeF Fs6 vs1) env8 H8 Fs8 → Ok0 c (et ++ (ei1 ++ (et1 ++ ee))) (wipe σ vs) H2 (wipeF Fs1 vs) (wipeE env8 vs) H8 (wipeF Fs8 vs) := fun {env8 H8 Fs8} o8 =>
          back (ei1 ++ (et1 ++ ee)) env8 H8 Fs8 (fun j hj => List.mem_append_right _ hj) ⟨o8.sr.unwipe, o6.ef.trans (ew6.trans o8.ef), fun j hj a ha => o6.vl j hj a (wipeF_sub (o8.vl j hj a ha))⟩
        refine ⟨fun j kk a H7 => kk = (xs.length - (i + 1)) * (L + 1) + (ys.length - j) ∧ j ≤ ys.length ∧ ∃ env8 Fs8, Ok0 c (et1 ++ ee) (wipe σ4 vs1) H6 (wipeF Fs6 vs1) env8 H7 Fs8 ∧ I1 j a env8, ⟨_, ?_, rfl, Nat.zero_le _, _, _, o7, I10⟩, ?_⟩
        · rw [hm]
          omega
        · rintro j kk a' H7 ⟨rfl, hj, env8, Fs8, o8, i8⟩
          by_cases hjl : j < ys.length
          · obtain ⟨y, hy⟩ : ∃ y, ys[j]? = some y := ⟨_, List.getElem?_eq_getElem hjl⟩
            obtain ⟨go1, yl1⟩ := (it1 _ H7 Fs8 (ew6.trans o8.ef) rfl j).1 y hy
            refine .inr ⟨go1, fun a'' H' => ∃ env' Fs', Ok0 c (et1 ++ ee) (wipe σ4 vs1) H6 (wipeF Fs6 vs1) env' H' Fs' ∧ I1 (j + 1) a'' env', fun a'' H' hN => ⟨(xs.length - (i + 1)) * (L + 1) + (ys.length - (j + 1)), by omega, rfl, hjl, hN⟩, fun v1 H8 hyy => ?_⟩
            obtain ⟨sm1, F1, r1, sr1⟩ := yl1 v1 H8 hyy
            refine turn_sim hg1 ht1 he hvs1 hfx1 (List.all_eq_true.mpr fun j hj => by simpa using Or.inl hj) (List.all_eq_true.mpr fun j hj => by simpa using Or.inr hj) o8 sm1 r1 sr1 (R := fun y env9 => vc.step a' y (fun a'' => I1 (j + 1) a'' env9) (fun u => R u (wipeE env9 vs))) (R' := fun env9 => I1 (j + 1) a' env9) (step1 j y a' env8 hy i8) ?_ ?_
            · intro y d G env9 H9 Fs9 o9 r9 _ q9
              exact hcs.step H9 G y d a' _ _ _ _ r9 q9 (fun a'' z => ⟨env9, Fs9, o9, z⟩) fun v u ru z => k v u [] _ H9 _ (out (out1 o9)) ru .nil .nil z
            · intro env9 H9 Fs9 o9 q9
              exact ⟨env9, Fs9, o9, q9⟩
          · have e0 : j = ys.length := by omega
            subst e0
            exact .inl ⟨(it1 _ H7 Fs8 (ew6.trans o8.ef) rfl _).2 (Nat.le_refl _), (xs.length - (i + 1)) * (L + 1), by omega, rfl, hlt, _, _, out1 o8, fin1 a' env8 i8⟩
      · intro env5 H5 Fs5 o5 q5
        exact ⟨(xs.length - (i + 1)) * (L + 1), by rw [hm]; omega, rfl, hlt, env5, Fs5, o5, q5⟩
    · have e0 : i = xs.length := by omega
      subst e0
      exact .inl ⟨(it _ H3 Fs3 (e12.trans o3.ef) rfl _).2 (Nat.le_refl _), hcs.fin H3 a _ _ (fin a env3 i3) fun v u ru z => k v u [] env3 H3 Fs3 (out o3) ru .nil .nil z⟩⟩⟩
end
/-! ### the lists of a list put together: [y for x in xs for y in x] -/
section
theorem wipe_set_in {σ : L2.St} {vs : List Nat} {i : Nat} {x : Option V} (hi : i ∈ vs) : wipe ((wipe σ vs).set i x) vs = wipe σ vs := by
  have e0 : wipe ((wipe σ vs).set i x) vs = wipe (wipe σ vs) vs := wipe_ext (by rw [List.length_set]) fun j hj => List.getElem?_set_ne (fun z => hj (by rw [← z]; exact hi))
  rw [e0]
  exact wipe_ext (by rw [wipe_length]) fun j hj => wipe_get hj
theorem upd_twice {H : Hp} {D : Addr} {a b : HO} : upd (upd H D a) D b = upd H D b := by
  funext x
  by_cases e : x = D
  · rw [e, upd_same, upd_same]
  · rw [upd_ne e, upd_ne e, upd_ne e]
theorem tYes_of {σ : L2.St} {H : Hp} {A B : Hp → Prop} (h : A H) : tYes σ H (fun b H3 => if b = true then A H3 else B H3) := (iteT h : if true = true then A H else B H)
variable {c : Vc} {a i j : Nat}
def wFlat2 (a i j : Nat) : VW := fun env Q => ∃ LL : List (List Int), env[a]? = some (some (.lst (LL.map fun r => .lst (r.map Val.int)))) ∧ LL.flatten.length < 1000000 ∧ Q (.lst (LL.flatten.map Val.int)) (wipeE env [i, j])
theorem simE_flat2 (hi : i < c.N) (hj : j < c.N) (hvs : disj [i, j] c.ms = true) (hB : Nat.blt a c.N = true := by rfl) : SimE c (tLc2 (iList c.K (tVar a)) (gName i) tYes (iList c.K (tVar i)) (gName j) tYes (tVar j) [i, j] [j]) [] (some []) [] (wFlat2 a i j) := ⟨fun env σ H Fs Q R S ⟨LL, hd, hl, q⟩ k => by
  obtain ⟨v, hv, r⟩ := S.at_ a _ hd
  have hv := hv.1 (lt_of_blt hB)
  obtain ⟨l, us, G, rfl, hL, ra, eF⟩ := r.asL
  have item : ∀ (n : Nat) (row : List Int), LL[n]? = some row → ∃ t, us[n]? = some (.ref t) ∧ H t = some (.lst (row.map V.int)) := fun n row h => by
    obtain ⟨v, G', h1, h2, _⟩ := ra.get (i := n) (d := .lst (row.map Val.int)) (by rw [List.getElem?_map, h]; rfl)
    obtain ⟨t, vs, G2, rfl, hT, ra2, _⟩ := h2.asL
    have e := rpa_ints' ra2
    subst e
    exact ⟨t, h1, hT⟩
  have ulen : us.length = LL.length := by rw [ra.len, List.length_map]
  refine ⟨_, hv, l, rfl, ⟨us, SqL.of hL⟩, fun D nD => ?_⟩
  have sm : ∀ zs, Same H (upd H D (.lst zs)) := fun zs => same_upd nD
  have total : ∀ n row, LL[n]? = some row → (LL.take n).flatten.length + row.length ≤ LL.flatten.length := fun n row h => by
    have lt := (List.getElem?_eq_some_iff.mp h).1
    have e : LL.flatten = (LL.take n).flatten ++ (row ++ (LL.drop (n + 1)).flatten) := by
      conv => lhs; rw [← List.take_append_drop n LL, List.flatten_append, List.drop_eq_getElem_cons lt, List.flatten_cons, (List.getElem?_eq_some_iff.mp h).2]
    rw [e, List.length_append, List.length_append]
    omega
  refine ⟨fun n m H' => m = LL.length - n ∧ n ≤ LL.length ∧ H' = upd H D (.lst ((LL.take n).flatten.map V.int)), ⟨_, rfl, Nat.zero_le _, rfl⟩, ?_⟩
  rintro n m H' ⟨rfl, hn, rfl⟩
  have hL' := sm ((LL.take n).flatten.map V.int) _ _ hL
  by_cases lt : n < LL.length
  · obtain ⟨row, hr⟩ : ∃ row, LL[n]? = some row := ⟨_, List.getElem?_eq_getElem lt⟩
    obtain ⟨t, ht, hT⟩ := item n row hr
    have tl := total n row hr
    have tk : (LL.take (n + 1)).flatten = (LL.take n).flatten ++ row := by
      rw [List.take_add_one, hr, List.flatten_append]
      simp
    refine .inr ⟨⟨us, _, SqL.of hL', ht⟩, fun H' => H' = upd H D (.lst ((LL.take (n + 1)).flatten.map V.int)), fun H' e => ⟨LL.length - (n + 1), by omega, rfl, lt, e⟩, ?_⟩
    rintro x H' ⟨rfl, hx⟩
    have ex : V.ref t = x := Option.some.inj (ht.symm.trans (hx us (SqL.of hL')))
    subst ex
    refine ⟨wipe_set_in (by simp), tYes_of ?_⟩
    refine ⟨_, List.getElem?_set_self (by rw [wipe_length, S.ls]; exact hi), t, rfl, ⟨_, SqL.of (sm _ _ _ hT)⟩, ?_⟩
    refine ⟨fun p kk H' => kk = row.length - p ∧ p ≤ row.length ∧ H' = upd H D (.lst (((LL.take n).flatten ++ row.take p).map V.int)), ⟨_, rfl, Nat.zero_le _, by rw [List.take_zero, List.append_nil]⟩, ?_⟩
    rintro p kk H' ⟨rfl, hp, rfl⟩
    have hT' := sm (((LL.take n).flatten ++ row.take p).map V.int) _ _ hT
    by_cases lp : p < row.length
    · obtain ⟨y, hy⟩ : ∃ y, row[p]? = some y := ⟨_, List.getElem?_eq_getElem lp⟩
      have hy' : (row.map V.int)[p]? = some (.int y) := by rw [List.getElem?_map, hy]; rfl
      refine .inr ⟨⟨_, _, SqL.of hT', hy'⟩, fun H' => H' = upd H D (.lst (((LL.take n).flatten ++ row.take (p + 1)).map V.int)), fun H' e => ⟨row.length - (p + 1), by omega, rfl, lp, e⟩, ?_⟩
      rintro x H' ⟨rfl, hx⟩
      have ex : V.int y = x := Option.some.inj (hy'.symm.trans (hx _ (SqL.of hT')))
      subst ex
      refine ⟨wipe_set_in (by simp), tYes_of ?_⟩
      refine ⟨_, List.getElem?_set_self (by rw [wipe_length, List.length_set, wipe_length, S.ls]; exact hj), _, upd_same, small_lt ?_, ?_⟩
      · rw [List.length_map, List.length_append, List.length_take]
        omega
      · rw [upd_twice, List.take_add_one, hy]
        congr 2
        simp
    · have e0 : p = row.length := by omega
      subst e0
      refine .inl ⟨⟨_, SqL.of hT', by rw [List.length_map]; exact Nat.le_refl _⟩, ?_⟩
      rw [tk, List.take_length]
  · have e0 : n = LL.length := by omega
    subst e0
    refine .inl ⟨⟨us, SqL.of hL', by rw [ulen]; exact Nat.le_refl _⟩, ?_⟩
    rw [List.take_length]
    refine k (.ref D) (.lst (LL.flatten.map Val.int)) [D] (wipeE env [i, j]) _ (wipeF Fs [i, j]) ⟨((S.same (sm _)).wipe hvs).unwipe, (Eff.same (sm _)).trans (eff_wipe hvs), fun j hj a ha => wipeF_sub ha⟩ (rp_ints upd_same) (fun a ha j hj _ z => ?_) (fun mv e => ?_) q
    · rw [List.mem_singleton.mp ha] at z
      exact (S.mutb j D (wipeF_sub z)).ex nD
    · cases e
      exact ⟨by simp, fun a ha => .inl (by rw [List.mem_singleton.mp ha]; exact nD)⟩⟩
end
/-! ### a, b = x, y -/
section
variable {c : Vc} {fx lo E : List Nat}
def wPar (i j a b : Nat) : VWS := fun R env => ∃ d e, env[a]? = some (some d) ∧ env[b]? = some (some e) ∧ R.nx ((env.set i (some d)).set j (some e))
theorem simS_par {i j a b : Nat} (hi : i < c.N) (hj : j < c.N) (mi : c.ms.contains i = false) (mj : c.ms.contains j = false) (ma : c.ms.contains a = false) (mb : c.ms.contains b = false) (fi : fx.contains i = false) (fj : fx.contains j = false) (hE : sub E c.ms = true) (hB : Nat.blt a c.N = true := by rfl) (hBj : Nat.blt b c.N = true := by rfl) : SimS c fx lo E (tPar i j (tCons (tVar a) (tCons (tVar b) tNil))) (wPar i j a b) := ⟨fun env σ H Fs D R S hw n bk ct rt => by
  have mi : i ∉ c.ms := fun z => by simp [z] at mi
  have mj : j ∉ c.ms := fun z => by simp [z] at mj
  have ma : a ∉ c.ms := fun z => by simp [z] at ma
  have mb : b ∉ c.ms := fun z => by simp [z] at mb
  have fi : i ∉ fx := fun z => by simp [z] at fi
  have fj : j ∉ fx := fun z => by simp [z] at fj
  obtain ⟨d, e, hd, he, q⟩ := hw
  obtain ⟨v, hv, r⟩ := S.at_ a d hd
  have hv := hv.1 (lt_of_blt hB)
  obtain ⟨u, hu, r2⟩ := S.at_ b e he
  have hu := hu.1 (lt_of_blt hBj)
  have x1 := S.xk.eff (eff_put (i := i) (F := Fs a) mi)
  have T1 := S.put hi r (fun z => absurd z mi) (fun x hx q hq _ z => S.sep q hq a (fun y => ma (y ▸ hq)) x z hx) x1
  have x2 := x1.eff (eff_put (i := j) (F := Fs b) mj)
  have T2 := T1.put hj r2 (fun z => absurd z mj) (fun x hx q hq _ z => by
    rw [upF_ne (ne_mem hq mi)] at z
    exact S.sep q hq b (fun y => mb (y ▸ hq)) x z hx) x2
  have ef : Eff c.ms [] Fs H (upF (upF Fs i (Fs a)) j (Fs b)) H := Eff.trans (e1 := []) (e2 := []) (eff_put mi) (eff_put mj)
  refine ⟨v, hv, u, hu, v, u, rfl, n _ _ _ _ ⟨T2, ef.mono (fun _ h => nomatch h) (sub_iff hE), fun q hq => ?_⟩ q⟩
  rw [List.getElem?_set_ne (fun z => fj (by rw [z]; exact hq)), List.getElem?_set_ne (fun z => fi (by rw [z]; exact hq))]⟩
end
/-! ### what is raised, and calls under a clause that keeps it -/
section
variable {K : PySem.W.Frag} {Ps : TL} {N : Nat}
abbrev cB (K : PySem.W.Frag) (Ps : TL) (N : Nat) (E : XK) (xe : Value → Prop) : Vc := ⟨K, Ps, [], N, E, xe, false, 0⟩
/-- the body of a try: it changes no slot -/
structure SimB (K : PySem.W.Frag) (Ps : TL) (N : Nat) (tb : WX → TS) (wb : (Value → Prop) → VWS) : Prop where
  sim : ∀ (W : WX) (xe : Value → Prop) (env : VEnv) (σ : L2.St) (H : Hp) (Fs : Fp) (D : Ends) (R : VEnds), Sr (cB K Ps N (WE W σ) xe) env σ H Fs → wb xe R env →
    (∀ env' H' Fs', Sr (cB K Ps N (WE W σ) xe) env' σ H' Fs' → Eff [] [] Fs H Fs' H' → R.nx env' → D.nx σ H') → tb W D σ H
end
/-! ### dicts from whole numbers to flat values -/
section
variable {α : Type}
variable {f : α → Val} {K : PySem.W.Frag} {H : Hp}
end
section
variable {α : Type} {f : α → Val} {c : Vc} {ta tb t : TE} {sa sb s : List Nat} {fa fb ft : Option (List Nat)} {ea eb e : List Nat} {wa wb w : VW}
end
section
variable {α : Type} {f : α → Val} {c : Vc} {te ti tj : TE} {s e s' e' s'' e'' : List Nat} {ft f' f'' : Option (List Nat)} {we wi wj : VW} {fx lo E : List Nat}
end
/-! ### {x: n for x in xs}, the keys of a list of whole numbers -/
section
variable {c : Vc} {a i : Nat} {n : Int}
end
/-! ### name = {k: v for x in ..}, the name a local -/
section
variable {X : Cx}
end
/-! ### sorted(d) of a dict of whole numbers, up to a thousand keys -/
section
variable {X : Cx}
end
section
variable {c : Vc} {t : TE} {s e : List Nat} {f : Option (List Nat)} {w : VW}
end
/-! ### max of a generator expression -/
section
open GenW
section
variable {Z : Cx} {ga : Addr} {g : Nat} {Q : VK} {A : Around} {Rf : Result → Shared → Prop}
end
section
variable {X : Cx} {c P : Addr} {elt tg iter : Expr} {ifs : List Expr} {scope : Scope} {own : List (Str × Nat)} {gpos p pos : Pos} {k : Nat} {wi : TI} {g : TG} {tt : TT} {te : TE}
end
end
section
end
/-! ### a place and a number or None, as a value -/
/-! ### exceptions as values -/
section
variable {X : Cx} {x n y : Str} {c : Value} {i j : Nat} {body : List Stmt} {np pos pos' py pv' sp' : Pos} {tb : WX → TS}
end
/-! ### the store behind the slots -/
abbrev GS := Addr → Option Cell
def GS.upd (S : GS) (a : Addr) (c : Cell) : GS := fun b => if b = a then some c else S b
theorem GS.upd_same {S : GS} {a : Addr} {c : Cell} : S.upd a c a = some c := by unfold GS.upd; rw [if_pos rfl]
theorem GS.upd_ne {S : GS} {a b : Addr} {c : Cell} (h : b ≠ a) : S.upd a c b = S b := by unfold GS.upd; rw [if_neg h]
theorem RpN.look {K : PySem.W.Frag} {H : Hp} {f : Str} {x : Val} : ∀ {us : List (Str × V)} {fs : List (Str × Val)}, RpN K H us fs → fs.lookup f = some x → ∃ v, us.lookup f = some v ∧ Rp K H [] v x
  | _, _, .nil, h => by cases h
  | _, _, .cons (k := k) (v := v) (d := d) r t, h => by
    show ∃ v', (match f == k with | true => some v | false => _) = some v' ∧ _
    have h : (match f == k with | true => some d | false => _) = some x := h
    cases e : (f == k) with
    | true =>
      rw [e] at h
      cases h
      exact ⟨v, rfl, r⟩
    | false =>
      rw [e] at h
      exact t.look h
theorem RpN.no {K : PySem.W.Frag} {H : Hp} {f : Str} : ∀ {us : List (Str × V)} {fs : List (Str × Val)}, RpN K H us fs → fs.lookup f = none → us.lookup f = none
  | _, _, .nil, h => rfl
  | _, _, .cons (k := k) (v := v) (d := d) r t, h => by
    show (match f == k with | true => some v | false => _) = Option.none
    have h : (match f == k with | true => some d | false => _) = none := h
    cases e : (f == k) with
    | true =>
      rw [e] at h
      cases h
    | false =>
      rw [e] at h
      exact t.no h
theorem RpN.len {K : PySem.W.Frag} {H : Hp} : ∀ {us : List (Str × V)} {fs : List (Str × Val)}, RpN K H us fs → us.length = fs.length
  | _, _, .nil => rfl
  | _, _, .cons _ t => congrArg (· + 1) t.len
def putFV (f : Str) (v : Val) : List (Str × Val) → List (Str × Val)
  | [] => [(f, v)]
  | (g, x) :: r => if g = f then (g, v) :: r else (g, x) :: putFV f v r
theorem RpN.put {K : PySem.W.Frag} {H : Hp} {f : Str} {v : V} {d : Val} (r : Rp K H [] v d) : ∀ {us : List (Str × V)} {fs : List (Str × Val)}, RpN K H us fs → RpN K H (putF f v us) (putFV f d fs)
  | _, _, .nil => .cons r .nil
  | _, _, .cons (k := k) r' t => by
    unfold putF putFV
    by_cases e : k = f
    · rw [if_pos e, if_pos e]
      exact .cons r t
    · rw [if_neg e, if_neg e]
      exact .cons r' (t.put r)
section
variable {c : Vc} {t tv ta : TE} {s sv e ev : List Nat} {f fv : Option (List Nat)} {w wv : VW} {fx lo E : List Nat}
end
/-! ### frozen: read from now on, never written -/
def tFrz (t : TE) : TE := fun σ H Q => t σ H fun v H' => ∃ d u, v = .ref d ∧ H' d = some u ∧ Mut (some u) ∧ ∀ od, Q v (upd H' d (.frz od u))
theorem pe_frz {X : Cx} {e : Expr} {t : TE} (h : PE X e t) : PE X e (tFrz t) := ⟨fun pins s σ H Q I hw => thn (h.run pins s σ H _ I hw) fun v s1 ⟨x, H1, I1, r, d, u, ex, hd, mu, q⟩ => by
  obtain ⟨od, I2⟩ := I1.lock hd mu
  exact ⟨x, _, I2, r, q od⟩⟩
theorem Rp.asDic {K : PySem.W.Frag} {H : Hp} {F : List Addr} {v : V} {es : List (Key × Val)} (h : Rp K H F v (.dic es)) : ∃ a kvs G, v = .ref a ∧ H a = some (.dK kvs) ∧ RpD K H G kvs es ∧ F = a :: G := by
  cases h with
  | dic h r => exact ⟨_, _, _, rfl, h, r, rfl⟩
section
variable {c : Vc} {t : TE} {e : List Nat} {w : VW}
/-- what is new and flat is frozen -/
theorem frz_ok {σ : L2.St} {H H1 : Hp} {Fs Fs1 : Fp} {env env1 : VEnv} {l : Addr} {o : HO} (S : Sr c env σ H Fs) (ok : Ok0 c e σ H Fs env1 H1 Fs1) (sr : Src c.ms [] [l] Fs1) (new : H l = none) (ml : Mutb H1 l) : Ok0 c e σ H Fs env1 (upd H1 l o) Fs1 := by
  have nf : ∀ j, l ∉ Fs1 j := fun j z => by
    by_cases hj : j ∈ c.ms
    · exact sr l (List.mem_singleton.mpr rfl) j hj (fun h => nomatch h) z
    · exact (S.mutb j l (ok.vl j hj l z)).ex new
  have ef := ok.ef.side (D := l) (o := o) new
  exact ⟨ok.sr.side ml nf (S.xk.eff ef), ef, ok.vl⟩
def wFrzL (w : VW) : VW := fun env Q => w env fun d env' => ∃ xs, d = .lst xs ∧ Val.flatAll xs = true ∧ Q (.frz xs) env'
theorem simE_frzL (h : SimE c t [] (some []) e w) : SimE c (tFrz t) [] (some []) e (wFrzL w) := ⟨fun env σ H Fs Q R S hw k =>
  h.sim env σ H Fs _ _ S hw fun v d F env1 H1 Fs1 o r sr fr ⟨xs, ed, fl, q⟩ => by
    subst ed
    obtain ⟨l, vs, G, rfl, hl, ra, eF⟩ := r.asL
    have z := ra.flat fl
    subst z
    subst eF
    have new : H l = none := ((fr [] rfl).2 l (List.mem_singleton.mpr rfl)).elim id fun ⟨_, h, _⟩ => nomatch h
    have ml : Mutb H1 l := .inl ⟨_, hl⟩
    refine ⟨l, _, rfl, hl, True.intro, fun od => k _ (.frz xs) [] env1 _ Fs1 (frz_ok S o sr new ml) (.frz (.inl ⟨od, upd_same⟩) (ra.kp (L := [l]) (Kp.upd List.mem_cons_self) (fun a ha => by rw [List.mem_singleton.mp ha]; exact ml) fun _ z => nomatch z)) .nil .nil q⟩⟩
end
/-! ### calls that see the store -/
theorem RpL.snoc {c : Vc} {σ : L2.St} {H : Hp} {Fs : Fp} {a : Arg} {G : List Addr} {v : V} {d : Val} (z : RpL c σ H Fs [a] [G] [v] [d]) : ∀ {as : List Arg} {Gs : List (List Addr)} {vs : List V} {ds : List Val}, RpL c σ H Fs as Gs vs ds → RpL c σ H Fs (as ++ [a]) (Gs ++ [G]) (vs ++ [v]) (ds ++ [d])
  | _, _, _, _, .nil => z
  | _, _, _, _, .consV r s t => .consV r s (RpL.snoc z t)
  | _, _, _, _, .consO m e r t => .consO m e r (RpL.snoc z t)
theorem OutOk.more {K : PySem.W.Frag} {Ps : TL} {own : List Nat} {vs : List V} {Fs : Fp} {H : Hp} {ds' : List Val} {Fs' : Fp} {H' : Hp} (O : OutOk K Ps own vs Fs H ds' Fs' H') (v : V) : OutOk K Ps own (vs ++ [v]) Fs H ds' Fs' H' :=
  ⟨fun p hp => by
    obtain ⟨u, d, h1, h2⟩ := O.rp p hp
    exact ⟨u, d, by rw [List.getElem?_append_left (List.getElem?_eq_some_iff.mp h1).1]; exact h1, h2⟩, O.nd, O.sep, O.ef, O.tb⟩
section
variable {c : Vc} {as : List Arg} {own : List Nat} {sl : Nat → Nat} {ta : TA} {f : Option (List Nat)} {e : List Nat} {wa : VWA} {S : VSpec} {n : Nat}
end
/-! ### with own arguments at no place, one place, two places -/
section
variable {c : Vc} {as : List Arg} {ta : TA} {f : Option (List Nat)} {e : List Nat} {wa : VWA} {S : VSpec} {n : Nat}
end
/-! ### defs that see the store -/
section
variable {K : PySem.W.Frag} {Ps : TL} {own own' lo fx : List Nat} {n N : Nat} {S : VSpec}
end
/-! ### defs that see the store: what is asked of them -/
section
variable {K : PySem.W.Frag} {Ps : TL} {lo : List Nat} {n N : Nat} {S : VSpec}
/-! ### one that looks first, may raise while it looks, and then changes the store -/
structure SimP (K : PySem.W.Frag) (Ps : TL) (N : Nat) (E : XK) (xe : Value → Prop) (t : TS) (w : VWS) : Prop where
  sim : ∀ (env : VEnv) (σ : L2.St) (H : Hp) (Fs : Fp) (D : Ends) (R : VEnds), Sr ⟨K, Ps, [], N, E, xe, false, 1⟩ env σ H Fs → w R env →
    (∀ env' σ' H' Fs' g, Sr ⟨K, Ps, [N], N, E0, fun _ => False, false, 1⟩ env' σ' H' Fs' → env[N]? = some (some (.gho g)) → Kp (Fs N) H H' → (∀ a, H' a = none → H a = none) → (∀ a ∈ Fs' N, a ∈ Fs N ∨ H a = none) → R.nx env' → D.nx σ' H') → t D σ H
variable {E : XK} {xe : Value → Prop} {s t : TS} {w w' : VWS}
end
/-! ### methods, new instances -/
section
variable {c : Vc} {t0 : TE} {ta : TA} {as : List Arg} {s0 e0 e : List Nat} {f0 f : Option (List Nat)} {w0 : VW} {wa : VWA} {S : VSpec} {n : Nat}
end
/-! ### {**a, k: v}, {**a, **b} -/
section
variable {prog : Program} {w : World} {Kt : Type} [DecidableEq Kt] {knd : KeyKind prog w Kt} {A : Around} {E : Value → Shared → Prop} {s : Shared}
end
section
variable {X : Cx}
end
/-! ### {**a, k: v} over values -/
def kVV : Key → Val
  | .inl i => .int i
  | .inr s => .str s
theorem kVV_of {K : PySem.W.Frag} {H : Hp} {F : List Addr} {v : V} {k : Key} (r : Rp K H F v (kVV k)) : v = kV k := by
  cases k with
  | inl i =>
    cases r
    rfl
  | inr s =>
    cases r
    rfl
def putKV (es : List (Key × Val)) (k : Key) (d : Val) : List (Key × Val) := if (es.any fun p => decide (p.1 = k)) = true then es.map fun p => if p.1 = k then (p.1, d) else p else es ++ [(k, d)]
theorem RpD.keys {K : PySem.W.Frag} {H : Hp} : ∀ {F : List Addr} {us : List (Key × V)} {es : List (Key × Val)}, RpD K H F us es → us.map (·.1) = es.map (·.1)
  | _, _, _, .nil => rfl
  | _, _, _, .cons _ t => congrArg (_ :: ·) t.keys
theorem RpD.len {K : PySem.W.Frag} {H : Hp} {F : List Addr} {us : List (Key × V)} {es : List (Key × Val)} (r : RpD K H F us es) : us.length = es.length := by
  have := congrArg List.length r.keys
  rwa [List.length_map, List.length_map] at this
theorem RpD.snoc {K : PySem.W.Frag} {H : Hp} {k : Key} {v : V} {d : Val} (r : Rp K H [] v d) : ∀ {F : List Addr} {us : List (Key × V)} {es : List (Key × Val)}, RpD K H F us es → RpD K H F (us ++ [(k, v)]) (es ++ [(k, d)])
  | _, _, _, .nil => RpD.cons (F := []) (G := []) r .nil
  | _, _, _, .cons a t => .cons a (RpD.snoc r t)
theorem RpD.over {K : PySem.W.Frag} {H : Hp} {k : Key} {v : V} {d : Val} (r : Rp K H [] v d) : ∀ {F : List Addr} {us : List (Key × V)} {es : List (Key × Val)}, RpD K H F us es → F = [] → RpD K H [] (us.map fun p => if p.1 = k then (p.1, v) else p) (es.map fun p => if p.1 = k then (p.1, d) else p)
  | _, _, _, .nil, _ => .nil
  | _, _, _, .cons (F := F1) (G := G1) (k := k0) a t, e => by
    obtain ⟨e1, e2⟩ := List.append_eq_nil_iff.mp e
    subst e1 e2
    have ih := RpD.over (k := k) r t rfl
    rw [List.map_cons, List.map_cons]
    by_cases z : k0 = k
    · rw [if_pos z, if_pos z]
      exact RpD.cons (F := []) (G := []) r ih
    · rw [if_neg z, if_neg z]
      exact RpD.cons (F := []) (G := []) a ih
theorem RpD.put {K : PySem.W.Frag} {H : Hp} {k : Key} {v : V} {d : Val} (r : Rp K H [] v d) {us : List (Key × V)} {es : List (Key × Val)} (h : RpD K H [] us es) : RpD K H [] (putK us k v) (putKV es k d) := by
  have ea : ∀ {F : List Addr} {us : List (Key × V)} {es : List (Key × Val)}, RpD K H F us es → (us.any fun p => decide (p.1 = k)) = es.any fun p => decide (p.1 = k) := fun {F us es} h => by
    have := h.keys
    have e1 : (us.any fun p => decide (p.1 = k)) = (us.map (·.1)).any fun x => decide (x = k) := by rw [List.any_map]; rfl
    have e2 : (es.any fun p => decide (p.1 = k)) = (es.map (·.1)).any fun x => decide (x = k) := by rw [List.any_map]; rfl
    rw [e1, e2, this]
  unfold putK putKV
  rw [ea h]
  split
  · exact h.over r rfl
  · exact h.snoc r
section
variable {c : Vc} {t0 t1 tk tv : TE} {s0 s1 sk sv : List Nat} {f0 f1 fk fv : Option (List Nat)} {w0 w1 wk wv : VW}
theorem RpD.kps {K : PySem.W.Frag} {H H' : Hp} {us : List (Key × V)} {es : List (Key × Val)} (h : RpD K H [] us es) (k : Kp [] H H') : RpD K H' [] us es := h.kp k (fun _ z => nomatch z) fun _ z => nomatch z
end
/-! ### dicts with texts or whole numbers as keys, read -/
def getKV (es : List (Key × Val)) (k : Key) : Option Val := (es.find? fun p => decide (p.1 = k)).map (·.2)
theorem RpD.look {K : PySem.W.Frag} {H : Hp} {k : Key} : ∀ {F : List Addr} {us : List (Key × V)} {es : List (Key × Val)}, RpD K H F us es → (∀ d, getKV es k = some d → ∃ v G, valV us k = some v ∧ Rp K H G v d) ∧ (getKV es k = none → valV us k = none)
  | _, _, _, .nil => ⟨(fun d h => by cases h), fun _ => rfl⟩
  | _, _, _, .cons (F := F1) (k := k0) (v := v0) (d := d0) (kvs := us) (es := es) a t => by
    obtain ⟨ih1, ih2⟩ := t.look (k := k)
    by_cases e : k0 = k
    · have e1 : getKV ((k0, d0) :: es) k = some d0 := by unfold getKV; rw [List.find?_cons, decide_eq_true e]; rfl
      have e2 : valV ((k0, v0) :: us) k = some v0 := by unfold valV; rw [List.find?_cons, decide_eq_true e]; rfl
      rw [e1, e2]
      exact ⟨fun d h => by cases h; exact ⟨v0, F1, rfl, a⟩, fun h => by cases h⟩
    · have e1 : getKV ((k0, d0) :: es) k = getKV es k := by unfold getKV; rw [List.find?_cons, decide_eq_false e]
      have e2 : valV ((k0, v0) :: us) k = valV us k := by unfold valV; rw [List.find?_cons, decide_eq_false e]
      rw [e1, e2]
      exact ⟨ih1, ih2⟩
/-- a dict, frozen or not -/
def IsDV (d : Val) (es : List (Key × Val)) : Prop := d = .fdc es ∨ d = .dic es
theorem Rp.asDV {K : PySem.W.Frag} {H : Hp} {F : List Addr} {v : V} {d : Val} {es : List (Key × Val)} (r : Rp K H F v d) (h : IsDV d es) : ∃ a kvs G, v = .ref a ∧ Rd H a (.dK kvs) ∧ RpD K H G kvs es := by
  rcases h with rfl | rfl
  · cases r with
    | fdc h rd => exact ⟨_, _, _, rfl, .inr ⟨_, h⟩, rd⟩
  · cases r with
    | dic h rd => exact ⟨_, _, _, rfl, .inl h, rd⟩
theorem dget_rd {H : Hp} {a : Addr} {kvs : List (Key × V)} {k : Key} (e : Rd H a (.dK kvs)) : DGet H a (kV k) (valV kvs k) := .inl ⟨kvs, k, e, rfl, rfl⟩
section
variable {c : Vc} {ta tb : TE} {sa sb ea eb : List Nat} {fa fb : Option (List Nat)} {wa wb : VW}
def wDinK (neg : Bool) (wa wb : VW) : VW := fun env Q => wa env fun y env1 => wb env1 fun d env2 => ∃ (es : List (Key × Val)) (k : Key), IsDV d es ∧ y = kVV k ∧ Q (.bl (neg != (getKV es k).isSome)) env2
theorem look_some {K : PySem.W.Frag} {H : Hp} {F : List Addr} {us : List (Key × V)} {es : List (Key × Val)} {k : Key} (r : RpD K H F us es) : (valV us k).isSome = (getKV es k).isSome := by
  obtain ⟨h1, h2⟩ := r.look (k := k)
  cases e : getKV es k with
  | none =>
    rw [h2 e]
    rfl
  | some d =>
    obtain ⟨v, _, hv, _⟩ := h1 d e
    rw [hv]
    rfl
theorem simE_dinK (ha : SimE c ta sa fa ea wa) (hb : SimE c tb sb fb eb wb) (hd : disj sa eb = true) : SimE c (tDIn ta tb) [] (some []) (ea ++ eb) (wDinK false wa wb) := ⟨fun env σ H Fs Q R S h k =>
  ha.sim env σ H Fs _ _ S h fun x d F env1 H1 Fs1 o1 r1 s1 _ h1 => hb.sim env1 σ H1 Fs1 _ _ o1.sr h1 fun y e G env2 H2 Fs2 o2 r2 s2 _ ⟨es, key, hD, ek, q⟩ => by
    subst ek
    obtain ⟨a, kvs, G, rfl, rd, rk⟩ := r2.asDV hD
    have ex := kVV_of (r1.eff o1.sr o2.ef s1 hd).1
    subst ex
    refine ⟨a, _, rfl, dget_rd rd, ?_⟩
    rw [look_some rk]
    rw [Bool.false_bne] at q
    exact k _ _ [] env2 H2 Fs2 (o1.trans o2) (.bl _) .nil .nil q⟩
theorem simE_dninK (ha : SimE c ta sa fa ea wa) (hb : SimE c tb sb fb eb wb) (hd : disj sa eb = true) : SimE c (tDNotIn ta tb) [] (some []) (ea ++ eb) (wDinK true wa wb) := ⟨fun env σ H Fs Q R S h k =>
  ha.sim env σ H Fs _ _ S h fun x d F env1 H1 Fs1 o1 r1 s1 _ h1 => hb.sim env1 σ H1 Fs1 _ _ o1.sr h1 fun y e G env2 H2 Fs2 o2 r2 s2 _ ⟨es, key, hD, ek, q⟩ => by
    subst ek
    obtain ⟨a, kvs, G, rfl, rd, rk⟩ := r2.asDV hD
    have ex := kVV_of (r1.eff o1.sr o2.ef s1 hd).1
    subst ex
    refine ⟨a, _, rfl, dget_rd rd, ?_⟩
    rw [look_some rk]
    rw [Bool.true_bne] at q
    exact k _ _ [] env2 H2 Fs2 (o1.trans o2) (.bl _) .nil .nil q⟩
/-- d[k], flat -/
def wDixK (wa wb : VW) : VW := fun env Q => wa env fun d env1 => wb env1 fun y env2 => ∃ (es : List (Key × Val)) (k : Key) (x : Val), IsDV d es ∧ y = kVV k ∧ getKV es k = some x ∧ x.flat = true ∧ Q x env2
theorem simE_dixK (ha : SimE c ta sa fa ea wa) (hb : SimE c tb sb fb eb wb) (hd : disj sa eb = true) : SimE c (tDGet ta tb) [] (some []) (ea ++ eb) (wDixK wa wb) := ⟨fun env σ H Fs Q R S h k =>
  ha.sim env σ H Fs _ _ S h fun x d F env1 H1 Fs1 o1 r1 s1 _ h1 => hb.sim env1 σ H1 Fs1 _ _ o1.sr h1 fun y e G env2 H2 Fs2 o2 r2 s2 _ ⟨es, key, z, hD, ek, hz, fz, q⟩ => by
    subst ek
    obtain ⟨a, kvs, G', rfl, rd, rk⟩ := (r1.eff o1.sr o2.ef s1 hd).1.asDV hD
    have ex := kVV_of r2
    subst ex
    obtain ⟨v, G2, hv, rv⟩ := (rk.look (k := key)).1 z hz
    have e2 := rv.flat fz
    subst e2
    have dg := dget_rd (k := key) rd
    rw [hv] at dg
    exact ⟨a, v, rfl, dg, k v z [] env2 H2 Fs2 (o1.trans o2) rv .nil .nil q⟩⟩
end
section
variable {c : Vc}
/-! texts in order -/
end
section
variable {c : Vc} {te : TE} {s e : List Nat} {f : Option (List Nat)} {we : VW}
end
/-! ### try: calls that see the store -/
/-- a call that may raise: what is raised leaves all as it was -/
structure SimC (c : Vc) (tc : (L2.St → XK) → TE) (Ef : List Nat) (w : (Value → Prop) → VW) : Prop where
  sim : ∀ (xe : Value → Prop) (Ex : L2.St → XK) (env : VEnv) (σ : L2.St) (H : Hp) (Fs : Fp) (Q : VK) (R : Val → VEnv → Prop), Sr c env σ H Fs → w xe env R →
    (∀ cls H', Kp [] H H' → (∀ a, H' a = none → H a = none) → Tb c.Ps H' → xe cls → Ex σ cls none H') →
    (∀ v d F env' H' Fs', Ok0 c Ef σ H Fs env' H' Fs' → Rp c.K H' F v d → Src c.ms [] F Fs' → Frs (some []) H Fs' F → R d env' → Q v H') → tc Ex σ H Q
section
variable {c : Vc} {as : List Arg} {ta : TA} {f : Option (List Nat)} {wa : VWA} {S : VSpec} {n : Nat} {own : List Nat} {sl : Nat → Nat}
end
/-- the body of a try that may change slots and the store -/
structure SimW (c : Vc) (Ef : List Nat) (tb : WX → TS) (wb : (Value → Prop) → VWS) : Prop where
  sim : ∀ (W : WX) (xe : Value → Prop) (env : VEnv) (σ : L2.St) (H : Hp) (Fs : Fp) (D : Ends) (R : VEnds), Sr c env σ H Fs → wb xe R env →
    (∀ cls H', Kp [] H H' → (∀ a, H' a = none → H a = none) → Tb c.Ps H' → xe cls → WE W σ cls none H') →
    (∀ env' σ' H' Fs', Ok2 c [] Ef σ H Fs env' σ' H' Fs' → R.nx env' → D.nx σ' H') → tb W D σ H
section
variable {c : Vc} {tc : (L2.St → XK) → TE} {e E : List Nat} {wc : (Value → Prop) → VW}
end
/-! ### texts over values -/
section
variable {c : Vc} {t te : TE} {s e : List Nat} {f : Option (List Nat)} {w we : VW} {tl th : TO} {wl wh : VWO} {el eh : List Nat}
end
/-! ### for k in d, of a frozen dict; {k: v for ..} -/
theorem rp_kVV {K : PySem.W.Frag} {H : Hp} (k : Key) : Rp K H [] (kV k) (kVV k) := by
  cases k with
  | inl i => exact .int i
  | inr s => exact .str s
section
variable {c : Vc} {te : TE} {s e : List Nat} {f : Option (List Nat)} {we : VW}
def wiK (w : VW) : VWI := fun env Q => w env fun d env' => ∃ es : List (Key × Val), d = .fdc es ∧ Q (es.map fun p => kVV p.1) env'
theorem Kp.frzK {L : List Addr} {H H' : Hp} (k : Kp L H H') (m : ∀ a ∈ L, Mutb H a) {l : Addr} {o : Obj} {u : HO} (h : H l = some (.frz o u)) : H' l = some (.frz o u) := k.frz (fun z => (m l z).nofrz h) h
theorem simI_keys (h : SimE c te s f e we) : SimI c (iKeys te) [] e (wiK we) := ⟨fun env σ H Fs Q R S hw k =>
  h.sim env σ H Fs _ _ S hw fun v d F env1 H1 Fs1 o r sr fr ⟨es, ed, q⟩ => by
    clear fr
    subst ed
    cases r with
    | @fdc _ a od us _ hd rd =>
      refine ⟨a, od, rfl, .inl ⟨us, hd, k (Itk a od us) _ env1 H1 Fs1 o (fun e2 H2 Fs2 ef dj i => ?_) q⟩⟩
      have hd2 : H2 a = some (.frz od (.dK us)) := ef.kp.frzK (o.sr.effm _) hd
      have ln := rd.len
      have ky := rd.keys
      refine ⟨fun y hy => ?_, fun hi => ?_⟩
      · have hi := (List.getElem?_eq_some_iff.mp hy).1
        rw [List.length_map] at hi
        have hu : i < us.length := by omega
        refine ⟨⟨hd2, hu⟩, fun v H3 hv => ?_⟩
        obtain ⟨rfl, k0, v0, hx0, rfl⟩ := hv
        have ek : (us.map (·.1))[i]? = (es.map (·.1))[i]? := by rw [ky]
        rw [List.getElem?_map, List.getElem?_map, hx0] at ek
        rw [List.getElem?_map] at hy
        obtain ⟨p, hp, rfl⟩ := Option.map_eq_some_iff.mp hy
        rw [hp] at ek
        have ek : k0 = p.1 := Option.some.inj ek
        rw [ek]
        exact ⟨fun _ _ h => h, [], rp_kVV _, fun _ h => nomatch h⟩
      · rw [List.length_map] at hi
        exact ⟨hd2, by omega⟩⟩
end
section
variable {c : Vc} {fx vs E ei et : List Nat} {ti : TI} {wi : VWI} {g : TG} {wg : VWG} {tt : TT} {wt : VWT}
end
section
variable {c : Vc} {fx vs ei : List Nat} {ti : TI} {wi : VWI} {g : TG} {wg : VWG} {tt : TT} {wt : VWT} {tk tv : TE} {wk wv : VW} {sk sv et ek ev : List Nat} {fk fv : Option (List Nat)}
end
/-! ### list(d) -/
section
variable {c : Vc}
end
/-! ### a call that is handed a new list for good -/
section
variable {c : Vc} {t0 : TE} {ta : TA} {as : List Arg} {f : Option (List Nat)} {w0 : VW} {wa : VWA} {S : VSpec} {n : Nat}
end
/-! ### [e for a in xs if .. for b in ys if ..] -/
section
variable {c : Vc} {fx fx1 vs vs1 ei et et1 ee s' : List Nat} {ti ti1 : TI} {wi wi1 : VWI} {g g1 : TG} {wg wg1 : VWG} {tt tt1 : TT} {wt wt1 : VWT} {te : TE} {we : VW} {f' : Option (List Nat)}
end
/-! ### a new pair, taken apart: one name reads, the other one is own -/
section
variable {c : Vc} {fx lo E : List Nat}
end
/-! ### an own dict is frozen where it stands -/
def tFrzM (t : TE) : TE := fun σ H Q => t σ H fun v H' => ∃ d u, v = .ref d ∧ H' d = some u ∧ ((Mut (some u) ∧ ∀ od, Q v (upd H' d (.frz od u))) ∨ Q v H')
theorem pe_frzM {X : Cx} {e : Expr} {t : TE} (h : PE X e t) : PE X e (tFrzM t) := ⟨fun pins s σ H Q I hw => thn (h.run pins s σ H _ I hw) fun v s1 ⟨x, H1, I1, r, d, u, ex, hd, z⟩ => by
  rcases z with ⟨mu, q⟩ | q
  · obtain ⟨od, I2⟩ := I1.lock hd mu
    exact ⟨x, _, I2, r, q od⟩
  · exact ⟨x, _, I1, r, q⟩⟩
section
variable {c : Vc}
def wFrzO (i : Nat) : VW := fun env Q => (∃ es, env[i]? = some (some (.dic es)) ∧ Val.flatAllD es = true ∧ Q (.fdc es) (env.set i (some (.fdc es)))) ∨ ∃ es, env[i]? = some (some (.fdc es)) ∧ Val.flatAllD es = true ∧ Q (.fdc es) env
theorem simE_frzO {i : Nat} (hi : i < c.N) (hm : c.ms.contains i = true) : SimE c (tFrzM (tVar i)) [] (some []) [i] (wFrzO i) := ⟨fun env σ H Fs Q R S hw k => by
  have hm : i ∈ c.ms := by simpa using hm
  rcases hw with ⟨es, he, fl, q⟩ | ⟨es, he, fl, q⟩
  · obtain ⟨v, hv, r⟩ := S.at_ i _ he
    obtain ⟨a, kvs, G, rfl, ha, rd, eF⟩ := r.asDic
    have z := rd.flat fl
    subst z
    have nj : ∀ j, j ≠ i → a ∉ Fs j := fun j ne => S.sep i hm j ne a (by rw [eF]; exact List.mem_singleton.mpr rfl)
    have ml : Mutb H a := .inr (.inl ⟨_, ha⟩)
    refine ⟨.ref a, hv.1 hi, a, _, rfl, ha, .inl ⟨True.intro, fun od => ?_⟩⟩
    have mls : ∀ x ∈ [a], Mutb H x := fun x hx => by
      rw [List.mem_singleton.mp hx]
      exact ml
    have kp : Kp [a] H (upd H a (.frz od (.dK kvs))) := Kp.upd List.mem_cons_self
    have rd2 : Rp c.K (upd H a (.frz od (.dK kvs))) [] (.ref a) (.fdc es) := .fdc upd_same (rd.kp kp mls fun _ z => nomatch z)
    have ef : Eff c.ms [i] Fs H (upF Fs i []) (upd H a (.frz od (.dK kvs))) := ⟨fun j hj => by
      rw [List.mem_singleton.mp hj]
      exact hm, by
      rw [List.flatMap_cons, List.flatMap_nil, List.append_nil, eF]
      exact kp, fun x hx => by
      by_cases z : x = a
      · rw [z, upd_same] at hx
        cases hx
      · rw [upd_ne z] at hx
        exact hx, fun j hj n => upF_ne fun z => n (List.mem_singleton.mpr z), fun j hj x hx => by
      by_cases z : j = i
      · rw [z, upF_self] at hx
        cases hx
      · rw [upF_ne z] at hx
        exact .inl hx⟩
    have S2 : Sr c (env.set i (some (.fdc es))) σ (upd H a (.frz od (.dK kvs))) (upF Fs i []) := ⟨by rw [List.length_set, S.le], S.ls, fun j d h => by
      by_cases z : j = i
      · subst z
        have hl : j < env.length := by
          rw [S.le]
          omega
        rw [List.getElem?_set_self hl] at h
        cases h
        rw [upF_self]
        exact ⟨.ref a, hv, rd2⟩
      · rw [List.getElem?_set_ne (Ne.symm z)] at h
        obtain ⟨v', h1, r'⟩ := S.at_ j d h
        rw [upF_ne z]
        exact ⟨v', h1, r'.kp kp mls fun x hx y => nj j z (by rw [← List.mem_singleton.mp y]; exact hx)⟩, fun j h => by
      by_cases z : j = i
      · rw [z, upF_self]
      · rw [upF_ne z]
        exact S.emp j fun d y => h d (by rw [List.getElem?_set_ne (Ne.symm z)]; exact y), fun j hj k' ne x hx => by
      by_cases z : j = i
      · rw [z, upF_self] at hx
        cases hx
      · rw [upF_ne z] at hx
        by_cases y : k' = i
        · rw [y, upF_self]
          exact fun h => nomatch h
        · rw [upF_ne y]
          exact S.sep j hj k' ne x hx, fun j hj => by
      by_cases z : j = i
      · rw [z, upF_self]
        exact List.nodup_nil
      · rw [upF_ne z]
        exact S.nd j hj, S.tb.at1 (S.tb.notmut ml), S.xk.eff ef⟩
    exact k _ _ [] _ _ (upF Fs i []) ⟨S2, ef, fun j hj x hx => by
      rw [upF_ne fun z => hj (by rw [z]; exact hm)] at hx
      exact hx⟩ rd2 .nil .nil q
  · obtain ⟨v, hv, r⟩ := S.at_ i _ he
    generalize hF : Fs i = F0 at r
    cases r with
    | @fdc _ a od us _ hd rd =>
      have z := rd.flat fl
      subst z
      refine ⟨.ref a, hv.1 hi, a, _, rfl, hd, .inr ?_⟩
      exact k _ _ [] env H Fs ((Ok0.refl S).weak (fun _ h => nomatch h) fun j hj => by rw [List.mem_singleton.mp hj]; exact hm) (.fdc hd rd) .nil .nil q⟩
end
/-! ### x[k] = e of an own dict, texts as keys -/
section
variable {c : Vc} {te ti : TE} {s e s' e' : List Nat} {ft f' : Option (List Nat)} {we wi : VW} {fx lo E : List Nat}
end
/-! ### for k, x in enumerate(t[n]): x.append(e) — the lists of an own list change through the loop's name -/
section
variable {c : Vc} {te : TE} {s E fx lo : List Nat} {f0 : Option (List Nat)} {we : VW}
end
/-! ### a list within an own list of lists is appended to -/
section
variable {c : Vc} {ta te : TE} {sa s ea : List Nat} {fa f : Option (List Nat)} {wa we : VW}
end
/-! ### d.copy(); a list against an empty one; t + u; a sign not in a text -/
section
variable {c : Vc} {t ta te ti : TE} {s sa e ea s' e' : List Nat} {f fa f' : Option (List Nat)} {w wa we wi : VW}
/-! d.pop(k), d an own dict -/
/-! x[n].pop(), x[n].clear(), x an own list of lists -/
/-! xs == [], whatever stands in xs -/
/-! t + u -/
theorem RpA.ne {K : PySem.W.Frag} {H : Hp} {F : List Addr} {us : List V} {xs : List Val} (h : RpA K H F us xs) (n : xs ≠ []) : us ≠ [] := fun z => n (by
  have := h.len
  rw [z] at this
  exact List.length_eq_zero_iff.mp this.symm)
/-! a sign in a text or not -/
/-! a text, some times over -/
end
/-! ### a call that changes an item of an own list -/
section
variable {c : Vc} {ti : TE} {si : List Nat} {fi : Option (List Nat)} {wi : VW} {ta : TA} {as : List Arg} {f : Option (List Nat)} {wa : VWA} {S : VSpec} {n : Nat}
end
/-! ### own arguments at the places 0 and 2 -/
section
variable {c : Vc} {ta : TA} {f : Option (List Nat)} {e s : List Nat} {wa : VWA} {S : VSpec} {n : Nat}
end
/-! ### x[k] = a new list, x an own list -/
section
variable {c : Vc} {te ti : TE} {s s' : List Nat} {f' : Option (List Nat)} {we wi : VW} {fx lo E : List Nat}
end
/-! ### own arguments at the places 0, 1, 2, 4 of five, and the store -/
section
variable {c : Vc} {ta : TA} {f : Option (List Nat)} {e s : List Nat} {wa : VWA} {S : VSpec}
end
/-! ### for x in xs: x.append(None), x.clear() — each list of an own list changes alike -/
section
variable {c : Vc} {E fx lo : List Nat}
/-- what a body does to the list at hand -/
structure Bdy (c : Vc) (b : Nat) (B : TS) (g : List V → List V) (gd : List Val → List Val) : Prop where
  go : ∀ (D : Ends) (σ : L2.St) (H : Hp) (l : Addr) (zs : List V), σ[b]? = some (some (.ref l)) → H l = some (.lst zs) → zs.length < 1000000 → D.nx σ (upd H l (.lst (g zs))) → B D σ H
  rp : ∀ (K : PySem.W.Frag) (H : Hp) (us : List V) (xs : List Val), RpA K H [] us xs → RpA K H [] (g us) (gd xs)
end
/-! ### data sorted; data in a list -/
section
variable {X : Cx}
end
section
variable {c : Vc}
end
/-! ### texts of numbers, taken apart, put together -/
section
variable {c : Vc} {te tx : TE} {s e s' e' : List Nat} {f f' : Option (List Nat)} {we wx : VW}
end
section
variable {c : Vc}
/-- the parts of an f-string, one behind the other -/
def wJs : List VW → List Nat → VEnv → (List Nat → VEnv → Prop) → Prop
  | [], acc, env, Q => Q acc env
  | w :: ws, acc, env, Q => w env fun d env1 => ∃ y : Str, d = .str y ∧ acc.length + y.length ≤ 1000000 ∧ wJs ws (acc ++ y.cps.toList) env1 Q
inductive SimJ (c : Vc) : List TE → List VW → List Nat → Prop where
  | nil : SimJ c [] [] []
  | cons {te : TE} {s e es : List Nat} {f : Option (List Nat)} {we : VW} {ts : List TE} {ws : List VW} (h : SimE c te s f e we) (r : SimJ c ts ws es) : SimJ c (te :: ts) (we :: ws) (e ++ es)
theorem SimJ.run {ts : List TE} {ws : List VW} {es : List Nat} (h : SimJ c ts ws es) : ∀ (acc : List Nat) (env : VEnv) (σ : L2.St) (H : Hp) (Fs : Fp) (Q : Str → Hp → Prop) (R : List Nat → VEnv → Prop), Sr c env σ H Fs → wJs ws acc env R →
    (∀ out env1 H1 Fs1, Ok0 c es σ H Fs env1 H1 Fs1 → R out env1 → Q (SX.S out) H1) → tJs ts (SX.S acc) σ H Q := by
  induction h with
  | nil =>
    intro acc env σ H Fs Q R S hw k
    exact k acc env H Fs (Ok0.refl S) hw
  | @cons te s e es f we ts ws he r ih =>
    intro acc env σ H Fs Q R S hw k
    refine he.sim env σ H Fs _ _ S hw fun v d F env1 H1 Fs1 o r1 sr fr q0 => ?_
    obtain ⟨y, rfl, hl, q⟩ := q0
    cases r1
    have e1 : SX.S acc ++ y = SX.S (acc ++ y.cps.toList) := by
      have := SX.S_cat acc y.cps.toList
      rwa [SX.S_tl] at this
    refine ⟨y, rfl, ?_, ?_⟩
    · rw [e1, SX.S_len, List.length_append]
      have : y.cps.toList.length = y.length := Array.length_toList
      exact small_le (by omega)
    · rw [e1]
      exact ih _ env1 σ H1 Fs1 Q R o.sr q fun out env2 H2 Fs2 o2 q2 => k out env2 H2 Fs2 (o.trans o2) q2
end
/-! ### a tuple of a new list's flat items -/
section
variable {c : Vc} {te : TE} {s e : List Nat} {f : Option (List Nat)} {we : VW}
end
/-! ### the truth of a text -/
section
variable {c : Vc} {t : TE} {s e : List Nat} {f : Option (List Nat)} {w : VW}
end
/-! ### t[::-1] of a tuple of two -/
section
variable {prog : Program} {w : World} {A : Around} {E : Value → Shared → Prop} {s : Shared}
end
section
variable {X : Cx}
end
section
variable {c : Vc} {t : TE} {s e : List Nat} {f : Option (List Nat)} {w : VW}
end
/-! ### a comprehension of new lists whose element changes own ones -/
section
variable {c : Vc} {fx vs ei ee : List Nat} {ti : TI} {wi : VWI} {g : TG} {wg : VWG} {tt : TT} {wt : VWT} {te : TE} {we : VW}
end
/-! ### != of two values that may be dicts, which are alike; a slot of one's own given under try -/
section
variable {X : Cx} {pins : List (Addr × Obj)} {σ : L2.St} {H : Hp} {s : Shared}
end
section
variable {c : Vc} {tc : (L2.St → XK) → TE} {e E : List Nat} {wc : (Value → Prop) → VW}
end
/-! ### a turn while lists stand in slots: the store holds instances alone -/
mutual
def Val.noG : Val → Bool
  | .tup xs => Val.noGs xs
  | .lst xs => Val.noGs xs
  | .frz xs => Val.noGs xs
  | .dic es => Val.noGd es
  | .fdc es => Val.noGd es
  | .gho _ => false
  | _ => true
def Val.noGs : List Val → Bool
  | [] => true
  | x :: xs => x.noG && Val.noGs xs
def Val.noGd : List (Key × Val) → Bool
  | [] => true
  | x :: xs => x.2.noG && Val.noGd xs
end
def LD (H : Hp) (a : Addr) : Prop := (∃ xs, H a = some (.lst xs)) ∨ ∃ kvs, H a = some (.dK kvs)
mutual
theorem Rp.ld {K : PySem.W.Frag} {H : Hp} : ∀ {F : List Addr} {v : V} {d : Val}, Rp K H F v d → d.noG = true → ∀ a ∈ F, LD H a
  | _, _, _, .non, _, _, h => nomatch h
  | _, _, _, .bl _, _, _, h => nomatch h
  | _, _, _, .int _, _, _, h => nomatch h
  | _, _, _, .str _, _, _, h => nomatch h
  | _, _, _, .ty _, _, _, h => nomatch h
  | _, _, _, .opq _, _, _, h => nomatch h
  | _, _, _, .exc _, _, _, h => nomatch h
  | _, _, _, .tup _ r, n, a, ha => RpA.ld r n a ha
  | _, _, _, .lst h r, n, a, ha => (List.mem_cons.mp ha).elim (fun e => e ▸ .inl ⟨_, h⟩) fun z => RpA.ld r n a z
  | _, _, _, .frz _ r, n, a, ha => RpA.ld r n a ha
  | _, _, _, .dic h r, n, a, ha => (List.mem_cons.mp ha).elim (fun e => e ▸ .inr ⟨_, h⟩) fun z => RpD.ld r n a z
  | _, _, _, .fdc _ r, n, a, ha => RpD.ld r n a ha
  | _, _, _, .gho _ f r, n, a, ha => nomatch n
theorem RpA.ld {K : PySem.W.Frag} {H : Hp} : ∀ {F : List Addr} {vs : List V} {ds : List Val}, RpA K H F vs ds → Val.noGs ds = true → ∀ a ∈ F, LD H a
  | _, _, _, .nil, _, _, h => nomatch h
  | _, _, _, .cons (d := d) (ds := ds) h r, n, a, ha =>
    have n : (d.noG && Val.noGs ds) = true := n
    (List.mem_append.mp ha).elim (fun z => Rp.ld h (Bool.and_eq_true _ _ ▸ n).1 a z) fun z => RpA.ld r (Bool.and_eq_true _ _ ▸ n).2 a z
theorem RpD.ld {K : PySem.W.Frag} {H : Hp} : ∀ {F : List Addr} {vs : List (Key × V)} {ds : List (Key × Val)}, RpD K H F vs ds → Val.noGd ds = true → ∀ a ∈ F, LD H a
  | _, _, _, .nil, _, _, h => nomatch h
  | _, _, _, .cons (d := d) (es := es) h r, n, a, ha =>
    have n : (d.noG && Val.noGd es) = true := n
    (List.mem_append.mp ha).elim (fun z => Rp.ld h (Bool.and_eq_true _ _ ▸ n).1 a z) fun z => RpD.ld r (Bool.and_eq_true _ _ ▸ n).2 a z
end
section
variable {K : PySem.W.Frag} {Ps : TL} {N : Nat} {E : XK} {xe : Value → Prop} {t : TS} {w : VWS}
end
/-! ### one that looks first, may raise while it looks, then changes the store and returns a flat value -/
structure SimR (K : PySem.W.Frag) (Ps : TL) (N : Nat) (E : XK) (xe : Value → Prop) (t : TS) (w : VWS) : Prop where
  sim : ∀ (env : VEnv) (σ : L2.St) (H : Hp) (Fs : Fp) (D : Ends) (R : VEnds), Sr ⟨K, Ps, [], N, E, xe, false, 1⟩ env σ H Fs → w R env →
    (∀ env' σ' H' Fs' g, Sr ⟨K, Ps, [N], N, E0, fun _ => False, false, 1⟩ env' σ' H' Fs' → env[N]? = some (some (.gho g)) → Kp (Fs N) H H' → (∀ a, H' a = none → H a = none) → (∀ a ∈ Fs' N, a ∈ Fs N ∨ H a = none) → R.nx env' → D.nx σ' H') →
    (∀ v d env' σ' H' Fs' g, Sr ⟨K, Ps, [N], N, E0, fun _ => False, false, 1⟩ env' σ' H' Fs' → env[N]? = some (some (.gho g)) → Kp (Fs N) H H' → (∀ a, H' a = none → H a = none) → (∀ a ∈ Fs' N, a ∈ Fs N ∨ H a = none) → Rp K H' [] v d → R.rt d env' → D.rt v H') → t D σ H
section
variable {K : PySem.W.Frag} {Ps : TL} {N n : Nat} {E : XK} {xe : Value → Prop} {s t : TS} {w w' : VWS} {S : VSpec}
end
/-! ### isinstance(x, C), x an instance of C in the store -/
section
variable {c : Vc} {t : TE} {s e : List Nat} {f : Option (List Nat)} {w : VW}
end
section
variable {c : Vc} {as : List Arg} {ta : TA} {f : Option (List Nat)} {wa : VWA} {S : VSpec} {n : Nat}
end
/-! ### text.index(sign) where it is found; dict(d) -/
section
variable {c : Vc} {te ta : TE} {s e sa ea : List Nat} {f fa : Option (List Nat)} {we wa : VW}
end
/-! ### list.count(True), list.index(True), a list of truths -/
section
variable {X : Cx}
end
section
variable {c : Vc} {te : TE} {s e : List Nat} {f : Option (List Nat)} {we : VW}
end
/-! ### d.update(o), o a dict -/
section
variable {X : Cx}
end
/-! ### d.update(o), d an own dict, o a frozen one -/
section
variable {c : Vc} {te : TE} {s e : List Nat} {f : Option (List Nat)} {we : VW}
end
/-! ### one that tests and hands on: each way out is a call that may raise, changes the store, and tells a flat value -/
section
variable {K : PySem.W.Frag} {Ps : TL} {N n : Nat} {E : XK} {xe : Value → Prop} {t u : TS} {w w' : VWS} {tt : TT} {wt : VWT} {tc : (L2.St → XK) → TE} {Ef : List Nat} {wc : (Value → Prop) → VW}
end
/-! ### == of two frozen dicts whose values are data -/
inductive DEq (K : PySem.W.Frag) (H : Hp) (ls : List (Key × V)) : List (Key × V) → Bool → Prop where
  | nil : DEq K H ls [] true
  | miss {k : Key} {v : V} {r : List (Key × V)} : valV ls k = none → DEq K H ls ((k, v) :: r) false
  | hit {k : Key} {v u : V} {d e : PyData} {r : List (Key × V)} {b : Bool} : valV ls k = some u → Dp K H v d → Dp K H u e → SeqAt.shaped d = true → SeqAt.shaped e = true → DEq K H ls r b → DEq K H ls ((k, v) :: r) (PyData.eqv d e && b)
section
variable {X : Cx} {pins : List (Addr × Obj)} {σ : L2.St} {H : Hp} {s : Shared}
end
inductive VEq (es' : List (Key × Val)) : List (Key × Val) → Bool → Prop where
  | nil : VEq es' [] true
  | miss {k : Key} {v : Val} {r : List (Key × Val)} : getKV es' k = none → VEq es' ((k, v) :: r) false
  | hit {k : Key} {v u : Val} {r : List (Key × Val)} {b : Bool} : getKV es' k = some u → v.okD → u.okD → VEq es' r b → VEq es' ((k, v) :: r) (PyData.eqv v.toD u.toD && b)
theorem VEq.down {K : PySem.W.Frag} {H : Hp} {G : List Addr} {ws : List (Key × V)} {es' : List (Key × Val)} (r2 : RpD K H G ws es') {es : List (Key × Val)} {r : Bool} (h : VEq es' es r) : ∀ {F : List Addr} {us : List (Key × V)}, RpD K H F us es → DEq K H ws us r := by
  induction h with
  | nil =>
    intro F us r1
    cases r1
    exact .nil
  | miss hm =>
    intro F us r1
    cases r1 with
    | cons a t => exact .miss (r2.look.2 hm)
  | hit hm o1 o2 _ ih =>
    intro F us r1
    cases r1 with
    | cons a t =>
      obtain ⟨v, G2, hv, rv⟩ := r2.look.1 _ hm
      exact .hit hv (a.dp o1.1) (rv.dp o2.1) o1.2 o2.2 (ih t)
/-! ### a call that is handed a new list for good, and two variables to read -/
section
variable {c : Vc} {t0 : TE} {w0 : VW} {S : VSpec} {i j : Nat}
end
/-! ### x.clear(), x an own list -/
section
variable {c : Vc}
end
/-! ### what is walked over is a tuple -/
section
variable {c : Vc} {te : TE} {s e : List Nat} {f : Option (List Nat)} {we : VW}
end
/-! ### a + b, where a is a frozen list -/
theorem meets_addZ (l : Addr) (items : Array Value) (n : Nat) (o o2 : Obj) (b : Addr) (items2 : Array Value) (n2 : Nat) (hc0 : items.size + items2.size ≤ sizeLine) (h1 : o.cls = .type "list") (h2 : o.dict = none) (h3 : o.data = .seq items n) (g1 : o2.cls = .type "list") (g2 : o2.dict = none) (g3 : o2.data = .seq items2 n2) :
    PySem.Meets (PySem.Builtin.«list.__add__» ⟨[.ref l, .ref b], []⟩) (fun _ R s => s.heap.get? l = some o ∧ s.heap.get? b = some o2 ∧ R (.ok (.ret (Value.ref s.heap.objs.size))) { s with heap := s.heap.push { cls := Value.type "list", data := Data.seq (items ++ items2) }, toks := s.toks }) := by
  obtain ⟨c, d, dt, sl⟩ := o
  obtain ⟨c2, d2, dt2, sl2⟩ := o2
  cases h1
  cases h2
  cases h3
  cases g1
  cases g2
  cases g3
  exact .of_wp fun prog w A R s h => by obtain ⟨hp, g, d, tk, os⟩ := s; obtain ⟨hl, hb, h⟩ := h; have f1 := PySem.AutoSeq1.idx_int; have f2 := PySem.AutoSeq1.sub_tuple_tuple; have f3 := PySem.AutoSeq1.sub_list_list; have f4 := PySem.AutoSeq1.sub_tuple_list; have f5 := PySem.AutoSeq1.sub_list_tuple; wp_walk using PySem.AutoSeq1.wpAny_loadPart' hl, PySem.AutoSeq1.wpAny_loadPart' hb; exact ⟨_, rfl, h⟩
def rCatZ (K : PySem.W.Frag) : R2 := fun x y H Q => ∃ l b xs zs, x = .ref l ∧ y = .ref b ∧ SqL K H l xs ∧ SqL K H b zs ∧ xs.length + zs.length ≤ sizeLine ∧ ∀ p, H p = none → Q (.ref p) (upd H p (.lst (xs ++ zs)))
theorem op_catZ {X : Cx} : OpR X (binaryOp .Add) (rCatZ X.K) := by
  intro pins s σ H x y v u Q I rx ry h
  obtain ⟨l, b, xs, zs, rfl, rfl, hH, hB, hz, q⟩ := h
  cases rx
  cases ry
  obtain ⟨its, r, ⟨o, n, e, h1, h2, h3⟩, _⟩ := I.list hH
  obtain ⟨its2, r2, ⟨o2, n2, e2, g1, g2, g3⟩, _⟩ := I.list hB
  have hl := r.length
  have hl2 := r2.length
  refine PySem.concat_meets ⟨_, e, h1⟩ ⟨_, e2, g1⟩ PySem.noFill_list_add PySem.seq_list_add PySem.F.slot_list_add PySem.F.entry_list_add (PySem.F.args_list_add_2 _ _) (meets_addZ l its.toArray n o o2 b its2.toArray n2 (by rw [List.size_toArray, List.size_toArray]; omega) h1 h2 h3 g1 g2 g3) ⟨e, e2, ?_⟩
  have ea : its.toArray ++ its2.toArray = (its ++ its2).toArray := by simp
  rw [ea]
  exact ⟨.ref _, _, I.lnew (t' := s.toks) (r.append r2) (by rw [List.length_append]; omega), rfl, q _ I.fresh⟩
def fCatZ : Val → Val → (Val → Prop) → Prop
  | .frz xs, .lst ys, Q => Val.flatAll xs = true ∧ Val.flatAll ys = true ∧ xs.length + ys.length ≤ 1000000 ∧ Q (.lst (xs ++ ys))
  | .frz xs, .frz ys, Q => Val.flatAll xs = true ∧ Val.flatAll ys = true ∧ xs.length + ys.length ≤ 1000000 ∧ Q (.lst (xs ++ ys))
  | .lst xs, .frz ys, Q => Val.flatAll xs = true ∧ Val.flatAll ys = true ∧ xs.length + ys.length ≤ 1000000 ∧ Q (.lst (xs ++ ys))
  | _, _, _ => False
theorem r2_catZ {K : PySem.W.Frag} : R2L K (rCatZ K) fCatZ := fun H x y d e F G Q R h1 h2 h k => by
  cases d <;> try exact h.elim
  all_goals (cases e <;> try exact h.elim)
  · obtain ⟨f1, f2, hl, q⟩ := h
    obtain ⟨l, vs, rfl, hl1, ra⟩ := h1.asLF f1
    obtain ⟨m, ws, rfl, hm1, rb⟩ := h2.asF
    have z := rb.flat f2
    subst z
    exact ⟨l, m, vs, ws, rfl, rfl, SqL.of hl1, hm1, small_le (by rw [ra.len, rb.len]; exact hl), fun p np => k _ _ p (ra.app rb) np q⟩
  all_goals
    obtain ⟨f1, f2, hl, q⟩ := h
    obtain ⟨l, vs, rfl, hl1, ra⟩ := h1.asF
    have z := ra.flat f1
    subst z
  · obtain ⟨m, ws, rfl, hm1, rb⟩ := h2.asLF f2
    exact ⟨l, m, vs, ws, rfl, rfl, hl1, SqL.of hm1, small_le (by rw [ra.len, rb.len]; exact hl), fun p np => k _ _ p (ra.app rb) np q⟩
  · obtain ⟨m, ws, rfl, hm1, rb⟩ := h2.asF
    have z := rb.flat f2
    subst z
    exact ⟨l, m, vs, ws, rfl, rfl, hl1, hm1, small_le (by rw [ra.len, rb.len]; exact hl), fun p np => k _ _ p (ra.app rb) np q⟩
/-! ### a, b = e1, e2, which are flat -/
section
variable {c : Vc} {fx lo E : List Nat} {ta : TA} {as : List Arg} {f : Option (List Nat)} {wa : VWA}
end
/-! ### own arguments at the places 1 and 3 of four -/
def U13 : VEnv → Option (List Val)
  | _ :: some d :: _ :: some d' :: _ => some [.non, d, .non, d']
  | _ => none
theorem two13 {p : Nat} (hp : p ∈ [1, 3]) : p = 1 ∨ p = 3 := by simpa using hp
theorem hU13 : ∀ env ds', U13 env = some ds' → ∀ p ∈ [1, 3], ∃ d, ds'[p]? = some d ∧ env[p]? = some (some d) := fun env ds' h p hp => by
  have := two13 hp
  unfold U13 at h
  split at h
  · cases h
    rcases this with rfl | rfl
    · exact ⟨_, rfl, rfl⟩
    · exact ⟨_, rfl, rfl⟩
  · cases h
def B13 (i j : Nat) : List Val → VEnv → (VEnv → Prop) → Prop
  | _ :: d :: _ :: d' :: _, env, R => R ((env.set i (some d)).set j (some d'))
  | _, _, _ => False
section
variable {c : Vc} {ta : TA} {f : Option (List Nat)} {e s s2 : List Nat} {wa : VWA} {S : VSpec} {n : Nat}
theorem simE_call13 {i j : Nat} (hM : Mono S) (h : SimA c ta [.v s, .o i, .v s2, .o j] f e wa) (ho : apO i [.v s, .v s2] = true) (ho2 : apO j [.v s, .v s2] = true) (hij : i ≠ j) (hi : i < c.N) (hj : j < c.N) : SimE c (tCall (vsp c.K c.Ps [1, 3] 4 S) [] c.E ta) [] (some []) (e ++ [i, j]) (wCall S c.xe (B13 i j) wa) := by
  refine simE_call (own := [1, 3]) (sl := fun p => if p = 1 then i else j) hM h ⟨fun p hp q hq z => ?_, fun p hp => ?_, fun p k z => ?_, fun p hp q s' z => ?_⟩ rfl fun ds' env R le hb => ?_
  · rcases two13 hp with rfl | rfl <;> rcases two13 hq with rfl | rfl
    · rfl
    · exact absurd z hij
    · exact absurd z.symm hij
    · rfl
  · rcases two13 hp with rfl | rfl <;> rfl
  · rcases p with _ | _ | _ | _ | p
    · cases z
    · simp
    · cases z
    · simp
    · cases z
  · rcases q with _ | _ | _ | _ | q
    · have z : [Arg.v s, .v s2][0]? = some (.v s') := z
      rcases two13 hp with rfl | rfl
      · exact apO_at ho z
      · exact apO_at ho2 z
    · cases z
    · have z : [Arg.v s, .v s2][1]? = some (.v s') := z
      rcases two13 hp with rfl | rfl
      · exact apO_at ho z
      · exact apO_at ho2 z
    · cases z
    · cases z
  · rcases ds' with _ | ⟨d0, _ | ⟨d, _ | ⟨d1, _ | ⟨d', ds'⟩⟩⟩⟩
    · exact hb.elim
    · exact hb.elim
    · exact hb.elim
    · exact hb.elim
    · refine ⟨_, hb, by rw [List.length_set, List.length_set, le], fun p hp x z => ?_, fun k hk => ?_⟩
      · rcases two13 hp with rfl | rfl
        · cases z
          show ((env.set i (some d)).set j (some d'))[i]? = _
          rw [List.getElem?_set_ne hij.symm, List.getElem?_set_self (by rw [le]; omega)]
        · cases z
          show ((env.set i (some d)).set j (some d'))[j]? = _
          rw [List.getElem?_set_self (by rw [List.length_set, le]; omega)]
      · have h0 : i ≠ k := hk 1 (by simp)
        have h1 : j ≠ k := hk 3 (by simp)
        rw [List.getElem?_set_ne h1, List.getElem?_set_ne h0]
end
/-! ### .. and a list of nobody's stands last -/
section
variable {c : Vc} {te : TE} {we : VW} {S : VSpec} {a i b : Nat}
def wCallN13 (a i b : Nat) (S : VSpec) (xe : Value → Prop) (we : VW) : VW := fun env Q => (∃ pa pi pb, env[a]? = some (some pa) ∧ env[i]? = some (some pi) ∧ env[b]? = some (some pb)) ∧ we env fun d env1 => ∃ pa pi pb, env1[a]? = some (some pa) ∧ env1[i]? = some (some pi) ∧ env1[b]? = some (some pb) ∧ pb.flat = true ∧ S [pa, pi, pb, d] (fun ds' r => match ds' with
      | _ :: p' :: _ => Q r (env1.set i (some p'))
      | _ => False) xe
def fF13 (F0 F1 G3 : List Addr) : Fp
  | 0 => F0
  | 1 => F1
  | 3 => G3
  | _ => []
theorem simE_callN13 (hM : Mono S) (h1 : SimE c te [] (some []) [] we) (hm : c.ms.contains i = true) (hma : c.ms.contains a = false) (hi : i < c.N) (ha : a < c.N) (hb : b < c.N) : SimE c (tCall (vsp c.K c.Ps [1, 3] 4 S) [] c.E (tCons (tVar a) (tCons (tVar i) (tCons (tVar b) (tCons te tNil))))) [] (some []) [i] (wCallN13 a i b S c.xe we) := ⟨fun env σ H Fs Q R S0 hw k => by
  have hm : i ∈ c.ms := by simpa using hm
  have hma : a ∉ c.ms := by simpa using hma
  have nai : a ≠ i := fun z => hma (by rw [z]; exact hm)
  obtain ⟨⟨pa0, pi0, pb0, ea0, ei0, eb0⟩, hw⟩ := hw
  obtain ⟨va, hva, _⟩ := S0.at_ a pa0 ea0
  obtain ⟨vi, hvi, _⟩ := S0.at_ i pi0 ei0
  obtain ⟨vb, hvb, _⟩ := S0.at_ b pb0 eb0
  have hva := hva.1 ha
  have hv := hvi.1 hi
  have hvb := hvb.1 hb
  refine ⟨va, hva, vi, hv, vb, hvb, h1.sim env σ H Fs _ _ S0 hw fun v1 d1 G1 env1 H1 Fs1 o1 r1 s1 f1 q1 => ?_⟩
  obtain ⟨pa, pi, pb, ea, hp, eb, fl, q2⟩ := q1
  obtain ⟨va', hva', rpa⟩ := o1.sr.at_ a pa ea
  obtain ⟨vi', hvi', rp⟩ := o1.sr.at_ i pi hp
  obtain ⟨vb', hvb', rpb⟩ := o1.sr.at_ b pb eb
  have e1 := hva'.1 ha
  rw [hva] at e1
  cases e1
  have e1 := hvi'.1 hi
  rw [hv] at e1
  cases e1
  have e1 := hvb'.1 hb
  rw [hvb] at e1
  cases e1
  obtain ⟨nd1, new1⟩ := f1 [] rfl
  have new1 : ∀ x ∈ G1, H x = none := fun x hx => (new1 x hx).elim id fun ⟨_, h, _⟩ => nomatch h
  have fsame : ∀ j ∈ c.ms, j ≠ i → Fs1 j = Fs j := fun j hj ne => o1.ef.out j hj fun h => nomatch h
  have foot2 : ∀ x ∈ Fs1 i, x ∈ Fs i ∨ H x = none := fun x hx => o1.ef.foot i hm x hx
  have g1f : ∀ j, ∀ x ∈ G1, x ∉ Fs1 j := fun j x hx z => by
    by_cases hj : j ∈ c.ms
    · exact s1 x hx j hj (fun h => nomatch h) z
    · exact (S0.mutb j x (o1.vl j hj x z)).ex (new1 x hx)
  have rb : Rp c.K H1 [] vb pb := by
    have z := rpb.flat fl
    rw [z] at rpb
    exact rpb
  have Sc : Sr ⟨c.K, c.Ps, [1, 3], 4, fun _ _ _ => False, fun _ => False, false, 0⟩ ([pa, pi, pb, d1].map some) ([va, vi, vb, v1].map some) H1 (fF13 (Fs1 a) (Fs1 i) G1) := by
    refine ⟨rfl, rfl, fun j d h => ?_, fun j h => ?_, fun x hx j hj y hy z => ?_, fun x hx => ?_, o1.sr.tb, xk0⟩
    · rcases j with _ | _ | _ | _ | j
      · cases h
        exact ⟨va, .of (show 0 < 4 by decide) rfl, rpa⟩
      · cases h
        exact ⟨vi, .of (show 1 < 4 by decide) rfl, rp⟩
      · cases h
        exact ⟨vb, .of (show 2 < 4 by decide) rfl, rb⟩
      · cases h
        exact ⟨v1, .of (show 3 < 4 by decide) rfl, r1⟩
      · simp at h
    · rcases j with _ | _ | _ | _ | j
      · exact absurd rfl (h pa)
      · exact absurd rfl (h pi)
      · rfl
      · exact absurd rfl (h d1)
      · rfl
    · rcases two13 hx with rfl | rfl
      · rcases j with _ | _ | _ | _ | j
        · exact o1.sr.sep i hm a nai y hy z
        · exact hj rfl
        · cases z
        · exact g1f i y z hy
        · cases z
      · rcases j with _ | _ | _ | _ | j
        · exact g1f a y hy z
        · exact g1f i y hy z
        · cases z
        · exact hj rfl
        · cases z
    · rcases two13 hx with rfl | rfl
      · exact o1.sr.nd i hm
      · exact nd1
  have effs : ∀ {Gs' : Fp} {H' : Hp}, Eff [1, 3] [1, 3] (fF13 (Fs1 a) (Fs1 i) G1) H1 Gs' H' → Eff c.ms [i] Fs H (upF Fs1 i (Gs' 1)) H' := fun {Gs' H'} ef => by
    refine ⟨fun j hj => by rw [List.mem_singleton.mp hj]; exact hm, fun b o hb hH => ?_, fun a ha => o1.ef.gr a (ef.gr a ha), fun j hj nn => ?_, fun j hj a ha => ?_⟩
    · have nb : b ∉ Fs i := fun z => hb (by rw [List.flatMap_singleton]; exact z)
      have n2 : b ∉ [1, 3].flatMap (fF13 (Fs1 a) (Fs1 i) G1) := fun z => by
        obtain ⟨x, hx, y⟩ := List.mem_flatMap.mp z
        rcases two13 hx with rfl | rfl
        · rcases foot2 b y with t | t
          · exact nb t
          · rw [hH] at t
            cases t
        · have := new1 b y
          rw [hH] at this
          cases this
      rcases o1.ef.kp b o (fun z => nomatch z) hH with y | ⟨ps, qs, rfl, y⟩
      · exact ef.kp b o n2 y
      · rcases ef.kp b _ n2 y with x | ⟨_, qs', _, x⟩
        · exact .inr ⟨ps, qs, rfl, x⟩
        · exact .inr ⟨ps, qs', rfl, x⟩
    · have ne : j ≠ i := fun z => nn (List.mem_singleton.mpr z)
      rw [upF_ne ne]
      exact fsame j hj ne
    · by_cases e : j = i
      · subst e
        rw [upF_self] at ha
        rcases ef.foot 1 (by simp) a ha with y | y
        · exact foot2 a y
        · exact .inr (o1.ef.gr a y)
      · rw [upF_ne e, fsame j hj e] at ha
        exact .inl ha
  show vsp c.K c.Ps [1, 3] 4 S [va, vi, vb, v1] H1 Q c.E
  refine ⟨_, _, Sc, hM _ _ _ _ _ (fun ds' rv hb H' u F Gs' O rr nd new => ?_) (fun x hx H' Gs' ef tb => ?_) q2⟩
  · rcases ds' with _ | ⟨p0, _ | ⟨p', ds'⟩⟩
    · exact hb.elim
    · exact hb.elim
    · 
      have ef := effs O.ef
      have hN2 : i < env1.length := by rw [o1.sr.le]; omega
      have g0 : ∀ a ∈ Gs' 1, a ∈ Fs1 i ∨ H1 a = none := fun a ha => O.ef.foot 1 (by simp) a ha
      refine k u rv F _ H' (upF Fs1 i (Gs' 1)) ⟨⟨by rw [List.length_set, o1.sr.le], o1.sr.ls, fun j d h => ?_, fun j h => ?_, fun x hx j hj a ha z => ?_, fun x hx => ?_, O.tb, S0.xk.eff ef⟩, ef, fun j hj a ha => ?_⟩ rr (fun a ha j hj _ z => ?_) (fun mv e => ⟨nd, fun a ha => .inl (o1.ef.gr a (new a ha).1)⟩) hb
      · rcases set_at h with ⟨rfl, rfl⟩ | ⟨ne, h⟩
        · obtain ⟨w, d, g1, g2, g3⟩ := O.rp 1 (by simp)
          cases g1
          cases g2
          exact ⟨_, .of hi hv, by rw [upF_self]; exact g3⟩
        · obtain ⟨w, g1, g2⟩ := o1.sr.at_ j d h
          refine ⟨w, g1, ?_⟩
          rw [upF_ne ne]
          refine g2.kp O.ef.kp (Sc.effm _) fun a ha z => ?_
          obtain ⟨x, hx, y⟩ := List.mem_flatMap.mp z
          rcases two13 hx with rfl | rfl
          · exact o1.sr.sep i hm j ne a y ha
          · exact g1f j a y ha
      · by_cases e : j = i
        · subst e
          exact absurd (by rw [List.getElem?_set_self hN2]) (h p')
        · rw [upF_ne e]
          refine o1.sr.emp j fun d' h' => h d' ?_
          rw [List.getElem?_set_ne (Ne.symm e)]
          exact h'
      · by_cases e : x = i
        · subst e
          rw [upF_self] at ha
          rw [upF_ne hj] at z
          rcases g0 a ha with y | y
          · exact o1.sr.sep x hx j hj a y z
          · exact (o1.sr.mutb j a z).ex y
        · rw [upF_ne e] at ha
          by_cases e2 : j = i
          · subst e2
            rw [upF_self] at z
            rcases g0 a z with y | y
            · exact o1.sr.sep x hx j hj a ha y
            · exact (o1.sr.mutb x a ha).ex y
          · rw [upF_ne e2] at z
            exact o1.sr.sep x hx j hj a ha z
      · by_cases e : x = i
        · subst e
          rw [upF_self]
          exact O.nd 1 (by simp)
        · rw [upF_ne e]
          exact o1.sr.nd x hx
      · rw [upF_ne fun e => hj (by rw [e]; exact hm)] at ha
        exact o1.vl j hj a ha
      · by_cases e : j = i
        · subst e
          rw [upF_self] at z
          exact (new a ha).2 1 (by simp) z
        · rw [upF_ne e] at z
          exact (o1.sr.mutb j a z).ex (new a ha).1
  · have ef := effs ef
    exact S0.xk x H' _ (ef.mono (fun j hj => ef.sub j hj) fun _ z => z) tb hx⟩
end
/-! ### an own list is frozen where it stands -/
section
variable {c : Vc}
def wFrzLO (i : Nat) : VW := fun env Q => ∃ es, env[i]? = some (some (.lst es)) ∧ Val.flatAll es = true ∧ Q (.frz es) (env.set i (some (.frz es)))
theorem simE_frzLO {i : Nat} (hi : i < c.N) (hm : c.ms.contains i = true) : SimE c (tFrzM (tVar i)) [] (some []) [i] (wFrzLO i) := ⟨fun env σ H Fs Q R S hw k => by
  have hm : i ∈ c.ms := by simpa using hm
  obtain ⟨es, he, fl, q⟩ := hw
  · obtain ⟨v, hv, r⟩ := S.at_ i _ he
    obtain ⟨a, kvs, G, rfl, ha, rd, eF⟩ := r.asL
    have z := rd.flat fl
    subst z
    have nj : ∀ j, j ≠ i → a ∉ Fs j := fun j ne => S.sep i hm j ne a (by rw [eF]; exact List.mem_singleton.mpr rfl)
    have ml : Mutb H a := .inl ⟨_, ha⟩
    refine ⟨.ref a, hv.1 hi, a, _, rfl, ha, .inl ⟨True.intro, fun od => ?_⟩⟩
    have mls : ∀ x ∈ [a], Mutb H x := fun x hx => by
      rw [List.mem_singleton.mp hx]
      exact ml
    have kp : Kp [a] H (upd H a (.frz od (.lst kvs))) := Kp.upd List.mem_cons_self
    have rd2 : Rp c.K (upd H a (.frz od (.lst kvs))) [] (.ref a) (.frz es) := .frz (.inl ⟨_, upd_same⟩) (rd.kp kp mls fun _ z => nomatch z)
    have ef : Eff c.ms [i] Fs H (upF Fs i []) (upd H a (.frz od (.lst kvs))) := ⟨fun j hj => by
      rw [List.mem_singleton.mp hj]
      exact hm, by
      rw [List.flatMap_cons, List.flatMap_nil, List.append_nil, eF]
      exact kp, fun x hx => by
      by_cases z : x = a
      · rw [z, upd_same] at hx
        cases hx
      · rw [upd_ne z] at hx
        exact hx, fun j hj n => upF_ne fun z => n (List.mem_singleton.mpr z), fun j hj x hx => by
      by_cases z : j = i
      · rw [z, upF_self] at hx
        cases hx
      · rw [upF_ne z] at hx
        exact .inl hx⟩
    have S2 : Sr c (env.set i (some (.frz es))) σ (upd H a (.frz od (.lst kvs))) (upF Fs i []) := ⟨by rw [List.length_set, S.le], S.ls, fun j d h => by
      by_cases z : j = i
      · subst z
        have hl : j < env.length := by
          rw [S.le]
          omega
        rw [List.getElem?_set_self hl] at h
        cases h
        rw [upF_self]
        exact ⟨.ref a, hv, rd2⟩
      · rw [List.getElem?_set_ne (Ne.symm z)] at h
        obtain ⟨v', h1, r'⟩ := S.at_ j d h
        rw [upF_ne z]
        exact ⟨v', h1, r'.kp kp mls fun x hx y => nj j z (by rw [← List.mem_singleton.mp y]; exact hx)⟩, fun j h => by
      by_cases z : j = i
      · rw [z, upF_self]
      · rw [upF_ne z]
        exact S.emp j fun d y => h d (by rw [List.getElem?_set_ne (Ne.symm z)]; exact y), fun j hj k' ne x hx => by
      by_cases z : j = i
      · rw [z, upF_self] at hx
        cases hx
      · rw [upF_ne z] at hx
        by_cases y : k' = i
        · rw [y, upF_self]
          exact fun h => nomatch h
        · rw [upF_ne y]
          exact S.sep j hj k' ne x hx, fun j hj => by
      by_cases z : j = i
      · rw [z, upF_self]
        exact List.nodup_nil
      · rw [upF_ne z]
        exact S.nd j hj, S.tb.at1 (S.tb.notmut ml), S.xk.eff ef⟩
    exact k _ _ [] _ _ (upF Fs i []) ⟨S2, ef, fun j hj x hx => by
      rw [upF_ne fun z => hj (by rw [z]; exact hm)] at hx
      exact hx⟩ rd2 .nil .nil q⟩
end
section
variable {c : Vc} {t : TE} {s : List Nat} {f : Option (List Nat)} {e : List Nat} {w : VW}
/-- t[::-1] of a frozen list -/
def wRevZ (w : VW) : VW := fun env Q => w env fun d env1 => match d with
  | .frz xs => Val.flatAll xs = true ∧ Q (.lst xs.reverse) env1
  | _ => False
theorem simE_revZ (h : SimE c t s f e w) : SimE c (tRevL c.K t) [] (some []) e (wRevZ w) := ⟨fun env σ H Fs Q R S hw k =>
  h.sim env σ H Fs _ _ S hw fun v d F env1 H1 Fs1 o1 r1 s1 _ q1 => by
    cases d <;> try exact q1.elim
    obtain ⟨hf, q⟩ := q1
    obtain ⟨l, vs, e, h1, ra⟩ := r1.asF
    have z := ra.flat hf
    subst e z
    exact ⟨l, vs, rfl, h1, fun p np => new_flat k o1 ra.rev np q⟩⟩
end
section
variable {c : Vc} {ta : TA} {as : List Arg} {f : Option (List Nat)} {e : List Nat} {wa : VWA}
/-- zip(a, b), a frozen -/
def wiZF (wa : VWA) : VWI := fun env Q => wa env fun ds env' => match ds with
  | [.frz xs, .lst ys] => Q (zipV xs ys) env'
  | _ => False
theorem simI_zipF (h : SimA c ta as f e wa) : SimI c (iZip c.K ta) (as.flatMap Arg.src) e (wiZF wa) := ⟨fun env σ H Fs Q R S hw k =>
  h.sim env σ H Fs _ _ S hw fun vs ds Gs env1 H1 Fs1 o r fr q => by
    split at q
    · rename_i xs ys
      obtain ⟨v, w, F, F2, e1, r1, q1, sr, sq⟩ := r.two' o.sr
      subst e1
      obtain ⟨l, us, e2, hl, ra⟩ := r1.asF
      obtain ⟨m, ws, G2, e3, hm, qa, hF2⟩ := q1.asL
      subst e2 e3
      refine ⟨l, m, us, ws, rfl, hl, SqL.of hm, k (Itz c.K l m) _ env1 H1 Fs1 o (fun e2 H2 Fs2 ef dj i => ?_) q⟩
      obtain ⟨r2, s2⟩ := r1.eff o.sr ef sr dj
      obtain ⟨q2, z2⟩ := q1.eff o.sr ef sq dj
      obtain ⟨l', us', ev, hl', ra'⟩ := r2.asF
      cases ev
      obtain ⟨m', ws', G2', ev, hm', qa', hF2'⟩ := q2.asL
      cases ev
      rw [zipV_len]
      refine ⟨fun x hx => ?_, fun hi => ⟨us', ws', hl', SqL.of hm', by rw [ra'.len, qa'.len]; omega⟩⟩
      obtain ⟨x1, x2, rfl, hx1, hx2⟩ := zipV_at xs ys i x hx
      obtain ⟨v1, F1, g1, g2, g3, _⟩ := ra'.get hx1
      obtain ⟨v2, F2, k1, k2, k3, _⟩ := qa'.get hx2
      refine ⟨⟨us', ws', v1, v2, hl', SqL.of hm', g1, k1⟩, fun z H3 hz => ?_⟩
      obtain ⟨T, x0, y0, rfl, nT, rfl, h1, h2⟩ := hz
      have ex : v1 = x0 := Option.some.inj (g1.symm.trans (h1 us' (hl')))
      have ey : v2 = y0 := Option.some.inj (k1.symm.trans (h2 ws' (SqL.of hm')))
      subst ex ey
      obtain ⟨gT, sT⟩ := upd_at (o := .tup [v1, v2]) nT
      exact ⟨sT, F1 ++ F2, .tup gT (.cons (g2.same sT) (RpA.one (k2.same sT))), Src.app (fun a ha => s2 a (g3 a ha)) fun a ha => z2 a (by rw [hF2']; exact List.mem_cons_of_mem _ (k3 a ha))⟩
    · exact q.elim⟩
end
/-- n in a, a a frozen list of whole numbers -/
def fInZ : Val → Val → (Val → Prop) → Prop := fun d e Q => ∃ (i : Int) (ns : List Int), d = .int i ∧ e = .frz (ns.map Val.int) ∧ Q (.bl (decide (i ∈ ns)))
theorem r2_inZ {K : PySem.W.Frag} : R2S K (rIn K false) fInZ := fun H x y d e F G Q R h1 h2 h k => by
  obtain ⟨i, ns, rfl, rfl, h⟩ := h
  obtain ⟨l, us, e2, hl, ra⟩ := h2.asF
  have eu := rpa_ints' ra
  have ex := h1.int_eq
  subst ex e2 eu
  refine ⟨l, ns.map V.int, rfl, .inl hl, rfl, all_flat_ints ns, ?_⟩
  rw [inV_ints]
  exact k _ _ (.bl _) h
def topS (i : Nat) : Stmt := PySem.Challenge.pw_spanshelf_k57_loose_ones_looked_at.main.body.getD i (.Pass ⟨0, 0, 0, 0⟩)
abbrev s_is_whole : Stmt := topS 6
abbrev N_is_whole : List Str := ["number"]
theorem sc_is_whole : FnScope N_is_whole ["number"] (defScope s_is_whole) := ⟨rfl, rfl, rfl, by decide +kernel, rfl, by decide +kernel, by decide +kernel⟩
abbrev s_is_place : Stmt := topS 7
abbrev N_is_place : List Str := ["number"]
theorem sc_is_place : FnScope N_is_place ["number"] (defScope s_is_place) := ⟨rfl, rfl, rfl, by decide +kernel, rfl, by decide +kernel, by decide +kernel⟩
abbrev s_is_span : Stmt := topS 8
abbrev N_is_span : List Str := ["span", "low", "high"]
theorem sc_is_span : FnScope N_is_span ["span"] (defScope s_is_span) := ⟨rfl, rfl, rfl, by decide +kernel, rfl, by decide +kernel, by decide +kernel⟩
abbrev s_check_span : Stmt := topS 9
abbrev N_check_span : List Str := ["span"]
theorem sc_check_span : FnScope N_check_span ["span"] (defScope s_check_span) := ⟨rfl, rfl, rfl, by decide +kernel, rfl, by decide +kernel, by decide +kernel⟩
abbrev s_check_spans : Stmt := topS 10
abbrev N_check_spans : List Str := ["spans", "span"]
theorem sc_check_spans : FnScope N_check_spans ["spans"] (defScope s_check_spans) := ⟨rfl, rfl, rfl, by decide +kernel, rfl, by decide +kernel, by decide +kernel⟩
abbrev s_are_numbers : Stmt := topS 11
abbrev N_are_numbers : List Str := ["chosen", "spans", "number"]
theorem sc_are_numbers : FnScope N_are_numbers ["chosen", "spans"] (defScope s_are_numbers) := ⟨rfl, rfl, rfl, by decide +kernel, rfl, by decide +kernel, by decide +kernel⟩
abbrev s_is_inside : Stmt := topS 12
abbrev N_is_inside : List Str := ["one", "other"]
theorem sc_is_inside : FnScope N_is_inside ["one", "other"] (defScope s_is_inside) := ⟨rfl, rfl, rfl, by decide +kernel, rfl, by decide +kernel, by decide +kernel⟩
abbrev s_is_under : Stmt := topS 14
abbrev N_is_under : List Str := ["spans", "number", "other", "inner", "outer"]
theorem sc_is_under : FnScope N_is_under ["spans", "number", "other"] (defScope s_is_under) := ⟨rfl, rfl, rfl, by decide +kernel, rfl, by decide +kernel, by decide +kernel⟩
abbrev s_is_nest : Stmt := topS 15
abbrev N_is_nest : List Str := ["spans", "numbers", "inner", "outer"]
theorem sc_is_nest : FnScope N_is_nest ["spans", "numbers"] (defScope s_is_nest) := ⟨rfl, rfl, rfl, by decide +kernel, rfl, by decide +kernel, by decide +kernel⟩
abbrev s_are_loose : Stmt := topS 16
abbrev N_are_loose : List Str := ["spans", "numbers", "inner", "outer"]
theorem sc_are_loose : FnScope N_are_loose ["spans", "numbers"] (defScope s_are_loose) := ⟨rfl, rfl, rfl, by decide +kernel, rfl, by decide +kernel, by decide +kernel⟩
abbrev s_shows_loose : Stmt := topS 17
abbrev N_shows_loose : List Str := ["spans", "told", "numbers", "nests", "one", "number"]
theorem sc_shows_loose : FnScope N_shows_loose ["spans", "told"] (defScope s_shows_loose) := ⟨rfl, rfl, rfl, by decide +kernel, rfl, by decide +kernel, by decide +kernel⟩
abbrev s_l_at : Stmt := topS 19
abbrev N_l_at : List Str := ["_law_script", "_law_k"]
theorem sc_l_at : FnScope N_l_at ["_law_script", "_law_k"] (defScope s_l_at) := ⟨rfl, rfl, rfl, by decide +kernel, rfl, by decide +kernel, by decide +kernel⟩
abbrev s_l_mixed : Stmt := topS 20
abbrev N_l_mixed : List Str := ["_law_cell", "_law_k", "_law_number_here"]
theorem sc_l_mixed : FnScope N_l_mixed ["_law_cell", "_law_k"] (defScope s_l_mixed) := ⟨rfl, rfl, rfl, by decide +kernel, rfl, by decide +kernel, by decide +kernel⟩
abbrev s_l_purse : Stmt := topS 21
abbrev N_l_purse : List Str := ["_law_script", "_law_at_here", "_law_cell"]
theorem sc_l_purse : FnScope N_l_purse ["_law_script", "_law_at_here"] (defScope s_l_purse) := ⟨rfl, rfl, rfl, by decide +kernel, rfl, by decide +kernel, by decide +kernel⟩
abbrev s_l_draw : Stmt := topS 22
abbrev N_l_draw : List Str := ["_law_purse_here", "_law_out_of", "_law_drawn", "_law_number_here", "_law_k"]
theorem sc_l_draw : FnScope N_l_draw ["_law_purse_here", "_law_out_of"] (defScope s_l_draw) := ⟨rfl, rfl, rfl, by decide +kernel, rfl, by decide +kernel, by decide +kernel⟩
abbrev s_l_number : Stmt := topS 23
abbrev N_l_number : List Str := ["_law_purse_here", "_law_most", "_law_far"]
theorem sc_l_number : FnScope N_l_number ["_law_purse_here", "_law_most"] (defScope s_l_number) := ⟨rfl, rfl, rfl, by decide +kernel, rfl, by decide +kernel, by decide +kernel⟩
abbrev s_l_end : Stmt := topS 24
abbrev N_l_end : List Str := ["_law_purse_here", "_law_ends", "_law_most", "_law_near"]
theorem sc_l_end : FnScope N_l_end ["_law_purse_here", "_law_ends", "_law_most"] (defScope s_l_end) := ⟨rfl, rfl, rfl, by decide +kernel, rfl, by decide +kernel, by decide +kernel⟩
abbrev s_l_span : Stmt := topS 25
abbrev N_l_span : List Str := ["_law_purse_here", "_law_ends", "_law_most", "_law_one", "_law_other", "_law_low", "_law_high"]
theorem sc_l_span : FnScope N_l_span ["_law_purse_here", "_law_ends", "_law_most"] (defScope s_l_span) := ⟨rfl, rfl, rfl, by decide +kernel, rfl, by decide +kernel, by decide +kernel⟩
abbrev s_l_nested : Stmt := topS 26
abbrev N_l_nested : List Str := ["_law_purse_here", "_law_many_here", "_law_found", "_law_ends", "_law_k", "_law_way", "_law_low", "_law_high", "_law_cut", "_law_wide", "_law_some"]
theorem sc_l_nested : FnScope N_l_nested ["_law_purse_here", "_law_many_here"] (defScope s_l_nested) := ⟨rfl, rfl, rfl, by decide +kernel, rfl, by decide +kernel, by decide +kernel⟩
abbrev s_l_under : Stmt := topS 27
abbrev N_l_under : List Str := ["_law_spans", "_law_one", "_law_other", "_law_low", "_law_high"]
theorem sc_l_under : FnScope N_l_under ["_law_spans", "_law_one", "_law_other"] (defScope s_l_under) := ⟨rfl, rfl, rfl, by decide +kernel, rfl, by decide +kernel, by decide +kernel⟩
abbrev s_l_loose_right : Stmt := topS 28
abbrev N_l_loose_right : List Str := ["_law_spans", "_law_free", "_law_chains_here", "_law_many_here", "_law_one", "_law_other", "_law_every", "_law_chain"]
theorem sc_l_loose_right : FnScope N_l_loose_right ["_law_spans", "_law_free", "_law_chains_here"] (defScope s_l_loose_right) := ⟨rfl, rfl, rfl, by decide +kernel, rfl, by decide +kernel, by decide +kernel⟩
abbrev s_l_freed : Stmt := topS 29
abbrev N_l_freed : List Str := ["_law_spans", "_law_there", "_law_one", "_law_seen", "_law_other"]
theorem sc_l_freed : FnScope N_l_freed ["_law_spans", "_law_there", "_law_one", "_law_seen"] (defScope s_l_freed) := ⟨rfl, rfl, rfl, by decide +kernel, rfl, by decide +kernel, by decide +kernel⟩
abbrev s_l_chains : Stmt := topS 30
abbrev N_l_chains : List Str := ["_law_there", "_law_many_here", "_law_nexts", "_law_other", "_law_found", "_law_one", "_law_chain"]
theorem sc_l_chains : FnScope N_l_chains ["_law_there", "_law_many_here"] (defScope s_l_chains) := ⟨rfl, rfl, rfl, by decide +kernel, rfl, by decide +kernel, by decide +kernel⟩
abbrev s_l_loose : Stmt := topS 31
abbrev N_l_loose : List Str := ["_law_spans", "_law_there", "_law_one", "_law_other", "_law_below", "_law_left", "_law_above", "_law_at_here", "_law_free"]
theorem sc_l_loose : FnScope N_l_loose ["_law_spans"] (defScope s_l_loose) := ⟨rfl, rfl, rfl, by decide +kernel, rfl, by decide +kernel, by decide +kernel⟩
abbrev s_l_free_bent : Stmt := topS 32
abbrev N_l_free_bent : List Str := ["_law_purse_here", "_law_many_here", "_law_free", "_law_chains_here", "_law_found", "_law_rows", "_law_way", "_law_at_here", "_law_home", "_law_cut", "_law_chain"]
theorem sc_l_free_bent : FnScope N_l_free_bent ["_law_purse_here", "_law_many_here", "_law_free", "_law_chains_here"] (defScope s_l_free_bent) := ⟨rfl, rfl, rfl, by decide +kernel, rfl, by decide +kernel, by decide +kernel⟩
abbrev s_l_nests_bent : Stmt := topS 33
abbrev N_l_nests_bent : List Str := ["_law_purse_here", "_law_many_here", "_law_chains_here", "_law_found", "_law_way", "_law_at_here", "_law_other", "_law_chain"]
theorem sc_l_nests_bent : FnScope N_l_nests_bent ["_law_purse_here", "_law_many_here", "_law_chains_here"] (defScope s_l_nests_bent) := ⟨rfl, rfl, rfl, by decide +kernel, rfl, by decide +kernel, by decide +kernel⟩
abbrev s_l_asked : Stmt := topS 34
abbrev N_l_asked : List Str := ["_law_spans", "_law_free", "_law_chains_here", "_law_due", "_law_handed", "_law_some", "_law_found", "_law_chain"]
theorem sc_l_asked : FnScope N_l_asked ["_law_spans", "_law_free", "_law_chains_here"] (defScope s_l_asked) := ⟨rfl, rfl, rfl, by decide +kernel, rfl, by decide +kernel, by decide +kernel⟩
abbrev s_l_many : Stmt := topS 35
abbrev N_l_many : List Str := ["_law_purse_here", "_law_many_here", "_law_begin", "_law_left", "_law_k", "_law_inner", "_law_found"]
theorem sc_l_many : FnScope N_l_many ["_law_purse_here"] (defScope s_l_many) := ⟨rfl, rfl, rfl, by decide +kernel, rfl, by decide +kernel, by decide +kernel⟩
abbrev s_law : Stmt := topS 36
abbrev N_law : List Str := ["_law_script", "_law_k", "_law_purse_here", "_law_spans", "_law_free", "_law_chains_here", "_law_turn", "_law_bent", "_law_rows"]
theorem sc_law : FnScope N_law ["_law_script"] (defScope s_law) := ⟨rfl, rfl, rfl, by decide +kernel, rfl, by decide +kernel, by decide +kernel⟩

structure Tx (K : PySem.W.Frag) (mg : Str → Option Value) where
  f_is_whole : Addr
  fd_is_whole : FuncData
  F_is_whole : Fun K "is_whole" "is_whole" s_is_whole f_is_whole fd_is_whole
  b_is_whole : Binds K fd_is_whole ["number"] []
  g_is_whole : mg "is_whole" = some (.ref f_is_whole)
  f_is_place : Addr
  fd_is_place : FuncData
  F_is_place : Fun K "is_place" "is_place" s_is_place f_is_place fd_is_place
  b_is_place : Binds K fd_is_place ["number"] []
  g_is_place : mg "is_place" = some (.ref f_is_place)
  f_is_span : Addr
  fd_is_span : FuncData
  F_is_span : Fun K "is_span" "is_span" s_is_span f_is_span fd_is_span
  b_is_span : Binds K fd_is_span ["span"] []
  g_is_span : mg "is_span" = some (.ref f_is_span)
  f_check_span : Addr
  fd_check_span : FuncData
  F_check_span : Fun K "check_span" "check_span" s_check_span f_check_span fd_check_span
  b_check_span : Binds K fd_check_span ["span"] []
  g_check_span : mg "check_span" = some (.ref f_check_span)
  f_check_spans : Addr
  fd_check_spans : FuncData
  F_check_spans : Fun K "check_spans" "check_spans" s_check_spans f_check_spans fd_check_spans
  b_check_spans : Binds K fd_check_spans ["spans"] []
  g_check_spans : mg "check_spans" = some (.ref f_check_spans)
  f_are_numbers : Addr
  fd_are_numbers : FuncData
  F_are_numbers : Fun K "are_numbers" "are_numbers" s_are_numbers f_are_numbers fd_are_numbers
  b_are_numbers : Binds K fd_are_numbers ["chosen", "spans"] []
  g_are_numbers : mg "are_numbers" = some (.ref f_are_numbers)
  cA_are_numbers : Addr
  pA_are_numbers : Addr
  FC_are_numbers : FunC K "are_numbers" "are_numbers" s_are_numbers f_are_numbers fd_are_numbers cA_are_numbers
  f_is_inside : Addr
  fd_is_inside : FuncData
  F_is_inside : Fun K "is_inside" "is_inside" s_is_inside f_is_inside fd_is_inside
  b_is_inside : Binds K fd_is_inside ["one", "other"] []
  g_is_inside : mg "is_inside" = some (.ref f_is_inside)
  f_is_under : Addr
  fd_is_under : FuncData
  F_is_under : Fun K "is_under" "is_under" s_is_under f_is_under fd_is_under
  b_is_under : Binds K fd_is_under ["spans", "number", "other"] []
  g_is_under : mg "is_under" = some (.ref f_is_under)
  f_is_nest : Addr
  fd_is_nest : FuncData
  F_is_nest : Fun K "is_nest" "is_nest" s_is_nest f_is_nest fd_is_nest
  b_is_nest : Binds K fd_is_nest ["spans", "numbers"] []
  g_is_nest : mg "is_nest" = some (.ref f_is_nest)
  cA_is_nest : Addr
  pA_is_nest : Addr
  FC_is_nest : FunC K "is_nest" "is_nest" s_is_nest f_is_nest fd_is_nest cA_is_nest
  f_are_loose : Addr
  fd_are_loose : FuncData
  F_are_loose : Fun K "are_loose" "are_loose" s_are_loose f_are_loose fd_are_loose
  b_are_loose : Binds K fd_are_loose ["spans", "numbers"] []
  g_are_loose : mg "are_loose" = some (.ref f_are_loose)
  cA_are_loose : Addr
  pA_are_loose : Addr
  FC_are_loose : FunC K "are_loose" "are_loose" s_are_loose f_are_loose fd_are_loose cA_are_loose
  f_shows_loose : Addr
  fd_shows_loose : FuncData
  F_shows_loose : Fun K "shows_loose" "shows_loose" s_shows_loose f_shows_loose fd_shows_loose
  b_shows_loose : Binds K fd_shows_loose ["spans", "told"] []
  g_shows_loose : mg "shows_loose" = some (.ref f_shows_loose)
  cA_shows_loose : Addr
  pA_shows_loose : Addr
  FC_shows_loose : FunC K "shows_loose" "shows_loose" s_shows_loose f_shows_loose fd_shows_loose cA_shows_loose
  f_l_at : Addr
  fd_l_at : FuncData
  F_l_at : Fun K "_law_at" "_law_at" s_l_at f_l_at fd_l_at
  b_l_at : Binds K fd_l_at ["_law_script", "_law_k"] []
  g_l_at : mg "_law_at" = some (.ref f_l_at)
  f_l_mixed : Addr
  fd_l_mixed : FuncData
  F_l_mixed : Fun K "_law_mixed" "_law_mixed" s_l_mixed f_l_mixed fd_l_mixed
  b_l_mixed : Binds K fd_l_mixed ["_law_cell", "_law_k"] []
  g_l_mixed : mg "_law_mixed" = some (.ref f_l_mixed)
  f_l_purse : Addr
  fd_l_purse : FuncData
  F_l_purse : Fun K "_law_purse" "_law_purse" s_l_purse f_l_purse fd_l_purse
  b_l_purse : Binds K fd_l_purse ["_law_script", "_law_at_here"] []
  g_l_purse : mg "_law_purse" = some (.ref f_l_purse)
  f_l_draw : Addr
  fd_l_draw : FuncData
  F_l_draw : Fun K "_law_draw" "_law_draw" s_l_draw f_l_draw fd_l_draw
  b_l_draw : Binds K fd_l_draw ["_law_purse_here", "_law_out_of"] []
  g_l_draw : mg "_law_draw" = some (.ref f_l_draw)
  f_l_number : Addr
  fd_l_number : FuncData
  F_l_number : Fun K "_law_number" "_law_number" s_l_number f_l_number fd_l_number
  b_l_number : Binds K fd_l_number ["_law_purse_here", "_law_most"] []
  g_l_number : mg "_law_number" = some (.ref f_l_number)
  f_l_end : Addr
  fd_l_end : FuncData
  F_l_end : Fun K "_law_end" "_law_end" s_l_end f_l_end fd_l_end
  b_l_end : Binds K fd_l_end ["_law_purse_here", "_law_ends", "_law_most"] []
  g_l_end : mg "_law_end" = some (.ref f_l_end)
  f_l_span : Addr
  fd_l_span : FuncData
  F_l_span : Fun K "_law_span" "_law_span" s_l_span f_l_span fd_l_span
  b_l_span : Binds K fd_l_span ["_law_purse_here", "_law_ends", "_law_most"] []
  g_l_span : mg "_law_span" = some (.ref f_l_span)
  f_l_nested : Addr
  fd_l_nested : FuncData
  F_l_nested : Fun K "_law_nested" "_law_nested" s_l_nested f_l_nested fd_l_nested
  b_l_nested : Binds K fd_l_nested ["_law_purse_here", "_law_many_here"] []
  g_l_nested : mg "_law_nested" = some (.ref f_l_nested)
  f_l_under : Addr
  fd_l_under : FuncData
  F_l_under : Fun K "_law_under" "_law_under" s_l_under f_l_under fd_l_under
  b_l_under : Binds K fd_l_under ["_law_spans", "_law_one", "_law_other"] []
  g_l_under : mg "_law_under" = some (.ref f_l_under)
  f_l_loose_right : Addr
  fd_l_loose_right : FuncData
  F_l_loose_right : Fun K "_law_loose_right" "_law_loose_right" s_l_loose_right f_l_loose_right fd_l_loose_right
  b_l_loose_right : Binds K fd_l_loose_right ["_law_spans", "_law_free", "_law_chains_here"] []
  g_l_loose_right : mg "_law_loose_right" = some (.ref f_l_loose_right)
  f_l_freed : Addr
  fd_l_freed : FuncData
  F_l_freed : Fun K "_law_freed" "_law_freed" s_l_freed f_l_freed fd_l_freed
  b_l_freed : Binds K fd_l_freed ["_law_spans", "_law_there", "_law_one", "_law_seen"] []
  g_l_freed : mg "_law_freed" = some (.ref f_l_freed)
  f_l_chains : Addr
  fd_l_chains : FuncData
  F_l_chains : Fun K "_law_chains" "_law_chains" s_l_chains f_l_chains fd_l_chains
  b_l_chains : Binds K fd_l_chains ["_law_there", "_law_many_here"] []
  g_l_chains : mg "_law_chains" = some (.ref f_l_chains)
  f_l_loose : Addr
  fd_l_loose : FuncData
  F_l_loose : Fun K "_law_loose" "_law_loose" s_l_loose f_l_loose fd_l_loose
  b_l_loose : Binds K fd_l_loose ["_law_spans"] []
  g_l_loose : mg "_law_loose" = some (.ref f_l_loose)
  f_l_free_bent : Addr
  fd_l_free_bent : FuncData
  F_l_free_bent : Fun K "_law_free_bent" "_law_free_bent" s_l_free_bent f_l_free_bent fd_l_free_bent
  b_l_free_bent : Binds K fd_l_free_bent ["_law_purse_here", "_law_many_here", "_law_free", "_law_chains_here"] []
  g_l_free_bent : mg "_law_free_bent" = some (.ref f_l_free_bent)
  f_l_nests_bent : Addr
  fd_l_nests_bent : FuncData
  F_l_nests_bent : Fun K "_law_nests_bent" "_law_nests_bent" s_l_nests_bent f_l_nests_bent fd_l_nests_bent
  b_l_nests_bent : Binds K fd_l_nests_bent ["_law_purse_here", "_law_many_here", "_law_chains_here"] []
  g_l_nests_bent : mg "_law_nests_bent" = some (.ref f_l_nests_bent)
  f_l_asked : Addr
  fd_l_asked : FuncData
  F_l_asked : Fun K "_law_asked" "_law_asked" s_l_asked f_l_asked fd_l_asked
  b_l_asked : Binds K fd_l_asked ["_law_spans", "_law_free", "_law_chains_here"] []
  g_l_asked : mg "_law_asked" = some (.ref f_l_asked)
  f_l_many : Addr
  fd_l_many : FuncData
  F_l_many : Fun K "_law_many" "_law_many" s_l_many f_l_many fd_l_many
  b_l_many : Binds K fd_l_many ["_law_purse_here"] []
  g_l_many : mg "_law_many" = some (.ref f_l_many)
  f_law : Addr
  fd_law : FuncData
  F_law : Fun K "law" "law" s_law f_law fd_law
  b_law : Binds K fd_law ["_law_script"] []
  g_law : mg "law" = some (.ref f_law)
  tc_LEAST_PLACE : Tok
  c_LEAST_PLACE : mg "LEAST_PLACE" = some (.int (-999999999999) tc_LEAST_PLACE)
  tc_GREATEST_PLACE : Tok
  c_GREATEST_PLACE : mg "GREATEST_PLACE" = some (.int (999999999999) tc_GREATEST_PLACE)
  C_ShelfError : Addr
  g_ShelfError : mg "ShelfError" = some (.ref C_ShelfError)
  x_ShelfError : PySem.W.excIn K C_ShelfError [.type "ValueError", .type "Exception", .type "BaseException", .type "object"] "ValueError.__new__" = true
  k_ShelfError : PySem.W.keepIn K (.ref C_ShelfError) = true
  b_ShelfError : PySem.W.subIn K (.ref C_ShelfError) (.type "BaseException") = some true
  t_ShelfError : PySem.W.typeIn K (.ref C_ShelfError) = some (.type "type")
  C_NoSpan : Addr
  g_NoSpan : mg "NoSpan" = some (.ref C_NoSpan)
  x_NoSpan : PySem.W.excIn K C_NoSpan [.type "ValueError", .type "Exception", .type "BaseException", .type "object"] "ValueError.__new__" = true
  k_NoSpan : PySem.W.keepIn K (.ref C_NoSpan) = true
  b_NoSpan : PySem.W.subIn K (.ref C_NoSpan) (.type "BaseException") = some true
  t_NoSpan : PySem.W.typeIn K (.ref C_NoSpan) = some (.type "type")
  m_all : mg "all" = none
  m_any : mg "any" = none
  m_bool : mg "bool" = none
  m_int : mg "int" = none
  m_isinstance : mg "isinstance" = none
  m_len : mg "len" = none
  m_list : mg "list" = none
  m_max : mg "max" = none
  m_min : mg "min" = none
  m_range : mg "range" = none
  m_set : mg "set" = none
  m_sorted : mg "sorted" = none
  m_tuple : mg "tuple" = none
  m_zip : mg "zip" = none
structure Tbs {K : PySem.W.Frag} {mg : Str → Option Value} (T : Tx K mg) (base : Heap) : Prop where
  t_are_numbers : GxR.TabB base mg T.cA_are_numbers T.pA_are_numbers
  t_is_nest : GxR.TabB base mg T.cA_is_nest T.pA_is_nest
  t_are_loose : GxR.TabB base mg T.cA_are_loose T.pA_are_loose
  t_shows_loose : GxR.TabB base mg T.cA_shows_loose T.pA_shows_loose
def Tx.tabs {K : PySem.W.Frag} {mg : Str → Option Value} (T : Tx K mg) : TL := ⟨[T.pA_are_numbers, T.pA_is_nest, T.pA_are_loose, T.pA_shows_loose], []⟩
section
variable {P : Program} {w : World} {K : PySem.W.Frag} {mg : Str → Option Value} {base : Heap}
/-! ### the program: spans -/
def isPlace (i : Int) : Bool := decide (-999999999999 ≤ i) && decide (i ≤ 999999999999)
def isSpan (s : Span) : Bool := isPlace s.1 && isPlace s.2 && decide (s.1 < s.2)
theorem isSpan_iff (s : Span) : isSpan s = true ↔ (-999999999999 ≤ s.1 ∧ s.1 < s.2 ∧ s.2 ≤ 999999999999) := by
  unfold isSpan isPlace
  simp only [Bool.and_eq_true, decide_eq_true_eq]
  omega
def spWhole : Sp := fun vs H Q _ => ∃ i : Int, vs = [.int i] ∧ Q (.bl true) H
theorem ok_is_whole (T : Tx K mg) : FnOk P w K mg base CX0 (1) T.f_is_whole T.fd_is_whole ["number"] spWhole := by
  refine T.F_is_whole.ok sc_is_whole (fun vs H Q E h => ?_) (fun cdv A outer s H vs Q E hr h => ?_)
  · obtain ⟨i, rfl, _⟩ := h
    rfl
  · obtain ⟨i, rfl, q⟩ := h
    refine ⟨_, (pss_one (ps_ret (pe_and (pe_callB call_isi (by rfl) T.m_isinstance (by decide +kernel) (pa_cons (pv 0) (pa_cons (pe_bltn (v := .ty "int") (by rfl) T.m_int (by decide +kernel) rfl) pa_nil))) (pe_one (pe_not (pe_callB call_isi (by rfl) T.m_isinstance (by decide +kernel) (pa_cons (pv 0) (pa_cons (pe_bltn (v := .ty "bool") (by rfl) T.m_bool (by decide +kernel) rfl) pa_nil)))))))), ?_⟩
    refine ⟨_, rfl, _, _, _, _, true, rfl, .ty _, .base (.int i), kit_ty (by decide +kernel), true, rfl, iteT ?_⟩
    exact ⟨_, rfl, _, _, _, _, false, rfl, .ty _, .base (.int i), kit_ty (by decide +kernel), false, rfl, q⟩
def spPlace : Sp := fun vs H Q _ => ∃ i : Int, vs = [.int i] ∧ Q (.bl (isPlace i)) H
theorem ok_is_place (T : Tx K mg) : FnOk P w K mg base CX0 (2) T.f_is_place T.fd_is_place ["number"] spPlace := by
  have G_is_whole : FnOk P w K mg base CX0 _ _ _ _ _ := ok_is_whole T
  refine T.F_is_place.ok sc_is_place (fun vs H Q E h => ?_) (fun cdv A outer s H vs Q E hr h => ?_)
  · obtain ⟨i, rfl, _⟩ := h
    rfl
  · obtain ⟨i, rfl, q⟩ := h
    refine ⟨_, (pss_one (ps_ret (pe_and (pe_call G_is_whole (hr.mono (by decide)) (by rfl) T.g_is_whole T.F_is_whole.kp T.b_is_whole .nil pass0 (pa_cons (pv 0) pa_nil)) (pe_one (pe_chain op_le op_le (pe_glob (v := .int (-999999999999)) (by rfl) T.c_LEAST_PLACE ⟨_, rfl⟩) (pv 0) (pe_glob (v := .int (999999999999)) (by rfl) T.c_GREATEST_PLACE ⟨_, rfl⟩)))))), ?_⟩
    refine ⟨_, rfl, i, rfl, true, rfl, iteT ?_⟩
    refine ⟨_, rfl, _, _, rfl, rfl, _, rfl, ?_⟩
    unfold isPlace at q
    by_cases h : -999999999999 ≤ i
    · rw [decide_eq_true h] at q ⊢
      exact iteT ⟨_, _, rfl, rfl, q⟩
    · rw [decide_eq_false h] at q ⊢
      exact iteF q
def spIsSpan : Sp := fun vs H Q _ => ∃ (v : V) (s : Span), vs = [v] ∧ Spn H v s ∧ Q (.bl (isSpan s)) H
theorem ok_is_span (T : Tx K mg) : FnOk P w K mg base CX0 (3) T.f_is_span T.fd_is_span ["span"] spIsSpan := by
  have G_is_place : FnOk P w K mg base CX0 _ _ _ _ _ := ok_is_place T
  refine T.F_is_span.ok sc_is_span (fun vs H Q E h => ?_) (fun cdv A outer s H vs Q E hr h => ?_)
  · obtain ⟨v, s, rfl, _⟩ := h
    rfl
  · obtain ⟨v, s, rfl, ⟨t, rfl, ht⟩, q⟩ := h
    refine ⟨_, (pss_cons (ps_if (PW.pt (pw_or (pt_not (pt_val (pe_callB call_isi (by rfl) T.m_isinstance (by decide +kernel) (pa_cons (pv 0) (pa_cons (pe_bltn (v := .ty "tuple") (by rfl) T.m_tuple (by decide +kernel) rfl) pa_nil))))) (pw_or1 (pt_cmpR op_ne (pe_callB call_len_seq (by rfl) T.m_len PySem.boot_len (pa_cons (pv 0) pa_nil)) pe_int (nomark _))))) (pss_one (ps_ret pe_bl)) pss_nil)
      (pss_cons (ps_asg (pv 0) (pg_tup rfl (pgs_cons (pg_name (i := 1) sc_is_span.nd rfl (Or.inl rfl)) (pgs_cons (pg_name (i := 2) sc_is_span.nd rfl (Or.inl rfl)) pgs_nil))))
      (pss_one (ps_ret (pe_and (pe_call G_is_place (hr.mono (by decide)) (by rfl) T.g_is_place T.F_is_place.kp T.b_is_place .nil pass0 (pa_cons (pv 1) pa_nil)) (pe_and (pe_call G_is_place (hr.mono (by decide)) (by rfl) T.g_is_place T.F_is_place.kp T.b_is_place .nil pass0 (pa_cons (pv 2) pa_nil)) (pe_one (pe_cmpR op_lt (pv 1) (pv 2) (nomark _))))))))), ?_⟩
    refine ⟨_, rfl, _, _, _, _, true, rfl, .ty _, .base (.tup ht), kit_ty (by decide +kernel), true, rfl, iteF ?_⟩
    refine ⟨_, rfl, t, _, rfl, .inr (SqT.of ht), rfl, _, rfl, iteF ?_⟩
    refine ⟨_, rfl, t, _, rfl, SqT.of ht, rfl, _, _, rfl, _, _, rfl, rfl, ?_⟩
    unfold isSpan at q
    refine ⟨_, rfl, s.1, rfl, _, rfl, ?_⟩
    by_cases h1 : isPlace s.1 = true
    · rw [h1] at q ⊢
      refine iteT ⟨_, rfl, s.2, rfl, _, rfl, ?_⟩
      by_cases h2 : isPlace s.2 = true
      · rw [h2] at q ⊢
        exact iteT ⟨_, rfl, _, rfl, _, _, rfl, rfl, q⟩
      · rw [Bool.not_eq_true] at h2
        rw [h2] at q ⊢
        exact iteF q
    · rw [Bool.not_eq_true] at h1
      rw [h1] at q ⊢
      exact iteF q
def spCheck (C : Addr) : Sp := fun vs H Q E => ∃ (v : V) (s : Span), vs = [v] ∧ Spn H v s ∧ (isSpan s = true → Q .non H) ∧ (isSpan s = false → E (.ref C) none H)
theorem ok_check_span (T : Tx K mg) : FnOk P w K mg base (L2.CX P w) (4) T.f_check_span T.fd_check_span ["span"] (spCheck T.C_NoSpan) := by
  have G_is_span : FnOk P w K mg base CX0 _ _ _ _ _ := ok_is_span T
  refine T.F_check_span.okX sc_check_span (fun vs H Q E h => ?_) (fun cdv A outer s H vs Q E hr h => ?_)
  · obtain ⟨v, s, rfl, _⟩ := h
    rfl
  · obtain ⟨v, s, rfl, hv, q, e⟩ := h
    refine ⟨_, (pss_one (ps_if (pt_not (pt_val (pe_call G_is_span (hr.mono (by decide)) (by rfl) T.g_is_span T.F_is_span.kp T.b_is_span .nil pass0 (pa_cons (pv 0) pa_nil)))) (pss_one (ps_raise (by rfl) (takes_of rfl rfl rfl rfl) (pmk_own PySem.F.excBase_ValueError T.x_NoSpan T.g_NoSpan T.k_NoSpan (raises_own T.b_NoSpan T.t_NoSpan) (by exact rfl)))) pss_nil)), ?_⟩
    refine ⟨_, rfl, v, s, rfl, hv, _, rfl, ?_⟩
    by_cases h : isSpan s = true
    · rw [h]
      exact iteF (q h)
    · rw [Bool.not_eq_true] at h
      rw [h]
      exact iteT (e h)
end
section
variable {P : Program} {w : World} {K : PySem.W.Frag} {mg : Str → Option Value} {base : Heap}
/-! ### the program: covers -/
def spCheckSpans (C : Addr) : Sp := fun vs H Q E => ∃ (l : Addr) (us : List V) (ss : List Span), vs = [.ref l] ∧ H l = some (.lst us) ∧ Sps H us ss ∧ (ss.all isSpan = true → Q .non H) ∧ (ss.all isSpan = false → E (.ref C) none H)
theorem ok_check_spans (T : Tx K mg) : FnOk P w K mg base (L2.CX P w) (5) T.f_check_spans T.fd_check_spans ["spans"] (spCheckSpans T.C_NoSpan) := by
  have G_check_span : FnOk P w K mg base (L2.CX P w) _ _ _ _ _ := ok_check_span T
  refine T.F_check_spans.okX sc_check_spans (fun vs H Q E h => ?_) (fun cdv A outer s H vs Q E hr h => ?_)
  · obtain ⟨l, us, ss, rfl, _⟩ := h
    rfl
  · obtain ⟨l, us, ss, rfl, hl, hS, q, e⟩ := h
    refine ⟨_, (pss_one (ps_for (passes_of rfl) (by rfl) (pi_list (pv 0)) (pg_name (i := 1) sc_check_spans.nd rfl (Or.inl rfl))
        (pss_one (ps_expr (pe_call G_check_span (hr.mono (by decide)) (by rfl) T.g_check_span T.F_check_span.kp T.b_check_span .nil (passes_call (takes_of rfl rfl rfl rfl) (fun _ _ _ _ h => h)) (pa_cons (pv 1) pa_nil)))))), ?_⟩
    refine ⟨_, rfl, l, rfl, ⟨_, SqL.of hl⟩, for_list (K := K) (a := l) (xs := us) (fun i σ H' => ∃ y1, σ = [some (.ref l), y1] ∧ H' = H ∧ (ss.take i).all isSpan = true) ⟨none, rfl, rfl, rfl⟩ (fun i σ H' _ ⟨_, _, e, _⟩ => by rw [e]; exact SqL.of hl) ?_ ?_⟩
    · rintro i y σ H' hi ⟨y1, rfl, rfl, ha⟩
      obtain ⟨sp, hs, hv⟩ := hS.get hi
      have tk : ss.take (i + 1) = ss.take i ++ [sp] := by
        rw [List.take_add_one, hs]
        rfl
      refine ⟨_, rfl, y, sp, rfl, hv, fun ok => ⟨_, rfl, rfl, ?_⟩, fun no => e ?_⟩
      · rw [tk, List.all_append, ha, List.all_cons, ok]
        rfl
      · rw [List.all_eq_false]
        exact ⟨sp, List.mem_of_getElem? hs, by rw [no]; decide⟩
    · rintro σ H' ⟨y1, rfl, rfl, ha⟩
      rw [hS.len, List.take_length] at ha
      exact q ha
end
/-! ### under: spans within spans, alike ones by their numbers -/
def unB (s t : Span) (i j : Int) : Bool := if s = t then decide (i < j) else decide (t.1 ≤ s.1) && decide (s.2 ≤ t.2)
theorem unB_iff {s t : Span} {i j : Int} : unB s t i j = true ↔ (s = t ∧ i < j) ∨ (s ≠ t ∧ t.1 ≤ s.1 ∧ s.2 ≤ t.2) := by
  unfold unB
  by_cases e : s = t
  · rw [if_pos e, decide_eq_true_iff]
    exact ⟨fun h => .inl ⟨e, h⟩, fun h => h.elim (·.2) fun z => absurd e z.1⟩
  · rw [if_neg e, Bool.and_eq_true, decide_eq_true_iff, decide_eq_true_iff]
    exact ⟨fun h => .inr ⟨e, h⟩, fun h => h.elim (fun z => absurd z.1 e) (·.2)⟩
theorem unB_trans {s t u : Span} {i j k : Int} (h : unB s t i j = true) (g : unB t u j k = true) : unB s u i k = true := by
  rw [unB_iff] at h g ⊢
  obtain ⟨s1, s2⟩ := s
  obtain ⟨t1, t2⟩ := t
  obtain ⟨u1, u2⟩ := u
  simp only [Prod.mk.injEq, ne_eq] at h g ⊢
  omega
theorem unB_irr {s : Span} {i : Int} : unB s s i i = false := by
  unfold unB
  rw [if_pos rfl, decide_eq_false (by omega)]
/-- the span with number x is under that with number y -/
def Un (ss : List Span) (x y : Int) : Prop := 0 ≤ x ∧ 0 ≤ y ∧ ∃ s t, ss[x.toNat]? = some s ∧ ss[y.toNat]? = some t ∧ unB s t x y = true
theorem Un.trans {ss : List Span} {x y z : Int} (h : Un ss x y) (g : Un ss y z) : Un ss x z := by
  obtain ⟨h0, h1, s, t, hs, ht, h⟩ := h
  obtain ⟨_, g1, t', u, ht', hu, g⟩ := g
  rw [ht] at ht'
  cases ht'
  exact ⟨h0, g1, s, u, hs, hu, unB_trans h g⟩
theorem Un.irr {ss : List Span} {x : Int} (h : Un ss x x) : False := by
  obtain ⟨_, _, s, t, hs, ht, h⟩ := h
  rw [hs] at ht
  cases ht
  rw [unB_irr] at h
  cases h
/-- each under the next one -/
def ChU (ss : List Span) : List Int → Prop
  | x :: y :: r => Un ss x y ∧ ChU ss (y :: r)
  | _ => True
theorem ChU.pw {ss : List Span} : ∀ {ch : List Int}, ChU ss ch → ch.Pairwise (Un ss)
  | [], _ => List.Pairwise.nil
  | [x], _ => List.pairwise_singleton _ _
  | x :: y :: r, ⟨h, g⟩ => by
    have ih := ChU.pw (ch := y :: r) g
    refine List.pairwise_cons.mpr ⟨fun z hz => ?_, ih⟩
    rcases List.mem_cons.mp hz with rfl | hz
    · exact h
    · exact h.trans ((List.pairwise_cons.mp ih).1 z hz)
theorem ChU.nodup {ss : List Span} {ch : List Int} (h : ChU ss ch) : ch.Nodup := h.pw.imp fun {a b} hab e => by
  subst e
  exact hab.irr
theorem ChU.cons {ss : List Span} {x y : Int} {r : List Int} (h : Un ss x y) (g : ChU ss (y :: r)) : ChU ss (x :: y :: r) := ⟨h, g⟩
/-- neighbours -/
def chB (ss : List Span) (ch : List Int) : Bool := (ch.zip ch.tail).all fun p => unB (ss[p.1.toNat]?.getD (0, 0)) (ss[p.2.toNat]?.getD (0, 0)) p.1 p.2
theorem chB_iff {ss : List Span} : ∀ {ch : List Int}, (∀ c ∈ ch, 0 ≤ c ∧ c < (ss.length : Int)) → (chB ss ch = true ↔ ChU ss ch)
  | [], _ => ⟨fun _ => True.intro, fun _ => rfl⟩
  | [x], _ => ⟨fun _ => True.intro, fun _ => rfl⟩
  | x :: y :: r, h => by
    have ih := chB_iff (ss := ss) (ch := y :: r) fun c hc => h c (List.mem_cons_of_mem _ hc)
    have hx := h x List.mem_cons_self
    have hy := h y (List.mem_cons_of_mem _ List.mem_cons_self)
    have lx : x.toNat < ss.length := by omega
    have ly : y.toNat < ss.length := by omega
    have e : chB ss (x :: y :: r) = (unB (ss[x.toNat]?.getD (0, 0)) (ss[y.toNat]?.getD (0, 0)) x y && chB ss (y :: r)) := rfl
    rw [e, Bool.and_eq_true, ih]
    refine and_congr ⟨fun z => ?_, fun z => ?_⟩ Iff.rfl
    · rw [List.getElem?_eq_getElem lx, List.getElem?_eq_getElem ly] at z
      exact ⟨hx.1, hy.1, _, _, List.getElem?_eq_getElem lx, List.getElem?_eq_getElem ly, z⟩
    · obtain ⟨_, _, s, t, hs, ht, z⟩ := z
      rw [hs, ht]
      exact z
section
variable {P : Program} {w : World} {K : PySem.W.Frag} {mg : Str → Option Value} {base : Heap}
/-! ### shows_nest, over values -/
def cChkS : VSpec := fun ds Q _ => ∃ ss : List Span, ds = [.lst (ss.map spV)] ∧ ss.all isSpan = true ∧ Q [] .non
theorem M_check_spans : Mono cChkS := fun ds Q Q' E E' h _ ⟨ss, a, b, q⟩ => ⟨ss, a, b, h _ _ q⟩
theorem v_check_spans (T : Tx K mg) (Ps : TL) : FnOk P w K mg base (L2.CX P w) (5) T.f_check_spans T.fd_check_spans ["spans"] (vsp K Ps [] 1 cChkS) := (ok_check_spans T).imp fun vs H Q E ⟨ds, Fs, s, ss, e, ok, q⟩ => by
  subst e
  obtain ⟨v, rfl, r1⟩ := arg1 s
  obtain ⟨l, us, e1, h1, hS, _⟩ := r1.spans
  subst e1
  refine ⟨l, us, ss, rfl, h1, hS, fun _ => ?_, (fun z => by rw [ok] at z; cases z)⟩
  exact q H _ [] Fs (out_same (Same.refl _) s.tb) .non List.nodup_nil fun _ h => nomatch h
def cInside : VSpec := fun ds Q _ => ∃ s t : Span, ds = [spV s, spV t] ∧ Q [] (.bl (decide (t.1 ≤ s.1) && decide (s.2 ≤ t.2)))
theorem M_is_inside : Mono cInside := fun ds Q Q' E E' h _ ⟨s, t, a, q⟩ => ⟨s, t, a, h _ _ q⟩
theorem v_is_inside (T : Tx K mg) (Ps : TL) : FnOk P w K mg base CX0 (1) T.f_is_inside T.fd_is_inside ["one", "other"] (vsp K Ps [] 2 cInside) := by
  refine T.F_is_inside.ok sc_is_inside (fun vs H Q E h => vsp_len h) (fun cdv A outer s H vs Q E hr h => ⟨_, (pss_one (ps_ret (pe_and (pe_cmpR op_le (pe_ix ix_tup (pv 1) pe_int (fun _ _ => rfl)) (pe_ix ix_tup (pv 0) pe_int (fun _ _ => rfl)) (nomark _)) (pe_one (pe_cmpR op_le (pe_ix ix_tup (pv 0) pe_int (fun _ _ => rfl)) (pe_ix ix_tup (pv 1) pe_int (fun _ _ => rfl)) (nomark _)))))), (vfn (N := 2) (lo := []) (Ef := []) U0 h rfl (by decide) rfl rfl hU0 (simS_ret (simE_andV (simE_op r2_ib (simE_ixT (simE_var (i := 1) rfl) simE_int rfl) (simE_ixT (simE_var (i := 0) rfl) simE_int rfl) rfl) (simE_op r2_ib (simE_ixT (simE_var (i := 0) rfl) simE_int rfl) (simE_ixT (simE_var (i := 1) rfl) simE_int rfl) rfl) rfl) rfl rfl rfl rfl) ?_)⟩)
  rintro ds Q X ⟨s, t, rfl, q⟩
  by_cases h : t.1 ≤ s.1
  · rw [decide_eq_true h] at q
    exact ifT (decide_eq_true h) q
  · rw [decide_eq_false h] at q
    exact ifF (decide_eq_false h) q
def cUnder : VSpec := fun ds Q _ => ∃ (ss : List Span) (i j : Nat) (s t : Span), ds = [.lst (ss.map spV), .int (i : Int), .int (j : Int)] ∧ ss[i]? = some s ∧ ss[j]? = some t ∧ Q [] (.bl (unB s t i j))
theorem M_is_under : Mono cUnder := fun ds Q Q' E E' h _ ⟨ss, i, j, s, t, a, b, c, q⟩ => ⟨ss, i, j, s, t, a, b, c, h _ _ q⟩
theorem at_sp {ss : List Span} {i : Nat} {s : Span} (h : ss[i]? = some s) : atI (ss.map spV) (i : Int) = some (spV s) := atI_nat (j := i) (by rw [List.getElem?_map, h]; rfl)
theorem at_int {l : List Int} {i : Nat} {x : Int} (h : l[i]? = some x) : atI (l.map Val.int) (i : Int) = some (.int x) := atI_nat (j := i) (by rw [List.getElem?_map, h]; rfl)
theorem v_is_under (T : Tx K mg) (Ps : TL) : FnOk P w K mg base CX0 (2) T.f_is_under T.fd_is_under ["spans", "number", "other"] (vsp K Ps [] 3 cUnder) := by
  have G_is_inside : FnOk P w K mg base CX0 _ _ _ _ _ := v_is_inside T Ps
  refine T.F_is_under.ok sc_is_under (fun vs H Q E h => vsp_len h) (fun cdv A outer s H vs Q E hr h => ⟨_, (pss_cons (ps_set (i := 3) sc_is_under.nd rfl (Or.inl rfl) (pe_ix ix_list (pv 0) (pv 1) (fun _ _ => rfl)))
      (pss_cons (ps_set (i := 4) sc_is_under.nd rfl (Or.inl rfl) (pe_ix ix_list (pv 0) (pv 2) (fun _ _ => rfl)))
      (pss_cons (ps_if (pt_cmpR (op_eqD hr.units) (pv 3) (pv 4) (nomark _)) (pss_one (ps_ret (pe_cmpR op_lt (pv 1) (pv 2) (nomark _)))) pss_nil)
      (pss_one (ps_ret (pe_call G_is_inside (hr.mono (by decide)) (by rfl) T.g_is_inside T.F_is_inside.kp T.b_is_inside .nil pass0 (pa_cons (pv 3) (pa_cons (pv 4) pa_nil)))))))), (vfn (N := 5) (lo := []) (Ef := []) U0 h rfl (by decide) rfl rfl hU0 (simS_seq (simS_asg (simE_ixL (simE_var (i := 0) rfl) (simE_var (i := 1) rfl) rfl) (simG_name (i := 3) (show 3 < 5 by decide) rfl rfl) rfl rfl)
      (simS_seq (simS_asg (simE_ixL (simE_var (i := 0) rfl) (simE_var (i := 2) rfl) rfl) (simG_name (i := 4) (show 4 < 5 by decide) rfl rfl) rfl rfl)
      (simS_seq (simS_if (simT_test (simE_op r2_eqD (simE_var (i := 3) rfl) (simE_var (i := 4) rfl) rfl)) (simS_ret (simE_op r2_ib (simE_var (i := 1) rfl) (simE_var (i := 2) rfl) rfl) rfl rfl rfl rfl) (simS_next rfl) rfl rfl)
      (simS_ret (simE_call0 M_is_inside (simA_varF (i := 3) (simA_varF (i := 4) simA_nil)) rfl rfl) rfl rfl rfl rfl)))) ?_)⟩)
  rintro ds Q X ⟨ss, i, j, s, t, rfl, hs, ht, q⟩
  conv => whnf
  rw [at_sp hs]
  conv => whnf
  rw [at_sp ht]
  refine ⟨okD_span s, okD_span t, ?_⟩
  rw [eqv_spV]
  unfold unB at q
  by_cases e : s = t
  · rw [if_pos e] at q
    exact ifT (by rw [decide_eq_true e]; rfl) q
  · rw [if_neg e] at q
    exact ifF (by rw [decide_eq_false e]; rfl) ⟨rfl, rfl, s, t, rfl, q⟩
end
section
variable {P : Program} {w : World} {K : PySem.W.Frag} {mg : Str → Option Value} {base : Heap}
def cNums : VSpec := fun ds Q _ => ∃ (ss : List Span) (ch : List Int), ds = [.lst (ch.map Val.int), .lst (ss.map spV)] ∧ ch.length ≤ 1000 ∧ ∀ b, (b = true ↔ (∀ c ∈ ch, 0 ≤ c ∧ c < (ss.length : Int)) ∧ ch.Nodup) → Q [] (.bl b)
theorem M_are_numbers : Mono cNums := fun ds Q Q' E E' h _ ⟨ss, ch, a, b, q⟩ => ⟨ss, ch, a, b, fun c hc => h _ _ (q c hc)⟩
theorem v_are_numbers (T : Tx K mg) (B : Tbs T base) : FnOk P w K mg base CX0 (1) T.f_are_numbers T.fd_are_numbers ["chosen", "spans"] (vsp K T.tabs [] 2 cNums) := by
  refine T.FC_are_numbers.ok sc_are_numbers (fun vs H Q E h => vsp_len h) (fun A outer s H vs Q E hr h => ⟨_, (pss_one (ps_ret (pe_and (pe_gxAll (own := [("number", 2)]) (g := (gName 2)) hr rfl sc_are_numbers.nd (by rfl) T.m_all (by decide +kernel) B.t_are_numbers rfl (gblk_by (own := [("number", 2)]) (N := N_are_numbers) (sc := defScope s_are_numbers) (by decide +kernel)) (pi_list (pv 0)) (fun _ _ _ _ _ => by exact (pg_name (i := 2) sc_are_numbers.nd rfl (Or.inl rfl))) (fun _ _ _ _ _ => pts_nil) (fun _ _ _ _ _ => (pe_chain op_le op_lt pe_int (pv 2) (pe_callB (show CallR _ (.builtin "len") (fun xs H Q => ∃ p ys, xs = [.ref p] ∧ (SqL K H p ys ∨ SqT K H p ys) ∧ Q (.int ys.length) H) from call_len_seq) (by rfl) T.m_len PySem.boot_len (pa_cons (pv 1) pa_nil)))) (fun _ => rfl)) (pe_one (pe_cmpR op_eq (pe_lenSet rfl (by rfl) T.m_len (by rfl) T.m_set (pv 0)) (pe_callB call_len_seq (by rfl) T.m_len PySem.boot_len (pa_cons (pv 0) pa_nil)) (nomark _)))))), (vfn (N := 3) (lo := []) (Ef := []) U0 h rfl (by decide) rfl rfl hU0 (simS_ret (simE_andV (simE_gx (fx := [0, 1]) cs_all (simI_list (simE_var (i := 0) rfl)) (simG_name (i := 2) (show 2 < 3 by decide) rfl rfl) simT_yes (simE_chain r2_ib r2_ib simE_int (simE_var (i := 2) rfl) (simE_cb cb_len (simA_var (i := 1) rfl simA_nil)) rfl rfl rfl) (by unfold Tx.tabs; simp) rfl rfl rfl) (simE_op r2_eq (simE_lenSet (simE_var (i := 0) rfl)) (simE_cb cb_len (simA_var (i := 0) rfl simA_nil)) rfl) rfl) rfl rfl rfl rfl) ?_)⟩)
  rintro ds Q X ⟨ss, ch, rfl, hl, q⟩
  have sl : (ss.map spV).length = ss.length := List.length_map ..
  refine gxv_all ch Val.int (fun c => decide (0 ≤ c) && decide (c < ((ss.map spV).length : Int))) ?_ ?_
  · intro c _ R h
    by_cases a : 0 ≤ c
    · rw [decide_eq_true a, Bool.true_and] at h
      exact ifT (decide_eq_true a) h
    · rw [decide_eq_false a, Bool.false_and] at h
      exact ifF (decide_eq_false a) h
  · rw [sl]
    cases hb : ch.all (fun c => decide (0 ≤ c) && decide (c < (ss.length : Int))) with
    | false =>
      refine q false ⟨(fun z => nomatch z), fun z => ?_⟩
      obtain ⟨c, hc, h⟩ := List.all_eq_false.mp hb
      have := z.1 c hc
      rw [decide_eq_true this.1, decide_eq_true this.2] at h
      exact absurd rfl h
    | true =>
      have ih : ∀ c ∈ ch, 0 ≤ c ∧ c < (ss.length : Int) := fun c hc => by
        have := List.all_eq_true.mp hb c hc
        rwa [Bool.and_eq_true, decide_eq_true_iff, decide_eq_true_iff] at this
      refine ⟨ch, rfl, hl, fun ds nd mem => ?_⟩
      refine q _ ?_
      rw [List.length_map, Bool.false_bne, decide_eq_true_iff]
      constructor
      · intro e
        exact ⟨ih, (len_nodup nd mem).mp (by omega)⟩
      · intro h
        have := (len_nodup nd mem).mpr h.2
        rw [this]
def cIsNest : VSpec := fun ds Q _ => ∃ (ss : List Span) (ch : List Int), ds = [.lst (ss.map spV), .lst (ch.map Val.int)] ∧ ch.length ≤ 1000 ∧ ∀ b, (b = true ↔ (∀ c ∈ ch, 0 ≤ c ∧ c < (ss.length : Int)) ∧ ChU ss ch) → Q [] (.bl b)
theorem M_is_nest : Mono cIsNest := fun ds Q Q' E E' h _ ⟨ss, ch, a, b, q⟩ => ⟨ss, ch, a, b, fun c hc => h _ _ (q c hc)⟩
theorem cut1 (ch : List Int) : cutL ch (some 1) none = ch.tail := by
  cases ch with
  | nil => rfl
  | cons x r =>
    simp [cutL, HT.sIx]
theorem v_is_nest (T : Tx K mg) (B : Tbs T base) : FnOk P w K mg base CX0 (6) T.f_is_nest T.fd_is_nest ["spans", "numbers"] (vsp K T.tabs [] 2 cIsNest) := by
  have G_are_numbers : FnOk P w K mg base CX0 _ _ _ _ _ := v_are_numbers T B
  have G_is_under : FnOk P w K mg base CX0 _ _ _ _ _ := v_is_under T T.tabs
  refine T.FC_is_nest.ok sc_is_nest (fun vs H Q E h => vsp_len h) (fun A outer s H vs Q E hr h => ⟨_, (pss_cons (ps_if (pt_not (pt_val (pe_call G_are_numbers (hr.mono (by decide)) (by rfl) T.g_are_numbers T.F_are_numbers.kp T.b_are_numbers .nil pass0 (pa_cons (pv 1) (pa_cons (pv 0) pa_nil))))) (pss_one (ps_ret pe_bl)) pss_nil)
      (pss_one (ps_ret (pe_gxAll (own := [("inner", 2), ("outer", 3)]) (g := (gTup K 2 (gCons (gName 2) (gCons (gName 3) gNil)))) hr rfl sc_is_nest.nd (by rfl) T.m_all (by decide +kernel) B.t_is_nest rfl (gblk_by (own := [("inner", 2), ("outer", 3)]) (N := N_is_nest) (sc := defScope s_is_nest) (by decide +kernel)) (pi_zip (by rfl) T.m_zip (pa_cons (pv 1) (pa_cons (pe_slice sl_list (pv 1) (po_some pe_int) po_none) pa_nil))) (fun _ _ _ _ _ => by exact (pg_tup rfl (pgs_cons (pg_name (i := 2) sc_is_nest.nd rfl (Or.inl rfl)) (pgs_cons (pg_name (i := 3) sc_is_nest.nd rfl (Or.inl rfl)) pgs_nil)))) (fun _ _ _ _ _ => pts_nil) (fun _ _ _ _ _ => (pe_call G_is_under (room_gx (hr.mono (by decide)) _) (by rfl) T.g_is_under T.F_is_under.kp T.b_is_under .nil pass0 (pa_cons (pv 0) (pa_cons (pv 2) (pa_cons (pv 3) pa_nil))))) (fun _ => rfl))))), (vfn (N := 4) (lo := []) (Ef := []) U0 h rfl (by decide) rfl rfl hU0 (simS_seq (simS_if (simT_not (simT_tB (simE_call0 M_are_numbers (simA_var (i := 1) rfl (simA_var (i := 0) rfl simA_nil)) rfl rfl))) (simS_ret simE_bl rfl rfl rfl rfl) (simS_next rfl) rfl rfl)
      (simS_ret (simE_gx (fx := [0, 1]) cs_all (simI_zip (simA_var (i := 1) rfl (simA_consF (simE_sl (simE_var (i := 1) rfl) (simO_some simE_int) simO_none rfl rfl) simA_nil rfl rfl rfl rfl rfl))) (simG_tup (simGs_cons (simG_name (i := 2) (show 2 < 4 by decide) rfl rfl) (simGs_cons (simG_name (i := 3) (show 3 < 4 by decide) rfl rfl) simGs_nil))) simT_yes (simE_call0 M_is_under (simA_var (i := 0) rfl (simA_varF (i := 2) (simA_varF (i := 3) simA_nil))) rfl rfl) (by unfold Tx.tabs; simp) rfl rfl rfl) rfl rfl rfl rfl)) ?_)⟩)
  rintro ds Q X ⟨ss, ch, rfl, hl, q⟩
  refine ⟨ss, ch, rfl, hl, fun b hb => ?_⟩
  cases b with
  | false =>
    refine q false ⟨(fun z => nomatch z), fun z => ?_⟩
    have := hb.mpr ⟨z.1, z.2.nodup⟩
    cases this
  | true =>
    obtain ⟨rg, nd⟩ := hb.mp rfl
    refine ⟨flatI ch, ?_⟩
    rw [cutL_map, cut1]
    conv => whnf
    rw [zipV_map]
    refine gxv_all (ch.zip ch.tail) (fun p => .tup [.int p.1, .int p.2]) (fun p => unB (ss[p.1.toNat]?.getD (0, 0)) (ss[p.2.toNat]?.getD (0, 0)) p.1 p.2) ?_ ?_
    · rintro ⟨x, y⟩ hp R h
      have hx := rg x (List.of_mem_zip hp).1
      have hy := rg y (List.mem_of_mem_tail (List.of_mem_zip hp).2)
      obtain ⟨s0, hs⟩ : ∃ s, ss[x.toNat]? = some s := ⟨_, List.getElem?_eq_getElem (by omega)⟩
      obtain ⟨t0, ht⟩ : ∃ t, ss[y.toNat]? = some t := ⟨_, List.getElem?_eq_getElem (by omega)⟩
      simp only [hs, ht, Option.getD_some] at h
      have ex : x = ((x.toNat : Nat) : Int) := by omega
      have ey : y = ((y.toNat : Nat) : Int) := by omega
      refine ⟨rfl, rfl, rfl, ss, x.toNat, y.toNat, s0, t0, ?_, hs, ht, ?_⟩
      · rw [← ex, ← ey]
      · rw [← ex, ← ey]
        exact h
    · exact q _ ((chB_iff rg).trans ⟨fun z => ⟨rg, z⟩, fun z => z.2⟩)
end
section
variable {P : Program} {w : World} {K : PySem.W.Frag} {mg : Str → Option Value} {base : Heap}
/-- none of the chosen is under another -/
def FreeL (ss : List Span) (ch : List Int) : Prop := ∀ (i j : Nat) (s t : Span), (i : Int) ∈ ch → (j : Int) ∈ ch → ss[i]? = some s → ss[j]? = some t → unB s t i j = false
def cAreL : VSpec := fun ds Q _ => ∃ (ss : List Span) (ch : List Int), ds = [.lst (ss.map spV), .lst (ch.map Val.int)] ∧ ch.length ≤ 1000 ∧ ∀ b, (b = true ↔ (∀ c ∈ ch, 0 ≤ c ∧ c < (ss.length : Int)) ∧ ch.Nodup ∧ FreeL ss ch) → Q [] (.bl b)
theorem M_are_loose : Mono cAreL := fun ds Q Q' E E' h _ ⟨ss, ch, a, b, q⟩ => ⟨ss, ch, a, b, fun c hc => h _ _ (q c hc)⟩
theorem v_are_loose (T : Tx K mg) (B : Tbs T base) : FnOk P w K mg base CX0 (6) T.f_are_loose T.fd_are_loose ["spans", "numbers"] (vsp K T.tabs [] 2 cAreL) := by
  have G_are_numbers : FnOk P w K mg base CX0 _ _ _ _ _ := v_are_numbers T B
  have G_is_under : FnOk P w K mg base CX0 _ _ _ _ _ := v_is_under T T.tabs
  refine T.FC_are_loose.ok sc_are_loose (fun vs H Q E h => vsp_len h) (fun A outer s H vs Q E hr h => ⟨_, (pss_cons (ps_if (pt_not (pt_val (pe_call G_are_numbers (hr.mono (by decide)) (by rfl) T.g_are_numbers T.F_are_numbers.kp T.b_are_numbers .nil pass0 (pa_cons (pv 1) (pa_cons (pv 0) pa_nil))))) (pss_one (ps_ret pe_bl)) pss_nil)
      (pss_one (ps_ret (pe_not (pe_gyAny (own := [("inner", 2), ("outer", 3)]) (vs1 := [3]) (g := (gName 2)) (g1 := (gName 3)) hr rfl sc_are_loose.nd (by rfl) T.m_any (by decide +kernel) B.t_are_loose rfl (gblk_by (own := [("inner", 2), ("outer", 3)]) (N := N_are_loose) (sc := defScope s_are_loose) (by decide +kernel)) (pi_list (pv 1)) (fun _ _ _ _ _ => by exact (pg_name (i := 2) sc_are_loose.nd rfl (Or.inl rfl))) (fun _ _ _ _ _ => by exact pts_nil) (fun _ _ _ _ _ => by exact (pi_list (pv 1))) (fun _ _ _ _ _ => by exact (pg_name (i := 3) sc_are_loose.nd rfl (Or.inl rfl))) (fun _ _ _ _ _ => by exact pts_nil) (fun _ _ => rfl) (by decide) (fun _ _ _ _ _ => by exact (pe_call G_is_under (room_gx (hr.mono (by decide)) _) (by rfl) T.g_is_under T.F_is_under.kp T.b_is_under .nil pass0 (pa_cons (pv 0) (pa_cons (pv 2) (pa_cons (pv 3) pa_nil))))) (fun _ => rfl)))))), (vfn (N := 4) (lo := []) (Ef := []) U0 h rfl (by decide) rfl rfl hU0 (simS_seq (simS_if (simT_not (simT_tB (simE_call0 M_are_numbers (simA_var (i := 1) rfl (simA_var (i := 0) rfl simA_nil)) rfl rfl))) (simS_ret simE_bl rfl rfl rfl rfl) (simS_next rfl) rfl rfl)
      (simS_ret (simE_notV (simE_gy (fx := [0, 1]) (fx1 := [0, 1, 2]) cs_any (simI_list (simE_var (i := 1) rfl)) (simG_name (i := 2) (show 2 < 4 by decide) rfl rfl) simT_yes (simI_list (simE_var (i := 1) rfl)) (simG_name (i := 3) (show 3 < 4 by decide) rfl rfl) simT_yes (simE_call0 M_is_under (simA_var (i := 0) rfl (simA_varF (i := 2) (simA_varF (i := 3) simA_nil))) rfl rfl) (by unfold Tx.tabs; simp) rfl rfl rfl rfl rfl rfl)) rfl rfl rfl rfl)) ?_)⟩)
  rintro ds Q X ⟨ss, ch, rfl, hl, q⟩
  refine ⟨ss, ch, rfl, hl, fun b hb => ?_⟩
  cases b with
  | false =>
    refine q false ⟨(fun z => nomatch z), fun z => ?_⟩
    have := hb.mpr ⟨z.1, z.2.1⟩
    cases this
  | true =>
    obtain ⟨rg, nd⟩ := hb.mp rfl
    have at_ : ∀ (i : Nat) (d : Val), (ch.map Val.int)[i]? = some d → ∃ (n : Nat) (s : Span), ch[i]? = some (n : Int) ∧ d = .int (n : Int) ∧ ss[n]? = some s := fun i d h => by
      rw [List.getElem?_map] at h
      obtain ⟨c, hc, rfl⟩ := Option.map_eq_some_iff.mp h
      obtain ⟨a, b⟩ := rg c (List.mem_of_getElem? hc)
      obtain ⟨n, rfl⟩ := Int.eq_ofNat_of_zero_le a
      exact ⟨n, _, hc, rfl, List.getElem?_eq_getElem (by omega)⟩
    refine ⟨ch.length, fun i _ env => env = [some (.lst (ss.map spV)), some (.lst (ch.map Val.int)), none, none] ∧ ∀ k, k < i → ∀ (n m : Nat) (s t : Span), ch[k]? = some (n : Int) → (m : Int) ∈ ch → ss[n]? = some s → ss[m]? = some t → unB s t n m = false, ⟨rfl, fun k hk => absurd hk (Nat.not_lt_zero _)⟩, ?_, ?_⟩
    · rintro i x _ env hx ⟨rfl, hi⟩
      obtain ⟨n, s, hn, rfl, hs⟩ := at_ i x hx
      refine ⟨Nat.le_of_eq (List.length_map ..), fun j _ env => env = [some (.lst (ss.map spV)), some (.lst (ch.map Val.int)), some (.int (n : Int)), none] ∧ ∀ k, k < j → ∀ (m : Nat) (t : Span), ch[k]? = some (m : Int) → ss[m]? = some t → unB s t n m = false, ⟨rfl, fun k hk => absurd hk (Nat.not_lt_zero _)⟩, ?_, ?_⟩
      · rintro j y _ env hy ⟨rfl, hj⟩
        obtain ⟨m, t, hm, rfl, ht⟩ := at_ j y hy
        refine ⟨(by first | trivial | rfl | exact .int _ | simp [hdFlat]), (by first | trivial | rfl | exact .int _ | simp [hdFlat]), ss, n, m, s, t, rfl, hs, ht, ?_⟩
        cases hu : unB s t n m with
        | true =>
          refine q false ⟨(fun z => nomatch z), fun z => ?_⟩
          rw [z.2.2 n m s t (List.mem_of_getElem? hn) (List.mem_of_getElem? hm) hs ht] at hu
          cases hu
        | false =>
          refine ⟨rfl, fun k hk m' t' hm' ht' => ?_⟩
          rcases Nat.lt_succ_iff_lt_or_eq.mp hk with h | rfl
          · exact hj k h m' t' hm' ht'
          · rw [hm] at hm'
            have e : m = m' := by
              have := Option.some.inj hm'
              omega
            subst e
            rw [ht] at ht'
            cases ht'
            exact hu
      · rintro _ env ⟨rfl, hj⟩
        refine ⟨rfl, fun k hk n' m s' t hn' hm hs' ht => ?_⟩
        rcases Nat.lt_succ_iff_lt_or_eq.mp hk with h | rfl
        · exact hi k h n' m s' t hn' hm hs' ht
        · rw [hn] at hn'
          have e : n = n' := by
            have := Option.some.inj hn'
            omega
          subst e
          rw [hs] at hs'
          cases hs'
          obtain ⟨k', hk'⟩ := List.getElem?_of_mem hm
          refine hj k' ?_ m t hk' ht
          rw [List.length_map]
          exact (List.getElem?_eq_some_iff.mp hk').1
    · rintro _ env ⟨rfl, hi⟩
      refine q true ⟨fun _ => ⟨rg, nd, fun i j s t hi' hj' hs ht => ?_⟩, fun _ => rfl⟩
      obtain ⟨k, hk⟩ := List.getElem?_of_mem hi'
      refine hi k ?_ i j s t hk hj' hs ht
      rw [List.length_map]
      exact (List.getElem?_eq_some_iff.mp hk).1
end
section
variable {P : Program} {w : World} {K : PySem.W.Frag} {mg : Str → Option Value} {base : Heap}
def liV (r : List Int) : Val := .lst (r.map Val.int)
def lliV (LL : List (List Int)) : Val := .lst (LL.map liV)
/-- whole numbers that are a nest -/
def NumNest (ss : List Span) (r : List Int) : Prop := (∀ c ∈ r, 0 ≤ c ∧ c < (ss.length : Int)) ∧ ChU ss r
/-- loose ones, and as many nests that hold each span once -/
structure LooseOk (ss : List Span) (ch : List Int) (LL : List (List Int)) : Prop where
  many : LL.length = ch.length
  rg : ∀ c ∈ ch, 0 ≤ c ∧ c < (ss.length : Int)
  nd : ch.Nodup
  free : FreeL ss ch
  nests : ∀ r ∈ LL, NumNest ss r
  all : LL.flatten.Perm ((List.range ss.length).map fun (k : Nat) => (k : Int))
def cShowsL : VSpec := fun ds Q _ => ∃ (ss : List Span) (ch : List Int) (LL : List (List Int)), ds = [.lst (ss.map spV), .tup [.lst (ch.map Val.int), lliV LL]] ∧ ss.all isSpan = true ∧ ss.length ≤ 1000 ∧ ch.length ≤ 1000 ∧ (∀ r ∈ LL, r.length ≤ 1000) ∧ LL.length ≤ 900 ∧ ∀ b, (b = true ↔ LooseOk ss ch LL) → Q [] (.bl b)
theorem M_shows_loose : Mono cShowsL := fun ds Q Q' E E' h _ ⟨ss, ch, LL, a, b, c, d, e, f, q⟩ => ⟨ss, ch, LL, a, b, c, d, e, f, fun c hc => h _ _ (q c hc)⟩
theorem flat_few {LL : List (List Int)} {n m : Nat} (h : ∀ r ∈ LL, r.length ≤ m) (hl : LL.length ≤ n) : LL.flatten.length ≤ n * m := by
  induction LL generalizing n with
  | nil => exact Nat.zero_le _
  | cons r LL ih =>
    cases n with
    | zero => cases hl
    | succ n =>
      have := ih (n := n) (fun r hr => h r (List.mem_cons_of_mem _ hr)) (Nat.le_of_succ_le_succ hl)
      have := h r List.mem_cons_self
      rw [List.flatten_cons, List.length_append, Nat.succ_mul]
      omega
open Classical in
theorem v_shows_loose (T : Tx K mg) (B : Tbs T base) : FnOk P w K mg base (L2.CX P w) (10) T.f_shows_loose T.fd_shows_loose ["spans", "told"] (vsp K T.tabs [] 2 cShowsL) := by
  have G_check_spans : FnOk P w K mg base (L2.CX P w) _ _ _ _ _ := v_check_spans T T.tabs
  have G_is_nest : FnOk P w K mg base CX0 _ _ _ _ _ := v_is_nest T B
  have G_are_loose : FnOk P w K mg base CX0 _ _ _ _ _ := v_are_loose T B
  refine T.FC_shows_loose.okX sc_shows_loose (fun vs H Q E h => vsp_len h) (fun A outer s H vs Q E hr h => ⟨_, (pss_cons (ps_expr (pe_call G_check_spans (hr.mono (by decide)) (by rfl) T.g_check_spans T.F_check_spans.kp T.b_check_spans .nil (passes_call (takes_of rfl rfl rfl rfl) (fun _ _ _ _ h => h)) (pa_cons (pv 0) pa_nil)))
      (pss_cons (ps_asg (pv 1) (pg_tup rfl (pgs_cons (pg_name (i := 2) sc_shows_loose.nd rfl (Or.inl rfl)) (pgs_cons (pg_name (i := 3) sc_shows_loose.nd rfl (Or.inl rfl)) pgs_nil))))
      (pss_cons (ps_if (PW.pt (pw_or (pt_cmpR op_ne (pe_callB call_len_seq (by rfl) T.m_len PySem.boot_len (pa_cons (pv 3) pa_nil)) (pe_callB call_len_seq (by rfl) T.m_len PySem.boot_len (pa_cons (pv 2) pa_nil)) (nomark _)) (pw_or1 (pt_not (pt_val (pe_call G_are_loose (hr.mono (by decide)) (by rfl) T.g_are_loose T.F_are_loose.kp T.b_are_loose .nil pass0 (pa_cons (pv 0) (pa_cons (pv 2) pa_nil)))))))) (pss_one (ps_ret pe_bl)) pss_nil)
      (pss_cons (ps_if (pt_not (pt_val (pe_gxAll (own := [("one", 4)]) (g := (gName 4)) hr rfl sc_shows_loose.nd (by rfl) T.m_all (by decide +kernel) B.t_shows_loose rfl (gblk_by (own := [("one", 4)]) (N := N_shows_loose) (sc := defScope s_shows_loose) (by decide +kernel)) (pi_list (pv 3)) (fun _ _ _ _ _ => by exact (pg_name (i := 4) sc_shows_loose.nd rfl (Or.inl rfl))) (fun _ _ _ _ _ => pts_nil) (fun _ _ _ _ _ => (pe_call G_is_nest (room_gx (hr.mono (by decide)) _) (by rfl) T.g_is_nest T.F_is_nest.kp T.b_is_nest .nil pass0 (pa_cons (pv 0) (pa_cons (pv 4) pa_nil)))) (fun _ => rfl)))) (pss_one (ps_ret pe_bl)) pss_nil)
      (pss_one (ps_ret (pe_cmpR (op_eqD hr.units) (pe_callB cr_sortedI (by rfl) T.m_sorted (by decide +kernel) (pa_cons (pe_lc2 (own := [("one", 4), ("number", 5)]) (vs1 := [5]) (g := (gName 4)) (g1 := (gName 5)) (wi1 := iList K (tVar 4)) (by rfl) sc_shows_loose.nd (pi_list (pv 3)) (blkOk_by (own := [("one", 4), ("number", 5)]) (N := N_shows_loose) (sc := defScope s_shows_loose) (by decide +kernel)) (by decide) (fun _ _ _ _ _ => by exact (pg_name (i := 4) sc_shows_loose.nd rfl (Or.inl rfl))) (fun _ _ _ _ _ => by exact pts_nil) (fun _ _ _ _ _ => by exact (pi_list (pv 4))) (fun _ _ _ _ _ => by exact (pg_name (i := 5) sc_shows_loose.nd rfl (Or.inl rfl))) (fun _ _ _ _ _ => by exact pts_nil) (fun _ _ _ _ _ => by exact (pv 5))) pa_nil)) (pe_listRg rfl (by rfl) T.m_list (prg_1 (by rfl) T.m_range (pe_callB call_len_seq (by rfl) T.m_len PySem.boot_len (pa_cons (pv 0) pa_nil)))) (nomark _)))))))), (vfnX (N := 6) (lo := []) (Ef := []) U0 h rfl (by decide) rfl rfl hU0 (fun xe => (simS_seq (simS_expr (simE_call0 M_check_spans (simA_var (i := 0) rfl simA_nil) rfl rfl) rfl rfl)
      (simS_seq (simS_asg (simE_var (i := 1) rfl) (simG_tup (simGs_cons (simG_name (i := 2) (show 2 < 6 by decide) rfl rfl) (simGs_cons (simG_name (i := 3) (show 3 < 6 by decide) rfl rfl) simGs_nil))) rfl rfl)
      (simS_seq (simS_if (simT_or (simT_test (simE_op r2_ne (simE_cb cb_len (simA_var (i := 3) rfl simA_nil)) (simE_cb cb_len (simA_var (i := 2) rfl simA_nil)) rfl)) (simT_not (simT_tB (simE_call0 M_are_loose (simA_var (i := 0) rfl (simA_var (i := 2) rfl simA_nil)) rfl rfl))) rfl) (simS_ret simE_bl rfl rfl rfl rfl) (simS_next rfl) rfl rfl)
      (simS_seq (simS_if (simT_not (simT_tB (simE_gx (fx := [0, 1, 2, 3, 5]) cs_all (simI_list (simE_var (i := 3) rfl)) (simG_name (i := 4) (show 4 < 6 by decide) rfl rfl) simT_yes (simE_call0 M_is_nest (simA_var (i := 0) rfl (simA_var (i := 4) rfl simA_nil)) rfl rfl) (by unfold Tx.tabs; simp) rfl rfl rfl))) (simS_ret simE_bl rfl rfl rfl rfl) (simS_next rfl) rfl rfl)
      (simS_ret (simE_op r2_eqD (simE_cbl cb_sortI (simA_consF (simE_flat2 (a := 3) (i := 4) (j := 5) (show 4 < 6 by decide) (show 5 < 6 by decide) rfl) simA_nil rfl rfl rfl rfl rfl)) (simE_lrg (simE_cb cb_len (simA_var (i := 0) rfl simA_nil))) rfl) rfl rfl rfl rfl)))))) ?_)⟩)
  rintro ds Q X ⟨ss, ch, LL, rfl, ok, sl, cl, rl, ll, q⟩
  refine ⟨ss, rfl, ok, rfl, ?_⟩
  have n1 : (LL.map liV).length = LL.length := List.length_map ..
  have n2 : (ch.map Val.int).length = ch.length := List.length_map ..
  by_cases en : LL.length = ch.length
  · have e0 : ((LL.map liV).length : Int) = ((ch.map Val.int).length : Int) := by omega
    refine ifF (by rw [decide_eq_true e0]; rfl) ?_
    refine ⟨ss, ch, rfl, cl, fun b hb => ?_⟩
    cases b with
    | false =>
      exact q false ⟨(fun z => nomatch z), fun z => by have := hb.mpr ⟨z.rg, z.nd, z.free⟩; cases this⟩
    | true =>
      obtain ⟨h1, h2, h3⟩ := hb.mp rfl
      refine gxv_all LL liV (fun r => decide (NumNest ss r)) ?_ ?_
      · intro r hr R h
        exact ⟨ss, r, rfl, rl r hr, fun b hb => by
          have : b = decide (NumNest ss r) := by
            rw [Bool.eq_iff_iff, hb, decide_eq_true_iff]
            exact Iff.rfl
          rw [this]
          exact h⟩
      cases hb2 : LL.all (fun r => decide (NumNest ss r)) with
      | false =>
        refine q false ⟨(fun z => nomatch z), fun z => ?_⟩
        obtain ⟨r, hr, h⟩ := List.all_eq_false.mp hb2
        exact absurd (decide_eq_true (z.nests r hr)) h
      | true =>
        have ns : ∀ r ∈ LL, NumNest ss r := fun r hr => of_decide_eq_true (List.all_eq_true.mp hb2 r hr)
        have fl : LL.flatten.length ≤ 900 * 1000 := flat_few rl ll
        refine ⟨LL, rfl, by omega, LL.flatten, rfl, fun E pE pw => ?_⟩
        have e9 : (ss.map spV).length = ss.length := List.length_map ..
        refine ⟨⟨by omega, by omega⟩, ?_⟩
        have eR : rngV 0 (((ss.map spV).length : Int)).toNat = ((List.range ss.length).map fun (k : Nat) => (k : Int)).map Val.int := by
          rw [e9, Int.toNat_natCast]
          unfold rngV
          rw [List.map_map]
          refine List.map_congr_left fun k _ => ?_
          show Val.int (0 + (k : Int)) = Val.int (k : Int)
          rw [Int.zero_add]
        rw [eR]
        refine eqD_ints false E _ _ ?_
        rw [Bool.false_bne]
        refine q _ ?_
        rw [decide_eq_true_iff]
        constructor
        · intro e
          exact ⟨en, h1, h2, h3, ns, by rw [← e]; exact pE.symm⟩
        · intro z
          refine List.Perm.eq_of_pairwise (le := (· ≤ ·)) (fun x y _ _ p q => by omega) pw ?_ (pE.trans z.all)
          rw [List.pairwise_map]
          exact List.pairwise_lt_range.imp fun {a b} h => by
            show (a : Int) ≤ (b : Int)
            omega
  · have e0 : ¬ ((LL.map liV).length : Int) = ((ch.map Val.int).length : Int) := by omega
    exact ifT (by rw [decide_eq_false e0]; rfl) (q false ⟨(fun z => nomatch z), fun z => absurd z.many en⟩)
end
section
variable {c : Vc} {ta tb : TE} {sa sb : List Nat} {fb : Option (List Nat)} {ea eb : List Nat} {wa wb : VW}
/-- an item of a new list of new lists is new -/
theorem simE_ixN (ha : SimE c ta sa (some []) ea wa) (hb : SimE c tb sb fb eb wb) (hd : disj sa eb = true) : SimE c (tOp (rIxL c.K) ta tb) sa (some []) (ea ++ eb) (wIxL wa wb) := ⟨fun env σ H Fs Q R S h k =>
  ha.sim env σ H Fs _ _ S h fun x d F env1 H1 Fs1 o1 r1 s1 f1 h1 => hb.sim env1 σ H1 Fs1 _ _ o1.sr h1 fun y e G env2 H2 Fs2 o2 r2 s2 f2 h2 => by
    obtain ⟨r1', s1'⟩ := r1.eff o1.sr o2.ef s1 hd
    clear f2 h1 h
    cases d <;> try exact h2.elim
    cases e <;> try exact h2.elim
    rename_i xs i
    cases r2
    cases hi : atI xs i with
    | none =>
      simp only [hi] at h2
    | some d =>
      simp only [hi] at h2
      cases r1' with
      | lst hp rr =>
        obtain ⟨v, G, g1, g2, g3, g4⟩ := rr.atI hi
        obtain ⟨n1, n2⟩ := f1 [] rfl
        refine ⟨_, _, i, v, rfl, rfl, SqL.of hp, g1, k v d G env2 H2 Fs2 (o1.trans o2) g2 (fun a ha => s1' a (List.mem_cons_of_mem _ (g3 a ha))) (fun mv _ => ⟨g4 (List.nodup_cons.mp n1).2, fun a ha => ?_⟩) h2⟩
        rcases n2 a (List.mem_cons_of_mem _ (g3 a ha)) with z | ⟨j, hj, _⟩
        · exact .inl z
        · cases hj⟩
end
section
variable {P : Program} {w : World} {K : PySem.W.Frag} {mg : Str → Option Value} {base : Heap}
/-! ### the cell, the mixing, the purse, a draw -/
def spAt (K : PySem.W.Frag) : Sp := fun vs H Q _ => ∃ (a : Addr) (ns : List Int) (k : Int), vs = [.ref a, .int k] ∧ SqL K H a (ns.map V.int) ∧ 0 ≤ k ∧ ∀ z, Q (.int z) H
theorem ok_at (T : Tx K mg) : FnOk P w K mg base CX0 (1) T.f_l_at T.fd_l_at ["_law_script", "_law_k"] (spAt K) := by
  refine T.F_l_at.ok sc_l_at (fun vs H Q E h => ?_) (fun cdv A outer s H vs Q E hr h => ?_)
  · obtain ⟨a, ns, k, rfl, _⟩ := h
    rfl
  · obtain ⟨a, ns, k, rfl, hS, h0, q⟩ := h
    refine ⟨_, (pss_cons (ps_if (pt_cmpR op_lt (pv 1) (pe_callB call_len_seq (by rfl) T.m_len PySem.boot_len (pa_cons (pv 0) pa_nil)) (nomark _)) (pss_one (ps_ret (pe_ix ix_list (pv 0) (pv 1) (fun _ _ => rfl)))) pss_nil)
      (pss_one (ps_ret pe_int))), ?_⟩
    refine ⟨_, rfl, _, rfl, a, _, rfl, .inl hS, _, _, rfl, rfl, _, rfl, ite2 (fun e => ?_) (fun e => ?_)⟩
    · have e0 : k < ((ns.map V.int).length : Int) := of_decide_eq_true e
      rw [List.length_map] at e0
      have h1 : k.toNat < ns.length := by omega
      refine ⟨_, rfl, _, rfl, a, _, k, .int ns[k.toNat], rfl, rfl, hS, at_of (j := k.toNat) (by omega) ?_, q _⟩
      rw [List.getElem?_map, List.getElem?_eq_getElem h1]
      rfl
    · exact q 0
def spMixed : Sp := fun vs H Q _ => ∃ (a k : Int), vs = [.int a, .int k] ∧ 0 ≤ k ∧ k < 2 ^ 60 ∧ 0 ≤ a ∧ a < 2 ^ 60 ∧ ∀ z : Int, 0 ≤ z → z < 2147483587 → Q (.int z) H
theorem ok_mixed (T : Tx K mg) : FnOk P w K mg base CX0 (1) T.f_l_mixed T.fd_l_mixed ["_law_cell", "_law_k"] spMixed := by
  refine T.F_l_mixed.ok sc_l_mixed (fun vs H Q E h => ?_) (fun cdv A outer s H vs Q E hr h => ?_)
  · obtain ⟨a, k, rfl, _⟩ := h
    rfl
  · obtain ⟨a, k, rfl, h0, h1, h2, h3, q⟩ := h
    refine ⟨_, (pss_cons (ps_set (i := 2) sc_l_mixed.nd rfl (Or.inl rfl) (pe_op op_mod (pe_op op_add (pe_op op_add (pe_op op_add (pe_op op_mul (pv 0) pe_int) (pe_op op_mul (pe_op op_mul pe_int (pv 1)) (pv 1))) (pv 1)) pe_int) pe_int))
      (pss_cons (ps_set (i := 2) sc_l_mixed.nd rfl (Or.inl rfl) (pe_op op_mod (pe_op op_add (pe_op op_mul (pv 2) (pv 2)) pe_int) pe_int))
      (pss_one (ps_ret (pe_op op_mod (pe_op op_mul (pv 2) pe_int) pe_int))))), ?_⟩
    refine ⟨_, rfl, _, _, rfl, rfl, .inr ⟨by decide, by decide⟩, _, rfl, _, _, rfl, rfl, .inl ⟨by decide, by decide⟩, _, rfl, _, _, rfl, rfl, .inr ⟨by omega, by omega⟩, _, _, rfl, rfl, _, rfl, _, _, rfl, rfl, _, _, rfl, rfl, _, _, rfl, rfl, by show (0 : Int) < 2147483647; decide, ?_⟩
    generalize hx : (a * 1103515245 + 7919 * k * k + k + 1) % 2147483647 = x
    have x0 : 0 ≤ x := by omega
    have x1 : x < 2147483647 := by omega
    clear hx
    refine ⟨_, rfl, _, rfl, _, _, rfl, rfl, .inl ⟨by omega, by omega⟩, _, _, rfl, rfl, _, _, rfl, rfl, by show (0 : Int) < 2147483629; decide, ?_⟩
    generalize hy : (x * x + 69621) % 2147483629 = y
    have y0 : 0 ≤ y := by omega
    have y1 : y < 2147483629 := by omega
    clear hy
    refine ⟨_, rfl, _, _, rfl, rfl, .inl ⟨by omega, by omega⟩, _, _, rfl, rfl, by show (0 : Int) < 2147483587; decide, ?_⟩
    exact q _ (by omega) (by omega)
def spPurse (K : PySem.W.Frag) : Sp := fun vs H Q _ => ∃ (a : Addr) (ns : List Int) (k : Int), vs = [.ref a, .int k] ∧ SqL K H a (ns.map V.int) ∧ 0 ≤ k ∧ k ≤ 63 ∧ ∀ H' p, Same H H' → H p = none → Pu H' p 63000 → Q (.ref p) H'
theorem ok_purse (T : Tx K mg) : FnOk P w K mg base CX0 (2) T.f_l_purse T.fd_l_purse ["_law_script", "_law_at_here"] (spPurse K) := by
  have G_l_at : FnOk P w K mg base CX0 _ _ _ _ _ := ok_at T
  refine T.F_l_purse.ok sc_l_purse (fun vs H Q E h => ?_) (fun cdv A outer s H vs Q E hr h => ?_)
  · obtain ⟨a, ns, k, rfl, _⟩ := h
    rfl
  · obtain ⟨a, ns, k, rfl, hS, h0, h1, q⟩ := h
    refine ⟨_, (pss_cons (ps_set (i := 2) sc_l_purse.nd rfl (Or.inl rfl) (pe_call G_l_at (hr.mono (by decide)) (by rfl) T.g_l_at T.F_l_at.kp T.b_l_at .nil pass0 (pa_cons (pv 0) (pa_cons (pv 1) pa_nil))))
      (pss_one (ps_ret (pe_lst (pa_cons (pe_callB (call_max2 rfl) (by rfl) T.m_max (by decide +kernel) (pa_cons (pe_op op_sub (pv 2) (pe_op op_pow pe_int pe_int)) (pa_cons pe_int pa_nil))) (pa_cons (pe_op op_mod (pv 2) pe_int) (pa_cons (pe_op op_mul pe_int (pv 1)) pa_nil))))))), ?_⟩
    refine ⟨_, rfl, _, rfl, a, ns, k, rfl, hS, h0, fun z => ?_⟩
    refine ⟨_, rfl, _, _, rfl, rfl, ⟨by decide, by decide, by decide⟩, _, _, rfl, rfl, _, _, rfl, _, rfl, _, _, rfl, rfl, by show (0 : Int) < 2147483647; decide, _, rfl, _, _, rfl, rfl, .inl ⟨by decide, by decide⟩, small_le (by simp), fun p np => ?_⟩
    refine q _ p (same_upd np) np ⟨_, _, _, upd_same, ?_, by omega, by omega, by omega, by omega⟩
    split <;> omega
def spDraw : Sp := fun vs H Q _ => ∃ (p : Addr) (m : Int) (n : Nat), vs = [.ref p, .int m] ∧ Pu H p n ∧ n ≤ 1000000000 ∧ 0 < m ∧ m < 2 ^ 88 ∧ ∀ H' r, Chg [p] H H' → Pu H' p (n + 3) → 0 ≤ r → r < m → Q (.int r) H'
theorem bits_le {m : Int} (h0 : 0 < m) (h1 : m < 2 ^ 88) : (Builtin.Int.intBits m : Nat) ≤ 88 := by
  have h : m.natAbs < 2 ^ 88 := by
    have e : (2 : Int) ^ 88 = ((2 ^ 88 : Nat) : Int) := by decide
    rw [e] at h1
    omega
  exact PyProof.Rows.intBits_le h
theorem ok_draw (T : Tx K mg) : FnOk P w K mg base CX0 (2) T.f_l_draw T.fd_l_draw ["_law_purse_here", "_law_out_of"] spDraw := by
  have G_l_mixed : FnOk P w K mg base CX0 _ _ _ _ _ := ok_mixed T
  refine T.F_l_draw.ok sc_l_draw (fun vs H Q E h => ?_) (fun cdv A outer s H vs Q E hr h => ?_)
  · obtain ⟨p, m, n, rfl, _⟩ := h
    rfl
  · obtain ⟨p, m, n, rfl, hp, hn, h0, h1, q⟩ := h
    obtain ⟨a, b, c, hP, ha, hb, hb1, hc, hc1⟩ := hp
    refine ⟨_, (pss_cons (ps_if (pt_cmpR op_gt (pe_ix ix_list (pv 0) pe_int (fun _ _ => rfl)) pe_int (nomark _)) (pss_cons (ps_set (i := 2) sc_l_draw.nd rfl (Or.inl rfl) (pe_op op_mod (pe_ix ix_list (pv 0) pe_int (fun _ _ => rfl)) (pv 1)))
      (pss_cons (ps_asg (pe_op op_fdivW (pe_ix ix_list (pv 0) pe_int (fun _ _ => rfl)) (pv 1)) (pg_sub (pv 0) pe_int set_list))
      (pss_one (ps_ret (pv 2))))) pss_nil)
      (pss_cons (ps_set (i := 3) sc_l_draw.nd rfl (Or.inl rfl) pe_int)
      (pss_cons (ps_for PassesOwn.never (by rfl) (pi_range1 (by rfl) T.m_range (pa_cons (pe_op op_add pe_int (pe_op op_fdiv (pe_bits (pv 1)) pe_int)) pa_nil)) (pg_name (i := 4) sc_l_draw.nd rfl (Or.inl rfl))
        (pss_cons (ps_asg (pe_op op_add (pe_ix ix_list (pv 0) pe_int (fun _ _ => rfl)) pe_int) (pg_sub (pv 0) pe_int set_list))
      (pss_one (ps_set (i := 3) sc_l_draw.nd rfl (Or.inl rfl) (pe_op op_add (pe_op op_mul (pv 3) pe_int) (pe_call G_l_mixed (hr.mono (by decide)) (by rfl) T.g_l_mixed T.F_l_mixed.kp T.b_l_mixed .nil pass0 (pa_cons (pe_ix ix_list (pv 0) pe_int (fun _ _ => rfl)) (pa_cons (pe_ix ix_list (pv 0) pe_int (fun _ _ => rfl)) pa_nil))))))))
      (pss_one (ps_ret (pe_op op_mod (pv 3) (pv 1))))))), ?_⟩
    have hS : SqL K H p [.int a, .int b, .int c] := SqL.of hP
    refine ⟨_, rfl, p, _, _, _, rfl, rfl, hS, atI_nat (j := 0) rfl, _, _, rfl, rfl, _, rfl, ite2 (fun e => ?_) (fun e => ?_)⟩
    · have ea : 0 < a := of_decide_eq_true e
      refine ⟨_, rfl, p, _, _, _, rfl, rfl, hS, atI_nat (j := 0) rfl, _, rfl, _, _, rfl, rfl, h0, ?_⟩
      refine ⟨_, rfl, p, _, _, _, rfl, rfl, hS, atI_nat (j := 0) rfl, _, rfl, _, _, rfl, rfl, wide_div (b := 88) h0 ?_ (by decide) (by decide), ?_⟩
      · have e : (2 : Int) ^ 88 = ((2 ^ 88 : Nat) : Int) := by decide
        rw [e] at h1
        omega
      refine ⟨_, rfl, p, _, _, 0, rfl, rfl, hP, rfl, ?_⟩
      refine ⟨_, rfl, ?_⟩
      refine q _ _ (Chg.upd List.mem_cons_self) ⟨a / m, b, c, upd_same, Int.ediv_nonneg ha (by omega), hb, hb1, hc, by omega⟩ (Int.emod_nonneg _ (by omega)) (Int.emod_lt_of_pos _ h0)
    · have hb88 := bits_le h0 h1
      refine ⟨_, rfl, _, rfl, _, _, rfl, rfl, ⟨by decide, by decide⟩, _, _, rfl, rfl, _, rfl, by omega, by omega, ?_⟩
      refine for_range (lo := 0) (n := (1 + ((Builtin.Int.intBits m : Nat) : Int) / 30).toNat) (fun i σ H' => ∃ (x : Int) (c' : Int) (y4 : Option V), σ = [some (.ref p), some (.int m), none, some (.int x), y4] ∧ Chg [p] H H' ∧ H' p = some (.lst [.int a, .int b, .int c']) ∧ c' = c + i ∧ 0 ≤ x ∧ x < 2 ^ (32 * i)) ⟨0, c, none, rfl, Chg.refl _ _, hP, by omega, by omega, by decide⟩ ?_ ?_
      · rintro i σ H' hi ⟨x, c', y4, rfl, hch, hP', hc', x0, x1⟩
        have hi3 : i ≤ 2 := by omega
        refine ⟨_, rfl, p, _, _, _, rfl, rfl, SqL.of hP', atI_nat (j := 2) rfl, _, _, rfl, rfl, _, rfl, p, _, _, 2, rfl, rfl, hP', rfl, ?_⟩
        have hP2 : (upd H' p (.lst [.int a, .int b, .int (c' + 1)])) p = some (.lst [.int a, .int b, .int (c' + 1)]) := upd_same
        refine ⟨_, rfl, _, _, rfl, rfl, .inr ⟨by decide, by decide⟩, _, rfl, p, _, _, _, rfl, rfl, SqL.of hP2, atI_nat (j := 1) rfl, _, rfl, p, _, _, _, rfl, rfl, SqL.of hP2, atI_nat (j := 2) rfl, b, c' + 1, rfl, by omega, by omega, hb, by omega, fun z z0 z1 => ?_⟩
        refine ⟨_, _, rfl, rfl, x * 2147483587 + z, c' + 1, _, rfl, hch.trans (Chg.upd List.mem_cons_self), hP2, by omega, by omega, ?_⟩
        have e : (2 : Int) ^ (32 * (i + 1)) = 2 ^ (32 * i) * 4294967296 := by
          rw [Nat.mul_add, Int.pow_add]
          rfl
        rw [e]
        omega
      · rintro σ H' ⟨x, c', y4, rfl, hch, hP', hc', x0, x1⟩
        refine ⟨_, rfl, _, rfl, _, _, rfl, rfl, h0, ?_⟩
        exact q _ _ hch ⟨a, b, c', hP', ha, hb, hb1, by omega, by omega⟩ (Int.emod_nonneg _ (by omega)) (Int.emod_lt_of_pos _ h0)
end
section
variable {P : Program} {w : World} {K : PySem.W.Frag} {mg : Str → Option Value} {base : Heap}
/-! ### a number, an end, a span -/
def spNumber : Sp := fun vs H Q _ => ∃ (p : Addr) (m : Int) (n : Nat), vs = [.ref p, .int m] ∧ Pu H p n ∧ n + 6 ≤ 1000000000 ∧ 30 ≤ m ∧ m < 2 ^ 60 ∧ ∀ H' r, Chg [p] H H' → Pu H' p (n + 6) → -m ≤ r → r ≤ m → Q (.int r) H'
theorem far_of {m r : Int} (h0 : 0 ≤ r) (h1 : r < 4) (hm : 30 ≤ m) : ∃ f, ([.int 1, .int 4, .int 30, .int m] : List V)[r.toNat]? = some (.int f) ∧ 1 ≤ f ∧ f ≤ m := by
  have h : r = 0 ∨ r = 1 ∨ r = 2 ∨ r = 3 := by omega
  rcases h with rfl | rfl | rfl | rfl
  · exact ⟨1, rfl, by omega, by omega⟩
  · exact ⟨4, rfl, by omega, by omega⟩
  · exact ⟨30, rfl, by omega, by omega⟩
  · exact ⟨m, rfl, by omega, by omega⟩
theorem ok_number (T : Tx K mg) : FnOk P w K mg base CX0 (3) T.f_l_number T.fd_l_number ["_law_purse_here", "_law_most"] spNumber := by
  have G_l_draw : FnOk P w K mg base CX0 _ _ _ _ _ := ok_draw T
  refine T.F_l_number.ok sc_l_number (fun vs H Q E h => ?_) (fun cdv A outer s H vs Q E hr h => ?_)
  · obtain ⟨p, m, n, rfl, _⟩ := h
    rfl
  · obtain ⟨p, m, n, rfl, hp, hn, h0, h1, q⟩ := h
    refine ⟨_, (pss_cons (ps_set (i := 2) sc_l_number.nd rfl (Or.inl rfl) (pe_ix ix_list (pe_lst (pa_cons pe_int (pa_cons pe_int (pa_cons pe_int (pa_cons (pv 1) pa_nil))))) (pe_call G_l_draw (hr.mono (by decide)) (by rfl) T.g_l_draw T.F_l_draw.kp T.b_l_draw .nil pass0 (pa_cons (pv 0) (pa_cons pe_int pa_nil))) (fun _ _ => rfl)))
      (pss_one (ps_ret (pe_op op_sub (pe_call G_l_draw (hr.mono (by decide)) (by rfl) T.g_l_draw T.F_l_draw.kp T.b_l_draw .nil pass0 (pa_cons (pv 0) (pa_cons (pe_op op_add (pe_op op_mul pe_int (pv 2)) pe_int) pa_nil))) (pv 2))))), ?_⟩
    refine ⟨_, rfl, small_le (by simp), fun l nl => ?_⟩
    have s1 := same_upd (o := .lst [.int 1, .int 4, .int 30, .int m]) nl
    have npl : p ≠ l := hp.ne nl
    refine ⟨_, rfl, p, 4, n, rfl, hp.same s1, by omega, by decide, by decide, fun H1 r c1 p1 r0 r1 => ?_⟩
    obtain ⟨f, hf, f0, f1⟩ := far_of r0 r1 h0
    refine ⟨l, _, r, _, rfl, rfl, SqL.of (c1 _ _ (nmem1 npl.symm) upd_same), at_of (j := r.toNat) (by omega) hf, ?_⟩
    refine ⟨_, rfl, _, rfl, _, _, rfl, rfl, .inl ⟨by decide, by decide⟩, _, _, rfl, rfl, p, 2 * f + 1, n + 3, rfl, p1, by omega, by omega, by omega, fun H2 x c2 p2 x0 x1 => ?_⟩
    refine ⟨_, rfl, _, _, rfl, rfl, q _ _ ((Chg.of_same s1).trans (c1.trans c2)) p2 (by omega) (by omega)⟩
def spEnd (K : PySem.W.Frag) : Sp := fun vs H Q _ => ∃ (p e : Addr) (m : Int) (n : Nat) (ns : List Int), vs = [.ref p, .ref e, .int m] ∧ Pu H p n ∧ n + 9 ≤ 1000000000 ∧ SqL K H e (ns.map V.int) ∧ e ≠ p ∧ ns.length ≤ 1000000 ∧ 30 ≤ m ∧ m < 2 ^ 60 ∧
  ∀ H' r, Chg [p] H H' → Pu H' p (n + 9) → -m ≤ r → r ≤ m → Q (.int r) H'
theorem ok_end (T : Tx K mg) : FnOk P w K mg base CX0 (4) T.f_l_end T.fd_l_end ["_law_purse_here", "_law_ends", "_law_most"] (spEnd K) := by
  have G_l_draw : FnOk P w K mg base CX0 _ _ _ _ _ := ok_draw T
  have G_l_number : FnOk P w K mg base CX0 _ _ _ _ _ := ok_number T
  refine T.F_l_end.ok sc_l_end (fun vs H Q E h => ?_) (fun cdv A outer s H vs Q E hr h => ?_)
  · obtain ⟨p, e, m, n, ns, rfl, _⟩ := h
    rfl
  · obtain ⟨p, e, m, n, ns, rfl, hp, hn, hE, hne, hlen, h0, h1, q⟩ := h
    refine ⟨_, (pss_cons (ps_if (PW.pt (pw_and (pt_cmpR (op_neD hr.units) (pv 1) (pe_lst pa_nil) (nomark _)) (pw_and1 (pt_cmpR op_gt (pe_call G_l_draw (hr.mono (by decide)) (by rfl) T.g_l_draw T.F_l_draw.kp T.b_l_draw .nil pass0 (pa_cons (pv 0) (pa_cons pe_int pa_nil))) pe_int (nomark _))))) (pss_cons (ps_set (i := 3) sc_l_end.nd rfl (Or.inl rfl) (pe_op op_sub (pe_op op_add (pe_ix ix_list (pv 1) (pe_call G_l_draw (hr.mono (by decide)) (by rfl) T.g_l_draw T.F_l_draw.kp T.b_l_draw .nil pass0 (pa_cons (pv 0) (pa_cons (pe_callB call_len_seq (by rfl) T.m_len PySem.boot_len (pa_cons (pv 1) pa_nil)) pa_nil))) (fun _ _ => rfl)) (pe_call G_l_draw (hr.mono (by decide)) (by rfl) T.g_l_draw T.F_l_draw.kp T.b_l_draw .nil pass0 (pa_cons (pv 0) (pa_cons pe_int pa_nil)))) pe_int))
      (pss_one (ps_ret (pe_callB (call_max2 rfl) (by rfl) T.m_max (by decide +kernel) (pa_cons (pe_op op_sub pe_int (pv 2)) (pa_cons (pe_callB (call_min2 rfl) (by rfl) T.m_min (by decide +kernel) (pa_cons (pv 2) (pa_cons (pv 3) pa_nil))) pa_nil)))))) pss_nil)
      (pss_one (ps_ret (pe_call G_l_number (hr.mono (by decide)) (by rfl) T.g_l_number T.F_l_number.kp T.b_l_number .nil pass0 (pa_cons (pv 0) (pa_cons (pv 2) pa_nil)))))), ?_⟩
    refine ⟨_, rfl, Nat.zero_le _, fun l nl => ?_⟩
    have s1 := same_upd (o := .lst []) nl
    refine ⟨_, _, .lst (s1.seq hE) (dpAll_ints ns), .lst (SqL.of upd_same) .nil, shaped_ints ns, shaped_nil, _, rfl, ?_⟩
    rw [eqv_ints_nil]
    by_cases hnil : ns = []
    · rw [decide_eq_true hnil]
      refine iteF (iteF ?_)
      exact ⟨_, rfl, _, rfl, p, m, n, rfl, hp.same s1, by omega, h0, h1, fun H2 x c2 p2 x0 x1 => q _ _ ((Chg.of_same s1).trans c2) (p2.mono (by omega)) x0 x1⟩
    · rw [decide_eq_false hnil]
      have hl0 : 0 < ns.length := List.length_pos_iff.mpr hnil
      refine iteT ?_
      refine ⟨_, rfl, p, 3, n, rfl, hp.same s1, by omega, by decide, by decide, fun H1 r c1 p1 r0 r1 => ?_⟩
      have hE1 : SqL K H1 e (ns.map V.int) := c1.seq (nmem1 hne) (s1.seq hE)
      refine ⟨_, _, rfl, rfl, _, rfl, ite2 (fun _ => ?_) (fun _ => ?_)⟩
      · refine ⟨_, rfl, _, rfl, _, rfl, e, _, rfl, .inl hE1, p, ns.length, n + 3, ?_, p1, by omega, by omega, by omega, fun H2 x c2 p2 x0 x1 => ?_⟩
        · rw [List.length_map]
          rfl
        have hx : x.toNat < ns.length := by omega
        refine ⟨e, _, x, .int ns[x.toNat], rfl, rfl, c2.seq (nmem1 hne) hE1, at_of (j := x.toNat) (by omega) ?_, ?_⟩
        · rw [List.getElem?_map, List.getElem?_eq_getElem hx]
          rfl
        refine ⟨_, rfl, p, 3, n + 6, rfl, p2, by omega, by decide, by decide, fun H3 y c3 p3 y0 y1 => ?_⟩
        refine ⟨_, _, rfl, rfl, _, _, rfl, rfl, ?_⟩
        refine ⟨_, rfl, _, _, rfl, rfl, _, rfl, _, rfl, _, _, rfl, _, _, rfl, ?_⟩
        refine q _ _ ((Chg.of_same s1).trans (c1.trans (c2.trans c3))) p3 ?_ ?_
        · split <;> split <;> omega
        · split <;> split <;> omega
      · exact ⟨_, rfl, _, rfl, p, m, n + 3, rfl, p1, by omega, h0, h1, fun H2 x c2 p2 x0 x1 => q _ _ ((Chg.of_same s1).trans (c1.trans c2)) p2 x0 x1⟩
theorem min3_of (a b c : Int) : ∃ z, nuMin3 (.int a) (.int b) (.int c) = some (.int z) ∧ z ≤ a ∧ z ≤ b ∧ z ≤ c ∧ (z = a ∨ z = b ∨ z = c) := by
  have e2 : ∀ x y : Int, nuMin2 (.int x) (.int y) = some (.int (if y < x then y else x)) := fun x y => by
    show (some (decide (y < x))).map (fun c => if c = true then V.int y else V.int x) = _
    by_cases h : y < x <;> simp [h]
  refine ⟨if c < (if b < a then b else a) then c else (if b < a then b else a), ?_, ?_⟩
  · unfold nuMin3
    rw [e2]
    show nuMin2 _ _ = _
    rw [e2]
  · split <;> split <;> omega
theorem max3_of (a b c : Int) : ∃ z, nuMax3 (.int a) (.int b) (.int c) = some (.int z) ∧ a ≤ z ∧ b ≤ z ∧ c ≤ z ∧ (z = a ∨ z = b ∨ z = c) := by
  have e2 : ∀ x y : Int, nuMax2 (.int x) (.int y) = some (.int (if x < y then y else x)) := fun x y => by
    show (some (decide (x < y))).map (fun c => if c = true then V.int y else V.int x) = _
    by_cases h : x < y <;> simp [h]
  refine ⟨if (if a < b then b else a) < c then c else (if a < b then b else a), ?_, ?_⟩
  · unfold nuMax3
    rw [e2]
    show nuMax2 _ _ = _
    rw [e2]
  · split <;> split <;> omega
def spSpan : Sp := fun vs H Q _ => ∃ (p e : Addr) (m : Int) (n : Nat) (ns : List Int), vs = [.ref p, .ref e, .int m] ∧ Pu H p n ∧ n + 18 ≤ 1000000000 ∧ H e = some (.lst (ns.map V.int)) ∧ e ≠ p ∧ ns.length ≤ 100000 ∧ 30 ≤ m ∧ m < 2 ^ 60 ∧
  ∀ H' t lo hi, Chg [p, e] H H' → Pu H' p (n + 18) → H' e = some (.lst ((ns ++ [lo, hi]).map V.int)) → H t = none → H' t = some (.tup [.int lo, .int hi]) → -m ≤ lo → lo < hi → hi ≤ m → Q (.ref t) H'
theorem ok_span (T : Tx K mg) : FnOk P w K mg base CX0 (5) T.f_l_span T.fd_l_span ["_law_purse_here", "_law_ends", "_law_most"] spSpan := by
  have G_l_end : FnOk P w K mg base CX0 _ _ _ _ _ := ok_end T
  refine T.F_l_span.ok sc_l_span (fun vs H Q E h => ?_) (fun cdv A outer s H vs Q E hr h => ?_)
  · obtain ⟨p, e, m, n, ns, rfl, _⟩ := h
    rfl
  · obtain ⟨p, e, m, n, ns, rfl, hp, hn, hE, hne, hlen, h0, h1, q⟩ := h
    refine ⟨_, (pss_cons (ps_set (i := 3) sc_l_span.nd rfl (Or.inl rfl) (pe_call G_l_end (hr.mono (by decide)) (by rfl) T.g_l_end T.F_l_end.kp T.b_l_end .nil pass0 (pa_cons (pv 0) (pa_cons (pv 1) (pa_cons (pv 2) pa_nil)))))
      (pss_cons (ps_set (i := 4) sc_l_span.nd rfl (Or.inl rfl) (pe_call G_l_end (hr.mono (by decide)) (by rfl) T.g_l_end T.F_l_end.kp T.b_l_end .nil pass0 (pa_cons (pv 0) (pa_cons (pe_op op_cat (pv 1) (pe_lst (pa_cons (pv 3) pa_nil))) (pa_cons (pv 2) pa_nil)))))
      (pss_cons (ps_set (i := 5) sc_l_span.nd rfl (Or.inl rfl) (pe_callB (call_min3Nu rfl) (by rfl) T.m_min (by decide +kernel) (pa_cons (pv 3) (pa_cons (pv 4) (pa_cons (pe_op op_sub (pv 2) pe_int) pa_nil)))))
      (pss_cons (ps_set (i := 6) sc_l_span.nd rfl (Or.inl rfl) (pe_callB (call_max3Nu rfl) (by rfl) T.m_max (by decide +kernel) (pa_cons (pv 3) (pa_cons (pv 4) (pa_cons (pe_op op_add (pv 5) pe_int) pa_nil)))))
      (pss_cons (ps_expr (pe_bm PySem.F.plainAttrs_list PySem.F.slot_list_append PySem.F.type_list_append mt_append (pv 1) (pa_cons (pv 5) pa_nil)))
      (pss_cons (ps_expr (pe_bm PySem.F.plainAttrs_list PySem.F.slot_list_append PySem.F.type_list_append mt_append (pv 1) (pa_cons (pv 6) pa_nil)))
      (pss_one (ps_ret (pe_tup (pa_cons (pv 5) (pa_cons (pv 6) pa_nil))))))))))), ?_⟩
    have up : ∀ {H H' : Hp}, Chg [p] H H' → Chg [p, e] H H' := fun c => c.mono fun x hx => by
      rw [List.mem_singleton.mp hx]
      exact List.mem_cons_self
    refine ⟨_, rfl, _, rfl, _, rfl, p, e, m, n, ns, rfl, hp, by omega, SqL.of hE, hne, by omega, h0, h1, fun H1 x c1 p1 x0 x1 => ?_⟩
    have hE1 : H1 e = some (.lst (ns.map V.int)) := c1 _ _ (nmem1 hne) hE
    refine ⟨_, rfl, _, rfl, _, rfl, small_le (by simp), fun l1 nl1 => ?_⟩
    have s1 := same_upd (o := .lst [.int x]) nl1
    refine ⟨e, l1, _, _, rfl, rfl, s1 _ _ hE1, upd_same, ?_, fun l2 nl2 => ?_⟩
    · rw [List.length_map]
      exact small_le (by simp; omega)
    have s2 := same_upd (o := .lst (ns.map V.int ++ [.int x])) nl2
    have p3 := (p1.same s1).same s2
    refine ⟨_, rfl, p, l2, m, n + 9, ns ++ [x], rfl, p3, by omega, SqL.of ?_, ?_, ?_, h0, h1, fun H2 y c2 p2 y0 y1 => ?_⟩
    · rw [List.map_append]
      exact upd_same
    · exact ((p1.same s1).ne nl2).symm
    · simp
      omega
    have hE2 : H2 e = some (.lst (ns.map V.int)) := c2 _ _ (nmem1 hne) (s2 _ _ (s1 _ _ hE1))
    have cc : Chg [p] H H2 := c1.trans ((Chg.of_same s1).trans ((Chg.of_same s2).trans c2))
    obtain ⟨lo, elo, l_1, l_2, l_3, l_4⟩ := min3_of x y (m - 1)
    refine ⟨_, rfl, _, rfl, _, rfl, _, _, rfl, rfl, _, _, _, _, rfl, elo, ?_⟩
    obtain ⟨hi, ehi, i_1, i_2, i_3, i_4⟩ := max3_of x y (lo + 1)
    refine ⟨_, rfl, _, rfl, _, rfl, _, _, rfl, rfl, _, _, _, _, rfl, ehi, ?_⟩
    refine ⟨_, rfl, .inl ⟨rfl, _, SqL.of hE2⟩, _, rfl, e, _, _, rfl, rfl, hE2, ?_, ?_⟩
    · rw [List.length_map]
      exact small_lt (by omega)
    have hE3 : (upd H2 e (.lst (ns.map V.int ++ [.int lo]))) e = some (.lst (ns.map V.int ++ [.int lo])) := upd_same
    refine ⟨_, rfl, .inl ⟨rfl, _, SqL.of hE3⟩, _, rfl, e, _, _, rfl, rfl, hE3, ?_, ?_⟩
    · rw [List.length_append, List.length_map]
      exact small_lt (by simp; omega)
    rw [upd_upd]
    refine ⟨_, rfl, _, rfl, (by show 2 ≤ sizeLine; decide), fun t nt => ?_⟩
    have hE4 : (upd H2 e (.lst (ns.map V.int ++ [.int lo] ++ [.int hi]))) e = some (.lst (ns.map V.int ++ [.int lo] ++ [.int hi])) := upd_same
    have c5 : Chg [p, e] H (upd (upd H2 e (.lst (ns.map V.int ++ [.int lo] ++ [.int hi]))) t (.tup [.int lo, .int hi])) := (up cc).trans ((Chg.upd (List.mem_cons_of_mem _ List.mem_cons_self)).trans (Chg.of_same (same_upd nt)))
    have te : t ≠ e := (ne_of_none hE4 nt).symm
    have p5 : Pu (upd H2 e (.lst (ns.map V.int ++ [.int lo] ++ [.int hi]))) p (n + 18) := p2.chg (L := [e]) (Chg.upd List.mem_cons_self) (nmem1 hne.symm)
    have tp : t ≠ p := (p5.ne nt).symm
    refine q _ t lo hi c5 (p5.same (same_upd nt)) ?_ ?_ upd_same (by omega) (by omega) (by omega)
    · rw [upd_ne te.symm, upd_same, List.map_append, List.append_assoc]
      rfl
    · rw [upd_ne te] at nt
      exact cc.free (nmem1 tp) nt
end
section
variable {P : Program} {w : World} {K : PySem.W.Frag} {mg : Str → Option Value} {base : Heap}
/-! ### one number, one span drawn, over values -/
def cDraw : VSpec := fun ds Q _ => ∃ (p : Val) (m : Int) (n : Nat), ds = [p, .int m] ∧ PuW p n ∧ n ≤ 1000000000 ∧ 0 < m ∧ m < 2 ^ 88 ∧ ∀ (p' : Val) (r : Int), PuW p' (n + 3) → 0 ≤ r → r < m → Q [p'] (.int r)
theorem M_l_draw : Mono cDraw := fun ds Q Q' E E' h _ ⟨p, m, n, e, a, b, c, d, q⟩ => ⟨p, m, n, e, a, b, c, d, fun p' r h1 h2 h3 => h _ _ (q p' r h1 h2 h3)⟩
theorem v_draw (T : Tx K mg) (Ps : TL) : FnOk P w K mg base CX0 (2) T.f_l_draw T.fd_l_draw ["_law_purse_here", "_law_out_of"] (vsp K Ps [0] 2 cDraw) := (ok_draw T).imp fun vs H Q E ⟨ds, Fs, s, p, m, n, e, pw, h0, h1, h2, q⟩ => by
  subst e
  obtain ⟨v, v', rfl, r1, r2⟩ := arg2 s
  have ev : v' = .int m := r2.int_eq
  obtain ⟨l, e1, pu, hF⟩ := pw.pu r1
  have mp : Mutb H l := s.mutb 0 l (by rw [hF]; simp)
  refine ⟨l, m, n, by rw [e1, ev], pu, h0, h1, h2, fun H' r ch pu' r0 rm => ?_⟩
  obtain ⟨d', pw', rp⟩ := PuW.of (K := K) pu'
  exact q d' r pw' r0 rm H' _ [] Fs (out_own1 e1 hF ch s.tb (by obtain ⟨_, h⟩ := pu'.at; rw [h]; exact fun z => by cases z) mp rp) (.int _) (by simp) fun a ha => by cases ha
def cSpan : VSpec := fun ds Q _ => ∃ (p : Val) (m : Int) (n : Nat) (ns : List Int), ds = [p, .lst (ns.map Val.int), .int m] ∧ PuW p n ∧ n + 18 ≤ 1000000000 ∧ ns.length ≤ 100000 ∧ 30 ≤ m ∧ m < 2 ^ 60 ∧
  ∀ (p' : Val) (lo hi : Int), PuW p' (n + 18) → -m ≤ lo → lo < hi → hi ≤ m → Q [p', .lst ((ns ++ [lo, hi]).map Val.int)] (spV (lo, hi))
theorem M_l_span : Mono cSpan := fun ds Q Q' E E' h _ ⟨p, m, n, ns, e, a, b, c, d, f, q⟩ => ⟨p, m, n, ns, e, a, b, c, d, f, fun p' lo hi h1 h2 h3 h4 => h _ _ (q p' lo hi h1 h2 h3 h4)⟩
theorem v_span (T : Tx K mg) (Ps : TL) : FnOk P w K mg base CX0 (5) T.f_l_span T.fd_l_span ["_law_purse_here", "_law_ends", "_law_most"] (vsp K Ps [0, 1] 3 cSpan) := (ok_span T).imp fun vs H Q E ⟨ds, Fs, s, p, m, n, ns, e, pw, h0, h1, h2, h3, q⟩ => by
  subst e
  obtain ⟨v, v', v'', rfl, r1, r2, r3⟩ := arg3 s
  have ev : v'' = .int m := r3.int_eq
  obtain ⟨l, e1, pu, hF⟩ := pw.pu r1
  obtain ⟨l2, e2, hl2, hG⟩ := r2.ints
  have hne : l ≠ l2 := fun z => s.sep 0 (by simp) 1 (by decide) l (by rw [hF]; simp) (by rw [hG, z]; simp)
  have mp : Mutb H l := s.mutb 0 l (by rw [hF]; simp)
  have mq : Mutb H l2 := s.mutb 1 l2 (by rw [hG]; simp)
  refine ⟨l, l2, m, n, ns, by rw [e1, e2, ev], pu, h0, hl2, hne.symm, h1, h2, h3, fun H' t lo hi ch pu' he' nt ht a1 a2 a3 => ?_⟩
  obtain ⟨d', pw', rp⟩ := PuW.of (K := K) pu'
  exact q d' lo hi pw' a1 a2 a3 H' _ [] Fs (out_own2 e1 e2 hF hG hne ch s.tb mp mq rp (rp_ints he')) (.tup ht (RpA.cons (F := []) (.int _) (RpA.one (.int _)))) (by simp) fun a ha => by cases ha
end
section
variable {P : Program} {w : World} {K : PySem.W.Frag} {mg : Str → Option Value} {base : Heap}
def cNumber : VSpec := fun ds Q _ => ∃ (p : Val) (m : Int) (n : Nat), ds = [p, .int m] ∧ PuW p n ∧ n + 6 ≤ 1000000000 ∧ 30 ≤ m ∧ m < 2 ^ 60 ∧ ∀ (p' : Val) (r : Int), PuW p' (n + 6) → -m ≤ r → r ≤ m → Q [p'] (.int r)
theorem M_l_number : Mono cNumber := fun ds Q Q' E E' h _ ⟨p, m, n, e, a, b, c, d, q⟩ => ⟨p, m, n, e, a, b, c, d, fun p' r h1 h2 h3 => h _ _ (q p' r h1 h2 h3)⟩
theorem v_number (T : Tx K mg) (Ps : TL) : FnOk P w K mg base CX0 (3) T.f_l_number T.fd_l_number ["_law_purse_here", "_law_most"] (vsp K Ps [0] 2 cNumber) := (ok_number T).imp fun vs H Q E ⟨ds, Fs, s, p, m, n, e, pw, h0, h1, h2, q⟩ => by
  subst e
  obtain ⟨v, v', rfl, r1, r2⟩ := arg2 s
  have ev : v' = .int m := r2.int_eq
  obtain ⟨l, e1, pu, hF⟩ := pw.pu r1
  have mp : Mutb H l := s.mutb 0 l (by rw [hF]; simp)
  refine ⟨l, m, n, by rw [e1, ev], pu, h0, h1, h2, fun H' r ch pu' r0 rm => ?_⟩
  obtain ⟨d', pw', rp⟩ := PuW.of (K := K) pu'
  exact q d' r pw' r0 rm H' _ [] Fs (out_own1 e1 hF ch s.tb (by obtain ⟨_, h⟩ := pu'.at; rw [h]; exact fun z => by cases z) mp rp) (.int _) (by simp) fun a ha => by cases ha
end
section
variable {P : Program} {w : World} {K : PySem.W.Frag} {mg : Str → Option Value} {base : Heap}
/-! ### spans drawn, many within another one -/
def cNested : VSpec := fun ds Q _ => ∃ (p : Val) (n m : Nat), ds = [p, .int (m : Int)] ∧ PuW p n ∧ n + 10000 ≤ 1000000000 ∧ m ≤ 100 ∧ ∀ (p' : Val) (ss : List Span), PuW p' (n + 6 + 21 * m) → (∀ s ∈ ss, isSpan s = true) → ss.length = m → Q [p'] (.lst (ss.map spV))
theorem M_l_nested : Mono cNested := fun ds Q Q' E E' h _ ⟨p, n, m, a, b, c, d, q⟩ => ⟨p, n, m, a, b, c, d, fun p' ss h1 h2 h3 => h _ _ (q p' ss h1 h2 h3)⟩
theorem j1S (a : List Span) (d : Span) : a.map spV ++ [spV d] = (a ++ [d]).map spV := by
  rw [List.map_append]
  rfl
theorem v_nested (T : Tx K mg) : FnOk P w K mg base CX0 (6) T.f_l_nested T.fd_l_nested ["_law_purse_here", "_law_many_here"] (vsp K T.tabs [0] 2 cNested) := by
  have G_l_draw : FnOk P w K mg base CX0 _ _ _ _ _ := v_draw T T.tabs
  have G_l_number : FnOk P w K mg base CX0 _ _ _ _ _ := v_number T T.tabs
  have G_l_span : FnOk P w K mg base CX0 _ _ _ _ _ := v_span T T.tabs
  refine T.F_l_nested.ok sc_l_nested (fun vs H Q E h => vsp_len h) (fun cdv A outer s H vs Q E hr h => ⟨_, (pss_cons (ps_set (i := 2) sc_l_nested.nd rfl (Or.inl rfl) (pe_lst pa_nil))
      (pss_cons (ps_set (i := 3) sc_l_nested.nd rfl (Or.inl rfl) (pe_lst (pa_cons (pe_call G_l_number (hr.mono (by decide)) (by rfl) T.g_l_number T.F_l_number.kp T.b_l_number .nil pass0 (pa_cons (pv 0) (pa_cons (pe_op op_sub (pe_op op_pow pe_int pe_int) pe_int) pa_nil))) pa_nil)))
      (pss_cons (ps_for PassesOwn.never (by rfl) (pi_range1 (by rfl) T.m_range (pa_cons (pv 1) pa_nil)) (pg_name (i := 4) sc_l_nested.nd rfl (Or.inl rfl))
        (pss_cons (ps_set (i := 5) sc_l_nested.nd rfl (Or.inl rfl) (pe_call G_l_draw (hr.mono (by decide)) (by rfl) T.g_l_draw T.F_l_draw.kp T.b_l_draw .nil pass0 (pa_cons (pv 0) (pa_cons pe_int pa_nil))))
      (pss_one (ps_if (PW.pt (pw_or (pt_cmpR (op_eqD hr.units) (pv 2) (pe_lst pa_nil) (nomark _)) (pw_or1 (pt_cmpR op_eq (pv 5) pe_int (nomark _))))) (pss_one (ps_expr (pe_bm PySem.F.plainAttrs_list PySem.F.slot_list_append PySem.F.type_list_append mt_append (pv 2) (pa_cons (pe_call G_l_span (hr.mono (by decide)) (by rfl) T.g_l_span T.F_l_span.kp T.b_l_span .nil pass0 (pa_cons (pv 0) (pa_cons (pv 3) (pa_cons (pe_op op_sub (pe_op op_pow pe_int pe_int) pe_int) pa_nil)))) pa_nil)))) (pss_cons (ps_asg (pe_ix ix_list (pv 2) (pe_call G_l_draw (hr.mono (by decide)) (by rfl) T.g_l_draw T.F_l_draw.kp T.b_l_draw .nil pass0 (pa_cons (pv 0) (pa_cons (pe_callB call_len_seq (by rfl) T.m_len PySem.boot_len (pa_cons (pv 2) pa_nil)) pa_nil))) (fun _ _ => rfl)) (pg_tup rfl (pgs_cons (pg_name (i := 6) sc_l_nested.nd rfl (Or.inl rfl)) (pgs_cons (pg_name (i := 7) sc_l_nested.nd rfl (Or.inl rfl)) pgs_nil))))
      (pss_cons (ps_set (i := 8) sc_l_nested.nd rfl (Or.inl rfl) (pe_call G_l_draw (hr.mono (by decide)) (by rfl) T.g_l_draw T.F_l_draw.kp T.b_l_draw .nil pass0 (pa_cons (pv 0) (pa_cons (pe_op op_sub (pv 7) (pv 6)) pa_nil))))
      (pss_cons (ps_set (i := 9) sc_l_nested.nd rfl (Or.inl rfl) (pe_callB (call_max2 rfl) (by rfl) T.m_max (by decide +kernel) (pa_cons (pe_op op_sub pe_int (pe_op op_pow pe_int pe_int)) (pa_cons (pe_op op_sub (pv 6) (pe_op op_mod (pv 8) pe_int)) pa_nil))))
      (pss_cons (ps_set (i := 10) sc_l_nested.nd rfl (Or.inl rfl) (pe_lst (pa_cons (pe_tup (pa_cons (pv 6) (pa_cons (pv 7) pa_nil))) (pa_cons (pe_tup (pa_cons (pv 9) (pa_cons (pv 7) pa_nil))) (pa_cons (pe_tup (pa_cons (pe_op op_add (pv 6) (pv 8)) (pa_cons (pv 7) pa_nil))) (pa_cons (pe_tup (pa_cons (pv 6) (pa_cons (pe_op op_sub (pv 7) (pv 8)) pa_nil))) pa_nil))))))
      (pss_cons (ps_expr (pe_bm PySem.F.plainAttrs_list PySem.F.slot_list_append PySem.F.type_list_append mt_append (pv 10) (pa_cons (pe_tup (pa_cons (pe_op op_add (pv 6) (pe_op op_fdiv (pv 8) pe_int)) (pa_cons (pe_op op_sub (pv 7) (pe_op op_fdiv (pv 8) pe_int)) pa_nil))) pa_nil)))
      (pss_one (ps_expr (pe_bm PySem.F.plainAttrs_list PySem.F.slot_list_append PySem.F.type_list_append mt_append (pv 2) (pa_cons (pe_ix ix_list (pv 10) (pe_op op_sub (pv 5) pe_int) (fun _ _ => rfl)) pa_nil)))))))))))))
      (pss_one (ps_ret (pv 2)))))), (vfn (N := 11) (lo := [2, 3, 10]) (Ef := [0, 2, 3, 10]) U1 h rfl (by decide) rfl rfl hU1 (simS_seq (simS_setO (i := 2) (simE_lst simA_nil (by decide)) (show 2 < 11 by decide) rfl rfl rfl rfl rfl)
      (simS_seq (simS_setO (i := 3) (simE_lst (simA_consF (simE_call1 (i := 0) M_l_number (simA_own (i := 0) rfl (simA_consF (simE_op r2_ii (simE_op r2_iic simE_int simE_int rfl) simE_int rfl) simA_nil rfl rfl rfl rfl rfl)) rfl rfl (show 0 < 11 by decide)) simA_nil rfl rfl rfl rfl rfl) (by decide)) (show 3 < 11 by decide) rfl rfl rfl rfl rfl)
      (simS_seq (simS_for (E' := [0, 2, 3, 10]) (simI_rng1 (simA_varF (i := 1) simA_nil)) (simG_name (i := 4) (show 4 < 11 by decide) rfl rfl) (simS_seq (simS_asg (simE_call1 (i := 0) M_l_draw (simA_own (i := 0) rfl (simA_consF simE_int simA_nil rfl rfl rfl rfl rfl)) rfl rfl (show 0 < 11 by decide)) (simG_name (i := 5) (show 5 < 11 by decide) rfl rfl) rfl rfl)
      (simS_if (simT_or (simT_test (simE_op r2_eqD (simE_own (i := 2)) (simE_lst simA_nil (by decide)) rfl)) (simT_test (simE_op r2_eq (simE_var (i := 5) rfl) simE_int rfl)) rfl) (simS_expr (simE_app (i := 2) (simE_call2 (i := 0) (j := 3) M_l_span (simA_own (i := 0) rfl (simA_own (i := 3) rfl (simA_consF (simE_op r2_ii (simE_op r2_iic simE_int simE_int rfl) simE_int rfl) simA_nil rfl rfl rfl rfl rfl))) rfl rfl rfl (by decide) (show 0 < 11 by decide) (show 3 < 11 by decide)) rfl) rfl rfl) (simS_seq (simS_asg (simE_flat (simE_ixL (simE_own (i := 2)) (simE_call1 (i := 0) M_l_draw (simA_own (i := 0) rfl (simA_consF (simE_cb cb_len (simA_cons (simE_own (i := 2)) simA_nil rfl)) simA_nil rfl rfl rfl rfl rfl)) rfl rfl (show 0 < 11 by decide)) rfl)) (simG_tup (simGs_cons (simG_name (i := 6) (show 6 < 11 by decide) rfl rfl) (simGs_cons (simG_name (i := 7) (show 7 < 11 by decide) rfl rfl) simGs_nil))) rfl rfl)
      (simS_seq (simS_asg (simE_call1 (i := 0) M_l_draw (simA_own (i := 0) rfl (simA_consF (simE_op r2_ii (simE_var (i := 7) rfl) (simE_var (i := 6) rfl) rfl) simA_nil rfl rfl rfl rfl rfl)) rfl rfl (show 0 < 11 by decide)) (simG_name (i := 8) (show 8 < 11 by decide) rfl rfl) rfl rfl)
      (simS_seq (simS_asg (simE_cb cb_max2 (simA_consF (simE_op r2_ii simE_int (simE_op r2_iic simE_int simE_int rfl) rfl) (simA_consF (simE_op r2_ii (simE_var (i := 6) rfl) (simE_op r2_iic (simE_var (i := 8) rfl) simE_int rfl) rfl) simA_nil rfl rfl rfl rfl rfl) rfl rfl rfl rfl rfl)) (simG_name (i := 9) (show 9 < 11 by decide) rfl rfl) rfl rfl)
      (simS_seq (simS_setO (i := 10) (simE_lst (simA_consF (simE_tup (simA_varF (i := 6) (simA_varF (i := 7) simA_nil)) (by decide)) (simA_consF (simE_tup (simA_varF (i := 9) (simA_varF (i := 7) simA_nil)) (by decide)) (simA_consF (simE_tup (simA_consF (simE_op r2_ii (simE_var (i := 6) rfl) (simE_var (i := 8) rfl) rfl) (simA_varF (i := 7) simA_nil) rfl rfl rfl rfl rfl) (by decide)) (simA_consF (simE_tup (simA_varF (i := 6) (simA_consF (simE_op r2_ii (simE_var (i := 7) rfl) (simE_var (i := 8) rfl) rfl) simA_nil rfl rfl rfl rfl rfl)) (by decide)) simA_nil rfl rfl rfl rfl rfl) rfl rfl rfl rfl rfl) rfl rfl rfl rfl rfl) rfl rfl rfl rfl rfl) (by decide)) (show 10 < 11 by decide) rfl rfl rfl rfl rfl)
      (simS_seq (simS_expr (simE_app (i := 10) (simE_tup (simA_consF (simE_op r2_ii (simE_var (i := 6) rfl) (simE_op r2_iic (simE_var (i := 8) rfl) simE_int rfl) rfl) (simA_consF (simE_op r2_ii (simE_var (i := 7) rfl) (simE_op r2_iic (simE_var (i := 8) rfl) simE_int rfl) rfl) simA_nil rfl rfl rfl rfl rfl) rfl rfl rfl rfl rfl) (by decide)) rfl) rfl rfl)
      (simS_expr (simE_app (i := 2) (simE_ixL (simE_own (i := 10)) (simE_op r2_ii (simE_var (i := 5) rfl) simE_int rfl) rfl) rfl) rfl rfl)))))) rfl rfl)) rfl rfl rfl rfl)
      (simS_ret (simE_move (i := 2) rfl) rfl rfl rfl rfl)))) ?_)⟩)
  rintro ds Q X ⟨p, n, m, rfl, pw, hn, hm, q⟩
  have c12 : L2.CPow 10 12 := ⟨by decide, by decide, by decide⟩
  have e12 : (10 : Int) ^ Int.toNat 12 = 1000000000000 := by decide
  have p60 : (2 : Int) ^ 60 = 1152921504606846976 := by decide
  have p88 : (2 : Int) ^ 88 = 309485009821345068724781056 := by decide
  refine ⟨c12, p, 10 ^ Int.toNat 12 - 99, n, rfl, pw, by omega, by rw [e12]; decide, by rw [e12, p60]; decide, fun p1 z0 pw1 _ _ => ?_⟩
  refine ⟨rfl, ⟨by omega, by omega⟩, ?_⟩
  rw [Int.toNat_natCast]
  refine ⟨fun i env => ∃ (p' : Val) (ss : List Span) (zs : List Int) (y4 y5 y6 y7 y8 y9 y10 : Option Val), env = [some p', some (.int (m : Int)), some (.lst (ss.map spV)), some (.lst (zs.map Val.int)), y4, y5, y6, y7, y8, y9, y10] ∧ PuW p' (n + 6 + 21 * i) ∧ (∀ s ∈ ss, isSpan s = true) ∧ ss.length = i ∧ zs.length ≤ 1 + 2 * i, ⟨p1, [], [z0], none, none, none, none, none, none, none, rfl, pw1, (fun _ h => nomatch h), rfl, Nat.le_refl _⟩, ?_, ?_⟩
  · rintro i y env hi ⟨p', ss, zs, y4, y5, y6, y7, y8, y9, y10, rfl, pw', ok, sl, zl⟩
    obtain ⟨hi2, rfl⟩ := rngV_at hi
    clear hi
    rw [Int.zero_add]
    have len : (ss.map spV).length = ss.length := List.length_map ..
    refine ⟨p', 6, n + 6 + 21 * i, rfl, pw', by omega, by decide, by decide, fun p2 way pw2 w0 w6 => ?_⟩
    refine ⟨okD_spans ss, okD_nil, ?_⟩
    rw [eqv_nilD]
    have more : ∀ {lo hi : Int}, -999999999999 ≤ lo → lo < hi → hi ≤ 999999999999 → ∀ s ∈ ss ++ [(lo, hi)], isSpan s = true := fun {lo hi} h1 h2 h3 s hs => by
      rcases List.mem_append.mp hs with z | z
      · exact ok s z
      · rw [List.mem_singleton.mp z]
        exact (isSpan_iff _).mpr ⟨h1, h2, h3⟩
    have e1 : (10 : Int) ^ Int.toNat 12 - 1 = 999999999999 := by decide
    by_cases e : ss = [] ∨ way = 0
    · by_cases es : ss = []
      · have ie : ss.isEmpty = true := by rw [es]; rfl
        refine ifT (by rw [ie]; rfl) ?_
        refine ⟨c12, p2, 10 ^ Int.toNat 12 - 1, n + 6 + 21 * i + 3, zs, rfl, pw2, by omega, by omega, by rw [e1]; decide, by rw [e1, p60]; decide, fun p3 lo hi pw3 h1 h2 h3 => ?_⟩
        rw [e1] at h1 h3
        refine ⟨rfl, by rw [len]; omega, p3, ss ++ [(lo, hi)], zs ++ [lo, hi], _, _, _, _, _, _, _, by rw [← j1S]; rfl, pw3, more h1 h2 h3, by rw [List.length_append, sl]; rfl, by rw [List.length_append]; show _ + 2 ≤ _; omega⟩
      · have ie : ss.isEmpty = false := List.isEmpty_eq_false_iff.mpr es
        have wz : way = 0 := e.resolve_left es
        refine ifF (by rw [ie]; rfl) ?_
        refine ifT (by rw [decide_eq_true wz]; rfl) ?_
        refine ⟨c12, p2, 10 ^ Int.toNat 12 - 1, n + 6 + 21 * i + 3, zs, rfl, pw2, by omega, by omega, by rw [e1]; decide, by rw [e1, p60]; decide, fun p3 lo hi pw3 h1 h2 h3 => ?_⟩
        rw [e1] at h1 h3
        refine ⟨rfl, by rw [len]; omega, p3, ss ++ [(lo, hi)], zs ++ [lo, hi], _, _, _, _, _, _, _, by rw [← j1S]; rfl, pw3, more h1 h2 h3, by rw [List.length_append, sl]; rfl, by rw [List.length_append]; show _ + 2 ≤ _; omega⟩
    · have ne : ss ≠ [] := fun z => e (.inl z)
      have wn : ¬ way = 0 := fun z => e (.inr z)
      have ie : ss.isEmpty = false := List.isEmpty_eq_false_iff.mpr ne
      have c1 : 0 < ss.length := List.length_pos_iff.mpr ne
      refine ifF (by rw [ie]; rfl) ?_
      refine ifF (by rw [decide_eq_false wn]; rfl) ?_
      refine ⟨p2, ((ss.map spV).length : Int), n + 6 + 21 * i + 3, rfl, pw2, by omega, by rw [len]; omega, by rw [len, p88]; omega, fun p3 at_ pw3 a0 a1 => ?_⟩
      rw [len] at a1
      obtain ⟨a, rfl⟩ : ∃ a : Nat, at_ = (a : Int) := ⟨at_.toNat, by omega⟩
      obtain ⟨⟨lo, hi⟩, hx⟩ : ∃ x, ss[a]? = some x := ⟨_, List.getElem?_eq_getElem (by omega)⟩
      have okx := (isSpan_iff _).mp (ok _ (List.mem_of_getElem? hx))
      have k1 : -999999999999 ≤ lo := okx.1
      have k2 : lo < hi := okx.2.1
      have k3 : hi ≤ 999999999999 := okx.2.2
      conv => whnf
      rw [at_sp hx]
      refine ⟨rfl, rfl, ?_⟩
      refine ⟨p3, hi - lo, n + 6 + 21 * i + 6, rfl, pw3, by omega, by omega, by rw [p88]; omega, fun p4 cut pw4 t0 t1 => ?_⟩
      refine ⟨c12, (show (0 : Int) < 9 by decide), ?_⟩
      have wd : -999999999999 ≤ (if lo - cut % 9 > 1 - 10 ^ Int.toNat 12 then lo - cut % 9 else 1 - 10 ^ Int.toNat 12) ∧ (if lo - cut % 9 > 1 - 10 ^ Int.toNat 12 then lo - cut % 9 else 1 - 10 ^ Int.toNat 12) ≤ lo := by
        rw [e12]
        split <;> omega
      refine ⟨rfl, rfl, rfl, rfl, rfl, rfl, ⟨by decide, by decide⟩, ⟨by decide, by decide⟩, rfl, (show 4 < 1000000 by decide), ?_⟩
      have hat : ∃ lo' hi' : Int, atI ([Val.tup [.int lo, .int hi], .tup [.int (if lo - cut % 9 > 1 - 10 ^ Int.toNat 12 then lo - cut % 9 else 1 - 10 ^ Int.toNat 12), .int hi], .tup [.int (lo + cut), .int hi], .tup [.int lo, .int (hi - cut)]] ++ [.tup [.int (lo + cut / 2), .int (hi - cut / 3)]]) (way - 1) = some (spV (lo', hi')) ∧ -999999999999 ≤ lo' ∧ lo' < hi' ∧ hi' ≤ 999999999999 := by
        have : way = 1 ∨ way = 2 ∨ way = 3 ∨ way = 4 ∨ way = 5 := by omega
        rcases this with e | e | e | e | e
        · exact ⟨lo, hi, by rw [e]; rfl, k1, k2, k3⟩
        · exact ⟨(if lo - cut % 9 > 1 - 10 ^ Int.toNat 12 then lo - cut % 9 else 1 - 10 ^ Int.toNat 12), hi, by rw [e]; rfl, wd.1, Int.lt_of_le_of_lt wd.2 k2, k3⟩
        · exact ⟨lo + cut, hi, by rw [e]; rfl, by omega, by omega, k3⟩
        · exact ⟨lo, hi - cut, by rw [e]; rfl, by omega, by omega, by omega⟩
        · exact ⟨lo + cut / 2, hi - cut / 3, by rw [e]; rfl, by omega, by omega, by omega⟩
      obtain ⟨lo', hi', hat, g1, g2, g3⟩ := hat
      conv => whnf
      have hat := hat
      erw [hat]
      refine ⟨rfl, by rw [len]; omega, p4, ss ++ [(lo', hi')], zs, _, _, _, _, _, _, _, by rw [← j1S]; rfl, pw4.mono (by omega), more g1 g2 g3, by rw [List.length_append, sl]; rfl, by omega⟩
  · rintro env ⟨p', ss, zs, y4, y5, y6, y7, y8, y9, y10, rfl, pw', ok, sl, zl⟩
    rw [rngV_len] at pw' sl
    exact q p' ss pw' ok sl
end
section
variable {P : Program} {w : World} {K : PySem.W.Frag} {mg : Str → Option Value} {base : Heap}
/-! ### the law's own under, its own looking -/
theorem M_l_under : Mono cUnder := M_is_under
theorem v_l_under (T : Tx K mg) : FnOk P w K mg base CX0 (1) T.f_l_under T.fd_l_under ["_law_spans", "_law_one", "_law_other"] (vsp K T.tabs [] 3 cUnder) := by
  refine T.F_l_under.ok sc_l_under (fun vs H Q E h => vsp_len h) (fun cdv A outer s H vs Q E hr h => ⟨_, (pss_cons (ps_asg (pe_ix ix_list (pv 0) (pv 1) (fun _ _ => rfl)) (pg_tup rfl (pgs_cons (pg_name (i := 3) sc_l_under.nd rfl (Or.inl rfl)) (pgs_cons (pg_name (i := 4) sc_l_under.nd rfl (Or.inl rfl)) pgs_nil))))
      (pss_cons (ps_if (pt_cmpR (op_eqD hr.units) (pe_ix ix_list (pv 0) (pv 1) (fun _ _ => rfl)) (pe_ix ix_list (pv 0) (pv 2) (fun _ _ => rfl)) (nomark _)) (pss_one (ps_ret (pe_cmpR op_lt (pv 1) (pv 2) (nomark _)))) pss_nil)
      (pss_one (ps_ret (pe_and (pe_cmpR op_le (pe_ix ix_tup (pe_ix ix_list (pv 0) (pv 2) (fun _ _ => rfl)) pe_int (fun _ _ => rfl)) (pv 3) (nomark _)) (pe_one (pe_cmpR op_le (pv 4) (pe_ix ix_tup (pe_ix ix_list (pv 0) (pv 2) (fun _ _ => rfl)) pe_int (fun _ _ => rfl)) (nomark _)))))))), (vfn (N := 5) (lo := []) (Ef := []) U0 h rfl (by decide) rfl rfl hU0 (simS_seq (simS_asg (simE_ixL (simE_var (i := 0) rfl) (simE_var (i := 1) rfl) rfl) (simG_tup (simGs_cons (simG_name (i := 3) (show 3 < 5 by decide) rfl rfl) (simGs_cons (simG_name (i := 4) (show 4 < 5 by decide) rfl rfl) simGs_nil))) rfl rfl)
      (simS_seq (simS_if (simT_test (simE_op r2_eqD (simE_ixL (simE_var (i := 0) rfl) (simE_var (i := 1) rfl) rfl) (simE_ixL (simE_var (i := 0) rfl) (simE_var (i := 2) rfl) rfl) rfl)) (simS_ret (simE_op r2_ib (simE_var (i := 1) rfl) (simE_var (i := 2) rfl) rfl) rfl rfl rfl rfl) (simS_next rfl) rfl rfl)
      (simS_ret (simE_andV (simE_op r2_ib (simE_ixT (simE_ixL (simE_var (i := 0) rfl) (simE_var (i := 2) rfl) rfl) simE_int rfl) (simE_var (i := 3) rfl) rfl) (simE_op r2_ib (simE_var (i := 4) rfl) (simE_ixT (simE_ixL (simE_var (i := 0) rfl) (simE_var (i := 2) rfl) rfl) simE_int rfl) rfl) rfl) rfl rfl rfl rfl))) ?_)⟩)
  rintro ds Q X ⟨ss, i, j, s, t, rfl, hs, ht, q⟩
  conv => whnf
  rw [at_sp hs]
  refine ⟨rfl, ?_⟩
  conv => whnf
  rw [at_sp hs]
  conv => whnf
  rw [at_sp ht]
  refine ⟨okD_span s, okD_span t, ?_⟩
  rw [eqv_spV]
  unfold unB at q
  by_cases e : s = t
  · rw [if_pos e] at q
    exact ifT (by rw [decide_eq_true e]; rfl) q
  · rw [if_neg e] at q
    refine ifF (by rw [decide_eq_false e]; rfl) ?_
    conv => whnf
    rw [at_sp ht]
    by_cases h : t.1 ≤ s.1
    · rw [decide_eq_true h] at q
      refine ifT (decide_eq_true h) ?_
      conv => whnf
      rw [at_sp ht]
      exact q
    · rw [decide_eq_false h] at q
      exact ifF (decide_eq_false h) q
def chV (LL : List (List Int)) : Val := .lst (LL.map fun r => .frz (r.map Val.int))
theorem cut1L (ch : List Int) : cutL ch (some 1) none = ch.tail := by
  cases ch with
  | nil => rfl
  | cons x r =>
    simp [cutL, HT.sIx]
def cLRight : VSpec := fun ds Q _ => ∃ (ss : List Span) (ch : List Int) (LL : List (List Int)), ds = [.lst (ss.map spV), .lst (ch.map Val.int), chV LL] ∧ ss.length ≤ 1000 ∧ ch.length ≤ 900 ∧ LL.length ≤ 900 ∧ (∀ r ∈ LL, r.length ≤ 1000) ∧ ∀ b, (b = true ↔ LooseOk ss ch LL) → Q [] (.bl b)
theorem M_l_loose_right : Mono cLRight := fun ds Q Q' E E' h _ ⟨ss, ch, lv, a, b, c, d, e, q⟩ => ⟨ss, ch, lv, a, b, c, d, e, fun c hc => h _ _ (q c hc)⟩
theorem v_l_loose_right (T : Tx K mg) : FnOk P w K mg base CX0 (2) T.f_l_loose_right T.fd_l_loose_right ["_law_spans", "_law_free", "_law_chains_here"] (vsp K T.tabs [] 3 cLRight) := by
  have G_l_under : FnOk P w K mg base CX0 _ _ _ _ _ := v_l_under T
  refine T.F_l_loose_right.ok sc_l_loose_right (fun vs H Q E h => vsp_len h) (fun cdv A outer s H vs Q E hr h => ⟨_, (pss_cons (ps_set (i := 3) sc_l_loose_right.nd rfl (Or.inr rfl) (pe_callB call_len_seq (by rfl) T.m_len PySem.boot_len (pa_cons (pv 0) pa_nil)))
      (pss_cons (ps_if (PW.pt (pw_or (pt_cmpR op_ne (pe_lenSet rfl (by rfl) T.m_len (by rfl) T.m_set (pv 1)) (pe_callB call_len_seq (by rfl) T.m_len PySem.boot_len (pa_cons (pv 1) pa_nil)) (nomark _)) (pw_or1 (pt_cmpR op_gt (pe_callB call_len_seq (by rfl) T.m_len PySem.boot_len (pa_cons (pe_lc (own := [("_law_one", 4)]) (g := (gName 4)) (by rfl) sc_l_loose_right.nd (pi_list (pv 1)) (blkOk_by (own := [("_law_one", 4)]) (N := N_l_loose_right) (sc := defScope s_l_loose_right) (by decide +kernel)) (fun _ _ _ _ _ => (pg_name (i := 4) sc_l_loose_right.nd rfl (Or.inl rfl))) (fun _ _ _ _ _ => (pts_one (pt_not (pt_chain op_le op_lt pe_int (pv 4) (pv 3))))) (fun _ _ _ _ _ => (pv 4))) pa_nil)) pe_int (nomark _))))) (pss_one (ps_ret pe_bl)) pss_nil)
      (pss_cons (ps_for PassesOwn.never (by rfl) (pi_list (pv 1)) (pg_name (i := 4) sc_l_loose_right.nd rfl (Or.inr rfl))
        (pss_one (ps_if (pt_cmpR op_gt (pe_callB call_len_seq (by rfl) T.m_len PySem.boot_len (pa_cons (pe_lc (own := [("_law_other", 5)]) (g := (gName 5)) (by rfl) sc_l_loose_right.nd (pi_list (pv 1)) (blkOk_by (own := [("_law_other", 5)]) (N := N_l_loose_right) (sc := defScope s_l_loose_right) (by decide +kernel)) (fun _ _ _ _ _ => (pg_name (i := 5) sc_l_loose_right.nd rfl (Or.inl rfl))) (fun _ _ _ _ _ => (pts_one (pt_val (pe_call G_l_under (hr.mono (by decide)) (by rfl) T.g_l_under T.F_l_under.kp T.b_l_under .nil pass0 (pa_cons (pv 0) (pa_cons (pv 4) (pa_cons (pv 5) pa_nil))))))) (fun _ _ _ _ _ => (pv 5))) pa_nil)) pe_int (nomark _)) (pss_one (ps_ret pe_bl)) pss_nil)))
      (pss_cons (ps_set (i := 6) sc_l_loose_right.nd rfl (Or.inl rfl) (pe_lst pa_nil))
      (pss_cons (ps_for PassesOwn.never (by rfl) (pi_list (pv 2)) (pg_name (i := 7) sc_l_loose_right.nd rfl (Or.inl rfl))
        (pss_one (ps_set (i := 6) sc_l_loose_right.nd rfl (Or.inl rfl) (pe_op op_catZ (pv 6) (pv 7)))))
      (pss_cons (ps_if (PW.pt (pw_or (pt_cmpR op_ne (pe_callB call_len_seq (by rfl) T.m_len PySem.boot_len (pa_cons (pv 2) pa_nil)) (pe_callB call_len_seq (by rfl) T.m_len PySem.boot_len (pa_cons (pv 1) pa_nil)) (nomark _)) (pw_or1 (pt_cmpR (op_neD hr.units) (pe_callB cr_sortedI (by rfl) T.m_sorted (by decide +kernel) (pa_cons (pv 6) pa_nil)) (pe_listRg rfl (by rfl) T.m_list (prg_1 (by rfl) T.m_range (pv 3))) (nomark _))))) (pss_one (ps_ret pe_bl)) pss_nil)
      (pss_cons (ps_for PassesOwn.never (by rfl) (pi_list (pv 2)) (pg_name (i := 7) sc_l_loose_right.nd rfl (Or.inl rfl))
        (pss_one (ps_for PassesOwn.never (by rfl) (pi_zip (by rfl) T.m_zip (pa_cons (pv 7) (pa_cons (pe_slice sl_list (pv 7) (po_some pe_int) po_none) pa_nil))) (pg_tup rfl (pgs_cons (pg_name (i := 4) sc_l_loose_right.nd rfl (Or.inr rfl)) (pgs_cons (pg_name (i := 5) sc_l_loose_right.nd rfl (Or.inl rfl)) pgs_nil)))
        (pss_one (ps_if (pt_not (pt_val (pe_call G_l_under (hr.mono (by decide)) (by rfl) T.g_l_under T.F_l_under.kp T.b_l_under .nil pass0 (pa_cons (pv 0) (pa_cons (pv 4) (pa_cons (pv 5) pa_nil)))))) (pss_one (ps_ret pe_bl)) pss_nil)))))
      (pss_one (ps_ret pe_bl))))))))), (vfn (N := 8) (lo := []) (Ef := []) U0 h rfl (by decide) rfl rfl hU0 (simS_seq (simS_asg (simE_cb cb_len (simA_var (i := 0) rfl simA_nil)) (simG_name (i := 3) (show 3 < 8 by decide) rfl rfl) rfl rfl)
      (simS_seq (simS_if (simT_or (simT_test (simE_op r2_ne (simE_lenSet (simE_var (i := 1) rfl)) (simE_cb cb_len (simA_var (i := 1) rfl simA_nil)) rfl)) (simT_test (simE_op r2_ib (simE_cb cb_len (simA_consF (simE_lc (fx := [0, 1, 2, 3, 5, 6, 7]) (simI_list (simE_var (i := 1) rfl)) (simG_name (i := 4) (show 4 < 8 by decide) rfl rfl) (simT_not (simT_test (simE_chain r2_ib r2_ib simE_int (simE_var (i := 4) rfl) (simE_var (i := 3) rfl) rfl rfl rfl))) (simE_var (i := 4) rfl) rfl rfl rfl) simA_nil rfl rfl rfl rfl rfl)) simE_int rfl)) rfl) (simS_ret simE_bl rfl rfl rfl rfl) (simS_next rfl) rfl rfl)
      (simS_seq (simS_for (E' := []) (simI_list (simE_var (i := 1) rfl)) (simG_name (i := 4) (show 4 < 8 by decide) rfl rfl) (simS_if (simT_test (simE_op r2_ib (simE_cb cb_len (simA_consF (simE_lc (fx := [0, 1, 2, 3, 4, 6, 7]) (simI_list (simE_var (i := 1) rfl)) (simG_name (i := 5) (show 5 < 8 by decide) rfl rfl) (simT_tB (simE_call0 M_l_under (simA_var (i := 0) rfl (simA_varF (i := 4) (simA_varF (i := 5) simA_nil))) rfl rfl)) (simE_var (i := 5) rfl) rfl rfl rfl) simA_nil rfl rfl rfl rfl rfl)) simE_int rfl)) (simS_ret simE_bl rfl rfl rfl rfl) (simS_next rfl) rfl rfl) rfl rfl rfl rfl)
      (simS_seq (simS_asg (simE_lst simA_nil (by decide)) (simG_name (i := 6) (show 6 < 8 by decide) rfl rfl) rfl rfl)
      (simS_seq (simS_for (E' := []) (simI_list (simE_var (i := 2) rfl)) (simG_name (i := 7) (show 7 < 8 by decide) rfl rfl) (simS_asg (simE_opL r2_catZ (simE_var (i := 6) rfl) (simE_var (i := 7) rfl) rfl) (simG_name (i := 6) (show 6 < 8 by decide) rfl rfl) rfl rfl) rfl rfl rfl rfl)
      (simS_seq (simS_if (simT_or (simT_test (simE_op r2_ne (simE_cb cb_len (simA_var (i := 2) rfl simA_nil)) (simE_cb cb_len (simA_var (i := 1) rfl simA_nil)) rfl)) (simT_test (simE_op r2_neD (simE_cbl cb_sortI (simA_var (i := 6) rfl simA_nil)) (simE_lrg (simE_var (i := 3) rfl)) rfl)) rfl) (simS_ret simE_bl rfl rfl rfl rfl) (simS_next rfl) rfl rfl)
      (simS_seq (simS_for (E' := []) (simI_list (simE_var (i := 2) rfl)) (simG_name (i := 7) (show 7 < 8 by decide) rfl rfl) (simS_for (E' := []) (simI_zipF (simA_varF (i := 7) (simA_consF (simE_sl (simE_var (i := 7) rfl) (simO_some simE_int) simO_none rfl rfl) simA_nil rfl rfl rfl rfl rfl))) (simG_tup (simGs_cons (simG_name (i := 4) (show 4 < 8 by decide) rfl rfl) (simGs_cons (simG_name (i := 5) (show 5 < 8 by decide) rfl rfl) simGs_nil))) (simS_if (simT_not (simT_tB (simE_call0 M_l_under (simA_var (i := 0) rfl (simA_varF (i := 4) (simA_varF (i := 5) simA_nil))) rfl rfl))) (simS_ret simE_bl rfl rfl rfl rfl) (simS_next rfl) rfl rfl) rfl rfl rfl rfl) rfl rfl rfl rfl)
      (simS_ret simE_bl rfl rfl rfl rfl)))))))) ?_)⟩)
  clear G_l_under
  rintro ds Q X ⟨ss, ch, LL, rfl, sl, cl, ll, rl, q⟩
  have e9 : (ss.map spV).length = ss.length := List.length_map ..
  have no : ¬ LooseOk ss ch LL → Q [] (.bl false) := fun h => q false ⟨(fun z => nomatch z), fun z => absurd z h⟩
  refine ⟨ch, rfl, by omega, fun ds nd mem => ?_⟩
  by_cases hn : ch.Nodup
  case neg =>
    refine ifT (by rw [List.length_map, decide_eq_false (fun z => hn ((len_nodup nd mem).mp (by omega)))]; rfl) ?_
    exact no fun z => hn z.nd
  refine ifF (by rw [List.length_map, decide_eq_true (by rw [(len_nodup nd mem).mpr hn])]; rfl) ?_
  rw [e9]
  refine lc_filter ch Val.int (fun c => !(decide (0 ≤ c) && decide (c < (ss.length : Int)))) ?_ (fun _ _ => rfl) (by omega) ?_
  · intro r _ R R' h
    by_cases a : 0 ≤ r
    · by_cases b : r < (ss.length : Int)
      · rw [decide_eq_true a, decide_eq_true b] at h
        exact ifT (decide_eq_true a) (ifF (by rw [decide_eq_true b]; rfl) h)
      · rw [decide_eq_true a, decide_eq_false b] at h
        exact ifT (decide_eq_true a) (ifT (by rw [decide_eq_false b]; rfl) h)
    · rw [decide_eq_false a] at h
      exact ifF (decide_eq_false a) h
  by_cases rg : ∀ c ∈ ch, 0 ≤ c ∧ c < (ss.length : Int)
  case neg =>
    refine ifT (decide_eq_true ?_) (no fun z => rg z.rg)
    have : (ch.filter fun c => !(decide (0 ≤ c) && decide (c < (ss.length : Int)))) ≠ [] := fun z => rg fun c hc => by
      have := List.filter_eq_nil_iff.mp z c hc
      simp at this
      exact this
    have := List.length_pos_iff.mpr this
    rw [List.length_map]
    omega
  have e1 : (ch.filter fun c => !(decide (0 ≤ c) && decide (c < (ss.length : Int)))) = [] := List.filter_eq_nil_iff.mpr fun r hr => by
    have := rg r hr
    simp
    omega
  refine ifF (decide_eq_false (by rw [e1]; decide)) ?_
  have at_ : ∀ {c : Int}, (0 ≤ c ∧ c < (ss.length : Int)) → ∃ (n : Nat) (s : Span), c = (n : Int) ∧ ss[n]? = some s := fun {c} h => ⟨c.toNat, ss[c.toNat]'(by omega), by omega, List.getElem?_eq_getElem (by omega)⟩
  refine ⟨fun i env => ∃ y4 y5 : Option Val, env = [some (.lst (ss.map spV)), some (.lst (ch.map Val.int)), some (chV LL), some (.int (ss.length : Int)), y4, y5, none, none] ∧ ∀ k, k < i → ∀ (n m : Nat) (s t : Span), ch[k]? = some (n : Int) → (m : Int) ∈ ch → ss[n]? = some s → ss[m]? = some t → unB s t n m = false, ⟨none, none, rfl, fun k hk => absurd hk (Nat.not_lt_zero _)⟩, ?_, ?_⟩
  · rintro i v env hi ⟨y4, y5, rfl, inv⟩
    rw [List.getElem?_map] at hi
    obtain ⟨c, hc, rfl⟩ := Option.map_eq_some_iff.mp hi
    obtain ⟨n, s, rfl, hs⟩ := at_ (rg c (List.mem_of_getElem? hc))
    refine lc_filter ch Val.int (fun d => unB s (ss[d.toNat]?.getD (0, 0)) n d) ?_ (fun _ _ => rfl) (by omega) ?_
    · intro d hd R R' h
      obtain ⟨m, t, rfl, ht⟩ := at_ (rg d hd)
      refine ⟨rfl, rfl, ss, n, m, s, t, rfl, hs, ht, ?_⟩
      simp only [Int.toNat_natCast, ht, Option.getD_some] at h
      exact h
    by_cases e : (ch.filter fun d => unB s (ss[d.toNat]?.getD (0, 0)) n d) = []
    · refine ifF (decide_eq_false (by rw [e]; decide)) ?_
      refine ⟨some (.int (n : Int)), none, rfl, fun k hk n' m s' t h1 h2 h3 h4 => ?_⟩
      rcases Nat.lt_succ_iff_lt_or_eq.mp hk with h | rfl
      · exact inv k h n' m s' t h1 h2 h3 h4
      · rw [hc] at h1
        have e1 : n = n' := by
          have := Option.some.inj h1
          omega
        subst e1
        rw [hs] at h3
        cases h3
        have := List.filter_eq_nil_iff.mp e (m : Int) h2
        simp only [Int.toNat_natCast, h4, Option.getD_some] at this
        simpa using this
    · refine ifT (decide_eq_true ?_) (no fun z => e ?_)
      · have := List.length_pos_iff.mpr e
        rw [List.length_map]
        omega
      · refine List.filter_eq_nil_iff.mpr fun d hd => ?_
        obtain ⟨m, t, rfl, ht⟩ := at_ (rg d hd)
        have := z.free n m s t (List.mem_of_getElem? hc) hd hs ht
        simp only [Int.toNat_natCast, ht, Option.getD_some]
        rw [this]
        decide
  rintro env ⟨y4, y5, rfl, inv⟩
  have free : FreeL ss ch := fun i j s t hi hj hs ht => by
    obtain ⟨k, hk⟩ := List.getElem?_of_mem hi
    refine inv k ?_ i j s t hk hj hs ht
    rw [List.length_map]
    exact (List.getElem?_eq_some_iff.mp hk).1
  clear inv
  refine ⟨fun i env => ∃ y7 : Option Val, env = [some (.lst (ss.map spV)), some (.lst (ch.map Val.int)), some (chV LL), some (.int (ss.length : Int)), y4, y5, some (.lst ((LL.take i).flatten.map Val.int)), y7], ⟨none, rfl⟩, ?_, ?_⟩
  · rintro i v env hi ⟨y7, rfl⟩
    rw [List.getElem?_map] at hi
    obtain ⟨r, hr, rfl⟩ := Option.map_eq_some_iff.mp hi
    have tk : LL.take (i + 1) = LL.take i ++ [r] := by
      rw [List.take_add_one, hr]
      rfl
    have il := (List.getElem?_eq_some_iff.mp hr).1
    have fl := flat_few (LL := LL.take i) (n := 899) (m := 1000) (fun r hr => rl r (List.mem_of_mem_take hr)) (by rw [List.length_take]; omega)
    have rr := rl r (List.mem_of_getElem? hr)
    refine ⟨flatI _, flatI _, by rw [List.length_map, List.length_map]; omega, ?_⟩
    refine ⟨some (.frz (r.map Val.int)), ?_⟩
    rw [tk, List.flatten_append, List.map_append, List.flatten_cons, List.flatten_nil, List.append_nil]
    rfl
  rintro env ⟨y7, rfl⟩
  have lll : (LL.map fun r => Val.frz (r.map Val.int)).length = LL.length := List.length_map ..
  rw [lll, List.take_length]
  by_cases en : LL.length = ch.length
  case neg =>
    have e0 : ¬ ((LL.map fun r => Val.frz (r.map Val.int)).length : Int) = ((ch.map Val.int).length : Int) := by
      rw [List.length_map, List.length_map]
      omega
    exact ifT (by rw [decide_eq_false e0]; rfl) (no fun z => en z.many)
  have e0 : ((LL.map fun r => Val.frz (r.map Val.int)).length : Int) = ((ch.map Val.int).length : Int) := by
    rw [List.length_map, List.length_map]
    omega
  refine ifF (by rw [decide_eq_true e0]; rfl) ?_
  refine ⟨LL.flatten, rfl, fun E pE pw => ?_⟩
  refine ⟨⟨by omega, by omega⟩, ?_⟩
  have eR : rngV 0 ((ss.length : Int)).toNat = ((List.range ss.length).map fun (k : Nat) => (k : Int)).map Val.int := by
    rw [Int.toNat_natCast]
    unfold rngV
    rw [List.map_map]
    refine List.map_congr_left fun k _ => ?_
    show Val.int (0 + (k : Int)) = Val.int (k : Int)
    rw [Int.zero_add]
  rw [eR]
  refine eqD_ints true E _ _ ?_
  by_cases eE : E = (List.range ss.length).map fun (k : Nat) => (k : Int)
  case neg =>
    refine ifT (by rw [decide_eq_false eE]; rfl) (no fun z => eE ?_)
    refine List.Perm.eq_of_pairwise (le := (· ≤ ·)) (fun x y _ _ p q => by omega) pw ?_ (pE.trans z.all)
    rw [List.pairwise_map]
    exact List.pairwise_lt_range.imp fun {a b} h => by
      show (a : Int) ≤ (b : Int)
      omega
  refine ifF (by rw [decide_eq_true eE]; rfl) ?_
  have all : LL.flatten.Perm ((List.range ss.length).map fun (k : Nat) => (k : Int)) := by
    rw [← eE]
    exact pE.symm
  have rgA : ∀ r ∈ LL, ∀ c ∈ r, 0 ≤ c ∧ c < (ss.length : Int) := fun r hr c hc => by
    obtain ⟨k, hk, e⟩ := List.mem_map.mp (all.mem_iff.mp (List.mem_flatten.mpr ⟨r, hr, hc⟩))
    rw [List.mem_range] at hk
    omega
  clear pE pw eE eR e1 mem nd
  refine ⟨fun i env => ∃ y4 y5 y7 : Option Val, env = [some (.lst (ss.map spV)), some (.lst (ch.map Val.int)), some (chV LL), some (.int (ss.length : Int)), y4, y5, some (.lst (LL.flatten.map Val.int)), y7] ∧ ∀ r ∈ LL.take i, ChU ss r, ⟨_, _, _, rfl, fun _ h => nomatch h⟩, ?_, ?_⟩
  · rintro i v env hi ⟨y4, y5, y7, rfl, inv⟩
    rw [List.getElem?_map] at hi
    obtain ⟨r, hr, rfl⟩ := Option.map_eq_some_iff.mp hi
    have tk : LL.take (i + 1) = LL.take i ++ [r] := by
      rw [List.take_add_one, hr]
      rfl
    have rm := List.mem_of_getElem? hr
    have rgr := rgA r rm
    refine ⟨flatI _, flatI _, ?_⟩
    rw [cutL_map, cut1L]
    conv => whnf
    rw [zipV_map]
    refine ⟨fun j env => ∃ y4 y5 : Option Val, env = [some (.lst (ss.map spV)), some (.lst (ch.map Val.int)), some (chV LL), some (.int (ss.length : Int)), y4, y5, some (.lst (LL.flatten.map Val.int)), some (.frz (r.map Val.int))] ∧ ((r.zip r.tail).take j).all (fun p => unB (ss[p.1.toNat]?.getD (0, 0)) (ss[p.2.toNat]?.getD (0, 0)) p.1 p.2) = true, ⟨y4, y5, rfl, rfl⟩, ?_, ?_⟩
    · rintro j v env hj ⟨y4, y5, rfl, inv2⟩
      rw [List.getElem?_map] at hj
      obtain ⟨⟨x, y⟩, hp, rfl⟩ := Option.map_eq_some_iff.mp hj
      have mp := List.mem_of_getElem? hp
      obtain ⟨n, s, rfl, hs⟩ := at_ (rgr x (List.of_mem_zip mp).1)
      obtain ⟨m, t, rfl, ht⟩ := at_ (rgr y (List.mem_of_mem_tail (List.of_mem_zip mp).2))
      refine ⟨rfl, rfl, rfl, ss, n, m, s, t, rfl, hs, ht, ?_⟩
      have tk2 : (r.zip r.tail).take (j + 1) = (r.zip r.tail).take j ++ [((n : Int), (m : Int))] := by
        rw [List.take_add_one, hp]
        rfl
      cases hu : unB s t n m with
      | true =>
        refine ⟨some (.int (n : Int)), some (.int (m : Int)), rfl, ?_⟩
        rw [tk2, List.all_append, inv2, List.all_cons]
        simp only [Int.toNat_natCast, hs, ht, Option.getD_some, hu]
        rfl
      | false =>
        refine no fun z => ?_
        have := List.all_eq_true.mp ((chB_iff rgr).mpr (z.nests r rm).2) ((n : Int), (m : Int)) mp
        simp only [Int.toNat_natCast, hs, ht, Option.getD_some, hu] at this
        cases this
    · rintro env ⟨y4, y5, rfl, inv2⟩
      rw [List.length_map, List.take_length] at inv2
      refine ⟨y4, y5, _, rfl, fun r' hr' => ?_⟩
      rw [tk] at hr'
      rcases List.mem_append.mp hr' with z | z
      · exact inv r' z
      · rw [List.mem_singleton.mp z]
        exact (chB_iff rgr).mp inv2
  · rintro env ⟨y4, y5, y7, rfl, inv⟩
    rw [lll, List.take_length] at inv
    exact q true ⟨fun _ => ⟨en, rg, hn, free, fun r hr => ⟨rgA r hr, inv r hr⟩, all⟩, fun _ => rfl⟩
end
/-! ### a matching that grows by a way that frees one -/
def Inj (D : List (Int × Int)) (S : List Int) : Prop := ∀ (k k' v : Int), k ∉ S → k' ∉ S → lookI D k = some v → lookI D k' = some v → k = k'
def Vals7 (D : List (Int × Int)) (S : List Int) (v : Int) : Prop := ∃ k, k ∉ S ∧ lookI D k = some v
structure SeenOk (n : Nat) (S : List Int) : Prop where
  nd : S.Nodup
  rg : ∀ x ∈ S, 0 ≤ x ∧ x < (n : Int)
theorem SeenOk.len {n : Nat} {S : List Int} (h : SeenOk n S) : S.length ≤ n := by
  have := nodup_le (a := S) (b := (List.range n).map fun (k : Nat) => (k : Int)) h.nd fun x hx => List.mem_map.mpr ⟨x.toNat, List.mem_range.mpr (by have := h.rg x hx; omega), by have := h.rg x hx; omega⟩
  rwa [List.length_map, List.length_range] at this
theorem SeenOk.add {n : Nat} {S : List Int} (h : SeenOk n S) {x : Int} (hx : x ∉ S) (h0 : 0 ≤ x) (h1 : x < (n : Int)) : SeenOk n (S ++ [x]) :=
  ⟨List.nodup_append.mpr ⟨h.nd, List.nodup_cons.mpr ⟨List.not_mem_nil, List.nodup_nil⟩, fun a ha b hb e => hx (by rw [← List.mem_singleton.mp hb, ← e]; exact ha)⟩, fun y hy => by
    rcases List.mem_append.mp hy with z | z
    · exact h.rg y z
    · rw [List.mem_singleton.mp z]
      exact ⟨h0, h1⟩⟩
theorem lookI_mem {D : List (Int × Int)} {k : Int} (h : k ∈ D.map (·.1)) : ∃ v, lookI D k = some v := by
  obtain ⟨p, hp, e⟩ := List.mem_map.mp h
  unfold lookI
  cases hf : D.find? fun p => decide (p.1 = k) with
  | some x => exact ⟨x.2, rfl⟩
  | none =>
    have := List.find?_eq_none.mp hf p hp
    exact absurd (decide_eq_true e) this
theorem lookI_key {D : List (Int × Int)} {k v : Int} (h : lookI D k = some v) : k ∈ D.map (·.1) := by
  unfold lookI at h
  obtain ⟨p, hp, _⟩ := Option.map_eq_some_iff.mp h
  have := List.find?_some hp
  exact List.mem_map.mpr ⟨p, List.mem_of_find?_eq_some hp, of_decide_eq_true this⟩
/-- each stands under what it is matched with -/
structure DOk (ss : List Span) (D : List (Int × Int)) : Prop where
  un : ∀ k v, lookI D k = some v → Un ss v k
  nd : (D.map (·.1)).Nodup
theorem Un.rg {ss : List Span} {x y : Int} (h : Un ss x y) : (0 ≤ x ∧ x < (ss.length : Int)) ∧ 0 ≤ y ∧ y < (ss.length : Int) := by
  obtain ⟨h0, h1, s, t, hs, ht, _⟩ := h
  have := (List.getElem?_eq_some_iff.mp hs).1
  have := (List.getElem?_eq_some_iff.mp ht).1
  omega
theorem DOk.len {ss : List Span} {D : List (Int × Int)} (h : DOk ss D) : D.length ≤ ss.length := by
  have := nodup_le (a := D.map (·.1)) (b := (List.range ss.length).map fun (k : Nat) => (k : Int)) h.nd fun x hx => by
    obtain ⟨v, hv⟩ := lookI_mem hx
    have := (h.un x v hv).rg.2
    exact List.mem_map.mpr ⟨x.toNat, List.mem_range.mpr (by omega), by omega⟩
  rwa [List.length_map, List.length_map, List.length_range] at this
theorem DOk.put {ss : List Span} {D : List (Int × Int)} (h : DOk ss D) {k v : Int} (u : Un ss v k) : DOk ss (putI D k v) := ⟨fun k' v' hl => by
  rw [look_put] at hl
  by_cases e : k' = k
  · rw [if_pos e] at hl
    cases hl
    rw [e]
    exact u
  · rw [if_neg e] at hl
    exact h.un k' v' hl, by
  unfold putI
  by_cases e : (D.any fun p => decide (p.1 = k)) = true
  · rw [if_pos e, List.map_map]
    have : (D.map ((fun p : Int × Int => p.1) ∘ fun p => if p.1 = k then (p.1, v) else p)) = D.map (·.1) := List.map_congr_left fun p _ => by
      show (if p.1 = k then (p.1, v) else p).1 = p.1
      split <;> rfl
    rw [this]
    exact h.nd
  · rw [if_neg e, List.map_append]
    refine List.nodup_append.mpr ⟨h.nd, List.nodup_cons.mpr ⟨List.not_mem_nil, List.nodup_nil⟩, fun a ha b hb z => e ?_⟩
    have hb : b = k := List.mem_singleton.mp hb
    obtain ⟨p, hp, ep⟩ := List.mem_map.mp ha
    exact List.any_eq_true.mpr ⟨p, hp, decide_eq_true (by rw [ep, z, hb])⟩⟩
/-- what a way that frees one leaves -/
structure Freed (D D' : List (Int × Int)) (S : List Int) (one : Int) : Prop where
  same : ∀ k ∈ S, lookI D' k = lookI D k
  inj : Inj D' S
  vals : ∀ v, Vals7 D' S v ↔ v = one ∨ Vals7 D S v
theorem Inj.mono {D : List (Int × Int)} {S S' : List Int} (h : Inj D S) (e : ∀ x ∈ S, x ∈ S') : Inj D S' := fun k k' v h1 h2 => h k k' v (fun z => h1 (e _ z)) fun z => h2 (e _ z)
theorem Vals7.mono {D : List (Int × Int)} {S S' : List Int} {v : Int} (h : Vals7 D S' v) (e : ∀ x ∈ S, x ∈ S') : Vals7 D S v := h.imp fun _ z => ⟨fun y => z.1 (e _ y), z.2⟩
theorem Freed.fin {D D2 : List (Int × Int)} {S S2 : List Int} {one other : Int} (sub : ∀ x ∈ S, x ∈ S2) (no : other ∉ S) (yes : other ∈ S2) (inj : Inj D S) (nv : ¬ Vals7 D S one)
    (same : ∀ k ∈ S2, lookI D2 k = lookI D k) (inj2 : Inj D2 S2) (vals : ∀ v, Vals7 D2 S2 v ↔ lookI D other = some v ∨ Vals7 D S2 v) : Freed D (putI D2 other one) S one := by
  have lk : ∀ k, lookI (putI D2 other one) k = if k = other then some one else lookI D2 k := fun k => look_put _ _ _ _
  have up : ∀ {v}, lookI D other = some v ∨ Vals7 D S2 v → Vals7 D S v := fun {v} h => h.elim (fun z => ⟨other, no, z⟩) fun z => z.mono sub
  refine ⟨fun k hk => ?_, fun k k' v h1 h2 e1 e2 => ?_, fun v => ⟨?_, ?_⟩⟩
  · rw [lk, if_neg (fun z => no (by rw [← z]; exact hk))]
    exact same k (sub k hk)
  · rw [lk] at e1 e2
    have key : ∀ {k : Int}, k ∉ S → k ≠ other → lookI D2 k = some one → False := fun {k} h1 ne h => by
      by_cases z : k ∈ S2
      · exact nv ⟨k, h1, by rw [← same k z]; exact h⟩
      · exact nv (up ((vals one).mp ⟨k, z, h⟩))
    by_cases a : k = other
    · by_cases b : k' = other
      · rw [a, b]
      · rw [if_pos a] at e1
        rw [if_neg b] at e2
        cases e1
        exact (key h2 b e2).elim
    · rw [if_neg a] at e1
      by_cases b : k' = other
      · rw [if_pos b] at e2
        cases e2
        exact (key h1 a e1).elim
      · rw [if_neg b] at e2
        have mix : ∀ {k k' : Int}, k ∉ S → k ≠ other → k ∈ S2 → k' ∉ S2 → lookI D2 k = some v → lookI D2 k' = some v → False := fun {k k'} h1 ne z y e1 e2 => by
          rw [same k z] at e1
          rcases (vals v).mp ⟨k', y, e2⟩ with w | ⟨k2, w1, w2⟩
          · exact ne (inj k other v h1 no e1 w)
          · have := inj k k2 v h1 (fun q => w1 (sub _ q)) e1 w2
            exact w1 (this ▸ z)
        by_cases z : k ∈ S2
        · by_cases y : k' ∈ S2
          · rw [same k z] at e1
            rw [same k' y] at e2
            exact inj k k' v h1 h2 e1 e2
          · exact (mix h1 a z y e1 e2).elim
        · by_cases y : k' ∈ S2
          · exact (mix h2 b y z e2 e1).elim
          · exact inj2 k k' v z y e1 e2
  · rintro ⟨k, h1, e1⟩
    rw [lk] at e1
    by_cases a : k = other
    · rw [if_pos a] at e1
      cases e1
      exact .inl rfl
    · rw [if_neg a] at e1
      by_cases z : k ∈ S2
      · exact .inr ⟨k, h1, by rw [← same k z]; exact e1⟩
      · exact .inr (up ((vals v).mp ⟨k, z, e1⟩))
  · have back : ∀ {v}, Vals7 D2 S2 v → Vals7 (putI D2 other one) S v := fun {v} ⟨k, h1, e1⟩ => ⟨k, fun q => h1 (sub _ q), by rw [lk, if_neg (fun z => h1 (by rw [z]; exact yes))]; exact e1⟩
    rintro (rfl | ⟨k, h1, e1⟩)
    · exact ⟨other, no, by rw [lk, if_pos rfl]⟩
    · by_cases a : k = other
      · rw [a] at e1
        exact back ((vals v).mpr (.inl e1))
      · by_cases z : k ∈ S2
        · exact ⟨k, h1, by rw [lk, if_neg a, same k z]; exact e1⟩
        · exact back ((vals v).mpr (.inr ⟨k, z, e1⟩))
section
variable {P : Program} {w : World} {K : PySem.W.Frag} {mg : Str → Option Value} {base : Heap}
/-- m: how deep it may go -/
def cFreed : Nat → VSpec
  | 0 => fun _ _ _ => False
  | m + 1 => fun ds Q _ => ∃ (ss : List Span) (D : List (Int × Int)) (one : Nat) (s : Span) (S : List Int), ds = [.lst (ss.map spV), diV D, .int (one : Int), .lst (S.map Val.int)] ∧ ss.length ≤ 100 ∧ ss[one]? = some s ∧ SeenOk ss.length S ∧ ss.length ≤ S.length + m ∧ DOk ss D ∧ Inj D S ∧ ¬ Vals7 D S (one : Int) ∧
    ∀ (D' : List (Int × Int)) (S' : List Int) (b : Bool), DOk ss D' → SeenOk ss.length S' → (∀ x ∈ S, x ∈ S') → (if b = true then Freed D D' S (one : Int) else D' = D) → Q [.non, diV D', .non, .lst (S'.map Val.int)] (.bl b)
theorem M_l_freed {m : Nat} : Mono (cFreed m) := fun ds Q Q' E E' h _ z => by
  cases m with
  | zero => exact z.elim
  | succ m =>
    obtain ⟨ss, D, one, s, S, a1, a2, a3, a4, a5, a6, a7, a8, q⟩ := z
    exact ⟨ss, D, one, s, S, a1, a2, a3, a4, a5, a6, a7, a8, fun D' S' b h1 h2 h3 h4 => h _ _ (q D' S' b h1 h2 h3 h4)⟩
theorem v_freed (T : Tx K mg) : ∀ m : Nat, FnOk P w K mg base CX0 (m + 1) T.f_l_freed T.fd_l_freed ["_law_spans", "_law_there", "_law_one", "_law_seen"] (vsp K T.tabs [1, 3] 4 (cFreed m))
  | 0 => ⟨fun vs H Q E h => vsp_len h, fun _ _ _ _ _ _ _ _ _ _ _ _ _ h => by
      obtain ⟨_, _, _, h⟩ := h
      exact h.elim⟩
  | m + 1 => by
    have G_l_under : FnOk P w K mg base CX0 _ _ _ _ _ := v_l_under T
    have G_l_freed : FnOk P w K mg base CX0 _ _ _ _ _ := v_freed T m
    refine T.F_l_freed.ok sc_l_freed (fun vs H Q E h => vsp_len h) (fun cdv A outer s H vs Q E hr h => ⟨_, (pss_cons (ps_for PassesOwn.never (by rfl) (pi_range1 (by rfl) T.m_range (pa_cons (pe_callB call_len_seq (by rfl) T.m_len PySem.boot_len (pa_cons (pv 0) pa_nil)) pa_nil)) (pg_name (i := 4) sc_l_freed.nd rfl (Or.inl rfl))
        (pss_one (ps_if (PW.pt (pw_and (pt_val (pe_call G_l_under (hr.mono (by omega)) (by rfl) T.g_l_under T.F_l_under.kp T.b_l_under .nil pass0 (pa_cons (pv 0) (pa_cons (pv 2) (pa_cons (pv 4) pa_nil))))) (pw_and1 (pt_cmpR op_notIn_seq (pv 4) (pv 3) (by rfl))))) (pss_cons (ps_expr (pe_bm PySem.F.plainAttrs_list PySem.F.slot_list_append PySem.F.type_list_append mt_append (pv 3) (pa_cons (pv 4) pa_nil)))
      (pss_one (ps_if (PW.pt (pw_or (pt_cmp (pc_dnotin (room_u hr) (pv 4) (pv 1)) (by rfl)) (pw_or1 (pt_val (pe_call G_l_freed (hr.mono (by omega)) (by rfl) T.g_l_freed T.F_l_freed.kp T.b_l_freed .nil pass0 (pa_cons (pv 0) (pa_cons (pv 1) (pa_cons (pe_dget (room_u hr) (pv 1) (pv 4) (fun _ _ => rfl)) (pa_cons (pv 3) pa_nil))))))))) (pss_cons (ps_asg (pv 2) (pg_sub (pv 1) (pv 4) (set_dict (room_u hr))))
      (pss_one (ps_ret pe_bl))) pss_nil))) pss_nil)))
      (pss_one (ps_ret pe_bl))), (vfn (N := 5) (lo := []) (Ef := [1, 3]) U13 h rfl (by decide) rfl rfl hU13 (simS_seq (simS_for (E' := [1, 3]) (simI_rng1 (simA_consF (simE_cb cb_len (simA_var (i := 0) rfl simA_nil)) simA_nil rfl rfl rfl rfl rfl)) (simG_name (i := 4) (show 4 < 5 by decide) rfl rfl) (simS_if (simT_and (simT_tB (simE_call0 M_l_under (simA_var (i := 0) rfl (simA_varF (i := 2) (simA_varF (i := 4) simA_nil))) rfl rfl)) (simT_test (simE_op r2_notInI (simE_var (i := 4) rfl) (simE_own (i := 3)) rfl)) rfl) (simS_seq (simS_expr (simE_app (i := 3) (simE_var (i := 4) rfl) rfl) rfl rfl)
      (simS_if (simT_or (simT_tB (simE_dnin (simE_var (i := 4) rfl) (simE_own (i := 1)) rfl)) (simT_tB (simE_call13 (i := 1) (j := 3) M_l_freed (simA_var (i := 0) rfl (simA_own (i := 1) rfl (simA_cons (simE_dix (simE_own (i := 1)) (simE_var (i := 4) rfl) rfl) (simA_own (i := 3) rfl simA_nil) rfl))) rfl rfl (by decide) (show 1 < 5 by decide) (show 3 < 5 by decide))) rfl) (simS_seq (simS_dset (i := 1) (simE_var (i := 2) rfl) (simE_var (i := 4) rfl) rfl rfl rfl rfl rfl)
      (simS_ret simE_bl rfl rfl rfl rfl)) (simS_next rfl) rfl rfl)) (simS_next rfl) rfl rfl) rfl rfl rfl rfl)
      (simS_ret simE_bl rfl rfl rfl rfl)) ?_)⟩)
    clear G_l_under G_l_freed
    rintro ds Q X ⟨ss, D, one, s, S, rfl, sl, hs, so, hm, dok, inj, nv, q⟩
    have e9 : (ss.map spV).length = ss.length := List.length_map ..
    refine ⟨⟨by omega, by omega⟩, fun i env => ∃ (y4 : Option Val) (S1 : List Int), env = [some (.lst (ss.map spV)), some (diV D), some (.int (one : Int)), some (.lst (S1.map Val.int)), y4] ∧ SeenOk ss.length S1 ∧ ∀ x ∈ S, x ∈ S1, ⟨none, S, rfl, so, fun _ h => h⟩, ?_, ?_⟩
    · rintro i v env hi ⟨y4, S1, rfl, so1, sub⟩
      obtain ⟨ii, rfl⟩ := rngV_at hi
      have ii : i < ss.length := by
        have := ii
        omega
      rw [Int.zero_add]
      obtain ⟨t, ht⟩ : ∃ t, ss[i]? = some t := ⟨_, List.getElem?_eq_getElem ii⟩
      refine ⟨rfl, rfl, ss, one, i, s, t, rfl, hs, ht, ?_⟩
      cases hu : unB s t one i with
      | false => exact ⟨_, S1, rfl, so1, sub⟩
      | true =>
        by_cases hin : (i : Int) ∈ S1
        · refine ⟨(i : Int), S1, rfl, rfl, ?_⟩
          refine ifF (by rw [decide_eq_true hin]; rfl) ?_
          exact ⟨_, S1, rfl, so1, sub⟩
        refine ⟨(i : Int), S1, rfl, rfl, ?_⟩
        refine ifT (by rw [decide_eq_false hin]; rfl) ?_
        have so2 := so1.add hin (by omega) (by omega)
        have l1 := so1.len
        have no : (i : Int) ∉ S := fun z => hin (sub _ z)
        have yes : (i : Int) ∈ S1 ++ [(i : Int)] := List.mem_append_right _ (List.mem_singleton.mpr rfl)
        have sub2 : ∀ x ∈ S, x ∈ S1 ++ [(i : Int)] := fun x hx => List.mem_append_left _ (sub x hx)
        have un : Un ss (one : Int) (i : Int) := ⟨by omega, by omega, s, t, hs, ht, hu⟩
        refine ⟨rfl, by rw [List.length_map]; omega, ?_⟩
        refine ⟨D, (i : Int), rfl, rfl, ?_⟩
        have dl := dok.len
        cases hw : lookI D (i : Int) with
        | none =>
          refine ⟨D, rfl, D, (i : Int), (one : Int), rfl, rfl, rfl, by omega, ?_⟩
          have := q (putI D i one) (S1 ++ [(i : Int)]) true (dok.put un) so2 sub2 (Freed.fin sub2 no yes inj nv (fun _ _ => rfl) (inj.mono sub2) fun v => by
            rw [hw]
            exact ⟨.inr, fun z => z.elim (fun y => by cases y) id⟩)
          rw [List.map_append] at this
          exact this
        | some wv =>
          obtain ⟨u0, _, sw, _, hsw, _, _⟩ := dok.un _ _ hw
          obtain ⟨W, rfl⟩ : ∃ W : Nat, wv = (W : Int) := ⟨wv.toNat, by omega⟩
          refine ⟨D, (i : Int), (W : Int), rfl, rfl, hw, ?_⟩
          cases m with
          | zero =>
            have := (so.add no (by omega) (by omega)).len
            rw [List.length_append, List.length_singleton] at this
            omega
          | succ m =>
            have nv2 : ¬ Vals7 D (S1 ++ [(i : Int)]) (W : Int) := fun ⟨k, h1, e1⟩ => h1 (by rw [inj k (i : Int) (W : Int) (fun z => h1 (sub2 _ z)) no e1 hw]; exact yes)
            have ln : ss.length ≤ (S1 ++ [(i : Int)]).length + m := by
              have := nodup_le so.nd sub
              rw [List.length_append, List.length_singleton]
              omega
            refine ⟨ss, D, W, sw, S1 ++ [(i : Int)], by rw [List.map_append]; rfl, sl, hsw, so2, ln, dok, inj.mono sub2, nv2, fun D2 S3 b dok2 so3 sub3 fr => ?_⟩
            cases b with
            | false =>
              have e2 : D2 = D := fr
              subst e2
              exact ⟨_, S3, rfl, so3, fun x hx => sub3 x (sub2 x hx)⟩
            | true =>
              have fr : Freed D D2 (S1 ++ [(i : Int)]) (W : Int) := fr
              have dl2 := dok2.len
              refine ⟨D2, rfl, D2, (i : Int), (one : Int), rfl, rfl, rfl, by omega, ?_⟩
              exact q (putI D2 i one) S3 true (dok2.put un) so3 (fun x hx => sub3 x (sub2 x hx)) (Freed.fin sub2 no yes inj nv fr.same fr.inj fun v => by
                rw [fr.vals v, hw]
                exact ⟨fun z => z.imp (fun y => by rw [y]) id, fun z => z.imp (fun y => (Option.some.inj y).symm) id⟩)
    · rintro env ⟨y4, S1, rfl, so1, sub⟩
      exact q D S1 false dok so1 sub rfl
end
theorem get_diE (D : List (Int × Int)) (k : Int) : getKV (D.map diE) (.inl k) = (lookI D k).map Val.int := by
  unfold getKV lookI
  induction D with
  | nil => rfl
  | cons r t ih =>
    rw [List.map_cons, List.find?_cons, List.find?_cons]
    have e : decide ((diE r).1 = (Sum.inl k : Key)) = decide (r.1 = k) := by
      show decide ((Sum.inl r.1 : Key) = Sum.inl k) = _
      rw [Bool.eq_iff_iff, decide_eq_true_iff, decide_eq_true_iff]
      exact ⟨fun z => Sum.inl.inj z, fun z => by rw [z]⟩
    rw [e]
    cases decide (r.1 = k) with
    | true => rfl
    | false => exact ih
theorem flat_diE : ∀ D : List (Int × Int), Val.flatAllD (D.map diE) = true
  | [] => rfl
  | (k, v) :: D => by
    show ((Val.int v).flat && Val.flatAllD (D.map diE)) = true
    rw [flat_diE D]
    rfl
theorem keys_diE (D : List (Int × Int)) : (D.map diE).map (fun p => kVV p.1) = (D.map (·.1)).map Val.int := by
  rw [List.map_map, List.map_map]
  rfl
/-- a chain as it grows -/
structure ChOk (ss : List Span) (N : List (Int × Int)) (one : Int) (c : List Int) : Prop where
  hd : one ∈ c
  ne : c ≠ []
  pw : c.Pairwise (Un ss)
  rg : ∀ x ∈ c, 0 ≤ x ∧ x < (ss.length : Int)
  cl : ∀ v ∈ c, c.getLast? = some v ∨ ∀ y, lookI N v = some y → y ∈ c
theorem ChOk.len {ss : List Span} {N : List (Int × Int)} {one : Int} {c : List Int} (h : ChOk ss N one c) : c.length ≤ ss.length :=
  SeenOk.len ⟨h.pw.imp fun {a b} u e => by rw [e] at u; exact Un.irr u, h.rg⟩
theorem ChOk.start {ss : List Span} {N : List (Int × Int)} {one : Int} (h0 : 0 ≤ one) (h1 : one < (ss.length : Int)) : ChOk ss N one [one] :=
  ⟨List.mem_singleton.mpr rfl, (fun z => nomatch z), List.pairwise_singleton _ _, fun x hx => by rw [List.mem_singleton.mp hx]; exact ⟨h0, h1⟩, fun v hv => .inl (by rw [List.mem_singleton.mp hv]; rfl)⟩
theorem ChOk.next {ss : List Span} {N : List (Int × Int)} {one x y : Int} {c : List Int} (h : ChOk ss N one c) (hl : c.getLast? = some x) (hn : lookI N x = some y) (u : Un ss x y) : ChOk ss N one (c ++ [y]) := by
  have xin : x ∈ c := List.mem_of_getLast? hl
  refine ⟨List.mem_append_left _ h.hd, (fun z => by simp at z), List.pairwise_append.mpr ⟨h.pw, List.pairwise_singleton _ _, fun a ha b hb => ?_⟩, fun z hz => ?_, fun v hv => ?_⟩
  · rw [List.mem_singleton.mp hb]
    obtain ⟨c0, e⟩ : ∃ c0, c = c0 ++ [x] := by
      rcases List.eq_nil_or_concat c with z | ⟨c0, w, z⟩
      · exact absurd z h.ne
      · rw [List.concat_eq_append] at z
        rw [z, List.getLast?_concat] at hl
        cases hl
        exact ⟨c0, z⟩
    rw [e] at ha
    rcases List.mem_append.mp ha with z | z
    · have := h.pw
      rw [e] at this
      exact ((List.pairwise_append.mp this).2.2 a z x (List.mem_singleton.mpr rfl)).trans u
    · rw [List.mem_singleton.mp z]
      exact u
  · rcases List.mem_append.mp hz with w | w
    · exact h.rg z w
    · rw [List.mem_singleton.mp w]
      exact u.rg.2
  · rw [List.getLast?_concat]
    rcases List.mem_append.mp hv with w | w
    · right
      intro y' hy'
      rcases h.cl v w with e | e
      · rw [hl] at e
        cases e
        rw [hn] at hy'
        cases hy'
        exact List.mem_append_right _ (List.mem_singleton.mpr rfl)
      · exact List.mem_append_left _ (e y' hy')
    · exact .inl (by rw [List.mem_singleton.mp w])
/-- nothing is left out -/
theorem all_chained {ss : List Span} {D N : List (Int × Int)} {LL : List (List Int)} (pos : ∀ s ∈ ss, s.1 < s.2) (sl : ss.length ≤ 100) (dok : DOk ss D) (nn : ∀ y v, lookI D y = some v → lookI N v = some y)
    (st : ∀ x : Nat, x < ss.length → lookI D (x : Int) = none → ∃ r ∈ LL, (x : Int) ∈ r) (cl : ∀ r ∈ LL, ∀ v ∈ r, ∀ y, lookI N v = some y → y ∈ r) : ∀ x : Nat, x < ss.length → ∃ r ∈ LL, (x : Int) ∈ r := by
  have key : ∀ (m x : Nat) (t : Span), ss[x]? = some t → ((t.2 - t.1) * 100 + (x : Int)).toNat ≤ m → ∃ r ∈ LL, (x : Int) ∈ r := by
    intro m
    induction m with
    | zero =>
      intro x t ht hm
      have := pos t (List.mem_of_getElem? ht)
      omega
    | succ m ih =>
      intro x t ht hm
      have xl := (List.getElem?_eq_some_iff.mp ht).1
      cases hD : lookI D (x : Int) with
      | none => exact st x xl hD
      | some v =>
        obtain ⟨h0, _, s, t', hs, ht', u⟩ := dok.un _ _ hD
        obtain ⟨V, rfl⟩ : ∃ V : Nat, v = (V : Int) := ⟨v.toNat, by omega⟩
        rw [Int.toNat_natCast] at hs ht'
        rw [ht] at ht'
        cases ht'
        have vl := (List.getElem?_eq_some_iff.mp hs).1
        have p1 := pos s (List.mem_of_getElem? hs)
        have lt : ((s.2 - s.1) * 100 + (V : Int)).toNat ≤ m := by
          rcases unB_iff.mp u with ⟨e, l⟩ | ⟨ne, l1, l2⟩
          · subst e
            omega
          · have : s.2 - s.1 < t.2 - t.1 := by
              by_cases z : s.2 - s.1 < t.2 - t.1
              · exact z
              · exact absurd (Prod.ext (by omega) (by omega)) ne
            omega
        obtain ⟨r, hr, hv⟩ := ih V s hs lt
        exact ⟨r, hr, cl r hr _ hv _ (nn _ _ hD)⟩
  intro x hx
  obtain ⟨t, ht⟩ : ∃ t, ss[x]? = some t := ⟨_, List.getElem?_eq_getElem hx⟩
  exact key _ x t ht (Nat.le_refl _)
def len6 (env : VEnv) : Nat := match env[6]? with
  | some (some (Val.lst xs)) => 200 - xs.length
  | _ => 0
section
variable {P : Program} {w : World} {K : PySem.W.Frag} {mg : Str → Option Value} {base : Heap}
def cChains : VSpec := fun ds Q _ => ∃ (ss : List Span) (D : List (Int × Int)), ds = [.fdc (D.map diE), .int (ss.length : Int)] ∧ ss.length ≤ 100 ∧ (∀ s ∈ ss, s.1 < s.2) ∧ DOk ss D ∧ Inj D [] ∧ ∀ LL : List (List Int), LL.length ≤ ss.length → (∀ r ∈ LL, r.length ≤ ss.length) → (∀ x : Nat, x < ss.length → ∃ r ∈ LL, (x : Int) ∈ r) → Q [] (chV LL)
theorem M_l_chains : Mono cChains := fun ds Q Q' E E' h _ ⟨ss, D, a, b, c, d, e, q⟩ => ⟨ss, D, a, b, c, d, e, fun LL h1 h2 h3 => h _ _ (q LL h1 h2 h3)⟩
theorem v_l_chains (T : Tx K mg) : FnOk P w K mg base CX0 (1) T.f_l_chains T.fd_l_chains ["_law_there", "_law_many_here"] (vsp K T.tabs [] 2 cChains) := by
  refine T.F_l_chains.ok sc_l_chains (fun vs H Q E h => vsp_len h) (fun cdv A outer s H vs Q E hr h => ⟨_, (pss_cons (ps_set (i := 2) sc_l_chains.nd rfl (Or.inl rfl) pe_dnewK)
      (pss_cons (ps_for PassesOwn.never (by rfl) (pi_keys (pv 0)) (pg_name (i := 3) sc_l_chains.nd rfl (Or.inl rfl))
        (pss_one (ps_asg (pv 3) (pg_sub (pv 2) (pe_dget (room_u hr) (pv 0) (pv 3) (fun _ _ => rfl)) (set_dict (room_u hr))))))
      (pss_cons (ps_set (i := 4) sc_l_chains.nd rfl (Or.inl rfl) (pe_lst pa_nil))
      (pss_cons (ps_for PassesOwn.never (by rfl) (pi_range1 (by rfl) T.m_range (pa_cons (pv 1) pa_nil)) (pg_name (i := 5) sc_l_chains.nd rfl (Or.inl rfl))
        (pss_one (ps_if (pt_cmp (pc_dnotin (room_u hr) (pv 5) (pv 0)) (by rfl)) (pss_cons (ps_set (i := 6) sc_l_chains.nd rfl (Or.inl rfl) (pe_lst (pa_cons (pv 5) pa_nil)))
      (pss_cons (ps_while PassesOwn.never (pt_cmp (pc_din (room_u hr) (pe_ix ix_list (pv 6) (pe_un un_neg pe_int) (fun _ _ => rfl)) (pv 2)) (by rfl))
        (pss_one (ps_expr (pe_bm PySem.F.plainAttrs_list PySem.F.slot_list_append PySem.F.type_list_append mt_append (pv 6) (pa_cons (pe_dget (room_u hr) (pv 2) (pe_ix ix_list (pv 6) (pe_un un_neg pe_int) (fun _ _ => rfl)) (fun _ _ => rfl)) pa_nil)))))
      (pss_one (ps_expr (pe_bm PySem.F.plainAttrs_list PySem.F.slot_list_append PySem.F.type_list_append mt_append (pv 4) (pa_cons (pe_frzM (pv 6)) pa_nil)))))) pss_nil)))
      (pss_one (ps_ret (pv 4))))))), (vfn (N := 7) (lo := [2, 4, 6]) (Ef := [2, 4, 6]) U0 h rfl (by decide) rfl rfl hU0 (simS_seq (simS_setO (i := 2) simE_dnew (show 2 < 7 by decide) rfl rfl rfl rfl rfl)
      (simS_seq (simS_for (E' := [2]) (simI_keys (simE_var (i := 0) rfl)) (simG_name (i := 3) (show 3 < 7 by decide) rfl rfl) (simS_dset (i := 2) (simE_var (i := 3) rfl) (simE_dixK (simE_var (i := 0) rfl) (simE_var (i := 3) rfl) rfl) rfl rfl rfl rfl rfl) rfl rfl rfl rfl)
      (simS_seq (simS_setO (i := 4) (simE_lst simA_nil (by decide)) (show 4 < 7 by decide) rfl rfl rfl rfl rfl)
      (simS_seq (simS_for (E' := [4, 6]) (simI_rng1 (simA_varF (i := 1) simA_nil)) (simG_name (i := 5) (show 5 < 7 by decide) rfl rfl) (simS_if (simT_tB (simE_dninK (simE_var (i := 5) rfl) (simE_var (i := 0) rfl) rfl)) (simS_seq (simS_setO (i := 6) (simE_lst (simA_varF (i := 5) simA_nil) (by decide)) (show 6 < 7 by decide) rfl rfl rfl rfl rfl)
      (simS_seq (simS_while (simT_tB (simE_din (simE_ixL (simE_own (i := 6)) (simE_neg simE_int) rfl) (simE_own (i := 2)) rfl)) (simS_expr (simE_app (i := 6) (simE_dix (simE_own (i := 2)) (simE_ixL (simE_own (i := 6)) (simE_neg simE_int) rfl) rfl) rfl) rfl rfl) rfl rfl)
      (simS_expr (simE_appN (i := 4) (simE_frzLO (i := 6) (show 6 < 7 by decide) rfl) rfl) rfl rfl))) (simS_next rfl) rfl rfl) rfl rfl rfl rfl)
      (simS_ret (simE_move (i := 4) rfl) rfl rfl rfl rfl))))) ?_)⟩)
  rintro ds Q X ⟨ss, D, rfl, sl, pos, dok, inj, q⟩
  have dl := dok.len
  refine ⟨D.map diE, rfl, ?_⟩
  rw [keys_diE]
  refine ⟨fun i env => ∃ (y3 : Option Val) (N : List (Int × Int)), env = [some (.fdc (D.map diE)), some (.int (ss.length : Int)), some (diV N), y3, none, none, none] ∧ N.length ≤ i ∧ (∀ v y, lookI N v = some y → lookI D y = some v) ∧ ∀ y ∈ (D.map (·.1)).take i, ∀ v, lookI D y = some v → lookI N v = some y, ⟨none, [], rfl, Nat.le_refl _, (fun _ _ h => nomatch h), fun _ h => nomatch h⟩, ?_, ?_⟩
  · rintro i v env hi ⟨y3, N, rfl, nl, n1, n2⟩
    rw [List.getElem?_map] at hi
    obtain ⟨y, hy, rfl⟩ := Option.map_eq_some_iff.mp hi
    have il : i < (D.map (·.1)).length := (List.getElem?_eq_some_iff.mp hy).1
    rw [List.length_map] at il
    obtain ⟨v, hv⟩ := lookI_mem (List.mem_of_getElem? hy)
    refine ⟨N, rfl, D.map diE, .inl y, .int v, .inl rfl, rfl, by rw [get_diE, hv]; rfl, rfl, N, v, y, rfl, rfl, rfl, by omega, ?_⟩
    have tk : (D.map (·.1)).take (i + 1) = (D.map (·.1)).take i ++ [y] := by
      rw [List.take_add_one, hy]
      rfl
    have pl := putI_len N v y
    refine ⟨some (.int y), putI N v y, rfl, by omega, fun v' y' hl => ?_, fun y' hy' v' hv' => ?_⟩
    · rw [look_put] at hl
      by_cases e : v' = v
      · rw [if_pos e] at hl
        cases hl
        rw [e]
        exact hv
      · rw [if_neg e] at hl
        exact n1 v' y' hl
    · rw [look_put]
      by_cases e : v' = v
      · rw [if_pos e]
        subst e
        rw [inj y y' v' List.not_mem_nil List.not_mem_nil hv hv']
      · rw [if_neg e]
        rw [tk] at hy'
        rcases List.mem_append.mp hy' with z | z
        · exact n2 y' z v' hv'
        · rw [List.mem_singleton.mp z, hv] at hv'
          exact absurd (Option.some.inj hv').symm e
  · rintro env ⟨y3, N, rfl, nl, n1, n2⟩
    rw [List.length_map, List.take_of_length_le (by rw [List.length_map]; exact Nat.le_refl _)] at n2
    rw [List.length_map, List.length_map] at nl
    have nn : ∀ y v, lookI D y = some v → lookI N v = some y := fun y v h => n2 y (lookI_key h) v h
    clear n2
    refine ⟨rfl, ⟨by omega, by omega⟩, fun i env => ∃ (y5 y6 : Option Val) (LL : List (List Int)), env = [some (.fdc (D.map diE)), some (.int (ss.length : Int)), some (diV N), y3, some (chV LL), y5, y6] ∧ LL.length ≤ i ∧ (∀ r ∈ LL, r.length ≤ ss.length) ∧ (∀ r ∈ LL, ∀ v ∈ r, ∀ y, lookI N v = some y → y ∈ r) ∧ ∀ x : Nat, x < i → lookI D (x : Int) = none → ∃ r ∈ LL, (x : Int) ∈ r, ⟨none, none, [], rfl, Nat.le_refl _, (fun _ h => nomatch h), (fun _ h => nomatch h), fun x hx => absurd hx (Nat.not_lt_zero _)⟩, ?_, ?_⟩
    · rintro i v env hi ⟨y5, y6, LL, rfl, ll, rl, cl, st⟩
      obtain ⟨ii, rfl⟩ := rngV_at hi
      have ii : i < ss.length := by
        have := ii
        omega
      rw [Int.zero_add]
      refine ⟨D.map diE, .inl (i : Int), .inl rfl, rfl, ?_⟩
      rw [get_diE, Option.isSome_map]
      cases hD : lookI D (i : Int) with
      | some v =>
        refine ⟨_, _, LL, rfl, by omega, rl, cl, fun x hx h => ?_⟩
        by_cases e : x = i
        · rw [e, hD] at h
          cases h
        · exact st x (by omega) h
      | none =>
        refine ⟨rfl, ?_⟩
        refine ⟨fun env => ∃ c : List Int, env = [some (.fdc (D.map diE)), some (.int (ss.length : Int)), some (diV N), y3, some (chV LL), some (.int (i : Int)), some (.lst (c.map Val.int))] ∧ ChOk ss N (i : Int) c, fun env => len6 env, ⟨[(i : Int)], rfl, ChOk.start (by omega) (by omega)⟩, ?_⟩
        rintro env ⟨c, rfl, ch⟩
        have cl2 := ch.len
        obtain ⟨c0, x, ec⟩ : ∃ c0 x, c = c0 ++ [x] := by
          rcases List.eq_nil_or_concat c with z | ⟨c0, w, z⟩
          · exact absurd z ch.ne
          · rw [List.concat_eq_append] at z
            exact ⟨c0, w, z⟩
        have hl : c.getLast? = some x := by rw [ec, List.getLast?_concat]
        have hlast : atI (c.map Val.int) (-1) = some (.int x) := by
          rw [ec, List.map_append]
          exact atI_last _ _
        conv => whnf
        rw [hlast]
        refine ⟨N, x, rfl, rfl, ?_⟩
        cases hn : lookI N x with
        | none =>
          refine ⟨c.map Val.int, rfl, flatI _, by rw [List.length_map]; omega, some (.int (i : Int)), some (.frz (c.map Val.int)), LL ++ [c], ?_, by rw [List.length_append, List.length_singleton]; omega, fun r hr => ?_, fun r hr v hv y hy => ?_, fun z hz h => ?_⟩
          · unfold chV
            rw [List.map_append]
            rfl
          · rcases List.mem_append.mp hr with z | z
            · exact rl r z
            · rw [List.mem_singleton.mp z]
              exact cl2
          · rcases List.mem_append.mp hr with z | z
            · exact cl r z v hv y hy
            · rw [List.mem_singleton.mp z] at hv ⊢
              rcases ch.cl v hv with e | e
              · rw [hl] at e
                cases e
                rw [hn] at hy
                cases hy
              · exact e y hy
          · by_cases e : z = i
            · exact ⟨c, List.mem_append_right _ (List.mem_singleton.mpr rfl), by rw [e]; exact ch.hd⟩
            · obtain ⟨r, hr, h2⟩ := st z (by omega) h
              exact ⟨r, List.mem_append_left _ hr, h2⟩
        | some y =>
          have u : Un ss x y := dok.un y x (n1 x y hn)
          have ch2 := ch.next hl hn u
          have cl3 := ch2.len
          conv => whnf
          rw [hlast]
          refine ⟨N, x, y, rfl, rfl, hn, rfl, by rw [List.length_map]; omega, ⟨c ++ [y], by rw [List.map_append]; rfl, ch2⟩, ?_⟩
          show 200 - ((c.map Val.int) ++ [Val.int y]).length < 200 - (c.map Val.int).length
          rw [List.length_append, List.length_map, List.length_singleton]
          omega
    · rintro env ⟨y5, y6, LL, rfl, ll, rl, cl, st⟩
      rw [rngV_len] at ll st
      exact q LL (by omega) rl (all_chained pos sl dok nn (fun x hx h => st x (by omega) h) cl)
end
section
variable {P : Program} {w : World} {K : PySem.W.Frag} {mg : Str → Option Value} {base : Heap}
theorem v_l_freed (T : Tx K mg) : FnOk P w K mg base CX0 (70) T.f_l_freed T.fd_l_freed ["_law_spans", "_law_there", "_law_one", "_law_seen"] (vsp K T.tabs [1, 3] 4 (cFreed 65)) := (v_freed T 65).mono (by decide)
/-- loose ones that stand in chains -/
structure LoOk (n : Nat) (ch : List Int) (LL : List (List Int)) : Prop where
  nd : SeenOk n ch
  ll : LL.length ≤ n
  rl : ∀ r ∈ LL, r.length ≤ n
  home : ∀ x ∈ ch, ∃ r ∈ LL, x ∈ r
def cLoose : VSpec := fun ds Q _ => ∃ ss : List Span, ds = [.lst (ss.map spV)] ∧ ss.length ≤ 60 ∧ (∀ s ∈ ss, s.1 < s.2) ∧ ∀ (ch : List Int) (LL : List (List Int)), LoOk ss.length ch LL → Q [] (.tup [.lst (ch.map Val.int), chV LL])
theorem M_l_loose : Mono cLoose := fun ds Q Q' E E' h _ ⟨ss, a, b, c, q⟩ => ⟨ss, a, b, c, fun ch LL z => h _ _ (q ch LL z)⟩
theorem SeenOk.nil {n : Nat} : SeenOk n [] := ⟨List.nodup_nil, fun _ h => nomatch h⟩
theorem SeenOk.filt {n : Nat} (p : Int → Bool) : SeenOk n (((List.range n).map fun (k : Nat) => (0 : Int) + (k : Int)).filter p) := by
  refine ⟨List.Nodup.sublist List.filter_sublist ?_, fun x hx => ?_⟩
  · rw [List.nodup_iff_pairwise_ne, List.pairwise_map]
    exact List.nodup_range.imp fun {a b} h e => h (by omega)
  · obtain ⟨k, hk, e⟩ := List.mem_map.mp (List.mem_filter.mp hx).1
    rw [List.mem_range] at hk
    omega
def at7 (env : VEnv) : Nat := match env[7]? with
  | some (some (Val.int x)) => 200 - x.toNat
  | _ => 0
theorem v_l_loose (T : Tx K mg) : FnOk P w K mg base CX0 (71) T.f_l_loose T.fd_l_loose ["_law_spans"] (vsp K T.tabs [] 1 cLoose) := by
  have G_l_under : FnOk P w K mg base CX0 _ _ _ _ _ := v_l_under T
  have G_l_freed : FnOk P w K mg base CX0 _ _ _ _ _ := v_l_freed T
  have G_l_chains : FnOk P w K mg base CX0 _ _ _ _ _ := v_l_chains T
  refine T.F_l_loose.ok sc_l_loose (fun vs H Q E h => vsp_len h) (fun cdv A outer s H vs Q E hr h => ⟨_, (pss_cons (ps_set (i := 1) sc_l_loose.nd rfl (Or.inr rfl) pe_dnewK)
      (pss_cons (ps_for PassesOwn.never (by rfl) (pi_range1 (by rfl) T.m_range (pa_cons (pe_callB call_len_seq (by rfl) T.m_len PySem.boot_len (pa_cons (pv 0) pa_nil)) pa_nil)) (pg_name (i := 2) sc_l_loose.nd rfl (Or.inl rfl))
        (pss_one (ps_expr (pe_call G_l_freed (hr.mono (by decide)) (by rfl) T.g_l_freed T.F_l_freed.kp T.b_l_freed .nil pass0 (pa_cons (pv 0) (pa_cons (pv 1) (pa_cons (pv 2) (pa_cons (pe_lst pa_nil) pa_nil))))))))
      (pss_cons (ps_set (i := 4) sc_l_loose.nd rfl (Or.inr rfl) (pe_lc (own := [("_law_other", 3)]) (g := (gName 3)) (by rfl) sc_l_loose.nd (pi_keys (pe_frzM (pv 1))) (blkOk_by (own := [("_law_other", 3)]) (N := N_l_loose) (sc := defScope s_l_loose) (by decide +kernel)) (fun _ _ _ _ _ => (pg_name (i := 3) sc_l_loose.nd rfl (Or.inl rfl))) (fun _ _ _ _ _ => pts_nil) (fun _ _ _ _ _ => (pe_dget (room_u hr) (pv 1) (pv 3) (fun _ _ => rfl)))))
      (pss_cons (ps_set (i := 5) sc_l_loose.nd rfl (Or.inr rfl) (pe_lc (own := [("_law_one", 2)]) (g := (gName 2)) (by rfl) sc_l_loose.nd (pi_range1 (by rfl) T.m_range (pa_cons (pe_callB call_len_seq (by rfl) T.m_len PySem.boot_len (pa_cons (pv 0) pa_nil)) pa_nil)) (blkOk_by (own := [("_law_one", 2)]) (N := N_l_loose) (sc := defScope s_l_loose) (by decide +kernel)) (fun _ _ _ _ _ => (pg_name (i := 2) sc_l_loose.nd rfl (Or.inl rfl))) (fun _ _ _ _ _ => (pts_one (pt_cmpR (show OpR _ (compareOp _) (rIn K true) from op_notIn_seq) (pv 2) (pv 4) (by rfl)))) (fun _ _ _ _ _ => (pv 2))))
      (pss_cons (ps_set (i := 6) sc_l_loose.nd rfl (Or.inr rfl) (pe_lst pa_nil))
      (pss_cons (ps_set (i := 7) sc_l_loose.nd rfl (Or.inl rfl) pe_int)
      (pss_cons (ps_while PassesOwn.never (pt_cmpR op_lt (pv 7) (pe_callB call_len_seq (by rfl) T.m_len PySem.boot_len (pa_cons (pv 5) pa_nil)) (nomark _))
        (pss_cons (ps_for PassesOwn.never (by rfl) (pi_range1 (by rfl) T.m_range (pa_cons (pe_callB call_len_seq (by rfl) T.m_len PySem.boot_len (pa_cons (pv 0) pa_nil)) pa_nil)) (pg_name (i := 3) sc_l_loose.nd rfl (Or.inl rfl))
        (pss_one (ps_if (PW.pt (pw_and (pt_val (pe_call G_l_under (hr.mono (by decide)) (by rfl) T.g_l_under T.F_l_under.kp T.b_l_under .nil pass0 (pa_cons (pv 0) (pa_cons (pe_ix ix_list (pv 5) (pv 7) (fun _ _ => rfl)) (pa_cons (pv 3) pa_nil))))) (pw_and1 (pt_cmpR op_notIn_seq (pv 3) (pv 6) (by rfl))))) (pss_cons (ps_expr (pe_bm PySem.F.plainAttrs_list PySem.F.slot_list_append PySem.F.type_list_append mt_append (pv 6) (pa_cons (pv 3) pa_nil)))
      (pss_one (ps_if (PW.pt (pw_and (pt_cmp (pc_din (room_u hr) (pv 3) (pv 1)) (by rfl)) (pw_and1 (pt_cmpR op_notIn_seq (pe_dget (room_u hr) (pv 1) (pv 3) (fun _ _ => rfl)) (pv 5) (by rfl))))) (pss_one (ps_expr (pe_bm PySem.F.plainAttrs_list PySem.F.slot_list_append PySem.F.type_list_append mt_append (pv 5) (pa_cons (pe_dget (room_u hr) (pv 1) (pv 3) (fun _ _ => rfl)) pa_nil)))) pss_nil))) pss_nil)))
      (pss_one (ps_set (i := 7) sc_l_loose.nd rfl (Or.inl rfl) (pe_op op_add (pv 7) pe_int)))))
      (pss_cons (ps_setLc (i := 8) (own := [("_law_one", 2)]) (g := (gName 2)) (by rfl) sc_l_loose.nd rfl rfl (sw_true rfl rfl rfl (by decide +kernel)) (pi_range1 (by rfl) T.m_range (pa_cons (pe_callB call_len_seq (by rfl) T.m_len PySem.boot_len (pa_cons (pv 0) pa_nil)) pa_nil)) (blkOk_by (own := [("_law_one", 2)]) (N := N_l_loose) (sc := defScope s_l_loose) (by decide +kernel)) (fun _ _ _ _ _ => (pg_name (i := 2) sc_l_loose.nd rfl (Or.inl rfl))) (fun _ _ _ _ _ => (pts_one (PW.pt (pw_and (pt_cmpR (show OpR _ (compareOp _) (rIn K false) from op_in_seq) (pv 2) (pv 5) (by rfl)) (pw_and1 (pt_cmpR (show OpR _ (compareOp _) (rIn K true) from op_notIn_seq) (pv 2) (pv 6) (by rfl))))))) (fun _ _ _ _ _ => (pv 2)))
      (pss_one (ps_ret (pe_tup (pa_cons (pv 8) (pa_cons (pe_call G_l_chains (hr.mono (by decide)) (by rfl) T.g_l_chains T.F_l_chains.kp T.b_l_chains .nil pass0 (pa_cons (pv 1) (pa_cons (pe_callB call_len_seq (by rfl) T.m_len PySem.boot_len (pa_cons (pv 0) pa_nil)) pa_nil))) pa_nil))))))))))))), (vfn (N := 9) (lo := [1, 5, 6, 8]) (Ef := [1, 5, 6, 8]) U0 h rfl (by decide) rfl rfl hU0 (simS_seq (simS_setO (i := 1) simE_dnew (show 1 < 9 by decide) rfl rfl rfl rfl rfl)
      (simS_seq (simS_for (E' := [1]) (simI_rng1 (simA_consF (simE_cb cb_len (simA_var (i := 0) rfl simA_nil)) simA_nil rfl rfl rfl rfl rfl)) (simG_name (i := 2) (show 2 < 9 by decide) rfl rfl) (simS_expr (simE_callN13 (a := 0) (i := 1) (b := 2) M_l_freed (simE_lst simA_nil (by decide)) rfl rfl (show 1 < 9 by decide) (show 0 < 9 by decide) (show 2 < 9 by decide)) rfl rfl) rfl rfl rfl rfl)
      (simS_seq (simS_asg (simE_lc (fx := [0, 1, 2, 4, 5, 6, 7, 8]) (simI_keys (simE_frzO (i := 1) (show 1 < 9 by decide) rfl)) (simG_name (i := 3) (show 3 < 9 by decide) rfl rfl) simT_yes (simE_dixK (simE_own (i := 1)) (simE_var (i := 3) rfl) rfl) rfl rfl rfl) (simG_name (i := 4) (show 4 < 9 by decide) rfl rfl) rfl rfl)
      (simS_seq (simS_setO (i := 5) (simE_lc (fx := [0, 1, 3, 4, 5, 6, 7, 8]) (simI_rng1 (simA_consF (simE_cb cb_len (simA_var (i := 0) rfl simA_nil)) simA_nil rfl rfl rfl rfl rfl)) (simG_name (i := 2) (show 2 < 9 by decide) rfl rfl) (simT_test (simE_op r2_notInI (simE_var (i := 2) rfl) (simE_var (i := 4) rfl) rfl)) (simE_var (i := 2) rfl) rfl rfl rfl) (show 5 < 9 by decide) rfl rfl rfl rfl rfl)
      (simS_seq (simS_setO (i := 6) (simE_lst simA_nil (by decide)) (show 6 < 9 by decide) rfl rfl rfl rfl rfl)
      (simS_seq (simS_asg simE_int (simG_name (i := 7) (show 7 < 9 by decide) rfl rfl) rfl rfl)
      (simS_seq (simS_while (simT_test (simE_op r2_ib (simE_var (i := 7) rfl) (simE_cb cb_len (simA_cons (simE_own (i := 5)) simA_nil rfl)) rfl)) (simS_seq (simS_for (E' := [5, 6]) (simI_rng1 (simA_consF (simE_cb cb_len (simA_var (i := 0) rfl simA_nil)) simA_nil rfl rfl rfl rfl rfl)) (simG_name (i := 3) (show 3 < 9 by decide) rfl rfl) (simS_if (simT_and (simT_tB (simE_call0 M_l_under (simA_var (i := 0) rfl (simA_consF (simE_flat (simE_ixL (simE_own (i := 5)) (simE_var (i := 7) rfl) rfl)) (simA_varF (i := 3) simA_nil) rfl rfl rfl rfl rfl)) rfl rfl)) (simT_test (simE_op r2_notInI (simE_var (i := 3) rfl) (simE_own (i := 6)) rfl)) rfl) (simS_seq (simS_expr (simE_app (i := 6) (simE_var (i := 3) rfl) rfl) rfl rfl)
      (simS_if (simT_and (simT_tB (simE_dinK (simE_var (i := 3) rfl) (simE_own (i := 1)) rfl)) (simT_test (simE_op r2_notInI (simE_dixK (simE_own (i := 1)) (simE_var (i := 3) rfl) rfl) (simE_own (i := 5)) rfl)) rfl) (simS_expr (simE_app (i := 5) (simE_dixK (simE_own (i := 1)) (simE_var (i := 3) rfl) rfl) rfl) rfl rfl) (simS_next rfl) rfl rfl)) (simS_next rfl) rfl rfl) rfl rfl rfl rfl)
      (simS_asg (simE_op r2_ii (simE_var (i := 7) rfl) simE_int rfl) (simG_name (i := 7) (show 7 < 9 by decide) rfl rfl) rfl rfl)) rfl rfl)
      (simS_seq (simS_setO (i := 8) (simE_lc (fx := [0, 1, 3, 4, 5, 6, 7, 8]) (simI_rng1 (simA_consF (simE_cb cb_len (simA_var (i := 0) rfl simA_nil)) simA_nil rfl rfl rfl rfl rfl)) (simG_name (i := 2) (show 2 < 9 by decide) rfl rfl) (simT_and (simT_test (simE_op r2_inI (simE_var (i := 2) rfl) (simE_own (i := 5)) rfl)) (simT_test (simE_op r2_notInI (simE_var (i := 2) rfl) (simE_own (i := 6)) rfl)) rfl) (simE_var (i := 2) rfl) rfl rfl rfl) (show 8 < 9 by decide) rfl rfl rfl rfl rfl)
      (simS_ret (simE_tup (simA_consF (simE_move (i := 8) rfl) (simA_consF (simE_call0 M_l_chains (simA_consF (simE_flat (simE_own (i := 1))) (simA_consF (simE_cb cb_len (simA_var (i := 0) rfl simA_nil)) simA_nil rfl rfl rfl rfl rfl) rfl rfl rfl rfl rfl) rfl rfl) simA_nil rfl rfl rfl rfl rfl) rfl rfl rfl rfl rfl) (by decide)) rfl rfl rfl rfl))))))))) ?_)⟩)
  clear G_l_under G_l_freed G_l_chains
  rintro ds Q X ⟨ss, rfl, sl, pos, q⟩
  have e9 : (ss.map spV).length = ss.length := List.length_map ..
  refine ⟨⟨by omega, by omega⟩, fun i env => ∃ (y2 : Option Val) (D : List (Int × Int)), env = [some (.lst (ss.map spV)), some (diV D), y2, none, none, none, none, none, none] ∧ DOk ss D ∧ Inj D [] ∧ ∀ v, Vals7 D [] v → v < (i : Int), ⟨none, [], rfl, ⟨(fun _ _ h => nomatch h), List.nodup_nil⟩, (fun _ _ _ _ _ h => nomatch h), fun _ ⟨_, _, h⟩ => nomatch h⟩, ?_, ?_⟩
  · rintro i v env hi ⟨y2, D, rfl, dok, inj, vl⟩
    obtain ⟨ii, rfl⟩ := rngV_at hi
    have ii : i < ss.length := by
      have := ii
      omega
    rw [Int.zero_add]
    obtain ⟨s, hs⟩ : ∃ s, ss[i]? = some s := ⟨_, List.getElem?_eq_getElem ii⟩
    refine ⟨⟨_, _, _, rfl, rfl, rfl⟩, _, _, _, rfl, rfl, rfl, rfl, ss, D, i, s, [], rfl, by omega, hs, .nil, by show ss.length ≤ 0 + 64; omega, dok, inj, (fun h => by have := vl _ h; omega), fun D' S' b dok' so' sub' fr => ?_⟩
    cases b with
    | false =>
      have fr : D' = D := fr
      subst fr
      exact ⟨_, D', rfl, dok', inj, fun v h => by have := vl v h; omega⟩
    | true =>
      have fr : Freed D D' [] (i : Int) := fr
      exact ⟨_, D', rfl, dok', fr.inj, fun v h => by
        rcases (fr.vals v).mp h with e | e
        · omega
        · have := vl v e
          omega⟩
  rintro env ⟨y2, D, rfl, dok, inj, vl⟩
  clear vl
  have dl := dok.len
  refine .inl ⟨D.map diE, rfl, flat_diE D, D.map diE, rfl, ?_⟩
  rw [keys_diE]
  refine lc_map (D.map (·.1)) Val.int (fun k => Val.int ((lookI D k).getD 0)) ?_ (fun _ _ => rfl) (by rw [List.length_map]; omega) ?_
  · intro k hk R h
    obtain ⟨v, hv⟩ := lookI_mem hk
    rw [hv] at h
    exact ⟨D.map diE, .inl k, .int v, .inl rfl, rfl, by rw [get_diE, hv]; rfl, rfl, h⟩
  obtain ⟨B, hB⟩ : ∃ B : List Int, (D.map (·.1)).map (fun k => Val.int ((lookI D k).getD 0)) = B.map Val.int := ⟨(D.map (·.1)).map fun k => (lookI D k).getD 0, by rw [List.map_map (f := fun k => (lookI D k).getD 0)]; rfl⟩
  rw [hB]
  clear hB
  obtain ⟨n, hn⟩ : ∃ n, ((ss.map spV).length : Int).toNat = n := ⟨_, rfl⟩
  have en : n = ss.length := by omega
  have filt : ∀ p : Int → Bool, ((List.range n).filter fun (j : Nat) => p (0 + (j : Int))).map (fun (j : Nat) => Val.int (0 + (j : Int))) = ((((List.range ss.length).map fun (k : Nat) => (0 : Int) + (k : Int)).filter p).map Val.int) := fun p => by
    rw [en, List.filter_map, List.map_map]
    rfl
  refine ⟨⟨by omega, by omega⟩, ?_⟩
  rw [hn]
  refine lc_filter (List.range n) (fun (j : Nat) => .int (0 + (j : Int))) (fun j => true != decide ((0 + (j : Int)) ∈ B)) ?_ (fun _ _ => rfl) (by rw [List.length_range]; omega) ?_
  · intro j _ R R' h
    exact ⟨_, B, rfl, rfl, h⟩
  rw [filt fun x => true != decide (x ∈ B)]
  have so0 : SeenOk ss.length ((((List.range ss.length).map fun (k : Nat) => (0 : Int) + (k : Int)).filter fun x => true != decide (x ∈ B))) := .filt _
  generalize (((List.range ss.length).map fun (k : Nat) => (0 : Int) + (k : Int)).filter fun x => true != decide (x ∈ B)) = L0 at so0
  refine ⟨fun env => ∃ (y2 y3 : Option Val) (L A : List Int) (a : Nat), env = [some (.lst (ss.map spV)), some (.fdc (D.map diE)), y2, y3, some (.lst (B.map Val.int)), some (.lst (L.map Val.int)), some (.lst (A.map Val.int)), some (.int (a : Int)), none] ∧ SeenOk ss.length L ∧ SeenOk ss.length A ∧ a ≤ L.length, fun env => at7 env, ⟨none, none, L0, [], 0, rfl, so0, .nil, Nat.zero_le _⟩, ?_⟩
  rintro env ⟨y2, y3, L, A, a, rfl, soL, soA, al⟩
  have lL := soL.len
  by_cases hlt : (a : Int) < ((L.map Val.int).length : Int)
  · refine ifT (decide_eq_true hlt) ?_
    have hlt : a < L.length := by
      rw [List.length_map] at hlt
      omega
    refine ⟨⟨by omega, by omega⟩, fun i env => ∃ (y3 : Option Val) (L A : List Int), env = [some (.lst (ss.map spV)), some (.fdc (D.map diE)), y2, y3, some (.lst (B.map Val.int)), some (.lst (L.map Val.int)), some (.lst (A.map Val.int)), some (.int (a : Int)), none] ∧ SeenOk ss.length L ∧ SeenOk ss.length A ∧ a < L.length, ⟨y3, L, A, rfl, soL, soA, hlt⟩, ?_, ?_⟩
    · clear soL soA al lL hlt
      rintro j v env hj ⟨y3, L, A, rfl, soL, soA, hlt⟩
      obtain ⟨ji, rfl⟩ := rngV_at hj
      have jn : j < ss.length := by
        have := ji
        omega
      rw [Int.zero_add]
      obtain ⟨t, ht⟩ : ∃ t, ss[j]? = some t := ⟨_, List.getElem?_eq_getElem jn⟩
      obtain ⟨x, hx⟩ : ∃ x, L[a]? = some x := ⟨_, List.getElem?_eq_getElem hlt⟩
      have xr := soL.rg x (List.mem_of_getElem? hx)
      obtain ⟨X, rfl⟩ : ∃ X : Nat, x = (X : Int) := ⟨x.toNat, by omega⟩
      obtain ⟨s, hs⟩ : ∃ s, ss[X]? = some s := ⟨_, List.getElem?_eq_getElem (by omega)⟩
      conv => whnf
      rw [at_int hx]
      refine ⟨rfl, rfl, ss, X, j, s, t, rfl, hs, ht, ?_⟩
      have lL := soL.len
      have lA := soA.len
      cases hu : unB s t X j with
      | false => exact ⟨_, L, A, rfl, soL, soA, hlt⟩
      | true =>
        refine ⟨(j : Int), A, rfl, rfl, ?_⟩
        by_cases hA : (j : Int) ∈ A
        · refine ifF (by rw [decide_eq_true hA]; rfl) ?_
          exact ⟨_, L, A, rfl, soL, soA, hlt⟩
        refine ifT (by rw [decide_eq_false hA]; rfl) ?_
        have soA2 := soA.add hA (by omega) (by omega)
        refine ⟨rfl, by rw [List.length_map]; omega, ?_⟩
        refine ⟨D.map diE, .inl (j : Int), .inl rfl, rfl, ?_⟩
        rw [get_diE, Option.isSome_map]
        cases hD : lookI D (j : Int) with
        | none => exact ⟨some (.int (j : Int)), L, A ++ [(j : Int)], by rw [List.map_append]; rfl, soL, soA2, hlt⟩
        | some v =>
          have gv : getKV (D.map diE) (.inl (j : Int)) = some (.int v) := by rw [get_diE, hD]; rfl
          have vr := (dok.un _ _ hD).rg.1
          refine ⟨D.map diE, .inl (j : Int), .int v, .inl rfl, rfl, gv, rfl, v, L, rfl, rfl, ?_⟩
          by_cases hL : v ∈ L
          · refine ifF (by rw [decide_eq_true hL]; rfl) ?_
            exact ⟨some (.int (j : Int)), L, A ++ [(j : Int)], by rw [List.map_append]; rfl, soL, soA2, hlt⟩
          refine ifT (by rw [decide_eq_false hL]; rfl) ?_
          refine ⟨D.map diE, .inl (j : Int), .int v, .inl rfl, rfl, gv, rfl, rfl, by rw [List.length_map]; omega, ?_⟩
          exact ⟨some (.int (j : Int)), L ++ [v], A ++ [(j : Int)], by rw [List.map_append, List.map_append]; rfl, soL.add hL vr.1 vr.2, soA2, by rw [List.length_append]; omega⟩
    · rintro env ⟨y3, L, A, rfl, soL, soA, hlt⟩
      have lL := soL.len
      refine ⟨⟨y2, y3, L, A, a + 1, rfl, soL, soA, hlt⟩, ?_⟩
      show 200 - ((a : Int) + 1).toNat < 200 - ((a : Int)).toNat
      omega
  · refine ifF (decide_eq_false hlt) ?_
    refine ⟨⟨by omega, by omega⟩, ?_⟩
    rw [hn]
    refine lc_filter (List.range n) (fun (j : Nat) => .int (0 + (j : Int))) (fun j => decide ((0 + (j : Int)) ∈ L) && (true != decide ((0 + (j : Int)) ∈ A))) ?_ (fun _ _ => rfl) (by rw [List.length_range]; omega) ?_
    · intro j _ R R' h
      refine ⟨_, L, rfl, rfl, ?_⟩
      by_cases h1 : (0 + (j : Int)) ∈ L
      · rw [decide_eq_true h1, Bool.true_and] at h
        refine ifT (by rw [decide_eq_true h1]; rfl) ?_
        exact ⟨_, A, rfl, rfl, h⟩
      · rw [decide_eq_false h1, Bool.false_and] at h
        exact ifF (by rw [decide_eq_false h1]; rfl) h
    rw [filt fun x => decide (x ∈ L) && (true != decide (x ∈ A))]
    have so1 : SeenOk ss.length ((((List.range ss.length).map fun (k : Nat) => (0 : Int) + (k : Int)).filter fun x => decide (x ∈ L) && (true != decide (x ∈ A)))) := .filt _
    generalize (((List.range ss.length).map fun (k : Nat) => (0 : Int) + (k : Int)).filter fun x => decide (x ∈ L) && (true != decide (x ∈ A))) = F0 at so1
    refine ⟨flat_diE D, ss, D, by rw [e9], by omega, pos, dok, inj, fun LL h1 h2 h3 => ?_⟩
    refine q F0 LL ⟨so1, h1, h2, fun x hx => ?_⟩
    have xr := so1.rg x hx
    obtain ⟨r, hr, hh⟩ := h3 x.toNat (by omega)
    exact ⟨r, hr, by rw [show x = ((x.toNat : Nat) : Int) by omega]; exact hh⟩
end
theorem ixN_57 {n k : Nat} (h : k < n) : ixN n (k : Int) = some k := by
  unfold ixN
  rw [if_pos (by omega), if_pos (by omega), Int.toNat_natCast]
section
variable {P : Program} {w : World} {K : PySem.W.Frag} {mg : Str → Option Value} {base : Heap}
/-- few and short -/
structure Few7 (ch : List Int) (LL : List (List Int)) (n : Nat) : Prop where
  cl : ch.length ≤ n
  ll : LL.length ≤ n
  rl : ∀ r ∈ LL, r.length ≤ n
def cFBent : VSpec := fun ds Q _ => ∃ (p : Val) (k n : Nat) (ch : List Int) (LL : List (List Int)), ds = [p, .int (n : Int), .lst (ch.map Val.int), chV LL] ∧ PuW p k ∧ k + 10000 ≤ 1000000000 ∧ n ≤ 60 ∧ (ch ≠ [] → 0 < n) ∧ LoOk n ch LL ∧ ∀ (p' : Val) (ch' : List Int) (LL' : List (List Int)), PuW p' (k + 100) → Few7 ch' LL' 130 → Q [p'] (.tup [.lst (ch'.map Val.int), chV LL'])
theorem M_l_free_bent : Mono cFBent := fun ds Q Q' E E' h _ ⟨p, k, n, ch, LL, a, b, c, d, e, f, q⟩ => ⟨p, k, n, ch, LL, a, b, c, d, e, f, fun p' ch' LL' h1 h2 => h _ _ (q p' ch' LL' h1 h2)⟩
theorem v_l_free_bent (T : Tx K mg) : FnOk P w K mg base CX0 (3) T.f_l_free_bent T.fd_l_free_bent ["_law_purse_here", "_law_many_here", "_law_free", "_law_chains_here"] (vsp K T.tabs [0] 4 cFBent) := by
  have G_l_draw : FnOk P w K mg base CX0 _ _ _ _ _ := v_draw T T.tabs
  refine T.F_l_free_bent.ok sc_l_free_bent (fun vs H Q E h => vsp_len h) (fun cdv A outer s H vs Q E hr h => ⟨_, (pss_cons (ps_set (i := 4) sc_l_free_bent.nd rfl (Or.inr rfl) (pe_callTy call_list_of (by rfl) T.m_list (by decide +kernel) (pa_cons (pv 2) pa_nil)))
      (pss_cons (ps_setLc (i := 5) (own := [("_law_chain", 10)]) (g := (gName 10)) (by rfl) sc_l_free_bent.nd rfl rfl (sw_true rfl rfl rfl (by decide +kernel)) (pi_list (pv 3)) (blkOk_by (own := [("_law_chain", 10)]) (N := N_l_free_bent) (sc := defScope s_l_free_bent) (by decide +kernel)) (fun _ _ _ _ _ => (pg_name (i := 10) sc_l_free_bent.nd rfl (Or.inl rfl))) (fun _ _ _ _ _ => pts_nil) (fun _ _ _ _ _ => (pe_frz (pe_callTy (show CallR _ (.type "list") (fun xs H Q => ∃ p ys, xs = [.ref p] ∧ (SqL K H p ys ∨ SqT K H p ys) ∧ ∀ l, H l = none → Q (.ref l) (upd H l (.lst ys))) from call_list_of) (by rfl) T.m_list (by decide +kernel) (pa_cons (pv 10) pa_nil)))))
      (pss_cons (ps_set (i := 6) sc_l_free_bent.nd rfl (Or.inl rfl) (pe_call G_l_draw (hr.mono (by decide)) (by rfl) T.g_l_draw T.F_l_draw.kp T.b_l_draw .nil pass0 (pa_cons (pv 0) (pa_cons pe_int pa_nil))))
      (pss_cons (ps_if (pt_cmpR (op_eqD hr.units) (pv 4) (pe_lst pa_nil) (nomark _)) (pss_one (ps_ret (pe_tup (pa_cons (pe_ix ix_list (pe_lst (pa_cons (pe_lst pa_nil) (pa_cons (pe_lst (pa_cons pe_int pa_nil)) (pa_cons (pe_lst (pa_cons (pe_un un_neg pe_int) pa_nil)) pa_nil)))) (pe_op op_mod (pv 6) pe_int) (fun _ _ => rfl)) (pa_cons (pv 5) pa_nil))))) pss_nil)
      (pss_cons (ps_set (i := 7) sc_l_free_bent.nd rfl (Or.inr rfl) (pe_call G_l_draw (hr.mono (by decide)) (by rfl) T.g_l_draw T.F_l_draw.kp T.b_l_draw .nil pass0 (pa_cons (pv 0) (pa_cons (pe_callB call_len_seq (by rfl) T.m_len PySem.boot_len (pa_cons (pv 4) pa_nil)) pa_nil))))
      (pss_cons (ps_set (i := 8) sc_l_free_bent.nd rfl (Or.inr rfl) (pe_ix ix_list (pe_lc (own := [("_law_chain", 10)]) (g := (gName 10)) (by rfl) sc_l_free_bent.nd (pi_list (pv 3)) (blkOk_by (own := [("_law_chain", 10)]) (N := N_l_free_bent) (sc := defScope s_l_free_bent) (by decide +kernel)) (fun _ _ _ _ _ => (pg_name (i := 10) sc_l_free_bent.nd rfl (Or.inl rfl))) (fun _ _ _ _ _ => (pts_one (pt_cmpR (show OpR _ (compareOp _) (rIn K false) from op_in_seq) (pe_ix (show IxR _ (rIxL K) from ix_list) (pv 4) (pv 7) (fun _ _ => rfl)) (pv 10) (by rfl)))) (fun _ _ _ _ _ => (pv 10))) pe_int (fun _ _ => rfl)))
      (pss_cons (ps_if (pt_cmpR op_eq (pv 6) pe_int (nomark _)) (pss_one (ps_asg (pe_ix ix_list (pv 8) (pe_call G_l_draw (hr.mono (by decide)) (by rfl) T.g_l_draw T.F_l_draw.kp T.b_l_draw .nil pass0 (pa_cons (pv 0) (pa_cons (pe_callB call_len_seq (by rfl) T.m_len PySem.boot_len (pa_cons (pv 8) pa_nil)) pa_nil))) (fun _ _ => rfl)) (pg_sub (pv 4) (pv 7) set_list))) (pss_one (ps_if (pt_cmpR op_eq (pv 6) pe_int (nomark _)) (pss_one (ps_asg (pe_ix ix_list (pe_lst (pa_cons (pe_call G_l_draw (hr.mono (by decide)) (by rfl) T.g_l_draw T.F_l_draw.kp T.b_l_draw .nil pass0 (pa_cons (pv 0) (pa_cons (pv 1) pa_nil))) (pa_cons (pe_un un_neg pe_int) (pa_cons (pv 1) (pa_cons (pe_op op_sub (pe_ix ix_list (pv 4) (pv 7) (fun _ _ => rfl)) (pv 1)) pa_nil))))) (pe_call G_l_draw (hr.mono (by decide)) (by rfl) T.g_l_draw T.F_l_draw.kp T.b_l_draw .nil pass0 (pa_cons (pv 0) (pa_cons pe_int pa_nil))) (fun _ _ => rfl)) (pg_sub (pv 4) (pv 7) set_list))) (pss_one (ps_if (pt_cmpR op_eq (pv 6) pe_int (nomark _)) (pss_one (ps_set (i := 4) sc_l_free_bent.nd rfl (Or.inr rfl) (pe_op op_cat (pe_slice sl_list (pv 4) po_none (po_some (pv 7))) (pe_slice sl_list (pv 4) (po_some (pe_op op_add (pv 7) pe_int)) po_none)))) (pss_one (ps_if (PW.pt (pw_or (pt_cmpR op_eq (pv 6) pe_int (nomark _)) (pw_or1 (pt_cmpR op_eq (pv 6) pe_int (nomark _))))) (pss_cons (ps_expr (pe_bm PySem.F.plainAttrs_list PySem.F.slot_list_append PySem.F.type_list_append mt_append (pv 4) (pa_cons (pe_ix ix_list (pe_lst (pa_cons (pe_ix ix_list (pv 4) (pv 7) (fun _ _ => rfl)) (pa_cons (pe_ix ix_list (pv 8) pe_int (fun _ _ => rfl)) pa_nil))) (pe_op op_sub (pv 6) pe_int) (fun _ _ => rfl)) pa_nil)))
      (pss_cons (ps_set (i := 9) sc_l_free_bent.nd rfl (Or.inl rfl) (pe_call G_l_draw (hr.mono (by decide)) (by rfl) T.g_l_draw T.F_l_draw.kp T.b_l_draw .nil pass0 (pa_cons (pv 0) (pa_cons (pe_callB call_len_seq (by rfl) T.m_len PySem.boot_len (pa_cons (pv 8) pa_nil)) pa_nil))))
      (pss_one (ps_set (i := 5) sc_l_free_bent.nd rfl (Or.inl rfl) (pe_op op_cat (pe_lc (own := [("_law_chain", 10)]) (g := (gName 10)) (by rfl) sc_l_free_bent.nd (pi_list (pv 5)) (blkOk_by (own := [("_law_chain", 10)]) (N := N_l_free_bent) (sc := defScope s_l_free_bent) (by decide +kernel)) (fun _ _ _ _ _ => (pg_name (i := 10) sc_l_free_bent.nd rfl (Or.inl rfl))) (fun _ _ _ _ _ => (pts_one (pt_cmpR (show OpR _ (compareOp _) (rNeD K) from op_neD hr.units) (pv 10) (pv 8) (nomark _)))) (fun _ _ _ _ _ => (pv 10))) (pe_lst (pa_cons (pe_frz (pe_slice sl_list (pv 8) po_none (po_some (pv 9)))) (pa_cons (pe_frz (pe_slice sl_list (pv 8) (po_some (pv 9)) po_none)) pa_nil)))))))) (pss_one (ps_set (i := 4) sc_l_free_bent.nd rfl (Or.inr rfl) (pe_revL (pv 4)))))))))))
      (pss_one (ps_ret (pe_tup (pa_cons (pv 4) (pa_cons (pv 5) pa_nil)))))))))))), (vfn (N := 11) (lo := [4, 5]) (Ef := [0, 4, 5]) U1 h rfl (by decide) rfl rfl hU1 (simS_seq (simS_setO (i := 4) (simE_cbl cb_list (simA_var (i := 2) rfl simA_nil)) (show 4 < 11 by decide) rfl rfl rfl rfl rfl)
      (simS_seq (simS_setO (i := 5) (simE_lc (fx := [0, 1, 2, 3, 4, 5, 6, 7, 8, 9]) (simI_list (simE_var (i := 3) rfl)) (simG_name (i := 10) (show 10 < 11 by decide) rfl rfl) simT_yes (simE_frzL (simE_cbl cb_list (simA_varF (i := 10) simA_nil))) rfl rfl rfl) (show 5 < 11 by decide) rfl rfl rfl rfl rfl)
      (simS_seq (simS_asg (simE_call1 (i := 0) M_l_draw (simA_own (i := 0) rfl (simA_consF simE_int simA_nil rfl rfl rfl rfl rfl)) rfl rfl (show 0 < 11 by decide)) (simG_name (i := 6) (show 6 < 11 by decide) rfl rfl) rfl rfl)
      (simS_seq (simS_if (simT_test (simE_op r2_eqD (simE_own (i := 4)) (simE_lst simA_nil (by decide)) rfl)) (simS_ret (simE_tup (simA_consF (simE_ixN (simE_lst (simA_consF (simE_lst simA_nil (by decide)) (simA_consF (simE_lst (simA_consF simE_int simA_nil rfl rfl rfl rfl rfl) (by decide)) (simA_consF (simE_lst (simA_consF (simE_neg simE_int) simA_nil rfl rfl rfl rfl rfl) (by decide)) simA_nil rfl rfl rfl rfl rfl) rfl rfl rfl rfl rfl) rfl rfl rfl rfl rfl) (by decide)) (simE_op r2_iic (simE_var (i := 6) rfl) simE_int rfl) rfl) (simA_consF (simE_move (i := 5) rfl) simA_nil rfl rfl rfl rfl rfl) rfl rfl rfl rfl rfl) (by decide)) rfl rfl rfl rfl) (simS_next rfl) rfl rfl)
      (simS_seq (simS_asg (simE_call1 (i := 0) M_l_draw (simA_own (i := 0) rfl (simA_consF (simE_cb cb_len (simA_cons (simE_own (i := 4)) simA_nil rfl)) simA_nil rfl rfl rfl rfl rfl)) rfl rfl (show 0 < 11 by decide)) (simG_name (i := 7) (show 7 < 11 by decide) rfl rfl) rfl rfl)
      (simS_seq (simS_asg (simE_ixL (simE_lc (fx := [0, 1, 2, 3, 4, 5, 6, 7, 8, 9]) (simI_list (simE_var (i := 3) rfl)) (simG_name (i := 10) (show 10 < 11 by decide) rfl rfl) (simT_test (simE_op r2_inZ (simE_ixL (simE_own (i := 4)) (simE_var (i := 7) rfl) rfl) (simE_var (i := 10) rfl) rfl)) (simE_var (i := 10) rfl) rfl rfl rfl) simE_int rfl) (simG_name (i := 8) (show 8 < 11 by decide) rfl rfl) rfl rfl)
      (simS_seq (simS_if (simT_test (simE_op r2_eq (simE_var (i := 6) rfl) simE_int rfl)) (simS_setIx (i := 4) (simE_ixF (simE_var (i := 8) rfl) (simE_call1 (i := 0) M_l_draw (simA_own (i := 0) rfl (simA_consF (simE_cb cb_len (simA_varF (i := 8) simA_nil)) simA_nil rfl rfl rfl rfl rfl)) rfl rfl (show 0 < 11 by decide)) rfl) (simE_var (i := 7) rfl) rfl rfl rfl rfl rfl rfl) (simS_if (simT_test (simE_op r2_eq (simE_var (i := 6) rfl) simE_int rfl)) (simS_setIx (i := 4) (simE_ixL (simE_lst (simA_consF (simE_call1 (i := 0) M_l_draw (simA_own (i := 0) rfl (simA_varF (i := 1) simA_nil)) rfl rfl (show 0 < 11 by decide)) (simA_consF (simE_neg simE_int) (simA_varF (i := 1) (simA_consF (simE_op r2_ii (simE_ixL (simE_own (i := 4)) (simE_var (i := 7) rfl) rfl) (simE_var (i := 1) rfl) rfl) simA_nil rfl rfl rfl rfl rfl)) rfl rfl rfl rfl rfl) rfl rfl rfl rfl rfl) (by decide)) (simE_call1 (i := 0) M_l_draw (simA_own (i := 0) rfl (simA_consF simE_int simA_nil rfl rfl rfl rfl rfl)) rfl rfl (show 0 < 11 by decide)) rfl) (simE_var (i := 7) rfl) rfl rfl rfl rfl rfl rfl) (simS_if (simT_test (simE_op r2_eq (simE_var (i := 6) rfl) simE_int rfl)) (simS_setO (i := 4) (simE_opL r2_cat (simE_sl (simE_own (i := 4)) simO_none (simO_some (simE_var (i := 7) rfl)) rfl rfl) (simE_sl (simE_own (i := 4)) (simO_some (simE_op r2_ii (simE_var (i := 7) rfl) simE_int rfl)) simO_none rfl rfl) rfl) (show 4 < 11 by decide) rfl rfl rfl rfl rfl) (simS_if (simT_or (simT_test (simE_op r2_eq (simE_var (i := 6) rfl) simE_int rfl)) (simT_test (simE_op r2_eq (simE_var (i := 6) rfl) simE_int rfl)) rfl) (simS_seq (simS_expr (simE_app (i := 4) (simE_ixL (simE_lst (simA_consF (simE_flat (simE_ixL (simE_own (i := 4)) (simE_var (i := 7) rfl) rfl)) (simA_consF (simE_flat (simE_ixF (simE_var (i := 8) rfl) simE_int rfl)) simA_nil rfl rfl rfl rfl rfl) rfl rfl rfl rfl rfl) (by decide)) (simE_op r2_ii (simE_var (i := 6) rfl) simE_int rfl) rfl) rfl) rfl rfl)
      (simS_seq (simS_asg (simE_call1 (i := 0) M_l_draw (simA_own (i := 0) rfl (simA_consF (simE_cb cb_len (simA_varF (i := 8) simA_nil)) simA_nil rfl rfl rfl rfl rfl)) rfl rfl (show 0 < 11 by decide)) (simG_name (i := 9) (show 9 < 11 by decide) rfl rfl) rfl rfl)
      (simS_setO (i := 5) (simE_opL r2_cat (simE_lcF (fx := [0, 1, 2, 3, 4, 5, 6, 7, 8, 9]) (simI_list (simE_own (i := 5))) (simG_name (i := 10) (show 10 < 11 by decide) rfl rfl) (simT_test (simE_op r2_neD (simE_var (i := 10) rfl) (simE_var (i := 8) rfl) rfl)) (simE_var (i := 10) rfl) rfl rfl rfl rfl) (simE_lst (simA_consF (simE_frzL (simE_sl (simE_var (i := 8) rfl) simO_none (simO_some (simE_var (i := 9) rfl)) rfl rfl)) (simA_consF (simE_frzL (simE_sl (simE_var (i := 8) rfl) (simO_some (simE_var (i := 9) rfl)) simO_none rfl rfl)) simA_nil rfl rfl rfl rfl rfl) rfl rfl rfl rfl rfl) (by decide)) rfl) (show 5 < 11 by decide) rfl rfl rfl rfl rfl))) (simS_setO (i := 4) (simE_rev (simE_own (i := 4))) (show 4 < 11 by decide) rfl rfl rfl rfl rfl) rfl rfl) rfl rfl) rfl rfl) rfl rfl)
      (simS_ret (simE_tup (simA_consF (simE_move (i := 4) rfl) (simA_consF (simE_move (i := 5) rfl) simA_nil rfl rfl rfl rfl rfl) rfl rfl rfl rfl rfl) (by decide)) rfl rfl rfl rfl)))))))) ?_)⟩)
  clear G_l_draw
  rintro ds Q X ⟨p, k, n, ch, LL, rfl, pw, hk, hn, hc, lo, q⟩
  have chl := lo.nd.len
  have ll := lo.ll
  refine ⟨flatI ch, ?_⟩
  have low : ∀ {j : Nat} {r : List Int}, LL[j]? = some r → r.length ≤ n := fun {j r} h => lo.rl r (List.mem_of_getElem? h)
  refine lc_map LL (fun r => .frz (r.map Val.int)) (fun r => .frz (r.map Val.int)) ?_ ?_ (by omega) ?_
  · intro r hr R h
    exact ⟨flatI r, flatI r, _, rfl, flatI r, h⟩
  · intro r _
    exact flatI r
  refine ⟨p, 6, k, rfl, pw, by omega, by decide, by decide, fun p1 way pw1 w0 w6 => ?_⟩
  refine ⟨okD_ints ch, okD_nil, ?_⟩
  rw [eqv_nilD]
  by_cases e0 : ch = []
  · subst e0
    refine ⟨(show (0 : Int) < 3 by decide), ?_⟩
    obtain ⟨c', ix, cl'⟩ : ∃ c' : List Int, atI [Val.lst [], Val.lst [.int 0], Val.lst [.int (-1)]] (way % 3) = some (.lst (c'.map Val.int)) ∧ c'.length ≤ 1 := by
      have h3 : way % 3 = 0 ∨ way % 3 = 1 ∨ way % 3 = 2 := by omega
      rcases h3 with e | e | e <;> rw [e]
      · exact ⟨[], rfl, by decide⟩
      · exact ⟨[0], rfl, by decide⟩
      · exact ⟨[-1], rfl, by decide⟩
    conv => whnf
    rw [ix]
    exact q p1 c' LL (pw1.mono (by omega)) ⟨by omega, by omega, fun r hr => by have := lo.rl r hr; omega⟩
  have c1 : 1 ≤ ch.length := List.length_pos_iff.mpr e0
  have n1 := hc e0
  refine ifF (by cases ch with | nil => exact absurd rfl e0 | cons x r => rfl) ?_
  have lch : (((ch.map Val.int).length : Nat) : Int) = (ch.length : Int) := by rw [List.length_map]
  have e88 : (2 : Int) ^ 88 = 309485009821345068724781056 := by decide
  refine ⟨p1, (((ch.map Val.int).length : Nat) : Int), _, rfl, pw1, by omega, by omega, by omega, fun p2 at_ pw2 a0 a1 => ?_⟩
  obtain ⟨A, rfl⟩ : ∃ A : Nat, at_ = (A : Int) := ⟨at_.toNat, by omega⟩
  have Al : A < ch.length := by omega
  obtain ⟨x, hx⟩ : ∃ x, ch[A]? = some x := ⟨_, List.getElem?_eq_getElem Al⟩
  obtain ⟨hr0, hh0, hx0⟩ := lo.home x (List.mem_of_getElem? hx)
  refine lc_filter LL (fun r => .frz (r.map Val.int)) (fun r => decide (x ∈ r)) ?_ (fun r _ => flatI r) (by omega) ?_
  · intro r hr R R' h
    conv => whnf
    rw [at_int hx]
    exact ⟨x, r, rfl, rfl, h⟩
  obtain ⟨home, rest, hf⟩ : ∃ home rest, LL.filter (fun r => decide (x ∈ r)) = home :: rest := by
    cases hf : LL.filter (fun r => decide (x ∈ r)) with
    | nil => exact absurd (List.filter_eq_nil_iff.mp hf hr0 hh0) (by simp [hx0])
    | cons a b => exact ⟨a, b, rfl⟩
  have hm : home ∈ LL.filter (fun r => decide (x ∈ r)) := by rw [hf]; exact List.mem_cons_self
  have hmL := (List.mem_filter.mp hm).1
  have hxm : x ∈ home := of_decide_eq_true (List.mem_filter.mp hm).2
  have hl := lo.rl home hmL
  have h1 : 1 ≤ home.length := List.length_pos_iff.mpr (List.ne_nil_of_mem hxm)
  rw [hf]
  have a0' : atI ((home :: rest).map fun r => Val.frz (r.map Val.int)) 0 = some (.frz (home.map Val.int)) := atI_nat (j := 0) rfl
  conv => whnf
  rw [a0']
  conv in (wipeE _ _) => change [some p2, some (.int (n : Int)), some (.lst (ch.map Val.int)), some (chV LL), some (.lst (ch.map Val.int)), some (chV LL), some (.int way), some (.int (A : Int)), none, none, none]
  have fewL : ∀ {c' : List Int}, c'.length ≤ 130 → Few7 c' LL 130 := fun {c'} h => ⟨h, by omega, fun r hr => by have := lo.rl r hr; omega⟩
  have ixA : ixN (ch.map Val.int).length (A : Int) = some A := ixN_57 (by rw [List.length_map]; exact Al)
  have done : ∀ {p' : Val} {ch' : List Int} {LL' : List (List Int)} {l1 l2 : Val}, PuW p' (k + 100) → Few7 ch' LL' 130 → l1 = .lst (ch'.map Val.int) → l2 = chV LL' → Q [p'] (.tup [l1, l2]) := fun {p' ch' LL' l1 l2} h1 h2 e1 e2 => by
    rw [e1, e2]
    exact q p' ch' LL' h1 h2
  by_cases w0' : way = 0
  · refine ifT (by rw [decide_eq_true w0']; rfl) ?_
    refine ⟨flatI home, p2, (((home.map Val.int).length : Nat) : Int), _, rfl, pw2, by omega, by rw [List.length_map]; omega, by rw [List.length_map]; omega, fun p3 c pw3 c0 c1 => ?_⟩
    rw [List.length_map] at c1
    obtain ⟨C, rfl⟩ : ∃ C : Nat, c = (C : Int) := ⟨c.toNat, by omega⟩
    obtain ⟨v, hv⟩ : ∃ v, home[C]? = some v := ⟨_, List.getElem?_eq_getElem (by omega)⟩
    conv => whnf
    rw [at_int hv]
    conv => whnf
    rw [ixA]
    exact ⟨rfl, done (pw3.mono (by omega)) (fewL (c' := ch.set A v) (by rw [List.length_set]; omega)) (by rw [List.map_set]) rfl⟩
  refine ifF (by rw [decide_eq_false w0']; rfl) ?_
  by_cases w1' : way = 1
  · refine ifT (by rw [decide_eq_true w1']; rfl) ?_
    refine ⟨rfl, p2, (n : Int), _, rfl, pw2, by omega, by omega, by omega, fun p3 v pw3 v0 v1 => ?_⟩
    conv => whnf
    rw [at_int hx]
    refine ⟨rfl, p3, 4, k + 50, rfl, pw3.mono (by omega), by omega, by omega, by omega, fun p4 r pw4 r0 r1 => ?_⟩
    obtain ⟨z, ixr⟩ : ∃ z : Int, atI [Val.int v, Val.int (-1), Val.int (n : Int), Val.int (x - (n : Int))] r = some (.int z) := by
      have h4 : r = 0 ∨ r = 1 ∨ r = 2 ∨ r = 3 := by omega
      rcases h4 with rfl | rfl | rfl | rfl <;> exact ⟨_, rfl⟩
    conv => whnf
    rw [ixr]
    conv => whnf
    rw [ixA]
    exact ⟨rfl, done (pw4.mono (by omega)) (fewL (c' := ch.set A z) (by rw [List.length_set]; omega)) (by rw [List.map_set]) rfl⟩
  refine ifF (by rw [decide_eq_false w1']; rfl) ?_
  by_cases w2' : way = 2
  · refine ifT (by rw [decide_eq_true w2']; rfl) ?_
    have k1 := cutL_len ch none (some (A : Int))
    have k2 := cutL_len ch (some ((A : Int) + 1)) none
    refine ⟨flatI ch, flatI ch, ?_⟩
    rw [cutL_map, cutL_map]
    exact ⟨flatI _, flatI _, by rw [List.length_map, List.length_map]; omega, done (pw2.mono (by omega)) (fewL (c' := cutL ch none (some (A : Int)) ++ cutL ch (some ((A : Int) + 1)) none) (by rw [List.length_append]; omega)) (by rw [List.map_append]) rfl⟩
  refine ifF (by rw [decide_eq_false w2']; rfl) ?_
  by_cases w5' : way = 5
  · refine ifF (by rw [decide_eq_false (show ¬ way = 3 by omega)]; rfl) ?_
    refine ifF (by rw [decide_eq_false (show ¬ way = 4 by omega)]; rfl) ?_
    exact ⟨flatI ch, done (pw2.mono (by omega)) (fewL (c' := ch.reverse) (by rw [List.length_reverse]; omega)) (by rw [List.map_reverse]) rfl⟩
  obtain ⟨z0, hz0⟩ : ∃ z0, home[0]? = some z0 := ⟨_, List.getElem?_eq_getElem (by omega)⟩
  have z00 : atI (home.map Val.int) 0 = some (.int z0) := at_int hz0
  have h34 : way = 3 ∨ way = 4 := by omega
  rcases h34 with rfl | rfl
  all_goals
    conv => whnf
    rw [at_int hx]
    refine ⟨rfl, ?_⟩
    conv => whnf
    rw [z00]
    refine ⟨rfl, rfl, by rw [List.length_map]; omega, flatI home, p2, (((home.map Val.int).length : Nat) : Int), _, rfl, pw2, by omega, by rw [List.length_map]; omega, by rw [List.length_map]; omega, fun p3 cut pw3 cut0 cut1 => ?_⟩
    rw [List.length_map] at cut1
    refine ⟨fun d hd => by
      obtain ⟨r, _, rfl⟩ := List.mem_map.mp hd
      exact flatI r, ?_⟩
    refine lc_filter LL (fun r => .frz (r.map Val.int)) (fun r => true != PyData.eqv (Val.toD (.frz (r.map Val.int))) (Val.toD (.frz (home.map Val.int)))) ?_ (fun r _ => flatI r) (by omega) ?_
    · intro r hr R R' h
      exact ⟨okD_ints r, okD_ints home, h⟩
    refine ⟨flatI home, _, rfl, by rw [cutL_map]; exact flatI _, flatI home, _, rfl, by rw [cutL_map]; exact flatI _, ?_⟩
    have k1 := cutL_len home none (some cut)
    have k2 := cutL_len home (some cut) none
    have fll := List.length_filter_le (fun r => true != PyData.eqv (Val.toD (.frz (r.map Val.int))) (Val.toD (.frz (home.map Val.int)))) LL
    refine ⟨flat_map (fun r : List Int => Val.frz (r.map Val.int)) (fun r => flatI r) _, ?_, by rw [List.length_map]; exact Nat.le_trans (Nat.add_le_add_right fll _) (by show LL.length + 2 ≤ 1000000; omega), done (pw3.mono (by omega)) (LL' := LL.filter (fun r => true != PyData.eqv (Val.toD (.frz (r.map Val.int))) (Val.toD (.frz (home.map Val.int)))) ++ [cutL home none (some cut), cutL home (some cut) none]) ⟨?_, ?_, ?_⟩ (congrArg Val.lst (j1I ch _)) ?_⟩
    · rw [cutL_map, cutL_map]
      show (Val.flatAll _ && (Val.flatAll _ && true)) = true
      rw [flatI, flatI]
      rfl
    · rw [List.length_append]
      show ch.length + 1 ≤ 130
      omega
    · rw [List.length_append]
      refine Nat.le_trans (Nat.add_le_add_right fll _) ?_
      show LL.length + 2 ≤ 130
      omega
    · intro r hr
      rcases List.mem_append.mp hr with hr | hr
      · have := lo.rl r (List.mem_filter.mp hr).1
        omega
      · rcases List.mem_cons.mp hr with rfl | hr
        · omega
        · rw [List.mem_singleton.mp hr]
          omega
    · rw [cutL_map, cutL_map]
      unfold chV
      rw [List.map_append]
      rfl
end
section
variable {P : Program} {w : World} {K : PySem.W.Frag} {mg : Str → Option Value} {base : Heap}
theorem at_frz {LL : List (List Int)} {j : Nat} {r : List Int} (h : LL[j]? = some r) : atI (LL.map fun r => Val.frz (r.map Val.int)) (j : Int) = some (.frz (r.map Val.int)) := atI_nat (j := j) (by rw [List.getElem?_map, h]; rfl)
theorem okN_chV (LL : List (List Int)) : okN 2 (chV LL) := okN_map (n := 1) (f := fun r : List Int => Val.frz (r.map Val.int)) (fun r => ⟨(okN_ints r).1, (okN_ints r).2.1, (okN_ints r).2.2⟩) LL
theorem okD_chV (LL : List (List Int)) : (chV LL).okD := (okN_chV LL).okD (by decide)
theorem cut_mem {α : Type} {l : List α} {a b : Option Int} {x : α} (h : x ∈ cutL l a b) : x ∈ l := by
  unfold cutL at h
  exact List.mem_of_mem_drop (List.mem_of_mem_take h)
/-- few rows, and short ones -/
def Rows7 (LL : List (List Int)) (n : Nat) : Prop := LL.length ≤ n ∧ ∀ r ∈ LL, r.length ≤ n
theorem Rows7.set {LL : List (List Int)} {n m : Nat} (h : Rows7 LL n) (nm : n ≤ m) (j : Nat) {r : List Int} (hr : r.length ≤ m) : Rows7 (LL.set j r) m := ⟨by
  have := h.1
  rw [List.length_set]
  omega, fun x hx => by
  rcases List.mem_or_eq_of_mem_set hx with z | rfl
  · have := h.2 x z
    omega
  · exact hr⟩
def cNBent : VSpec := fun ds Q _ => ∃ (p : Val) (k : Nat) (n : Int) (LL : List (List Int)), ds = [p, .int n, chV LL] ∧ PuW p k ∧ k + 10000 ≤ 1000000000 ∧ Rows7 LL 130 ∧ ∀ (p' : Val) (LL' : List (List Int)), PuW p' (k + 100) → Rows7 LL' 300 → Q [p'] (chV LL')
theorem M_l_nests_bent : Mono cNBent := fun ds Q Q' E E' h _ ⟨p, k, n, LL, a, b, c, d, q⟩ => ⟨p, k, n, LL, a, b, c, d, fun p' LL' h1 h2 => h _ _ (q p' LL' h1 h2)⟩
theorem v_l_nests_bent (T : Tx K mg) : FnOk P w K mg base CX0 (3) T.f_l_nests_bent T.fd_l_nests_bent ["_law_purse_here", "_law_many_here", "_law_chains_here"] (vsp K T.tabs [0] 3 cNBent) := by
  have G_l_draw : FnOk P w K mg base CX0 _ _ _ _ _ := v_draw T T.tabs
  refine T.F_l_nests_bent.ok sc_l_nests_bent (fun vs H Q E h => vsp_len h) (fun cdv A outer s H vs Q E hr h => ⟨_, (pss_cons (ps_setLc (i := 3) (own := [("_law_chain", 7)]) (g := (gName 7)) (by rfl) sc_l_nests_bent.nd rfl rfl (sw_true rfl rfl rfl (by decide +kernel)) (pi_list (pv 2)) (blkOk_by (own := [("_law_chain", 7)]) (N := N_l_nests_bent) (sc := defScope s_l_nests_bent) (by decide +kernel)) (fun _ _ _ _ _ => (pg_name (i := 7) sc_l_nests_bent.nd rfl (Or.inl rfl))) (fun _ _ _ _ _ => pts_nil) (fun _ _ _ _ _ => (pe_frz (pe_callTy (show CallR _ (.type "list") (fun xs H Q => ∃ p ys, xs = [.ref p] ∧ (SqL K H p ys ∨ SqT K H p ys) ∧ ∀ l, H l = none → Q (.ref l) (upd H l (.lst ys))) from call_list_of) (by rfl) T.m_list (by decide +kernel) (pa_cons (pv 7) pa_nil)))))
      (pss_cons (ps_set (i := 4) sc_l_nests_bent.nd rfl (Or.inl rfl) (pe_call G_l_draw (hr.mono (by decide)) (by rfl) T.g_l_draw T.F_l_draw.kp T.b_l_draw .nil pass0 (pa_cons (pv 0) (pa_cons pe_int pa_nil))))
      (pss_cons (ps_if (pt_cmpR (op_eqD hr.units) (pv 3) (pe_lst pa_nil) (nomark _)) (pss_one (ps_ret (pe_ix ix_list (pe_lst (pa_cons (pe_lst pa_nil) (pa_cons (pe_lst (pa_cons (pe_frz (pe_lst pa_nil)) pa_nil)) (pa_cons (pe_lst (pa_cons (pe_frz (pe_lst (pa_cons pe_int pa_nil))) pa_nil)) pa_nil)))) (pe_op op_mod (pv 4) pe_int) (fun _ _ => rfl)))) pss_nil)
      (pss_cons (ps_set (i := 5) sc_l_nests_bent.nd rfl (Or.inl rfl) (pe_call G_l_draw (hr.mono (by decide)) (by rfl) T.g_l_draw T.F_l_draw.kp T.b_l_draw .nil pass0 (pa_cons (pv 0) (pa_cons (pe_callB call_len_seq (by rfl) T.m_len PySem.boot_len (pa_cons (pv 3) pa_nil)) pa_nil))))
      (pss_cons (ps_set (i := 6) sc_l_nests_bent.nd rfl (Or.inl rfl) (pe_call G_l_draw (hr.mono (by decide)) (by rfl) T.g_l_draw T.F_l_draw.kp T.b_l_draw .nil pass0 (pa_cons (pv 0) (pa_cons (pe_callB call_len_seq (by rfl) T.m_len PySem.boot_len (pa_cons (pv 3) pa_nil)) pa_nil))))
      (pss_cons (ps_if (pt_cmpR op_eq (pv 4) pe_int (nomark _)) (pss_one (ps_set (i := 3) sc_l_nests_bent.nd rfl (Or.inl rfl) (pe_op op_cat (pe_op op_cat (pe_slice sl_list (pv 3) po_none (po_some (pv 5))) (pe_lst (pa_cons (pe_frz (pe_slice sl_list (pe_ix ix_list (pv 3) (pv 5) (fun _ _ => rfl)) po_none (po_some pe_int))) (pa_cons (pe_frz (pe_slice sl_list (pe_ix ix_list (pv 3) (pv 5) (fun _ _ => rfl)) (po_some pe_int) po_none)) pa_nil)))) (pe_slice sl_list (pv 3) (po_some (pe_op op_add (pv 5) pe_int)) po_none)))) (pss_one (ps_if (pt_cmpR op_eq (pv 4) pe_int (nomark _)) (pss_cons (ps_asg (pe_frz (pe_op op_catZ (pe_ix ix_list (pv 3) (pv 5) (fun _ _ => rfl)) (pe_ix ix_list (pv 3) (pv 6) (fun _ _ => rfl)))) (pg_sub (pv 3) (pv 5) set_list))
      (pss_one (ps_asg (pe_frz (pe_lst pa_nil)) (pg_sub (pv 3) (pv 6) set_list)))) (pss_one (ps_if (pt_cmpR op_eq (pv 4) pe_int (nomark _)) (pss_one (ps_asg (pe_frz (pe_slice sl_list (pe_ix ix_list (pv 3) (pv 5) (fun _ _ => rfl)) (po_some pe_int) po_none)) (pg_sub (pv 3) (pv 5) set_list))) (pss_one (ps_if (pt_cmpR op_eq (pv 4) pe_int (nomark _)) (pss_one (ps_asg (pe_frz (pe_op op_catZ (pe_ix ix_list (pv 3) (pv 5) (fun _ _ => rfl)) (pe_slice sl_list (pe_ix ix_list (pv 3) (pv 6) (fun _ _ => rfl)) (po_some (pe_un un_neg pe_int)) po_none))) (pg_sub (pv 3) (pv 5) set_list))) (pss_one (ps_if (pt_cmpR op_eq (pv 4) pe_int (nomark _)) (pss_one (ps_asg (pe_frz (pe_revL (pe_ix ix_list (pv 3) (pv 5) (fun _ _ => rfl)))) (pg_sub (pv 3) (pv 5) set_list))) (pss_one (ps_if (pt_cmpR op_eq (pv 4) pe_int (nomark _)) (pss_one (ps_set (i := 3) sc_l_nests_bent.nd rfl (Or.inl rfl) (pe_revL (pv 3)))) (pss_one (ps_asg (pe_frz (pe_op op_catZ (pe_ix ix_list (pv 3) (pv 5) (fun _ _ => rfl)) (pe_lst (pa_cons (pe_ix ix_list (pe_lst (pa_cons (pe_un un_neg pe_int) (pa_cons (pv 1) (pa_cons (pe_op op_sub (pe_ix ix_list (pe_op op_catZ (pe_ix ix_list (pv 3) (pv 5) (fun _ _ => rfl)) (pe_lst (pa_cons pe_int pa_nil))) pe_int (fun _ _ => rfl)) (pv 1)) pa_nil)))) (pe_call G_l_draw (hr.mono (by decide)) (by rfl) T.g_l_draw T.F_l_draw.kp T.b_l_draw .nil pass0 (pa_cons (pv 0) (pa_cons pe_int pa_nil))) (fun _ _ => rfl)) pa_nil)))) (pg_sub (pv 3) (pv 5) set_list))))))))))))))
      (pss_one (ps_ret (pv 3))))))))), (vfn (N := 8) (lo := [3]) (Ef := [0, 3]) U1 h rfl (by decide) rfl rfl hU1 (simS_seq (simS_setO (i := 3) (simE_lc (fx := [0, 1, 2, 3, 4, 5, 6]) (simI_list (simE_var (i := 2) rfl)) (simG_name (i := 7) (show 7 < 8 by decide) rfl rfl) simT_yes (simE_frzL (simE_cbl cb_list (simA_varF (i := 7) simA_nil))) rfl rfl rfl) (show 3 < 8 by decide) rfl rfl rfl rfl rfl)
      (simS_seq (simS_asg (simE_call1 (i := 0) M_l_draw (simA_own (i := 0) rfl (simA_consF simE_int simA_nil rfl rfl rfl rfl rfl)) rfl rfl (show 0 < 8 by decide)) (simG_name (i := 4) (show 4 < 8 by decide) rfl rfl) rfl rfl)
      (simS_seq (simS_if (simT_test (simE_op r2_eqD (simE_own (i := 3)) (simE_lst simA_nil (by decide)) rfl)) (simS_ret (simE_ixN (simE_lst (simA_consF (simE_lst simA_nil (by decide)) (simA_consF (simE_lst (simA_consF (simE_frzL (simE_lst simA_nil (by decide))) simA_nil rfl rfl rfl rfl rfl) (by decide)) (simA_consF (simE_lst (simA_consF (simE_frzL (simE_lst (simA_consF simE_int simA_nil rfl rfl rfl rfl rfl) (by decide))) simA_nil rfl rfl rfl rfl rfl) (by decide)) simA_nil rfl rfl rfl rfl rfl) rfl rfl rfl rfl rfl) rfl rfl rfl rfl rfl) (by decide)) (simE_op r2_iic (simE_var (i := 4) rfl) simE_int rfl) rfl) rfl rfl rfl rfl) (simS_next rfl) rfl rfl)
      (simS_seq (simS_asg (simE_call1 (i := 0) M_l_draw (simA_own (i := 0) rfl (simA_consF (simE_cb cb_len (simA_cons (simE_own (i := 3)) simA_nil rfl)) simA_nil rfl rfl rfl rfl rfl)) rfl rfl (show 0 < 8 by decide)) (simG_name (i := 5) (show 5 < 8 by decide) rfl rfl) rfl rfl)
      (simS_seq (simS_asg (simE_call1 (i := 0) M_l_draw (simA_own (i := 0) rfl (simA_consF (simE_cb cb_len (simA_cons (simE_own (i := 3)) simA_nil rfl)) simA_nil rfl rfl rfl rfl rfl)) rfl rfl (show 0 < 8 by decide)) (simG_name (i := 6) (show 6 < 8 by decide) rfl rfl) rfl rfl)
      (simS_seq (simS_if (simT_test (simE_op r2_eq (simE_var (i := 4) rfl) simE_int rfl)) (simS_setO (i := 3) (simE_opL r2_cat (simE_opL r2_cat (simE_sl (simE_own (i := 3)) simO_none (simO_some (simE_var (i := 5) rfl)) rfl rfl) (simE_lst (simA_consF (simE_frzL (simE_sl (simE_ixL (simE_own (i := 3)) (simE_var (i := 5) rfl) rfl) simO_none (simO_some simE_int) rfl rfl)) (simA_consF (simE_frzL (simE_sl (simE_ixL (simE_own (i := 3)) (simE_var (i := 5) rfl) rfl) (simO_some simE_int) simO_none rfl rfl)) simA_nil rfl rfl rfl rfl rfl) rfl rfl rfl rfl rfl) (by decide)) rfl) (simE_sl (simE_own (i := 3)) (simO_some (simE_op r2_ii (simE_var (i := 5) rfl) simE_int rfl)) simO_none rfl rfl) rfl) (show 3 < 8 by decide) rfl rfl rfl rfl rfl) (simS_if (simT_test (simE_op r2_eq (simE_var (i := 4) rfl) simE_int rfl)) (simS_seq (simS_setIx (i := 3) (simE_frzL (simE_opL r2_catZ (simE_ixL (simE_own (i := 3)) (simE_var (i := 5) rfl) rfl) (simE_ixL (simE_own (i := 3)) (simE_var (i := 6) rfl) rfl) rfl)) (simE_var (i := 5) rfl) rfl rfl rfl rfl rfl rfl)
      (simS_setIx (i := 3) (simE_frzL (simE_lst simA_nil (by decide))) (simE_var (i := 6) rfl) rfl rfl rfl rfl rfl rfl)) (simS_if (simT_test (simE_op r2_eq (simE_var (i := 4) rfl) simE_int rfl)) (simS_setIx (i := 3) (simE_frzL (simE_sl (simE_ixL (simE_own (i := 3)) (simE_var (i := 5) rfl) rfl) (simO_some simE_int) simO_none rfl rfl)) (simE_var (i := 5) rfl) rfl rfl rfl rfl rfl rfl) (simS_if (simT_test (simE_op r2_eq (simE_var (i := 4) rfl) simE_int rfl)) (simS_setIx (i := 3) (simE_frzL (simE_opL r2_catZ (simE_ixL (simE_own (i := 3)) (simE_var (i := 5) rfl) rfl) (simE_sl (simE_ixL (simE_own (i := 3)) (simE_var (i := 6) rfl) rfl) (simO_some (simE_neg simE_int)) simO_none rfl rfl) rfl)) (simE_var (i := 5) rfl) rfl rfl rfl rfl rfl rfl) (simS_if (simT_test (simE_op r2_eq (simE_var (i := 4) rfl) simE_int rfl)) (simS_setIx (i := 3) (simE_frzL (simE_revZ (simE_ixL (simE_own (i := 3)) (simE_var (i := 5) rfl) rfl))) (simE_var (i := 5) rfl) rfl rfl rfl rfl rfl rfl) (simS_if (simT_test (simE_op r2_eq (simE_var (i := 4) rfl) simE_int rfl)) (simS_setO (i := 3) (simE_rev (simE_own (i := 3))) (show 3 < 8 by decide) rfl rfl rfl rfl rfl) (simS_setIx (i := 3) (simE_frzL (simE_opL r2_catZ (simE_ixL (simE_own (i := 3)) (simE_var (i := 5) rfl) rfl) (simE_lst (simA_consF (simE_flat (simE_ixL (simE_lst (simA_consF (simE_neg simE_int) (simA_varF (i := 1) (simA_consF (simE_op r2_ii (simE_ixL (simE_opL r2_catZ (simE_ixL (simE_own (i := 3)) (simE_var (i := 5) rfl) rfl) (simE_lst (simA_consF simE_int simA_nil rfl rfl rfl rfl rfl) (by decide)) rfl) simE_int rfl) (simE_var (i := 1) rfl) rfl) simA_nil rfl rfl rfl rfl rfl)) rfl rfl rfl rfl rfl) (by decide)) (simE_call1 (i := 0) M_l_draw (simA_own (i := 0) rfl (simA_consF simE_int simA_nil rfl rfl rfl rfl rfl)) rfl rfl (show 0 < 8 by decide)) rfl)) simA_nil rfl rfl rfl rfl rfl) (by decide)) rfl)) (simE_var (i := 5) rfl) rfl rfl rfl rfl rfl rfl) rfl rfl) rfl rfl) rfl rfl) rfl rfl) rfl rfl) rfl rfl)
      (simS_ret (simE_move (i := 3) rfl) rfl rfl rfl rfl))))))) ?_)⟩)
  clear G_l_draw
  rintro ds Q X ⟨p, k, n, LL, rfl, pw, hk, R7, q⟩
  have ll := R7.1
  have e88 : (2 : Int) ^ 88 = 309485009821345068724781056 := by decide
  have lm : (LL.map fun r => Val.frz (r.map Val.int)).length = LL.length := List.length_map ..
  refine lc_map LL (fun r => .frz (r.map Val.int)) (fun r => .frz (r.map Val.int)) ?_ ?_ (by omega) ?_
  · intro r hr R h
    exact ⟨flatI r, flatI r, _, rfl, flatI r, h⟩
  · intro r _
    exact flatI r
  refine ⟨p, 7, k, rfl, pw, by omega, by decide, by decide, fun p1 way pw1 w0 w7 => ?_⟩
  refine ⟨okD_chV LL, okD_nil, ?_⟩
  rw [eqv_nilD]
  have done : ∀ {p' : Val} {LL' : List (List Int)} {l : Val}, PuW p' (k + 100) → Rows7 LL' 300 → l = chV LL' → Q [p'] l := fun {p' LL' l} h1 h2 e => by
    rw [e]
    exact q p' LL' h1 h2
  by_cases e0 : LL = []
  · subst e0
    refine ifT rfl ?_
    refine ⟨_, rfl, rfl, _, rfl, rfl, (show (0 : Int) < 3 by decide), ?_⟩
    have h3 : way % 3 = 0 ∨ way % 3 = 1 ∨ way % 3 = 2 := by omega
    obtain ⟨L', ix, c1, c2⟩ : ∃ L' : List (List Int), atI [Val.lst [], Val.lst [.frz []], Val.lst [.frz [.int 0]]] (way % 3) = some (chV L') ∧ Rows7 L' 300 ∧ True := by
      rcases h3 with e | e | e <;> rw [e]
      · exact ⟨[], rfl, ⟨by decide, fun _ h => nomatch h⟩, True.intro⟩
      · exact ⟨[[]], rfl, ⟨by decide, by decide⟩, True.intro⟩
      · exact ⟨[[0]], rfl, ⟨by decide, by decide⟩, True.intro⟩
    conv => whnf
    rw [ix]
    exact done (pw1.mono (by omega)) c1 rfl
  have c1 : 0 < LL.length := List.length_pos_iff.mpr e0
  refine ifF (by cases LL with | nil => exact absurd rfl e0 | cons x r => rfl) ?_
  refine ⟨p1, (((LL.map fun r => Val.frz (r.map Val.int)).length : Nat) : Int), _, rfl, pw1, by omega, by omega, by omega, fun p2 at_ pw2 a0 a1 => ?_⟩
  refine ⟨p2, (((LL.map fun r => Val.frz (r.map Val.int)).length : Nat) : Int), _, rfl, pw2, by omega, by omega, by omega, fun p3 ot pw3 o0 o1 => ?_⟩
  rw [lm] at a1 o1
  obtain ⟨A, rfl⟩ : ∃ A : Nat, at_ = (A : Int) := ⟨at_.toNat, by omega⟩
  obtain ⟨O, rfl⟩ : ∃ O : Nat, ot = (O : Int) := ⟨ot.toNat, by omega⟩
  obtain ⟨r, hr⟩ : ∃ r, LL[A]? = some r := ⟨_, List.getElem?_eq_getElem (by omega)⟩
  obtain ⟨s, hs⟩ : ∃ s, LL[O]? = some s := ⟨_, List.getElem?_eq_getElem (by omega)⟩
  have rl := R7.2 r (List.mem_of_getElem? hr)
  have sl := R7.2 s (List.mem_of_getElem? hs)
  have ixA : ixN (LL.map fun r => Val.frz (r.map Val.int)).length (A : Int) = some A := ixN_57 (by omega)
  have aR := at_frz hr
  have aS := at_frz hs
  have doneS : ∀ {p' : Val} {r' : List Int} {l : Val}, PuW p' (k + 100) → r'.length ≤ 300 → l = .lst ((LL.map fun r => Val.frz (r.map Val.int)).set A (.frz (r'.map Val.int))) → Q [p'] l := fun {p' r' l} h1 h2 e => done h1 (R7.set (by decide) A h2) (by
    rw [e]
    unfold chV
    rw [List.map_set])
  have fl : ∀ L : List (List Int), Val.flatAll (L.map fun r => Val.frz (r.map Val.int)) = true := fun L => flat_map (fun r : List Int => Val.frz (r.map Val.int)) (fun r => flatI r) L
  by_cases w0' : way = 0
  · refine ifT (by rw [decide_eq_true w0']; rfl) ?_
    refine ⟨fl LL, ?_⟩
    conv => whnf
    rw [aR]
    refine ⟨flatI r, _, rfl, by rw [cutL_map]; exact flatI _, ?_⟩
    conv => whnf
    rw [aR]
    refine ⟨flatI r, _, rfl, by rw [cutL_map]; exact flatI _, ?_⟩
    have k1 := cutL_len LL none (some (A : Int))
    have k2 := cutL_len LL (some ((A : Int) + 1)) none
    have k3 := cutL_len r none (some 1)
    have k4 := cutL_len r (some 1) none
    have fr : Val.flatAll [Val.frz (cutL (r.map Val.int) none (some 1)), Val.frz (cutL (r.map Val.int) (some 1) none)] = true := by
      rw [cutL_map, cutL_map]
      show (Val.flatAll _ && (Val.flatAll _ && true)) = true
      rw [flatI, flatI]
      rfl
    have fz : [Val.frz (cutL (r.map Val.int) none (some 1)), Val.frz (cutL (r.map Val.int) (some 1) none)] = [cutL r none (some 1), cutL r (some 1) none].map fun r => Val.frz (r.map Val.int) := by
      rw [cutL_map, cutL_map]
      rfl
    refine ⟨by rw [cutL_map]; exact fl _, fr, ?_, fl LL, by rw [cutL_map, fz, ← List.map_append]; exact fl _, by rw [cutL_map]; exact fl _, ?_, done (pw3.mono (by omega)) (LL' := cutL LL none (some (A : Int)) ++ [cutL r none (some 1), cutL r (some 1) none] ++ cutL LL (some ((A : Int) + 1)) none) ⟨?_, ?_⟩ ?_⟩
    · rw [cutL_map, List.length_map]
      show _ + 2 ≤ 1000000
      omega
    · rw [List.length_append, cutL_map (fun r : List Int => Val.frz (r.map Val.int)) LL none, List.length_map, cutL_map (fun r : List Int => Val.frz (r.map Val.int)) LL (some _), List.length_map]
      show _ + 2 + _ ≤ 1000000
      omega
    · rw [List.length_append, List.length_append]
      show _ + 2 + _ ≤ 300
      omega
    · intro x hx
      rcases List.mem_append.mp hx with hx | hx
      · rcases List.mem_append.mp hx with hx | hx
        · have := R7.2 x (cut_mem hx)
          omega
        · rcases List.mem_cons.mp hx with rfl | hx
          · omega
          · rw [List.mem_singleton.mp hx]
            omega
      · have := R7.2 x (cut_mem hx)
        omega
    · unfold chV
      rw [fz, cutL_map, cutL_map, List.map_append, List.map_append]
  refine ifF (by rw [decide_eq_false w0']; rfl) ?_
  by_cases w1' : way = 1
  · refine ifT (by rw [decide_eq_true w1']; rfl) ?_
    conv => whnf
    rw [aR]
    conv => whnf
    rw [aS]
    refine ⟨flatI r, flatI s, by rw [List.length_map, List.length_map]; omega, _, rfl, by rw [← List.map_append]; exact flatI _, ?_⟩
    conv => whnf
    rw [ixA]
    refine ⟨by rw [← List.map_append]; exact flatI _, _, rfl, rfl, ?_⟩
    conv => whnf
    rw [ixN_57 (k := O) (by rw [List.length_set, lm]; omega)]
    refine ⟨rfl, done (pw3.mono (by omega)) (LL' := (LL.set A (r ++ s)).set O []) ((R7.set (by decide) A (by rw [List.length_append]; omega) : Rows7 _ 300).set (Nat.le_refl _) O (Nat.zero_le _)) ?_⟩
    unfold chV
    rw [List.map_set, List.map_set, List.map_append]
    rfl
  refine ifF (by rw [decide_eq_false w1']; rfl) ?_
  by_cases w2' : way = 2
  · refine ifT (by rw [decide_eq_true w2']; rfl) ?_
    conv => whnf
    rw [aR]
    refine ⟨flatI r, _, rfl, by rw [cutL_map]; exact flatI _, ?_⟩
    conv => whnf
    rw [ixA]
    have k3 := cutL_len r (some 1) none
    exact ⟨by rw [cutL_map]; exact flatI _, doneS (r' := cutL r (some 1) none) (pw3.mono (by omega)) (by omega) (by rw [cutL_map])⟩
  refine ifF (by rw [decide_eq_false w2']; rfl) ?_
  by_cases w3' : way = 3
  · refine ifT (by rw [decide_eq_true w3']; rfl) ?_
    conv => whnf
    rw [aR]
    conv => whnf
    rw [aS]
    have k3 := cutL_len s (some (-1)) none
    refine ⟨flatI s, flatI r, by rw [cutL_map]; exact flatI _, by rw [cutL_map, List.length_map, List.length_map]; omega, _, rfl, by rw [cutL_map, ← List.map_append]; exact flatI _, ?_⟩
    conv => whnf
    rw [ixA]
    exact ⟨by rw [cutL_map, ← List.map_append]; exact flatI _, doneS (r' := r ++ cutL s (some (-1)) none) (pw3.mono (by omega)) (by rw [List.length_append]; omega) (by rw [cutL_map, List.map_append])⟩
  refine ifF (by rw [decide_eq_false w3']; rfl) ?_
  by_cases w4' : way = 4
  · refine ifT (by rw [decide_eq_true w4']; rfl) ?_
    conv => whnf
    rw [aR]
    refine ⟨flatI r, _, rfl, by rw [← List.map_reverse]; exact flatI _, ?_⟩
    conv => whnf
    rw [ixA]
    exact ⟨by rw [← List.map_reverse]; exact flatI _, doneS (r' := r.reverse) (pw3.mono (by omega)) (by rw [List.length_reverse]; omega) (by rw [List.map_reverse])⟩
  refine ifF (by rw [decide_eq_false w4']; rfl) ?_
  by_cases w5' : way = 5
  · refine ifT (by rw [decide_eq_true w5']; rfl) ?_
    refine ⟨fl LL, done (pw3.mono (by omega)) (LL' := LL.reverse) ⟨by rw [List.length_reverse]; omega, fun x hx => by
      have := R7.2 x (List.mem_reverse.mp hx)
      omega⟩ (by unfold chV; rw [List.map_reverse])⟩
  refine ifF (by rw [decide_eq_false w5']; rfl) ?_
  obtain ⟨x, hx⟩ : ∃ x : Int, atI (r.map Val.int ++ [Val.int 0]) 0 = some (.int x) := by
    cases r with
    | nil => exact ⟨0, rfl⟩
    | cons a b => exact ⟨a, atI_nat (j := 0) rfl⟩
  conv => whnf
  rw [aR]
  conv => whnf
  rw [aR]
  refine ⟨flatI r, rfl, by rw [List.length_map]; show r.length + 1 ≤ 1000000; omega, ?_⟩
  conv => whnf
  rw [hx]
  refine ⟨rfl, p3, 3, _, rfl, pw3, by omega, by decide, by decide, fun p4 j pw4 j0 j1 => ?_⟩
  obtain ⟨v, ix⟩ : ∃ v : Int, atI [Val.int (-1), Val.int n, Val.int (x - n)] j = some (.int v) := by
    have h3 : j = 0 ∨ j = 1 ∨ j = 2 := by omega
    rcases h3 with rfl | rfl | rfl <;> exact ⟨_, rfl⟩
  conv => whnf
  rw [ix]
  refine ⟨rfl, flatI r, rfl, by rw [List.length_map]; show r.length + 1 ≤ 1000000; omega, _, rfl, by rw [j1I]; exact flatI _, ?_⟩
  conv => whnf
  rw [ixA]
  exact ⟨by rw [j1I]; exact flatI _, doneS (r' := r ++ [v]) (pw4.mono (by omega)) (by rw [List.length_append]; show r.length + 1 ≤ 300; omega) (by rw [j1I])⟩
end
section
variable {P : Program} {w : World} {K : PySem.W.Frag} {mg : Str → Option Value} {base : Heap}
def cAsked7 : VSpec := fun ds Q _ => ∃ (ss : List Span) (ch : List Int) (LL : List (List Int)), ds = [.lst (ss.map spV), .lst (ch.map Val.int), chV LL] ∧ ss.all isSpan = true ∧ ss.length ≤ 900 ∧ ch.length ≤ 900 ∧ Rows7 LL 900 ∧ Q [] (.bl true)
theorem M_l_asked : Mono cAsked7 := fun ds Q Q' E E' h _ ⟨ss, ch, LL, a, b, c, d, e, q⟩ => ⟨ss, ch, LL, a, b, c, d, e, h _ _ q⟩
theorem okN_lliV (LL : List (List Int)) : okN 2 (lliV LL) := okN_map (n := 1) (f := liV) (fun r => okN_ints r) LL
theorem toDs_chV : ∀ LL : List (List Int), Val.toDs (LL.map fun r => Val.frz (r.map Val.int)) = Val.toDs (LL.map liV)
  | [] => rfl
  | r :: LL => congrArg (PyData.list (Val.toDs (r.map Val.int)) :: ·) (toDs_chV LL)
theorem toD_chV (LL : List (List Int)) : (chV LL).toD = (lliV LL).toD := congrArg PyData.list (toDs_chV LL)
theorem okD_hand (ch : List Int) (LL : List (List Int)) : Val.okD (.tup [.lst (ch.map Val.int), lliV LL]) := okN.okD (okN_tup (okN_c ((okN_ints ch).up (by decide)) (okN_1 (okN_lliV LL)))) (by decide)
theorem okD_handC (ch : List Int) (LL : List (List Int)) : Val.okD (.tup [.lst (ch.map Val.int), chV LL]) := okN.okD (okN_tup (okN_c ((okN_ints ch).up (by decide)) (okN_1 (okN_chV LL)))) (by decide)
theorem toD_hand (ch : List Int) (LL : List (List Int)) : Val.toD (.tup [.lst (ch.map Val.int), lliV LL]) = Val.toD (.tup [.lst (ch.map Val.int), chV LL]) := by
  show PyData.tuple [_, _] = PyData.tuple [_, _]
  rw [toD_chV]
theorem eqv_hand (ch : List Int) (LL : List (List Int)) : PyData.eqv (Val.toD (.tup [.lst (ch.map Val.int), lliV LL])) (Val.toD (.tup [.lst (ch.map Val.int), chV LL])) = true := by
  rw [← toD_hand]
  exact eqv_okD (okD_hand ch LL)
theorem v_l_asked (T : Tx K mg) (B : Tbs T base) : FnOk P w K mg base CX0 (11) T.f_l_asked T.fd_l_asked ["_law_spans", "_law_free", "_law_chains_here"] (vsp K T.tabs [] 3 cAsked7) := by
  have G_l_loose_right : FnOk P w K mg base CX0 _ _ _ _ _ := v_l_loose_right T
  have G_shows_loose : FnOk P w K mg base (L2.CX P w) _ _ _ _ _ := v_shows_loose T B
  refine T.F_l_asked.ok sc_l_asked (fun vs H Q E h => vsp_len h) (fun cdv A outer s H vs Q E hr h => ⟨_, (pss_cons (ps_set (i := 3) sc_l_asked.nd rfl (Or.inl rfl) (pe_call G_l_loose_right (hr.mono (by decide)) (by rfl) T.g_l_loose_right T.F_l_loose_right.kp T.b_l_loose_right .nil pass0 (pa_cons (pv 0) (pa_cons (pv 1) (pa_cons (pv 2) pa_nil)))))
      (pss_cons (ps_set (i := 4) sc_l_asked.nd rfl (Or.inl rfl) (pe_tup (pa_cons (pe_callTy call_list_of (by rfl) T.m_list (by decide +kernel) (pa_cons (pv 1) pa_nil)) (pa_cons (pe_lc (own := [("_law_chain", 7)]) (g := (gName 7)) (by rfl) sc_l_asked.nd (pi_list (pv 2)) (blkOk_by (own := [("_law_chain", 7)]) (N := N_l_asked) (sc := defScope s_l_asked) (by decide +kernel)) (fun _ _ _ _ _ => (pg_name (i := 7) sc_l_asked.nd rfl (Or.inl rfl))) (fun _ _ _ _ _ => pts_nil) (fun _ _ _ _ _ => (pe_callTy (show CallR _ (.type "list") (fun xs H Q => ∃ p ys, xs = [.ref p] ∧ (SqL K H p ys ∨ SqT K H p ys) ∧ ∀ l, H l = none → Q (.ref l) (upd H l (.lst ys))) from call_list_of) (by rfl) T.m_list (by decide +kernel) (pa_cons (pv 7) pa_nil)))) pa_nil))))
      (pss_cons (ps_set (i := 5) sc_l_asked.nd rfl (Or.inl rfl) (pe_callTy call_list_of (by rfl) T.m_list (by decide +kernel) (pa_cons (pv 0) pa_nil)))
      (pss_cons (ps_set (i := 6) sc_l_asked.nd rfl (Or.inl rfl) (pe_call G_shows_loose (hr.mono (by decide)) (by rfl) T.g_shows_loose T.F_shows_loose.kp T.b_shows_loose .nil passL (pa_cons (pv 5) (pa_cons (pv 4) pa_nil))))
      (pss_one (ps_ret (pe_and (pe_callB call_isi (by rfl) T.m_isinstance (by decide +kernel) (pa_cons (pv 6) (pa_cons (pe_bltn (v := .ty "bool") (by rfl) T.m_bool (by decide +kernel) rfl) pa_nil))) (pe_and (pe_cmpR op_eq (pv 6) (pv 3) (nomark _)) (pe_and (pe_cmpR (op_eqD hr.units) (pv 4) (pe_tup (pa_cons (pv 1) (pa_cons (pv 2) pa_nil))) (nomark _)) (pe_one (pe_cmpR (op_eqD hr.units) (pv 5) (pv 0) (nomark _)))))))))))), (vfn (N := 8) (lo := []) (Ef := []) U0 h rfl (by decide) rfl rfl hU0 (simS_seq (simS_asg (simE_call0 M_l_loose_right (simA_var (i := 0) rfl (simA_var (i := 1) rfl (simA_var (i := 2) rfl simA_nil))) rfl rfl) (simG_name (i := 3) (show 3 < 8 by decide) rfl rfl) rfl rfl)
      (simS_seq (simS_asg (simE_tup (simA_cons (simE_cbl cb_list (simA_var (i := 1) rfl simA_nil)) (simA_cons (simE_lcN (fx := [0, 1, 2, 3, 4, 5, 6]) (simI_list (simE_var (i := 2) rfl)) (simG_name (i := 7) (show 7 < 8 by decide) rfl rfl) simT_yes (simE_cbl cb_list (simA_varF (i := 7) simA_nil)) rfl rfl) simA_nil rfl) rfl) (by decide)) (simG_name (i := 4) (show 4 < 8 by decide) rfl rfl) rfl rfl)
      (simS_seq (simS_asg (simE_cbl cb_list (simA_var (i := 0) rfl simA_nil)) (simG_name (i := 5) (show 5 < 8 by decide) rfl rfl) rfl rfl)
      (simS_seq (simS_asg (simE_call0 M_shows_loose (simA_var (i := 5) rfl (simA_var (i := 4) rfl simA_nil)) rfl rfl) (simG_name (i := 6) (show 6 < 8 by decide) rfl rfl) rfl rfl)
      (simS_ret (simE_andV (simE_cb cb_isi (simA_varF (i := 6) (simA_consF simE_ty simA_nil rfl rfl rfl rfl rfl))) (simE_andV (simE_op r2_eq (simE_var (i := 6) rfl) (simE_var (i := 3) rfl) rfl) (simE_andV (simE_op r2_eqD (simE_var (i := 4) rfl) (simE_tup (simA_var (i := 1) rfl (simA_var (i := 2) rfl simA_nil)) (by decide)) rfl) (simE_op r2_eqD (simE_var (i := 5) rfl) (simE_var (i := 0) rfl) rfl) rfl) rfl) rfl) rfl rfl rfl rfl))))) ?_)⟩)
  clear G_l_loose_right G_shows_loose
  rintro ds Q X ⟨ss, ch, LL, rfl, ok, sl, cl, R7, q⟩
  have ll := R7.1
  have rl := R7.2
  refine ⟨ss, ch, LL, rfl, by omega, by omega, by omega, fun r hr => by have := rl r hr; omega, fun b hb => ?_⟩
  refine ⟨flatI ch, ?_⟩
  refine ⟨fun i acc env' => acc = (LL.take i).map liV ∧ env' = [some (.lst (ss.map spV)), some (.lst (ch.map Val.int)), some (chV LL), some (.bl b), none, none, none, none], ⟨rfl, rfl⟩, ?_, ?_⟩
  · rintro i x acc env' hx ⟨rfl, rfl⟩
    rw [List.getElem?_map] at hx
    obtain ⟨r, hr, rfl⟩ : ∃ r, LL[i]? = some r ∧ Val.frz (r.map Val.int) = x := by
      cases h : LL[i]? with
      | none =>
        rw [h] at hx
        cases hx
      | some r =>
        rw [h] at hx
        exact ⟨r, rfl, Option.some.inj hx⟩
    refine ⟨by rw [List.length_map, List.length_take]; omega, flatI r, flatI r, ?_, rfl⟩
    rw [List.take_add_one, hr, List.map_append]
    rfl
  · rintro acc env' ⟨rfl, rfl⟩
    rw [List.length_map, List.take_length]
    refine ⟨flat_spans ss, ?_⟩
    refine ⟨ss, ch, LL, rfl, ok, by omega, by omega, fun r hr => by have := rl r hr; omega, by omega, fun b' hb' => ?_⟩
    have eb : b' = b := by rw [Bool.eq_iff_iff]; exact hb'.trans hb.symm
    subst eb
    refine ⟨rfl, isi_bl (b := true) rfl ?_⟩
    refine ifT rfl ?_
    refine ifT (by rw [decide_eq_true rfl]; rfl) ?_
    refine ⟨okD_hand ch LL, okD_handC ch LL, ?_⟩
    refine ifT (congrArg (fun b => false != b) (eqv_hand ch LL)) ?_
    refine ⟨okD_spans ss, okD_spans ss, ?_⟩
    rw [eqv_okD (okD_spans ss)]
    exact q
end
section
variable {P : Program} {w : World} {K : PySem.W.Frag} {mg : Str → Option Value} {base : Heap}
theorem era_map {α β : Type} (f : α → β) : ∀ (l : List α) (n : Nat), (l.map f).eraseIdx n = (l.eraseIdx n).map f
  | [], _ => rfl
  | _ :: _, 0 => rfl
  | x :: l, n + 1 => by
    show f x :: (l.map f).eraseIdx n = f x :: (l.eraseIdx n).map f
    rw [era_map f l n]
def cMany : VSpec := fun ds Q _ => ∃ (p : Val) (n : Nat), ds = [p] ∧ PuW p n ∧ n + 20000 ≤ 1000000000 ∧ ∀ (p' : Val) (ss : List Span), PuW p' (n + 2000) → (∀ s ∈ ss, isSpan s = true) → ss.length ≤ 60 → Q [p'] (.lst (ss.map spV))
theorem M_l_many : Mono cMany := fun ds Q Q' E E' h _ ⟨p, n, a, b, c, q⟩ => ⟨p, n, a, b, c, fun p' ss h1 h2 h3 => h _ _ (q p' ss h1 h2 h3)⟩
theorem ixN_m2 (n : Nat) : ixN (n + 2) (-2) = some n := by
  unfold ixN
  rw [if_neg (by decide), if_pos (by omega)]
  congr 1
  omega
theorem at_m2 (l : List Val) (a b : Val) : atI (l ++ ([a] ++ [b])) (-2) = some a := by
  unfold atI
  rw [show (l ++ ([a] ++ [b])).length = l.length + 2 from List.length_append, ixN_m2]
  show (l ++ ([a] ++ [b]))[l.length]? = some a
  rw [List.getElem?_append_right (Nat.le_refl _), Nat.sub_self]
  rfl
def lenA (i : Nat) (env : VEnv) : Nat := match env[i]? with
  | some (some (.lst xs)) => xs.length
  | _ => 0
theorem ixN_last7 (n : Nat) : ixN (n + 1) (-1) = some n := by
  unfold ixN
  rw [if_neg (by decide), if_pos (by omega)]
  congr 1
  omega
theorem ixN_lastA (l : List Val) (x : Val) : ixN (l ++ [x]).length (-1) = some l.length := by
  rw [List.length_append]
  exact ixN_last7 _
theorem set_lastA (l : List Val) (x y : Val) {n : Nat} (h : l.length = n) : (l ++ [x]).set n y = l ++ [y] := by
  subst h
  rw [List.set_append_right _ _ (Nat.le_refl _), Nat.sub_self]
  rfl
/-- short spans near their places -/
def Near (i : Nat) (ss : List Span) : Prop := ∀ s ∈ ss, -999999999999 ≤ s.1 ∧ s.1 < s.2 ∧ s.2 ≤ s.1 + 7 ∧ s.1 ≤ 1000000000 + 5 * (i : Int)
theorem v_many (T : Tx K mg) : FnOk P w K mg base CX0 (7) T.f_l_many T.fd_l_many ["_law_purse_here"] (vsp K T.tabs [0] 1 cMany) := by
  have G_l_draw : FnOk P w K mg base CX0 _ _ _ _ _ := v_draw T T.tabs
  have G_l_number : FnOk P w K mg base CX0 _ _ _ _ _ := v_number T T.tabs
  have G_l_nested : FnOk P w K mg base CX0 _ _ _ _ _ := v_nested T
  refine T.F_l_many.ok sc_l_many (fun vs H Q E h => vsp_len h) (fun cdv A outer s H vs Q E hr h => ⟨_, (pss_cons (ps_set (i := 1) sc_l_many.nd rfl (Or.inl rfl) (pe_op op_add pe_int (pe_call G_l_draw (hr.mono (by decide)) (by rfl) T.g_l_draw T.F_l_draw.kp T.b_l_draw .nil pass0 (pa_cons (pv 0) (pa_cons pe_int pa_nil)))))
      (pss_cons (ps_if (pt_cmpR op_eq (pe_call G_l_draw (hr.mono (by decide)) (by rfl) T.g_l_draw T.F_l_draw.kp T.b_l_draw .nil pass0 (pa_cons (pv 0) (pa_cons pe_int pa_nil))) pe_int (nomark _)) (pss_one (ps_ret (pe_call G_l_nested (hr.mono (by decide)) (by rfl) T.g_l_nested T.F_l_nested.kp T.b_l_nested .nil pass0 (pa_cons (pv 0) (pa_cons (pv 1) pa_nil))))) pss_nil)
      (pss_cons (ps_set (i := 2) sc_l_many.nd rfl (Or.inl rfl) (pe_ix ix_list (pe_lst (pa_cons pe_int (pa_cons (pe_op op_sub pe_int (pe_op op_pow pe_int pe_int)) (pa_cons (pe_call G_l_number (hr.mono (by decide)) (by rfl) T.g_l_number T.F_l_number.kp T.b_l_number .nil pass0 (pa_cons (pv 0) (pa_cons (pe_op op_pow pe_int pe_int) pa_nil))) pa_nil)))) (pe_call G_l_draw (hr.mono (by decide)) (by rfl) T.g_l_draw T.F_l_draw.kp T.b_l_draw .nil pass0 (pa_cons (pv 0) (pa_cons pe_int pa_nil))) (fun _ _ => rfl)))
      (pss_cons (ps_set (i := 3) sc_l_many.nd rfl (Or.inl rfl) (pe_lst pa_nil))
      (pss_cons (ps_for PassesOwn.never (by rfl) (pi_range1 (by rfl) T.m_range (pa_cons (pv 1) pa_nil)) (pg_name (i := 4) sc_l_many.nd rfl (Or.inl rfl))
        (pss_cons (ps_set (i := 5) sc_l_many.nd rfl (Or.inl rfl) (pe_callTy call_int1 (by rfl) T.m_int (by decide +kernel) (pa_cons (pe_cmpR op_eq (pe_call G_l_draw (hr.mono (by decide)) (by rfl) T.g_l_draw T.F_l_draw.kp T.b_l_draw .nil pass0 (pa_cons (pv 0) (pa_cons pe_int pa_nil))) pe_int (nomark _)) pa_nil)))
      (pss_cons (ps_expr (pe_bm PySem.F.plainAttrs_list PySem.F.slot_list_append PySem.F.type_list_append mt_append (pv 3) (pa_cons (pe_tup (pa_cons (pe_op op_add (pe_op op_add (pv 2) (pe_op op_mul pe_int (pv 4))) (pv 5)) (pa_cons (pe_op op_sub (pe_op op_add (pe_op op_add (pv 2) (pe_op op_mul pe_int (pv 4))) pe_int) (pv 5)) pa_nil))) pa_nil)))
      (pss_one (ps_if (PW.pt (pw_and (pt_cmpR op_eq (pv 5) pe_int (nomark _)) (pw_and1 (pt_cmpR op_gt (pv 4) pe_int (nomark _))))) (pss_one (ps_asg (pe_tup (pa_cons (pe_op op_add (pe_ix ix_tup (pe_ix ix_list (pv 3) (pe_un un_neg pe_int) (fun _ _ => rfl)) pe_int (fun _ _ => rfl)) pe_int) (pa_cons (pe_op op_add (pe_op op_add (pe_ix ix_tup (pe_ix ix_list (pv 3) (pe_un un_neg pe_int) (fun _ _ => rfl)) pe_int (fun _ _ => rfl)) pe_int) (pe_call G_l_draw (hr.mono (by decide)) (by rfl) T.g_l_draw T.F_l_draw.kp T.b_l_draw .nil pass0 (pa_cons (pv 0) (pa_cons pe_int pa_nil)))) pa_nil))) (pg_sub (pv 3) (pe_un un_neg pe_int) set_list))) pss_nil)))))
      (pss_cons (ps_set (i := 6) sc_l_many.nd rfl (Or.inl rfl) (pe_lst pa_nil))
      (pss_cons (ps_while PassesOwn.never (pt_cmpR (op_neD hr.units) (pv 3) (pe_lst pa_nil) (nomark _))
        (pss_one (ps_expr (pe_bm PySem.F.plainAttrs_list PySem.F.slot_list_append PySem.F.type_list_append mt_append (pv 6) (pa_cons (pe_bm PySem.F.plainAttrs_list PySem.F.slot_list_pop PySem.F.type_list_pop mt_popAt (pv 3) (pa_cons (pe_call G_l_draw (hr.mono (by decide)) (by rfl) T.g_l_draw T.F_l_draw.kp T.b_l_draw .nil pass0 (pa_cons (pv 0) (pa_cons (pe_callB call_len_seq (by rfl) T.m_len PySem.boot_len (pa_cons (pv 3) pa_nil)) pa_nil))) pa_nil)) pa_nil)))))
      (pss_one (ps_ret (pv 6)))))))))), (vfn (N := 7) (lo := [3, 6]) (Ef := [0, 3, 6]) U1 h rfl (by decide) rfl rfl hU1 (simS_seq (simS_asg (simE_op r2_ii simE_int (simE_call1 (i := 0) M_l_draw (simA_own (i := 0) rfl (simA_consF simE_int simA_nil rfl rfl rfl rfl rfl)) rfl rfl (show 0 < 7 by decide)) rfl) (simG_name (i := 1) (show 1 < 7 by decide) rfl rfl) rfl rfl)
      (simS_seq (simS_if (simT_test (simE_op r2_eq (simE_call1 (i := 0) M_l_draw (simA_own (i := 0) rfl (simA_consF simE_int simA_nil rfl rfl rfl rfl rfl)) rfl rfl (show 0 < 7 by decide)) simE_int rfl)) (simS_ret (simE_call1 (i := 0) M_l_nested (simA_own (i := 0) rfl (simA_varF (i := 1) simA_nil)) rfl rfl (show 0 < 7 by decide)) rfl rfl rfl rfl) (simS_next rfl) rfl rfl)
      (simS_seq (simS_asg (simE_ixL (simE_lst (simA_consF simE_int (simA_consF (simE_op r2_ii simE_int (simE_op r2_iic simE_int simE_int rfl) rfl) (simA_consF (simE_call1 (i := 0) M_l_number (simA_own (i := 0) rfl (simA_consF (simE_op r2_iic simE_int simE_int rfl) simA_nil rfl rfl rfl rfl rfl)) rfl rfl (show 0 < 7 by decide)) simA_nil rfl rfl rfl rfl rfl) rfl rfl rfl rfl rfl) rfl rfl rfl rfl rfl) (by decide)) (simE_call1 (i := 0) M_l_draw (simA_own (i := 0) rfl (simA_consF simE_int simA_nil rfl rfl rfl rfl rfl)) rfl rfl (show 0 < 7 by decide)) rfl) (simG_name (i := 2) (show 2 < 7 by decide) rfl rfl) rfl rfl)
      (simS_seq (simS_setO (i := 3) (simE_lst simA_nil (by decide)) (show 3 < 7 by decide) rfl rfl rfl rfl rfl)
      (simS_seq (simS_for (E' := [0, 3]) (simI_rng1 (simA_varF (i := 1) simA_nil)) (simG_name (i := 4) (show 4 < 7 by decide) rfl rfl) (simS_seq (simS_asg (simE_cb cb_intB (simA_consF (simE_op r2_eq (simE_call1 (i := 0) M_l_draw (simA_own (i := 0) rfl (simA_consF simE_int simA_nil rfl rfl rfl rfl rfl)) rfl rfl (show 0 < 7 by decide)) simE_int rfl) simA_nil rfl rfl rfl rfl rfl)) (simG_name (i := 5) (show 5 < 7 by decide) rfl rfl) rfl rfl)
      (simS_seq (simS_expr (simE_app (i := 3) (simE_tup (simA_consF (simE_op r2_ii (simE_op r2_ii (simE_var (i := 2) rfl) (simE_op r2_iic simE_int (simE_var (i := 4) rfl) rfl) rfl) (simE_var (i := 5) rfl) rfl) (simA_consF (simE_op r2_ii (simE_op r2_ii (simE_op r2_ii (simE_var (i := 2) rfl) (simE_op r2_iic simE_int (simE_var (i := 4) rfl) rfl) rfl) simE_int rfl) (simE_var (i := 5) rfl) rfl) simA_nil rfl rfl rfl rfl rfl) rfl rfl rfl rfl rfl) (by decide)) rfl) rfl rfl)
      (simS_if (simT_and (simT_test (simE_op r2_eq (simE_var (i := 5) rfl) simE_int rfl)) (simT_test (simE_op r2_ib (simE_var (i := 4) rfl) simE_int rfl)) rfl) (simS_setIx (i := 3) (simE_tup (simA_consF (simE_op r2_ii (simE_ixT (simE_ixL (simE_own (i := 3)) (simE_neg simE_int) rfl) simE_int rfl) simE_int rfl) (simA_consF (simE_op r2_ii (simE_op r2_ii (simE_ixT (simE_ixL (simE_own (i := 3)) (simE_neg simE_int) rfl) simE_int rfl) simE_int rfl) (simE_call1 (i := 0) M_l_draw (simA_own (i := 0) rfl (simA_consF simE_int simA_nil rfl rfl rfl rfl rfl)) rfl rfl (show 0 < 7 by decide)) rfl) simA_nil rfl rfl rfl rfl rfl) rfl rfl rfl rfl rfl) (by decide)) (simE_neg simE_int) rfl rfl rfl rfl rfl rfl) (simS_next rfl) rfl rfl))) rfl rfl rfl rfl)
      (simS_seq (simS_setO (i := 6) (simE_lst simA_nil (by decide)) (show 6 < 7 by decide) rfl rfl rfl rfl rfl)
      (simS_seq (simS_while (simT_test (simE_op r2_neD (simE_own (i := 3)) (simE_lst simA_nil (by decide)) rfl)) (simS_expr (simE_app (i := 6) (simE_popAt (i := 3) (simE_call1 (i := 0) M_l_draw (simA_own (i := 0) rfl (simA_consF (simE_cb cb_len (simA_cons (simE_own (i := 3)) simA_nil rfl)) simA_nil rfl rfl rfl rfl rfl)) rfl rfl (show 0 < 7 by decide)) rfl) rfl) rfl rfl) rfl rfl)
      (simS_ret (simE_move (i := 6) rfl) rfl rfl rfl rfl)))))))) ?_)⟩)
  rintro ds Q X ⟨p, n, rfl, pw, hn, q⟩
  have c12 : L2.CPow 10 12 := ⟨by decide, by decide, by decide⟩
  have e12 : (10 : Int) ^ Int.toNat 12 = 1000000000000 := by decide
  have c9 : L2.CPow 10 9 := ⟨by decide, by decide, by decide⟩
  have e9 : (10 : Int) ^ Int.toNat 9 = 1000000000 := by decide
  have p60 : (2 : Int) ^ 60 = 1152921504606846976 := by decide
  have p88 : (2 : Int) ^ 88 = 309485009821345068724781056 := by decide
  refine ⟨p, 41, n, rfl, pw, by omega, by decide, by decide, fun p1 r1 pw1 a0 a1 => ?_⟩
  obtain ⟨m, em⟩ : ∃ m : Nat, 20 + r1 = (m : Int) := ⟨(20 + r1).toNat, by omega⟩
  refine ⟨p1, 2, n + 3, rfl, pw1, by omega, by decide, by decide, fun p2 r2 pw2 b0 b1 => ?_⟩
  by_cases e : r2 = 0
  · refine ifT (by rw [decide_eq_true e]; rfl) ?_
    refine ⟨rfl, p2, n + 6, m, ?_, pw2, by omega, by omega, fun p3 ss pw3 ok sl => ?_⟩
    · rw [← em]
    · exact q p3 ss (pw3.mono (by omega)) ok (by omega)
  refine ifF (by rw [decide_eq_false e]; rfl) ?_
  refine ⟨c12, c9, p2, 10 ^ Int.toNat 9, n + 6, rfl, pw2, by omega, by rw [e9]; decide, by rw [e9, p60]; decide, fun p3 z0 pw3 d0 d1 => ?_⟩
  rw [e9] at d0 d1
  refine ⟨p3, 3, n + 12, rfl, pw3, by omega, by decide, by decide, fun p4 r4 pw4 f0 f1 => ?_⟩
  have hat : ∃ bg : Int, atI [Val.int 0, .int (1 - 10 ^ Int.toNat 12), .int z0] r4 = some (.int bg) ∧ -999999999999 ≤ bg ∧ bg ≤ 1000000000 := by
    have : r4 = 0 ∨ r4 = 1 ∨ r4 = 2 := by omega
    rcases this with e | e | e
    · exact ⟨0, by rw [e]; rfl, by decide, by decide⟩
    · exact ⟨1 - 10 ^ Int.toNat 12, by rw [e]; rfl, by rw [e12]; decide, by rw [e12]; decide⟩
    · exact ⟨z0, by rw [e]; rfl, by omega, by omega⟩
  obtain ⟨bg, hat, g1, g2⟩ := hat
  conv => whnf
  erw [hat]
  refine ⟨rfl, ⟨by omega, by omega⟩, ?_⟩
  have m60 : m ≤ 60 := by omega
  have tn : (20 + r1).toNat = m := by omega
  rw [tn]
  refine ⟨fun i env => ∃ (p' : Val) (ss : List Span) (y4 y5 : Option Val), env = [some p', some (.int (20 + r1)), some (.int bg), some (.lst (ss.map spV)), y4, y5, none] ∧ PuW p' (n + 15 + 6 * i) ∧ Near i ss ∧ ss.length = i, ⟨p4, [], none, none, rfl, pw4, (fun _ h => nomatch h), rfl⟩, ?_, ?_⟩
  · rintro i x env hi ⟨p', ss, y4, y5, rfl, pw', nr, sl⟩
    obtain ⟨hi2, rfl⟩ := rngV_at hi
    clear hi
    have hi3 : i < m := hi2
    rw [Int.zero_add]
    refine ⟨p', 4, n + 15 + 6 * i, rfl, pw', by omega, by decide, by decide, fun p5 r5 pw5 h0 h1 => ?_⟩
    obtain ⟨u, hu, u01⟩ : ∃ u : Int, (if (false != decide (r5 = 0)) = true then (1 : Int) else 0) = u ∧ (u = 0 ∨ u = 1) := by
      cases decide (r5 = 0)
      · exact ⟨0, rfl, Or.inl rfl⟩
      · exact ⟨1, rfl, Or.inr rfl⟩
    refine ⟨_, rfl, ?_⟩
    rw [hu]
    have cm : L2.CMul 3 (i : Int) := by
      exact .inl ⟨by decide, by decide⟩
    refine ⟨cm, cm, rfl, by rw [List.length_map]; omega, ?_⟩
    have go : ∀ (p6 : Val) (lo hi : Int) (y4 y5 : Option Val) (env : VEnv), env = [some p6, some (.int (20 + r1)), some (.int bg), some (.lst (ss.map spV ++ [spV (lo, hi)])), y4, y5, none] → PuW p6 (n + 15 + 6 * i + 6) → -999999999999 ≤ lo → lo < hi → hi ≤ lo + 7 → lo ≤ 1000000000 + 5 * ((i + 1 : Nat) : Int) → ∃ (p' : Val) (ss : List Span) (y4 y5 : Option Val), env = [some p', some (.int (20 + r1)), some (.int bg), some (.lst (ss.map spV)), y4, y5, none] ∧ PuW p' (n + 15 + 6 * (i + 1)) ∧ Near (i + 1) ss ∧ ss.length = i + 1 := by
      intro p6 lo hi y4 y5 env he pw6 l1 l2 l3 l4
      refine ⟨p6, ss ++ [(lo, hi)], y4, y5, ?_, pw6, fun s hs => ?_, ?_⟩
      · rw [he, ← j1S]
      · rcases List.mem_append.mp hs with z | z
        · have := nr s z
          refine ⟨this.1, this.2.1, this.2.2.1, ?_⟩
          have := this.2.2.2
          omega
        · rw [List.mem_singleton.mp z]
          exact ⟨l1, l2, l3, l4⟩
      · rw [List.length_append, sl]
        rfl
    rcases u01 with rfl | rfl
    · exact go p5 (bg + 3 * (i : Int) + 0) (bg + 3 * (i : Int) + 7 - 0) _ _ _ rfl (pw5.mono (by omega)) (by omega) (by omega) (by omega) (by omega)
    · by_cases i0 : i = 0
      · subst i0
        exact go p5 (bg + 3 * ((0 : Nat) : Int) + 1) (bg + 3 * ((0 : Nat) : Int) + 7 - 1) _ _ _ rfl (pw5.mono (by omega)) (by omega) (by omega) (by omega) (by omega)
      · refine ifT (by rw [decide_eq_true (show (0 : Int) < (i : Int) by omega)]) ?_
        obtain ⟨s0, t, es⟩ : ∃ (s0 : List Span) (t : Span), ss = s0 ++ [t] := by
          rcases List.eq_nil_or_concat ss with z | ⟨a, b, z⟩
          · rw [z] at sl
            exact absurd sl.symm i0
          · exact ⟨a, b, by rw [z, List.concat_eq_append]⟩
        have ht := nr t (by rw [es]; exact List.mem_append_right _ List.mem_cons_self)
        have a2 : ∀ x : Val, atI (ss.map spV ++ [x]) (-2) = some (spV t) := fun x => by
          rw [es, List.map_append, List.append_assoc]
          exact at_m2 _ _ _
        conv => whnf
        rw [a2]
        conv => whnf
        rw [a2]
        refine ⟨p5, 4, _, rfl, pw5, by omega, by decide, by decide, fun p6 r6 pw6 k0 k1 => ?_⟩
        conv => whnf
        rw [ixN_lastA, List.length_map]
        refine ⟨rfl, go p6 (t.1 + 1) (t.1 + 2 + r6) (some (.int (i : Int))) (some (.int 1)) _ ?_ (pw6.mono (by omega)) (by omega) (by omega) (by omega) (by have := ht.2.2.2; omega)⟩
        conv in (List.set (_ ++ _) _ _) => rw [set_lastA (ss.map spV) _ _ (List.length_map ..)]
        rfl
  · rintro env' ⟨p', ss, y4, y5, rfl, pw', nr, sl⟩
    rw [rngV_len] at pw' sl nr
    have ok : ∀ s ∈ ss, isSpan s = true := fun s hs => by
      have := nr s hs
      exact (isSpan_iff _).mpr ⟨this.1, this.2.1, by omega⟩
    refine ⟨fun env => ∃ (p' : Val) (lf fd : List Span), env = [some p', some (.int (20 + r1)), some (.int bg), some (.lst (lf.map spV)), y4, y5, some (.lst (fd.map spV))] ∧ PuW p' (n + 15 + 6 * m + 3 * fd.length) ∧ fd.length + lf.length = m ∧ (∀ s ∈ lf, isSpan s = true) ∧ ∀ s ∈ fd, isSpan s = true, fun env => lenA 3 env, ⟨p', ss, [], rfl, pw', by rw [sl]; exact Nat.zero_add _, ok, fun _ h => nomatch h⟩, ?_⟩
    rintro env ⟨p', lf, fd, rfl, pw', pl, ok1', ok2⟩
    refine ⟨okD_spans lf, okD_nil, ?_⟩
    rw [eqv_nilD]
    cases lf with
    | nil =>
      have e : fd.length = m := by simpa using pl
      exact q p' fd (pw'.mono (by omega)) ok2 (by omega)
    | cons x lf =>
      refine ifT rfl ?_
      have lfl : (x :: lf).length ≤ 60 := by omega
      have lp : 0 < (x :: lf).length := Nat.succ_pos _
      have len : ((x :: lf).map spV).length = (x :: lf).length := List.length_map ..
      refine ⟨p', (((x :: lf).map spV).length : Int), n + 15 + 6 * m + 3 * fd.length, rfl, pw', by omega, by rw [len]; omega, by rw [len, p88]; omega, fun p6 r pw6 r0 rm => ?_⟩
      rw [len] at rm
      obtain ⟨j, rfl⟩ : ∃ a : Nat, r = (a : Int) := ⟨r.toNat, by omega⟩
      have jl : j < (x :: lf).length := by omega
      have hx : ((x :: lf).map spV)[j]? = some (spV (x :: lf)[j]) := by
        rw [List.getElem?_map, List.getElem?_eq_getElem jl]
        rfl
      conv => whnf
      rw [ixN_57 (k := j) (by rw [len]; exact jl)]
      show (match ((x :: lf).map spV)[j]? with
        | some x => _
        | none => False)
      rw [hx]
      refine ⟨rfl, by rw [len]; omega, rfl, by rw [List.length_map]; omega, ⟨p6, (x :: lf).eraseIdx j, fd ++ [(x :: lf)[j]], ?_, ?_, ?_, ?_, ?_⟩, ?_⟩
      · show [_, _, _, _, _, _, _] = _
        rw [← j1S, era_map]
      · rw [List.length_append]
        exact pw6
      · rw [List.length_append, List.length_eraseIdx, if_pos jl]
        show fd.length + 1 + _ = _
        omega
      · exact fun s hs => ok1' s ((List.eraseIdx_sublist ..).subset hs)
      · intro s hs
        rcases List.mem_append.mp hs with z | z
        · exact ok2 s z
        · rw [List.mem_singleton.mp z]
          exact ok1' _ (List.getElem_mem jl)
      · show (((x :: lf).map spV).eraseIdx j).length < ((x :: lf).map spV).length
        rw [List.length_eraseIdx, len, if_pos jl]
        omega
end
section
variable {P : Program} {w : World} {K : PySem.W.Frag} {mg : Str → Option Value} {base : Heap}
/-! ### what is drawn, over values -/
def cPurse : VSpec := fun ds Q _ => ∃ (d : Val) (ns : List Int) (k : Int), ds = [d, .int k] ∧ (d = .lst (ns.map Val.int) ∨ d = .frz (ns.map Val.int)) ∧ 0 ≤ k ∧ k ≤ 63 ∧ ∀ p, PuW p 63000 → Q [] p
theorem M_l_purse : Mono cPurse := fun ds Q Q' E E' h _ ⟨d, ns, k, e, a, b, c, q⟩ => ⟨d, ns, k, e, a, b, c, fun p hp => h _ _ (q p hp)⟩
theorem v_purse (T : Tx K mg) (Ps : TL) : FnOk P w K mg base CX0 (2) T.f_l_purse T.fd_l_purse ["_law_script", "_law_at_here"] (vsp K Ps [] 2 cPurse) := (ok_purse T).imp fun vs H Q E ⟨ds, Fs, s, d, ns, k, e, hd, h0, h1, q⟩ => by
  subst e
  obtain ⟨v, v', rfl, r1, r2⟩ := arg2 s
  have ev : v' = .int k := r2.int_eq
  subst ev
  obtain ⟨l, us, G, ev, hs, ra, _⟩ := rd_lst r1 hd
  subst ev
  rw [rpa_ints' ra] at hs
  refine ⟨l, ns, k, rfl, hs, h0, h1, fun H' p sm np pu => ?_⟩
  obtain ⟨d', pw, rp⟩ := PuW.of (K := K) pu
  exact q d' pw H' _ [p] Fs (out_same sm s.tb) rp (by simp) fun a ha => by
    rw [List.mem_singleton.mp ha]
    exact ⟨np, fun _ h => nomatch h⟩
end
section
variable {P : Program} {w : World} {K : PySem.W.Frag} {mg : Str → Option Value} {base : Heap}
def spLaw (T : Tx K mg) : Sp := fun vs H Q _ => ∃ (a : Addr) (ns : List Int), vs = [.ref a] ∧ SqL K H a (ns.map V.int) ∧ ns.length ≤ 63 ∧ Tb T.tabs H ∧ ∀ H', Q (.bl true) H'
def cLaw : VSpec := fun ds Q _ => ∃ (d : Val) (ns : List Int), ds = [d] ∧ (d = .lst (ns.map Val.int) ∨ d = .frz (ns.map Val.int)) ∧ ns.length ≤ 63 ∧ Q [] (.bl true)
theorem law_of (T : Tx K mg) {k : Nat} {f : Addr} {fd : FuncData} {ps : List Str} (h : FnOk P w K mg base CX0 k f fd ps (vsp K T.tabs [] 1 cLaw)) : FnOk P w K mg base CX0 k f fd ps (spLaw T) := h.imp fun vs H Q E ⟨a, ns, e, hS, hl, tb, q⟩ => by
  subst e
  obtain ⟨d, F, hd, r⟩ : ∃ d F, (d = Val.lst (ns.map Val.int) ∨ d = .frz (ns.map Val.int)) ∧ Rp K H F (.ref a) d := by
    rcases frzn_of hS with z | z
    · exact ⟨_, [a], .inl rfl, rp_ints z⟩
    · exact ⟨_, [], .inr rfl, .frz z (rpa_ints ns)⟩
  refine ⟨[d], fun j => if j = 0 then F else [], ⟨rfl, rfl, fun j d' h => ?_, fun j h => ?_, (fun _ h => nomatch h), (fun _ h => nomatch h), tb, xk0⟩, d, ns, rfl, hd, hl, fun H' v F' Fs' _ r' _ _ => ?_⟩
  · rcases j with _ | j
    · cases h
      exact ⟨_, ⟨fun _ => rfl, fun z => absurd (show 1 ≤ 0 from z) (by decide)⟩, r⟩
    · simp at h
  · rcases j with _ | j
    · exact absurd rfl (h d)
    · rfl
  · rw [r'.bl_eq]
    exact q H'
end
section
variable {P : Program} {w : World} {K : PySem.W.Frag} {mg : Str → Option Value} {base : Heap}
theorem ok_law (T : Tx K mg) (B : Tbs T base) {f : Addr} {fd : FuncData} (F : Fun K "law" "law" s_law f fd) : FnOk P w K mg base CX0 (72) f fd ["_law_script"] (spLaw T) := by
  have G_l_purse : FnOk P w K mg base CX0 _ _ _ _ _ := v_purse T T.tabs
  have G_l_draw : FnOk P w K mg base CX0 _ _ _ _ _ := v_draw T T.tabs
  have G_l_nested : FnOk P w K mg base CX0 _ _ _ _ _ := v_nested T
  have G_l_many : FnOk P w K mg base CX0 _ _ _ _ _ := v_many T
  have G_l_loose : FnOk P w K mg base CX0 _ _ _ _ _ := v_l_loose T
  have G_l_asked : FnOk P w K mg base CX0 _ _ _ _ _ := v_l_asked T B
  have G_l_free_bent : FnOk P w K mg base CX0 _ _ _ _ _ := v_l_free_bent T
  have G_l_nests_bent : FnOk P w K mg base CX0 _ _ _ _ _ := v_l_nests_bent T
  refine law_of T (F.ok sc_law (fun vs H Q E h => vsp_len h) (fun cdv A outer s H vs Q E hr h => ⟨_, (pss_cons (ps_for PassesOwn.never (by rfl) (pi_range1 (by rfl) T.m_range (pa_cons pe_int pa_nil)) (pg_name (i := 1) sc_law.nd rfl (Or.inl rfl))
        (pss_cons (ps_set (i := 2) sc_law.nd rfl (Or.inl rfl) (pe_call G_l_purse (hr.mono (by decide)) (by rfl) T.g_l_purse T.F_l_purse.kp T.b_l_purse .nil pass0 (pa_cons (pv 0) (pa_cons (pv 1) pa_nil))))
      (pss_cons (ps_set (i := 3) sc_law.nd rfl (Or.inl rfl) (pe_call G_l_nested (hr.mono (by decide)) (by rfl) T.g_l_nested T.F_l_nested.kp T.b_l_nested .nil pass0 (pa_cons (pv 2) (pa_cons (pe_call G_l_draw (hr.mono (by decide)) (by rfl) T.g_l_draw T.F_l_draw.kp T.b_l_draw .nil pass0 (pa_cons (pv 2) (pa_cons pe_int pa_nil))) pa_nil))))
      (pss_cons (ps_if (pt_cmpR op_eq (pe_call G_l_draw (hr.mono (by decide)) (by rfl) T.g_l_draw T.F_l_draw.kp T.b_l_draw .nil pass0 (pa_cons (pv 2) (pa_cons pe_int pa_nil))) pe_int (nomark _)) (pss_one (ps_set (i := 3) sc_law.nd rfl (Or.inl rfl) (pe_call G_l_many (hr.mono (by decide)) (by rfl) T.g_l_many T.F_l_many.kp T.b_l_many .nil pass0 (pa_cons (pv 2) pa_nil)))) pss_nil)
      (pss_cons (ps_asg (pe_call G_l_loose (hr.mono (by decide)) (by rfl) T.g_l_loose T.F_l_loose.kp T.b_l_loose .nil pass0 (pa_cons (pv 3) pa_nil)) (pg_tup rfl (pgs_cons (pg_name (i := 4) sc_law.nd rfl (Or.inl rfl)) (pgs_cons (pg_name (i := 5) sc_law.nd rfl (Or.inl rfl)) pgs_nil))))
      (pss_cons (ps_if (pt_not (pt_val (pe_call G_l_asked (hr.mono (by decide)) (by rfl) T.g_l_asked T.F_l_asked.kp T.b_l_asked .nil pass0 (pa_cons (pv 3) (pa_cons (pv 4) (pa_cons (pv 5) pa_nil)))))) (pss_one (ps_ret pe_bl)) pss_nil)
      (pss_one (ps_for PassesOwn.never (by rfl) (pi_range1 (by rfl) T.m_range (pa_cons pe_int pa_nil)) (pg_name (i := 6) sc_law.nd rfl (Or.inl rfl))
        (pss_cons (ps_par (i := 7) (j := 8) rfl sc_law.nd rfl rfl (by decide) rfl rfl (pa_cons (pv 4) (pa_cons (pv 5) pa_nil)) rfl)
      (pss_cons (ps_if (pt_cmpR op_eq (pe_call G_l_draw (hr.mono (by decide)) (by rfl) T.g_l_draw T.F_l_draw.kp T.b_l_draw .nil pass0 (pa_cons (pv 2) (pa_cons pe_int pa_nil))) pe_int (nomark _)) (pss_one (ps_asg (pe_call G_l_free_bent (hr.mono (by decide)) (by rfl) T.g_l_free_bent T.F_l_free_bent.kp T.b_l_free_bent .nil pass0 (pa_cons (pv 2) (pa_cons (pe_callB call_len_seq (by rfl) T.m_len PySem.boot_len (pa_cons (pv 3) pa_nil)) (pa_cons (pv 4) (pa_cons (pv 5) pa_nil))))) (pg_tup rfl (pgs_cons (pg_name (i := 7) sc_law.nd rfl (Or.inl rfl)) (pgs_cons (pg_name (i := 8) sc_law.nd rfl (Or.inl rfl)) pgs_nil))))) pss_nil)
      (pss_cons (ps_if (PW.pt (pw_or (pt_cmpR (op_eqD hr.units) (pe_tup (pa_cons (pv 7) (pa_cons (pv 8) pa_nil))) (pe_tup (pa_cons (pv 4) (pa_cons (pv 5) pa_nil))) (nomark _)) (pw_or1 (pt_cmpR op_eq (pe_call G_l_draw (hr.mono (by decide)) (by rfl) T.g_l_draw T.F_l_draw.kp T.b_l_draw .nil pass0 (pa_cons (pv 2) (pa_cons pe_int pa_nil))) pe_int (nomark _))))) (pss_one (ps_set (i := 8) sc_law.nd rfl (Or.inl rfl) (pe_call G_l_nests_bent (hr.mono (by decide)) (by rfl) T.g_l_nests_bent T.F_l_nests_bent.kp T.b_l_nests_bent .nil pass0 (pa_cons (pv 2) (pa_cons (pe_callB call_len_seq (by rfl) T.m_len PySem.boot_len (pa_cons (pv 3) pa_nil)) (pa_cons (pv 8) pa_nil)))))) pss_nil)
      (pss_one (ps_if (pt_not (pt_val (pe_call G_l_asked (hr.mono (by decide)) (by rfl) T.g_l_asked T.F_l_asked.kp T.b_l_asked .nil pass0 (pa_cons (pv 3) (pa_cons (pv 7) (pa_cons (pv 8) pa_nil)))))) (pss_one (ps_ret pe_bl)) pss_nil)))))))))))))
      (pss_one (ps_ret pe_bl))), (vfn (N := 9) (lo := [2]) (Ef := [2]) U0 h rfl (by decide) rfl rfl hU0 (simS_cut (simS_for (E' := [2]) (simI_rng1 (simA_consF simE_int simA_nil rfl rfl rfl rfl rfl)) (simG_name (i := 1) (show 1 < 9 by decide) rfl rfl) (simS_seq (simS_setO (i := 2) (simE_call0 M_l_purse (simA_var (i := 0) rfl (simA_varF (i := 1) simA_nil)) rfl rfl) (show 2 < 9 by decide) rfl rfl rfl rfl rfl)
      (simS_seq (simS_asg (simE_call1 (i := 2) M_l_nested (simA_own (i := 2) rfl (simA_consF (simE_call1 (i := 2) M_l_draw (simA_own (i := 2) rfl (simA_consF simE_int simA_nil rfl rfl rfl rfl rfl)) rfl rfl (show 2 < 9 by decide)) simA_nil rfl rfl rfl rfl rfl)) rfl rfl (show 2 < 9 by decide)) (simG_name (i := 3) (show 3 < 9 by decide) rfl rfl) rfl rfl)
      (simS_cut (simS_if (simT_test (simE_op r2_eq (simE_call1 (i := 2) M_l_draw (simA_own (i := 2) rfl (simA_consF simE_int simA_nil rfl rfl rfl rfl rfl)) rfl rfl (show 2 < 9 by decide)) simE_int rfl)) (simS_asg (simE_call1 (i := 2) M_l_many (simA_own (i := 2) rfl simA_nil) rfl rfl (show 2 < 9 by decide)) (simG_name (i := 3) (show 3 < 9 by decide) rfl rfl) rfl rfl) (simS_next rfl) rfl rfl)
      (simS_seq (simS_asg (simE_call0 M_l_loose (simA_var (i := 3) rfl simA_nil) rfl rfl) (simG_tup (simGs_cons (simG_name (i := 4) (show 4 < 9 by decide) rfl rfl) (simGs_cons (simG_name (i := 5) (show 5 < 9 by decide) rfl rfl) simGs_nil))) rfl rfl)
      (simS_seq (simS_if (simT_not (simT_tB (simE_call0 M_l_asked (simA_var (i := 3) rfl (simA_var (i := 4) rfl (simA_var (i := 5) rfl simA_nil))) rfl rfl))) (simS_ret simE_bl rfl rfl rfl rfl) (simS_next rfl) rfl rfl)
      (simS_for (E' := [2]) (simI_rng1 (simA_consF simE_int simA_nil rfl rfl rfl rfl rfl)) (simG_name (i := 6) (show 6 < 9 by decide) rfl rfl) (simS_seq (simS_par (i := 7) (j := 8) (show 7 < 9 by decide) (show 8 < 9 by decide) rfl rfl rfl rfl rfl rfl rfl)
      (simS_cut (simS_if (simT_test (simE_op r2_eq (simE_call1 (i := 2) M_l_draw (simA_own (i := 2) rfl (simA_consF simE_int simA_nil rfl rfl rfl rfl rfl)) rfl rfl (show 2 < 9 by decide)) simE_int rfl)) (simS_asg (simE_call1 (i := 2) M_l_free_bent (simA_own (i := 2) rfl (simA_cons (simE_cb cb_len (simA_var (i := 3) rfl simA_nil)) (simA_var (i := 4) rfl (simA_var (i := 5) rfl simA_nil)) rfl)) rfl rfl (show 2 < 9 by decide)) (simG_tup (simGs_cons (simG_name (i := 7) (show 7 < 9 by decide) rfl rfl) (simGs_cons (simG_name (i := 8) (show 8 < 9 by decide) rfl rfl) simGs_nil))) rfl rfl) (simS_next rfl) rfl rfl)
      (simS_cut (simS_if (simT_or (simT_test (simE_op r2_eqD (simE_tup (simA_var (i := 7) rfl (simA_var (i := 8) rfl simA_nil)) (by decide)) (simE_tup (simA_var (i := 4) rfl (simA_var (i := 5) rfl simA_nil)) (by decide)) rfl)) (simT_test (simE_op r2_eq (simE_call1 (i := 2) M_l_draw (simA_own (i := 2) rfl (simA_consF simE_int simA_nil rfl rfl rfl rfl rfl)) rfl rfl (show 2 < 9 by decide)) simE_int rfl)) rfl) (simS_asg (simE_call1 (i := 2) M_l_nests_bent (simA_own (i := 2) rfl (simA_cons (simE_cb cb_len (simA_var (i := 3) rfl simA_nil)) (simA_var (i := 8) rfl simA_nil) rfl)) rfl rfl (show 2 < 9 by decide)) (simG_name (i := 8) (show 8 < 9 by decide) rfl rfl) rfl rfl) (simS_next rfl) rfl rfl)
      (simS_if (simT_not (simT_tB (simE_call0 M_l_asked (simA_var (i := 3) rfl (simA_var (i := 7) rfl (simA_var (i := 8) rfl simA_nil))) rfl rfl))) (simS_ret simE_bl rfl rfl rfl rfl) (simS_next rfl) rfl rfl)))) rfl rfl rfl rfl)))))) rfl rfl rfl rfl)
      (simS_ret simE_bl rfl rfl rfl rfl)) ?_)⟩))
  clear G_l_purse G_l_draw G_l_nested G_l_many G_l_loose G_l_asked G_l_free_bent G_l_nests_bent
  rintro ds Q X ⟨d, ns, rfl, hd, hl, q⟩
  refine ⟨fun env => True, ?_, fun env _ => q⟩
  refine ⟨⟨by decide, by decide⟩, ?_⟩
  refine ⟨fun i env => ∃ (y1 y2 y3 y4 y5 y6 y7 y8 : Option Val), env = [some d, y1, y2, y3, y4, y5, y6, y7, y8], ⟨none, none, none, none, none, none, none, none, rfl⟩, ?_, fun _ _ => True.intro⟩
  rintro i y env hi ⟨y1, y2, y3, y4, y5, y6, y7, y8, rfl⟩
  obtain ⟨hi2, rfl⟩ := rngV_at hi
  clear hi
  have hi3 : i < 2 := hi2
  refine ⟨rfl, d, ns, 0 + (i : Int), rfl, hd, by omega, by omega, fun p pw => ?_⟩
  refine ⟨p, 11, 63000, rfl, pw, by decide, by decide, by decide, fun p1 r1 pw1 a0 a1 => ?_⟩
  obtain ⟨m, rfl⟩ : ∃ m : Nat, r1 = (m : Int) := ⟨r1.toNat, by omega⟩
  refine ⟨p1, 63003, m, rfl, pw1, by decide, by omega, fun p2 ss0 pw2 ok0 sl0 => ?_⟩
  refine ⟨fun env => ∃ (p' : Val) (ss : List Span), env = [some d, some (.int (0 + (i : Int))), some p', some (.lst (ss.map spV)), y4, y5, y6, y7, y8] ∧ PuW p' 70000 ∧ (∀ s ∈ ss, isSpan s = true) ∧ ss.length ≤ 60, ?_, ?_⟩
  · refine ⟨p2, 6, 63003 + 6 + 21 * m, rfl, pw2, by omega, by decide, by decide, fun p3 r3 pw3 _ _ => ?_⟩
    by_cases e : r3 = 0
    · refine ifT (by rw [decide_eq_true e]; rfl) ?_
      refine ⟨p3, _, rfl, pw3, by omega, fun p4 ss pw4 ok sl => ?_⟩
      exact ⟨p4, ss, rfl, pw4.mono (by omega), ok, sl⟩
    · refine ifF (by rw [decide_eq_false e]; rfl) ?_
      exact ⟨p3, ss0, rfl, pw3.mono (by omega), ok0, by omega⟩
  rintro env ⟨p, ss, rfl, pw, ok, sl⟩
  have allS : ss.all isSpan = true := List.all_eq_true.mpr ok
  have slen : (ss.map spV).length = ss.length := List.length_map ..
  refine ⟨ss, rfl, by omega, fun s hs => ((isSpan_iff s).mp (ok s hs)).2.1, fun ch LL lo => ?_⟩
  have chl := lo.nd.len
  have few : Few7 ch LL 130 := ⟨by omega, by have := lo.ll; omega, fun r hr => by have := lo.rl r hr; omega⟩
  have r9 : ∀ {c : List Int} {L : List (List Int)} {n : Nat}, Few7 c L n → n ≤ 900 → Rows7 L 900 := fun {c L n} f h => ⟨by have := f.ll; omega, fun r hr => by have := f.rl r hr; omega⟩
  refine ⟨rfl, ?_⟩
  refine ⟨ss, ch, LL, rfl, allS, by omega, by omega, r9 few (by decide), ?_⟩
  refine ⟨⟨by decide, by decide⟩, ?_⟩
  refine ⟨fun j env => ∃ (p' : Val) (y6 y7 y8 : Option Val), env = [some d, some (.int (0 + (i : Int))), some p', some (.lst (ss.map spV)), some (.lst (ch.map Val.int)), some (chV LL), y6, y7, y8] ∧ PuW p' (70000 + 300 * j), ⟨p, y6, y7, y8, rfl, pw⟩, ?_, ?_⟩
  · rintro j x env hj ⟨p', y6, y7, y8, rfl, pw'⟩
    obtain ⟨hj2, rfl⟩ := rngV_at hj
    clear hj
    have hj3 : j < 6 := hj2
    refine ⟨_, _, rfl, rfl, ?_⟩
    refine ⟨fun env => ∃ (p' : Val) (be : List Int) (L : List (List Int)), env = [some d, some (.int (0 + (i : Int))), some p', some (.lst (ss.map spV)), some (.lst (ch.map Val.int)), some (chV LL), some (.int (0 + (j : Int))), some (.lst (be.map Val.int)), some (chV L)] ∧ PuW p' (70000 + 300 * j + 110) ∧ Few7 be L 130, ?_, ?_⟩
    · refine ⟨p', 2, 70000 + 300 * j, rfl, pw', by omega, by decide, by decide, fun p3 r3 pw3 _ _ => ?_⟩
      by_cases e : r3 = 0
      · refine ifT (by rw [decide_eq_true e]; rfl) ?_
        refine ⟨p3, _, ss.length, ch, LL, ?_, pw3, by omega, sl, fun ne => ?_, lo, fun p4 be L pw4 f4 => ?_⟩
        · rw [← slen]
        · have := List.length_pos_iff.mpr ne
          omega
        · exact ⟨rfl, p4, be, L, rfl, pw4.mono (by omega), f4⟩
      · refine ifF (by rw [decide_eq_false e]; rfl) ?_
        exact ⟨p3, ch, LL, rfl, pw3.mono (by omega), few⟩
    rintro env ⟨p4, be, L, rfl, pw4, f4⟩
    refine ⟨fun env => ∃ (p' : Val) (L : List (List Int)), env = [some d, some (.int (0 + (i : Int))), some p', some (.lst (ss.map spV)), some (.lst (ch.map Val.int)), some (chV LL), some (.int (0 + (j : Int))), some (.lst (be.map Val.int)), some (chV L)] ∧ PuW p' (70000 + 300 * (j + 1)) ∧ Rows7 L 300, ?_, ?_⟩
    · refine ⟨okD_handC be L, okD_handC ch LL, ?_⟩
      by_cases eb : (false != PyData.eqv (Val.toD (.tup [.lst (be.map Val.int), chV L])) (Val.toD (.tup [.lst (ch.map Val.int), chV LL]))) = true
      · refine ifT eb ?_
        refine ifT rfl ?_
        refine ⟨p4, _, _, L, rfl, pw4, by omega, ⟨f4.ll, f4.rl⟩, fun p5 L' pw5 R5 => ?_⟩
        exact ⟨p5, L', rfl, pw5.mono (by omega), R5⟩
      · refine ifF (by simpa using eb) ?_
        refine ⟨p4, 3, _, rfl, pw4, by omega, by decide, by decide, fun p5 r5 pw5 _ _ => ?_⟩
        by_cases e : r5 = 0
        · refine ifT (by rw [decide_eq_true e]; rfl) ?_
          refine ⟨p5, _, _, L, rfl, pw5, by omega, ⟨f4.ll, f4.rl⟩, fun p6 L' pw6 R6 => ?_⟩
          exact ⟨p6, L', rfl, pw6.mono (by omega), R6⟩
        · refine ifF (by rw [decide_eq_false e]; rfl) ?_
          exact ⟨p5, L, rfl, pw5.mono (by omega), ⟨by have := f4.ll; omega, fun r hr => by have := f4.rl r hr; omega⟩⟩
    · rintro env ⟨p5, L, rfl, pw5, R5⟩
      refine ⟨ss, be, L, rfl, allS, by omega, by have := f4.cl; omega, ⟨by have := R5.1; omega, fun r hr => by have := R5.2 r hr; omega⟩, ?_⟩
      exact ⟨p5, _, _, _, rfl, pw5⟩
  · rintro env ⟨p', y6, y7, y8, rfl, pw'⟩
    exact ⟨_, _, _, _, _, _, _, _, rfl⟩
end
theorem all_mk {l : PySem.W.OpenLaw} {w : World} {K : PySem.W.Frag} {h : Heap} {mg : Str → Option Value} {fa : Addr} (X : K.In h) (G : h.Ns mainGlobals mg) (hfa : mg "law" = some (.ref fa))
    {f_is_whole : Addr} {od_is_whole an_is_whole : Option Addr} {sl_is_whole : Array (Option Value)} {oc_is_whole kV_is_whole dc_is_whole pm_is_whole cd_is_whole ct_is_whole : Value}
    {f_is_place : Addr} {od_is_place an_is_place : Option Addr} {sl_is_place : Array (Option Value)} {oc_is_place kV_is_place dc_is_place pm_is_place cd_is_place ct_is_place : Value}
    {f_is_span : Addr} {od_is_span an_is_span : Option Addr} {sl_is_span : Array (Option Value)} {oc_is_span kV_is_span dc_is_span pm_is_span cd_is_span ct_is_span : Value}
    {f_check_span : Addr} {od_check_span an_check_span : Option Addr} {sl_check_span : Array (Option Value)} {oc_check_span kV_check_span dc_check_span pm_check_span cd_check_span ct_check_span : Value}
    {f_check_spans : Addr} {od_check_spans an_check_spans : Option Addr} {sl_check_spans : Array (Option Value)} {oc_check_spans kV_check_spans dc_check_spans pm_check_spans cd_check_spans ct_check_spans : Value}
    {f_are_numbers : Addr} {od_are_numbers an_are_numbers : Option Addr} {sl_are_numbers : Array (Option Value)} {oc_are_numbers kV_are_numbers dc_are_numbers pm_are_numbers ct_are_numbers ec_are_numbers : Value} {cA_are_numbers pA_are_numbers : Addr} {dd_are_numbers : Option Addr} {vc_are_numbers : Array Value} {sc_t_are_numbers : Array (Option Value)}
    {f_is_inside : Addr} {od_is_inside an_is_inside : Option Addr} {sl_is_inside : Array (Option Value)} {oc_is_inside kV_is_inside dc_is_inside pm_is_inside cd_is_inside ct_is_inside : Value}
    {f_is_under : Addr} {od_is_under an_is_under : Option Addr} {sl_is_under : Array (Option Value)} {oc_is_under kV_is_under dc_is_under pm_is_under cd_is_under ct_is_under : Value}
    {f_is_nest : Addr} {od_is_nest an_is_nest : Option Addr} {sl_is_nest : Array (Option Value)} {oc_is_nest kV_is_nest dc_is_nest pm_is_nest ct_is_nest ec_is_nest : Value} {cA_is_nest pA_is_nest : Addr} {dd_is_nest : Option Addr} {vc_is_nest : Array Value} {sc_t_is_nest : Array (Option Value)}
    {f_are_loose : Addr} {od_are_loose an_are_loose : Option Addr} {sl_are_loose : Array (Option Value)} {oc_are_loose kV_are_loose dc_are_loose pm_are_loose ct_are_loose ec_are_loose : Value} {cA_are_loose pA_are_loose : Addr} {dd_are_loose : Option Addr} {vc_are_loose : Array Value} {sc_t_are_loose : Array (Option Value)}
    {f_shows_loose : Addr} {od_shows_loose an_shows_loose : Option Addr} {sl_shows_loose : Array (Option Value)} {oc_shows_loose kV_shows_loose dc_shows_loose pm_shows_loose ct_shows_loose ec_shows_loose : Value} {cA_shows_loose pA_shows_loose : Addr} {dd_shows_loose : Option Addr} {vc_shows_loose : Array Value} {sc_t_shows_loose : Array (Option Value)}
    {f_l_at : Addr} {od_l_at an_l_at : Option Addr} {sl_l_at : Array (Option Value)} {oc_l_at kV_l_at dc_l_at pm_l_at cd_l_at ct_l_at : Value}
    {f_l_mixed : Addr} {od_l_mixed an_l_mixed : Option Addr} {sl_l_mixed : Array (Option Value)} {oc_l_mixed kV_l_mixed dc_l_mixed pm_l_mixed cd_l_mixed ct_l_mixed : Value}
    {f_l_purse : Addr} {od_l_purse an_l_purse : Option Addr} {sl_l_purse : Array (Option Value)} {oc_l_purse kV_l_purse dc_l_purse pm_l_purse cd_l_purse ct_l_purse : Value}
    {f_l_draw : Addr} {od_l_draw an_l_draw : Option Addr} {sl_l_draw : Array (Option Value)} {oc_l_draw kV_l_draw dc_l_draw pm_l_draw cd_l_draw ct_l_draw : Value}
    {f_l_number : Addr} {od_l_number an_l_number : Option Addr} {sl_l_number : Array (Option Value)} {oc_l_number kV_l_number dc_l_number pm_l_number cd_l_number ct_l_number : Value}
    {f_l_end : Addr} {od_l_end an_l_end : Option Addr} {sl_l_end : Array (Option Value)} {oc_l_end kV_l_end dc_l_end pm_l_end cd_l_end ct_l_end : Value}
    {f_l_span : Addr} {od_l_span an_l_span : Option Addr} {sl_l_span : Array (Option Value)} {oc_l_span kV_l_span dc_l_span pm_l_span cd_l_span ct_l_span : Value}
    {f_l_nested : Addr} {od_l_nested an_l_nested : Option Addr} {sl_l_nested : Array (Option Value)} {oc_l_nested kV_l_nested dc_l_nested pm_l_nested cd_l_nested ct_l_nested : Value}
    {f_l_under : Addr} {od_l_under an_l_under : Option Addr} {sl_l_under : Array (Option Value)} {oc_l_under kV_l_under dc_l_under pm_l_under cd_l_under ct_l_under : Value}
    {f_l_loose_right : Addr} {od_l_loose_right an_l_loose_right : Option Addr} {sl_l_loose_right : Array (Option Value)} {oc_l_loose_right kV_l_loose_right dc_l_loose_right pm_l_loose_right cd_l_loose_right ct_l_loose_right : Value}
    {f_l_freed : Addr} {od_l_freed an_l_freed : Option Addr} {sl_l_freed : Array (Option Value)} {oc_l_freed kV_l_freed dc_l_freed pm_l_freed cd_l_freed ct_l_freed : Value}
    {f_l_chains : Addr} {od_l_chains an_l_chains : Option Addr} {sl_l_chains : Array (Option Value)} {oc_l_chains kV_l_chains dc_l_chains pm_l_chains cd_l_chains ct_l_chains : Value}
    {f_l_loose : Addr} {od_l_loose an_l_loose : Option Addr} {sl_l_loose : Array (Option Value)} {oc_l_loose kV_l_loose dc_l_loose pm_l_loose cd_l_loose ct_l_loose : Value}
    {f_l_free_bent : Addr} {od_l_free_bent an_l_free_bent : Option Addr} {sl_l_free_bent : Array (Option Value)} {oc_l_free_bent kV_l_free_bent dc_l_free_bent pm_l_free_bent cd_l_free_bent ct_l_free_bent : Value}
    {f_l_nests_bent : Addr} {od_l_nests_bent an_l_nests_bent : Option Addr} {sl_l_nests_bent : Array (Option Value)} {oc_l_nests_bent kV_l_nests_bent dc_l_nests_bent pm_l_nests_bent cd_l_nests_bent ct_l_nests_bent : Value}
    {f_l_asked : Addr} {od_l_asked an_l_asked : Option Addr} {sl_l_asked : Array (Option Value)} {oc_l_asked kV_l_asked dc_l_asked pm_l_asked cd_l_asked ct_l_asked : Value}
    {f_l_many : Addr} {od_l_many an_l_many : Option Addr} {sl_l_many : Array (Option Value)} {oc_l_many kV_l_many dc_l_many pm_l_many cd_l_many ct_l_many : Value}
    {f_law : Addr} {od_law an_law : Option Addr} {sl_law : Array (Option Value)} {oc_law kV_law dc_law pm_law cd_law ct_law : Value}
    {tc_LEAST_PLACE : Tok}
    {tc_GREATEST_PLACE : Tok}
    {C_ShelfError : Addr}
    {C_NoSpan : Addr}
    (a_is_whole : PySem.W.nsIn K mainGlobals "is_whole" = some (some (.ref f_is_whole)))
    (l_is_whole : K.lookup f_is_whole = some ⟨oc_is_whole, od_is_whole, .func (PySem.W.fnOf "is_whole" "is_whole" (defArgs s_is_whole) (defBody s_is_whole) (defScope s_is_whole) .none kV_is_whole dc_is_whole pm_is_whole an_is_whole cd_is_whole ct_is_whole), sl_is_whole⟩)
    (c_is_whole : PySem.W.codeIn K cd_is_whole "is_whole" = true)
    (k_is_whole : PySem.W.keepIn K (.ref f_is_whole) = true)
    (a_is_place : PySem.W.nsIn K mainGlobals "is_place" = some (some (.ref f_is_place)))
    (l_is_place : K.lookup f_is_place = some ⟨oc_is_place, od_is_place, .func (PySem.W.fnOf "is_place" "is_place" (defArgs s_is_place) (defBody s_is_place) (defScope s_is_place) .none kV_is_place dc_is_place pm_is_place an_is_place cd_is_place ct_is_place), sl_is_place⟩)
    (c_is_place : PySem.W.codeIn K cd_is_place "is_place" = true)
    (k_is_place : PySem.W.keepIn K (.ref f_is_place) = true)
    (a_is_span : PySem.W.nsIn K mainGlobals "is_span" = some (some (.ref f_is_span)))
    (l_is_span : K.lookup f_is_span = some ⟨oc_is_span, od_is_span, .func (PySem.W.fnOf "is_span" "is_span" (defArgs s_is_span) (defBody s_is_span) (defScope s_is_span) .none kV_is_span dc_is_span pm_is_span an_is_span cd_is_span ct_is_span), sl_is_span⟩)
    (c_is_span : PySem.W.codeIn K cd_is_span "is_span" = true)
    (k_is_span : PySem.W.keepIn K (.ref f_is_span) = true)
    (a_check_span : PySem.W.nsIn K mainGlobals "check_span" = some (some (.ref f_check_span)))
    (l_check_span : K.lookup f_check_span = some ⟨oc_check_span, od_check_span, .func (PySem.W.fnOf "check_span" "check_span" (defArgs s_check_span) (defBody s_check_span) (defScope s_check_span) .none kV_check_span dc_check_span pm_check_span an_check_span cd_check_span ct_check_span), sl_check_span⟩)
    (c_check_span : PySem.W.codeIn K cd_check_span "check_span" = true)
    (k_check_span : PySem.W.keepIn K (.ref f_check_span) = true)
    (a_check_spans : PySem.W.nsIn K mainGlobals "check_spans" = some (some (.ref f_check_spans)))
    (l_check_spans : K.lookup f_check_spans = some ⟨oc_check_spans, od_check_spans, .func (PySem.W.fnOf "check_spans" "check_spans" (defArgs s_check_spans) (defBody s_check_spans) (defScope s_check_spans) .none kV_check_spans dc_check_spans pm_check_spans an_check_spans cd_check_spans ct_check_spans), sl_check_spans⟩)
    (c_check_spans : PySem.W.codeIn K cd_check_spans "check_spans" = true)
    (k_check_spans : PySem.W.keepIn K (.ref f_check_spans) = true)
    (a_are_numbers : PySem.W.nsIn K mainGlobals "are_numbers" = some (some (.ref f_are_numbers)))
    (l_are_numbers : K.lookup f_are_numbers = some ⟨oc_are_numbers, od_are_numbers, .func (PySem.W.fnOf "are_numbers" "are_numbers" (defArgs s_are_numbers) (defBody s_are_numbers) (defScope s_are_numbers) .none kV_are_numbers dc_are_numbers pm_are_numbers an_are_numbers (.ref cA_are_numbers) ct_are_numbers), sl_are_numbers⟩)
    (c_are_numbers : PySem.W.codeIn K (.ref cA_are_numbers) "are_numbers" = true)
    (k_are_numbers : PySem.W.keepIn K (.ref f_are_numbers) = true)
    (y1_are_numbers : K.lookup cA_are_numbers = some ⟨ec_are_numbers, dd_are_numbers, .fields vc_are_numbers, sc_t_are_numbers⟩)
    (y2_are_numbers : vc_are_numbers[11]? = some (.ref pA_are_numbers))
    (y3_are_numbers : K.lookup pA_are_numbers = none)
    (a_is_inside : PySem.W.nsIn K mainGlobals "is_inside" = some (some (.ref f_is_inside)))
    (l_is_inside : K.lookup f_is_inside = some ⟨oc_is_inside, od_is_inside, .func (PySem.W.fnOf "is_inside" "is_inside" (defArgs s_is_inside) (defBody s_is_inside) (defScope s_is_inside) .none kV_is_inside dc_is_inside pm_is_inside an_is_inside cd_is_inside ct_is_inside), sl_is_inside⟩)
    (c_is_inside : PySem.W.codeIn K cd_is_inside "is_inside" = true)
    (k_is_inside : PySem.W.keepIn K (.ref f_is_inside) = true)
    (a_is_under : PySem.W.nsIn K mainGlobals "is_under" = some (some (.ref f_is_under)))
    (l_is_under : K.lookup f_is_under = some ⟨oc_is_under, od_is_under, .func (PySem.W.fnOf "is_under" "is_under" (defArgs s_is_under) (defBody s_is_under) (defScope s_is_under) .none kV_is_under dc_is_under pm_is_under an_is_under cd_is_under ct_is_under), sl_is_under⟩)
    (c_is_under : PySem.W.codeIn K cd_is_under "is_under" = true)
    (k_is_under : PySem.W.keepIn K (.ref f_is_under) = true)
    (a_is_nest : PySem.W.nsIn K mainGlobals "is_nest" = some (some (.ref f_is_nest)))
    (l_is_nest : K.lookup f_is_nest = some ⟨oc_is_nest, od_is_nest, .func (PySem.W.fnOf "is_nest" "is_nest" (defArgs s_is_nest) (defBody s_is_nest) (defScope s_is_nest) .none kV_is_nest dc_is_nest pm_is_nest an_is_nest (.ref cA_is_nest) ct_is_nest), sl_is_nest⟩)
    (c_is_nest : PySem.W.codeIn K (.ref cA_is_nest) "is_nest" = true)
    (k_is_nest : PySem.W.keepIn K (.ref f_is_nest) = true)
    (y1_is_nest : K.lookup cA_is_nest = some ⟨ec_is_nest, dd_is_nest, .fields vc_is_nest, sc_t_is_nest⟩)
    (y2_is_nest : vc_is_nest[11]? = some (.ref pA_is_nest))
    (y3_is_nest : K.lookup pA_is_nest = none)
    (a_are_loose : PySem.W.nsIn K mainGlobals "are_loose" = some (some (.ref f_are_loose)))
    (l_are_loose : K.lookup f_are_loose = some ⟨oc_are_loose, od_are_loose, .func (PySem.W.fnOf "are_loose" "are_loose" (defArgs s_are_loose) (defBody s_are_loose) (defScope s_are_loose) .none kV_are_loose dc_are_loose pm_are_loose an_are_loose (.ref cA_are_loose) ct_are_loose), sl_are_loose⟩)
    (c_are_loose : PySem.W.codeIn K (.ref cA_are_loose) "are_loose" = true)
    (k_are_loose : PySem.W.keepIn K (.ref f_are_loose) = true)
    (y1_are_loose : K.lookup cA_are_loose = some ⟨ec_are_loose, dd_are_loose, .fields vc_are_loose, sc_t_are_loose⟩)
    (y2_are_loose : vc_are_loose[11]? = some (.ref pA_are_loose))
    (y3_are_loose : K.lookup pA_are_loose = none)
    (a_shows_loose : PySem.W.nsIn K mainGlobals "shows_loose" = some (some (.ref f_shows_loose)))
    (l_shows_loose : K.lookup f_shows_loose = some ⟨oc_shows_loose, od_shows_loose, .func (PySem.W.fnOf "shows_loose" "shows_loose" (defArgs s_shows_loose) (defBody s_shows_loose) (defScope s_shows_loose) .none kV_shows_loose dc_shows_loose pm_shows_loose an_shows_loose (.ref cA_shows_loose) ct_shows_loose), sl_shows_loose⟩)
    (c_shows_loose : PySem.W.codeIn K (.ref cA_shows_loose) "shows_loose" = true)
    (k_shows_loose : PySem.W.keepIn K (.ref f_shows_loose) = true)
    (y1_shows_loose : K.lookup cA_shows_loose = some ⟨ec_shows_loose, dd_shows_loose, .fields vc_shows_loose, sc_t_shows_loose⟩)
    (y2_shows_loose : vc_shows_loose[11]? = some (.ref pA_shows_loose))
    (y3_shows_loose : K.lookup pA_shows_loose = none)
    (a_l_at : PySem.W.nsIn K mainGlobals "_law_at" = some (some (.ref f_l_at)))
    (l_l_at : K.lookup f_l_at = some ⟨oc_l_at, od_l_at, .func (PySem.W.fnOf "_law_at" "_law_at" (defArgs s_l_at) (defBody s_l_at) (defScope s_l_at) .none kV_l_at dc_l_at pm_l_at an_l_at cd_l_at ct_l_at), sl_l_at⟩)
    (c_l_at : PySem.W.codeIn K cd_l_at "_law_at" = true)
    (k_l_at : PySem.W.keepIn K (.ref f_l_at) = true)
    (a_l_mixed : PySem.W.nsIn K mainGlobals "_law_mixed" = some (some (.ref f_l_mixed)))
    (l_l_mixed : K.lookup f_l_mixed = some ⟨oc_l_mixed, od_l_mixed, .func (PySem.W.fnOf "_law_mixed" "_law_mixed" (defArgs s_l_mixed) (defBody s_l_mixed) (defScope s_l_mixed) .none kV_l_mixed dc_l_mixed pm_l_mixed an_l_mixed cd_l_mixed ct_l_mixed), sl_l_mixed⟩)
    (c_l_mixed : PySem.W.codeIn K cd_l_mixed "_law_mixed" = true)
    (k_l_mixed : PySem.W.keepIn K (.ref f_l_mixed) = true)
    (a_l_purse : PySem.W.nsIn K mainGlobals "_law_purse" = some (some (.ref f_l_purse)))
    (l_l_purse : K.lookup f_l_purse = some ⟨oc_l_purse, od_l_purse, .func (PySem.W.fnOf "_law_purse" "_law_purse" (defArgs s_l_purse) (defBody s_l_purse) (defScope s_l_purse) .none kV_l_purse dc_l_purse pm_l_purse an_l_purse cd_l_purse ct_l_purse), sl_l_purse⟩)
    (c_l_purse : PySem.W.codeIn K cd_l_purse "_law_purse" = true)
    (k_l_purse : PySem.W.keepIn K (.ref f_l_purse) = true)
    (a_l_draw : PySem.W.nsIn K mainGlobals "_law_draw" = some (some (.ref f_l_draw)))
    (l_l_draw : K.lookup f_l_draw = some ⟨oc_l_draw, od_l_draw, .func (PySem.W.fnOf "_law_draw" "_law_draw" (defArgs s_l_draw) (defBody s_l_draw) (defScope s_l_draw) .none kV_l_draw dc_l_draw pm_l_draw an_l_draw cd_l_draw ct_l_draw), sl_l_draw⟩)
    (c_l_draw : PySem.W.codeIn K cd_l_draw "_law_draw" = true)
    (k_l_draw : PySem.W.keepIn K (.ref f_l_draw) = true)
    (a_l_number : PySem.W.nsIn K mainGlobals "_law_number" = some (some (.ref f_l_number)))
    (l_l_number : K.lookup f_l_number = some ⟨oc_l_number, od_l_number, .func (PySem.W.fnOf "_law_number" "_law_number" (defArgs s_l_number) (defBody s_l_number) (defScope s_l_number) .none kV_l_number dc_l_number pm_l_number an_l_number cd_l_number ct_l_number), sl_l_number⟩)
    (c_l_number : PySem.W.codeIn K cd_l_number "_law_number" = true)
    (k_l_number : PySem.W.keepIn K (.ref f_l_number) = true)
    (a_l_end : PySem.W.nsIn K mainGlobals "_law_end" = some (some (.ref f_l_end)))
    (l_l_end : K.lookup f_l_end = some ⟨oc_l_end, od_l_end, .func (PySem.W.fnOf "_law_end" "_law_end" (defArgs s_l_end) (defBody s_l_end) (defScope s_l_end) .none kV_l_end dc_l_end pm_l_end an_l_end cd_l_end ct_l_end), sl_l_end⟩)
    (c_l_end : PySem.W.codeIn K cd_l_end "_law_end" = true)
    (k_l_end : PySem.W.keepIn K (.ref f_l_end) = true)
    (a_l_span : PySem.W.nsIn K mainGlobals "_law_span" = some (some (.ref f_l_span)))
    (l_l_span : K.lookup f_l_span = some ⟨oc_l_span, od_l_span, .func (PySem.W.fnOf "_law_span" "_law_span" (defArgs s_l_span) (defBody s_l_span) (defScope s_l_span) .none kV_l_span dc_l_span pm_l_span an_l_span cd_l_span ct_l_span), sl_l_span⟩)
    (c_l_span : PySem.W.codeIn K cd_l_span "_law_span" = true)
    (k_l_span : PySem.W.keepIn K (.ref f_l_span) = true)
    (a_l_nested : PySem.W.nsIn K mainGlobals "_law_nested" = some (some (.ref f_l_nested)))
    (l_l_nested : K.lookup f_l_nested = some ⟨oc_l_nested, od_l_nested, .func (PySem.W.fnOf "_law_nested" "_law_nested" (defArgs s_l_nested) (defBody s_l_nested) (defScope s_l_nested) .none kV_l_nested dc_l_nested pm_l_nested an_l_nested cd_l_nested ct_l_nested), sl_l_nested⟩)
    (c_l_nested : PySem.W.codeIn K cd_l_nested "_law_nested" = true)
    (k_l_nested : PySem.W.keepIn K (.ref f_l_nested) = true)
    (a_l_under : PySem.W.nsIn K mainGlobals "_law_under" = some (some (.ref f_l_under)))
    (l_l_under : K.lookup f_l_under = some ⟨oc_l_under, od_l_under, .func (PySem.W.fnOf "_law_under" "_law_under" (defArgs s_l_under) (defBody s_l_under) (defScope s_l_under) .none kV_l_under dc_l_under pm_l_under an_l_under cd_l_under ct_l_under), sl_l_under⟩)
    (c_l_under : PySem.W.codeIn K cd_l_under "_law_under" = true)
    (k_l_under : PySem.W.keepIn K (.ref f_l_under) = true)
    (a_l_loose_right : PySem.W.nsIn K mainGlobals "_law_loose_right" = some (some (.ref f_l_loose_right)))
    (l_l_loose_right : K.lookup f_l_loose_right = some ⟨oc_l_loose_right, od_l_loose_right, .func (PySem.W.fnOf "_law_loose_right" "_law_loose_right" (defArgs s_l_loose_right) (defBody s_l_loose_right) (defScope s_l_loose_right) .none kV_l_loose_right dc_l_loose_right pm_l_loose_right an_l_loose_right cd_l_loose_right ct_l_loose_right), sl_l_loose_right⟩)
    (c_l_loose_right : PySem.W.codeIn K cd_l_loose_right "_law_loose_right" = true)
    (k_l_loose_right : PySem.W.keepIn K (.ref f_l_loose_right) = true)
    (a_l_freed : PySem.W.nsIn K mainGlobals "_law_freed" = some (some (.ref f_l_freed)))
    (l_l_freed : K.lookup f_l_freed = some ⟨oc_l_freed, od_l_freed, .func (PySem.W.fnOf "_law_freed" "_law_freed" (defArgs s_l_freed) (defBody s_l_freed) (defScope s_l_freed) .none kV_l_freed dc_l_freed pm_l_freed an_l_freed cd_l_freed ct_l_freed), sl_l_freed⟩)
    (c_l_freed : PySem.W.codeIn K cd_l_freed "_law_freed" = true)
    (k_l_freed : PySem.W.keepIn K (.ref f_l_freed) = true)
    (a_l_chains : PySem.W.nsIn K mainGlobals "_law_chains" = some (some (.ref f_l_chains)))
    (l_l_chains : K.lookup f_l_chains = some ⟨oc_l_chains, od_l_chains, .func (PySem.W.fnOf "_law_chains" "_law_chains" (defArgs s_l_chains) (defBody s_l_chains) (defScope s_l_chains) .none kV_l_chains dc_l_chains pm_l_chains an_l_chains cd_l_chains ct_l_chains), sl_l_chains⟩)
    (c_l_chains : PySem.W.codeIn K cd_l_chains "_law_chains" = true)
    (k_l_chains : PySem.W.keepIn K (.ref f_l_chains) = true)
    (a_l_loose : PySem.W.nsIn K mainGlobals "_law_loose" = some (some (.ref f_l_loose)))
    (l_l_loose : K.lookup f_l_loose = some ⟨oc_l_loose, od_l_loose, .func (PySem.W.fnOf "_law_loose" "_law_loose" (defArgs s_l_loose) (defBody s_l_loose) (defScope s_l_loose) .none kV_l_loose dc_l_loose pm_l_loose an_l_loose cd_l_loose ct_l_loose), sl_l_loose⟩)
    (c_l_loose : PySem.W.codeIn K cd_l_loose "_law_loose" = true)
    (k_l_loose : PySem.W.keepIn K (.ref f_l_loose) = true)
    (a_l_free_bent : PySem.W.nsIn K mainGlobals "_law_free_bent" = some (some (.ref f_l_free_bent)))
    (l_l_free_bent : K.lookup f_l_free_bent = some ⟨oc_l_free_bent, od_l_free_bent, .func (PySem.W.fnOf "_law_free_bent" "_law_free_bent" (defArgs s_l_free_bent) (defBody s_l_free_bent) (defScope s_l_free_bent) .none kV_l_free_bent dc_l_free_bent pm_l_free_bent an_l_free_bent cd_l_free_bent ct_l_free_bent), sl_l_free_bent⟩)
    (c_l_free_bent : PySem.W.codeIn K cd_l_free_bent "_law_free_bent" = true)
    (k_l_free_bent : PySem.W.keepIn K (.ref f_l_free_bent) = true)
    (a_l_nests_bent : PySem.W.nsIn K mainGlobals "_law_nests_bent" = some (some (.ref f_l_nests_bent)))
    (l_l_nests_bent : K.lookup f_l_nests_bent = some ⟨oc_l_nests_bent, od_l_nests_bent, .func (PySem.W.fnOf "_law_nests_bent" "_law_nests_bent" (defArgs s_l_nests_bent) (defBody s_l_nests_bent) (defScope s_l_nests_bent) .none kV_l_nests_bent dc_l_nests_bent pm_l_nests_bent an_l_nests_bent cd_l_nests_bent ct_l_nests_bent), sl_l_nests_bent⟩)
    (c_l_nests_bent : PySem.W.codeIn K cd_l_nests_bent "_law_nests_bent" = true)
    (k_l_nests_bent : PySem.W.keepIn K (.ref f_l_nests_bent) = true)
    (a_l_asked : PySem.W.nsIn K mainGlobals "_law_asked" = some (some (.ref f_l_asked)))
    (l_l_asked : K.lookup f_l_asked = some ⟨oc_l_asked, od_l_asked, .func (PySem.W.fnOf "_law_asked" "_law_asked" (defArgs s_l_asked) (defBody s_l_asked) (defScope s_l_asked) .none kV_l_asked dc_l_asked pm_l_asked an_l_asked cd_l_asked ct_l_asked), sl_l_asked⟩)
    (c_l_asked : PySem.W.codeIn K cd_l_asked "_law_asked" = true)
    (k_l_asked : PySem.W.keepIn K (.ref f_l_asked) = true)
    (a_l_many : PySem.W.nsIn K mainGlobals "_law_many" = some (some (.ref f_l_many)))
    (l_l_many : K.lookup f_l_many = some ⟨oc_l_many, od_l_many, .func (PySem.W.fnOf "_law_many" "_law_many" (defArgs s_l_many) (defBody s_l_many) (defScope s_l_many) .none kV_l_many dc_l_many pm_l_many an_l_many cd_l_many ct_l_many), sl_l_many⟩)
    (c_l_many : PySem.W.codeIn K cd_l_many "_law_many" = true)
    (k_l_many : PySem.W.keepIn K (.ref f_l_many) = true)
    (a_law : PySem.W.nsIn K mainGlobals "law" = some (some (.ref f_law)))
    (l_law : K.lookup f_law = some ⟨oc_law, od_law, .func (PySem.W.fnOf "law" "law" (defArgs s_law) (defBody s_law) (defScope s_law) .none kV_law dc_law pm_law an_law cd_law ct_law), sl_law⟩)
    (c_law : PySem.W.codeIn K cd_law "law" = true)
    (k_law : PySem.W.keepIn K (.ref f_law) = true)
    (n_LEAST_PLACE : PySem.W.nsIn K mainGlobals "LEAST_PLACE" = some (some (.int (-999999999999) tc_LEAST_PLACE)))
    (n_GREATEST_PLACE : PySem.W.nsIn K mainGlobals "GREATEST_PLACE" = some (some (.int (999999999999) tc_GREATEST_PLACE)))
    (a_ShelfError : PySem.W.nsIn K mainGlobals "ShelfError" = some (some (.ref C_ShelfError)))
    (x_ShelfError : PySem.W.excIn K C_ShelfError [.type "ValueError", .type "Exception", .type "BaseException", .type "object"] "ValueError.__new__" = true)
    (k_ShelfError : PySem.W.keepIn K (.ref C_ShelfError) = true)
    (b_ShelfError : PySem.W.subIn K (.ref C_ShelfError) (.type "BaseException") = some true)
    (t_ShelfError : PySem.W.typeIn K (.ref C_ShelfError) = some (.type "type"))
    (a_NoSpan : PySem.W.nsIn K mainGlobals "NoSpan" = some (some (.ref C_NoSpan)))
    (x_NoSpan : PySem.W.excIn K C_NoSpan [.type "ValueError", .type "Exception", .type "BaseException", .type "object"] "ValueError.__new__" = true)
    (k_NoSpan : PySem.W.keepIn K (.ref C_NoSpan) = true)
    (b_NoSpan : PySem.W.subIn K (.ref C_NoSpan) (.type "BaseException") = some true)
    (t_NoSpan : PySem.W.typeIn K (.ref C_NoSpan) = some (.type "type"))
    (z_all : PySem.W.nsIn K mainGlobals "all" = some none)
    (z_any : PySem.W.nsIn K mainGlobals "any" = some none)
    (z_bool : PySem.W.nsIn K mainGlobals "bool" = some none)
    (z_int : PySem.W.nsIn K mainGlobals "int" = some none)
    (z_isinstance : PySem.W.nsIn K mainGlobals "isinstance" = some none)
    (z_len : PySem.W.nsIn K mainGlobals "len" = some none)
    (z_list : PySem.W.nsIn K mainGlobals "list" = some none)
    (z_max : PySem.W.nsIn K mainGlobals "max" = some none)
    (z_min : PySem.W.nsIn K mainGlobals "min" = some none)
    (z_range : PySem.W.nsIn K mainGlobals "range" = some none)
    (z_set : PySem.W.nsIn K mainGlobals "set" = some none)
    (z_sorted : PySem.W.nsIn K mainGlobals "sorted" = some none)
    (z_tuple : PySem.W.nsIn K mainGlobals "tuple" = some none)
    (z_zip : PySem.W.nsIn K mainGlobals "zip" = some none)
    (R : ∀ nm ∈ (["are_numbers", "is_nest", "are_loose", "shows_loose"] : List Str), TabRec h mg nm)
    : LamX.LawAtS l w K CX0 72 63 "_law_script" mg fa h := by
  have e := hfa.symm.trans (PySem.W.mg_of X G a_law)
  cases e
  have F_is_whole := fun_mk (st := s_is_whole) l_is_whole c_is_whole k_is_whole
  have b_is_whole := F_is_whole.binds (ps := ["number"]) fun _ _ _ _ _ _ us hl => match us, hl with | [_], _ => rfl
  have F_is_place := fun_mk (st := s_is_place) l_is_place c_is_place k_is_place
  have b_is_place := F_is_place.binds (ps := ["number"]) fun _ _ _ _ _ _ us hl => match us, hl with | [_], _ => rfl
  have F_is_span := fun_mk (st := s_is_span) l_is_span c_is_span k_is_span
  have b_is_span := F_is_span.binds (ps := ["span"]) fun _ _ _ _ _ _ us hl => match us, hl with | [_], _ => rfl
  have F_check_span := fun_mk (st := s_check_span) l_check_span c_check_span k_check_span
  have b_check_span := F_check_span.binds (ps := ["span"]) fun _ _ _ _ _ _ us hl => match us, hl with | [_], _ => rfl
  have F_check_spans := fun_mk (st := s_check_spans) l_check_spans c_check_spans k_check_spans
  have b_check_spans := F_check_spans.binds (ps := ["spans"]) fun _ _ _ _ _ _ us hl => match us, hl with | [_], _ => rfl
  have F_are_numbers := fun_mk (st := s_are_numbers) l_are_numbers c_are_numbers k_are_numbers
  have b_are_numbers := F_are_numbers.binds (ps := ["chosen", "spans"]) fun _ _ _ _ _ _ us hl => match us, hl with | [_, _], _ => rfl
  have F_is_inside := fun_mk (st := s_is_inside) l_is_inside c_is_inside k_is_inside
  have b_is_inside := F_is_inside.binds (ps := ["one", "other"]) fun _ _ _ _ _ _ us hl => match us, hl with | [_, _], _ => rfl
  have F_is_under := fun_mk (st := s_is_under) l_is_under c_is_under k_is_under
  have b_is_under := F_is_under.binds (ps := ["spans", "number", "other"]) fun _ _ _ _ _ _ us hl => match us, hl with | [_, _, _], _ => rfl
  have F_is_nest := fun_mk (st := s_is_nest) l_is_nest c_is_nest k_is_nest
  have b_is_nest := F_is_nest.binds (ps := ["spans", "numbers"]) fun _ _ _ _ _ _ us hl => match us, hl with | [_, _], _ => rfl
  have F_are_loose := fun_mk (st := s_are_loose) l_are_loose c_are_loose k_are_loose
  have b_are_loose := F_are_loose.binds (ps := ["spans", "numbers"]) fun _ _ _ _ _ _ us hl => match us, hl with | [_, _], _ => rfl
  have F_shows_loose := fun_mk (st := s_shows_loose) l_shows_loose c_shows_loose k_shows_loose
  have b_shows_loose := F_shows_loose.binds (ps := ["spans", "told"]) fun _ _ _ _ _ _ us hl => match us, hl with | [_, _], _ => rfl
  have F_l_at := fun_mk (st := s_l_at) l_l_at c_l_at k_l_at
  have b_l_at := F_l_at.binds (ps := ["_law_script", "_law_k"]) fun _ _ _ _ _ _ us hl => match us, hl with | [_, _], _ => rfl
  have F_l_mixed := fun_mk (st := s_l_mixed) l_l_mixed c_l_mixed k_l_mixed
  have b_l_mixed := F_l_mixed.binds (ps := ["_law_cell", "_law_k"]) fun _ _ _ _ _ _ us hl => match us, hl with | [_, _], _ => rfl
  have F_l_purse := fun_mk (st := s_l_purse) l_l_purse c_l_purse k_l_purse
  have b_l_purse := F_l_purse.binds (ps := ["_law_script", "_law_at_here"]) fun _ _ _ _ _ _ us hl => match us, hl with | [_, _], _ => rfl
  have F_l_draw := fun_mk (st := s_l_draw) l_l_draw c_l_draw k_l_draw
  have b_l_draw := F_l_draw.binds (ps := ["_law_purse_here", "_law_out_of"]) fun _ _ _ _ _ _ us hl => match us, hl with | [_, _], _ => rfl
  have F_l_number := fun_mk (st := s_l_number) l_l_number c_l_number k_l_number
  have b_l_number := F_l_number.binds (ps := ["_law_purse_here", "_law_most"]) fun _ _ _ _ _ _ us hl => match us, hl with | [_, _], _ => rfl
  have F_l_end := fun_mk (st := s_l_end) l_l_end c_l_end k_l_end
  have b_l_end := F_l_end.binds (ps := ["_law_purse_here", "_law_ends", "_law_most"]) fun _ _ _ _ _ _ us hl => match us, hl with | [_, _, _], _ => rfl
  have F_l_span := fun_mk (st := s_l_span) l_l_span c_l_span k_l_span
  have b_l_span := F_l_span.binds (ps := ["_law_purse_here", "_law_ends", "_law_most"]) fun _ _ _ _ _ _ us hl => match us, hl with | [_, _, _], _ => rfl
  have F_l_nested := fun_mk (st := s_l_nested) l_l_nested c_l_nested k_l_nested
  have b_l_nested := F_l_nested.binds (ps := ["_law_purse_here", "_law_many_here"]) fun _ _ _ _ _ _ us hl => match us, hl with | [_, _], _ => rfl
  have F_l_under := fun_mk (st := s_l_under) l_l_under c_l_under k_l_under
  have b_l_under := F_l_under.binds (ps := ["_law_spans", "_law_one", "_law_other"]) fun _ _ _ _ _ _ us hl => match us, hl with | [_, _, _], _ => rfl
  have F_l_loose_right := fun_mk (st := s_l_loose_right) l_l_loose_right c_l_loose_right k_l_loose_right
  have b_l_loose_right := F_l_loose_right.binds (ps := ["_law_spans", "_law_free", "_law_chains_here"]) fun _ _ _ _ _ _ us hl => match us, hl with | [_, _, _], _ => rfl
  have F_l_freed := fun_mk (st := s_l_freed) l_l_freed c_l_freed k_l_freed
  have b_l_freed := F_l_freed.binds (ps := ["_law_spans", "_law_there", "_law_one", "_law_seen"]) fun _ _ _ _ _ _ us hl => match us, hl with | [_, _, _, _], _ => rfl
  have F_l_chains := fun_mk (st := s_l_chains) l_l_chains c_l_chains k_l_chains
  have b_l_chains := F_l_chains.binds (ps := ["_law_there", "_law_many_here"]) fun _ _ _ _ _ _ us hl => match us, hl with | [_, _], _ => rfl
  have F_l_loose := fun_mk (st := s_l_loose) l_l_loose c_l_loose k_l_loose
  have b_l_loose := F_l_loose.binds (ps := ["_law_spans"]) fun _ _ _ _ _ _ us hl => match us, hl with | [_], _ => rfl
  have F_l_free_bent := fun_mk (st := s_l_free_bent) l_l_free_bent c_l_free_bent k_l_free_bent
  have b_l_free_bent := F_l_free_bent.binds (ps := ["_law_purse_here", "_law_many_here", "_law_free", "_law_chains_here"]) fun _ _ _ _ _ _ us hl => match us, hl with | [_, _, _, _], _ => rfl
  have F_l_nests_bent := fun_mk (st := s_l_nests_bent) l_l_nests_bent c_l_nests_bent k_l_nests_bent
  have b_l_nests_bent := F_l_nests_bent.binds (ps := ["_law_purse_here", "_law_many_here", "_law_chains_here"]) fun _ _ _ _ _ _ us hl => match us, hl with | [_, _, _], _ => rfl
  have F_l_asked := fun_mk (st := s_l_asked) l_l_asked c_l_asked k_l_asked
  have b_l_asked := F_l_asked.binds (ps := ["_law_spans", "_law_free", "_law_chains_here"]) fun _ _ _ _ _ _ us hl => match us, hl with | [_, _, _], _ => rfl
  have F_l_many := fun_mk (st := s_l_many) l_l_many c_l_many k_l_many
  have b_l_many := F_l_many.binds (ps := ["_law_purse_here"]) fun _ _ _ _ _ _ us hl => match us, hl with | [_], _ => rfl
  have F_law := fun_mk (st := s_law) l_law c_law k_law
  have b_law := F_law.binds (ps := ["_law_script"]) fun _ _ _ _ _ _ us hl => match us, hl with | [_], _ => rfl
  let T : Tx K mg := { f_is_whole := _, fd_is_whole := _, F_is_whole := F_is_whole, b_is_whole := b_is_whole, g_is_whole := PySem.W.mg_of X G a_is_whole, f_is_place := _, fd_is_place := _, F_is_place := F_is_place, b_is_place := b_is_place, g_is_place := PySem.W.mg_of X G a_is_place, f_is_span := _, fd_is_span := _, F_is_span := F_is_span, b_is_span := b_is_span, g_is_span := PySem.W.mg_of X G a_is_span, f_check_span := _, fd_check_span := _, F_check_span := F_check_span, b_check_span := b_check_span, g_check_span := PySem.W.mg_of X G a_check_span, f_check_spans := _, fd_check_spans := _, F_check_spans := F_check_spans, b_check_spans := b_check_spans, g_check_spans := PySem.W.mg_of X G a_check_spans, f_are_numbers := _, fd_are_numbers := _, F_are_numbers := F_are_numbers, b_are_numbers := b_are_numbers, g_are_numbers := PySem.W.mg_of X G a_are_numbers, cA_are_numbers := cA_are_numbers, pA_are_numbers := pA_are_numbers, FC_are_numbers := ⟨⟨_, _, _, _, _, _, _, _, rfl, l_are_numbers, c_are_numbers⟩⟩, f_is_inside := _, fd_is_inside := _, F_is_inside := F_is_inside, b_is_inside := b_is_inside, g_is_inside := PySem.W.mg_of X G a_is_inside, f_is_under := _, fd_is_under := _, F_is_under := F_is_under, b_is_under := b_is_under, g_is_under := PySem.W.mg_of X G a_is_under, f_is_nest := _, fd_is_nest := _, F_is_nest := F_is_nest, b_is_nest := b_is_nest, g_is_nest := PySem.W.mg_of X G a_is_nest, cA_is_nest := cA_is_nest, pA_is_nest := pA_is_nest, FC_is_nest := ⟨⟨_, _, _, _, _, _, _, _, rfl, l_is_nest, c_is_nest⟩⟩, f_are_loose := _, fd_are_loose := _, F_are_loose := F_are_loose, b_are_loose := b_are_loose, g_are_loose := PySem.W.mg_of X G a_are_loose, cA_are_loose := cA_are_loose, pA_are_loose := pA_are_loose, FC_are_loose := ⟨⟨_, _, _, _, _, _, _, _, rfl, l_are_loose, c_are_loose⟩⟩, f_shows_loose := _, fd_shows_loose := _, F_shows_loose := F_shows_loose, b_shows_loose := b_shows_loose, g_shows_loose := PySem.W.mg_of X G a_shows_loose, cA_shows_loose := cA_shows_loose, pA_shows_loose := pA_shows_loose, FC_shows_loose := ⟨⟨_, _, _, _, _, _, _, _, rfl, l_shows_loose, c_shows_loose⟩⟩, f_l_at := _, fd_l_at := _, F_l_at := F_l_at, b_l_at := b_l_at, g_l_at := PySem.W.mg_of X G a_l_at, f_l_mixed := _, fd_l_mixed := _, F_l_mixed := F_l_mixed, b_l_mixed := b_l_mixed, g_l_mixed := PySem.W.mg_of X G a_l_mixed, f_l_purse := _, fd_l_purse := _, F_l_purse := F_l_purse, b_l_purse := b_l_purse, g_l_purse := PySem.W.mg_of X G a_l_purse, f_l_draw := _, fd_l_draw := _, F_l_draw := F_l_draw, b_l_draw := b_l_draw, g_l_draw := PySem.W.mg_of X G a_l_draw, f_l_number := _, fd_l_number := _, F_l_number := F_l_number, b_l_number := b_l_number, g_l_number := PySem.W.mg_of X G a_l_number, f_l_end := _, fd_l_end := _, F_l_end := F_l_end, b_l_end := b_l_end, g_l_end := PySem.W.mg_of X G a_l_end, f_l_span := _, fd_l_span := _, F_l_span := F_l_span, b_l_span := b_l_span, g_l_span := PySem.W.mg_of X G a_l_span, f_l_nested := _, fd_l_nested := _, F_l_nested := F_l_nested, b_l_nested := b_l_nested, g_l_nested := PySem.W.mg_of X G a_l_nested, f_l_under := _, fd_l_under := _, F_l_under := F_l_under, b_l_under := b_l_under, g_l_under := PySem.W.mg_of X G a_l_under, f_l_loose_right := _, fd_l_loose_right := _, F_l_loose_right := F_l_loose_right, b_l_loose_right := b_l_loose_right, g_l_loose_right := PySem.W.mg_of X G a_l_loose_right, f_l_freed := _, fd_l_freed := _, F_l_freed := F_l_freed, b_l_freed := b_l_freed, g_l_freed := PySem.W.mg_of X G a_l_freed, f_l_chains := _, fd_l_chains := _, F_l_chains := F_l_chains, b_l_chains := b_l_chains, g_l_chains := PySem.W.mg_of X G a_l_chains, f_l_loose := _, fd_l_loose := _, F_l_loose := F_l_loose, b_l_loose := b_l_loose, g_l_loose := PySem.W.mg_of X G a_l_loose, f_l_free_bent := _, fd_l_free_bent := _, F_l_free_bent := F_l_free_bent, b_l_free_bent := b_l_free_bent, g_l_free_bent := PySem.W.mg_of X G a_l_free_bent, f_l_nests_bent := _, fd_l_nests_bent := _, F_l_nests_bent := F_l_nests_bent, b_l_nests_bent := b_l_nests_bent, g_l_nests_bent := PySem.W.mg_of X G a_l_nests_bent, f_l_asked := _, fd_l_asked := _, F_l_asked := F_l_asked, b_l_asked := b_l_asked, g_l_asked := PySem.W.mg_of X G a_l_asked, f_l_many := _, fd_l_many := _, F_l_many := F_l_many, b_l_many := b_l_many, g_l_many := PySem.W.mg_of X G a_l_many, f_law := _, fd_law := _, F_law := F_law, b_law := b_law, g_law := PySem.W.mg_of X G a_law, tc_LEAST_PLACE := _, c_LEAST_PLACE := PySem.W.mg_of X G n_LEAST_PLACE, tc_GREATEST_PLACE := _, c_GREATEST_PLACE := PySem.W.mg_of X G n_GREATEST_PLACE, C_ShelfError := _, g_ShelfError := PySem.W.mg_of X G a_ShelfError, x_ShelfError := x_ShelfError, k_ShelfError := k_ShelfError, b_ShelfError := b_ShelfError, t_ShelfError := t_ShelfError, C_NoSpan := _, g_NoSpan := PySem.W.mg_of X G a_NoSpan, x_NoSpan := x_NoSpan, k_NoSpan := k_NoSpan, b_NoSpan := b_NoSpan, t_NoSpan := t_NoSpan, m_all := PySem.W.mg_none_of X G z_all, m_any := PySem.W.mg_none_of X G z_any, m_bool := PySem.W.mg_none_of X G z_bool, m_int := PySem.W.mg_none_of X G z_int, m_isinstance := PySem.W.mg_none_of X G z_isinstance, m_len := PySem.W.mg_none_of X G z_len, m_list := PySem.W.mg_none_of X G z_list, m_max := PySem.W.mg_none_of X G z_max, m_min := PySem.W.mg_none_of X G z_min, m_range := PySem.W.mg_none_of X G z_range, m_set := PySem.W.mg_none_of X G z_set, m_sorted := PySem.W.mg_none_of X G z_sorted, m_tuple := PySem.W.mg_none_of X G z_tuple, m_zip := PySem.W.mg_none_of X G z_zip }
  have z_t0 := tab_of X (R "are_numbers" (by simp)) (PySem.W.mg_of X G a_are_numbers) l_are_numbers rfl y1_are_numbers y2_are_numbers
  have z_t1 := tab_of X (R "is_nest" (by simp)) (PySem.W.mg_of X G a_is_nest) l_is_nest rfl y1_is_nest y2_is_nest
  have z_t2 := tab_of X (R "are_loose" (by simp)) (PySem.W.mg_of X G a_are_loose) l_are_loose rfl y1_are_loose y2_are_loose
  have z_t3 := tab_of X (R "shows_loose" (by simp)) (PySem.W.mg_of X G a_shows_loose) l_shows_loose rfl y1_shows_loose y2_shows_loose
  have e1 : ∀ p ∈ ([(cA_are_numbers, pA_are_numbers), (cA_is_nest, pA_is_nest), (cA_are_loose, pA_are_loose), (cA_shows_loose, pA_shows_loose)] : List (Addr × Addr)), h.get? p.2 = some { cls := .none, data := .fields #[] } ∧ K.lookup p.2 = none ∧ PySem.W.CodeHd h p.1 p.2 := fun p hp => by
    simp only [List.mem_cons, List.not_mem_nil, or_false] at hp
    rcases hp with rfl | rfl | rfl | rfl
    · exact ⟨z_t0.1, y3_are_numbers, z_t0.2⟩
    · exact ⟨z_t1.1, y3_is_nest, z_t1.2⟩
    · exact ⟨z_t2.1, y3_are_loose, z_t2.2⟩
    · exact ⟨z_t3.1, y3_shows_loose, z_t3.2⟩
  refine ⟨PySem.W.fnOf "law" "law" (defArgs s_law) (defBody s_law) (defScope s_law) .none kV_law dc_law pm_law an_law cd_law ct_law, [(cA_are_numbers, pA_are_numbers), (cA_is_nest, pA_is_nest), (cA_are_loose, pA_are_loose), (cA_shows_loose, pA_shows_loose)], spLaw T, fun p hp => (e1 p hp).1, fun p hp => (e1 p hp).2.1, fun p hp => (e1 p hp).2.2, fun s v => .of_eq rfl, fun H a ns hl _ hT hS => ?_, fun base _ _ hB => ?_⟩
  · refine ⟨a, ns, rfl, hS, hl, ⟨fun P hP => ?_, fun p hp => ?_⟩, fun _ => rfl⟩
    · refine ⟨#[], ?_, True.intro⟩
      have hP : P ∈ [pA_are_numbers, pA_is_nest, pA_are_loose, pA_shows_loose] := hP
      simp only [List.mem_cons, List.not_mem_nil, or_false] at hP
      rcases hP with hP | hP | hP | hP
      · rw [hP]
        exact hT (cA_are_numbers, pA_are_numbers) (by simp)
      · rw [hP]
        exact hT (cA_is_nest, pA_is_nest) (by simp)
      · rw [hP]
        exact hT (cA_are_loose, pA_are_loose) (by simp)
      · rw [hP]
        exact hT (cA_shows_loose, pA_shows_loose) (by simp)
    · exact absurd hp List.not_mem_nil
  · exact ok_law T { t_are_numbers := ⟨(hB (cA_are_numbers, pA_are_numbers) (by simp)).code, (hB (cA_are_numbers, pA_are_numbers) (by simp)).bm, (hB (cA_are_numbers, pA_are_numbers) (by simp)).gP⟩, t_is_nest := ⟨(hB (cA_is_nest, pA_is_nest) (by simp)).code, (hB (cA_is_nest, pA_is_nest) (by simp)).bm, (hB (cA_is_nest, pA_is_nest) (by simp)).gP⟩, t_are_loose := ⟨(hB (cA_are_loose, pA_are_loose) (by simp)).code, (hB (cA_are_loose, pA_are_loose) (by simp)).bm, (hB (cA_are_loose, pA_are_loose) (by simp)).gP⟩, t_shows_loose := ⟨(hB (cA_shows_loose, pA_shows_loose) (by simp)).code, (hB (cA_shows_loose, pA_shows_loose) (by simp)).bm, (hB (cA_shows_loose, pA_shows_loose) (by simp)).gP⟩ } F_law
end Sp
open PySem PySem.W PyProof.Rows
set_option maxHeartbeats 0 in
theorem PySem.Challenge.cw_spanshelf_k57_loose_ones_looked_at_holds : PySem.Challenge.rw_spanshelf_k57_loose_ones_looked_at.Holds := by
  w_on; o_law; k_head; (case hw => w_witness2)
  k_fill
  refine Sp.walk_tabs (l := PySem.Challenge.rw_spanshelf_k57_loose_ones_looked_at) (n := 63) (k := 72) (x := "_law_script") (CX := fun _ => L2.CX0) ["are_numbers", "is_nest", "are_loose", "shows_loose"] rfl (by decide) rfl ⟨rfl, by decide, by decide⟩ (by first | rfl | decide +kernel) (fun w h Y => by first | exact PySem.W.kIn_of Y | exact PySem.W.km_in_of Y) ?F (fun _ _ _ _ _ h => h)
  case F =>
    intro w mg fa h KX G hmg hR
    refine' Sp.all_mk KX G hmg ?a_is_whole ?l_is_whole ?c_is_whole ?k_is_whole ?a_is_place ?l_is_place ?c_is_place ?k_is_place ?a_is_span ?l_is_span ?c_is_span ?k_is_span ?a_check_span ?l_check_span ?c_check_span ?k_check_span ?a_check_spans ?l_check_spans ?c_check_spans ?k_check_spans ?a_are_numbers ?l_are_numbers ?c_are_numbers ?k_are_numbers ?y1_are_numbers ?y2_are_numbers ?y3_are_numbers ?a_is_inside ?l_is_inside ?c_is_inside ?k_is_inside ?a_is_under ?l_is_under ?c_is_under ?k_is_under ?a_is_nest ?l_is_nest ?c_is_nest ?k_is_nest ?y1_is_nest ?y2_is_nest ?y3_is_nest ?a_are_loose ?l_are_loose ?c_are_loose ?k_are_loose ?y1_are_loose ?y2_are_loose ?y3_are_loose ?a_shows_loose ?l_shows_loose ?c_shows_loose ?k_shows_loose ?y1_shows_loose ?y2_shows_loose ?y3_shows_loose ?a_l_at ?l_l_at ?c_l_at ?k_l_at ?a_l_mixed ?l_l_mixed ?c_l_mixed ?k_l_mixed ?a_l_purse ?l_l_purse ?c_l_purse ?k_l_purse ?a_l_draw ?l_l_draw ?c_l_draw ?k_l_draw ?a_l_number ?l_l_number ?c_l_number ?k_l_number ?a_l_end ?l_l_end ?c_l_end ?k_l_end ?a_l_span ?l_l_span ?c_l_span ?k_l_span ?a_l_nested ?l_l_nested ?c_l_nested ?k_l_nested ?a_l_under ?l_l_under ?c_l_under ?k_l_under ?a_l_loose_right ?l_l_loose_right ?c_l_loose_right ?k_l_loose_right ?a_l_freed ?l_l_freed ?c_l_freed ?k_l_freed ?a_l_chains ?l_l_chains ?c_l_chains ?k_l_chains ?a_l_loose ?l_l_loose ?c_l_loose ?k_l_loose ?a_l_free_bent ?l_l_free_bent ?c_l_free_bent ?k_l_free_bent ?a_l_nests_bent ?l_l_nests_bent ?c_l_nests_bent ?k_l_nests_bent ?a_l_asked ?l_l_asked ?c_l_asked ?k_l_asked ?a_l_many ?l_l_many ?c_l_many ?k_l_many ?a_law ?l_law ?c_law ?k_law ?n_LEAST_PLACE ?n_GREATEST_PLACE ?a_ShelfError ?x_ShelfError ?k_ShelfError ?b_ShelfError ?t_ShelfError ?a_NoSpan ?x_NoSpan ?k_NoSpan ?b_NoSpan ?t_NoSpan ?z_all ?z_any ?z_bool ?z_int ?z_isinstance ?z_len ?z_list ?z_max ?z_min ?z_range ?z_set ?z_sorted ?z_tuple ?z_zip hR
    (case a_is_whole => first | k_is | rfl)
    (case l_is_whole => first | k_is | rfl)
    (case c_is_whole => first | k_is | rfl)
    (case k_is_whole => first | k_is | rfl)
    (case a_is_place => first | k_is | rfl)
    (case l_is_place => first | k_is | rfl)
    (case c_is_place => first | k_is | rfl)
    (case k_is_place => first | k_is | rfl)
    (case a_is_span => first | k_is | rfl)
    (case l_is_span => first | k_is | rfl)
    (case c_is_span => first | k_is | rfl)
    (case k_is_span => first | k_is | rfl)
    (case a_check_span => first | k_is | rfl)
    (case l_check_span => first | k_is | rfl)
    (case c_check_span => first | k_is | rfl)
    (case k_check_span => first | k_is | rfl)
    (case a_check_spans => first | k_is | rfl)
    (case l_check_spans => first | k_is | rfl)
    (case c_check_spans => first | k_is | rfl)
    (case k_check_spans => first | k_is | rfl)
    (case a_are_numbers => first | k_is | rfl)
    (case l_are_numbers => first | k_is | rfl)
    (case c_are_numbers => first | k_is | rfl)
    (case k_are_numbers => first | k_is | rfl)
    (case y1_are_numbers => first | k_is | rfl)
    (case y2_are_numbers => rfl)
    (case y3_are_numbers => first | k_is | kernel_rfl)
    (case a_is_inside => first | k_is | rfl)
    (case l_is_inside => first | k_is | rfl)
    (case c_is_inside => first | k_is | rfl)
    (case k_is_inside => first | k_is | rfl)
    (case a_is_under => first | k_is | rfl)
    (case l_is_under => first | k_is | rfl)
    (case c_is_under => first | k_is | rfl)
    (case k_is_under => first | k_is | rfl)
    (case a_is_nest => first | k_is | rfl)
    (case l_is_nest => first | k_is | rfl)
    (case c_is_nest => first | k_is | rfl)
    (case k_is_nest => first | k_is | rfl)
    (case y1_is_nest => first | k_is | rfl)
    (case y2_is_nest => rfl)
    (case y3_is_nest => first | k_is | kernel_rfl)
    (case a_are_loose => first | k_is | rfl)
    (case l_are_loose => first | k_is | rfl)
    (case c_are_loose => first | k_is | rfl)
    (case k_are_loose => first | k_is | rfl)
    (case y1_are_loose => first | k_is | rfl)
    (case y2_are_loose => rfl)
    (case y3_are_loose => first | k_is | kernel_rfl)
    (case a_shows_loose => first | k_is | rfl)
    (case l_shows_loose => first | k_is | rfl)
    (case c_shows_loose => first | k_is | rfl)
    (case k_shows_loose => first | k_is | rfl)
    (case y1_shows_loose => first | k_is | rfl)
    (case y2_shows_loose => rfl)
    (case y3_shows_loose => first | k_is | kernel_rfl)
    (case a_l_at => first | k_is | rfl)
    (case l_l_at => first | k_is | rfl)
    (case c_l_at => first | k_is | rfl)
    (case k_l_at => first | k_is | rfl)
    (case a_l_mixed => first | k_is | rfl)
    (case l_l_mixed => first | k_is | rfl)
    (case c_l_mixed => first | k_is | rfl)
    (case k_l_mixed => first | k_is | rfl)
    (case a_l_purse => first | k_is | rfl)
    (case l_l_purse => first | k_is | rfl)
    (case c_l_purse => first | k_is | rfl)
    (case k_l_purse => first | k_is | rfl)
    (case a_l_draw => first | k_is | rfl)
    (case l_l_draw => first | k_is | rfl)
    (case c_l_draw => first | k_is | rfl)
    (case k_l_draw => first | k_is | rfl)
    (case a_l_number => first | k_is | rfl)
    (case l_l_number => first | k_is | rfl)
    (case c_l_number => first | k_is | rfl)
    (case k_l_number => first | k_is | rfl)
    (case a_l_end => first | k_is | rfl)
    (case l_l_end => first | k_is | rfl)
    (case c_l_end => first | k_is | rfl)
    (case k_l_end => first | k_is | rfl)
    (case a_l_span => first | k_is | rfl)
    (case l_l_span => first | k_is | rfl)
    (case c_l_span => first | k_is | rfl)
    (case k_l_span => first | k_is | rfl)
    (case a_l_nested => first | k_is | rfl)
    (case l_l_nested => first | k_is | rfl)
    (case c_l_nested => first | k_is | rfl)
    (case k_l_nested => first | k_is | rfl)
    (case a_l_under => first | k_is | rfl)
    (case l_l_under => first | k_is | rfl)
    (case c_l_under => first | k_is | rfl)
    (case k_l_under => first | k_is | rfl)
    (case a_l_loose_right => first | k_is | rfl)
    (case l_l_loose_right => first | k_is | rfl)
    (case c_l_loose_right => first | k_is | rfl)
    (case k_l_loose_right => first | k_is | rfl)
    (case a_l_freed => first | k_is | rfl)
    (case l_l_freed => first | k_is | rfl)
    (case c_l_freed => first | k_is | rfl)
    (case k_l_freed => first | k_is | rfl)
    (case a_l_chains => first | k_is | rfl)
    (case l_l_chains => first | k_is | rfl)
    (case c_l_chains => first | k_is | rfl)
    (case k_l_chains => first | k_is | rfl)
    (case a_l_loose => first | k_is | rfl)
    (case l_l_loose => first | k_is | rfl)
    (case c_l_loose => first | k_is | rfl)
    (case k_l_loose => first | k_is | rfl)
    (case a_l_free_bent => first | k_is | rfl)
    (case l_l_free_bent => first | k_is | rfl)
    (case c_l_free_bent => first | k_is | rfl)
    (case k_l_free_bent => first | k_is | rfl)
    (case a_l_nests_bent => first | k_is | rfl)
    (case l_l_nests_bent => first | k_is | rfl)
    (case c_l_nests_bent => first | k_is | rfl)
    (case k_l_nests_bent => first | k_is | rfl)
    (case a_l_asked => first | k_is | rfl)
    (case l_l_asked => first | k_is | rfl)
    (case c_l_asked => first | k_is | rfl)
    (case k_l_asked => first | k_is | rfl)
    (case a_l_many => first | k_is | rfl)
    (case l_l_many => first | k_is | rfl)
    (case c_l_many => first | k_is | rfl)
    (case k_l_many => first | k_is | rfl)
    (case a_law => first | k_is | rfl)
    (case l_law => first | k_is | rfl)
    (case c_law => first | k_is | rfl)
    (case k_law => first | k_is | rfl)
    (case n_LEAST_PLACE => first | k_is | rfl)
    (case n_GREATEST_PLACE => first | k_is | rfl)
    (case a_ShelfError => first | k_is | rfl)
    (case x_ShelfError => k_exc)
    (case k_ShelfError => first | k_is | rfl)
    (case b_ShelfError => first | k_is | rfl)
    (case t_ShelfError => first | k_is | rfl)
    (case a_NoSpan => first | k_is | rfl)
    (case x_NoSpan => k_exc)
    (case k_NoSpan => first | k_is | rfl)
    (case b_NoSpan => first | k_is | rfl)
    (case t_NoSpan => first | k_is | rfl)
    (case z_all => first | k_is | rfl)
    (case z_any => first | k_is | rfl)
    (case z_bool => first | k_is | rfl)
    (case z_int => first | k_is | rfl)
    (case z_isinstance => first | k_is | rfl)
    (case z_len => first | k_is | rfl)
    (case z_list => first | k_is | rfl)
    (case z_max => first | k_is | rfl)
    (case z_min => first | k_is | rfl)
    (case z_range => first | k_is | rfl)
    (case z_set => first | k_is | rfl)
    (case z_sorted => first | k_is | rfl)
    (case z_tuple => first | k_is | rfl)
    (case z_zip => first | k_is | rfl)
