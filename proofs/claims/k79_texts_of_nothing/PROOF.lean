import PyProof.Rows.All
import Wide.All
import OpenK.AllK
import Wide.FinOn
import PySem.Challenge.RW_spanshelf_k79_texts_of_nothing
import HandS.ForMost
import HandS.ForExc
import HandS.IsInst
import HandS.Wide
import HandS.WideBits
import HandS.Flt
import HandS.ExcIs
import HandS.ExcValue
import HandS.AnyAll
import HandS.EndTab
import HandS.GenList
import HandS.Codes
import HandS.Small
import HandS.More
import HandS.Strs
import HandS.SetFor
import HandS.SortRule
import HandS.Style
import HandS.TupSets
import HandS.TupLe
import HandS.SortInts
import HandS.Conv
import HandS.Flow
import HandS.NoneIn
import KE.DataMinMax
import KE.SortData
import HandS.SetBool
import KE.DataFind
import HandS.WordsDict
import HandS.DictComp
import HandS.Iter
import HandS.Dict
import HandS.Text
import HandS.TryOnly
import HandS.TryOnly
import HandS.Comp
import HandS.Spec
import PyProof.DictCopy
import PyProof.NeKinds
import PyProof.StrBlock2
import HandS.Deep
import KE.SortData
import HandS.FStr
import KE.IntTextLaws
import HandS.SetTxt0
set_option Elab.async false
set_option linter.all false
set_option maxRecDepth 100000
set_option maxHeartbeats 4000000
namespace Sp
open PySem PySem.Spec PyProof.Rows L2
/-! ### heaps -/
theorem same_upd {H : Hp} {p : Addr} {o : HO} (h : H p = none) : Same H (upd H p o) := fun b x e => by
  rw [upd_ne (ne_of_none e h)]
  exact e
theorem upd_at {H : Hp} {p : Addr} {o : HO} (h : H p = none) : (upd H p o) p = some o ∧ Same H (upd H p o) := ⟨upd_same, same_upd h⟩
theorem same_more {H H' : Hp} {p : Addr} {o : HO} (h : Same H H') (n : H p = none) : Same H (upd H' p o) := fun b x e => by
  rw [upd_ne (ne_of_none e n)]
  exact h _ _ e
/-- all but what stands at the addresses of L is kept -/
def Chg (L : List Addr) (H H' : Hp) : Prop := ∀ b o, b ∉ L → H b = some o → H' b = some o
theorem Chg.refl (L : List Addr) (H : Hp) : Chg L H H := fun _ _ _ h => h
theorem Chg.trans {L : List Addr} {H H1 H2 : Hp} (a : Chg L H H1) (b : Chg L H1 H2) : Chg L H H2 := fun c o n h => b c o n (a c o n h)
theorem Chg.of_same {L : List Addr} {H H' : Hp} (a : Same H H') : Chg L H H' := fun c o _ h => a c o h
theorem Chg.same {H H' : Hp} (a : Chg [] H H') : Same H H' := fun c o h => a c o List.not_mem_nil h
theorem Chg.mono {L L' : List Addr} {H H' : Hp} (a : Chg L H H') (h : ∀ x ∈ L, x ∈ L') : Chg L' H H' := fun c o n e => a c o (fun q => n (h c q)) e
theorem Chg.upd {L : List Addr} {H : Hp} {p : Addr} {o : HO} (h : p ∈ L) : Chg L H (upd H p o) := fun b x n e => by
  have hne : b ≠ p := fun z => n (by rw [z]; exact h)
  rw [upd_ne hne]
  exact e
theorem Chg.free {L : List Addr} {H H' : Hp} (a : Chg L H H') {l : Addr} (hl : l ∉ L) (h : H' l = none) : H l = none := by
  cases q : H l with
  | none => rfl
  | some o =>
    rw [a l o hl q] at h
    cases h
theorem Chg.seq {K : PySem.W.Frag} {L : List Addr} {H H' : Hp} {a : Addr} {xs : List V} (e : Chg L H H') (n : a ∉ L) (h : SqL K H a xs) : SqL K H' a xs := by
  rcases h with (h | ⟨o, h⟩) | h
  · exact .inl (.inl (e _ _ n h))
  · exact .inl (.inr ⟨o, e _ _ n h⟩)
  · exact .inr h
theorem nmem1 {a b : Addr} (h : a ≠ b) : a ∉ [b] := fun q => h (List.mem_singleton.mp q)
theorem nmem2 {a b c : Addr} (h : a ≠ b) (h2 : a ≠ c) : a ∉ [b, c] := fun q => by
  rcases List.mem_cons.mp q with q | q
  · exact h q
  · exact h2 (List.mem_singleton.mp q)
theorem small_lt {n : Nat} (h : n ≤ 1000000) : n < sizeLine := Nat.lt_of_le_of_lt h (by decide)
theorem small_le {n : Nat} (h : n ≤ 1000000) : n ≤ sizeLine := Nat.le_of_lt (small_lt h)
/-- a list of whole numbers at p that may be changed -/
def Pu (H : Hp) (p : Addr) (n : Nat) : Prop := ∃ a b c : Int, H p = some (.lst [.int a, .int b, .int c]) ∧ 0 ≤ a ∧ 0 ≤ b ∧ b < 2147483647 ∧ 0 ≤ c ∧ c ≤ n
theorem Pu.chg {L : List Addr} {H H' : Hp} {p : Addr} {n : Nat} (h : Pu H p n) (e : Chg L H H') (hp : p ∉ L) : Pu H' p n := by
  obtain ⟨a, b, c, h1, h2⟩ := h
  exact ⟨a, b, c, e _ _ hp h1, h2⟩
theorem Pu.same {H H' : Hp} {p : Addr} {n : Nat} (h : Pu H p n) (e : Same H H') : Pu H' p n := h.chg (L := []) (Chg.of_same e) List.not_mem_nil
theorem Pu.mono {H : Hp} {p : Addr} {n m : Nat} (h : Pu H p n) (e : n ≤ m) : Pu H p m := by
  obtain ⟨a, b, c, h1, h2, h3, h4, h5, h6⟩ := h
  exact ⟨a, b, c, h1, h2, h3, h4, h5, by omega⟩
theorem Pu.ne {H : Hp} {p q : Addr} {n : Nat} (h : Pu H p n) (e : H q = none) : p ≠ q := by
  obtain ⟨a, b, c, h1, _⟩ := h
  exact ne_of_none h1 e
theorem Pu.at {H : Hp} {p : Addr} {n : Nat} (h : Pu H p n) : ∃ o, H p = some o := by
  obtain ⟨a, b, c, h1, _⟩ := h
  exact ⟨_, h1⟩
/-! ### data: whole numbers, spans, lists of them -/
theorem dpAll_ints {K : PySem.W.Frag} {H : Hp} : ∀ ns : List Int, DpAll K H (ns.map V.int) (ns.map PyData.int)
  | [] => .nil
  | n :: r => .cons (.int n) (dpAll_ints r)
theorem lay_ints : ∀ ns : List Int, PyData.canLayAll0 (ns.map PyData.int) = true ∧ PyData.depthAll (ns.map PyData.int) = 0
  | [] => ⟨rfl, rfl⟩
  | n :: r => by
    obtain ⟨h1, h2⟩ := lay_ints r
    refine ⟨?_, ?_⟩
    · show (PyData.canLay0 (.int n) && PyData.canLayAll0 (r.map PyData.int)) = true
      rw [h1]
      rfl
    · show max (PyData.depth (.int n)) (PyData.depthAll (r.map PyData.int)) = 0
      rw [h2]
      rfl
theorem shaped_ints (ns : List Int) : SeqAt.shaped (.list (ns.map PyData.int)) = true := by
  obtain ⟨h1, h2⟩ := lay_ints ns
  show (PyData.canLayAll0 (ns.map PyData.int) && decide (PyData.depthAll (ns.map PyData.int) + 1 ≤ 64)) = true
  rw [h1, h2]
  rfl
theorem shaped_nil : SeqAt.shaped (.list []) = true := rfl
theorem eqv_ints_nil (ns : List Int) : PyData.eqv (.list (ns.map PyData.int)) (.list []) = decide (ns = []) := by
  cases ns with
  | nil => rfl
  | cons n r => simp [PyData.eqv, PyData.eqvAll]
abbrev Span := Int × Int
def spD (s : Span) : PyData := .tuple [.int s.1, .int s.2]
/-- v is the span s -/
def Spn (H : Hp) (v : V) (s : Span) : Prop := ∃ t, v = .ref t ∧ H t = some (.tup [.int s.1, .int s.2])
inductive Sps (H : Hp) : List V → List Span → Prop where
  | nil : Sps H [] []
  | cons {v : V} {s : Span} {vs : List V} {ss : List Span} : Spn H v s → Sps H vs ss → Sps H (v :: vs) (s :: ss)
theorem Spn.same {H H' : Hp} {v : V} {s : Span} (h : Spn H v s) (e : Same H H') : Spn H' v s := by
  obtain ⟨t, rfl, ht⟩ := h
  exact ⟨t, rfl, e _ _ ht⟩
theorem Sps.same {H H' : Hp} (e : Same H H') : ∀ {vs : List V} {ss : List Span}, Sps H vs ss → Sps H' vs ss
  | _, _, .nil => .nil
  | _, _, .cons h t => .cons (h.same e) (Sps.same e t)
/-- only lists are changed: spans stay -/
def Lsts (L : List Addr) (H : Hp) : Prop := ∀ p ∈ L, ∀ xs, H p ≠ some (.tup xs)
theorem Lsts.two {H : Hp} {p q : Addr} (h : Lsts [p] H) (h2 : Lsts [q] H) : Lsts [p, q] H := fun b hb xs => by
  rcases List.mem_cons.mp hb with e | e
  · rw [e]
    exact h p List.mem_cons_self xs
  · exact h2 b e xs
theorem Spn.chg {L : List Addr} {H H' : Hp} {v : V} {s : Span} (h : Spn H v s) (e : Chg L H H') (l : Lsts L H) : Spn H' v s := by
  obtain ⟨t, rfl, ht⟩ := h
  exact ⟨t, rfl, e _ _ (fun q => l t q _ ht) ht⟩
theorem Sps.chg {L : List Addr} {H H' : Hp} (e : Chg L H H') (l : Lsts L H) : ∀ {vs : List V} {ss : List Span}, Sps H vs ss → Sps H' vs ss
  | _, _, .nil => .nil
  | _, _, .cons h t => .cons (h.chg e l) (Sps.chg e l t)
theorem Sps.len {H : Hp} : ∀ {vs : List V} {ss : List Span}, Sps H vs ss → vs.length = ss.length
  | _, _, .nil => rfl
  | _, _, .cons _ t => congrArg (· + 1) t.len
theorem Sps.app {H : Hp} : ∀ {vs ws : List V} {ss ts : List Span}, Sps H vs ss → Sps H ws ts → Sps H (vs ++ ws) (ss ++ ts)
  | _, _, _, _, .nil, h => h
  | _, _, _, _, .cons a t, h => .cons a (Sps.app t h)
theorem Sps.one {H : Hp} {v : V} {s : Span} (h : Spn H v s) : Sps H [v] [s] := .cons h .nil
theorem Sps.get {H : Hp} : ∀ {vs : List V} {ss : List Span} {i : Nat} {v : V}, Sps H vs ss → vs[i]? = some v → ∃ s, ss[i]? = some s ∧ Spn H v s
  | _, _, _, _, .nil, e => by simp at e
  | _, _, 0, v, .cons (s := s) h t, e => ⟨s, rfl, by
      have q := Option.some.inj (show some _ = some v from e)
      rw [← q]
      exact h⟩
  | _, _, i + 1, v, .cons h t, e => Sps.get (i := i) t e
theorem Spn.dp {K : PySem.W.Frag} {H : Hp} {v : V} {s : Span} (h : Spn H v s) : Dp K H v (spD s) := by
  obtain ⟨t, rfl, ht⟩ := h
  exact .tup (SqT.of ht) (.cons (.int _) (.cons (.int _) .nil))
theorem Sps.dpAll {K : PySem.W.Frag} {H : Hp} : ∀ {vs : List V} {ss : List Span}, Sps H vs ss → DpAll K H vs (ss.map spD)
  | _, _, .nil => .nil
  | _, _, .cons h t => .cons h.dp t.dpAll
theorem Sps.dp {K : PySem.W.Frag} {H : Hp} {a : Addr} {vs : List V} {ss : List Span} (h : Sps H vs ss) (q : SqL K H a vs) : Dp K H (.ref a) (.list (ss.map spD)) := .lst q h.dpAll
theorem lay_spans : ∀ ss : List Span, PyData.canLayAll0 (ss.map spD) = true ∧ PyData.depthAll (ss.map spD) ≤ 1
  | [] => ⟨rfl, by decide⟩
  | s :: r => by
    obtain ⟨h1, h2⟩ := lay_spans r
    refine ⟨?_, ?_⟩
    · show (PyData.canLay0 (spD s) && PyData.canLayAll0 (r.map spD)) = true
      rw [h1]
      rfl
    · show max (PyData.depth (spD s)) (PyData.depthAll (r.map spD)) ≤ 1
      have e : PyData.depth (spD s) = 1 := rfl
      rw [e]
      omega
theorem shaped_spans (ss : List Span) : SeqAt.shaped (.list (ss.map spD)) = true := by
  obtain ⟨h1, h2⟩ := lay_spans ss
  show (PyData.canLayAll0 (ss.map spD) && decide (PyData.depthAll (ss.map spD) + 1 ≤ 64)) = true
  rw [h1, decide_eq_true (by omega)]
  rfl
/-! ### generator expressions: elements judged in the generator's own frame -/
section
open GenW
/-- the generator's frame, woken below two calls of built-ins -/
abbrev gcx (X : Cx) (s : Shared) (H : Hp) (cenv : Env) (fp : List Addr) : Cx := { X with A := X.A.in1.in1.deeper cenv, s_0 := s, H_0 := H, env := cenv, outer := X.stack, stack := cenv :: X.stack, ex := fp, fn := fun _ => false, pn := [], xe := fun _ _ => False }
/-- the names of a generator expression: its own (with their places in N), or captured ones -/
structure GBlk (N : List Str) (sc scope : Scope) (own : List (Str × Nat)) : Prop where
  kind : scope.kind = .function
  co : scope.isCoroutine = false
  nocell : ∀ y ∈ scope.names, y.2 ≠ .cell
  dot : scope.names.lookup (".0" : Str) = some NameKind.local
  uniq : ∀ y ∈ scope.names, scope.names.lookup y.1 = some y.2
  ix : ∀ p ∈ own, N[p.2]? = some p.1
  free : ∀ y ∈ scope.names, y.2 = .free → sc.names.lookup y.1 = some .cell ∨ sc.names.lookup y.1 = some .free
  own : ∀ y ∈ scope.names, y.2 = .local → y.1 ∈ own.map (·.1) ∨ y.1 ∉ N
def gblkC (N : List Str) (sc scope : Scope) (own : List (Str × Nat)) : Bool :=
  decide (scope.kind = .function) && !scope.isCoroutine && scope.names.all (fun y => decide (y.2 ≠ .cell)) && decide (scope.names.lookup (".0" : Str) = some NameKind.local) && scope.names.all (fun y => decide (scope.names.lookup y.1 = some y.2)) &&
    own.all (fun p => decide (N[p.2]? = some p.1)) && scope.names.all (fun y => decide (y.2 ≠ .free) || decide (sc.names.lookup y.1 = some .cell) || decide (sc.names.lookup y.1 = some .free)) && scope.names.all (fun y => decide (y.2 ≠ .local) || decide (y.1 ∈ own.map (·.1)) || decide (y.1 ∉ N))
theorem gblk_by {N : List Str} {sc scope : Scope} {own : List (Str × Nat)} (h : gblkC N sc scope own = true) : GBlk N sc scope own := by
  unfold gblkC at h
  simp only [Bool.and_eq_true, Bool.or_eq_true, decide_eq_true_eq, List.all_eq_true, Bool.not_eq_true'] at h
  obtain ⟨⟨⟨⟨⟨⟨⟨h1, h2⟩, h3⟩, h4⟩, h5⟩, h6⟩, h7⟩, h8⟩ := h
  refine ⟨h1, h2, h3, h4, h5, h6, fun y hy e => ?_, fun y hy e => ?_⟩
  · rcases h7 y hy with (z | z) | z
    · exact absurd e z
    · exact .inl z
    · exact .inr z
  · rcases h8 y hy with (z | z) | z
    · exact absurd e z
    · exact .inl z
    · exact .inr z
variable {X : Cx} {pins : List (Addr × Obj)} {σ : L2.St} {H : Hp} {s : Shared}
theorem inv_regen {X : Cx} {pins : List (Addr × Obj)} {σ : L2.St} {H : Hp} {s s' : Shared} (I : Inv X pins σ H s) (ho : s'.os = s.os) (hh : s'.heap = s.heap) (hb : AllBare s'.gens) : Inv X pins σ H s' := by
  obtain ⟨h', g', d', t', o'⟩ := s'
  cases ho
  cases hh
  exact ⟨I.ok, I.os, hb, I.base, I.loc, I.cell, I.free, I.freeC, I.pin, I.hok, I.len⟩
/-- the frame stands -/
theorem gblk_start {scope : Scope} {own : List (Str × Nat)} {fp : List Addr} {h' : Heap} {g' : Array GenState} {tk : Nat} {itv code : Value} (I : Inv X pins σ H s) (ok : GBlk X.N X.env.scope scope own) (hN : X.N.Nodup) (hfp : ∀ b ∈ fp, FpOk X pins H b ∧ b < s.heap.objs.size)
    (hn : h'.Ns s.heap.objs.size (fun y => if y = ".0" then some itv else none)) (kp : ∀ b o, s.heap.get? b = some o → h'.get? b = some o) (hb : AllBare g') :
    Inv (gcx X s H (genEnv scope (cloFrom X.env.cells scope.names []) s.heap.objs.size code builtinsNs X.env) fp) [] (wipe σ (own.map (·.2))) H { s with heap := h', gens := g', toks := tk } := by
  have hfree : ∀ y ∈ scope.names, y.2 = .free → ∃ c, X.env.cells.lookup y.1 = some c := fun y hy e =>
    (ok.free y hy e).elim (fun k => I.ok.has _ (.inl k)) fun k => I.ok.has _ (.inr k)
  generalize hce : genEnv scope (cloFrom X.env.cells scope.names []) s.heap.objs.size code builtinsNs X.env = ce
  have hL : ce.locals = s.heap.objs.size := by subst hce; rfl
  have hcl : ce.cells = cloFrom X.env.cells scope.names [] := by subst hce; rfl
  have hsc : ce.scope = scope := by subst hce; rfl
  have cm : ∀ {y c}, ce.cells.lookup y = some c → X.env.cells.lookup y = some c ∧ c < s.heap.objs.size := fun {y c} e => by
    rw [hcl] at e
    rcases cloFrom_mem (PySem.mem_of_lookup e) with hm | ⟨h1, rfl⟩
    · cases hm
    · obtain ⟨c, hc⟩ := hfree _ h1 rfl
      rw [hc]
      obtain ⟨w, z⟩ := I.cell _ _ hc
      exact ⟨rfl, z.lt⟩
  have look : ∀ {y}, scope.names.lookup y = some .free → ∃ c, ce.cells.lookup y = some c ∧ X.env.cells.lookup y = some c := fun {y} hl => by
    have hy : (y, NameKind.free) ∈ scope.names := PySem.mem_of_lookup hl
    obtain ⟨c', e'⟩ := mem_lookup (cloFrom_has (cells := X.env.cells) (acc := []) hy)
    rw [← hcl] at e'
    exact ⟨c', e', (cm e').1⟩
  have nocell : ∀ {y}, ce.kindOf y ≠ some .cell := fun {y} e => by
    have e : ce.scope.names.lookup y = some .cell := e
    rw [hsc] at e
    exact ok.nocell _ (PySem.mem_of_lookup e) rfl
  have okB : (gcx X s H ce fp).Ok := by
    refine ⟨I.ok.mod, by show ce.scope.kind = _; rw [hsc]; exact ok.kind, by show ce.globals = _; rw [← hce]; exact I.ok.glob, by show ce.builtins = _; rw [← hce]; rfl, by show s.heap.objs.size ≤ ce.locals; rw [hL]; exact Nat.le_refl _,
      fun y z c e1 e2 => ?_, fun y hy => ?_, fun y c z e => ?_, I.ok.hd, ?_, .inr ⟨rfl, ?_⟩, fun b hb => ⟨?_, fun y c e z => ?_⟩, I.bs, Nat.le_trans I.ok.bsz I.sz, fun b o e hb => ?_, fun b hb z => ?_, I.stack, I.stkFree⟩
    · exact I.ok.inj y z c (cm e1).1 (cm e2).1
    · rcases hy with hy | hy
      · exact absurd hy nocell
      · have hy : ce.scope.names.lookup y = some .free := hy
        rw [hsc] at hy
        obtain ⟨c, h1, _⟩ := look hy
        exact ⟨c, h1⟩
    · cases z
    · exact Around.frames_deeper (show X.A.in1.in1.frames = some X.stack from I.ok.frames)
    · show ce.frame = some ce.locals
      rw [← hce]
      rfl
    · show b ≠ ce.locals
      rw [hL]
      exact Nat.ne_of_lt (hfp b hb).2
    · exact (hfp b hb).1.2.2.2.2.1 y c (cm e).1 z
    · rcases (hfp b hb).1.2.2.2.1 with z | z
      · exact I.ok.noex b o e z
      · exact absurd (Nat.lt_of_lt_of_le (Heap.lt_size e) (Nat.le_trans I.ok.bsz z)) (Nat.lt_irrefl _)
    · rcases List.mem_cons.mp (I.stkSub b z) with z | z
      · exact (hfp b hb).1.2.1 z
      · exact (hfp b hb).1.2.2.1 z
  refine ⟨okB, rfl, hb, Un.kept kp, ⟨fun y => if y = ".0" then some itv else none, ?_, fun i y av e1 e2 e3 => ?_⟩, fun y c e => ?_, ?_, fun y c e => I.freeC y c (cm e).1, fun p hp => ?_, I.hok.kept kp, by rw [wipe_length]; exact I.len⟩
  · show Heap.Ns _ ce.locals _
    rw [hL]
    exact hn
  · obtain ⟨e2, hne⟩ := wipe_some e2
    have hfr : scope.names.lookup y = some .free := by
      have e3 : Vis ce.scope y := e3
      rw [hsc] at e3
      rcases e3 with e3 | e3 | e3
      · rcases ok.own _ (PySem.mem_of_lookup e3) rfl with e' | e'
        · obtain ⟨p, hp, hpy⟩ := List.mem_map.mp e'
          have e4 := ok.ix p hp
          have hpy : p.1 = y := hpy
          rw [hpy] at e4
          exact absurd (List.mem_map.mpr ⟨p, hp, nodup_ix hN e4 e1⟩) hne
        · exact absurd (List.mem_of_getElem? e1) e'
      · exact absurd rfl (ok.nocell _ (PySem.mem_of_lookup e3))
      · exact e3
    obtain ⟨m, hn', hl⟩ := I.loc
    have vis : Vis X.env.scope y := (ok.free _ (PySem.mem_of_lookup hfr) rfl).elim (fun k => .inr (.inl k)) (fun k => .inr (.inr k))
    obtain ⟨w, r, q⟩ := hl i y av e1 e2 vis
    obtain ⟨c, h1, h2⟩ := look hfr
    refine ⟨w, r, .inr ⟨.inr (by show ce.scope.names.lookup y = _; rw [hsc]; exact hfr), c, h1, ?_⟩⟩
    rcases q with ⟨k, _⟩ | ⟨_, c', e', z⟩
    · have k : X.env.scope.names.lookup y = some .local := k
      rcases ok.free _ (PySem.mem_of_lookup hfr) rfl with k' | k' <;> rw [show X.env.scope.names.lookup y = _ from k'] at k <;> cases k
    · rw [h2] at e'
      cases e'
      exact z.keeps kp
  · obtain ⟨w, z⟩ := I.cell y c (cm e).1
    exact ⟨w, z.keeps kp⟩
  · show H ce.locals = none
    rw [hL]
    exact I.hok.fresh (Nat.le_refl _)
  · exact absurd (show p ∈ ([] : List (Addr × Obj)) ++ [] from hp) (by simp)
/-! the consumer: a: what it has gathered, told by the state; os: its own objects -/
structure Cons (α : Type) where
  step : α → V → (α → Prop) → (V → Prop) → Prop
  fin : α → (V → Prop) → Prop
/-- while the generator sleeps, all but the consumer's own is kept -/
structure Slp (ol : List Addr) (s s' : Shared) : Prop where
  same : s'.os = s.os
  bare : AllBare s'.gens
  keep : ∀ b o, b ∉ ol → s.heap.get? b = some o → s'.heap.get? b = some o
  own : ∀ b ∈ ol, ∃ o, s'.heap.get? b = some o ∧ ∀ v, o.data ≠ .cell v
def OsOk (X : Cx) (os : List Addr) : Prop := ∀ b ∈ os, X.s_0.heap.objs.size ≤ b ∧ b ≠ X.env.locals ∧ (∀ x c, X.env.cells.lookup x = some c → c ≠ b) ∧ b ∉ X.ex
theorem inv_woken {os : List Addr} {ip : List (Addr × Obj)} {s s' s₀ : Shared} (I : Inv X (pinsAt os s₀.heap ++ ip) σ H s) (hpn : X.pn = []) (h₀ : ∀ b ∈ os, ∃ o, s₀.heap.get? b = some o) (hO : OsOk X os) (z : Slp os s s') : Inv X (pinsAt os s'.heap) σ H s' ∧ ∀ b ∈ os, H b = none ∧ b ∉ X.fs := by
  have hb0 : ∀ b ∈ os, H b = none ∧ b ∉ X.fs := fun b hb => by
    obtain ⟨o, e⟩ := h₀ b hb
    obtain ⟨_, h2, _, h4, _⟩ := I.pin (b, o) (List.mem_append_right _ (List.mem_append_left _ (mem_pinsAt hb e)))
    exact ⟨h2, h4⟩
  have I0 : Inv X [] σ H s := I.pins_of fun p hp => absurd hp (by simp)
  have I1 : Inv X [] σ H { s with heap := s'.heap, toks := s.toks } := I0.turnedL (ch := os) (fun b o hb e => z.keep b o hb e) fun b hb =>
    ⟨(hb0 b hb).1, (hO b hb).2.1, (hb0 b hb).2, .inr (hO b hb).1, (hO b hb).2.2.1, fun p hp => absurd (show p ∈ ([] : List (Addr × Obj)) from by rw [hpn] at hp; exact hp) (by simp)⟩
  have I2 : Inv X [] σ H s' := inv_regen I1 z.same rfl z.bare
  refine ⟨I2.pins_of fun p hp => ?_, hb0⟩
  obtain ⟨hb, e⟩ := of_pinsAt hp
  obtain ⟨o, e', hc⟩ := z.own p.1 hb
  rw [e] at e'
  cases e'
  exact ⟨e, (hb0 p.1 hb).1, (hO p.1 hb).2.1, (hb0 p.1 hb).2, hc⟩
section
variable {α : Type}
def GYx (Z : Cx) (os : List Addr) (c : Cons α) (Rel : α → Shared → Prop) (Q : VK) : Protocol := fun n s₀ v s kap =>
  ∃ (a : α) (y : V) (H : Hp) (ip : List (Addr × Obj)) (τ : L2.St) (Nx : α → Prop), Rel a s₀ ∧ RelV y v ∧ Inv Z (pinsAt os s₀.heap ++ ip) τ H s ∧ c.step a y Nx (fun u => Q u H) ∧ ∀ s' a', Nx a' → Rel a' s' → Slp os s s' → kap (.send .none) s'
def GEx (Z : Cx) (os : List Addr) (c : Cons α) (Rel : α → Shared → Prop) (Q : VK) : GenEnd := fun n s₀ r s =>
  ((r = .ok (.ret .none) ∨ r = .ok .next) ∧ ∃ (a : α) (H : Hp) (τ : L2.St), Rel a s₀ ∧ Inv Z (pinsAt os s₀.heap) τ H s ∧ c.fin a (fun u => Q u H)) ∨ ∃ e, r = .error e ∧ False
/-- the loop: what is asked -/
def Runs1 (J : It) (g : TG) (tt : TT) (te : TE) (vs : List Nat) (σ : L2.St) (c : Cons α) (Q : VK) (W : Nat → Nat → α → Hp → Prop) : Prop :=
  ∀ i m a H, W i m a H → (J.stop i H ∧ c.fin a (fun u => Q u H)) ∨ (J.go i H ∧ ∃ Nx : α → Hp → Prop, (∀ a' H', Nx a' H' → ∃ m', m' < m ∧ W (i + 1) m' a' H') ∧ ∀ x H', J.yld i H x H' → g x (wipe σ vs) H' fun σ2 H2 => wipe σ2 vs = wipe σ vs ∧ tt σ2 H2 fun b H3 =>
    if b = true then te σ2 H3 fun y H4 => c.step a y (fun a' => Nx a' H4) (fun u => Q u H4) else Nx a H3)
theorem gx_over {A : Around} {elt tg iter : Expr} {ifs : List Expr} {scope : Scope} {pos : Pos} {it acc : Value} {ce : Env} : A.over (.compLoop (.GeneratorExp elt [⟨tg, iter, ifs, 0⟩] scope pos) 0 it acc ce) [] = A.deeper ce := by
  first
    | rfl
    | (obtain ⟨hd, d, fr, gs, u⟩ := A; simp [Around.over, Around.deeper, marksOver, frameCount, unitsOf, envsOf, guardsOf, pushEnvs, pushGuards, Code.envs, Code.env?, Code.isFrame, Code.guards, Code.isGuard, Code.weight, Code.frames, Code.isCreation, Code.isCaller, Code.cUnits])
/-- what stands at a turn -/
structure At (Z : Cx) (os fp : List Addr) (tn : Nat → Heap → Prop) (σ : L2.St) (vs : List Nat) (i : Nat) (H : Hp) (s₀ s : Shared) : Prop where
  inv : Inv Z (pinsAt os s₀.heap) (wipe σ vs) H s
  tn : tn i s.heap
  fpn : ∀ b ∈ fp, H b = none
  ex : ∀ b ∈ os, ∃ o, s₀.heap.get? b = some o
theorem gx_loop {Z : Cx} {os fp : List Addr} {c : Cons α} {Rel : α → Shared → Prop} {Q : VK} {elt tg iter : Expr} {ifs : List Expr} {scope : Scope} {pos : Pos} {it : Addr} {tn : Nat → Heap → Prop} {J : It} {g : TG} {tt : TT} {te : TE} {vs : List Nat} {W : Nat → Nat → α → Hp → Prop} {A : Around}
    (hA : A.deeper Z.env = Z.A) (hpn : Z.pn = []) (hex : Z.ex = fp) (hc : Z.calm = true) (hxe : Z.xe = fun _ _ => False) (hco : Z.env.scope.isCoroutine = false) (hO : OsOk Z os) (T : Turn Z.prog Z.w Z.K tg J fp it tn) (pg : PG Z tg g) (pt : PTs Z ifs tt) (pe : PE Z elt te) (run : Runs1 J g tt te vs σ c Q W) :
    ∀ (m n i : Nat) (a : α) (H : Hp) (s₀ s : Shared), m < n → W i m a H → Rel a s₀ → At Z os fp tn σ vs i H s₀ s →
      Seg (model Z.prog Z.w) A (GEx Z os c Rel Q) (GYx Z os c Rel Q) n s₀ (.compLoop (.GeneratorExp elt [⟨tg, iter, ifs, 0⟩] scope pos) 0 (.ref it) .none Z.env) ((model Z.prog Z.w).den (.compLoop (.GeneratorExp elt [⟨tg, iter, ifs, 0⟩] scope pos) 0 (.ref it) .none Z.env)) [] s := by
  intro m
  induction m using Nat.strongRecOn with
  | ind m ih =>
    intro n i a H s₀ s hmn w hrel at_
    obtain ⟨I, st, nfp, h0⟩ := at_
    have stat : ∀ {pins : List (Addr × Obj)} {σ' : L2.St} {H' : Hp} {s' : Shared}, Inv Z pins σ' H' s' → (∀ p ∈ pins, p.1 ∈ os) → (∀ b ∈ fp, H' b = none) → ∀ b ∈ fp, FpOk Z pins H' b := fun {pins σ' H' s'} I' hp hn b hb => by
      have hb' : b ∈ Z.ex := by rw [hex]; exact hb
      refine ⟨hn b hb, (I'.ok.exf b hb').1, I'.ok.exfs b hb', .inl hb', fun x c e => (I'.ok.exf b hb').2 x c e, fun p hq => ?_⟩
      rw [hpn] at hq
      have := hO p.1 (hp p hq)
      intro z
      rw [z] at this
      exact this.2.2.2 hb'
    have pos_ : ∀ p ∈ pinsAt os s₀.heap, p.1 ∈ os := fun p hp => (of_pinsAt hp).1
    have noE : ∀ {β : Type} {t : Sem β} {Qx : β → Shared → Prop} {E' : Value → Shared → Prop} {s : Shared}, wpAny (model Z.prog Z.w) Z.A t Qx Z.xe s → wpAny (model Z.prog Z.w) Z.A t Qx E' s := fun h => wpAny_mono h (fun _ _ z => z) fun _ _ z => by rw [hxe] at z; exact z.elim
    show Seg _ A _ _ _ s₀ _ ((compTurn (.GeneratorExp elt [⟨tg, iter, ifs, 0⟩] scope pos) 0 (.ref it) .none Z.env).onRaise (leaving Z.env)) [] s
    rw [compTurn_gen, Sem.onRaise_eq_wrap]
    refine seg_bind_wrap ?_
    rw [gx_over, hA]
    refine wpAny_standAt (seg_bind_wrap ?_)
    rw [gx_over, hA]
    rcases run i m a H w with ⟨stop, qq⟩ | ⟨go, Nx, hNx, step⟩
    · refine wpAny_mono (T.done Z rfl rfl rfl hc i _ s _ H (fun _ _ => False) I (stat I pos_ nfp) st stop) (fun r s1 ⟨hr, I1⟩ => ?_) fun _ _ z => z.elim
      subst hr
      exact seg_end (.ok .next) (.inl ⟨.inr rfl, a, H, _, hrel, I1, qq⟩)
    · refine wpAny_mono (T.item Z rfl rfl rfl hc i _ s _ H (fun _ _ => False) I (stat I pos_ nfp) st go) (fun r s1 ⟨u, hr, h1⟩ => ?_) fun _ _ z => z.elim
      subst hr
      refine seg_bind_wrap ?_
      rw [gx_over, hA]
      refine wpAny_mono h1 (fun _ s7 ⟨x, H7, I7, r7, y7, st7, n7⟩ => ?_) fun _ _ z => z.elim
      have I7' := I7.pinned (stat I7 pos_ n7) (T.obj _ _ st7)
      refine seg_bind_wrap ?_
      rw [gx_over, hA]
      refine noE (wpAny_mono (pg.run _ s7 _ H7 x u _ I7' r7 (step x H7 y7)) (fun _ s8 ⟨σ8, H8, I8, hw8, q8⟩ => ?_) fun _ _ z => z)
      refine seg_bind_wrap ?_
      rw [gx_over, hA]
      refine noE (wpAny_mono (pt.run _ s8 σ8 H8 _ I8 q8) (fun b s9 ⟨H9, I9, q9⟩ => ?_) fun _ _ z => z)
      have hl : (wipe σ vs).length = σ8.length := by rw [← hw8, wipe_length]
      have wk : ∀ (j : Nat) v, (wipe σ vs)[j]? = some (some v) → σ8[j]? = some (some v) := fun j v e => by
        rw [← hw8] at e
        exact (wipe_some e).1
      have pin' : ∀ {s' : Shared} {H' : Hp}, Inv Z (pinsAt os s₀.heap ++ pinsAt fp s7.heap) σ8 H' s' → ∀ b ∈ fp, ∀ o, s7.heap.get? b = some o → s'.heap.get? b = some o ∧ H' b = none := fun {s' H'} I' b hb o e =>
        let z := I'.pin (b, o) (List.mem_append_right _ (List.mem_append_right _ (mem_pinsAt hb e)))
        ⟨z.1, z.2.1⟩
      have fpn : ∀ {s' : Shared} {H' : Hp}, Inv Z (pinsAt os s₀.heap ++ pinsAt fp s7.heap) σ8 H' s' → ∀ b ∈ fp, H' b = none := fun {s' H'} I' b hb => by
        obtain ⟨o, e, _⟩ := T.obj _ _ st7 b hb
        exact (pin' I' b hb o e).2
      cases b with
      | false =>
        simp only [Bool.false_eq_true, if_false] at q9 ⊢
        obtain ⟨m', hm, w'⟩ := hNx a H9 q9
        exact seg_again rfl (ih m' hm n (i + 1) a H9 s₀ s9 (by omega) w' hrel ⟨I9.unpinned.weak hl wk, T.keep _ _ _ st7 fun b hb o e => (pin' I9 b hb o e).1, fpn I9, h0⟩)
      | true =>
        simp only [if_true] at q9 ⊢
        have hy : ∀ v, yieldOut Z.env v = yieldValue v := fun v => by simp only [yieldOut, hco, Bool.false_eq_true, if_false]
        simp only [hy]
        rw [Sem.bind_eq_wrap', Sem.bind_eq_wrap', Sem.wrap_wrap, Sem.wrap_wrap]
        refine seg_wrap ?_
        rw [gx_over, hA]
        refine noE (wpAny_mono (pe.run _ s9 σ8 H9 _ I9 q9) (fun z s10 ⟨yv, H10, I10, r10, stp⟩ => ?_) fun _ _ z => z)
        cases n with
        | zero =>
          exact absurd hmn (Nat.not_lt_zero _)
        | succ n =>
          refine seg_at (seg_yield rfl rfl rfl ⟨a, yv, H10, pinsAt fp s7.heap, σ8, fun a' => Nx a' H10, hrel, r10, I10, stp, fun s' a' nx rel' slp => ?_⟩)
          obtain ⟨m', hm, w'⟩ := hNx a' H10 nx
          obtain ⟨I11, _⟩ := inv_woken I10 hpn h0 hO slp
          refine seg_again rfl (ih m' hm n (i + 1) a' H10 s' s' (by omega) w' rel' ⟨I11.weak hl wk, T.keep _ _ _ st7 fun b hb o e => slp.keep b o (fun hbo => ?_) (pin' I10 b hb o e).1, fpn I10, fun b hb => ?_⟩)
          · exact (hO b hbo).2.2.2 (by rw [hex]; exact hb)
          · obtain ⟨o, e, _⟩ := slp.own b hb
            exact ⟨o, e⟩
end
end
section
open GenW
variable {X : Cx} {pins : List (Addr × Obj)} {σ : L2.St} {H : Hp} {s : Shared} {α : Type}
theorem gx_start {Z : Cx} {os fp : List Addr} {c : Cons α} {Rel : α → Shared → Prop} {Q : VK} {elt tg iter : Expr} {ifs : List Expr} {scope : Scope} {pos : Pos} {it : Addr} {tn : Nat → Heap → Prop} {J : It} {g : TG} {tt : TT} {te : TE} {vs : List Nat} {W : Nat → Nat → α → Hp → Prop} {A : Around}
    (hA : A.deeper Z.env = Z.A) (hpn : Z.pn = []) (hex : Z.ex = fp) (hc : Z.calm = true) (hxe : Z.xe = fun _ _ => False) (hco : Z.env.scope.isCoroutine = false) (hO : OsOk Z os) (T : Turn Z.prog Z.w Z.K tg J fp it tn) (pg : PG Z tg g) (pt : PTs Z ifs tt) (pe : PE Z elt te) (run : Runs1 J g tt te vs σ c Q W)
    {m n : Nat} {a : α} {H : Hp} {s₀ s : Shared} (hmn : m < n) (w : W 0 m a H) (hrel : Rel a s₀) (at_ : At Z os fp tn σ vs 0 H s₀ s) :
      Seg (model Z.prog Z.w) A (GEx Z os c Rel Q) (GYx Z os c Rel Q) n s₀ (.compStart (.GeneratorExp elt [⟨tg, iter, ifs, 0⟩] scope pos) 0 (.ref it) .none Z.env) ((model Z.prog Z.w).den (.compStart (.GeneratorExp elt [⟨tg, iter, ifs, 0⟩] scope pos) 0 (.ref it) .none Z.env)) [] s := by
  have loop := gx_loop (iter := iter) (scope := scope) (pos := pos) hA hpn hex hc hxe hco hO T pg pt pe run m n 0 a H s₀ s hmn w hrel at_
  show Seg _ A _ _ _ s₀ _ ((compStart (.GeneratorExp elt [⟨tg, iter, ifs, 0⟩] scope pos) 0 (.ref it) .none Z.env).onRaise (leaving Z.env)) [] s
  unfold compStart
  rw [Sem.onRaise_eq_wrap]
  show Seg _ A _ _ _ s₀ _ ((ask >>= _).wrap _ _ _ _) [] s
  refine seg_bind_wrap (wpAny_askSetting ?_)
  split
  · exact seg_again rfl loop
  · refine seg_bind_wrap (wpAny_rule ?_)
    show Seg _ A _ _ _ s₀ _ ((standAt iter.pos >>= _).wrap _ _ _ _) [] s
    exact seg_bind_wrap (wpAny_standAt (seg_bind_wrap (T.self _ 0 s _ _ at_.tn (seg_again rfl loop))))
/-! the consumers -/
def cAll : Cons Unit := ⟨fun _ y k f => ∃ b, y = .bl b ∧ (if b = true then k () else f (.bl false)), fun _ f => f (.bl true)⟩
theorem gen_own {Z : Cx} {os : List Addr} {ip : List (Addr × Obj)} {τ : L2.St} {H : Hp} {s₀ s : Shared} {ga : Addr} {g : Nat} (hm : ga ∈ os) (hg : s₀.heap.IsGen ga g) (I : Inv Z (pinsAt os s₀.heap ++ ip) τ H s) : s.heap.IsGen ga g ∧ ∃ o, s.heap.get? ga = some o ∧ ∀ v, o.data ≠ .cell v := by
  obtain ⟨o, nm, qn, ho, h1, h2, h3⟩ := hg
  obtain ⟨e, _, _, _, hc⟩ := I.pin (ga, o) (List.mem_append_right _ (List.mem_append_left _ (mem_pinsAt hm ho)))
  exact ⟨⟨o, nm, qn, e, h1, h2, h3⟩, o, e, hc⟩
section
variable {Z : Cx} {ga : Addr} {g : Nat} {Q : VK} {A : Around} {Rf : Result → Shared → Prop}
theorem bool_drain {c : Cons Unit} {id : String} (bk bd : Bool)
    (hstep : ∀ y k f, c.step () y k f → ∃ b, y = .bl b ∧ (b = bk → k ()) ∧ (b = (!bk) → f (.bl bd))) (hfin : ∀ f, c.fin () f → f (.bl (!bd)))
    (hh : A.handled = none) (hd : A.depth < recursionLimit) (hR : ∀ b H τ s', Inv Z [] τ H s' → Q (.bl b) H → Rf (.ok (.ret (.bool b))) s')
    (body : ∀ (s : Shared), wpAny (model Z.prog Z.w) A.in1 (pyNext (.ref ga)) (fun r s' => match r with
        | none => Rf (.ok (.ret (.bool (!bd)))) s'
        | some v => ∃ b, v = .bool b ∧ (b = bk → codeAny (model Z.prog Z.w) A (.builtin id ⟨[.ref ga], []⟩) Rf s') ∧ (b = (!bk) → Rf (.ok (.ret (.bool bd))) s')) (fun _ _ => False) s → codeAny (model Z.prog Z.w) A (.builtin id ⟨[.ref ga], []⟩) Rf s) :
    ∀ (n : Nat) (s : Shared), s.heap.IsGen ga g → s.heap.NoLimit → (∃ gs, s.gens[g]? = some gs ∧ gs.Goes (model Z.prog Z.w) A.in1.in1 (GEx Z [ga] c (fun _ _ => True) Q) (GYx Z [ga] c (fun _ _ => True) Q) n (.send .none) (s.setGen g .running)) →
      codeAny (model Z.prog Z.w) A (.builtin id ⟨[.ref ga], []⟩) Rf s := by
  intro n
  induction n with
  | zero =>
    rintro s hg hl ⟨gs, hgs, hgo⟩
    refine body s (next_genG (A := A.in1) (F := fun n s₀ s => ∃ (a : Unit) (H : Hp) (τ : L2.St), True ∧ Inv Z (pinsAt [ga] s₀.heap) τ H s ∧ c.fin a (fun u => Q u H)) (Er := fun _ _ => False) hh hl hd hg hgs hgo (fun v s₁ gs' bare hv => ?_) (fun s₁ hp h' hk => ?_) fun e s₁ he => he.elim)
    · obtain ⟨_, y, H, ip, τ, Nx, _, rv, I, st, kap⟩ := hv
      obtain ⟨b, rfl, h1, h2⟩ := hstep y _ _ st
      have ev : v = .bool b := rv
      refine ⟨b, ev, fun e => ?_, fun e => hR bd H τ _ (inv_regen (s := s₁) (I.pins_of fun p hp => absurd hp (by simp)) rfl rfl (allBare_setGen I.bare bare)) (h2 e)⟩
      exfalso
      obtain ⟨_, o, ho, hc⟩ := gen_own (os := [ga]) (s₀ := s.setGen g .running) List.mem_cons_self hg I
      refine kap s₁ () (h1 e) True.intro ⟨rfl, I.bare, fun b o _ e => e, fun b hb => ?_⟩
      rw [List.mem_singleton.mp hb]
      exact ⟨o, ho, hc⟩
    · obtain ⟨_, H, τ, _, I, hf⟩ := hp
      refine hR (!bd) H τ _ (inv_regen (s := { s₁ with heap := h', toks := s₁.toks }) (L2.Inv.kept (I.pins_of fun p hp => absurd hp (by simp)) hk) rfl rfl (allBare_setGen I.bare rfl)) (hfin _ hf)
  | succ n ih =>
    rintro s hg hl ⟨gs, hgs, hgo⟩
    have hgl : g < s.gens.size := (Array.getElem?_eq_some_iff.mp hgs).1
    refine body s (wpAny_gsz (n := g + 1) hgl (next_genG (A := A.in1) (F := fun n s₀ s => ∃ (a : Unit) (H : Hp) (τ : L2.St), True ∧ Inv Z (pinsAt [ga] s₀.heap) τ H s ∧ c.fin a (fun u => Q u H)) (Er := fun _ _ => False) hh hl hd hg hgs hgo (fun v s₁ gs' bare hv => ?_) (fun s₁ hp h' hk => ?_) fun e s₁ he => he.elim))
    · intro hsz
      obtain ⟨_, y, H, ip, τ, Nx, _, rv, I, st, kap⟩ := hv
      obtain ⟨b, rfl, h1, h2⟩ := hstep y _ _ st
      have ev : v = .bool b := rv
      refine ⟨b, ev, fun e => ?_, fun e => hR bd H τ _ (inv_regen (s := s₁) (I.pins_of fun p hp => absurd hp (by simp)) rfl rfl (allBare_setGen I.bare bare)) (h2 e)⟩
      obtain ⟨hg1, o, ho, hc⟩ := gen_own (os := [ga]) (s₀ := s.setGen g .running) List.mem_cons_self hg I
      have hsz1 : g < s₁.gens.size := by
        have q : (s₁.setGen g gs').gens.size = s₁.gens.size := setGen_size _ _ _
        have hsz' : g + 1 ≤ (s₁.setGen g gs').gens.size := hsz
        omega
      refine ih (s₁.setGen g gs') hg1 I.nolimit ⟨gs', setGen_at hsz1, ?_⟩
      refine kap _ () (h1 e) True.intro ⟨rfl, allBare_setGen (s := s₁.setGen g gs') (allBare_setGen I.bare bare) rfl, fun b o _ e => e, fun b hb => ?_⟩
      rw [List.mem_singleton.mp hb]
      exact ⟨o, ho, hc⟩
    · intro _
      obtain ⟨_, H, τ, _, I, hf⟩ := hp
      refine hR (!bd) H τ _ (inv_regen (s := { s₁ with heap := h', toks := s₁.toks }) (L2.Inv.kept (I.pins_of fun p hp => absurd hp (by simp)) hk) rfl rfl (allBare_setGen I.bare rfl)) (hfin _ hf)
theorem all_body (s : Shared) (h : wpAny (model Z.prog Z.w) A.in1 (pyNext (.ref ga)) (fun r s' => match r with
        | none => Rf (.ok (.ret (.bool true))) s'
        | some v => ∃ b, v = .bool b ∧ (b = true → codeAny (model Z.prog Z.w) A (.builtin "all.loop" ⟨[.ref ga], []⟩) Rf s') ∧ (b = false → Rf (.ok (.ret (.bool false))) s')) (fun _ _ => False) s) : codeAny (model Z.prog Z.w) A (.builtin "all.loop" ⟨[.ref ga], []⟩) Rf s := by
  refine codeAny_builtin F.entry_all_loop ?_
  rw [Around.under_plainId F.plain_all_loop _]
  show wpAny _ A.in1 (pyNext (.ref ga) >>= _) _ _ s
  refine wpAny_bind (wpAny_mono h (fun r s' hr => ?_) fun _ _ z => z.elim)
  cases r with
  | none => exact wpAny_bind (wpAny_rule (wpAny_pure hr))
  | some v =>
    obtain ⟨b, rfl, h1, h2⟩ := hr
    refine wpAny_bind (wpAny_holding (wpAny_truthy_bool ?_))
    refine wpAny_bind (wpAny_letGo ?_)
    cases b with
    | true => exact wpAny_pure ⟨plainId_quiet F.plain_all_loop _, h1 rfl⟩
    | false => exact wpAny_bind (wpAny_rule (wpAny_pure (h2 rfl)))
end
end
section
open GenW
variable {X : Cx} {pins : List (Addr × Obj)} {σ : L2.St} {H : Hp} {s : Shared} {α : Type}
/-- a generator expression is walked: what is asked -/
def tGx (P : Addr) (c : Cons α) (a0 : α) (wi : TI) (g : TG) (tt : TT) (te : TE) (vs : List Nat) : TE := fun σ H Q => wi σ H fun J H1 => GxR.TabG H1 P ∧ ∀ H2, GxR.Tabbed P H1 H2 → ∃ W : Nat → Nat → α → Hp → Prop, (∃ m, W 0 m a0 H2) ∧ Runs1 J g tt te vs σ c Q W
/-- the generator at ga stands ready -/
def GxReady (X : Cx) (pins : List (Addr × Obj)) (σ : L2.St) (c : Cons α) (a0 : α) (Q : VK) (ga : Addr) (s5 : Shared) : Prop :=
  ∃ (Z : Cx) (g n : Nat) (c0 : Code), s5.heap.IsGen ga g ∧ s5.gens[g]? = some (.fresh c0) ∧ s5.heap.NoLimit ∧ AllBare s5.gens ∧ Z.prog = X.prog ∧ Z.w = X.w ∧ Z.pn = [] ∧ (∀ τ H s', Inv Z [] τ H s' → Inv X pins σ H s') ∧ OsOk Z [ga] ∧ (∀ S, s5.heap.objs.size ≤ S → OsOk Z [ga, S] ∧ S ≠ ga) ∧
    ∀ (os : List Addr) (Rel : α → Shared → Prop) (s2 : Shared), OsOk Z os → (∀ b ∈ os, b = ga ∨ s5.heap.objs.size ≤ b) → (∀ b o, s5.heap.get? b = some o → s2.heap.get? b = some o) → s2.os = s5.os → AllBare s2.gens → (∀ b ∈ os, ∃ o, s2.heap.get? b = some o ∧ ∀ v, o.data ≠ .cell v) → Rel a0 s2 →
      Seg (model Z.prog Z.w) X.A.in1.in1 (GEx Z os c Rel Q) (GYx Z os c Rel Q) n s2 c0 ((model Z.prog Z.w).den c0) [] s2
theorem gx_make {c P : Addr} {elt tg iter : Expr} {ifs : List Expr} {scope : Scope} {own : List (Str × Nat)} {gpos : Pos} {k : Nat} {wi : TI} {g : TG} {tt : TT} {te : TE} {cs : Cons α} {a0 : α} {Q : VK} {Q' : Value → Shared → Prop}
    (hr : Room k X.A) (hcalm : X.calm = true) (hN : X.N.Nodup) (TB : GxR.TabB X.base X.mg c P) (hcode : X.env.code = .ref c) (ok : GBlk X.N X.env.scope scope own) (hi : PI X tg iter wi) (hs : ∀ v, genFold iter X.env v = pure v)
    (hg : ∀ (s : Shared) (H : Hp) (C : Addr) (code : Value) (fp : List Addr), PG (gcx X s H (genEnv scope (cloFrom X.env.cells scope.names []) C code builtinsNs X.env) fp) tg g)
    (ht : ∀ (s : Shared) (H : Hp) (C : Addr) (code : Value) (fp : List Addr), PTs (gcx X s H (genEnv scope (cloFrom X.env.cells scope.names []) C code builtinsNs X.env) fp) ifs tt)
    (he : ∀ (s : Shared) (H : Hp) (C : Addr) (code : Value) (fp : List Addr), PE (gcx X s H (genEnv scope (cloFrom X.env.cells scope.names []) C code builtinsNs X.env) fp) elt te)
    (I : Inv X pins σ H s) (h : tGx P cs a0 wi g tt te (own.map (·.2)) σ H Q) (fin : ∀ ga s5, GxReady X pins σ cs a0 Q ga s5 → Q' (.ref ga) s5) :
    wpAny (model X.prog X.w) X.A (eval (.GeneratorExp elt [⟨tg, iter, ifs, 0⟩] scope gpos) X.env) Q' X.xe s := by
  have hfree : ∀ y ∈ scope.names, y.2 = .free → ∃ c, X.env.cells.lookup y.1 = some c := fun y hy e =>
    (ok.free y hy e).elim (fun k => I.ok.has _ (.inl k)) fun k => I.ok.has _ (.inr k)
  refine wpAny_GeneratorExp_make ok.co (closure_ok hfree) ok.nocell ok.dot ok.kind hr.depth ?_ hs
  refine thn (hi.run pins s σ H _ I h) fun xv t1 hx => thn hx fun itv t2 h2 => ?_
  obtain ⟨it, fp, tn, J, H1, rfl, I1, T, st1, f1, tab, q⟩ := h2
  obtain ⟨ps, hP, tr⟩ := id tab
  have gP : t2.heap.get? P = some { cls := .none, data := .fields ps } := I1.hok P _ hP
  have cd : PySem.W.CodeHd t2.heap c P := TB.code.keeps fun b u e => I1.bk b u e
  refine ⟨I1.nolimit, ?_⟩
  have fpP : ∀ b ∈ fp, b ≠ P := fun b hb z => by
    have := (f1 b hb).1
    rw [z, hP] at this
    cases this
  have rest : ∀ (code : Value) (h3 : Heap) (tk : Nat) (qs : Array Value), Heap.ExtBut P t2.heap h3 → t2.heap.objs.size ≤ h3.objs.size → h3.get? P = some { cls := .none, data := .fields qs } → (∃ more, qs = ps ++ more) → TriplesOk qs.toList →
      wpAny (model X.prog X.w) X.A (builtinsFor X.env.globals X.env.builtins) (fun bi s₄ => ∀ h', h'.Ns s₄.heap.objs.size (fun y => if y = ".0" then some (.ref it) else none) → Heap.SameBut s₄.heap.objs.size (s₄.heap.push { cls := .type "frame", data := .dict #[] }) h' →
          Q' (.ref h'.objs.size) { s₄ with gens := s₄.gens.push (.fresh (.compStart (.GeneratorExp elt [⟨tg, iter, ifs, 0⟩] scope gpos) 0 (.ref it) .none (genEnv scope (cloFrom X.env.cells scope.names []) s₄.heap.objs.size code bi X.env))), toks := s₄.toks + 1 + 1 + 1, heap := h'.push { cls := .type "generator", data := .fields #[.int s₄.gens.size 0, .str "<genexpr>" (s₄.toks + 1), .str (X.env.qual ++ "<genexpr>") (s₄.toks + 1 + 1)] } }) X.xe { t2 with heap := h3, toks := tk } := by
    intro code h3 tk qs hx hsz gP3 ⟨more, em⟩ tr3
    obtain ⟨bm, ob, b1, b2, b3, b4, b5, b6, b7, b8⟩ := TB.bm
    have kp3 : ∀ b u, b ≠ P → t2.heap.get? b = some u → h3.get? b = some u := fun b u hb e => hx b u hb e
    refine wpAny_builtinsFor (m := X.mg) (by rw [I1.ok.glob]; exact (I1.mod.glob.keeps I1.bk).extBut hx TB.gP) b1 b2 (kp3 _ _ b4 (I1.bk _ _ b5)) b6 b7 b8 ?_
    subst em
    have I3 : Inv X pins σ (upd H1 P (.tbl (ps ++ more))) { t2 with heap := h3, gens := t2.gens, drawn := t2.drawn, toks := tk } := GxR.inv_tab I1 hP kp3 gP3 I1.bare
    obtain ⟨W, ⟨m0, w0⟩, run⟩ := q (upd H1 P (.tbl (ps ++ more))) ⟨⟨_, upd_same, tr3⟩, fun b hb => upd_ne hb⟩
    have lt1 : ∀ b ∈ fp, b < t2.heap.objs.size := fun b hb => by
      obtain ⟨o, e, _⟩ := T.obj _ _ st1 b hb
      exact Heap.lt_size e
    have st3 : tn 0 h3 := T.keep _ _ _ st1 fun b hb o e => kp3 b o (fpP b hb) e
    have f3 : ∀ b ∈ fp, FpOk X pins (upd H1 P (.tbl (ps ++ more))) b ∧ b < h3.objs.size := fun b hb => by
      refine ⟨⟨?_, (f1 b hb).2⟩, Nat.lt_of_lt_of_le (lt1 b hb) hsz⟩
      rw [upd_ne (fpP b hb)]
      exact (f1 b hb).1
    intro h' hn' sb'
    have sz' : h'.objs.size = h3.objs.size + 1 := by
      rw [sb'.1, Heap.size_push]
    have kp' : ∀ b o, h3.get? b = some o → h'.get? b = some o := fun b o e => sb'.extBut b o (Nat.ne_of_lt (Heap.lt_size e)) (Heap.get?_push_of_some _ e)
    generalize hgo : ({ cls := .type "generator", data := .fields #[.int t2.gens.size 0, .str "<genexpr>" (tk + 1), .str (X.env.qual ++ "<genexpr>") (tk + 1 + 1)] } : Obj) = go
    have kp5 : ∀ b o, h3.get? b = some o → (h'.push go).get? b = some o := fun b o e => Heap.get?_push_of_some _ (kp' b o e)
    generalize hH3 : upd H1 P (.tbl (ps ++ more)) = H3 at I3 w0 f3
    have at5 : (h'.push go).get? h'.objs.size = some go := by
      rw [← hgo]
      exact Heap.get?_push_size _ rfl
    have bare5 : AllBare (t2.gens.push (.fresh (.compStart (.GeneratorExp elt [⟨tg, iter, ifs, 0⟩] scope gpos) 0 (.ref it) .none (genEnv scope (cloFrom X.env.cells scope.names []) h3.objs.size code builtinsNs X.env)))) := AllBare.push I1.bare rfl
    have pg := hg { t2 with heap := h3, gens := t2.gens, drawn := t2.drawn, toks := tk } H3 h3.objs.size code fp
    have pt := ht { t2 with heap := h3, gens := t2.gens, drawn := t2.drawn, toks := tk } H3 h3.objs.size code fp
    have pe := he { t2 with heap := h3, gens := t2.gens, drawn := t2.drawn, toks := tk } H3 h3.objs.size code fp
    have start : ∀ (h2 : Heap) (g2 : Array GenState) (tk2 : Nat), h2.Ns h3.objs.size (fun y => if y = ".0" then some (.ref it) else none) → (∀ b o, h3.get? b = some o → h2.get? b = some o) → AllBare g2 → _ := fun h2 g2 tk2 a1 a2 a3 =>
      gblk_start (s := { t2 with heap := h3, gens := t2.gens, drawn := t2.drawn, toks := tk }) (code := code) (h' := h2) (g' := g2) (tk := tk2) I3 ok hN f3 a1 a2 a3
    have hco' : (genEnv scope (cloFrom X.env.cells scope.names []) h3.objs.size code builtinsNs X.env).scope.isCoroutine = false := ok.co
    have hL : (genEnv scope (cloFrom X.env.cells scope.names []) h3.objs.size code builtinsNs X.env).locals = h3.objs.size := rfl
    have oso : ∀ b, h3.objs.size < b → h3.objs.size ≤ b ∧ b ≠ h3.objs.size ∧ (∀ x c, (cloFrom X.env.cells scope.names []).lookup x = some c → c ≠ b) ∧ b ∉ fp := fun b hb => by
      refine ⟨Nat.le_of_lt hb, Nat.ne_of_gt hb, fun x c e z => ?_, fun hm => ?_⟩
      · rcases cloFrom_mem (PySem.mem_of_lookup e) with hm | ⟨h1, h2⟩
        · cases hm
        · obtain ⟨c', hc'⟩ := hfree _ h1 rfl
          rw [hc'] at h2
          have h2 : c = c' := h2
          obtain ⟨w, zz⟩ := I3.cell _ _ hc'
          have := zz.lt
          have : c' < h3.objs.size := this
          rw [← h2, z] at this
          exact absurd (Nat.lt_trans this hb) (Nat.lt_irrefl _)
      · exact absurd (Nat.lt_trans (f3 b hm).2 hb) (Nat.lt_irrefl _)
    refine fin h'.objs.size _ ⟨gcx X { t2 with heap := h3, gens := t2.gens, drawn := t2.drawn, toks := tk } H3 (genEnv scope (cloFrom X.env.cells scope.names []) h3.objs.size code builtinsNs X.env) fp, t2.gens.size, m0 + 1, _, ⟨go, _, _, at5, by rw [← hgo], by rw [← hgo], by rw [← hgo]⟩, Array.getElem?_push_size .., I3.nolimit.keeps kp5, bare5, rfl, rfl, rfl, fun τ H' s' I' => ?_, fun b hb => ?_, fun S hS => ⟨fun b hb => ?_, ?_⟩, ?_⟩
    · exact I3.call' (ch := fp) I'.os I'.base I'.hok I'.bare fun b hb => ⟨(f3 b hb).1.2.2.2.1, (f3 b hb).1.2.1, (f3 b hb).1.2.2.2.2.1, (f3 b hb).1.2.2.2.2.2⟩
    · rw [List.mem_singleton.mp hb]
      exact oso _ (by rw [sz']; exact Nat.lt_succ_self _)
    · have hS : (h'.push go).objs.size ≤ S := hS
      rw [Heap.size_push] at hS
      rcases List.mem_cons.mp hb with e | e
      · rw [e]
        exact oso _ (by rw [sz']; exact Nat.lt_succ_self _)
      · rw [List.mem_singleton.mp e]
        exact oso _ (by omega)
    · have hS : (h'.push go).objs.size ≤ S := hS
      rw [Heap.size_push] at hS
      exact Nat.ne_of_gt hS
    · intro os Rel s2 hO hos hk2 ho2 hb2 hex2 rel
      have hk3 : ∀ b o, h3.get? b = some o → s2.heap.get? b = some o := fun b o e => hk2 b o (kp5 b o e)
      have hn2 : s2.heap.Ns h3.objs.size (fun y => if y = ".0" then some (.ref it) else none) := Heap.Ns.keeps hn' fun b o e => hk2 b o (Heap.get?_push_of_some _ e)
      have J0 := start s2.heap s2.gens s2.toks hn2 hk3 hb2
      have J2 := inv_regen (s' := s2) J0 (ho2.trans rfl) rfl hb2
      have hos3 : ∀ b ∈ os, h3.objs.size < b := fun b hb => by
        rcases hos b hb with e | e
        · rw [e, sz']
          exact Nat.lt_succ_self _
        · have e : (h'.push go).objs.size ≤ b := e
          rw [Heap.size_push] at e
          omega
      have J3 := J2.pins_of (pins' := pinsAt os s2.heap) fun p hp => by
        obtain ⟨hb, e⟩ := of_pinsAt hp
        obtain ⟨o, e', hc⟩ := hex2 p.1 hb
        rw [e] at e'
        cases e'
        refine ⟨e, I3.hok.fresh (Nat.le_of_lt (hos3 p.1 hb)), (hO p.1 hb).2.1, fun hm => ?_, hc⟩
        have hm : p.1 ∈ frs X.stack := hm
        have := (I3.stack.mem hm).2
        obtain ⟨o2, e2, _⟩ := this
        exact absurd (Nat.lt_trans (Heap.lt_size e2) (hos3 p.1 hb)) (Nat.lt_irrefl _)
      exact gx_start (Z := gcx X { t2 with heap := h3, gens := t2.gens, drawn := t2.drawn, toks := tk } H3 (genEnv scope (cloFrom X.env.cells scope.names []) h3.objs.size code builtinsNs X.env) fp) (A := X.A.in1.in1) rfl rfl rfl hcalm rfl hco' hO T pg pt pe run (Nat.lt_succ_self m0) w0 rel ⟨J3, T.keep _ _ _ st3 fun b hb o e => hk3 b o e, fun b hb => (f3 b hb).1.1, fun b hb => by
        obtain ⟨o, e, _⟩ := hex2 b hb
        exact ⟨o, e⟩⟩
  cases hf : codeAmong gpos ps.toList with
  | none =>
    refine wpAny_genexprCodeX hcode (cd.code gP tr) (cd.tab gP) hf fun c' h' tk hx hge hlt hco _ htab _ => ?_
    obtain ⟨_, _, _, _, _, _, _, _, _, _, _, _, _, _, _, _, _, _, _, htr, _⟩ := hco
    exact rest _ h' tk _ hx (Nat.le_trans hge (Nat.le_of_lt hlt)) htab.2 ⟨_, rfl⟩ htr
  | some cv =>
    refine wpAny_genexprCode_hit hcode (cd.code gP tr) hf ?_
    exact rest cv t2.heap t2.toks ps (Heap.ExtBut.refl _ _) (Nat.le_refl _) gP ⟨#[], by simp⟩ tr
theorem room_u {k : Nat} {A : Around} (r : Room k A) : A.units + 1 < cLine := by
  have := r.units
  omega
section
variable {c P : Addr} {elt tg iter : Expr} {ifs : List Expr} {scope : Scope} {own : List (Str × Nat)} {gpos p pos : Pos} {k : Nat} {wi : TI} {g : TG} {tt : TT} {te : TE}
theorem pe_gxAll (hr : Room k X.A) (hcalm : X.calm = true) (hN : X.N.Nodup) (hgl : Gl X "all") (hm : X.mg "all" = none) (hba : bootBuiltins "all" = some (.builtin "all")) (TB : GxR.TabB X.base X.mg c P) (hcode : X.env.code = .ref c) (ok : GBlk X.N X.env.scope scope own) (hi : PI X tg iter wi)
    (hg : ∀ (s : Shared) (H : Hp) (C : Addr) (code : Value) (fp : List Addr), PG (gcx X s H (genEnv scope (cloFrom X.env.cells scope.names []) C code builtinsNs X.env) fp) tg g)
    (ht : ∀ (s : Shared) (H : Hp) (C : Addr) (code : Value) (fp : List Addr), PTs (gcx X s H (genEnv scope (cloFrom X.env.cells scope.names []) C code builtinsNs X.env) fp) ifs tt)
    (he : ∀ (s : Shared) (H : Hp) (C : Addr) (code : Value) (fp : List Addr), PE (gcx X s H (genEnv scope (cloFrom X.env.cells scope.names []) C code builtinsNs X.env) fp) elt te) (hs : ∀ v, genFold iter X.env v = pure v)
    (hst : starEach [.GeneratorExp elt [⟨tg, iter, ifs, 0⟩] scope gpos] X.env = (false, eval (.GeneratorExp elt [⟨tg, iter, ifs, 0⟩] scope gpos) X.env) :: starEach [] X.env := by rfl) :
    PE X (.Call (.Name "all" p) [.GeneratorExp elt [⟨tg, iter, ifs, 0⟩] scope gpos] [] pos) (tGx P cAll () wi g tt te (own.map (·.2))) := by
  constructor
  intro pins s σ H Q I hh
  refine wpAny_Call_Name_kw (ld_blt I hgl hm hba ?_)
  refine PyProof.Rows.callWith_builtin1 ?_ hst (by rfl)
  rw [hst]
  show wpAny _ _ (spliced ((false, eval (.GeneratorExp elt [⟨tg, iter, ifs, 0⟩] scope gpos) X.env) :: backTo pos (starEach [] X.env))) _ _ s
  refine Calls.spliced_cons (gx_make hr hcalm hN TB hcode ok hi hs hg ht he I hh fun ga s5 R => Calls.spliced_nil ?_)
  obtain ⟨Z, gi, n, c0, hgen, hgs, hl, hb, eP, eW, _, back, hO, _, seg⟩ := R
  rw [← eP, ← eW] at *
  refine call_function_tree F.kind_all F.plain_all F.entry_all (F.args_all1 _) ?_
  unfold Builtin.«all»
  refine wpAny_bind (m := oneArg "all" _) (wpAny_pure ?_)
  refine wpAny_bind (wpAny_pyIter_gen hgen ?_)
  refine wpAny_pure ⟨plainId_quiet F.plain_all_loop _, bool_drain (Z := Z) (g := gi) (Q := Q) (c := cAll) true false (fun y k f h => ?_) (fun f h => h) hr.hd hr.depth (fun b H' τ s' I' q => ?_) all_body n s5 hgen hl ⟨_, hgs, rfl, seg [ga] _ _ hO (fun b hb => .inl (List.mem_singleton.mp hb)) (fun b o e => e) rfl (allBare_setGen hb rfl) (fun b hb => ?_) True.intro⟩⟩
  · obtain ⟨b, rfl, h⟩ := h
    exact ⟨b, rfl, fun e => by rw [if_pos (show b = true from e)] at h; exact h, fun e => by rw [if_neg (by rw [e]; decide)] at h; exact h⟩
  · exact ⟨.bl b, H', back τ H' s' I', rfl, q⟩
  · rw [List.mem_singleton.mp hb]
    obtain ⟨o, nm, qn, ho, h1, h2, h3⟩ := hgen
    exact ⟨o, ho, fun v q => by rw [h2] at q; cases q⟩
end
end
/-! ### defs that hold generator expressions: their code objects and tables -/
structure FunC (K : PySem.W.Frag) (x qual : Str) (st : Stmt) (f : Addr) (fd : FuncData) (c : Addr) : Prop where
  ex : ∃ (oc : Value) (od : Option Addr) (kV doc pm : Value) (an : Option Addr) (ct : Value) (osl : Array (Option Value)),
    fd = PySem.W.fnOf x qual (defArgs st) (defBody st) (defScope st) .none kV doc pm an (.ref c) ct ∧ K.lookup f = some ⟨oc, od, .func fd, osl⟩ ∧ PySem.W.codeIn K (.ref c) qual = true
section
variable {P : Program} {w : World} {K : PySem.W.Frag} {mg : Str → Option Value} {base : Heap}
theorem FunC.ok {x qual : Str} {st : Stmt} {f c : Addr} {fd : FuncData} {N ps : List Str} {k : Nat} {sp : Sp} (F : FunC K x qual st f fd c) (S : FnScope N ps (defScope st)) (len : ∀ vs H Q E, sp vs H Q E → vs.length = ps.length)
    (hbody : ∀ (A : Around) (outer : List Env) (s : Shared) (H : Hp) (vs : List V) (Q : VK) (E : XK), Room k (A.deeper (envOfC qual (defScope st) s.heap.objs.size f (.ref c))) → sp vs H Q E →
      ∃ t, PSs (cxOf CX0 P w K mg base N qual (defScope st) f (.ref c) A outer s H E).nox (defBody st) t ∧ t { nx := fun _ H' => Q .non H', rt := Q } (start N vs) H) : FnOk P w K mg base CX0 (k + 1) f fd ps sp := by
  obtain ⟨oc, od, kV, doc, pm, an, ct, osl, rfl, lk, hcd⟩ := F.ex
  refine fn_of lk hcd S len fun A outer s H vs Q E hr hsp => ?_
  obtain ⟨t, h, q⟩ := hbody A outer s H vs Q E hr hsp
  exact ⟨t, h.nox, q⟩
theorem FunC.okX {x qual : Str} {st : Stmt} {f c : Addr} {fd : FuncData} {N ps : List Str} {k : Nat} {sp : Sp} (F : FunC K x qual st f fd c) (S : FnScope N ps (defScope st)) (len : ∀ vs H Q E, sp vs H Q E → vs.length = ps.length)
    (hbody : ∀ (A : Around) (outer : List Env) (s : Shared) (H : Hp) (vs : List V) (Q : VK) (E : XK), Room k (A.deeper (envOfC qual (defScope st) s.heap.objs.size f (.ref c))) → sp vs H Q E →
      ∃ t, PSs (cxOf (L2.CX P w) P w K mg base N qual (defScope st) f (.ref c) A outer s H E) (defBody st) t ∧ t { nx := fun _ H' => Q .non H', rt := Q } (start N vs) H) : FnOk P w K mg base (L2.CX P w) (k + 1) f fd ps sp := by
  obtain ⟨oc, od, kV, doc, pm, an, ct, osl, rfl, lk, hcd⟩ := F.ex
  exact fn_of lk hcd S len fun A outer s H vs Q E hr hsp => hbody A outer s H vs Q E hr hsp
end
/-- the head's word about a def's code object and its table -/
def TabRec (h : Heap) (mg : Str → Option Value) (nm : Str) : Prop := ∃ (a : Addr) (o : Obj) (fd : FuncData) (c P : Addr), mg nm = some (.ref a) ∧ h.get? a = some o ∧ o.data = .func fd ∧ fd.code = .ref c ∧ h.IsCode c P #[] ∧ h.TableAt c P #[]
theorem walk_tabs {l : PySem.W.OpenLaw} {n k : Nat} {q : Program} {loose : List Str} {XP : (Str → Option Value) → Heap → Prop} {YP : World → Heap → Prop} {d : DefRec} {K : Params → PySem.W.Frag} {CX : World → CXT} {x : Str} (nms : List Str)
    (hn : l.most = some n) (hn2 : n ≤ sizeLine) (hdf : d.params.defaults = []) (hr : Room k callerA) (hrec : (nms.all fun nm => (recsOf q).any fun e => e.name == nm) = true) (hY : ∀ (w : World) (h : Heap), YP w h → (K w.params).In h)
    (F : ∀ (w : World) (mg : Str → Option Value) (fa : Addr) (h : Heap), (K w.params).In h → h.Ns mainGlobals mg → mg d.name = some (.ref fa) → (∀ nm ∈ nms, TabRec h mg nm) → LamX.LawAtS l w (K w.params) (CX w) k n x mg fa h)
    (hCX : ∀ (w : World) (H : Hp) (s : Shared) (e : Value) (s' : Shared), CX w [] H s (fun _ _ _ => False) e s' → False) :
    PySem.W.WalkO q loose XP YP l.row.toRowW d [] (fun f vs => PySem.call f vs) := by
  refine Att.attach_callB hn hdf fun w s0 s1 mg mb fa o pm cd doc a vs ns G Y ho hd hcd hmg hobj hints hlen hbits hg => ?_
  have KX := hY w _ Y
  have tabs : ∀ nm ∈ nms, TabRec s1.heap mg nm := fun nm hm => by
    obtain ⟨dL, h1, h2⟩ := List.any_eq_true.mp (List.all_eq_true.mp hrec nm hm)
    obtain ⟨a', o', fd', c', P', k1, k2, k3, k4, k5, k6⟩ := G.T.tab dL h1
    rw [beq_iff_eq.mp h2] at k1
    exact ⟨a', o', fd', c', P', k1, k2, k3, k4, k5, k6⟩
  obtain ⟨fd, cs, sp, hT, nT, C, hb, hsp, hF⟩ := F w mg fa _ KX G.T.g hmg tabs
  exact LamX.law_callTs KX G.T.g G.T.b G.T.builtins G.T.nolimit hg hT nT C G.T.bmain hobj hints (Nat.le_trans hlen hn2) hr hF hb (fun H hH hS => hsp H a ns hlen hbits hH hS) fun H e s' => hCX w H s1 e s'
/-- the table of the def at f, as the written part names it -/
theorem tab_of {K : PySem.W.Frag} {h : Heap} {mg : Str → Option Value} {nm : Str} {f c P : Addr} {fd : FuncData} {oc : Value} {od : Option Addr} {osl : Array (Option Value)} {ec : Value} {dc : Option Addr} {vc : Array Value} {sl : Array (Option Value)} (X : K.In h) (R : TabRec h mg nm)
    (g : mg nm = some (.ref f)) (lf : K.lookup f = some ⟨oc, od, .func fd, osl⟩) (hc : fd.code = .ref c) (lc : K.lookup c = some ⟨ec, dc, .fields vc, sl⟩) (h11 : vc[11]? = some (.ref P)) :
    h.get? P = some { cls := .none, data := .fields #[] } ∧ PySem.W.CodeHd h c P := by
  obtain ⟨a, o, fd', c', P', k1, k2, k3, k4, k5, k6⟩ := R
  rw [g] at k1
  cases k1
  rw [X _ _ lf] at k2
  cases k2
  cases k3
  rw [hc] at k4
  cases k4
  have hd := PySem.W.CodeHd.of k5 k6
  obtain ⟨⟨o2, v2, e1, _, e3, e4⟩, hP⟩ := k6
  rw [X _ _ lc] at e1
  cases e1
  cases e3
  rw [h11] at e4
  cases e4
  exact ⟨hP, hd⟩
/-- tables of code objects: those of generator expressions; those of lambdas, with the lambda's name -/
structure TL where
  g : List Addr
  l : List (Addr × Str) := []
/-- the tables stand -/
def Tb (Ps : TL) (H : Hp) : Prop := (∀ P ∈ Ps.g, GxR.TabG H P) ∧ ∀ p ∈ Ps.l, p.1 ∉ Ps.g ∧ LamX.TabS H p.1 p.2
/-- no lambda's table stands at a, no code object of one -/
def NoLam (Ps : TL) (H : Hp) (a : Addr) : Prop := ∀ p ∈ Ps.l, a ≠ p.1 ∧ ∀ q, H a ≠ some (LamX.CodeO a q)
theorem Tb.same {Ps : TL} {H H' : Hp} (t : Tb Ps H) (e : Same H H') : Tb Ps H' := ⟨fun P hP => by
  obtain ⟨ps, h1, h2⟩ := t.1 P hP
  exact ⟨ps, e _ _ h1, h2⟩, fun p hp => ⟨(t.2 p hp).1, (t.2 p hp).2.ext fun b o h => e b o h⟩⟩
theorem Tb.chg {Ps : TL} {L : List Addr} {H H' : Hp} (t : Tb Ps H) (e : Chg L H H') (n : ∀ P ∈ Ps.g, P ∉ L) (no : ∀ a ∈ L, NoLam Ps H a) : Tb Ps H' := ⟨fun P hP => by
  obtain ⟨ps, h1, h2⟩ := t.1 P hP
  exact ⟨ps, e _ _ (n P hP) h1, h2⟩, fun p hp => by
  obtain ⟨n1, ps, h1, h2, h3⟩ := t.2 p hp
  refine ⟨n1, ps, e _ _ (fun z => (no _ z p hp).1 rfl) h1, h2, fun pos cv hc => ?_⟩
  obtain ⟨c, e1, e2⟩ := h3 pos cv hc
  exact ⟨c, e1, e _ _ (fun z => (no _ z p hp).2 _ e2) e2⟩⟩
theorem Tb.out {Ps : TL} {H : Hp} {a : Addr} {o : HO} (t : Tb Ps H) (h : H a = some o) (n : ∀ ps, o ≠ .tbl ps) : a ∉ Ps.g := fun hm => by
  obtain ⟨ps, h1, _⟩ := t.1 a hm
  rw [h] at h1
  exact n ps (Option.some.inj h1)
theorem Tb.new {Ps : TL} {H : Hp} {a : Addr} (t : Tb Ps H) (h : H a = none) : a ∉ Ps.g := fun hm => by
  obtain ⟨ps, h1, _⟩ := t.1 a hm
  rw [h] at h1
  cases h1
theorem Tb.nolam {Ps : TL} {H : Hp} {a : Addr} {o : HO} (t : Tb Ps H) (h : H a = some o) (n : ∀ ps, o ≠ .tbl ps) (m : ∀ q, o ≠ LamX.CodeO a q) : NoLam Ps H a := fun p hp => by
  refine ⟨fun z => ?_, fun q z => ?_⟩
  · obtain ⟨_, ps, h1, _⟩ := t.2 p hp
    rw [← z, h] at h1
    exact n ps (Option.some.inj h1)
  · rw [h] at z
    exact m q (Option.some.inj z)
theorem Tb.lamTabbed {Ps : TL} {H H' : Hp} {P : Addr} (t : Tb Ps H) (hP : P ∈ Ps.g) (e : ∀ b, b ≠ P → H' b = H b) : ∀ p ∈ Ps.l, p.1 ∉ Ps.g ∧ LamX.TabS H' p.1 p.2 := fun p hp => by
  obtain ⟨n, ps, h1, h2, h3⟩ := t.2 p hp
  refine ⟨n, ps, by rw [e _ fun z => n (by rw [z]; exact hP)]; exact h1, h2, fun pos cv hc => ?_⟩
  obtain ⟨c, e1, e2⟩ := h3 pos cv hc
  refine ⟨c, e1, ?_⟩
  rw [e _ fun z => ?_]
  · exact e2
  · obtain ⟨qs, h4, _⟩ := t.1 P hP
    rw [z, h4] at e2
    exact LamX.codeO_ne qs (Option.some.inj e2).symm
theorem Tb.tabbed {Ps : TL} {H H' : Hp} {P : Addr} (t : Tb Ps H) (hP : P ∈ Ps.g) (e : GxR.Tabbed P H H') : Tb Ps H' ∧ Chg Ps.g H H' := by
  refine ⟨⟨fun Q hQ => ?_, t.lamTabbed hP e.2⟩, fun b o n h => ?_⟩
  · by_cases z : Q = P
    · rw [z]
      exact e.1
    · obtain ⟨ps, h1, h2⟩ := t.1 Q hQ
      exact ⟨ps, by rw [e.2 Q z]; exact h1, h2⟩
  · have z : b ≠ P := fun z => n (by rw [z]; exact hP)
    rw [e.2 b z]
    exact h
/-! ### all but what stands at L is kept; tables of code objects may grow -/
def Kp (L : List Addr) (H H' : Hp) : Prop := ∀ b o, b ∉ L → H b = some o → H' b = some o ∨ ∃ ps qs, o = .tbl ps ∧ H' b = some (.tbl qs)
theorem Kp.refl (L : List Addr) (H : Hp) : Kp L H H := fun _ _ _ h => .inl h
theorem Kp.trans {L : List Addr} {H H1 H2 : Hp} (a : Kp L H H1) (b : Kp L H1 H2) : Kp L H H2 := fun c o n h => by
  rcases a c o n h with z | ⟨ps, qs, rfl, z⟩
  · exact b c o n z
  · rcases b c _ n z with y | ⟨ps', qs', _, y⟩
    · exact .inr ⟨ps, qs, rfl, y⟩
    · exact .inr ⟨ps, qs', rfl, y⟩
theorem Kp.chg {L : List Addr} {H H' : Hp} (c : Chg L H H') : Kp L H H' := fun b o n h => .inl (c b o n h)
theorem Kp.of {L : List Addr} {H H' : Hp} (c : Same H H') : Kp L H H' := fun b o _ h => .inl (c b o h)
theorem Kp.mono {L L' : List Addr} {H H' : Hp} (a : Kp L H H') (h : ∀ x ∈ L, x ∈ L') : Kp L' H H' := fun c o n e => a c o (fun q => n (h c q)) e
theorem Kp.nil {L : List Addr} {H H' : Hp} (a : Kp [] H H') : Kp L H H' := a.mono fun _ h => nomatch h
theorem Kp.lst {L : List Addr} {H H' : Hp} (a : Kp L H H') {l : Addr} {us : List V} (n : l ∉ L) (h : H l = some (.lst us)) : H' l = some (.lst us) := by
  rcases a l _ n h with z | ⟨ps, qs, z, _⟩
  · exact z
  · cases z
theorem Kp.tup {L : List Addr} {H H' : Hp} (a : Kp L H H') {l : Addr} {us : List V} (n : l ∉ L) (h : H l = some (.tup us)) : H' l = some (.tup us) := by
  rcases a l _ n h with z | ⟨ps, qs, z, _⟩
  · exact z
  · cases z
theorem Kp.free {L : List Addr} {H H' : Hp} (a : Kp L H H') {l : Addr} (hl : l ∉ L) (h : H' l = none) : H l = none := by
  cases q : H l with
  | none => rfl
  | some o =>
    rcases a l o hl q with z | ⟨ps, qs, _, z⟩
    · rw [z] at h
      cases h
    · rw [z] at h
      cases h
theorem Kp.seq {K : PySem.W.Frag} {L : List Addr} {H H' : Hp} {a : Addr} {xs : List V} (e : Kp L H H') (n : a ∉ L) (h : SqL K H a xs) : SqL K H' a xs := by
  rcases h with (h | ⟨o, h⟩) | h
  · exact .inl (.inl (e.lst n h))
  · rcases e a _ n h with z | ⟨ps, qs, z, _⟩
    · exact .inl (.inr ⟨o, z⟩)
    · cases z
  · exact .inr h
theorem Kp.spn {L : List Addr} {H H' : Hp} (e : Kp L H H') (l : Lsts L H) {v : V} {s : Span} (h : Spn H v s) : Spn H' v s := by
  obtain ⟨t, rfl, ht⟩ := h
  exact ⟨t, rfl, e.tup (fun q => l t q _ ht) ht⟩
theorem Kp.sps {L : List Addr} {H H' : Hp} (e : Kp L H H') (l : Lsts L H) : ∀ {vs : List V} {ss : List Span}, Sps H vs ss → Sps H' vs ss
  | _, _, .nil => .nil
  | _, _, .cons h t => .cons (e.spn l h) (Kp.sps e l t)
theorem lsts0 (H : Hp) : Lsts [] H := fun _ h => nomatch h
theorem Kp.pu {L : List Addr} {H H' : Hp} {p : Addr} {n : Nat} (e : Kp L H H') (hp : p ∉ L) (h : Pu H p n) : Pu H' p n := by
  obtain ⟨a, b, c, h1, h2⟩ := h
  exact ⟨a, b, c, e.lst hp h1, h2⟩
theorem Kp.upd {L : List Addr} {H : Hp} {p : Addr} {o : HO} (h : p ∈ L) : Kp L H (upd H p o) := .chg (Chg.upd h)
theorem Kp.new {L : List Addr} {H H' : Hp} {p : Addr} {o : HO} (e : Kp L H H') (n : H' p = none) : Kp L H (L2.upd H' p o) := e.trans (.of (same_upd n))
/-- a new object changed: nothing of what stood before is -/
theorem Kp.own {L : List Addr} {H H' : Hp} {p : Addr} {o : HO} (e : Kp L H H') (n : H p = none) : Kp L H (L2.upd H' p o) := fun b x nb h => by
  have hne : b ≠ p := ne_of_none h n
  rw [upd_ne hne]
  exact e b x nb h
theorem Tb.kp {Ps : TL} {P : Addr} {H H' : Hp} (t : Tb Ps H) (mP : P ∈ Ps.g) (h : GxR.Tabbed P H H') : Tb Ps H' ∧ Kp [] H H' := by
  refine ⟨(t.tabbed mP h).1, fun b o _ e => ?_⟩
  by_cases q : b = P
  · obtain ⟨ps, h1, _⟩ := t.1 P mP
    obtain ⟨qs, h3, _⟩ := h.1
    rw [q] at e ⊢
    rw [h1] at e
    cases e
    exact .inr ⟨ps, qs, rfl, h3⟩
  · exact .inl (by rw [h.2 b q]; exact e)
/-- neither a table nor a code object of a lambda -/
def OffT (Ps : TL) (H : Hp) (p : Addr) : Prop := p ∉ Ps.g ∧ NoLam Ps H p
theorem Tb.own {Ps : TL} {H H' : Hp} {p : Addr} {o : HO} (t : Tb Ps H') (n : H p = none) (t0 : Tb Ps H) (no : NoLam Ps H' p) : Tb Ps (upd H' p o) := ⟨fun P hP => by
  obtain ⟨ps, h1, h2⟩ := t.1 P hP
  obtain ⟨qs, h3, _⟩ := t0.1 P hP
  exact ⟨ps, by rw [upd_ne (ne_of_none h3 n)]; exact h1, h2⟩, fun q hq => by
  obtain ⟨n1, ps, h1, h2, h3⟩ := t.2 q hq
  refine ⟨n1, ps, by rw [upd_ne (no q hq).1.symm]; exact h1, h2, fun pos cv hc => ?_⟩
  obtain ⟨c, e1, e2⟩ := h3 pos cv hc
  exact ⟨c, e1, by rw [upd_ne (fun z => (no q hq).2 _ (by rw [← z]; exact e2))]; exact e2⟩⟩
theorem Tb.at1 {Ps : TL} {H : Hp} {p : Addr} {o : HO} (t : Tb Ps H) (hp : OffT Ps H p) : Tb Ps (upd H p o) := ⟨fun P hP => by
  obtain ⟨ps, h1, h2⟩ := t.1 P hP
  exact ⟨ps, by rw [upd_ne (fun z => hp.1 (by rw [← z]; exact hP))]; exact h1, h2⟩, fun q hq => by
  obtain ⟨n1, ps, h1, h2, h3⟩ := t.2 q hq
  refine ⟨n1, ps, by rw [upd_ne (hp.2 q hq).1.symm]; exact h1, h2, fun pos cv hc => ?_⟩
  obtain ⟨c, e1, e2⟩ := h3 pos cv hc
  exact ⟨c, e1, by rw [upd_ne (fun z => (hp.2 q hq).2 _ (by rw [← z]; exact e2))]; exact e2⟩⟩
/-! walks of generator expressions over a list, a range -/
/-! ### rows: tuples of whole numbers, lists of them -/
def rwD (r : List Int) : PyData := .tuple (r.map PyData.int)
def Rw (H : Hp) (v : V) (r : List Int) : Prop := ∃ t, v = .ref t ∧ H t = some (.tup (r.map V.int))
inductive Rws (H : Hp) : List V → List (List Int) → Prop where
  | nil : Rws H [] []
  | cons {v : V} {s : List Int} {vs : List V} {ss : List (List Int)} : Rw H v s → Rws H vs ss → Rws H (v :: vs) (s :: ss)
theorem Kp.rw {L : List Addr} {H H' : Hp} (e : Kp L H H') (l : Lsts L H) {v : V} {s : List Int} (h : Rw H v s) : Rw H' v s := by
  obtain ⟨t, rfl, ht⟩ := h
  exact ⟨t, rfl, e.tup (fun q => l t q _ ht) ht⟩
theorem Kp.rws {L : List Addr} {H H' : Hp} (e : Kp L H H') (l : Lsts L H) : ∀ {vs : List V} {ss : List (List Int)}, Rws H vs ss → Rws H' vs ss
  | _, _, .nil => .nil
  | _, _, .cons h t => .cons (e.rw l h) (Kp.rws e l t)
theorem Rws.same {H H' : Hp} {vs : List V} {ss : List (List Int)} (h : Rws H vs ss) (e : Same H H') : Rws H' vs ss := (Kp.of (L := []) e).rws (lsts0 H) h
theorem Rws.len {H : Hp} : ∀ {vs : List V} {ss : List (List Int)}, Rws H vs ss → vs.length = ss.length
  | _, _, .nil => rfl
  | _, _, .cons _ t => congrArg (· + 1) t.len
theorem Rws.app {H : Hp} : ∀ {vs ws : List V} {ss ts : List (List Int)}, Rws H vs ss → Rws H ws ts → Rws H (vs ++ ws) (ss ++ ts)
  | _, _, _, _, .nil, h => h
  | _, _, _, _, .cons a t, h => .cons a (Rws.app t h)
theorem Rws.one {H : Hp} {v : V} {s : List Int} (h : Rw H v s) : Rws H [v] [s] := .cons h .nil
theorem Rws.get {H : Hp} : ∀ {vs : List V} {ss : List (List Int)} {i : Nat} {v : V}, Rws H vs ss → vs[i]? = some v → ∃ s, ss[i]? = some s ∧ Rw H v s
  | _, _, _, _, .nil, e => by simp at e
  | _, _, 0, v, .cons (s := s) h t, e => ⟨s, rfl, by
      have q := Option.some.inj (show some _ = some v from e)
      rw [← q]
      exact h⟩
  | _, _, i + 1, v, .cons h t, e => Rws.get (i := i) t e
theorem Rw.dp {K : PySem.W.Frag} {H : Hp} {v : V} {s : List Int} (h : Rw H v s) : Dp K H v (rwD s) := by
  obtain ⟨t, rfl, ht⟩ := h
  exact .tup (SqT.of ht) (dpAll_ints s)
theorem Rws.dpAll {K : PySem.W.Frag} {H : Hp} : ∀ {vs : List V} {ss : List (List Int)}, Rws H vs ss → DpAll K H vs (ss.map rwD)
  | _, _, .nil => .nil
  | _, _, .cons h t => .cons h.dp t.dpAll
theorem Rws.dp {K : PySem.W.Frag} {H : Hp} {a : Addr} {vs : List V} {ss : List (List Int)} (h : Rws H vs ss) (q : SqL K H a vs) : Dp K H (.ref a) (.list (ss.map rwD)) := .lst q h.dpAll
/-! ### lists of spans as they stand -/
def Lq (H : Hp) (l : Addr) (ss : List Span) : Prop := ∃ us, H l = some (.lst us) ∧ Sps H us ss
theorem Kp.lq {L : List Addr} {H H' : Hp} (e : Kp L H H') {l : Addr} (n : l ∉ L) (hL : Lsts L H) {ss : List Span} (h : Lq H l ss) : Lq H' l ss := by
  obtain ⟨us, h1, h2⟩ := h
  exact ⟨us, e.lst n h1, e.sps hL h2⟩
theorem Lq.same {H H' : Hp} {l : Addr} {ss : List Span} (h : Lq H l ss) (e : Same H H') : Lq H' l ss := (Kp.of (L := []) e).lq List.not_mem_nil (lsts0 H) h
theorem Lq.dp {K : PySem.W.Frag} {H : Hp} {l : Addr} {ss : List Span} (h : Lq H l ss) : Dp K H (.ref l) (.list (ss.map spD)) := by
  obtain ⟨us, h1, h2⟩ := h
  exact h2.dp (SqL.of h1)
theorem Sps.rev {H : Hp} {vs : List V} {ts : List Span} (h : Sps H vs ts) : Sps H vs.reverse ts.reverse := by
  induction h with
  | nil => exact .nil
  | cons a b ih =>
    rw [List.reverse_cons, List.reverse_cons]
    exact ih.app (.one a)
/-! ### set(xs), xs a list of whole numbers, to be sorted -/
section
variable {P : Program} {w : World} {A : Around} {E : Value → Shared → Prop} {s : Shared}
abbrev set0 (w : World) : Obj := { cls := .type "set", dict := none, data := .set #[] 0 (.fresh 0 0 (!w.params.followText "set-order")) }
set_option maxHeartbeats 8000000 in
theorem call_set_lstI {l : Addr} {items : Array Value} (ns : List Int) {Q : Value → Shared → Prop} (hh : A.handled = none) (hl : s.heap.IsList l items) (hit : IntsAre items.toList ns) (hb : ns.length + 1 < scanBound)
    (h : ∀ (h' : Heap) (tk c : Nat), SetR w h' s.heap.objs.size (fun j => decide (j ∈ ns)) c → c ≤ ns.length → (∀ b o, s.heap.get? b = some o → h'.get? b = some o) → Q (.ref s.heap.objs.size) { s with heap := h', toks := tk }) :
    wpAny (model P w) A (call (.type "set") [.ref l]) Q E s := by
  have hisz : items.size = ns.length := by
    have q := IntsAre.length hit
    rw [Array.length_toList] at q
    exact q
  obtain ⟨c0, tl, hmro⟩ := F.called_set.mro
  have hmade := F.called_set.made
  have hsub := F.called_set.sub
  refine wpAny_call (codeAny_of_tree ?_)
  show wpAny _ _ (callAny (.type "set") _) _ _ _
  refine wpAny_pure ⟨Code.quiet_builtin _ (by decide +kernel), codeAny_builtin F.entry_type_call ?_⟩
  rw [Around.under_plain (weight_type_call_type "set" [.ref l] []) rfl]
  have t1 := F.called_set.notType
  have t2 := F.called_set.canCreate
  have t3 := F.typeCall_set_1 (.ref l)
  repeat (any_goals (first | assumption | wp_step))
  refine codeAny_mono (L2.code_set_led1 (.ref l) (E := E) (Q₁ := fun obj u => obj = .ref s.heap.objs.size ∧ u = { s with heap := s.heap.push (set0 w) }) ⟨rfl, rfl⟩) fun r u hr => ?_
  cases r with
  | error e => exact hr
  | ok fl =>
    cases fl with
    | ret obj =>
      obtain ⟨rfl, rfl⟩ := hr
      have gS : (s.heap.push (set0 w)).get? s.heap.objs.size = some (set0 w) := Heap.get?_push_size _ rfl
      have gT : Shared.TypeIs { s with heap := s.heap.push (set0 w) } (.ref s.heap.objs.size) "set" := ⟨_, gS, rfl⟩
      have i1 := F.called_set.init.lookup
      have i2 := F.called_set.init.bind (.ref s.heap.objs.size)
      repeat (any_goals (first | assumption | wp_step))
      refine codeAny_mono (codeAny_call_builtin (R := wants (fun r u2 => r = .none ∧ ∃ h' tk c, u2 = { s with heap := h', toks := tk } ∧ SetR w h' s.heap.objs.size (fun j => decide (j ∈ ns)) c ∧ c ≤ ns.length ∧ (∀ b o, s.heap.get? b = some o → h'.get? b = some o)) E) F.called_set.init.plain F.entry_set_init (check_set_init_1 gT ?_)) fun r2 u2 hr2 => ?_
      · obtain ⟨ol, hol, hcl, nl, hdl⟩ := hl
        obtain ⟨ocls, odict, odata, oslots⟩ := ol
        simp only at hcl hdl
        subst hcl
        subst hdl
        have gol : (s.heap.push (set0 w)).get? l = some { cls := .type "list", dict := odict, data := .seq items nl, slots := oslots } := Heap.get?_push_of_some _ hol
        have k1 := F.sub_list_set
        have k2 := F.sub_list_frozenset
        have k3 : (Value.type "list" == Value.type "dict") = false := by decide
        have isl : (s.heap.push (set0 w)).IsList l items := ⟨_, gol, rfl, nl, rfl⟩
        unfold Builtin.«set.__init__» noKeywords Builtin.Frozenset.updateFrom
        generalize hPI : pyIter = PI
        wp_walk
        subst hPI
        refine wpAny_pyIter_list isl ?_
        refine wpAny_bind (wpAny_runValue ?_)
        have ll : l < s.heap.objs.size := Heap.lt_size hol
        have hh3 : A.in1.in1.in1.handled = none := by simp [hh]
        have neI : l ≠ (s.heap.push (set0 w)).objs.size := by
          rw [Heap.size_push]
          exact Nat.ne_of_lt (Nat.lt_succ_of_lt ll)
        have outS : s.heap.objs.size ∉ [(s.heap.push (set0 w)).objs.size, l] := by
          rw [Heap.size_push]
          simp only [List.mem_cons, List.not_mem_nil, or_false, not_or]
          exact ⟨Nat.ne_of_lt (Nat.lt_succ_self _), Nat.ne_of_gt ll⟩
        have val : ∀ (i : Nat) (v : Value), items[i]? = some v → ∃ k t, ns[i]? = some k ∧ v = .int k t := fun i v hv => by
          have hv2 : items.toList[i]? = some v := by rw [Array.getElem?_toList]; exact hv
          obtain ⟨t, e⟩ := IntsAre.int_at hit i v hv2
          have hi : i < ns.length := by
            have := (List.getElem?_eq_some_iff.mp hv2).1
            rw [Array.length_toList] at this
            omega
          refine ⟨ns[i], t, List.getElem?_eq_getElem hi, ?_⟩
          rw [e, List.getD_eq_getElem?_getD, List.getElem?_eq_getElem hi]
          rfl
        refine L2.set_update_ints ((Walks.list hh3 _ l neI items).toS) s.heap.objs.size outS ns hisz hb val _ 0 _ rfl (Nat.zero_le _) ?_ ⟨0, Nat.le_refl _, L2.setR_new_at (by rw [Heap.get?_push_of_some _ gS])⟩ fun s' c mv hc R => ?_
        · exact ⟨⟨_, Heap.get?_push_size _ rfl, rfl, rfl⟩, isl.push _⟩
        · obtain ⟨h', g2, d2, tk2, os2⟩ := s'
          obtain rfl : g2 = s.gens := mv.gens
          obtain rfl : d2 = s.drawn := mv.drawn
          obtain rfl : os2 = s.os := mv.os
          refine wpAny_pure ?_
          show wpAny _ _ (ret Value.none) _ _ _
          rw [hisz] at hc
          refine wpAny_pure ⟨rfl, h', tk2, c, rfl, R, hc, fun b o e => ?_⟩
          have l0 : b < s.heap.objs.size := Heap.lt_size e
          refine mv.heap b o (fun z => ?_) (Heap.get?_push_of_some _ (Heap.get?_push_of_some _ e))
          rw [Heap.size_push] at z
          simp only [List.mem_cons, List.not_mem_nil, or_false] at z
          rcases z with z | z
          · exact Nat.ne_of_lt l0 z
          · exact Nat.ne_of_lt (Nat.lt_succ_of_lt l0) z
      · cases r2 with
        | error e => exact hr2
        | ok fl2 =>
          cases fl2 with
          | ret r =>
            obtain ⟨rfl, h', tk, c, rfl, R, hc, k⟩ := hr2
            have fin := h h' tk c R hc k
            repeat (any_goals (first | assumption | wp_step))
          | _ => exact hr2.elim
    | _ => exact hr.elim
end
section
variable {X : Cx}
def rSetOf (K : PySem.W.Frag) (w : World) : List V → Hp → VK → Prop := fun vs H Q => ∃ (a : Addr) (ns : List Int), vs = [.ref a] ∧ SqL K H a (ns.map V.int) ∧ ns.length ≤ 1000 ∧ ∀ (p : Addr) (ds : List Int), H p = none → ds.Nodup → (∀ k, k ∈ ds ↔ k ∈ ns) → Q (.ref p) (upd H p (SetO w p (fun j => decide (j ∈ ns)) ds.length))
theorem call_set_of (hc : X.calm = true) : CallR X (.type "set") (rSetOf X.K X.w) := by
  intro pins s σ H vs us Q I r hh
  obtain ⟨a, ns, rfl, hq, hl, q⟩ := hh
  obtain ⟨its, rv, pl, hz⟩ := I.list hq
  rw [Vals.ref1 r]
  refine call_set_lstI ns (I.ok.hd hc) pl.isList (by simpa using rv.ints) (by unfold scanBound; omega) fun h' tk c R hc' k => ?_
  have hn : H s.heap.objs.size = none := I.hok.fresh (Nat.le_refl _)
  obtain ⟨o, es, ep, t, k1, k2, k3, k4, k5, k6, k7, k8, k9, k10, k11⟩ := id R
  have ln : (es.toList.map keyOf).length = c := by
    rw [List.length_map, Array.length_toList]
    exact k9
  have fin := q s.heap.objs.size (es.toList.map keyOf) hn k5 fun k => by
    rw [← k6, decide_eq_true_eq]
  rw [ln] at fin
  exact ⟨.ref s.heap.objs.size, _, I.laid k (Nat.le_refl _) (setO_new R), rfl, fin⟩
end
theorem nodup_len : ∀ {l m : List Int}, l.Nodup → (∀ x ∈ l, x ∈ m) → l.length ≤ m.length
  | [], _, _, _ => Nat.zero_le _
  | a :: l, m, h, sub => by
    have ha := sub a List.mem_cons_self
    have h1 := List.nodup_cons.mp h
    have ih := nodup_len (l := l) (m := m.erase a) h1.2 fun x hx => by
      have ne : x ≠ a := fun z => h1.1 (by rw [← z]; exact hx)
      exact (List.mem_erase_of_ne ne).mpr (sub x (List.mem_cons_of_mem _ hx))
    rw [List.length_erase_of_mem ha] at ih
    have hp := List.length_pos_of_mem ha
    show l.length + 1 ≤ m.length
    omega
/-! ### sorted of triples of whole numbers; how many in a set -/
namespace Tri
open SrtO
def IsTrip (h : Heap) (v : Value) (x y z : Int) : Prop := ∃ (a : Addr) (o : Obj) (t u r : Tok) (n : Nat), v = .ref a ∧ h.get? a = some o ∧ o.cls = .type "tuple" ∧ o.data = .seq #[.int x t, .int y u, .int z r] n
theorem IsTrip.keeps {h h' : Heap} {v : Value} {x y z : Int} (p : IsTrip h v x y z) (k : ∀ b o, h.get? b = some o → o.cls = .type "tuple" → h'.get? b = some o) : IsTrip h' v x y z := by
  obtain ⟨a, o, t, u, r, n, e, ho, hc, hd⟩ := p
  exact ⟨a, o, t, u, r, n, e, k a o ho hc, hc, hd⟩
abbrev I3 := Int × Int × Int
section
variable {prog : Program} {w : World} {A : Around} {E : Value → Shared → Prop} {s : Shared}
end
end Tri
/-! how many in a set of whole numbers -/
/-! walks of generator expressions over two lists side by side -/
/-! ### sorted of pairs of a pair and a whole number -/
namespace Nst
open SrtO Tri
def IsNest (h : Heap) (v : Value) (x y z : Int) : Prop := ∃ (a : Addr) (o : Obj) (b : Addr) (t u r : Tok) (n : Nat), v = .ref a ∧ h.get? a = some o ∧ o.cls = .type "tuple" ∧ o.data = .seq #[.ref b, .int z r] n ∧ h.IsTuple b #[.int x t, .int y u]
theorem IsNest.keeps {h h' : Heap} {v : Value} {x y z : Int} (p : IsNest h v x y z) (k : ∀ b o, h.get? b = some o → o.cls = .type "tuple" → h'.get? b = some o) : IsNest h' v x y z := by
  obtain ⟨a, o, b, t, u, r, n, e, ho, hc, hd, ob, hb, cb, m, db⟩ := p
  exact ⟨a, o, b, t, u, r, n, e, k a o ho hc, hc, hd, ob, k b ob hb cb, cb, m, db⟩
section
variable {A : Around} {s : Shared} {b b' : Addr} {x y x' y' : Int} {t u t' u' : Tok}
end
section
variable {prog : Program} {w : World} {A : Around} {E : Value → Shared → Prop} {s : Shared}
end
theorem vals2 {x y : V} {us : List Value} (h : Vals [x, y] us) : ∃ u v, us = [u, v] ∧ RelV x u ∧ RelV y v := by
  cases h with
  | cons a h => cases h with
    | cons b h =>
      cases h
      exact ⟨_, _, rfl, a, b⟩
end Nst
/-! ### exceptions as values -/
/-- what stands at a is an exception of the class cls -/
def ExP (cls : Value) (a : Addr) : HO := .ext fun h => ∃ (ob : Obj) (fv : Array Value), h.get? a = some ob ∧ Zc cls none ob ∧ ob.data = .fields fv
def IsEx (H : Hp) (cls : Value) (a : Addr) : Prop := ∃ φ : Heap → Prop, H a = some (.ext φ) ∧ ∀ h, φ h → ∃ (ob : Obj) (fv : Array Value), h.get? a = some ob ∧ Zc cls none ob ∧ ob.data = .fields fv
theorem isEx_P {H : Hp} {cls : Value} {a : Addr} (e : H a = some (ExP cls a)) : IsEx H cls a := ⟨_, e, fun _ q => q⟩
theorem IsEx.same {H H' : Hp} {cls : Value} {a : Addr} (x : IsEx H cls a) (e : Same H H') : IsEx H' cls a := by
  obtain ⟨φ, h1, h2⟩ := x
  exact ⟨φ, e _ _ h1, h2⟩
/-! ### values without addresses; what a value of the heap stands for, with the addresses of its lists and dicts -/
mutual
inductive Val where
  | non | bl (b : Bool) | int (i : Int) | str (x : Str) | ty (n : String) | opq (a : Addr) | exc (C : Value)
  | tup (xs : List Val) | lst (xs : List Val) | frz (xs : List Val) | dic (kvs : List (Key × Val))
  | fdc (kvs : List (Key × Val)) | gho (S : Addr → Option Cell)
/-- what stands at an address of the store: its parts have no lists and dicts but frozen ones, and addresses of the store -/
inductive Cell where
  | ins (C : Addr) (fs : List (Str × Val)) | lst (xs : List Val) | dic (kvs : List (Key × Val))
end
/-- a list that is read and never written -/
def Frzn (K : PySem.W.Frag) (H : Hp) (l : Addr) (vs : List V) : Prop := (∃ o, H l = some (.frz o (.lst vs))) ∨
  ∃ (o : Obj) (its : Array Value) (n : Nat), K.lookup l = some o ∧ o.cls = .type "list" ∧ o.dict = none ∧ o.data = .seq its n ∧ its.size ≤ sizeLine ∧ Vals vs its.toList
theorem Frzn.seq {K : PySem.W.Frag} {H : Hp} {l : Addr} {vs : List V} (h : Frzn K H l vs) : SqL K H l vs := by
  rcases h with ⟨o, h⟩ | h
  · exact .inl (.inr ⟨o, h⟩)
  · exact .inr h
theorem frzn_of {K : PySem.W.Frag} {H : Hp} {l : Addr} {vs : List V} (h : SqL K H l vs) : H l = some (.lst vs) ∨ Frzn K H l vs := by
  rcases h with (h | ⟨o, h⟩) | h
  · exact .inl h
  · exact .inr (.inl ⟨o, h⟩)
  · exact .inr (.inr h)
mutual
inductive Rp (K : PySem.W.Frag) (H : Hp) : List Addr → V → Val → Prop where
  | non : Rp K H [] .non .non
  | bl (b : Bool) : Rp K H [] (.bl b) (.bl b)
  | int (i : Int) : Rp K H [] (.int i) (.int i)
  | str (x : Str) : Rp K H [] (.str x) (.str x)
  | ty (n : String) : Rp K H [] (.ty n) (.ty n)
  | opq (a : Addr) : Rp K H [] (.ref a) (.opq a)
  | exc {a : Addr} {C : Value} : IsEx H C a → Rp K H [] (.ref a) (.exc C)
  | tup {F : List Addr} {t : Addr} {vs : List V} {ds : List Val} : H t = some (.tup vs) → RpA K H F vs ds → Rp K H F (.ref t) (.tup ds)
  | lst {F : List Addr} {l : Addr} {vs : List V} {ds : List Val} : H l = some (.lst vs) → RpA K H F vs ds → Rp K H (l :: F) (.ref l) (.lst ds)
  | frz {F : List Addr} {l : Addr} {vs : List V} {ds : List Val} : Frzn K H l vs → RpA K H F vs ds → Rp K H F (.ref l) (.frz ds)
  | dic {F : List Addr} {a : Addr} {kvs : List (Key × V)} {es : List (Key × Val)} : H a = some (.dK kvs) → RpD K H F kvs es → Rp K H (a :: F) (.ref a) (.dic es)
  | fdc {F : List Addr} {a : Addr} {o : Obj} {kvs : List (Key × V)} {es : List (Key × Val)} : H a = some (.frz o (.dK kvs)) → RpD K H F kvs es → Rp K H F (.ref a) (.fdc es)
  | gho {F : List Addr} {S : Addr → Option Cell} : F.Nodup → (∀ a, a ∈ F ↔ ∃ c, S a = some c) → (∀ a c, S a = some c → RpC K H a c) → Rp K H F .non (.gho S)
inductive RpA (K : PySem.W.Frag) (H : Hp) : List Addr → List V → List Val → Prop where
  | nil : RpA K H [] [] []
  | cons {F G : List Addr} {v : V} {d : Val} {vs : List V} {ds : List Val} : Rp K H F v d → RpA K H G vs ds → RpA K H (F ++ G) (v :: vs) (d :: ds)
inductive RpD (K : PySem.W.Frag) (H : Hp) : List Addr → List (Key × V) → List (Key × Val) → Prop where
  | nil : RpD K H [] [] []
  | cons {F G : List Addr} {k : Key} {v : V} {d : Val} {kvs : List (Key × V)} {es : List (Key × Val)} : Rp K H F v d → RpD K H G kvs es → RpD K H (F ++ G) ((k, v) :: kvs) ((k, d) :: es)
inductive RpN (K : PySem.W.Frag) (H : Hp) : List (Str × V) → List (Str × Val) → Prop where
  | nil : RpN K H [] []
  | cons {k : Str} {v : V} {d : Val} {kvs : List (Str × V)} {es : List (Str × Val)} : Rp K H [] v d → RpN K H kvs es → RpN K H ((k, v) :: kvs) ((k, d) :: es)
inductive RpC (K : PySem.W.Frag) (H : Hp) : Addr → Cell → Prop where
  | ins {a dx C : Addr} {us : List (Str × V)} {fs : List (Str × Val)} : H a = some (.ins C dx us) → H dx = some (.own a) → RpN K H us fs → RpC K H a (.ins C fs)
  | lst {a : Addr} {vs : List V} {ds : List Val} : H a = some (.lst vs) → RpA K H [] vs ds → RpC K H a (.lst ds)
  | dic {a : Addr} {kvs : List (Key × V)} {es : List (Key × Val)} : H a = some (.dK kvs) → RpD K H [] kvs es → RpC K H a (.dic es)
end
/-- a list, a dict or an instance stands there -/
def Mutb (H : Hp) (a : Addr) : Prop := (∃ xs, H a = some (.lst xs)) ∨ (∃ kvs, H a = some (.dK kvs)) ∨ ∃ C dx us, H a = some (.ins C dx us)
theorem Mutb.ex {H : Hp} {a : Addr} (h : Mutb H a) : H a ≠ none := by
  rcases h with ⟨_, h⟩ | ⟨_, h⟩ | ⟨_, _, _, h⟩ <;> rw [h] <;> exact fun z => by cases z
theorem Mutb.notup {H : Hp} {a : Addr} {vs : List V} (h : Mutb H a) : H a ≠ some (.tup vs) := by
  rcases h with ⟨_, h⟩ | ⟨_, h⟩ | ⟨_, _, _, h⟩ <;> rw [h] <;> exact fun z => by cases z
theorem Mutb.nofrz {H : Hp} {a : Addr} {o : Obj} {u : HO} (h : Mutb H a) : H a ≠ some (.frz o u) := by
  rcases h with ⟨_, h⟩ | ⟨_, h⟩ | ⟨_, _, _, h⟩ <;> rw [h] <;> exact fun z => by cases z
theorem Mutb.noown {H : Hp} {a b : Addr} (h : Mutb H a) : H a ≠ some (.own b) := by
  rcases h with ⟨_, h⟩ | ⟨_, h⟩ | ⟨_, _, _, h⟩ <;> rw [h] <;> exact fun z => by cases z
theorem Mutb.noext {H : Hp} {a : Addr} {φ : Heap → Prop} (h : Mutb H a) : H a ≠ some (.ext φ) := by
  rcases h with ⟨_, h⟩ | ⟨_, h⟩ | ⟨_, _, _, h⟩ <;> rw [h] <;> exact fun z => by cases z
theorem IsEx.kp {L : List Addr} {H H' : Hp} (k : Kp L H H') (m : ∀ a ∈ L, Mutb H a) {C : Value} {a : Addr} (h : IsEx H C a) : IsEx H' C a := by
  obtain ⟨φ, h1, h2⟩ := h
  rcases k a _ (fun z => (m a z).noext h1) h1 with z | ⟨_, _, z, _⟩
  · exact ⟨φ, z, h2⟩
  · cases z
theorem Frzn.kp {K : PySem.W.Frag} {L : List Addr} {H H' : Hp} (k : Kp L H H') (m : ∀ a ∈ L, Mutb H a) {l : Addr} {vs : List V} (h : Frzn K H l vs) : Frzn K H' l vs := by
  rcases h with ⟨o, h⟩ | h
  · rcases k l _ (fun z => (m l z).nofrz h) h with z | ⟨_, _, z, _⟩
    · exact .inl ⟨o, z⟩
    · cases z
  · exact .inr h
theorem Kp.dK {L : List Addr} {H H' : Hp} (a : Kp L H H') {l : Addr} {us : List (Key × V)} (n : l ∉ L) (h : H l = some (.dK us)) : H' l = some (.dK us) := by
  rcases a l _ n h with z | ⟨ps, qs, z, _⟩
  · exact z
  · cases z
theorem Kp.ins {L : List Addr} {H H' : Hp} (a : Kp L H H') {l C dx : Addr} {us : List (Str × V)} (n : l ∉ L) (h : H l = some (.ins C dx us)) : H' l = some (.ins C dx us) := by
  rcases a l _ n h with z | ⟨_, _, z, _⟩
  · exact z
  · cases z
theorem Kp.ownd {L : List Addr} {H H' : Hp} (a : Kp L H H') {l x : Addr} (n : l ∉ L) (h : H l = some (.own x)) : H' l = some (.own x) := by
  rcases a l _ n h with z | ⟨_, _, z, _⟩
  · exact z
  · cases z
theorem Kp.frz {L : List Addr} {H H' : Hp} (a : Kp L H H') {l : Addr} {o : Obj} {u : HO} (n : l ∉ L) (h : H l = some (.frz o u)) : H' l = some (.frz o u) := by
  rcases a l _ n h with z | ⟨_, _, z, _⟩
  · exact z
  · cases z
mutual
theorem Rp.kp {K : PySem.W.Frag} {L : List Addr} {H H' : Hp} (k : Kp L H H') (m : ∀ a ∈ L, Mutb H a) : ∀ {F : List Addr} {v : V} {d : Val}, Rp K H F v d → (∀ a ∈ F, a ∉ L) → Rp K H' F v d
  | _, _, _, .non, _ => .non
  | _, _, _, .bl b, _ => .bl b
  | _, _, _, .int b, _ => .int b
  | _, _, _, .str b, _ => .str b
  | _, _, _, .ty b, _ => .ty b
  | _, _, _, .opq b, _ => .opq b
  | _, _, _, .exc h, _ => .exc (h.kp k m)
  | _, _, _, .tup h r, dj => .tup (k.tup (fun z => (m _ z).notup h) h) (RpA.kp k m r dj)
  | _, _, _, .lst h r, dj => .lst (k.lst (dj _ List.mem_cons_self) h) (RpA.kp k m r fun a ha => dj a (List.mem_cons_of_mem _ ha))
  | _, _, _, .frz h r, dj => .frz (h.kp k m) (RpA.kp k m r dj)
  | _, _, _, .dic h r, dj => .dic (k.dK (dj _ List.mem_cons_self) h) (RpD.kp k m r fun a ha => dj a (List.mem_cons_of_mem _ ha))
  | _, _, _, .fdc h r, dj => .fdc (k.frz (fun z => (m _ z).nofrz h) h) (RpD.kp k m r dj)
  | _, _, _, .gho n f r, dj => .gho n f fun a c e => RpC.kp k m (r a c e) (dj a ((f a).mpr ⟨c, e⟩))
theorem RpA.kp {K : PySem.W.Frag} {L : List Addr} {H H' : Hp} (k : Kp L H H') (m : ∀ a ∈ L, Mutb H a) : ∀ {F : List Addr} {vs : List V} {ds : List Val}, RpA K H F vs ds → (∀ a ∈ F, a ∉ L) → RpA K H' F vs ds
  | _, _, _, .nil, _ => .nil
  | _, _, _, .cons h r, dj => .cons (Rp.kp k m h fun a ha => dj a (List.mem_append_left _ ha)) (RpA.kp k m r fun a ha => dj a (List.mem_append_right _ ha))
theorem RpD.kp {K : PySem.W.Frag} {L : List Addr} {H H' : Hp} (k : Kp L H H') (m : ∀ a ∈ L, Mutb H a) : ∀ {F : List Addr} {vs : List (Key × V)} {ds : List (Key × Val)}, RpD K H F vs ds → (∀ a ∈ F, a ∉ L) → RpD K H' F vs ds
  | _, _, _, .nil, _ => .nil
  | _, _, _, .cons h r, dj => .cons (Rp.kp k m h fun a ha => dj a (List.mem_append_left _ ha)) (RpD.kp k m r fun a ha => dj a (List.mem_append_right _ ha))
theorem RpN.kp {K : PySem.W.Frag} {L : List Addr} {H H' : Hp} (k : Kp L H H') (m : ∀ a ∈ L, Mutb H a) : ∀ {vs : List (Str × V)} {ds : List (Str × Val)}, RpN K H vs ds → RpN K H' vs ds
  | _, _, .nil => .nil
  | _, _, .cons h r => .cons (Rp.kp k m h fun _ z => nomatch z) (RpN.kp k m r)
theorem RpC.kp {K : PySem.W.Frag} {L : List Addr} {H H' : Hp} (k : Kp L H H') (m : ∀ a ∈ L, Mutb H a) : ∀ {a : Addr} {c : Cell}, RpC K H a c → a ∉ L → RpC K H' a c
  | _, _, .ins h1 h2 r, n => .ins (k.ins n h1) (k.ownd (fun z => (m _ z).noown h2) h2) (RpN.kp k m r)
  | _, _, .lst h r, n => .lst (k.lst n h) (RpA.kp k m r fun _ z => nomatch z)
  | _, _, .dic h r, n => .dic (k.dK n h) (RpD.kp k m r fun _ z => nomatch z)
end
theorem RpC.mutb {K : PySem.W.Frag} {H : Hp} {a : Addr} {c : Cell} (h : RpC K H a c) : Mutb H a := by
  cases h with
  | ins h _ _ => exact .inr (.inr ⟨_, _, _, h⟩)
  | lst h _ => exact .inl ⟨_, h⟩
  | dic h _ => exact .inr (.inl ⟨_, h⟩)
mutual
theorem Rp.mutb {K : PySem.W.Frag} {H : Hp} : ∀ {F : List Addr} {v : V} {d : Val}, Rp K H F v d → ∀ a ∈ F, Mutb H a
  | _, _, _, .non, _, h => nomatch h
  | _, _, _, .bl _, _, h => nomatch h
  | _, _, _, .int _, _, h => nomatch h
  | _, _, _, .str _, _, h => nomatch h
  | _, _, _, .ty _, _, h => nomatch h
  | _, _, _, .opq _, _, h => nomatch h
  | _, _, _, .exc _, _, h => nomatch h
  | _, _, _, .tup _ r, a, ha => RpA.mutb r a ha
  | _, _, _, .lst h r, a, ha => (List.mem_cons.mp ha).elim (fun e => e ▸ .inl ⟨_, h⟩) fun z => RpA.mutb r a z
  | _, _, _, .frz _ r, a, ha => RpA.mutb r a ha
  | _, _, _, .dic h r, a, ha => (List.mem_cons.mp ha).elim (fun e => e ▸ .inr (.inl ⟨_, h⟩)) fun z => RpD.mutb r a z
  | _, _, _, .fdc _ r, a, ha => RpD.mutb r a ha
  | _, _, _, .gho _ f r, a, ha => let ⟨c, e⟩ := (f a).mp ha; (r a c e).mutb
theorem RpA.mutb {K : PySem.W.Frag} {H : Hp} : ∀ {F : List Addr} {vs : List V} {ds : List Val}, RpA K H F vs ds → ∀ a ∈ F, Mutb H a
  | _, _, _, .nil, _, h => nomatch h
  | _, _, _, .cons h r, a, ha => (List.mem_append.mp ha).elim (fun z => Rp.mutb h a z) fun z => RpA.mutb r a z
theorem RpD.mutb {K : PySem.W.Frag} {H : Hp} : ∀ {F : List Addr} {vs : List (Key × V)} {ds : List (Key × Val)}, RpD K H F vs ds → ∀ a ∈ F, Mutb H a
  | _, _, _, .nil, _, h => nomatch h
  | _, _, _, .cons h r, a, ha => (List.mem_append.mp ha).elim (fun z => Rp.mutb h a z) fun z => RpD.mutb r a z
end
mutual
/-- no list and no dict within -/
def Val.flat : Val → Bool
  | .tup xs => Val.flatAll xs
  | .lst _ => false
  | .frz xs => Val.flatAll xs
  | .dic _ => false
  | .fdc es => Val.flatAllD es
  | .gho _ => false
  | _ => true
def Val.flatAll : List Val → Bool
  | [] => true
  | x :: xs => x.flat && Val.flatAll xs
def Val.flatAllD : List (Key × Val) → Bool
  | [] => true
  | (_, x) :: xs => x.flat && Val.flatAllD xs
end
mutual
theorem Rp.flat {K : PySem.W.Frag} {H : Hp} : ∀ {F : List Addr} {v : V} {d : Val}, Rp K H F v d → d.flat = true → F = []
  | _, _, _, .non, _ => rfl
  | _, _, _, .bl _, _ => rfl
  | _, _, _, .int _, _ => rfl
  | _, _, _, .str _, _ => rfl
  | _, _, _, .ty _, _ => rfl
  | _, _, _, .opq _, _ => rfl
  | _, _, _, .exc _, _ => rfl
  | _, _, _, .tup _ r, h => RpA.flat r h
  | _, _, _, .lst _ _, h => nomatch h
  | _, _, _, .frz _ r, h => RpA.flat r h
  | _, _, _, .dic _ _, h => nomatch h
  | _, _, _, .fdc _ r, h => RpD.flat r h
  | _, _, _, .gho _ _ _, h => nomatch h
theorem RpA.flat {K : PySem.W.Frag} {H : Hp} : ∀ {F : List Addr} {vs : List V} {ds : List Val}, RpA K H F vs ds → Val.flatAll ds = true → F = []
  | _, _, _, .nil, _ => rfl
  | _, _, _, .cons (d := d) (ds := ds) h r, e => by
    have e2 : (d.flat && Val.flatAll ds) = true := e
    rw [Bool.and_eq_true] at e2
    rw [Rp.flat h e2.1, RpA.flat r e2.2]
    rfl
theorem RpD.flat {K : PySem.W.Frag} {H : Hp} : ∀ {F : List Addr} {vs : List (Key × V)} {ds : List (Key × Val)}, RpD K H F vs ds → Val.flatAllD ds = true → F = []
  | _, _, _, .nil, _ => rfl
  | _, _, _, .cons (d := d) (es := ds) h r, e => by
    have e2 : (d.flat && Val.flatAllD ds) = true := e
    rw [Bool.and_eq_true] at e2
    rw [Rp.flat h e2.1, RpD.flat r e2.2]
    rfl
end
theorem RpA.len {K : PySem.W.Frag} {H : Hp} : ∀ {F : List Addr} {vs : List V} {ds : List Val}, RpA K H F vs ds → vs.length = ds.length
  | _, _, _, .nil => rfl
  | _, _, _, .cons _ r => congrArg (· + 1) r.len
theorem RpA.app {K : PySem.W.Frag} {H : Hp} : ∀ {F G : List Addr} {vs ws : List V} {ds es : List Val}, RpA K H F vs ds → RpA K H G ws es → RpA K H (F ++ G) (vs ++ ws) (ds ++ es)
  | _, _, _, _, _, _, .nil, h => h
  | _, _, _, _, _, _, .cons (F := A) (G := B) a t, h => by
    rw [List.append_assoc]
    exact .cons a (RpA.app t h)
theorem RpA.one {K : PySem.W.Frag} {H : Hp} {F : List Addr} {v : V} {d : Val} (h : Rp K H F v d) : RpA K H F [v] [d] := by
  have := RpA.cons h .nil
  rwa [List.append_nil] at this
/-- the i-th item, with part of the addresses -/
theorem RpA.get {K : PySem.W.Frag} {H : Hp} : ∀ {F : List Addr} {vs : List V} {ds : List Val} {i : Nat} {d : Val}, RpA K H F vs ds → ds[i]? = some d → ∃ v G, vs[i]? = some v ∧ Rp K H G v d ∧ (∀ a ∈ G, a ∈ F) ∧ (F.Nodup → G.Nodup)
  | _, _, _, _, _, .nil, e => by simp at e
  | _, _, _, 0, d, .cons (F := A) (v := v) h t, e => ⟨v, A, rfl, by
      have q := Option.some.inj (show some _ = some d from e)
      rw [← q]
      exact h, fun a ha => List.mem_append_left _ ha, fun n => (List.nodup_append.mp n).1⟩
  | _, _, _, i + 1, d, .cons h t, e => by
    obtain ⟨v, G, h1, h2, h3, h4⟩ := RpA.get (i := i) t e
    exact ⟨v, G, h1, h2, fun a ha => List.mem_append_right _ (h3 a ha), fun n => h4 (List.nodup_append.mp n).2.1⟩
/-- kept where nothing of a tuple, a frozen list, or of the addresses is changed: plain growth -/
theorem Rp.same {K : PySem.W.Frag} {H H' : Hp} {F : List Addr} {v : V} {d : Val} (h : Rp K H F v d) (e : Same H H') : Rp K H' F v d := h.kp (L := []) (.of e) (fun _ z => nomatch z) fun _ _ z => nomatch z
theorem RpA.same {K : PySem.W.Frag} {H H' : Hp} {F : List Addr} {v : List V} {d : List Val} (h : RpA K H F v d) (e : Same H H') : RpA K H' F v d := h.kp (L := []) (.of e) (fun _ z => nomatch z) fun _ _ z => nomatch z
theorem RpA.sub {K : PySem.W.Frag} {H : Hp} : ∀ {F : List Addr} {vs : List V} {ds : List Val}, RpA K H F vs ds → F = [] → ∀ (i : Nat) (d : Val), ds[i]? = some d → ∃ v, vs[i]? = some v ∧ Rp K H [] v d := fun {F vs ds} h e i d hd => by
  obtain ⟨v, G, h1, h2, h3, _⟩ := h.get hd
  have : G = [] := by
    cases G with
    | nil => rfl
    | cons a r =>
      have := h3 a List.mem_cons_self
      rw [e] at this
      cases this
  rw [this] at h2
  exact ⟨v, h1, h2⟩
/-! ### the slots -/
abbrev VEnv := List (Option Val)
abbrev Fp := Nat → List Addr
/-- what may have been changed: the lists of the slots of eff -/
structure Eff (ms eff : List Nat) (Fs : Fp) (H : Hp) (Fs' : Fp) (H' : Hp) : Prop where
  sub : ∀ j ∈ eff, j ∈ ms
  kp : Kp (eff.flatMap Fs) H H'
  gr : ∀ a, H' a = none → H a = none
  out : ∀ j ∈ ms, j ∉ eff → Fs' j = Fs j
  foot : ∀ j ∈ ms, ∀ a ∈ Fs' j, a ∈ Fs j ∨ H a = none
theorem Eff.refl {ms : List Nat} {Fs : Fp} {H : Hp} : Eff ms [] Fs H Fs H := ⟨(fun _ h => nomatch h), Kp.refl _ _, fun _ h => h, fun _ _ _ => rfl, fun _ _ _ h => .inl h⟩
theorem Eff.same {ms : List Nat} {Fs : Fp} {H H' : Hp} (e : Same H H') : Eff ms [] Fs H Fs H' := ⟨(fun _ h => nomatch h), .of e, fun _ h => e.free h, fun _ _ _ => rfl, fun _ _ _ h => .inl h⟩
theorem Eff.kps {ms : List Nat} {Fs : Fp} {H H' : Hp} (k : Kp [] H H') : Eff ms [] Fs H Fs H' := ⟨(fun _ h => nomatch h), k, fun _ h => k.free List.not_mem_nil h, fun _ _ _ => rfl, fun _ _ _ h => .inl h⟩
theorem Eff.trans {ms e1 e2 : List Nat} {F0 F1 F2 : Fp} {H0 H1 H2 : Hp} (a : Eff ms e1 F0 H0 F1 H1) (b : Eff ms e2 F1 H1 F2 H2) : Eff ms (e1 ++ e2) F0 H0 F2 H2 where
  sub := fun j hj => (List.mem_append.mp hj).elim (a.sub j) (b.sub j)
  kp := fun x o hx hH => by
    have n1 : x ∉ e1.flatMap F0 := fun z => hx (by
      rw [List.flatMap_append]
      exact List.mem_append_left _ z)
    have n2 : x ∉ e2.flatMap F1 := fun z => by
      obtain ⟨j, hj, hx1⟩ := List.mem_flatMap.mp z
      rcases a.foot j (b.sub j hj) x hx1 with y | y
      · exact hx (by
          rw [List.flatMap_append]
          exact List.mem_append_right _ (List.mem_flatMap.mpr ⟨j, hj, y⟩))
      · rw [hH] at y
        cases y
    rcases a.kp x o n1 hH with z | ⟨ps, qs, rfl, z⟩
    · exact b.kp x o n2 z
    · rcases b.kp x _ n2 z with y | ⟨_, qs', _, y⟩
      · exact .inr ⟨ps, qs, rfl, y⟩
      · exact .inr ⟨ps, qs', rfl, y⟩
  gr := fun x h => a.gr x (b.gr x h)
  out := fun j hj hn => by rw [b.out j hj fun z => hn (List.mem_append_right _ z), a.out j hj fun z => hn (List.mem_append_left _ z)]
  foot := fun j hj x hx => by
    rcases b.foot j hj x hx with y | y
    · exact a.foot j hj x y
    · exact .inr (a.gr x y)
theorem Eff.mono {ms e e' : List Nat} {F0 F1 : Fp} {H0 H1 : Hp} (a : Eff ms e F0 H0 F1 H1) (h : ∀ j ∈ e, j ∈ e') (h' : ∀ j ∈ e', j ∈ ms) : Eff ms e' F0 H0 F1 H1 :=
  ⟨h', a.kp.mono fun x hx => by
    obtain ⟨j, hj, z⟩ := List.mem_flatMap.mp hx
    exact List.mem_flatMap.mpr ⟨j, h j hj, z⟩, a.gr, fun j hj hn => a.out j hj fun z => hn (h j z), a.foot⟩
/-- what is fixed in a def: the frame, the tables, the slots whose lists are its own, how many slots -/
structure Vc where
  K : PySem.W.Frag
  Ps : TL
  ms : List Nat
  N : Nat
  E : XK := fun _ _ _ => False
  xe : Value → Prop := fun _ => False
  al : Bool := false
  g : Nat := 0
/-- what is wanted of an exception that leaves from here -/
def Xk (c : Vc) (Fs : Fp) (H : Hp) : Prop := ∀ cls H' Fs', Eff c.ms c.ms Fs H Fs' H' → Tb c.Ps H' → c.xe cls → c.E cls none H'
theorem Xk.eff {c : Vc} {e : List Nat} {Fs Fs' : Fp} {H H' : Hp} (x : Xk c Fs H) (h : Eff c.ms e Fs H Fs' H') : Xk c Fs' H' := fun cls H2 Fs2 h2 t z =>
  x cls H2 Fs2 ((h.trans h2).mono (fun j hj => (List.mem_append.mp hj).elim (h.sub j) id) fun _ z => z) t z
/-- what a slot holds; behind the slots stands the store, which no name holds -/
def SlV (n : Nat) (σ : L2.St) (i : Nat) (v : V) : Prop := (i < n → σ[i]? = some (some v)) ∧ (n ≤ i → v = .non)
theorem SlV.of {n : Nat} {σ : L2.St} {i : Nat} {v : V} (h : i < n) (e : σ[i]? = some (some v)) : SlV n σ i v := ⟨fun _ => e, fun z => by omega⟩
theorem SlV.lt {n : Nat} {σ : L2.St} {i : Nat} {v : V} (h : SlV n σ i v) (e : i < n) : σ[i]? = some (some v) := h.1 e
theorem lt_of_blt {i n : Nat} (h : Nat.blt i n = true) : i < n := Nat.le_of_ble_eq_true h
structure Sr (c : Vc) (env : VEnv) (σ : L2.St) (H : Hp) (Fs : Fp) : Prop where
  le : env.length = c.N + c.g
  ls : σ.length = c.N
  at_ : ∀ i d, env[i]? = some (some d) → ∃ v, SlV c.N σ i v ∧ Rp c.K H (Fs i) v d
  emp : ∀ i, (∀ d, env[i]? ≠ some (some d)) → Fs i = []
  sep : ∀ i ∈ c.ms, ∀ j, j ≠ i → ∀ a ∈ Fs i, a ∉ Fs j
  nd : ∀ i ∈ c.ms, (Fs i).Nodup
  tb : Tb c.Ps H
  xk : Xk c Fs H
theorem Sr.mutb {c : Vc} {env : VEnv} {σ : L2.St} {H : Hp} {Fs : Fp} (S : Sr c env σ H Fs) (i : Nat) : ∀ a ∈ Fs i, Mutb H a := fun a ha => by
  by_cases h : ∃ d, env[i]? = some (some d)
  · obtain ⟨d, hd⟩ := h
    obtain ⟨v, _, r⟩ := S.at_ i d hd
    exact r.mutb a ha
  · rw [S.emp i fun d hd => h ⟨d, hd⟩] at ha
    cases ha
theorem Sr.effm {c : Vc} {env : VEnv} {σ : L2.St} {H : Hp} {Fs : Fp} (S : Sr c env σ H Fs) (eff : List Nat) : ∀ a ∈ eff.flatMap Fs, Mutb H a := fun a ha => by
  obtain ⟨j, _, h⟩ := List.mem_flatMap.mp ha
  exact S.mutb j a h
/-- the addresses of a value lie in no own slot but those of src -/
def Src (ms src : List Nat) (F : List Addr) (Fs : Fp) : Prop := ∀ a ∈ F, ∀ j ∈ ms, j ∉ src → a ∉ Fs j
theorem Src.nil {ms src : List Nat} {Fs : Fp} : Src ms src [] Fs := fun _ h => nomatch h
theorem Src.mono {ms src src' : List Nat} {F : List Addr} {Fs : Fp} (h : Src ms src F Fs) (k : ∀ j ∈ src, j ∈ src') : Src ms src' F Fs := fun a ha j hj hn => h a ha j hj fun z => hn (k j z)
def disj (a b : List Nat) : Bool := a.all fun x => !b.contains x
theorem disj_iff {a b : List Nat} (h : disj a b = true) {x : Nat} (hx : x ∈ a) : x ∉ b := fun z => by
  have := List.all_eq_true.mp h x hx
  simp [z] at this
/-- a value waits while something else goes on -/
theorem Rp.eff {c : Vc} {env : VEnv} {σ : L2.St} {H H' : Hp} {Fs Fs' : Fp} {src eff : List Nat} {F : List Addr} {v : V} {d : Val} (S : Sr c env σ H Fs) (e : Eff c.ms eff Fs H Fs' H') (r : Rp c.K H F v d) (s : Src c.ms src F Fs) (hd : disj src eff = true) : Rp c.K H' F v d ∧ Src c.ms src F Fs' := by
  refine ⟨r.kp e.kp (S.effm eff) fun a ha z => ?_, fun a ha j hj hn z => ?_⟩
  · obtain ⟨j, hj, h⟩ := List.mem_flatMap.mp z
    exact s a ha j (e.sub j hj) (fun y => disj_iff hd y hj) h
  · rcases e.foot j hj a z with y | y
    · exact s a ha j hj hn y
    · exact (r.mutb a ha).ex y
theorem RpA.eff {c : Vc} {env : VEnv} {σ : L2.St} {H H' : Hp} {Fs Fs' : Fp} {src eff : List Nat} {F : List Addr} {v : List V} {d : List Val} (S : Sr c env σ H Fs) (e : Eff c.ms eff Fs H Fs' H') (r : RpA c.K H F v d) (s : Src c.ms src F Fs) (hd : disj src eff = true) : RpA c.K H' F v d ∧ Src c.ms src F Fs' := by
  refine ⟨r.kp e.kp (S.effm eff) fun a ha z => ?_, fun a ha j hj hn z => ?_⟩
  · obtain ⟨j, hj, h⟩ := List.mem_flatMap.mp z
    exact s a ha j (e.sub j hj) (fun y => disj_iff hd y hj) h
  · rcases e.foot j hj a z with y | y
    · exact s a ha j hj hn y
    · exact (r.mutb a ha).ex y
/-- plain growth -/
theorem Sr.grow {c : Vc} {env : VEnv} {σ : L2.St} {H H' : Hp} {Fs : Fp} (S : Sr c env σ H Fs) (k : Kp [] H H') (t : Tb c.Ps H') : Sr c env σ H' Fs :=
  ⟨S.le, S.ls, fun i d h => by
    obtain ⟨v, h1, r⟩ := S.at_ i d h
    exact ⟨v, h1, r.kp k (fun _ z => nomatch z) fun _ _ z => nomatch z⟩, S.emp, S.sep, S.nd, t, S.xk.eff (.kps k)⟩
theorem Sr.same {c : Vc} {env : VEnv} {σ : L2.St} {H H' : Hp} {Fs : Fp} (S : Sr c env σ H Fs) (e : Same H H') : Sr c env σ H' Fs := S.grow (.of e) (S.tb.same e)
def upF (Fs : Fp) (i : Nat) (F : List Addr) : Fp := fun j => if j = i then F else Fs j
theorem upF_self {Fs : Fp} {i : Nat} {F : List Addr} : upF Fs i F i = F := by unfold upF; rw [if_pos rfl]
theorem upF_ne {Fs : Fp} {i j : Nat} {F : List Addr} (h : j ≠ i) : upF Fs i F j = Fs j := by unfold upF; rw [if_neg h]
theorem set_at {α : Type} {l : List (Option α)} {i j : Nat} {x y : α} (h : (l.set i (some x))[j]? = some (some y)) : (j = i ∧ x = y) ∨ (j ≠ i ∧ l[j]? = some (some y)) := by
  by_cases e : j = i
  · subst e
    rw [List.getElem?_set] at h
    simp at h
    exact .inl ⟨rfl, h.2⟩
  · rw [List.getElem?_set_ne (fun z => e z.symm)] at h
    exact .inr ⟨e, h⟩
/-- a slot is given a value -/
theorem Sr.put {c : Vc} {env : VEnv} {σ : L2.St} {H : Hp} {Fs : Fp} (S : Sr c env σ H Fs) {i : Nat} (hi : i < c.N) {v : V} {d : Val} {F : List Addr} (r : Rp c.K H F v d) (ho : i ∈ c.ms → F.Nodup ∧ ∀ j, j ≠ i → ∀ a ∈ F, a ∉ Fs j) (hv : Src c.ms [i] F Fs) (xk : Xk c (upF Fs i F) H) : Sr c (env.set i (some d)) (σ.set i (some v)) H (upF Fs i F) where
  le := by rw [List.length_set, S.le]
  ls := by rw [List.length_set, S.ls]
  at_ := fun j e h => by
    rcases set_at h with ⟨rfl, rfl⟩ | ⟨ne, h⟩
    · refine ⟨v, .of hi ?_, by rw [upF_self]; exact r⟩
      rw [List.getElem?_set_self (by rw [S.ls]; exact hi)]
    · obtain ⟨u, h1, h2⟩ := S.at_ j e h
      refine ⟨u, ⟨fun z => ?_, h1.2⟩, by rw [upF_ne ne]; exact h2⟩
      rw [List.getElem?_set_ne (fun z => ne z.symm)]
      exact h1.1 z
  emp := fun j h => by
    by_cases e : j = i
    · subst e
      exact absurd (by rw [List.getElem?_set_self (by rw [S.le]; omega)]) (h d)
    · rw [upF_ne e]
      refine S.emp j fun d' h' => h d' ?_
      rw [List.getElem?_set_ne (fun z => e z.symm)]
      exact h'
  sep := fun j hj k hk a ha z => by
    by_cases e : j = i
    · subst e
      rw [upF_self] at ha
      rw [upF_ne hk] at z
      exact (ho hj).2 k hk a ha z
    · rw [upF_ne e] at ha
      by_cases e2 : k = i
      · subst e2
        rw [upF_self] at z
        exact hv a z j hj (fun q => e (List.mem_singleton.mp q)) ha
      · rw [upF_ne e2] at z
        exact S.sep j hj k hk a ha z
  nd := fun j hj => by
    by_cases e : j = i
    · subst e
      rw [upF_self]
      exact (ho hj).1
    · rw [upF_ne e]
      exact S.nd j hj
  tb := S.tb
  xk := xk
/-! ### expressions over values -/
abbrev VW := VEnv → (Val → VEnv → Prop) → Prop
abbrev VWT := VEnv → (Bool → VEnv → Prop) → Prop
abbrev VWA := VEnv → (List Val → VEnv → Prop) → Prop
/-- new, but for the lists of the slots mv -/
def Frs (fr : Option (List Nat)) (H : Hp) (Fs : Fp) (F : List Addr) : Prop := ∀ mv, fr = some mv → F.Nodup ∧ ∀ a ∈ F, H a = none ∨ ∃ j ∈ mv, a ∈ Fs j
theorem Frs.nil {fr : Option (List Nat)} {H : Hp} {Fs : Fp} : Frs fr H Fs [] := fun _ _ => ⟨List.nodup_nil, fun _ h => nomatch h⟩
theorem Frs.no {H : Hp} {Fs : Fp} {F : List Addr} : Frs none H Fs F := fun _ h => nomatch h
structure Ok0 (c : Vc) (eff : List Nat) (σ : L2.St) (H : Hp) (Fs : Fp) (env' : VEnv) (H' : Hp) (Fs' : Fp) : Prop where
  sr : Sr c env' σ H' Fs'
  ef : Eff c.ms eff Fs H Fs' H'
  vl : ∀ j, j ∉ c.ms → ∀ a ∈ Fs' j, a ∈ Fs j
theorem Ok0.refl {c : Vc} {σ : L2.St} {H : Hp} {Fs : Fp} {env : VEnv} (S : Sr c env σ H Fs) : Ok0 c [] σ H Fs env H Fs := ⟨S, .refl, fun _ _ _ h => h⟩
theorem Ok0.trans {c : Vc} {e1 e2 : List Nat} {σ : L2.St} {H H1 H2 : Hp} {Fs Fs1 Fs2 : Fp} {env1 env2 : VEnv} (a : Ok0 c e1 σ H Fs env1 H1 Fs1) (b : Ok0 c e2 σ H1 Fs1 env2 H2 Fs2) : Ok0 c (e1 ++ e2) σ H Fs env2 H2 Fs2 :=
  ⟨b.sr, a.ef.trans b.ef, fun j h x hx => a.vl j h x (b.vl j h x hx)⟩
theorem Ok0.grow {c : Vc} {e : List Nat} {σ : L2.St} {H H1 H2 : Hp} {Fs Fs1 : Fp} {env1 : VEnv} (a : Ok0 c e σ H Fs env1 H1 Fs1) (s : Same H1 H2) : Ok0 c e σ H Fs env1 H2 Fs1 := by
  have b : Ok0 c (e ++ []) σ H Fs env1 H2 Fs1 := a.trans ⟨a.sr.same s, .same s, fun _ _ _ h => h⟩
  rwa [List.append_nil] at b
def sub (a b : List Nat) : Bool := a.all fun x => b.contains x
theorem sub_iff {a b : List Nat} (h : sub a b = true) : ∀ x ∈ a, x ∈ b := fun x hx => by
  have := List.all_eq_true.mp h x hx
  simpa using this
theorem Ok0.weak {c : Vc} {e e' : List Nat} {σ : L2.St} {H H1 : Hp} {Fs Fs1 : Fp} {env1 : VEnv} (a : Ok0 c e σ H Fs env1 H1 Fs1) (h : ∀ j ∈ e, j ∈ e') (h' : ∀ j ∈ e', j ∈ c.ms) : Ok0 c e' σ H Fs env1 H1 Fs1 := ⟨a.sr, a.ef.mono h h', a.vl⟩
structure SimE (c : Vc) (t : TE) (src : List Nat) (fr : Option (List Nat)) (eff : List Nat) (w : VW) : Prop where
  sim : ∀ (env : VEnv) (σ : L2.St) (H : Hp) (Fs : Fp) (Q : VK) (R : Val → VEnv → Prop), Sr c env σ H Fs → w env R →
    (∀ v d F env' H' Fs', Ok0 c eff σ H Fs env' H' Fs' → Rp c.K H' F v d → Src c.ms src F Fs' → Frs fr H Fs' F → R d env' → Q v H') → t σ H Q
structure SimT (c : Vc) (t : TT) (eff : List Nat) (w : VWT) : Prop where
  sim : ∀ (env : VEnv) (σ : L2.St) (H : Hp) (Fs : Fp) (Q : Bool → Hp → Prop) (R : Bool → VEnv → Prop), Sr c env σ H Fs → w env R →
    (∀ b env' H' Fs', Ok0 c eff σ H Fs env' H' Fs' → R b env' → Q b H') → t σ H Q
section
variable {c : Vc} {ta tb tc t : TE} {sa sb sc s : List Nat} {fa fb fc f : Option (List Nat)} {ea eb ec e : List Nat} {wa wb wc w : VW}
/-! names, constants -/
def wVar (i : Nat) : VW := fun env Q => match env[i]? with
  | some (some d) => Q d env
  | _ => False
theorem wVar_is {i : Nat} {env : VEnv} {Q : Val → VEnv → Prop} (h : wVar i env Q) : ∃ d, env[i]? = some (some d) ∧ Q d env := by
  unfold wVar at h
  split at h
  · exact ⟨_, ‹_›, h⟩
  · exact h.elim
theorem simE_var {i : Nat} (hi : c.ms.contains i = false) (hN : Nat.blt i c.N = true := by rfl) : SimE c (tVar i) [] none [] (wVar i) := ⟨fun env σ H Fs Q R S h k => by
  obtain ⟨d, hd, h⟩ := wVar_is h
  obtain ⟨v, hv, r⟩ := S.at_ i d hd
  have hv := hv.1 (lt_of_blt hN)
  have n : i ∉ c.ms := fun z => by simp [z] at hi
  exact ⟨v, hv, k v d (Fs i) env H Fs (.refl S) r (fun a ha j hj _ z => S.sep j hj i (fun q => n (q ▸ hj)) a z ha) .no h⟩⟩
theorem simE_own {i : Nat} (hN : Nat.blt i c.N = true := by rfl) : SimE c (tVar i) [i] none [] (wVar i) := ⟨fun env σ H Fs Q R S h k => by
  obtain ⟨d, hd, h⟩ := wVar_is h
  obtain ⟨v, hv, r⟩ := S.at_ i d hd
  have hv := hv.1 (lt_of_blt hN)
  exact ⟨v, hv, k v d (Fs i) env H Fs (.refl S) r (fun a ha j hj n z => S.sep j hj i (fun q => n (List.mem_singleton.mpr q.symm)) a z ha) .no h⟩⟩
/-- an own list that is handed on for good -/
theorem simE_move {i : Nat} (hi : c.ms.contains i = true) (hN : Nat.blt i c.N = true := by rfl) : SimE c (tVar i) [i] (some [i]) [] (wVar i) := ⟨fun env σ H Fs Q R S h k => by
  obtain ⟨d, hd, h⟩ := wVar_is h
  obtain ⟨v, hv, r⟩ := S.at_ i d hd
  have hv := hv.1 (lt_of_blt hN)
  refine ⟨v, hv, k v d (Fs i) env H Fs (.refl S) r (fun a ha j hj n z => S.sep j hj i (fun q => n (List.mem_singleton.mpr q.symm)) a z ha) (fun mv e => ?_) h⟩
  cases e
  exact ⟨S.nd i (by simpa using hi), fun a ha => .inr ⟨i, List.mem_singleton.mpr rfl, ha⟩⟩⟩
def wFlat (w : VW) : VW := fun env Q => w env fun d env' => d.flat = true ∧ Q d env'
theorem simE_flat (h : SimE c t s f e w) : SimE c t [] (some []) e (wFlat w) := ⟨fun env σ H Fs Q R S hw k =>
  h.sim env σ H Fs Q _ S hw fun v d F env' H' Fs' o r _ _ ⟨hf, q⟩ => by
    have z := r.flat hf
    subst z
    exact k v d [] env' H' Fs' o r .nil .nil q⟩
def wC (d : Val) : VW := fun env Q => Q d env
theorem simE_c {v : V} {d : Val} (h : ∀ K H, Rp K H [] v d) : SimE c (tC v) [] (some []) [] (wC d) := ⟨fun env σ H Fs Q R S hw k => k v d [] env H Fs (.refl S) (h _ _) .nil .nil hw⟩
theorem simE_int {i : Int} : SimE c (tC (.int i)) [] (some []) [] (wC (.int i)) := simE_c fun _ _ => .int i
theorem simE_bl {b : Bool} : SimE c (tC (.bl b)) [] (some []) [] (wC (.bl b)) := simE_c fun _ _ => .bl b
theorem simE_non : SimE c (tC .non) [] (some []) [] (wC .non) := simE_c fun _ _ => .non
theorem simE_str {x : Str} : SimE c (tC (.str x)) [] (some []) [] (wC (.str x)) := simE_c fun _ _ => .str x
theorem simE_ty {x : String} : SimE c (tC (.ty x)) [] (some []) [] (wC (.ty x)) := simE_c fun _ _ => .ty x
theorem SimE.weak (h : SimE c t s f e w) {s' e' : List Nat} (hs : sub s s' = true) (he : sub e e' = true) (hm : sub e' c.ms = true) : SimE c t s' f e' w := ⟨fun env σ H Fs Q R S hw k =>
  h.sim env σ H Fs Q _ S hw fun v d F env' H' Fs' o r sr fr q => k v d F env' H' Fs' (o.weak (sub_iff he) (sub_iff hm)) r (sr.mono (sub_iff hs)) fr q⟩
/-! two-place operations whose outcome holds no list -/
def R2S (K : PySem.W.Frag) (r : R2) (g : Val → Val → (Val → Prop) → Prop) : Prop := ∀ (H : Hp) (x y : V) (d e : Val) (F G : List Addr) (Q : VK) (R : Val → Prop), Rp K H F x d → Rp K H G y e → g d e R → (∀ v u, Rp K H [] v u → R u → Q v H) → r x y H Q
def wOp (g : Val → Val → (Val → Prop) → Prop) (wa wb : VW) : VW := fun env Q => wa env fun x env1 => wb env1 fun y env2 => g x y fun z => Q z env2
theorem simE_op {r : R2} {g : Val → Val → (Val → Prop) → Prop} (hr : R2S c.K r g) (ha : SimE c ta sa fa ea wa) (hb : SimE c tb sb fb eb wb) (hd : disj sa eb = true) : SimE c (tOp r ta tb) [] (some []) (ea ++ eb) (wOp g wa wb) := ⟨fun env σ H Fs Q R S h k =>
  ha.sim env σ H Fs _ _ S h fun x d F env1 H1 Fs1 o1 r1 s1 _ h1 => hb.sim env1 σ H1 Fs1 _ _ o1.sr h1 fun y e G env2 H2 Fs2 o2 r2 s2 _ h2 =>
    hr H2 x y d e F G Q _ (r1.eff o1.sr o2.ef s1 hd).1 r2 h2 fun v u ru q => k v u [] env2 H2 Fs2 (o1.trans o2) ru .nil .nil q⟩
def fI (g : Int → Int → Val) : Val → Val → (Val → Prop) → Prop
  | .int a, .int b, Q => Q (g a b)
  | _, _, _ => False
def fIc (C : Int → Int → Prop) (g : Int → Int → Val) : Val → Val → (Val → Prop) → Prop
  | .int a, .int b, Q => C a b ∧ Q (g a b)
  | _, _, _ => False
theorem r2_ii {K : PySem.W.Frag} {g : Int → Int → Int} : R2S K (rI0 fun i j => .int (g i j)) (fI fun i j => .int (g i j)) := fun H x y d e F G Q R h1 h2 h k => by
  cases d <;> try exact h.elim
  cases e <;> try exact h.elim
  cases h1
  cases h2
  exact ⟨_, _, rfl, rfl, k _ _ (.int _) h⟩
theorem r2_ib {K : PySem.W.Frag} {g : Int → Int → Bool} : R2S K (rI0 fun i j => .bl (g i j)) (fI fun i j => .bl (g i j)) := fun H x y d e F G Q R h1 h2 h k => by
  cases d <;> try exact h.elim
  cases e <;> try exact h.elim
  cases h1
  cases h2
  exact ⟨_, _, rfl, rfl, k _ _ (.bl _) h⟩
theorem r2_iic {K : PySem.W.Frag} {C : Int → Int → Prop} {g : Int → Int → Int} : R2S K (rI C fun i j => .int (g i j)) (fIc C fun i j => .int (g i j)) := fun H x y d e F G Q R h1 h2 h k => by
  cases d <;> try exact h.elim
  cases e <;> try exact h.elim
  cases h1
  cases h2
  exact ⟨_, _, rfl, rfl, h.1, k _ _ (.int _) h.2⟩
/-- == and != of ints, texts, None -/
def fEq (neg : Bool) : Val → Val → (Val → Prop) → Prop
  | .int a, .int b, Q => Q (.bl (neg != decide (a = b)))
  | .str a, .str b, Q => Q (.bl (neg != decide (a = b)))
  | .bl a, .bl b, Q => Q (.bl (neg != decide (a = b)))
  | .non, .non, Q => Q (.bl (neg != true))
  | .non, .int _, Q => Q (.bl (neg != false))
  | .int _, .non, Q => Q (.bl (neg != false))
  | _, _, _ => False
theorem dec_of {α β : Type} [DecidableEq α] [DecidableEq β] {a b : α} {x y : β} (h : x = y ↔ a = b) : decide (x = y) = decide (a = b) := by
  by_cases q : a = b
  · rw [decide_eq_true q, decide_eq_true (h.mpr q)]
  · rw [decide_eq_false q, decide_eq_false fun z => q (h.mp z)]
theorem scal_eq {K : PySem.W.Frag} {H : Hp} {x y : V} {d e : Val} {F G : List Addr} {neg : Bool} {R : Val → Prop} (h1 : Rp K H F x d) (h2 : Rp K H G y e) (h : fEq neg d e R) : scal x y = true ∧ R (.bl (neg != decide (x = y))) := by
  cases d <;> cases e <;> first | exact h.elim | skip
  all_goals
    cases h1
    cases h2
    refine ⟨rfl, ?_⟩
  · exact h
  · rw [show decide (V.non = V.int _) = false from rfl]
    exact h
  · rw [dec_of (Iff.intro (fun z => V.bl.inj z) (fun z => congrArg V.bl z))]
    exact h
  · rw [show decide (V.int _ = V.non) = false from rfl]
    exact h
  · rw [dec_of (Iff.intro (fun z => V.int.inj z) (fun z => congrArg V.int z))]
    exact h
  · rw [dec_of (Iff.intro (fun z => V.str.inj z) (fun z => congrArg V.str z))]
    exact h
theorem r2_eq {K : PySem.W.Frag} : R2S K rEq (fEq false) := fun H x y d e F G Q R h1 h2 h k => by
  obtain ⟨z1, z2⟩ := scal_eq h1 h2 h
  exact ⟨z1, k _ _ (.bl _) (by rwa [Bool.false_bne] at z2)⟩
theorem r2_ne {K : PySem.W.Frag} : R2S K rNe (fEq true) := fun H x y d e F G Q R h1 h2 h k => by
  obtain ⟨z1, z2⟩ := scal_eq h1 h2 h
  exact ⟨z1, k _ _ (.bl _) (by rwa [Bool.true_bne] at z2)⟩
end
section
variable {c : Vc} {ta tb tc t : TE} {sa sb sc s : List Nat} {fa fb fc f : Option (List Nat)} {ea eb ec e : List Nat} {wa wb wc w : VW}
/-! is None, is True -/
def Val.isNon : Val → Bool
  | .non => true
  | .gho _ => true
  | _ => false
def fIsN (neg : Bool) : Val → Val → (Val → Prop) → Prop
  | d, .non, Q => Q (.bl (neg != d.isNon))
  | _, _, _ => False
theorem isNon_of {K : PySem.W.Frag} {H : Hp} {x : V} {d : Val} {F : List Addr} (h : Rp K H F x d) : decide (x = .non) = d.isNon := by
  cases h <;> rfl
theorem r2_isN {K : PySem.W.Frag} : R2S K (fun x y H Q => y = .non ∧ Q (.bl (decide (x = .non))) H) (fIsN false) := fun H x y d e F G Q R h1 h2 h k => by
  cases e <;> try exact h.elim
  cases h2
  refine ⟨rfl, k _ _ (.bl _) ?_⟩
  rw [isNon_of h1]
  have h : R (.bl (false != d.isNon)) := h
  rwa [Bool.false_bne] at h
theorem r2_notN {K : PySem.W.Frag} : R2S K (fun x y H Q => y = .non ∧ Q (.bl (!decide (x = .non))) H) (fIsN true) := fun H x y d e F G Q R h1 h2 h k => by
  cases e <;> try exact h.elim
  cases h2
  refine ⟨rfl, k _ _ (.bl _) ?_⟩
  rw [isNon_of h1]
  have h : R (.bl (true != d.isNon)) := h
  rwa [Bool.true_bne] at h
/-! == of data -/
mutual
def Val.toD : Val → PyData
  | .non => .none
  | .bl b => .bool b
  | .int i => .int i
  | .str x => .str x
  | .ty _ => .none
  | .opq _ => .none
  | .exc _ => .none
  | .tup xs => .tuple (Val.toDs xs)
  | .lst xs => .list (Val.toDs xs)
  | .frz xs => .list (Val.toDs xs)
  | .dic _ => .none
  | .fdc _ => .none
  | .gho _ => .none
def Val.toDs : List Val → List PyData
  | [] => []
  | x :: xs => x.toD :: Val.toDs xs
end
mutual
def Val.isD : Val → Bool
  | .ty _ => false
  | .opq _ => false
  | .exc _ => false
  | .dic _ => false
  | .fdc _ => false
  | .gho _ => false
  | .tup xs => Val.isDs xs
  | .lst xs => Val.isDs xs
  | .frz xs => Val.isDs xs
  | _ => true
def Val.isDs : List Val → Bool
  | [] => true
  | x :: xs => x.isD && Val.isDs xs
end
mutual
theorem Rp.dp {K : PySem.W.Frag} {H : Hp} : ∀ {F : List Addr} {v : V} {d : Val}, Rp K H F v d → d.isD = true → Dp K H v d.toD
  | _, _, _, .non, _ => .non
  | _, _, _, .bl b, _ => .bl b
  | _, _, _, .int b, _ => .int b
  | _, _, _, .str b, _ => .str b
  | _, _, _, .ty b, h => nomatch h
  | _, _, _, .opq b, h => nomatch h
  | _, _, _, .exc _, h => nomatch h
  | _, _, _, .tup h r, e => .tup (SqT.of h) (RpA.dps r e)
  | _, _, _, .lst h r, e => .lst (SqL.of h) (RpA.dps r e)
  | _, _, _, .frz h r, e => .lst h.seq (RpA.dps r e)
  | _, _, _, .dic _ _, h => nomatch h
  | _, _, _, .fdc _ _, h => nomatch h
  | _, _, _, .gho _ _ _, h => nomatch h
theorem RpA.dps {K : PySem.W.Frag} {H : Hp} : ∀ {F : List Addr} {v : List V} {d : List Val}, RpA K H F v d → Val.isDs d = true → DpAll K H v (Val.toDs d)
  | _, _, _, .nil, _ => .nil
  | _, _, _, .cons (d := d) (ds := ds) h r, e => by
    have e2 : (d.isD && Val.isDs ds) = true := e
    rw [Bool.and_eq_true] at e2
    exact .cons (Rp.dp h e2.1) (RpA.dps r e2.2)
end
def Val.okD (d : Val) : Prop := d.isD = true ∧ SeqAt.shaped d.toD = true
def fEqD (neg : Bool) : Val → Val → (Val → Prop) → Prop := fun d e Q => d.okD ∧ e.okD ∧ Q (.bl (neg != PyData.eqv d.toD e.toD))
theorem r2_neD {K : PySem.W.Frag} : R2S K (rNeD K) (fEqD true) := fun H x y d e F G Q R h1 h2 h k => by
  obtain ⟨h3, h4, h⟩ := h
  rw [Bool.true_bne] at h
  exact ⟨_, _, h1.dp h3.1, h2.dp h4.1, h3.2, h4.2, k _ _ (.bl _) h⟩
/-! chains, and, or, not -/
def wChain (g g' : Val → Val → (Val → Prop) → Prop) (wa wb wc : VW) : VW := fun env Q => wa env fun x env1 => wb env1 fun y env2 => g x y fun z => match z with
  | .bl k => if k = true then wc env2 fun u env3 => g' y u fun z => Q z env3 else Q (.bl false) env2
  | _ => False
theorem simE_chain {r r' : R2} {g g' : Val → Val → (Val → Prop) → Prop} (hr : R2S c.K r g) (hr' : R2S c.K r' g') (ha : SimE c ta sa fa ea wa) (hb : SimE c tb sb fb eb wb) (hc : SimE c tc sc fc ec wc) (hd : disj sa eb = true) (hd' : disj sb ec = true) (hm : sub ec c.ms = true) : SimE c (tChain r r' ta tb tc) [] (some []) (ea ++ eb ++ ec) (wChain g g' wa wb wc) := ⟨fun env σ H Fs Q R S h k =>
  ha.sim env σ H Fs _ _ S h fun x d F env1 H1 Fs1 o1 r1 s1 _ h1 => hb.sim env1 σ H1 Fs1 _ _ o1.sr h1 fun y e G env2 H2 Fs2 o2 r2 s2 _ h2 =>
    hr H2 x y d e F G _ _ (r1.eff o1.sr o2.ef s1 hd).1 r2 h2 fun v u ru q => by
      cases u <;> try exact q.elim
      cases ru
      rename_i k0
      refine ⟨k0, rfl, ?_⟩
      cases k0 with
      | true =>
        refine iteT (hc.sim env2 σ H2 Fs2 _ _ o2.sr q fun z m F3 env3 H3 Fs3 o3 r3 s3 _ h3 => ?_)
        exact hr' H3 y z e m G F3 Q _ (r2.eff o2.sr o3.ef s2 hd').1 r3 h3 fun v u ru q => k v u [] env3 H3 Fs3 ((o1.trans o2).trans o3) ru .nil .nil q
      | false => exact iteF (k _ (.bl false) [] env2 H2 Fs2 ((o1.trans o2).weak (fun j hj => List.mem_append_left _ hj) fun j hj => (List.mem_append.mp hj).elim ((o1.trans o2).ef.sub j) (sub_iff hm j)) (.bl false) .nil .nil q)⟩
def wAndV (wa wb : VW) : VW := fun env Q => wa env fun x env1 => match x with
  | .bl k => if k = true then wb env1 Q else Q (.bl false) env1
  | _ => False
theorem simE_andV (ha : SimE c ta sa fa ea wa) (hb : SimE c tb [] (some []) eb wb) (hm : sub eb c.ms = true) : SimE c (tAndV ta tb) [] (some []) (ea ++ eb) (wAndV wa wb) := ⟨fun env σ H Fs Q R S h k =>
  ha.sim env σ H Fs _ _ S h fun x d F env1 H1 Fs1 o1 r1 s1 f1 h1 => by
    clear f1
    cases d <;> try exact h1.elim
    cases r1
    rename_i k0
    refine ⟨k0, rfl, ?_⟩
    cases k0 with
    | true => exact iteT (hb.sim env1 σ H1 Fs1 _ _ o1.sr h1 fun y e G env2 H2 Fs2 o2 r2 s2 f2 h2 => k y e G env2 H2 Fs2 (o1.trans o2) r2 s2 (fun mv e => (f2 mv e).imp id fun z a ha => (z a ha).imp (o1.ef.gr a) id) h2)
    | false => exact iteF (k _ (.bl false) [] env1 H1 Fs1 (o1.weak (fun j hj => List.mem_append_left _ hj) fun j hj => (List.mem_append.mp hj).elim (o1.ef.sub j) (sub_iff hm j)) (.bl false) .nil .nil h1)⟩
def wNotV (wa : VW) : VW := fun env Q => wa env fun x env1 => match x with
  | .bl k => Q (.bl (!k)) env1
  | _ => False
theorem simE_notV (ha : SimE c ta sa fa ea wa) : SimE c (tNotV ta) [] (some []) ea (wNotV wa) := ⟨fun env σ H Fs Q R S h k =>
  ha.sim env σ H Fs _ _ S h fun x d F env1 H1 Fs1 o1 r1 s1 _ h1 => by
    cases d <;> try exact h1.elim
    cases r1
    exact ⟨_, rfl, k _ _ [] env1 H1 Fs1 o1 (.bl _) .nil .nil h1⟩⟩
/-! tests -/
variable {tA tB' : TT} {wA wB : VWT} {eA eB : List Nat}
def wTest (w : VW) : VWT := fun env Q => w env fun d env' => match d with
  | .bl b => Q b env'
  | _ => False
theorem simT_test (h : SimE c t s f e w) : SimT c (tTest t) e (wTest w) := ⟨fun env σ H Fs Q R S hw k => h.sim env σ H Fs _ _ S hw fun v d F env' H' Fs' o r _ _ q => by
  cases d <;> try exact q.elim
  cases r
  exact ⟨_, rfl, k _ env' H' Fs' o q⟩⟩
theorem simT_tB (h : SimE c t s f e w) : SimT c (L2.tB t) e (wTest w) := ⟨fun env σ H Fs Q R S hw k => h.sim env σ H Fs _ _ S hw fun v d F env' H' Fs' o r _ _ q => by
  cases d <;> try exact q.elim
  cases r
  exact ⟨_, rfl, k _ env' H' Fs' o q⟩⟩
def wNot (w : VWT) : VWT := fun env Q => w env fun b env' => Q (!b) env'
theorem simT_not (h : SimT c tA eA wA) : SimT c (tNot tA) eA (wNot wA) := ⟨fun env σ H Fs Q R S hw k => h.sim env σ H Fs _ _ S hw fun b env' H' Fs' o q => k _ env' H' Fs' o q⟩
def wAnd (w u : VWT) : VWT := fun env Q => w env fun b env' => if b = true then u env' Q else Q false env'
def wOr (w u : VWT) : VWT := fun env Q => w env fun b env' => if b = true then Q true env' else u env' Q
theorem simT_and (h : SimT c tA eA wA) (h2 : SimT c tB' eB wB) (hm : sub eB c.ms = true) : SimT c (tAnd tA tB') (eA ++ eB) (wAnd wA wB) := ⟨fun env σ H Fs Q R S hw k => h.sim env σ H Fs _ _ S hw fun b env' H' Fs' o q => by
  cases b with
  | true => exact iteT (h2.sim env' σ H' Fs' _ _ o.sr q fun b env2 H2 Fs2 o2 q2 => k b env2 H2 Fs2 (o.trans o2) q2)
  | false => exact iteF (k _ env' H' Fs' (o.weak (fun j hj => List.mem_append_left _ hj) fun j hj => (List.mem_append.mp hj).elim (o.ef.sub j) (sub_iff hm j)) q)⟩
theorem simT_or (h : SimT c tA eA wA) (h2 : SimT c tB' eB wB) (hm : sub eB c.ms = true) : SimT c (tOr tA tB') (eA ++ eB) (wOr wA wB) := ⟨fun env σ H Fs Q R S hw k => h.sim env σ H Fs _ _ S hw fun b env' H' Fs' o q => by
  cases b with
  | false => exact iteF (h2.sim env' σ H' Fs' _ _ o.sr q fun b env2 H2 Fs2 o2 q2 => k b env2 H2 Fs2 (o.trans o2) q2)
  | true => exact iteT (k _ env' H' Fs' (o.weak (fun j hj => List.mem_append_left _ hj) fun j hj => (List.mem_append.mp hj).elim (o.ef.sub j) (sub_iff hm j)) q)⟩
def wIf (wt : VWT) (wa wb : VW) : VW := fun env Q => wt env fun b env' => if b = true then wa env' Q else wb env' Q
theorem simE_if (h : SimT c tA eA wA) (ha : SimE c ta s f e wa) (hb : SimE c tb s f e wb) : SimE c (tIf tA ta tb) s f (eA ++ e) (wIf wA wa wb) := ⟨fun env σ H Fs Q R S hw k => h.sim env σ H Fs _ _ S hw fun b env' H' Fs' o q => by
  have fin : ∀ v d F env2 H2 Fs2, Ok0 c e σ H' Fs' env2 H2 Fs2 → Rp c.K H2 F v d → Src c.ms s F Fs2 → Frs f H' Fs2 F → R d env2 → Q v H2 := fun v d F env2 H2 Fs2 o2 r2 s2 f2 q2 => k v d F env2 H2 Fs2 (o.trans o2) r2 s2 (fun mv e => (f2 mv e).imp id fun z a ha => (z a ha).imp (o.ef.gr a) id) q2
  cases b with
  | true => exact iteT (ha.sim env' σ H' Fs' _ _ o.sr q fin)
  | false => exact iteF (hb.sim env' σ H' Fs' _ _ o.sr q fin)⟩
/-! a[i] -/
def wIxL (wa wb : VW) : VW := fun env Q => wa env fun x env1 => wb env1 fun y env2 => match x, y with
  | .lst xs, .int i => (match atI xs i with
    | some d => Q d env2
    | none => False)
  | _, _ => False
def wIxF (wa wb : VW) : VW := fun env Q => wa env fun x env1 => wb env1 fun y env2 => match x, y with
  | .frz xs, .int i => (match atI xs i with
    | some d => Q d env2
    | none => False)
  | _, _ => False
def wIxT (wa wb : VW) : VW := fun env Q => wa env fun x env1 => wb env1 fun y env2 => match x, y with
  | .tup xs, .int i => (match atI xs i with
    | some d => Q d env2
    | none => False)
  | _, _ => False
theorem atI_at {α : Type} {xs : List α} {i : Int} {d : α} (h : atI xs i = some d) : ∃ j : Nat, ixN xs.length i = some j ∧ xs[j]? = some d := by
  unfold atI at h
  cases e : ixN xs.length i with
  | none =>
    rw [e] at h
    cases h
  | some j =>
    rw [e] at h
    exact ⟨j, rfl, h⟩
theorem RpA.atI {K : PySem.W.Frag} {H : Hp} {F : List Addr} {vs : List V} {ds : List Val} {i : Int} {d : Val} (h : RpA K H F vs ds) (e : L2.atI ds i = some d) : ∃ v G, L2.atI vs i = some v ∧ Rp K H G v d ∧ (∀ a ∈ G, a ∈ F) ∧ (F.Nodup → G.Nodup) := by
  obtain ⟨j, h1, h2⟩ := atI_at e
  obtain ⟨v, G, h3, h4, h5, h6⟩ := h.get h2
  refine ⟨v, G, ?_, h4, h5, h6⟩
  unfold L2.atI
  rw [h.len, h1]
  exact h3
theorem simE_ixL (ha : SimE c ta sa fa ea wa) (hb : SimE c tb sb fb eb wb) (hd : disj sa eb = true) : SimE c (tOp (rIxL c.K) ta tb) sa none (ea ++ eb) (wIxL wa wb) := ⟨fun env σ H Fs Q R S h k =>
  ha.sim env σ H Fs _ _ S h fun x d F env1 H1 Fs1 o1 r1 s1 f1 h1 => hb.sim env1 σ H1 Fs1 _ _ o1.sr h1 fun y e G env2 H2 Fs2 o2 r2 s2 f2 h2 => by
    obtain ⟨r1', s1'⟩ := r1.eff o1.sr o2.ef s1 hd
    clear f1 f2 h1 h
    cases d <;> try exact h2.elim
    cases e <;> try exact h2.elim
    rename_i xs i
    cases r2
    cases hi : atI xs i with
    | none =>
      simp only [hi] at h2
    | some d =>
      simp only [hi] at h2
      cases r1' with
      | lst hp rr =>
        obtain ⟨v, G, g1, g2, g3, _⟩ := rr.atI hi
        exact ⟨_, _, i, v, rfl, rfl, SqL.of hp, g1, k v d G env2 H2 Fs2 (o1.trans o2) g2 (fun a ha => s1' a (List.mem_cons_of_mem _ (g3 a ha))) .no h2⟩⟩
theorem simE_ixT (ha : SimE c ta sa fa ea wa) (hb : SimE c tb sb fb eb wb) (hd : disj sa eb = true) : SimE c (tOp (rIxT c.K) ta tb) sa none (ea ++ eb) (wIxT wa wb) := ⟨fun env σ H Fs Q R S h k =>
  ha.sim env σ H Fs _ _ S h fun x d F env1 H1 Fs1 o1 r1 s1 f1 h1 => hb.sim env1 σ H1 Fs1 _ _ o1.sr h1 fun y e G env2 H2 Fs2 o2 r2 s2 f2 h2 => by
    obtain ⟨r1', s1'⟩ := r1.eff o1.sr o2.ef s1 hd
    clear f1 f2 h1 h
    cases d <;> try exact h2.elim
    cases e <;> try exact h2.elim
    rename_i xs i
    cases r2
    cases hi : atI xs i with
    | none =>
      simp only [hi] at h2
    | some d =>
      simp only [hi] at h2
      cases r1' with
      | tup hp rr =>
        obtain ⟨v, G, g1, g2, g3, _⟩ := rr.atI hi
        exact ⟨_, _, i, v, rfl, rfl, SqT.of hp, g1, k v d G env2 H2 Fs2 (o1.trans o2) g2 (fun a ha => s1' a (g3 a ha)) .no h2⟩⟩
theorem simE_ixF (ha : SimE c ta sa fa ea wa) (hb : SimE c tb sb fb eb wb) (hd : disj sa eb = true) : SimE c (tOp (rIxL c.K) ta tb) sa none (ea ++ eb) (wIxF wa wb) := ⟨fun env σ H Fs Q R S h k =>
  ha.sim env σ H Fs _ _ S h fun x d F env1 H1 Fs1 o1 r1 s1 f1 h1 => hb.sim env1 σ H1 Fs1 _ _ o1.sr h1 fun y e G env2 H2 Fs2 o2 r2 s2 f2 h2 => by
    obtain ⟨r1', s1'⟩ := r1.eff o1.sr o2.ef s1 hd
    clear f1 f2 h1 h
    cases d <;> try exact h2.elim
    cases e <;> try exact h2.elim
    rename_i xs i
    cases r2
    cases hi : atI xs i with
    | none =>
      simp only [hi] at h2
    | some d =>
      simp only [hi] at h2
      cases r1' with
      | frz hp rr =>
        obtain ⟨v, G, g1, g2, g3, _⟩ := rr.atI hi
        exact ⟨_, _, i, v, rfl, rfl, hp.seq, g1, k v d G env2 H2 Fs2 (o1.trans o2) g2 (fun a ha => s1' a (g3 a ha)) .no h2⟩⟩
end
/-! ### arguments -/
inductive Arg where
  | v (src : List Nat)
  | o (i : Nat)
def Arg.src : Arg → List Nat
  | .v s => s
  | .o i => [i]
inductive RpL (c : Vc) (σ : L2.St) (H : Hp) (Fs : Fp) : List Arg → List (List Addr) → List V → List Val → Prop where
  | nil : RpL c σ H Fs [] [] [] []
  | consV {s : List Nat} {G : List Addr} {v : V} {d : Val} {as : List Arg} {Gs : List (List Addr)} {vs : List V} {ds : List Val} : Rp c.K H G v d → Src c.ms s G Fs → RpL c σ H Fs as Gs vs ds → RpL c σ H Fs (.v s :: as) (G :: Gs) (v :: vs) (d :: ds)
  | consO {i : Nat} {v : V} {d : Val} {as : List Arg} {Gs : List (List Addr)} {vs : List V} {ds : List Val} : i ∈ c.ms → SlV c.N σ i v → Rp c.K H (Fs i) v d → RpL c σ H Fs as Gs vs ds → RpL c σ H Fs (.o i :: as) (Fs i :: Gs) (v :: vs) (d :: ds)
theorem RpL.rpa {c : Vc} {σ : L2.St} {H : Hp} {Fs : Fp} : ∀ {as : List Arg} {Gs : List (List Addr)} {vs : List V} {ds : List Val}, RpL c σ H Fs as Gs vs ds → RpA c.K H Gs.flatten vs ds
  | _, _, _, _, .nil => .nil
  | _, _, _, _, .consV r _ t => .cons r t.rpa
  | _, _, _, _, .consO _ _ r t => .cons r t.rpa
theorem RpL.len {c : Vc} {σ : L2.St} {H : Hp} {Fs : Fp} : ∀ {as : List Arg} {Gs : List (List Addr)} {vs : List V} {ds : List Val}, RpL c σ H Fs as Gs vs ds → vs.length = as.length
  | _, _, _, _, .nil => rfl
  | _, _, _, _, .consV _ _ t => congrArg (· + 1) t.len
  | _, _, _, _, .consO _ _ _ t => congrArg (· + 1) t.len
theorem Sr.srcO {c : Vc} {env : VEnv} {σ : L2.St} {H : Hp} {Fs : Fp} (S : Sr c env σ H Fs) (i : Nat) : Src c.ms [i] (Fs i) Fs := fun a ha j hj n z => S.sep j hj i (fun q => n (List.mem_singleton.mpr q.symm)) a z ha
theorem RpL.src {c : Vc} {env : VEnv} {σ : L2.St} {H : Hp} {Fs : Fp} (S : Sr c env σ H Fs) : ∀ {as : List Arg} {Gs : List (List Addr)} {vs : List V} {ds : List Val}, RpL c σ H Fs as Gs vs ds → Src c.ms (as.flatMap Arg.src) Gs.flatten Fs
  | _, _, _, _, .nil => .nil
  | _, _, _, _, .consV (s := s) (as := as) _ q t => fun a ha j hj n => by
    rw [List.flatMap_cons] at n
    rcases List.mem_append.mp (by rw [List.flatten_cons] at ha; exact ha) with z | z
    · exact q a z j hj fun y => n (List.mem_append_left _ y)
    · exact RpL.src S t a z j hj fun y => n (List.mem_append_right _ y)
  | _, _, _, _, .consO (i := i) (as := as) _ _ _ t => fun a ha j hj n => by
    rw [List.flatMap_cons] at n
    rcases List.mem_append.mp (by rw [List.flatten_cons] at ha; exact ha) with z | z
    · exact S.srcO i a z j hj fun y => n (List.mem_append_left _ y)
    · exact RpL.src S t a z j hj fun y => n (List.mem_append_right _ y)
structure SimA (c : Vc) (t : TA) (as : List Arg) (fr : Option (List Nat)) (eff : List Nat) (w : VWA) : Prop where
  sim : ∀ (env : VEnv) (σ : L2.St) (H : Hp) (Fs : Fp) (Q : List V → Hp → Prop) (R : List Val → VEnv → Prop), Sr c env σ H Fs → w env R →
    (∀ vs ds Gs env' H' Fs', Ok0 c eff σ H Fs env' H' Fs' → RpL c σ H' Fs' as Gs vs ds → Frs fr H Fs' Gs.flatten → R ds env' → Q vs H') → t σ H Q
section
variable {c : Vc} {t : TE} {tr : TA} {s : List Nat} {f f2 : Option (List Nat)} {e e2 m1 m2 : List Nat} {w : VW} {as : List Arg} {w2 : VWA}
def wNil : VWA := fun env Q => Q [] env
def wCons (w : VW) (w2 : VWA) : VWA := fun env Q => w env fun d env1 => w2 env1 fun ds env2 => Q (d :: ds) env2
theorem simA_nil : SimA c tNil [] (some []) [] wNil := ⟨fun env σ H Fs Q R S h k => k [] [] [] env H Fs (.refl S) .nil .nil h⟩
theorem simA_cons (h1 : SimE c t s f e w) (h2 : SimA c tr as f2 e2 w2) (hd : disj s e2 = true) : SimA c (tCons t tr) (.v s :: as) none (e ++ e2) (wCons w w2) := ⟨fun env σ H Fs Q R S h k =>
  h1.sim env σ H Fs _ _ S h fun v d F env1 H1 Fs1 o1 r1 s1 _ q1 => h2.sim env1 σ H1 Fs1 _ _ o1.sr q1 fun vs ds Gs env2 H2 Fs2 o2 r2 _ q2 =>
    have z := r1.eff o1.sr o2.ef s1 hd
    k (v :: vs) (d :: ds) (F :: Gs) env2 H2 Fs2 (o1.trans o2) (.consV z.1 z.2 r2) .no q2⟩
theorem simA_consF (h1 : SimE c t s (some m1) e w) (h2 : SimA c tr as (some m2) e2 w2) (hd : disj s e2 = true) (hm : disj s m2 = true) (hm1 : disj m1 e2 = true) (hs1 : sub m1 c.ms = true) (hs2 : sub m2 c.ms = true) : SimA c (tCons t tr) (.v s :: as) (some (m1 ++ m2)) (e ++ e2) (wCons w w2) := ⟨fun env σ H Fs Q R S h k =>
  h1.sim env σ H Fs _ _ S h fun v d F env1 H1 Fs1 o1 r1 s1 f1 q1 => h2.sim env1 σ H1 Fs1 _ _ o1.sr q1 fun vs ds Gs env2 H2 Fs2 o2 r2 f2 q2 => by
    have z := r1.eff o1.sr o2.ef s1 hd
    refine k (v :: vs) (d :: ds) (F :: Gs) env2 H2 Fs2 (o1.trans o2) (.consV z.1 z.2 r2) (fun mv e => ?_) q2
    cases e
    obtain ⟨n1, g1⟩ := f1 m1 rfl
    obtain ⟨n2, g2⟩ := f2 m2 rfl
    rw [List.flatten_cons]
    refine ⟨List.nodup_append.mpr ⟨n1, n2, fun a ha b hb ab => ?_⟩, fun a ha => ?_⟩
    · subst ab
      rcases g2 a hb with y | ⟨j, hj, y⟩
      · exact (r1.mutb a ha).ex y
      · exact z.2 a ha j (sub_iff hs2 j hj) (fun q => disj_iff hm q hj) y
    · rcases List.mem_append.mp ha with y | y
      · rcases g1 a y with x | ⟨j, hj, x⟩
        · exact .inl x
        · refine .inr ⟨j, List.mem_append_left _ hj, ?_⟩
          rw [o2.ef.out j (sub_iff hs1 j hj) (disj_iff hm1 hj)]
          exact x
      · rcases g2 a y with x | ⟨j, hj, x⟩
        · exact .inl (o1.ef.gr a x)
        · exact .inr ⟨j, List.mem_append_right _ hj, x⟩⟩
/-- a name among the arguments: it is read behind the others -/
def wVarA (i : Nat) (w2 : VWA) : VWA := fun env Q => match env[i]? with
  | some (some _) => w2 env fun ds env' => (match env'[i]? with
    | some (some d) => Q (d :: ds) env'
    | _ => False)
  | _ => False
theorem wVarA_is {i : Nat} {env : VEnv} {Q : List Val → VEnv → Prop} (h : wVarA i w2 env Q) : ∃ d, env[i]? = some (some d) ∧ w2 env fun ds env' => (match env'[i]? with
    | some (some d) => Q (d :: ds) env'
    | _ => False) := by
  unfold wVarA at h
  split at h
  · exact ⟨_, ‹_›, h⟩
  · exact h.elim
theorem varA_is {i : Nat} {env : VEnv} {ds : List Val} {Q : List Val → VEnv → Prop} (h : match env[i]? with
    | some (some d) => Q (d :: ds) env
    | _ => False) : ∃ d, env[i]? = some (some d) ∧ Q (d :: ds) env := by
  split at h
  · exact ⟨_, ‹_›, h⟩
  · exact h.elim
theorem simA_var {i : Nat} (hi : c.ms.contains i = false) (h2 : SimA c tr as f2 e2 w2) (hN : Nat.blt i c.N = true := by rfl) : SimA c (tCons (tVar i) tr) (.v [] :: as) none e2 (wVarA i w2) := ⟨fun env σ H Fs Q R S h k => by
  obtain ⟨d0, hd0, h⟩ := wVarA_is h
  obtain ⟨v, hv, _⟩ := S.at_ i d0 hd0
  have hv := hv.1 (lt_of_blt hN)
  have n : i ∉ c.ms := fun z => by simp [z] at hi
  refine ⟨v, hv, h2.sim env σ H Fs _ _ S h fun vs ds Gs env2 H2 Fs2 o2 r2 _ q2 => ?_⟩
  obtain ⟨d, hd, q⟩ := varA_is q2
  obtain ⟨v', hv', r⟩ := o2.sr.at_ i d hd
  have hv' := hv'.1 (lt_of_blt hN)
  rw [hv] at hv'
  cases hv'
  exact k _ _ (Fs2 i :: Gs) env2 H2 Fs2 o2 (.consV r (fun a ha j hj _ z => o2.sr.sep j hj i (fun q => n (q ▸ hj)) a z ha) r2) .no q⟩
def hdFlat : List Val → Prop
  | d :: _ => d.flat = true
  | [] => False
def wVarF (i : Nat) (w2 : VWA) : VWA := fun env Q => wVarA i w2 env fun ds env' => hdFlat ds ∧ Q ds env'
theorem simA_varF {i : Nat} (h2 : SimA c tr as (some m2) e2 w2) (hN : Nat.blt i c.N = true := by rfl) : SimA c (tCons (tVar i) tr) (.v [] :: as) (some m2) e2 (wVarF i w2) := ⟨fun env σ H Fs Q R S h k => by
  obtain ⟨d0, hd0, h⟩ := wVarA_is h
  obtain ⟨v, hv, _⟩ := S.at_ i d0 hd0
  have hv := hv.1 (lt_of_blt hN)
  refine ⟨v, hv, h2.sim env σ H Fs _ _ S h fun vs ds Gs env2 H2 Fs2 o2 r2 f2 q2 => ?_⟩
  obtain ⟨d, hd, hf, q⟩ := varA_is (Q := fun ds env' => hdFlat ds ∧ R ds env') q2
  obtain ⟨v', hv', r⟩ := o2.sr.at_ i d hd
  have hv' := hv'.1 (lt_of_blt hN)
  rw [hv] at hv'
  cases hv'
  have z := r.flat hf
  rw [z] at r
  exact k _ _ ([] :: Gs) env2 H2 Fs2 o2 (.consV r .nil r2) (fun mv e => by
    rw [List.flatten_cons, List.nil_append]
    exact f2 mv e) q⟩
theorem simA_own {i : Nat} (hi : c.ms.contains i = true) (h2 : SimA c tr as f2 e2 w2) (hN : Nat.blt i c.N = true := by rfl) : SimA c (tCons (tVar i) tr) (.o i :: as) none e2 (wVarA i w2) := ⟨fun env σ H Fs Q R S h k => by
  obtain ⟨d0, hd0, h⟩ := wVarA_is h
  obtain ⟨v, hv, _⟩ := S.at_ i d0 hd0
  have hv := hv.1 (lt_of_blt hN)
  refine ⟨v, hv, h2.sim env σ H Fs _ _ S h fun vs ds Gs env2 H2 Fs2 o2 r2 _ q2 => ?_⟩
  obtain ⟨d, hd, q⟩ := varA_is q2
  obtain ⟨v', hv', r⟩ := o2.sr.at_ i d hd
  have hv' := hv'.1 (lt_of_blt hN)
  rw [hv] at hv'
  cases hv'
  exact k _ _ (Fs2 i :: Gs) env2 H2 Fs2 o2 (.consO (by simpa using hi) (.of (lt_of_blt hN) hv) r r2) .no q⟩
end
section
variable {c : Vc} {ta : TA} {as : List Arg} {f : Option (List Nat)} {e mv : List Nat} {w : VWA}
theorem small1000 {n : Nat} (h : n ≤ 1000) : n ≤ sizeLine := small_le (by omega)
/-! tuples and lists as they are written -/
def wTup (w : VWA) : VW := fun env Q => w env fun ds env' => Q (.tup ds) env'
def wLst (w : VWA) : VW := fun env Q => w env fun ds env' => Q (.lst ds) env'
theorem simE_tup (h : SimA c ta as f e w) (hl : as.length ≤ 1000) : SimE c (tTup ta) (as.flatMap Arg.src) f e (wTup w) := ⟨fun env σ H Fs Q R S hw k =>
  h.sim env σ H Fs _ _ S hw fun vs ds Gs env' H' Fs' o r fr q => ⟨small1000 (by rw [r.len]; exact hl), fun p np => by
    obtain ⟨gp, sp⟩ := upd_at (o := .tup vs) np
    exact k _ _ Gs.flatten env' _ Fs' (o.grow sp) (.tup gp (r.rpa.same sp)) (r.src o.sr) fr q⟩⟩
theorem simE_lst (h : SimA c ta as f e w) (hl : as.length ≤ 1000) : SimE c (tLst ta) (as.flatMap Arg.src) f e (wLst w) := ⟨fun env σ H Fs Q R S hw k =>
  h.sim env σ H Fs _ _ S hw fun vs ds Gs env' H' Fs' o r fr q => ⟨small1000 (by rw [r.len]; exact hl), fun p np => by
    obtain ⟨gp, sp⟩ := upd_at (o := .lst vs) np
    have fresh : p ∉ Gs.flatten := fun z => (r.rpa.mutb p z).ex np
    refine k _ _ (p :: Gs.flatten) env' _ Fs' (o.grow sp) (.lst gp (r.rpa.same sp)) (fun a ha j hj n z => ?_) (fun mv e => ?_) q
    · rcases List.mem_cons.mp ha with y | y
      · subst y
        exact (o.sr.mutb j a z).ex np
      · exact r.src o.sr a y j hj n z
    · obtain ⟨n1, g1⟩ := fr mv e
      refine ⟨List.nodup_cons.mpr ⟨fresh, n1⟩, fun a ha => ?_⟩
      rcases List.mem_cons.mp ha with y | y
      · subst y
        exact .inl (o.ef.gr a np)
      · exact g1 a y⟩⟩
/-! built-in functions whose outcome holds no list -/
def CBS (c : Vc) (r : List V → Hp → VK → Prop) (g : List Val → (Val → Prop) → Prop) : Prop := ∀ (σ : L2.St) (H : Hp) (Fs : Fp) (as : List Arg) (Gs : List (List Addr)) (vs : List V) (ds : List Val) (Q : VK) (R : Val → Prop), RpL c σ H Fs as Gs vs ds → g ds R → (∀ v u, Rp c.K H [] v u → R u → Q v H) → r vs H Q
def wCB (g : List Val → (Val → Prop) → Prop) (w : VWA) : VW := fun env Q => w env fun ds env' => g ds fun z => Q z env'
theorem simE_cb {r : List V → Hp → VK → Prop} {g : List Val → (Val → Prop) → Prop} (hr : CBS c r g) (h : SimA c ta as f e w) : SimE c (tCB r ta) [] (some []) e (wCB g w) := ⟨fun env σ H Fs Q R S hw k =>
  h.sim env σ H Fs _ _ S hw fun vs ds Gs env' H' Fs' o r fr q => hr σ H' Fs' as Gs vs ds Q _ r q fun v u ru z => k v u [] env' H' Fs' o ru .nil .nil z⟩
theorem RpL.one {c : Vc} {σ : L2.St} {H : Hp} {Fs : Fp} {as : List Arg} {Gs : List (List Addr)} {vs : List V} {d : Val} (h : RpL c σ H Fs as Gs vs [d]) : ∃ v F, vs = [v] ∧ Rp c.K H F v d := by
  cases h with
  | consV r _ t =>
    cases t
    exact ⟨_, _, rfl, r⟩
  | consO _ _ r t =>
    cases t
    exact ⟨_, _, rfl, r⟩
theorem RpL.two {c : Vc} {σ : L2.St} {H : Hp} {Fs : Fp} {as : List Arg} {Gs : List (List Addr)} {vs : List V} {d d' : Val} (h : RpL c σ H Fs as Gs vs [d, d']) : ∃ v v' F F', vs = [v, v'] ∧ Rp c.K H F v d ∧ Rp c.K H F' v' d' := by
  cases h with
  | consV r _ t =>
    obtain ⟨v', F', e, r'⟩ := t.one
    subst e
    exact ⟨_, _, _, _, rfl, r, r'⟩
  | consO _ _ r t =>
    obtain ⟨v', F', e, r'⟩ := t.one
    subst e
    exact ⟨_, _, _, _, rfl, r, r'⟩
theorem Rp.asL {K : PySem.W.Frag} {H : Hp} {F : List Addr} {v : V} {ds : List Val} (h : Rp K H F v (.lst ds)) : ∃ l vs G, v = .ref l ∧ H l = some (.lst vs) ∧ RpA K H G vs ds ∧ F = l :: G := by
  cases h with
  | lst h r => exact ⟨_, _, _, rfl, h, r, rfl⟩
theorem Rp.asF {K : PySem.W.Frag} {H : Hp} {F : List Addr} {v : V} {ds : List Val} (h : Rp K H F v (.frz ds)) : ∃ l vs, v = .ref l ∧ SqL K H l vs ∧ RpA K H F vs ds := by
  cases h with
  | frz h r => exact ⟨_, _, rfl, h.seq, r⟩
theorem Rp.asT {K : PySem.W.Frag} {H : Hp} {F : List Addr} {v : V} {ds : List Val} (h : Rp K H F v (.tup ds)) : ∃ l vs, v = .ref l ∧ SqT K H l vs ∧ RpA K H F vs ds := by
  cases h with
  | tup h r => exact ⟨_, _, rfl, SqT.of h, r⟩
def gLen : List Val → (Val → Prop) → Prop
  | [.lst xs], Q => Q (.int xs.length)
  | [.tup xs], Q => Q (.int xs.length)
  | [.frz xs], Q => Q (.int xs.length)
  | _, _ => False
theorem cb_len : CBS c (fun xs H Q => ∃ p ys, xs = [.ref p] ∧ (SqL c.K H p ys ∨ SqT c.K H p ys) ∧ Q (.int ys.length) H) gLen := fun σ H Fs as Gs vs ds Q R r h k => by
  unfold gLen at h
  split at h
  · obtain ⟨v, F, e1, r1⟩ := r.one
    obtain ⟨l, us, G, e2, hs, ra, _⟩ := r1.asL
    subst e1 e2
    exact ⟨l, us, rfl, .inl (SqL.of hs), k _ _ (.int _) (by rw [ra.len]; exact h)⟩
  · obtain ⟨v, F, e1, r1⟩ := r.one
    obtain ⟨l, us, e2, hs, ra⟩ := r1.asT
    subst e1 e2
    exact ⟨l, us, rfl, .inr hs, k _ _ (.int _) (by rw [ra.len]; exact h)⟩
  · obtain ⟨v, F, e1, r1⟩ := r.one
    obtain ⟨l, us, e2, hs, ra⟩ := r1.asF
    subst e1 e2
    exact ⟨l, us, rfl, .inl hs, k _ _ (.int _) (by rw [ra.len]; exact h)⟩
  · exact h.elim
/-- isinstance -/
def Val.tyn : Val → String
  | .non => "NoneType"
  | .bl _ => "bool"
  | .int _ => "int"
  | .str _ => "str"
  | .tup _ => "tuple"
  | .lst _ => "list"
  | .frz _ => "list"
  | .dic _ => "dict"
  | .fdc _ => "dict"
  | .gho _ => "NoneType"
  | _ => "?"
def gIsi : List Val → (Val → Prop) → Prop
  | [d, .ty n], Q => (match d with
    | .ty _ => False
    | .opq _ => False
    | .exc _ => False
    | _ => (match kitB d.tyn n with
      | some b => Q (.bl b)
      | none => False))
  | _, _ => False
theorem tyx_of {K : PySem.W.Frag} {H : Hp} {F : List Addr} {v : V} {d : Val} (h : Rp K H F v d) (h1 : ∀ n, d ≠ .ty n) (h2 : ∀ n, d ≠ .opq n) (h3 : ∀ n, d ≠ .exc n) : TyX K H v (.type d.tyn) := by
  cases h with
  | non => exact .base .non
  | bl b => exact .base (.bl b)
  | int b => exact .base (.int b)
  | str b => exact .base (.str b)
  | ty b => exact absurd rfl (h1 b)
  | opq b => exact absurd rfl (h2 b)
  | exc _ => exact absurd rfl (h3 _)
  | tup h r => exact .base (.tup h)
  | lst h r => exact .base (.lst h)
  | frz h r =>
    rcases h with ⟨o, h⟩ | ⟨o, _, _, h, h', _⟩
    · exact .base (.frz h)
    · exact .kList h h'
  | dic h r => exact .base (.dK h)
  | fdc h r => exact .fDict h
  | gho _ _ _ => exact .base .non
theorem gIsi_is {ds : List Val} {Q : Val → Prop} (h : gIsi ds Q) : ∃ d n b, ds = [d, .ty n] ∧ (∀ n, d ≠ .ty n) ∧ (∀ n, d ≠ .opq n) ∧ (∀ n, d ≠ .exc n) ∧ kitB d.tyn n = some b ∧ Q (.bl b) := by
  unfold gIsi at h
  split at h
  · rename_i d n
    have z : (∀ n, d ≠ .ty n) ∧ (∀ n, d ≠ .opq n) ∧ (∀ n, d ≠ .exc n) ∧ (match kitB d.tyn n with
      | some b => Q (.bl b)
      | none => False) := by
      split at h
      · exact h.elim
      · exact h.elim
      · exact h.elim
      · rename_i h1 h2 h3
        exact ⟨fun n => h1 n, fun n => h2 n, fun n => h3 n, h⟩
    obtain ⟨h1, h2, h0, h3⟩ := z
    split at h3
    · exact ⟨d, n, _, rfl, h1, h2, h0, ‹_›, h3⟩
    · exact h3.elim
  · exact h.elim
theorem cb_isi : CBS c (rIsi c.K) gIsi := fun σ H Fs as Gs vs ds Q R r h k => by
  obtain ⟨d, n, b, rfl, h1, h2, h0, h3, h4⟩ := gIsi_is h
  obtain ⟨v, v', F, F', e, r1, r2⟩ := r.two
  subst e
  cases r2
  exact ⟨v, _, _, _, b, rfl, .ty n, tyx_of r1 h1 h2 h0, kit_ty h3, k _ _ (.bl b) h4⟩
end
/-! ### statements over values -/
theorem ne_mem {l : List Nat} {i j : Nat} (h : j ∈ l) (n : i ∉ l) : j ≠ i := fun z => n (by rw [← z]; exact h)
structure VEnds where
  nx : VEnv → Prop
  rt : Val → VEnv → Prop
  bk : VEnv → Prop := fun _ => False
  ct : VEnv → Prop := fun _ => False
abbrev VWS := VEnds → VEnv → Prop
structure Ok2 (c : Vc) (fx E : List Nat) (σ : L2.St) (H : Hp) (Fs : Fp) (env' : VEnv) (σ' : L2.St) (H' : Hp) (Fs' : Fp) : Prop where
  sr : Sr c env' σ' H' Fs'
  ef : Eff c.ms E Fs H Fs' H'
  fx : ∀ i ∈ fx, σ'[i]? = σ[i]?
theorem Ok2.trans {c : Vc} {fx E : List Nat} {σ σ1 σ2 : L2.St} {H H1 H2 : Hp} {Fs Fs1 Fs2 : Fp} {env1 env2 : VEnv} (a : Ok2 c fx E σ H Fs env1 σ1 H1 Fs1) (b : Ok2 c fx E σ1 H1 Fs1 env2 σ2 H2 Fs2) : Ok2 c fx E σ H Fs env2 σ2 H2 Fs2 :=
  ⟨b.sr, (a.ef.trans b.ef).mono (fun j hj => (List.mem_append.mp hj).elim id id) a.ef.sub, fun i hi => (b.fx i hi).trans (a.fx i hi)⟩
theorem Ok2.weak {c : Vc} {fx E E' : List Nat} {σ σ1 : L2.St} {H H1 : Hp} {Fs Fs1 : Fp} {env1 : VEnv} (a : Ok2 c fx E σ H Fs env1 σ1 H1 Fs1) (h : ∀ j ∈ E, j ∈ E') (h' : ∀ j ∈ E', j ∈ c.ms) : Ok2 c fx E' σ H Fs env1 σ1 H1 Fs1 := ⟨a.sr, a.ef.mono h h', a.fx⟩
theorem Ok0.ok2 {c : Vc} {e E fx : List Nat} {σ : L2.St} {H H1 : Hp} {Fs Fs1 : Fp} {env1 : VEnv} (a : Ok0 c e σ H Fs env1 H1 Fs1) (h : sub e E = true) (hE : sub E c.ms = true) : Ok2 c fx E σ H Fs env1 σ H1 Fs1 := ⟨a.sr, a.ef.mono (sub_iff h) (sub_iff hE), fun _ _ => rfl⟩
/-- what a value handed back is: its lists are new, or own ones of lo -/
structure RtOk (c : Vc) (lo : List Nat) (H : Hp) (F : List Addr) (v : V) (d : Val) (H' : Hp) (Fs' : Fp) : Prop where
  rp : Rp c.K H' F v d
  sc : Src c.ms lo F Fs'
  fs : c.al = false → Frs (some lo) H Fs' F
theorem RtOk.back {c : Vc} {lo : List Nat} {H H1 : Hp} {F : List Addr} {v : V} {d : Val} {H' : Hp} {Fs' : Fp} (h : RtOk c lo H1 F v d H' Fs') (g : ∀ a, H1 a = none → H a = none) : RtOk c lo H F v d H' Fs' :=
  ⟨h.rp, h.sc, fun ha mv e => (h.fs ha mv e).imp id fun z a ha => (z a ha).imp (g a) id⟩
structure SimS (c : Vc) (fx lo E : List Nat) (t : TS) (w : VWS) : Prop where
  sim : ∀ (env : VEnv) (σ : L2.St) (H : Hp) (Fs : Fp) (D : Ends) (R : VEnds), Sr c env σ H Fs → w R env →
    (∀ env' σ' H' Fs', Ok2 c fx E σ H Fs env' σ' H' Fs' → R.nx env' → D.nx σ' H') →
    (∀ env' σ' H' Fs', Ok2 c fx E σ H Fs env' σ' H' Fs' → R.bk env' → D.bk σ' H') →
    (∀ env' σ' H' Fs', Ok2 c fx E σ H Fs env' σ' H' Fs' → R.ct env' → D.ct σ' H') →
    (∀ v d F env' σ' H' Fs', Ok2 c fx E σ H Fs env' σ' H' Fs' → RtOk c lo H F v d H' Fs' → R.rt d env' → D.rt v H') → t D σ H
section
variable {c : Vc} {fx lo E E' : List Nat} {t u : TS} {w w' : VWS} {te : TE} {s e : List Nat} {f : Option (List Nat)} {we : VW} {tt : TT} {wt : VWT}
def wNext : VWS := fun R env => R.nx env
def wSeq (w w' : VWS) : VWS := fun R env => w { R with nx := w' R } env
def wCut (w w' : VWS) : VWS := fun R env => ∃ M : VEnv → Prop, w { R with nx := M } env ∧ ∀ env', M env' → w' R env'
theorem Ok2.refl {σ : L2.St} {H : Hp} {Fs : Fp} {env : VEnv} (S : Sr c env σ H Fs) (hE : sub E c.ms = true) : Ok2 c fx E σ H Fs env σ H Fs := (Ok0.refl S).ok2 rfl hE
theorem simS_next (hE : sub E c.ms = true) : SimS c fx lo E tNext wNext := ⟨fun env σ H Fs D R S h n _ _ _ => n env σ H Fs (.refl S hE) h⟩
theorem simS_seq (h1 : SimS c fx lo E t w) (h2 : SimS c fx lo E u w') : SimS c fx lo E (tSeq t u) (wSeq w w') := ⟨fun env σ H Fs D R S h n b ct rt =>
  h1.sim env σ H Fs _ { R with nx := w' R } S h (fun env1 σ1 H1 Fs1 o q => h2.sim env1 σ1 H1 Fs1 D R o.sr q (fun env2 σ2 H2 Fs2 o2 => n env2 σ2 H2 Fs2 (o.trans o2)) (fun env2 σ2 H2 Fs2 o2 => b env2 σ2 H2 Fs2 (o.trans o2)) (fun env2 σ2 H2 Fs2 o2 => ct env2 σ2 H2 Fs2 (o.trans o2))
    fun v d F env2 σ2 H2 Fs2 o2 r => rt v d F env2 σ2 H2 Fs2 (o.trans o2) (r.back o.ef.gr)) b ct rt⟩
theorem simS_cut (h1 : SimS c fx lo E t w) (h2 : SimS c fx lo E u w') : SimS c fx lo E (tSeq t u) (wCut w w') := ⟨fun env σ H Fs D R S h n b ct rt => by
  obtain ⟨M, h, h'⟩ := h
  exact h1.sim env σ H Fs _ { R with nx := M } S h (fun env1 σ1 H1 Fs1 o q => h2.sim env1 σ1 H1 Fs1 D R o.sr (h' _ q) (fun env2 σ2 H2 Fs2 o2 => n env2 σ2 H2 Fs2 (o.trans o2)) (fun env2 σ2 H2 Fs2 o2 => b env2 σ2 H2 Fs2 (o.trans o2)) (fun env2 σ2 H2 Fs2 o2 => ct env2 σ2 H2 Fs2 (o.trans o2))
    fun v d F env2 σ2 H2 Fs2 o2 r => rt v d F env2 σ2 H2 Fs2 (o.trans o2) (r.back o.ef.gr)) b ct rt⟩
theorem SimS.weak (h1 : SimS c fx lo E' t w) (hs : sub E' E = true) (hE : sub E c.ms = true) : SimS c fx lo E t w := ⟨fun env σ H Fs D R S h n b ct rt =>
  h1.sim env σ H Fs D R S h (fun env2 σ2 H2 Fs2 o2 => n env2 σ2 H2 Fs2 (o2.weak (sub_iff hs) (sub_iff hE))) (fun env2 σ2 H2 Fs2 o2 => b env2 σ2 H2 Fs2 (o2.weak (sub_iff hs) (sub_iff hE))) (fun env2 σ2 H2 Fs2 o2 => ct env2 σ2 H2 Fs2 (o2.weak (sub_iff hs) (sub_iff hE)))
    fun v d F env2 σ2 H2 Fs2 o2 r => rt v d F env2 σ2 H2 Fs2 (o2.weak (sub_iff hs) (sub_iff hE)) r⟩
def wRet (we : VW) : VWS := fun R env => we env R.rt
theorem simS_ret {mv : List Nat} (h : SimE c te s (some mv) e we) (he : sub e E = true) (hE : sub E c.ms = true) (hs : sub s lo = true) (hm : sub mv lo = true) : SimS c fx lo E (tRet te) (wRet we) := ⟨fun env σ H Fs D R S hw n b ct rt =>
  h.sim env σ H Fs _ _ S hw fun v d F env1 H1 Fs1 o r sr fr q => rt v d F env1 σ H1 Fs1 (o.ok2 he hE) ⟨r, sr.mono (sub_iff hs), fun _ mv' e' => by
    cases e'
    obtain ⟨z1, z2⟩ := fr mv rfl
    refine ⟨z1, fun a ha => (z2 a ha).imp id fun ⟨j, hj, y⟩ => ⟨j, sub_iff hm j hj, y⟩⟩⟩ q⟩
def wDrop (we : VW) : VWS := fun R env => we env fun _ env' => R.nx env'
theorem simS_expr (h : SimE c te s f e we) (he : sub e E = true) (hE : sub E c.ms = true) : SimS c fx lo E (tDrop te) (wDrop we) := ⟨fun env σ H Fs D R S hw n b ct rt =>
  h.sim env σ H Fs _ _ S hw fun v d F env1 H1 Fs1 o r sr fr q => n env1 σ H1 Fs1 (o.ok2 he hE) q⟩
def wIfS (wt : VWT) (w w' : VWS) : VWS := fun R env => wt env fun b env' => if b = true then w R env' else w' R env'
theorem simS_if (ht : SimT c tt e wt) (h1 : SimS c fx lo E t w) (h2 : SimS c fx lo E u w') (he : sub e E = true) (hE : sub E c.ms = true) : SimS c fx lo E (tIfS tt t u) (wIfS wt w w') := ⟨fun env σ H Fs D R S hw n b ct rt =>
  ht.sim env σ H Fs _ _ S hw fun k env1 H1 Fs1 o q => by
    have o := o.ok2 (fx := fx) he hE
    cases k with
    | true => exact iteT (h1.sim env1 σ H1 Fs1 D R o.sr q (fun env2 σ2 H2 Fs2 o2 => n env2 σ2 H2 Fs2 (o.trans o2)) (fun env2 σ2 H2 Fs2 o2 => b env2 σ2 H2 Fs2 (o.trans o2)) (fun env2 σ2 H2 Fs2 o2 => ct env2 σ2 H2 Fs2 (o.trans o2)) fun v d F env2 σ2 H2 Fs2 o2 r => rt v d F env2 σ2 H2 Fs2 (o.trans o2) (r.back o.ef.gr))
    | false => exact iteF (h2.sim env1 σ H1 Fs1 D R o.sr q (fun env2 σ2 H2 Fs2 o2 => n env2 σ2 H2 Fs2 (o.trans o2)) (fun env2 σ2 H2 Fs2 o2 => b env2 σ2 H2 Fs2 (o.trans o2)) (fun env2 σ2 H2 Fs2 o2 => ct env2 σ2 H2 Fs2 (o.trans o2)) fun v d F env2 σ2 H2 Fs2 o2 r => rt v d F env2 σ2 H2 Fs2 (o.trans o2) (r.back o.ef.gr))⟩
/-! stores to names -/
abbrev VWG := Val → VEnv → (VEnv → Prop) → Prop
structure SimG (c : Vc) (fx : List Nat) (g : TG) (w : VWG) : Prop where
  sim : ∀ (v : V) (d : Val) (F : List Addr) (env : VEnv) (σ : L2.St) (H : Hp) (Fs : Fp) (Q : L2.St → Hp → Prop) (R : VEnv → Prop), Sr c env σ H Fs → Rp c.K H F v d → Src c.ms [] F Fs → w d env R →
    (∀ env' σ' Fs', Sr c env' σ' H Fs' → (∀ j ∈ c.ms, Fs' j = Fs j) → (∀ i ∈ fx, σ'[i]? = σ[i]? ∧ Fs' i = Fs i) → R env' → Q σ' H) → g v σ H Q
structure SimGs (c : Vc) (fx : List Nat) (g : TGs) (w : List Val → VEnv → (VEnv → Prop) → Prop) : Prop where
  sim : ∀ (vs : List V) (ds : List Val) (F : List Addr) (env : VEnv) (σ : L2.St) (H : Hp) (Fs : Fp) (Q : L2.St → Hp → Prop) (R : VEnv → Prop), Sr c env σ H Fs → RpA c.K H F vs ds → Src c.ms [] F Fs → w ds env R →
    (∀ env' σ' Fs', Sr c env' σ' H Fs' → (∀ j ∈ c.ms, Fs' j = Fs j) → (∀ i ∈ fx, σ'[i]? = σ[i]? ∧ Fs' i = Fs i) → R env' → Q σ' H) → g vs σ H Q
def gvName (i : Nat) : VWG := fun d env R => R (env.set i (some d))
theorem eff_put {ms : List Nat} {Fs : Fp} {H : Hp} {i : Nat} {F : List Addr} (hi : i ∉ ms) : Eff ms [] Fs H (upF Fs i F) H := ⟨(fun _ h => nomatch h), Kp.refl _ _, fun _ h => h, fun j hj _ => upF_ne (ne_mem hj hi), fun j hj a ha => by
  rw [upF_ne (ne_mem hj hi)] at ha
  exact .inl ha⟩
theorem simG_name {i : Nat} (hi : i < c.N) (hm : c.ms.contains i = false) (hf : fx.contains i = false) : SimG c fx (gName i) (gvName i) := ⟨fun v d F env σ H Fs Q R S r sr hw k => by
  have n : i ∉ c.ms := fun z => by simp [z] at hm
  have nf : i ∉ fx := fun z => by simp [z] at hf
  refine k _ _ (upF Fs i F) (S.put hi r (fun z => absurd z n) (sr.mono fun _ h => nomatch h) (S.xk.eff (eff_put n))) (fun j hj => upF_ne (ne_mem hj n)) (fun j hj => ⟨?_, upF_ne (ne_mem hj nf)⟩) hw
  rw [List.getElem?_set_ne (ne_mem hj nf).symm]⟩
def gvNil : List Val → VEnv → (VEnv → Prop) → Prop
  | [], env, R => R env
  | _, _, _ => False
def gvCons (w : VWG) (w' : List Val → VEnv → (VEnv → Prop) → Prop) : List Val → VEnv → (VEnv → Prop) → Prop
  | d :: ds, env, R => w d env fun env' => w' ds env' R
  | [], _, _ => False
def gvTup (n : Nat) (w' : List Val → VEnv → (VEnv → Prop) → Prop) : VWG
  | .tup ds, env, R => ds.length = n ∧ w' ds env R
  | _, _, _ => False
theorem simGs_nil : SimGs c fx gNil gvNil := ⟨fun vs ds F env σ H Fs Q R S r sr hw k => by
  cases r with
  | nil => exact ⟨rfl, k env σ Fs S (fun _ _ => rfl) (fun _ _ => ⟨rfl, rfl⟩) hw⟩
  | cons a b => exact hw.elim⟩
theorem simGs_cons {g : TG} {gs : TGs} {wg : VWG} {wg' : List Val → VEnv → (VEnv → Prop) → Prop} (h1 : SimG c fx g wg) (h2 : SimGs c fx gs wg') : SimGs c fx (gCons g gs) (gvCons wg wg') := ⟨fun vs ds F env σ H Fs Q R S r sr hw k => by
  cases r with
  | nil => exact hw.elim
  | cons a b =>
    refine ⟨_, _, rfl, h1.sim _ _ _ env σ H Fs _ _ S a (fun x hx => sr x (List.mem_append_left _ hx)) hw fun env1 σ1 Fs1 S1 e1 f1 q1 => ?_⟩
    refine h2.sim _ _ _ env1 σ1 H Fs1 Q R S1 b (fun x hx j hj n => ?_) q1 fun env2 σ2 Fs2 S2 e2 f2 q2 => k env2 σ2 Fs2 S2 (fun j hj => (e2 j hj).trans (e1 j hj)) (fun i hi => ⟨(f2 i hi).1.trans (f1 i hi).1, (f2 i hi).2.trans (f1 i hi).2⟩) q2
    rw [e1 j hj]
    exact sr x (List.mem_append_right _ hx) j hj n⟩
theorem simG_tup {gs : TGs} {n : Nat} {wg' : List Val → VEnv → (VEnv → Prop) → Prop} (h : SimGs c fx gs wg') : SimG c fx (gTup c.K n gs) (gvTup n wg') := ⟨fun v d F env σ H Fs Q R S r sr hw k => by
  cases d <;> try exact hw.elim
  obtain ⟨l, vs, e, hs, ra⟩ := r.asT
  subst e
  exact ⟨l, vs, rfl, hs, by rw [ra.len]; exact hw.1, h.sim vs _ F env σ H Fs Q R S ra sr hw.2 k⟩⟩
def wAsg (we : VW) (wg : VWG) : VWS := fun R env => we env fun d env' => wg d env' R.nx
theorem simS_asg {g : TG} {wg : VWG} (h : SimE c te [] f e we) (hg : SimG c fx g wg) (he : sub e E = true) (hE : sub E c.ms = true) : SimS c fx lo E (tAsg te g) (wAsg we wg) := ⟨fun env σ H Fs D R S hw n b ct rt =>
  h.sim env σ H Fs _ _ S hw fun v d F env1 H1 Fs1 o r sr fr q => hg.sim v d F env1 σ H1 Fs1 _ _ o.sr r sr q fun env2 σ2 Fs2 S2 e2 f2 q2 => by
    refine n env2 σ2 H1 Fs2 ⟨S2, ?_, fun i hi => (f2 i hi).1⟩ q2
    have ef := o.ef.mono (sub_iff he) (sub_iff hE)
    exact ⟨ef.sub, ef.kp, ef.gr, fun j hj nn => (e2 j hj).trans (ef.out j hj nn), fun j hj a ha => ef.foot j hj a (by rw [← e2 j hj]; exact ha)⟩⟩
/-- an own slot is given a new value -/
def wSetO (i : Nat) (we : VW) : VWS := fun R env => we env fun d env' => R.nx (env'.set i (some d))
theorem simS_setO {i : Nat} (h : SimE c te [] (some []) e we) (hi : i < c.N) (hm : c.ms.contains i = true) (hf : fx.contains i = false) (hiE : E.contains i = true) (he : sub e E = true) (hE : sub E c.ms = true) : SimS c fx lo E (tAsg te (gName i)) (wSetO i we) := ⟨fun env σ H Fs D R S hw n b ct rt =>
  h.sim env σ H Fs _ _ S hw fun v d F env1 H1 Fs1 o r sr fr q => by
    have hm : i ∈ c.ms := by simpa using hm
    have nf : i ∉ fx := fun z => by simp [z] at hf
    have hiE : i ∈ E := by simpa using hiE
    obtain ⟨nd, new⟩ := fr [] rfl
    have new : ∀ a ∈ F, H a = none := fun a ha => (new a ha).elim id fun ⟨_, h, _⟩ => nomatch h
    have ef := o.ef.mono (sub_iff he) (sub_iff hE)
    have ef2 : Eff c.ms E Fs H (upF Fs1 i F) H1 := ⟨ef.sub, ef.kp, ef.gr, fun j hj nn => by
      rw [upF_ne fun z => nn (by rw [z]; exact hiE)]
      exact ef.out j hj nn, fun j hj a ha => by
      by_cases z : j = i
      · subst z
        rw [upF_self] at ha
        exact .inr (new a ha)
      · rw [upF_ne z] at ha
        exact ef.foot j hj a ha⟩
    refine n _ _ H1 (upF Fs1 i F) ⟨o.sr.put hi r (fun _ => ⟨nd, fun j hj a ha z => ?_⟩) (sr.mono fun _ h => nomatch h) (S.xk.eff ef2), ef2, fun j hj => ?_⟩ q
    · by_cases y : j ∈ c.ms
      · exact sr a ha j y (fun h => nomatch h) z
      · exact (S.mutb j a (o.vl j y a z)).ex (new a ha)
    · rw [List.getElem?_set_ne (ne_mem hj nf).symm]⟩
end
/-! ### own lists are changed -/
theorem RpA.erase {K : PySem.W.Frag} {H : Hp} : ∀ {F : List Addr} {vs : List V} {ds : List Val} (n : Nat), RpA K H F vs ds → ∃ G, RpA K H G (vs.eraseIdx n) (ds.eraseIdx n) ∧ G.Sublist F
  | _, _, _, _, .nil => ⟨[], .nil, .slnil⟩
  | _, _, _, 0, .cons (G := G) _ t => ⟨G, t, List.sublist_append_right _ _⟩
  | _, _, _, n + 1, .cons (F := F) h t => by
    obtain ⟨G, h1, h2⟩ := RpA.erase n t
    exact ⟨F ++ G, .cons h h1, (List.Sublist.refl F).append h2⟩
theorem RpA.set {K : PySem.W.Frag} {H : Hp} {v : V} {d : Val} (r : Rp K H [] v d) : ∀ {F : List Addr} {vs : List V} {ds : List Val} (n : Nat), RpA K H F vs ds → ∃ G, RpA K H G (vs.set n v) (ds.set n d) ∧ G.Sublist F
  | _, _, _, _, .nil => ⟨[], .nil, .slnil⟩
  | _, _, _, 0, .cons (G := G) _ t => ⟨G, .cons r t, List.sublist_append_right _ _⟩
  | _, _, _, n + 1, .cons (F := F) h t => by
    obtain ⟨G, h1, h2⟩ := RpA.set r n t
    exact ⟨F ++ G, .cons h h1, (List.Sublist.refl F).append h2⟩
theorem Tb.notmut {Ps : TL} {H : Hp} (t : Tb Ps H) {l : Addr} (m : Mutb H l) : OffT Ps H l := by
  rcases m with ⟨_, m⟩ | ⟨_, m⟩ | ⟨_, _, _, m⟩
  · exact ⟨t.out m (fun _ z => by cases z), t.nolam m (fun _ z => by cases z) fun _ z => by unfold LamX.CodeO at z; cases z⟩
  · exact ⟨t.out m (fun _ z => by cases z), t.nolam m (fun _ z => by cases z) fun _ z => by unfold LamX.CodeO at z; cases z⟩
  · exact ⟨t.out m (fun _ z => by cases z), t.nolam m (fun _ z => by cases z) fun _ z => by unfold LamX.CodeO at z; cases z⟩
theorem mutO {c : Vc} {env : VEnv} {σ : L2.St} {H : Hp} {Fs : Fp} {i : Nat} {d0 d' : Val} {l : Addr} {G G' : List Addr} {o' : HO} (S : Sr c env σ H Fs) (hB : i < c.N) (hi : i ∈ c.ms) (he : env[i]? = some (some d0)) (hv : σ[i]? = some (some (.ref l))) (hF : Fs i = l :: G) (hs : G'.Sublist G)
    (rp : Rp c.K (upd H l o') (l :: G') (.ref l) d') : Ok0 c [i] σ H Fs (env.set i (some d')) (upd H l o') (upF Fs i (l :: G')) := by
  have ml : Mutb H l := S.mutb i l (by rw [hF]; exact List.mem_cons_self)
  have sl : (l :: G').Sublist (Fs i) := by
    rw [hF]
    exact hs.cons_cons l
  have hN : i < env.length := (List.getElem?_eq_some_iff.mp he).1
  have ef : Eff c.ms [i] Fs H (upF Fs i (l :: G')) (upd H l o') := by
    refine ⟨fun j hj => by rw [List.mem_singleton.mp hj]; exact hi, Kp.upd ?_, fun a ha => ?_, fun j hj nn => upF_ne fun z => nn (List.mem_singleton.mpr z), fun j hj a ha => .inl ?_⟩
    · rw [List.flatMap_singleton, hF]
      exact List.mem_cons_self
    · by_cases z : a = l
      · rw [z, upd_same] at ha
        cases ha
      · rwa [upd_ne z] at ha
    · by_cases z : j = i
      · subst z
        rw [upF_self] at ha
        exact sl.subset ha
      · rwa [upF_ne z] at ha
  have inl : l ∈ Fs i := by
    rw [hF]
    exact List.mem_cons_self
  refine ⟨⟨by rw [List.length_set, S.le], S.ls, fun j d h => ?_, fun j h => ?_, fun j hj k hk a ha z => ?_, fun j hj => ?_, S.tb.at1 (S.tb.notmut ml), S.xk.eff ef⟩, ef, fun j hj a ha => by
    rw [upF_ne fun z => hj (by rw [z]; exact hi)] at ha
    exact ha⟩
  · rcases set_at h with ⟨rfl, rfl⟩ | ⟨ne, h⟩
    · exact ⟨_, .of hB hv, by rw [upF_self]; exact rp⟩
    · obtain ⟨v, h1, r⟩ := S.at_ j d h
      refine ⟨v, h1, ?_⟩
      rw [upF_ne ne]
      refine r.kp (L := [l]) (Kp.upd List.mem_cons_self) (fun a ha => by rw [List.mem_singleton.mp ha]; exact ml) fun a ha z => ?_
      rw [List.mem_singleton.mp z] at ha
      exact S.sep i hi j ne l inl ha
  · by_cases z : j = i
    · subst z
      exact absurd (by rw [List.getElem?_set_self hN]) (h d')
    · rw [upF_ne z]
      refine S.emp j fun d' h' => h d' ?_
      rw [List.getElem?_set_ne (Ne.symm z)]
      exact h'
  · by_cases y : j = i
    · subst y
      rw [upF_self] at ha
      rw [upF_ne hk] at z
      exact S.sep j hj k hk a (sl.subset ha) z
    · rw [upF_ne y] at ha
      by_cases y2 : k = i
      · subst y2
        rw [upF_self] at z
        exact S.sep j hj k hk a ha (sl.subset z)
      · rw [upF_ne y2] at z
        exact S.sep j hj k hk a ha z
  · by_cases y : j = i
    · subst y
      rw [upF_self]
      exact (S.nd j hj).sublist sl
    · rw [upF_ne y]
      exact S.nd j hj
theorem mutL {c : Vc} {env : VEnv} {σ : L2.St} {H : Hp} {Fs : Fp} {i : Nat} {d0 : Val} {l : Addr} {G G' : List Addr} {vs' : List V} {ds' : List Val} (S : Sr c env σ H Fs) (hB : i < c.N) (hi : i ∈ c.ms) (he : env[i]? = some (some d0)) (hv : σ[i]? = some (some (.ref l))) (hF : Fs i = l :: G) (hs : G'.Sublist G)
    (ra : RpA c.K H G' vs' ds') : Ok0 c [i] σ H Fs (env.set i (some (.lst ds'))) (upd H l (.lst vs')) (upF Fs i (l :: G')) := by
  have nd := S.nd i hi
  rw [hF] at nd
  have nl : l ∉ G' := fun z => (List.nodup_cons.mp nd).1 (hs.subset z)
  have ml : Mutb H l := S.mutb i l (by rw [hF]; exact List.mem_cons_self)
  exact mutO S hB hi he hv hF hs (.lst upd_same (ra.kp (L := [l]) (Kp.upd List.mem_cons_self) (fun a ha => by rw [List.mem_singleton.mp ha]; exact ml) fun a ha z => nl (by rw [← List.mem_singleton.mp z]; exact ha)))
/-- what stands in an own slot that is a list -/
theorem Sr.ownL {c : Vc} {env : VEnv} {σ : L2.St} {H : Hp} {Fs : Fp} (S : Sr c env σ H Fs) {i : Nat} (hB : i < c.N) {ds : List Val} (he : env[i]? = some (some (.lst ds))) : ∃ l vs G, σ[i]? = some (some (.ref l)) ∧ H l = some (.lst vs) ∧ RpA c.K H G vs ds ∧ Fs i = l :: G := by
  obtain ⟨v, hv, r⟩ := S.at_ i _ he
  have hv := hv.1 hB
  obtain ⟨l, vs, G, e, h1, h2, h3⟩ := r.asL
  subst e
  exact ⟨l, vs, G, hv, h1, h2, h3⟩
section
variable {c : Vc} {te ti : TE} {s e s' e' : List Nat} {f f' : Option (List Nat)} {we wi : VW} {fx lo E : List Nat}
def lstAt (i : Nat) (env : VEnv) (k : List Val → Prop) : Prop := match env[i]? with
  | some (some (.lst ds)) => k ds
  | _ => False
theorem lstAt_is {i : Nat} {env : VEnv} {k : List Val → Prop} (h : lstAt i env k) : ∃ ds, env[i]? = some (some (.lst ds)) ∧ k ds := by
  unfold lstAt at h
  split at h
  · exact ⟨_, ‹_›, h⟩
  · exact h.elim
/-- x.append(e), e without lists -/
def wApp (i : Nat) (we : VW) : VW := fun env Q => lstAt i env fun _ => we env fun d env' => lstAt i env' fun ds => d.flat = true ∧ ds.length < 1000000 ∧ Q .non (env'.set i (some (.lst (ds ++ [d]))))
theorem simE_app {i : Nat} (h : SimE c te s f e we) (hm : c.ms.contains i = true) (hB : Nat.blt i c.N = true := by rfl) : SimE c (tBM c.K "list" rAppend (tVar i) (tCons te tNil)) [] (some []) (e ++ [i]) (wApp i we) := ⟨fun env σ H Fs Q R S hw k => by
  have hm : i ∈ c.ms := by simpa using hm
  obtain ⟨ds0, he0, hw⟩ := lstAt_is hw
  obtain ⟨l, vs0, _, hv, hl0, _⟩ := S.ownL (lt_of_blt hB) he0
  refine ⟨_, hv, .inl ⟨rfl, _, SqL.of hl0⟩, h.sim env σ H Fs _ _ S hw fun y d F env1 H1 Fs1 o r sr fr q => ?_⟩
  obtain ⟨ds, he, hf, hlen, q⟩ := lstAt_is q
  obtain ⟨l', vs, G, hv', hl, ra, hF⟩ := o.sr.ownL (lt_of_blt hB) he
  rw [hv] at hv'
  cases hv'
  have z := r.flat hf
  subst z
  have ra2 := ra.app (RpA.one r)
  rw [List.append_nil] at ra2
  exact ⟨l, vs, y, rfl, rfl, hl, small_lt (by rw [ra.len]; omega), k _ _ [] _ _ _ (o.trans (mutL o.sr (lt_of_blt hB) hm he hv hF (List.Sublist.refl G) ra2)) .non .nil .nil q⟩⟩
end
/-! ### what is walked over -/
abbrev VWI := VEnv → (List Val → VEnv → Prop) → Prop
def ItOk (c : Vc) (J : It) (xs : List Val) (s : List Nat) (H : Hp) (Fs : Fp) : Prop := ∀ (e2 : List Nat) (H2 : Hp) (Fs2 : Fp), Eff c.ms e2 Fs H Fs2 H2 → disj s e2 = true → ∀ i : Nat,
  (∀ x, xs[i]? = some x → J.go i H2 ∧ ∀ v H3, J.yld i H2 v H3 → Same H2 H3 ∧ ∃ F, Rp c.K H3 F v x ∧ Src c.ms s F Fs2) ∧ (xs.length ≤ i → J.stop i H2)
structure SimI (c : Vc) (ti : TI) (s e : List Nat) (w : VWI) : Prop where
  sim : ∀ (env : VEnv) (σ : L2.St) (H : Hp) (Fs : Fp) (Q : It → Hp → Prop) (R : List Val → VEnv → Prop), Sr c env σ H Fs → w env R → (∀ J xs env' H' Fs', Ok0 c e σ H Fs env' H' Fs' → ItOk c J xs s H' Fs' → R xs env' → Q J H') → ti σ H Q
section
variable {c : Vc} {te : TE} {ta : TA} {as : List Arg} {s e : List Nat} {f : Option (List Nat)} {we : VW} {wa : VWA}
theorem SqL.uniq {K : PySem.W.Frag} {H : Hp} {a : Addr} {xs : List V} (h : H a = some (.lst xs)) {i : Nat} {x y : V} (hx : ∀ zs, SqL K H a zs → zs[i]? = some x) (hy : xs[i]? = some y) : x = y := by
  have := hx xs (SqL.of h)
  rw [hy] at this
  exact (Option.some.inj this).symm
def wiL (we : VW) : VWI := fun env Q => we env fun d env' => match d with
  | .lst ds => Q ds env'
  | .frz ds => Q ds env'
  | _ => False
theorem rd_lst {K : PySem.W.Frag} {H : Hp} {F : List Addr} {v : V} {d : Val} {ds : List Val} (r : Rp K H F v d) (h : d = .lst ds ∨ d = .frz ds) : ∃ l vs G, v = .ref l ∧ SqL K H l vs ∧ RpA K H G vs ds ∧ ∀ a ∈ G, a ∈ F := by
  rcases h with rfl | rfl
  · obtain ⟨l, vs, G, e, h1, h2, h3⟩ := r.asL
    exact ⟨l, vs, G, e, SqL.of h1, h2, fun a ha => by rw [h3]; exact List.mem_cons_of_mem _ ha⟩
  · obtain ⟨l, vs, e, h1, h2⟩ := r.asF
    exact ⟨l, vs, F, e, h1, h2, fun a ha => ha⟩
theorem simI_list (h : SimE c te s f e we) : SimI c (iList c.K te) s e (wiL we) := ⟨fun env σ H Fs Q R S hw k =>
  h.sim env σ H Fs _ _ S hw fun v d F env1 H1 Fs1 o r sr fr q => by
    obtain ⟨ds, hd, q⟩ : ∃ ds, (d = .lst ds ∨ d = .frz ds) ∧ R ds env1 := by
      cases d <;> first
        | exact q.elim
        | exact ⟨_, .inl rfl, q⟩
        | exact ⟨_, .inr rfl, q⟩
    obtain ⟨l, vs, G, ev, hs, _, _⟩ := rd_lst r hd
    subst ev
    refine ⟨l, rfl, ⟨vs, hs⟩, k (Itl c.K l) ds env1 H1 Fs1 o (fun e2 H2 Fs2 ef dj i => ?_) q⟩
    obtain ⟨r2, s2⟩ := r.eff o.sr ef sr dj
    obtain ⟨l', vs', G', ev, hs', ra, hG⟩ := rd_lst r2 hd
    cases ev
    refine ⟨fun x hx => ?_, fun hi => ⟨vs', hs', by rw [ra.len]; exact hi⟩⟩
    obtain ⟨v, F', g1, g2, g3, _⟩ := ra.get hx
    refine ⟨⟨vs', v, hs', g1⟩, fun y H3 hy => ?_⟩
    obtain ⟨rfl, hy⟩ := hy
    have ey : v = y := Option.some.inj (g1.symm.trans (hy vs' hs'))
    subst ey
    exact ⟨fun _ _ h => h, F', g2, fun a ha => s2 a (hG a (g3 a ha))⟩⟩
def rngV (lo : Int) (n : Nat) : List Val := (List.range n).map fun i => Val.int (lo + (i : Nat))
theorem rngV_len {lo : Int} {n : Nat} : (rngV lo n).length = n := by
  unfold rngV
  rw [List.length_map, List.length_range]
theorem rngV_at {lo : Int} {n i : Nat} {x : Val} (h : (rngV lo n)[i]? = some x) : i < n ∧ x = .int (lo + (i : Nat)) := by
  have hi := (List.getElem?_eq_some_iff.mp h).1
  rw [rngV_len] at hi
  unfold rngV at h
  rw [List.getElem?_map, List.getElem?_range hi] at h
  exact ⟨hi, (Option.some.inj h).symm⟩
theorem ito_rng {lo : Int} {n : Nat} {H : Hp} {Fs : Fp} : ItOk c (Itr lo n) (rngV lo n) s H Fs := fun e2 H2 Fs2 ef dj i => by
  refine ⟨fun x hx => ?_, fun hi => by rw [rngV_len] at hi; exact hi⟩
  obtain ⟨hi, rfl⟩ := rngV_at hx
  refine ⟨hi, fun v H3 hy => ?_⟩
  obtain ⟨rfl, rfl⟩ := hy
  exact ⟨fun _ _ h => h, [], .int _, .nil⟩
def wiR1 (wa : VWA) : VWI := fun env Q => wa env fun ds env' => match ds with
  | [.int j] => (-(2 ^ 62) ≤ j ∧ j < 2 ^ 62) ∧ Q (rngV 0 j.toNat) env'
  | _ => False
def wiR2 (wa : VWA) : VWI := fun env Q => wa env fun ds env' => match ds with
  | [.int i, .int j] => (-(2 ^ 62) ≤ i ∧ i < 2 ^ 62 ∧ -(2 ^ 62) ≤ j ∧ j < 2 ^ 62) ∧ Q (rngV i (j - i).toNat) env'
  | _ => False
theorem simI_rng1 (h : SimA c ta as f e wa) : SimI c (iRng1 ta) [] e (wiR1 wa) := ⟨fun env σ H Fs Q R S hw k =>
  h.sim env σ H Fs _ _ S hw fun vs ds Gs env1 H1 Fs1 o r fr q => by
    split at q
    · rename_i j
      obtain ⟨v, F, e1, r1⟩ := r.one
      subst e1
      cases r1
      exact ⟨j, rfl, q.1.1, q.1.2, k _ _ env1 H1 Fs1 o ito_rng q.2⟩
    · exact q.elim⟩
theorem simI_rng2 (h : SimA c ta as f e wa) : SimI c (iRng2 ta) [] e (wiR2 wa) := ⟨fun env σ H Fs Q R S hw k =>
  h.sim env σ H Fs _ _ S hw fun vs ds Gs env1 H1 Fs1 o r fr q => by
    split at q
    · rename_i i j
      obtain ⟨v, v', F, F', e1, r1, r2⟩ := r.two
      subst e1
      cases r1
      cases r2
      exact ⟨i, j, rfl, q.1, k _ _ env1 H1 Fs1 o ito_rng q.2⟩
    · exact q.elim⟩
end
section
variable {c : Vc} {te : TE} {ta : TA} {as : List Arg} {s e : List Nat} {f : Option (List Nat)} {we : VW} {wa : VWA}
/-! zip, enumerate -/
def zipV : List Val → List Val → List Val
  | x :: xs, y :: ys => .tup [x, y] :: zipV xs ys
  | _, _ => []
theorem zipV_at : ∀ (xs ys : List Val) (j : Nat) (z : Val), (zipV xs ys)[j]? = some z → ∃ x y, z = .tup [x, y] ∧ xs[j]? = some x ∧ ys[j]? = some y
  | [], _, j, z, h => by simp [zipV] at h
  | _ :: _, [], j, z, h => by simp [zipV] at h
  | x :: xs, y :: ys, 0, z, h => ⟨x, y, (Option.some.inj h).symm, rfl, rfl⟩
  | x :: xs, y :: ys, j + 1, z, h => zipV_at xs ys j z h
theorem zipV_len : ∀ (xs ys : List Val), (zipV xs ys).length = min xs.length ys.length
  | [], _ => by simp [zipV]
  | _ :: _, [] => by simp [zipV]
  | x :: xs, y :: ys => by
    show (zipV xs ys).length + 1 = min (xs.length + 1) (ys.length + 1)
    rw [zipV_len xs ys]
    omega
theorem zipV_map {α β : Type} (f : α → Val) (g : β → Val) : ∀ (xs : List α) (ys : List β), zipV (xs.map f) (ys.map g) = (xs.zip ys).map fun p => .tup [f p.1, g p.2]
  | [], _ => rfl
  | _ :: _, [] => rfl
  | x :: xs, y :: ys => congrArg (_ :: ·) (zipV_map f g xs ys)
def wiZ (wa : VWA) : VWI := fun env Q => wa env fun ds env' => match ds with
  | [.lst xs, .lst ys] => Q (zipV xs ys) env'
  | _ => False
theorem Src.app {ms s : List Nat} {F G : List Addr} {Fs : Fp} (a : Src ms s F Fs) (b : Src ms s G Fs) : Src ms s (F ++ G) Fs := fun x hx => (List.mem_append.mp hx).elim (a x) (b x)
theorem RpL.two' {c : Vc} {env : VEnv} {σ : L2.St} {H : Hp} {Fs : Fp} {as : List Arg} {Gs : List (List Addr)} {vs : List V} {d d' : Val} (S : Sr c env σ H Fs) (h : RpL c σ H Fs as Gs vs [d, d']) : ∃ v v' F F', vs = [v, v'] ∧ Rp c.K H F v d ∧ Rp c.K H F' v' d' ∧ Src c.ms (as.flatMap Arg.src) F Fs ∧ Src c.ms (as.flatMap Arg.src) F' Fs := by
  have hs := h.src S
  have hr := h.rpa
  generalize Gs.flatten = F0 at hs hr
  cases hr with
  | cons r t =>
    cases t with
    | cons r' t' =>
      cases t'
      rw [List.append_nil] at hs
      exact ⟨_, _, _, _, rfl, r, r', fun a ha => hs a (List.mem_append_left _ ha), fun a ha => hs a (List.mem_append_right _ ha)⟩
theorem simI_zip (h : SimA c ta as f e wa) : SimI c (iZip c.K ta) (as.flatMap Arg.src) e (wiZ wa) := ⟨fun env σ H Fs Q R S hw k =>
  h.sim env σ H Fs _ _ S hw fun vs ds Gs env1 H1 Fs1 o r fr q => by
    split at q
    · rename_i xs ys
      obtain ⟨v, w, F, F2, e1, r1, q1, sr, sq⟩ := r.two' o.sr
      subst e1
      obtain ⟨l, us, G, e2, hl, ra, hF⟩ := r1.asL
      obtain ⟨m, ws, G2, e3, hm, qa, hF2⟩ := q1.asL
      subst e2 e3
      refine ⟨l, m, us, ws, rfl, SqL.of hl, SqL.of hm, k (Itz c.K l m) _ env1 H1 Fs1 o (fun e2 H2 Fs2 ef dj i => ?_) q⟩
      obtain ⟨r2, s2⟩ := r1.eff o.sr ef sr dj
      obtain ⟨q2, z2⟩ := q1.eff o.sr ef sq dj
      obtain ⟨l', us', G', ev, hl', ra', hF'⟩ := r2.asL
      cases ev
      obtain ⟨m', ws', G2', ev, hm', qa', hF2'⟩ := q2.asL
      cases ev
      rw [zipV_len]
      refine ⟨fun x hx => ?_, fun hi => ⟨us', ws', SqL.of hl', SqL.of hm', by rw [ra'.len, qa'.len]; omega⟩⟩
      obtain ⟨x1, x2, rfl, hx1, hx2⟩ := zipV_at xs ys i x hx
      obtain ⟨v1, F1, g1, g2, g3, _⟩ := ra'.get hx1
      obtain ⟨v2, F2, k1, k2, k3, _⟩ := qa'.get hx2
      refine ⟨⟨us', ws', v1, v2, SqL.of hl', SqL.of hm', g1, k1⟩, fun z H3 hz => ?_⟩
      obtain ⟨T, x0, y0, rfl, nT, rfl, h1, h2⟩ := hz
      have ex : v1 = x0 := Option.some.inj (g1.symm.trans (h1 us' (SqL.of hl')))
      have ey : v2 = y0 := Option.some.inj (k1.symm.trans (h2 ws' (SqL.of hm')))
      subst ex ey
      obtain ⟨gT, sT⟩ := upd_at (o := .tup [v1, v2]) nT
      exact ⟨sT, F1 ++ F2, .tup gT (.cons (g2.same sT) (RpA.one (k2.same sT))), Src.app (fun a ha => s2 a (by rw [hF']; exact List.mem_cons_of_mem _ (g3 a ha))) fun a ha => z2 a (by rw [hF2']; exact List.mem_cons_of_mem _ (k3 a ha))⟩
    · exact q.elim⟩
/-! ### for -/
variable {fx lo E E' : List Nat} {ti : TI} {wi : VWI} {g : TG} {wg : VWG} {tb : TS} {wb : VWS} {tt : TT} {wt : VWT}
def wFor (wi : VWI) (wg : VWG) (wb : VWS) : VWS := fun R env => wi env fun xs env1 => ∃ I : Nat → VEnv → Prop, I 0 env1 ∧
  (∀ i x env', xs[i]? = some x → I i env' → wg x env' fun env2 => wb { nx := I (i + 1), ct := I (i + 1), bk := R.nx, rt := R.rt } env2) ∧ ∀ env', I xs.length env' → R.nx env'
/-- items without lists -/
def wForF (wi : VWI) (wg : VWG) (wb : VWS) : VWS := fun R env => wi env fun xs env1 => (∀ x ∈ xs, x.flat = true) ∧ ∃ I : Nat → VEnv → Prop, I 0 env1 ∧
  (∀ i x env', xs[i]? = some x → I i env' → wg x env' fun env2 => wb { nx := I (i + 1), ct := I (i + 1), bk := R.nx, rt := R.rt } env2) ∧ ∀ env', I xs.length env' → R.nx env'
theorem for_core {J : It} {xs : List Val} {σ : L2.St} {H H1 : Hp} {Fs Fs1 : Fp} {env1 : VEnv} {D : Ends} {R : VEnds} (o : Ok2 c fx E σ H Fs env1 σ H1 Fs1) (it : ItOk c J xs s H1 Fs1) (hs : ∀ (i : Nat) (x : Val), xs[i]? = some x → ∀ H3 F v Fs2, Rp c.K H3 F v x → Src c.ms s F Fs2 → Src c.ms [] F Fs2) (hg : SimG c fx g wg) (hb : SimS c fx lo E' tb wb) (hd : disj s E' = true) (hE' : sub E' E = true) (hE2 : sub E' c.ms = true)
    (I : Nat → VEnv → Prop) (I0 : I 0 env1) (step : ∀ (i : Nat) (x : Val) (env' : VEnv), xs[i]? = some x → I i env' → wg x env' fun env2 => wb { nx := I (i + 1), ct := I (i + 1), bk := R.nx, rt := R.rt } env2) (fin : ∀ env', I xs.length env' → R.nx env')
    (n : ∀ env' σ' H' Fs', Ok2 c fx E σ H Fs env' σ' H' Fs' → R.nx env' → D.nx σ' H') (rt : ∀ v d F env' σ' H' Fs', Ok2 c fx E σ H Fs env' σ' H' Fs' → RtOk c lo H F v d H' Fs' → R.rt d env' → D.rt v H') :
    ∃ W : Nat → Nat → L2.St → Hp → Prop, (∃ m, W 0 m σ H1) ∧ ∀ i m σ H, W i m σ H → (J.stop i H ∧ D.nx σ H) ∨ (J.go i H ∧ ∃ N : L2.St → Hp → Prop, (∀ σ' H', N σ' H' → ∃ m', m' < m ∧ W (i + 1) m' σ' H') ∧ ∀ x H', J.yld i H x H' → g x σ H' fun σ2 H2 => tb { D with nx := N, ct := N, bk := D.nx } σ2 H2) := by
  have up : ∀ {env2 : VEnv} {σ2 : L2.St} {H2 : Hp} {Fs2 : Fp}, Ok2 c fx E' σ H1 Fs1 env2 σ2 H2 Fs2 → Ok2 c fx E σ H Fs env2 σ2 H2 Fs2 := fun o2 => o.trans (o2.weak (sub_iff hE') o.ef.sub)
  refine ⟨fun i m σ' H' => m = xs.length - i ∧ i ≤ xs.length ∧ ∃ env' Fs', Ok2 c fx E' σ H1 Fs1 env' σ' H' Fs' ∧ I i env', ⟨xs.length, by simp, Nat.zero_le _, env1, Fs1, .refl o.sr hE2, I0⟩, ?_⟩
  rintro i m σ2 H2 ⟨rfl, hi, env2, Fs2, o2, i2⟩
  by_cases hlt : i < xs.length
  · obtain ⟨x, hx⟩ : ∃ x, xs[i]? = some x := ⟨_, List.getElem?_eq_getElem hlt⟩
    obtain ⟨go, yl⟩ := (it E' H2 Fs2 o2.ef hd i).1 x hx
    refine .inr ⟨go, fun σ' H' => ∃ env' Fs', Ok2 c fx E' σ H1 Fs1 env' σ' H' Fs' ∧ I (i + 1) env', fun σ' H' hN => ⟨xs.length - (i + 1), by omega, rfl, hlt, hN⟩, fun v H3 hy => ?_⟩
    obtain ⟨sm, F, r, sr⟩ := yl v H3 hy
    have S3 := o2.sr.same sm
    have o3 : Ok2 c fx E' σ H1 Fs1 env2 σ2 H3 Fs2 := ⟨S3, (o2.ef.trans (.same sm)).mono (fun j hj => (List.mem_append.mp hj).elim id fun z => nomatch z) o2.ef.sub, o2.fx⟩
    refine hg.sim v x F env2 σ2 H3 Fs2 _ _ S3 r (hs i x hx H3 F v Fs2 r sr) (step i x env2 hx i2) fun env4 σ4 Fs4 S4 e4 f4 q4 => ?_
    have o4 : Ok2 c fx E' σ H1 Fs1 env4 σ4 H3 Fs4 := ⟨S4, ⟨o3.ef.sub, o3.ef.kp, o3.ef.gr, fun j hj nn => (e4 j hj).trans (o3.ef.out j hj nn), fun j hj a ha => o3.ef.foot j hj a (by rw [← e4 j hj]; exact ha)⟩, fun j hj => (f4 j hj).1.trans (o3.fx j hj)⟩
    refine hb.sim env4 σ4 H3 Fs4 _ _ S4 q4 (fun env5 σ5 H5 Fs5 o5 q5 => ⟨env5, Fs5, o4.trans o5, q5⟩) (fun env5 σ5 H5 Fs5 o5 q5 => n env5 σ5 H5 Fs5 (up (o4.trans o5)) q5) (fun env5 σ5 H5 Fs5 o5 q5 => ⟨env5, Fs5, o4.trans o5, q5⟩) fun v d F env5 σ5 H5 Fs5 o5 r5 q5 => rt v d F env5 σ5 H5 Fs5 (up (o4.trans o5)) (r5.back fun a ha => o.ef.gr a (o4.ef.gr a ha)) q5
  · have e0 : i = xs.length := by omega
    subst e0
    exact .inl ⟨(it E' H2 Fs2 o2.ef hd _).2 (Nat.le_refl _), n env2 σ2 H2 Fs2 (up o2) (fin env2 i2)⟩
theorem simS_for (hi : SimI c ti [] e wi) (hg : SimG c fx g wg) (hb : SimS c fx lo E' tb wb) (he : sub e E = true) (hE' : sub E' E = true) (hE : sub E c.ms = true) (hE2 : sub E' c.ms = true) : SimS c fx lo E (tFor ti g tb) (wFor wi wg wb) := ⟨fun env σ H Fs D R S hw n b ct rt =>
  hi.sim env σ H Fs _ _ S hw fun J xs env1 H1 Fs1 o it q => by
    obtain ⟨I, I0, step, fin⟩ := q
    exact for_core (o.ok2 he hE) it (fun _ _ _ _ _ _ _ _ h => h) hg hb rfl hE' hE2 I I0 step fin n rt⟩
theorem simS_forF (hi : SimI c ti s e wi) (hg : SimG c fx g wg) (hb : SimS c fx lo E' tb wb) (hd : disj s E' = true) (he : sub e E = true) (hE' : sub E' E = true) (hE : sub E c.ms = true) (hE2 : sub E' c.ms = true) : SimS c fx lo E (tFor ti g tb) (wForF wi wg wb) := ⟨fun env σ H Fs D R S hw n b ct rt =>
  hi.sim env σ H Fs _ _ S hw fun J xs env1 H1 Fs1 o it q => by
    obtain ⟨fl, I, I0, step, fin⟩ := q
    refine for_core (o.ok2 he hE) it (fun i x hx H3 F v Fs2 r _ => ?_) hg hb hd hE' hE2 I I0 step fin n rt
    rw [r.flat (fl x (List.mem_of_getElem? hx))]
    exact .nil⟩
/-! while -/
end
/-! ### blocks with names of their own -/
def wipeE (env : VEnv) : List Nat → VEnv
  | [] => env
  | v :: vs => (wipeE env vs).set v none
theorem wipeE_length (env : VEnv) : ∀ vs : List Nat, (wipeE env vs).length = env.length
  | [] => rfl
  | v :: vs => by unfold wipeE; rw [List.length_set, wipeE_length env vs]
theorem wipeE_get {env : VEnv} {j : Nat} : ∀ {vs : List Nat}, j ∉ vs → (wipeE env vs)[j]? = env[j]?
  | [], _ => rfl
  | v :: vs, h => by
    unfold wipeE
    rw [List.getElem?_set_ne (fun z => h (by rw [z]; exact List.mem_cons_self))]
    exact wipeE_get fun z => h (List.mem_cons_of_mem _ z)
theorem wipeE_some {env : VEnv} {i : Nat} {x : Val} : ∀ {vs : List Nat}, (wipeE env vs)[i]? = some (some x) → env[i]? = some (some x) ∧ i ∉ vs
  | [], h => ⟨h, by simp⟩
  | v :: vs, h => by
    unfold wipeE at h
    by_cases hi : v = i
    · subst hi
      by_cases hv : v < (wipeE env vs).length
      · rw [List.getElem?_set_self hv] at h; cases h
      · rw [List.getElem?_eq_none (by simpa using hv)] at h; cases h
    · rw [List.getElem?_set_ne hi] at h
      obtain ⟨h1, h2⟩ := wipeE_some h
      exact ⟨h1, by simp only [List.mem_cons, not_or]; exact ⟨fun e => hi e.symm, h2⟩⟩
theorem wipe_get {σ : L2.St} {j : Nat} : ∀ {vs : List Nat}, j ∉ vs → (wipe σ vs)[j]? = σ[j]?
  | [], _ => rfl
  | v :: vs, h => by
    unfold wipe
    rw [List.getElem?_set_ne (fun z => h (by rw [z]; exact List.mem_cons_self))]
    exact wipe_get fun z => h (List.mem_cons_of_mem _ z)
theorem wipe_in {σ : L2.St} {j : Nat} (hj : j < σ.length) : ∀ {vs : List Nat}, j ∈ vs → (wipe σ vs)[j]? = some none
  | v :: vs, h => by
    unfold wipe
    by_cases e : v = j
    · subst e
      rw [List.getElem?_set_self (by rw [wipe_length]; exact hj)]
    · rw [List.getElem?_set_ne e]
      exact wipe_in hj ((List.mem_cons.mp h).resolve_left fun z => e z.symm)
theorem wipe_ext {σ σ' : L2.St} {vs : List Nat} (hl : σ'.length = σ.length) (h : ∀ j, j ∉ vs → σ'[j]? = σ[j]?) : wipe σ' vs = wipe σ vs := by
  apply List.ext_getElem?
  intro j
  by_cases hj : j ∈ vs
  · by_cases hl2 : j < σ.length
    · rw [wipe_in hl2 hj, wipe_in (by omega) hj]
    · rw [List.getElem?_eq_none (by rw [wipe_length]; omega), List.getElem?_eq_none (by rw [wipe_length]; omega)]
  · rw [wipe_get hj, wipe_get hj, h j hj]
def wipeF (Fs : Fp) (vs : List Nat) : Fp := fun j => if j ∈ vs then [] else Fs j
theorem wipeF_sub {Fs : Fp} {vs : List Nat} {j : Nat} {a : Addr} (h : a ∈ wipeF Fs vs j) : a ∈ Fs j := by
  unfold wipeF at h
  by_cases hj : j ∈ vs
  · rw [if_pos hj] at h
    cases h
  · rwa [if_neg hj] at h
theorem wipeF_own {Fs : Fp} {ms vs : List Nat} (hd : disj vs ms = true) {j : Nat} (hj : j ∈ ms) : wipeF Fs vs j = Fs j := by
  unfold wipeF
  rw [if_neg fun z => disj_iff hd z hj]
theorem eff_wipe {ms vs : List Nat} {Fs : Fp} {H : Hp} (hd : disj vs ms = true) : Eff ms [] Fs H (wipeF Fs vs) H := ⟨(fun _ h => nomatch h), Kp.refl _ _, fun _ h => h, fun j hj _ => wipeF_own hd hj, fun j hj a ha => .inl (wipeF_sub ha)⟩
theorem Sr.wipe {c : Vc} {env : VEnv} {σ : L2.St} {H : Hp} {Fs : Fp} (S : Sr c env σ H Fs) {vs : List Nat} (hd : disj vs c.ms = true) : Sr c (wipeE env vs) (L2.wipe σ vs) H (wipeF Fs vs) where
  le := by rw [wipeE_length, S.le]
  ls := by rw [wipe_length, S.ls]
  at_ := fun i d h => by
    obtain ⟨h1, h2⟩ := wipeE_some h
    obtain ⟨v, h3, h4⟩ := S.at_ i d h1
    refine ⟨v, ⟨fun z => by rw [wipe_get h2]; exact h3.1 z, h3.2⟩, ?_⟩
    unfold wipeF
    rw [if_neg h2]
    exact h4
  emp := fun i h => by
    unfold wipeF
    by_cases hi : i ∈ vs
    · rw [if_pos hi]
    · rw [if_neg hi]
      exact S.emp i fun d hd => h d (by rw [wipeE_get hi]; exact hd)
  sep := fun i hi j hj a ha z => S.sep i hi j hj a (wipeF_sub ha) (wipeF_sub z)
  nd := fun i hi => by
    rw [wipeF_own hd hi]
    exact S.nd i hi
  tb := S.tb
  xk := S.xk.eff (eff_wipe hd)
/-- the block's state is the def's, where its own names are forgotten -/
theorem Sr.unwipe {c : Vc} {env : VEnv} {σ : L2.St} {H : Hp} {Fs : Fp} {vs : List Nat} (S : Sr c env (L2.wipe σ vs) H Fs) : Sr c env σ H Fs :=
  ⟨S.le, by rw [← S.ls, wipe_length], fun i d h => by
    obtain ⟨v, h1, h2⟩ := S.at_ i d h
    exact ⟨v, ⟨fun z => (wipe_some (h1.1 z)).1, h1.2⟩, h2⟩, S.emp, S.sep, S.nd, S.tb, S.xk⟩
section
variable {c : Vc} {fx vs E et ee s' : List Nat} {g : TG} {wg : VWG} {tt : TT} {wt : VWT} {te : TE} {we : VW} {f' : Option (List Nat)}
/-- one turn of a block: target, test, element -/
theorem turn_sim {σ : L2.St} {H1 H2 H3 : Hp} {Fs1 Fs2 : Fp} {env2 : VEnv} {v : V} {x : Val} {F : List Addr} {P : V → Hp → Prop} {P' : Hp → Prop} {R : Val → VEnv → Prop} {R' : VEnv → Prop}
    (hg : SimG c fx g wg) (ht : SimT c tt et wt) (he : SimE c te s' f' ee we) (hvs : disj vs c.ms = true) (hfx : ((List.range (c.N + c.g)).all fun j => vs.contains j || fx.contains j) = true) (he1 : sub et E = true) (he2 : sub ee E = true)
    (o : Ok0 c E (wipe σ vs) H1 Fs1 env2 H2 Fs2) (sm : Same H2 H3) (r : Rp c.K H3 F v x) (sr : Src c.ms [] F Fs2) (hw : wg x env2 fun env3 => wt env3 fun b env4 => if b = true then we env4 fun y env5 => R y (wipeE env5 vs) else R' (wipeE env4 vs))
    (k : ∀ y d G env5 H5 Fs5, Ok0 c E (wipe σ vs) H1 Fs1 env5 H5 Fs5 → Rp c.K H5 G y d → Src c.ms s' G Fs5 → R d env5 → P y H5) (k' : ∀ env5 H5 Fs5, Ok0 c E (wipe σ vs) H1 Fs1 env5 H5 Fs5 → R' env5 → P' H5) :
    g v (wipe σ vs) H3 fun σ4 H4 => wipe σ4 vs = wipe σ vs ∧ tt σ4 H4 fun b H5 => if b = true then te σ4 H5 P else P' H5 := by
  have o3 := o.grow sm
  have S3 := o3.sr
  refine hg.sim v x F env2 (wipe σ vs) H3 Fs2 _ _ S3 r sr hw fun env4 σ4 Fs4 S4 e4 f4 q4 => ?_
  have ew : wipe σ4 vs = wipe σ vs := by
    have e0 : wipe σ4 vs = wipe (wipe σ vs) vs := by
      refine wipe_ext (by rw [S4.ls, S3.ls]) fun j hj => ?_
      by_cases hN : j < c.N + c.g
      · have := List.all_eq_true.mp hfx j (List.mem_range.mpr hN)
        rw [Bool.or_eq_true] at this
        rcases this with z | z
        · exact absurd (by simpa using z) hj
        · exact (f4 j (by simpa using z)).1
      · rw [List.getElem?_eq_none (by rw [S4.ls]; omega), List.getElem?_eq_none (by rw [S3.ls]; omega)]
    rw [e0]
    exact wipe_ext (by rw [wipe_length]) fun j hj => wipe_get hj
  have val : ∀ {e' : List Nat} {env5 : VEnv} {H5 : Hp} {Fs5 : Fp}, (∀ j ∈ e', j ∈ E) → Ok0 c e' σ4 H3 Fs4 env5 H5 Fs5 → Ok0 c E (wipe σ vs) H1 Fs1 (wipeE env5 vs) H5 (wipeF Fs5 vs) := fun {e' env5 H5 Fs5} hs o5 => by
    have S5 := o5.sr.wipe (vs := vs) hvs
    rw [ew] at S5
    have ef4 : Eff c.ms [] Fs2 H3 Fs4 H3 := ⟨(fun _ h => nomatch h), Kp.refl _ _, fun _ h => h, fun j hj _ => e4 j hj, fun j hj a ha => .inl (by rw [← e4 j hj]; exact ha)⟩
    refine ⟨S5, (((o3.ef.trans ef4).trans o5.ef).trans (eff_wipe hvs)).mono (fun j hj => ?_) o.ef.sub, fun j hj a ha => ?_⟩
    · simp only [List.append_nil, List.mem_append] at hj
      exact hj.elim id (hs j)
    · have a5 := o5.vl j hj a (wipeF_sub ha)
      -- a slot that is neither own nor of the block stands as it stood
      by_cases hv : j ∈ vs
      · unfold wipeF at ha
        rw [if_pos hv] at ha
        cases ha
      · by_cases hN : j < c.N + c.g
        · have h0 := List.all_eq_true.mp hfx j (List.mem_range.mpr hN)
          rw [Bool.or_eq_true] at h0
          have hjf : j ∈ fx := h0.elim (fun z => absurd (by simpa using z) hv) fun z => by simpa using z
          rw [(f4 j hjf).2] at a5
          exact o3.vl j hj a a5
        · rw [S4.emp j fun d hd => by
            have := (List.getElem?_eq_some_iff.mp hd).1
            rw [S4.le] at this
            omega] at a5
          cases a5
  refine ⟨ew, ht.sim env4 σ4 H3 Fs4 _ _ S4 q4 fun b env5 H5 Fs5 o5 q5 => ?_⟩
  cases b with
  | true =>
    refine iteT (he.sim env5 σ4 H5 Fs5 _ _ o5.sr q5 fun y d G env6 H6 Fs6 o6 r6 s6 _ q6 => ?_)
    refine k y d G _ H6 _ (val (fun j hj => (List.mem_append.mp hj).elim (sub_iff he1 j) (sub_iff he2 j)) (o5.trans o6)) r6 (fun a ha j hj n z => s6 a ha j hj n (wipeF_sub z)) q6
  | false => exact iteF (k' _ H5 _ (val (sub_iff he1) o5) q5)
end
section
variable {c : Vc} {fx vs E ei et ee s' : List Nat} {ti : TI} {wi : VWI} {g : TG} {wg : VWG} {tt : TT} {wt : VWT} {te : TE} {we : VW} {f' : Option (List Nat)}
def wYes : VWT := fun env Q => Q true env
theorem simT_yes : SimT c tYes [] wYes := ⟨fun env σ H Fs Q R S hw k => k true env H Fs (.refl S) hw⟩
/-- the new list of a comprehension grows beside the slots -/
theorem Sr.side {env : VEnv} {σ : L2.St} {H : Hp} {Fs : Fp} {D : Addr} {o : HO} (S : Sr c env σ H Fs) (mD : Mutb H D) (nD : ∀ j, D ∉ Fs j) (xk : Xk c Fs (upd H D o)) : Sr c env σ (upd H D o) Fs :=
  ⟨S.le, S.ls, fun i d h => by
    obtain ⟨v, h1, r⟩ := S.at_ i d h
    exact ⟨v, h1, r.kp (L := [D]) (Kp.upd List.mem_cons_self) (fun a ha => by rw [List.mem_singleton.mp ha]; exact mD) fun a ha z => nD i (by rw [← List.mem_singleton.mp z]; exact ha)⟩, S.emp, S.sep, S.nd, S.tb.at1 (S.tb.notmut mD), xk⟩
theorem Eff.side {ms e : List Nat} {Fs Fs' : Fp} {H H' : Hp} {D : Addr} {o : HO} (h : Eff ms e Fs H Fs' H') (n : H D = none) : Eff ms e Fs H Fs' (upd H' D o) :=
  ⟨h.sub, h.kp.own n, fun a ha => by
    by_cases z : a = D
    · rw [z, upd_same] at ha
      cases ha
    · rw [upd_ne z] at ha
      exact h.gr a ha, h.out, h.foot⟩
/-- a wish, kept together -/
def app2 (Q : Val → VEnv → Prop) (u : Val) (env : VEnv) : Prop := Q u env
def wLc (wi : VWI) (wg : VWG) (wt : VWT) (we : VW) (vs : List Nat) : VW := fun env Q => wi env fun xs env1 => ∃ I : Nat → List Val → VEnv → Prop, I 0 [] (wipeE env1 vs) ∧
  (∀ i x acc env', xs[i]? = some x → I i acc env' → acc.length < 1000000 ∧ wg x env' fun env2 => wt env2 fun b env3 => if b = true then we env3 fun y env4 => y.flat = true ∧ I (i + 1) (acc ++ [y]) (wipeE env4 vs) else I (i + 1) acc (wipeE env3 vs)) ∧
  ∀ acc env', I xs.length acc env' → app2 Q (.lst acc) env'
theorem simE_lc (hi : SimI c ti [] ei wi) (hg : SimG c fx g wg) (ht : SimT c tt et wt) (he : SimE c te s' f' ee we) (hvs : disj vs c.ms = true) (hfx : ((List.range (c.N + c.g)).all fun j => vs.contains j || fx.contains j) = true) (hs1 : sub (et ++ ee) c.ms = true) : SimE c (tLc ti g tt te vs) [] (some []) (ei ++ (et ++ ee)) (wLc wi wg wt we vs) := ⟨fun env σ H Fs Q R S hw k =>
  hi.sim env σ H Fs _ _ S hw fun J xs env1 H1 Fs1 o it q D nD => by
    obtain ⟨I, I0, step, fin⟩ := q
    have S1 := o.sr.wipe (vs := vs) hvs
    have o1 : Ok0 c (et ++ ee) (wipe σ vs) H1 (wipeF Fs1 vs) (wipeE env1 vs) H1 (wipeF Fs1 vs) := (Ok0.refl S1).weak (fun _ h => nomatch h) (sub_iff hs1)
    have ew : Eff c.ms [] Fs1 H1 (wipeF Fs1 vs) H1 := eff_wipe hvs
    refine ⟨fun i m H2 => m = xs.length - i ∧ i ≤ xs.length ∧ ∃ acc env2 Fs2 us, Ok0 c (et ++ ee) (wipe σ vs) H1 (wipeF Fs1 vs) env2 H2 Fs2 ∧ (∀ j, D ∉ Fs2 j) ∧ H2 D = some (.lst us) ∧ RpA c.K H2 [] us acc ∧ I i acc env2,
      ⟨xs.length, by simp, Nat.zero_le _, [], _, _, [], o1.grow (same_upd nD), fun j z => (S1.mutb j D z).ex nD, upd_same, .nil, I0⟩, ?_⟩
    rintro i m H2 ⟨rfl, hi2, acc, env2, Fs2, us, o2, nf, hD, ra, i2⟩
    by_cases hlt : i < xs.length
    · obtain ⟨x, hx⟩ : ∃ x, xs[i]? = some x := ⟨_, List.getElem?_eq_getElem hlt⟩
      obtain ⟨go, yl⟩ := (it _ H2 Fs2 (ew.trans o2.ef) rfl i).1 x hx
      obtain ⟨alen, hstep⟩ := step i x acc env2 hx i2
      refine .inr ⟨go, fun H' => ∃ acc env2 Fs2 us, Ok0 c (et ++ ee) (wipe σ vs) H1 (wipeF Fs1 vs) env2 H' Fs2 ∧ (∀ j, D ∉ Fs2 j) ∧ H' D = some (.lst us) ∧ RpA c.K H' [] us acc ∧ I (i + 1) acc env2, fun H' hN => ⟨xs.length - (i + 1), by omega, rfl, hlt, hN⟩, fun v H3 hy => ?_⟩
      obtain ⟨sm, F, r, sr⟩ := yl v H3 hy
      have ob : Ok0 c (et ++ ee) (wipe σ vs) H2 Fs2 env2 H2 Fs2 := (Ok0.refl o2.sr).weak (fun _ h => nomatch h) (sub_iff hs1)
      have keep : ∀ {env5 : VEnv} {H5 : Hp} {Fs5 : Fp}, Ok0 c (et ++ ee) (wipe σ vs) H2 Fs2 env5 H5 Fs5 → (∀ j, D ∉ Fs5 j) ∧ H5 D = some (.lst us) ∧ RpA c.K H5 [] us acc ∧ Ok0 c (et ++ ee) (wipe σ vs) H1 (wipeF Fs1 vs) env5 H5 Fs5 := fun {env5 H5 Fs5} o5 => by
        refine ⟨fun j z => ?_, o5.ef.kp.lst (fun z => ?_) hD, ra.kp o5.ef.kp (o2.sr.effm _) (fun _ h => nomatch h), (o2.trans o5).weak (fun j hj => (List.mem_append.mp hj).elim id id) (sub_iff hs1)⟩
        · by_cases hj : j ∈ c.ms
          · rcases o5.ef.foot j hj D z with y | y
            · exact nf j y
            · rw [hD] at y
              cases y
          · exact nf j (o5.vl j hj D z)
        · obtain ⟨j, _, y⟩ := List.mem_flatMap.mp z
          exact nf j y
      refine turn_sim hg ht he hvs hfx (List.all_eq_true.mpr fun j hj => by simpa using Or.inl hj) (List.all_eq_true.mpr fun j hj => by simpa using Or.inr hj) ob sm r sr (R := fun y env5 => y.flat = true ∧ I (i + 1) (acc ++ [y]) env5) (R' := fun env5 => I (i + 1) acc env5) hstep ?_ ?_
      · rintro y d G env5 H5 Fs5 o5 r5 _ ⟨fl, q5⟩
        obtain ⟨nf5, hD5, ra5, o15⟩ := keep o5
        have z := r5.flat fl
        subst z
        have kD : Kp [D] H5 (upd H5 D (.lst (us ++ [y]))) := Kp.upd List.mem_cons_self
        have mD : ∀ a ∈ [D], Mutb H5 a := fun a ha => by
          rw [List.mem_singleton.mp ha]
          exact .inl ⟨_, hD5⟩
        have ef : Eff c.ms (et ++ ee) (wipeF Fs1 vs) H1 Fs5 (upd H5 D (.lst (us ++ [y]))) := o15.ef.side nD
        refine ⟨us, hD5, small_lt (by rw [ra5.len]; omega), acc ++ [d], env5, Fs5, us ++ [y], ⟨o15.sr.side (mD D List.mem_cons_self) nf5 (S1.xk.eff ef), ef, o15.vl⟩, nf5, upd_same, ?_, q5⟩
        have := (ra5.app (RpA.one r5)).kp kD mD (fun _ h => nomatch h)
        exact this
      · intro env5 H5 Fs5 o5 q5
        obtain ⟨nf5, hD5, ra5, o15⟩ := keep o5
        exact ⟨acc, env5, Fs5, us, o15, nf5, hD5, ra5, q5⟩
    · have e0 : i = xs.length := by omega
      subst e0
      refine .inl ⟨(it _ H2 Fs2 (ew.trans o2.ef) rfl _).2 (Nat.le_refl _), ?_⟩
      have ef := o.ef.trans (ew.trans o2.ef)
      refine k _ _ [D] env2 H2 Fs2 ⟨o2.sr.unwipe, ef, fun j hj a ha => o.vl j hj a (wipeF_sub (o2.vl j hj a ha))⟩ (.lst hD ra) (fun a ha j hj _ => by rw [List.mem_singleton.mp ha]; exact nf j) (fun mv e => ?_) (fin acc env2 i2)
      cases e
      exact ⟨by simp, fun a ha => .inl (by rw [List.mem_singleton.mp ha]; exact o.ef.gr D nD)⟩⟩
/-! all, any, sum of a generator expression -/
structure VCons (α : Type) where
  step : α → Val → (α → Prop) → (Val → Prop) → Prop
  fin : α → (Val → Prop) → Prop
structure CSim {α : Type} (K : PySem.W.Frag) (cs : Cons α) (vc : VCons α) : Prop where
  step : ∀ (H : Hp) (F : List Addr) (y : V) (d : Val) (a : α) (k k' : α → Prop) (p : Val → Prop) (p' : V → Prop), Rp K H F y d → vc.step a d k p → (∀ a', k a' → k' a') → (∀ v u, Rp K H [] v u → p u → p' v) → cs.step a y k' p'
  fin : ∀ (H : Hp) (a : α) (p : Val → Prop) (p' : V → Prop), vc.fin a p → (∀ v u, Rp K H [] v u → p u → p' v) → cs.fin a p'
def vAll : VCons Unit := ⟨fun _ y k p => match y with
  | .bl b => if b = true then k () else p (.bl false)
  | _ => False, fun _ p => p (.bl true)⟩
theorem cs_all {K : PySem.W.Frag} : CSim K cAll vAll := ⟨fun H F y d a k k' p p' r h hk hp => by
  cases d <;> try exact h.elim
  cases r
  rename_i b
  cases b with
  | true => exact ⟨true, rfl, iteT (hk _ h)⟩
  | false => exact ⟨false, rfl, iteF (hp _ _ (.bl false) h)⟩, fun H a p p' h hp => hp _ _ (.bl true) h⟩
def wGx {α : Type} (vc : VCons α) (a0 : α) (wi : VWI) (wg : VWG) (wt : VWT) (we : VW) (vs : List Nat) : VW := fun env Q => wi env fun xs env1 => ∃ I : Nat → α → VEnv → Prop, I 0 a0 (wipeE env1 vs) ∧
  (∀ i x a env', xs[i]? = some x → I i a env' → wg x env' fun env2 => wt env2 fun b env3 => if b = true then we env3 fun y env4 => vc.step a y (fun a' => I (i + 1) a' (wipeE env4 vs)) (fun u => app2 Q u (wipeE env4 vs)) else I (i + 1) a (wipeE env3 vs)) ∧
  ∀ a env', I xs.length a env' → vc.fin a fun u => app2 Q u env'
theorem simE_gx {α : Type} {cs : Cons α} {vc : VCons α} {a0 : α} {P : Addr} (hcs : CSim c.K cs vc) (hi : SimI c ti [] ei wi) (hg : SimG c fx g wg) (ht : SimT c tt et wt) (he : SimE c te s' f' ee we) (hP : P ∈ c.Ps.g) (hvs : disj vs c.ms = true) (hfx : ((List.range (c.N + c.g)).all fun j => vs.contains j || fx.contains j) = true) (hs1 : sub (et ++ ee) c.ms = true) : SimE c (tGx P cs a0 ti g tt te vs) [] (some []) (ei ++ (et ++ ee)) (wGx vc a0 wi wg wt we vs) := ⟨fun env σ H Fs Q R S hw k =>
  hi.sim env σ H Fs _ _ S hw fun J xs env1 H1 Fs1 o it q => ⟨o.sr.tb.1 P hP, fun H2 tb2 => by
    obtain ⟨I, I0, step, fin⟩ := q
    obtain ⟨tb', kp'⟩ := o.sr.tb.kp hP tb2
    have S1 := (o.sr.grow kp' tb').wipe (vs := vs) hvs
    have e12 : Eff c.ms [] Fs1 H1 (wipeF Fs1 vs) H2 := Eff.trans (e1 := []) (e2 := []) (.kps kp') (eff_wipe hvs)
    have o1 : Ok0 c (et ++ ee) (wipe σ vs) H2 (wipeF Fs1 vs) (wipeE env1 vs) H2 (wipeF Fs1 vs) := (Ok0.refl S1).weak (fun _ h => nomatch h) (sub_iff hs1)
    have out : ∀ {env5 : VEnv} {H5 : Hp} {Fs5 : Fp}, Ok0 c (et ++ ee) (wipe σ vs) H2 (wipeF Fs1 vs) env5 H5 Fs5 → Ok0 c (ei ++ (et ++ ee)) σ H Fs env5 H5 Fs5 := fun o5 => ⟨o5.sr.unwipe, o.ef.trans (e12.trans o5.ef), fun j hj a ha => o.vl j hj a (wipeF_sub (o5.vl j hj a ha))⟩
    refine ⟨fun i m a H3 => m = xs.length - i ∧ i ≤ xs.length ∧ ∃ env3 Fs3, Ok0 c (et ++ ee) (wipe σ vs) H2 (wipeF Fs1 vs) env3 H3 Fs3 ∧ I i a env3, ⟨xs.length, by simp, Nat.zero_le _, _, _, o1, I0⟩, ?_⟩
    rintro i m a H3 ⟨rfl, hi3, env3, Fs3, o3, i3⟩
    by_cases hlt : i < xs.length
    · obtain ⟨x, hx⟩ : ∃ x, xs[i]? = some x := ⟨_, List.getElem?_eq_getElem hlt⟩
      obtain ⟨go, yl⟩ := (it _ H3 Fs3 (e12.trans o3.ef) rfl i).1 x hx
      refine .inr ⟨go, fun a' H' => ∃ env' Fs', Ok0 c (et ++ ee) (wipe σ vs) H2 (wipeF Fs1 vs) env' H' Fs' ∧ I (i + 1) a' env', fun a' H' hN => ⟨xs.length - (i + 1), by omega, rfl, hlt, hN⟩, fun v H4 hy => ?_⟩
      obtain ⟨sm, F, r, sr⟩ := yl v H4 hy
      refine turn_sim hg ht he hvs hfx (List.all_eq_true.mpr fun j hj => by simpa using Or.inl hj) (List.all_eq_true.mpr fun j hj => by simpa using Or.inr hj) o3 sm r sr (R := fun y env5 => vc.step a y (fun a' => I (i + 1) a' env5) (fun u => R u env5)) (R' := fun env5 => I (i + 1) a env5) (step i x a env3 hx i3) ?_ ?_
      · intro y d G env5 H5 Fs5 o5 r5 _ q5
        exact hcs.step H5 G y d a _ _ _ _ r5 q5 (fun a' z => ⟨env5, Fs5, o5, z⟩) fun v u ru z => k v u [] env5 H5 Fs5 (out o5) ru .nil .nil z
      · intro env5 H5 Fs5 o5 q5
        exact ⟨env5, Fs5, o5, q5⟩
    · have e0 : i = xs.length := by omega
      subst e0
      exact .inl ⟨(it _ H3 Fs3 (e12.trans o3.ef) rfl _).2 (Nat.le_refl _), hcs.fin H3 a _ _ (fin a env3 i3) fun v u ru z => k v u [] env3 H3 Fs3 (out o3) ru .nil .nil z⟩⟩⟩
end
/-! ### calls -/
abbrev VSpec := List Val → (List Val → Val → Prop) → (Value → Prop) → Prop
structure OutOk (K : PySem.W.Frag) (Ps : TL) (own : List Nat) (vs : List V) (Fs : Fp) (H : Hp) (ds' : List Val) (Fs' : Fp) (H' : Hp) : Prop where
  rp : ∀ p ∈ own, ∃ v d, vs[p]? = some v ∧ ds'[p]? = some d ∧ Rp K H' (Fs' p) v d
  nd : ∀ p ∈ own, (Fs' p).Nodup
  sep : ∀ p ∈ own, ∀ q ∈ own, q ≠ p → ∀ a ∈ Fs' p, a ∉ Fs' q
  ef : Eff own own Fs H Fs' H'
  tb : Tb Ps H'
def vsp (K : PySem.W.Frag) (Ps : TL) (own : List Nat) (n : Nat) (S : VSpec) : Sp := fun vs H Q E => ∃ (ds : List Val) (Fs : Fp), Sr ⟨K, Ps, own, n, fun _ _ _ => False, fun _ => False, false, 0⟩ (ds.map some) (vs.map some) H Fs ∧
  S ds (fun ds' r => ∀ H' v F Fs', OutOk K Ps own vs Fs H ds' Fs' H' → Rp K H' F v r → F.Nodup → (∀ a ∈ F, H a = none ∧ ∀ p ∈ own, a ∉ Fs' p) → Q v H') (fun cls => ∀ H' Fs', Eff own own Fs H Fs' H' → Tb Ps H' → E cls none H')
theorem xk0 {K : PySem.W.Frag} {Ps : TL} {own : List Nat} {n g : Nat} {Fs : Fp} {H : Hp} : Xk ⟨K, Ps, own, n, fun _ _ _ => False, fun _ => False, false, g⟩ Fs H := fun _ _ _ _ _ h => h.elim
theorem vsp_len {K : PySem.W.Frag} {Ps : TL} {own : List Nat} {n : Nat} {S : VSpec} {vs : List V} {H : Hp} {Q : VK} {E : XK} (h : vsp K Ps own n S vs H Q E) : vs.length = n := by
  obtain ⟨ds, Fs, s, _⟩ := h
  have := s.ls
  rw [List.length_map] at this
  exact this
def slotF (own : List Nat) (sl : Nat → Nat) (Gs Fs : Fp) : Fp := fun j => match own.find? (fun p => sl p == j) with
  | some p => Gs p
  | none => Fs j
theorem slotF_at {own : List Nat} {sl : Nat → Nat} (inj : ∀ p ∈ own, ∀ q ∈ own, sl p = sl q → p = q) {Gs Fs : Fp} {p : Nat} (hp : p ∈ own) : slotF own sl Gs Fs (sl p) = Gs p := by
  unfold slotF
  cases h : own.find? (fun q => sl q == sl p) with
  | none =>
    have := List.find?_eq_none.mp h p hp
    simp at this
  | some q =>
    have h1 := List.mem_of_find?_eq_some h
    have h2 := List.find?_some h
    rw [inj q h1 p hp (by simpa using h2)]
theorem slotF_ne {own : List Nat} {sl : Nat → Nat} {Gs Fs : Fp} {j : Nat} (hj : ∀ p ∈ own, sl p ≠ j) : slotF own sl Gs Fs j = Fs j := by
  unfold slotF
  cases h : own.find? (fun q => sl q == j) with
  | none => rfl
  | some q =>
    have h1 := List.mem_of_find?_eq_some h
    have h2 := List.find?_some h
    exact absurd (by simpa using h2) (hj q h1)
theorem RpL.at {c : Vc} {σ : L2.St} {H : Hp} {Fs : Fp} : ∀ {as : List Arg} {Gs : List (List Addr)} {vs : List V} {ds : List Val}, RpL c σ H Fs as Gs vs ds → ∀ (p : Nat) (d : Val), ds[p]? = some d → ∃ G v a, Gs[p]? = some G ∧ vs[p]? = some v ∧ as[p]? = some a ∧ Rp c.K H G v d ∧ (∀ s, a = .v s → Src c.ms s G Fs) ∧ (∀ i, a = .o i → i ∈ c.ms ∧ G = Fs i ∧ SlV c.N σ i v)
  | _, _, _, _, .nil, p, d, h => by simp at h
  | _, _, _, _, .consV r s t, 0, d, h => by
    have e := Option.some.inj (show some _ = some d from h)
    subst e
    exact ⟨_, _, _, rfl, rfl, rfl, r, fun s' e => by cases e; exact s, fun i e => nomatch e⟩
  | _, _, _, _, .consO m v r t, 0, d, h => by
    have e := Option.some.inj (show some _ = some d from h)
    subst e
    exact ⟨_, _, _, rfl, rfl, rfl, r, (fun s' e => nomatch e), fun i e => by cases e; exact ⟨m, rfl, v⟩⟩
  | _, _, _, _, .consV r s t, p + 1, d, h => t.at p d h
  | _, _, _, _, .consO m v r t, p + 1, d, h => t.at p d h
theorem RpL.lend {c : Vc} {σ : L2.St} {H : Hp} {Fs : Fp} {as : List Arg} {Gs : List (List Addr)} {vs : List V} {ds : List Val} (h : RpL c σ H Fs as Gs vs ds) : ds.length = as.length := by
  rw [← h.rpa.len, h.len]
theorem RpL.leng {c : Vc} {σ : L2.St} {H : Hp} {Fs : Fp} : ∀ {as : List Arg} {Gs : List (List Addr)} {vs : List V} {ds : List Val}, RpL c σ H Fs as Gs vs ds → Gs.length = as.length
  | _, _, _, _, .nil => rfl
  | _, _, _, _, .consV _ _ t => congrArg (· + 1) t.leng
  | _, _, _, _, .consO _ _ _ t => congrArg (· + 1) t.leng
theorem RpL.in_ {c : Vc} {σ : L2.St} {H : Hp} {Fs : Fp} {as : List Arg} {Gs : List (List Addr)} {vs : List V} {ds : List Val} (r : RpL c σ H Fs as Gs vs ds) {p : Nat} {a : Addr} (h : a ∈ Gs.getD p []) : ∃ d, ds[p]? = some d := by
  by_cases hp : p < ds.length
  · exact ⟨_, List.getElem?_eq_getElem hp⟩
  · rw [List.getD_eq_getElem?_getD, List.getElem?_eq_none (by rw [r.leng, ← r.lend]; omega)] at h
    cases h
/-- the arguments of a call, as the callee sees them -/
structure Tags (own : List Nat) (sl : Nat → Nat) (as : List Arg) : Prop where
  inj : ∀ p ∈ own, ∀ q ∈ own, sl p = sl q → p = q
  at_ : ∀ p ∈ own, as[p]? = some (.o (sl p))
  only : ∀ p i, as[p]? = some (.o i) → p ∈ own
  ap : ∀ p ∈ own, ∀ (q : Nat) (s : List Nat), as[q]? = some (.v s) → sl p ∉ s
section
variable {c : Vc} {as : List Arg} {own : List Nat} {sl : Nat → Nat}
theorem call_own {σ : L2.St} {H : Hp} {Fs : Fp} {Gs : List (List Addr)} {vs : List V} {ds : List Val} (r : RpL c σ H Fs as Gs vs ds) (T : Tags own sl as) {p : Nat} (hp : p ∈ own) : sl p ∈ c.ms ∧ Gs.getD p [] = Fs (sl p) ∧ ∃ v, vs[p]? = some v ∧ SlV c.N σ (sl p) v := by
  have h1 := T.at_ p hp
  have hl := (List.getElem?_eq_some_iff.mp h1).1
  obtain ⟨G, v, a, g1, g2, g3, _, _, g4⟩ := r.at p _ (List.getElem?_eq_getElem (by rw [r.lend]; exact hl))
  rw [h1] at g3
  cases g3
  obtain ⟨k1, k2, k3⟩ := g4 _ rfl
  exact ⟨k1, by rw [List.getD_eq_getElem?_getD, g1]; exact k2, v, g2, k3⟩
theorem call_sep {σ : L2.St} {H : Hp} {Fs : Fp} {env : VEnv} {Gs : List (List Addr)} {vs : List V} {ds : List Val} (S : Sr c env σ H Fs) (r : RpL c σ H Fs as Gs vs ds) (T : Tags own sl as) {p : Nat} (hp : p ∈ own) {q : Nat} (hq : q ≠ p) {a : Addr} (ha : a ∈ Gs.getD p []) : a ∉ Gs.getD q [] := fun z => by
  obtain ⟨h1, h2, _⟩ := call_own r T hp
  rw [h2] at ha
  obtain ⟨d, hd⟩ := r.in_ z
  obtain ⟨G, v, b, g1, g2, g3, _, g4, g5⟩ := r.at q d hd
  rw [List.getD_eq_getElem?_getD, g1] at z
  cases b with
  | v s => exact g4 s rfl a z _ h1 (T.ap p hp q s g3) ha
  | o i =>
    have hq' := T.only q i g3
    obtain ⟨_, k2, _⟩ := g5 i rfl
    have e1 := T.at_ q hq'
    rw [g3] at e1
    cases e1
    have z : a ∈ Fs (sl q) := by rw [← k2]; exact z
    exact S.sep _ h1 _ (fun y => hq (T.inj q hq' p hp y)) a ha z
theorem call_in {σ : L2.St} {H : Hp} {Fs : Fp} {env : VEnv} {Gs : List (List Addr)} {vs pad : List V} {ds : List Val} (S : Sr c env σ H Fs) (r : RpL c σ H Fs as Gs (vs ++ pad) ds) (T : Tags own sl as) {n g : Nat} (hn : as.length = n + g) (hv : vs.length = n) (hp : ∀ v ∈ pad, v = .non) : Sr ⟨c.K, c.Ps, own, n, fun _ _ _ => False, fun _ => False, false, g⟩ (ds.map some) (vs.map some) H (fun p => Gs.getD p []) where
  le := by
    rw [List.length_map, r.lend, hn]
  ls := by rw [List.length_map, hv]
  at_ := fun p d h => by
    rw [List.getElem?_map] at h
    obtain ⟨d', hd, e⟩ := Option.map_eq_some_iff.mp h
    cases e
    obtain ⟨G, v, a, h1, h2, _, h3, _⟩ := r.at p d hd
    refine ⟨v, ⟨fun z => ?_, fun z => hp v ?_⟩, ?_⟩
    · have z : p < n := z
      rw [List.getElem?_append_left (by omega)] at h2
      rw [List.getElem?_map, h2]
      rfl
    · have z : n ≤ p := z
      rw [List.getElem?_append_right (by omega)] at h2
      exact List.mem_of_getElem? h2
    rw [List.getD_eq_getElem?_getD, h1]
    exact h3
  emp := fun p h => by
    cases hg : Gs.getD p [] with
    | nil => rfl
    | cons a t =>
      obtain ⟨d, hd⟩ := r.in_ (p := p) (a := a) (by rw [hg]; exact List.mem_cons_self)
      exact absurd (by rw [List.getElem?_map, hd]; rfl) (h d)
  sep := fun p hp q hq a ha => call_sep S r T hp hq ha
  nd := fun p hp => by
    obtain ⟨h1, h2, _⟩ := call_own r T hp
    rw [h2]
    exact S.nd _ h1
  tb := S.tb
  xk := xk0
/-- behind the call -/
theorem call_out {σ : L2.St} {H H' : Hp} {Fs Gs' : Fp} {env env' : VEnv} {Gs : List (List Addr)} {vs : List V} {ds ds' : List Val} (S : Sr c env σ H Fs) (r : RpL c σ H Fs as Gs vs ds) (T : Tags own sl as) (O : OutOk c.K c.Ps own vs (fun p => Gs.getD p []) H ds' Gs' H')
    (le : env'.length = c.N + c.g) (e1 : ∀ p ∈ own, ∀ d, ds'[p]? = some d → env'[sl p]? = some (some d)) (e2 : ∀ j, (∀ p ∈ own, sl p ≠ j) → env'[j]? = env[j]?) : Ok0 c (own.map sl) σ H Fs env' H' (slotF own sl Gs' Fs) := by
  have sm : ∀ j ∈ own.map sl, j ∈ c.ms := fun j hj => by
    obtain ⟨p, hp, rfl⟩ := List.mem_map.mp hj
    exact (call_own r T hp).1
  have Lsub : ∀ x ∈ own.flatMap (fun p => Gs.getD p []), x ∈ (own.map sl).flatMap Fs := fun x hx => by
    obtain ⟨p, hp, z⟩ := List.mem_flatMap.mp hx
    refine List.mem_flatMap.mpr ⟨sl p, List.mem_map.mpr ⟨p, hp, rfl⟩, ?_⟩
    rw [← (call_own r T hp).2.1]
    exact z
  have cs : ∀ j, (∃ p ∈ own, sl p = j) ∨ ∀ p ∈ own, sl p ≠ j := fun j => by
    by_cases h : ∃ p ∈ own, sl p = j
    · exact .inl h
    · exact .inr fun p hp z => h ⟨p, hp, z⟩
  have grow : ∀ p ∈ own, ∀ a ∈ Gs' p, a ∈ Fs (sl p) ∨ H a = none := fun p hp a ha => by
    rcases O.ef.foot p hp a ha with z | z
    · exact .inl (by rw [← (call_own r T hp).2.1]; exact z)
    · exact .inr z
  have ef : Eff c.ms (own.map sl) Fs H (slotF own sl Gs' Fs) H' := by
    refine ⟨sm, O.ef.kp.mono Lsub, O.ef.gr, fun j hj nn => slotF_ne fun p hp z => nn (List.mem_map.mpr ⟨p, hp, z⟩), fun j hj a ha => ?_⟩
    rcases cs j with ⟨p, hp, rfl⟩ | hno
    · rw [slotF_at T.inj hp] at ha
      exact grow p hp a ha
    · rw [slotF_ne hno] at ha
      exact .inl ha
  refine ⟨⟨le, S.ls, fun j d h => ?_, fun j h => ?_, fun i hi j hj a ha z => ?_, fun j hj => ?_, O.tb, S.xk.eff ef⟩, ef, fun j hj a ha => ?_⟩
  · rcases cs j with ⟨p, hp, rfl⟩ | hno
    · obtain ⟨v, d', g1, g2, g3⟩ := O.rp p hp
      rw [e1 p hp d' g2] at h
      cases h
      obtain ⟨_, _, v', g4, g5⟩ := call_own r T hp
      rw [g1] at g4
      cases g4
      exact ⟨v, g5, by rw [slotF_at T.inj hp]; exact g3⟩
    · rw [e2 j hno] at h
      obtain ⟨v, h1, h2⟩ := S.at_ j d h
      refine ⟨v, h1, ?_⟩
      rw [slotF_ne hno]
      refine h2.kp ef.kp (S.effm _) fun a ha z => ?_
      obtain ⟨k, hk, y⟩ := List.mem_flatMap.mp z
      obtain ⟨p, hp, rfl⟩ := List.mem_map.mp hk
      exact S.sep _ (sm _ hk) j (fun q => hno p hp q.symm) a y ha
  · rcases cs j with ⟨p, hp, rfl⟩ | hno
    · obtain ⟨v, d', g1, g2, g3⟩ := O.rp p hp
      exact absurd (e1 p hp d' g2) (h d')
    · rw [slotF_ne hno]
      exact S.emp j fun d hd => h d (by rw [e2 j hno]; exact hd)
  · rcases cs i with ⟨p, hp, rfl⟩ | hno
    · rw [slotF_at T.inj hp] at ha
      rcases cs j with ⟨q, hq, rfl⟩ | hno2
      · rw [slotF_at T.inj hq] at z
        exact O.sep p hp q hq (fun y => hj (by rw [y])) a ha z
      · rw [slotF_ne hno2] at z
        rcases grow p hp a ha with y | y
        · exact S.sep _ (call_own r T hp).1 j hj a y z
        · exact (S.mutb j a z).ex y
    · rw [slotF_ne hno] at ha
      rcases cs j with ⟨q, hq, rfl⟩ | hno2
      · rw [slotF_at T.inj hq] at z
        rcases grow q hq a z with y | y
        · exact S.sep i hi _ hj a ha y
        · exact (S.mutb i a ha).ex y
      · rw [slotF_ne hno2] at z
        exact S.sep i hi j hj a ha z
  · rcases cs j with ⟨p, hp, rfl⟩ | hno
    · rw [slotF_at T.inj hp]
      exact O.nd p hp
    · rw [slotF_ne hno]
      exact S.nd j hj
  · rw [slotF_ne fun p hp z => hj (by rw [← z]; exact (call_own r T hp).1)] at ha
    exact ha
variable {ta : TA} {f : Option (List Nat)} {e : List Nat} {wa : VWA} {S : VSpec} {n : Nat}
/-- a call; B puts the own arguments back into their slots -/
def wCall (S : VSpec) (xe : Value → Prop) (B : List Val → VEnv → (VEnv → Prop) → Prop) (wa : VWA) : VW := fun env Q => wa env fun ds env' => S ds (fun ds' r => B ds' env' fun env2 => Q r env2) xe
/-- spec transformers are monotone -/
def Mono (S : VSpec) : Prop := ∀ ds Q Q' E E', (∀ ds' r, Q ds' r → Q' ds' r) → (∀ x, E x → E' x) → S ds Q E → S ds Q' E'
theorem simE_call (hM : Mono S) (h : SimA c ta as f e wa) (T : Tags own sl as) (hn : as.length = n) {B : List Val → VEnv → (VEnv → Prop) → Prop}
    (hB : ∀ ds' env R, env.length = c.N + c.g → B ds' env R → ∃ env', R env' ∧ env'.length = c.N + c.g ∧ (∀ p ∈ own, ∀ d, ds'[p]? = some d → env'[sl p]? = some (some d)) ∧ ∀ j, (∀ p ∈ own, sl p ≠ j) → env'[j]? = env[j]?) :
    SimE c (tCall (vsp c.K c.Ps own n S) [] c.E ta) [] (some []) (e ++ own.map sl) (wCall S c.xe B wa) := ⟨fun env σ H Fs Q R S0 hw k =>
  h.sim env σ H Fs _ _ S0 hw fun vs ds Gs env1 H1 Fs1 o r fr q => by
    rw [List.append_nil]
    refine ⟨ds, fun p => Gs.getD p [], call_in (pad := []) o.sr (by rw [List.append_nil]; exact r) T hn (by rw [r.len, hn]) (fun _ z => nomatch z), hM _ _ _ _ _ (fun ds' rv hb H' v F Gs' O rr nd new => ?_) (fun x hx H' Gs' ef tb => ?_) q⟩
    · obtain ⟨env', hR, le, e1, e2⟩ := hB ds' env1 _ o.sr.le hb
      have o2 := call_out o.sr r T O le e1 e2
      refine k v rv F env' H' _ (o.trans o2) rr (fun a ha j hj _ z => ?_) (fun mv e => ⟨nd, fun a ha => .inl (o.ef.gr a (new a ha).1)⟩) hR
      by_cases hx : ∃ p ∈ own, sl p = j
      · obtain ⟨p, hp, rfl⟩ := hx
        rw [slotF_at T.inj hp] at z
        exact (new a ha).2 p hp z
      · rw [slotF_ne fun p hp y => hx ⟨p, hp, y⟩] at z
        exact (o.sr.mutb j a z).ex (new a ha).1
    · have ef2 : Eff c.ms (own.map sl) Fs1 H1 (slotF own sl Gs' Fs1) H' := by
        refine ⟨fun j hj => ?_, ef.kp.mono fun y hy => ?_, ef.gr, fun j hj nn => slotF_ne fun p hp z => nn (List.mem_map.mpr ⟨p, hp, z⟩), fun j hj a ha => ?_⟩
        · obtain ⟨p, hp, rfl⟩ := List.mem_map.mp hj
          exact (call_own r T hp).1
        · obtain ⟨p, hp, z⟩ := List.mem_flatMap.mp hy
          refine List.mem_flatMap.mpr ⟨sl p, List.mem_map.mpr ⟨p, hp, rfl⟩, ?_⟩
          rw [← (call_own r T hp).2.1]
          exact z
        · by_cases hx : ∃ p ∈ own, sl p = j
          · obtain ⟨p, hp, rfl⟩ := hx
            rw [slotF_at T.inj hp] at ha
            rcases ef.foot p hp a ha with z | z
            · exact .inl (by rw [← (call_own r T hp).2.1]; exact z)
            · exact .inr z
          · rw [slotF_ne fun p hp y => hx ⟨p, hp, y⟩] at ha
            exact .inl ha
      exact o.sr.xk x H' _ (ef2.mono ef2.sub fun _ z => z) tb hx⟩
/-- no own argument; the first one; the first two -/
def B0 : List Val → VEnv → (VEnv → Prop) → Prop := fun _ env R => R env
def B1 (i : Nat) : List Val → VEnv → (VEnv → Prop) → Prop
  | d :: _, env, R => R (env.set i (some d))
  | [], _, _ => False
def noO (as : List Arg) : Bool := as.all fun a => match a with
  | .v _ => true
  | .o _ => false
theorem noO_at {as : List Arg} (h : noO as = true) {p i : Nat} : as[p]? ≠ some (.o i) := fun z => by
  have := List.all_eq_true.mp h _ (List.mem_of_getElem? z)
  cases this
theorem simE_call0 (hM : Mono S) (h : SimA c ta as f e wa) (hn : as.length = n) (ho : noO as = true) : SimE c (tCall (vsp c.K c.Ps [] n S) [] c.E ta) [] (some []) (e ++ []) (wCall S c.xe B0 wa) :=
  simE_call (own := []) (sl := id) hM h ⟨(fun _ h => nomatch h), (fun _ h => nomatch h), fun p i z => absurd z (noO_at ho), fun _ h => nomatch h⟩ hn fun ds' env R le hb => ⟨env, hb, le, (fun _ h => nomatch h), fun _ _ => rfl⟩
def apO (i : Nat) (as : List Arg) : Bool := as.all fun a => match a with
  | .v s => !s.contains i
  | .o _ => false
theorem apO_at {i : Nat} {as : List Arg} (h : apO i as = true) {q : Nat} {s : List Nat} (z : as[q]? = some (.v s)) : i ∉ s := fun y => by
  have := List.all_eq_true.mp h _ (List.mem_of_getElem? z)
  simp [y] at this
theorem apO_no {i : Nat} {as : List Arg} (h : apO i as = true) {q j : Nat} : as[q]? ≠ some (.o j) := fun z => by
  have := List.all_eq_true.mp h _ (List.mem_of_getElem? z)
  cases this
theorem simE_call1 {i : Nat} {as' : List Arg} (hM : Mono S) (h : SimA c ta (.o i :: as') f e wa) (hn : (Arg.o i :: as').length = n) (ho : apO i as' = true) (hi : i < c.N) : SimE c (tCall (vsp c.K c.Ps [0] n S) [] c.E ta) [] (some []) (e ++ [i]) (wCall S c.xe (B1 i) wa) := by
  refine simE_call (own := [0]) (sl := fun _ => i) hM h ⟨fun p hp q hq _ => by rw [List.mem_singleton.mp hp, List.mem_singleton.mp hq], fun p hp => by rw [List.mem_singleton.mp hp]; rfl, fun p k z => ?_, fun p hp q s z => ?_⟩ hn fun ds' env R le hb => ?_
  · cases p with
    | zero => exact List.mem_singleton.mpr rfl
    | succ p => exact absurd z (apO_no ho)
  · cases q with
    | zero => cases z
    | succ q => exact apO_at ho z
  · cases ds' with
    | nil => exact hb.elim
    | cons d ds' =>
      refine ⟨_, hb, by rw [List.length_set, le], fun p hp d' z => ?_, fun j hj => ?_⟩
      · rw [List.mem_singleton.mp hp] at z
        cases z
        rw [List.getElem?_set_self (by rw [le]; omega)]
      · rw [List.getElem?_set_ne (hj 0 (List.mem_singleton.mpr rfl))]
end
/-! ### bodies -/
section
variable {K : PySem.W.Frag} {Ps : TL} {own lo : List Nat} {n N : Nat} {S : VSpec}
def env0 (N : Nat) (ds : List Val) : VEnv := ds.map some ++ List.replicate (N - ds.length) none
theorem sr_body {ds : List Val} {vs : List V} {H : Hp} {Fs : Fp} {Nm : List Str} {E : XK} {al : Bool} (s : Sr ⟨K, Ps, own, n, fun _ _ _ => False, fun _ => False, false, 0⟩ (ds.map some) (vs.map some) H Fs) (hN : Nm.length = N) (hn : n ≤ N) (hlo : (lo.all fun j => decide (n ≤ j)) = true) :
    Sr ⟨K, Ps, own ++ lo, N, E, fun cls => ∀ H' Fs', Eff own own Fs H Fs' H' → Tb Ps H' → E cls none H', al, 0⟩ (env0 N ds) (start Nm vs) H Fs := by
  have ld : ds.length = n := by have := s.le; rwa [List.length_map] at this
  have lv : vs.length = n := by have := s.ls; rwa [List.length_map] at this
  have hlo : ∀ j ∈ lo, n ≤ j := fun j hj => by simpa using List.all_eq_true.mp hlo j hj
  have at0 : ∀ {j : Nat} {d : Val}, (env0 N ds)[j]? = some (some d) → (ds.map some)[j]? = some (some d) := fun {j d} h => by
    unfold env0 at h
    by_cases hj : j < (ds.map some).length
    · rwa [List.getElem?_append_left hj] at h
    · rw [List.getElem?_append_right (by omega)] at h
      have := List.mem_of_getElem? h
      rw [List.mem_replicate] at this
      cases this.2
  have emp : ∀ j, n ≤ j → Fs j = [] := fun j hj => s.emp j fun d hd => by
    have := (List.getElem?_eq_some_iff.mp hd).1
    rw [List.length_map] at this
    omega
  have nlo : ∀ j ∈ lo, Fs j = [] := fun j hj => emp j (hlo j hj)
  refine ⟨?_, ?_, fun j d h => ?_, fun j h => ?_, fun i hi j hj a ha => ?_, fun i hi => ?_, s.tb, ?_⟩
  · show (env0 N ds).length = N
    unfold env0
    rw [List.length_append, List.length_map, List.length_replicate]
    omega
  · show (start Nm vs).length = N
    unfold L2.start
    rw [List.length_append, List.length_map, List.length_replicate]
    omega
  · obtain ⟨v, h1, h2⟩ := s.at_ j d (at0 h)
    have jn : j < n := by
      have := (List.getElem?_eq_some_iff.mp (at0 h)).1
      rw [s.le] at this
      exact this
    have h1 := h1.1 jn
    refine ⟨v, .of (Nat.lt_of_lt_of_le jn hn) ?_, h2⟩
    unfold L2.start
    rw [List.getElem?_append_left (List.getElem?_eq_some_iff.mp h1).1]
    exact h1
  · by_cases hj : j < n
    · refine s.emp j fun d hd => h d ?_
      unfold env0
      rw [List.getElem?_append_left (List.getElem?_eq_some_iff.mp hd).1]
      exact hd
    · exact emp j (by omega)
  · rcases List.mem_append.mp hi with z | z
    · exact s.sep i z j hj a ha
    · rw [nlo i z] at ha
      cases ha
  · rcases List.mem_append.mp hi with z | z
    · exact s.nd i z
    · show (Fs i).Nodup
      rw [nlo i z]
      exact List.nodup_nil
  · intro cls H' Fs' ef tb h
    refine h H' Fs' ⟨fun _ z => z, ef.kp.mono fun a ha => ?_, ef.gr, fun j hj nn => absurd hj nn, fun j hj => ef.foot j (List.mem_append_left _ hj)⟩ tb
    obtain ⟨j, hj, z⟩ := List.mem_flatMap.mp ha
    rcases List.mem_append.mp hj with y | y
    · exact List.mem_flatMap.mpr ⟨j, y, z⟩
    · rw [nlo j y] at z
      cases z
/-- what a def is asked: U takes the own parameters out at the end -/
theorem vbody {vs : List V} {H : Hp} {Q : VK} {E : XK} {Nm : List Str} {t : TS} {w : (Value → Prop) → VWS} {ds : List Val} {Fs : Fp} {Ef : List Nat} {al : Bool} (U : VEnv → Option (List Val)) (s : Sr ⟨K, Ps, own, n, fun _ _ _ => False, fun _ => False, false, 0⟩ (ds.map some) (vs.map some) H Fs) (hN : Nm.length = N) (hn : n ≤ N) (hlo : (lo.all fun j => decide (n ≤ j)) = true) (hon : (own.all fun j => decide (j < n)) = true)
    (sim : ∀ xe, SimS ⟨K, Ps, own ++ lo, N, E, xe, al, 0⟩ own lo Ef t (w xe)) (hU : ∀ env ds', U env = some ds' → ∀ p ∈ own, ∃ d, ds'[p]? = some d ∧ env[p]? = some (some d))
    (hw : w (fun cls => ∀ H' Fs', Eff own own Fs H Fs' H' → Tb Ps H' → E cls none H')
      { nx := fun env => ∃ ds', U env = some ds' ∧ ∀ H' v F Fs', OutOk K Ps own vs Fs H ds' Fs' H' → Rp K H' F v .non → (al = false → F.Nodup ∧ ∀ a ∈ F, H a = none) → (∀ a ∈ F, ∀ p ∈ own, a ∉ Fs' p) → Q v H',
        rt := fun r env => ∃ ds', U env = some ds' ∧ ∀ H' v F Fs', OutOk K Ps own vs Fs H ds' Fs' H' → Rp K H' F v r → (al = false → F.Nodup ∧ ∀ a ∈ F, H a = none) → (∀ a ∈ F, ∀ p ∈ own, a ∉ Fs' p) → Q v H' } (env0 N ds)) : t { nx := fun _ H' => Q .non H', rt := Q } (start Nm vs) H := by
  have lv : vs.length = n := by have := s.ls; rwa [List.length_map] at this
  have hlo' : ∀ j ∈ lo, n ≤ j := fun j hj => by simpa using List.all_eq_true.mp hlo j hj
  have hon' : ∀ j ∈ own, j < n := fun j hj => by simpa using List.all_eq_true.mp hon j hj
  have nlo : ∀ j ∈ lo, Fs j = [] := fun j hj => s.emp j fun d hd => by
    have h1 := (List.getElem?_eq_some_iff.mp hd).1
    have h2 : (ds.map some).length = n := s.le
    have h3 := hlo' j hj
    omega
  have out : ∀ {env' : VEnv} {σ' : L2.St} {H' : Hp} {Fs' : Fp} {ds' : List Val} {xe : Value → Prop}, Ok2 ⟨K, Ps, own ++ lo, N, E, xe, al, 0⟩ own Ef (start Nm vs) H Fs env' σ' H' Fs' → U env' = some ds' → OutOk K Ps own vs Fs H ds' Fs' H' := fun {env' σ' H' Fs' ds' xe} o hu => by
    refine ⟨fun p hp => ?_, fun p hp => o.sr.nd p (List.mem_append_left _ hp), fun p hp q hq ne => o.sr.sep p (List.mem_append_left _ hp) q ne, ⟨fun _ z => z, o.ef.kp.mono fun a ha => ?_, o.ef.gr, fun j hj nn => absurd hj nn, fun j hj => o.ef.foot j (List.mem_append_left _ hj)⟩, o.sr.tb⟩
    · obtain ⟨d, h1, h2⟩ := hU env' ds' hu p hp
      obtain ⟨v, h3, h4⟩ := o.sr.at_ p d h2
      have h3 := h3.1 (Nat.lt_of_lt_of_le (hon' p hp) hn)
      refine ⟨v, d, ?_, h1, h4⟩
      have h5 := o.fx p hp
      rw [h3] at h5
      unfold L2.start at h5
      rw [List.getElem?_append_left (by rw [List.length_map, lv]; exact hon' p hp), List.getElem?_map] at h5
      obtain ⟨v', h6, h7⟩ := Option.map_eq_some_iff.mp h5.symm
      cases h7
      exact h6
    · obtain ⟨j, hj, z⟩ := List.mem_flatMap.mp ha
      rcases List.mem_append.mp (o.ef.sub j hj) with y | y
      · exact List.mem_flatMap.mpr ⟨j, y, z⟩
      · rw [nlo j y] at z
        cases z
  refine (sim _).sim (env0 N ds) (start Nm vs) H Fs _ _ (sr_body s hN hn hlo) hw (fun env' σ' H' Fs' o ⟨ds', hu, q⟩ => ?_) (fun _ _ _ _ _ h => h.elim) (fun _ _ _ _ _ h => h.elim) (fun v d F env' σ' H' Fs' o r ⟨ds', hu, q⟩ => ?_)
  · exact q H' .non [] Fs' (out o hu) .non (fun _ => ⟨List.nodup_nil, fun _ h => nomatch h⟩) fun _ h => nomatch h
  · refine q H' v F Fs' (out o hu) r.rp (fun ha => ?_) fun a ha p hp => r.sc a ha p (List.mem_append_left _ hp) fun z => ?_
    · obtain ⟨nd, new⟩ := r.fs ha lo rfl
      refine ⟨nd, fun a ha => ?_⟩
      rcases new a ha with z | ⟨j, hj, z⟩
      · exact z
      · rcases o.ef.foot j (List.mem_append_right _ hj) a z with y | y
        · rw [nlo j hj] at y
          cases y
        · exact y
    · have h1 := hon' p hp
      have h2 := hlo' p z
      omega
def U0 : VEnv → Option (List Val) := fun _ => some []
def U1 : VEnv → Option (List Val)
  | some d :: _ => some [d]
  | _ => none
end
/-! ### new lists without lists within -/
theorem rpa_ints {K : PySem.W.Frag} {H : Hp} : ∀ ns : List Int, RpA K H [] (ns.map V.int) (ns.map Val.int)
  | [] => .nil
  | n :: r => RpA.cons (F := []) (.int n) (rpa_ints r)
theorem rpa_ints' {K : PySem.W.Frag} {H : Hp} {G : List Addr} {us : List V} : ∀ {ns : List Int}, RpA K H G us (ns.map Val.int) → us = ns.map V.int := by
  intro ns h
  induction ns generalizing G us with
  | nil =>
    cases h
    rfl
  | cons n r ih =>
    cases h with
    | cons a t =>
      cases a
      rw [ih t]
      rfl
def spV (s : Span) : Val := .tup [.int s.1, .int s.2]
theorem rp_span' {K : PySem.W.Frag} {H : Hp} {F : List Addr} {v : V} {s : Span} (h : Rp K H F v (spV s)) : Spn H v s := by
  unfold spV at h
  cases h with
  | tup ht r =>
    cases r with
    | cons a t =>
      cases t with
      | cons b t =>
        cases t
        cases a
        cases b
        exact ⟨_, rfl, ht⟩
theorem rpa_spans' {K : PySem.W.Frag} {H : Hp} {G : List Addr} {us : List V} : ∀ {ss : List Span}, RpA K H G us (ss.map spV) → Sps H us ss := by
  intro ss h
  induction ss generalizing G us with
  | nil =>
    cases h
    exact .nil
  | cons n r ih =>
    cases h with
    | cons a t => exact .cons (rp_span' a) (ih t)
theorem flat_ints : ∀ ns : List Int, Val.flatAll (ns.map Val.int) = true
  | [] => rfl
  | n :: r => by
    show (Val.flat (.int n) && Val.flatAll (r.map Val.int)) = true
    rw [flat_ints r]
    rfl
theorem flat_spans : ∀ ss : List Span, Val.flatAll (ss.map spV) = true
  | [] => rfl
  | n :: r => by
    show (Val.flat (spV n) && Val.flatAll (r.map spV)) = true
    rw [flat_spans r]
    rfl
theorem flat_map {α : Type} (f : α → Val) (hf : ∀ x, (f x).flat = true) : ∀ l : List α, Val.flatAll (l.map f) = true
  | [] => rfl
  | n :: r => by
    show (Val.flat (f n) && Val.flatAll (r.map f)) = true
    rw [flat_map f hf r, hf n]
    rfl
/-- a list of things without lists -/
theorem Rp.asLF {K : PySem.W.Frag} {H : Hp} {F : List Addr} {v : V} {ds : List Val} (h : Rp K H F v (.lst ds)) (hf : Val.flatAll ds = true) : ∃ l vs, v = .ref l ∧ H l = some (.lst vs) ∧ RpA K H [] vs ds := by
  obtain ⟨l, vs, G, e, h1, h2, _⟩ := h.asL
  have z := h2.flat hf
  subst z
  exact ⟨l, vs, e, h1, h2⟩
section
variable {c : Vc} {ta tb t : TE} {sa sb s : List Nat} {fa fb f : Option (List Nat)} {ea eb e : List Nat} {wa wb w : VW} {tA : TA} {as : List Arg} {wA : VWA}
/-- a new list p of things without lists -/
theorem new_flat {σ : L2.St} {H H1 : Hp} {Fs Fs1 : Fp} {env1 : VEnv} {e : List Nat} {Q : VK} {R : Val → VEnv → Prop} (k : ∀ v d F env' H' Fs', Ok0 c e σ H Fs env' H' Fs' → Rp c.K H' F v d → Src c.ms [] F Fs' → Frs (some []) H Fs' F → R d env' → Q v H') (o : Ok0 c e σ H Fs env1 H1 Fs1) {us : List V} {xs : List Val} (ra : RpA c.K H1 [] us xs) {p : Addr} (np : H1 p = none) (q : R (.lst xs) env1) : Q (.ref p) (upd H1 p (.lst us)) := by
  obtain ⟨gp, sp⟩ := upd_at (o := .lst us) np
  refine k _ _ [p] env1 _ Fs1 (o.grow sp) (.lst gp (ra.same sp)) (fun a ha j hj _ z => ?_) (fun mv e => ?_) q
  · rw [List.mem_singleton.mp ha] at z
    exact (o.sr.mutb j p z).ex np
  · cases e
    exact ⟨by simp, fun a ha => .inl (by rw [List.mem_singleton.mp ha]; exact o.ef.gr p np)⟩
def R2L (K : PySem.W.Frag) (r : R2) (g : Val → Val → (Val → Prop) → Prop) : Prop := ∀ (H : Hp) (x y : V) (d e : Val) (F G : List Addr) (Q : VK) (R : Val → Prop), Rp K H F x d → Rp K H G y e → g d e R → (∀ us xs p, RpA K H [] us xs → H p = none → R (.lst xs) → Q (.ref p) (upd H p (.lst us))) → r x y H Q
theorem simE_opL {r : R2} {g : Val → Val → (Val → Prop) → Prop} (hr : R2L c.K r g) (ha : SimE c ta sa fa ea wa) (hb : SimE c tb sb fb eb wb) (hd : disj sa eb = true) : SimE c (tOp r ta tb) [] (some []) (ea ++ eb) (wOp g wa wb) := ⟨fun env σ H Fs Q R S h k =>
  ha.sim env σ H Fs _ _ S h fun x d F env1 H1 Fs1 o1 r1 s1 _ h1 => hb.sim env1 σ H1 Fs1 _ _ o1.sr h1 fun y e G env2 H2 Fs2 o2 r2 s2 _ h2 =>
    hr H2 x y d e F G Q _ (r1.eff o1.sr o2.ef s1 hd).1 r2 h2 fun us xs p ra np q => new_flat k (o1.trans o2) ra np q⟩
def fCat : Val → Val → (Val → Prop) → Prop
  | .lst xs, .lst ys, Q => Val.flatAll xs = true ∧ Val.flatAll ys = true ∧ xs.length + ys.length ≤ 1000000 ∧ Q (.lst (xs ++ ys))
  | _, _, _ => False
theorem r2_cat {K : PySem.W.Frag} : R2L K rCat fCat := fun H x y d e F G Q R h1 h2 h k => by
  cases d <;> try exact h.elim
  cases e <;> try exact h.elim
  obtain ⟨f1, f2, hl, q⟩ := h
  obtain ⟨l, vs, rfl, hl1, ra⟩ := h1.asLF f1
  obtain ⟨m, ws, rfl, hm1, rb⟩ := h2.asLF f2
  exact ⟨l, m, vs, ws, rfl, rfl, hl1, hm1, small_le (by rw [ra.len, rb.len]; exact hl), fun p np => k _ _ p (ra.app rb) np q⟩
/-! -x -/
/-! xs[lo:hi], xs[::-1] -/
abbrev VWO := VEnv → (Option Int → VEnv → Prop) → Prop
structure SimO (c : Vc) (t : TO) (e : List Nat) (w : VWO) : Prop where
  sim : ∀ (env : VEnv) (σ : L2.St) (H : Hp) (Fs : Fp) (Q : Option Int → Hp → Prop) (R : Option Int → VEnv → Prop), Sr c env σ H Fs → w env R → (∀ i env' H' Fs', Ok0 c e σ H Fs env' H' Fs' → R i env' → Q i H') → t σ H Q
def woN : VWO := fun env Q => Q none env
def woS (w : VW) : VWO := fun env Q => w env fun d env' => match d with
  | .int i => Q (some i) env'
  | _ => False
theorem simO_none : SimO c tNoPart [] woN := ⟨fun env σ H Fs Q R S hw k => k none env H Fs (.refl S) hw⟩
theorem simO_some (h : SimE c t s f e w) : SimO c (tPart t) e (woS w) := ⟨fun env σ H Fs Q R S hw k => h.sim env σ H Fs _ _ S hw fun v d F env' H' Fs' o r _ _ q => by
  cases d <;> try exact q.elim
  cases r
  exact ⟨_, rfl, k _ env' H' Fs' o q⟩⟩
def cutL {α : Type} (xs : List α) (lo hi : Option Int) : List α := (xs.drop (HT.sIx xs.length 0 lo)).take (HT.sIx xs.length xs.length hi - HT.sIx xs.length 0 lo)
theorem RpA.drop {K : PySem.W.Frag} {H : Hp} : ∀ {us : List V} {xs : List Val} (n : Nat), RpA K H [] us xs → RpA K H [] (us.drop n) (xs.drop n) := fun {us xs} n h => by
  induction n generalizing us xs with
  | zero => exact h
  | succ n ih =>
    generalize hG : ([] : List Addr) = G at h
    cases h with
    | nil => exact .nil
    | cons a t =>
      rename_i A B v d vs ds
      have hA : A = [] ∧ B = [] := List.append_eq_nil_iff.mp hG.symm
      obtain ⟨rfl, rfl⟩ := hA
      exact ih t
theorem RpA.take {K : PySem.W.Frag} {H : Hp} : ∀ {us : List V} {xs : List Val} (n : Nat), RpA K H [] us xs → RpA K H [] (us.take n) (xs.take n) := fun {us xs} n h => by
  induction n generalizing us xs with
  | zero => exact .nil
  | succ n ih =>
    generalize hG : ([] : List Addr) = G at h
    cases h with
    | nil => exact .nil
    | cons a t =>
      rename_i A B v d vs ds
      have hA : A = [] ∧ B = [] := List.append_eq_nil_iff.mp hG.symm
      obtain ⟨rfl, rfl⟩ := hA
      exact RpA.cons (F := []) a (ih t)
theorem RpA.rev {K : PySem.W.Frag} {H : Hp} : ∀ {us : List V} {xs : List Val}, RpA K H [] us xs → RpA K H [] us.reverse xs.reverse := fun {us xs} h => by
  induction xs generalizing us with
  | nil =>
    cases us with
    | nil => exact .nil
    | cons u us => exact absurd h.len (by simp)
  | cons x xs ih =>
    generalize hG : ([] : List Addr) = G at h
    cases h with
    | cons a t =>
      rename_i A B v vs
      have hA : A = [] ∧ B = [] := List.append_eq_nil_iff.mp hG.symm
      obtain ⟨rfl, rfl⟩ := hA
      rw [List.reverse_cons, List.reverse_cons]
      exact (ih t).app (RpA.one a)
theorem RpA.cut {K : PySem.W.Frag} {H : Hp} {us : List V} {xs : List Val} (h : RpA K H [] us xs) (lo hi : Option Int) : RpA K H [] (cutV us lo hi) (cutL xs lo hi) := by
  unfold cutV cutL
  rw [h.len]
  exact (h.drop _).take _
variable {tl th : TO} {wl wh : VWO} {el eh : List Nat}
def wSl (w : VW) (wl wh : VWO) : VW := fun env Q => w env fun d env1 => wl env1 fun a env2 => wh env2 fun b env3 => match d with
  | .lst xs => Val.flatAll xs = true ∧ Q (.lst (cutL xs a b)) env3
  | .frz xs => Val.flatAll xs = true ∧ Q (.lst (cutL xs a b)) env3
  | _ => False
theorem simE_sl (h : SimE c t s f e w) (hl : SimO c tl el wl) (hh : SimO c th eh wh) (hd : disj s el = true) (hd2 : disj s eh = true) : SimE c (tSl (rSlL c.K) t tl th) [] (some []) (e ++ (el ++ eh)) (wSl w wl wh) := ⟨fun env σ H Fs Q R S hw k =>
  h.sim env σ H Fs _ _ S hw fun v d F env1 H1 Fs1 o1 r1 s1 _ q1 => hl.sim env1 σ H1 Fs1 _ _ o1.sr q1 fun a env2 H2 Fs2 o2 q2 => hh.sim env2 σ H2 Fs2 _ _ o2.sr q2 fun b env3 H3 Fs3 o3 q3 => by
    obtain ⟨r2, s2⟩ := r1.eff o1.sr o2.ef s1 hd
    obtain ⟨r3, s3⟩ := r2.eff o2.sr o3.ef s2 hd2
    have O := o1.trans (o2.trans o3)
    cases d <;> try exact q3.elim
    · obtain ⟨hf, q⟩ := q3
      obtain ⟨l, vs, e, h1, ra⟩ := r3.asLF hf
      subst e
      exact ⟨l, vs, rfl, SqL.of h1, fun p np => new_flat k O (ra.cut a b) np q⟩
    · obtain ⟨hf, q⟩ := q3
      obtain ⟨l, vs, e, h1, ra⟩ := r3.asF
      have z := ra.flat hf
      subst e z
      exact ⟨l, vs, rfl, h1, fun p np => new_flat k O (ra.cut a b) np q⟩⟩
def wRev (w : VW) : VW := fun env Q => w env fun d env1 => match d with
  | .lst xs => Val.flatAll xs = true ∧ Q (.lst xs.reverse) env1
  | _ => False
theorem simE_rev (h : SimE c t s f e w) : SimE c (tRevL c.K t) [] (some []) e (wRev w) := ⟨fun env σ H Fs Q R S hw k =>
  h.sim env σ H Fs _ _ S hw fun v d F env1 H1 Fs1 o1 r1 s1 _ q1 => by
    cases d <;> try exact q1.elim
    obtain ⟨hf, q⟩ := q1
    obtain ⟨l, vs, e, h1, ra⟩ := r1.asLF hf
    subst e
    exact ⟨l, vs, rfl, SqL.of h1, fun p np => new_flat k o1 ra.rev np q⟩⟩
/-! built-in functions that make a new list -/
def CBL (c : Vc) (r : List V → Hp → VK → Prop) (g : List Val → (Val → Prop) → Prop) : Prop := ∀ (σ : L2.St) (H : Hp) (Fs : Fp) (as : List Arg) (Gs : List (List Addr)) (vs : List V) (ds : List Val) (Q : VK) (R : Val → Prop), RpL c σ H Fs as Gs vs ds → g ds R → (∀ us xs p, RpA c.K H [] us xs → H p = none → R (.lst xs) → Q (.ref p) (upd H p (.lst us))) → r vs H Q
theorem simE_cbl {r : List V → Hp → VK → Prop} {g : List Val → (Val → Prop) → Prop} (hr : CBL c r g) (h : SimA c tA as f e wA) : SimE c (tCB r tA) [] (some []) e (wCB g wA) := ⟨fun env σ H Fs Q R S hw k =>
  h.sim env σ H Fs _ _ S hw fun vs ds Gs env' H' Fs' o r fr q => hr σ H' Fs' as Gs vs ds Q _ r q fun us xs p ra np z => new_flat k o ra np z⟩
/-! sum, max, min of a list of ints -/
/-! list(range(n)) -/
end
/-! ### defs -/
section
variable {K : PySem.W.Frag} {Ps : TL} {own lo : List Nat} {n N : Nat} {S : VSpec}
def outs (U : VEnv → Option (List Val)) (Q : List Val → Val → Prop) (r : Val) (env : VEnv) : Prop := match U env with
  | some ds => Q ds r
  | none => False
theorem outs_is {U : VEnv → Option (List Val)} {Q : List Val → Val → Prop} {r : Val} {env : VEnv} (h : outs U Q r env) : ∃ ds, U env = some ds ∧ Q ds r := by
  unfold outs at h
  split at h
  · exact ⟨_, ‹_›, h⟩
  · exact h.elim
def endsV (U : VEnv → Option (List Val)) (Q : List Val → Val → Prop) : VEnds := { nx := outs U Q .non, rt := outs U Q }
theorem endsV_nx {U : VEnv → Option (List Val)} {Q : List Val → Val → Prop} {e : VEnv} (h : (endsV U Q).nx e) : ∃ ds, U e = some ds ∧ Q ds .non := outs_is (U := U) (Q := Q) (r := .non) (env := e) h
theorem endsV_rt {U : VEnv → Option (List Val)} {Q : List Val → Val → Prop} {r : Val} {e : VEnv} (h : (endsV U Q).rt r e) : ∃ ds, U e = some ds ∧ Q ds r := outs_is (U := U) (Q := Q) (r := r) (env := e) h
theorem SimS.mapE {c : Vc} {fx Ef : List Nat} {t : TS} {w : VWS} (h : SimS c fx lo Ef t w) {R R' : VEnds} {env : VEnv} (hw : w R env) {σ : L2.St} {H : Hp} {Fs : Fp} {D : Ends} (S : Sr c env σ H Fs) (h1 : ∀ e, R.nx e → R'.nx e) (h2 : ∀ r e, R.rt r e → R'.rt r e) (hb : ∀ e, R.bk e → False) (hc : ∀ e, R.ct e → False)
    (n : ∀ env' σ' H' Fs', Ok2 c fx Ef σ H Fs env' σ' H' Fs' → R'.nx env' → D.nx σ' H') (rt : ∀ v d F env' σ' H' Fs', Ok2 c fx Ef σ H Fs env' σ' H' Fs' → RtOk c lo H F v d H' Fs' → R'.rt d env' → D.rt v H') : t D σ H :=
  h.sim env σ H Fs D R S hw (fun env' σ' H' Fs' o q => n env' σ' H' Fs' o (h1 _ q)) (fun env' _ _ _ _ q => (hb env' q).elim) (fun env' _ _ _ _ q => (hc env' q).elim) fun v d F env' σ' H' Fs' o r q => rt v d F env' σ' H' Fs' o r (h2 _ _ q)
/-- a def that lets exceptions out -/
theorem vfnX {vs : List V} {H : Hp} {Q : VK} {E : XK} {Nm : List Str} {t : TS} {w : (Value → Prop) → VWS} {Ef : List Nat} (U : VEnv → Option (List Val)) (h : vsp K Ps own n S vs H Q E) (hN : Nm.length = N) (hn : n ≤ N) (hlo : (lo.all fun j => decide (n ≤ j)) = true) (hon : (own.all fun j => decide (j < n)) = true)
    (hU : ∀ env ds', U env = some ds' → ∀ p ∈ own, ∃ d, ds'[p]? = some d ∧ env[p]? = some (some d)) (sim : ∀ xe, SimS ⟨K, Ps, own ++ lo, N, E, xe, false, 0⟩ own lo Ef t (w xe))
    (hw : ∀ ds Qc Xc, S ds Qc Xc → w Xc (endsV U Qc) (env0 N ds)) : t { nx := fun _ H' => Q .non H', rt := Q } (L2.start Nm vs) H := by
  obtain ⟨ds, Fs, s, hS⟩ := h
  refine vbody (al := false) (E := E) (own := own) (lo := lo) U s hN hn hlo hon (w := fun xe R env => ∃ R', w xe R' env ∧ (∀ e, R'.nx e → R.nx e) ∧ (∀ r e, R'.rt r e → R.rt r e) ∧ (∀ e, R'.bk e → False) ∧ ∀ e, R'.ct e → False) (Ef := Ef) (fun xe => ⟨fun env σ H Fs D R S0 hw n b ct rt => ?_⟩) hU ?_
  · obtain ⟨R', hw, h1, h2, h3, h4⟩ := hw
    exact (sim xe).mapE hw S0 h1 h2 h3 h4 n rt
  · exact ⟨_, hw ds _ _ hS, fun e h => (endsV_nx h).imp fun ds z => ⟨z.1, fun H' v F Fs' o r nd ds => z.2 H' v F Fs' o r (nd rfl).1 fun a ha => ⟨(nd rfl).2 a ha, ds a ha⟩⟩, fun r e h => (endsV_rt h).imp fun ds z => ⟨z.1, fun H' v F Fs' o r nd ds => z.2 H' v F Fs' o r (nd rfl).1 fun a ha => ⟨(nd rfl).2 a ha, ds a ha⟩⟩, fun _ h => h, fun _ h => h⟩
/-- a def that lets none out -/
theorem vfn {vs : List V} {H : Hp} {Q : VK} {E : XK} {Nm : List Str} {t : TS} {w : VWS} {Ef : List Nat} (U : VEnv → Option (List Val)) (h : vsp K Ps own n S vs H Q E) (hN : Nm.length = N) (hn : n ≤ N) (hlo : (lo.all fun j => decide (n ≤ j)) = true) (hon : (own.all fun j => decide (j < n)) = true)
    (hU : ∀ env ds', U env = some ds' → ∀ p ∈ own, ∃ d, ds'[p]? = some d ∧ env[p]? = some (some d)) (sim : SimS ⟨K, Ps, own ++ lo, N, E0, fun _ => False, false, 0⟩ own lo Ef t w)
    (hw : ∀ ds Qc Xc, S ds Qc Xc → w (endsV U Qc) (env0 N ds)) : t { nx := fun _ H' => Q .non H', rt := Q } (L2.start Nm vs) H := by
  obtain ⟨ds, Fs, s, hS⟩ := h
  -- the same with another wish of exceptions
  have down : ∀ {xe : Value → Prop} {env : VEnv} {σ : L2.St} {H : Hp} {Fs : Fp}, Sr ⟨K, Ps, own ++ lo, N, E, xe, false, 0⟩ env σ H Fs → Sr ⟨K, Ps, own ++ lo, N, E0, fun _ => False, false, 0⟩ env σ H Fs := fun s => ⟨s.le, s.ls, s.at_, s.emp, s.sep, s.nd, s.tb, fun _ _ _ _ _ z => z.elim⟩
  have up : ∀ {xe : Value → Prop} {env : VEnv} {σ : L2.St} {H H0 : Hp} {Fs Fs0 : Fp} {e : List Nat}, Xk ⟨K, Ps, own ++ lo, N, E, xe, false, 0⟩ Fs0 H0 → Eff (own ++ lo) e Fs0 H0 Fs H → Sr ⟨K, Ps, own ++ lo, N, E0, fun _ => False, false, 0⟩ env σ H Fs → Sr ⟨K, Ps, own ++ lo, N, E, xe, false, 0⟩ env σ H Fs := fun xk ef s => ⟨s.le, s.ls, s.at_, s.emp, s.sep, s.nd, s.tb, xk.eff ef⟩
  refine vbody (al := false) (E := E) (own := own) (lo := lo) U s hN hn hlo hon (w := fun _ R env => ∃ R', w R' env ∧ (∀ e, R'.nx e → R.nx e) ∧ (∀ r e, R'.rt r e → R.rt r e) ∧ (∀ e, R'.bk e → False) ∧ ∀ e, R'.ct e → False) (Ef := Ef) (fun xe => ⟨fun env σ H Fs D R S0 hw n b ct rt => ?_⟩) hU ?_
  · obtain ⟨R', hw, h1, h2, h3, h4⟩ := hw
    exact sim.mapE hw (down S0) h1 h2 h3 h4 (fun env' σ' H' Fs' o q => n env' σ' H' Fs' ⟨up S0.xk o.ef o.sr, o.ef, o.fx⟩ q) fun v d F env' σ' H' Fs' o r q => rt v d F env' σ' H' Fs' ⟨up S0.xk o.ef o.sr, o.ef, o.fx⟩ ⟨r.rp, r.sc, r.fs⟩ q
  · exact ⟨_, hw ds _ _ hS, fun e h => (endsV_nx h).imp fun ds z => ⟨z.1, fun H' v F Fs' o r nd ds => z.2 H' v F Fs' o r (nd rfl).1 fun a ha => ⟨(nd rfl).2 a ha, ds a ha⟩⟩, fun r e h => (endsV_rt h).imp fun ds z => ⟨z.1, fun H' v F Fs' o r nd ds => z.2 H' v F Fs' o r (nd rfl).1 fun a ha => ⟨(nd rfl).2 a ha, ds a ha⟩⟩, fun _ h => h, fun _ h => h⟩
theorem hU0 : ∀ env ds', U0 env = some ds' → ∀ p ∈ ([] : List Nat), ∃ d, ds'[p]? = some d ∧ env[p]? = some (some d) := fun _ _ _ _ h => nomatch h
theorem hU1 : ∀ env ds', U1 env = some ds' → ∀ p ∈ [0], ∃ d, ds'[p]? = some d ∧ env[p]? = some (some d) := fun env ds' h p hp => by
  rw [List.mem_singleton.mp hp]
  unfold U1 at h
  split at h
  · cases h
    exact ⟨_, rfl, rfl⟩
  · cases h
end
/-! ### data, as it is compared -/
theorem isD_map {α : Type} (f : α → Val) (hf : ∀ x, (f x).isD = true) : ∀ l : List α, Val.isDs (l.map f) = true
  | [] => rfl
  | n :: r => by
    show (Val.isD (f n) && Val.isDs (r.map f)) = true
    rw [isD_map f hf r, hf n]
    rfl
theorem toDs_map {α : Type} (f : α → Val) : ∀ l : List α, Val.toDs (l.map f) = l.map fun x => (f x).toD
  | [] => rfl
  | n :: r => congrArg (_ :: ·) (toDs_map f r)
theorem toD_ints (ns : List Int) : Val.toD (.lst (ns.map Val.int)) = .list (ns.map PyData.int) := congrArg PyData.list (toDs_map Val.int ns)
theorem toD_spans (ss : List Span) : Val.toD (.lst (ss.map spV)) = .list (ss.map spD) := congrArg PyData.list (toDs_map spV ss)
theorem okD_ints (ns : List Int) : Val.okD (.lst (ns.map Val.int)) := ⟨isD_map Val.int (fun _ => rfl) ns, by rw [toD_ints]; exact shaped_ints ns⟩
theorem okD_spans (ss : List Span) : Val.okD (.lst (ss.map spV)) := ⟨isD_map spV (fun _ => rfl) ss, by rw [toD_spans]; exact shaped_spans ss⟩
theorem okD_nil : Val.okD (.lst []) := okD_ints []
/-! ### older promises, seen as promises over values -/
section
variable {K : PySem.W.Frag} {Ps : TL} {own : List Nat} {vs : List V} {H : Hp} {Fs : Fp}
theorem arg1 {d : Val} (s : Sr ⟨K, Ps, own, 1, fun _ _ _ => False, fun _ => False, false, 0⟩ ([d].map some) (vs.map some) H Fs) : ∃ v, vs = [v] ∧ Rp K H (Fs 0) v d := by
  have l : vs.length = 1 := by have := s.ls; rwa [List.length_map] at this
  obtain ⟨v, rfl⟩ := List.length_eq_one_iff.mp l
  obtain ⟨v', h1, h2⟩ := s.at_ 0 d rfl
  have h1 := h1.1 (show 0 < 1 by decide)
  cases h1
  exact ⟨v, rfl, h2⟩
theorem arg2 {d d' : Val} (s : Sr ⟨K, Ps, own, 2, fun _ _ _ => False, fun _ => False, false, 0⟩ ([d, d'].map some) (vs.map some) H Fs) : ∃ v v', vs = [v, v'] ∧ Rp K H (Fs 0) v d ∧ Rp K H (Fs 1) v' d' := by
  have l : vs.length = 2 := by have := s.ls; rwa [List.length_map] at this
  obtain ⟨v, v', rfl⟩ : ∃ v v', vs = [v, v'] := by
    rcases vs with _ | ⟨a, _ | ⟨b, _ | ⟨x, r⟩⟩⟩
    · cases l
    · cases l
    · exact ⟨a, b, rfl⟩
    · cases l
  obtain ⟨_, h1, h2⟩ := s.at_ 0 d rfl
  obtain ⟨_, h3, h4⟩ := s.at_ 1 d' rfl
  have h1 := h1.1 (show 0 < 2 by decide)
  have h3 := h3.1 (show 1 < 2 by decide)
  cases h1
  cases h3
  exact ⟨v, v', rfl, h2, h4⟩
theorem arg3 {d d' d'' : Val} (s : Sr ⟨K, Ps, own, 3, fun _ _ _ => False, fun _ => False, false, 0⟩ ([d, d', d''].map some) (vs.map some) H Fs) : ∃ v v' v'', vs = [v, v', v''] ∧ Rp K H (Fs 0) v d ∧ Rp K H (Fs 1) v' d' ∧ Rp K H (Fs 2) v'' d'' := by
  have l : vs.length = 3 := by have := s.ls; rwa [List.length_map] at this
  obtain ⟨v, v', v'', rfl⟩ : ∃ v v' v'', vs = [v, v', v''] := by
    rcases vs with _ | ⟨a, _ | ⟨b, _ | ⟨x, _ | ⟨y, r⟩⟩⟩⟩
    · cases l
    · cases l
    · cases l
    · exact ⟨a, b, x, rfl⟩
    · cases l
  obtain ⟨_, h1, h2⟩ := s.at_ 0 d rfl
  obtain ⟨_, h3, h4⟩ := s.at_ 1 d' rfl
  have h1 := h1.1 (show 0 < 3 by decide)
  have h3 := h3.1 (show 1 < 3 by decide)
  obtain ⟨_, h5, h6⟩ := s.at_ 2 d'' rfl
  have h5 := h5.1 (show 2 < 3 by decide)
  cases h1
  cases h3
  cases h5
  exact ⟨v, v', v'', rfl, h2, h4, h6⟩
theorem out_kp {H' : Hp} {ds' : List Val} (k : Kp [] H H') (t : Tb Ps H') : OutOk K Ps [] vs Fs H ds' Fs H' := ⟨(fun _ h => nomatch h), (fun _ h => nomatch h), (fun _ h => nomatch h), ⟨(fun _ h => nomatch h), k, fun _ h => k.free List.not_mem_nil h, (fun _ h => nomatch h), fun _ h => nomatch h⟩, t⟩
theorem out_same {H' : Hp} {ds' : List Val} (k : Same H H') (t : Tb Ps H) : OutOk K Ps [] vs Fs H ds' Fs H' := out_kp (.of k) (t.same k)
theorem Rp.int_eq {F : List Addr} {v : V} {i : Int} (h : Rp K H F v (.int i)) : v = .int i := by
  cases h
  rfl
theorem Rp.bl_eq {F : List Addr} {v : V} {i : Bool} (h : Rp K H F v (.bl i)) : v = .bl i := by
  cases h
  rfl
theorem Rp.non_eq {F : List Addr} {v : V} (h : Rp K H F v .non) : v = .non := by
  cases h
  rfl
theorem Rp.ints {F : List Addr} {v : V} {ns : List Int} (h : Rp K H F v (.lst (ns.map Val.int))) : ∃ l, v = .ref l ∧ H l = some (.lst (ns.map V.int)) ∧ F = [l] := by
  obtain ⟨l, vs, G, e, h1, h2, h3⟩ := h.asL
  have z := h2.flat (flat_ints ns)
  subst e z h3
  rw [rpa_ints' h2] at h1
  exact ⟨l, rfl, h1, rfl⟩
theorem Rp.spans {F : List Addr} {v : V} {ss : List Span} (h : Rp K H F v (.lst (ss.map spV))) : ∃ l us, v = .ref l ∧ H l = some (.lst us) ∧ Sps H us ss ∧ F = [l] := by
  obtain ⟨l, vs, G, e, h1, h2, h3⟩ := h.asL
  have z := h2.flat (flat_spans ss)
  subst e z h3
  exact ⟨l, vs, rfl, h1, rpa_spans' h2, rfl⟩
theorem rp_ints {l : Addr} {ns : List Int} (h : H l = some (.lst (ns.map V.int))) : Rp K H [l] (.ref l) (.lst (ns.map Val.int)) := .lst h (rpa_ints ns)
/-- the purse -/
def PuW (d : Val) (n : Nat) : Prop := ∃ a b c : Int, d = .lst [.int a, .int b, .int c] ∧ 0 ≤ a ∧ 0 ≤ b ∧ b < 2147483647 ∧ 0 ≤ c ∧ c ≤ n
theorem PuW.mono {d : Val} {n m : Nat} (h : PuW d n) (e : n ≤ m) : PuW d m := by
  obtain ⟨a, b, c, h1, h2, h3, h4, h5, h6⟩ := h
  exact ⟨a, b, c, h1, h2, h3, h4, h5, by omega⟩
theorem PuW.pu {F : List Addr} {v : V} {d : Val} {n : Nat} (p : PuW d n) (h : Rp K H F v d) : ∃ l, v = .ref l ∧ Pu H l n ∧ F = [l] := by
  obtain ⟨a, b, c, rfl, h2⟩ := p
  obtain ⟨l, e, h1, h3⟩ := Rp.ints (ns := [a, b, c]) h
  exact ⟨l, e, ⟨a, b, c, h1, h2⟩, h3⟩
theorem PuW.of {p : Addr} {n : Nat} (h : Pu H p n) : ∃ d, PuW d n ∧ Rp K H [p] (.ref p) d := by
  obtain ⟨a, b, c, h1, h2⟩ := h
  exact ⟨.lst [.int a, .int b, .int c], ⟨a, b, c, rfl, h2⟩, rp_ints (ns := [a, b, c]) h1⟩
/-- behind a change of one own list -/
theorem out_own1 {H' : Hp} {p : Addr} {v : V} {vs' : List V} {d : Val} {ds' : List Val} (ev : v = .ref p) (hF : Fs 0 = [p]) (k : Chg [p] H H') (t : Tb Ps H) (hp : H' p ≠ none) (hm : Mutb H p) (r : Rp K H' [p] (.ref p) d) : OutOk K Ps [0] (v :: vs') Fs H (d :: ds') Fs H' := by
  subst ev
  refine ⟨fun q hq => ?_, fun q hq => ?_, fun q hq q' hq' ne => absurd (by rw [List.mem_singleton.mp hq, List.mem_singleton.mp hq']) ne, ⟨fun _ z => z, .chg (k.mono fun x hx => ?_), fun a ha => ?_, fun j hj nn => absurd hj nn, fun j hj a ha => .inl ha⟩, ?_⟩
  · rw [List.mem_singleton.mp hq, hF]
    exact ⟨_, _, rfl, rfl, r⟩
  · rw [List.mem_singleton.mp hq, hF]
    simp
  · rw [List.flatMap_singleton, hF]
    exact hx
  · by_cases z : a = p
    · rw [z] at ha
      exact absurd ha hp
    · exact k.free (nmem1 z) ha
  · exact t.chg k (fun P hP z => (t.notmut hm).1 (by rw [← List.mem_singleton.mp z]; exact hP)) fun a ha => by
      rw [List.mem_singleton.mp ha]
      exact (t.notmut hm).2
theorem out_own2 {H' : Hp} {p q : Addr} {v u : V} {vs' : List V} {d e : Val} {ds' : List Val} (ev : v = .ref p) (eu : u = .ref q) (hF : Fs 0 = [p]) (hG : Fs 1 = [q]) (hne : p ≠ q) (k : Chg [p, q] H H') (t : Tb Ps H) (hm : Mutb H p) (hm2 : Mutb H q) (r : Rp K H' [p] (.ref p) d) (r2 : Rp K H' [q] (.ref q) e) : OutOk K Ps [0, 1] (v :: u :: vs') Fs H (d :: e :: ds') Fs H' := by
  subst ev eu
  have two : ∀ {x : Nat}, x ∈ [0, 1] → x = 0 ∨ x = 1 := fun {x} hx => by simpa using hx
  refine ⟨fun x hx => ?_, fun x hx => ?_, fun x hx y hy ne a ha z => ?_, ⟨fun _ z => z, .chg (k.mono fun x hx => ?_), fun a ha => ?_, fun j hj nn => absurd hj nn, fun j hj a ha => .inl ha⟩, ?_⟩
  · rcases two hx with rfl | rfl
    · rw [hF]
      exact ⟨_, _, rfl, rfl, r⟩
    · rw [hG]
      exact ⟨_, _, rfl, rfl, r2⟩
  · rcases two hx with rfl | rfl
    · rw [hF]
      simp
    · rw [hG]
      simp
  · rcases two hx with rfl | rfl <;> rcases two hy with rfl | rfl
    · exact ne rfl
    · rw [hF] at ha
      rw [hG] at z
      exact hne (by rw [← List.mem_singleton.mp ha, ← List.mem_singleton.mp z])
    · rw [hG] at ha
      rw [hF] at z
      exact hne (by rw [← List.mem_singleton.mp ha, ← List.mem_singleton.mp z])
    · exact ne rfl
  · show x ∈ Fs 0 ++ (Fs 1 ++ [])
    rw [hF, hG]
    exact hx
  · by_cases z : a = p
    · rw [z] at ha
      exact absurd ha (r.mutb p List.mem_cons_self).ex
    · by_cases y : a = q
      · rw [y] at ha
        exact absurd ha (r2.mutb q List.mem_cons_self).ex
      · exact k.free (nmem2 z y) ha
  · have two' : ∀ {a : Addr}, a ∈ [p, q] → a = p ∨ a = q := fun {a} h => by simpa using h
    refine t.chg k (fun P hP z => ?_) fun a ha => ?_
    · rcases two' z with z | z
      · exact (t.notmut hm).1 (by rw [← z]; exact hP)
      · exact (t.notmut hm2).1 (by rw [← z]; exact hP)
    · rcases two' ha with rfl | rfl
      · exact (t.notmut hm).2
      · exact (t.notmut hm2).2
end
section
variable {c : Vc} {t : TE} {s e : List Nat} {f : Option (List Nat)} {w : VW}
/-! sorted(set(ints)) -/
end
/-! ### a call that is handed an own list and a list of nobody's -/
section
variable {c : Vc} {te tm : TE} {we wm : VW} {S : VSpec} {i : Nat}
def wCallF3 (i : Nat) (S : VSpec) (xe : Value → Prop) (we wm : VW) : VW := fun env Q => match env[i]? with
  | some (some _) => we env fun d1 env1 => wm env1 fun d2 env2 => d2.flat = true ∧ (match env2[i]? with
    | some (some p) => S [p, d1, d2] (fun ds' r => match ds' with
      | p' :: _ => Q r (env2.set i (some p'))
      | [] => False) xe
    | _ => False)
  | _ => False
def fF3 (F0 G1 : List Addr) : Fp
  | 0 => F0
  | 1 => G1
  | _ => []
theorem two01 {p : Nat} (hp : p ∈ [0, 1]) : p = 0 ∨ p = 1 := by simpa using hp
theorem simE_callF3 (hM : Mono S) (h1 : SimE c te [] (some []) [] we) (h2 : SimE c tm [] (some []) [] wm) (hm : c.ms.contains i = true) (hi : i < c.N) : SimE c (tCall (vsp c.K c.Ps [0, 1] 3 S) [] c.E (tCons (tVar i) (tCons te (tCons tm tNil)))) [] (some []) [i] (wCallF3 i S c.xe we wm) := ⟨fun env σ H Fs Q R S0 hw k => by
  have hm : i ∈ c.ms := by simpa using hm
  unfold wCallF3 at hw
  split at hw
  case h_2 => exact hw.elim
  rename_i p0 hp0
  obtain ⟨v, hv, _⟩ := S0.at_ i p0 hp0
  have hv := hv.1 hi
  refine ⟨v, hv, h1.sim env σ H Fs _ _ S0 hw fun v1 d1 G1 env1 H1 Fs1 o1 r1 s1 f1 q1 => h2.sim env1 σ H1 Fs1 _ _ o1.sr q1 fun v2 d2 G2 env2 H2 Fs2 o2 r2 s2 f2 q2 => ?_⟩
  obtain ⟨fl, q2⟩ := q2
  have z := r2.flat fl
  subst z
  split at q2
  case h_2 => exact q2.elim
  rename_i p hp
  obtain ⟨v', hv', rp⟩ := o2.sr.at_ i p hp
  have hv' := hv'.1 hi
  rw [hv] at hv'
  cases hv'
  obtain ⟨r1', s1'⟩ := r1.eff o1.sr o2.ef s1 rfl
  obtain ⟨nd1, new1⟩ := f1 [] rfl
  have new1 : ∀ a ∈ G1, H a = none := fun a ha => (new1 a ha).elim id fun ⟨_, h, _⟩ => nomatch h
  have O12 := o1.trans o2
  have fsame : ∀ j ∈ c.ms, Fs2 j = Fs j := fun j hj => O12.ef.out j hj fun h => nomatch h
  have g1f : ∀ j, ∀ a ∈ G1, a ∉ Fs2 j := fun j a ha z => by
    by_cases hj : j ∈ c.ms
    · exact s1' a ha j hj (fun h => nomatch h) z
    · exact (S0.mutb j a (O12.vl j hj a z)).ex (new1 a ha)
  have Sc : Sr ⟨c.K, c.Ps, [0, 1], 3, fun _ _ _ => False, fun _ => False, false, 0⟩ ([p, d1, d2].map some) ([v, v1, v2].map some) H2 (fF3 (Fs2 i) G1) := by
    refine ⟨rfl, rfl, fun j d h => ?_, fun j h => ?_, fun x hx j hj a ha z => ?_, fun x hx => ?_, o2.sr.tb, xk0⟩
    · rcases j with _ | _ | _ | j
      · cases h
        exact ⟨v, .of (show 0 < 3 by decide) rfl, rp⟩
      · cases h
        exact ⟨v1, .of (show 1 < 3 by decide) rfl, r1'⟩
      · cases h
        exact ⟨v2, .of (show 2 < 3 by decide) rfl, r2⟩
      · simp at h
    · rcases j with _ | _ | _ | j
      · exact absurd rfl (h p)
      · exact absurd rfl (h d1)
      · rfl
      · rfl
    · rcases two01 hx with rfl | rfl
      · rcases j with _ | _ | j
        · exact hj rfl
        · exact g1f i a z ha
        · cases z
      · rcases j with _ | _ | j
        · exact g1f i a ha z
        · exact hj rfl
        · cases z
    · rcases two01 hx with rfl | rfl
      · exact o2.sr.nd i hm
      · exact nd1
  have effs : ∀ {Gs' : Fp} {H' : Hp}, Eff [0, 1] [0, 1] (fF3 (Fs2 i) G1) H2 Gs' H' → Eff c.ms [i] Fs H (upF Fs2 i (Gs' 0)) H' := fun {Gs' H'} ef => by
    refine ⟨fun j hj => by rw [List.mem_singleton.mp hj]; exact hm, fun b o hb hH => ?_, fun a ha => O12.ef.gr a (ef.gr a ha), fun j hj nn => ?_, fun j hj a ha => ?_⟩
    · have nb : b ∉ Fs i := fun z => hb (by rw [List.flatMap_singleton]; exact z)
      have n2 : b ∉ [0, 1].flatMap (fF3 (Fs2 i) G1) := fun z => by
        obtain ⟨x, hx, y⟩ := List.mem_flatMap.mp z
        rcases two01 hx with rfl | rfl
        · exact nb (by rw [← fsame i hm]; exact y)
        · have := new1 b y
          rw [hH] at this
          cases this
      rcases O12.ef.kp b o (fun z => nomatch z) hH with y | ⟨ps, qs, rfl, y⟩
      · exact ef.kp b o n2 y
      · rcases ef.kp b _ n2 y with x | ⟨_, qs', _, x⟩
        · exact .inr ⟨ps, qs, rfl, x⟩
        · exact .inr ⟨ps, qs', rfl, x⟩
    · rw [upF_ne fun z => nn (List.mem_singleton.mpr z)]
      exact fsame j hj
    · by_cases e : j = i
      · subst e
        rw [upF_self] at ha
        rcases ef.foot 0 (by simp) a ha with y | y
        · exact .inl (by rw [← fsame j hj]; exact y)
        · exact .inr (O12.ef.gr a y)
      · rw [upF_ne e, fsame j hj] at ha
        exact .inl ha
  show vsp c.K c.Ps [0, 1] 3 S [v, v1, v2] H2 Q c.E
  refine ⟨_, _, Sc, hM _ _ _ _ _ (fun ds' rv hb H' u F Gs' O rr nd new => ?_) (fun x hx H' Gs' ef tb => ?_) q2⟩
  · cases ds' with
    | nil => exact hb.elim
    | cons p' ds' =>
      have ef := effs O.ef
      have hN2 : i < env2.length := by rw [o2.sr.le]; omega
      have g0 : ∀ a ∈ Gs' 0, a ∈ Fs2 i ∨ H2 a = none := fun a ha => O.ef.foot 0 (by simp) a ha
      refine k u rv F _ H' (upF Fs2 i (Gs' 0)) ⟨⟨by rw [List.length_set, o2.sr.le], o2.sr.ls, fun j d h => ?_, fun j h => ?_, fun x hx j hj a ha z => ?_, fun x hx => ?_, O.tb, S0.xk.eff ef⟩, ef, fun j hj a ha => ?_⟩ rr (fun a ha j hj _ z => ?_) (fun mv e => ⟨nd, fun a ha => .inl (O12.ef.gr a (new a ha).1)⟩) hb
      · rcases set_at h with ⟨rfl, rfl⟩ | ⟨ne, h⟩
        · obtain ⟨w, d, g1, g2, g3⟩ := O.rp 0 (by simp)
          cases g1
          cases g2
          exact ⟨_, .of hi hv, by rw [upF_self]; exact g3⟩
        · obtain ⟨w, g1, g2⟩ := o2.sr.at_ j d h
          refine ⟨w, g1, ?_⟩
          rw [upF_ne ne]
          refine g2.kp O.ef.kp (Sc.effm _) fun a ha z => ?_
          obtain ⟨x, hx, y⟩ := List.mem_flatMap.mp z
          rcases two01 hx with rfl | rfl
          · exact o2.sr.sep i hm j ne a y ha
          · exact g1f j a y ha
      · by_cases e : j = i
        · subst e
          exact absurd (by rw [List.getElem?_set_self hN2]) (h p')
        · rw [upF_ne e]
          refine o2.sr.emp j fun d' h' => h d' ?_
          rw [List.getElem?_set_ne (Ne.symm e)]
          exact h'
      · by_cases e : x = i
        · subst e
          rw [upF_self] at ha
          rw [upF_ne hj] at z
          rcases g0 a ha with y | y
          · exact o2.sr.sep x hx j hj a y z
          · exact (o2.sr.mutb j a z).ex y
        · rw [upF_ne e] at ha
          by_cases e2 : j = i
          · subst e2
            rw [upF_self] at z
            rcases g0 a z with y | y
            · exact o2.sr.sep x hx j hj a ha y
            · exact (o2.sr.mutb x a ha).ex y
          · rw [upF_ne e2] at z
            exact o2.sr.sep x hx j hj a ha z
      · by_cases e : x = i
        · subst e
          rw [upF_self]
          exact O.nd 0 (by simp)
        · rw [upF_ne e]
          exact o2.sr.nd x hx
      · rw [upF_ne fun e => hj (by rw [e]; exact hm)] at ha
        exact O12.vl j hj a ha
      · by_cases e : j = i
        · subst e
          rw [upF_self] at z
          exact (new a ha).2 0 (by simp) z
        · rw [upF_ne e] at z
          exact (o2.sr.mutb j a z).ex (new a ha).1
  · have ef := effs ef
    exact S0.xk x H' _ (ef.mono (fun j hj => ef.sub j hj) fun _ z => z) tb hx⟩
end
/-! ### comprehensions whose items leave the slots as they are -/
section
variable {α : Type} {wg : VWG} {wt : VWT} {we : VW} {vs : List Nat} {Q : Val → VEnv → Prop} {E0 : VEnv}
theorem lc_ex (l : List α) (g : α → Val) (f : α → Option Val) (step : ∀ x ∈ l, ∀ (R : Val → VEnv → Prop) (R' : VEnv → Prop), (match f x with
      | some y => R y E0
      | none => R' E0) → wg (g x) E0 fun env2 => wt env2 fun b env3 => if b = true then we env3 fun y env4 => R y (wipeE env4 vs) else R' (wipeE env3 vs))
    (fl : ∀ x ∈ l, ∀ y, f x = some y → y.flat = true) (len : l.length < 1000000) (q : Q (.lst (l.filterMap f)) E0) :
    ∃ I : Nat → List Val → VEnv → Prop, I 0 [] E0 ∧ (∀ i x acc env', (l.map g)[i]? = some x → I i acc env' → acc.length < 1000000 ∧ wg x env' fun env2 => wt env2 fun b env3 => if b = true then we env3 fun y env4 => y.flat = true ∧ I (i + 1) (acc ++ [y]) (wipeE env4 vs) else I (i + 1) acc (wipeE env3 vs)) ∧
      ∀ acc env', I (l.map g).length acc env' → app2 Q (.lst acc) env' := by
  refine ⟨fun i acc env => env = E0 ∧ acc = (l.take i).filterMap f, ⟨rfl, rfl⟩, ?_, ?_⟩
  · rintro i x acc env' hx ⟨rfl, rfl⟩
    rw [List.getElem?_map] at hx
    obtain ⟨a, ha, rfl⟩ := Option.map_eq_some_iff.mp hx
    have ma := List.mem_of_getElem? ha
    have tk : l.take (i + 1) = l.take i ++ [a] := by
      rw [List.take_add_one, ha]
      rfl
    refine ⟨?_, step a ma (fun y env5 => y.flat = true ∧ env5 = env' ∧ (l.take i).filterMap f ++ [y] = (l.take (i + 1)).filterMap f) (fun env5 => env5 = env' ∧ (l.take i).filterMap f = (l.take (i + 1)).filterMap f) ?_⟩
    · have h1 := List.length_filterMap_le f (l.take i)
      have h2 : (l.take i).length ≤ l.length := by
        rw [List.length_take]
        exact Nat.min_le_right _ _
      omega
    · cases hf : f a with
      | some y =>
        refine ⟨fl a ma y hf, rfl, ?_⟩
        rw [tk, List.filterMap_append]
        congr 1
        simp [hf]
      | none =>
        refine ⟨rfl, ?_⟩
        rw [tk, List.filterMap_append]
        simp [hf]
  · rintro acc env' ⟨rfl, rfl⟩
    rw [List.length_map, List.take_length]
    exact q
/-- no test, an element for each item -/
theorem lc_map (l : List α) (g : α → Val) (f : α → Val) (step : ∀ x ∈ l, ∀ (R : Val → VEnv → Prop), R (f x) E0 → wg (g x) E0 fun env2 => we env2 fun y env4 => R y (wipeE env4 vs))
    (fl : ∀ x ∈ l, (f x).flat = true) (len : l.length < 1000000) (q : Q (.lst (l.map f)) E0) :
    ∃ I : Nat → List Val → VEnv → Prop, I 0 [] E0 ∧ (∀ i x acc env', (l.map g)[i]? = some x → I i acc env' → acc.length < 1000000 ∧ wg x env' fun env2 => wYes env2 fun b env3 => if b = true then we env3 fun y env4 => y.flat = true ∧ I (i + 1) (acc ++ [y]) (wipeE env4 vs) else I (i + 1) acc (wipeE env3 vs)) ∧
      ∀ acc env', I (l.map g).length acc env' → app2 Q (.lst acc) env' := by
  refine lc_ex l g (fun x => some (f x)) (fun x hx R R' h => ?_) (fun x hx y e => by cases e; exact fl x hx) len ?_
  · have := step x hx R h
    exact this
  · rw [show l.filterMap (fun x => some (f x)) = l.map f by simp]
    exact q
/-- a test, the element the item itself -/
theorem lc_filter (l : List α) (g : α → Val) (p : α → Bool) (step : ∀ x ∈ l, ∀ (R : Val → VEnv → Prop) (R' : VEnv → Prop), (if p x = true then R (g x) E0 else R' E0) → wg (g x) E0 fun env2 => wt env2 fun b env3 => if b = true then we env3 fun y env4 => R y (wipeE env4 vs) else R' (wipeE env3 vs))
    (fl : ∀ x ∈ l, (g x).flat = true) (len : l.length < 1000000) (q : Q (.lst ((l.filter p).map g)) E0) :
    ∃ I : Nat → List Val → VEnv → Prop, I 0 [] E0 ∧ (∀ i x acc env', (l.map g)[i]? = some x → I i acc env' → acc.length < 1000000 ∧ wg x env' fun env2 => wt env2 fun b env3 => if b = true then we env3 fun y env4 => y.flat = true ∧ I (i + 1) (acc ++ [y]) (wipeE env4 vs) else I (i + 1) acc (wipeE env3 vs)) ∧
      ∀ acc env', I (l.map g).length acc env' → app2 Q (.lst acc) env' := by
  refine lc_ex l g (fun x => if p x = true then some (g x) else none) (fun x hx R R' h => step x hx R R' ?_) (fun x hx y e => ?_) len ?_
  · cases hp : p x with
    | true =>
      rw [hp] at h
      exact iteT h
    | false =>
      rw [hp] at h
      exact iteF h
  · cases hp : p x with
    | true =>
      rw [hp] at e
      cases e
      exact fl x hx
    | false =>
      rw [hp] at e
      cases e
  · have e : l.filterMap (fun x => if p x = true then some (g x) else none) = (l.filter p).map g := by
      clear step fl len q
      induction l with
      | nil => rfl
      | cons a l ih =>
        cases hp : p a <;> simp [hp, ih]
    rw [e]
    exact q
end
theorem ifF {b : Bool} {A B : Prop} (h : b = false) (x : B) : if b = true then A else B := by
  rw [h]
  exact x
theorem ifT {b : Bool} {A B : Prop} (h : b = true) (x : A) : if b = true then A else B := by
  rw [h]
  exact x
/-! ### a list within an own tuple is changed -/
theorem mutPs {c : Vc} {env : VEnv} {σ : L2.St} {H : Hp} {Fs : Fp} {i : Nat} {d0 d' : Val} {v : V} {l : Addr} {F' : List Addr} {o' : HO} (S : Sr c env σ H Fs) (hi : i ∈ c.ms) (he : env[i]? = some (some d0)) (hv : SlV c.N σ i v) (hl : l ∈ Fs i) (hs : F'.Sublist (Fs i))
    (rp : Rp c.K (upd H l o') F' v d') : Ok0 c [i] σ H Fs (env.set i (some d')) (upd H l o') (upF Fs i F') := by
  have ml : Mutb H l := S.mutb i l hl
  have hN : i < env.length := (List.getElem?_eq_some_iff.mp he).1
  have ef : Eff c.ms [i] Fs H (upF Fs i F') (upd H l o') := by
    refine ⟨fun j hj => by rw [List.mem_singleton.mp hj]; exact hi, Kp.upd ?_, fun a ha => ?_, fun j hj nn => upF_ne fun z => nn (List.mem_singleton.mpr z), fun j hj a ha => .inl ?_⟩
    · rw [List.flatMap_singleton]
      exact hl
    · by_cases z : a = l
      · rw [z, upd_same] at ha
        cases ha
      · rwa [upd_ne z] at ha
    · by_cases z : j = i
      · subst z
        rw [upF_self] at ha
        exact hs.subset ha
      · rwa [upF_ne z] at ha
  refine ⟨⟨by rw [List.length_set, S.le], S.ls, fun j d h => ?_, fun j h => ?_, fun j hj k hk a ha z => ?_, fun j hj => ?_, S.tb.at1 (S.tb.notmut ml), S.xk.eff ef⟩, ef, fun j hj a ha => by
    rw [upF_ne fun z => hj (by rw [z]; exact hi)] at ha
    exact ha⟩
  · rcases set_at h with ⟨rfl, rfl⟩ | ⟨ne, h⟩
    · exact ⟨_, hv, by rw [upF_self]; exact rp⟩
    · obtain ⟨v, h1, r⟩ := S.at_ j d h
      refine ⟨v, h1, ?_⟩
      rw [upF_ne ne]
      refine r.kp (L := [l]) (Kp.upd List.mem_cons_self) (fun a ha => by rw [List.mem_singleton.mp ha]; exact ml) fun a ha z => ?_
      rw [List.mem_singleton.mp z] at ha
      exact S.sep i hi j ne l hl ha
  · by_cases z : j = i
    · subst z
      exact absurd (by rw [List.getElem?_set_self hN]) (h d')
    · rw [upF_ne z]
      refine S.emp j fun d' h' => h d' ?_
      rw [List.getElem?_set_ne (Ne.symm z)]
      exact h'
  · by_cases y : j = i
    · subst y
      rw [upF_self] at ha
      rw [upF_ne hk] at z
      exact S.sep j hj k hk a (hs.subset ha) z
    · rw [upF_ne y] at ha
      by_cases y2 : k = i
      · subst y2
        rw [upF_self] at z
        exact S.sep j hj k hk a ha (hs.subset z)
      · rw [upF_ne y2] at z
        exact S.sep j hj k hk a ha z
  · by_cases y : j = i
    · subst y
      rw [upF_self]
      exact (S.nd j hj).sublist hs
    · rw [upF_ne y]
      exact S.nd j hj
/-- the n-th item, a list, is written anew with things without lists -/
theorem RpA.wr {K : PySem.W.Frag} {H : Hp} : ∀ {F : List Addr} {vs : List V} {ds : List Val} {n : Nat} {xs : List Val}, RpA K H F vs ds → F.Nodup → ds[n]? = some (.lst xs) → ∃ l us G, vs[n]? = some (.ref l) ∧ H l = some (.lst us) ∧ RpA K H G us xs ∧ l ∈ F ∧
    ∀ us' xs', (∀ H', H' = upd H l (.lst us') → RpA K H' G us' xs') → RpA K (upd H l (.lst us')) F vs (ds.set n (.lst xs'))
  | _, _, _, _, _, .nil, _, e => by simp at e
  | _, _, _, 0, xs, .cons (F := A) (G := B) h t, nd, e => by
    have q := Option.some.inj (show some _ = some (Val.lst xs) from e)
    rw [q] at h
    obtain ⟨l, us, G, ev, h1, h2, hF⟩ := h.asL
    subst ev hF
    refine ⟨l, us, G, rfl, h1, h2, by simp, fun us' xs' hx => ?_⟩
    refine RpA.cons (F := l :: G) (.lst upd_same (hx _ rfl)) (t.kp (L := [l]) (Kp.upd List.mem_cons_self) (fun a ha => by rw [List.mem_singleton.mp ha]; exact .inl ⟨_, h1⟩) fun a ha z => ?_)
    rw [List.mem_singleton.mp z] at ha
    exact (List.nodup_append.mp nd).2.2 l (by simp) l ha rfl
  | _, _, _, n + 1, xs, .cons (F := A) (G := B) h t, nd, e => by
    obtain ⟨n1, n2, n3⟩ := List.nodup_append.mp nd
    obtain ⟨l, us, G, h1, h2, h3, h4, h5⟩ := RpA.wr (n := n) t n2 e
    refine ⟨l, us, G, h1, h2, h3, List.mem_append_right _ h4, fun us' xs' hx => ?_⟩
    refine RpA.cons (h.kp (L := [l]) (Kp.upd List.mem_cons_self) (fun a ha => by rw [List.mem_singleton.mp ha]; exact .inl ⟨_, h2⟩) fun a ha z => ?_) (h5 us' xs' hx)
    rw [List.mem_singleton.mp z] at ha
    exact n3 l ha l h4 rfl
section
variable {c : Vc} {te : TE} {s e : List Nat} {f : Option (List Nat)} {we : VW}
end
/-! ### sorted(set of ints), any number of members up to a thousand -/
section
variable {P : Program} {w : World} {A : Around} {E : Value → Shared → Prop} {s : Shared} {a : Addr}
theorem sorted_setB {S : Int → Bool} {n : Nat} {Q : Value → Shared → Prop} (R : SetR w s.heap a S n) (hh : A.handled = none) (hn0 : n ≤ 1000)
    (hQ : ∀ s' p (out : List Value) (c : Nat) (ns : List Int), (∀ b o, s.heap.get? b = some o → s'.heap.get? b = some o) → s'.gens = s.gens → s'.os = s.os → s.heap.objs.size ≤ p → s'.heap.get? p = some (seqObj "list" out.toArray c) → IntsAre out ns → ns.Pairwise (· < ·) → (∀ k, k ∈ ns ↔ S k = true) → ns.length = n → Q (.ref p) s') : wpAny (model P w) A (call (.builtin "sorted") [.ref a]) Q E s := by
  obtain ⟨o, es, ep, t, ho, hex, hd, g, nd, hm, hb, hf, hn, hr, hl⟩ := R
  refine Calls.call_function_entry kind_sorted plain_sorted entry_sorted (args_sorted1 _) ?_
  unfold Builtin.«sorted»
  refine wpAny_bind (m := checkCount "sorted" 1 1 _) (wpAny_pure ?_)
  refine wpAny_bind (collect_set (A := A.in1) hh ⟨o, ho, hex.1, hd⟩ hf hb hr hl fun s1 vs k1 hz g1 o1 pm => ?_)
  have hvl : vs.length = n := by
    rw [pm.length_eq, List.length_map, Array.length_toList]
    exact hn
  have hI : IntsAre vs (vs.map Builtin.Re.reRawOf) := ints_of vs fun v hv => by
    obtain ⟨e, he, q⟩ := List.mem_map.mp (pm.mem_iff.mp hv)
    obtain ⟨k, tk, h1, _⟩ := g e he
    exact ⟨k, tk, q.symm.trans h1⟩
  have pk : (vs.map Builtin.Re.reRawOf).Perm (es.toList.map keyOf) := by
    have q := pm.map Builtin.Re.reRawOf
    rwa [List.map_map] at q
  have small : vs.length ≤ sizeLine := by
    rw [hvl]
    exact Nat.le_trans hn0 (by rw [sizeLine_eq]; decide)
  refine wpAny_bind (wpAny_newList ?_ small)
  have hoL : (s1.heap.push (seqObj "list" vs.toArray 0)).get? s1.heap.objs.size = some (seqObj "list" vs.toArray 0) := Heap.get?_push_size _ rfl
  refine wpAny_bind (wpAny_holding (wpAny_call_entry slot_list_sort ⟨_, hoL, rfl⟩ entry_list_sort (SrtO.list_sort_ord SrtO.swo_int hoL small (fun h2 => SrtO.ints_sortable hI h2) fun out hs hb => ⟨_, rfl, ?_⟩) (args_list_sort _)))
  obtain ⟨q1, q2, q3⟩ := SrtO.ints_out hI hs hb
  obtain ⟨c, hc⟩ := sortedHeap_at (vs := vs) (out := out.toArray) hoL
  have pn : (out.map SrtO.iv).Perm (es.toList.map keyOf) := q2.trans pk
  refine wpAny_pure ⟨_, rfl, hQ _ s1.heap.objs.size out c (out.map SrtO.iv) (fun b u e => ?_) g1 o1 hz hc q1 (lt_of_le_nodup _ q3 (pn.nodup_iff.mpr nd)) (fun k => ?_) ?_⟩
  · have q := k1 b u e
    have hlt := Heap.lt_size q
    show (sortedHeap _ s1.heap.objs.size vs out.toArray).get? b = some u
    rw [sortedHeap_old (Nat.ne_of_lt hlt) (Nat.lt_of_lt_of_le hlt (by rw [size_push']; exact Nat.le_succ _))]
    exact Heap.get?_push_of_some _ q
  · rw [pn.mem_iff, ← hm k]
  · rw [pn.length_eq, List.length_map, Array.length_toList]
    exact hn
def rSortedSetB (w : World) : List V → Hp → VK → Prop := fun vs H Q => ∃ (a : Addr) (S : Int → Bool) (n : Nat), vs = [V.ref a] ∧ H a = some (SetO w a S n) ∧ n ≤ 1000 ∧ ∀ (ns : List Int) (p : Addr), ns.Pairwise (· < ·) → (∀ k : Int, k ∈ ns ↔ S k = true) → ns.length = n → H p = none → Q (.ref p) (upd H p (.lst (ns.map V.int)))
theorem cr_sortedSetB {X : Cx} (hc : X.calm = true) : CallR X (.builtin "sorted") (rSortedSetB X.w) := by
  intro pins s σ H vs us Q I r h
  obtain ⟨a, S, n, rfl, ha, h1000, q⟩ := h
  have R := setO_get I ha
  rw [Vals.ref1 r]
  refine sorted_setB R (I.ok.hd hc) h1000 fun s' p out c ns k g o hp hg hi hs hm hl => ?_
  have hlen : (ns.map V.int).length ≤ sizeLine := by
    rw [List.length_map, hl]
    exact Nat.le_trans h1000 (by rw [sizeLine_eq]; decide)
  have hn : H p = none := I.hok.fresh hp
  have J : Inv X pins σ (upd H p (.lst (ns.map V.int))) { s with heap := s'.heap, gens := s'.gens, drawn := s'.drawn, toks := s'.toks } := I.call (ch := []) (Un.laid k hp hn) (I.hok.laid k hp ⟨hlen, out, c, vals_of_ints hi, hg⟩) (by rw [g]; exact I.bare) (fun _ z => nomatch z)
  have e : s' = { s with heap := s'.heap, gens := s'.gens, drawn := s'.drawn, toks := s'.toks } := by
    obtain ⟨h1, g1, d1, t1, o1⟩ := s'
    have o : o1 = s.os := o
    rw [o]
  rw [e]
  exact ⟨.ref p, _, J, rfl, q ns p hs hm hl hn⟩
end
section
variable {c : Vc} {t : TE} {s e : List Nat} {f : Option (List Nat)} {w : VW}
def wSortSetB (we : VW) : VW := fun env Q => we env fun d env' => match d with
  | .lst xs => ∃ ns : List Int, xs = ns.map Val.int ∧ ns.length ≤ 1000 ∧ ∀ ks : List Int, ks.Pairwise (· < ·) → (∀ k, k ∈ ks ↔ k ∈ ns) → Q (.lst (ks.map Val.int)) env'
  | _ => False
theorem simE_sortSetB {W : World} (h : SimE c t s f e w) : SimE c (tCB (rSortedSetB W) (tCons (tCB (rSetOf c.K W) (tCons t tNil)) tNil)) [] (some []) e (wSortSetB w) := ⟨fun env σ H Fs Q R S hw k =>
  h.sim env σ H Fs _ _ S hw fun v d F env1 H1 Fs1 o1 r1 s1 f1 q1 => by
    clear f1
    cases d <;> try exact q1.elim
    obtain ⟨ns, rfl, hl, q⟩ := q1
    obtain ⟨l, e, h1, _⟩ := r1.ints
    subst e
    refine ⟨l, ns, rfl, SqL.of h1, hl, fun p ds np nd mem => ?_⟩
    obtain ⟨gp, sp⟩ := upd_at (o := SetO W p (fun j => decide (j ∈ ns)) ds.length) np
    refine ⟨p, _, _, rfl, gp, ?_, fun ks q' pw mk lk nq => ?_⟩
    · exact Nat.le_trans (nodup_len nd fun x hx => (mem x).mp hx) hl
    · refine new_flat k (o1.grow sp) (rpa_ints ks) nq (q ks pw fun k => ?_)
      rw [mk k]
      exact decide_eq_true_iff⟩
end
/-! ### among whole numbers; a list taken apart -/
section
variable {c : Vc} {fx : List Nat}
def gvUnl (n : Nat) (w' : List Val → VEnv → (VEnv → Prop) → Prop) : VWG
  | .lst ds, env, R => ds.length = n ∧ w' ds env R
  | _, _, _ => False
theorem simG_unl {gs : TGs} {n : Nat} {wg' : List Val → VEnv → (VEnv → Prop) → Prop} (h : SimGs c fx gs wg') : SimG c fx (gUnl c.K n gs) (gvUnl n wg') := ⟨fun v d F env σ H Fs Q R S r sr hw k => by
  cases d <;> try exact hw.elim
  obtain ⟨l, vs, G, e, hs, ra, eF⟩ := r.asL
  subst e
  exact ⟨l, vs, rfl, SqL.of hs, by rw [ra.len]; exact hw.1, h.sim vs _ G env σ H Fs Q R S ra (fun a ha => sr a (by rw [eF]; exact List.mem_cons_of_mem _ ha)) hw.2 k⟩⟩
end
section
variable {c : Vc} {fx vs E ei et ee s s' : List Nat} {ti : TI} {wi : VWI} {g : TG} {wg : VWG} {tt : TT} {wt : VWT} {te : TE} {we : VW} {f' : Option (List Nat)}
end
/-! ### how many in a set of whole numbers -/
section
variable {c : Vc} {t : TE} {w : VW} {s e : List Nat} {f : Option (List Nat)}
end
/-! ### x.insert(a, e), over values -/
section
variable {X : Cx}
end
section
variable {c : Vc} {ta te : TE} {wa we : VW} {s s2 e e2 : List Nat} {f f2 : Option (List Nat)}
end
/-! ### all of a generator expression whose items leave the slots as they are; small things -/
section
variable {α : Type} {wg : VWG} {we : VW} {vs : List Nat} {Q : Val → VEnv → Prop} {E0 : VEnv}
theorem gxv_all (l : List α) (g : α → Val) (p : α → Bool) (step : ∀ x ∈ l, ∀ (R : Val → VEnv → Prop), R (.bl (p x)) E0 → wg (g x) E0 fun env2 => we env2 fun y env4 => R y (wipeE env4 vs)) (q : Q (.bl (l.all p)) E0) :
    ∃ I : Nat → Unit → VEnv → Prop, I 0 () E0 ∧ (∀ i x a env', (l.map g)[i]? = some x → I i a env' → wg x env' fun env2 => wYes env2 fun b env3 => if b = true then we env3 fun y env4 => vAll.step a y (fun a' => I (i + 1) a' (wipeE env4 vs)) (fun u => app2 Q u (wipeE env4 vs)) else I (i + 1) a (wipeE env3 vs)) ∧
      ∀ a env', I (l.map g).length a env' → vAll.fin a fun u => app2 Q u env' := by
  refine ⟨fun i _ env => env = E0 ∧ (l.take i).all p = true, ⟨rfl, rfl⟩, ?_, ?_⟩
  · rintro i x a env' hx ⟨rfl, ih⟩
    rw [List.getElem?_map] at hx
    obtain ⟨a, ha, rfl⟩ := Option.map_eq_some_iff.mp hx
    have ma := List.mem_of_getElem? ha
    have tk : l.take (i + 1) = l.take i ++ [a] := by
      rw [List.take_add_one, ha]
      rfl
    have := step a ma (fun y env5 => vAll.step () y (fun _ => env5 = env' ∧ (l.take (i + 1)).all p = true) (fun u => app2 Q u env5)) ?_
    · exact this
    · cases hp : p a with
      | true =>
        refine ⟨rfl, ?_⟩
        rw [tk, List.all_append, ih, List.all_cons, hp]
        rfl
      | false =>
        have e : l.all p = false := List.all_eq_false.mpr ⟨a, ma, by rw [hp]; decide⟩
        rw [e] at q
        exact q
  · rintro a env' ⟨rfl, ih⟩
    rw [List.length_map, List.take_length] at ih
    rw [ih] at q
    exact q
end
theorem okD_span (s : Span) : (spV s).okD := ⟨rfl, rfl⟩
theorem cutL_map {α β : Type} (f : α → β) (l : List α) (a b : Option Int) : cutL (l.map f) a b = (cutL l a b).map f := by
  unfold cutL
  rw [List.length_map, List.map_take, List.map_drop]
theorem nodup_le {α : Type} [DecidableEq α] : ∀ {a b : List α}, a.Nodup → (∀ x ∈ a, x ∈ b) → a.length ≤ b.length
  | [], _, _, _ => Nat.zero_le _
  | x :: a, b, h, m => by
    obtain ⟨h1, h2⟩ := List.nodup_cons.mp h
    have := nodup_le (a := a) (b := b.erase x) h2 fun y hy => (List.mem_erase_of_ne fun z => h1 (by rw [← z]; exact hy)).mpr (m y (List.mem_cons_of_mem _ hy))
    have hx := m x List.mem_cons_self
    rw [List.length_erase_of_mem hx] at this
    have := List.length_pos_of_mem hx
    show a.length + 1 ≤ b.length
    omega
/-! ### dicts of whole numbers, over values -/
def diE (p : Int × Int) : Key × Val := (.inl p.1, .int p.2)
def diU (p : Int × Int) : Key × V := (.inl p.1, .int p.2)
def diV (m : List (Int × Int)) : Val := .dic (m.map diE)
theorem rpd_of {K : PySem.W.Frag} {H : Hp} : ∀ m : List (Int × Int), RpD K H [] (m.map diU) (m.map diE)
  | [] => .nil
  | p :: r => RpD.cons (F := []) (.int p.2) (rpd_of r)
section
variable {c : Vc} {ta tb t : TE} {sa sb s : List Nat} {fa fb f : Option (List Nat)} {ea eb e : List Nat} {wa wb w : VW}
theorem new_dic {σ : L2.St} {H H1 : Hp} {Fs Fs1 : Fp} {env1 : VEnv} {e : List Nat} {Q : VK} {R : Val → VEnv → Prop} (k : ∀ v d F env' H' Fs', Ok0 c e σ H Fs env' H' Fs' → Rp c.K H' F v d → Src c.ms [] F Fs' → Frs (some []) H Fs' F → R d env' → Q v H') (o : Ok0 c e σ H Fs env1 H1 Fs1) (m : List (Int × Int)) {p : Addr} (np : H1 p = none) (q : R (diV m) env1) : Q (.ref p) (upd H1 p (.dK (m.map diU))) := by
  obtain ⟨gp, sp⟩ := upd_at (o := .dK (m.map diU)) np
  refine k _ _ [p] env1 _ Fs1 (o.grow sp) (.dic gp (rpd_of m)) (fun a ha j hj _ z => ?_) (fun mv e => ?_) q
  · rw [List.mem_singleton.mp ha] at z
    exact (o.sr.mutb j p z).ex np
  · cases e
    exact ⟨by simp, fun a ha => .inl (by rw [List.mem_singleton.mp ha]; exact o.ef.gr p np)⟩
def wDNew : VW := fun env Q => Q (diV []) env
theorem simE_dnew : SimE c tDNewK [] (some []) [] wDNew := ⟨fun env σ H Fs Q R S hw k p np => new_dic k (Ok0.refl S) [] np hw⟩
end
section
variable {c : Vc} {te ti tj : TE} {s e s' e' s'' e'' : List Nat} {f f' f'' : Option (List Nat)} {we wi wj : VW} {fx lo E : List Nat}
end
section
variable {c : Vc} {ta tb : TE} {sa sb : List Nat} {fa fb : Option (List Nat)} {wa wb : VW}
end
section
variable {c : Vc} {te ti tj : TE} {s s' s'' e : List Nat} {f f' f'' : Option (List Nat)} {we wi wj : VW} {fx lo E : List Nat} {n2 : Nat}
end
/-! ### min of a generator expression -/
section
open GenW
section
variable {Z : Cx} {ga : Addr} {g : Nat} {Q : VK} {A : Around} {Rf : Result → Shared → Prop}
end
section
variable {X : Cx} {c P : Addr} {elt tg iter : Expr} {ifs : List Expr} {scope : Scope} {own : List (Str × Nat)} {gpos p pos : Pos} {k : Nat} {wi : TI} {g : TG} {tt : TT} {te : TE}
end
end
/-! ### the least of pairs -/
section
variable {X : Cx}
end
/-! ### min of a generator expression, the least of pairs, over values -/
section
variable {c : Vc}
end
/-! ### comprehensions of new lists, lists of lists joined -/
section
variable {c : Vc} {fx vs E et ee s' : List Nat} {g : TG} {wg : VWG} {tt : TT} {wt : VWT} {te : TE} {we : VW} {f' : Option (List Nat)}
end
section
variable {c : Vc} {fx vs ei : List Nat} {ti : TI} {wi : VWI} {g : TG} {wg : VWG} {tt : TT} {wt : VWT} {te : TE} {we : VW}
end
section
variable {c : Vc} {ta tb : TE} {sa sb : List Nat} {fa fb : Option (List Nat)} {ea eb : List Nat} {wa wb : VW}
end
/-! ### data that may be compared, piece by piece -/
def okN (n : Nat) (v : Val) : Prop := v.isD = true ∧ PyData.canLay0 v.toD = true ∧ PyData.depth v.toD ≤ n
theorem okN.okD {n : Nat} {v : Val} (h : okN n v) (hn : n ≤ 64) : v.okD := ⟨h.1, by
  show (PyData.canLay0 _ && decide (PyData.depth _ ≤ 64)) = true
  rw [h.2.1, decide_eq_true (Nat.le_trans h.2.2 hn)]
  rfl⟩
theorem okN_int (n : Nat) (i : Int) : okN n (.int i) := ⟨rfl, rfl, Nat.zero_le _⟩
theorem okN_non (n : Nat) : okN n .non := ⟨rfl, rfl, Nat.zero_le _⟩
theorem okN_all {n : Nat} : ∀ {l : List Val}, (∀ v ∈ l, okN n v) → Val.isDs l = true ∧ PyData.canLayAll0 (Val.toDs l) = true ∧ PyData.depthAll (Val.toDs l) ≤ n
  | [], _ => ⟨rfl, rfl, Nat.zero_le _⟩
  | v :: l, h => by
    obtain ⟨a1, a2, a3⟩ := h v List.mem_cons_self
    obtain ⟨b1, b2, b3⟩ := okN_all (l := l) fun u hu => h u (List.mem_cons_of_mem _ hu)
    refine ⟨?_, ?_, ?_⟩
    · show (Val.isD v && Val.isDs l) = true
      rw [a1, b1]
      rfl
    · show (PyData.canLay0 v.toD && PyData.canLayAll0 (Val.toDs l)) = true
      rw [a2, b2]
      rfl
    · show max (PyData.depth v.toD) (PyData.depthAll (Val.toDs l)) ≤ n
      omega
theorem okN_lst {n : Nat} {l : List Val} (h : ∀ v ∈ l, okN n v) : okN (n + 1) (.lst l) := by
  obtain ⟨a, b, c⟩ := okN_all h
  exact ⟨a, b, Nat.succ_le_succ c⟩
theorem okN_tup {n : Nat} {l : List Val} (h : ∀ v ∈ l, okN n v) : okN (n + 1) (.tup l) := by
  obtain ⟨a, b, c⟩ := okN_all h
  exact ⟨a, b, Nat.succ_le_succ c⟩
theorem okN_map {α : Type} {n : Nat} {f : α → Val} (hf : ∀ x, okN n (f x)) (l : List α) : okN (n + 1) (.lst (l.map f)) := okN_lst fun v hv => by
  obtain ⟨x, _, rfl⟩ := List.mem_map.mp hv
  exact hf x
theorem okN_span (s : Span) : okN 1 (spV s) := okN_tup fun v hv => by
  rcases List.mem_cons.mp hv with rfl | hv
  · exact okN_int ..
  · rw [List.mem_singleton.mp hv]
    exact okN_int ..
theorem okN.up {n m : Nat} {v : Val} (h : okN n v) (hn : n ≤ m) : okN m v := ⟨h.1, h.2.1, Nat.le_trans h.2.2 hn⟩
theorem okN_1 {n : Nat} {a : Val} (ha : okN n a) : ∀ v ∈ [a], okN n v := fun v hv => by
  rw [List.mem_singleton.mp hv]
  exact ha
theorem okN_c {n : Nat} {a : Val} {l : List Val} (ha : okN n a) (h : ∀ v ∈ l, okN n v) : ∀ v ∈ a :: l, okN n v := fun v hv => by
  rcases List.mem_cons.mp hv with rfl | hv
  · exact ha
  · exact h v hv
/-! ### dict.get, list.count(None), abs, the least of triples -/
section
variable {c : Vc} {ta tb : TE} {sa sb : List Nat} {fa fb : Option (List Nat)} {ea eb : List Nat} {wa wb : VW}
/-! abs -/
/-! list.count(None) -/
end
/-! ### places given: the one that ends soonest first -/
abbrev Row3 := Int × Int × Int
/-- r is the least of the rows, by its end, its beginning, its number -/
def le3 (a b : Row3) : Prop := a.1 < b.1 ∨ (a.1 = b.1 ∧ (a.2.1 < b.2.1 ∨ (a.2.1 = b.2.1 ∧ a.2.2 ≤ b.2.2)))
theorem le3_anti {a b : Row3} (h : le3 a b) (g : le3 b a) : a = b := by
  obtain ⟨a1, a2, a3⟩ := a
  obtain ⟨b1, b2, b3⟩ := b
  unfold le3 at h g
  simp only at h g
  have e1 : a1 = b1 := by omega
  have e2 : a2 = b2 := by omega
  have e3 : a3 = b3 := by omega
  rw [e1, e2, e3]
def Least3 (l : List Row3) (r : Row3) : Prop := r ∈ l ∧ ∀ q ∈ l, le3 r q
theorem Least3.uniq {l : List Row3} {r r' : Row3} (h : Least3 l r) (g : Least3 l r') : r = r' := le3_anti (h.2 _ g.1) (g.2 _ h.1)
def LeastI (l : List Int) (m : Int) : Prop := m ∈ l ∧ ∀ y ∈ l, m ≤ y
theorem LeastI.uniq {l : List Int} {m m' : Int} (h : LeastI l m) (g : LeastI l m') : m = m' := by
  have := h.2 _ g.1
  have := g.2 _ h.1
  omega
def rest3 (l : List Row3) (r : Row3) (x : Int) : List Row3 := l.filter fun q => decide (q.2.2 ≠ r.2.2) && decide (x < q.1)
def top (p m : Int) : Int := if m > p then m else p
inductive Edf : List Row3 → Int → List (Int × Int) → Prop
  | nil {p : Int} : Edf [] p []
  | cons {l : List Row3} {p m : Int} {r : Row3} {L : List (Int × Int)} : LeastI (l.map (·.2.1)) m → Least3 (l.filter fun q => decide (q.2.1 ≤ top p m)) r → Edf (rest3 l r (top p m + 1)) (top p m + 1) L → Edf l p ((r.2.2, top p m) :: L)
theorem Edf.uniq {l : List Row3} {p : Int} {L L' : List (Int × Int)} (h : Edf l p L) (g : Edf l p L') : L = L' := by
  induction h generalizing L' with
  | nil =>
    cases g with
    | nil => rfl
    | cons h1 _ _ => exact absurd h1.1 List.not_mem_nil
  | cons h1 h2 h3 ih =>
    cases g with
    | nil => exact absurd h1.1 List.not_mem_nil
    | cons g1 g2 g3 =>
      have em := h1.uniq g1
      subst em
      have er := h2.uniq g2
      subst er
      rw [ih g3]
def Rise (W : List Span) : Prop := W.Pairwise fun a b => a.2 ≤ b.1
/-! ### windows and givings: no giving leaves out fewer than windows ask for -/
def inW (w s : Span) : Bool := decide (w.1 ≤ s.1) && decide (s.2 ≤ w.2)
def overS (ss : List Span) (w : Span) : Int := (ss.countP (inW w) : Int) - (w.2 - w.1)
def sumS (ss : List Span) (W : List Span) : Int := (W.map (overS ss)).sum
structure Good (ss : List Span) (g : List (Option Int)) : Prop where
  len : g.length = ss.length
  within : ∀ p ∈ ss.zip g, ∀ x, p.2 = some x → p.1.1 ≤ x ∧ x < p.1.2
  nd : (g.filterMap id).Nodup
theorem sum_swap {α β : Type} (f : α → β → Bool) : ∀ (W : List α) (z : List β), ((W.map fun w => (z.countP (f w) : Nat)).sum) = (z.map fun x => W.countP fun w => f w x).sum
  | W, [] => by
    induction W with
    | nil => rfl
    | cons w W ih => rw [List.map_cons, List.sum_cons, ih]; rfl
  | W, x :: z => by
    have ih := sum_swap f W z
    rw [List.map_cons, List.sum_cons, ← ih]
    clear ih
    induction W with
    | nil => rfl
    | cons w W ih =>
      rw [List.map_cons, List.sum_cons, List.map_cons, List.sum_cons, List.countP_cons, List.countP_cons, ih]
      omega
theorem sum_le_countP {β : Type} (h : β → Bool) (f : β → Nat) : ∀ z : List β, (∀ x ∈ z, f x ≤ if h x = true then 1 else 0) → (z.map f).sum ≤ z.countP h
  | [], _ => Nat.le_refl _
  | x :: z, k => by
    have ih := sum_le_countP h f z fun y hy => k y (List.mem_cons_of_mem _ hy)
    have := k x List.mem_cons_self
    rw [List.map_cons, List.sum_cons, List.countP_cons]
    omega
theorem one_window {W : List Span} (ri : Rise W) (ok : ∀ w ∈ W, w.1 < w.2) {s : Span} (hs : s.1 < s.2) : W.countP (fun w => inW w s) ≤ 1 := by
  induction W with
  | nil => exact Nat.zero_le _
  | cons w W ih =>
    obtain ⟨r1, r2⟩ := List.pairwise_cons.mp ri
    rw [List.countP_cons]
    by_cases e : inW w s = true
    · rw [if_pos e]
      have : W.countP (fun w => inW w s) = 0 := List.countP_eq_zero.mpr fun u hu h => by
        have a := r1 u hu
        unfold inW at e h
        rw [Bool.and_eq_true, decide_eq_true_iff, decide_eq_true_iff] at e h
        omega
      omega
    · rw [if_neg e]
      exact ih r2 fun u hu => ok u (List.mem_cons_of_mem _ hu)
theorem nodup_room {l : List Int} {a b : Int} (nd : l.Nodup) (h : ∀ x ∈ l, a ≤ x ∧ x < b) (ab : a ≤ b) : (l.length : Int) ≤ b - a := by
  have h2 := nodup_le (a := l) (b := (List.range (b - a).toNat).map fun (i : Nat) => a + (i : Int)) nd fun x hx => by
    have := h x hx
    exact List.mem_map.mpr ⟨(x - a).toNat, List.mem_range.mpr (by omega), by omega⟩
  rw [List.length_map, List.length_range] at h2
  omega
theorem countP_zip {α β : Type} (f : α → Bool) : ∀ (a : List α) (b : List β), b.length = a.length → a.countP f = (a.zip b).countP fun p => f p.1
  | [], [], _ => rfl
  | x :: a, y :: b, h => by
    rw [List.zip_cons_cons, List.countP_cons, List.countP_cons, countP_zip f a b (Nat.succ.inj h)]
theorem zip_filter_sub (f : Span × Option Int → Bool) : ∀ (a : List Span) (b : List (Option Int)), List.Sublist (((a.zip b).filter f).filterMap (·.2)) (b.filterMap id)
  | [], b => List.nil_sublist _
  | x :: a, [] => List.Sublist.refl _
  | x :: a, y :: b => by
    have ih := zip_filter_sub f a b
    rw [List.zip_cons_cons]
    by_cases e : f (x, y) = true
    · rw [List.filter_cons_of_pos e, List.filterMap_cons, List.filterMap_cons]
      cases y with
      | none => exact ih
      | some v => exact ih.cons_cons v
    · rw [List.filter_cons_of_neg e, List.filterMap_cons]
      cases y with
      | none => exact ih
      | some v => exact ih.cons v
theorem countP_some : ∀ l : List (Span × Option Int), (l.filterMap (·.2)).length = l.countP fun p => p.2.isSome
  | [] => rfl
  | (s, o) :: l => by
    rw [List.filterMap_cons, List.countP_cons]
    cases o with
    | none => exact countP_some l
    | some v => rw [List.length_cons, countP_some l]; rfl
theorem Good.low {ss : List Span} {g : List (Option Int)} (h : Good ss g) (hs : ∀ s ∈ ss, s.1 < s.2) {W : List Span} (ri : Rise W) (ok : ∀ w ∈ W, w.1 < w.2) : sumS ss W ≤ (g.countP (·.isNone) : Nat) := by
  -- one window
  have one : ∀ w : Span, w.1 < w.2 → overS ss w ≤ ((ss.zip g).countP fun p => inW w p.1 && p.2.isNone : Nat) := fun w hw => by
    unfold overS
    rw [countP_zip (inW w) ss g h.len]
    have sp : (ss.zip g).countP (fun p => inW w p.1) = ((ss.zip g).filter fun p => inW w p.1).countP (fun p => p.2.isNone) + ((ss.zip g).filter fun p => inW w p.1).countP (fun p => p.2.isSome) := by
      rw [List.countP_eq_length_filter]
      generalize (ss.zip g).filter (fun p => inW w p.1) = l
      induction l with
      | nil => rfl
      | cons p l ih =>
        rw [List.length_cons, List.countP_cons, List.countP_cons, ih]
        cases p.2 with
        | none => simp; omega
        | some v => simp; omega
    have e1 : ((ss.zip g).filter fun p => inW w p.1).countP (fun p => p.2.isNone) = (ss.zip g).countP fun p => inW w p.1 && p.2.isNone := by
      rw [List.countP_filter]
      exact List.countP_congr fun p _ => by rw [Bool.and_comm]
    have e2 : (((ss.zip g).filter fun p => inW w p.1).countP (fun p => p.2.isSome) : Int) ≤ w.2 - w.1 := by
      rw [← countP_some]
      refine nodup_room (h.nd.sublist (zip_filter_sub _ ss g)) (fun x hx => ?_) (by omega)
      obtain ⟨p, hp, e⟩ := List.mem_filterMap.mp hx
      have hp := List.mem_filter.mp hp
      have a := h.within p hp.1 x e
      have b : inW w p.1 = true := hp.2
      unfold inW at b
      rw [Bool.and_eq_true, decide_eq_true_iff, decide_eq_true_iff] at b
      omega
    omega
  have a1 : sumS ss W ≤ (((W.map fun w => ((ss.zip g).countP fun p => inW w p.1 && p.2.isNone)).sum : Nat) : Int) := by
    unfold sumS
    clear ri
    induction W with
    | nil => exact Int.le_refl _
    | cons w W ih =>
      have := one w (ok w List.mem_cons_self)
      have := ih fun u hu => ok u (List.mem_cons_of_mem _ hu)
      rw [List.map_cons, List.sum_cons, List.map_cons, List.sum_cons]
      omega
  rw [sum_swap (fun w (p : Span × Option Int) => inW w p.1 && p.2.isNone)] at a1
  have a2 := sum_le_countP (fun (p : Span × Option Int) => p.2.isNone) (fun p => W.countP fun w => inW w p.1 && p.2.isNone) (ss.zip g) fun p hp => by
    cases e : p.2.isNone with
    | true =>
      rw [if_pos rfl]
      have := one_window ri ok (hs p.1 (List.of_mem_zip hp).1)
      simpa using this
    | false => simp
  have a3 : (ss.zip g).countP (fun (p : Span × Option Int) => p.2.isNone) = g.countP (·.isNone) := by
    have hl := h.len
    clear a1 a2 one h
    induction ss generalizing g with
    | nil =>
      cases g with
      | nil => rfl
      | cons y g => cases hl
    | cons x ss ih =>
      cases g with
      | nil => cases hl
      | cons y g =>
        rw [List.zip_cons_cons, List.countP_cons, List.countP_cons, ih (fun s hs' => hs s (List.mem_cons_of_mem _ hs')) (Nat.succ.inj hl)]
  omega
/-! ### the greediest windows -/
def EAt (E : List Int) (i : Nat) : Int := E[i]?.getD 0
/-- what the table of the greediest windows holds -/
structure DpW (ss : List Span) (E : List Int) (M : Nat → Int) (C : Nat → Option Nat) (n : Nat) : Prop where
  z : M 0 = 0
  up : ∀ t, t + 1 < n → M t ≤ M (t + 1)
  low : ∀ t, t + 1 < n → ∀ h, h ≤ t → EAt E (t + 1) - EAt E h < (ss.length : Int) → M h + overS ss (EAt E h, EAt E (t + 1)) ≤ M (t + 1)
  at_ : ∀ t, t + 1 < n → (C (t + 1) = none ∧ M (t + 1) = M t) ∨ ∃ h, h ≤ t ∧ C (t + 1) = some h ∧ M t < M (t + 1) ∧ EAt E (t + 1) - EAt E h < (ss.length : Int) ∧ M (t + 1) = M h + overS ss (EAt E h, EAt E (t + 1)) ∧ ∀ h', h' < h → EAt E (t + 1) - EAt E h' < (ss.length : Int) → M h' + overS ss (EAt E h', EAt E (t + 1)) < M (t + 1)
theorem DpW.same {ss : List Span} {E : List Int} {M M' : Nat → Int} {C C' : Nat → Option Nat} {n : Nat} (h : DpW ss E M C n) (g : DpW ss E M' C' n) : ∀ t, t < n → M t = M' t := by
  intro t
  induction t using Nat.strongRecOn with
  | _ t ih =>
    intro ht
    cases t with
    | zero => rw [h.z, g.z]
    | succ t =>
      have e0 := ih t (by omega) (by omega)
      have a : M (t + 1) ≤ M' (t + 1) := by
        rcases h.at_ t ht with ⟨_, z⟩ | ⟨k, kt, _, _, kl, z, _⟩
        · have := g.up t ht
          omega
        · have := g.low t ht k kt kl
          have := ih k (by omega) (by omega)
          omega
      have b : M' (t + 1) ≤ M (t + 1) := by
        rcases g.at_ t ht with ⟨_, z⟩ | ⟨k, kt, _, _, kl, z, _⟩
        · have := h.up t ht
          omega
        · have := h.low t ht k kt kl
          have := ih k (by omega) (by omega)
          omega
      omega
inductive BackW (E : List Int) (C : Nat → Option Nat) : Nat → List Span → Prop
  | stop : BackW E C 0 []
  | skip {t : Nat} {V : List Span} : C (t + 1) = none → BackW E C t V → BackW E C (t + 1) V
  | take {t h : Nat} {V : List Span} : C (t + 1) = some h → h ≤ t → BackW E C h V → BackW E C (t + 1) ((EAt E h, EAt E (t + 1)) :: V)
theorem BackW.same {E : List Int} {C C' : Nat → Option Nat} {t : Nat} {V V' : List Span} (h : BackW E C t V) (g : BackW E C' t V') (e : ∀ u, u < t → C (u + 1) = C' (u + 1)) : V = V' := by
  induction h generalizing V' with
  | stop =>
    cases g
    rfl
  | skip c b ih =>
    rename_i t V
    have e1 := e t (Nat.lt_succ_self _)
    cases g with
    | skip c' b' => exact ih b' fun u hu => e u (by omega)
    | take c' _ _ => rw [c, c'] at e1; cases e1
  | take c hl b ih =>
    rename_i t h V
    have e1 := e t (Nat.lt_succ_self _)
    cases g with
    | skip c' b' => rw [c, c'] at e1; cases e1
    | take c' hl' b' =>
      rw [c, c'] at e1
      cases e1
      rw [ih b' fun u hu => e u (by omega)]
theorem eat_lt {E : List Int} (h : E.Pairwise (· < ·)) {i j : Nat} (ij : i < j) (hj : j < E.length) : EAt E i < EAt E j := by
  unfold EAt
  rw [List.getElem?_eq_getElem hj, List.getElem?_eq_getElem (show i < E.length by omega)]
  exact List.pairwise_iff_getElem.mp h i j (by omega) hj ij
theorem eat_le {E : List Int} (h : E.Pairwise (· < ·)) {i j : Nat} (ij : i ≤ j) (hj : j < E.length) : EAt E i ≤ EAt E j := by
  rcases Nat.lt_or_ge i j with z | z
  · exact Int.le_of_lt (eat_lt h z hj)
  · have : i = j := by omega
    rw [this]
    exact Int.le_refl _
theorem DpW.mono {ss : List Span} {E : List Int} {M : Nat → Int} {C : Nat → Option Nat} {n : Nat} (h : DpW ss E M C n) {i : Nat} : ∀ {j : Nat}, i ≤ j → j < n → M i ≤ M j := by
  intro j
  induction j with
  | zero =>
    intro a _
    have : i = 0 := by omega
    rw [this]
    exact Int.le_refl _
  | succ j ih =>
    intro a b
    rcases Nat.lt_or_ge i (j + 1) with z | z
    · exact Int.le_trans (ih (by omega) (by omega)) (h.up j b)
    · have : i = j + 1 := by omega
      rw [this]
      exact Int.le_refl _
theorem leastI_ex : ∀ {l : List Int}, l ≠ [] → ∃ m, LeastI l m
  | [], h => absurd rfl h
  | [x], _ => ⟨x, List.mem_singleton.mpr rfl, fun y hy => by rw [List.mem_singleton.mp hy]; exact Int.le_refl _⟩
  | x :: y :: l, _ => by
    obtain ⟨m, h1, h2⟩ := leastI_ex (l := y :: l) (fun z => nomatch z)
    by_cases c : x ≤ m
    · refine ⟨x, List.mem_cons_self, fun u hu => ?_⟩
      rcases List.mem_cons.mp hu with rfl | hu
      · exact Int.le_refl _
      · have := h2 u hu
        omega
    · refine ⟨m, List.mem_cons_of_mem _ h1, fun u hu => ?_⟩
      rcases List.mem_cons.mp hu with rfl | hu
      · omega
      · exact h2 u hu
theorem mostI_ex {l : List Int} (h : l ≠ []) : ∃ m, m ∈ l ∧ ∀ y ∈ l, y ≤ m := by
  obtain ⟨m, h1, h2⟩ := leastI_ex (l := l.map fun x => -x) (by simpa using h)
  obtain ⟨x, hx, rfl⟩ := List.mem_map.mp h1
  refine ⟨x, hx, fun y hy => ?_⟩
  have := h2 (-y) (List.mem_map.mpr ⟨y, hy, rfl⟩)
  omega
/-- windows drawn in to the ends of what they hold -/
theorem shrink {ss : List Span} {E : List Int} (mE : ∀ s ∈ ss, s.1 ∈ E ∧ s.2 ∈ E) (hs : ∀ s ∈ ss, s.1 < s.2) : ∀ {W : List Span}, Rise W → (∀ w ∈ W, w.1 < w.2) → ∃ V : List Span, Rise V ∧ (∀ v ∈ V, v.1 < v.2 ∧ v.1 ∈ E ∧ v.2 ∈ E ∧ ∃ w ∈ W, w.1 ≤ v.1 ∧ v.2 ≤ w.2) ∧ sumS ss W ≤ sumS ss V
  | [], _, _ => ⟨[], List.Pairwise.nil, (fun _ h => nomatch h), Int.le_refl _⟩
  | w :: W, ri, ok => by
    obtain ⟨r1, r2⟩ := List.pairwise_cons.mp ri
    obtain ⟨V, a1, a2, a3⟩ := shrink mE hs r2 fun u hu => ok u (List.mem_cons_of_mem _ hu)
    have hw := ok w List.mem_cons_self
    have a2' : ∀ v ∈ V, v.1 < v.2 ∧ v.1 ∈ E ∧ v.2 ∈ E ∧ ∃ u ∈ w :: W, u.1 ≤ v.1 ∧ v.2 ≤ u.2 := fun v hv => by
      obtain ⟨b1, b2, b3, u, hu, b4⟩ := a2 v hv
      exact ⟨b1, b2, b3, u, List.mem_cons_of_mem _ hu, b4⟩
    by_cases e : ss.filter (inW w) = []
    · refine ⟨V, a1, a2', ?_⟩
      have : overS ss w ≤ 0 := by
        unfold overS
        rw [List.countP_eq_length_filter, e]
        show (0 : Int) - (w.2 - w.1) ≤ 0
        omega
      unfold sumS at a3 ⊢
      rw [List.map_cons, List.sum_cons]
      omega
    · obtain ⟨lo, l1, l2⟩ := leastI_ex (l := (ss.filter (inW w)).map (·.1)) (by simpa using e)
      obtain ⟨hi, g1, g2⟩ := mostI_ex (l := (ss.filter (inW w)).map (·.2)) (by simpa using e)
      obtain ⟨s, ms, rfl⟩ := List.mem_map.mp l1
      obtain ⟨t, mt, rfl⟩ := List.mem_map.mp g1
      have ms := List.mem_filter.mp ms
      have mt := List.mem_filter.mp mt
      have is : inW w s = true := ms.2
      have it : inW w t = true := mt.2
      unfold inW at is it
      rw [Bool.and_eq_true, decide_eq_true_iff, decide_eq_true_iff] at is it
      have st : s.1 < t.2 := by
        have := g2 s.2 (List.mem_map.mpr ⟨s, List.mem_filter.mpr ms, rfl⟩)
        have := hs s ms.1
        omega
      refine ⟨(s.1, t.2) :: V, List.Pairwise.cons (fun v hv => ?_) a1, fun v hv => ?_, ?_⟩
      · obtain ⟨_, _, _, u, hu, b4⟩ := a2 v hv
        have : w.2 ≤ u.1 := r1 u hu
        show t.2 ≤ v.1
        omega
      · rcases List.mem_cons.mp hv with rfl | hv
        · exact ⟨st, (mE s ms.1).1, (mE t mt.1).2, w, List.mem_cons_self, is.1, it.2⟩
        · exact a2' v hv
      · have : overS ss w ≤ overS ss (s.1, t.2) := by
          unfold overS
          have : ss.countP (inW w) ≤ ss.countP (inW (s.1, t.2)) := List.countP_mono_left fun u hu h => by
            have mu := List.mem_filter.mpr ⟨hu, h⟩
            have b1 := l2 u.1 (List.mem_map.mpr ⟨u, mu, rfl⟩)
            have b2 := g2 u.2 (List.mem_map.mpr ⟨u, mu, rfl⟩)
            unfold inW
            rw [Bool.and_eq_true, decide_eq_true_iff, decide_eq_true_iff]
            exact ⟨b1, b2⟩
          show _ ≤ _ - (t.2 - s.1)
          omega
        unfold sumS at a3 ⊢
        rw [List.map_cons, List.sum_cons, List.map_cons, List.sum_cons]
        omega
theorem eat_of {E : List Int} {x : Int} (h : x ∈ E) : ∃ i, i < E.length ∧ EAt E i = x := by
  obtain ⟨i, hi, e⟩ := List.getElem_of_mem h
  exact ⟨i, hi, by unfold EAt; rw [List.getElem?_eq_getElem hi, e]; rfl⟩
theorem DpW.greedy {ss : List Span} {E : List Int} {M : Nat → Int} {C : Nat → Option Nat} (D : DpW ss E M C E.length) (hE : E.Pairwise (· < ·)) : ∀ {V : List Span}, V.Pairwise (fun a b => b.2 ≤ a.1) → (∀ v ∈ V, v.1 < v.2 ∧ v.1 ∈ E ∧ v.2 ∈ E) → ∀ t, t < E.length → (∀ v ∈ V, v.2 ≤ EAt E t) → sumS ss V ≤ M t
  | [], _, _, t, ht, _ => by
    have := D.mono (Nat.zero_le t) ht
    rw [D.z] at this
    exact this
  | v :: V, pw, ok, t, ht, hb => by
    obtain ⟨p1, p2⟩ := List.pairwise_cons.mp pw
    obtain ⟨o1, o2, o3⟩ := ok v List.mem_cons_self
    obtain ⟨h, hh, eh⟩ := eat_of o2
    obtain ⟨u, hu, eu⟩ := eat_of o3
    have hlt : h < u := by
      rcases Nat.lt_or_ge h u with z | z
      · exact z
      · have := eat_le hE z hh
        omega
    have ut : u ≤ t := by
      rcases Nat.lt_or_ge t u with z | z
      · have := eat_lt hE z hu
        have := hb v List.mem_cons_self
        omega
      · exact z
    have ih := DpW.greedy D hE p2 (fun x hx => ok x (List.mem_cons_of_mem _ hx)) h hh fun x hx => by
      have := p1 x hx
      omega
    obtain ⟨u', rfl⟩ : ∃ u', u = u' + 1 := ⟨u - 1, by omega⟩
    have m1 := D.mono ut ht
    have m2 := D.mono (show h ≤ t by omega) ht
    have ev : v = (EAt E h, EAt E (u' + 1)) := by rw [eh, eu]
    unfold sumS at ih ⊢
    rw [List.map_cons, List.sum_cons]
    by_cases c : EAt E (u' + 1) - EAt E h < (ss.length : Int)
    · have := D.low u' hu h (by omega) c
      rw [ev]
      omega
    · have : overS ss v ≤ 0 := by
        unfold overS
        have := List.countP_le_length (p := inW v) (l := ss)
        omega
      omega
/-- the table tells as much as any windows ask for -/
theorem DpW.most {ss : List Span} {E : List Int} {M : Nat → Int} {C : Nat → Option Nat} (D : DpW ss E M C E.length) (hE : E.Pairwise (· < ·)) (mE : ∀ s ∈ ss, s.1 ∈ E ∧ s.2 ∈ E) (hs : ∀ s ∈ ss, s.1 < s.2) (hl : 0 < E.length) {W : List Span} (ri : Rise W) (ok : ∀ w ∈ W, w.1 < w.2) : sumS ss W ≤ M (E.length - 1) := by
  obtain ⟨V, a1, a2, a3⟩ := shrink mE hs ri ok
  have rv : V.reverse.Pairwise (fun a b => b.2 ≤ a.1) := by
    rw [List.pairwise_reverse]
    exact a1
  have := D.greedy hE rv (fun v hv => by
    obtain ⟨b1, b2, b3, _⟩ := a2 v (List.mem_reverse.mp hv)
    exact ⟨b1, b2, b3⟩) (E.length - 1) (by omega) fun v hv => by
    obtain ⟨_, _, b3, _⟩ := a2 v (List.mem_reverse.mp hv)
    obtain ⟨i, hi, e⟩ := eat_of b3
    rw [← e]
    exact eat_le hE (by omega) (by omega)
  have e : sumS ss V.reverse = sumS ss V := by
    unfold sumS
    rw [List.map_reverse, List.sum_reverse]
  omega
/-! ### the numbers of tuples, read off the heap -/
/-! ### triples sorted -/
section
variable {c : Vc}
end
/-! ### pairs sorted -/
section
variable {c : Vc}
end
/-! ### the least of triples -/
section
variable {X : Cx}
end
section
variable {c : Vc}
end
/-! ### {e for a in x for b in y}: a set of whole numbers, two clauses, no tests -/
section
variable {prog : Program} {w : World} {A : Around} {R : Result → Shared → Prop} {s : Shared} {el ta ia tb ib : Expr} {sc : Scope} {ps : Pos} {it acc : Value} {en : Env}
end
section
variable {X : Cx}
end
/-! ### which lots can all have places; what is left out by one that cannot grow -/
def HallS (ts : List Span) : Prop := ∀ w : Span, w.1 < w.2 → (ts.countP (inW w) : Int) ≤ w.2 - w.1
def Tight (ts : List Span) (w : Span) : Prop := w.1 < w.2 ∧ (ts.countP (inW w) : Int) = w.2 - w.1
theorem countP_four {α : Type} (f g h k : α → Bool) (le : ∀ x, (if f x = true then 1 else 0) + (if g x = true then 1 else 0) ≤ (if h x = true then 1 else 0) + (if k x = true then (1 : Nat) else 0)) : ∀ l : List α, l.countP f + l.countP g ≤ l.countP h + l.countP k
  | [] => Nat.le_refl _
  | x :: l => by
    have ih := countP_four f g h k le l
    have := le x
    rw [List.countP_cons, List.countP_cons, List.countP_cons, List.countP_cons]
    omega
theorem inW_iff {w s : Span} : inW w s = true ↔ w.1 ≤ s.1 ∧ s.2 ≤ w.2 := by
  unfold inW
  rw [Bool.and_eq_true, decide_eq_true_iff, decide_eq_true_iff]
def joinW (u w : Span) : Span := (if u.1 ≤ w.1 then u.1 else w.1, if u.2 ≤ w.2 then w.2 else u.2)
def meetW (u w : Span) : Span := (if u.1 ≤ w.1 then w.1 else u.1, if u.2 ≤ w.2 then u.2 else w.2)
theorem joinW_facts (u w : Span) : (joinW u w).1 ≤ u.1 ∧ (joinW u w).1 ≤ w.1 ∧ u.2 ≤ (joinW u w).2 ∧ w.2 ≤ (joinW u w).2 ∧ u.1 ≤ (meetW u w).1 ∧ w.1 ≤ (meetW u w).1 ∧ (meetW u w).2 ≤ u.2 ∧ (meetW u w).2 ≤ w.2 ∧ (joinW u w).1 + (meetW u w).1 = u.1 + w.1 ∧ (joinW u w).2 + (meetW u w).2 = u.2 + w.2 ∧ ((meetW u w).1 = u.1 ∨ (meetW u w).1 = w.1) ∧ ((meetW u w).2 = u.2 ∨ (meetW u w).2 = w.2) := by
  show (if u.1 ≤ w.1 then u.1 else w.1) ≤ u.1 ∧ (if u.1 ≤ w.1 then u.1 else w.1) ≤ w.1 ∧ u.2 ≤ (if u.2 ≤ w.2 then w.2 else u.2) ∧ w.2 ≤ (if u.2 ≤ w.2 then w.2 else u.2) ∧ u.1 ≤ (if u.1 ≤ w.1 then w.1 else u.1) ∧ w.1 ≤ (if u.1 ≤ w.1 then w.1 else u.1) ∧ (if u.2 ≤ w.2 then u.2 else w.2) ≤ u.2 ∧ (if u.2 ≤ w.2 then u.2 else w.2) ≤ w.2 ∧ (if u.1 ≤ w.1 then u.1 else w.1) + (if u.1 ≤ w.1 then w.1 else u.1) = u.1 + w.1 ∧ (if u.2 ≤ w.2 then w.2 else u.2) + (if u.2 ≤ w.2 then u.2 else w.2) = u.2 + w.2 ∧ ((if u.1 ≤ w.1 then w.1 else u.1) = u.1 ∨ (if u.1 ≤ w.1 then w.1 else u.1) = w.1) ∧ ((if u.2 ≤ w.2 then u.2 else w.2) = u.2 ∨ (if u.2 ≤ w.2 then u.2 else w.2) = w.2)
  by_cases a : u.1 ≤ w.1 <;> by_cases b : u.2 ≤ w.2
  · rw [if_pos a, if_pos a, if_pos b, if_pos b]
    omega
  · rw [if_pos a, if_pos a, if_neg b, if_neg b]
    omega
  · rw [if_neg a, if_neg a, if_pos b, if_pos b]
    omega
  · rw [if_neg a, if_neg a, if_neg b, if_neg b]
    omega
theorem Tight.join {ts : List Span} (H : HallS ts) {u w : Span} (hu : Tight ts u) (hw : Tight ts w) (o : u.1 < w.2 ∧ w.1 < u.2) : Tight ts (joinW u w) := by
  obtain ⟨f1, f2, f3, f4, f5, f6, f7, f8, f9, f10, f11, f12⟩ := joinW_facts u w
  have u1 := hu.1
  have w1 := hw.1
  have m : (meetW u w).1 < (meetW u w).2 := by omega
  have j : (joinW u w).1 < (joinW u w).2 := by omega
  have h1 := H _ m
  have h2 := H _ j
  have h3 := countP_four (inW u) (inW w) (inW (joinW u w)) (inW (meetW u w)) (fun s => by
    by_cases a : inW u s = true
    · have a' := inW_iff.mp a
      have ja : inW (joinW u w) s = true := inW_iff.mpr ⟨by omega, by omega⟩
      by_cases b : inW w s = true
      · have b' := inW_iff.mp b
        have mb : inW (meetW u w) s = true := inW_iff.mpr ⟨by omega, by omega⟩
        rw [if_pos a, if_pos b, if_pos ja, if_pos mb]
        exact Nat.le_refl _
      · rw [if_pos a, if_neg b, if_pos ja]
        split <;> omega
    · rw [if_neg a]
      by_cases b : inW w s = true
      · have b' := inW_iff.mp b
        have jb : inW (joinW u w) s = true := inW_iff.mpr ⟨by omega, by omega⟩
        rw [if_pos b, if_pos jb]
        split <;> omega
      · rw [if_neg b]
        split <;> split <;> omega) ts
  have h4 := hu.2
  have h5 := hw.2
  exact ⟨j, by omega⟩
/-! ### None not in a list, len of a dict, int of a truth, a triple removed -/
section
variable {c : Vc} {te : TE} {s e : List Nat} {f : Option (List Nat)} {we : VW}
/-! list.remove of a triple -/
end
/-! ### the lot chosen by falling weights is a heaviest -/
/-! ### for x in (new list of lists): if test: ys.append(x) — the items are handed on for good -/
section
variable {c : Vc} {te : TE} {e E fx lo : List Nat} {we : VW} {tt : TT} {wt : VWT}
end
/-! ### a op1 b op2 c op3 d -/
section
variable {X : Cx} {a b c d : Expr} {ta tb tc td : TE} {pos : Pos}
end
section
variable {c : Vc} {ta tb tc td : TE} {sa sb sc sd : List Nat} {fa fb fc fd : Option (List Nat)} {ea eb ec ed : List Nat} {wa wb wc wd : VW}
end
/-! None in -/
/-! ### what is raised, and calls under a clause that keeps it -/
theorem simS_raise {c : Vc} {fx lo E : List Nat} {cls : Value} : SimS c fx lo E (fun _ _ H => c.E cls none H) (fun _ _ => c.xe cls) := ⟨fun _ _ H Fs _ _ S h _ _ _ _ => S.xk cls H Fs (Eff.refl.mono (fun _ z => nomatch z) fun _ z => z) S.tb h⟩
section
variable {K : PySem.W.Frag} {Ps : TL} {N : Nat}
abbrev cB (K : PySem.W.Frag) (Ps : TL) (N : Nat) (E : XK) (xe : Value → Prop) : Vc := ⟨K, Ps, [], N, E, xe, false, 0⟩
/-- the body of a try: it changes no slot -/
structure SimB (K : PySem.W.Frag) (Ps : TL) (N : Nat) (tb : WX → TS) (wb : (Value → Prop) → VWS) : Prop where
  sim : ∀ (W : WX) (xe : Value → Prop) (env : VEnv) (σ : L2.St) (H : Hp) (Fs : Fp) (D : Ends) (R : VEnds), Sr (cB K Ps N (WE W σ) xe) env σ H Fs → wb xe R env →
    (∀ env' H' Fs', Sr (cB K Ps N (WE W σ) xe) env' σ H' Fs' → Eff [] [] Fs H Fs' H' → R.nx env' → D.nx σ H') → tb W D σ H
end
/-! ### dicts from whole numbers to flat values -/
section
variable {α : Type}
variable {f : α → Val} {K : PySem.W.Frag} {H : Hp}
end
section
variable {α : Type} {f : α → Val} {c : Vc} {ta tb t : TE} {sa sb s : List Nat} {fa fb ft : Option (List Nat)} {ea eb e : List Nat} {wa wb w : VW}
end
section
variable {α : Type} {f : α → Val} {c : Vc} {te ti tj : TE} {s e s' e' s'' e'' : List Nat} {ft f' f'' : Option (List Nat)} {we wi wj : VW} {fx lo E : List Nat}
end
/-! ### {x: n for x in xs}, the keys of a list of whole numbers -/
section
variable {c : Vc} {a i : Nat} {n : Int}
end
/-! ### name = {k: v for x in ..}, the name a local -/
section
variable {X : Cx}
end
/-! ### sorted(d) of a dict of whole numbers, up to a thousand keys -/
section
variable {X : Cx}
end
section
variable {c : Vc} {t : TE} {s e : List Nat} {f : Option (List Nat)} {w : VW}
end
/-! ### max of a generator expression -/
section
open GenW
section
variable {Z : Cx} {ga : Addr} {g : Nat} {Q : VK} {A : Around} {Rf : Result → Shared → Prop}
end
section
variable {X : Cx} {c P : Addr} {elt tg iter : Expr} {ifs : List Expr} {scope : Scope} {own : List (Str × Nat)} {gpos p pos : Pos} {k : Nat} {wi : TI} {g : TG} {tt : TT} {te : TE}
end
end
section
end
/-! ### a place and a number or None, as a value -/
/-! ### exceptions as values -/
/-- isinstance(x, c), x an exception that is tracked -/
def rIsX (K : PySem.W.Frag) : List V → Hp → VK → Prop := fun xs H Q => ∃ (a D : Addr) (c : V) (u : Value) (b : Bool), xs = [.ref a, c] ∧ IsEx H (.ref D) a ∧ ExcC K D ∧ ClsV c u ∧ PySem.W.kitOne K (.ref D) u = some b ∧ Q (.bl b) H
theorem call_isX {X : Cx} : CallR X (.builtin "isinstance") (rIsX X.K) := by
  intro pins s σ H xs us Q I r hh
  obtain ⟨a, D, c, u, b, rfl, ⟨φ, hφ, ex⟩, C, kc, e, q⟩ := hh
  obtain ⟨u1, u2, rfl, r1, r2⟩ := vals2 r
  have e2 := kc.eq r2
  subst e2
  cases (show u1 = Value.ref a from r1)
  obtain ⟨p, _, _⟩ := (show ObjOk X.prog X.w H s.heap a (.ext φ) from I.hok a _ hφ)
  obtain ⟨⟨oc, od, oda, osl⟩, fv, h1, ⟨z1, z2⟩, h3⟩ := ex _ p
  dsimp only at z1 z2 h3
  subst z1 z2 h3
  have J : PySem.W.InstAt s.heap a ⟨.ref D, none, .fields fv, osl⟩ D none := ⟨h1, rfl, rfl, trivial⟩
  have kx := PySem.W.handS_kitx_exc (ox := ⟨.ref D, none, .fields fv, osl⟩) (x := a) C.hg C.hk C.hs C.hd C.ha C.hn C.ht C.hm
  exact PySem.W.kia_one kx I.kIn J e (fun z => nomatch z) fun tk => ⟨.bl b, H, I.tok tk, rfl, q⟩
/-- a tracked exception, or any other value -/
def rIsY (K : PySem.W.Frag) : List V → Hp → VK → Prop := fun xs H Q => rIsX K xs H Q ∨ rIsi K xs H Q
theorem call_isY {X : Cx} : CallR X (.builtin "isinstance") (rIsY X.K) := fun pins s σ H xs us Q I r hh => by
  rcases hh with hh | hh
  · exact call_isX pins s σ H xs us Q I r hh
  · exact call_isi pins s σ H xs us Q I r hh
/-- an exception that stands pinned, younger than the entry, may be tracked -/
theorem inv_track {X : Cx} {pins : List (Addr × Obj)} {σ : L2.St} {H : Hp} {s : Shared} {a : Addr} {ob : Obj} {fv : Array Value} {cls : Value} (I : Inv X ((a, ob) :: pins) σ H s) (hz : Zc cls none ob) (hd : ob.data = .fields fv)
    (h0 : ∀ o, X.s_0.heap.get? a ≠ some o) (hp : ∀ p ∈ X.pn ++ pins, p.1 ≠ a) : Inv X pins σ (upd H a (ExP cls a)) s := by
  obtain ⟨g1, g2, g3, g4, g5⟩ := I.pin (a, ob) (List.mem_append_right _ List.mem_cons_self)
  have out : ∀ p ∈ X.pn ++ pins, p ∈ X.pn ++ (a, ob) :: pins := fun p m => by
    rcases List.mem_append.mp m with m | m
    · exact List.mem_append_left _ m
    · exact List.mem_append_right _ (List.mem_cons_of_mem _ m)
  refine { ok := I.ok, os := I.os, bare := I.bare, loc := I.loc, cell := I.cell, len := I.len, base := ?b, free := ?f, freeC := ?c, pin := ?p, hok := ?k }
  case b =>
    refine { keep := I.base.keep, slot := I.base.slot, there := I.base.there, free := fun b o e n x => ?_, tups := fun b xs e => ?_, frzs := fun b o u e => ?_, tbls := fun b ps e => ?_ }
    · have nb : b ≠ a := fun z => h0 o (by rw [← z]; exact e)
      rw [upd_ne nb]
      exact I.base.free b o e n x
    · have h1 := I.base.tups b xs e
      rw [upd_ne (ne_of_none h1 g2)]
      exact h1
    · have h1 := I.base.frzs b o u e
      rw [upd_ne (ne_of_none h1 g2)]
      exact h1
    · obtain ⟨m, h1⟩ := I.base.tbls b ps e
      exact ⟨m, by rw [upd_ne (ne_of_none h1 g2)]; exact h1⟩
  case f =>
    rw [upd_ne (Ne.symm g3)]
    exact I.free
  case c =>
    intro y c e
    have nc : c ≠ a := fun z => by
      obtain ⟨v, o, h1, h2⟩ := I.cell y c e
      rw [z, g1] at h1
      cases h1
      exact g5 _ h2
    rw [upd_ne nc]
    exact I.freeC y c e
  case p =>
    intro p m
    obtain ⟨k1, k2, k3, k4, k5⟩ := I.pin p (out p m)
    exact ⟨k1, by rw [upd_ne (hp p m)]; exact k2, k3, k4, k5⟩
  case k =>
    refine HOk.laidN I.hok (fun _ _ z => z) g2 ⟨⟨ob, fv, g1, hz, hd⟩, ⟨ob, g1⟩, fun h1 h2 x y => ?_⟩
    obtain ⟨o', f', q1, q2⟩ := x
    exact ⟨o', f', y _ q1, q2⟩
/-- the wish of a clause «except c as n: y = n»: slots i of n, j of y -/
def wKept (K : PySem.W.Frag) (c : Value) (i j : Nat) (D : Ends) : WX := fun cls d σ H => d = none ∧ PySem.W.exmOne K cls c = some true ∧ ∀ a, H a = none → D.nx ((σ.set j (some (.ref a))).set i none) (upd H a (ExP cls a))
/-- behind the look at the frame: the handlers -/
def atHandlers (X : Cx) (pins : List (Addr × Obj)) (D : Ends) (hs : List ExceptHandler) : Value → Shared → Prop := fun e t => wpAny (model X.prog X.w) X.A (noteFrame e X.env)
  (fun _ t1 => wpAny (model X.prog X.w) X.A (setFlight e none) (fun _ t2 => wpAny (model X.prog X.w) X.A (handleBy e X.env hs) (SP X pins D) X.xe t2) X.xe t1) X.xe t
section
variable {X : Cx} {x n y : Str} {c : Value} {i j : Nat} {body : List Stmt} {np pos pos' py pv' sp' : Pos} {tb : WX → TS}
theorem kept_catch (hs : X.stack = X.env :: X.outer) (hf : X.env.frame = some X.env.locals) (hN : X.N.Nodup) (hi : X.N[i]? = some n) (hln : X.env.kindOf n = some .local) (hj : X.N[j]? = some y) (hly : X.env.scope.names.lookup y = some .local)
    (nd : (n == ("__debug__" : Str)) = false) (ncd : (n == ("__classdict__" : Str)) = false) (hsw : swapsWith (.Name n pv') (some (.Name y py)) sp'.line X.env = pure false) (hc : Names X x c) (hex : X.ex = [])
    {pins : List (Addr × Obj)} {D : Ends} {u : Value} {s' : Shared} (ok : X.Ok) {pn0 : List (Addr × Obj)} {xe0 : Value → Shared → Prop} (hpn : pn0 = X.pn ++ pins)
    (z : XE (X.tr pn0 xe0) (wKept X.K c i j D) u s') : atHandlers X pins D [.ExceptHandler (some (.Name x np)) (some n) [.Assign [.Name y py] (.Name n pv') sp'] pos'] u s' := by
  subst hpn
  obtain ⟨a, B, sI, pq, τ, H', cls, d, rfl, J0, nb, up, sky, na, os, ag, rfl, te, nx⟩ := z
  have J : Inv X pins τ H' sI := J0.ofTry ok
  have hfr : X.A.frames = some (X.env :: X.outer) := by
    rw [← hs]
    exact ok.frames
  unfold atHandlers
  refine Sky.land Zc.steady hfr hf (by rw [← hs]; exact sky) fun h3 fl3 up3 => ?_
  have J3 : Inv X pins τ H' { s' with heap := h3 } := J.landed nb fl3.1 (up.trans up3) os ag
  obtain ⟨o3, f3, ho3, hz3, hd3⟩ := fl3.there
  have nfr : a ∉ frs (X.env :: X.outer) := fun hm => by
    obtain ⟨_, o', e', hnf⟩ := fl3.2.2.1.mem hm
    rw [ho3] at e'
    cases e'
    exact hnf _ hd3
  have nL : a ≠ X.env.locals := fun e => nfr (List.mem_filterMap.mpr ⟨X.env, List.mem_cons_self, by rw [hf, e]⟩)
  have nF : a ∉ X.fs := fun hm => by
    obtain ⟨e, he, q⟩ := List.mem_filterMap.mp hm
    exact nfr (List.mem_filterMap.mpr ⟨e, List.mem_cons_of_mem _ he, q⟩)
  have newI : ∀ o, sI.heap.get? a ≠ some o := fun o e => by
    have h1 := nb a o e (by rw [show frs (X.tr (X.pn ++ pins) xe0).stack = frs (X.env :: X.outer) from congrArg frs hs]; exact nfr)
    rw [fl3.2.1] at h1
    cases h1
  have new0 : ∀ o, X.s_0.heap.get? a ≠ some o := fun o e => by
    obtain ⟨o', e'⟩ := J.base.there a o e (by rw [hex]; exact List.not_mem_nil)
    exact newI _ e'
  have newP : ∀ p ∈ X.pn ++ pins, p.1 ≠ a := fun p m e => newI _ (by rw [← e]; exact (J.pin p m).1)
  have S3 := J3.suite ho3 hd3 na nL nF
  refine wpAny_handleBy_cons (codeAny_handlers_test ?_) (by intro q; cases q)
  have isT : PySem.W.Looks (model X.prog X.w) h3 (typeOf (.ref a)) cls := fun A Q E t k q => wpAny_typeOf_ref (k _ _ ho3) (by rw [hz3.1]; exact q)
  have isM := PySem.W.exm_one (M := model X.prog X.w) J3.kIn isT te
  have nm : ∀ {Q : Value → Shared → Prop} {E : Value → Shared → Prop}, Q c { s' with heap := h3 } → wpAny (model X.prog X.w) (X.A.mark (some (.ref a))) (eval (.Name x np) X.env) Q E { s' with heap := h3 } := fun q => by
    obtain ⟨k1, k2, k3 | ⟨k3, k4, k5⟩⟩ := hc
    · exact ld_glob (X := X.suite a ((a, o3) :: (X.pn ++ pins))) S3 k1 k3 q k2
    · exact ld_blt (X := X.suite a ((a, o3) :: (X.pn ++ pins))) S3 k1 k3 k4 q k5 k2
  refine nm (isM.here (codeAny_handlers_suite_as ?_))
  refine HandSPX.lands_againZ fl3 fun h4 fl4 up4 => ?_
  have J4 : Inv X pins τ H' { s' with heap := h4 } := J.landed nb fl4.1 ((up.trans up3).trans up4) os ag
  obtain ⟨o4, f4, ho4, hz4, hd4⟩ := fl4.there
  have S4 := J4.suite ho4 hd4 na nL nF
  refine store_ok (X := X.suite a ((a, o4) :: (X.pn ++ pins))) (v := .ref a) S4 hN hi (.inl hln) rfl (fun s5 S5 => ?_) (.inr hln)
  have hlen : i < τ.length := by
    rw [J.len]
    exact (List.getElem?_eq_some_iff.mp hi).1
  have suite : PSs (X.suite a ((a, o4) :: (X.pn ++ pins))) [.Assign [.Name y py] (.Name n pv') sp'] (tAsg (tVar i) (gName j)) :=
    pss_one (ps_set (i := j) hN hj (.inl hly) (pe_var hi (.inl hln) nd ncd) hsw (.inr hly))
  let D5 : Ends := { nx := fun σ6 H6 => σ6 = (τ.set i (some (.ref a))).set j (some (.ref a)) ∧ H6 = H', rt := fun _ _ => False, bk := fun _ _ => False, ct := fun _ _ => False }
  refine wpAny_mono (suite.run [] s5 _ H' D5 S5 ⟨.ref a, by rw [List.getElem?_set_self hlen], rfl, rfl⟩) (fun f s6 got => ?_) (fun _ _ w => False.elim w)
  cases f with
  | next =>
    obtain ⟨σ6, H6, S6, rfl, rfl⟩ := got
    have J6 : Inv X ((a, o4) :: pins) ((τ.set i (some (.ref a))).set j (some (.ref a))) H6 s6 :=
      { ok := ok, os := S6.os, bare := S6.bare, base := S6.base, loc := S6.loc, cell := S6.cell, free := S6.free, freeC := S6.freeC, hok := S6.hok, len := S6.len,
        pin := fun p m => S6.pin p (by
          rw [List.append_nil]
          rcases List.mem_append.mp m with m | m
          · exact List.mem_cons_of_mem _ (List.mem_append_left _ m)
          · rcases List.mem_cons.mp m with m | m
            · rw [m]
              exact List.mem_cons_self
            · exact List.mem_cons_of_mem _ (List.mem_append_right _ m)) }
    refine gone_ok J6 hN hi hln fun s7 J7 => ⟨_, _, inv_track J7 hz4 hd4 new0 newP, ?_⟩
    have hsl : ((τ.set i (some (V.ref a))).set j (some (.ref a))).set i none = (τ.set j (some (.ref a))).set i none := by
      apply List.ext_getElem?
      intro k
      simp only [List.getElem?_set, List.length_set]
      by_cases h1 : i = k <;> by_cases h2 : j = k <;> simp [h1, h2]
    rw [hsl]
    exact nx a na
  | brk =>
    obtain ⟨_, _, _, w⟩ := got
    exact w.elim
  | cont =>
    obtain ⟨_, _, _, w⟩ := got
    exact w.elim
  | ret v =>
    obtain ⟨_, _, _, _, _, w⟩ := got
    exact w.elim
/-- try: body except x as n: y = n -/
theorem ps_try_kept (i j : Nat) (hs : X.stack = X.env :: X.outer) (hf : X.env.frame = some X.env.locals) (hN : X.N.Nodup) (hi : X.N[i]? = some n) (hln : X.env.kindOf n = some .local) (hj : X.N[j]? = some y) (hly : X.env.scope.names.lookup y = some .local) (hc : Names X x c) (hex : X.ex = [])
    (hb : ∀ (W : WX) (pn : List (Addr × Obj)) (xe : Value → Shared → Prop), Takes (X.tr pn xe) W → PassesOwn (model X.prog X.w) X.A X.env xe → PSs (X.tr pn xe) body (tb W))
    (nd : (n == ("__debug__" : Str)) = false := by decide) (ncd : (n == ("__classdict__" : Str)) = false := by decide) (hsw : swapsWith (.Name n pv') (some (.Name y py)) sp'.line X.env = pure false := by rfl) :
    PS X (.Try body [.ExceptHandler (some (.Name x np)) (some n) [.Assign [.Name y py] (.Name n pv') sp'] pos'] [] [] pos) (fun D σ H => tb (wKept X.K c i j D) D σ H) := by
  constructor
  intro pins s σ H D I hh
  have ok := I.ok
  refine wpAny_Try_except ?_
  have run := (hb (wKept X.K c i j D) (X.pn ++ pins) (atHandlers X pins D [.ExceptHandler (some (.Name x np)) (some n) [.Assign [.Name y py] (.Name n pv') sp'] pos']) (fun u s' z => kept_catch hs hf hN hi hln hj hly nd ncd hsw hc hex ok rfl z) PassesOwn.looking).run [] s σ H D (I.toTry _) hh
  refine wpAny_mono run (fun f s1 got => ?_) (fun _ _ w => w)
  cases f with
  | next =>
    obtain ⟨σ1, H1, J1, q⟩ := got
    exact wpAny_execs_nil ⟨σ1, H1, J1.ofTry ok, q⟩
  | brk =>
    obtain ⟨σ1, H1, J1, q⟩ := got
    exact ⟨σ1, H1, J1.ofTry ok, q⟩
  | cont =>
    obtain ⟨σ1, H1, J1, q⟩ := got
    exact ⟨σ1, H1, J1.ofTry ok, q⟩
  | ret v =>
    obtain ⟨v1, σ1, H1, J1, r, q⟩ := got
    exact ⟨v1, σ1, H1, J1.ofTry ok, r, q⟩
end
/-! ### the store behind the slots -/
abbrev GS := Addr → Option Cell
def GS.upd (S : GS) (a : Addr) (c : Cell) : GS := fun b => if b = a then some c else S b
theorem GS.upd_same {S : GS} {a : Addr} {c : Cell} : S.upd a c a = some c := by unfold GS.upd; rw [if_pos rfl]
theorem GS.upd_ne {S : GS} {a b : Addr} {c : Cell} (h : b ≠ a) : S.upd a c b = S b := by unfold GS.upd; rw [if_neg h]
theorem Rp.ghoI {K : PySem.W.Frag} {H : Hp} {F : List Addr} {v : V} {g : GS} (r : Rp K H F v (.gho g)) : v = .non ∧ F.Nodup ∧ (∀ a, a ∈ F ↔ ∃ x, g a = some x) ∧ ∀ a x, g a = some x → RpC K H a x := by
  cases r with
  | gho n f r => exact ⟨rfl, n, f, r⟩
theorem Sr.gh {c : Vc} {env : VEnv} {σ : L2.St} {H : Hp} {Fs : Fp} {g : GS} (S : Sr c env σ H Fs) (e : env[c.N]? = some (some (.gho g))) : (Fs c.N).Nodup ∧ (∀ a, a ∈ Fs c.N ↔ ∃ x, g a = some x) ∧ ∀ a x, g a = some x → RpC c.K H a x := by
  obtain ⟨v, _, r⟩ := S.at_ _ _ e
  exact r.ghoI.2
theorem RpN.look {K : PySem.W.Frag} {H : Hp} {f : Str} {x : Val} : ∀ {us : List (Str × V)} {fs : List (Str × Val)}, RpN K H us fs → fs.lookup f = some x → ∃ v, us.lookup f = some v ∧ Rp K H [] v x
  | _, _, .nil, h => by cases h
  | _, _, .cons (k := k) (v := v) (d := d) r t, h => by
    show ∃ v', (match f == k with | true => some v | false => _) = some v' ∧ _
    have h : (match f == k with | true => some d | false => _) = some x := h
    cases e : (f == k) with
    | true =>
      rw [e] at h
      cases h
      exact ⟨v, rfl, r⟩
    | false =>
      rw [e] at h
      exact t.look h
theorem RpN.no {K : PySem.W.Frag} {H : Hp} {f : Str} : ∀ {us : List (Str × V)} {fs : List (Str × Val)}, RpN K H us fs → fs.lookup f = none → us.lookup f = none
  | _, _, .nil, h => rfl
  | _, _, .cons (k := k) (v := v) (d := d) r t, h => by
    show (match f == k with | true => some v | false => _) = Option.none
    have h : (match f == k with | true => some d | false => _) = none := h
    cases e : (f == k) with
    | true =>
      rw [e] at h
      cases h
    | false =>
      rw [e] at h
      exact t.no h
theorem RpN.len {K : PySem.W.Frag} {H : Hp} : ∀ {us : List (Str × V)} {fs : List (Str × Val)}, RpN K H us fs → us.length = fs.length
  | _, _, .nil => rfl
  | _, _, .cons _ t => congrArg (· + 1) t.len
def putFV (f : Str) (v : Val) : List (Str × Val) → List (Str × Val)
  | [] => [(f, v)]
  | (g, x) :: r => if g = f then (g, v) :: r else (g, x) :: putFV f v r
theorem RpN.put {K : PySem.W.Frag} {H : Hp} {f : Str} {v : V} {d : Val} (r : Rp K H [] v d) : ∀ {us : List (Str × V)} {fs : List (Str × Val)}, RpN K H us fs → RpN K H (putF f v us) (putFV f d fs)
  | _, _, .nil => .cons r .nil
  | _, _, .cons (k := k) r' t => by
    unfold putF putFV
    by_cases e : k = f
    · rw [if_pos e, if_pos e]
      exact .cons r t
    · rw [if_neg e, if_neg e]
      exact .cons r' (t.put r)
/-- the store is given anew -/
theorem Sr.ghset {c : Vc} {env : VEnv} {σ : L2.St} {H : Hp} {Fs : Fp} {g g' : GS} {F' : List Addr} (S : Sr c env σ H Fs) (e : env[c.N]? = some (some (.gho g))) (r : Rp c.K H F' .non (.gho g')) (ho : ∀ j, j ≠ c.N → ∀ a ∈ F', a ∉ Fs j) (xk : Xk c (upF Fs c.N F') H) : Sr c (env.set c.N (some (.gho g'))) σ H (upF Fs c.N F') where
  le := by rw [List.length_set, S.le]
  ls := S.ls
  at_ := fun j d h => by
    rcases set_at h with ⟨rfl, rfl⟩ | ⟨ne, h⟩
    · exact ⟨.non, ⟨fun z => by omega, fun _ => rfl⟩, by rw [upF_self]; exact r⟩
    · obtain ⟨u, h1, h2⟩ := S.at_ j d h
      exact ⟨u, h1, by rw [upF_ne ne]; exact h2⟩
  emp := fun j h => by
    by_cases z : j = c.N
    · subst z
      exact absurd (by rw [List.getElem?_set_self (List.getElem?_eq_some_iff.mp e).1]) (h (.gho g'))
    · rw [upF_ne z]
      refine S.emp j fun d' h' => h d' ?_
      rw [List.getElem?_set_ne (fun y => z y.symm)]
      exact h'
  sep := fun j hj k hk a ha z => by
    by_cases y : j = c.N
    · subst y
      rw [upF_self] at ha
      rw [upF_ne hk] at z
      exact ho k hk a ha z
    · rw [upF_ne y] at ha
      by_cases y2 : k = c.N
      · subst y2
        rw [upF_self] at z
        exact ho j y a z ha
      · rw [upF_ne y2] at z
        exact S.sep j hj k hk a ha z
  nd := fun j hj => by
    by_cases y : j = c.N
    · subst y
      rw [upF_self]
      exact r.ghoI.2.1
    · rw [upF_ne y]
      exact S.nd j hj
  tb := S.tb
  xk := xk
/-- a thing of the store is changed -/
theorem mutG {c : Vc} {env : VEnv} {σ : L2.St} {H : Hp} {Fs : Fp} {g : GS} {a : Addr} {x x' : Cell} {o' : HO} (S : Sr c env σ H Fs) (hm : c.N ∈ c.ms) (e : env[c.N]? = some (some (.gho g))) (hx : g a = some x) (rc : RpC c.K (upd H a o') a x') :
    Ok0 c [c.N] σ H Fs (env.set c.N (some (.gho (g.upd a x')))) (upd H a o') (upF Fs c.N (Fs c.N)) := by
  obtain ⟨nd, mem, cells⟩ := S.gh e
  have inF : a ∈ Fs c.N := (mem a).mpr ⟨x, hx⟩
  refine mutPs (v := .non) S hm e ⟨fun z => by omega, fun _ => rfl⟩ inF (List.Sublist.refl _) (.gho nd (fun b => ?_) fun b y hy => ?_)
  · rw [mem b]
    by_cases z : b = a
    · subst z
      rw [GS.upd_same]
      exact ⟨fun _ => ⟨_, rfl⟩, fun _ => ⟨_, hx⟩⟩
    · rw [GS.upd_ne z]
  · by_cases z : b = a
    · subst z
      rw [GS.upd_same] at hy
      cases hy
      exact rc
    · rw [GS.upd_ne z] at hy
      exact (cells b y hy).kp (L := [a]) (Kp.upd List.mem_cons_self) (fun q hq => by rw [List.mem_singleton.mp hq]; exact S.mutb c.N a inF) fun q => z (List.mem_singleton.mp q)
section
variable {c : Vc} {t tv ta : TE} {s sv e ev : List Nat} {f fv : Option (List Nat)} {w wv : VW} {fx lo E : List Nat}
/-- e.f -/
def wFld (N : Nat) (C : Addr) (n : Str) (w : VW) : VW := fun env Q => w env fun d env' => ∃ (a : Addr) (g : GS) (fs : List (Str × Val)) (x : Val), d = .opq a ∧ env'[N]? = some (some (.gho g)) ∧ g a = some (.ins C fs) ∧ fs.lookup n = some x ∧ Q x env'
theorem simE_fld {C : Addr} {n : Str} (hc : Cls c.K C) (hn : NoAttr c.K C n) (h : SimE c t s f e w) : SimE c (tFld c.K t n) [] (some []) e (wFld c.N C n w) := ⟨fun env σ H Fs Q R S hw k =>
  h.sim env σ H Fs _ _ S hw fun v d F env1 H1 Fs1 o r _ _ ⟨a, g, fs, x, ed, eg, ea, ef, q⟩ => by
    subst ed
    cases r
    obtain ⟨_, _, cells⟩ := o.sr.gh eg
    cases cells a _ ea with
    | ins h1 h2 rn =>
      obtain ⟨v, hv, rv⟩ := rn.look ef
      exact ⟨a, C, _, _, v, rfl, h1, hc, hn, hv, k v x [] env1 H1 Fs1 o rv .nil .nil q⟩⟩
/-- e.f = v -/
def wSetFld (N : Nat) (C : Addr) (n : Str) (wv w : VW) : VWS := fun R env => wv env fun y env1 => w env1 fun d env2 => ∃ (a : Addr) (g : GS) (fs : List (Str × Val)), d = .opq a ∧ env2[N]? = some (some (.gho g)) ∧ g a = some (.ins C fs) ∧ fs.length < 1000 ∧ y.flat = true ∧ R.nx (env2.set N (some (.gho (g.upd a (.ins C (putFV n y fs))))))
theorem simS_fld {C : Addr} {n : Str} (hc : Cls c.K C) (hn : NoAttr c.K C n) (h : SimE c t s f e w) (hv : SimE c tv sv fv ev wv) (hs : disj sv e = true) (hm : c.ms.contains c.N = true) (he : sub (ev ++ e ++ [c.N]) E = true) (hE : sub E c.ms = true) : SimS c fx lo E (sFld c.K t tv n) (wSetFld c.N C n wv w) := ⟨fun env σ H Fs D R S hw nx bk ct rt =>
  hv.sim env σ H Fs _ _ S hw fun y dy Fy env1 H1 Fs1 o1 r1 s1 _ q1 => h.sim env1 σ H1 Fs1 _ _ o1.sr q1 fun v d F env2 H2 Fs2 o2 r2 _ _ ⟨a, g, fs, ed, eg, ea, hl, yf, q⟩ => by
    have hm : c.N ∈ c.ms := by simpa using hm
    obtain ⟨r1', _⟩ := r1.eff o1.sr o2.ef s1 hs
    have z := r1'.flat yf
    subst z
    subst ed
    cases r2
    obtain ⟨_, mem, cells⟩ := o2.sr.gh eg
    have inF := (mem a).mpr ⟨_, ea⟩
    have rc := cells a _ ea
    cases rc with
    | @ins _ dx _ us _ h1 h2 rn =>
      have ml : ∀ b ∈ [a], Mutb H2 b := fun b hb => by
        rw [List.mem_singleton.mp hb]
        exact o2.sr.mutb c.N a inF
      have kp : Kp [a] H2 (upd H2 a (.ins C dx (putF n y us))) := Kp.upd List.mem_cons_self
      have hdx : (upd H2 a (.ins C dx (putF n y us))) dx = some (.own a) := kp.ownd (fun z => (ml _ z).noown h2) h2
      have o3 := mutG o2.sr hm eg ea (x' := .ins C (putFV n dy fs)) (o' := .ins C dx (putF n y us)) (.ins upd_same hdx ((rn.kp kp ml).put (r1'.kp kp ml fun _ z => nomatch z)))
      exact ⟨a, C, dx, us, rfl, h1, hc, hn, by rw [rn.len]; exact hl, nx _ _ _ _ (((o1.trans o2).trans o3).ok2 he hE) q⟩⟩
end
/-! ### frozen: read from now on, never written -/
def tFrz (t : TE) : TE := fun σ H Q => t σ H fun v H' => ∃ d u, v = .ref d ∧ H' d = some u ∧ Mut (some u) ∧ ∀ od, Q v (upd H' d (.frz od u))
theorem pe_frz {X : Cx} {e : Expr} {t : TE} (h : PE X e t) : PE X e (tFrz t) := ⟨fun pins s σ H Q I hw => thn (h.run pins s σ H _ I hw) fun v s1 ⟨x, H1, I1, r, d, u, ex, hd, mu, q⟩ => by
  obtain ⟨od, I2⟩ := I1.lock hd mu
  exact ⟨x, _, I2, r, q od⟩⟩
theorem Rp.asDic {K : PySem.W.Frag} {H : Hp} {F : List Addr} {v : V} {es : List (Key × Val)} (h : Rp K H F v (.dic es)) : ∃ a kvs G, v = .ref a ∧ H a = some (.dK kvs) ∧ RpD K H G kvs es ∧ F = a :: G := by
  cases h with
  | dic h r => exact ⟨_, _, _, rfl, h, r, rfl⟩
section
variable {c : Vc} {t : TE} {e : List Nat} {w : VW}
/-- what is new and flat is frozen -/
theorem frz_ok {σ : L2.St} {H H1 : Hp} {Fs Fs1 : Fp} {env env1 : VEnv} {l : Addr} {o : HO} (S : Sr c env σ H Fs) (ok : Ok0 c e σ H Fs env1 H1 Fs1) (sr : Src c.ms [] [l] Fs1) (new : H l = none) (ml : Mutb H1 l) : Ok0 c e σ H Fs env1 (upd H1 l o) Fs1 := by
  have nf : ∀ j, l ∉ Fs1 j := fun j z => by
    by_cases hj : j ∈ c.ms
    · exact sr l (List.mem_singleton.mpr rfl) j hj (fun h => nomatch h) z
    · exact (S.mutb j l (ok.vl j hj l z)).ex new
  have ef := ok.ef.side (D := l) (o := o) new
  exact ⟨ok.sr.side ml nf (S.xk.eff ef), ef, ok.vl⟩
def wFrzL (w : VW) : VW := fun env Q => w env fun d env' => ∃ xs, d = .lst xs ∧ Val.flatAll xs = true ∧ Q (.frz xs) env'
theorem simE_frzL (h : SimE c t [] (some []) e w) : SimE c (tFrz t) [] (some []) e (wFrzL w) := ⟨fun env σ H Fs Q R S hw k =>
  h.sim env σ H Fs _ _ S hw fun v d F env1 H1 Fs1 o r sr fr ⟨xs, ed, fl, q⟩ => by
    subst ed
    obtain ⟨l, vs, G, rfl, hl, ra, eF⟩ := r.asL
    have z := ra.flat fl
    subst z
    subst eF
    have new : H l = none := ((fr [] rfl).2 l (List.mem_singleton.mpr rfl)).elim id fun ⟨_, h, _⟩ => nomatch h
    have ml : Mutb H1 l := .inl ⟨_, hl⟩
    refine ⟨l, _, rfl, hl, True.intro, fun od => k _ (.frz xs) [] env1 _ Fs1 (frz_ok S o sr new ml) (.frz (.inl ⟨od, upd_same⟩) (ra.kp (L := [l]) (Kp.upd List.mem_cons_self) (fun a ha => by rw [List.mem_singleton.mp ha]; exact ml) fun _ z => nomatch z)) .nil .nil q⟩⟩
def wFrzD (w : VW) : VW := fun env Q => w env fun d env' => ∃ xs, d = .dic xs ∧ Val.flatAllD xs = true ∧ Q (.fdc xs) env'
theorem simE_frzD (h : SimE c t [] (some []) e w) : SimE c (tFrz t) [] (some []) e (wFrzD w) := ⟨fun env σ H Fs Q R S hw k =>
  h.sim env σ H Fs _ _ S hw fun v d F env1 H1 Fs1 o r sr fr ⟨xs, ed, fl, q⟩ => by
    subst ed
    obtain ⟨l, vs, G, rfl, hl, ra, eF⟩ := r.asDic
    have z := ra.flat fl
    subst z
    subst eF
    have new : H l = none := ((fr [] rfl).2 l (List.mem_singleton.mpr rfl)).elim id fun ⟨_, h, _⟩ => nomatch h
    have ml : Mutb H1 l := .inr (.inl ⟨_, hl⟩)
    refine ⟨l, _, rfl, hl, True.intro, fun od => k _ (.fdc xs) [] env1 _ Fs1 (frz_ok S o sr new ml) (.fdc upd_same (ra.kp (L := [l]) (Kp.upd List.mem_cons_self) (fun a ha => by rw [List.mem_singleton.mp ha]; exact ml) fun _ z => nomatch z)) .nil .nil q⟩⟩
end
/-! ### calls that see the store -/
def vspR (K : PySem.W.Frag) (Ps : TL) (own : List Nat) (n : Nat) (S : VSpec) : Sp := fun vs H Q E => ∃ (ds : List Val) (Fs : Fp), Sr ⟨K, Ps, own, n, fun _ _ _ => False, fun _ => False, false, 1⟩ (ds.map some) (vs.map some) H Fs ∧
  S ds (fun ds' r => ∀ H' v F Fs', OutOk K Ps own vs Fs H ds' Fs' H' → Rp K H' F v r → F.Nodup → (∀ a ∈ F, H a = none ∧ ∀ p ∈ own, a ∉ Fs' p) → Q v H') (fun cls => ∀ H', Kp [] H H' → (∀ a, H' a = none → H a = none) → Tb Ps H' → E cls none H')
/-- the own ones told behind, the store last -/
def padG (own : List Nat) (n : Nat) (ds : List Val) : List Val := ((List.range n).map fun p => (ds[own.findIdx fun q => q == p]?).getD .non) ++ [ds.getLast?.getD .non]
def vspG (K : PySem.W.Frag) (Ps : TL) (own : List Nat) (n : Nat) (S : VSpec) : Sp := fun vs H Q E => ∃ (ds : List Val) (Fs : Fp), Sr ⟨K, Ps, own ++ [n], n, fun _ _ _ => False, fun _ => False, false, 1⟩ (ds.map some) (vs.map some) H Fs ∧
  S ds (fun ds' r => ∀ H' v F Fs', OutOk K Ps (own ++ [n]) (vs ++ [.non]) Fs H (padG own n ds') Fs' H' → Rp K H' F v r → F.Nodup → (∀ a ∈ F, H a = none ∧ ∀ p ∈ own ++ [n], a ∉ Fs' p) → Q v H') (fun cls => ∀ H', Kp [] H H' → (∀ a, H' a = none → H a = none) → Tb Ps H' → E cls none H')
theorem vspR_len {K : PySem.W.Frag} {Ps : TL} {own : List Nat} {n : Nat} {S : VSpec} {vs : List V} {H : Hp} {Q : VK} {E : XK} (h : vspR K Ps own n S vs H Q E) : vs.length = n := by
  obtain ⟨ds, Fs, s, _⟩ := h
  have := s.ls
  rw [List.length_map] at this
  exact this
theorem vspG_len {K : PySem.W.Frag} {Ps : TL} {own : List Nat} {n : Nat} {S : VSpec} {vs : List V} {H : Hp} {Q : VK} {E : XK} (h : vspG K Ps own n S vs H Q E) : vs.length = n := by
  obtain ⟨ds, Fs, s, _⟩ := h
  have := s.ls
  rw [List.length_map] at this
  exact this
theorem RpL.snoc {c : Vc} {σ : L2.St} {H : Hp} {Fs : Fp} {a : Arg} {G : List Addr} {v : V} {d : Val} (z : RpL c σ H Fs [a] [G] [v] [d]) : ∀ {as : List Arg} {Gs : List (List Addr)} {vs : List V} {ds : List Val}, RpL c σ H Fs as Gs vs ds → RpL c σ H Fs (as ++ [a]) (Gs ++ [G]) (vs ++ [v]) (ds ++ [d])
  | _, _, _, _, .nil => z
  | _, _, _, _, .consV r s t => .consV r s (RpL.snoc z t)
  | _, _, _, _, .consO m e r t => .consO m e r (RpL.snoc z t)
theorem OutOk.more {K : PySem.W.Frag} {Ps : TL} {own : List Nat} {vs : List V} {Fs : Fp} {H : Hp} {ds' : List Val} {Fs' : Fp} {H' : Hp} (O : OutOk K Ps own vs Fs H ds' Fs' H') (v : V) : OutOk K Ps own (vs ++ [v]) Fs H ds' Fs' H' :=
  ⟨fun p hp => by
    obtain ⟨u, d, h1, h2⟩ := O.rp p hp
    exact ⟨u, d, by rw [List.getElem?_append_left (List.getElem?_eq_some_iff.mp h1).1]; exact h1, h2⟩, O.nd, O.sep, O.ef, O.tb⟩
section
variable {c : Vc} {as : List Arg} {own : List Nat} {sl : Nat → Nat} {ta : TA} {f : Option (List Nat)} {e : List Nat} {wa : VWA} {S : VSpec} {n : Nat}
theorem xk_kp {env : VEnv} {σ : L2.St} {H H' : Hp} {Fs : Fp} (s : Sr c env σ H Fs) (kp : Kp [] H H') (gr : ∀ a, H' a = none → H a = none) (tb : Tb c.Ps H') {cls : Value} (x : c.xe cls) : c.E cls none H' :=
  s.xk cls H' Fs ⟨fun _ h => h, kp.mono (fun _ h => nomatch h), gr, fun j hj nn => absurd hj nn, fun j hj a ha => .inl ha⟩ tb x
/-- a call that reads the store -/
def wCallR (N : Nat) (S : VSpec) (xe : Value → Prop) (B : List Val → VEnv → (VEnv → Prop) → Prop) (wa : VWA) : VW := fun env Q => wa env fun ds env' => ∃ g, env'[N]? = some (some (.gho g)) ∧ S (ds ++ [.gho g]) (fun ds' r => B ds' env' fun env2 => Q r env2) xe
theorem callR_ok {σ : L2.St} {H1 : Hp} {Fs1 : Fp} {env1 : VEnv} {Gs : List (List Addr)} {vs : List V} {ds : List Val} {g : GS} (S1 : Sr c env1 σ H1 Fs1) (r : RpL c σ H1 Fs1 as Gs vs ds) (T : Tags own sl as) (hgo : ∀ p ∈ own, sl p ≠ c.N) (eg : env1[c.N]? = some (some (.gho g))) : RpL c σ H1 Fs1 (as ++ [.v [c.N]]) (Gs ++ [Fs1 c.N]) (vs ++ [.non]) (ds ++ [.gho g]) ∧ Tags own sl (as ++ [.v [c.N]]) := by
  obtain ⟨v, hv, rv⟩ := S1.at_ _ _ eg
  have ev := rv.ghoI.1
  subst ev
  have last : ∀ {p : Nat} {x : Arg}, (as ++ [.v [c.N]])[p]? = some x → as[p]? = some x ∨ x = .v [c.N] := fun {p x} h => by
    by_cases hp : p < as.length
    · rw [List.getElem?_append_left hp] at h
      exact .inl h
    · rw [List.getElem?_append_right (by omega)] at h
      exact .inr (List.mem_singleton.mp (List.mem_of_getElem? h))
  refine ⟨RpL.snoc (.consV rv (fun a ha j hj n z => S1.sep j hj c.N (fun y => n (List.mem_singleton.mpr y.symm)) a z ha) .nil) r, ⟨T.inj, fun p hp => ?_, fun p i h => ?_, fun p hp q s h => ?_⟩⟩
  · have := T.at_ p hp
    rw [List.getElem?_append_left (List.getElem?_eq_some_iff.mp this).1]
    exact this
  · exact (last h).elim (T.only p i) fun z => by cases z
  · rcases last h with z | z
    · exact T.ap p hp q s z
    · cases z
      exact fun y => hgo p hp (List.mem_singleton.mp y)
theorem simE_callR (hM : Mono S) (h : SimA c ta as f e wa) (T : Tags own sl as) (hn : as.length = n) (hgo : ∀ p ∈ own, sl p ≠ c.N) {B : List Val → VEnv → (VEnv → Prop) → Prop}
    (hB : ∀ ds' env R, env.length = c.N + c.g → B ds' env R → ∃ env', R env' ∧ env'.length = c.N + c.g ∧ (∀ p ∈ own, ∀ d, ds'[p]? = some d → env'[sl p]? = some (some d)) ∧ ∀ j, (∀ p ∈ own, sl p ≠ j) → env'[j]? = env[j]?) :
    SimE c (tCall (vspR c.K c.Ps own n S) [] c.E ta) [] (some []) (e ++ own.map sl) (wCallR c.N S c.xe B wa) := ⟨fun env σ H Fs Q R S0 hw k =>
  h.sim env σ H Fs _ _ S0 hw fun vs ds Gs env1 H1 Fs1 o r0 fr ⟨g, eg, q⟩ => by
    rw [List.append_nil]
    obtain ⟨r, T'⟩ := callR_ok o.sr r0 T hgo eg
    refine ⟨ds ++ [.gho g], fun p => (Gs ++ [Fs1 c.N]).getD p [], call_in (g := 1) o.sr r T' (by rw [List.length_append, hn]; rfl) (by rw [r0.len, hn]) (fun _ z => List.mem_singleton.mp z), hM _ _ _ _ _ (fun ds' rv hb H' v F Gs' O rr nd new => ?_) (fun x hx H' kp gr tb => xk_kp o.sr kp gr tb hx) q⟩
    obtain ⟨env', hR, le, e1, e2⟩ := hB ds' env1 _ o.sr.le hb
    have o2 := call_out o.sr r T' (O.more .non) le e1 e2
    refine k v rv F env' H' _ (o.trans o2) rr (fun a ha j hj _ z => ?_) (fun mv e => ⟨nd, fun a ha => .inl (o.ef.gr a (new a ha).1)⟩) hR
    by_cases hx : ∃ p ∈ own, sl p = j
    · obtain ⟨p, hp, rfl⟩ := hx
      rw [slotF_at T.inj hp] at z
      exact (new a ha).2 p hp z
    · rw [slotF_ne fun p hp y => hx ⟨p, hp, y⟩] at z
      exact (o.sr.mutb j a z).ex (new a ha).1⟩
/-- a call that may change the store -/
def slG (n N : Nat) (sl : Nat → Nat) (p : Nat) : Nat := if p = n then N else sl p
theorem callG_ok {σ : L2.St} {H1 : Hp} {Fs1 : Fp} {env1 : VEnv} {Gs : List (List Addr)} {vs : List V} {ds : List Val} {g : GS} (S1 : Sr c env1 σ H1 Fs1) (r : RpL c σ H1 Fs1 as Gs vs ds) (T : Tags own sl as) (hn : as.length = n) (hm : c.N ∈ c.ms) (hgo : ∀ p ∈ own, sl p ≠ c.N) (hgs : ∀ (q : Nat) (s : List Nat), as[q]? = some (.v s) → c.N ∉ s) (eg : env1[c.N]? = some (some (.gho g))) : RpL c σ H1 Fs1 (as ++ [.o c.N]) (Gs ++ [Fs1 c.N]) (vs ++ [.non]) (ds ++ [.gho g]) ∧ Tags (own ++ [n]) (slG n c.N sl) (as ++ [.o c.N]) := by
  obtain ⟨v, hv, rv⟩ := S1.at_ _ _ eg
  have ev := rv.ghoI.1
  subst ev
  have lt : ∀ p ∈ own, p < n := fun p hp => by
    rw [← hn]
    exact (List.getElem?_eq_some_iff.mp (T.at_ p hp)).1
  have slo : ∀ p ∈ own, slG n c.N sl p = sl p := fun p hp => by
    unfold slG
    rw [if_neg (Nat.ne_of_lt (lt p hp))]
  have sln : slG n c.N sl n = c.N := by unfold slG; rw [if_pos rfl]
  have last : ∀ {p : Nat} {x : Arg}, (as ++ [.o c.N])[p]? = some x → as[p]? = some x ∨ (x = .o c.N ∧ p = n) := fun {p x} h => by
    by_cases hp : p < as.length
    · rw [List.getElem?_append_left hp] at h
      exact .inl h
    · rw [List.getElem?_append_right (by omega)] at h
      have h2 := (List.getElem?_eq_some_iff.mp h).1
      have h3 : p - as.length < 1 := h2
      exact .inr ⟨List.mem_singleton.mp (List.mem_of_getElem? h), by omega⟩
  have two : ∀ {p : Nat}, p ∈ own ++ [n] → p ∈ own ∨ p = n := fun {p} hp => (List.mem_append.mp hp).imp id List.mem_singleton.mp
  refine ⟨RpL.snoc (.consO hm hv rv .nil) r, ⟨fun p hp q hq z => ?_, fun p hp => ?_, fun p i h => ?_, fun p hp q s h => ?_⟩⟩
  · rcases two hp with a | rfl <;> rcases two hq with b | rfl
    · rw [slo p a, slo q b] at z
      exact T.inj p a q b z
    · rw [slo p a, sln] at z
      exact absurd z (hgo p a)
    · rw [slo q b, sln] at z
      exact absurd z.symm (hgo q b)
    · rfl
  · rcases two hp with a | rfl
    · have := T.at_ p a
      rw [List.getElem?_append_left (List.getElem?_eq_some_iff.mp this).1, slo p a]
      exact this
    · rw [List.getElem?_append_right (by omega), sln, hn, Nat.sub_self]
      rfl
  · rcases last h with z | ⟨_, z⟩
    · exact List.mem_append_left _ (T.only p i z)
    · exact List.mem_append_right _ (List.mem_singleton.mpr z)
  · rcases last h with z | ⟨z, _⟩
    · rcases two hp with a | rfl
      · rw [slo p a]
        exact T.ap p a q s z
      · rw [sln]
        exact hgs q s z
    · cases z
theorem simE_callG (hM : Mono S) (h : SimA c ta as f e wa) (T : Tags own sl as) (hn : as.length = n) (hm : c.N ∈ c.ms) (hgo : ∀ p ∈ own, sl p ≠ c.N) (hgs : ∀ (q : Nat) (s : List Nat), as[q]? = some (.v s) → c.N ∉ s) {B : List Val → VEnv → (VEnv → Prop) → Prop}
    (hB : ∀ ds' env R, env.length = c.N + c.g → B ds' env R → ∃ env', R env' ∧ env'.length = c.N + c.g ∧ (∀ p ∈ own ++ [n], ∀ d, (padG own n ds')[p]? = some d → env'[slG n c.N sl p]? = some (some d)) ∧ ∀ j, (∀ p ∈ own ++ [n], slG n c.N sl p ≠ j) → env'[j]? = env[j]?) :
    SimE c (tCall (vspG c.K c.Ps own n S) [] c.E ta) [] (some []) (e ++ (own ++ [n]).map (slG n c.N sl)) (wCallR c.N S c.xe B wa) := ⟨fun env σ H Fs Q R S0 hw k =>
  h.sim env σ H Fs _ _ S0 hw fun vs ds Gs env1 H1 Fs1 o r0 fr ⟨g, eg, q⟩ => by
    rw [List.append_nil]
    obtain ⟨r, T'⟩ := callG_ok o.sr r0 T hn hm hgo hgs eg
    refine ⟨ds ++ [.gho g], fun p => (Gs ++ [Fs1 c.N]).getD p [], call_in (g := 1) o.sr r T' (by rw [List.length_append, hn]; rfl) (by rw [r0.len, hn]) (fun _ z => List.mem_singleton.mp z), hM _ _ _ _ _ (fun ds' rv hb H' v F Gs' O rr nd new => ?_) (fun x hx H' kp gr tb => xk_kp o.sr kp gr tb hx) q⟩
    obtain ⟨env', hR, le, e1, e2⟩ := hB ds' env1 _ o.sr.le hb
    have o2 := call_out o.sr r T' O le e1 e2
    refine k v rv F env' H' _ (o.trans o2) rr (fun a ha j hj _ z => ?_) (fun mv e => ⟨nd, fun a ha => .inl (o.ef.gr a (new a ha).1)⟩) hR
    by_cases hx : ∃ p ∈ own ++ [n], slG n c.N sl p = j
    · obtain ⟨p, hp, rfl⟩ := hx
      rw [slotF_at T'.inj hp] at z
      exact (new a ha).2 p hp z
    · rw [slotF_ne fun p hp y => hx ⟨p, hp, y⟩] at z
      exact (o.sr.mutb j a z).ex (new a ha).1⟩
end
/-! ### with own arguments at no place, one place, two places -/
def BG0 (N : Nat) : List Val → VEnv → (VEnv → Prop) → Prop
  | [g], env, R => R (env.set N (some g))
  | _, _, _ => False
/-- at the places own the own slots, at the others none of them -/
def tagO (own L : List Nat) (p : Nat) : Arg → Bool
  | .o _ => own.contains p
  | .v s => L.all fun i => !s.contains i
def tagB (own : List Nat) (L : List Nat) (as : List Arg) : Bool := as.zipIdx.all fun a => tagO own L a.2 a.1
theorem tag_at {own L : List Nat} {as : List Arg} (h : tagB own L as = true) {p : Nat} {a : Arg} (e : as[p]? = some a) : tagO own L p a = true := by
  have hz : as.zipIdx[p]? = some (a, p) := by
    rw [List.getElem?_zipIdx, e]
    simp
  exact List.all_eq_true.mp h (a, p) (List.mem_of_getElem? hz)
theorem tag_only {own L : List Nat} {as : List Arg} (h : tagB own L as = true) {p i : Nat} (e : as[p]? = some (.o i)) : p ∈ own := by simpa [tagO] using tag_at h e
theorem tag_v {own L : List Nat} {as : List Arg} (h : tagB own L as = true) {p : Nat} {s : List Nat} (e : as[p]? = some (.v s)) {i : Nat} (hi : i ∈ L) : i ∉ s := by
  have z : (L.all fun i => !s.contains i) = true := tag_at h e
  have := List.all_eq_true.mp z i hi
  simpa using this
section
variable {c : Vc} {as : List Arg} {ta : TA} {f : Option (List Nat)} {e : List Nat} {wa : VWA} {S : VSpec} {n : Nat}
theorem simE_callR0 (hM : Mono S) (h : SimA c ta as f e wa) (hn : as.length = n) (ho : noO as = true) : SimE c (tCall (vspR c.K c.Ps [] n S) [] c.E ta) [] (some []) (e ++ []) (wCallR c.N S c.xe B0 wa) :=
  simE_callR (own := []) (sl := id) hM h ⟨(fun _ h => nomatch h), (fun _ h => nomatch h), fun p i z => absurd z (noO_at ho), fun _ h => nomatch h⟩ hn (fun _ h => nomatch h) fun ds' env R le hb => ⟨env, hb, le, (fun _ h => nomatch h), fun _ _ => rfl⟩
theorem simE_callG0 (hM : Mono S) (h : SimA c ta as f e wa) (hn : as.length = n) (hb : tagB [] [c.N] as = true) (hm : c.ms.contains c.N = true) (hg : Nat.blt 0 c.g = true := by rfl) (hpn : ∀ g, (padG [] n [g])[n]? = some g := by intros; rfl) : SimE c (tCall (vspG c.K c.Ps [] n S) [] c.E ta) [] (some []) (e ++ [c.N]) (wCallR c.N S c.xe (BG0 c.N) wa) := by
  have hg := lt_of_blt hg
  have hm : c.N ∈ c.ms := by simpa using hm
  have sln : slG n c.N id n = c.N := by unfold slG; rw [if_pos rfl]
  have em : ([] ++ [n]).map (slG n c.N id) = [c.N] := by
    show [slG n c.N id n] = _
    rw [sln]
  rw [← em]
  refine simE_callG (own := []) (sl := id) hM h ⟨(fun _ h => nomatch h), (fun _ h => nomatch h), fun p i z => tag_only hb z, fun _ h => nomatch h⟩ hn hm (fun _ h => nomatch h) (fun q s z => tag_v hb z (List.mem_singleton.mpr rfl)) fun ds' env R le hb => ?_
  unfold BG0 at hb
  split at hb
  case h_2 => exact hb.elim
  rename_i g
  refine ⟨_, hb, by rw [List.length_set, le], fun p hp d' z => ?_, fun j hj => ?_⟩
  · have : p = n := List.mem_singleton.mp hp
    subst this
    rw [hpn] at z
    cases z
    rw [sln, List.getElem?_set_self (by rw [le]; omega)]
  · have := hj n (List.mem_singleton.mpr rfl)
    rw [sln] at this
    rw [List.getElem?_set_ne this]
end
/-! ### defs that see the store -/
section
variable {K : PySem.W.Frag} {Ps : TL} {own own' lo fx : List Nat} {n N : Nat} {S : VSpec}
def env0G (N n : Nat) (ds : List Val) : VEnv := (ds.take n).map some ++ List.replicate (N - n) none ++ (ds.drop n).map some
def mvF (n N : Nat) (Fs : Fp) : Fp := fun j => if j < n then Fs j else if j = N then Fs n else []
theorem mvF_lt {Fs : Fp} {j : Nat} (h : j < n) : mvF n N Fs j = Fs j := by unfold mvF; rw [if_pos h]
theorem mvF_N {Fs : Fp} (h : n ≤ N) : mvF n N Fs N = Fs n := by unfold mvF; rw [if_neg (by omega), if_pos rfl]
theorem mvF_no {Fs : Fp} {j : Nat} (h : n ≤ j) (h2 : j ≠ N) : mvF n N Fs j = [] := by unfold mvF; rw [if_neg (by omega), if_neg h2]
theorem env0G_len {ds : List Val} (ld : ds.length = n + 1) (hn : n ≤ N) : (env0G N n ds).length = N + 1 := by
  unfold env0G
  rw [List.length_append, List.length_append, List.length_map, List.length_map, List.length_take, List.length_drop, List.length_replicate]
  omega
theorem env0G_lt {ds : List Val} (ld : ds.length = n + 1) {j : Nat} (h : j < n) : (env0G N n ds)[j]? = (ds.map some)[j]? := by
  unfold env0G
  rw [List.append_assoc, List.getElem?_append_left (by rw [List.length_map, List.length_take]; omega), List.getElem?_map, List.getElem?_map, List.getElem?_take_of_lt h]
theorem env0G_N {ds : List Val} (ld : ds.length = n + 1) (hn : n ≤ N) : (env0G N n ds)[N]? = (ds.map some)[n]? := by
  unfold env0G
  have e : ((ds.take n).map some ++ List.replicate (N - n) (none : Option Val)).length = N := by
    rw [List.length_append, List.length_map, List.length_take, List.length_replicate]
    omega
  rw [List.getElem?_append_right (by rw [e]; exact Nat.le_refl _), e, Nat.sub_self, List.getElem?_map, List.getElem?_map, List.getElem?_drop]
  rfl
theorem env0G_no {ds : List Val} (ld : ds.length = n + 1) (hn : n ≤ N) {j : Nat} (h : n ≤ j) (h2 : j ≠ N) (d : Val) : (env0G N n ds)[j]? ≠ some (some d) := fun z => by
  have lj : j < N + 1 := by
    have := (List.getElem?_eq_some_iff.mp z).1
    rwa [env0G_len ld hn] at this
  unfold env0G at z
  have e1 : ((ds.take n).map some).length = n := by rw [List.length_map, List.length_take]; omega
  rw [List.append_assoc, List.getElem?_append_right (by rw [e1]; exact h), e1, List.getElem?_append_left (by rw [List.length_replicate]; omega)] at z
  have := List.mem_of_getElem? z
  rw [List.mem_replicate] at this
  cases this.2
theorem sr_bodyG {ds : List Val} {vs : List V} {H : Hp} {Fs : Fp} {Nm : List Str} {E : XK} {xe : Value → Prop} {al : Bool} (s : Sr ⟨K, Ps, own, n, fun _ _ _ => False, fun _ => False, false, 1⟩ (ds.map some) (vs.map some) H Fs) (hN : Nm.length = N) (hn : n ≤ N)
    (hlo : ∀ j ∈ lo, n ≤ j ∧ j < N) (ho : ∀ j ∈ own', (j < n ∧ j ∈ own) ∨ (j = N ∧ n ∈ own)) (xk : Xk ⟨K, Ps, own' ++ lo, N, E, xe, al, 1⟩ (mvF n N Fs) H) :
    Sr ⟨K, Ps, own' ++ lo, N, E, xe, al, 1⟩ (env0G N n ds) (start Nm vs) H (mvF n N Fs) := by
  have ld : ds.length = n + 1 := by have := s.le; rwa [List.length_map] at this
  have lv : vs.length = n := by have := s.ls; rwa [List.length_map] at this
  -- a slot of the body is one of the call's, or empty
  have tr : ∀ j, (mvF n N Fs j = []) ∨ (j < n ∧ mvF n N Fs j = Fs j) ∨ (j = N ∧ mvF n N Fs j = Fs n) := fun j => by
    by_cases h : j < n
    · exact .inr (.inl ⟨h, mvF_lt h⟩)
    · by_cases h2 : j = N
      · exact .inr (.inr ⟨h2, by rw [h2]; exact mvF_N hn⟩)
      · exact .inl (mvF_no (by omega) h2)
  have sepv : ∀ i k, i ∈ own → k ≠ i → ∀ a ∈ Fs i, a ∉ Fs k := fun i k hi hk a ha => s.sep i hi k hk a ha
  have ino : ∀ i ∈ own' ++ lo, mvF n N Fs i = [] ∨ (i < n ∧ i ∈ own ∧ mvF n N Fs i = Fs i) ∨ (i = N ∧ n ∈ own ∧ mvF n N Fs i = Fs n) := fun i hi => by
    rcases List.mem_append.mp hi with z | z
    · rcases ho i z with ⟨a, b⟩ | ⟨a, b⟩
      · exact .inr (.inl ⟨a, b, mvF_lt a⟩)
      · exact .inr (.inr ⟨a, b, by rw [a]; exact mvF_N hn⟩)
    · obtain ⟨a, b⟩ := hlo i z
      exact .inl (mvF_no a (by omega))
  refine ⟨?_, ?_, fun j d h => ?_, fun j h => ?_, fun i hi j hj a ha z => ?_, fun i hi => ?_, s.tb, xk⟩
  · exact env0G_len ld hn
  · show (start Nm vs).length = N
    unfold L2.start
    rw [List.length_append, List.length_map, List.length_replicate]
    omega
  · by_cases hj : j < n
    · rw [env0G_lt ld hj] at h
      obtain ⟨v, h1, h2⟩ := s.at_ j d h
      have h1 := h1.1 hj
      refine ⟨v, .of (Nat.lt_of_lt_of_le hj hn) ?_, by rw [mvF_lt hj]; exact h2⟩
      unfold L2.start
      rw [List.getElem?_append_left (List.getElem?_eq_some_iff.mp h1).1]
      exact h1
    · by_cases hj2 : j = N
      · subst hj2
        rw [env0G_N ld hn] at h
        obtain ⟨v, h1, h2⟩ := s.at_ n d h
        exact ⟨v, ⟨fun z => absurd z (Nat.lt_irrefl _), fun _ => h1.2 (Nat.le_refl _)⟩, by rw [mvF_N hn]; exact h2⟩
      · exact absurd h (env0G_no ld hn (by omega) hj2 d)
  · rcases tr j with z | ⟨hj, z⟩ | ⟨hj, z⟩
    · exact z
    · rw [z]
      exact s.emp j fun d hd => h d (by rw [env0G_lt ld hj]; exact hd)
    · rw [z]
      exact s.emp n fun d hd => h d (by rw [hj, env0G_N ld hn]; exact hd)
  · rcases ino i hi with e | ⟨i1, i2, e⟩ | ⟨i1, i2, e⟩
    · rw [e] at ha
      cases ha
    · rw [e] at ha
      rcases tr j with y | ⟨j1, y⟩ | ⟨j1, y⟩
      · rw [y] at z
        cases z
      · rw [y] at z
        exact sepv i j i2 hj a ha z
      · rw [y] at z
        exact sepv i n i2 (by omega) a ha z
    · rw [e] at ha
      rcases tr j with y | ⟨j1, y⟩ | ⟨j1, y⟩
      · rw [y] at z
        cases z
      · rw [y] at z
        exact sepv n j i2 (by omega) a ha z
      · exact hj (by rw [j1, i1])
  · show (mvF n N Fs i).Nodup
    rcases ino i hi with e | ⟨i1, i2, e⟩ | ⟨i1, i2, e⟩
    · rw [e]
      exact List.nodup_nil
    · rw [e]
      exact s.nd i i2
    · rw [e]
      exact s.nd n i2
/-- the footprints as the caller counts them -/
def bkF (n N : Nat) (Fs : Fp) : Fp := fun p => if p = n then Fs N else Fs p
theorem bkF_n {Fs : Fp} : bkF n N Fs n = Fs N := by unfold bkF; rw [if_pos rfl]
theorem bkF_ne {Fs : Fp} {p : Nat} (h : p ≠ n) : bkF n N Fs p = Fs p := by unfold bkF; rw [if_neg h]
theorem vbodyG {vs vp : List V} {H : Hp} {Q : VK} {E : XK} {Nm : List Str} {t : TS} {w : VWS} {ds : List Val} {Fs : Fp} {Ef : List Nat} {xe : Value → Prop} (PD : List Val → List Val) (U : VEnv → Option (List Val)) (s : Sr ⟨K, Ps, own, n, fun _ _ _ => False, fun _ => False, false, 1⟩ (ds.map some) (vs.map some) H Fs) (hN : Nm.length = N) (hn : n ≤ N)
    (hlo : ∀ j ∈ lo, n ≤ j ∧ j < N) (ho : ∀ j ∈ own', (j < n ∧ j ∈ own) ∨ (j = N ∧ n ∈ own)) (ho2 : ∀ p ∈ own, (p < n ∧ p ∈ own') ∨ (p = n ∧ N ∈ own')) (hfx : ∀ p ∈ own', p < n → p ∈ fx)
    (hvp : ∀ p, p < n → vp[p]? = vs[p]?) (hvn : n ∈ own → vp[n]? = some .non)
    (xk : Xk ⟨K, Ps, own' ++ lo, N, E, xe, false, 1⟩ (mvF n N Fs) H) (sim : SimS ⟨K, Ps, own' ++ lo, N, E, xe, false, 1⟩ fx lo Ef t w)
    (hU : ∀ env ds', U env = some ds' → ∀ p ∈ own, ∃ d, (PD ds')[p]? = some d ∧ env[if p = n then N else p]? = some (some d))
    (hw : w { nx := fun env => ∃ ds', U env = some ds' ∧ ∀ H' v F Fs', OutOk K Ps own vp Fs H (PD ds') Fs' H' → Rp K H' F v .non → F.Nodup → (∀ a ∈ F, H a = none ∧ ∀ p ∈ own, a ∉ Fs' p) → Q v H',
              rt := fun r env => ∃ ds', U env = some ds' ∧ ∀ H' v F Fs', OutOk K Ps own vp Fs H (PD ds') Fs' H' → Rp K H' F v r → F.Nodup → (∀ a ∈ F, H a = none ∧ ∀ p ∈ own, a ∉ Fs' p) → Q v H' } (env0G N n ds)) : t { nx := fun _ H' => Q .non H', rt := Q } (start Nm vs) H := by
  have lv : vs.length = n := by have := s.ls; rwa [List.length_map] at this
  have nlo : ∀ j ∈ lo, mvF n N Fs j = [] := fun j hj => mvF_no (hlo j hj).1 (by have := (hlo j hj).2; omega)
  have own_at : ∀ p ∈ own, ∃ q, q ∈ own' ∧ q = (if p = n then N else p) ∧ mvF n N Fs q = Fs p ∧ ∀ Fs', bkF n N Fs' p = Fs' q := fun p hp => by
    rcases ho2 p hp with ⟨a, b⟩ | ⟨a, b⟩
    · exact ⟨p, b, by rw [if_neg (by omega)], mvF_lt a, fun Fs' => bkF_ne (by omega)⟩
    · exact ⟨N, b, by rw [if_pos a], by rw [a]; exact mvF_N hn, fun Fs' => by rw [a]; exact bkF_n⟩
  have out : ∀ {env' : VEnv} {σ' : L2.St} {H' : Hp} {Fs' : Fp} {ds' : List Val}, Ok2 ⟨K, Ps, own' ++ lo, N, E, xe, false, 1⟩ fx Ef (start Nm vs) H (mvF n N Fs) env' σ' H' Fs' → U env' = some ds' → OutOk K Ps own vp Fs H (PD ds') (bkF n N Fs') H' := fun {env' σ' H' Fs' ds'} o hu => by
    refine ⟨fun p hp => ?_, fun p hp => ?_, fun p hp q hq ne a ha z => ?_, ⟨fun _ z => z, o.ef.kp.mono fun a ha => ?_, o.ef.gr, fun j hj nn => absurd hj nn, fun j hj a ha => ?_⟩, o.sr.tb⟩
    · obtain ⟨d, h1, h2⟩ := hU env' ds' hu p hp
      obtain ⟨v, h3, h4⟩ := o.sr.at_ _ d h2
      rcases ho2 p hp with ⟨a, b⟩ | ⟨a, b⟩
      · rw [if_neg (show p ≠ n by omega)] at h3 h4
        have h3 := h3.1 (Nat.lt_of_lt_of_le a hn)
        refine ⟨v, d, ?_, h1, by rw [bkF_ne (by omega)]; exact h4⟩
        have h5 := o.fx p (hfx p b a)
        rw [h3] at h5
        unfold L2.start at h5
        rw [List.getElem?_append_left (by rw [List.length_map, lv]; exact a), List.getElem?_map] at h5
        obtain ⟨v', h6, h7⟩ := Option.map_eq_some_iff.mp h5.symm
        cases h7
        rw [hvp p a]
        exact h6
      · subst a
        rw [if_pos rfl] at h3 h4
        have ev := h3.2 (Nat.le_refl _)
        subst ev
        exact ⟨.non, d, hvn hp, h1, by rw [bkF_n]; exact h4⟩
    · obtain ⟨q, q1, q2, q3, q4⟩ := own_at p hp
      rw [q4]
      exact o.sr.nd q (List.mem_append_left _ q1)
    · obtain ⟨p', p1, p2, p3, p4⟩ := own_at p hp
      obtain ⟨q', q1, q2, q3, q4⟩ := own_at q hq
      rw [p4] at ha
      rw [q4] at z
      refine o.sr.sep p' (List.mem_append_left _ p1) q' (fun y => ?_) a ha z
      rw [p2, q2] at y
      rcases ho2 p hp with ⟨u1, _⟩ | ⟨u1, _⟩ <;> rcases ho2 q hq with ⟨u2, _⟩ | ⟨u2, _⟩
      · rw [if_neg (by omega), if_neg (by omega)] at y
        exact ne y
      · rw [if_pos u2, if_neg (by omega)] at y
        omega
      · rw [if_neg (by omega), if_pos u1] at y
        omega
      · exact ne (by rw [u1, u2])
    · obtain ⟨j, hj, z⟩ := List.mem_flatMap.mp ha
      rcases List.mem_append.mp (o.ef.sub j hj) with y | y
      · rcases ho j y with ⟨u1, u2⟩ | ⟨u1, u2⟩
        · rw [mvF_lt u1] at z
          exact List.mem_flatMap.mpr ⟨j, u2, z⟩
        · rw [u1, mvF_N hn] at z
          exact List.mem_flatMap.mpr ⟨n, u2, z⟩
      · rw [nlo j y] at z
        cases z
    · obtain ⟨q, q1, q2, q3, q4⟩ := own_at j hj
      rw [q4] at ha
      rw [← q3]
      exact o.ef.foot q (List.mem_append_left _ q1) a ha
  refine sim.sim (env0G N n ds) (start Nm vs) H (mvF n N Fs) _ _ (sr_bodyG s hN hn hlo ho xk) hw (fun env' σ' H' Fs' o ⟨ds', hu, q⟩ => ?_) (fun _ _ _ _ _ h => h.elim) (fun _ _ _ _ _ h => h.elim) (fun v d F env' σ' H' Fs' o r ⟨ds', hu, q⟩ => ?_)
  · exact q H' .non [] _ (out o hu) .non List.nodup_nil fun _ h => nomatch h
  · obtain ⟨nd, new⟩ := r.fs rfl lo rfl
    refine q H' v F _ (out o hu) r.rp nd fun a ha => ⟨?_, fun p hp z => ?_⟩
    · rcases new a ha with z | ⟨j, hj, z⟩
      · exact z
      · rcases o.ef.foot j (List.mem_append_right _ hj) a z with y | y
        · rw [nlo j hj] at y
          cases y
        · exact y
    · obtain ⟨q', q1, q2, q3, q4⟩ := own_at p hp
      rw [q4] at z
      refine r.sc a ha q' (List.mem_append_left _ q1) (fun y => ?_) z
      obtain ⟨u1, u2⟩ := hlo q' y
      rcases ho q' q1 with ⟨w1, _⟩ | ⟨w1, _⟩ <;> omega
end
/-! ### defs that see the store: what is asked of them -/
section
variable {K : PySem.W.Frag} {Ps : TL} {lo : List Nat} {n N : Nat} {S : VSpec}
def loB (n N : Nat) (lo : List Nat) : Bool := lo.all fun j => decide (n ≤ j) && decide (j < N)
theorem lo_of (h : loB n N lo = true) : ∀ j ∈ lo, n ≤ j ∧ j < N := fun j hj => by simpa using List.all_eq_true.mp h j hj
/-- one that reads the store and changes nothing of the caller's; it may raise -/
theorem vfnR {vs : List V} {H : Hp} {Q : VK} {E : XK} {Nm : List Str} {t : TS} {w : (Value → Prop) → VWS} {Ef : List Nat} (h : vspR K Ps [] n S vs H Q E) (hN : Nm.length = N) (hn : n ≤ N) (hlo : loB n N lo = true)
    (sim : ∀ xe, SimS ⟨K, Ps, [] ++ lo, N, E, xe, false, 1⟩ [] lo Ef t (w xe))
    (hw : ∀ ds Qc Xc, S ds Qc Xc → w Xc (endsV U0 Qc) (env0G N n ds)) : t { nx := fun _ H' => Q .non H', rt := Q } (L2.start Nm vs) H := by
  obtain ⟨ds, Fs, s, hS⟩ := h
  have hlo := lo_of hlo
  refine vbodyG (own := []) (own' := []) (lo := lo) (fx := []) (vp := vs) (E := E) (xe := fun cls => ∀ H', Kp [] H H' → (∀ a, H' a = none → H a = none) → Tb Ps H' → E cls none H') id U0 s hN hn hlo (fun _ h => nomatch h) (fun _ h => nomatch h) (fun _ h => nomatch h) (fun _ _ => rfl) (fun h => nomatch h)
    (fun cls H' Fs' ef tb hx => hx H' (ef.kp.mono fun a ha => ?_) ef.gr tb)
    (w := fun R env => ∃ R', w (fun cls => ∀ H', Kp [] H H' → (∀ a, H' a = none → H a = none) → Tb Ps H' → E cls none H') R' env ∧ (∀ e, R'.nx e → R.nx e) ∧ (∀ r e, R'.rt r e → R.rt r e) ∧ (∀ e, R'.bk e → False) ∧ ∀ e, R'.ct e → False) (Ef := Ef) ⟨fun env σ H Fs D R S0 hw n b ct rt => ?_⟩ (fun _ _ _ _ h => nomatch h) ?_
  · obtain ⟨j, hj, z⟩ := List.mem_flatMap.mp ha
    have hj : j ∈ lo := hj
    rw [mvF_no (hlo j hj).1 (by have := (hlo j hj).2; omega)] at z
    cases z
  · obtain ⟨R', hw, h1, h2, h3, h4⟩ := hw
    exact (sim _).mapE hw S0 h1 h2 h3 h4 n rt
  · exact ⟨_, hw ds _ _ hS, fun e h => (endsV_nx h).imp fun ds z => ⟨z.1, fun H' v F Fs' o r nd ds => z.2 H' v F Fs' o r nd ds⟩, fun r e h => (endsV_rt h).imp fun ds z => ⟨z.1, fun H' v F Fs' o r nd ds => z.2 H' v F Fs' o r nd ds⟩, fun _ h => h, fun _ h => h⟩
/-- what is told behind: the own ones, the store -/
def UG0 (N : Nat) (env : VEnv) : Option (List Val) := match env[N]? with
  | some (some g) => some [g]
  | _ => none
theorem padG_n {own : List Nat} {ds : List Val} {d : Val} (h : ds.getLast? = some d) : (padG own n ds)[n]? = some d := by
  unfold padG
  rw [List.getElem?_append_right (by rw [List.length_map, List.length_range]; exact Nat.le_refl _), List.length_map, List.length_range, Nat.sub_self, h]
  rfl
/-- one that changes own arguments and the store, and raises nothing -/
theorem vfnG {own : List Nat} {vs : List V} {H : Hp} {Q : VK} {E : XK} {Nm : List Str} {t : TS} {w : VWS} {Ef : List Nat} (U : VEnv → Option (List Val)) (h : vspG K Ps own n S vs H Q E) (hN : Nm.length = N) (hn : n ≤ N) (hlo : loB n N lo = true) (hon : (own.all fun j => decide (j < n)) = true)
    (hU : ∀ env ds', U env = some ds' → ∀ p ∈ own ++ [n], ∃ d, (padG own n ds')[p]? = some d ∧ env[if p = n then N else p]? = some (some d))
    (sim : SimS ⟨K, Ps, own ++ [N] ++ lo, N, E0, fun _ => False, false, 1⟩ own lo Ef t w)
    (hw : ∀ ds Qc Xc, S ds Qc Xc → w (endsV U Qc) (env0G N n ds)) : t { nx := fun _ H' => Q .non H', rt := Q } (L2.start Nm vs) H := by
  obtain ⟨ds, Fs, s, hS⟩ := h
  have hlo := lo_of hlo
  have hon' : ∀ j ∈ own, j < n := fun j hj => by simpa using List.all_eq_true.mp hon j hj
  have lv : vs.length = n := by have := s.ls; rwa [List.length_map] at this
  refine vbodyG (own := own ++ [n]) (own' := own ++ [N]) (lo := lo) (fx := own) (vp := vs ++ [.non]) (E := E0) (xe := fun _ => False) (padG own n) U s hN hn hlo (fun j hj => ?_) (fun p hp => ?_) (fun p hp hpn => ?_) (fun p hp => List.getElem?_append_left (by omega)) (fun _ => ?_)
    (fun cls H' Fs' ef tb hx => hx.elim)
    (w := fun R env => ∃ R', w R' env ∧ (∀ e, R'.nx e → R.nx e) ∧ (∀ r e, R'.rt r e → R.rt r e) ∧ (∀ e, R'.bk e → False) ∧ ∀ e, R'.ct e → False) (Ef := Ef) ⟨fun env σ H Fs D R S0 hw n b ct rt => ?_⟩ hU ?_
  · rcases List.mem_append.mp hj with z | z
    · exact .inl ⟨hon' j z, List.mem_append_left _ z⟩
    · exact .inr ⟨List.mem_singleton.mp z, by simp⟩
  · rcases List.mem_append.mp hp with z | z
    · exact .inl ⟨hon' p z, List.mem_append_left _ z⟩
    · exact .inr ⟨List.mem_singleton.mp z, by simp⟩
  · rcases List.mem_append.mp hp with z | z
    · exact z
    · have := List.mem_singleton.mp z
      omega
  · rw [List.getElem?_append_right (by omega), lv, Nat.sub_self]
    rfl
  · obtain ⟨R', hw, h1, h2, h3, h4⟩ := hw
    exact sim.mapE hw S0 h1 h2 h3 h4 n rt
  · exact ⟨_, hw ds _ _ hS, fun e h => (endsV_nx h).imp fun ds z => ⟨z.1, fun H' v F Fs' o r nd ds => z.2 H' v F Fs' o r nd ds⟩, fun r e h => (endsV_rt h).imp fun ds z => ⟨z.1, fun H' v F Fs' o r nd ds => z.2 H' v F Fs' o r nd ds⟩, fun _ h => h, fun _ h => h⟩
theorem hUG0 : ∀ env ds', UG0 N env = some ds' → ∀ p ∈ ([] : List Nat) ++ [n], ∃ d, (padG [] n ds')[p]? = some d ∧ env[if p = n then N else p]? = some (some d) := fun env ds' h p hp => by
  have e : p = n := List.mem_singleton.mp hp
  subst e
  unfold UG0 at h
  split at h
  · rename_i g hg
    cases h
    exact ⟨g, padG_n rfl, by rw [if_pos rfl]; exact hg⟩
  · cases h
/-! ### one that looks first, may raise while it looks, and then changes the store -/
structure SimP (K : PySem.W.Frag) (Ps : TL) (N : Nat) (E : XK) (xe : Value → Prop) (t : TS) (w : VWS) : Prop where
  sim : ∀ (env : VEnv) (σ : L2.St) (H : Hp) (Fs : Fp) (D : Ends) (R : VEnds), Sr ⟨K, Ps, [], N, E, xe, false, 1⟩ env σ H Fs → w R env →
    (∀ env' σ' H' Fs' g, Sr ⟨K, Ps, [N], N, E0, fun _ => False, false, 1⟩ env' σ' H' Fs' → env[N]? = some (some (.gho g)) → Kp (Fs N) H H' → (∀ a, H' a = none → H a = none) → (∀ a ∈ Fs' N, a ∈ Fs N ∨ H a = none) → R.nx env' → D.nx σ' H') → t D σ H
variable {E : XK} {xe : Value → Prop} {s t : TS} {w w' : VWS}
def wLook (w w' : VWS) : VWS := fun R env => w { nx := fun env1 => env1[env.length - 1]? = env[env.length - 1]? ∧ w' R env1, rt := fun _ _ => False } env
end
/-! ### methods, new instances -/
section
variable {c : Vc} {t0 : TE} {ta : TA} {as : List Arg} {s0 e0 e : List Nat} {f0 f : Option (List Nat)} {w0 : VW} {wa : VWA} {S : VSpec} {n : Nat}
/-- the receiver, then the arguments -/
def taR (C : Addr) (m : Str) (t0 : TE) (ta : TA) : TA := fun σ H Q => t0 σ H fun x H1 => ∃ a dx fs, x = .ref a ∧ H1 a = some (.ins C dx fs) ∧ fs.lookup m = none ∧ ta σ H1 fun vs H2 => Q (x :: vs) H2
def wRecv (N : Nat) (C : Addr) (m : Str) (w0 : VW) (wa : VWA) : VWA := fun env Q => w0 env fun d env1 => ∃ (a : Addr) (g : GS) (fs : List (Str × Val)), d = .opq a ∧ env1[N]? = some (some (.gho g)) ∧ g a = some (.ins C fs) ∧ fs.lookup m = none ∧ wa env1 fun ds env2 => Q (.opq a :: ds) env2
theorem simA_recv {C : Addr} {m : Str} (h0 : SimE c t0 s0 f0 e0 w0) (h : SimA c ta as f e wa) : SimA c (taR C m t0 ta) (.v [] :: as) none (e0 ++ e) (wRecv c.N C m w0 wa) := ⟨fun env σ H Fs Q R S hw k =>
  h0.sim env σ H Fs _ _ S hw fun v d F env1 H1 Fs1 o r _ _ ⟨a, g, fs, ed, eg, ea, en, q⟩ => by
    subst ed
    cases r
    obtain ⟨_, _, cells⟩ := o.sr.gh eg
    cases cells a _ ea with
    | ins h1 h2 rn =>
      exact ⟨a, _, _, rfl, h1, rn.no en, h.sim env1 σ H1 Fs1 _ _ o.sr q fun vs ds Gs env2 H2 Fs2 o2 r2 _ q2 => k _ _ ([] :: Gs) env2 H2 Fs2 (o.trans o2) (.consV (.opq a) .nil r2) .no q2⟩⟩
theorem simE_methR {C : Addr} {m : Str} (hM : Mono S) (h0 : SimE c t0 s0 f0 e0 w0) (h : SimA c ta as f e wa) (hn : (Arg.v [] :: as).length = n) (ho : noO (.v [] :: as) = true) : SimE c (tMeth C m (vspR c.K c.Ps [] n S) [] c.E t0 ta) [] (some []) (e0 ++ e ++ []) (wCallR c.N S c.xe B0 (wRecv c.N C m w0 wa)) :=
  (simE_callR0 hM (simA_recv (C := C) (m := m) h0 h) hn ho)
/-- C() -/
def wMake (N : Nat) (C : Addr) (S : VSpec) : VW := fun env Q => ∃ g, env[N]? = some (some (.gho g)) ∧ ∀ a, g a = none → S [.opq a, .gho (GS.upd g a (.ins C []))] (fun ds' r => r = .non ∧ BG0 N ds' env fun env2 => Q (.opq a) env2) (fun _ => False)
theorem simE_make0 {C : Addr} {E' : XK} (hM : Mono S) (hm : c.ms.contains c.N = true) (hg : Nat.blt 0 c.g = true := by rfl) : SimE c (tMake C (vspG c.K c.Ps [] 1 S) [] E' tNil) [] (some []) [c.N] (wMake c.N C S) := ⟨fun env σ H Fs Q R S0 ⟨g, eg, hw⟩ k => by
  have hg := lt_of_blt hg
  have hm : c.N ∈ c.ms := by simpa using hm
  show ∀ x dx, H x = none → H dx = none → dx ≠ x → vspG c.K c.Ps [] 1 S (.ref x :: ([] ++ [])) (upd (upd H dx (.own x)) x (.ins C dx [])) (fun v H2 => v = .non ∧ Q (.ref x) H2) E'
  intro x dx nx ndx ne
  obtain ⟨nd, mem, cells⟩ := S0.gh eg
  have s1 : Same H (upd H dx (.own x)) := same_upd ndx
  have nx1 : (upd H dx (.own x)) x = none := by
    rw [upd_ne (Ne.symm ne)]
    exact nx
  obtain ⟨gx, s2⟩ := upd_at (o := .ins C dx []) nx1
  obtain ⟨H2, hH2⟩ : ∃ H2, H2 = upd (upd H dx (.own x)) x (.ins C dx []) := ⟨_, rfl⟩
  rw [← hH2] at gx s2 ⊢
  have s3 : Same H H2 := s1.trans s2
  have gxn : g x = none := by
    cases e : g x with
    | none => rfl
    | some y => exact absurd nx (S0.mutb c.N x ((mem x).mpr ⟨y, e⟩)).ex
  have nin : x ∉ Fs c.N := fun z => (S0.mutb c.N x z).ex nx
  have hdx : H2 dx = some (.own x) := by
    rw [hH2, upd_ne ne]
    exact L2.upd_same
  have S1 := S0.same s3
  have rp : Rp c.K H2 (x :: Fs c.N) .non (.gho (GS.upd g x (.ins C []))) := by
    refine .gho (List.nodup_cons.mpr ⟨nin, nd⟩) (fun b => ?_) fun b y hy => ?_
    · by_cases z : b = x
      · subst z
        rw [GS.upd_same]
        exact ⟨fun _ => ⟨_, rfl⟩, fun _ => List.mem_cons_self⟩
      · rw [GS.upd_ne z, ← mem b, List.mem_cons]
        exact ⟨fun h => h.elim (fun y => absurd y z) id, .inr⟩
    · by_cases z : b = x
      · subst z
        rw [GS.upd_same] at hy
        cases hy
        exact .ins gx hdx .nil
      · rw [GS.upd_ne z] at hy
        exact (cells b y hy).kp (L := []) (.of s3) (fun _ h => nomatch h) fun h => nomatch h
  have ef : Eff c.ms [c.N] Fs H (upF Fs c.N (x :: Fs c.N)) H2 := by
    refine ⟨fun j hj => by rw [List.mem_singleton.mp hj]; exact hm, (Kp.of s3).mono fun _ h => h, fun a ha => s3.free ha, fun j hj nn => upF_ne fun z => nn (List.mem_singleton.mpr z), fun j hj a ha => ?_⟩
    by_cases z : j = c.N
    · subst z
      rw [upF_self] at ha
      rcases List.mem_cons.mp ha with y | y
      · rw [y]
        exact .inr nx
      · exact .inl y
    · rw [upF_ne z] at ha
      exact .inl ha
  have T := S1.ghset eg rp (fun j hj a ha z => by
    rcases List.mem_cons.mp ha with y | y
    · rw [y] at z
      exact (S0.mutb j x z).ex nx
    · exact S0.sep c.N hm j hj a y z) (S0.xk.eff ef)
  have eg2 : (env.set c.N (some (.gho (GS.upd g x (.ins C [])))))[c.N]? = some (some (.gho (GS.upd g x (.ins C [])))) := List.getElem?_set_self (List.getElem?_eq_some_iff.mp eg).1
  obtain ⟨r, T'⟩ := callG_ok (as := [.v []]) (own := []) (sl := id) (n := 1) T (.consV (Rp.opq x) Src.nil .nil : RpL c σ H2 (upF Fs c.N (x :: Fs c.N)) [.v []] [[]] [.ref x] [.opq x]) ⟨(fun _ h => nomatch h), (fun _ h => nomatch h), (fun p i z => by
    rcases p with _ | p
    · cases z
    · simp at z), fun _ h => nomatch h⟩ rfl hm (fun _ h => nomatch h) (fun q s z => by
    rcases q with _ | q
    · cases z
      exact fun h => nomatch h
    · simp at z) eg2
  refine ⟨[.opq x] ++ [.gho (GS.upd g x (.ins C []))], fun p => ([[]] ++ [upF Fs c.N (x :: Fs c.N) c.N]).getD p [], call_in (n := 1) (g := 1) (vs := [.ref x]) (pad := [.non]) T r T' rfl rfl (fun _ z => List.mem_singleton.mp z), hM _ _ _ _ _ (fun ds' rv ⟨er, hb⟩ H' v F Gs' O rr nd new => ?_) (fun y hy => hy.elim) (hw x gxn)⟩
  subst er
  refine ⟨rr.non_eq, ?_⟩
  rcases ds' with _ | ⟨g1, _ | ⟨y, z⟩⟩
  · exact hb.elim
  case cons.cons => exact hb.elim
  have sln : slG 1 c.N id 1 = c.N := rfl
  have le1 : (env.set c.N (some (.gho (GS.upd g x (.ins C []))))).length = c.N + c.g := T.le
  have o2 := call_out (env' := (env.set c.N (some (.gho (GS.upd g x (.ins C []))))).set c.N (some g1)) T r T' O (by rw [List.length_set]; exact le1) (fun p hp d z => by
    have e : p = 1 := List.mem_singleton.mp hp
    subst e
    have z : some g1 = some d := z
    cases z
    rw [sln, List.getElem?_set_self (by rw [le1]; omega)]) (fun j hj => by
    have := hj 1 (List.mem_singleton.mpr rfl)
    rw [sln] at this
    rw [List.getElem?_set_ne this])
  have em : ([] ++ [1]).map (slG 1 c.N id) = [c.N] := rfl
  rw [em] at o2
  rw [List.set_set] at o2
  have o1 : Ok0 c [c.N] σ H Fs (env.set c.N (some (.gho (GS.upd g x (.ins C []))))) H2 (upF Fs c.N (x :: Fs c.N)) := ⟨T, ef, fun j hj a ha => by
    rw [upF_ne fun z => hj (by rw [z]; exact hm)] at ha
    exact ha⟩
  exact k _ _ [] _ H' _ ((o1.trans o2).weak (fun j hj => by simpa using hj) (fun j hj => by rw [List.mem_singleton.mp hj]; exact hm)) (.opq x) .nil .nil hb⟩
end
/-! ### {**a, k: v}, {**a, **b} -/
section
variable {prog : Program} {w : World} {Kt : Type} [DecidableEq Kt] {knd : KeyKind prog w Kt} {A : Around} {E : Value → Shared → Prop} {s : Shared}
end
section
variable {X : Cx}
end
/-! ### {**a, k: v} over values -/
def kVV : Key → Val
  | .inl i => .int i
  | .inr s => .str s
theorem kVV_of {K : PySem.W.Frag} {H : Hp} {F : List Addr} {v : V} {k : Key} (r : Rp K H F v (kVV k)) : v = kV k := by
  cases k with
  | inl i =>
    cases r
    rfl
  | inr s =>
    cases r
    rfl
def putKV (es : List (Key × Val)) (k : Key) (d : Val) : List (Key × Val) := if (es.any fun p => decide (p.1 = k)) = true then es.map fun p => if p.1 = k then (p.1, d) else p else es ++ [(k, d)]
theorem RpD.keys {K : PySem.W.Frag} {H : Hp} : ∀ {F : List Addr} {us : List (Key × V)} {es : List (Key × Val)}, RpD K H F us es → us.map (·.1) = es.map (·.1)
  | _, _, _, .nil => rfl
  | _, _, _, .cons _ t => congrArg (_ :: ·) t.keys
theorem RpD.len {K : PySem.W.Frag} {H : Hp} {F : List Addr} {us : List (Key × V)} {es : List (Key × Val)} (r : RpD K H F us es) : us.length = es.length := by
  have := congrArg List.length r.keys
  rwa [List.length_map, List.length_map] at this
theorem RpD.snoc {K : PySem.W.Frag} {H : Hp} {k : Key} {v : V} {d : Val} (r : Rp K H [] v d) : ∀ {F : List Addr} {us : List (Key × V)} {es : List (Key × Val)}, RpD K H F us es → RpD K H F (us ++ [(k, v)]) (es ++ [(k, d)])
  | _, _, _, .nil => RpD.cons (F := []) (G := []) r .nil
  | _, _, _, .cons a t => .cons a (RpD.snoc r t)
theorem RpD.over {K : PySem.W.Frag} {H : Hp} {k : Key} {v : V} {d : Val} (r : Rp K H [] v d) : ∀ {F : List Addr} {us : List (Key × V)} {es : List (Key × Val)}, RpD K H F us es → F = [] → RpD K H [] (us.map fun p => if p.1 = k then (p.1, v) else p) (es.map fun p => if p.1 = k then (p.1, d) else p)
  | _, _, _, .nil, _ => .nil
  | _, _, _, .cons (F := F1) (G := G1) (k := k0) a t, e => by
    obtain ⟨e1, e2⟩ := List.append_eq_nil_iff.mp e
    subst e1 e2
    have ih := RpD.over (k := k) r t rfl
    rw [List.map_cons, List.map_cons]
    by_cases z : k0 = k
    · rw [if_pos z, if_pos z]
      exact RpD.cons (F := []) (G := []) r ih
    · rw [if_neg z, if_neg z]
      exact RpD.cons (F := []) (G := []) a ih
theorem RpD.put {K : PySem.W.Frag} {H : Hp} {k : Key} {v : V} {d : Val} (r : Rp K H [] v d) {us : List (Key × V)} {es : List (Key × Val)} (h : RpD K H [] us es) : RpD K H [] (putK us k v) (putKV es k d) := by
  have ea : ∀ {F : List Addr} {us : List (Key × V)} {es : List (Key × Val)}, RpD K H F us es → (us.any fun p => decide (p.1 = k)) = es.any fun p => decide (p.1 = k) := fun {F us es} h => by
    have := h.keys
    have e1 : (us.any fun p => decide (p.1 = k)) = (us.map (·.1)).any fun x => decide (x = k) := by rw [List.any_map]; rfl
    have e2 : (es.any fun p => decide (p.1 = k)) = (es.map (·.1)).any fun x => decide (x = k) := by rw [List.any_map]; rfl
    rw [e1, e2, this]
  unfold putK putKV
  rw [ea h]
  split
  · exact h.over r rfl
  · exact h.snoc r
section
variable {c : Vc} {t0 t1 tk tv : TE} {s0 s1 sk sv : List Nat} {f0 f1 fk fv : Option (List Nat)} {w0 w1 wk wv : VW}
theorem kp0 {ms : List Nat} {Fs Fs' : Fp} {H H' : Hp} (h : Eff ms [] Fs H Fs' H') : Kp [] H H' := by
  have := h.kp
  rwa [List.flatMap_nil] at this
theorem RpD.kps {K : PySem.W.Frag} {H H' : Hp} {us : List (Key × V)} {es : List (Key × Val)} (h : RpD K H [] us es) (k : Kp [] H H') : RpD K H' [] us es := h.kp k (fun _ z => nomatch z) fun _ z => nomatch z
end
/-! ### dicts with texts or whole numbers as keys, read -/
def getKV (es : List (Key × Val)) (k : Key) : Option Val := (es.find? fun p => decide (p.1 = k)).map (·.2)
theorem RpD.look {K : PySem.W.Frag} {H : Hp} {k : Key} : ∀ {F : List Addr} {us : List (Key × V)} {es : List (Key × Val)}, RpD K H F us es → (∀ d, getKV es k = some d → ∃ v G, valV us k = some v ∧ Rp K H G v d) ∧ (getKV es k = none → valV us k = none)
  | _, _, _, .nil => ⟨(fun d h => by cases h), fun _ => rfl⟩
  | _, _, _, .cons (F := F1) (k := k0) (v := v0) (d := d0) (kvs := us) (es := es) a t => by
    obtain ⟨ih1, ih2⟩ := t.look (k := k)
    by_cases e : k0 = k
    · have e1 : getKV ((k0, d0) :: es) k = some d0 := by unfold getKV; rw [List.find?_cons, decide_eq_true e]; rfl
      have e2 : valV ((k0, v0) :: us) k = some v0 := by unfold valV; rw [List.find?_cons, decide_eq_true e]; rfl
      rw [e1, e2]
      exact ⟨fun d h => by cases h; exact ⟨v0, F1, rfl, a⟩, fun h => by cases h⟩
    · have e1 : getKV ((k0, d0) :: es) k = getKV es k := by unfold getKV; rw [List.find?_cons, decide_eq_false e]
      have e2 : valV ((k0, v0) :: us) k = valV us k := by unfold valV; rw [List.find?_cons, decide_eq_false e]
      rw [e1, e2]
      exact ⟨ih1, ih2⟩
/-- a dict, frozen or not -/
def IsDV (d : Val) (es : List (Key × Val)) : Prop := d = .fdc es ∨ d = .dic es
theorem Rp.asDV {K : PySem.W.Frag} {H : Hp} {F : List Addr} {v : V} {d : Val} {es : List (Key × Val)} (r : Rp K H F v d) (h : IsDV d es) : ∃ a kvs G, v = .ref a ∧ Rd H a (.dK kvs) ∧ RpD K H G kvs es := by
  rcases h with rfl | rfl
  · cases r with
    | fdc h rd => exact ⟨_, _, _, rfl, .inr ⟨_, h⟩, rd⟩
  · cases r with
    | dic h rd => exact ⟨_, _, _, rfl, .inl h, rd⟩
theorem dget_rd {H : Hp} {a : Addr} {kvs : List (Key × V)} {k : Key} (e : Rd H a (.dK kvs)) : DGet H a (kV k) (valV kvs k) := .inl ⟨kvs, k, e, rfl, rfl⟩
section
variable {c : Vc} {ta tb : TE} {sa sb ea eb : List Nat} {fa fb : Option (List Nat)} {wa wb : VW}
def wDinK (neg : Bool) (wa wb : VW) : VW := fun env Q => wa env fun y env1 => wb env1 fun d env2 => ∃ (es : List (Key × Val)) (k : Key), IsDV d es ∧ y = kVV k ∧ Q (.bl (neg != (getKV es k).isSome)) env2
theorem look_some {K : PySem.W.Frag} {H : Hp} {F : List Addr} {us : List (Key × V)} {es : List (Key × Val)} {k : Key} (r : RpD K H F us es) : (valV us k).isSome = (getKV es k).isSome := by
  obtain ⟨h1, h2⟩ := r.look (k := k)
  cases e : getKV es k with
  | none =>
    rw [h2 e]
    rfl
  | some d =>
    obtain ⟨v, _, hv, _⟩ := h1 d e
    rw [hv]
    rfl
theorem simE_dninK (ha : SimE c ta sa fa ea wa) (hb : SimE c tb sb fb eb wb) (hd : disj sa eb = true) : SimE c (tDNotIn ta tb) [] (some []) (ea ++ eb) (wDinK true wa wb) := ⟨fun env σ H Fs Q R S h k =>
  ha.sim env σ H Fs _ _ S h fun x d F env1 H1 Fs1 o1 r1 s1 _ h1 => hb.sim env1 σ H1 Fs1 _ _ o1.sr h1 fun y e G env2 H2 Fs2 o2 r2 s2 _ ⟨es, key, hD, ek, q⟩ => by
    subst ek
    obtain ⟨a, kvs, G, rfl, rd, rk⟩ := r2.asDV hD
    have ex := kVV_of (r1.eff o1.sr o2.ef s1 hd).1
    subst ex
    refine ⟨a, _, rfl, dget_rd rd, ?_⟩
    rw [look_some rk]
    rw [Bool.true_bne] at q
    exact k _ _ [] env2 H2 Fs2 (o1.trans o2) (.bl _) .nil .nil q⟩
/-- d[k], flat -/
def wDixK (wa wb : VW) : VW := fun env Q => wa env fun d env1 => wb env1 fun y env2 => ∃ (es : List (Key × Val)) (k : Key) (x : Val), IsDV d es ∧ y = kVV k ∧ getKV es k = some x ∧ x.flat = true ∧ Q x env2
theorem simE_dixK (ha : SimE c ta sa fa ea wa) (hb : SimE c tb sb fb eb wb) (hd : disj sa eb = true) : SimE c (tDGet ta tb) [] (some []) (ea ++ eb) (wDixK wa wb) := ⟨fun env σ H Fs Q R S h k =>
  ha.sim env σ H Fs _ _ S h fun x d F env1 H1 Fs1 o1 r1 s1 _ h1 => hb.sim env1 σ H1 Fs1 _ _ o1.sr h1 fun y e G env2 H2 Fs2 o2 r2 s2 _ ⟨es, key, z, hD, ek, hz, fz, q⟩ => by
    subst ek
    obtain ⟨a, kvs, G', rfl, rd, rk⟩ := (r1.eff o1.sr o2.ef s1 hd).1.asDV hD
    have ex := kVV_of r2
    subst ex
    obtain ⟨v, G2, hv, rv⟩ := (rk.look (k := key)).1 z hz
    have e2 := rv.flat fz
    subst e2
    have dg := dget_rd (k := key) rd
    rw [hv] at dg
    exact ⟨a, v, rfl, dg, k v z [] env2 H2 Fs2 (o1.trans o2) rv .nil .nil q⟩⟩
end
section
variable {c : Vc}
def gSortK (ds : List Val) (Q : Val → Prop) : Prop := ∃ (d : Val) (es : List (Key × Val)) (ks : List Str), ds = [d] ∧ IsDV d es ∧ es.map (·.1) = ks.map Sum.inr ∧ ks.length < 64 ∧ ∀ ys : List Str, ys.Perm ks → sortedS ys = true → Q (.lst (ys.map Val.str))
def rSortK : List V → Hp → VK → Prop := fun xs H Q => ∃ (a : Addr) (kvs : List (Key × V)) (ks : List Str), xs = [.ref a] ∧ Rd H a (.dK kvs) ∧ kvs.map (·.1) = ks.map Sum.inr ∧ ks.length < 64 ∧ ∀ ys p, ys.Perm ks → sortedS ys = true → H p = none → Q (.ref p) (upd H p (.lst (ys.map V.str)))
theorem rpa_strs {K : PySem.W.Frag} {H : Hp} : ∀ ns : List Str, RpA K H [] (ns.map V.str) (ns.map Val.str)
  | [] => .nil
  | n :: r => RpA.cons (F := []) (.str n) (rpa_strs r)
theorem rpa_strs' {K : PySem.W.Frag} {H : Hp} {G : List Addr} {us : List V} : ∀ {ns : List Str}, RpA K H G us (ns.map Val.str) → us = ns.map V.str := by
  intro ns h
  induction ns generalizing G us with
  | nil =>
    cases h
    rfl
  | cons n r ih =>
    cases h with
    | cons a t =>
      cases a
      rw [ih t]
      rfl
theorem cb_sortK : CBL c rSortK gSortK := fun σ H Fs as Gs vs ds Q R r h k => by
  obtain ⟨d, es, ks, rfl, hD, ek, kl, h⟩ := h
  obtain ⟨v, F, e1, r1⟩ := r.one
  obtain ⟨a, kvs, G, rfl, rd, rk⟩ := r1.asDV hD
  subst e1
  exact ⟨a, kvs, ks, rfl, rd, by rw [rk.keys]; exact ek, kl, fun ys p hp hs np => k _ _ p (rpa_strs ys) np (h ys hp hs)⟩
/-- len of a text -/
def gLenS : List Val → (Val → Prop) → Prop
  | [.str x], Q => x.length ≤ sizeLine ∧ Q (.int x.length)
  | _, _ => False
theorem cb_lenS : CBS c (fun xs H Q => ∃ x n, xs = [x] ∧ LenV c.K x H n ∧ Q (.int (n : Nat)) H) gLenS := fun σ H Fs as Gs vs ds Q R r h k => by
  unfold gLenS at h
  split at h
  · rename_i x
    obtain ⟨hl, h⟩ := h
    obtain ⟨v, F, e1, r1⟩ := r.one
    subst e1
    cases r1
    exact ⟨_, _, rfl, ⟨hl, rfl⟩, k _ _ (.int _) h⟩
  · exact h.elim
/-! texts in order -/
def fStrB (f : List Nat → List Nat → Bool) : Val → Val → (Val → Prop) → Prop
  | .str x, .str y, Q => Q (.bl (f x.cps.toList y.cps.toList))
  | _, _, _ => False
theorem r2_leS {K : PySem.W.Frag} : R2S K (fun x y H Q => ∃ i j, x = .str i ∧ y = .str j ∧ Q (.bl (!decide (j.cps.toList < i.cps.toList))) H) (fStrB fun a b => !decide (b < a)) := fun H x y d e F G Q R h1 h2 h k => by
  unfold fStrB at h
  split at h
  · cases h1
    cases h2
    exact ⟨_, _, rfl, rfl, k _ _ (.bl _) h⟩
  · exact h.elim
/-- the signs of a text -/
def signs (x : Str) : List Str := x.cps.toList.map fun c => ⟨#[c]⟩
end
section
variable {c : Vc} {te : TE} {s e : List Nat} {f : Option (List Nat)} {we : VW}
def wiS (w : VW) : VWI := fun env Q => w env fun d env' => match d with
  | .str x => Q ((signs x).map Val.str) env'
  | _ => False
theorem simI_str (h : SimE c te s f e we) : SimI c (iStr te) [] e (wiS we) := ⟨fun env σ H Fs Q R S hw k =>
  h.sim env σ H Fs _ _ S hw fun v d F env1 H1 Fs1 o r sr fr q => by
    clear fr
    cases d <;> try exact q.elim
    cases r
    rename_i x
    refine ⟨x, rfl, k (Its x) _ env1 H1 Fs1 o (fun e2 H2 Fs2 ef dj i => ?_) q⟩
    have ln : ((signs x).map Val.str).length = x.cps.size := by
      unfold signs
      rw [List.length_map, List.length_map, Array.length_toList]
    have at_ : ∀ c0, x.cps[i]? = some c0 → ((signs x).map Val.str)[i]? = some (.str ⟨#[c0]⟩) := fun c0 hc => by
      unfold signs
      rw [List.getElem?_map, List.getElem?_map, Array.getElem?_toList, hc]
      rfl
    refine ⟨fun y hy => ?_, fun hi => by
      show x.cps.size ≤ i
      rw [← ln]
      exact hi⟩
    have hi : i < x.cps.size := by
      rw [← ln]
      exact (List.getElem?_eq_some_iff.mp hy).1
    refine ⟨hi, fun v H3 hv => ?_⟩
    obtain ⟨rfl, c0, hc, rfl⟩ := hv
    rw [at_ c0 hc] at hy
    cases hy
    exact ⟨fun _ _ h => h, [], .str _, fun _ h => nomatch h⟩⟩
end
/-! ### try: calls that see the store -/
/-- a call that may raise: what is raised leaves all as it was -/
structure SimC (c : Vc) (tc : (L2.St → XK) → TE) (Ef : List Nat) (w : (Value → Prop) → VW) : Prop where
  sim : ∀ (xe : Value → Prop) (Ex : L2.St → XK) (env : VEnv) (σ : L2.St) (H : Hp) (Fs : Fp) (Q : VK) (R : Val → VEnv → Prop), Sr c env σ H Fs → w xe env R →
    (∀ cls H', Kp [] H H' → (∀ a, H' a = none → H a = none) → Tb c.Ps H' → xe cls → Ex σ cls none H') →
    (∀ v d F env' H' Fs', Ok0 c Ef σ H Fs env' H' Fs' → Rp c.K H' F v d → Src c.ms [] F Fs' → Frs (some []) H Fs' F → R d env' → Q v H') → tc Ex σ H Q
section
variable {c : Vc} {as : List Arg} {ta : TA} {f : Option (List Nat)} {wa : VWA} {S : VSpec} {n : Nat} {own : List Nat} {sl : Nat → Nat}
theorem simC_G0 (hM : Mono S) (h : SimA c ta as f [] wa) (hn : as.length = n) (hb : tagB [] [c.N] as = true) (hm : c.ms.contains c.N = true) (hg : Nat.blt 0 c.g = true := by rfl) (hpn : ∀ g, (padG [] n [g])[n]? = some g := by intros; rfl) : SimC c (fun Ex => tCallS (vspG c.K c.Ps [] n S) Ex ta) [c.N] (fun xe => wCallR c.N S xe (BG0 c.N) wa) := ⟨fun xe Ex env σ H Fs Q R S0 hw hx k =>
  h.sim env σ H Fs _ _ S0 hw fun vs ds Gs env1 H1 Fs1 o r0 fr ⟨g, eg, q⟩ => by
    have hg := lt_of_blt hg
    have hm : c.N ∈ c.ms := by simpa using hm
    have sln : slG n c.N id n = c.N := by unfold slG; rw [if_pos rfl]
    have T : Tags [] id as := ⟨(fun _ h => nomatch h), (fun _ h => nomatch h), fun p i z => tag_only hb z, fun _ h => nomatch h⟩
    obtain ⟨r, T'⟩ := callG_ok o.sr r0 T hn hm (fun _ h => nomatch h) (fun q s z => tag_v hb z (List.mem_singleton.mpr rfl)) eg
    refine ⟨ds ++ [.gho g], fun p => (Gs ++ [Fs1 c.N]).getD p [], call_in (g := 1) o.sr r T' (by rw [List.length_append, hn]; rfl) (by rw [r0.len, hn]) (fun _ z => List.mem_singleton.mp z), hM _ _ _ _ _ (fun ds' rv hb' H' v F Gs' O rr nd new => ?_) (fun x hx' H' kp gr tb => hx x H' ((kp0 o.ef).trans kp) (fun a z => o.ef.gr a (gr a z)) tb hx') q⟩
    rcases ds' with _ | ⟨g1, _ | ⟨y, z⟩⟩
    · exact hb'.elim
    case cons.cons => exact hb'.elim
    have em : ([] ++ [n]).map (slG n c.N id) = [c.N] := by
      show [slG n c.N id n] = _
      rw [sln]
    have o2 := call_out (env' := env1.set c.N (some g1)) o.sr r T' O (by rw [List.length_set]; exact o.sr.le) (fun p hp d' z => by
      have : p = n := List.mem_singleton.mp hp
      subst this
      rw [hpn] at z
      cases z
      rw [sln, List.getElem?_set_self (by rw [o.sr.le]; omega)]) (fun j hj => by
      have := hj n (List.mem_singleton.mpr rfl)
      rw [sln] at this
      rw [List.getElem?_set_ne this])
    rw [em] at o2
    have o3 := o.trans o2
    rw [List.nil_append] at o3
    refine k v rv F _ H' _ o3 rr (fun a ha j hj _ z => ?_) (fun mv e => ⟨nd, fun a ha => .inl (o.ef.gr a (new a ha).1)⟩) hb'
    by_cases hx : ∃ p ∈ [] ++ [n], slG n c.N id p = j
    · obtain ⟨p, hp, rfl⟩ := hx
      rw [slotF_at T'.inj hp] at z
      exact (new a ha).2 p hp z
    · rw [slotF_ne fun p hp y => hx ⟨p, hp, y⟩] at z
      exact (o.sr.mutb j a z).ex (new a ha).1⟩
end
/-- the body of a try that may change slots and the store -/
structure SimW (c : Vc) (Ef : List Nat) (tb : WX → TS) (wb : (Value → Prop) → VWS) : Prop where
  sim : ∀ (W : WX) (xe : Value → Prop) (env : VEnv) (σ : L2.St) (H : Hp) (Fs : Fp) (D : Ends) (R : VEnds), Sr c env σ H Fs → wb xe R env →
    (∀ cls H', Kp [] H H' → (∀ a, H' a = none → H a = none) → Tb c.Ps H' → xe cls → WE W σ cls none H') →
    (∀ env' σ' H' Fs', Ok2 c [] Ef σ H Fs env' σ' H' Fs' → R.nx env' → D.nx σ' H') → tb W D σ H
section
variable {c : Vc} {tc : (L2.St → XK) → TE} {e E : List Nat} {wc : (Value → Prop) → VW}
theorem simW_if {tt : TT} {wt : VWT} {tb tb' : WX → TS} {wb wb' : (Value → Prop) → VWS} (ht : SimT c tt [] wt) (h1 : SimW c E tb wb) (h2 : SimW c E tb' wb') (hE : sub E c.ms = true) : SimW c E (fun W => tIfS tt (tb W) (tb' W)) (fun xe => wIfS wt (wb xe) (wb' xe)) := ⟨fun W xe env σ H Fs D R S hw hx n =>
  ht.sim env σ H Fs _ _ S hw fun k env1 H1 Fs1 o q => by
    have hx1 : ∀ cls H', Kp [] H1 H' → (∀ a, H' a = none → H1 a = none) → Tb c.Ps H' → xe cls → WE W σ cls none H' := fun cls H' kp gr tb x => hx cls H' ((kp0 o.ef).trans kp) (fun a z => o.ef.gr a (gr a z)) tb x
    have o := o.ok2 (fx := []) (E := E) rfl hE
    cases k with
    | true => exact iteT (h1.sim W xe env1 σ H1 Fs1 D R o.sr q hx1 fun env2 σ2 H2 Fs2 o2 => n env2 σ2 H2 Fs2 (o.trans o2))
    | false => exact iteF (h2.sim W xe env1 σ H1 Fs1 D R o.sr q hx1 fun env2 σ2 H2 Fs2 o2 => n env2 σ2 H2 Fs2 (o.trans o2))⟩
end
/-- a slot is given a flat value, another is empty -/
theorem sr_exc {c : Vc} {env : VEnv} {σ : L2.St} {H H2 : Hp} {Fs : Fp} {i j : Nat} {v : V} {d : Val} (S : Sr c env σ H Fs) (k2 : Kp [] H H2) (t2 : Tb c.Ps H2) (hi : env[i]? = some none) (e : i ≠ j) (hj : j < c.N) (hm : j ∉ c.ms) (r : Rp c.K H2 [] v d) : Sr c (env.set j (some d)) ((σ.set j (some v)).set i none) H2 (upF Fs j []) := by
  have S2 := S.grow k2 t2
  have S3 := S2.put (i := j) (F := []) hj r (fun z => absurd z hm) .nil (S2.xk.eff (eff_put hm))
  refine ⟨S3.le, by rw [List.length_set]; exact S3.ls, fun k d' h => ?_, S3.emp, S3.sep, S3.nd, S3.tb, S3.xk⟩
  · obtain ⟨u, h1, h2⟩ := S3.at_ k d' h
    refine ⟨u, ⟨fun z => ?_, h1.2⟩, h2⟩
    have ne : i ≠ k := fun z => by
      rw [← z, List.getElem?_set_ne (fun y => e y.symm), hi] at h
      cases h
    rw [List.getElem?_set_ne ne]
    exact h1.1 z
/-- try .. except ShelfError as i: j = i -/
def wTry (Cs : List Addr) (i j : Nat) (wb : (Value → Prop) → VWS) : VWS := fun R env => env[i]? = some none ∧
  wb (fun cls => ∃ (n : Nat) (C : Addr), Cs[n]? = some C ∧ cls = .ref C ∧ R.nx (env.set j (some (.exc (.ref C))))) { nx := R.nx, rt := fun _ _ => False } env
theorem simS_tryS {Se : Addr} {Cs : List Addr} {c : Vc} {lo E : List Nat} {i j : Nat} {tb : WX → TS} {wb : (Value → Prop) → VWS} (hC : ∀ C ∈ Cs, PySem.W.exmOne c.K (.ref C) (.ref Se) = some true) (h : SimW c E tb wb) (ne : (i == j) = false) (hj : Nat.blt j c.N = true) (hm : c.ms.contains j = false) (hE : sub E c.ms = true) :
    SimS c [] lo E (fun D σ H => tb (wKept c.K (.ref Se) i j D) D σ H) (wTry Cs i j wb) := ⟨fun env σ H Fs D R S ⟨hi, hw⟩ n b ct rt => by
  have hj := lt_of_blt hj
  have ne : i ≠ j := by simpa using ne
  have hm : j ∉ c.ms := fun z => by simp [z] at hm
  refine h.sim _ _ env σ H Fs D _ S hw (fun cls H' kp gr tb' ⟨k, C, hk, ec, q⟩ => ?_) fun env' σ' H' Fs' o q => n env' σ' H' Fs' o q
  subst ec
  refine ⟨rfl, hC C (List.mem_of_getElem? hk), fun a na => ?_⟩
  obtain ⟨ea, sa⟩ := upd_at (o := ExP (.ref C) a) na
  have k2 : Kp [] H (upd H' a (ExP (.ref C) a)) := kp.trans (.of sa)
  have t2 : Tb c.Ps (upd H' a (ExP (.ref C) a)) := tb'.same sa
  refine n _ _ _ (upF Fs j []) ⟨sr_exc S k2 t2 hi ne hj hm (.exc (isEx_P ea)), ?_, fun _ z => nomatch z⟩ q
  have e1 : Eff c.ms [] Fs H (upF Fs j []) (upd H' a (ExP (.ref C) a)) := ⟨(fun _ h => nomatch h), k2, fun x hx => gr x (sa.free hx), fun k hk _ => upF_ne (ne_mem hk hm), fun k hk x hx => by
    rw [upF_ne (ne_mem hk hm)] at hx
    exact .inl hx⟩
  exact e1.mono (fun _ z => nomatch z) (sub_iff hE)⟩
/-! ### texts over values -/
def fCatS : Val → Val → (Val → Prop) → Prop
  | .str x, .str y, Q => x.length + y.length ≤ 1000000 ∧ Q (.str (SX.S (x.cps.toList ++ y.cps.toList)))
  | _, _, _ => False
theorem cat_S (x y : Str) : x ++ y = SX.S (x.cps.toList ++ y.cps.toList) := by
  have h := SX.S_cat x.cps.toList y.cps.toList
  rwa [SX.S_tl, SX.S_tl] at h
theorem r2_addS {K : PySem.W.Frag} : R2S K (fun x y H Q => ∃ i j, x = .str i ∧ y = .str j ∧ i.length + j.length ≤ sizeLine ∧ Q (.str (i ++ j)) H) fCatS := fun H x y d e F G Q R h1 h2 h k => by
  unfold fCatS at h
  split at h
  · cases h1
    cases h2
    obtain ⟨h, q⟩ := h
    refine ⟨_, _, rfl, rfl, small_le h, k _ _ ?_ q⟩
    rw [← cat_S]
    exact .str _
  · exact h.elim
def fIxS : Val → Val → (Val → Prop) → Prop
  | .str x, .int i, Q => x.length ≤ 1000000 ∧ ∃ c, atI x.cps.toList i = some c ∧ Q (.str (SX.S [c]))
  | _, _, _ => False
theorem r2_ixS {K : PySem.W.Frag} : R2S K rIxS fIxS := fun H x y d e F G Q R h1 h2 h k => by
  unfold fIxS at h
  split at h
  · cases h1
    cases h2
    obtain ⟨h, c, e, q⟩ := h
    exact ⟨_, _, c, rfl, rfl, small_le h, e, k _ _ (.str _) q⟩
  · exact h.elim
section
variable {c : Vc} {t te : TE} {s e : List Nat} {f : Option (List Nat)} {w we : VW} {tl th : TO} {wl wh : VWO} {el eh : List Nat}
def wSlS (w : VW) (wl wh : VWO) : VW := fun env Q => w env fun d env1 => wl env1 fun a env2 => wh env2 fun b env3 => match d with
  | .str z => z.length ≤ 1000000 ∧ Q (.str (SX.S (cutL z.cps.toList a b))) env3
  | _ => False
theorem cutS_L (z : Str) (a b : Option Int) : cutS z a b = SX.S (cutL z.cps.toList a b) := by
  have e : z.length = z.cps.toList.length := by
    show z.cps.size = _
    rw [Array.length_toList]
  unfold cutS cutL
  rw [e]
theorem simE_slS (h : SimE c t s f e w) (hl : SimO c tl el wl) (hh : SimO c th eh wh) (hd : disj s el = true) (hd2 : disj s eh = true) : SimE c (tSl rSlS t tl th) [] (some []) (e ++ (el ++ eh)) (wSlS w wl wh) := ⟨fun env σ H Fs Q R S hw k =>
  h.sim env σ H Fs _ _ S hw fun v d F env1 H1 Fs1 o1 r1 s1 _ q1 => hl.sim env1 σ H1 Fs1 _ _ o1.sr q1 fun a env2 H2 Fs2 o2 q2 => hh.sim env2 σ H2 Fs2 _ _ o2.sr q2 fun b env3 H3 Fs3 o3 q3 => by
    obtain ⟨r2, s2⟩ := r1.eff o1.sr o2.ef s1 hd
    obtain ⟨r3, s3⟩ := r2.eff o2.sr o3.ef s2 hd2
    have O := o1.trans (o2.trans o3)
    cases d <;> try exact q3.elim
    obtain ⟨hf, q⟩ := q3
    cases r3
    refine ⟨_, rfl, small_le hf, k _ _ [] _ _ _ O ?_ .nil .nil q⟩
    rw [cutS_L]
    exact .str _⟩
/-- the texts put together -/
theorem joinL0 : ∀ ys : List (List Nat), TL.joinL [] ys = ys.flatten
  | [] => rfl
  | [p] => by
    show p = p ++ []
    rw [List.append_nil]
  | p :: q :: r => by
    show p ++ ([] ++ TL.joinL [] (q :: r)) = _
    rw [joinL0 (q :: r)]
    rfl
def wJoin (we : VW) : VW := fun env Q => we env fun d env1 => ∃ ys : List (List Nat), d = .lst (ys.map fun l => Val.str (SX.S l)) ∧ ys.flatten.length ≤ 1000000 ∧ Q (.str (SX.S ys.flatten)) env1
theorem sum_flat : ∀ ys : List (List Nat), (ys.map (·.length)).sum = ys.flatten.length
  | [] => rfl
  | p :: r => by
    rw [List.map_cons, List.sum_cons, sum_flat r, List.flatten_cons, List.length_append]
theorem simE_join (h : SimE c te s f e we) : SimE c (tBM c.K "str" (fun x xs H Q => ∃ a p, ∃ ys : List Str, x = .str a ∧ xs = [.ref p] ∧ (SqL c.K H p (ys.map V.str) ∨ SqT c.K H p (ys.map V.str)) ∧ (ys.map (·.length)).sum + ys.length * a.length ≤ 16777216 ∧ Q (.str (Txt.join a ys)) H) (tC (.str "")) (tCons te tNil)) [] (some []) e (wJoin we) := ⟨fun env σ H Fs Q R S hw k => by
  show tyV c.K "str" (.str "") H ∧ _
  refine ⟨rfl, h.sim env σ H Fs _ _ S hw fun v d F env1 H1 Fs1 o r sr fr ⟨ys, ed, hl, q⟩ => ?_⟩
  subst ed
  obtain ⟨l, us, G, el, h1, ra, _⟩ := r.asL
  subst el
  have eu : us = (ys.map SX.S).map V.str := by
    have e2 : (ys.map fun l => Val.str (SX.S l)) = (ys.map SX.S).map Val.str := by
      rw [List.map_map]
      rfl
    rw [e2] at ra
    exact rpa_strs' ra
  subst eu
  have e0 : ("" : Str) = SX.S [] := rfl
  refine ⟨"", l, ys.map SX.S, rfl, rfl, .inl (SqL.of h1), ?_, ?_⟩
  · have e1 : ((ys.map SX.S).map (·.length)) = ys.map (·.length) := SX.lens ys
    have e3 : ("" : Str).length = 0 := rfl
    rw [e1, sum_flat, e3]
    omega
  · rw [e0, SX.join_S, joinL0]
    exact k _ _ [] env1 H1 Fs1 o (.str _) .nil .nil q⟩
end
/-! ### for k in d, of a frozen dict; {k: v for ..} -/
section
variable {c : Vc} {te : TE} {s e : List Nat} {f : Option (List Nat)} {we : VW}
end
section
variable {c : Vc} {fx vs E ei et : List Nat} {ti : TI} {wi : VWI} {g : TG} {wg : VWG} {tt : TT} {wt : VWT}
theorem turn_simX {σ : L2.St} {H1 H2 H3 : Hp} {Fs1 Fs2 : Fp} {env2 : VEnv} {v : V} {x : Val} {F : List Addr} {tx : L2.St → Hp → Prop} {wx : VEnv → Prop} {P' : Hp → Prop} {R' : VEnv → Prop}
    (hg : SimG c fx g wg) (ht : SimT c tt et wt) (hvs : disj vs c.ms = true) (hfx : ((List.range (c.N + c.g)).all fun j => vs.contains j || fx.contains j) = true) (he1 : sub et E = true)
    (o : Ok0 c E (wipe σ vs) H1 Fs1 env2 H2 Fs2) (sm : Same H2 H3) (r : Rp c.K H3 F v x) (sr : Src c.ms [] F Fs2) (hw : wg x env2 fun env3 => wt env3 fun b env4 => if b = true then wx env4 else R' (wipeE env4 vs))
    (hx : ∀ σ4 env5 H5 Fs5 Fs4, Ok0 c et σ4 H3 Fs4 env5 H5 Fs5 → (∀ {e' : List Nat} {env6 : VEnv} {H6 : Hp} {Fs6 : Fp}, (∀ j ∈ e', j ∈ E) → Ok0 c e' σ4 H5 Fs5 env6 H6 Fs6 → Ok0 c E (wipe σ vs) H1 Fs1 (wipeE env6 vs) H6 (wipeF Fs6 vs)) → wx env5 → tx σ4 H5) (k' : ∀ env5 H5 Fs5, Ok0 c E (wipe σ vs) H1 Fs1 env5 H5 Fs5 → R' env5 → P' H5) :
    g v (wipe σ vs) H3 fun σ4 H4 => wipe σ4 vs = wipe σ vs ∧ tt σ4 H4 fun b H5 => if b = true then tx σ4 H5 else P' H5 := by
  have o3 := o.grow sm
  have S3 := o3.sr
  refine hg.sim v x F env2 (wipe σ vs) H3 Fs2 _ _ S3 r sr hw fun env4 σ4 Fs4 S4 e4 f4 q4 => ?_
  have ew : wipe σ4 vs = wipe σ vs := by
    have e0 : wipe σ4 vs = wipe (wipe σ vs) vs := by
      refine wipe_ext (by rw [S4.ls, S3.ls]) fun j hj => ?_
      by_cases hN : j < c.N + c.g
      · have := List.all_eq_true.mp hfx j (List.mem_range.mpr hN)
        rw [Bool.or_eq_true] at this
        rcases this with z | z
        · exact absurd (by simpa using z) hj
        · exact (f4 j (by simpa using z)).1
      · rw [List.getElem?_eq_none (by rw [S4.ls]; omega), List.getElem?_eq_none (by rw [S3.ls]; omega)]
    rw [e0]
    exact wipe_ext (by rw [wipe_length]) fun j hj => wipe_get hj
  have val : ∀ {e' : List Nat} {env5 : VEnv} {H5 : Hp} {Fs5 : Fp}, (∀ j ∈ e', j ∈ E) → Ok0 c e' σ4 H3 Fs4 env5 H5 Fs5 → Ok0 c E (wipe σ vs) H1 Fs1 (wipeE env5 vs) H5 (wipeF Fs5 vs) := fun {e' env5 H5 Fs5} hs o5 => by
    have S5 := o5.sr.wipe (vs := vs) hvs
    rw [ew] at S5
    have ef4 : Eff c.ms [] Fs2 H3 Fs4 H3 := ⟨(fun _ h => nomatch h), Kp.refl _ _, fun _ h => h, fun j hj _ => e4 j hj, fun j hj a ha => .inl (by rw [← e4 j hj]; exact ha)⟩
    refine ⟨S5, (((o3.ef.trans ef4).trans o5.ef).trans (eff_wipe hvs)).mono (fun j hj => ?_) o.ef.sub, fun j hj a ha => ?_⟩
    · simp only [List.append_nil, List.mem_append] at hj
      exact hj.elim id (hs j)
    · have a5 := o5.vl j hj a (wipeF_sub ha)
      -- a slot that is neither own nor of the block stands as it stood
      by_cases hv : j ∈ vs
      · unfold wipeF at ha
        rw [if_pos hv] at ha
        cases ha
      · by_cases hN : j < c.N + c.g
        · have h0 := List.all_eq_true.mp hfx j (List.mem_range.mpr hN)
          rw [Bool.or_eq_true] at h0
          have hjf : j ∈ fx := h0.elim (fun z => absurd (by simpa using z) hv) fun z => by simpa using z
          rw [(f4 j hjf).2] at a5
          exact o3.vl j hj a a5
        · rw [S4.emp j fun d hd => by
            have := (List.getElem?_eq_some_iff.mp hd).1
            rw [S4.le] at this
            omega] at a5
          cases a5
  refine ⟨ew, ht.sim env4 σ4 H3 Fs4 _ _ S4 q4 fun b env5 H5 Fs5 o5 q5 => ?_⟩
  cases b with
  | true => exact iteT (hx σ4 env5 H5 Fs5 Fs4 o5 (fun {e' env6 H6 Fs6} hs o6 => val (fun j hj => (List.mem_append.mp hj).elim (sub_iff he1 j) (hs j)) (o5.trans o6)) q5)
  | false => exact iteF (k' _ H5 _ (val (sub_iff he1) o5) q5)
end
section
variable {c : Vc} {fx vs ei : List Nat} {ti : TI} {wi : VWI} {g : TG} {wg : VWG} {tt : TT} {wt : VWT} {tk tv : TE} {wk wv : VW} {sk sv et ek ev : List Nat} {fk fv : Option (List Nat)}
def appD (Q : Val → VEnv → Prop) (es : List (Key × Val)) (env : VEnv) : Prop := Q (.dic es) env
def wDcG (wi : VWI) (wg : VWG) (wt : VWT) (wk wv : VW) (vs : List Nat) : VW := fun env Q => wi env fun xs env1 => ∃ I : Nat → List (Key × Val) → VEnv → Prop, I 0 [] (wipeE env1 vs) ∧
  (∀ i x acc env', xs[i]? = some x → I i acc env' → acc.length < 1000000 ∧ wg x env' fun env2 => wt env2 fun b env3 => if b = true then wk env3 fun y env4 => wv env4 fun z env5 => ∃ key : Key, y = kVV key ∧ z.flat = true ∧ I (i + 1) (putKV acc key z) (wipeE env5 vs) else I (i + 1) acc (wipeE env3 vs)) ∧
  ∀ acc env', I xs.length acc env' → appD Q acc env'
theorem simE_dcG (hi : SimI c ti [] ei wi) (hg : SimG c fx g wg) (ht : SimT c tt et wt) (hk : SimE c tk sk fk ek wk) (hv : SimE c tv sv fv ev wv) (hz : et ++ (ek ++ ev) = []) (hvs : disj vs c.ms = true) (hfx : ((List.range (c.N + c.g)).all fun j => vs.contains j || fx.contains j) = true) : SimE c (tDc ti g tt tk tv vs) [] (some []) (ei ++ []) (wDcG wi wg wt wk wv vs) := by
  obtain ⟨z1, z2⟩ := List.append_eq_nil_iff.mp hz
  obtain ⟨z2, z3⟩ := List.append_eq_nil_iff.mp z2
  subst z1 z2 z3
  exact ⟨fun env σ H Fs Q R S hw k =>
  hi.sim env σ H Fs _ _ S hw fun J xs env1 H1 Fs1 o it q D nD => by
    obtain ⟨I, I0, step, fin⟩ := q
    have S1 := o.sr.wipe (vs := vs) hvs
    have o1 : Ok0 c [] (wipe σ vs) H1 (wipeF Fs1 vs) (wipeE env1 vs) H1 (wipeF Fs1 vs) := Ok0.refl S1
    have ew : Eff c.ms [] Fs1 H1 (wipeF Fs1 vs) H1 := eff_wipe hvs
    refine ⟨fun i m H2 => m = xs.length - i ∧ i ≤ xs.length ∧ ∃ acc env2 Fs2 us, Ok0 c [] (wipe σ vs) H1 (wipeF Fs1 vs) env2 H2 Fs2 ∧ (∀ j, D ∉ Fs2 j) ∧ H2 D = some (.dK us) ∧ RpD c.K H2 [] us acc ∧ I i acc env2,
      ⟨xs.length, by simp, Nat.zero_le _, [], _, _, [], o1.grow (same_upd nD), fun j z => (S1.mutb j D z).ex nD, L2.upd_same, .nil, I0⟩, ?_⟩
    rintro i m H2 ⟨rfl, hi2, acc, env2, Fs2, us, o2, nf, hD, ra, i2⟩
    by_cases hlt : i < xs.length
    · obtain ⟨x, hx⟩ : ∃ x, xs[i]? = some x := ⟨_, List.getElem?_eq_getElem hlt⟩
      obtain ⟨go, yl⟩ := (it _ H2 Fs2 (ew.trans o2.ef) rfl i).1 x hx
      obtain ⟨alen, hstep⟩ := step i x acc env2 hx i2
      refine .inr ⟨go, fun H' => ∃ acc env2 Fs2 us, Ok0 c [] (wipe σ vs) H1 (wipeF Fs1 vs) env2 H' Fs2 ∧ (∀ j, D ∉ Fs2 j) ∧ H' D = some (.dK us) ∧ RpD c.K H' [] us acc ∧ I (i + 1) acc env2, fun H' hN => ⟨xs.length - (i + 1), by omega, rfl, hlt, hN⟩, fun v H3 hy => ?_⟩
      obtain ⟨sm, F, r, sr⟩ := yl v H3 hy
      have ob : Ok0 c [] (wipe σ vs) H2 Fs2 env2 H2 Fs2 := Ok0.refl o2.sr
      have keep : ∀ {env5 : VEnv} {H5 : Hp} {Fs5 : Fp}, Ok0 c [] (wipe σ vs) H2 Fs2 env5 H5 Fs5 → (∀ j, D ∉ Fs5 j) ∧ H5 D = some (.dK us) ∧ RpD c.K H5 [] us acc ∧ Ok0 c [] (wipe σ vs) H1 (wipeF Fs1 vs) env5 H5 Fs5 := fun {env5 H5 Fs5} o5 => by
        refine ⟨fun j z => ?_, o5.ef.kp.dK (fun z => nomatch z) hD, ra.kp o5.ef.kp (fun _ z => nomatch z) (fun _ h => nomatch h), o2.trans o5⟩
        by_cases hj : j ∈ c.ms
        · rcases o5.ef.foot j hj D z with y | y
          · exact nf j y
          · rw [hD] at y
            cases y
        · exact nf j (o5.vl j hj D z)
      refine turn_simX hg ht hvs hfx rfl ob sm r sr (R' := fun env5 => I (i + 1) acc env5) hstep (fun σ4 env5 H5 Fs5 Fs4 o5 lift q5 => ?_) ?_
      · refine hk.sim env5 σ4 H5 Fs5 _ _ o5.sr q5 fun y dy Fy env6 H6 Fs6 o6 r6 s6 _ q6 => hv.sim env6 σ4 H6 Fs6 _ _ o6.sr q6 fun z dz Fz env7 H7 Fs7 o7 r7 s7 _ ⟨key, ey, fz, q7⟩ => ?_
        subst ey
        have ey := kVV_of r6
        have zz := r7.flat fz
        subst zz
        obtain ⟨nf5, hD5, ra5, o15⟩ := keep (lift (e' := []) (fun _ h => nomatch h) (o6.trans o7))
        have kD : Kp [D] H7 (upd H7 D (.dK (putK us key z))) := Kp.upd List.mem_cons_self
        have mD : ∀ a ∈ [D], Mutb H7 a := fun a ha => by
          rw [List.mem_singleton.mp ha]
          exact .inr (.inl ⟨_, hD5⟩)
        have ef : Eff c.ms [] (wipeF Fs1 vs) H1 (wipeF Fs7 vs) (upd H7 D (.dK (putK us key z))) := o15.ef.side nD
        refine ⟨us, key, ey, hD5, small_lt (by rw [ra5.len]; omega), putKV acc key dz, _, wipeF Fs7 vs, putK us key z, ⟨o15.sr.side (mD D List.mem_cons_self) nf5 (S1.xk.eff ef), ef, o15.vl⟩, nf5, L2.upd_same, ?_, q7⟩
        exact (RpD.put r7 ra5).kp kD mD (fun _ h => nomatch h)
      · intro env5 H5 Fs5 o5 q5
        obtain ⟨nf5, hD5, ra5, o15⟩ := keep o5
        exact ⟨acc, env5, Fs5, us, o15, nf5, hD5, ra5, q5⟩
    · have e0 : i = xs.length := by omega
      subst e0
      refine .inl ⟨(it _ H2 Fs2 (ew.trans o2.ef) rfl _).2 (Nat.le_refl _), ?_⟩
      have ef := o.ef.trans (ew.trans o2.ef)
      refine k _ _ [D] env2 H2 Fs2 ⟨o2.sr.unwipe, ef, fun j hj a ha => o.vl j hj a (wipeF_sub (o2.vl j hj a ha))⟩ (.dic hD ra) (fun a ha j hj _ => by rw [List.mem_singleton.mp ha]; exact nf j) (fun mv e => ?_) (fin acc env2 i2)
      cases e
      exact ⟨by simp, fun a ha => .inl (by rw [List.mem_singleton.mp ha]; exact o.ef.gr D nD)⟩⟩
end
/-! ### list(d) -/
section
variable {c : Vc}
end
/-! ### a call that is handed a new list for good -/
section
variable {c : Vc} {t0 : TE} {ta : TA} {as : List Arg} {f : Option (List Nat)} {w0 : VW} {wa : VWA} {S : VSpec} {n : Nat}
theorem rpa_flat {K : PySem.W.Frag} {H : Hp} {F : List Addr} {vs : List V} {ds : List Val} (r : RpA K H F vs ds) (h : Val.flatAll ds = true) : RpA K H [] vs ds := by
  have := r.flat h
  subst this
  exact r
def wCallF (S : VSpec) (xe : Value → Prop) (w0 : VW) (wa : VWA) : VW := fun env Q => w0 env fun d0 env1 => wa env1 fun ds env2 => Val.flatAll ds = true ∧ S (d0 :: ds) (fun _ r => Q r env2) xe
theorem simE_callF (hM : Mono S) (h0 : SimE c t0 [] (some []) [] w0) (h : SimA c ta as f [] wa) (hn : as.length + 1 = n) : SimE c (tCall (vsp c.K c.Ps [0] n S) [] c.E (tCons t0 ta)) [] (some []) [] (wCallF S (fun _ => False) w0 wa) := ⟨fun env σ H Fs Q R S0 hw k =>
  h0.sim env σ H Fs _ _ S0 hw fun v0 d0 F0 env1 H1 Fs1 o1 r0 s0 f0 q => h.sim env1 σ H1 Fs1 _ _ o1.sr q fun vs ds Gs env2 H2 Fs2 o2 rl _ ⟨fl, q2⟩ => by
    have O : Ok0 c [] σ H Fs env2 H2 Fs2 := o1.trans o2
    obtain ⟨nd0, new0⟩ := f0 [] rfl
    have new0 : ∀ a ∈ F0, H a = none := fun a ha => (new0 a ha).elim id fun ⟨_, h, _⟩ => nomatch h
    have r0' : Rp c.K H2 F0 v0 d0 := r0.kp (kp0 o2.ef) (fun _ z => nomatch z) fun _ _ z => nomatch z
    have ra := rpa_flat rl.rpa fl
    have k2 : Kp [] H H2 := kp0 O.ef
    have dj : ∀ j, ∀ a ∈ F0, a ∉ Fs2 j := fun j a ha z => by
      by_cases hj : j ∈ c.ms
      · rw [O.ef.out j hj (fun h => nomatch h)] at z
        exact (S0.mutb j a z).ex (new0 a ha)
      · exact (S0.mutb j a (O.vl j hj a z)).ex (new0 a ha)
    refine ⟨d0 :: ds, fun p => if p = 0 then F0 else [], ⟨?_, ?_, fun p d hp => ?_, fun p hp => ?_, fun p hp q hq a ha z => ?_, fun p hp => ?_, O.sr.tb, xk0⟩, hM _ _ _ _ _ (fun ds' rv hq H' v F Gs' OO rr nd new => ?_) (fun x hx => hx.elim) q2⟩
    · rw [List.length_map, List.length_cons, rl.lend]
      exact hn
    · rw [List.length_map, List.append_nil, List.length_cons, rl.len]
      exact hn
    · rw [List.append_nil]
      have hl : (v0 :: vs).length = n := by rw [List.length_cons, rl.len]; exact hn
      have tot : ∃ v, (v0 :: vs)[p]? = some v ∧ Rp c.K H2 (if p = 0 then F0 else []) v d := by
        rw [List.getElem?_map] at hp
        obtain ⟨d', hd', e⟩ := Option.map_eq_some_iff.mp hp
        cases e
        cases p with
        | zero =>
          cases hd'
          exact ⟨v0, rfl, by rw [if_pos rfl]; exact r0'⟩
        | succ p =>
          obtain ⟨v, hv, r⟩ := ra.sub rfl p d hd'
          exact ⟨v, hv, by rw [if_neg (by omega)]; exact r⟩
      obtain ⟨v, hv, r⟩ := tot
      have pl : p < n := by
        have := (List.getElem?_eq_some_iff.mp hv).1
        omega
      exact ⟨v, ⟨fun _ => by rw [List.getElem?_map, hv]; rfl, fun z => absurd (show n ≤ p from z) (by omega)⟩, r⟩
    · by_cases z : p = 0
      · subst z
        exact absurd rfl (hp d0)
      · rw [if_neg z]
    · have hp : p = 0 := List.mem_singleton.mp hp
      subst hp
      rw [if_neg hq] at z
      cases z
    · have hp : p = 0 := List.mem_singleton.mp hp
      subst hp
      rw [if_pos rfl]
      exact nd0
    · have kF : Kp F0 H2 H' := OO.ef.kp.mono fun a ha => by
        obtain ⟨j, hj, z⟩ := List.mem_flatMap.mp ha
        rw [List.mem_singleton.mp hj, if_pos rfl] at z
        exact z
      have mF : ∀ a ∈ F0, Mutb H2 a := fun a ha => r0'.mutb a ha
      have k3 : Kp [] H H' := fun x o hx hH => by
        have nx : x ∉ F0 := fun z => by
          rw [new0 x z] at hH
          cases hH
        rcases k2 x o hx hH with z | ⟨ps, qs, rfl, z⟩
        · exact kF x o nx z
        · rcases kF x _ nx z with y | ⟨_, qs', _, y⟩
          · exact .inr ⟨ps, qs, rfl, y⟩
          · exact .inr ⟨ps, qs', rfl, y⟩
      have ef3 : Eff c.ms [] Fs H Fs2 H' := ⟨(fun _ h => nomatch h), k3, fun a ha => O.ef.gr a (OO.ef.gr a ha), O.ef.out, O.ef.foot⟩
      have S3 : Sr c env2 σ H' Fs2 := ⟨O.sr.le, O.sr.ls, fun i d h => by
        obtain ⟨v, h1, r⟩ := O.sr.at_ i d h
        exact ⟨v, h1, r.kp kF mF fun a ha z => dj i a z ha⟩, O.sr.emp, O.sr.sep, O.sr.nd, OO.tb, S0.xk.eff ef3⟩
      refine k v rv F env2 H' Fs2 ⟨S3, ef3, O.vl⟩ rr (fun a ha j hj _ z => ?_) (fun mv e => ⟨nd, fun a ha => .inl (O.ef.gr a (new a ha).1)⟩) hq
      exact (O.sr.mutb j a z).ex (new a ha).1⟩
end
section
variable {c : Vc} {fx vs E et : List Nat} {g : TG} {wg : VWG} {tt : TT} {wt : VWT}
end
/-! ### [e for a in xs if .. for b in ys if ..] -/
section
variable {c : Vc} {fx fx1 vs vs1 ei et et1 ee s' : List Nat} {ti ti1 : TI} {wi wi1 : VWI} {g g1 : TG} {wg wg1 : VWG} {tt tt1 : TT} {wt wt1 : VWT} {te : TE} {we : VW} {f' : Option (List Nat)}
end
/-! ### a new pair, taken apart: one name reads, the other one is own -/
section
variable {c : Vc} {fx lo E : List Nat}
end
/-! ### an own dict is frozen where it stands -/
def tFrzM (t : TE) : TE := fun σ H Q => t σ H fun v H' => ∃ d u, v = .ref d ∧ H' d = some u ∧ ((Mut (some u) ∧ ∀ od, Q v (upd H' d (.frz od u))) ∨ Q v H')
theorem pe_frzM {X : Cx} {e : Expr} {t : TE} (h : PE X e t) : PE X e (tFrzM t) := ⟨fun pins s σ H Q I hw => thn (h.run pins s σ H _ I hw) fun v s1 ⟨x, H1, I1, r, d, u, ex, hd, z⟩ => by
  rcases z with ⟨mu, q⟩ | q
  · obtain ⟨od, I2⟩ := I1.lock hd mu
    exact ⟨x, _, I2, r, q od⟩
  · exact ⟨x, _, I1, r, q⟩⟩
section
variable {c : Vc}
def wFrzO (i : Nat) : VW := fun env Q => (∃ es, env[i]? = some (some (.dic es)) ∧ Val.flatAllD es = true ∧ Q (.fdc es) (env.set i (some (.fdc es)))) ∨ ∃ es, env[i]? = some (some (.fdc es)) ∧ Val.flatAllD es = true ∧ Q (.fdc es) env
theorem simE_frzO {i : Nat} (hi : i < c.N) (hm : c.ms.contains i = true) : SimE c (tFrzM (tVar i)) [] (some []) [i] (wFrzO i) := ⟨fun env σ H Fs Q R S hw k => by
  have hm : i ∈ c.ms := by simpa using hm
  rcases hw with ⟨es, he, fl, q⟩ | ⟨es, he, fl, q⟩
  · obtain ⟨v, hv, r⟩ := S.at_ i _ he
    obtain ⟨a, kvs, G, rfl, ha, rd, eF⟩ := r.asDic
    have z := rd.flat fl
    subst z
    have nj : ∀ j, j ≠ i → a ∉ Fs j := fun j ne => S.sep i hm j ne a (by rw [eF]; exact List.mem_singleton.mpr rfl)
    have ml : Mutb H a := .inr (.inl ⟨_, ha⟩)
    refine ⟨.ref a, hv.1 hi, a, _, rfl, ha, .inl ⟨True.intro, fun od => ?_⟩⟩
    have mls : ∀ x ∈ [a], Mutb H x := fun x hx => by
      rw [List.mem_singleton.mp hx]
      exact ml
    have kp : Kp [a] H (upd H a (.frz od (.dK kvs))) := Kp.upd List.mem_cons_self
    have rd2 : Rp c.K (upd H a (.frz od (.dK kvs))) [] (.ref a) (.fdc es) := .fdc upd_same (rd.kp kp mls fun _ z => nomatch z)
    have ef : Eff c.ms [i] Fs H (upF Fs i []) (upd H a (.frz od (.dK kvs))) := ⟨fun j hj => by
      rw [List.mem_singleton.mp hj]
      exact hm, by
      rw [List.flatMap_cons, List.flatMap_nil, List.append_nil, eF]
      exact kp, fun x hx => by
      by_cases z : x = a
      · rw [z, upd_same] at hx
        cases hx
      · rw [upd_ne z] at hx
        exact hx, fun j hj n => upF_ne fun z => n (List.mem_singleton.mpr z), fun j hj x hx => by
      by_cases z : j = i
      · rw [z, upF_self] at hx
        cases hx
      · rw [upF_ne z] at hx
        exact .inl hx⟩
    have S2 : Sr c (env.set i (some (.fdc es))) σ (upd H a (.frz od (.dK kvs))) (upF Fs i []) := ⟨by rw [List.length_set, S.le], S.ls, fun j d h => by
      by_cases z : j = i
      · subst z
        have hl : j < env.length := by
          rw [S.le]
          omega
        rw [List.getElem?_set_self hl] at h
        cases h
        rw [upF_self]
        exact ⟨.ref a, hv, rd2⟩
      · rw [List.getElem?_set_ne (Ne.symm z)] at h
        obtain ⟨v', h1, r'⟩ := S.at_ j d h
        rw [upF_ne z]
        exact ⟨v', h1, r'.kp kp mls fun x hx y => nj j z (by rw [← List.mem_singleton.mp y]; exact hx)⟩, fun j h => by
      by_cases z : j = i
      · rw [z, upF_self]
      · rw [upF_ne z]
        exact S.emp j fun d y => h d (by rw [List.getElem?_set_ne (Ne.symm z)]; exact y), fun j hj k' ne x hx => by
      by_cases z : j = i
      · rw [z, upF_self] at hx
        cases hx
      · rw [upF_ne z] at hx
        by_cases y : k' = i
        · rw [y, upF_self]
          exact fun h => nomatch h
        · rw [upF_ne y]
          exact S.sep j hj k' ne x hx, fun j hj => by
      by_cases z : j = i
      · rw [z, upF_self]
        exact List.nodup_nil
      · rw [upF_ne z]
        exact S.nd j hj, S.tb.at1 (S.tb.notmut ml), S.xk.eff ef⟩
    exact k _ _ [] _ _ (upF Fs i []) ⟨S2, ef, fun j hj x hx => by
      rw [upF_ne fun z => hj (by rw [z]; exact hm)] at hx
      exact hx⟩ rd2 .nil .nil q
  · obtain ⟨v, hv, r⟩ := S.at_ i _ he
    generalize hF : Fs i = F0 at r
    cases r with
    | @fdc _ a od us _ hd rd =>
      have z := rd.flat fl
      subst z
      refine ⟨.ref a, hv.1 hi, a, _, rfl, hd, .inr ?_⟩
      exact k _ _ [] env H Fs ((Ok0.refl S).weak (fun _ h => nomatch h) fun j hj => by rw [List.mem_singleton.mp hj]; exact hm) (.fdc hd rd) .nil .nil q⟩
end
/-! ### x[k] = e of an own dict, texts as keys -/
section
variable {c : Vc} {te ti : TE} {s e s' e' : List Nat} {ft f' : Option (List Nat)} {we wi : VW} {fx lo E : List Nat}
theorem Sr.ownDK {env : VEnv} {σ : L2.St} {H : Hp} {Fs : Fp} (S : Sr c env σ H Fs) {i : Nat} (hB : i < c.N) {es : List (Key × Val)} (fl : Val.flatAllD es = true) (he : env[i]? = some (some (.dic es))) : ∃ l kvs, σ[i]? = some (some (.ref l)) ∧ H l = some (.dK kvs) ∧ RpD c.K H [] kvs es ∧ Fs i = [l] := by
  obtain ⟨v, hv, r⟩ := S.at_ i _ he
  have hv := hv.1 hB
  obtain ⟨l, kvs, G, e, h1, rd, eF⟩ := r.asDic
  subst e
  have z := rd.flat fl
  subst z
  exact ⟨l, kvs, hv, h1, rd, eF⟩
def wDsetK (i : Nat) (we wi : VW) : VWS := fun R env => we env fun d env1 => ∃ m0, env1[i]? = some (some (.dic m0)) ∧ Val.flatAllD m0 = true ∧ wi env1 fun k env2 => ∃ es x, env2[i]? = some (some (.dic es)) ∧ Val.flatAllD es = true ∧ k = .str x ∧ d.flat = true ∧ es.length < 1000000 ∧ R.nx (env2.set i (some (.dic (putKV es (.inr x) d))))
theorem simS_dsetK {i : Nat} (h : SimE c te s ft e we) (h2 : SimE c ti s' f' e' wi) (hm : c.ms.contains i = true) (he : sub e E = true) (he' : sub e' E = true) (hi : E.contains i = true) (hE : sub E c.ms = true) (hB : Nat.blt i c.N = true := by rfl) : SimS c fx lo E (tAsg te (gSub (tVar i) ti rSetD)) (wDsetK i we wi) := ⟨fun env σ H Fs D R S hw n b ct rt =>
  h.sim env σ H Fs _ _ S hw fun v d F env1 H1 Fs1 o r sr fr q => by
    have hm : i ∈ c.ms := by simpa using hm
    have hi : i ∈ E := by simpa using hi
    obtain ⟨m0, he0, fl0, q⟩ := q
    obtain ⟨l, _, hv, hl0, _, _⟩ := o.sr.ownDK (lt_of_blt hB) fl0 he0
    refine ⟨_, hv, h2.sim env1 σ H1 Fs1 _ _ o.sr q fun y d2 F2 env2 H2 Fs2 o2 r2 sr2 fr2 q0 => ?_⟩
    obtain ⟨es, x, he2, fl, rfl, df, ml, q2⟩ := q0
    obtain ⟨l', kvs, hv', hl, rd, hF⟩ := o2.sr.ownDK (lt_of_blt hB) fl he2
    rw [hv] at hv'
    cases hv'
    have ey : y = .str x := by
      cases r2
      rfl
    subst ey
    have Fe : F = [] := r.flat df
    subst Fe
    have r3 : Rp c.K H2 [] v d := r.kp o2.ef.kp (o.sr.effm _) fun _ z => nomatch z
    have rd2 := RpD.put (k := .inr x) r3 rd
    have mL : ∀ a ∈ [l], Mutb H2 a := fun a ha => by
      rw [List.mem_singleton.mp ha]
      exact .inr (.inl ⟨_, hl⟩)
    have rd3 : RpD c.K (upd H2 l (.dK (putK kvs (.inr x) v))) [] (putK kvs (.inr x) v) (putKV es (.inr x) d) := rd2.kp (Kp.upd (L := [l]) List.mem_cons_self) mL fun _ z => nomatch z
    have o3 : Ok0 c [i] σ H2 Fs2 (env2.set i (some (.dic (putKV es (.inr x) d)))) (upd H2 l (.dK (putK kvs (.inr x) v))) (upF Fs2 i [l]) := mutO o2.sr (lt_of_blt hB) hm he2 hv hF (List.Sublist.refl []) (.dic upd_same rd3)
    refine ⟨l, _, rfl, DPut.k (k := .inr x) hl (small_lt (by rw [rd.len]; omega)), ?_⟩
    refine n _ _ _ _ (((o.trans o2).trans o3).ok2 ?_ hE) q2
    exact List.all_eq_true.mpr fun x hx => by
      rcases List.mem_append.mp hx with hx | hx
      · rcases List.mem_append.mp hx with hx | hx
        · simpa using sub_iff he x hx
        · simpa using sub_iff he' x hx
      · rw [List.mem_singleton.mp hx]
        simpa using hi⟩
end
/-! ### for k, x in enumerate(t[n]): x.append(e) — the lists of an own list change through the loop's name -/
section
variable {c : Vc} {te : TE} {s E fx lo : List Nat} {f0 : Option (List Nat)} {we : VW}
end
/-! ### a list within an own list of lists is appended to -/
section
variable {c : Vc} {ta te : TE} {sa s ea : List Nat} {fa f : Option (List Nat)} {wa we : VW}
end
/-! ### d.copy(); a list against an empty one; t + u; a sign not in a text -/
section
variable {c : Vc} {t ta te ti : TE} {s sa e ea s' e' : List Nat} {f fa f' : Option (List Nat)} {w wa we wi : VW}
/-! d.pop(k), d an own dict -/
/-! x[n].pop(), x[n].clear(), x an own list of lists -/
/-! xs == [], whatever stands in xs -/
theorem RpA.empty {K : PySem.W.Frag} {H : Hp} {F : List Addr} {us : List V} {xs : List Val} (h : RpA K H F us xs) : us.isEmpty = xs.isEmpty := by
  cases h <;> rfl
/-! t + u -/
theorem RpA.ne {K : PySem.W.Frag} {H : Hp} {F : List Addr} {us : List V} {xs : List Val} (h : RpA K H F us xs) (n : xs ≠ []) : us ≠ [] := fun z => n (by
  have := h.len
  rw [z] at this
  exact List.length_eq_zero_iff.mp this.symm)
/-! a sign in a text or not -/
def fInSg (neg : Bool) : Val → Val → (Val → Prop) → Prop
  | .str x, .str z, Q => ∃ cc : Nat, x = ⟨#[cc]⟩ ∧ Q (.bl (neg != decide (cc ∈ z.cps.toList)))
  | _, _, _ => False
def rInSg (neg : Bool) : R2 := fun x y H Q => ∃ (cc : Nat) (z : Str), x = .str ⟨#[cc]⟩ ∧ y = .str z ∧ Q (.bl (neg != decide (cc ∈ z.cps.toList))) H
theorem op_inSg {X : Cx} : OpR X (compareOp .In) (rInSg false) := fun pins s σ H x y v u Q I rx ry ⟨cc, z, a, b, q⟩ => op_in_sign pins s σ H x y v u Q I rx ry ⟨cc, z, a, b, by rwa [Bool.false_bne] at q⟩
theorem op_ninSg {X : Cx} : OpR X (compareOp .NotIn) (rInSg true) := fun pins s σ H x y v u Q I rx ry ⟨cc, z, a, b, q⟩ => op_notIn_sign pins s σ H x y v u Q I rx ry ⟨cc, z, a, b, by rwa [Bool.true_bne] at q⟩
theorem r2_inSg {K : PySem.W.Frag} {neg : Bool} : R2S K (rInSg neg) (fInSg neg) := fun H x y d e F G Q R h1 h2 h k => by
  cases d <;> try exact h.elim
  cases e <;> try exact h.elim
  obtain ⟨cc, rfl, q⟩ := h
  cases h1
  cases h2
  exact ⟨cc, _, rfl, rfl, k _ _ (.bl _) q⟩
/-! a text, some times over -/
end
/-! ### a call that changes an item of an own list -/
section
variable {c : Vc} {ti : TE} {si : List Nat} {fi : Option (List Nat)} {wi : VW} {ta : TA} {as : List Arg} {f : Option (List Nat)} {wa : VWA} {S : VSpec} {n : Nat}
end
/-! ### own arguments at the places 0 and 2 -/
section
variable {c : Vc} {ta : TA} {f : Option (List Nat)} {e s : List Nat} {wa : VWA} {S : VSpec} {n : Nat}
end
/-! ### x[k] = a new list, x an own list -/
section
variable {c : Vc} {te ti : TE} {s s' : List Nat} {f' : Option (List Nat)} {we wi : VW} {fx lo E : List Nat}
end
/-! ### own arguments at the places 0, 1, 2, 4 of five, and the store -/
section
variable {c : Vc} {ta : TA} {f : Option (List Nat)} {e s : List Nat} {wa : VWA} {S : VSpec}
end
/-! ### for x in xs: x.append(None), x.clear() — each list of an own list changes alike -/
section
variable {c : Vc} {E fx lo : List Nat}
/-- what a body does to the list at hand -/
structure Bdy (c : Vc) (b : Nat) (B : TS) (g : List V → List V) (gd : List Val → List Val) : Prop where
  go : ∀ (D : Ends) (σ : L2.St) (H : Hp) (l : Addr) (zs : List V), σ[b]? = some (some (.ref l)) → H l = some (.lst zs) → zs.length < 1000000 → D.nx σ (upd H l (.lst (g zs))) → B D σ H
  rp : ∀ (K : PySem.W.Frag) (H : Hp) (us : List V) (xs : List Val), RpA K H [] us xs → RpA K H [] (g us) (gd xs)
end
/-! ### data sorted; data in a list -/
section
variable {X : Cx}
end
section
variable {c : Vc}
/-- data among data -/
def fInD (neg : Bool) : Val → Val → (Val → Prop) → Prop := fun d e Q => ∃ xs : List Val, e = .lst xs ∧ d.okD ∧ e.okD ∧ Q (.bl (neg != xs.any fun z => PyData.eqv z.toD d.toD))
theorem any_toDs (p : PyData → Bool) : ∀ xs : List Val, (Val.toDs xs).any p = xs.any fun z => p z.toD
  | [] => rfl
  | x :: xs => by
    show (p x.toD || (Val.toDs xs).any p) = _
    rw [any_toDs p xs]
    rfl
theorem r2_inD {K : PySem.W.Frag} : R2S K (rInD K) (fInD false) := fun H x y d e F G Q R h1 h2 h k => by
  obtain ⟨xs, rfl, h3, h4, h⟩ := h
  rw [Bool.false_bne, ← any_toDs (fun z => PyData.eqv z d.toD)] at h
  exact ⟨_, _, h1.dp h3.1, h2.dp h4.1, h3.2, h4.2, k _ _ (.bl _) h⟩
end
theorem units65 {k : Nat} {A : Around} (r : Room k A) : A.units + 65 < cLine := by
  have := r.un
  omega
/-! ### texts of numbers, taken apart, put together -/
/-- the text of a whole number -/
def decL (i : Int) : List Nat := if i < 0 then 45 :: TL.numL i.natAbs else TL.numL i.natAbs
theorem ofString_S (x : String) : Str.ofString x = SX.S (x.toList.map Char.toNat) := TL.ext_tl (TL.tl_ofString x)
theorem dec_S (i : Int) : Str.ofString (toString i) = SX.S (decL i) := by
  unfold decL
  cases i with
  | ofNat n =>
    rw [if_neg (by exact Int.not_lt.mpr (Int.natCast_nonneg n))]
    exact SX.num_S n
  | negSucc n =>
    rw [if_pos (Int.negSucc_lt_zero n)]
    have h := SX.num_S (n + 1)
    have e : toString (Int.negSucc n) = "-" ++ toString ((n + 1 : Nat) : Int) := rfl
    rw [e, ofString_S, String.toList_append, List.map_append]
    have h2 : (toString ((n + 1 : Nat) : Int)).toList.map Char.toNat = TL.numL (n + 1) := by
      have := (ofString_S (toString ((n + 1 : Nat) : Int))).symm.trans h
      exact SX.S_inj this
    rw [h2]
    rfl
section
variable {c : Vc} {te tx : TE} {s e s' e' : List Nat} {f f' : Option (List Nat)} {we wx : VW}
def gStrI : List Val → (Val → Prop) → Prop := fun ds Q => ∃ i : Int, ds = [.int i] ∧ i.natAbs < 2 ^ 1900 ∧ Q (.str (SX.S (decL i)))
theorem log_lt {n : Nat} (h : n < 2 ^ 1900) : n.log2 < 1920 := by
  by_cases z : n = 0
  · rw [z]
    decide
  · have := (Nat.log2_lt z).mpr h
    omega
theorem cb_strI : CBS c (fun xs H Q => ∃ i, xs = [.int i] ∧ i.natAbs.log2 < 1920 ∧ Q (.str (toString i)) H) gStrI := fun σ H Fs as Gs vs ds Q R r h k => by
  obtain ⟨i, rfl, hl, h⟩ := h
  obtain ⟨v, F, e1, r1⟩ := r.one
  subst e1
  have ev := r1.int_eq
  subst ev
  refine ⟨i, rfl, log_lt hl, ?_⟩
  have e0 : (toString i : Str) = SX.S (decL i) := dec_S i
  rw [e0]
  exact k _ _ (.str _) h
def gIntS : List Val → (Val → Prop) → Prop := fun ds Q => ∃ (a : Str) (n : Int), ds = [.str a] ∧ intText? a = some n ∧ a.length ≤ 640 ∧ Q (.int n)
theorem cb_intS : CBS c (fun xs H Q => ∃ a n, xs = [.str a] ∧ PySem.intText? a = some n ∧ a.length ≤ 640 ∧ Q (.int n) H) gIntS := fun σ H Fs as Gs vs ds Q R r h k => by
  obtain ⟨a, n, rfl, hn, hl, h⟩ := h
  obtain ⟨v, F, e1, r1⟩ := r.one
  subst e1
  cases r1
  exact ⟨a, n, rfl, hn, hl, k _ _ (.int _) h⟩
def wJoinS (x : Str) (we : VW) : VW := fun env Q => we env fun d env1 => ∃ ys : List (List Nat), d = .lst (ys.map fun l => Val.str (SX.S l)) ∧ (ys.map List.length).sum + ys.length * x.length ≤ 1000000 ∧ Q (.str (SX.S (TL.joinL x.cps.toList ys))) env1
theorem simE_joinS {x : Str} (h : SimE c te s f e we) : SimE c (tBM c.K "str" (fun x xs H Q => ∃ a p, ∃ ys : List Str, x = .str a ∧ xs = [.ref p] ∧ (SqL c.K H p (ys.map V.str) ∨ SqT c.K H p (ys.map V.str)) ∧ (ys.map (·.length)).sum + ys.length * a.length ≤ 16777216 ∧ Q (.str (Txt.join a ys)) H) (tC (.str x)) (tCons te tNil)) [] (some []) e (wJoinS x we) := ⟨fun env σ H Fs Q R S hw k => by
  show tyV c.K "str" (.str x) H ∧ _
  refine ⟨rfl, h.sim env σ H Fs _ _ S hw fun v d F env1 H1 Fs1 o r sr fr ⟨ys, ed, hl, q⟩ => ?_⟩
  subst ed
  obtain ⟨l, us, G, el, h1, ra, _⟩ := r.asL
  subst el
  have eu : us = (ys.map SX.S).map V.str := by
    have e2 : (ys.map fun l => Val.str (SX.S l)) = (ys.map SX.S).map Val.str := by
      rw [List.map_map]
      rfl
    rw [e2] at ra
    exact rpa_strs' ra
  subst eu
  refine ⟨x, l, ys.map SX.S, rfl, rfl, .inl (SqL.of h1), ?_, ?_⟩
  · have e1 : ((ys.map SX.S).map (·.length)) = ys.map (·.length) := SX.lens ys
    rw [e1, List.length_map]
    exact Nat.le_trans hl (by decide)
  · have ex : Txt.join x (ys.map SX.S) = SX.S (TL.joinL x.cps.toList ys) := by
      have := SX.join_S x.cps.toList ys
      rwa [SX.S_tl] at this
    rw [ex]
    exact k _ _ [] env1 H1 Fs1 o (.str _) .nil .nil q⟩
/-- x.split(y), y a constant -/
def wSplit (y : Str) (we : VW) : VW := fun env Q => we env fun d env1 => ∃ x : Str, d = .str x ∧ x.length ≤ 1000000 ∧ Q (.lst ((TL.spl y.cps.toList 0 [] x.cps.toList).map fun l => Val.str (SX.S l))) env1
def rSplit : V → List V → Hp → VK → Prop := fun x xs H Q => ∃ a b, x = .str a ∧ xs = [.str b] ∧ (b.length == 0) = false ∧ a.length + 2 ≤ sizeLine ∧ rNewStrs (Txt.split a b) H Q
theorem simE_split {y : Str} (h : SimE c te s f e we) (hy : (y.length == 0) = false := by rfl) (hk : y.cps.toList.all (· < 256) = true := by rfl) : SimE c (tBM c.K "str" rSplit te (tCons (tC (.str y)) tNil)) [] (some []) e (wSplit y we) := ⟨fun env σ H Fs Q R S hw k =>
  h.sim env σ H Fs _ _ S hw fun v d F env1 H1 Fs1 o r sr fr q0 => by
    obtain ⟨x, rfl, hl, q⟩ := q0
    cases r
    show tyV c.K "str" (.str x) H1 ∧ _
    have yne : y.cps.toList ≠ [] := fun z => by
      have : y.length = 0 := by
        show y.cps.size = 0
        rw [← Array.length_toList, z]
        rfl
      rw [this] at hy
      cases hy
    have es : Txt.split x y = (TL.spl y.cps.toList 0 [] x.cps.toList).map SX.S := by
      have := SX.split_S (a := x.cps.toList) yne hk
      rwa [SX.S_tl, SX.S_tl] at this
    refine ⟨rfl, x, y, rfl, rfl, hy, Nat.le_trans (Nat.add_le_add_right hl 2) (by decide), fun p np => ?_⟩
    obtain ⟨gp, sp⟩ := upd_at (o := .lst ((Txt.split x y).map V.str)) np
    have e2 : ((TL.spl y.cps.toList 0 [] x.cps.toList).map fun l => Val.str (SX.S l)) = (Txt.split x y).map Val.str := by
      rw [es, List.map_map]
      rfl
    rw [e2] at q
    refine k _ (.lst ((Txt.split x y).map Val.str)) [p] env1 _ Fs1 (o.grow sp) (.lst gp (rpa_strs _)) (fun a ha j hj _ z => ?_) (fun mv e => ?_) q
    · rw [List.mem_singleton.mp ha] at z
      exact (o.sr.mutb j p z).ex np
    · cases e
      exact ⟨by simp, fun a ha => .inl (by rw [List.mem_singleton.mp ha]; exact o.ef.gr p np)⟩⟩
/-- x.startswith(y), y a constant -/
def wStarts (y : Str) (we : VW) : VW := fun env Q => we env fun d env1 => ∃ x : Str, d = .str x ∧ Q (.bl (Txt.startswith x y)) env1
def rStarts : V → List V → Hp → VK → Prop := fun x xs H Q => ∃ a b, x = .str a ∧ xs = [.str b] ∧ Q (.bl (Txt.startswith a b)) H
theorem simE_starts {y : Str} (h : SimE c te s f e we) : SimE c (tBM c.K "str" rStarts te (tCons (tC (.str y)) tNil)) [] (some []) e (wStarts y we) := ⟨fun env σ H Fs Q R S hw k =>
  h.sim env σ H Fs _ _ S hw fun v d F env1 H1 Fs1 o r sr fr q0 => by
    obtain ⟨x, rfl, q⟩ := q0
    cases r
    show tyV c.K "str" (.str x) H1 ∧ _
    exact ⟨rfl, x, y, rfl, rfl, k _ (.bl _) [] env1 H1 Fs1 o (.bl _) .nil .nil q⟩⟩
end
section
variable {c : Vc}
/-- the parts of an f-string, one behind the other -/
def wJs : List VW → List Nat → VEnv → (List Nat → VEnv → Prop) → Prop
  | [], acc, env, Q => Q acc env
  | w :: ws, acc, env, Q => w env fun d env1 => ∃ y : Str, d = .str y ∧ acc.length + y.length ≤ 1000000 ∧ wJs ws (acc ++ y.cps.toList) env1 Q
inductive SimJ (c : Vc) : List TE → List VW → List Nat → Prop where
  | nil : SimJ c [] [] []
  | cons {te : TE} {s e es : List Nat} {f : Option (List Nat)} {we : VW} {ts : List TE} {ws : List VW} (h : SimE c te s f e we) (r : SimJ c ts ws es) : SimJ c (te :: ts) (we :: ws) (e ++ es)
theorem SimJ.run {ts : List TE} {ws : List VW} {es : List Nat} (h : SimJ c ts ws es) : ∀ (acc : List Nat) (env : VEnv) (σ : L2.St) (H : Hp) (Fs : Fp) (Q : Str → Hp → Prop) (R : List Nat → VEnv → Prop), Sr c env σ H Fs → wJs ws acc env R →
    (∀ out env1 H1 Fs1, Ok0 c es σ H Fs env1 H1 Fs1 → R out env1 → Q (SX.S out) H1) → tJs ts (SX.S acc) σ H Q := by
  induction h with
  | nil =>
    intro acc env σ H Fs Q R S hw k
    exact k acc env H Fs (Ok0.refl S) hw
  | @cons te s e es f we ts ws he r ih =>
    intro acc env σ H Fs Q R S hw k
    refine he.sim env σ H Fs _ _ S hw fun v d F env1 H1 Fs1 o r1 sr fr q0 => ?_
    obtain ⟨y, rfl, hl, q⟩ := q0
    cases r1
    have e1 : SX.S acc ++ y = SX.S (acc ++ y.cps.toList) := by
      have := SX.S_cat acc y.cps.toList
      rwa [SX.S_tl] at this
    refine ⟨y, rfl, ?_, ?_⟩
    · rw [e1, SX.S_len, List.length_append]
      have : y.cps.toList.length = y.length := Array.length_toList
      exact small_le (by omega)
    · rw [e1]
      exact ih _ env1 σ H1 Fs1 Q R o.sr q fun out env2 H2 Fs2 o2 q2 => k out env2 H2 Fs2 (o.trans o2) q2
end
/-! ### a tuple of a new list's flat items -/
section
variable {c : Vc} {te : TE} {s e : List Nat} {f : Option (List Nat)} {we : VW}
def wTupOf (we : VW) : VW := fun env Q => we env fun d env1 => ∃ xs : List Val, d = .lst xs ∧ Val.flatAll xs = true ∧ Q (.tup xs) env1
def rTupOf (K : PySem.W.Frag) : List V → Hp → VK → Prop := fun xs H Q => ∃ p ys, xs = [.ref p] ∧ ((SqL K H p ys ∧ ∀ l, H l = none → Q (.ref l) (upd H l (.tup ys))) ∨ (SqT K H p ys ∧ Q (.ref p) H))
theorem simE_tupOf (h : SimE c te s f e we) : SimE c (tCB (rTupOf c.K) (tCons te tNil)) [] (some []) e (wTupOf we) := ⟨fun env σ H Fs Q R S hw k =>
  h.sim env σ H Fs _ _ S hw fun v d F env1 H1 Fs1 o r sr fr q0 => by
    obtain ⟨xs, rfl, fl, q⟩ := q0
    obtain ⟨l, us, G, rfl, hl, ra, _⟩ := r.asL
    have z := ra.flat fl
    subst z
    refine ⟨l, us, rfl, .inl ⟨SqL.of hl, fun p np => ?_⟩⟩
    obtain ⟨gp, sp⟩ := upd_at (o := .tup us) np
    exact k _ (.tup xs) [] env1 _ Fs1 (o.grow sp) (.tup gp (ra.same sp)) .nil .nil q⟩
end
/-! ### the truth of a text -/
section
variable {c : Vc} {t : TE} {s e : List Nat} {f : Option (List Nat)} {w : VW}
def wTruS (w : VW) : VWT := fun env Q => w env fun d env' => ∃ x : Str, d = .str x ∧ x.length ≤ 1000000 ∧ Q (!x.cps.toList.isEmpty) env'
theorem simT_truthS (h : SimE c t s f e w) : SimT c (fun σ H Q => t σ H fun x H' => ∃ k, TruV c.K x H' k ∧ Q k H') e (wTruS w) := ⟨fun env σ H Fs Q R S hw k => h.sim env σ H Fs _ _ S hw fun v d F env' H' Fs' o r _ _ q => by
  obtain ⟨x, rfl, hl, q⟩ := q
  cases r
  refine ⟨_, ⟨small_le hl, ?_⟩, k _ env' H' Fs' o q⟩
  obtain ⟨⟨l⟩⟩ := x
  cases l with
  | nil => rfl
  | cons a r =>
    show (!(a :: r).isEmpty) = (((SX.S (a :: r)).length : Int) != 0)
    rw [SX.S_len, List.length_cons]
    show true = _
    symm
    rw [bne_iff_ne]
    omega⟩
end
/-! ### t[::-1] of a tuple of two -/
section
variable {prog : Program} {w : World} {A : Around} {E : Value → Shared → Prop} {s : Shared}
end
section
variable {X : Cx}
end
section
variable {c : Vc} {t : TE} {s e : List Nat} {f : Option (List Nat)} {w : VW}
end
/-! ### a comprehension of new lists whose element changes own ones -/
section
variable {c : Vc} {fx vs ei ee : List Nat} {ti : TI} {wi : VWI} {g : TG} {wg : VWG} {tt : TT} {wt : VWT} {te : TE} {we : VW}
end
/-! ### != of two values that may be dicts, which are alike; a slot of one's own given under try -/
def rNeT (K : PySem.W.Frag) : R2 := fun x y H Q => rNeD K x y H Q ∨ ∃ a b ks ls, x = .ref a ∧ y = .ref b ∧ H a = some (.dK ks) ∧ H b = some (.dK ls) ∧ ks.length = ls.length ∧ (∀ p ∈ ks, ∃ u d, valV ls p.1 = some u ∧ Dp K H p.2 d ∧ Dp K H u d ∧ SeqAt.shaped d = true) ∧ Q (.bl false) H
section
variable {X : Cx} {pins : List (Addr × Obj)} {σ : L2.St} {H : Hp} {s : Shared}
theorem hits_deep (I : Inv X pins σ H s) {A : Around} (hu : A.units + 64 < cLine) {ls : List (Key × V)} {vb : List (Key × Value)} (rb : KV ls vb) {ks : List (Key × V)} {va : List (Key × Value)} (ra : KV ks va) :
    (∀ p ∈ ks, ∃ u d, valV ls p.1 = some u ∧ Dp X.K H p.2 d ∧ Dp X.K H u d ∧ SeqAt.shaped d = true) → PySem.W.KeqHits A s vb va true := by
  unfold KV at ra
  induction ra with
  | nil => intro _; exact .nil
  | @cons p q ps qs h t ih =>
    intro hp
    obtain ⟨h1, h2⟩ := h
    obtain ⟨u, d, e, d1, d2, sh⟩ := hp p List.mem_cons_self
    have rr : RelO (some u) (valueAt vb p.1) := by rw [← e]; exact rb.val p.1
    obtain ⟨y, hy, ry⟩ := rr.some_of
    obtain ⟨k, v⟩ := q
    have h1' : p.1 = k := h1
    rw [h1'] at hy
    obtain ⟨as, r1⟩ := Dp.reads I d _ _ d1 h2
    obtain ⟨bs, r2⟩ := Dp.reads I d _ _ d2 ry
    have ea := SeqAt.eqAt_reads d d A s v y as bs r1 r2 (SeqAt.canLay_of_shaped sh) (SeqAt.canLay_of_shaped sh) (SeqAt.room_of_shaped sh hu)
    rw [PySem.SeqAt.eqv_refl _ (SeqAt.canLay_of_shaped sh)] at ea
    show PySem.W.KeqHits A s vb ((k, v) :: qs) (true && true)
    exact .hit hy ea (ih fun p' hm => hp p' (List.mem_cons_of_mem _ hm))
end
theorem op_neT {X : Cx} (hu : X.A.units + 65 < cLine) : OpR X (compareOp .NotEq) (rNeT X.K) := by
  intro pins s σ H x y v u Q I rx ry h
  rcases h with h | ⟨a, b, ks, ls, rfl, rfl, ea, eb, hlen, hp, q⟩
  · exact op_neD (by omega) pins s σ H x y v u Q I rx ry h
  obtain rfl : v = Value.ref a := rx
  obtain rfl : u = Value.ref b := ry
  obtain ⟨_, ya, va, ra, da⟩ := (show ObjOk X.prog X.w H s.heap a (.dK ks) from I.hok a _ ea)
  obtain ⟨_, yb, vb, rb, db⟩ := (show ObjOk X.prog X.w H s.heap b (.dK ls) from I.hok b _ eb)
  have hl : va.length = vb.length := by rw [← ra.length, ← rb.length]; exact hlen
  have hu1 : X.A.in1.units + 64 < cLine := by
    show X.A.units + 1 + 64 < cLine
    omega
  exact PySem.W.keq_ne (knd := mixKind X.prog X.w) (r := true) ya yb da db (by omega) (fun _ => hits_deep I hu1 rb ra hp) (fin_bl I q (by simp [hl]))
def fNeT : Val → Val → (Val → Prop) → Prop := fun d e Q => fEqD true d e Q ∨ ∃ es es', d = .dic es ∧ e = .dic es' ∧ es.length = es'.length ∧ (∀ p ∈ es, getKV es' p.1 = some p.2 ∧ p.2.okD) ∧ Q (.bl false)
theorem RpD.each {K : PySem.W.Frag} {H : Hp} : ∀ {F : List Addr} {us : List (Key × V)} {es : List (Key × Val)}, RpD K H F us es → ∀ p ∈ us, ∃ q ∈ es, ∃ G, p.1 = q.1 ∧ Rp K H G p.2 q.2
  | _, _, _, .nil => fun _ h => nomatch h
  | _, _, _, .cons r t => fun p hp => by
    rcases List.mem_cons.mp hp with e | h
    · rw [e]
      exact ⟨_, List.mem_cons_self, _, rfl, r⟩
    · obtain ⟨q, hq, G, e, r2⟩ := RpD.each t p h
      exact ⟨q, List.mem_cons_of_mem _ hq, G, e, r2⟩
theorem r2_neT {K : PySem.W.Frag} : R2S K (rNeT K) fNeT := fun H x y d e F G Q R h1 h2 h k => by
  rcases h with h | ⟨es, es', rfl, rfl, hl, hp, q⟩
  · exact .inl (r2_neD H x y d e F G Q R h1 h2 h k)
  obtain ⟨a, us, F1, rfl, ha, r1, _⟩ := h1.asDic
  obtain ⟨b, ws, F2, rfl, hb, r2, _⟩ := h2.asDic
  refine .inr ⟨a, b, us, ws, rfl, rfl, ha, hb, by rw [r1.len, r2.len, hl], fun p hpm => ?_, k _ _ (.bl _) q⟩
  obtain ⟨z, hz, G1, ek, rz⟩ := r1.each p hpm
  obtain ⟨g, ok⟩ := hp z hz
  obtain ⟨v, G2, hv, rv⟩ := (r2.look (k := z.1)).1 _ g
  exact ⟨v, _, by rw [ek]; exact hv, rz.dp ok.1, rv.dp ok.1, ok.2⟩
section
variable {c : Vc} {tc : (L2.St → XK) → TE} {e E : List Nat} {wc : (Value → Prop) → VW}
theorem simW_setO {i : Nat} (h : SimC c tc e wc) (hi : i < c.N) (hm : c.ms.contains i = true) (hiE : E.contains i = true) (he : sub e E = true) (hE : sub E c.ms = true) : SimW c E (fun W => tAsg (tc (WE W)) (gName i)) (fun xe => wSetO i (wc xe)) := ⟨fun W xe env σ H Fs D R S hw hx n =>
  h.sim xe (WE W) env σ H Fs _ _ S hw hx fun v d F env1 H1 Fs1 o r sr fr q => by
    have hm : i ∈ c.ms := by simpa using hm
    have hiE : i ∈ E := by simpa using hiE
    obtain ⟨nd, new⟩ := fr [] rfl
    have new : ∀ a ∈ F, H a = none := fun a ha => (new a ha).elim id fun ⟨_, h, _⟩ => nomatch h
    have ef := o.ef.mono (sub_iff he) (sub_iff hE)
    have ef2 : Eff c.ms E Fs H (upF Fs1 i F) H1 := ⟨ef.sub, ef.kp, ef.gr, fun j hj nn => by
      rw [upF_ne fun z => nn (by rw [z]; exact hiE)]
      exact ef.out j hj nn, fun j hj a ha => by
      by_cases z : j = i
      · subst z
        rw [upF_self] at ha
        exact .inr (new a ha)
      · rw [upF_ne z] at ha
        exact ef.foot j hj a ha⟩
    refine n _ _ H1 (upF Fs1 i F) ⟨o.sr.put hi r (fun _ => ⟨nd, fun j hj a ha z => ?_⟩) (sr.mono fun _ h => nomatch h) (S.xk.eff ef2), ef2, fun j hj => nomatch hj⟩ q
    by_cases y : j ∈ c.ms
    · exact sr a ha j y (fun h => nomatch h) z
    · exact (S.mutb j a (o.vl j y a z)).ex (new a ha)⟩
end
theorem r2_ltS {K : PySem.W.Frag} : R2S K (fun x y H Q => ∃ i j, x = .str i ∧ y = .str j ∧ Q (.bl (decide (i.cps.toList < j.cps.toList))) H) (fStrB fun a b => decide (a < b)) := fun H x y d e F G Q R h1 h2 h k => by
  unfold fStrB at h
  cases d <;> try exact h.elim
  cases e <;> try exact h.elim
  cases h1
  cases h2
  exact ⟨_, _, rfl, rfl, k _ _ (.bl _) h⟩
theorem okN_up {n m : Nat} {v : Val} (h : okN n v) (l : n ≤ m) : okN m v := ⟨h.1, h.2.1, Nat.le_trans h.2.2 l⟩
/-! ### a turn while lists stand in slots: the store holds instances alone -/
mutual
def Val.noG : Val → Bool
  | .tup xs => Val.noGs xs
  | .lst xs => Val.noGs xs
  | .frz xs => Val.noGs xs
  | .dic es => Val.noGd es
  | .fdc es => Val.noGd es
  | .gho _ => false
  | _ => true
def Val.noGs : List Val → Bool
  | [] => true
  | x :: xs => x.noG && Val.noGs xs
def Val.noGd : List (Key × Val) → Bool
  | [] => true
  | x :: xs => x.2.noG && Val.noGd xs
end
def LD (H : Hp) (a : Addr) : Prop := (∃ xs, H a = some (.lst xs)) ∨ ∃ kvs, H a = some (.dK kvs)
mutual
theorem Rp.ld {K : PySem.W.Frag} {H : Hp} : ∀ {F : List Addr} {v : V} {d : Val}, Rp K H F v d → d.noG = true → ∀ a ∈ F, LD H a
  | _, _, _, .non, _, _, h => nomatch h
  | _, _, _, .bl _, _, _, h => nomatch h
  | _, _, _, .int _, _, _, h => nomatch h
  | _, _, _, .str _, _, _, h => nomatch h
  | _, _, _, .ty _, _, _, h => nomatch h
  | _, _, _, .opq _, _, _, h => nomatch h
  | _, _, _, .exc _, _, _, h => nomatch h
  | _, _, _, .tup _ r, n, a, ha => RpA.ld r n a ha
  | _, _, _, .lst h r, n, a, ha => (List.mem_cons.mp ha).elim (fun e => e ▸ .inl ⟨_, h⟩) fun z => RpA.ld r n a z
  | _, _, _, .frz _ r, n, a, ha => RpA.ld r n a ha
  | _, _, _, .dic h r, n, a, ha => (List.mem_cons.mp ha).elim (fun e => e ▸ .inr ⟨_, h⟩) fun z => RpD.ld r n a z
  | _, _, _, .fdc _ r, n, a, ha => RpD.ld r n a ha
  | _, _, _, .gho _ f r, n, a, ha => nomatch n
theorem RpA.ld {K : PySem.W.Frag} {H : Hp} : ∀ {F : List Addr} {vs : List V} {ds : List Val}, RpA K H F vs ds → Val.noGs ds = true → ∀ a ∈ F, LD H a
  | _, _, _, .nil, _, _, h => nomatch h
  | _, _, _, .cons (d := d) (ds := ds) h r, n, a, ha =>
    have n : (d.noG && Val.noGs ds) = true := n
    (List.mem_append.mp ha).elim (fun z => Rp.ld h (Bool.and_eq_true _ _ ▸ n).1 a z) fun z => RpA.ld r (Bool.and_eq_true _ _ ▸ n).2 a z
theorem RpD.ld {K : PySem.W.Frag} {H : Hp} : ∀ {F : List Addr} {vs : List (Key × V)} {ds : List (Key × Val)}, RpD K H F vs ds → Val.noGd ds = true → ∀ a ∈ F, LD H a
  | _, _, _, .nil, _, _, h => nomatch h
  | _, _, _, .cons (d := d) (es := es) h r, n, a, ha =>
    have n : (d.noG && Val.noGd es) = true := n
    (List.mem_append.mp ha).elim (fun z => Rp.ld h (Bool.and_eq_true _ _ ▸ n).1 a z) fun z => RpD.ld r (Bool.and_eq_true _ _ ▸ n).2 a z
end
def InsOnly (g : GS) : Prop := ∀ a c, g a = some c → ∃ C fs, c = .ins C fs
section
variable {K : PySem.W.Frag} {Ps : TL} {N : Nat} {E : XK} {xe : Value → Prop} {t : TS} {w : VWS}
end
/-! ### one that looks first, may raise while it looks, then changes the store and returns a flat value -/
structure SimR (K : PySem.W.Frag) (Ps : TL) (N : Nat) (E : XK) (xe : Value → Prop) (t : TS) (w : VWS) : Prop where
  sim : ∀ (env : VEnv) (σ : L2.St) (H : Hp) (Fs : Fp) (D : Ends) (R : VEnds), Sr ⟨K, Ps, [], N, E, xe, false, 1⟩ env σ H Fs → w R env →
    (∀ env' σ' H' Fs' g, Sr ⟨K, Ps, [N], N, E0, fun _ => False, false, 1⟩ env' σ' H' Fs' → env[N]? = some (some (.gho g)) → Kp (Fs N) H H' → (∀ a, H' a = none → H a = none) → (∀ a ∈ Fs' N, a ∈ Fs N ∨ H a = none) → R.nx env' → D.nx σ' H') →
    (∀ v d env' σ' H' Fs' g, Sr ⟨K, Ps, [N], N, E0, fun _ => False, false, 1⟩ env' σ' H' Fs' → env[N]? = some (some (.gho g)) → Kp (Fs N) H H' → (∀ a, H' a = none → H a = none) → (∀ a ∈ Fs' N, a ∈ Fs N ∨ H a = none) → Rp K H' [] v d → R.rt d env' → D.rt v H') → t D σ H
section
variable {K : PySem.W.Frag} {Ps : TL} {N n : Nat} {E : XK} {xe : Value → Prop} {s t : TS} {w w' : VWS} {S : VSpec}
def wLookR (w w' : VWS) : VWS := fun R env => w { nx := fun env1 => env1[env.length - 1]? = env[env.length - 1]? ∧ w' R env1, rt := fun _ _ => False } env
theorem simR_seq (h1 : SimS ⟨K, Ps, [], N, E, xe, false, 1⟩ [] [] [] s w) (h2 : SimR K Ps N E xe t w') : SimR K Ps N E xe (tSeq s t) (wLookR w w') := ⟨fun env σ H Fs D R S hw n rt => by
  have lN : env.length - 1 = N := by rw [S.le]; rfl
  refine h1.sim env σ H Fs _ _ S hw (fun env1 σ1 H1 Fs1 o ⟨e1, q⟩ => ?_) (fun _ _ _ _ _ h => h.elim) (fun _ _ _ _ _ h => h.elim) (fun _ _ _ _ _ _ _ _ _ h => h.elim)
  rw [lN] at e1
  have k0 : Kp [] H H1 := by
    have := o.ef.kp
    rwa [List.flatMap_nil] at this
  have sub : ∀ g, env1[N]? = some (some (.gho g)) → ∀ a, a ∈ Fs1 N → a ∈ Fs N := fun g eg a ha => by
    have eg0 : env[N]? = some (some (.gho g)) := by rw [← e1]; exact eg
    exact ((S.gh (c := ⟨K, Ps, [], N, E, xe, false, 1⟩) eg0).2.1 a).mpr (((o.sr.gh (c := ⟨K, Ps, [], N, E, xe, false, 1⟩) eg).2.1 a).mp ha)
  have ft' : ∀ g, env1[N]? = some (some (.gho g)) → ∀ Fs' : Fp, (∀ a ∈ Fs' N, a ∈ Fs1 N ∨ H1 a = none) → ∀ a ∈ Fs' N, a ∈ Fs N ∨ H a = none := fun g eg Fs' ft a ha => by
    rcases ft a ha with z | z
    · exact .inl (sub g eg a z)
    · exact .inr (o.ef.gr a z)
  refine h2.sim env1 σ1 H1 Fs1 _ R o.sr q (fun env' σ' H' Fs' g s2 eg kp gr ft q2 => ?_) (fun v d env' σ' H' Fs' g s2 eg kp gr ft r q2 => ?_)
  · exact n env' σ' H' Fs' g s2 (by rw [← e1]; exact eg) ((k0.mono fun _ h => nomatch h).trans (kp.mono (sub g eg))) (fun a z => o.ef.gr a (gr a z)) (ft' g eg Fs' ft) q2
  · exact rt v d env' σ' H' Fs' g s2 (by rw [← e1]; exact eg) ((k0.mono fun _ h => nomatch h).trans (kp.mono (sub g eg))) (fun a z => o.ef.gr a (gr a z)) (ft' g eg Fs' ft) r q2⟩
def wTurnR (w : VWS) : VWS := fun R env => (∀ j d, j < env.length - 1 → env[j]? = some (some d) → d.noG = true) ∧ (∃ g, env[env.length - 1]? = some (some (.gho g)) ∧ InsOnly g) ∧ w { nx := R.nx, rt := fun d env => d.flat = true ∧ R.rt d env } env
theorem simR_in {Ef : List Nat} (h : SimS ⟨K, Ps, [N], N, E0, fun _ => False, false, 1⟩ [] [] Ef t w) : SimR K Ps N E xe t (wTurnR w) := ⟨fun env σ H Fs D R S ⟨fl, ⟨g, eg, io⟩, hw⟩ n rt => by
  have lN : env.length - 1 = N := by rw [S.le]; rfl
  rw [lN] at fl eg
  obtain ⟨nd, mem, cells⟩ := S.gh (c := ⟨K, Ps, [], N, E, xe, false, 1⟩) eg
  have F0 : ∀ j, j ≠ N → ∀ a ∈ Fs j, LD H a := fun j hj a ha => by
    by_cases z : ∃ d, env[j]? = some (some d)
    · obtain ⟨d, hd⟩ := z
      obtain ⟨v, _, r⟩ := S.at_ j d hd
      have jl := (List.getElem?_eq_some_iff.mp hd).1
      have e1 : env.length = N + 1 := S.le
      exact r.ld (fl j d (by omega) hd) a ha
    · rw [S.emp j fun d hd => z ⟨d, hd⟩] at ha
      cases ha
  have FN : ∀ a ∈ Fs N, ∃ C dx us, H a = some (.ins C dx us) := fun a ha => by
    obtain ⟨c, hc⟩ := (mem a).mp ha
    obtain ⟨C, fs, rfl⟩ := io a c hc
    cases cells a _ hc with
    | ins h _ _ => exact ⟨_, _, _, h⟩
  have S2 : Sr ⟨K, Ps, [N], N, E0, fun _ => False, false, 1⟩ env σ H Fs := ⟨S.le, S.ls, S.at_, S.emp, (fun i hi j hj a ha z => by
    have hi : i ∈ [N] := hi
    rw [List.mem_singleton.mp hi] at hj ha
    obtain ⟨C, dx, us, h1⟩ := FN a ha
    rcases F0 j hj a z with ⟨xs, h2⟩ | ⟨ks, h2⟩ <;> (rw [h1] at h2; cases h2)), (fun i hi => by
    have hi : i ∈ [N] := hi
    rw [List.mem_singleton.mp hi]
    exact nd), S.tb, fun _ _ _ _ _ z => z.elim⟩
  have kk : ∀ {Fs1 : Fp} {H1 : Hp}, Eff [N] Ef Fs H Fs1 H1 → Kp (Fs N) H H1 := fun ef => ef.kp.mono fun a ha => by
    obtain ⟨j, hj, z⟩ := List.mem_flatMap.mp ha
    have : j = N := List.mem_singleton.mp (ef.sub j hj)
    rw [this] at z
    exact z
  refine h.sim env σ H Fs _ _ S2 hw (fun env1 σ1 H1 Fs1 o q => ?_) (fun _ _ _ _ _ h => h.elim) (fun _ _ _ _ _ h => h.elim) (fun v d F env1 σ1 H1 Fs1 o r ⟨fd, q⟩ => ?_)
  · exact n env1 σ1 H1 Fs1 g o.sr eg (kk o.ef) o.ef.gr (fun a ha => o.ef.foot N (List.mem_singleton.mpr rfl) a ha) q
  · have e0 := r.rp.flat fd
    subst e0
    exact rt v d env1 σ1 H1 Fs1 g o.sr eg (kk o.ef) o.ef.gr (fun a ha => o.ef.foot N (List.mem_singleton.mpr rfl) a ha) r.rp q⟩
theorem vfnPR {vs : List V} {H : Hp} {Q : VK} {Nm : List Str} {w : (Value → Prop) → VWS} (h : vspG K Ps [] n S vs H Q E) (hN : Nm.length = N) (hn : n ≤ N) (sim : ∀ xe, SimR K Ps N E xe t (w xe))
    (hw : ∀ ds Qc Xc, S ds Qc Xc → w Xc (endsV (UG0 N) Qc) (env0G N n ds)) : t { nx := fun _ H' => Q .non H', rt := Q } (L2.start Nm vs) H := by
  obtain ⟨ds, Fs, s, hS⟩ := h
  have lv : vs.length = n := by have := s.ls; rwa [List.length_map] at this
  have S0 := sr_bodyG (own := [] ++ [n]) (own' := []) (lo := []) (N := N) (Nm := Nm) (E := E) (xe := fun cls => ∀ H', Kp [] H H' → (∀ a, H' a = none → H a = none) → Tb Ps H' → E cls none H') (al := false) s hN hn (fun _ h => nomatch h) (fun _ h => nomatch h) (fun cls H' Fs' ef tb hx => hx H' (by have := ef.kp; rwa [show ([] ++ [] : List Nat).flatMap (mvF n N Fs) = [] from rfl] at this) ef.gr tb)
  have fin : ∀ (v : V) (d : Val) (env' : VEnv) (σ' : L2.St) (H' : Hp) (Fs' : Fp), Sr ⟨K, Ps, [N], N, E0, fun _ => False, false, 1⟩ env' σ' H' Fs' → Kp (mvF n N Fs N) H H' → (∀ a, H' a = none → H a = none) → (∀ a ∈ Fs' N, a ∈ mvF n N Fs N ∨ H a = none) → Rp K H' [] v d →
      (∃ ds', UG0 N env' = some ds' ∧ (fun ds' r => ∀ H' v F Gs', OutOk K Ps ([] ++ [n]) (vs ++ [.non]) Fs H (padG [] n ds') Gs' H' → Rp K H' F v r → F.Nodup → (∀ a ∈ F, H a = none ∧ ∀ p ∈ ([] ++ [n] : List Nat), a ∉ Gs' p) → Q v H') ds' d) → Q v H' := fun v d env' σ' H' Fs' s2 kp gr ft rv hh => by
    obtain ⟨ds', hu, q⟩ := hh
    unfold UG0 at hu
    split at hu
    · rename_i g' hg'
      cases hu
      rw [mvF_N hn] at kp
      have ft2 : ∀ a ∈ Fs' N, a ∈ Fs n ∨ H a = none := fun a ha => by
        have := ft a ha
        rwa [mvF_N hn] at this
      obtain ⟨u, hv, r⟩ := s2.at_ N _ hg'
      have ev := hv.2 (Nat.le_refl _)
      subst ev
      refine q H' v [] (bkF n N Fs') ⟨fun p hp => ?_, fun p hp => ?_, fun p hp p' hp' ne => ?_, ⟨fun _ z => z, kp.mono fun a ha => ?_, gr, fun j hj nn => absurd hj nn, fun j hj a ha => ?_⟩, s2.tb⟩ rv List.nodup_nil fun _ h => nomatch h
      · have e : p = n := List.mem_singleton.mp hp
        subst e
        exact ⟨.non, g', by rw [List.getElem?_append_right (by omega), lv, Nat.sub_self]; rfl, padG_n rfl, by rw [bkF_n]; exact r⟩
      · have e : p = n := List.mem_singleton.mp hp
        subst e
        rw [bkF_n]
        exact s2.nd N (List.mem_singleton.mpr rfl)
      · have e : p = n := List.mem_singleton.mp hp
        have e' : p' = n := List.mem_singleton.mp hp'
        exact absurd (e'.trans e.symm) ne
      · exact List.mem_flatMap.mpr ⟨n, List.mem_singleton.mpr rfl, ha⟩
      · have e : j = n := List.mem_singleton.mp hj
        subst e
        rw [bkF_n] at ha
        exact ft2 a ha
    · cases hu
  refine (sim _).sim (env0G N n ds) (L2.start Nm vs) H (mvF n N Fs) _ _ S0 (hw ds _ _ hS) (fun env' σ' H' Fs' g s2 eg kp gr ft q => ?_) (fun v d env' σ' H' Fs' g s2 eg kp gr ft r q => ?_)
  · exact fin .non .non env' σ' H' Fs' s2 kp gr ft .non (endsV_nx (U := UG0 N) q)
  · exact fin v d env' σ' H' Fs' s2 kp gr ft r (endsV_rt (U := UG0 N) q)
end
/-- sep.join(xs), within a block -/
abbrev rJoin (K : PySem.W.Frag) : V → List V → Hp → VK → Prop := fun x xs H Q => ∃ a p, ∃ ys : List Str, x = .str a ∧ xs = [.ref p] ∧ (SqL K H p (ys.map V.str) ∨ SqT K H p (ys.map V.str)) ∧ (ys.map (·.length)).sum + ys.length * a.length ≤ 16777216 ∧ Q (.str (Txt.join a ys)) H
/-! ### set(xs), xs a list of texts, to be sorted -/
def SetTx (P : Program) (w : World) (h : Heap) (a : Addr) (l : List Str) : Prop :=
  ∃ D : PySem.Froz.SD, h.get? a = some (PySem.Froz.sObj "set" D) ∧ PySem.Froz.TxOk P w D l ∧ Ris D.2.2.place.toList ∧ (w.params.followText "set-order" = true ∨ D.2.2.led = true)
section
variable {P : Program} {w : World} {A : Around} {E : Value → Shared → Prop} {s : Shared}
theorem SetTx.keep {h h' : Heap} {a : Addr} {l : List Str} (R : SetTx P w h a l) (k : ∀ o, h.get? a = some o → h'.get? a = some o) : SetTx P w h' a l := by
  obtain ⟨D, ho, r⟩ := R
  exact ⟨D, k _ ho, r⟩
theorem ris_tail {w : World} {ep : Nat} {es : Array (Int × Value)} {t : SetTable} {b : Bool} (r : Ris t.place.toList) (hl : w.params.followText "set-order" = true ∨ t.led = true) :
    Ris (PySem.Froz.tailTx ep es t b).2.2.place.toList ∧ (w.params.followText "set-order" = true ∨ (PySem.Froz.tailTx ep es t b).2.2.led = true) := by
  unfold PySem.Froz.tailTx
  split
  · exact ⟨relayAll_ris t es _, hl.imp id fun z => by rw [relayAll_led]; exact z⟩
  · exact ⟨r, hl⟩
theorem ris_add {w : World} {D : PySem.Froz.SD} {h : Int} {v : Value} (r : Ris D.2.2.place.toList) (hl : w.params.followText "set-order" = true ∨ D.2.2.led = true) :
    Ris (PySem.Froz.addTx h v D).2.2.place.toList ∧ (w.params.followText "set-order" = true ∨ (PySem.Froz.addTx h v D).2.2.led = true) := by
  have r1 := layNew_ris D.2.2 D.1 h v r
  have l1 := layNew_led D.2.2 D.1 h v
  unfold PySem.Froz.addTx
  refine ris_tail ?_ ?_
  · split <;> exact r1
  · split <;> exact hl.imp id fun z => l1.trans z
/-- a text that is in there is added -/
theorem addTx_there {a : Addr} {D : PySem.Froz.SD} {l : List Str} {k : Str} {u : Tok} {Q : Bool → Shared → Prop} (ho : s.heap.get? a = some (PySem.Froz.sObj "set" D)) (F : PySem.Froz.TxOk P w D l) (hk : k ∈ l) (hb : l.length + 1 < scanBound)
    (h : Q false s) : wpAny (model P w) A (setAddHashed a (.str k u) (PySem.hashStr w k)) Q E s := by
  obtain ⟨es, ep, t⟩ := D
  have c1 : t.fits es.size = true := F.fit
  have c2 : ElemsOf (PySem.strKind P w) es.toList := F.el
  have c3 : es.size < scanBound := by
    have : es.size = l.length := F.sz
    omega
  obtain ⟨e, he, ie⟩ := (F.mem k).mp hk
  unfold setAddHashed setAddHashedIn
  refine wpAny_holding (wpAny_bind (wpAny_setState_of ho rfl c1 ?_))
  dsimp only
  rw [byScan_of rfl c3 c2]
  simp only [↓reduceIte]
  unfold setAddByScan
  refine wpAny_bind (wpAny_bind (wpAny_rule (wpAny_bind (wpAny_setScan_of (knd := PySem.strKind P w) (k := k) (PySem.Froz.is_str k u) ho rfl c1 c2 ?_))))
  cases z : List.findIdx? (fun e => (PySem.strKind P w).is k e.2) es.toList with
  | none =>
    have := List.findIdx?_eq_none_iff.mp z e he
    rw [ie] at this
    cases this
  | some j => exact wpAny_pure (wpAny_pure h)
theorem SetTx.add {a : Addr} {l : List Str} {k : Str} {u : Tok} {Q : Bool → Shared → Prop} (R : SetTx P w s.heap a l) (hb : l.length + 1 < scanBound)
    (h0 : k ∈ l → Q false s) (h1 : k ∉ l → ∀ h', Heap.SameBut a s.heap h' → SetTx P w h' a (k :: l) → Q true { s with heap := h' }) : wpAny (model P w) A (setAddHashed a (.str k u) (PySem.hashStr w k)) Q E s := by
  obtain ⟨D, ho, F, r, hl⟩ := R
  by_cases hk : k ∈ l
  · exact addTx_there ho F hk hb (h0 hk)
  · obtain ⟨r2, l2⟩ := ris_add (h := PySem.hashStr w k) (v := .str k u) r hl
    exact PySem.Froz.add_x ho F hk hb (h1 hk _ (Heap.SameBut.update s.heap a _) ⟨_, PySem.Froz.get_upd _ ho rfl, PySem.Froz.add_ok u F, r2, l2⟩)
end
/-- the texts gathered, each once -/
def Once (l : List Str) (xs : List Str) : Prop := l.Nodup ∧ l.length ≤ xs.length ∧ ∀ x, x ∈ l ↔ x ∈ xs
section
variable {P : Program} {w : World} {A : Around} {E : Value → Shared → Prop} {s : Shared}
theorem setTx_loop {I : Addr} {fp wr : List Addr} {G : Array GenState → Array GenState → Prop} {n : Nat} {Pv : Nat → Value → Prop} {St : Nat → Shared → Prop} {R : Result → Shared → Prop}
    (W : WalksS P w A.in1 I fp wr G n Pv St) (T : Addr) (hT : T ∉ fp) (xs : List Str) (hn : n = xs.length) (hb : xs.length + 1 < scanBound) (hv : ∀ i v, Pv i v → ∃ k t, xs[i]? = some k ∧ v = .str k t) :
    ∀ (m i : Nat) (s : Shared), m = n - i → i ≤ n → St i s → (∃ l, SetTx P w s.heap T l ∧ Once l (xs.take i)) →
      (∀ s' l, Moved (T :: wr) G s s' → SetTx P w s'.heap T l → Once l xs → R (.ok (.ret .none)) s') → codeAny (model P w) A (.builtin "set.update.loop" ⟨[.ref T, .ref I], []⟩) R s := by
  have hw : T ∉ wr := fun z => hT (W.sub _ z)
  intro m
  induction m with
  | zero =>
    rintro i s hm hi st ⟨l, hl, on⟩ fin
    have e : i = n := by omega
    subst e
    refine codeAny_builtin F.entry_set_update_loop ?_
    rw [Around.under_plainId F.plain_set_update_loop _]
    refine wpAny_bind (m := pyNext (.ref I)) (W.done s _ _ st fun s1 mv => ?_)
    rw [List.take_of_length_le (by omega)] at on
    exact wpAny_pure (fin s1 l (mv.mono fun b hb => List.mem_cons_of_mem _ hb) (hl.keep fun o z => mv.heap T o hw z) on)
  | succ m ih =>
    rintro i s hm hi st ⟨l, hl, nd, le, me⟩ fin
    have lt : i < n := by omega
    refine codeAny_builtin F.entry_set_update_loop ?_
    rw [Around.under_plainId F.plain_set_update_loop _]
    refine wpAny_bind (m := pyNext (.ref I)) (W.item i s _ _ lt st fun v s1 pv st1 mv => ?_)
    obtain ⟨k, u, hk, rfl⟩ := hv i v pv
    have hl1 : SetTx P w s1.heap T l := hl.keep fun o z => mv.heap T o hw z
    have lb : l.length + 1 < scanBound := by
      rw [List.length_take] at le
      omega
    have tk : xs.take (i + 1) = xs.take i ++ [k] := by
      rw [List.take_add_one, hk]
      rfl
    have mv1 : Moved (T :: wr) G s s1 := mv.mono fun b hb => List.mem_cons_of_mem _ hb
    refine wpAny_bind (m := holding [Value.str k u] (setAdd T (.str k u))) (wpAny_holding ?_)
    unfold setAdd
    refine wpAny_holding (wpAny_bind ((PySem.strKind P w).pyHash (PySem.Froz.is_str k u) ?_))
    refine SetTx.add (s := { s1 with toks := s1.toks + 1 }) hl1 lb (fun hin => ?_) fun hout h' sb hl2 => ?_
    · refine wpAny_pure ⟨plainId_quiet F.plain_set_update_loop _, ih (i + 1) _ (by omega) lt (W.frame _ s1 _ _ st1 (Nat.le_succ _) fun b _ o z => z) ⟨l, hl1, nd, by rw [tk, List.length_append]; omega, fun x => ?_⟩ fun s2 l2 mv2 hl2 on2 => ?_⟩
      · rw [tk, List.mem_append, List.mem_singleton]
        exact ⟨fun z => .inl ((me x).mp z), fun z => z.elim (me x).mpr fun e => e ▸ hin⟩
      · exact fin s2 l2 (Moved.trans W.gtrans (mv1.then_heap (Nat.le_succ _) fun b o _ z => z) mv2) hl2 on2
    · refine wpAny_pure ⟨plainId_quiet F.plain_set_update_loop _, ih (i + 1) _ (by omega) lt (W.frame _ s1 _ _ st1 (Nat.le_succ _) fun b hb o z => ?_) ⟨k :: l, hl2, List.nodup_cons.mpr ⟨hout, nd⟩, by rw [tk, List.length_append, List.length_cons]; exact Nat.succ_le_succ le, fun x => ?_⟩ fun s2 l2 mv2 hl3 on2 => ?_⟩
      · exact (sb.2 b (fun e => hT (e ▸ hb))).trans z
      · rw [tk, List.mem_append, List.mem_singleton, List.mem_cons]
        exact ⟨fun z => z.elim .inr fun y => .inl ((me x).mp y), fun z => z.elim (fun y => .inr ((me x).mpr y)) .inl⟩
      · exact fin s2 l2 (Moved.trans W.gtrans (mv1.then_heap (Nat.le_succ _) fun b o hb z => (sb.2 b (fun e => hb (e ▸ List.mem_cons_self))).trans z) mv2) hl3 on2
end
section
variable {P : Program} {w : World} {A : Around} {E : Value → Shared → Prop} {s : Shared}
theorem texts_at : ∀ {us : List Value} {xs : List Str}, StrsAre us xs → ∀ (i : Nat) (v : Value), us[i]? = some v → ∃ k t, xs[i]? = some k ∧ v = .str k t
  | _, _, .nil, _, _, h => nomatch h
  | _, _, .cons n t _, 0, v, h => ⟨_, t, rfl, (Option.some.inj h).symm⟩
  | _, _, .cons n t r, i + 1, v, h => texts_at r i v h
set_option maxHeartbeats 8000000 in
theorem call_set_lstT {l : Addr} {items : Array Value} (ns : List Str) {Q : Value → Shared → Prop} (hh : A.handled = none) (hl : s.heap.IsList l items) (hit : StrsAre items.toList ns) (hb : ns.length + 1 < scanBound)
    (h : ∀ (h' : Heap) (tk : Nat) (c : List Str), SetTx P w h' s.heap.objs.size c → Once c ns → (∀ b o, s.heap.get? b = some o → h'.get? b = some o) → Q (.ref s.heap.objs.size) { s with heap := h', toks := tk }) :
    wpAny (model P w) A (call (.type "set") [.ref l]) Q E s := by
  have hisz : items.size = ns.length := by
    have q := StrsAre.length hit
    rw [Array.length_toList] at q
    exact q
  obtain ⟨c0, tl, hmro⟩ := F.called_set.mro
  have hmade := F.called_set.made
  have hsub := F.called_set.sub
  refine wpAny_call (codeAny_of_tree ?_)
  show wpAny _ _ (callAny (.type "set") _) _ _ _
  refine wpAny_pure ⟨Code.quiet_builtin _ (by decide +kernel), codeAny_builtin F.entry_type_call ?_⟩
  rw [Around.under_plain (weight_type_call_type "set" [.ref l] []) rfl]
  have t1 := F.called_set.notType
  have t2 := F.called_set.canCreate
  have t3 := F.typeCall_set_1 (.ref l)
  repeat (any_goals (first | assumption | wp_step))
  refine codeAny_mono (L2.code_set_led1 (.ref l) (E := E) (Q₁ := fun obj u => obj = .ref s.heap.objs.size ∧ u = { s with heap := s.heap.push (set0 w) }) ⟨rfl, rfl⟩) fun r u hr => ?_
  cases r with
  | error e => exact hr
  | ok fl =>
    cases fl with
    | ret obj =>
      obtain ⟨rfl, rfl⟩ := hr
      have gS : (s.heap.push (set0 w)).get? s.heap.objs.size = some (set0 w) := Heap.get?_push_size _ rfl
      have gT : Shared.TypeIs { s with heap := s.heap.push (set0 w) } (.ref s.heap.objs.size) "set" := ⟨_, gS, rfl⟩
      have i1 := F.called_set.init.lookup
      have i2 := F.called_set.init.bind (.ref s.heap.objs.size)
      repeat (any_goals (first | assumption | wp_step))
      refine codeAny_mono (codeAny_call_builtin (R := wants (fun r u2 => r = .none ∧ ∃ h' tk c, u2 = { s with heap := h', toks := tk } ∧ SetTx P w h' s.heap.objs.size c ∧ Once c ns ∧ (∀ b o, s.heap.get? b = some o → h'.get? b = some o)) E) F.called_set.init.plain F.entry_set_init (check_set_init_1 gT ?_)) fun r2 u2 hr2 => ?_
      · obtain ⟨ol, hol, hcl, nl, hdl⟩ := hl
        obtain ⟨ocls, odict, odata, oslots⟩ := ol
        simp only at hcl hdl
        subst hcl
        subst hdl
        have gol : (s.heap.push (set0 w)).get? l = some { cls := .type "list", dict := odict, data := .seq items nl, slots := oslots } := Heap.get?_push_of_some _ hol
        have k1 := F.sub_list_set
        have k2 := F.sub_list_frozenset
        have k3 : (Value.type "list" == Value.type "dict") = false := by decide
        have isl : (s.heap.push (set0 w)).IsList l items := ⟨_, gol, rfl, nl, rfl⟩
        unfold Builtin.«set.__init__» noKeywords Builtin.Frozenset.updateFrom
        generalize hPI : pyIter = PI
        wp_walk
        subst hPI
        refine wpAny_pyIter_list isl ?_
        refine wpAny_bind (wpAny_runValue ?_)
        have ll : l < s.heap.objs.size := Heap.lt_size hol
        have hh3 : A.in1.in1.in1.handled = none := by simp [hh]
        have neI : l ≠ (s.heap.push (set0 w)).objs.size := by
          rw [Heap.size_push]
          exact Nat.ne_of_lt (Nat.lt_succ_of_lt ll)
        have outS : s.heap.objs.size ∉ [(s.heap.push (set0 w)).objs.size, l] := by
          rw [Heap.size_push]
          simp only [List.mem_cons, List.not_mem_nil, or_false, not_or]
          exact ⟨Nat.ne_of_lt (Nat.lt_succ_self _), Nat.ne_of_gt ll⟩
        have val : ∀ (i : Nat) (v : Value), items[i]? = some v → ∃ k t, ns[i]? = some k ∧ v = .str k t := fun i v hv => texts_at hit i v (by rw [Array.getElem?_toList]; exact hv)
        have st0 : SetTx P w (s.heap.push (set0 w)) s.heap.objs.size [] := by
          refine ⟨(#[], 0, .fresh 0 0 (!w.params.followText "set-order")), gS, PySem.Froz.TxOk.nil (by rfl), List.Pairwise.nil, ?_⟩
          show _ ∨ (!w.params.followText "set-order") = true
          cases w.params.followText "set-order"
          · exact .inr rfl
          · exact .inl rfl
        refine setTx_loop ((Walks.list hh3 _ l neI items).toS) s.heap.objs.size outS ns hisz hb val _ 0 _ rfl (Nat.zero_le _) ?_ ⟨[], st0.keep fun o z => Heap.get?_push_of_some _ z, List.nodup_nil, Nat.le_refl _, fun x => by simp⟩ fun s' c mv R hc => ?_
        · exact ⟨⟨_, Heap.get?_push_size _ rfl, rfl, rfl⟩, isl.push _⟩
        · obtain ⟨h', g2, d2, tk2, os2⟩ := s'
          obtain rfl : g2 = s.gens := mv.gens
          obtain rfl : d2 = s.drawn := mv.drawn
          obtain rfl : os2 = s.os := mv.os
          refine wpAny_pure ?_
          show wpAny _ _ (ret Value.none) _ _ _
          refine wpAny_pure ⟨rfl, h', tk2, c, rfl, R, hc, fun b o e => ?_⟩
          have l0 : b < s.heap.objs.size := Heap.lt_size e
          refine mv.heap b o (fun z => ?_) (Heap.get?_push_of_some _ (Heap.get?_push_of_some _ e))
          rw [Heap.size_push] at z
          simp only [List.mem_cons, List.not_mem_nil, or_false] at z
          rcases z with z | z
          · exact Nat.ne_of_lt l0 z
          · exact Nat.ne_of_lt (Nat.lt_succ_of_lt l0) z
      · cases r2 with
        | error e => exact hr2
        | ok fl2 =>
          cases fl2 with
          | ret r =>
            obtain ⟨rfl, h', tk, c, rfl, R, hc, k⟩ := hr2
            have fin := h h' tk c R hc k
            repeat (any_goals (first | assumption | wp_step))
          | _ => exact hr2.elim
    | _ => exact hr.elim
end
section
variable {P : Program} {w : World} {A : Around} {E : Value → Shared → Prop} {s : Shared} {a : Addr}
def txtOf : Value → Str
  | .str x _ => x
  | _ => Str.empty
theorem perm_once : ∀ {l m : List Str}, l.Nodup → (∀ x ∈ l, x ∈ m) → m.length ≤ l.length → m.Perm l
  | [], m, _, _, h => by rw [List.length_eq_zero_iff.mp (Nat.le_zero.mp h)]
  | x :: r, m, nd, sub, h => by
    obtain ⟨n1, n2⟩ := List.nodup_cons.mp nd
    have p := List.perm_cons_erase (sub x List.mem_cons_self)
    have ln := p.length_eq
    rw [List.length_cons] at ln h
    refine p.trans (List.Perm.cons x (perm_once n2 (fun y hy => ?_) (by omega)))
    have hm := p.mem_iff.mp (sub y (List.mem_cons_of_mem _ hy))
    rcases List.mem_cons.mp hm with e | z
    · exact absurd (e ▸ hy) n1
    · exact z
theorem strs_of : ∀ {us : List Value}, (∀ v ∈ us, ∃ x t, v = Value.str x t) → StrsAre us (us.map txtOf)
  | [], _ => .nil
  | v :: r, h => by
    obtain ⟨x, t, rfl⟩ := h v List.mem_cons_self
    exact .cons x t (strs_of fun u hu => h u (List.mem_cons_of_mem _ hu))
theorem sorted_setTx {l : List Str} {Q : Value → Shared → Prop} (R : SetTx P w s.heap a l) (nd : l.Nodup) (hh : A.handled = none) (h64 : l.length < 64)
    (hQ : ∀ s' p (out : List Value) (c : Nat) (ys : List Str), (∀ b o, s.heap.get? b = some o → s'.heap.get? b = some o) → s'.gens = s.gens → s'.os = s.os → s.heap.objs.size ≤ p → s'.heap.get? p = some (seqObj "list" out.toArray c) → StrsAre out ys → ys.Perm l → sortedS ys = true → Q (.ref p) s') : wpAny (model P w) A (call (.builtin "sorted") [.ref a]) Q E s := by
  obtain ⟨D, ho, F, r, hl⟩ := R
  have sz : D.1.size = l.length := F.sz
  have each : ∀ e ∈ D.1.toList, ∃ x t, e.2 = Value.str x t := fun e he => by
    obtain ⟨⟨k, hk, _⟩, _⟩ := F.el e he
    obtain ⟨t, ev⟩ := Value.isStrOf_shape (x := k) (v := e.2) hk
    exact ⟨k, t, ev⟩
  refine Calls.call_function_entry kind_sorted plain_sorted entry_sorted (args_sorted1 _) ?_
  unfold Builtin.«sorted»
  refine wpAny_bind (m := checkCount "sorted" 1 1 _) (wpAny_pure ?_)
  refine wpAny_bind (collect_set (A := A.in1) hh ⟨_, ho, rfl, rfl⟩ F.fit (by rw [sz]; unfold scanBound; omega) r hl fun s1 vs k1 hz g1 o1 pm => ?_)
  have vl : vs.length = l.length := by
    rw [pm.length_eq, List.length_map, Array.length_toList]
    exact sz
  have hS : StrsAre vs (vs.map txtOf) := strs_of fun v hv => by
    obtain ⟨e, he, q⟩ := List.mem_map.mp (pm.mem_iff.mp hv)
    obtain ⟨x, t, ev⟩ := each e he
    exact ⟨x, t, by rw [← q]; exact ev⟩
  have pl : (vs.map txtOf).Perm l := perm_once nd (fun x hx => by
    obtain ⟨e, he, ie⟩ := (F.mem x).mp hx
    obtain ⟨t, ev⟩ := Value.isStrOf_shape (x := x) (v := e.2) ie
    refine List.mem_map.mpr ⟨e.2, pm.mem_iff.mpr (List.mem_map.mpr ⟨e, he, rfl⟩), ?_⟩
    rw [ev]
    rfl) (by rw [List.length_map]; omega)
  refine wpAny_bind (wpAny_newList ?_ (by rw [vl, sizeLine_eq]; omega))
  have hoL : (s1.heap.push (seqObj "list" vs.toArray 0)).get? s1.heap.objs.size = some (seqObj "list" vs.toArray 0) := Heap.get?_push_size _ rfl
  refine wpAny_bind (wpAny_holding (wpAny_call_entry slot_list_sort ⟨_, hoL, rfl⟩ entry_list_sort (list_sort_treeK strKind_oneLt (s := { s1 with heap := s1.heap.push (seqObj "list" vs.toArray 0) }) hoL hS.keysOf (fun v₁ v₂ rest e => keyKind_strs (by rw [← e]; exact hS)) (by rw [vl]; exact h64) fun st' hp hs => ⟨_, rfl, ?_⟩) (args_list_sort _)))
  obtain ⟨ys, q1, q2, q3⟩ := sorted_out_str hS hp hs
  obtain ⟨c, hc⟩ := sortedHeap_at (vs := vs) (out := (arrOf st').map (·.2)) hoL
  refine wpAny_pure ⟨_, rfl, hQ _ s1.heap.objs.size _ c ys (fun b u e => ?_) g1 o1 hz (by rw [Array.toArray_toList]; exact hc) q1 (q2.trans pl) q3⟩
  have lt := Heap.lt_size (k1 b u e)
  show (sortedHeap _ s1.heap.objs.size vs _).get? b = some u
  rw [sortedHeap_old (Nat.ne_of_lt lt) (Nat.lt_of_lt_of_le lt (by rw [size_push']; exact Nat.le_succ _))]
  exact Heap.get?_push_of_some _ (k1 b u e)
end
/-- the set of texts at a -/
def SetTO (P : Program) (w : World) (a : Addr) (l : List Str) : HO := .ext fun h => SetTx P w h a l
theorem setTO_new {P : Program} {w : World} {H : Hp} {h : Heap} {a : Addr} {l : List Str} (R : SetTx P w h a l) : ObjOk P w H h a (SetTO P w a l) := by
  have ⟨D, ho, _⟩ := R
  exact ⟨R, ⟨_, ho⟩, fun h1 h2 p k => SetTx.keep p k⟩
section
variable {X : Cx}
def rSetOfS (K : PySem.W.Frag) (P : Program) (w : World) : List V → Hp → VK → Prop := fun vs H Q => ∃ (a : Addr) (xs : List Str), vs = [.ref a] ∧ SqL K H a (xs.map V.str) ∧ xs.length ≤ 1000 ∧ ∀ (p : Addr) (l : List Str), H p = none → Once l xs → Q (.ref p) (upd H p (SetTO P w p l))
theorem cr_setOfS (hc : X.calm = true) : CallR X (.type "set") (rSetOfS X.K X.prog X.w) := by
  intro pins s σ H vs us Q I r hh
  obtain ⟨a, xs, rfl, hq, hl, q⟩ := hh
  obtain ⟨its, rv, pl, hz⟩ := I.list hq
  rw [Vals.ref1 r]
  refine call_set_lstT xs (I.ok.hd hc) pl.isList (by simpa using strs_of_vals rv) (by unfold scanBound; omega) fun h' tk l R on k => ?_
  exact ⟨.ref s.heap.objs.size, _, I.laid k (Nat.le_refl _) (setTO_new R), rfl, q _ l (I.hok.fresh (Nat.le_refl _)) on⟩
def rSortedSetS (P : Program) (w : World) : List V → Hp → VK → Prop := fun vs H Q => ∃ (a : Addr) (l : List Str), vs = [V.ref a] ∧ H a = some (SetTO P w a l) ∧ l.Nodup ∧ l.length < 64 ∧ ∀ (ys : List Str) (p : Addr), ys.Perm l → sortedS ys = true → H p = none → Q (.ref p) (upd H p (.lst (ys.map V.str)))
theorem cr_sortedSetS (hc : X.calm = true) : CallR X (.builtin "sorted") (rSortedSetS X.prog X.w) := by
  intro pins s σ H vs us Q I r hh
  obtain ⟨a, l, rfl, ha, nd, h64, q⟩ := hh
  have R : SetTx X.prog X.w s.heap a l := (I.hok a _ ha).1
  rw [Vals.ref1 r]
  refine sorted_setTx R nd (I.ok.hd hc) h64 fun s' p out c ys k g o hp hg hi pm so => ?_
  have hn : H p = none := I.hok.fresh hp
  have hlen : (ys.map V.str).length ≤ sizeLine := by
    rw [List.length_map, pm.length_eq, sizeLine_eq]
    omega
  have J : Inv X pins σ (upd H p (.lst (ys.map V.str))) { s with heap := s'.heap, gens := s'.gens, drawn := s'.drawn, toks := s'.toks } := I.call (ch := []) (Un.laid k hp hn) (I.hok.laid k hp ⟨hlen, out, c, vals_of_strs hi, hg⟩) (by rw [g]; exact I.bare) (fun _ z => nomatch z)
  have e : s' = { s with heap := s'.heap, gens := s'.gens, drawn := s'.drawn, toks := s'.toks } := by
    obtain ⟨h1, g1, d1, t1, o1⟩ := s'
    have o : o1 = s.os := o
    rw [o]
  rw [e]
  exact ⟨.ref p, _, J, rfl, q ys p pm so hn⟩
end
section
variable {c : Vc} {t : TE} {s e : List Nat} {f : Option (List Nat)} {w : VW}
def wSortSetS (we : VW) : VW := fun env Q => we env fun d env' => ∃ xs : List Str, d = .lst (xs.map Val.str) ∧ xs.length < 64 ∧ ∀ ys : List Str, ys.Nodup → (∀ x, x ∈ ys ↔ x ∈ xs) → sortedS ys = true → Q (.lst (ys.map Val.str)) env'
theorem rpa_tx {K : PySem.W.Frag} {H : Hp} : ∀ xs : List Str, RpA K H [] (xs.map V.str) (xs.map Val.str)
  | [] => .nil
  | x :: r => RpA.cons (F := []) (.str x) (rpa_tx r)
theorem rpa_tx' {K : PySem.W.Frag} {H : Hp} : ∀ {xs : List Str} {F : List Addr} {us : List V}, RpA K H F us (xs.map Val.str) → us = xs.map V.str
  | [], _, _, h => by
    cases h
    rfl
  | x :: r, _, _, h => by
    cases h with
    | cons a t =>
      cases a
      rw [rpa_tx' t]
      rfl
theorem simE_sortSetS {P : Program} {W : World} (h : SimE c t s f e w) : SimE c (tCB (rSortedSetS P W) (tCons (tCB (rSetOfS c.K P W) (tCons t tNil)) tNil)) [] (some []) e (wSortSetS w) := ⟨fun env σ H Fs Q R S hw k =>
  h.sim env σ H Fs _ _ S hw fun v d F env1 H1 Fs1 o1 r1 s1 f1 q1 => by
    clear f1
    obtain ⟨xs, rfl, hl, q⟩ := q1
    obtain ⟨l, us, G, rfl, hL, ra, _⟩ := r1.asL
    have eu := rpa_tx' ra
    subst eu
    refine ⟨l, xs, rfl, SqL.of hL, by omega, fun p ds np on => ?_⟩
    obtain ⟨gp, sp⟩ := upd_at (o := SetTO P W p ds) np
    refine ⟨p, ds, rfl, gp, on.1, Nat.lt_of_le_of_lt on.2.1 hl, fun ys q' pm so nq => ?_⟩
    exact new_flat k (o1.grow sp) (rpa_tx ys) nq (q ys (pm.nodup_iff.mpr on.1) (fun x => pm.mem_iff.trans (on.2.2 x)) so)⟩
end
def topS (i : Nat) : Stmt := PySem.Challenge.pw_spanshelf_k79_texts_of_nothing.main.body.getD i (.Pass ⟨0, 0, 0, 0⟩)
abbrev s__wall : Stmt := topS 0
abbrev s_is_whole : Stmt := topS 18
abbrev N_is_whole : List Str := ["number"]
theorem sc_is_whole : FnScope N_is_whole ["number"] (defScope s_is_whole) := ⟨rfl, rfl, rfl, by decide +kernel, rfl, by decide +kernel, by decide +kernel⟩
abbrev s_is_place : Stmt := topS 19
abbrev N_is_place : List Str := ["number"]
theorem sc_is_place : FnScope N_is_place ["number"] (defScope s_is_place) := ⟨rfl, rfl, rfl, by decide +kernel, rfl, by decide +kernel, by decide +kernel⟩
abbrev s_is_span : Stmt := topS 20
abbrev N_is_span : List Str := ["span", "low", "high"]
theorem sc_is_span : FnScope N_is_span ["span"] (defScope s_is_span) := ⟨rfl, rfl, rfl, by decide +kernel, rfl, by decide +kernel, by decide +kernel⟩
abbrev s_check_place : Stmt := topS 21
abbrev s_is_cover : Stmt := topS 24
abbrev N_is_cover : List Str := ["spans", "ahead", "behind"]
theorem sc_is_cover : FnScope N_is_cover ["spans"] (defScope s_is_cover) := ⟨rfl, rfl, rfl, by decide +kernel, rfl, by decide +kernel, by decide +kernel⟩
abbrev s_joined : Stmt := topS 25
abbrev s_is_name : Stmt := topS 28
abbrev N_is_name : List Str := ["text", "sign"]
theorem sc_is_name : FnScope N_is_name ["text"] (defScope s_is_name) := ⟨rfl, rfl, rfl, by decide +kernel, rfl, by decide +kernel, by decide +kernel⟩
abbrev s_is_weight : Stmt := topS 31
abbrev N_is_weight : List Str := ["number"]
theorem sc_is_weight : FnScope N_is_weight ["number"] (defScope s_is_weight) := ⟨rfl, rfl, rfl, by decide +kernel, rfl, by decide +kernel, by decide +kernel⟩
abbrev s_check_weight : Stmt := topS 32
abbrev s_kept_on : Stmt := topS 36
abbrev N_kept_on : List Str := ["shelf"]
theorem sc_kept_on : FnScope N_kept_on ["shelf"] (defScope s_kept_on) := ⟨rfl, rfl, rfl, by decide +kernel, rfl, by decide +kernel, by decide +kernel⟩
abbrev s_keep : Stmt := topS 37
abbrev s_row_of : Stmt := topS 38
abbrev N_row_of : List Str := ["shelf", "name", "kept"]
theorem sc_row_of : FnScope N_row_of ["shelf", "name"] (defScope s_row_of) := ⟨rfl, rfl, rfl, by decide +kernel, rfl, by decide +kernel, by decide +kernel⟩
abbrev s_put_row : Stmt := topS 39
abbrev s_check_length : Stmt := topS 40
abbrev s_spans_on : Stmt := topS 41
abbrev s_first_room : Stmt := topS 42
abbrev s_Shelf___init__ : Stmt := inClass (topS 43) 0
abbrev N_Shelf___init__ : List Str := ["self"]
theorem sc_Shelf___init__ : FnScope N_Shelf___init__ ["self"] (defScope s_Shelf___init__) := ⟨rfl, rfl, rfl, by decide +kernel, rfl, by decide +kernel, by decide +kernel⟩
abbrev s_Shelf_weigh : Stmt := inClass (topS 43) 5
abbrev s_Shelf_back : Stmt := inClass (topS 43) 7
abbrev s_Shelf_again : Stmt := inClass (topS 43) 8
abbrev s_Shelf_names : Stmt := inClass (topS 43) 9
abbrev N_Shelf_names : List Str := ["self"]
theorem sc_Shelf_names : FnScope N_Shelf_names ["self"] (defScope s_Shelf_names) := ⟨rfl, rfl, rfl, by decide +kernel, rfl, by decide +kernel, by decide +kernel⟩
abbrev s_Shelf_span : Stmt := inClass (topS 43) 10
abbrev N_Shelf_span : List Str := ["self", "name", "span", "weight"]
theorem sc_Shelf_span : FnScope N_Shelf_span ["self", "name"] (defScope s_Shelf_span) := ⟨rfl, rfl, rfl, by decide +kernel, rfl, by decide +kernel, by decide +kernel⟩
abbrev s_Shelf_weight : Stmt := inClass (topS 43) 11
abbrev N_Shelf_weight : List Str := ["self", "name", "span", "weight"]
theorem sc_Shelf_weight : FnScope N_Shelf_weight ["self", "name"] (defScope s_Shelf_weight) := ⟨rfl, rfl, rfl, by decide +kernel, rfl, by decide +kernel, by decide +kernel⟩
abbrev s_Shelf_cover : Stmt := inClass (topS 43) 18
abbrev s_Shelf_room : Stmt := inClass (topS 43) 19
abbrev s_shelf_of : Stmt := topS 44
abbrev N_shelf_of : List Str := ["kept", "shelf"]
theorem sc_shelf_of : FnScope N_shelf_of ["kept"] (defScope s_shelf_of) := ⟨rfl, rfl, rfl, by decide +kernel, rfl, by decide +kernel, by decide +kernel⟩
abbrev s_number_from : Stmt := topS 47
abbrev N_number_from : List Str := ["word", "figures", "sign"]
theorem sc_number_from : FnScope N_number_from ["word"] (defScope s_number_from) := ⟨rfl, rfl, rfl, by decide +kernel, rfl, by decide +kernel, by decide +kernel⟩
abbrev s_span_from : Stmt := topS 48
abbrev N_span_from : List Str := ["text", "ends", "word"]
theorem sc_span_from : FnScope N_span_from ["text"] (defScope s_span_from) := ⟨rfl, rfl, rfl, by decide +kernel, rfl, by decide +kernel, by decide +kernel⟩
abbrev s_row_from : Stmt := topS 49
abbrev N_row_from : List Str := ["line", "words", "span", "weight"]
theorem sc_row_from : FnScope N_row_from ["line"] (defScope s_row_from) := ⟨rfl, rfl, rfl, by decide +kernel, rfl, by decide +kernel, by decide +kernel⟩
abbrev s_are_rows : Stmt := topS 50
abbrev N_are_rows : List Str := ["rows", "ahead", "behind"]
theorem sc_are_rows : FnScope N_are_rows ["rows"] (defScope s_are_rows) := ⟨rfl, rfl, rfl, by decide +kernel, rfl, by decide +kernel, by decide +kernel⟩
abbrev s_read_span : Stmt := topS 51
abbrev N_read_span : List Str := ["text", "span"]
theorem sc_read_span : FnScope N_read_span ["text"] (defScope s_read_span) := ⟨rfl, rfl, rfl, by decide +kernel, rfl, by decide +kernel, by decide +kernel⟩
abbrev s_read_cover : Stmt := topS 52
abbrev N_read_cover : List Str := ["text", "cover", "word"]
theorem sc_read_cover : FnScope N_read_cover ["text"] (defScope s_read_cover) := ⟨rfl, rfl, rfl, by decide +kernel, rfl, by decide +kernel, by decide +kernel⟩
abbrev s_read_shelf : Stmt := topS 53
abbrev N_read_shelf : List Str := ["text", "rows", "line", "name", "span", "weight"]
theorem sc_read_shelf : FnScope N_read_shelf ["text"] (defScope s_read_shelf) := ⟨rfl, rfl, rfl, by decide +kernel, rfl, by decide +kernel, by decide +kernel⟩
abbrev s_l_at : Stmt := topS 55
abbrev N_l_at : List Str := ["_law_script", "_law_k"]
theorem sc_l_at : FnScope N_l_at ["_law_script", "_law_k"] (defScope s_l_at) := ⟨rfl, rfl, rfl, by decide +kernel, rfl, by decide +kernel, by decide +kernel⟩
abbrev s_l_mixed : Stmt := topS 56
abbrev N_l_mixed : List Str := ["_law_cell", "_law_k", "_law_number_here"]
theorem sc_l_mixed : FnScope N_l_mixed ["_law_cell", "_law_k"] (defScope s_l_mixed) := ⟨rfl, rfl, rfl, by decide +kernel, rfl, by decide +kernel, by decide +kernel⟩
abbrev s_l_purse : Stmt := topS 57
abbrev N_l_purse : List Str := ["_law_script", "_law_at_here", "_law_cell"]
theorem sc_l_purse : FnScope N_l_purse ["_law_script", "_law_at_here"] (defScope s_l_purse) := ⟨rfl, rfl, rfl, by decide +kernel, rfl, by decide +kernel, by decide +kernel⟩
abbrev s_l_draw : Stmt := topS 58
abbrev N_l_draw : List Str := ["_law_purse_here", "_law_out_of", "_law_drawn", "_law_number_here", "_law_k"]
theorem sc_l_draw : FnScope N_l_draw ["_law_purse_here", "_law_out_of"] (defScope s_l_draw) := ⟨rfl, rfl, rfl, by decide +kernel, rfl, by decide +kernel, by decide +kernel⟩
abbrev s_l_number : Stmt := topS 59
abbrev N_l_number : List Str := ["_law_purse_here", "_law_most", "_law_far"]
theorem sc_l_number : FnScope N_l_number ["_law_purse_here", "_law_most"] (defScope s_l_number) := ⟨rfl, rfl, rfl, by decide +kernel, rfl, by decide +kernel, by decide +kernel⟩
abbrev s_l_names : Stmt := topS 60
abbrev N_l_names : List Str := ["_law_purse_here", "_law_many", "_law_letters", "_law_stem", "_law_at_here", "_law_first", "_law_found", "_law_k"]
theorem sc_l_names : FnScope N_l_names ["_law_purse_here", "_law_many"] (defScope s_l_names) := ⟨rfl, rfl, rfl, by decide +kernel, rfl, by decide +kernel, by decide +kernel⟩
abbrev s_l_end : Stmt := topS 61
abbrev N_l_end : List Str := ["_law_purse_here", "_law_ends", "_law_most", "_law_near"]
theorem sc_l_end : FnScope N_l_end ["_law_purse_here", "_law_ends", "_law_most"] (defScope s_l_end) := ⟨rfl, rfl, rfl, by decide +kernel, rfl, by decide +kernel, by decide +kernel⟩
abbrev s_l_span : Stmt := topS 62
abbrev N_l_span : List Str := ["_law_purse_here", "_law_ends", "_law_most", "_law_one", "_law_other", "_law_low", "_law_high"]
theorem sc_l_span : FnScope N_l_span ["_law_purse_here", "_law_ends", "_law_most"] (defScope s_l_span) := ⟨rfl, rfl, rfl, by decide +kernel, rfl, by decide +kernel, by decide +kernel⟩
abbrev s_l_cover : Stmt := topS 63
abbrev N_l_cover : List Str := ["_law_purse_here", "_law_many", "_law_ends", "_law_k"]
theorem sc_l_cover : FnScope N_l_cover ["_law_purse_here", "_law_many"] (defScope s_l_cover) := ⟨rfl, rfl, rfl, by decide +kernel, rfl, by decide +kernel, by decide +kernel⟩
abbrev s_l_class : Stmt := topS 64
abbrev N_l_class : List Str := ["_law_caught", "_law_some", "_law_words", "_law_found", "_law_word", "_law_truth"]
theorem sc_l_class : FnScope N_l_class ["_law_caught"] (defScope s_l_class) := ⟨rfl, rfl, rfl, by decide +kernel, rfl, by decide +kernel, by decide +kernel⟩
abbrev s_l_span_text : Stmt := topS 65
abbrev N_l_span_text : List Str := ["_law_span_here"]
theorem sc_l_span_text : FnScope N_l_span_text ["_law_span_here"] (defScope s_l_span_text) := ⟨rfl, rfl, rfl, by decide +kernel, rfl, by decide +kernel, by decide +kernel⟩
abbrev s_l_shelf_text : Stmt := topS 66
abbrev N_l_shelf_text : List Str := ["_law_kept", "_law_rows", "_law_name"]
theorem sc_l_shelf_text : FnScope N_l_shelf_text ["_law_kept"] (defScope s_l_shelf_text) := ⟨rfl, rfl, rfl, by decide +kernel, rfl, by decide +kernel, by decide +kernel⟩
abbrev s_l_number_read : Stmt := topS 67
abbrev N_l_number_read : List Str := ["_law_text", "_law_figures", "_law_good", "_law_sign"]
theorem sc_l_number_read : FnScope N_l_number_read ["_law_text"] (defScope s_l_number_read) := ⟨rfl, rfl, rfl, by decide +kernel, rfl, by decide +kernel, by decide +kernel⟩
abbrev s_l_span_read : Stmt := topS 68
abbrev N_l_span_read : List Str := ["_law_text", "_law_parts", "_law_low", "_law_high", "_law_part"]
theorem sc_l_span_read : FnScope N_l_span_read ["_law_text"] (defScope s_l_span_read) := ⟨rfl, rfl, rfl, by decide +kernel, rfl, by decide +kernel, by decide +kernel⟩
abbrev s_l_cover_read : Stmt := topS 69
abbrev N_l_cover_read : List Str := ["_law_text", "_law_found", "_law_one", "_law_other", "_law_word"]
theorem sc_l_cover_read : FnScope N_l_cover_read ["_law_text"] (defScope s_l_cover_read) := ⟨rfl, rfl, rfl, by decide +kernel, rfl, by decide +kernel, by decide +kernel⟩
abbrev s_l_row_read : Stmt := topS 70
abbrev N_l_row_read : List Str := ["_law_row", "_law_words", "_law_letters", "_law_span_here", "_law_weight", "_law_sign"]
theorem sc_l_row_read : FnScope N_l_row_read ["_law_row"] (defScope s_l_row_read) := ⟨rfl, rfl, rfl, by decide +kernel, rfl, by decide +kernel, by decide +kernel⟩
abbrev s_l_shelf_read : Stmt := topS 71
abbrev N_l_shelf_read : List Str := ["_law_text", "_law_found", "_law_names_here", "_law_kept", "_law_name", "_law_one", "_law_row"]
theorem sc_l_shelf_read : FnScope N_l_shelf_read ["_law_text"] (defScope s_l_shelf_read) := ⟨rfl, rfl, rfl, by decide +kernel, rfl, by decide +kernel, by decide +kernel⟩
abbrev s_l_asked : Stmt := topS 72
abbrev N_l_asked : List Str := ["_law_text", "_law_way", "_law_caught", "_law_found", "e", "_law_kept", "_law_name"]
theorem sc_l_asked : FnScope N_l_asked ["_law_text", "_law_way"] (defScope s_l_asked) := ⟨rfl, rfl, rfl, by decide +kernel, rfl, by decide +kernel, by decide +kernel⟩
abbrev s_l_right : Stmt := topS 73
abbrev N_l_right : List Str := ["_law_text", "_law_way", "_law_due"]
theorem sc_l_right : FnScope N_l_right ["_law_text"] (defScope s_l_right) := ⟨rfl, rfl, rfl, by decide +kernel, rfl, by decide +kernel, by decide +kernel⟩
abbrev s_l_spoilt : Stmt := topS 74
abbrev N_l_spoilt : List Str := ["_law_purse_here", "_law_text", "_law_way", "_law_at_here", "_law_words", "_law_k", "_law_signs", "_law_sign", "_law_odd"]
theorem sc_l_spoilt : FnScope N_l_spoilt ["_law_purse_here", "_law_text"] (defScope s_l_spoilt) := ⟨rfl, rfl, rfl, by decide +kernel, rfl, by decide +kernel, by decide +kernel⟩
abbrev s_law : Stmt := topS 75
abbrev N_law : List Str := ["_law_script", "_law_names_here", "_law_cell", "_law_purse_here", "_law_kept", "_law_name", "_law_cover_here", "_law_some", "_law_text", "_law_turn", "_law_letters", "_law_rows", "_law_spans", "_law_k", "_law_span_here"]
theorem sc_law : FnScope N_law ["_law_script"] (defScope s_law) := ⟨rfl, rfl, rfl, by decide +kernel, rfl, by decide +kernel, by decide +kernel⟩

structure Tx (K : PySem.W.Frag) (mg : Str → Option Value) where
  f__wall : Addr
  fd__wall : FuncData
  F__wall : Fun K "_wall" "_wall" s__wall f__wall fd__wall
  b__wall : Binds K fd__wall ["k"] []
  g__wall : mg "_wall" = some (.ref f__wall)
  f_is_whole : Addr
  fd_is_whole : FuncData
  F_is_whole : Fun K "is_whole" "is_whole" s_is_whole f_is_whole fd_is_whole
  b_is_whole : Binds K fd_is_whole ["number"] []
  g_is_whole : mg "is_whole" = some (.ref f_is_whole)
  f_is_place : Addr
  fd_is_place : FuncData
  F_is_place : Fun K "is_place" "is_place" s_is_place f_is_place fd_is_place
  b_is_place : Binds K fd_is_place ["number"] []
  g_is_place : mg "is_place" = some (.ref f_is_place)
  f_is_span : Addr
  fd_is_span : FuncData
  F_is_span : Fun K "is_span" "is_span" s_is_span f_is_span fd_is_span
  b_is_span : Binds K fd_is_span ["span"] []
  g_is_span : mg "is_span" = some (.ref f_is_span)
  f_check_place : Addr
  fd_check_place : FuncData
  F_check_place : Fun K "check_place" "check_place" s_check_place f_check_place fd_check_place
  b_check_place : Binds K fd_check_place ["place"] []
  g_check_place : mg "check_place" = some (.ref f_check_place)
  f_is_cover : Addr
  fd_is_cover : FuncData
  F_is_cover : Fun K "is_cover" "is_cover" s_is_cover f_is_cover fd_is_cover
  b_is_cover : Binds K fd_is_cover ["spans"] []
  g_is_cover : mg "is_cover" = some (.ref f_is_cover)
  cA_is_cover : Addr
  pA_is_cover : Addr
  FC_is_cover : FunC K "is_cover" "is_cover" s_is_cover f_is_cover fd_is_cover cA_is_cover
  f_joined : Addr
  fd_joined : FuncData
  F_joined : Fun K "joined" "joined" s_joined f_joined fd_joined
  b_joined : Binds K fd_joined ["spans"] []
  g_joined : mg "joined" = some (.ref f_joined)
  f_is_name : Addr
  fd_is_name : FuncData
  F_is_name : Fun K "is_name" "is_name" s_is_name f_is_name fd_is_name
  b_is_name : Binds K fd_is_name ["text"] []
  g_is_name : mg "is_name" = some (.ref f_is_name)
  cA_is_name : Addr
  pA_is_name : Addr
  FC_is_name : FunC K "is_name" "is_name" s_is_name f_is_name fd_is_name cA_is_name
  f_is_weight : Addr
  fd_is_weight : FuncData
  F_is_weight : Fun K "is_weight" "is_weight" s_is_weight f_is_weight fd_is_weight
  b_is_weight : Binds K fd_is_weight ["number"] []
  g_is_weight : mg "is_weight" = some (.ref f_is_weight)
  f_check_weight : Addr
  fd_check_weight : FuncData
  F_check_weight : Fun K "check_weight" "check_weight" s_check_weight f_check_weight fd_check_weight
  b_check_weight : Binds K fd_check_weight ["weight"] []
  g_check_weight : mg "check_weight" = some (.ref f_check_weight)
  f_kept_on : Addr
  fd_kept_on : FuncData
  F_kept_on : Fun K "kept_on" "kept_on" s_kept_on f_kept_on fd_kept_on
  b_kept_on : Binds K fd_kept_on ["shelf"] []
  g_kept_on : mg "kept_on" = some (.ref f_kept_on)
  f_keep : Addr
  fd_keep : FuncData
  F_keep : Fun K "keep" "keep" s_keep f_keep fd_keep
  b_keep : Binds K fd_keep ["shelf", "kept"] []
  g_keep : mg "keep" = some (.ref f_keep)
  f_row_of : Addr
  fd_row_of : FuncData
  F_row_of : Fun K "row_of" "row_of" s_row_of f_row_of fd_row_of
  b_row_of : Binds K fd_row_of ["shelf", "name"] []
  g_row_of : mg "row_of" = some (.ref f_row_of)
  f_put_row : Addr
  fd_put_row : FuncData
  F_put_row : Fun K "put_row" "put_row" s_put_row f_put_row fd_put_row
  b_put_row : Binds K fd_put_row ["shelf", "name", "span", "weight"] []
  g_put_row : mg "put_row" = some (.ref f_put_row)
  f_check_length : Addr
  fd_check_length : FuncData
  F_check_length : Fun K "check_length" "check_length" s_check_length f_check_length fd_check_length
  b_check_length : Binds K fd_check_length ["length"] []
  g_check_length : mg "check_length" = some (.ref f_check_length)
  f_spans_on : Addr
  fd_spans_on : FuncData
  F_spans_on : Fun K "spans_on" "spans_on" s_spans_on f_spans_on fd_spans_on
  b_spans_on : Binds K fd_spans_on ["shelf"] []
  g_spans_on : mg "spans_on" = some (.ref f_spans_on)
  f_first_room : Addr
  fd_first_room : FuncData
  F_first_room : Fun K "first_room" "first_room" s_first_room f_first_room fd_first_room
  b_first_room : Binds K fd_first_room ["cover", "place", "length"] []
  g_first_room : mg "first_room" = some (.ref f_first_room)
  f_Shelf___init__ : Addr
  fd_Shelf___init__ : FuncData
  F_Shelf___init__ : Fun K "__init__" "Shelf.__init__" s_Shelf___init__ f_Shelf___init__ fd_Shelf___init__
  b_Shelf___init__ : Binds K fd_Shelf___init__ ["self"] []
  f_Shelf_weigh : Addr
  fd_Shelf_weigh : FuncData
  F_Shelf_weigh : Fun K "weigh" "Shelf.weigh" s_Shelf_weigh f_Shelf_weigh fd_Shelf_weigh
  b_Shelf_weigh : Binds K fd_Shelf_weigh ["self", "name", "weight"] []
  f_Shelf_back : Addr
  fd_Shelf_back : FuncData
  F_Shelf_back : Fun K "back" "Shelf.back" s_Shelf_back f_Shelf_back fd_Shelf_back
  b_Shelf_back : Binds K fd_Shelf_back ["self"] []
  f_Shelf_again : Addr
  fd_Shelf_again : FuncData
  F_Shelf_again : Fun K "again" "Shelf.again" s_Shelf_again f_Shelf_again fd_Shelf_again
  b_Shelf_again : Binds K fd_Shelf_again ["self"] []
  f_Shelf_names : Addr
  fd_Shelf_names : FuncData
  F_Shelf_names : Fun K "names" "Shelf.names" s_Shelf_names f_Shelf_names fd_Shelf_names
  b_Shelf_names : Binds K fd_Shelf_names ["self"] []
  f_Shelf_span : Addr
  fd_Shelf_span : FuncData
  F_Shelf_span : Fun K "span" "Shelf.span" s_Shelf_span f_Shelf_span fd_Shelf_span
  b_Shelf_span : Binds K fd_Shelf_span ["self", "name"] []
  f_Shelf_weight : Addr
  fd_Shelf_weight : FuncData
  F_Shelf_weight : Fun K "weight" "Shelf.weight" s_Shelf_weight f_Shelf_weight fd_Shelf_weight
  b_Shelf_weight : Binds K fd_Shelf_weight ["self", "name"] []
  f_Shelf_cover : Addr
  fd_Shelf_cover : FuncData
  F_Shelf_cover : Fun K "cover" "Shelf.cover" s_Shelf_cover f_Shelf_cover fd_Shelf_cover
  b_Shelf_cover : Binds K fd_Shelf_cover ["self"] []
  f_Shelf_room : Addr
  fd_Shelf_room : FuncData
  F_Shelf_room : Fun K "room" "Shelf.room" s_Shelf_room f_Shelf_room fd_Shelf_room
  b_Shelf_room : Binds K fd_Shelf_room ["self", "place", "length"] []
  f_shelf_of : Addr
  fd_shelf_of : FuncData
  F_shelf_of : Fun K "shelf_of" "shelf_of" s_shelf_of f_shelf_of fd_shelf_of
  b_shelf_of : Binds K fd_shelf_of ["kept"] []
  g_shelf_of : mg "shelf_of" = some (.ref f_shelf_of)
  f_number_from : Addr
  fd_number_from : FuncData
  F_number_from : Fun K "number_from" "number_from" s_number_from f_number_from fd_number_from
  b_number_from : Binds K fd_number_from ["word"] []
  g_number_from : mg "number_from" = some (.ref f_number_from)
  cA_number_from : Addr
  pA_number_from : Addr
  FC_number_from : FunC K "number_from" "number_from" s_number_from f_number_from fd_number_from cA_number_from
  f_span_from : Addr
  fd_span_from : FuncData
  F_span_from : Fun K "span_from" "span_from" s_span_from f_span_from fd_span_from
  b_span_from : Binds K fd_span_from ["text"] []
  g_span_from : mg "span_from" = some (.ref f_span_from)
  f_row_from : Addr
  fd_row_from : FuncData
  F_row_from : Fun K "row_from" "row_from" s_row_from f_row_from fd_row_from
  b_row_from : Binds K fd_row_from ["line"] []
  g_row_from : mg "row_from" = some (.ref f_row_from)
  f_are_rows : Addr
  fd_are_rows : FuncData
  F_are_rows : Fun K "are_rows" "are_rows" s_are_rows f_are_rows fd_are_rows
  b_are_rows : Binds K fd_are_rows ["rows"] []
  g_are_rows : mg "are_rows" = some (.ref f_are_rows)
  cA_are_rows : Addr
  pA_are_rows : Addr
  FC_are_rows : FunC K "are_rows" "are_rows" s_are_rows f_are_rows fd_are_rows cA_are_rows
  f_read_span : Addr
  fd_read_span : FuncData
  F_read_span : Fun K "read_span" "read_span" s_read_span f_read_span fd_read_span
  b_read_span : Binds K fd_read_span ["text"] []
  g_read_span : mg "read_span" = some (.ref f_read_span)
  f_read_cover : Addr
  fd_read_cover : FuncData
  F_read_cover : Fun K "read_cover" "read_cover" s_read_cover f_read_cover fd_read_cover
  b_read_cover : Binds K fd_read_cover ["text"] []
  g_read_cover : mg "read_cover" = some (.ref f_read_cover)
  f_read_shelf : Addr
  fd_read_shelf : FuncData
  F_read_shelf : Fun K "read_shelf" "read_shelf" s_read_shelf f_read_shelf fd_read_shelf
  b_read_shelf : Binds K fd_read_shelf ["text"] []
  g_read_shelf : mg "read_shelf" = some (.ref f_read_shelf)
  f_l_at : Addr
  fd_l_at : FuncData
  F_l_at : Fun K "_law_at" "_law_at" s_l_at f_l_at fd_l_at
  b_l_at : Binds K fd_l_at ["_law_script", "_law_k"] []
  g_l_at : mg "_law_at" = some (.ref f_l_at)
  f_l_mixed : Addr
  fd_l_mixed : FuncData
  F_l_mixed : Fun K "_law_mixed" "_law_mixed" s_l_mixed f_l_mixed fd_l_mixed
  b_l_mixed : Binds K fd_l_mixed ["_law_cell", "_law_k"] []
  g_l_mixed : mg "_law_mixed" = some (.ref f_l_mixed)
  f_l_purse : Addr
  fd_l_purse : FuncData
  F_l_purse : Fun K "_law_purse" "_law_purse" s_l_purse f_l_purse fd_l_purse
  b_l_purse : Binds K fd_l_purse ["_law_script", "_law_at_here"] []
  g_l_purse : mg "_law_purse" = some (.ref f_l_purse)
  f_l_draw : Addr
  fd_l_draw : FuncData
  F_l_draw : Fun K "_law_draw" "_law_draw" s_l_draw f_l_draw fd_l_draw
  b_l_draw : Binds K fd_l_draw ["_law_purse_here", "_law_out_of"] []
  g_l_draw : mg "_law_draw" = some (.ref f_l_draw)
  f_l_number : Addr
  fd_l_number : FuncData
  F_l_number : Fun K "_law_number" "_law_number" s_l_number f_l_number fd_l_number
  b_l_number : Binds K fd_l_number ["_law_purse_here", "_law_most"] []
  g_l_number : mg "_law_number" = some (.ref f_l_number)
  f_l_names : Addr
  fd_l_names : FuncData
  F_l_names : Fun K "_law_names" "_law_names" s_l_names f_l_names fd_l_names
  b_l_names : Binds K fd_l_names ["_law_purse_here", "_law_many"] []
  g_l_names : mg "_law_names" = some (.ref f_l_names)
  f_l_end : Addr
  fd_l_end : FuncData
  F_l_end : Fun K "_law_end" "_law_end" s_l_end f_l_end fd_l_end
  b_l_end : Binds K fd_l_end ["_law_purse_here", "_law_ends", "_law_most"] []
  g_l_end : mg "_law_end" = some (.ref f_l_end)
  f_l_span : Addr
  fd_l_span : FuncData
  F_l_span : Fun K "_law_span" "_law_span" s_l_span f_l_span fd_l_span
  b_l_span : Binds K fd_l_span ["_law_purse_here", "_law_ends", "_law_most"] []
  g_l_span : mg "_law_span" = some (.ref f_l_span)
  f_l_cover : Addr
  fd_l_cover : FuncData
  F_l_cover : Fun K "_law_cover" "_law_cover" s_l_cover f_l_cover fd_l_cover
  b_l_cover : Binds K fd_l_cover ["_law_purse_here", "_law_many"] []
  g_l_cover : mg "_law_cover" = some (.ref f_l_cover)
  f_l_class : Addr
  fd_l_class : FuncData
  F_l_class : Fun K "_law_class" "_law_class" s_l_class f_l_class fd_l_class
  b_l_class : Binds K fd_l_class ["_law_caught"] []
  g_l_class : mg "_law_class" = some (.ref f_l_class)
  f_l_span_text : Addr
  fd_l_span_text : FuncData
  F_l_span_text : Fun K "_law_span_text" "_law_span_text" s_l_span_text f_l_span_text fd_l_span_text
  b_l_span_text : Binds K fd_l_span_text ["_law_span_here"] []
  g_l_span_text : mg "_law_span_text" = some (.ref f_l_span_text)
  f_l_shelf_text : Addr
  fd_l_shelf_text : FuncData
  F_l_shelf_text : Fun K "_law_shelf_text" "_law_shelf_text" s_l_shelf_text f_l_shelf_text fd_l_shelf_text
  b_l_shelf_text : Binds K fd_l_shelf_text ["_law_kept"] []
  g_l_shelf_text : mg "_law_shelf_text" = some (.ref f_l_shelf_text)
  f_l_number_read : Addr
  fd_l_number_read : FuncData
  F_l_number_read : Fun K "_law_number_read" "_law_number_read" s_l_number_read f_l_number_read fd_l_number_read
  b_l_number_read : Binds K fd_l_number_read ["_law_text"] []
  g_l_number_read : mg "_law_number_read" = some (.ref f_l_number_read)
  f_l_span_read : Addr
  fd_l_span_read : FuncData
  F_l_span_read : Fun K "_law_span_read" "_law_span_read" s_l_span_read f_l_span_read fd_l_span_read
  b_l_span_read : Binds K fd_l_span_read ["_law_text"] []
  g_l_span_read : mg "_law_span_read" = some (.ref f_l_span_read)
  f_l_cover_read : Addr
  fd_l_cover_read : FuncData
  F_l_cover_read : Fun K "_law_cover_read" "_law_cover_read" s_l_cover_read f_l_cover_read fd_l_cover_read
  b_l_cover_read : Binds K fd_l_cover_read ["_law_text"] []
  g_l_cover_read : mg "_law_cover_read" = some (.ref f_l_cover_read)
  f_l_row_read : Addr
  fd_l_row_read : FuncData
  F_l_row_read : Fun K "_law_row_read" "_law_row_read" s_l_row_read f_l_row_read fd_l_row_read
  b_l_row_read : Binds K fd_l_row_read ["_law_row"] []
  g_l_row_read : mg "_law_row_read" = some (.ref f_l_row_read)
  f_l_shelf_read : Addr
  fd_l_shelf_read : FuncData
  F_l_shelf_read : Fun K "_law_shelf_read" "_law_shelf_read" s_l_shelf_read f_l_shelf_read fd_l_shelf_read
  b_l_shelf_read : Binds K fd_l_shelf_read ["_law_text"] []
  g_l_shelf_read : mg "_law_shelf_read" = some (.ref f_l_shelf_read)
  f_l_asked : Addr
  fd_l_asked : FuncData
  F_l_asked : Fun K "_law_asked" "_law_asked" s_l_asked f_l_asked fd_l_asked
  b_l_asked : Binds K fd_l_asked ["_law_text", "_law_way"] []
  g_l_asked : mg "_law_asked" = some (.ref f_l_asked)
  f_l_right : Addr
  fd_l_right : FuncData
  F_l_right : Fun K "_law_right" "_law_right" s_l_right f_l_right fd_l_right
  b_l_right : Binds K fd_l_right ["_law_text"] []
  g_l_right : mg "_law_right" = some (.ref f_l_right)
  f_l_spoilt : Addr
  fd_l_spoilt : FuncData
  F_l_spoilt : Fun K "_law_spoilt" "_law_spoilt" s_l_spoilt f_l_spoilt fd_l_spoilt
  b_l_spoilt : Binds K fd_l_spoilt ["_law_purse_here", "_law_text"] []
  g_l_spoilt : mg "_law_spoilt" = some (.ref f_l_spoilt)
  f_law : Addr
  fd_law : FuncData
  F_law : Fun K "law" "law" s_law f_law fd_law
  b_law : Binds K fd_law ["_law_script"] []
  g_law : mg "law" = some (.ref f_law)
  tc_LEAST_PLACE : Tok
  c_LEAST_PLACE : mg "LEAST_PLACE" = some (.int (-999999999999) tc_LEAST_PLACE)
  tc_GREATEST_PLACE : Tok
  c_GREATEST_PLACE : mg "GREATEST_PLACE" = some (.int (999999999999) tc_GREATEST_PLACE)
  tc_MOST_SPANS : Tok
  c_MOST_SPANS : mg "MOST_SPANS" = some (.int (200) tc_MOST_SPANS)
  tc_LONGEST_NAME : Tok
  c_LONGEST_NAME : mg "LONGEST_NAME" = some (.int (8) tc_LONGEST_NAME)
  tc_GREATEST_WEIGHT : Tok
  c_GREATEST_WEIGHT : mg "GREATEST_WEIGHT" = some (.int (1000000000) tc_GREATEST_WEIGHT)
  tc_MOST_KEPT : Tok
  c_MOST_KEPT : mg "MOST_KEPT" = some (.int (60) tc_MOST_KEPT)
  tc_GREATEST_LENGTH : Tok
  c_GREATEST_LENGTH : mg "GREATEST_LENGTH" = some (.int (1000000000000) tc_GREATEST_LENGTH)
  tc_MOST_FIGURES : Tok
  c_MOST_FIGURES : mg "MOST_FIGURES" = some (.int (12) tc_MOST_FIGURES)
  C_Shelf : Addr
  g_Shelf : mg "Shelf" = some (.ref C_Shelf)
  cl_Shelf : Cls K C_Shelf
  mk_Shelf : Mk K C_Shelf f_Shelf___init__
  mt_Shelf_weigh : Meth K C_Shelf "weigh" f_Shelf_weigh
  mt_Shelf_back : Meth K C_Shelf "back" f_Shelf_back
  mt_Shelf_again : Meth K C_Shelf "again" f_Shelf_again
  mt_Shelf_names : Meth K C_Shelf "names" f_Shelf_names
  mt_Shelf_span : Meth K C_Shelf "span" f_Shelf_span
  mt_Shelf_weight : Meth K C_Shelf "weight" f_Shelf_weight
  mt_Shelf_cover : Meth K C_Shelf "cover" f_Shelf_cover
  mt_Shelf_room : Meth K C_Shelf "room" f_Shelf_room
  na_Shelf_states : NoAttr K C_Shelf "states"
  na_Shelf_now : NoAttr K C_Shelf "now"
  C_ShelfError : Addr
  g_ShelfError : mg "ShelfError" = some (.ref C_ShelfError)
  x_ShelfError : PySem.W.excIn K C_ShelfError [.type "ValueError", .type "Exception", .type "BaseException", .type "object"] "ValueError.__new__" = true
  k_ShelfError : PySem.W.keepIn K (.ref C_ShelfError) = true
  b_ShelfError : PySem.W.subIn K (.ref C_ShelfError) (.type "BaseException") = some true
  t_ShelfError : PySem.W.typeIn K (.ref C_ShelfError) = some (.type "type")
  C_NoSpan : Addr
  g_NoSpan : mg "NoSpan" = some (.ref C_NoSpan)
  x_NoSpan : PySem.W.excIn K C_NoSpan [.type "ValueError", .type "Exception", .type "BaseException", .type "object"] "ValueError.__new__" = true
  k_NoSpan : PySem.W.keepIn K (.ref C_NoSpan) = true
  b_NoSpan : PySem.W.subIn K (.ref C_NoSpan) (.type "BaseException") = some true
  t_NoSpan : PySem.W.typeIn K (.ref C_NoSpan) = some (.type "type")
  C_NoPlace : Addr
  g_NoPlace : mg "NoPlace" = some (.ref C_NoPlace)
  x_NoPlace : PySem.W.excIn K C_NoPlace [.type "ValueError", .type "Exception", .type "BaseException", .type "object"] "ValueError.__new__" = true
  k_NoPlace : PySem.W.keepIn K (.ref C_NoPlace) = true
  b_NoPlace : PySem.W.subIn K (.ref C_NoPlace) (.type "BaseException") = some true
  t_NoPlace : PySem.W.typeIn K (.ref C_NoPlace) = some (.type "type")
  C_NoCover : Addr
  g_NoCover : mg "NoCover" = some (.ref C_NoCover)
  x_NoCover : PySem.W.excIn K C_NoCover [.type "ValueError", .type "Exception", .type "BaseException", .type "object"] "ValueError.__new__" = true
  k_NoCover : PySem.W.keepIn K (.ref C_NoCover) = true
  b_NoCover : PySem.W.subIn K (.ref C_NoCover) (.type "BaseException") = some true
  t_NoCover : PySem.W.typeIn K (.ref C_NoCover) = some (.type "type")
  C_NoWeight : Addr
  g_NoWeight : mg "NoWeight" = some (.ref C_NoWeight)
  x_NoWeight : PySem.W.excIn K C_NoWeight [.type "ValueError", .type "Exception", .type "BaseException", .type "object"] "ValueError.__new__" = true
  k_NoWeight : PySem.W.keepIn K (.ref C_NoWeight) = true
  b_NoWeight : PySem.W.subIn K (.ref C_NoWeight) (.type "BaseException") = some true
  t_NoWeight : PySem.W.typeIn K (.ref C_NoWeight) = some (.type "type")
  C_NoCount : Addr
  g_NoCount : mg "NoCount" = some (.ref C_NoCount)
  x_NoCount : PySem.W.excIn K C_NoCount [.type "ValueError", .type "Exception", .type "BaseException", .type "object"] "ValueError.__new__" = true
  k_NoCount : PySem.W.keepIn K (.ref C_NoCount) = true
  b_NoCount : PySem.W.subIn K (.ref C_NoCount) (.type "BaseException") = some true
  t_NoCount : PySem.W.typeIn K (.ref C_NoCount) = some (.type "type")
  C_NoName : Addr
  g_NoName : mg "NoName" = some (.ref C_NoName)
  x_NoName : PySem.W.excIn K C_NoName [.type "ValueError", .type "Exception", .type "BaseException", .type "object"] "ValueError.__new__" = true
  k_NoName : PySem.W.keepIn K (.ref C_NoName) = true
  b_NoName : PySem.W.subIn K (.ref C_NoName) (.type "BaseException") = some true
  t_NoName : PySem.W.typeIn K (.ref C_NoName) = some (.type "type")
  C_Twice : Addr
  g_Twice : mg "Twice" = some (.ref C_Twice)
  x_Twice : PySem.W.excIn K C_Twice [.type "ValueError", .type "Exception", .type "BaseException", .type "object"] "ValueError.__new__" = true
  k_Twice : PySem.W.keepIn K (.ref C_Twice) = true
  b_Twice : PySem.W.subIn K (.ref C_Twice) (.type "BaseException") = some true
  t_Twice : PySem.W.typeIn K (.ref C_Twice) = some (.type "type")
  C_Full : Addr
  g_Full : mg "Full" = some (.ref C_Full)
  x_Full : PySem.W.excIn K C_Full [.type "ValueError", .type "Exception", .type "BaseException", .type "object"] "ValueError.__new__" = true
  k_Full : PySem.W.keepIn K (.ref C_Full) = true
  b_Full : PySem.W.subIn K (.ref C_Full) (.type "BaseException") = some true
  t_Full : PySem.W.typeIn K (.ref C_Full) = some (.type "type")
  C_Bare : Addr
  g_Bare : mg "Bare" = some (.ref C_Bare)
  x_Bare : PySem.W.excIn K C_Bare [.type "ValueError", .type "Exception", .type "BaseException", .type "object"] "ValueError.__new__" = true
  k_Bare : PySem.W.keepIn K (.ref C_Bare) = true
  b_Bare : PySem.W.subIn K (.ref C_Bare) (.type "BaseException") = some true
  t_Bare : PySem.W.typeIn K (.ref C_Bare) = some (.type "type")
  C_NoDeed : Addr
  g_NoDeed : mg "NoDeed" = some (.ref C_NoDeed)
  x_NoDeed : PySem.W.excIn K C_NoDeed [.type "ValueError", .type "Exception", .type "BaseException", .type "object"] "ValueError.__new__" = true
  k_NoDeed : PySem.W.keepIn K (.ref C_NoDeed) = true
  b_NoDeed : PySem.W.subIn K (.ref C_NoDeed) (.type "BaseException") = some true
  t_NoDeed : PySem.W.typeIn K (.ref C_NoDeed) = some (.type "type")
  C_NoText : Addr
  g_NoText : mg "NoText" = some (.ref C_NoText)
  x_NoText : PySem.W.excIn K C_NoText [.type "ValueError", .type "Exception", .type "BaseException", .type "object"] "ValueError.__new__" = true
  k_NoText : PySem.W.keepIn K (.ref C_NoText) = true
  b_NoText : PySem.W.subIn K (.ref C_NoText) (.type "BaseException") = some true
  t_NoText : PySem.W.typeIn K (.ref C_NoText) = some (.type "type")
  C_NoLine : Addr
  g_NoLine : mg "NoLine" = some (.ref C_NoLine)
  x_NoLine : PySem.W.excIn K C_NoLine [.type "ValueError", .type "Exception", .type "BaseException", .type "object"] "ValueError.__new__" = true
  k_NoLine : PySem.W.keepIn K (.ref C_NoLine) = true
  b_NoLine : PySem.W.subIn K (.ref C_NoLine) (.type "BaseException") = some true
  t_NoLine : PySem.W.typeIn K (.ref C_NoLine) = some (.type "type")
  m_ValueError : mg "ValueError" = none
  m_all : mg "all" = none
  m_bool : mg "bool" = none
  m_int : mg "int" = none
  m_isinstance : mg "isinstance" = none
  m_len : mg "len" = none
  m_max : mg "max" = none
  m_min : mg "min" = none
  m_range : mg "range" = none
  m_set : mg "set" = none
  m_sorted : mg "sorted" = none
  m_str : mg "str" = none
  m_tuple : mg "tuple" = none
  m_zip : mg "zip" = none
  excs : ([C_ShelfError, C_NoSpan, C_NoPlace, C_NoCover, C_NoWeight, C_NoCount, C_NoName, C_Twice, C_Full, C_Bare, C_NoDeed, C_NoText, C_NoLine].map fun (D : Addr) => (PySem.W.findIn K (.ref D) "__getattribute__", PySem.W.findIn K (.ref D) "__getattr__", PySem.W.subIn K (.ref D) (.type "BaseException"), PySem.W.hasDictIn K D, PySem.W.findIn K (.ref D) "__class__", PySem.W.mroIn K D (.type "object"))) = [C_ShelfError, C_NoSpan, C_NoPlace, C_NoCover, C_NoWeight, C_NoCount, C_NoName, C_Twice, C_Full, C_Bare, C_NoDeed, C_NoText, C_NoLine].map fun (_ : Addr) => (some (some (.builtin "BaseException.__getattribute__")), some none, some true, true, some (some (.builtin "object.__class__")), some true)
  gets : (PySem.W.specialIn K (.builtin "object.__class__") "__get__", PySem.W.takesIn K (.builtin "object.__class__")) = (some (some (.builtin "getset_descriptor.__get__")), some true)
  kits : ([C_ShelfError, C_NoSpan, C_NoPlace, C_NoCover, C_NoWeight, C_NoCount, C_NoName, C_Twice, C_Full, C_Bare, C_NoDeed, C_NoText, C_NoLine].map fun (D : Addr) => [C_NoSpan, C_NoPlace, C_NoCover, C_NoWeight, C_NoCount, C_NoName, C_Twice, C_Full, C_Bare, C_NoDeed, C_NoText, C_NoLine].map fun (C : Addr) => PySem.W.kitOne K (.ref D) (.ref C)) = (List.range 13).map fun i => (List.range 12).map fun j => some (i == j + 1)
  tops : ([C_ShelfError, C_NoSpan, C_NoPlace, C_NoCover, C_NoWeight, C_NoCount, C_NoName, C_Twice, C_Full, C_Bare, C_NoDeed, C_NoText, C_NoLine].map fun (D : Addr) => (PySem.W.kitOne K (.ref D) (.ref C_ShelfError), PySem.W.kitOne K (.ref D) (.type "ValueError"))) = [C_ShelfError, C_NoSpan, C_NoPlace, C_NoCover, C_NoWeight, C_NoCount, C_NoName, C_Twice, C_Full, C_Bare, C_NoDeed, C_NoText, C_NoLine].map fun (_ : Addr) => (some true, some true)
  nones : ([C_ShelfError, C_NoSpan, C_NoPlace, C_NoCover, C_NoWeight, C_NoCount, C_NoName, C_Twice, C_Full, C_Bare, C_NoDeed, C_NoText, C_NoLine].map fun (C : Addr) => PySem.W.kitOne K (.type "NoneType") (.ref C)) = [C_ShelfError, C_NoSpan, C_NoPlace, C_NoCover, C_NoWeight, C_NoCount, C_NoName, C_Twice, C_Full, C_Bare, C_NoDeed, C_NoText, C_NoLine].map fun (_ : Addr) => some false
  exms : ([C_ShelfError, C_NoSpan, C_NoPlace, C_NoCover, C_NoWeight, C_NoCount, C_NoName, C_Twice, C_Full, C_Bare, C_NoDeed, C_NoText, C_NoLine].map fun (D : Addr) => PySem.W.exmOne K (.ref D) (.ref C_ShelfError)) = [C_ShelfError, C_NoSpan, C_NoPlace, C_NoCover, C_NoWeight, C_NoCount, C_NoName, C_Twice, C_Full, C_Bare, C_NoDeed, C_NoText, C_NoLine].map fun (_ : Addr) => some true
structure Tbs {K : PySem.W.Frag} {mg : Str → Option Value} (T : Tx K mg) (base : Heap) : Prop where
  t_is_cover : GxR.TabB base mg T.cA_is_cover T.pA_is_cover
  t_is_name : GxR.TabB base mg T.cA_is_name T.pA_is_name
  t_number_from : GxR.TabB base mg T.cA_number_from T.pA_number_from
  t_are_rows : GxR.TabB base mg T.cA_are_rows T.pA_are_rows
def Tx.tabs {K : PySem.W.Frag} {mg : Str → Option Value} (T : Tx K mg) : TL := ⟨[T.pA_is_cover, T.pA_is_name, T.pA_number_from, T.pA_are_rows], []⟩
section
variable {P : Program} {w : World} {K : PySem.W.Frag} {mg : Str → Option Value} {base : Heap}
/-! ### the program: spans -/
def isPlace (i : Int) : Bool := decide (-999999999999 ≤ i) && decide (i ≤ 999999999999)
def isSpan (s : Span) : Bool := isPlace s.1 && isPlace s.2 && decide (s.1 < s.2)
theorem isSpan_iff (s : Span) : isSpan s = true ↔ (-999999999999 ≤ s.1 ∧ s.1 < s.2 ∧ s.2 ≤ 999999999999) := by
  unfold isSpan isPlace
  simp only [Bool.and_eq_true, decide_eq_true_eq]
  omega
end
def isWt (i : Int) : Bool := decide (0 ≤ i) && decide (i ≤ 1000000000)
/-! ### what stands on a shelf -/
abbrev Row := Str × Span × Int
abbrev Kept := List Row
def leS (a b : Str) : Bool := !decide (b.cps.toList < a.cps.toList)
theorem leS_iff {a b : Str} : leS a b = true ↔ a.cps.toList ≤ b.cps.toList := by
  unfold leS
  rw [Bool.not_eq_true', decide_eq_false_iff_not]
  exact List.not_lt
theorem leS_trans (a b c : Str) (h1 : leS a b = true) (h2 : leS b c = true) : leS a c = true := leS_iff.mpr (List.le_trans (leS_iff.mp h1) (leS_iff.mp h2))
theorem leS_total (a b : Str) : (leS a b || leS b a) = true := by
  rw [Bool.or_eq_true, leS_iff, leS_iff]
  exact List.le_total _ _
theorem leS_anti {a b : Str} (h1 : leS a b = true) (h2 : leS b a = true) : a = b := by
  have := List.le_antisymm (leS_iff.mp h1) (leS_iff.mp h2)
  rw [← SX.S_tl a, ← SX.S_tl b, this]
theorem risingS_pw : ∀ (l : List Str) (p : Str), risingS p l = true → (p :: l).Pairwise fun a b => leS a b = true
  | [], p, _ => List.pairwise_singleton _ _
  | x :: r, p, h => by
    unfold risingS at h
    rw [Bool.and_eq_true, ltCps_eq] at h
    have ih := risingS_pw r x h.2
    have h1 : leS p x = true := h.1
    refine List.pairwise_cons.mpr ⟨fun y hy => ?_, ih⟩
    rcases List.mem_cons.mp hy with z | z
    · rw [z]
      exact h1
    · exact leS_trans _ _ _ h1 ((List.pairwise_cons.mp ih).1 y z)
theorem sortedS_pw {l : List Str} (h : sortedS l = true) : l.Pairwise fun a b => leS a b = true := by
  cases l with
  | nil => exact .nil
  | cons x r => exact risingS_pw r x h
/-- texts, in order -/
def sortT (l : List Str) : List Str := l.mergeSort leS
theorem sortT_perm (l : List Str) : (sortT l).Perm l := List.mergeSort_perm l leS
theorem sortT_pw (l : List Str) : (sortT l).Pairwise fun a b => leS a b = true := List.pairwise_mergeSort leS_trans leS_total l
theorem sortT_one {l ys : List Str} (p : ys.Perm l) (h : sortedS ys = true) : ys = sortT l :=
  List.Perm.eq_of_pairwise (le := fun a b => leS a b = true) (fun _ _ _ _ => leS_anti) (sortedS_pw h) (sortT_pw l) (p.trans (sortT_perm l).symm)
theorem sortT_mem {l : List Str} {x : Str} : x ∈ sortT l ↔ x ∈ l := (sortT_perm l).mem_iff
theorem sortT_len (l : List Str) : (sortT l).length = l.length := (sortT_perm l).length_eq
/-- the row of a name -/
def rowV (r : Row) : Val := .tup [spV r.2.1, .int r.2.2]
def keptV (k : Kept) : List (Key × Val) := k.map fun r => (Sum.inr r.1, rowV r)
def getR (k : Kept) (n : Str) : Option (Span × Int) := (k.find? fun r => decide (r.1 = n)).map (·.2)
def putR (k : Kept) (n : Str) (s : Span) (w : Int) : Kept := if (k.any fun r => decide (r.1 = n)) = true then k.map fun r => if r.1 = n then (r.1, s, w) else r else k ++ [(n, s, w)]
theorem inr_dec (a b : Str) : decide ((Sum.inr a : Key) = .inr b) = decide (a = b) := by
  by_cases h : a = b
  · rw [h]
    simp
  · rw [decide_eq_false h, decide_eq_false fun z => h (Sum.inr.inj z)]
theorem get_kept (k : Kept) (n : Str) : getKV (keptV k) (.inr n) = (getR k n).map fun x => .tup [spV x.1, .int x.2] := by
  unfold getKV getR keptV
  induction k with
  | nil => rfl
  | cons r t ih =>
    rw [List.map_cons, List.find?_cons, List.find?_cons]
    show Option.map _ (match decide ((Sum.inr r.1 : Key) = .inr n) with | true => _ | false => _) = _
    rw [inr_dec]
    cases decide (r.1 = n) with
    | true => rfl
    | false => exact ih
theorem put_kept (k : Kept) (n : Str) (s : Span) (w : Int) : putKV (keptV k) (.inr n) (.tup [spV s, .int w]) = keptV (putR k n s w) := by
  have ea : ((keptV k).any fun p => decide (p.1 = (Sum.inr n : Key))) = k.any fun r => decide (r.1 = n) := by
    unfold keptV
    rw [List.any_map]
    congr 1
    funext r
    exact inr_dec r.1 n
  unfold putKV putR
  rw [ea]
  split
  · unfold keptV
    rw [List.map_map, List.map_map]
    refine List.map_congr_left fun r _ => ?_
    show (if (Sum.inr r.1 : Key) = .inr n then ((Sum.inr r.1 : Key), Val.tup [spV s, .int w]) else ((Sum.inr r.1 : Key), rowV r)) = ((Sum.inr (if r.1 = n then (r.1, s, w) else r).1 : Key), rowV (if r.1 = n then (r.1, s, w) else r))
    by_cases h : r.1 = n
    · rw [if_pos h, if_pos (by rw [h])]
      rfl
    · rw [if_neg h, if_neg fun z => h (Sum.inr.inj z)]
  · unfold keptV
    rw [List.map_append]
    rfl
theorem kept_flat (k : Kept) : Val.flatAllD (keptV k) = true := by
  unfold keptV
  induction k with
  | nil => rfl
  | cons r t ih =>
    show ((rowV r).flat && Val.flatAllD _) = true
    rw [ih]
    rfl
theorem kept_keys (k : Kept) : (keptV k).map (·.1) = (k.map (·.1)).map Sum.inr := by
  unfold keptV
  rw [List.map_map, List.map_map]
  rfl
theorem kept_len (k : Kept) : (keptV k).length = k.length := List.length_map _
theorem getR_some {k : Kept} {n : Str} {x : Span × Int} (h : getR k n = some x) : (n, x) ∈ k := by
  unfold getR at h
  obtain ⟨r, hr, e⟩ := Option.map_eq_some_iff.mp h
  have e1 := List.find?_some hr
  have e2 := List.mem_of_find?_eq_some hr
  have e3 : r.1 = n := of_decide_eq_true e1
  rw [← e, ← e3]
  exact e2
theorem getR_mem {k : Kept} (nd : (k.map (·.1)).Nodup) {r : Row} (h : r ∈ k) : getR k r.1 = some r.2 := by
  induction k with
  | nil => cases h
  | cons a t ih =>
    unfold getR
    rw [List.find?_cons]
    by_cases e : a.1 = r.1
    · rw [decide_eq_true e]
      rcases List.mem_cons.mp h with z | z
      · rw [z]
        rfl
      · rw [List.map_cons] at nd
        exact absurd (List.mem_map.mpr ⟨r, z, e.symm⟩) (List.nodup_cons.mp nd).1
    · rw [decide_eq_false e]
      rcases List.mem_cons.mp h with z | z
      · exact absurd (by rw [z]) e
      · rw [List.map_cons] at nd
        exact ih (List.nodup_cons.mp nd).2 z
theorem getR_none {k : Kept} {n : Str} : getR k n = none ↔ n ∉ k.map (·.1) := by
  unfold getR
  rw [Option.map_eq_none_iff, List.find?_eq_none]
  constructor
  · intro h z
    obtain ⟨r, hr, e⟩ := List.mem_map.mp z
    exact h r hr (decide_eq_true e)
  · intro h r hr z
    exact h (List.mem_map.mpr ⟨r, hr, of_decide_eq_true z⟩)
theorem any_get (k : Kept) (n : Str) : (k.any fun r => decide (r.1 = n)) = (getR k n).isSome := by
  unfold getR
  rw [Option.isSome_map]
  induction k with
  | nil => rfl
  | cons r t ih =>
    rw [List.any_cons, List.find?_cons]
    cases decide (r.1 = n) with
    | true => rfl
    | false => exact ih
theorem putR_keys (k : Kept) (n : Str) (s : Span) (w : Int) : (putR k n s w).map (·.1) = if (getR k n).isSome = true then k.map (·.1) else k.map (·.1) ++ [n] := by
  unfold putR
  rw [any_get]
  by_cases h : (getR k n).isSome = true
  · rw [if_pos h, if_pos h, List.map_map]
    refine List.map_congr_left fun r _ => ?_
    show (if r.1 = n then (r.1, s, w) else r).1 = r.1
    split <;> rfl
  · rw [if_neg h, if_neg h, List.map_append]
    rfl
theorem putR_nodup {k : Kept} (nd : (k.map (·.1)).Nodup) (n : Str) (s : Span) (w : Int) : ((putR k n s w).map (·.1)).Nodup := by
  rw [putR_keys]
  split
  · exact nd
  · rename_i h
    have e : getR k n = none := by
      cases z : getR k n with
      | none => rfl
      | some x => rw [z] at h; exact absurd rfl h
    exact List.nodup_append.mpr ⟨nd, by simp, fun a ha b hb e2 => by
      rw [List.mem_singleton.mp hb] at e2
      exact getR_none.mp e (by rw [← e2]; exact ha)⟩
theorem putR_mem {k : Kept} {n : Str} {s : Span} {w : Int} {r : Row} (h : r ∈ putR k n s w) : r ∈ k ∨ r = (n, s, w) := by
  unfold putR at h
  split at h
  · obtain ⟨x, hx, e⟩ := List.mem_map.mp h
    by_cases z : x.1 = n
    · rw [if_pos z] at e
      exact .inr (by rw [← e, z])
    · rw [if_neg z] at e
      exact .inl (by rw [← e]; exact hx)
  · rcases List.mem_append.mp h with z | z
    · exact .inl z
    · exact .inr (List.mem_singleton.mp z)
theorem putR_len (k : Kept) (n : Str) (s : Span) (w : Int) : (putR k n s w).length = if (getR k n).isSome = true then k.length else k.length + 1 := by
  have h := congrArg List.length (putR_keys k n s w)
  rw [List.length_map] at h
  rw [h]
  split
  · exact List.length_map _
  · rw [List.length_append, List.length_map]
    rfl
def isLow (c : Nat) : Bool := decide (97 ≤ c) && decide (c ≤ 122)
def isName (x : Str) : Bool := decide (1 ≤ x.cps.toList.length) && decide (x.cps.toList.length ≤ 8) && x.cps.toList.all isLow
theorem okN_str (n : Nat) {x : Str} (h : x.cps.toList.all (fun c => decide (c < 0x110000)) = true) : okN n (.str x) := by
  refine ⟨rfl, ?_, Nat.zero_le _⟩
  show x.cps.all (fun c => decide (c < 0x110000)) = true
  rw [← Array.all_toList]
  exact h
theorem okN_name (n : Nat) {x : Str} (h : isName x = true) : okN n (.str x) := by
  unfold isName at h
  rw [Bool.and_eq_true] at h
  refine okN_str n (List.all_eq_true.mpr fun c hc => ?_)
  have := List.all_eq_true.mp h.2 c hc
  unfold isLow at this
  rw [Bool.and_eq_true] at this
  have h2 := of_decide_eq_true this.2
  exact decide_eq_true (by omega)
/-- what stands on a shelf: no name twice, at most sixty -/
structure KOk (k : Kept) : Prop where
  nd : (k.map (·.1)).Nodup
  le : k.length ≤ 60
  sp : ∀ r ∈ k, isSpan r.2.1 = true
  wt : ∀ r ∈ k, isWt r.2.2 = true
  nm : ∀ r ∈ k, isName r.1 = true
theorem KOk.nil : KOk [] := ⟨List.nodup_nil, Nat.zero_le _, (fun _ h => nomatch h), (fun _ h => nomatch h), fun _ h => nomatch h⟩
theorem KOk.put {k : Kept} (h : KOk k) {n : Str} {s : Span} {w : Int} (hn : isName n = true) (hs : isSpan s = true) (hw : isWt w = true) (hl : (getR k n).isSome = true ∨ k.length + 1 ≤ 60) : KOk (putR k n s w) := by
  refine ⟨putR_nodup h.nd n s w, ?_, fun r hr => ?_, fun r hr => ?_, fun r hr => ?_⟩
  · rw [putR_len]
    split
    · exact h.le
    · rename_i z
      rcases hl with y | y
      · exact absurd y z
      · exact y
  · rcases putR_mem hr with z | z
    · exact h.sp r z
    · rw [z]
      exact hs
  · rcases putR_mem hr with z | z
    · exact h.wt r z
    · rw [z]
      exact hw
  · rcases putR_mem hr with z | z
    · exact h.nm r z
    · rw [z]
      exact hn
/-- the names in order, the rows in that order -/
def namesK (k : Kept) : List Str := sortT (k.map (·.1))
theorem namesK_get {k : Kept} {n : Str} (h : n ∈ namesK k) : ∃ x, getR k n = some x := by
  cases e : getR k n with
  | some x => exact ⟨x, rfl⟩
  | none => exact absurd (sortT_mem.mp h) (getR_none.mp e)
theorem namesK_len (k : Kept) : (namesK k).length = k.length := by
  unfold namesK
  rw [sortT_len, List.length_map]
theorem cut1_sp (W : List Span) : cutL (W.map spV) (some 1) none = (W.drop 1).map spV := by
  rw [cutL_map]
  congr 1
  cases W with
  | nil => rfl
  | cons a r =>
    unfold cutL
    have e : HT.sIx (a :: r).length 0 (some 1) = 1 := by
      have := HT.sIx_nat (a :: r).length 0 1
      rw [show ((1 : Nat) : Int) = 1 from rfl] at this
      rw [this]
      exact Nat.min_eq_left (Nat.succ_le_succ (Nat.zero_le _))
    have e0 : HT.sIx (a :: r).length (a :: r).length none = (a :: r).length := rfl
    rw [e, e0, List.take_of_length_le (by rw [List.length_drop]; exact Nat.le_refl _)]
theorem cut1_map {α : Type} (f : α → Val) (W : List α) : cutL (W.map f) (some 1) none = (W.drop 1).map f := by
  rw [cutL_map]
  congr 1
  cases W with
  | nil => rfl
  | cons a r =>
    unfold cutL
    have e : HT.sIx (a :: r).length 0 (some 1) = 1 := by
      have := HT.sIx_nat (a :: r).length 0 1
      rw [show ((1 : Nat) : Int) = 1 from rfl] at this
      rw [this]
      exact Nat.min_eq_left (Nat.succ_le_succ (Nat.zero_le _))
    have e0 : HT.sIx (a :: r).length (a :: r).length none = (a :: r).length := rfl
    rw [e, e0, List.take_of_length_le (by rw [List.length_drop]; exact Nat.le_refl _)]
section
variable {P : Program} {w : World} {K : PySem.W.Frag} {mg : Str → Option Value} {base : Heap}
def covB (c : List Span) : Bool := decide (c.length ≤ 200) && (c.zip (c.drop 1)).all fun p => decide (p.1.2 < p.2.1)
def cIsCovA : VSpec := fun ds Q _ => ∃ c : List Span, ds = [.lst (c.map spV)] ∧ c.length ≤ 100000 ∧ Q [] (.bl (covB c))
theorem M_is_cover : Mono cIsCovA := fun ds Q Q' E E' h _ ⟨ss, a, b, q⟩ => ⟨ss, a, b, h _ _ q⟩
theorem v_is_cover (T : Tx K mg) (B : Tbs T base) : FnOk P w K mg base CX0 (1) T.f_is_cover T.fd_is_cover ["spans"] (vsp K T.tabs [] 1 cIsCovA) := by
  refine T.FC_is_cover.ok sc_is_cover (fun vs H Q E h => vsp_len h) (fun A outer s H vs Q E hr h => ⟨_, (pss_cons (ps_if (pt_cmpR op_gt (pe_callB call_len_seq (by rfl) T.m_len PySem.boot_len (pa_cons (pv 0) pa_nil)) (pe_glob (v := .int (200)) (by rfl) T.c_MOST_SPANS ⟨_, rfl⟩) (nomark _)) (pss_one (ps_ret pe_bl)) pss_nil)
      (pss_one (ps_ret (pe_gxAll (own := [("ahead", 1), ("behind", 2)]) (g := (gTup K 2 (gCons (gName 1) (gCons (gName 2) gNil)))) hr rfl sc_is_cover.nd (by rfl) T.m_all (by decide +kernel) B.t_is_cover rfl (gblk_by (own := [("ahead", 1), ("behind", 2)]) (N := N_is_cover) (sc := defScope s_is_cover) (by decide +kernel)) (pi_zip (by rfl) T.m_zip (pa_cons (pv 0) (pa_cons (pe_slice sl_list (pv 0) (po_some pe_int) po_none) pa_nil))) (fun _ _ _ _ _ => by exact (pg_tup rfl (pgs_cons (pg_name (i := 1) sc_is_cover.nd rfl (Or.inl rfl)) (pgs_cons (pg_name (i := 2) sc_is_cover.nd rfl (Or.inl rfl)) pgs_nil)))) (fun _ _ _ _ _ => pts_nil) (fun _ _ _ _ _ => (pe_cmpR op_lt (pe_ix (show IxR _ (rIxT K) from ix_tup) (pv 1) pe_int (fun _ _ => rfl)) (pe_ix (show IxR _ (rIxT K) from ix_tup) (pv 2) pe_int (fun _ _ => rfl)) (nomark _))) (fun _ => rfl))))), (vfn (N := 3) (lo := []) (Ef := []) U0 h rfl (by decide) rfl rfl hU0 (simS_seq (simS_if (simT_test (simE_op r2_ib (simE_cb cb_len (simA_var (i := 0) rfl simA_nil)) simE_int rfl)) (simS_ret simE_bl rfl rfl rfl rfl) (simS_next rfl) rfl rfl)
      (simS_ret (simE_gx (fx := [0]) cs_all (simI_zip (simA_var (i := 0) rfl (simA_consF (simE_sl (simE_var (i := 0) rfl) (simO_some simE_int) simO_none rfl rfl) simA_nil rfl rfl rfl rfl rfl))) (simG_tup (simGs_cons (simG_name (i := 1) (show 1 < 3 by decide) rfl rfl) (simGs_cons (simG_name (i := 2) (show 2 < 3 by decide) rfl rfl) simGs_nil))) simT_yes (simE_op r2_ib (simE_ixT (simE_var (i := 1) rfl) simE_int rfl) (simE_ixT (simE_var (i := 2) rfl) simE_int rfl) rfl) (by unfold Tx.tabs; simp) rfl rfl rfl) rfl rfl rfl rfl)) ?_)⟩)
  rintro ds Q X ⟨c, rfl, len, q⟩
  have le : (c.map spV).length = c.length := List.length_map ..
  by_cases h2 : c.length ≤ 200
  · have e : decide ((200 : Int) < ((c.map spV).length : Int)) = false := decide_eq_false (by omega)
    refine ifF e ?_
    refine ⟨flat_spans c, ?_⟩
    rw [cut1_sp]
    conv => whnf
    rw [zipV_map]
    refine gxv_all (c.zip (c.drop 1)) (fun p => .tup [spV p.1, spV p.2]) (fun p => decide (p.1.2 < p.2.1)) (fun p _ R h => ⟨rfl, h⟩) ?_
    unfold covB at q
    rw [decide_eq_true h2, Bool.true_and] at q
    exact q
  · have e : decide ((200 : Int) < ((c.map spV).length : Int)) = true := decide_eq_true (by omega)
    refine ifT e ?_
    unfold covB at q
    rw [decide_eq_false h2, Bool.false_and] at q
    exact q
end
section
variable {P : Program} {w : World} {K : PySem.W.Frag} {mg : Str → Option Value} {base : Heap}
/-! ### a whole number read of a text -/
def isDig (c : Nat) : Bool := decide (48 ≤ c) && decide (c ≤ 57)
def figs (l : List Nat) : List Nat := if l.head? = some 45 then l.tail else l
def numF (l : List Nat) : Option Int :=
  if 1 ≤ (figs l).length ∧ (figs l).length ≤ 12 ∧ (figs l).all isDig = true ∧ ((figs l).head? = some 48 → l = [48]) then
    some (if l.head? = some 45 then -((NumText.digitsVal (figs l) : Nat) : Int) else ((NumText.digitsVal (figs l) : Nat) : Int))
  else none
def numV : Option Int → Val
  | some n => .int n
  | none => .non
theorem starts_neg (x : Str) : Txt.startswith x (Str.ofString "-") = decide (x.cps.toList.head? = some 45) := by
  obtain ⟨⟨l⟩⟩ := x
  cases l with
  | nil => rfl
  | cons a r =>
    show (decide (0 + 1 ≤ (a :: r).toArray.size) && ((a :: r).toArray.extract 0 (0 + 1) == #[45])) = decide (some a = some 45)
    have e1 : (a :: r).toArray.extract 0 (0 + 1) = #[a] := by simp
    have e2 : decide (0 + 1 ≤ (a :: r).toArray.size) = true := decide_eq_true (by simp)
    rw [e1, e2, Bool.true_and]
    by_cases z : a = 45
    · rw [z]
      rfl
    · rw [decide_eq_false fun y => z (Option.some.inj y)]
      simp [z]
theorem lt_one9 (a b : Nat) : decide ([a] < [b]) = decide (a < b) := by
  by_cases h : a < b
  · rw [decide_eq_true h]
    exact decide_eq_true (List.cons_lt_cons_iff.mpr (.inl h))
  · rw [decide_eq_false h]
    refine decide_eq_false fun z => ?_
    rcases List.cons_lt_cons_iff.mp z with y | ⟨_, y⟩
    · exact h y
    · exact List.not_lt_nil _ y
def digS (s : Str) : Bool := (!decide (s.cps.toList < [48])) && (!decide ([57] < s.cps.toList))
theorem digS_all (x : Str) : (signs x).all digS = x.cps.toList.all isDig := by
  unfold signs
  rw [List.all_map]
  refine List.all_congr rfl fun c => ?_
  show ((!decide ([c] < [48])) && (!decide ([57] < [c]))) = _
  rw [lt_one9, lt_one9]
  unfold isDig
  by_cases h1 : c < 48
  · rw [decide_eq_true h1, decide_eq_false (by omega : ¬ 48 ≤ c)]
    rfl
  · rw [decide_eq_false h1, decide_eq_true (by omega : 48 ≤ c)]
    by_cases h2 : 57 < c
    · rw [decide_eq_true h2, decide_eq_false (by omega : ¬ c ≤ 57)]
      rfl
    · rw [decide_eq_false h2, decide_eq_true (by omega : c ≤ 57)]
      rfl
def cNumF : VSpec := fun ds Q _ => ∃ x : Str, ds = [.str x] ∧ x.length ≤ 100000 ∧ Q [] (numV (numF x.cps.toList))
theorem M_number_from : Mono cNumF := fun ds Q Q' E E' h _ ⟨x, a, b, q⟩ => ⟨x, a, b, h _ _ q⟩
theorem v_number_from (T : Tx K mg) (B : Tbs T base) : FnOk P w K mg base CX0 (1) T.f_number_from T.fd_number_from ["word"] (vsp K T.tabs [] 1 cNumF) := by
  refine T.FC_number_from.ok sc_number_from (fun vs H Q E h => vsp_len h) (fun A outer s H vs Q E hr h => ⟨_, (pss_cons (ps_set (i := 1) sc_number_from.nd rfl (Or.inl rfl) (pe_ifExp (pt_val (pe_bm PySem.F.plainAttrs_str PySem.F.slot_str_startswith PySem.F.type_str_startswith (show MtR _ "str.startswith" rStarts from mt_startswith) (pv 0) (pa_cons pe_str pa_nil))) (pe_slice sl_str (pv 0) (po_some pe_int) po_none) (pv 0)))
      (pss_cons (ps_if (PW.pt (pw_or (pt_not (pt_chain op_le op_le pe_int (pe_callB (show CallR _ (.builtin "len") (fun xs H Q => ∃ x n, xs = [x] ∧ LenV K x H n ∧ Q (.int (n : Nat)) H) from call_len) (by rfl) T.m_len PySem.boot_len (pa_cons (pv 1) pa_nil)) (pe_glob (v := .int (12)) (by rfl) T.c_MOST_FIGURES ⟨_, rfl⟩))) (pw_or1 (pt_not (pt_val (pe_gxAll (own := [("sign", 2)]) (g := (gName 2)) hr rfl sc_number_from.nd (by rfl) T.m_all (by decide +kernel) B.t_number_from rfl (gblk_by (own := [("sign", 2)]) (N := N_number_from) (sc := defScope s_number_from) (by decide +kernel)) (pi_str (pv 1)) (fun _ _ _ _ _ => by exact (pg_name (i := 2) sc_number_from.nd rfl (Or.inl rfl))) (fun _ _ _ _ _ => pts_nil) (fun _ _ _ _ _ => (pe_chain op_le_str op_le_str pe_str (pv 2) pe_str)) (fun _ => rfl))))))) (pss_one (ps_ret pe_non)) pss_nil)
      (pss_cons (ps_if (PW.pt (pw_and (pt_cmpR op_eq (pe_ix ix_str (pv 1) pe_int (fun _ _ => rfl)) pe_str (nomark _)) (pw_and1 (pt_cmpR op_ne (pv 0) pe_str (nomark _))))) (pss_one (ps_ret pe_non)) pss_nil)
      (pss_one (ps_ret (pe_callTy call_int_str (by rfl) T.m_int (by decide +kernel) (pa_cons (pv 0) pa_nil))))))), (vfn (N := 3) (lo := []) (Ef := []) U0 h rfl (by decide) rfl rfl hU0 (simS_seq (simS_asg (simE_if (simT_tB (simE_starts (simE_var (i := 0) rfl))) (simE_slS (simE_var (i := 0) rfl) (simO_some simE_int) simO_none rfl rfl) (simE_flat (simE_var (i := 0) rfl))) (simG_name (i := 1) (show 1 < 3 by decide) rfl rfl) rfl rfl)
      (simS_seq (simS_if (simT_or (simT_not (simT_test (simE_chain r2_ib r2_ib simE_int (simE_cb cb_lenS (simA_varF (i := 1) simA_nil)) simE_int rfl rfl rfl))) (simT_not (simT_tB (simE_gx (fx := [0, 1]) cs_all (simI_str (simE_var (i := 1) rfl)) (simG_name (i := 2) (show 2 < 3 by decide) rfl rfl) simT_yes (simE_chain r2_leS r2_leS simE_str (simE_var (i := 2) rfl) simE_str rfl rfl rfl) (by unfold Tx.tabs; simp) rfl rfl rfl))) rfl) (simS_ret simE_non rfl rfl rfl rfl) (simS_next rfl) rfl rfl)
      (simS_seq (simS_if (simT_and (simT_test (simE_op r2_eq (simE_op r2_ixS (simE_var (i := 1) rfl) simE_int rfl) simE_str rfl)) (simT_test (simE_op r2_ne (simE_var (i := 0) rfl) simE_str rfl)) rfl) (simS_ret simE_non rfl rfl rfl rfl) (simS_next rfl) rfl rfl)
      (simS_ret (simE_cb cb_intS (simA_varF (i := 0) simA_nil)) rfl rfl rfl rfl)))) ?_)⟩)
  rintro ds Q X ⟨x, rfl, xl, q⟩
  have el : x.cps.toList.length = x.length := Array.length_toList
  obtain ⟨l, rfl⟩ : ∃ l, x = SX.S l := ⟨x.cps.toList, (SX.S_tl x).symm⟩
  have sl : (SX.S l).length = l.length := SX.S_len l
  rw [sl] at xl
  have q : Q [] (numV (numF l)) := q
  obtain ⟨f, hf⟩ : ∃ f, f = figs l := ⟨_, rfl⟩
  have fle : f.length ≤ l.length := by
    rw [hf]
    unfold figs
    split
    · rw [List.length_tail]
      omega
    · exact Nat.le_refl _
  have fl : (SX.S f).length = f.length := SX.S_len f
  have nn : ∀ h : ¬ (1 ≤ f.length ∧ f.length ≤ 12 ∧ f.all isDig = true ∧ (f.head? = some 48 → l = [48])), Q [] .non := fun h => by
    unfold numF at q
    rw [← hf, if_neg h] at q
    exact q
  have go : wSeq (wIfS (wOr (wNot (wTest (wChain (fI fun i j => .bl (decide (i ≤ j))) (fI fun i j => .bl (decide (i ≤ j))) (wC (.int 1)) (wCB gLenS (wVarF 1 wNil)) (wC (.int 12))))) (wNot (wTest (wGx vAll () (wiS (wVar 1)) (gvName 2) wYes (wChain (fStrB fun a b => !decide (b < a)) (fStrB fun a b => !decide (b < a)) (wC (.str (Str.ofString "0"))) (wVar 2) (wC (.str (Str.ofString "9")))) (List.map (fun x => x.snd) [(Str.ofString "sign", 2)]))))) (wRet (wC .non)) wNext) (wSeq (wIfS (wAnd (wTest (wOp (fEq false) (wOp fIxS (wVar 1) (wC (.int 0))) (wC (.str (Str.ofString "0"))))) (wTest (wOp (fEq true) (wVar 0) (wC (.str (Str.ofString "0")))))) (wRet (wC .non)) wNext) (wRet (wCB gIntS (wVarF 0 wNil)))) (endsV U0 Q) [some (.str (SX.S l)), some (.str (SX.S f)), none] := by
    refine ⟨rfl, small_le (by rw [fl]; omega), ?_⟩
    by_cases h1 : 1 ≤ f.length
    case neg =>
      refine ifF (decide_eq_false (by rw [fl]; omega)) ?_
      exact nn fun h => h1 h.1
    refine ifT (decide_eq_true (by rw [fl]; omega)) ?_
    by_cases h2 : f.length ≤ 12
    case neg =>
      refine ifT (show (!decide (((SX.S f).length : Int) ≤ 12)) = true by rw [decide_eq_false (by rw [fl]; omega)]; rfl) ?_
      exact nn fun h => h2 h.2.1
    refine ifF (show (!decide (((SX.S f).length : Int) ≤ 12)) = false by rw [decide_eq_true (by rw [fl]; omega)]; rfl) ?_
    refine gxv_all (signs (SX.S f)) Val.str digS ?_ ?_
    · intro s _ R h
      show (if (!decide (s.cps.toList < [48])) = true then _ else _)
      unfold digS at h
      cases e : (!decide (s.cps.toList < [48])) with
      | true =>
        rw [e] at h
        exact h
      | false =>
        rw [e] at h
        exact h
    rw [digS_all]
    have ef : (SX.S f).cps.toList = f := rfl
    rw [ef]
    cases h3 : f.all isDig with
    | false => exact nn fun h => by rw [h.2.2.1] at h3; cases h3
    | true =>
      refine ifF (show (!true) = false from rfl) ?_
      obtain ⟨c, r, ecr⟩ : ∃ c r, f = c :: r := by
        cases e : f with
        | nil =>
          rw [e] at h1
          cases h1
        | cons c r => exact ⟨c, r, rfl⟩
      refine ⟨by rw [fl]; omega, c, by rw [ef, ecr]; exact atI_nat (j := 0) rfl, ?_⟩
      have e0 : ("0" : Str) = SX.S [48] := rfl
      have hdig : ∀ c ∈ f, 48 ≤ c ∧ c ≤ 57 := fun c hc => by
        have := List.all_eq_true.mp h3 c hc
        unfold isDig at this
        rw [Bool.and_eq_true] at this
        exact ⟨of_decide_eq_true this.1, of_decide_eq_true this.2⟩
      have fin : (f.head? = some 48 → l = [48]) → ∃ (a : Str) (n : Int), [Val.str (SX.S l)] = [.str a] ∧ intText? a = some n ∧ a.length ≤ 640 ∧ Q [] (.int n) := fun h4 => by
        unfold numF at q
        rw [← hf, if_pos ⟨h1, h2, h3, h4⟩] at q
        have ll : l.length ≤ 13 := by
          have : l.length ≤ f.length + 1 := by
            rw [hf]
            unfold figs
            split
            · rw [List.length_tail]
              omega
            · omega
          omega
        by_cases z : l.head? = some 45
        · rw [if_pos z] at q
          have el2 : l = 45 :: f := by
            rw [hf]
            unfold figs
            rw [if_pos z]
            cases l with
            | nil => cases z
            | cons a t =>
              cases z
              rfl
          refine ⟨SX.S l, _, rfl, PySem.intText_neg (cs := f) el2 hdig (by rw [ecr]; exact List.cons_ne_nil _ _) (by rw [sl]; omega), by rw [sl]; omega, q⟩
        · rw [if_neg z] at q
          have el2 : l = f := by
            rw [hf]
            unfold figs
            rw [if_neg z]
          have dl : ∀ c ∈ (SX.S l).cps.toList, 48 ≤ c ∧ c ≤ 57 := fun c hc => hdig c (by rw [← el2]; exact hc)
          have e2 := PySem.intText_digits (x := SX.S l) dl (by show l ≠ []; rw [el2, ecr]; exact List.cons_ne_nil _ _) (by rw [sl]; omega)
          refine ⟨SX.S l, _, rfl, e2, by rw [sl]; omega, ?_⟩
          rw [← el2] at q
          exact q
      by_cases c0 : c = 48
      · refine ifT (show (false != decide (SX.S [c] = ("0" : Str))) = true by rw [c0, decide_eq_true e0.symm]; rfl) ?_
        by_cases l0 : l = [48]
        · refine ifF (show (true != decide (SX.S l = ("0" : Str))) = false by rw [l0, decide_eq_true e0.symm]; rfl) ?_
          exact ⟨rfl, fin fun _ => l0⟩
        · refine ifT (show (true != decide (SX.S l = ("0" : Str))) = true by rw [decide_eq_false fun z => l0 (SX.S_inj (z.trans e0))]; rfl) ?_
          exact nn fun h => l0 (h.2.2.2 (by rw [ecr, c0]; rfl))
      · refine ifF (show (false != decide (SX.S [c] = ("0" : Str))) = false by rw [decide_eq_false fun z => c0 (List.cons.inj (SX.S_inj (z.trans e0))).1]; rfl) ?_
        exact ⟨rfl, fin fun z => absurd (by rw [ecr] at z; exact Option.some.inj z) c0⟩
  have st := starts_neg (SX.S l)
  by_cases z : l.head? = some 45
  · refine ⟨SX.S l, rfl, ?_⟩
    refine ifT (st.trans (decide_eq_true z)) ?_
    have ec : cutL (SX.S l).cps.toList (some 1) none = f := by
      have e1 : cutL l (some 1) none = l.tail := by
        cases l with
        | nil => rfl
        | cons x r => simp [cutL, HT.sIx]
      rw [hf]
      unfold figs
      rw [if_pos z]
      exact e1
    refine ⟨by rw [sl]; omega, ?_⟩
    rw [ec]
    exact go
  · refine ⟨SX.S l, rfl, ?_⟩
    refine ifF (st.trans (decide_eq_false z)) ?_
    have elf : l = f := by
      rw [hf]
      unfold figs
      rw [if_neg z]
    refine ⟨rfl, ?_⟩
    rw [← elf] at go
    exact go
end
section
variable {P : Program} {w : World} {K : PySem.W.Frag} {mg : Str → Option Value} {base : Heap}
/-! ### a span read of a text -/
def cWholeO : VSpec := fun ds Q _ => ∃ o : Option Int, ds = [numV o] ∧ Q [] (.bl o.isSome)
theorem M_is_whole : Mono cWholeO := fun ds Q Q' E E' h _ ⟨x, a, q⟩ => ⟨x, a, h _ _ q⟩
theorem v_is_whole (T : Tx K mg) : FnOk P w K mg base CX0 (1) T.f_is_whole T.fd_is_whole ["number"] (vsp K T.tabs [] 1 cWholeO) := by
  refine T.F_is_whole.ok sc_is_whole (fun vs H Q E h => vsp_len h) (fun cdv A outer s H vs Q E hr h => ⟨_, (pss_one (ps_ret (pe_and (pe_callB call_isi (by rfl) T.m_isinstance (by decide +kernel) (pa_cons (pv 0) (pa_cons (pe_bltn (v := .ty "int") (by rfl) T.m_int (by decide +kernel) rfl) pa_nil))) (pe_one (pe_not (pe_callB call_isi (by rfl) T.m_isinstance (by decide +kernel) (pa_cons (pv 0) (pa_cons (pe_bltn (v := .ty "bool") (by rfl) T.m_bool (by decide +kernel) rfl) pa_nil)))))))), (vfn (N := 1) (lo := []) (Ef := []) U0 h rfl (by decide) rfl rfl hU0 (simS_ret (simE_andV (simE_cb cb_isi (simA_varF (i := 0) (simA_consF simE_ty simA_nil rfl rfl rfl rfl rfl))) (simE_notV (simE_cb cb_isi (simA_varF (i := 0) (simA_consF simE_ty simA_nil rfl rfl rfl rfl rfl)))) rfl) rfl rfl rfl rfl) ?_)⟩)
  rintro ds Q X ⟨o, rfl, q⟩
  cases o with
  | none => exact ⟨rfl, q⟩
  | some i => exact ⟨rfl, rfl, q⟩
def placeO : Option Int → Bool
  | some i => isPlace i
  | none => false
def cPlaceO : VSpec := fun ds Q _ => ∃ o : Option Int, ds = [numV o] ∧ Q [] (.bl (placeO o))
theorem M_is_place : Mono cPlaceO := fun ds Q Q' E E' h _ ⟨x, a, q⟩ => ⟨x, a, h _ _ q⟩
theorem v_is_place (T : Tx K mg) : FnOk P w K mg base CX0 (2) T.f_is_place T.fd_is_place ["number"] (vsp K T.tabs [] 1 cPlaceO) := by
  have G_is_whole : FnOk P w K mg base CX0 _ _ _ _ _ := v_is_whole T
  refine T.F_is_place.ok sc_is_place (fun vs H Q E h => vsp_len h) (fun cdv A outer s H vs Q E hr h => ⟨_, (pss_one (ps_ret (pe_and (pe_call G_is_whole (hr.mono (by decide)) (by rfl) T.g_is_whole T.F_is_whole.kp T.b_is_whole .nil pass0 (pa_cons (pv 0) pa_nil)) (pe_one (pe_chain op_le op_le (pe_glob (v := .int (-999999999999)) (by rfl) T.c_LEAST_PLACE ⟨_, rfl⟩) (pv 0) (pe_glob (v := .int (999999999999)) (by rfl) T.c_GREATEST_PLACE ⟨_, rfl⟩)))))), (vfn (N := 1) (lo := []) (Ef := []) U0 h rfl (by decide) rfl rfl hU0 (simS_ret (simE_andV (simE_call0 M_is_whole (simA_varF (i := 0) simA_nil) rfl rfl) (simE_chain r2_ib r2_ib simE_int (simE_var (i := 0) rfl) simE_int rfl rfl rfl) rfl) rfl rfl rfl rfl) ?_)⟩)
  rintro ds Q X ⟨o, rfl, q⟩
  cases o with
  | none => exact ⟨rfl, none, rfl, q⟩
  | some i =>
    refine ⟨rfl, some i, rfl, ?_⟩
    have q : Q [] (.bl (isPlace i)) := q
    unfold isPlace at q
    by_cases h : -999999999999 ≤ i
    · rw [decide_eq_true h, Bool.true_and] at q
      refine ifT (decide_eq_true h) ?_
      exact q
    · rw [decide_eq_false h, Bool.false_and] at q
      refine ifF (decide_eq_false h) ?_
      exact q
def spanO : List (Option Int) → Bool
  | [some a, some b] => isSpan (a, b)
  | _ => false
def cSpanO : VSpec := fun ds Q _ => ∃ os : List (Option Int), ds = [.tup (os.map numV)] ∧ os.length ≤ 100000 ∧ Q [] (.bl (spanO os))
theorem M_is_span : Mono cSpanO := fun ds Q Q' E E' h _ ⟨x, a, b, q⟩ => ⟨x, a, b, h _ _ q⟩
theorem v_is_span (T : Tx K mg) : FnOk P w K mg base CX0 (3) T.f_is_span T.fd_is_span ["span"] (vsp K T.tabs [] 1 cSpanO) := by
  have G_is_place : FnOk P w K mg base CX0 _ _ _ _ _ := v_is_place T
  refine T.F_is_span.ok sc_is_span (fun vs H Q E h => vsp_len h) (fun cdv A outer s H vs Q E hr h => ⟨_, (pss_cons (ps_if (PW.pt (pw_or (pt_not (pt_val (pe_callB call_isi (by rfl) T.m_isinstance (by decide +kernel) (pa_cons (pv 0) (pa_cons (pe_bltn (v := .ty "tuple") (by rfl) T.m_tuple (by decide +kernel) rfl) pa_nil))))) (pw_or1 (pt_cmpR op_ne (pe_callB call_len_seq (by rfl) T.m_len PySem.boot_len (pa_cons (pv 0) pa_nil)) pe_int (nomark _))))) (pss_one (ps_ret pe_bl)) pss_nil)
      (pss_cons (ps_asg (pv 0) (pg_tup rfl (pgs_cons (pg_name (i := 1) sc_is_span.nd rfl (Or.inl rfl)) (pgs_cons (pg_name (i := 2) sc_is_span.nd rfl (Or.inl rfl)) pgs_nil))))
      (pss_one (ps_ret (pe_and (pe_call G_is_place (hr.mono (by decide)) (by rfl) T.g_is_place T.F_is_place.kp T.b_is_place .nil pass0 (pa_cons (pv 1) pa_nil)) (pe_and (pe_call G_is_place (hr.mono (by decide)) (by rfl) T.g_is_place T.F_is_place.kp T.b_is_place .nil pass0 (pa_cons (pv 2) pa_nil)) (pe_one (pe_cmpR op_lt (pv 1) (pv 2) (nomark _))))))))), (vfn (N := 3) (lo := []) (Ef := []) U0 h rfl (by decide) rfl rfl hU0 (simS_seq (simS_if (simT_or (simT_not (simT_tB (simE_cb cb_isi (simA_varF (i := 0) (simA_consF simE_ty simA_nil rfl rfl rfl rfl rfl))))) (simT_test (simE_op r2_ne (simE_cb cb_len (simA_varF (i := 0) simA_nil)) simE_int rfl)) rfl) (simS_ret simE_bl rfl rfl rfl rfl) (simS_next rfl) rfl rfl)
      (simS_seq (simS_asg (simE_var (i := 0) rfl) (simG_tup (simGs_cons (simG_name (i := 1) (show 1 < 3 by decide) rfl rfl) (simGs_cons (simG_name (i := 2) (show 2 < 3 by decide) rfl rfl) simGs_nil))) rfl rfl)
      (simS_ret (simE_andV (simE_call0 M_is_place (simA_varF (i := 1) simA_nil) rfl rfl) (simE_andV (simE_call0 M_is_place (simA_varF (i := 2) simA_nil) rfl rfl) (simE_op r2_ib (simE_var (i := 1) rfl) (simE_var (i := 2) rfl) rfl) rfl) rfl) rfl rfl rfl rfl))) ?_)⟩)
  rintro ds Q X ⟨os, rfl, ol, q⟩
  have fl : (Val.tup (os.map numV)).flat = true := by
    show Val.flatAll (os.map numV) = true
    exact flat_map numV (fun o => by cases o <;> rfl) os
  refine ⟨fl, fl, ?_⟩
  by_cases h2 : os.length = 2
  · refine ifF (show (true != decide ((((os.map numV).length : Nat) : Int) = 2)) = false by rw [decide_eq_true (by rw [List.length_map, h2]; rfl)]; rfl) ?_
    obtain ⟨a, b, rfl⟩ : ∃ a b, os = [a, b] := by
      match os, h2 with
      | [a, b], _ => exact ⟨a, b, rfl⟩
    have fa : (numV a).flat = true := by cases a <;> rfl
    have fb : (numV b).flat = true := by cases b <;> rfl
    refine ⟨rfl, fa, a, rfl, ?_⟩
    have e : spanO [a, b] = (placeO a && (placeO b && match a, b with | some x, some y => decide (x < y) | _, _ => false)) := by
      cases a with
      | none => cases b <;> rfl
      | some x =>
        cases b with
        | none => show false = (isPlace x && (false && false)); simp
        | some y =>
          show isSpan (x, y) = _
          unfold isSpan
          rw [Bool.and_assoc]
          rfl
    rw [e] at q
    cases ha : placeO a with
    | false =>
      rw [ha] at q
      exact q
    | true =>
      rw [ha, Bool.true_and] at q
      refine ⟨fb, b, rfl, ?_⟩
      cases hb : placeO b with
      | false =>
        rw [hb] at q
        exact q
      | true =>
        rw [hb, Bool.true_and] at q
        cases a with
        | none => cases ha
        | some x =>
          cases b with
          | none => cases hb
          | some y => exact q
  · refine ifT (show (true != decide ((((os.map numV).length : Nat) : Int) = 2)) = true by rw [decide_eq_false (by rw [List.length_map]; omega)]; rfl) ?_
    have e : spanO os = false := by
      match os, h2 with
      | [], _ => rfl
      | [a], _ => cases a <;> rfl
      | [_, _], h => exact absurd rfl h
      | a :: b :: _ :: _, _ => cases a <;> cases b <;> rfl
    rw [e] at q
    exact q
def spanG : List (Option Int) → Option Span
  | [some a, some b] => if isSpan (a, b) = true then some (a, b) else none
  | _ => none
def spanF (l : List Nat) : Option Span := spanG ((TL.spl [46, 46] 0 [] l).map numF)
def spO : Option Span → Val
  | some s => spV s
  | none => .non
theorem spl_len (S : List Nat) : ∀ (l : List Nat) (k : Nat) (acc : List Nat), (TL.spl S k acc l).length ≤ l.length + 1
  | [], k, acc => by rw [TL.spl_nil]; exact Nat.le_refl _
  | c :: r, 0, acc => by
    show (if TL.pre S (c :: r) = true then acc :: TL.spl S (S.length - 1) [] r else TL.spl S 0 (acc ++ [c]) r).length ≤ r.length + 1 + 1
    split
    · exact Nat.succ_le_succ (spl_len S r _ _)
    · exact Nat.le_succ_of_le (spl_len S r _ _)
  | c :: r, k + 1, acc => Nat.le_succ_of_le (spl_len S r k acc)
theorem spl_each (S : List Nat) : ∀ (l : List Nat) (k : Nat) (acc : List Nat), ∀ p ∈ TL.spl S k acc l, p.length ≤ acc.length + l.length
  | [], k, acc => by
    rw [TL.spl_nil]
    intro p hp
    rw [List.mem_singleton.mp hp]
    exact Nat.le_add_right _ _
  | c :: r, 0, acc => by
    show ∀ p ∈ (if TL.pre S (c :: r) = true then acc :: TL.spl S (S.length - 1) [] r else TL.spl S 0 (acc ++ [c]) r), p.length ≤ acc.length + (r.length + 1)
    intro p hp
    split at hp
    · rcases List.mem_cons.mp hp with e | h
      · rw [e]
        omega
      · have := spl_each S r _ _ p h
        simp at this
        omega
    · have := spl_each S r _ _ p hp
      rw [List.length_append, List.length_singleton] at this
      omega
  | c :: r, k + 1, acc => fun p hp => by
    have := spl_each S r k acc p hp
    rw [List.length_cons]
    omega
def cSpanF : VSpec := fun ds Q _ => ∃ x : Str, ds = [.str x] ∧ x.length ≤ 90000 ∧ Q [] (spO (spanF x.cps.toList))
theorem M_span_from : Mono cSpanF := fun ds Q Q' E E' h _ ⟨x, a, b, q⟩ => ⟨x, a, b, h _ _ q⟩
theorem v_span_from (T : Tx K mg) (B : Tbs T base) : FnOk P w K mg base CX0 (4) T.f_span_from T.fd_span_from ["text"] (vsp K T.tabs [] 1 cSpanF) := by
  have G_number_from : FnOk P w K mg base CX0 _ _ _ _ _ := v_number_from T B
  have G_is_span : FnOk P w K mg base CX0 _ _ _ _ _ := v_is_span T
  refine T.F_span_from.ok sc_span_from (fun vs H Q E h => vsp_len h) (fun cdv A outer s H vs Q E hr h => ⟨_, (pss_cons (ps_set (i := 1) sc_span_from.nd rfl (Or.inl rfl) (pe_callTy (show CallR _ (.type "tuple") (rTupOf K) from call_tuple_of) (by rfl) T.m_tuple (by decide +kernel) (pa_cons (pe_lc (own := [("word", 2)]) (g := (gName 2)) (by rfl) sc_span_from.nd (pi_list (pe_bm PySem.F.plainAttrs_str PySem.F.slot_str_split PySem.F.type_str_split (show MtR _ "str.split" rSplit from mt_split) (pv 0) (pa_cons pe_str pa_nil))) (blkOk_by (own := [("word", 2)]) (N := N_span_from) (sc := defScope s_span_from) (by decide +kernel)) (fun _ _ _ _ _ => (pg_name (i := 2) sc_span_from.nd rfl (Or.inl rfl))) (fun _ _ _ _ _ => pts_nil) (fun _ _ _ _ _ => (pe_call G_number_from (hr.mono (by decide)) (by rfl) T.g_number_from T.F_number_from.kp T.b_number_from .nil pass0 (pa_cons (pv 2) pa_nil)))) pa_nil)))
      (pss_one (ps_ret (pe_ifExp (pt_val (pe_call G_is_span (hr.mono (by decide)) (by rfl) T.g_is_span T.F_is_span.kp T.b_is_span .nil pass0 (pa_cons (pv 1) pa_nil))) (pv 1) pe_non)))), (vfn (N := 3) (lo := []) (Ef := []) U0 h rfl (by decide) rfl rfl hU0 (simS_seq (simS_asg (simE_tupOf (simE_lc (fx := [0, 1]) (simI_list (simE_split (simE_var (i := 0) rfl))) (simG_name (i := 2) (show 2 < 3 by decide) rfl rfl) simT_yes (simE_call0 M_number_from (simA_varF (i := 2) simA_nil) rfl rfl) rfl rfl rfl)) (simG_name (i := 1) (show 1 < 3 by decide) rfl rfl) rfl rfl)
      (simS_ret (simE_if (simT_tB (simE_call0 M_is_span (simA_varF (i := 1) simA_nil) rfl rfl)) (simE_flat (simE_var (i := 1) rfl)) simE_non) rfl rfl rfl rfl)) ?_)⟩)
  rintro ds Q X ⟨x, rfl, xl, q⟩
  obtain ⟨l, rfl⟩ : ∃ l, x = SX.S l := ⟨x.cps.toList, (SX.S_tl x).symm⟩
  have sl : (SX.S l).length = l.length := SX.S_len l
  rw [sl] at xl
  have q : Q [] (spO (spanF l)) := q
  have nf : ∀ o : Option Int, (numV o).flat = true := fun o => by cases o <;> rfl
  have pl := spl_len [46, 46] l 0 []
  refine ⟨SX.S l, rfl, by rw [sl]; omega, ?_⟩
  refine lc_map (TL.spl [46, 46] 0 [] l) (fun p => Val.str (SX.S p)) (fun p => numV (numF p)) ?_ (fun p _ => nf _) (by omega) ?_
  · intro p hp R h
    have := spl_each [46, 46] l 0 [] p hp
    refine ⟨rfl, SX.S p, rfl, by rw [SX.S_len]; simp at this; omega, h⟩
  refine ⟨_, rfl, flat_map (fun p => numV (numF p)) (fun p => nf _) _, ?_⟩
  have em : (TL.spl [46, 46] 0 [] l).map (fun p => numV (numF p)) = ((TL.spl [46, 46] 0 [] l).map numF).map numV := by
    rw [List.map_map]
    rfl
  rw [em]
  have fos : ∀ os : List (Option Int), (Val.tup (os.map numV)).flat = true := fun os => flat_map numV nf os
  refine ⟨fos _, (TL.spl [46, 46] 0 [] l).map numF, rfl, by rw [List.length_map]; omega, ?_⟩
  have eF : spanF l = spanG ((TL.spl [46, 46] 0 [] l).map numF) := rfl
  rw [eF] at q
  generalize (TL.spl [46, 46] 0 [] l).map numF = os at q
  cases e : spanO os with
  | false =>
    have e2 : spanG os = none := by
      match os, e with
      | [], _ => rfl
      | [a], _ => cases a <;> rfl
      | [none, b], _ => cases b <;> rfl
      | [some a, none], _ => rfl
      | [some a, some b], e => exact if_neg (by rw [show isSpan (a, b) = false from e]; decide)
      | a :: b :: _ :: _, _ => cases a <;> cases b <;> rfl
    rw [e2] at q
    exact q
  | true =>
    match os, e with
    | [a], e => cases a <;> cases e
    | [none, b], e => cases b <;> cases e
    | [some a, none], e => cases e
    | a :: b :: c :: d, e => cases a <;> cases b <;> cases e
    | [some a, some b], e =>
      have e2 : spanG [some a, some b] = some (a, b) := if_pos e
      rw [e2] at q
      exact ⟨rfl, q⟩
end
section
variable {P : Program} {w : World} {K : PySem.W.Frag} {mg : Str → Option Value} {base : Heap}
/-- a cover read of a text -/
def coverG (os : List (Option Span)) : Option (List Span) := if os.any (·.isNone) = true then none else if covB (os.filterMap id) = true then some (os.filterMap id) else none
def coverF (l : List Nat) : Option (List Span) := if l = [] then some [] else coverG ((TL.spl [32] 0 [] l).map spanF)
def cReadCover (T : Tx K mg) : VSpec := fun ds Q X => ∃ x : Str, ds = [.str x] ∧ x.length ≤ 80000 ∧ (coverF x.cps.toList = none → X (.ref T.C_NoText)) ∧ (∀ c, coverF x.cps.toList = some c → Q [] (.lst (c.map spV)))
theorem M_read_cover {T : Tx K mg} : Mono (cReadCover T) := fun ds Q Q' E E' h x ⟨s, a, b, q1, q2⟩ => ⟨s, a, b, fun z => x _ (q1 z), fun s z => h _ _ (q2 s z)⟩
theorem v_read_cover (T : Tx K mg) (B : Tbs T base) : FnOk P w K mg base (L2.CX P w) (5) T.f_read_cover T.fd_read_cover ["text"] (vsp K T.tabs [] 1 (cReadCover T)) := by
  have G_span_from : FnOk P w K mg base CX0 _ _ _ _ _ := v_span_from T B
  have G_is_cover : FnOk P w K mg base CX0 _ _ _ _ _ := v_is_cover T B
  refine T.F_read_cover.okX sc_read_cover (fun vs H Q E h => vsp_len h) (fun cdv A outer s H vs Q E hr h => ⟨_, (pss_cons (ps_set (i := 1) sc_read_cover.nd rfl (Or.inl rfl) (pe_ifExp (pt_truth (pv 0) (by intro _; rfl)) (pe_lc (own := [("word", 2)]) (g := (gName 2)) (by rfl) sc_read_cover.nd (pi_list (pe_bm PySem.F.plainAttrs_str PySem.F.slot_str_split PySem.F.type_str_split (show MtR _ "str.split" rSplit from mt_split) (pv 0) (pa_cons pe_str pa_nil))) (blkOk_by (own := [("word", 2)]) (N := N_read_cover) (sc := defScope s_read_cover) (by decide +kernel)) (fun _ _ _ _ _ => (pg_name (i := 2) sc_read_cover.nd rfl (Or.inl rfl))) (fun _ _ _ _ _ => pts_nil) (fun _ _ _ _ _ => (pe_call G_span_from (hr.mono (by decide)) (by rfl) T.g_span_from T.F_span_from.kp T.b_span_from .nil pass0 (pa_cons (pv 2) pa_nil)))) (pe_lst pa_nil)))
      (pss_cons (ps_if (PW.pt (pw_or (pt_cmpR (op_inD (units65 hr)) pe_non (pv 1) (by rfl)) (pw_or1 (pt_not (pt_val (pe_call G_is_cover (hr.mono (by decide)) (by rfl) T.g_is_cover T.F_is_cover.kp T.b_is_cover .nil pass0 (pa_cons (pv 1) pa_nil))))))) (pss_one (ps_raise (by rfl) (takes_of rfl rfl rfl rfl) (pmk_own PySem.F.excBase_ValueError T.x_NoText T.g_NoText T.k_NoText (raises_own T.b_NoText T.t_NoText) (by exact rfl)))) pss_nil)
      (pss_one (ps_ret (pv 1))))), (vfnX (N := 3) (lo := [1]) (Ef := [1]) U0 h rfl (by decide) rfl rfl hU0 (fun xe => (simS_seq (simS_setO (i := 1) (simE_if (simT_truthS (simE_var (i := 0) rfl)) (simE_lc (fx := [0, 1]) (simI_list (simE_split (simE_var (i := 0) rfl))) (simG_name (i := 2) (show 2 < 3 by decide) rfl rfl) simT_yes (simE_call0 M_span_from (simA_varF (i := 2) simA_nil) rfl rfl) rfl rfl rfl) (simE_lst simA_nil (by decide))) (show 1 < 3 by decide) rfl rfl rfl rfl rfl)
      (simS_seq (simS_if (simT_or (simT_test (simE_op r2_inD simE_non (simE_own (i := 1)) rfl)) (simT_not (simT_tB (simE_call0 M_is_cover (simA_cons (simE_own (i := 1)) simA_nil rfl) rfl rfl))) rfl) (simS_raise (cls := .ref T.C_NoText)) (simS_next rfl) rfl rfl)
      (simS_ret (simE_move (i := 1) rfl) rfl rfl rfl rfl)))) ?_)⟩)
  rintro ds Q X ⟨x, rfl, xl, q1, q2⟩
  obtain ⟨l, rfl⟩ : ∃ l, x = SX.S l := ⟨x.cps.toList, (SX.S_tl x).symm⟩
  have sl : (SX.S l).length = l.length := SX.S_len l
  rw [sl] at xl
  have q1 : coverF l = none → X (.ref T.C_NoText) := q1
  have q2 : ∀ c, coverF l = some c → Q [] (.lst (c.map spV)) := q2
  have sf : ∀ o : Option Span, (spO o).flat = true := fun o => by cases o <;> rfl
  cases l with
  | nil =>
    refine ⟨_, rfl, by decide, ?_⟩
    refine ⟨[], rfl, (okN_non 0).okD (by decide), okD_nil, ?_⟩
    refine ⟨[], rfl, by decide, ?_⟩
    exact q2 [] rfl
  | cons a r =>
    refine ⟨_, rfl, by rw [sl]; omega, ?_⟩
    refine ⟨_, rfl, by rw [sl]; omega, ?_⟩
    obtain ⟨L, hL⟩ : ∃ L, L = a :: r := ⟨_, rfl⟩
    have eF : coverF L = coverG ((TL.spl [32] 0 [] L).map spanF) := by
      unfold coverF
      rw [if_neg (by rw [hL]; exact List.cons_ne_nil _ _)]
    rw [← hL] at q1 q2 xl sl ⊢
    rw [eF] at q1 q2
    have pl := spl_len [32] L 0 []
    refine lc_map (TL.spl [32] 0 [] L) (fun p => Val.str (SX.S p)) (fun p => spO (spanF p)) ?_ (fun p _ => sf _) (by omega) ?_
    · intro p hp R h
      have := spl_each [32] L 0 [] p hp
      exact ⟨rfl, SX.S p, rfl, by rw [SX.S_len]; simp at this; omega, h⟩
    have em : (TL.spl [32] 0 [] L).map (fun p => spO (spanF p)) = ((TL.spl [32] 0 [] L).map spanF).map spO := by
      rw [List.map_map]
      rfl
    rw [em]
    have ol : ((TL.spl [32] 0 [] L).map spanF).length ≤ 100000 := by
      rw [List.length_map]
      omega
    generalize (TL.spl [32] 0 [] L).map spanF = os at q1 q2 ol
    have okl : Val.okD (.lst (os.map spO)) := (okN_map (n := 1) (fun o => by
      cases o with
      | none => exact okN_non 1
      | some s => exact okN_span s) os).okD (by decide)
    refine ⟨_, rfl, (okN_non 0).okD (by decide), okl, ?_⟩
    have ea : ((os.map spO).any fun z => PyData.eqv z.toD Val.non.toD) = os.any (·.isNone) := by
      rw [List.any_map]
      refine congrArg (fun f => List.any os f) (funext fun o => ?_)
      cases o <;> rfl
    cases en : os.any (·.isNone) with
    | true =>
      refine ifT (by rw [ea, en]; rfl) ?_
      exact q1 (by unfold coverG; rw [if_pos en])
    | false =>
      refine ifF (by rw [ea, en]; rfl) ?_
      have e2 : os.map spO = (os.filterMap id).map spV := by
        clear q1 q2 ol okl ea em
        induction os with
        | nil => rfl
        | cons o t ih =>
          cases o with
          | none => cases en
          | some s =>
            rw [List.map_cons, ih en]
            rfl
      rw [e2]
      refine ⟨os.filterMap id, rfl, by have := List.length_filterMap_le id os; omega, ?_⟩
      cases ec : covB (os.filterMap id) with
      | true => exact q2 _ (by unfold coverG; rw [if_neg (by rw [en]; decide), if_pos ec])
      | false => exact q1 (by unfold coverG; rw [if_neg (by rw [en]; decide), if_neg (by rw [ec]; decide)])
def cReadSpan (T : Tx K mg) : VSpec := fun ds Q X => ∃ x : Str, ds = [.str x] ∧ x.length ≤ 90000 ∧ (spanF x.cps.toList = none → X (.ref T.C_NoText)) ∧ (∀ s, spanF x.cps.toList = some s → Q [] (spV s))
theorem M_read_span {T : Tx K mg} : Mono (cReadSpan T) := fun ds Q Q' E E' h x ⟨s, a, b, q1, q2⟩ => ⟨s, a, b, fun z => x _ (q1 z), fun s z => h _ _ (q2 s z)⟩
theorem v_read_span (T : Tx K mg) (B : Tbs T base) : FnOk P w K mg base (L2.CX P w) (5) T.f_read_span T.fd_read_span ["text"] (vsp K T.tabs [] 1 (cReadSpan T)) := by
  have G_span_from : FnOk P w K mg base CX0 _ _ _ _ _ := v_span_from T B
  refine T.F_read_span.okX sc_read_span (fun vs H Q E h => vsp_len h) (fun cdv A outer s H vs Q E hr h => ⟨_, (pss_cons (ps_set (i := 1) sc_read_span.nd rfl (Or.inl rfl) (pe_call G_span_from (hr.mono (by decide)) (by rfl) T.g_span_from T.F_span_from.kp T.b_span_from .nil pass0 (pa_cons (pv 0) pa_nil)))
      (pss_cons (ps_if (pt_cmpR op_isN (pv 1) pe_non (nomark _)) (pss_one (ps_raise (by rfl) (takes_of rfl rfl rfl rfl) (pmk_own PySem.F.excBase_ValueError T.x_NoText T.g_NoText T.k_NoText (raises_own T.b_NoText T.t_NoText) (by exact rfl)))) pss_nil)
      (pss_one (ps_ret (pv 1))))), (vfnX (N := 2) (lo := []) (Ef := []) U0 h rfl (by decide) rfl rfl hU0 (fun xe => (simS_seq (simS_asg (simE_call0 M_span_from (simA_varF (i := 0) simA_nil) rfl rfl) (simG_name (i := 1) (show 1 < 2 by decide) rfl rfl) rfl rfl)
      (simS_seq (simS_if (simT_test (simE_op r2_isN (simE_var (i := 1) rfl) simE_non rfl)) (simS_raise (cls := .ref T.C_NoText)) (simS_next rfl) rfl rfl)
      (simS_ret (simE_flat (simE_var (i := 1) rfl)) rfl rfl rfl rfl)))) ?_)⟩)
  rintro ds Q X ⟨x, rfl, xl, q1, q2⟩
  refine ⟨rfl, x, rfl, xl, ?_⟩
  cases e : spanF x.cps.toList with
  | none => exact q1 e
  | some s => exact ⟨rfl, q2 s e⟩
end
section
variable {P : Program} {w : World} {K : PySem.W.Frag} {mg : Str → Option Value} {base : Heap}
theorem lt_one (a b : Nat) : decide ([a] < [b]) = decide (a < b) := by
  by_cases h : a < b
  · rw [decide_eq_true h]
    exact decide_eq_true (List.cons_lt_cons_iff.mpr (.inl h))
  · rw [decide_eq_false h]
    refine decide_eq_false fun z => ?_
    rcases List.cons_lt_cons_iff.mp z with y | ⟨_, y⟩
    · exact h y
    · exact List.not_lt_nil _ y
def lowS (s : Str) : Bool := (!decide (s.cps.toList < [97])) && (!decide ([122] < s.cps.toList))
theorem lowS_all (x : Str) : (signs x).all lowS = x.cps.toList.all isLow := by
  unfold signs
  rw [List.all_map]
  refine List.all_congr rfl fun c => ?_
  show ((!decide ([c] < [97])) && (!decide ([122] < [c]))) = _
  rw [lt_one, lt_one]
  unfold isLow
  by_cases h1 : c < 97
  · rw [decide_eq_true h1, decide_eq_false (by omega : ¬ 97 ≤ c)]
    rfl
  · rw [decide_eq_false h1, decide_eq_true (by omega : 97 ≤ c)]
    by_cases h2 : 122 < c
    · rw [decide_eq_true h2, decide_eq_false (by omega : ¬ c ≤ 122)]
      rfl
    · rw [decide_eq_false h2, decide_eq_true (by omega : c ≤ 122)]
      rfl
def cIsName : VSpec := fun ds Q _ => ∃ x : Str, ds = [.str x] ∧ x.length ≤ 1000000 ∧ Q [] (.bl (isName x))
theorem M_is_name : Mono cIsName := fun ds Q Q' E E' h _ ⟨x, e, l, q⟩ => ⟨x, e, l, h _ _ q⟩
theorem v_is_name (T : Tx K mg) (B : Tbs T base) : FnOk P w K mg base CX0 (1) T.f_is_name T.fd_is_name ["text"] (vsp K T.tabs [] 1 cIsName) := by
  refine T.FC_is_name.ok sc_is_name (fun vs H Q E h => vsp_len h) (fun A outer s H vs Q E hr h => ⟨_, (pss_one (ps_ret (pe_and (pe_chain op_le op_le pe_int (pe_callB (show CallR _ (.builtin "len") (fun xs H Q => ∃ x n, xs = [x] ∧ LenV K x H n ∧ Q (.int (n : Nat)) H) from call_len) (by rfl) T.m_len PySem.boot_len (pa_cons (pv 0) pa_nil)) (pe_glob (v := .int (8)) (by rfl) T.c_LONGEST_NAME ⟨_, rfl⟩)) (pe_one (pe_gxAll (own := [("sign", 1)]) (g := (gName 1)) hr rfl sc_is_name.nd (by rfl) T.m_all (by decide +kernel) B.t_is_name rfl (gblk_by (own := [("sign", 1)]) (N := N_is_name) (sc := defScope s_is_name) (by decide +kernel)) (pi_str (pv 0)) (fun _ _ _ _ _ => by exact (pg_name (i := 1) sc_is_name.nd rfl (Or.inl rfl))) (fun _ _ _ _ _ => pts_nil) (fun _ _ _ _ _ => (pe_chain op_le_str op_le_str pe_str (pv 1) pe_str)) (fun _ => rfl)))))), (vfn (N := 2) (lo := []) (Ef := []) U0 h rfl (by decide) rfl rfl hU0 (simS_ret (simE_andV (simE_chain r2_ib r2_ib simE_int (simE_cb cb_lenS (simA_varF (i := 0) simA_nil)) simE_int rfl rfl rfl) (simE_gx (fx := [0]) cs_all (simI_str (simE_var (i := 0) rfl)) (simG_name (i := 1) (show 1 < 2 by decide) rfl rfl) simT_yes (simE_chain r2_leS r2_leS simE_str (simE_var (i := 1) rfl) simE_str rfl rfl rfl) (by unfold Tx.tabs; simp) rfl rfl rfl) rfl) rfl rfl rfl rfl) ?_)⟩)
  rintro ds Q X ⟨x, rfl, lx, q⟩
  have el : x.cps.toList.length = x.length := Array.length_toList
  refine ⟨rfl, small_le lx, ?_⟩
  unfold isName at q
  rw [el] at q
  by_cases h1 : 1 ≤ x.length
  · refine ifT (decide_eq_true (by omega)) ?_
    by_cases h2 : x.length ≤ 8
    · refine ifT (decide_eq_true (by omega)) ?_
      rw [decide_eq_true h1, decide_eq_true h2] at q
      refine gxv_all (signs x) Val.str lowS ?_ ?_
      · intro s _ R h
        show (if (!decide (s.cps.toList < [97])) = true then _ else _)
        unfold lowS at h
        cases e : (!decide (s.cps.toList < [97])) with
        | true =>
          rw [e] at h
          exact h
        | false =>
          rw [e] at h
          exact h
      · rw [lowS_all]
        exact q
    · refine ifF (decide_eq_false (by omega)) ?_
      rw [decide_eq_false h2, Bool.and_false] at q
      exact q
  · refine ifF (decide_eq_false (by omega)) ?_
    rw [decide_eq_false h1] at q
    exact q
end
section
variable {P : Program} {w : World} {K : PySem.W.Frag} {mg : Str → Option Value} {base : Heap}
/-! ### a shelf read of a text -/
def wtO : Option Int → Bool
  | some i => isWt i
  | none => false
def cWeightO : VSpec := fun ds Q _ => ∃ o : Option Int, ds = [numV o] ∧ Q [] (.bl (wtO o))
theorem M_is_weight : Mono cWeightO := fun ds Q Q' E E' h _ ⟨x, a, q⟩ => ⟨x, a, h _ _ q⟩
theorem v_is_weight (T : Tx K mg) : FnOk P w K mg base CX0 (2) T.f_is_weight T.fd_is_weight ["number"] (vsp K T.tabs [] 1 cWeightO) := by
  have G_is_whole : FnOk P w K mg base CX0 _ _ _ _ _ := v_is_whole T
  refine T.F_is_weight.ok sc_is_weight (fun vs H Q E h => vsp_len h) (fun cdv A outer s H vs Q E hr h => ⟨_, (pss_one (ps_ret (pe_and (pe_call G_is_whole (hr.mono (by decide)) (by rfl) T.g_is_whole T.F_is_whole.kp T.b_is_whole .nil pass0 (pa_cons (pv 0) pa_nil)) (pe_one (pe_chain op_le op_le pe_int (pv 0) (pe_glob (v := .int (1000000000)) (by rfl) T.c_GREATEST_WEIGHT ⟨_, rfl⟩)))))), (vfn (N := 1) (lo := []) (Ef := []) U0 h rfl (by decide) rfl rfl hU0 (simS_ret (simE_andV (simE_call0 M_is_whole (simA_varF (i := 0) simA_nil) rfl rfl) (simE_chain r2_ib r2_ib simE_int (simE_var (i := 0) rfl) simE_int rfl rfl rfl) rfl) rfl rfl rfl rfl) ?_)⟩)
  rintro ds Q X ⟨o, rfl, q⟩
  cases o with
  | none => exact ⟨rfl, none, rfl, q⟩
  | some i =>
    refine ⟨rfl, some i, rfl, ?_⟩
    have q : Q [] (.bl (isWt i)) := q
    unfold isWt at q
    by_cases h : 0 ≤ i
    · rw [decide_eq_true h, Bool.true_and] at q
      refine ifT (decide_eq_true h) ?_
      exact q
    · rw [decide_eq_false h, Bool.false_and] at q
      refine ifF (decide_eq_false h) ?_
      exact q
def rowG : List (List Nat) → Option Row
  | [a, b, c] => if isName (SX.S a) = true then (match spanF b with
    | some s => (match numF c with
      | some n => if isWt n = true then some (SX.S a, s, n) else none
      | none => none)
    | none => none) else none
  | _ => none
def rowF (l : List Nat) : Option Row := rowG (TL.spl [32] 0 [] l)
def rowX (r : Row) : Val := .tup [.str r.1, spV r.2.1, .int r.2.2]
def rowO : Option Row → Val
  | some r => rowX r
  | none => .non
theorem rowO_flat (o : Option Row) : (rowO o).flat = true := by cases o <;> rfl
def cRowF : VSpec := fun ds Q _ => ∃ x : Str, ds = [.str x] ∧ x.length ≤ 80000 ∧ Q [] (rowO (rowF x.cps.toList))
theorem M_row_from : Mono cRowF := fun ds Q Q' E E' h _ ⟨x, a, b, q⟩ => ⟨x, a, b, h _ _ q⟩
theorem v_row_from (T : Tx K mg) (B : Tbs T base) : FnOk P w K mg base CX0 (5) T.f_row_from T.fd_row_from ["line"] (vsp K T.tabs [] 1 cRowF) := by
  have G_span_from : FnOk P w K mg base CX0 _ _ _ _ _ := v_span_from T B
  have G_number_from : FnOk P w K mg base CX0 _ _ _ _ _ := v_number_from T B
  have G_is_name : FnOk P w K mg base CX0 _ _ _ _ _ := v_is_name T B
  have G_is_weight : FnOk P w K mg base CX0 _ _ _ _ _ := v_is_weight T
  refine T.F_row_from.ok sc_row_from (fun vs H Q E h => vsp_len h) (fun cdv A outer s H vs Q E hr h => ⟨_, (pss_cons (ps_set (i := 1) sc_row_from.nd rfl (Or.inl rfl) (pe_bm PySem.F.plainAttrs_str PySem.F.slot_str_split PySem.F.type_str_split (show MtR _ "str.split" rSplit from mt_split) (pv 0) (pa_cons pe_str pa_nil)))
      (pss_cons (ps_if (PW.pt (pw_or (pt_cmpR op_ne (pe_callB call_len_seq (by rfl) T.m_len PySem.boot_len (pa_cons (pv 1) pa_nil)) pe_int (nomark _)) (pw_or1 (pt_not (pt_val (pe_call G_is_name (hr.mono (by decide)) (by rfl) T.g_is_name T.F_is_name.kp T.b_is_name .nil pass0 (pa_cons (pe_ix ix_list (pv 1) pe_int (fun _ _ => rfl)) pa_nil))))))) (pss_one (ps_ret pe_non)) pss_nil)
      (pss_cons (ps_set (i := 2) sc_row_from.nd rfl (Or.inl rfl) (pe_call G_span_from (hr.mono (by decide)) (by rfl) T.g_span_from T.F_span_from.kp T.b_span_from .nil pass0 (pa_cons (pe_ix ix_list (pv 1) pe_int (fun _ _ => rfl)) pa_nil)))
      (pss_cons (ps_set (i := 3) sc_row_from.nd rfl (Or.inl rfl) (pe_call G_number_from (hr.mono (by decide)) (by rfl) T.g_number_from T.F_number_from.kp T.b_number_from .nil pass0 (pa_cons (pe_ix ix_list (pv 1) pe_int (fun _ _ => rfl)) pa_nil)))
      (pss_cons (ps_if (PW.pt (pw_or (pt_cmpR op_isN (pv 2) pe_non (nomark _)) (pw_or1 (pt_not (pt_val (pe_call G_is_weight (hr.mono (by decide)) (by rfl) T.g_is_weight T.F_is_weight.kp T.b_is_weight .nil pass0 (pa_cons (pv 3) pa_nil))))))) (pss_one (ps_ret pe_non)) pss_nil)
      (pss_one (ps_ret (pe_tup (pa_cons (pe_ix ix_list (pv 1) pe_int (fun _ _ => rfl)) (pa_cons (pv 2) (pa_cons (pv 3) pa_nil))))))))))), (vfn (N := 4) (lo := []) (Ef := []) U0 h rfl (by decide) rfl rfl hU0 (simS_seq (simS_asg (simE_split (simE_var (i := 0) rfl)) (simG_name (i := 1) (show 1 < 4 by decide) rfl rfl) rfl rfl)
      (simS_seq (simS_if (simT_or (simT_test (simE_op r2_ne (simE_cb cb_len (simA_var (i := 1) rfl simA_nil)) simE_int rfl)) (simT_not (simT_tB (simE_call0 M_is_name (simA_consF (simE_flat (simE_ixL (simE_var (i := 1) rfl) simE_int rfl)) simA_nil rfl rfl rfl rfl rfl) rfl rfl))) rfl) (simS_ret simE_non rfl rfl rfl rfl) (simS_next rfl) rfl rfl)
      (simS_seq (simS_asg (simE_call0 M_span_from (simA_consF (simE_flat (simE_ixL (simE_var (i := 1) rfl) simE_int rfl)) simA_nil rfl rfl rfl rfl rfl) rfl rfl) (simG_name (i := 2) (show 2 < 4 by decide) rfl rfl) rfl rfl)
      (simS_seq (simS_asg (simE_call0 M_number_from (simA_consF (simE_flat (simE_ixL (simE_var (i := 1) rfl) simE_int rfl)) simA_nil rfl rfl rfl rfl rfl) rfl rfl) (simG_name (i := 3) (show 3 < 4 by decide) rfl rfl) rfl rfl)
      (simS_seq (simS_if (simT_or (simT_test (simE_op r2_isN (simE_var (i := 2) rfl) simE_non rfl)) (simT_not (simT_tB (simE_call0 M_is_weight (simA_var (i := 3) rfl simA_nil) rfl rfl))) rfl) (simS_ret simE_non rfl rfl rfl rfl) (simS_next rfl) rfl rfl)
      (simS_ret (simE_flat (simE_tup (simA_cons (simE_ixL (simE_var (i := 1) rfl) simE_int rfl) (simA_var (i := 2) rfl (simA_var (i := 3) rfl simA_nil)) rfl) (by decide))) rfl rfl rfl rfl)))))) ?_)⟩)
  rintro ds Q X ⟨x, rfl, xl, q⟩
  obtain ⟨l, rfl⟩ : ∃ l, x = SX.S l := ⟨x.cps.toList, (SX.S_tl x).symm⟩
  have sl : (SX.S l).length = l.length := SX.S_len l
  rw [sl] at xl
  have q : Q [] (rowO (rowG (TL.spl [32] 0 [] l))) := q
  have pl := spl_len [32] l 0 []
  have pe := spl_each [32] l 0 []
  refine ⟨SX.S l, rfl, by rw [sl]; omega, ?_⟩
  have e0 : TL.spl (Str.ofString " ").cps.toList 0 [] (SX.S l).cps.toList = TL.spl [32] 0 [] l := rfl
  rw [e0]
  generalize TL.spl [32] 0 [] l = ws at q pl pe
  by_cases h3 : ws.length = 3
  · obtain ⟨a, b, c, rfl⟩ : ∃ a b c, ws = [a, b, c] := by
      match ws, h3 with
      | [a, b, c], _ => exact ⟨a, b, c, rfl⟩
    have la : a.length ≤ l.length := by have := pe a (by simp); simp at this; exact this
    have lb : b.length ≤ l.length := by have := pe b (by simp); simp at this; exact this
    have lc : c.length ≤ l.length := by have := pe c (by simp); simp at this; exact this
    show wSeq _ _ _ [some (.str (SX.S l)), some (.lst [.str (SX.S a), .str (SX.S b), .str (SX.S c)]), none, none]
    refine ⟨rfl, SX.S a, rfl, by rw [SX.S_len]; omega, ?_⟩
    have eg : rowG [a, b, c] = if isName (SX.S a) = true then (match spanF b with
      | some s => (match numF c with
        | some n => if isWt n = true then some (SX.S a, s, n) else none
        | none => none)
      | none => none) else none := rfl
    rw [eg] at q
    cases hn : isName (SX.S a) with
    | false =>
      rw [hn] at q
      exact q
    | true =>
      rw [hn, if_pos rfl] at q
      refine ⟨rfl, SX.S b, rfl, by rw [SX.S_len]; omega, ?_⟩
      rw [show spanF (SX.S b).cps.toList = spanF b from rfl]
      refine ⟨rfl, SX.S c, rfl, by rw [SX.S_len]; omega, ?_⟩
      rw [show numF (SX.S c).cps.toList = numF c from rfl]
      generalize spanF b = os at q
      generalize numF c = on at q
      cases os with
      | none => exact q
      | some s =>
        refine ⟨on, rfl, ?_⟩
        cases on with
        | none => exact q
        | some n =>
          have q : Q [] (rowO (if isWt n = true then some (SX.S a, s, n) else none)) := q
          cases hw : isWt n with
          | false =>
            rw [hw] at q
            refine ifT (show (!isWt n) = true by rw [hw]; rfl) ?_
            exact q
          | true =>
            rw [hw] at q
            refine ifF (show (!isWt n) = false by rw [hw]; rfl) ?_
            exact ⟨rfl, q⟩
  · refine ifT (show (true != decide ((((ws.map fun l => Val.str (SX.S l)).length : Nat) : Int) = 3)) = true by rw [decide_eq_false (by rw [List.length_map]; omega)]; rfl) ?_
    have e : rowG ws = none := by
      match ws, h3 with
      | [], _ => rfl
      | [_], _ => rfl
      | [_, _], _ => rfl
      | [_, _, _], h => exact absurd rfl h
      | _ :: _ :: _ :: _ :: _, _ => rfl
    rw [e] at q
    exact q
def rowsB (rs : List Row) : Bool := decide (rs.length ≤ 60) && (rs.zip (rs.drop 1)).all fun p => decide (p.1.1.cps.toList < p.2.1.cps.toList)
def rowsG (os : List (Option Row)) : Option (List Row) := if os.any (·.isNone) = true then none else if rowsB (os.filterMap id) = true then some (os.filterMap id) else none
def cAreRows : VSpec := fun ds Q _ => ∃ os : List (Option Row), ds = [.lst (os.map rowO)] ∧ os.length ≤ 100000 ∧ (∀ r, some r ∈ os → isName r.1 = true) ∧ Q [] (.bl (rowsG os).isSome)
theorem M_are_rows : Mono cAreRows := fun ds Q Q' E E' h _ ⟨x, a, b, c, q⟩ => ⟨x, a, b, c, h _ _ q⟩
theorem okN_rowX (n : Nat) {r : Row} (h : isName r.1 = true) : okN (n + 2) (rowX r) := okN_tup (n := n + 1) (okN_c (okN_name _ h) (okN_c (okN_up (okN_span r.2.1) (by omega)) (okN_1 (okN_int _ r.2.2))))
theorem rows_some : ∀ {os : List (Option Row)}, os.any (·.isNone) = false → os.map rowO = (os.filterMap id).map rowX
  | [], _ => rfl
  | o :: t, h => by
    cases o with
    | none => cases h
    | some r =>
      rw [List.map_cons, rows_some (os := t) h]
      rfl
theorem v_are_rows (T : Tx K mg) (B : Tbs T base) : FnOk P w K mg base CX0 (1) T.f_are_rows T.fd_are_rows ["rows"] (vsp K T.tabs [] 1 cAreRows) := by
  refine T.FC_are_rows.ok sc_are_rows (fun vs H Q E h => vsp_len h) (fun A outer s H vs Q E hr h => ⟨_, (pss_cons (ps_if (PW.pt (pw_or (pt_cmpR (op_inD (units65 hr)) pe_non (pv 0) (by rfl)) (pw_or1 (pt_cmpR op_gt (pe_callB call_len_seq (by rfl) T.m_len PySem.boot_len (pa_cons (pv 0) pa_nil)) (pe_glob (v := .int (60)) (by rfl) T.c_MOST_KEPT ⟨_, rfl⟩) (nomark _))))) (pss_one (ps_ret pe_bl)) pss_nil)
      (pss_one (ps_ret (pe_gxAll (own := [("ahead", 1), ("behind", 2)]) (g := (gTup K 2 (gCons (gName 1) (gCons (gName 2) gNil)))) hr rfl sc_are_rows.nd (by rfl) T.m_all (by decide +kernel) B.t_are_rows rfl (gblk_by (own := [("ahead", 1), ("behind", 2)]) (N := N_are_rows) (sc := defScope s_are_rows) (by decide +kernel)) (pi_zip (by rfl) T.m_zip (pa_cons (pv 0) (pa_cons (pe_slice sl_list (pv 0) (po_some pe_int) po_none) pa_nil))) (fun _ _ _ _ _ => by exact (pg_tup rfl (pgs_cons (pg_name (i := 1) sc_are_rows.nd rfl (Or.inl rfl)) (pgs_cons (pg_name (i := 2) sc_are_rows.nd rfl (Or.inl rfl)) pgs_nil)))) (fun _ _ _ _ _ => pts_nil) (fun _ _ _ _ _ => (pe_cmpR op_lt_str (pe_ix (show IxR _ (rIxT K) from ix_tup) (pv 1) pe_int (fun _ _ => rfl)) (pe_ix (show IxR _ (rIxT K) from ix_tup) (pv 2) pe_int (fun _ _ => rfl)) (nomark _))) (fun _ => rfl))))), (vfn (N := 3) (lo := []) (Ef := []) U0 h rfl (by decide) rfl rfl hU0 (simS_seq (simS_if (simT_or (simT_test (simE_op r2_inD simE_non (simE_var (i := 0) rfl) rfl)) (simT_test (simE_op r2_ib (simE_cb cb_len (simA_var (i := 0) rfl simA_nil)) simE_int rfl)) rfl) (simS_ret simE_bl rfl rfl rfl rfl) (simS_next rfl) rfl rfl)
      (simS_ret (simE_gx (fx := [0]) cs_all (simI_zip (simA_var (i := 0) rfl (simA_consF (simE_sl (simE_var (i := 0) rfl) (simO_some simE_int) simO_none rfl rfl) simA_nil rfl rfl rfl rfl rfl))) (simG_tup (simGs_cons (simG_name (i := 1) (show 1 < 3 by decide) rfl rfl) (simGs_cons (simG_name (i := 2) (show 2 < 3 by decide) rfl rfl) simGs_nil))) simT_yes (simE_op r2_ltS (simE_ixT (simE_var (i := 1) rfl) simE_int rfl) (simE_ixT (simE_var (i := 2) rfl) simE_int rfl) rfl) (by unfold Tx.tabs; simp) rfl rfl rfl) rfl rfl rfl rfl)) ?_)⟩)
  rintro ds Q X ⟨os, rfl, ol, on, q⟩
  have okl : Val.okD (.lst (os.map rowO)) := (okN_lst (n := 2) fun v hv => by
    obtain ⟨o, ho, rfl⟩ := List.mem_map.mp hv
    cases o with
    | none => exact okN_non 2
    | some r => exact okN_rowX 0 (on r ho)).okD (by decide)
  refine ⟨_, rfl, (okN_non 0).okD (by decide), okl, ?_⟩
  have ea : ((os.map rowO).any fun z => PyData.eqv z.toD Val.non.toD) = os.any (·.isNone) := by
    rw [List.any_map]
    refine congrArg (fun f => List.any os f) (funext fun o => ?_)
    cases o <;> rfl
  cases en : os.any (·.isNone) with
  | true =>
    have e : rowsG os = none := by unfold rowsG; rw [if_pos en]
    rw [e] at q
    refine ifT (by rw [ea, en]; rfl) ?_
    exact q
  | false =>
    refine ifF (by rw [ea, en]; rfl) ?_
    have e : rowsG os = if rowsB (os.filterMap id) = true then some (os.filterMap id) else none := by unfold rowsG; rw [if_neg (by rw [en]; decide)]
    rw [e] at q
    have el : os.length = (os.filterMap id).length := by
      have := congrArg List.length (rows_some en)
      rwa [List.length_map, List.length_map] at this
    rw [rows_some en]
    rw [el] at ol
    generalize os.filterMap id = rs at q ol
    have le : (rs.map rowX).length = rs.length := List.length_map ..
    by_cases h2 : rs.length ≤ 60
    · refine ifF (decide_eq_false (by omega) : decide ((60 : Int) < ((rs.map rowX).length : Int)) = false) ?_
      refine ⟨flat_map rowX (fun _ => rfl) rs, ?_⟩
      rw [cut1_map]
      conv => whnf
      rw [zipV_map]
      refine gxv_all (rs.zip (rs.drop 1)) (fun p => .tup [rowX p.1, rowX p.2]) (fun p => decide (p.1.1.cps.toList < p.2.1.cps.toList)) (fun p _ R h => ⟨rfl, h⟩) ?_
      have e2 : rowsB rs = (rs.zip (rs.drop 1)).all fun p => decide (p.1.1.cps.toList < p.2.1.cps.toList) := by
        unfold rowsB
        rw [decide_eq_true h2, Bool.true_and]
      rw [← e2]
      cases hb : rowsB rs <;> (rw [hb] at q; exact q)
    · refine ifT (decide_eq_true (by omega) : decide ((60 : Int) < ((rs.map rowX).length : Int)) = true) ?_
      have e2 : rowsB rs = false := by
        unfold rowsB
        rw [decide_eq_false h2, Bool.false_and]
      rw [e2] at q
      exact q
end
theorem cutL_take' {α : Type} (xs : List α) (k : Nat) : cutL xs none (some (k : Int)) = xs.take k := by
  unfold cutL
  have e : HT.sIx xs.length xs.length (some (k : Int)) = min k xs.length := HT.sIx_nat ..
  have e0 : HT.sIx xs.length 0 none = 0 := rfl
  rw [e, e0, List.drop_zero, Nat.sub_zero]
  by_cases h : k ≤ xs.length
  · rw [Nat.min_eq_left h]
  · rw [Nat.min_eq_right (by omega), List.take_of_length_le (Nat.le_refl _), List.take_of_length_le (by omega)]
theorem cutL_drop' {α : Type} (xs : List α) (k : Nat) (h : k ≤ xs.length) : cutL xs (some (k : Int)) none = xs.drop k := by
  unfold cutL
  have e : HT.sIx xs.length 0 (some (k : Int)) = k := by
    rw [HT.sIx_nat, Nat.min_eq_left h]
  have e0 : HT.sIx xs.length xs.length none = xs.length := rfl
  rw [e, e0, List.take_of_length_le (by rw [List.length_drop]; omega)]
theorem cutL_dropL {α : Type} (xs : List α) (k : Nat) : (cutL xs (some (k : Int)) none).length = xs.length - k := by
  by_cases h : k ≤ xs.length
  · rw [cutL_drop' xs k h, List.length_drop]
  · unfold cutL
    have e : HT.sIx xs.length 0 (some (k : Int)) = xs.length := by
      rw [HT.sIx_nat, Nat.min_eq_right (by omega)]
    have e0 : HT.sIx xs.length xs.length none = xs.length := rfl
    rw [e, e0, List.length_take, List.length_drop]
    omega
theorem GS.upd_upd {S : GS} {a : Addr} {c d : Cell} : (S.upd a c).upd a d = S.upd a d := by
  funext b
  unfold GS.upd
  by_cases h : b = a
  · rw [if_pos h, if_pos h]
  · rw [if_neg h, if_neg h, if_neg h]
section
variable {P : Program} {w : World} {K : PySem.W.Frag} {mg : Str → Option Value} {base : Heap}
/-- a shelf: what it kept behind each deed, which of these stands -/
def shC (C : Addr) (kss : List Kept) (n : Nat) : Cell := .ins C [("states", .frz (kss.map fun k => .fdc (keptV k))), ("now", .int n)]
def ShAt (C : Addr) (g : GS) (a : Addr) (kss : List Kept) (n : Nat) (k : Kept) : Prop := g a = some (shC C kss n) ∧ kss[n]? = some k ∧ kss.length ≤ 100000
theorem ShAt.lt {C : Addr} {g : GS} {a : Addr} {kss : List Kept} {n : Nat} {k : Kept} (h : ShAt C g a kss n k) : n < kss.length := (List.getElem?_eq_some_iff.mp h.2.1).1
theorem flat_kepts : ∀ kss : List Kept, Val.flatAll (kss.map fun k => .fdc (keptV k)) = true
  | [] => rfl
  | k :: r => by
    show (Val.flatAllD (keptV k) && Val.flatAll _) = true
    rw [kept_flat, flat_kepts r]
    rfl
def cKeptOn (C : Addr) : VSpec := fun ds Q _ => ∃ (a : Addr) (g : GS) (kss : List Kept) (n : Nat) (k : Kept), ds = [.opq a, .gho g] ∧ ShAt C g a kss n k ∧ Q [] (.fdc (keptV k))
theorem M_kept_on {C : Addr} : Mono (cKeptOn C) := fun ds Q Q' E E' h _ ⟨a, g, s, n, k, e, t, q⟩ => ⟨a, g, s, n, k, e, t, h _ _ q⟩
theorem v_kept_on (T : Tx K mg) : FnOk P w K mg base CX0 (1) T.f_kept_on T.fd_kept_on ["shelf"] (vspR K T.tabs [] 1 (cKeptOn T.C_Shelf)) := by
  refine T.F_kept_on.ok sc_kept_on (fun vs H Q E h => vspR_len h) (fun cdv A outer s H vs Q E hr h => ⟨_, (pss_one (ps_ret (pe_ix ix_list (pe_fld (pv 0) rfl) (pe_fld (pv 0) rfl) (fun _ _ => rfl)))), (vfnR (N := 1) (lo := []) (Ef := []) h rfl (by decide) rfl (fun xe => (simS_ret (simE_flat (simE_ixF (simE_fld T.cl_Shelf T.na_Shelf_states (simE_var (i := 0) rfl)) (simE_fld T.cl_Shelf T.na_Shelf_now (simE_var (i := 0) rfl)) rfl)) rfl rfl rfl rfl)) ?_)⟩)
  rintro ds Q X ⟨a, g, kss, n, k, rfl, sh, q⟩
  refine ⟨a, g, _, _, rfl, rfl, sh.1, rfl, ?_⟩
  refine ⟨a, g, _, _, rfl, rfl, sh.1, rfl, ?_⟩
  have e : atI (kss.map fun k => Val.fdc (keptV k)) (n : Int) = some (.fdc (keptV k)) := atI_nat (by rw [List.getElem?_map, sh.2.1]; rfl)
  show match atI (kss.map fun k => Val.fdc (keptV k)) (n : Int) with
    | some d => _
    | none => False
  rw [e]
  exact ⟨kept_flat k, q⟩
/-- what stands behind a deed -/
def behind (kss : List Kept) (n : Nat) (k : Kept) : List Kept := kss.take (n + 1) ++ [k]
theorem putFV1 (x y v : Val) : putFV "states" v [(("states" : Str), x), (("now" : Str), y)] = [(("states" : Str), v), (("now" : Str), y)] := by
  unfold putFV
  rw [if_pos rfl]
/-- the row of a name -/
def cRowOf (C CN : Addr) : VSpec := fun ds Q X => ∃ (a : Addr) (g : GS) (kss : List Kept) (n : Nat) (k : Kept) (nm : Str), ds = [.opq a, .str nm, .gho g] ∧ ShAt C g a kss n k ∧ (∀ x, getR k nm = some x → Q [] (.tup [spV x.1, .int x.2])) ∧ (getR k nm = none → X (.ref CN))
theorem M_row_of {C CN : Addr} : Mono (cRowOf C CN) := fun ds Q Q' E E' h x ⟨a, g, s, n, k, nm, e, t, q, r⟩ => ⟨a, g, s, n, k, nm, e, t, fun y z => h _ _ (q y z), fun z => x _ (r z)⟩
theorem v_row_of (T : Tx K mg) : FnOk P w K mg base (L2.CX P w) (2) T.f_row_of T.fd_row_of ["shelf", "name"] (vspR K T.tabs [] 2 (cRowOf T.C_Shelf T.C_NoName)) := by
  have G_kept_on : FnOk P w K mg base CX0 _ _ _ _ _ := v_kept_on T
  refine T.F_row_of.okX sc_row_of (fun vs H Q E h => vspR_len h) (fun cdv A outer s H vs Q E hr h => ⟨_, (pss_cons (ps_set (i := 2) sc_row_of.nd rfl (Or.inl rfl) (pe_call G_kept_on (hr.mono (by decide)) (by rfl) T.g_kept_on T.F_kept_on.kp T.b_kept_on .nil pass0 (pa_cons (pv 0) pa_nil)))
      (pss_cons (ps_if (pt_cmp (pc_dnotin (room_u hr) (pv 1) (pv 2)) (by rfl)) (pss_one (ps_raise (by rfl) (takes_of rfl rfl rfl rfl) (pmk_own PySem.F.excBase_ValueError T.x_NoName T.g_NoName T.k_NoName (raises_own T.b_NoName T.t_NoName) (by exact rfl)))) pss_nil)
      (pss_one (ps_ret (pe_dget (room_u hr) (pv 2) (pv 1) (fun _ _ => rfl)))))), (vfnR (N := 3) (lo := []) (Ef := []) h rfl (by decide) rfl (fun xe => (simS_seq (simS_asg (simE_callR0 M_kept_on (simA_varF (i := 0) simA_nil) rfl rfl) (simG_name (i := 2) (show 2 < 3 by decide) rfl rfl) rfl rfl)
      (simS_seq (simS_if (simT_tB (simE_dninK (simE_var (i := 1) rfl) (simE_var (i := 2) rfl) rfl)) (simS_raise (cls := .ref T.C_NoName)) (simS_next rfl) rfl rfl)
      (simS_ret (simE_dixK (simE_var (i := 2) rfl) (simE_var (i := 1) rfl) rfl) rfl rfl rfl rfl)))) ?_)⟩)
  rintro ds Q X ⟨a, g, kss, n, k, nm, rfl, sh, q, r⟩
  refine ⟨rfl, g, rfl, a, g, kss, n, k, rfl, sh, ?_⟩
  have e := get_kept k nm
  refine ⟨keptV k, .inr nm, .inl rfl, rfl, ?_⟩
  rw [e]
  cases h : getR k nm with
  | none => exact r h
  | some x =>
    refine ⟨keptV k, .inr nm, .tup [spV x.1, .int x.2], .inl rfl, rfl, by rw [e, h]; rfl, rfl, ?_⟩
    exact q x h
/-! looks -/
end
section
variable {P : Program} {w : World} {K : PySem.W.Frag} {mg : Str → Option Value} {base : Heap}
/-- a new shelf -/
def cInit (C : Addr) : VSpec := fun ds Q _ => ∃ (a : Addr) (g : GS), ds = [.opq a, .gho g] ∧ g a = some (.ins C []) ∧ Q [.gho (g.upd a (shC C [[]] 0))] .non
theorem M_Shelf___init__ {C : Addr} : Mono (cInit C) := fun ds Q Q' E E' h _ ⟨a, g, e, t, q⟩ => ⟨a, g, e, t, h _ _ q⟩
theorem v_sh_init (T : Tx K mg) : FnOk P w K mg base CX0 (1) T.f_Shelf___init__ T.fd_Shelf___init__ ["self"] (vspG K T.tabs [] 1 (cInit T.C_Shelf)) := by
  refine T.F_Shelf___init__.ok sc_Shelf___init__ (fun vs H Q E h => vspG_len h) (fun cdv A outer s H vs Q E hr h => ⟨_, (pss_cons (ps_fld (pv 0) (pe_frz (pe_lst (pa_cons (pe_frz pe_dnewK) pa_nil))) rfl)
      (pss_one (ps_fld (pv 0) pe_int rfl))), (vfnG (own := []) (N := 1) (lo := []) (Ef := [1]) (UG0 1) h rfl (by decide) rfl rfl hUG0 (simS_seq (simS_fld T.cl_Shelf T.na_Shelf_states (simE_var (i := 0) rfl) (simE_frzL (simE_lst (simA_consF (simE_frzD simE_dnew) simA_nil rfl rfl rfl rfl rfl) (by decide))) rfl rfl rfl rfl)
      (simS_fld T.cl_Shelf T.na_Shelf_now (simE_var (i := 0) rfl) simE_int rfl rfl rfl rfl)) ?_)⟩)
  rintro ds Q X ⟨a, g, rfl, hg, q⟩
  refine ⟨_, rfl, rfl, _, rfl, rfl, a, g, _, rfl, rfl, hg, by decide, rfl, ?_⟩
  refine ⟨a, _, _, rfl, rfl, GS.upd_same, (show 1 < 1000 by decide), rfl, ?_⟩
  rw [GS.upd_upd]
  have e1 : ∀ x : Val, putFV "states" x [] = [(("states" : Str), x)] := fun _ => rfl
  have e2 : ∀ x y : Val, putFV "now" y [(("states" : Str), x)] = [(("states" : Str), x), (("now" : Str), y)] := fun x y => by
    unfold putFV
    show (if ("states" : Str) = "now" then _ else _) = _
    rw [if_neg (by decide)]
    rfl
  rw [e1, e2]
  exact q
end
section
variable {P : Program} {w : World} {K : PySem.W.Frag} {mg : Str → Option Value} {base : Heap}
def cShelfOf (T : Tx K mg) : VSpec := fun ds Q _ => ∃ (k : Kept) (g : GS), ds = [.fdc (keptV k), .gho g] ∧ ∀ b, g b = none → Q [.gho (g.upd b (shC T.C_Shelf [k] 0))] (.opq b)
theorem M_shelf_of {T : Tx K mg} : Mono (cShelfOf T) := fun ds Q Q' E E' h x ⟨k, g, e, q⟩ => ⟨k, g, e, fun b z => h _ _ (q b z)⟩
theorem v_shelf_of (T : Tx K mg) : FnOk P w K mg base CX0 (3) T.f_shelf_of T.fd_shelf_of ["kept"] (vspG K T.tabs [] 1 (cShelfOf T)) := by
  have G_Shelf___init__ : FnOk P w K mg base CX0 _ _ _ _ _ := v_sh_init T
  refine T.F_shelf_of.ok sc_shelf_of (fun vs H Q E h => vspG_len h) (fun cdv A outer s H vs Q E hr h => ⟨_, (pss_cons (ps_set (i := 1) sc_shelf_of.nd rfl (Or.inl rfl) (pe_make0 T.mk_Shelf G_Shelf___init__ (hr.mono (by decide)) (by rfl) T.g_Shelf T.b_Shelf___init__ .nil pass0))
      (pss_cons (ps_fld (pv 1) (pe_frz (pe_lst (pa_cons (pv 0) pa_nil))) rfl)
      (pss_one (ps_ret (pv 1))))), (vfnG (own := []) (N := 2) (lo := []) (Ef := [2]) (UG0 2) h rfl (by decide) rfl rfl hUG0 (simS_seq (simS_asg (simE_make0 M_Shelf___init__ rfl) (simG_name (i := 1) (show 1 < 2 by decide) rfl rfl) rfl rfl)
      (simS_seq (simS_fld T.cl_Shelf T.na_Shelf_states (simE_var (i := 1) rfl) (simE_frzL (simE_lst (simA_varF (i := 0) simA_nil) (by decide))) rfl rfl rfl rfl)
      (simS_ret (simE_flat (simE_var (i := 1) rfl)) rfl rfl rfl rfl))) ?_)⟩)
  rintro ds Q X ⟨k, g, rfl, q⟩
  refine ⟨g, rfl, fun b nb => ?_⟩
  refine ⟨b, _, rfl, GS.upd_same, rfl, ?_⟩
  rw [GS.upd_upd]
  refine ⟨kept_flat k, _, rfl, flat_kepts [k], b, _, _, rfl, rfl, GS.upd_same, (show 2 < 1000 by decide), flat_kepts [k], ?_⟩
  rw [putFV1, GS.upd_upd]
  exact ⟨rfl, q b nb⟩
theorem rowF_ok {l : List Nat} {r : Row} (h : rowF l = some r) : isName r.1 = true ∧ isSpan r.2.1 = true ∧ isWt r.2.2 = true := by
  unfold rowF rowG at h
  split at h
  · split at h
    · rename_i a b c _ hn
      split at h
      · rename_i s hs
        split at h
        · split at h
          · rename_i hw
            cases h
            refine ⟨hn, ?_, hw⟩
            unfold spanF spanG at hs
            split at hs
            · split at hs
              · rename_i hq
                cases hs
                exact hq
              · cases hs
            · cases hs
          · cases h
        · cases h
      · cases h
    · cases h
  · cases h
def shelfF (l : List Nat) : Option Kept := if l = [] then some [] else rowsG ((TL.spl [10] 0 [] l).map rowF)
theorem rowsG_ok {os : List (Option Row)} {k : Kept} (h : rowsG os = some k) : k.length ≤ 60 ∧ (k.map (·.1)).Pairwise (fun a b => a.cps.toList < b.cps.toList) ∧ os = k.map some := by
  unfold rowsG at h
  split at h
  · cases h
  · rename_i hn
    split at h
    · rename_i hb
      cases h
      unfold rowsB at hb
      rw [Bool.and_eq_true] at hb
      refine ⟨of_decide_eq_true hb.1, ?_, ?_⟩
      · have : ∀ l : List Row, ((l.zip (l.drop 1)).all fun p => decide (p.1.1.cps.toList < p.2.1.cps.toList)) = true → (l.map (·.1)).Pairwise (fun a b => a.cps.toList < b.cps.toList) := by
          intro l
          induction l with
          | nil => exact fun _ => .nil
          | cons a t ih =>
            intro h
            cases t with
            | nil => exact List.pairwise_singleton _ _
            | cons b t =>
              have e : ((a :: b :: t).zip ((a :: b :: t).drop 1)) = (a, b) :: ((b :: t).zip ((b :: t).drop 1)) := rfl
              rw [e, List.all_cons, Bool.and_eq_true] at h
              have i2 := ih h.2
              have h1 : a.1.cps.toList < b.1.cps.toList := of_decide_eq_true h.1
              refine List.pairwise_cons.mpr ⟨fun y hy => ?_, i2⟩
              rw [List.map_cons] at hy
              rcases List.mem_cons.mp hy with z | z
              · rw [z]
                exact h1
              · exact List.lt_trans h1 ((List.pairwise_cons.mp i2).1 y z)
        exact this _ hb.2
      · have en : os.any (·.isNone) = false := by
          cases e : os.any (·.isNone) with
          | true => exact absurd e hn
          | false => rfl
        clear hb hn
        induction os with
        | nil => rfl
        | cons o t ih =>
          cases o with
          | none => cases en
          | some r =>
            have := ih en
            rw [List.filterMap_cons_some (by rfl : id (some r) = some r), List.map_cons, ← this]
    · cases h
theorem shelfF_ok {l : List Nat} {k : Kept} (h : shelfF l = some k) : KOk k := by
  unfold shelfF at h
  split at h
  · cases h
    exact KOk.nil
  · obtain ⟨h1, h2, h3⟩ := rowsG_ok h
    have each : ∀ r ∈ k, isName r.1 = true ∧ isSpan r.2.1 = true ∧ isWt r.2.2 = true := fun r hr => by
      have : some r ∈ (TL.spl [10] 0 [] l).map rowF := by rw [h3]; exact List.mem_map.mpr ⟨r, hr, rfl⟩
      obtain ⟨p, _, hp⟩ := List.mem_map.mp this
      exact rowF_ok hp
    exact ⟨h2.imp fun h e => by rw [e] at h; exact List.lt_irrefl _ h, h1, fun r hr => (each r hr).2.1, fun r hr => (each r hr).2.2, fun r hr => (each r hr).1⟩
theorem noG_rows (k : Kept) : (Val.lst (k.map rowX)).noG = true := by
  show Val.noGs (k.map rowX) = true
  induction k with
  | nil => rfl
  | cons r t ih => exact ih
theorem putKV_new {es : List (Key × Val)} {k : Key} {v : Val} (h : ∀ p ∈ es, p.1 ≠ k) : putKV es k v = es ++ [(k, v)] := by
  unfold putKV
  rw [if_neg]
  intro z
  obtain ⟨p, hp, e⟩ := List.any_eq_true.mp z
  exact h p hp (of_decide_eq_true e)
theorem kept_snoc {k : Kept} (pw : (k.map (·.1)).Pairwise fun a b => a.cps.toList < b.cps.toList) {i : Nat} {r : Row} (hr : k[i]? = some r) : putKV (keptV (k.take i)) (.inr r.1) (.tup [spV r.2.1, .int r.2.2]) = keptV (k.take (i + 1)) := by
  rw [putKV_new fun p hp z => ?_, List.take_add_one, hr]
  · unfold keptV
    rw [List.map_append]
    rfl
  · unfold keptV at hp
    obtain ⟨y, hy, rfl⟩ := List.mem_map.mp hp
    have z : y.1 = r.1 := Sum.inr.inj z
    obtain ⟨j, hj, e⟩ := List.getElem_of_mem hy
    rw [List.length_take] at hj
    obtain ⟨hi, er⟩ := List.getElem?_eq_some_iff.mp hr
    have := List.pairwise_iff_getElem.mp pw j i (by rw [List.length_map]; omega) (by rw [List.length_map]; omega) (by omega)
    rw [List.getElem_map, List.getElem_map, er] at this
    rw [List.getElem_take] at e
    rw [e, z] at this
    exact List.lt_irrefl _ this
def cReadShelf (T : Tx K mg) : VSpec := fun ds Q X => ∃ (x : Str) (g : GS), ds = [.str x, .gho g] ∧ InsOnly g ∧ x.length ≤ 80000 ∧ (shelfF x.cps.toList = none → X (.ref T.C_NoText)) ∧ (∀ k, shelfF x.cps.toList = some k → ∀ b, g b = none → Q [.gho (g.upd b (shC T.C_Shelf [k] 0))] (.opq b))
theorem M_read_shelf {T : Tx K mg} : Mono (cReadShelf T) := fun ds Q Q' E E' h x ⟨s, g, a, o, b, q1, q2⟩ => ⟨s, g, a, o, b, fun z => x _ (q1 z), fun k z b y => h _ _ (q2 k z b y)⟩
theorem v_read_shelf (T : Tx K mg) (B : Tbs T base) : FnOk P w K mg base (L2.CX P w) (6) T.f_read_shelf T.fd_read_shelf ["text"] (vspG K T.tabs [] 1 (cReadShelf T)) := by
  have G_row_from : FnOk P w K mg base CX0 _ _ _ _ _ := v_row_from T B
  have G_are_rows : FnOk P w K mg base CX0 _ _ _ _ _ := v_are_rows T B
  have G_shelf_of : FnOk P w K mg base CX0 _ _ _ _ _ := v_shelf_of T
  refine T.F_read_shelf.okX sc_read_shelf (fun vs H Q E h => vspG_len h) (fun cdv A outer s H vs Q E hr h => ⟨_, (pss_cons (ps_set (i := 1) sc_read_shelf.nd rfl (Or.inl rfl) (pe_ifExp (pt_truth (pv 0) (by intro _; rfl)) (pe_lc (own := [("line", 2)]) (g := (gName 2)) (by rfl) sc_read_shelf.nd (pi_list (pe_bm PySem.F.plainAttrs_str PySem.F.slot_str_split PySem.F.type_str_split (show MtR _ "str.split" rSplit from mt_split) (pv 0) (pa_cons pe_str pa_nil))) (blkOk_by (own := [("line", 2)]) (N := N_read_shelf) (sc := defScope s_read_shelf) (by decide +kernel)) (fun _ _ _ _ _ => (pg_name (i := 2) sc_read_shelf.nd rfl (Or.inl rfl))) (fun _ _ _ _ _ => pts_nil) (fun _ _ _ _ _ => (pe_call G_row_from (hr.mono (by decide)) (by rfl) T.g_row_from T.F_row_from.kp T.b_row_from .nil pass0 (pa_cons (pv 2) pa_nil)))) (pe_lst pa_nil)))
      (pss_cons (ps_if (pt_not (pt_val (pe_call G_are_rows (hr.mono (by decide)) (by rfl) T.g_are_rows T.F_are_rows.kp T.b_are_rows .nil pass0 (pa_cons (pv 1) pa_nil)))) (pss_one (ps_raise (by rfl) (takes_of rfl rfl rfl rfl) (pmk_own PySem.F.excBase_ValueError T.x_NoText T.g_NoText T.k_NoText (raises_own T.b_NoText T.t_NoText) (by exact rfl)))) pss_nil)
      (pss_one (ps_ret (pe_call G_shelf_of (hr.mono (by decide)) (by rfl) T.g_shelf_of T.F_shelf_of.kp T.b_shelf_of .nil pass0 (pa_cons (pe_frz (pe_dc (own := [("name", 3), ("span", 4), ("weight", 5)]) (g := (gTup K 3 (gCons (gName 3) (gCons (gName 4) (gCons (gName 5) gNil))))) (by rfl) sc_read_shelf.nd (pi_list (pv 1)) (blkOk_by (own := [("name", 3), ("span", 4), ("weight", 5)]) (N := N_read_shelf) (sc := defScope s_read_shelf) (by decide +kernel)) (fun _ _ _ _ _ => by exact (pg_tup rfl (pgs_cons (pg_name (i := 3) sc_read_shelf.nd rfl (Or.inl rfl)) (pgs_cons (pg_name (i := 4) sc_read_shelf.nd rfl (Or.inl rfl)) (pgs_cons (pg_name (i := 5) sc_read_shelf.nd rfl (Or.inl rfl)) pgs_nil))))) (fun _ _ _ _ _ => by exact pts_nil) (fun _ _ _ _ _ => by exact (pv 3)) (fun _ _ _ _ _ => by exact (pe_tup (pa_cons (pv 4) (pa_cons (pv 5) pa_nil)))))) pa_nil)))))), (vfnPR (N := 6) h rfl (by decide) (fun xe => (simR_seq (simS_asg (simE_if (simT_truthS (simE_var (i := 0) rfl)) (simE_lc (fx := [0, 1, 3, 4, 5, 6]) (simI_list (simE_split (simE_var (i := 0) rfl))) (simG_name (i := 2) (show 2 < 6 by decide) rfl rfl) simT_yes (simE_call0 M_row_from (simA_varF (i := 2) simA_nil) rfl rfl) rfl rfl rfl) (simE_lst simA_nil (by decide))) (simG_name (i := 1) (show 1 < 6 by decide) rfl rfl) rfl rfl)
      (simR_seq (simS_if (simT_not (simT_tB (simE_call0 M_are_rows (simA_var (i := 1) rfl simA_nil) rfl rfl))) (simS_raise (cls := .ref T.C_NoText)) (simS_next rfl) rfl rfl)
      (simR_in (Ef := [6]) (simS_ret (simE_callG0 M_shelf_of (simA_consF (simE_frzD (simE_dcG (fx := [0, 1, 2, 6]) (simI_list (simE_var (i := 1) rfl)) (simG_tup (simGs_cons (simG_name (i := 3) (show 3 < 6 by decide) rfl rfl) (simGs_cons (simG_name (i := 4) (show 4 < 6 by decide) rfl rfl) (simGs_cons (simG_name (i := 5) (show 5 < 6 by decide) rfl rfl) simGs_nil)))) simT_yes (simE_var (i := 3) rfl) (simE_tup (simA_varF (i := 4) (simA_varF (i := 5) simA_nil)) (by decide)) rfl rfl rfl)) simA_nil rfl rfl rfl rfl rfl) rfl rfl rfl) rfl rfl rfl rfl))))) ?_)⟩)
  rintro ds Q X ⟨x, g, rfl, io, xl, q1, q2⟩
  obtain ⟨l, rfl⟩ : ∃ l, x = SX.S l := ⟨x.cps.toList, (SX.S_tl x).symm⟩
  have sl : (SX.S l).length = l.length := SX.S_len l
  rw [sl] at xl
  have p1 : shelfF l = none → X (.ref T.C_NoText) := q1
  have p2 : ∀ k, shelfF l = some k → ∀ b, g b = none → Q [.gho (g.upd b (shC T.C_Shelf [k] 0))] (.opq b) := q2
  clear q1 q2
  have nm : ∀ (ps : List (List Nat)) (r : Row), some r ∈ ps.map rowF → isName r.1 = true := fun ps r hr => by
    obtain ⟨p, _, hp⟩ := List.mem_map.mp hr
    exact (rowF_ok hp).1
  have st : ∃ os : List (Option Row), os.length ≤ 80001 ∧ (∀ r, some r ∈ os → isName r.1 = true) ∧ shelfF l = rowsG os ∧ (l = [] → os = []) ∧ (l ≠ [] → os = (TL.spl [10] 0 [] l).map rowF) := by
    by_cases z : l = []
    · subst z
      exact ⟨[], Nat.zero_le _, (fun _ h => nomatch h), rfl, fun _ => rfl, fun h => absurd rfl h⟩
    · refine ⟨(TL.spl [10] 0 [] l).map rowF, ?_, nm _, ?_, fun h => absurd h z, fun _ => rfl⟩
      · have := spl_len [10] l 0 []
        rw [List.length_map]
        omega
      · unfold shelfF
        rw [if_neg z]
  obtain ⟨os, ol, on, eF, e1, e2⟩ := st
  rw [eF] at p1 p2
  clear eF
  cases l
  case' nil =>
    have eo := e1 rfl
    have em : Val.lst [] = Val.lst (os.map rowO) := by rw [eo]; rfl
    refine ⟨_, rfl, by decide, ?_⟩
    conv => whnf
    rw [em]
  case' cons a r =>
    have eo := e2 (List.cons_ne_nil _ _)
    refine ⟨_, rfl, by rw [sl]; omega, ?_⟩
    refine ⟨_, rfl, by rw [sl]; omega, ?_⟩
    generalize hL : a :: r = L at xl eo sl
    rw [show TL.spl (Str.ofString "\n").cps.toList 0 [] (SX.S L).cps.toList = TL.spl [10] 0 [] L from rfl]
    have pl := spl_len [10] L 0 []
    have pe := spl_each [10] L 0 []
    refine lc_map (TL.spl [10] 0 [] L) (fun p => Val.str (SX.S p)) (fun p => rowO (rowF p)) ?_ (fun p _ => rowO_flat _) (by omega) ?_
    · intro p hp R h
      have := pe p hp
      exact ⟨rfl, SX.S p, rfl, by rw [SX.S_len]; simp at this; omega, h⟩
    have em : (TL.spl [10] 0 [] L).map (fun p => rowO (rowF p)) = os.map rowO := by
      rw [eo, List.map_map]
      rfl
    rw [em]
  all_goals
    refine ⟨rfl, ?_⟩
    clear e1 e2 eo em
    show wLook _ _ _ [some (.str _), some (.lst (os.map rowO)), none, none, none, none, some (.gho g)]
    refine ⟨os, rfl, by omega, on, ?_⟩
    cases e : rowsG os with
    | none => exact p1 e
    | some k =>
      have q := p2 k e
      obtain ⟨k60, pw, eo⟩ := rowsG_ok e
      have eV : os.map rowO = k.map rowX := by
        rw [eo, List.map_map]
        rfl
      rw [eV]
      refine ⟨rfl, fun j d hj hd => ?_, ⟨g, rfl, io⟩, ?_⟩
      · rcases j with _ | _ | _ | _ | _ | _ | j
        · cases hd
          rfl
        · cases hd
          exact noG_rows k
        · cases hd
        · cases hd
        · cases hd
        · cases hd
        · have hj : j + 1 + 1 + 1 + 1 + 1 + 1 < 6 := hj
          omega
      refine ⟨fun i acc env => env = [some (.str _), some (.lst (k.map rowX)), none, none, none, none, some (.gho g)] ∧ acc = keptV (k.take i), ⟨rfl, rfl⟩, ?_, ?_⟩
      · rintro i x acc env' hx ⟨rfl, rfl⟩
        rw [List.getElem?_map] at hx
        obtain ⟨r, hr, rfl⟩ := Option.map_eq_some_iff.mp hx
        refine ⟨by rw [kept_len, List.length_take]; omega, ?_⟩
        refine ⟨rfl, rfl, rfl, Sum.inr r.1, rfl, rfl, rfl, ?_⟩
        exact kept_snoc pw hr
      · rintro acc env' ⟨rfl, rfl⟩
        rw [List.length_map, List.take_length]
        exact ⟨keptV k, rfl, kept_flat k, g, rfl, k, g, rfl, fun b nb => ⟨rfl, q b nb⟩⟩
end
theorem digs_fold : ∀ (cs : List Nat) (acc : Nat), (∀ c ∈ cs, 48 ≤ c ∧ c ≤ 57) → cs.foldl (fun acc c => acc * 10 + (c - 48)) acc < (acc + 1) * 10 ^ cs.length
  | [], acc, _ => by
    show acc < (acc + 1) * 1
    omega
  | c :: r, acc, h => by
    have hc := h c List.mem_cons_self
    have ih := digs_fold r (acc * 10 + (c - 48)) fun x hx => h x (List.mem_cons_of_mem _ hx)
    have e : (acc + 1) * 10 ^ (c :: r).length = ((acc + 1) * 10) * 10 ^ r.length := by
      rw [List.length_cons, Nat.pow_succ, Nat.mul_comm (10 ^ r.length) 10, Nat.mul_assoc]
    rw [e]
    exact Nat.lt_of_lt_of_le ih (Nat.mul_le_mul_right _ (by omega))
theorem digs_lt (cs : List Nat) (h : ∀ c ∈ cs, 48 ≤ c ∧ c ≤ 57) : NumText.digitsVal cs < 10 ^ cs.length := by
  have := digs_fold cs 0 h
  rw [Nat.zero_add, Nat.one_mul] at this
  exact this
theorem digits_is : ("0123456789" : Str).cps.toList = [48, 49, 50, 51, 52, 53, 54, 55, 56, 57] := by decide +kernel
theorem dig_digits (c : Nat) : decide (c ∈ ("0123456789" : Str).cps.toList) = isDig c := by
  rw [digits_is]
  unfold isDig
  rw [Bool.eq_iff_iff, decide_eq_true_iff, Bool.and_eq_true, decide_eq_true_iff, decide_eq_true_iff]
  simp only [List.mem_cons, List.not_mem_nil, or_false]
  omega
theorem filt_dig (x : Str) : decide (((signs x).filter fun s => (s.cps.toList[0]?.map isDig).getD false).length < x.cps.toList.length) = !x.cps.toList.all isDig := by
  unfold signs
  rw [List.filter_map, List.length_map]
  generalize x.cps.toList = l
  have e0 : l.filter ((fun s : Str => (s.cps.toList[0]?.map isDig).getD false) ∘ fun c => (⟨#[c]⟩ : Str)) = l.filter isDig := rfl
  rw [e0]
  cases ha : l.all isDig with
  | true =>
    rw [List.filter_eq_self.mpr (List.all_eq_true.mp ha)]
    exact decide_eq_false (Nat.lt_irrefl _)
  | false =>
    refine decide_eq_true (Nat.lt_of_le_of_ne (List.length_filter_le _ _) fun z => ?_)
    have := List.length_filter_eq_length_iff.mp z
    rw [List.all_eq_true.mpr this] at ha
    cases ha
theorem numF_read {l : List Nat} {n : Int} (h : numF l = some n) : intText? (SX.S l) = some n ∧ l.length ≤ 13 ∧ n.natAbs < 1000000000000 := by
  unfold numF at h
  split at h
  case isFalse => cases h
  case isTrue hc =>
    obtain ⟨h1, h2, h3, h4⟩ := hc
    have hdig : ∀ c ∈ figs l, 48 ≤ c ∧ c ≤ 57 := fun c hc => by
      have := List.all_eq_true.mp h3 c hc
      unfold isDig at this
      rw [Bool.and_eq_true] at this
      exact ⟨of_decide_eq_true this.1, of_decide_eq_true this.2⟩
    have ll : l.length ≤ 13 := by
      have : l.length ≤ (figs l).length + 1 := by
        unfold figs
        split
        · rw [List.length_tail]
          omega
        · omega
      omega
    have ne : figs l ≠ [] := fun z => by
      rw [z] at h1
      cases h1
    have sl : (SX.S l).length = l.length := SX.S_len l
    have dv := digs_lt (figs l) hdig
    have d12 : 10 ^ (figs l).length ≤ 1000000000000 := Nat.le_trans (Nat.pow_le_pow_right (by decide) h2) (by decide)
    by_cases z : l.head? = some 45
    · rw [if_pos z] at h
      have el2 : l = 45 :: figs l := by
        unfold figs
        rw [if_pos z]
        cases l with
        | nil => cases z
        | cons a t =>
          cases z
          rfl
      have e := PySem.intText_neg (x := SX.S l) (cs := figs l) el2 hdig ne (by rw [sl]; omega)
      exact ⟨by rw [e]; exact h, ll, by rw [← Option.some.inj h]; omega⟩
    · rw [if_neg z] at h
      have el2 : figs l = l := by
        unfold figs
        rw [if_neg z]
      rw [el2] at h hdig ne dv d12
      have e := PySem.intText_digits (x := SX.S l) hdig ne (by rw [sl]; omega)
      exact ⟨by rw [e]; exact h, ll, by rw [← Option.some.inj h]; omega⟩
section
variable {P : Program} {w : World} {K : PySem.W.Frag} {mg : Str → Option Value} {base : Heap}
theorem M_l_number_read : Mono cNumF := M_number_from
theorem v_l_number_read (T : Tx K mg) : FnOk P w K mg base CX0 (1) T.f_l_number_read T.fd_l_number_read ["_law_text"] (vsp K T.tabs [] 1 cNumF) := by
  refine T.F_l_number_read.ok sc_l_number_read (fun vs H Q E h => vsp_len h) (fun cdv A outer s H vs Q E hr h => ⟨_, (pss_cons (ps_set (i := 1) sc_l_number_read.nd rfl (Or.inl rfl) (pv 0))
      (pss_cons (ps_if (pt_cmpR op_eq (pe_slice sl_str (pv 0) po_none (po_some pe_int)) pe_str (nomark _)) (pss_one (ps_set (i := 1) sc_l_number_read.nd rfl (Or.inl rfl) (pe_slice sl_str (pv 0) (po_some pe_int) po_none))) pss_nil)
      (pss_cons (ps_setLc (i := 2) (own := [("_law_sign", 3)]) (g := (gName 3)) (by rfl) sc_l_number_read.nd rfl rfl (sw_true rfl rfl rfl (by decide +kernel)) (pi_str (pv 1)) (blkOk_by (own := [("_law_sign", 3)]) (N := N_l_number_read) (sc := defScope s_l_number_read) (by decide +kernel)) (fun _ _ _ _ _ => (pg_name (i := 3) sc_l_number_read.nd rfl (Or.inl rfl))) (fun _ _ _ _ _ => (pts_one (pt_cmpR op_inSg (pv 3) pe_str (by rfl)))) (fun _ _ _ _ _ => (pv 3)))
      (pss_cons (ps_if (PW.pt (pw_or (pt_cmpR op_eq (pv 1) pe_str (nomark _)) (pw_or (pt_cmpR op_lt (pe_callB call_len_seq (by rfl) T.m_len PySem.boot_len (pa_cons (pv 2) pa_nil)) (pe_callB (show CallR _ (.builtin "len") (fun xs H Q => ∃ x n, xs = [x] ∧ LenV K x H n ∧ Q (.int (n : Nat)) H) from call_len) (by rfl) T.m_len PySem.boot_len (pa_cons (pv 1) pa_nil)) (nomark _)) (pw_or (pt_cmpR op_gt (pe_callB (show CallR _ (.builtin "len") (fun xs H Q => ∃ x n, xs = [x] ∧ LenV K x H n ∧ Q (.int (n : Nat)) H) from call_len) (by rfl) T.m_len PySem.boot_len (pa_cons (pv 1) pa_nil)) pe_int (nomark _)) (pw_or1 (PW.pt (pw_and (pt_cmpR op_eq (pe_ix ix_str (pv 1) pe_int (fun _ _ => rfl)) pe_str (nomark _)) (pw_and1 (pt_cmpR op_ne (pv 0) pe_str (nomark _)))))))))) (pss_one (ps_ret pe_non)) pss_nil)
      (pss_one (ps_ret (pe_callTy call_int_str (by rfl) T.m_int (by decide +kernel) (pa_cons (pv 0) pa_nil)))))))), (vfn (N := 4) (lo := []) (Ef := []) U0 h rfl (by decide) rfl rfl hU0 (simS_seq (simS_asg (simE_var (i := 0) rfl) (simG_name (i := 1) (show 1 < 4 by decide) rfl rfl) rfl rfl)
      (simS_seq (simS_if (simT_test (simE_op r2_eq (simE_slS (simE_var (i := 0) rfl) simO_none (simO_some simE_int) rfl rfl) simE_str rfl)) (simS_asg (simE_slS (simE_var (i := 0) rfl) (simO_some simE_int) simO_none rfl rfl) (simG_name (i := 1) (show 1 < 4 by decide) rfl rfl) rfl rfl) (simS_next rfl) rfl rfl)
      (simS_seq (simS_asg (simE_lc (fx := [0, 1, 2]) (simI_str (simE_var (i := 1) rfl)) (simG_name (i := 3) (show 3 < 4 by decide) rfl rfl) (simT_test (simE_op (r2_inSg (neg := false)) (simE_var (i := 3) rfl) simE_str rfl)) (simE_var (i := 3) rfl) rfl rfl rfl) (simG_name (i := 2) (show 2 < 4 by decide) rfl rfl) rfl rfl)
      (simS_seq (simS_if (simT_or (simT_test (simE_op r2_eq (simE_var (i := 1) rfl) simE_str rfl)) (simT_or (simT_test (simE_op r2_ib (simE_cb cb_len (simA_var (i := 2) rfl simA_nil)) (simE_cb cb_lenS (simA_varF (i := 1) simA_nil)) rfl)) (simT_or (simT_test (simE_op r2_ib (simE_cb cb_lenS (simA_varF (i := 1) simA_nil)) simE_int rfl)) (simT_and (simT_test (simE_op r2_eq (simE_op r2_ixS (simE_var (i := 1) rfl) simE_int rfl) simE_str rfl)) (simT_test (simE_op r2_ne (simE_var (i := 0) rfl) simE_str rfl)) rfl) rfl) rfl) rfl) (simS_ret simE_non rfl rfl rfl rfl) (simS_next rfl) rfl rfl)
      (simS_ret (simE_cb cb_intS (simA_varF (i := 0) simA_nil)) rfl rfl rfl rfl))))) ?_)⟩)
  rintro ds Q X ⟨x, rfl, xl, q⟩
  obtain ⟨l, rfl⟩ : ∃ l, x = SX.S l := ⟨x.cps.toList, (SX.S_tl x).symm⟩
  have sl : (SX.S l).length = l.length := SX.S_len l
  rw [sl] at xl
  have q : Q [] (numV (numF l)) := q
  have fle : (figs l).length ≤ l.length := by
    unfold figs
    split
    · rw [List.length_tail]
      omega
    · exact Nat.le_refl _
  have nn : ¬ (1 ≤ (figs l).length ∧ (figs l).length ≤ 12 ∧ (figs l).all isDig = true ∧ ((figs l).head? = some 48 → l = [48])) → Q [] .non := fun h => by
    unfold numF at q
    rw [if_neg h] at q
    exact q
  have e45 : decide (SX.S (cutL (SX.S l).cps.toList none (some 1)) = ("-" : Str)) = decide (l.head? = some 45) := by
    have e : cutL (SX.S l).cps.toList none (some 1) = l.take 1 := cutL_take' l 1
    have em : ("-" : Str) = SX.S [45] := rfl
    rw [e, em]
    cases l with
    | nil => rfl
    | cons a r =>
      show decide (SX.S [a] = SX.S [45]) = decide (some a = some 45)
      by_cases z : a = 45
      · rw [z, decide_eq_true rfl, decide_eq_true rfl]
      · rw [decide_eq_false fun y => z (List.cons.inj (SX.S_inj y)).1, decide_eq_false fun y => z (Option.some.inj y)]
  refine ⟨by rw [sl]; omega, ?_⟩
  by_cases z : l.head? = some 45
  case' pos =>
    refine ifT (by rw [e45, decide_eq_true z]; rfl) ?_
    have ec : cutL (SX.S l).cps.toList (some 1) none = figs l := by
      have e1 : cutL l (some 1) none = l.tail := by
        cases l with
        | nil => cases z
        | cons x r => simp [cutL, HT.sIx]
      unfold figs
      rw [if_pos z]
      exact e1
    refine ⟨by rw [sl]; omega, ?_⟩
    rw [ec]
  case' neg =>
    refine ifF (by rw [e45, decide_eq_false z]; rfl) ?_
    have elf : SX.S l = SX.S (figs l) := by
      unfold figs
      rw [if_neg z]
    have eE : ([some (Val.str (SX.S l)), some (Val.str (SX.S l)), none, none] : VEnv) = [some (.str (SX.S l)), some (.str (SX.S (figs l))), none, none] := by rw [← elf]
    show wSeq _ _ _ [some (Val.str (SX.S l)), some (Val.str (SX.S l)), none, none]
    rw [eE]
  all_goals
    generalize hf : figs l = f at fle nn
    have fl : (SX.S f).length = f.length := SX.S_len f
    refine lc_filter (signs (SX.S f)) Val.str (fun s => (s.cps.toList[0]?.map isDig).getD false) ?_ (fun _ _ => rfl) (by unfold signs; rw [List.length_map]; show f.length < _; omega) ?_
    · intro s hs R R' h
      obtain ⟨c, _, rfl⟩ := List.mem_map.mp hs
      refine ⟨c, rfl, ?_⟩
      have e : decide (c ∈ (Str.ofString "0123456789").cps.toList) = isDig c := dig_digits c
      rw [e]
      have h : if isDig c = true then _ else _ := h
      cases hc : isDig c with
      | true =>
        rw [hc] at h
        exact h
      | false =>
        rw [hc] at h
        exact h
    have fd := filt_dig (SX.S f)
    have fd : decide (((signs (SX.S f)).filter fun s => (s.cps.toList[0]?.map isDig).getD false).length < f.length) = !f.all isDig := fd
    generalize (signs (SX.S f)).filter (fun s => (s.cps.toList[0]?.map isDig).getD false) = G at fd
    have gl : ((G.map Val.str).length : Int) = (G.length : Int) := by rw [List.length_map]
    have es : ("" : Str) = SX.S [] := rfl
    have e0 : ("0" : Str) = SX.S [48] := rfl
    by_cases f0 : f = []
    · refine ifT (show (false != decide (SX.S f = ("" : Str))) = true by rw [f0, decide_eq_true es.symm]; rfl) ?_
      exact nn fun h => by rw [f0] at h; exact absurd h.1 (by decide)
    refine ifF (show (false != decide (SX.S f = ("" : Str))) = false by rw [decide_eq_false fun y => f0 (SX.S_inj (y.trans es))]; rfl) ?_
    refine ⟨rfl, small_le (by rw [fl]; omega), ?_⟩
    cases ha : f.all isDig with
    | false =>
      rw [ha] at fd
      have := of_decide_eq_true fd
      refine ifT (decide_eq_true (by rw [gl, fl]; omega)) ?_
      exact nn fun h => by rw [ha] at h; cases h.2.2.1
    | true =>
      rw [ha] at fd
      have := of_decide_eq_false fd
      refine ifF (decide_eq_false (by rw [gl, fl]; omega)) ?_
      refine ⟨rfl, small_le (by rw [fl]; omega), ?_⟩
      by_cases f12 : f.length ≤ 12
      case neg =>
        refine ifT (decide_eq_true (by rw [fl]; omega)) ?_
        exact nn fun h => f12 h.2.1
      refine ifF (decide_eq_false (by rw [fl]; omega)) ?_
      obtain ⟨c, r, rfl⟩ : ∃ c r, f = c :: r := by
        cases f with
        | nil => exact absurd rfl f0
        | cons c r => exact ⟨c, r, rfl⟩
      refine ⟨by rw [fl]; omega, c, atI_nat (j := 0) rfl, ?_⟩
      have fin : ((c :: r).head? = some 48 → l = [48]) → ∃ (a : Str) (n : Int), [Val.str (SX.S l)] = [.str a] ∧ intText? a = some n ∧ a.length ≤ 640 ∧ Q [] (.int n) := fun h4 => by
        have hc : 1 ≤ (figs l).length ∧ (figs l).length ≤ 12 ∧ (figs l).all isDig = true ∧ ((figs l).head? = some 48 → l = [48]) := by
          rw [hf]
          exact ⟨by rw [List.length_cons]; omega, f12, ha, h4⟩
        obtain ⟨n, hn⟩ : ∃ n, numF l = some n := by
          unfold numF
          rw [if_pos hc]
          exact ⟨_, rfl⟩
        obtain ⟨h5, h6, _⟩ := numF_read hn
        rw [hn] at q
        exact ⟨SX.S l, n, rfl, h5, by rw [sl]; omega, q⟩
      by_cases c0 : c = 48
      · refine ifT (show (false != decide (SX.S [c] = ("0" : Str))) = true by rw [c0, decide_eq_true e0.symm]; rfl) ?_
        by_cases l0 : l = [48]
        · refine ifF (show (true != decide (SX.S l = ("0" : Str))) = false by rw [l0, decide_eq_true e0.symm]; rfl) ?_
          exact ⟨rfl, fin fun _ => l0⟩
        · refine ifT (show (true != decide (SX.S l = ("0" : Str))) = true by rw [decide_eq_false fun z => l0 (SX.S_inj (z.trans e0))]; rfl) ?_
          exact nn fun h => l0 (h.2.2.2 (by rw [c0]; rfl))
      · refine ifF (show (false != decide (SX.S [c] = ("0" : Str))) = false by rw [decide_eq_false fun z => c0 (List.cons.inj (SX.S_inj (z.trans e0))).1]; rfl) ?_
        exact ⟨rfl, fin fun z => absurd (Option.some.inj z) c0⟩
end
section
variable {P : Program} {w : World} {K : PySem.W.Frag} {mg : Str → Option Value} {base : Heap}
theorem M_l_span_read : Mono cSpanF := M_span_from
theorem v_l_span_read (T : Tx K mg) : FnOk P w K mg base CX0 (2) T.f_l_span_read T.fd_l_span_read ["_law_text"] (vsp K T.tabs [] 1 cSpanF) := by
  have G_l_number_read : FnOk P w K mg base CX0 _ _ _ _ _ := v_l_number_read T
  refine T.F_l_span_read.ok sc_l_span_read (fun vs H Q E h => vsp_len h) (fun cdv A outer s H vs Q E hr h => ⟨_, (pss_cons (ps_set (i := 1) sc_l_span_read.nd rfl (Or.inl rfl) (pe_bm PySem.F.plainAttrs_str PySem.F.slot_str_split PySem.F.type_str_split (show MtR _ "str.split" rSplit from mt_split) (pv 0) (pa_cons pe_str pa_nil)))
      (pss_cons (ps_if (pt_cmpR op_ne (pe_callB call_len_seq (by rfl) T.m_len PySem.boot_len (pa_cons (pv 1) pa_nil)) pe_int (nomark _)) (pss_one (ps_ret pe_non)) pss_nil)
      (pss_cons (ps_asg (pe_lc (own := [("_law_part", 4)]) (g := (gName 4)) (by rfl) sc_l_span_read.nd (pi_list (pv 1)) (blkOk_by (own := [("_law_part", 4)]) (N := N_l_span_read) (sc := defScope s_l_span_read) (by decide +kernel)) (fun _ _ _ _ _ => (pg_name (i := 4) sc_l_span_read.nd rfl (Or.inl rfl))) (fun _ _ _ _ _ => pts_nil) (fun _ _ _ _ _ => (pe_call G_l_number_read (hr.mono (by decide)) (by rfl) T.g_l_number_read T.F_l_number_read.kp T.b_l_number_read .nil pass0 (pa_cons (pv 4) pa_nil)))) (pg_unl rfl (pgs_cons (pg_name (i := 2) sc_l_span_read.nd rfl (Or.inl rfl)) (pgs_cons (pg_name (i := 3) sc_l_span_read.nd rfl (Or.inl rfl)) pgs_nil))))
      (pss_cons (ps_if (PW.pt (pw_or (pt_cmpR op_isN (pv 2) pe_non (nomark _)) (pw_or (pt_cmpR op_isN (pv 3) pe_non (nomark _)) (pw_or1 (pt_cmpR op_ge (pv 2) (pv 3) (nomark _)))))) (pss_one (ps_ret pe_non)) pss_nil)
      (pss_one (ps_ret (pe_tup (pa_cons (pv 2) (pa_cons (pv 3) pa_nil))))))))), (vfn (N := 5) (lo := []) (Ef := []) U0 h rfl (by decide) rfl rfl hU0 (simS_seq (simS_asg (simE_split (simE_var (i := 0) rfl)) (simG_name (i := 1) (show 1 < 5 by decide) rfl rfl) rfl rfl)
      (simS_seq (simS_if (simT_test (simE_op r2_ne (simE_cb cb_len (simA_var (i := 1) rfl simA_nil)) simE_int rfl)) (simS_ret simE_non rfl rfl rfl rfl) (simS_next rfl) rfl rfl)
      (simS_seq (simS_asg (simE_lc (fx := [0, 1, 2, 3]) (simI_list (simE_var (i := 1) rfl)) (simG_name (i := 4) (show 4 < 5 by decide) rfl rfl) simT_yes (simE_call0 M_l_number_read (simA_varF (i := 4) simA_nil) rfl rfl) rfl rfl rfl) (simG_unl (simGs_cons (simG_name (i := 2) (show 2 < 5 by decide) rfl rfl) (simGs_cons (simG_name (i := 3) (show 3 < 5 by decide) rfl rfl) simGs_nil))) rfl rfl)
      (simS_seq (simS_if (simT_or (simT_test (simE_op r2_isN (simE_var (i := 2) rfl) simE_non rfl)) (simT_or (simT_test (simE_op r2_isN (simE_var (i := 3) rfl) simE_non rfl)) (simT_test (simE_op r2_ib (simE_var (i := 2) rfl) (simE_var (i := 3) rfl) rfl)) rfl) rfl) (simS_ret simE_non rfl rfl rfl rfl) (simS_next rfl) rfl rfl)
      (simS_ret (simE_flat (simE_tup (simA_var (i := 2) rfl (simA_var (i := 3) rfl simA_nil)) (by decide))) rfl rfl rfl rfl))))) ?_)⟩)
  rintro ds Q X ⟨x, rfl, xl, q⟩
  obtain ⟨l, rfl⟩ : ∃ l, x = SX.S l := ⟨x.cps.toList, (SX.S_tl x).symm⟩
  have sl : (SX.S l).length = l.length := SX.S_len l
  rw [sl] at xl
  have q : Q [] (spO (spanG ((TL.spl [46, 46] 0 [] l).map numF))) := q
  have pl := spl_len [46, 46] l 0 []
  have pe := spl_each [46, 46] l 0 []
  refine ⟨SX.S l, rfl, by rw [sl]; omega, ?_⟩
  have e0 : TL.spl (Str.ofString "..").cps.toList 0 [] (SX.S l).cps.toList = TL.spl [46, 46] 0 [] l := rfl
  rw [e0]
  generalize TL.spl [46, 46] 0 [] l = ws at q pl pe
  by_cases h2 : ws.length = 2
  · obtain ⟨a, b, rfl⟩ : ∃ a b, ws = [a, b] := by
      match ws, h2 with
      | [a, b], _ => exact ⟨a, b, rfl⟩
    have la : a.length ≤ l.length := by have := pe a (by simp); simp at this; exact this
    have lb : b.length ≤ l.length := by have := pe b (by simp); simp at this; exact this
    have nf : ∀ o : Option Int, (numV o).flat = true := fun o => by cases o <;> rfl
    refine lc_map [a, b] (fun p => Val.str (SX.S p)) (fun p => numV (numF p)) ?_ (fun p _ => nf _) (by show 2 < 1000000; decide) ?_
    · intro p hp R h
      have := pe p hp
      exact ⟨rfl, SX.S p, rfl, by rw [SX.S_len]; simp at this; omega, h⟩
    have q : Q [] (spO (spanG [numF a, numF b])) := q
    refine ⟨rfl, ?_⟩
    rw [show [a, b].map (fun p => numV (numF p)) = [numV (numF a), numV (numF b)] from rfl]
    have ba : ∀ n, numF a = some n → n.natAbs < 1000000000000 := fun n h => (numF_read h).2.2
    have bb : ∀ n, numF b = some n → n.natAbs < 1000000000000 := fun n h => (numF_read h).2.2
    generalize numF a = oa at q ba
    generalize numF b = ob at q bb
    cases oa with
    | none => exact q
    | some m =>
      cases ob with
      | none => exact q
      | some n =>
        have ba := ba m rfl
        have bb := bb n rfl
        have q : Q [] (spO (if isSpan (m, n) = true then some (m, n) else none)) := q
        by_cases h : n ≤ m
        · refine ifT (decide_eq_true h) ?_
          rw [if_neg (fun z => by have := (isSpan_iff (m, n)).mp z; omega)] at q
          exact q
        · refine ifF (decide_eq_false h) ?_
          rw [if_pos ((isSpan_iff (m, n)).mpr (by show -999999999999 ≤ m ∧ m < n ∧ n ≤ 999999999999; omega))] at q
          exact ⟨rfl, q⟩
  · refine ifT (show (true != decide ((((ws.map fun l => Val.str (SX.S l)).length : Nat) : Int) = 2)) = true by rw [decide_eq_false (by rw [List.length_map]; omega)]; rfl) ?_
    have e : spanG (ws.map numF) = none := by
      match ws, h2 with
      | [], _ => rfl
      | [a], _ => cases h : numF a <;> simp [spanG, h]
      | [_, _], h => exact absurd rfl h
      | a :: b :: c :: d, _ => cases h : numF a <;> cases h2 : numF b <;> simp [spanG, h, h2]
    rw [e] at q
    exact q
end
section
variable {P : Program} {w : World} {K : PySem.W.Frag} {mg : Str → Option Value} {base : Heap}
def covO : Option (List Span) → Val
  | some c => .lst (c.map spV)
  | none => .non
def cCoverR : VSpec := fun ds Q _ => ∃ x : Str, ds = [.str x] ∧ x.length ≤ 80000 ∧ Q [] (covO (coverF x.cps.toList))
theorem M_l_cover_read : Mono cCoverR := fun ds Q Q' E E' h _ ⟨x, a, b, q⟩ => ⟨x, a, b, h _ _ q⟩
theorem v_l_cover_read (T : Tx K mg) : FnOk P w K mg base CX0 (3) T.f_l_cover_read T.fd_l_cover_read ["_law_text"] (vsp K T.tabs [] 1 cCoverR) := by
  have G_l_span_read : FnOk P w K mg base CX0 _ _ _ _ _ := v_l_span_read T
  refine T.F_l_cover_read.ok sc_l_cover_read (fun vs H Q E h => vsp_len h) (fun cdv A outer s H vs Q E hr h => ⟨_, (pss_cons (ps_if (pt_cmpR op_eq (pv 0) pe_str (nomark _)) (pss_one (ps_ret (pe_lst pa_nil))) pss_nil)
      (pss_cons (ps_setLc (i := 1) (own := [("_law_word", 4)]) (g := (gName 4)) (by rfl) sc_l_cover_read.nd rfl rfl (sw_true rfl rfl rfl (by decide +kernel)) (pi_list (pe_bm PySem.F.plainAttrs_str PySem.F.slot_str_split PySem.F.type_str_split (show MtR _ "str.split" rSplit from mt_split) (pv 0) (pa_cons pe_str pa_nil))) (blkOk_by (own := [("_law_word", 4)]) (N := N_l_cover_read) (sc := defScope s_l_cover_read) (by decide +kernel)) (fun _ _ _ _ _ => (pg_name (i := 4) sc_l_cover_read.nd rfl (Or.inl rfl))) (fun _ _ _ _ _ => pts_nil) (fun _ _ _ _ _ => (pe_call G_l_span_read (hr.mono (by decide)) (by rfl) T.g_l_span_read T.F_l_span_read.kp T.b_l_span_read .nil pass0 (pa_cons (pv 4) pa_nil))))
      (pss_cons (ps_if (PW.pt (pw_or (pt_cmpR (op_inD (units65 hr)) pe_non (pv 1) (by rfl)) (pw_or1 (pt_cmpR op_gt (pe_callB call_len_seq (by rfl) T.m_len PySem.boot_len (pa_cons (pv 1) pa_nil)) pe_int (nomark _))))) (pss_one (ps_ret pe_non)) pss_nil)
      (pss_cons (ps_for PassesOwn.never (by rfl) (pi_zip (by rfl) T.m_zip (pa_cons (pv 1) (pa_cons (pe_slice sl_list (pv 1) (po_some pe_int) po_none) pa_nil))) (pg_tup rfl (pgs_cons (pg_name (i := 2) sc_l_cover_read.nd rfl (Or.inl rfl)) (pgs_cons (pg_name (i := 3) sc_l_cover_read.nd rfl (Or.inl rfl)) pgs_nil)))
        (pss_one (ps_if (pt_cmpR op_ge (pe_ix ix_tup (pv 2) pe_int (fun _ _ => rfl)) (pe_ix ix_tup (pv 3) pe_int (fun _ _ => rfl)) (nomark _)) (pss_one (ps_ret pe_non)) pss_nil)))
      (pss_one (ps_ret (pv 1))))))), (vfn (N := 5) (lo := [1]) (Ef := [1]) U0 h rfl (by decide) rfl rfl hU0 (simS_seq (simS_if (simT_test (simE_op r2_eq (simE_var (i := 0) rfl) simE_str rfl)) (simS_ret (simE_lst simA_nil (by decide)) rfl rfl rfl rfl) (simS_next rfl) rfl rfl)
      (simS_seq (simS_setO (i := 1) (simE_lc (fx := [0, 1, 2, 3]) (simI_list (simE_split (simE_var (i := 0) rfl))) (simG_name (i := 4) (show 4 < 5 by decide) rfl rfl) simT_yes (simE_call0 M_l_span_read (simA_varF (i := 4) simA_nil) rfl rfl) rfl rfl rfl) (show 1 < 5 by decide) rfl rfl rfl rfl rfl)
      (simS_seq (simS_if (simT_or (simT_test (simE_op r2_inD simE_non (simE_own (i := 1)) rfl)) (simT_test (simE_op r2_ib (simE_cb cb_len (simA_cons (simE_own (i := 1)) simA_nil rfl)) simE_int rfl)) rfl) (simS_ret simE_non rfl rfl rfl rfl) (simS_next rfl) rfl rfl)
      (simS_seq (simS_forF (E' := []) (simI_zip (simA_cons (simE_own (i := 1)) (simA_consF (simE_sl (simE_own (i := 1)) (simO_some simE_int) simO_none rfl rfl) simA_nil rfl rfl rfl rfl rfl) rfl)) (simG_tup (simGs_cons (simG_name (i := 2) (show 2 < 5 by decide) rfl rfl) (simGs_cons (simG_name (i := 3) (show 3 < 5 by decide) rfl rfl) simGs_nil))) (simS_if (simT_test (simE_op r2_ib (simE_ixT (simE_var (i := 2) rfl) simE_int rfl) (simE_ixT (simE_var (i := 3) rfl) simE_int rfl) rfl)) (simS_ret simE_non rfl rfl rfl rfl) (simS_next rfl) rfl rfl) rfl rfl rfl rfl rfl)
      (simS_ret (simE_move (i := 1) rfl) rfl rfl rfl rfl))))) ?_)⟩)
  rintro ds Q X ⟨x, rfl, xl, q⟩
  obtain ⟨l, rfl⟩ : ∃ l, x = SX.S l := ⟨x.cps.toList, (SX.S_tl x).symm⟩
  have sl : (SX.S l).length = l.length := SX.S_len l
  rw [sl] at xl
  have q : Q [] (covO (coverF l)) := q
  have es : ("" : Str) = SX.S [] := rfl
  by_cases l0 : l = []
  · refine ifT (show (false != decide (SX.S l = ("" : Str))) = true by rw [l0, decide_eq_true es.symm]; rfl) ?_
    rw [l0] at q
    exact q
  refine ifF (show (false != decide (SX.S l = ("" : Str))) = false by rw [decide_eq_false fun y => l0 (SX.S_inj (y.trans es))]; rfl) ?_
  have eF : coverF l = coverG ((TL.spl [32] 0 [] l).map spanF) := by
    unfold coverF
    rw [if_neg l0]
  rw [eF] at q
  have pl := spl_len [32] l 0 []
  have pe := spl_each [32] l 0 []
  refine ⟨_, rfl, by rw [sl]; omega, ?_⟩
  have e0 : TL.spl (Str.ofString " ").cps.toList 0 [] (SX.S l).cps.toList = TL.spl [32] 0 [] l := rfl
  rw [e0]
  have sf : ∀ o : Option Span, (spO o).flat = true := fun o => by cases o <;> rfl
  refine lc_map (TL.spl [32] 0 [] l) (fun p => Val.str (SX.S p)) (fun p => spO (spanF p)) ?_ (fun p _ => sf _) (by omega) ?_
  · intro p hp R h
    have := pe p hp
    exact ⟨rfl, SX.S p, rfl, by rw [SX.S_len]; simp at this; omega, h⟩
  have em : (TL.spl [32] 0 [] l).map (fun p => spO (spanF p)) = ((TL.spl [32] 0 [] l).map spanF).map spO := by
    rw [List.map_map]
    rfl
  rw [em]
  have ol : ((TL.spl [32] 0 [] l).map spanF).length ≤ 100000 := by
    rw [List.length_map]
    omega
  generalize (TL.spl [32] 0 [] l).map spanF = os at q ol
  have okl : Val.okD (.lst (os.map spO)) := (okN_map (n := 1) (fun o => by
    cases o with
    | none => exact okN_non 1
    | some s => exact okN_span s) os).okD (by decide)
  refine ⟨_, rfl, (okN_non 0).okD (by decide), okl, ?_⟩
  have ea : ((os.map spO).any fun z => PyData.eqv z.toD Val.non.toD) = os.any (·.isNone) := by
    rw [List.any_map]
    refine congrArg (fun f => List.any os f) (funext fun o => ?_)
    cases o <;> rfl
  cases en : os.any (·.isNone) with
  | true =>
    refine ifT (by rw [ea, en]; rfl) ?_
    have e : coverG os = none := by unfold coverG; rw [if_pos en]
    rw [e] at q
    exact q
  | false =>
    refine ifF (by rw [ea, en]; rfl) ?_
    have e : coverG os = if covB (os.filterMap id) = true then some (os.filterMap id) else none := by unfold coverG; rw [if_neg (by rw [en]; decide)]
    rw [e] at q
    have e2 : os.map spO = (os.filterMap id).map spV := by
      clear q ol okl ea e
      induction os with
      | nil => rfl
      | cons o t ih =>
        cases o with
        | none => cases en
        | some s =>
          rw [List.map_cons, ih en]
          rfl
    rw [e2]
    have ol2 : (os.filterMap id).length ≤ 100000 := Nat.le_trans (List.length_filterMap_le id os) ol
    generalize os.filterMap id = c at q ol2
    have le : ((c.map spV).length : Int) = (c.length : Int) := by rw [List.length_map]
    by_cases h2 : c.length ≤ 200
    · refine ifF (decide_eq_false (by rw [le]; omega) : decide ((200 : Int) < ((c.map spV).length : Int)) = false) ?_
      refine ⟨flat_spans c, ?_⟩
      rw [cut1_sp]
      conv => whnf
      rw [zipV_map]
      have e4 : covB c = (c.zip (c.drop 1)).all fun p => decide (p.1.2 < p.2.1) := by
        unfold covB
        rw [decide_eq_true h2, Bool.true_and]
      rw [e4] at q
      refine ⟨fun x hx => by
        obtain ⟨p, _, rfl⟩ := List.mem_map.mp hx
        rfl, ?_⟩
      refine ⟨fun i env => ∃ y2 y3 y4 : Option Val, env = [some (.str (SX.S l)), some (.lst (c.map spV)), y2, y3, y4] ∧ (((c.zip (c.drop 1)).take i).all fun p => decide (p.1.2 < p.2.1)) = true, ⟨none, none, none, rfl, rfl⟩, ?_, ?_⟩
      · rintro i x env hx ⟨y2, y3, y4, rfl, ha⟩
        rw [List.getElem?_map] at hx
        obtain ⟨p, hp, rfl⟩ := Option.map_eq_some_iff.mp hx
        refine ⟨rfl, ?_⟩
        by_cases h : p.2.1 ≤ p.1.2
        · refine ifT (decide_eq_true h) ?_
          have ef : ((c.zip (c.drop 1)).all fun p => decide (p.1.2 < p.2.1)) = false := List.all_eq_false.mpr ⟨p, List.mem_of_getElem? hp, by rw [decide_eq_true_eq]; omega⟩
          rw [ef] at q
          exact q
        · refine ifF (decide_eq_false h) ?_
          refine ⟨_, _, _, rfl, ?_⟩
          rw [List.take_add_one, hp, List.all_append, ha, Bool.true_and]
          show (decide (p.1.2 < p.2.1) && true) = true
          rw [decide_eq_true (by omega)]
          rfl
      · rintro env ⟨y2, y3, y4, rfl, ha⟩
        rw [List.length_map, List.take_length] at ha
        rw [ha] at q
        exact q
    · refine ifT (decide_eq_true (by rw [le]; omega) : decide ((200 : Int) < ((c.map spV).length : Int)) = true) ?_
      have e3 : covB c = false := by
        unfold covB
        rw [decide_eq_false h2, Bool.false_and]
      rw [e3] at q
      exact q
end
def lettersS : Str := "abcdefghijklmnopqrstuvwxyz"
theorem letters_is : lettersS.cps.toList = [97, 98, 99, 100, 101, 102, 103, 104, 105, 106, 107, 108, 109, 110, 111, 112, 113, 114, 115, 116, 117, 118, 119, 120, 121, 122] := by decide +kernel
theorem low_letters (c : Nat) : decide (c ∈ lettersS.cps.toList) = isLow c := by
  rw [letters_is]
  unfold isLow
  rw [Bool.eq_iff_iff, decide_eq_true_iff, Bool.and_eq_true, decide_eq_true_iff, decide_eq_true_iff]
  simp only [List.mem_cons, List.not_mem_nil, or_false]
  omega
theorem filt_low (x : Str) : (((signs x).filter fun s => !((s.cps.toList[0]?.map isLow).getD false)).length == 0) = x.cps.toList.all isLow := by
  unfold signs
  rw [List.filter_map, List.length_map]
  generalize x.cps.toList = l
  induction l with
  | nil => rfl
  | cons c r ih =>
    rw [List.filter_cons, List.all_cons]
    show ((if (!isLow c) = true then _ else _ : List Nat).length == 0) = _
    cases isLow c with
    | true => exact ih
    | false => rfl
theorem eqvAll_txt : ∀ (xs ys : List Str), PyData.eqvAll (Val.toDs (xs.map Val.str)) (Val.toDs (ys.map Val.str)) = decide (xs = ys)
  | [], [] => rfl
  | [], _ :: _ => rfl
  | _ :: _, [] => rfl
  | x :: xs, y :: ys => by
    show (PyData.eqv (.str x) (.str y) && PyData.eqvAll (Val.toDs (xs.map Val.str)) (Val.toDs (ys.map Val.str))) = decide (x :: xs = y :: ys)
    rw [eqvAll_txt xs ys]
    have e : PyData.eqv (.str x) (.str y) = decide (x = y) := by
      show (x == y) = decide (x = y)
      by_cases h : x = y
      · rw [h]
        simp
      · rw [decide_eq_false h]
        simpa using h
    rw [e]
    by_cases h : x = y
    · by_cases h2 : xs = ys
      · rw [decide_eq_true h, decide_eq_true h2, decide_eq_true (by rw [h, h2])]
        rfl
      · rw [decide_eq_true h, decide_eq_false h2, decide_eq_false fun z => h2 (List.cons.inj z).2]
        rfl
    · rw [decide_eq_false h, decide_eq_false fun z => h (List.cons.inj z).1]
      rfl
theorem eqv_txt (xs ys : List Str) : PyData.eqv (Val.toD (.lst (xs.map Val.str))) (Val.toD (.lst (ys.map Val.str))) = decide (xs = ys) := eqvAll_txt xs ys
/-- names in order, each once: just those that sorting the set of them leaves as they are -/
theorem rowsB_iff {R : List Row} (h60 : R.length ≤ 60) {ys : List Str} (nd : ys.Nodup) (me : ∀ x, x ∈ ys ↔ x ∈ R.map (·.1)) (so : sortedS ys = true) : rowsB R = decide (R.map (·.1) = ys) := by
  have strict : ∀ l : List Str, l.Pairwise (fun a b => leS a b = true) → l.Nodup → l.Pairwise (fun a b => a.cps.toList < b.cps.toList) := fun l p1 p2 => by
    refine (List.pairwise_and_iff.mpr ⟨p1, p2⟩).imp fun {a b} h => ?_
    obtain ⟨h1, h2⟩ := h
    by_cases z : a.cps.toList < b.cps.toList
    · exact z
    · have e := List.le_antisymm (leS_iff.mp h1) (List.not_lt.mp z)
      exact absurd (by rw [← SX.S_tl a, ← SX.S_tl b, e]) h2
  have to : ∀ l : List Row, (l.map (·.1)).Pairwise (fun a b => a.cps.toList < b.cps.toList) → ((l.zip (l.drop 1)).all fun p => decide (p.1.1.cps.toList < p.2.1.cps.toList)) = true := by
    intro l
    induction l with
    | nil => exact fun _ => rfl
    | cons a t ih =>
      intro h
      cases t with
      | nil => rfl
      | cons b t =>
        have e : ((a :: b :: t).zip ((a :: b :: t).drop 1)) = (a, b) :: ((b :: t).zip ((b :: t).drop 1)) := rfl
        rw [e, List.all_cons, Bool.and_eq_true]
        have h := List.pairwise_cons.mp h
        exact ⟨decide_eq_true (h.1 b.1 (by simp)), ih h.2⟩
  have e0 : rowsB R = (R.zip (R.drop 1)).all fun p => decide (p.1.1.cps.toList < p.2.1.cps.toList) := by
    unfold rowsB
    rw [decide_eq_true h60, Bool.true_and]
  by_cases h : R.map (·.1) = ys
  · rw [decide_eq_true h, e0]
    exact to R (by rw [h]; exact strict ys (sortedS_pw so) nd)
  · rw [decide_eq_false h, e0]
    cases hb : (R.zip (R.drop 1)).all fun p => decide (p.1.1.cps.toList < p.2.1.cps.toList) with
    | false => rfl
    | true =>
      have eG : rowsG (R.map some) = some R := by
        unfold rowsG
        have e4 : (R.map some).any (·.isNone) = false := by
          rw [List.any_map]
          exact List.any_eq_false.mpr fun x _ => by simp
        have e5 : (R.map some).filterMap id = R := by
          rw [List.filterMap_map]
          show R.filterMap (fun x => some x) = R
          exact List.filterMap_some
        rw [e4, e5, if_neg (by decide), if_pos (by rw [e0]; exact hb)]
      have pw := (rowsG_ok eG).2.1
      have ndn : (R.map (·.1)).Nodup := pw.imp fun h e => by rw [e] at h; exact List.lt_irrefl _ h
      have pl : (R.map (·.1)).Pairwise fun a b => leS a b = true := pw.imp fun h => leS_iff.mpr (List.le_of_lt h)
      have pm : (R.map (·.1)).Perm ys := perm_once nd (fun x hx => (me x).mp hx) (nodup_le ndn fun x hx => (me x).mpr hx)
      exact absurd (List.Perm.eq_of_pairwise (le := fun a b => leS a b = true) (fun _ _ _ _ => leS_anti) pl (sortedS_pw so) pm) h
section
variable {P : Program} {w : World} {K : PySem.W.Frag} {mg : Str → Option Value} {base : Heap}
def rowR : Option Row → Val
  | some r => .tup [.str r.1, rowV r]
  | none => .non
theorem rowR_flat (o : Option Row) : (rowR o).flat = true := by cases o <;> rfl
def cRowR : VSpec := fun ds Q _ => ∃ x : Str, ds = [.str x] ∧ x.length ≤ 80000 ∧ Q [] (rowR (rowF x.cps.toList))
theorem M_l_row_read : Mono cRowR := fun ds Q Q' E E' h _ ⟨x, a, b, q⟩ => ⟨x, a, b, h _ _ q⟩
theorem v_l_row_read (T : Tx K mg) : FnOk P w K mg base CX0 (3) T.f_l_row_read T.fd_l_row_read ["_law_row"] (vsp K T.tabs [] 1 cRowR) := by
  have G_l_span_read : FnOk P w K mg base CX0 _ _ _ _ _ := v_l_span_read T
  have G_l_number_read : FnOk P w K mg base CX0 _ _ _ _ _ := v_l_number_read T
  refine T.F_l_row_read.ok sc_l_row_read (fun vs H Q E h => vsp_len h) (fun cdv A outer s H vs Q E hr h => ⟨_, (pss_cons (ps_set (i := 1) sc_l_row_read.nd rfl (Or.inl rfl) (pe_bm PySem.F.plainAttrs_str PySem.F.slot_str_split PySem.F.type_str_split (show MtR _ "str.split" rSplit from mt_split) (pv 0) (pa_cons pe_str pa_nil)))
      (pss_cons (ps_if (pt_cmpR op_ne (pe_callB call_len_seq (by rfl) T.m_len PySem.boot_len (pa_cons (pv 1) pa_nil)) pe_int (nomark _)) (pss_one (ps_ret pe_non)) pss_nil)
      (pss_cons (ps_set (i := 2) sc_l_row_read.nd rfl (Or.inr rfl) pe_str)
      (pss_cons (ps_if (PW.pt (pw_or (pt_not (pt_chain op_le op_le pe_int (pe_callB (show CallR _ (.builtin "len") (fun xs H Q => ∃ x n, xs = [x] ∧ LenV K x H n ∧ Q (.int (n : Nat)) H) from call_len) (by rfl) T.m_len PySem.boot_len (pa_cons (pe_ix ix_list (pv 1) pe_int (fun _ _ => rfl)) pa_nil)) pe_int)) (pw_or1 (pt_cmpR op_gt (pe_callB call_len_seq (by rfl) T.m_len PySem.boot_len (pa_cons (pe_lc (own := [("_law_sign", 5)]) (g := (gName 5)) (by rfl) sc_l_row_read.nd (pi_str (pe_ix ix_list (pv 1) pe_int (fun _ _ => rfl))) (blkOk_by (own := [("_law_sign", 5)]) (N := N_l_row_read) (sc := defScope s_l_row_read) (by decide +kernel)) (fun _ _ _ _ _ => (pg_name (i := 5) sc_l_row_read.nd rfl (Or.inl rfl))) (fun _ _ _ _ _ => (pts_one (pt_cmpR op_ninSg (pv 5) (pv 2) (by rfl)))) (fun _ _ _ _ _ => (pv 5))) pa_nil)) pe_int (nomark _))))) (pss_one (ps_ret pe_non)) pss_nil)
      (pss_cons (ps_set (i := 3) sc_l_row_read.nd rfl (Or.inl rfl) (pe_call G_l_span_read (hr.mono (by decide)) (by rfl) T.g_l_span_read T.F_l_span_read.kp T.b_l_span_read .nil pass0 (pa_cons (pe_ix ix_list (pv 1) pe_int (fun _ _ => rfl)) pa_nil)))
      (pss_cons (ps_set (i := 4) sc_l_row_read.nd rfl (Or.inl rfl) (pe_call G_l_number_read (hr.mono (by decide)) (by rfl) T.g_l_number_read T.F_l_number_read.kp T.b_l_number_read .nil pass0 (pa_cons (pe_ix ix_list (pv 1) pe_int (fun _ _ => rfl)) pa_nil)))
      (pss_cons (ps_if (PW.pt (pw_or (pt_cmpR op_isN (pv 3) pe_non (nomark _)) (pw_or (pt_cmpR op_isN (pv 4) pe_non (nomark _)) (pw_or1 (pt_not (pt_chain op_le op_le pe_int (pv 4) (pe_op op_pow pe_int pe_int))))))) (pss_one (ps_ret pe_non)) pss_nil)
      (pss_one (ps_ret (pe_tup (pa_cons (pe_ix ix_list (pv 1) pe_int (fun _ _ => rfl)) (pa_cons (pe_tup (pa_cons (pv 3) (pa_cons (pv 4) pa_nil))) pa_nil)))))))))))), (vfn (N := 6) (lo := []) (Ef := []) U0 h rfl (by decide) rfl rfl hU0 (simS_seq (simS_asg (simE_split (simE_var (i := 0) rfl)) (simG_name (i := 1) (show 1 < 6 by decide) rfl rfl) rfl rfl)
      (simS_seq (simS_if (simT_test (simE_op r2_ne (simE_cb cb_len (simA_var (i := 1) rfl simA_nil)) simE_int rfl)) (simS_ret simE_non rfl rfl rfl rfl) (simS_next rfl) rfl rfl)
      (simS_seq (simS_asg simE_str (simG_name (i := 2) (show 2 < 6 by decide) rfl rfl) rfl rfl)
      (simS_seq (simS_if (simT_or (simT_not (simT_test (simE_chain r2_ib r2_ib simE_int (simE_cb cb_lenS (simA_consF (simE_flat (simE_ixL (simE_var (i := 1) rfl) simE_int rfl)) simA_nil rfl rfl rfl rfl rfl)) simE_int rfl rfl rfl))) (simT_test (simE_op r2_ib (simE_cb cb_len (simA_consF (simE_lc (fx := [0, 1, 2, 3, 4]) (simI_str (simE_ixL (simE_var (i := 1) rfl) simE_int rfl)) (simG_name (i := 5) (show 5 < 6 by decide) rfl rfl) (simT_test (simE_op (r2_inSg (neg := true)) (simE_var (i := 5) rfl) (simE_var (i := 2) rfl) rfl)) (simE_var (i := 5) rfl) rfl rfl rfl) simA_nil rfl rfl rfl rfl rfl)) simE_int rfl)) rfl) (simS_ret simE_non rfl rfl rfl rfl) (simS_next rfl) rfl rfl)
      (simS_seq (simS_asg (simE_call0 M_l_span_read (simA_consF (simE_flat (simE_ixL (simE_var (i := 1) rfl) simE_int rfl)) simA_nil rfl rfl rfl rfl rfl) rfl rfl) (simG_name (i := 3) (show 3 < 6 by decide) rfl rfl) rfl rfl)
      (simS_seq (simS_asg (simE_call0 M_l_number_read (simA_consF (simE_flat (simE_ixL (simE_var (i := 1) rfl) simE_int rfl)) simA_nil rfl rfl rfl rfl rfl) rfl rfl) (simG_name (i := 4) (show 4 < 6 by decide) rfl rfl) rfl rfl)
      (simS_seq (simS_if (simT_or (simT_test (simE_op r2_isN (simE_var (i := 3) rfl) simE_non rfl)) (simT_or (simT_test (simE_op r2_isN (simE_var (i := 4) rfl) simE_non rfl)) (simT_not (simT_test (simE_chain r2_ib r2_ib simE_int (simE_var (i := 4) rfl) (simE_op r2_iic simE_int simE_int rfl) rfl rfl rfl))) rfl) rfl) (simS_ret simE_non rfl rfl rfl rfl) (simS_next rfl) rfl rfl)
      (simS_ret (simE_flat (simE_tup (simA_cons (simE_ixL (simE_var (i := 1) rfl) simE_int rfl) (simA_cons (simE_tup (simA_var (i := 3) rfl (simA_var (i := 4) rfl simA_nil)) (by decide)) simA_nil rfl) rfl) (by decide))) rfl rfl rfl rfl)))))))) ?_)⟩)
  rintro ds Q X ⟨x, rfl, xl, q⟩
  obtain ⟨l, rfl⟩ : ∃ l, x = SX.S l := ⟨x.cps.toList, (SX.S_tl x).symm⟩
  have sl : (SX.S l).length = l.length := SX.S_len l
  rw [sl] at xl
  have q : Q [] (rowR (rowG (TL.spl [32] 0 [] l))) := q
  have pl := spl_len [32] l 0 []
  have pe := spl_each [32] l 0 []
  refine ⟨SX.S l, rfl, by rw [sl]; omega, ?_⟩
  have e0 : TL.spl (Str.ofString " ").cps.toList 0 [] (SX.S l).cps.toList = TL.spl [32] 0 [] l := rfl
  rw [e0]
  generalize TL.spl [32] 0 [] l = ws at q pl pe
  by_cases h3 : ws.length = 3
  · obtain ⟨a, b, c, rfl⟩ : ∃ a b c, ws = [a, b, c] := by
      match ws, h3 with
      | [a, b, c], _ => exact ⟨a, b, c, rfl⟩
    have la : a.length ≤ l.length := by have := pe a (by simp); simp at this; exact this
    have lb : b.length ≤ l.length := by have := pe b (by simp); simp at this; exact this
    have lc : c.length ≤ l.length := by have := pe c (by simp); simp at this; exact this
    have el : (SX.S a).length = a.length := SX.S_len a
    have eg : rowG [a, b, c] = if isName (SX.S a) = true then (match spanF b with
      | some s => (match numF c with
        | some n => if isWt n = true then some (SX.S a, s, n) else none
        | none => none)
      | none => none) else none := rfl
    rw [eg] at q
    have nn : isName (SX.S a) = false → Q [] .non := fun z => by
      rw [z] at q
      exact q
    have inm : isName (SX.S a) = (decide (1 ≤ a.length) && decide (a.length ≤ 8) && a.all isLow) := rfl
    refine ⟨rfl, small_le (show (SX.S a).length ≤ 1000000 by omega), ?_⟩
    by_cases h1 : 1 ≤ a.length
    case neg =>
      refine ifF (decide_eq_false (by rw [el]; omega)) ?_
      exact nn (by rw [inm, decide_eq_false h1]; rfl)
    refine ifT (decide_eq_true (by rw [el]; omega)) ?_
    by_cases h2 : a.length ≤ 8
    case neg =>
      refine ifT (show (!decide (((SX.S a).length : Int) ≤ 8)) = true by rw [decide_eq_false (by rw [el]; omega)]; rfl) ?_
      exact nn (by rw [inm, decide_eq_false h2, Bool.and_false]; rfl)
    refine ifF (show (!decide (((SX.S a).length : Int) ≤ 8)) = false by rw [decide_eq_true (by rw [el]; omega)]; rfl) ?_
    refine lc_filter (signs (SX.S a)) Val.str (fun s => !((s.cps.toList[0]?.map isLow).getD false)) ?_ (fun _ _ => rfl) (by unfold signs; rw [List.length_map]; show a.length < _; omega) ?_
    · intro s hs R R' h
      obtain ⟨c, _, rfl⟩ := List.mem_map.mp hs
      refine ⟨c, rfl, ?_⟩
      have e : decide (c ∈ (Str.ofString "abcdefghijklmnopqrstuvwxyz").cps.toList) = isLow c := low_letters c
      rw [e]
      have h : if (!isLow c) = true then _ else _ := h
      cases hc : isLow c with
      | true =>
        rw [hc] at h
        exact h
      | false =>
        rw [hc] at h
        exact h
    have fl := filt_low (SX.S a)
    have fl : (((signs (SX.S a)).filter fun s => !((s.cps.toList[0]?.map isLow).getD false)).length == 0) = a.all isLow := fl
    generalize (signs (SX.S a)).filter (fun s => !((s.cps.toList[0]?.map isLow).getD false)) = G at fl
    have gl : ((G.map Val.str).length : Int) = (G.length : Int) := by rw [List.length_map]
    cases ha : a.all isLow with
    | false =>
      rw [ha] at fl
      have g0 : G.length ≠ 0 := fun z => by rw [z] at fl; cases fl
      refine ifT (decide_eq_true (by rw [gl]; omega)) ?_
      exact nn (by rw [inm, ha, Bool.and_false])
    | true =>
      rw [ha] at fl
      have g0 : G.length = 0 := by simpa using fl
      refine ifF (decide_eq_false (by rw [gl]; omega)) ?_
      have isn : isName (SX.S a) = true := by rw [inm, decide_eq_true h1, decide_eq_true h2, ha]; rfl
      rw [isn, if_pos rfl] at q
      refine ⟨rfl, SX.S b, rfl, by rw [SX.S_len]; omega, ?_⟩
      rw [show spanF (SX.S b).cps.toList = spanF b from rfl]
      refine ⟨rfl, SX.S c, rfl, by rw [SX.S_len]; omega, ?_⟩
      rw [show numF (SX.S c).cps.toList = numF c from rfl]
      generalize spanF b = os at q
      generalize numF c = on at q
      cases os with
      | none => exact q
      | some s =>
        cases on with
        | none => exact q
        | some n =>
          have q : Q [] (rowR (if isWt n = true then some (SX.S a, s, n) else none)) := q
          by_cases w0 : 0 ≤ n
          case neg =>
            rw [if_neg (fun z => by unfold isWt at z; rw [decide_eq_false w0] at z; cases z)] at q
            refine ifF (decide_eq_false w0) ?_
            exact q
          refine ifT (decide_eq_true w0) ?_
          refine ⟨⟨by decide, by decide, by decide⟩, ?_⟩
          by_cases w1 : n ≤ 1000000000
          case neg =>
            rw [if_neg (fun z => by unfold isWt at z; rw [decide_eq_false w1, Bool.and_false] at z; cases z)] at q
            refine ifT (show (!decide (n ≤ (1000000000 : Int))) = true by rw [decide_eq_false w1]; rfl) ?_
            exact q
          rw [if_pos (by unfold isWt; rw [decide_eq_true w0, decide_eq_true w1]; rfl)] at q
          refine ifF (show (!decide (n ≤ (1000000000 : Int))) = false by rw [decide_eq_true w1]; rfl) ?_
          exact ⟨rfl, q⟩
  · refine ifT (show (true != decide ((((ws.map fun l => Val.str (SX.S l)).length : Nat) : Int) = 3)) = true by rw [decide_eq_false (by rw [List.length_map]; omega)]; rfl) ?_
    have e : rowG ws = none := by
      match ws, h3 with
      | [], _ => rfl
      | [_], _ => rfl
      | [_, _], _ => rfl
      | [_, _, _], h => exact absurd rfl h
      | _ :: _ :: _ :: _ :: _, _ => rfl
    rw [e] at q
    exact q
end
theorem kept_snocN {k : Kept} (nd : (k.map (·.1)).Nodup) {i : Nat} {r : Row} (hr : k[i]? = some r) : putKV (keptV (k.take i)) (.inr r.1) (.tup [spV r.2.1, .int r.2.2]) = keptV (k.take (i + 1)) := by
  rw [putKV_new fun p hp z => ?_, List.take_add_one, hr]
  · unfold keptV
    rw [List.map_append]
    rfl
  · unfold keptV at hp
    obtain ⟨y, hy, rfl⟩ := List.mem_map.mp hp
    have z : y.1 = r.1 := Sum.inr.inj z
    obtain ⟨j, hj, e⟩ := List.getElem_of_mem hy
    rw [List.length_take] at hj
    obtain ⟨hi, er⟩ := List.getElem?_eq_some_iff.mp hr
    have := List.pairwise_iff_getElem.mp nd j i (by rw [List.length_map]; omega) (by rw [List.length_map]; omega) (by omega)
    rw [List.getElem_map, List.getElem_map, er] at this
    rw [List.getElem_take] at e
    rw [e] at this
    exact this z
section
variable {P : Program} {w : World} {K : PySem.W.Frag} {mg : Str → Option Value} {base : Heap}
def shO : Option Kept → Val
  | some k => .dic (keptV k)
  | none => .non
def cShelfR : VSpec := fun ds Q _ => ∃ x : Str, ds = [.str x] ∧ x.length ≤ 80000 ∧ Q [] (shO (shelfF x.cps.toList))
theorem M_l_shelf_read : Mono cShelfR := fun ds Q Q' E E' h _ ⟨x, a, b, q⟩ => ⟨x, a, b, h _ _ q⟩
theorem v_l_shelf_read (T : Tx K mg) : FnOk P w K mg base CX0 (4) T.f_l_shelf_read T.fd_l_shelf_read ["_law_text"] (vsp K T.tabs [] 1 cShelfR) := by
  have G_l_row_read : FnOk P w K mg base CX0 _ _ _ _ _ := v_l_row_read T
  refine T.F_l_shelf_read.ok sc_l_shelf_read (fun vs H Q E h => vsp_len h) (fun cdv A outer s H vs Q E hr h => ⟨_, (pss_cons (ps_if (pt_cmpR op_eq (pv 0) pe_str (nomark _)) (pss_one (ps_ret pe_dnewK)) pss_nil)
      (pss_cons (ps_setLc (i := 1) (own := [("_law_row", 6)]) (g := (gName 6)) (by rfl) sc_l_shelf_read.nd rfl rfl (sw_true rfl rfl rfl (by decide +kernel)) (pi_list (pe_bm PySem.F.plainAttrs_str PySem.F.slot_str_split PySem.F.type_str_split (show MtR _ "str.split" rSplit from mt_split) (pv 0) (pa_cons pe_str pa_nil))) (blkOk_by (own := [("_law_row", 6)]) (N := N_l_shelf_read) (sc := defScope s_l_shelf_read) (by decide +kernel)) (fun _ _ _ _ _ => (pg_name (i := 6) sc_l_shelf_read.nd rfl (Or.inl rfl))) (fun _ _ _ _ _ => pts_nil) (fun _ _ _ _ _ => (pe_call G_l_row_read (hr.mono (by decide)) (by rfl) T.g_l_row_read T.F_l_row_read.kp T.b_l_row_read .nil pass0 (pa_cons (pv 6) pa_nil))))
      (pss_cons (ps_if (PW.pt (pw_or (pt_cmpR (op_inD (units65 hr)) pe_non (pv 1) (by rfl)) (pw_or1 (pt_cmpR op_gt (pe_callB call_len_seq (by rfl) T.m_len PySem.boot_len (pa_cons (pv 1) pa_nil)) pe_int (nomark _))))) (pss_one (ps_ret pe_non)) pss_nil)
      (pss_cons (ps_setLc (i := 2) (own := [("_law_row", 6)]) (g := (gName 6)) (by rfl) sc_l_shelf_read.nd rfl rfl (sw_true rfl rfl rfl (by decide +kernel)) (pi_list (pv 1)) (blkOk_by (own := [("_law_row", 6)]) (N := N_l_shelf_read) (sc := defScope s_l_shelf_read) (by decide +kernel)) (fun _ _ _ _ _ => (pg_name (i := 6) sc_l_shelf_read.nd rfl (Or.inl rfl))) (fun _ _ _ _ _ => pts_nil) (fun _ _ _ _ _ => (pe_ix (show IxR _ (rIxT K) from ix_tup) (pv 6) pe_int (fun _ _ => rfl))))
      (pss_cons (ps_if (pt_cmpR (op_neD hr.units) (pv 2) (pe_callB (cr_sortedSetS rfl) (by rfl) T.m_sorted (by decide +kernel) (pa_cons (pe_callTy (cr_setOfS rfl) (by rfl) T.m_set (by decide +kernel) (pa_cons (pv 2) pa_nil)) pa_nil)) (nomark _)) (pss_one (ps_ret pe_non)) pss_nil)
      (pss_cons (ps_set (i := 3) sc_l_shelf_read.nd rfl (Or.inl rfl) pe_dnewK)
      (pss_cons (ps_for PassesOwn.never (by rfl) (pi_list (pv 1)) (pg_tup rfl (pgs_cons (pg_name (i := 4) sc_l_shelf_read.nd rfl (Or.inl rfl)) (pgs_cons (pg_name (i := 5) sc_l_shelf_read.nd rfl (Or.inl rfl)) pgs_nil)))
        (pss_one (ps_asg (pv 5) (pg_sub (pv 3) (pv 4) (set_dict (room_u hr))))))
      (pss_one (ps_ret (pv 3)))))))))), (vfn (N := 7) (lo := [3]) (Ef := [3]) U0 h rfl (by decide) rfl rfl hU0 (simS_seq (simS_if (simT_test (simE_op r2_eq (simE_var (i := 0) rfl) simE_str rfl)) (simS_ret simE_dnew rfl rfl rfl rfl) (simS_next rfl) rfl rfl)
      (simS_seq (simS_asg (simE_lc (fx := [0, 1, 2, 3, 4, 5]) (simI_list (simE_split (simE_var (i := 0) rfl))) (simG_name (i := 6) (show 6 < 7 by decide) rfl rfl) simT_yes (simE_call0 M_l_row_read (simA_varF (i := 6) simA_nil) rfl rfl) rfl rfl rfl) (simG_name (i := 1) (show 1 < 7 by decide) rfl rfl) rfl rfl)
      (simS_seq (simS_if (simT_or (simT_test (simE_op r2_inD simE_non (simE_var (i := 1) rfl) rfl)) (simT_test (simE_op r2_ib (simE_cb cb_len (simA_var (i := 1) rfl simA_nil)) simE_int rfl)) rfl) (simS_ret simE_non rfl rfl rfl rfl) (simS_next rfl) rfl rfl)
      (simS_seq (simS_asg (simE_lc (fx := [0, 1, 2, 3, 4, 5]) (simI_list (simE_var (i := 1) rfl)) (simG_name (i := 6) (show 6 < 7 by decide) rfl rfl) simT_yes (simE_ixT (simE_var (i := 6) rfl) simE_int rfl) rfl rfl rfl) (simG_name (i := 2) (show 2 < 7 by decide) rfl rfl) rfl rfl)
      (simS_seq (simS_if (simT_test (simE_op r2_neD (simE_var (i := 2) rfl) (simE_sortSetS (simE_var (i := 2) rfl)) rfl)) (simS_ret simE_non rfl rfl rfl rfl) (simS_next rfl) rfl rfl)
      (simS_seq (simS_setO (i := 3) simE_dnew (show 3 < 7 by decide) rfl rfl rfl rfl rfl)
      (simS_seq (simS_for (E' := [3]) (simI_list (simE_var (i := 1) rfl)) (simG_tup (simGs_cons (simG_name (i := 4) (show 4 < 7 by decide) rfl rfl) (simGs_cons (simG_name (i := 5) (show 5 < 7 by decide) rfl rfl) simGs_nil))) (simS_dsetK (i := 3) (simE_var (i := 5) rfl) (simE_var (i := 4) rfl) rfl rfl rfl rfl rfl) rfl rfl rfl rfl)
      (simS_ret (simE_move (i := 3) rfl) rfl rfl rfl rfl)))))))) ?_)⟩)
  rintro ds Q X ⟨x, rfl, xl, q⟩
  obtain ⟨l, rfl⟩ : ∃ l, x = SX.S l := ⟨x.cps.toList, (SX.S_tl x).symm⟩
  have sl : (SX.S l).length = l.length := SX.S_len l
  rw [sl] at xl
  have q : Q [] (shO (shelfF l)) := q
  have es : ("" : Str) = SX.S [] := rfl
  by_cases l0 : l = []
  · refine ifT (show (false != decide (SX.S l = ("" : Str))) = true by rw [l0, decide_eq_true es.symm]; rfl) ?_
    rw [l0] at q
    exact q
  refine ifF (show (false != decide (SX.S l = ("" : Str))) = false by rw [decide_eq_false fun y => l0 (SX.S_inj (y.trans es))]; rfl) ?_
  have eF : shelfF l = rowsG ((TL.spl [10] 0 [] l).map rowF) := by
    unfold shelfF
    rw [if_neg l0]
  rw [eF] at q
  have pl := spl_len [10] l 0 []
  have pe := spl_each [10] l 0 []
  refine ⟨_, rfl, by rw [sl]; omega, ?_⟩
  have e0 : TL.spl (Str.ofString "\n").cps.toList 0 [] (SX.S l).cps.toList = TL.spl [10] 0 [] l := rfl
  rw [e0]
  refine lc_map (TL.spl [10] 0 [] l) (fun p => Val.str (SX.S p)) (fun p => rowR (rowF p)) ?_ (fun p _ => rowR_flat _) (by omega) ?_
  · intro p hp R h
    have := pe p hp
    exact ⟨rfl, SX.S p, rfl, by rw [SX.S_len]; simp at this; omega, h⟩
  have em : (TL.spl [10] 0 [] l).map (fun p => rowR (rowF p)) = ((TL.spl [10] 0 [] l).map rowF).map rowR := by
    rw [List.map_map]
    rfl
  rw [em]
  have nm : ∀ r, some r ∈ (TL.spl [10] 0 [] l).map rowF → isName r.1 = true := fun r hr => by
    obtain ⟨p, _, hp⟩ := List.mem_map.mp hr
    exact (rowF_ok hp).1
  have ol : ((TL.spl [10] 0 [] l).map rowF).length ≤ 100000 := by
    rw [List.length_map]
    omega
  generalize (TL.spl [10] 0 [] l).map rowF = os at q ol nm
  have okl : Val.okD (.lst (os.map rowR)) := (okN_lst (n := 3) fun v hv => by
    obtain ⟨o, ho, rfl⟩ := List.mem_map.mp hv
    cases o with
    | none => exact okN_non 3
    | some r => exact okN_tup (n := 2) (okN_c (okN_name 2 (nm r ho)) (okN_1 (okN_tup (n := 1) (okN_c (okN_span r.2.1) (okN_1 (okN_int 1 r.2.2))))))).okD (by decide)
  refine ⟨_, rfl, (okN_non 0).okD (by decide), okl, ?_⟩
  have ea : ((os.map rowR).any fun z => PyData.eqv z.toD Val.non.toD) = os.any (·.isNone) := by
    rw [List.any_map]
    refine congrArg (fun f => List.any os f) (funext fun o => ?_)
    cases o <;> rfl
  cases en : os.any (·.isNone) with
  | true =>
    refine ifT (by rw [ea, en]; rfl) ?_
    have e : rowsG os = none := by unfold rowsG; rw [if_pos en]
    rw [e] at q
    exact q
  | false =>
    refine ifF (by rw [ea, en]; rfl) ?_
    have e : rowsG os = if rowsB (os.filterMap id) = true then some (os.filterMap id) else none := by unfold rowsG; rw [if_neg (by rw [en]; decide)]
    rw [e] at q
    have e2 : os.map rowR = (os.filterMap id).map (fun r => Val.tup [.str r.1, rowV r]) := by
      clear q ol okl ea e nm
      induction os with
      | nil => rfl
      | cons o t ih =>
        cases o with
        | none => cases en
        | some s =>
          rw [List.map_cons, ih en]
          rfl
    rw [e2]
    have nm2 : ∀ r ∈ os.filterMap id, isName r.1 = true := fun r hr => by
      obtain ⟨o, ho, eo⟩ := List.mem_filterMap.mp hr
      exact nm r (by rw [← show o = some r from eo]; exact ho)
    generalize os.filterMap id = R at q nm2
    have lr : ((R.map fun r => Val.tup [.str r.1, rowV r]).length : Int) = (R.length : Int) := by rw [List.length_map]
    by_cases h60 : R.length ≤ 60
    case neg =>
      refine ifT (decide_eq_true (by rw [lr]; omega)) ?_
      have e3 : rowsB R = false := by
        unfold rowsB
        rw [decide_eq_false h60, Bool.false_and]
      rw [e3] at q
      exact q
    refine ifF (decide_eq_false (by rw [lr]; omega)) ?_
    refine lc_map R (fun r => Val.tup [.str r.1, rowV r]) (fun r => Val.str r.1) (fun r _ R' h => by exact h) (fun _ _ => rfl) (by omega) ?_
    have en2 : (R.map fun r => Val.str r.1) = (R.map (·.1)).map Val.str := by
      rw [List.map_map]
      rfl
    rw [en2]
    refine ⟨R.map (·.1), rfl, by rw [List.length_map]; omega, fun ys nd me so => ?_⟩
    have okn : ∀ xs : List Str, (∀ x ∈ xs, isName x = true) → Val.okD (.lst (xs.map Val.str)) := fun xs hx => (okN_lst (n := 0) fun v hv => by
      obtain ⟨x, hx2, rfl⟩ := List.mem_map.mp hv
      exact okN_name 0 (hx x hx2)).okD (by decide)
    have nmx : ∀ x ∈ R.map (·.1), isName x = true := fun x hx => by
      obtain ⟨r, hr, rfl⟩ := List.mem_map.mp hx
      exact nm2 r hr
    refine ⟨okn _ nmx, okn ys fun x hx => nmx x ((me x).mp hx), ?_⟩
    have eb := rowsB_iff h60 nd me so
    have ne : (true != PyData.eqv (Val.toD (.lst ((R.map (·.1)).map Val.str))) (Val.toD (.lst (ys.map Val.str)))) = !rowsB R := by
      rw [eqv_txt, ← eb]
      cases rowsB R <;> rfl
    cases hb : rowsB R with
    | false =>
      rw [hb] at q
      refine ifT (by rw [ne, hb]; rfl) ?_
      exact q
    | true =>
      rw [hb, if_pos rfl] at q
      refine ifF (by rw [ne, hb]; rfl) ?_
      have strict : (R.map (·.1)).Nodup := by
        have : R.map (·.1) = ys := by
          rw [eb] at hb
          exact of_decide_eq_true hb
        rw [this]
        exact nd
      refine ⟨fun i env => ∃ y4 y5 y6 : Option Val, env = [some (.str (SX.S l)), some (.lst (R.map fun r => Val.tup [.str r.1, rowV r])), some (.lst ((R.map (·.1)).map Val.str)), some (.dic (keptV (R.take i))), y4, y5, y6], ⟨_, _, _, rfl⟩, ?_, ?_⟩
      · rintro i x env hx ⟨y4, y5, y6, rfl⟩
        rw [List.getElem?_map] at hx
        obtain ⟨r, hr, rfl⟩ := Option.map_eq_some_iff.mp hx
        have hr : R[i]? = some r := hr
        have i60 : (R.take i).length ≤ 60 := by
          rw [List.length_take]
          omega
        refine ⟨rfl, keptV (R.take i), rfl, kept_flat _, keptV (R.take i), r.1, rfl, kept_flat _, rfl, rfl, by rw [kept_len]; omega, ?_⟩
        refine ⟨some (.str r.1), some (rowV r), y6, ?_⟩
        rw [show rowV r = .tup [spV r.2.1, .int r.2.2] from rfl, kept_snocN strict hr]
        rfl
      · rintro env ⟨y4, y5, y6, rfl⟩
        rw [List.length_map, List.take_length]
        exact q
end
section
variable {P : Program} {w : World} {K : PySem.W.Frag} {mg : Str → Option Value} {base : Heap}
/-- sorted(d) of a dict with texts as keys -/
def cNames (C : Addr) : VSpec := fun ds Q _ => ∃ (a : Addr) (g : GS) (kss : List Kept) (n : Nat) (k : Kept), ds = [.opq a, .gho g] ∧ ShAt C g a kss n k ∧ KOk k ∧ Q [] (.lst ((namesK k).map Val.str))
theorem M_Shelf_names {C : Addr} : Mono (cNames C) := fun ds Q Q' E E' h _ ⟨a, g, s, n, k, e, t, o, q⟩ => ⟨a, g, s, n, k, e, t, o, h _ _ q⟩
theorem v_sh_names (T : Tx K mg) : FnOk P w K mg base CX0 (2) T.f_Shelf_names T.fd_Shelf_names ["self"] (vspR K T.tabs [] 1 (cNames T.C_Shelf)) := by
  have G_kept_on : FnOk P w K mg base CX0 _ _ _ _ _ := v_kept_on T
  refine T.F_Shelf_names.ok sc_Shelf_names (fun vs H Q E h => vspR_len h) (fun cdv A outer s H vs Q E hr h => ⟨_, (pss_one (ps_ret (pe_callB (show CallR _ (.builtin "sorted") rSortK from call_sortedD rfl) (by rfl) T.m_sorted (by decide +kernel) (pa_cons (pe_call G_kept_on (hr.mono (by decide)) (by rfl) T.g_kept_on T.F_kept_on.kp T.b_kept_on .nil pass0 (pa_cons (pv 0) pa_nil)) pa_nil)))), (vfnR (N := 1) (lo := []) (Ef := []) h rfl (by decide) rfl (fun xe => (simS_ret (simE_cbl cb_sortK (simA_consF (simE_callR0 M_kept_on (simA_varF (i := 0) simA_nil) rfl rfl) simA_nil rfl rfl rfl rfl rfl)) rfl rfl rfl rfl)) ?_)⟩)
  rintro ds Q X ⟨a, g, kss, n, k, rfl, sh, ok, q⟩
  refine ⟨rfl, g, rfl, a, g, kss, n, k, rfl, sh, ?_⟩
  refine ⟨_, keptV k, k.map (·.1), rfl, .inl rfl, kept_keys k, by rw [List.length_map]; have := ok.le; omega, fun ys p srt => ?_⟩
  have ey : ys = namesK k := sortT_one p srt
  subst ey
  exact q
/-- what a name's row tells -/
def cRowP (C CN : Addr) (f : Span × Int → Val) : VSpec := fun ds Q X => ∃ (a : Addr) (g : GS) (kss : List Kept) (n : Nat) (k : Kept) (nm : Str), ds = [.opq a, .str nm, .gho g] ∧ ShAt C g a kss n k ∧ (∀ x, getR k nm = some x → Q [] (f x)) ∧ (getR k nm = none → X (.ref CN))
theorem M_rowP {C CN : Addr} {f : Span × Int → Val} : Mono (cRowP C CN f) := fun ds Q Q' E E' h x ⟨a, g, s, n, k, nm, e, t, q, r⟩ => ⟨a, g, s, n, k, nm, e, t, fun y z => h _ _ (q y z), fun z => x _ (r z)⟩
theorem M_Shelf_span {C CN : Addr} : Mono (cRowP C CN fun x => spV x.1) := M_rowP
theorem v_sh_span (T : Tx K mg) : FnOk P w K mg base (L2.CX P w) (3) T.f_Shelf_span T.fd_Shelf_span ["self", "name"] (vspR K T.tabs [] 2 (cRowP T.C_Shelf T.C_NoName fun x => spV x.1)) := by
  have G_row_of : FnOk P w K mg base (L2.CX P w) _ _ _ _ _ := v_row_of T
  refine T.F_Shelf_span.okX sc_Shelf_span (fun vs H Q E h => vspR_len h) (fun cdv A outer s H vs Q E hr h => ⟨_, (pss_cons (ps_asg (pe_call G_row_of (hr.mono (by decide)) (by rfl) T.g_row_of T.F_row_of.kp T.b_row_of .nil (passes_call (takes_of rfl rfl rfl rfl) (fun _ _ _ _ h => h)) (pa_cons (pv 0) (pa_cons (pv 1) pa_nil))) (pg_tup rfl (pgs_cons (pg_name (i := 2) sc_Shelf_span.nd rfl (Or.inl rfl)) (pgs_cons (pg_name (i := 3) sc_Shelf_span.nd rfl (Or.inl rfl)) pgs_nil))))
      (pss_one (ps_ret (pv 2)))), (vfnR (N := 4) (lo := []) (Ef := []) h rfl (by decide) rfl (fun xe => (simS_seq (simS_asg (simE_callR0 M_row_of (simA_varF (i := 0) (simA_varF (i := 1) simA_nil)) rfl rfl) (simG_tup (simGs_cons (simG_name (i := 2) (show 2 < 4 by decide) rfl rfl) (simGs_cons (simG_name (i := 3) (show 3 < 4 by decide) rfl rfl) simGs_nil))) rfl rfl)
      (simS_ret (simE_flat (simE_var (i := 2) rfl)) rfl rfl rfl rfl))) ?_)⟩)
  rintro ds Q X ⟨a, g, kss, n, k, nm, rfl, sh, q, r⟩
  refine ⟨rfl, rfl, g, rfl, a, g, kss, n, k, nm, rfl, sh, fun x hx => ?_, fun z => ?_⟩
  · exact ⟨rfl, rfl, q x hx⟩
  · exact r z
end
section
variable {P : Program} {w : World} {K : PySem.W.Frag} {mg : Str → Option Value} {base : Heap}
/-! ### weight, weigh, holders, within, depth -/
theorem M_Shelf_weight {C CN : Addr} : Mono (cRowP C CN fun x => .int x.2) := M_rowP
theorem v_sh_weight (T : Tx K mg) : FnOk P w K mg base (L2.CX P w) (3) T.f_Shelf_weight T.fd_Shelf_weight ["self", "name"] (vspR K T.tabs [] 2 (cRowP T.C_Shelf T.C_NoName fun x => .int x.2)) := by
  have G_row_of : FnOk P w K mg base (L2.CX P w) _ _ _ _ _ := v_row_of T
  refine T.F_Shelf_weight.okX sc_Shelf_weight (fun vs H Q E h => vspR_len h) (fun cdv A outer s H vs Q E hr h => ⟨_, (pss_cons (ps_asg (pe_call G_row_of (hr.mono (by decide)) (by rfl) T.g_row_of T.F_row_of.kp T.b_row_of .nil (passes_call (takes_of rfl rfl rfl rfl) (fun _ _ _ _ h => h)) (pa_cons (pv 0) (pa_cons (pv 1) pa_nil))) (pg_tup rfl (pgs_cons (pg_name (i := 2) sc_Shelf_weight.nd rfl (Or.inl rfl)) (pgs_cons (pg_name (i := 3) sc_Shelf_weight.nd rfl (Or.inl rfl)) pgs_nil))))
      (pss_one (ps_ret (pv 3)))), (vfnR (N := 4) (lo := []) (Ef := []) h rfl (by decide) rfl (fun xe => (simS_seq (simS_asg (simE_callR0 M_row_of (simA_varF (i := 0) (simA_varF (i := 1) simA_nil)) rfl rfl) (simG_tup (simGs_cons (simG_name (i := 2) (show 2 < 4 by decide) rfl rfl) (simGs_cons (simG_name (i := 3) (show 3 < 4 by decide) rfl rfl) simGs_nil))) rfl rfl)
      (simS_ret (simE_flat (simE_var (i := 3) rfl)) rfl rfl rfl rfl))) ?_)⟩)
  rintro ds Q X ⟨a, g, kss, n, k, nm, rfl, sh, q, r⟩
  refine ⟨rfl, rfl, g, rfl, a, g, kss, n, k, nm, rfl, sh, fun x hx => ?_, fun z => ?_⟩
  · exact ⟨rfl, rfl, q x hx⟩
  · exact r z
end
section
variable {P : Program} {w : World} {K : PySem.W.Frag} {mg : Str → Option Value} {base : Heap}
/-! ### the kinds of refusals -/
def Tx.Cs (T : Tx K mg) : List Addr := [T.C_NoSpan, T.C_NoPlace, T.C_NoCover, T.C_NoWeight, T.C_NoCount, T.C_NoName, T.C_Twice, T.C_Full, T.C_Bare, T.C_NoDeed, T.C_NoText, T.C_NoLine]
theorem excC_of (T : Tx K mg) {D : Addr} (h : D ∈ T.C_ShelfError :: T.Cs) : ExcC K D := by
  have hd := (List.map_inj_left.mp T.excs) D h
  simp only [Prod.mk.injEq] at hd
  obtain ⟨h1, h2, h3, h4, h5, h6⟩ := hd
  have hg := T.gets
  simp only [Prod.mk.injEq] at hg
  exact ⟨h1, h2, h3, h4, h5, hg.1, hg.2, h6⟩
theorem kit_row (T : Tx K mg) {i j : Nat} {D C : Addr} (hi : (T.C_ShelfError :: T.Cs)[i]? = some D) (hj : T.Cs[j]? = some C) : PySem.W.kitOne K (.ref D) (.ref C) = some (i == j + 1) := by
  have e := congrArg (fun l => l[i]?) T.kits
  rw [List.getElem?_map, show ([T.C_ShelfError, T.C_NoSpan, T.C_NoPlace, T.C_NoCover, T.C_NoWeight, T.C_NoCount, T.C_NoName, T.C_Twice, T.C_Full, T.C_Bare, T.C_NoDeed, T.C_NoText, T.C_NoLine] : List Addr) = T.C_ShelfError :: T.Cs from rfl, hi] at e
  have hl : i < 13 := by
    have := (List.getElem?_eq_some_iff.mp hi).1
    simpa [Tx.Cs] using this
  have hl2 : j < 12 := by
    have := (List.getElem?_eq_some_iff.mp hj).1
    simpa [Tx.Cs] using this
  rw [List.getElem?_map, List.getElem?_range hl] at e
  have e := Option.some.inj e
  have e2 := congrArg (fun l => l[j]?) e
  rw [List.getElem?_map, List.getElem?_map, show ([T.C_NoSpan, T.C_NoPlace, T.C_NoCover, T.C_NoWeight, T.C_NoCount, T.C_NoName, T.C_Twice, T.C_Full, T.C_Bare, T.C_NoDeed, T.C_NoText, T.C_NoLine] : List Addr) = T.Cs from rfl, hj, List.getElem?_range hl2] at e2
  exact Option.some.inj e2
theorem kit_tops (T : Tx K mg) {D : Addr} (h : D ∈ T.C_ShelfError :: T.Cs) : PySem.W.kitOne K (.ref D) (.ref T.C_ShelfError) = some true ∧ PySem.W.kitOne K (.ref D) (.type "ValueError") = some true := by
  have hd := (List.map_inj_left.mp T.tops) D h
  simp only [Prod.mk.injEq] at hd
  exact hd
theorem kit_none (T : Tx K mg) {C : Addr} (h : C ∈ T.C_ShelfError :: T.Cs) : PySem.W.kitOne K (.type "NoneType") (.ref C) = some false := (List.map_inj_left.mp T.nones) C h
theorem exm_all (T : Tx K mg) {D : Addr} (h : D ∈ T.C_ShelfError :: T.Cs) : PySem.W.exmOne K (.ref D) (.ref T.C_ShelfError) = some true := (List.map_inj_left.mp T.exms) D h
/-- v is a refusal of the kind r, or None, or a bare ShelfError (r is empty) -/
def Kd (T : Tx K mg) (H : Hp) (v : V) (r : List Int) : Prop :=
  (∃ (a : Addr) (i : Nat) (D : Addr), v = .ref a ∧ (T.C_ShelfError :: T.Cs)[i]? = some D ∧ IsEx H (.ref D) a ∧ r = if i = 0 then [] else [(i : Int) - 1]) ∨ (v = .non ∧ r = [])
theorem Kd.same {T : Tx K mg} {H H' : Hp} {v : V} {r : List Int} (h : Kd T H v r) (e : Same H H') : Kd T H' v r := by
  rcases h with ⟨a, i, D, h1, h2, h3, h4⟩ | h
  · exact .inl ⟨a, i, D, h1, h2, h3.same e, h4⟩
  · exact .inr h
theorem Kd.is {T : Tx K mg} {H : Hp} {v : V} {r : List Int} {Q : VK} (h : Kd T H v r) (j : Nat) {C : Addr} (hj : T.Cs[j]? = some C) (q : Q (.bl (decide (r = [(j : Int)]))) H) : rIsY K [v, .ref C] H Q := by
  rcases h with ⟨a, i, D, rfl, h2, h3, h4⟩ | ⟨rfl, h4⟩
  · refine .inl ⟨a, D, _, _, _, rfl, h3, excC_of T (List.mem_of_getElem? h2), .own C, kit_row T h2 hj, ?_⟩
    have e : decide (r = [(j : Int)]) = (i == j + 1) := by
      rw [h4]
      by_cases hi : i = 0
      · rw [if_pos hi, hi]
        simp
      · rw [if_neg hi]
        by_cases h5 : i = j + 1
        · subst h5
          simp
        · have : ¬ ((i : Int) - 1 = (j : Int)) := by omega
          simp [h5, this]
    rw [← e]
    exact q
  · refine .inr ⟨_, _, _, _, false, rfl, .own C, .base .non, kit_none T (List.mem_cons_of_mem _ (List.mem_of_getElem? hj)), ?_⟩
    have e : decide (r = [(j : Int)]) = false := by
      rw [h4]
      simp
    rw [← e]
    exact q
end
section
variable {K : PySem.W.Frag} {mg : Str → Option Value}
/-- refusals by their numbers -/
theorem kd_at (T : Tx K mg) {j : Nat} {C : Addr} (hj : T.Cs[j]? = some C) {H : Hp} {a : Addr} (h : IsEx H (.ref C) a) : Kd T H (.ref a) [(j : Int)] := .inl ⟨a, j + 1, C, rfl, hj, h, by rw [if_neg (by omega)]; congr 1; omega⟩
end
section
variable {P : Program} {w : World} {K : PySem.W.Frag} {mg : Str → Option Value} {base : Heap}
/-! ### the kinds of refusals, in words -/
theorem lc_zipC {K : PySem.W.Frag} {a b : Addr} {xs ys : List V} {g : TG} {tt : TT} {te : TE} {vs : List Nat} {σ : L2.St} {H1 : Hp} {D : Addr} {Qd : Hp → Prop} (Pv : Nat → Hp → Prop) (h0 : Pv 0 (upd H1 D (.lst []))) (hl : ∀ i H, i ≤ min xs.length ys.length → Pv i H → SqL K H a xs ∧ SqL K H b ys)
    (hs : ∀ i x y H t, xs[i]? = some x → ys[i]? = some y → Pv i H → H t = none → g (.ref t) (wipe σ vs) (upd H t (.tup [x, y])) fun σ2 H2 => wipe σ2 vs = wipe σ vs ∧ tt σ2 H2 fun b H3 =>
      if b = true then te σ2 H3 fun y H4 => ∃ acc, H4 D = some (.lst acc) ∧ acc.length < sizeLine ∧ Pv (i + 1) (upd H4 D (.lst (acc ++ [y]))) else Pv (i + 1) H3) (hd : ∀ H, Pv (min xs.length ys.length) H → Qd H) :
    ∃ W : Nat → Nat → Hp → Prop, (∃ m, W 0 m (upd H1 D (.lst []))) ∧ ∀ i m H, W i m H →
      ((Itz K a b).stop i H ∧ Qd H) ∨ ((Itz K a b).go i H ∧ ∃ Nx : Hp → Prop, (∀ H', Nx H' → ∃ m', m' < m ∧ W (i + 1) m' H') ∧ ∀ x H', (Itz K a b).yld i H x H' → g x (wipe σ vs) H' fun σ2 H2 => wipe σ2 vs = wipe σ vs ∧ tt σ2 H2 fun b H3 =>
        if b = true then te σ2 H3 fun y H4 => ∃ acc, H4 D = some (.lst acc) ∧ acc.length < sizeLine ∧ Nx (upd H4 D (.lst (acc ++ [y]))) else Nx H3) := by
  refine ⟨fun i m H => m = min xs.length ys.length - i ∧ i ≤ min xs.length ys.length ∧ Pv i H, ⟨min xs.length ys.length, by simp, Nat.zero_le _, h0⟩, ?_⟩
  rintro i m H ⟨rfl, hi, p⟩
  obtain ⟨q1, q2⟩ := hl i H hi p
  by_cases hlt : i < min xs.length ys.length
  · refine .inr ⟨⟨xs, ys, xs[i]'(by omega), ys[i]'(by omega), q1, q2, List.getElem?_eq_getElem (by omega), List.getElem?_eq_getElem (by omega)⟩, Pv (i + 1), fun H' p' => ⟨min xs.length ys.length - (i + 1), by omega, rfl, hlt, p'⟩, fun x H' y => ?_⟩
    obtain ⟨t, z1, z2, rfl, nt, rfl, h1, h2⟩ := y
    exact hs i z1 z2 H t (h1 xs q1) (h2 ys q2) p nt
  · have e : i = min xs.length ys.length := by omega
    subst e
    exact .inl ⟨⟨xs, ys, q1, q2, by omega⟩, hd H p⟩
def wds : List Str := ["span", "place", "cover", "weight", "count", "name", "twice", "full", "bare", "deed", "text", "line"]
def wdN (j : Nat) : Str := wds[j]?.getD "odd"
def spClass (T : Tx K mg) : Sp := fun vs H Q _ => ∃ v : V, vs = [v] ∧ ((v = .non ∧ Q (.str "done") H) ∨ ∃ (a C : Addr) (j : Nat), v = .ref a ∧ T.Cs[j]? = some C ∧ IsEx H (.ref C) a ∧ ∀ H', Same H H' → Q (.str (wdN j)) H')
theorem ok_class (T : Tx K mg) : FnOk P w K mg base CX0 (1) T.f_l_class T.fd_l_class ["_law_caught"] (spClass T) := by
  refine T.F_l_class.ok sc_l_class (fun vs H Q E h => ?_) (fun cdv A outer s H vs Q E hr h => ?_)
  · obtain ⟨v, rfl, _⟩ := h
    rfl
  · obtain ⟨v, rfl, h⟩ := h
    refine ⟨_, (pss_cons (ps_if (pt_cmpR op_isN (pv 0) pe_non (nomark _)) (pss_one (ps_ret pe_str)) pss_nil)
      (pss_cons (ps_set (i := 1) sc_l_class.nd rfl (Or.inl rfl) (pe_lst (pa_cons (pe_callB call_isY (by rfl) T.m_isinstance (by decide +kernel) (pa_cons (pv 0) (pa_cons (pe_glob (v := .ref T.C_NoSpan) (by rfl) T.g_NoSpan rfl) pa_nil))) (pa_cons (pe_callB call_isY (by rfl) T.m_isinstance (by decide +kernel) (pa_cons (pv 0) (pa_cons (pe_glob (v := .ref T.C_NoPlace) (by rfl) T.g_NoPlace rfl) pa_nil))) (pa_cons (pe_callB call_isY (by rfl) T.m_isinstance (by decide +kernel) (pa_cons (pv 0) (pa_cons (pe_glob (v := .ref T.C_NoCover) (by rfl) T.g_NoCover rfl) pa_nil))) pa_nil)))))
      (pss_cons (ps_set (i := 1) sc_l_class.nd rfl (Or.inl rfl) (pe_op op_cat (pv 1) (pe_lst (pa_cons (pe_callB call_isY (by rfl) T.m_isinstance (by decide +kernel) (pa_cons (pv 0) (pa_cons (pe_glob (v := .ref T.C_NoWeight) (by rfl) T.g_NoWeight rfl) pa_nil))) (pa_cons (pe_callB call_isY (by rfl) T.m_isinstance (by decide +kernel) (pa_cons (pv 0) (pa_cons (pe_glob (v := .ref T.C_NoCount) (by rfl) T.g_NoCount rfl) pa_nil))) (pa_cons (pe_callB call_isY (by rfl) T.m_isinstance (by decide +kernel) (pa_cons (pv 0) (pa_cons (pe_glob (v := .ref T.C_NoName) (by rfl) T.g_NoName rfl) pa_nil))) pa_nil))))))
      (pss_cons (ps_set (i := 1) sc_l_class.nd rfl (Or.inl rfl) (pe_op op_cat (pv 1) (pe_lst (pa_cons (pe_callB call_isY (by rfl) T.m_isinstance (by decide +kernel) (pa_cons (pv 0) (pa_cons (pe_glob (v := .ref T.C_Twice) (by rfl) T.g_Twice rfl) pa_nil))) (pa_cons (pe_callB call_isY (by rfl) T.m_isinstance (by decide +kernel) (pa_cons (pv 0) (pa_cons (pe_glob (v := .ref T.C_Full) (by rfl) T.g_Full rfl) pa_nil))) (pa_cons (pe_callB call_isY (by rfl) T.m_isinstance (by decide +kernel) (pa_cons (pv 0) (pa_cons (pe_glob (v := .ref T.C_Bare) (by rfl) T.g_Bare rfl) pa_nil))) pa_nil))))))
      (pss_cons (ps_set (i := 1) sc_l_class.nd rfl (Or.inl rfl) (pe_op op_cat (pv 1) (pe_lst (pa_cons (pe_callB call_isY (by rfl) T.m_isinstance (by decide +kernel) (pa_cons (pv 0) (pa_cons (pe_glob (v := .ref T.C_NoDeed) (by rfl) T.g_NoDeed rfl) pa_nil))) (pa_cons (pe_callB call_isY (by rfl) T.m_isinstance (by decide +kernel) (pa_cons (pv 0) (pa_cons (pe_glob (v := .ref T.C_NoText) (by rfl) T.g_NoText rfl) pa_nil))) (pa_cons (pe_callB call_isY (by rfl) T.m_isinstance (by decide +kernel) (pa_cons (pv 0) (pa_cons (pe_glob (v := .ref T.C_NoLine) (by rfl) T.g_NoLine rfl) pa_nil))) pa_nil))))))
      (pss_cons (ps_set (i := 2) sc_l_class.nd rfl (Or.inl rfl) (pe_lst (pa_cons pe_str (pa_cons pe_str (pa_cons pe_str (pa_cons pe_str (pa_cons pe_str (pa_cons pe_str (pa_cons pe_str (pa_cons pe_str (pa_cons pe_str (pa_cons pe_str (pa_cons pe_str (pa_cons pe_str pa_nil))))))))))))))
      (pss_cons (ps_setLc (i := 3) (own := [("_law_word", 4), ("_law_truth", 5)]) (g := (gTup K 2 (gCons (gName 4) (gCons (gName 5) gNil)))) (by rfl) sc_l_class.nd rfl rfl (sw_true rfl rfl rfl (by decide +kernel)) (pi_zip (by rfl) T.m_zip (pa_cons (pv 2) (pa_cons (pv 1) pa_nil))) (blkOk_by (own := [("_law_word", 4), ("_law_truth", 5)]) (N := N_l_class) (sc := defScope s_l_class) (by decide +kernel)) (fun _ _ _ _ _ => (by exact (pg_tup rfl (pgs_cons (pg_name (i := 4) sc_l_class.nd rfl (Or.inl rfl)) (pgs_cons (pg_name (i := 5) sc_l_class.nd rfl (Or.inl rfl)) pgs_nil))))) (fun _ _ _ _ _ => (pts_one (pt_val (pv 5)))) (fun _ _ _ _ _ => (pv 4)))
      (pss_cons (ps_if (PW.pt (pw_or (pt_cmpR op_ne (pe_callB call_len_seq (by rfl) T.m_len PySem.boot_len (pa_cons (pv 3) pa_nil)) pe_int (nomark _)) (pw_or1 (pt_not (pt_val (pe_callB call_isY (by rfl) T.m_isinstance (by decide +kernel) (pa_cons (pv 0) (pa_cons (pe_bltn (v := .ty "ValueError") (by rfl) T.m_ValueError (by decide +kernel) rfl) pa_nil)))))))) (pss_one (ps_ret pe_str)) pss_nil)
      (pss_one (ps_ret (pe_ix ix_list (pv 3) pe_int (fun _ _ => rfl)))))))))))), ?_⟩
    rcases h with ⟨rfl, q⟩ | ⟨a, C, j, rfl, hC, ex, q⟩
    · exact ⟨_, rfl, rfl, _, rfl, ite2 (fun _ => q) (fun e => by simp at e)⟩
    · have h := kd_at T hC ex
      have jl : j < 12 := by
        have := (List.getElem?_eq_some_iff.mp hC).1
        simpa [Tx.Cs] using this
      obtain ⟨r, hr0⟩ : ∃ r : List Int, r = [(j : Int)] := ⟨_, rfl⟩
      rw [← hr0] at h
      refine ⟨_, rfl, rfl, _, rfl, ite2 (fun e => by simp at e) (fun _ => ?_)⟩
      refine ⟨_, rfl, h.is 0 rfl ⟨_, rfl, h.is 1 rfl ⟨_, rfl, h.is 2 rfl ⟨small_le (by simp), fun l1 n1 => ?_⟩⟩⟩⟩
      have s1 := same_upd (o := .lst [.bl (decide (r = [((0 : Nat) : Int)])), .bl (decide (r = [((1 : Nat) : Int)])), .bl (decide (r = [((2 : Nat) : Int)]))]) n1
      have h := h.same s1
      refine ⟨_, rfl, _, rfl, h.is 3 rfl ⟨_, rfl, h.is 4 rfl ⟨_, rfl, h.is 5 rfl ⟨small_le (by simp), fun l2 n2 => ?_⟩⟩⟩⟩
      have s2 := same_upd (o := .lst [.bl (decide (r = [((3 : Nat) : Int)])), .bl (decide (r = [((4 : Nat) : Int)])), .bl (decide (r = [((5 : Nat) : Int)]))]) n2
      have h := h.same s2
      refine ⟨l1, l2, _, _, rfl, rfl, s2 _ _ upd_same, upd_same, small_le (by simp), fun l3 n3 => ?_⟩
      have s3 := same_upd (o := .lst ([.bl (decide (r = [((0 : Nat) : Int)])), .bl (decide (r = [((1 : Nat) : Int)])), .bl (decide (r = [((2 : Nat) : Int)]))] ++ [.bl (decide (r = [((3 : Nat) : Int)])), .bl (decide (r = [((4 : Nat) : Int)])), .bl (decide (r = [((5 : Nat) : Int)]))])) n3
      have h := h.same s3
      refine ⟨_, rfl, _, rfl, h.is 6 rfl ⟨_, rfl, h.is 7 rfl ⟨_, rfl, h.is 8 rfl ⟨small_le (by simp), fun l4 n4 => ?_⟩⟩⟩⟩
      have s4 := same_upd (o := .lst [.bl (decide (r = [((6 : Nat) : Int)])), .bl (decide (r = [((7 : Nat) : Int)])), .bl (decide (r = [((8 : Nat) : Int)]))]) n4
      have h := h.same s4
      refine ⟨l3, l4, _, _, rfl, rfl, s4 _ _ upd_same, upd_same, small_le (by simp), fun l5 n5 => ?_⟩
      have s5 := same_upd (o := .lst ([.bl (decide (r = [((0 : Nat) : Int)])), .bl (decide (r = [((1 : Nat) : Int)])), .bl (decide (r = [((2 : Nat) : Int)]))] ++ [.bl (decide (r = [((3 : Nat) : Int)])), .bl (decide (r = [((4 : Nat) : Int)])), .bl (decide (r = [((5 : Nat) : Int)]))] ++ [.bl (decide (r = [((6 : Nat) : Int)])), .bl (decide (r = [((7 : Nat) : Int)])), .bl (decide (r = [((8 : Nat) : Int)]))])) n5
      have h := h.same s5
      refine ⟨_, rfl, _, rfl, h.is 9 rfl ⟨_, rfl, h.is 10 rfl ⟨_, rfl, h.is 11 rfl ⟨small_le (by simp), fun l6 n6 => ?_⟩⟩⟩⟩
      have s6 := same_upd (o := .lst [.bl (decide (r = [((9 : Nat) : Int)])), .bl (decide (r = [((10 : Nat) : Int)])), .bl (decide (r = [((11 : Nat) : Int)]))]) n6
      have h := h.same s6
      refine ⟨l5, l6, _, _, rfl, rfl, s6 _ _ upd_same, upd_same, small_le (by simp), fun l7 n7 => ?_⟩
      obtain ⟨e7, s7⟩ := upd_at (o := .lst ([.bl (decide (r = [((0 : Nat) : Int)])), .bl (decide (r = [((1 : Nat) : Int)])), .bl (decide (r = [((2 : Nat) : Int)]))] ++ [.bl (decide (r = [((3 : Nat) : Int)])), .bl (decide (r = [((4 : Nat) : Int)])), .bl (decide (r = [((5 : Nat) : Int)]))] ++ [.bl (decide (r = [((6 : Nat) : Int)])), .bl (decide (r = [((7 : Nat) : Int)])), .bl (decide (r = [((8 : Nat) : Int)]))] ++ [.bl (decide (r = [((9 : Nat) : Int)])), .bl (decide (r = [((10 : Nat) : Int)])), .bl (decide (r = [((11 : Nat) : Int)]))])) n7
      have h := h.same s7
      refine ⟨small_le (by simp), fun l8 n8 => ?_⟩
      obtain ⟨e8, s8⟩ := upd_at (o := .lst [V.str "span", V.str "place", V.str "cover", V.str "weight", V.str "count", V.str "name", V.str "twice", V.str "full", V.str "bare", V.str "deed", V.str "text", V.str "line"]) n8
      have h := h.same s8
      have all := s1.trans (s2.trans (s3.trans (s4.trans (s5.trans (s6.trans (s7.trans s8))))))
      have e7 := s8 _ _ e7
      revert e8 h all e7
      generalize upd _ l8 _ = H8
      intro e8 h all e7
      clear s1 s2 s3 s4 s5 s6 s7
      have e8 : H8 l8 = some (.lst (wds.map V.str)) := e8
      have f7 : [V.bl (decide (r = [((0 : Nat) : Int)])), .bl (decide (r = [((1 : Nat) : Int)])), .bl (decide (r = [((2 : Nat) : Int)]))] ++ [.bl (decide (r = [((3 : Nat) : Int)])), .bl (decide (r = [((4 : Nat) : Int)])), .bl (decide (r = [((5 : Nat) : Int)]))] ++ [.bl (decide (r = [((6 : Nat) : Int)])), .bl (decide (r = [((7 : Nat) : Int)])), .bl (decide (r = [((8 : Nat) : Int)]))] ++ [.bl (decide (r = [((9 : Nat) : Int)])), .bl (decide (r = [((10 : Nat) : Int)])), .bl (decide (r = [((11 : Nat) : Int)]))] = (List.range 12).map fun (k : Nat) => V.bl (decide (r = [(k : Int)])) := rfl
      rw [f7] at e7
      obtain ⟨trs, ht⟩ : ∃ trs, trs = (List.range 12).map fun (k : Nat) => V.bl (decide (r = [(k : Int)])) := ⟨_, rfl⟩
      rw [← ht] at e7
      have tl : trs.length = 12 := by rw [ht, List.length_map, List.length_range]
      have wl : (wds.map V.str).length = 12 := rfl
      refine ⟨_, rfl, _, rfl, l8, l7, wds.map V.str, trs, rfl, SqL.of e8, SqL.of e7, fun D nD => ?_⟩
      have nD0 := all.free nD
      have nl8 : l8 ≠ D := ne_of_none e8 nD
      have nl7 : l7 ≠ D := ne_of_none e7 nD
      refine lc_zipC (K := K) (a := l8) (b := l7) (xs := wds.map V.str) (ys := trs) (fun k H' => Same H H' ∧ H' l8 = some (.lst (wds.map V.str)) ∧ H' l7 = some (.lst trs) ∧ H' D = some (.lst (if j < k then [V.str (wdN j)] else []))) ⟨same_more all nD0, by rw [upd_ne nl8]; exact e8, by rw [upd_ne nl7]; exact e7, upd_same⟩ (fun i H' _ h => ⟨SqL.of h.2.1, SqL.of h.2.2.1⟩) ?_ ?_
      · rintro k x y H' t hx hy ⟨sm, g8, g7, hD⟩ nt
        have k12 : k < 12 := by
          have := (List.getElem?_eq_some_iff.mp hx).1
          rwa [wl] at this
        rw [ht, List.getElem?_map, List.getElem?_range k12] at hy
        have hy : y = V.bl (decide (r = [(k : Int)])) := (Option.some.inj hy).symm
        subst hy
        obtain ⟨gt, st⟩ := upd_at (o := .tup [x, .bl (decide (r = [(k : Int)]))]) nt
        have hD2 := st _ _ hD
        have nDt : D ≠ t := ne_of_none hD nt
        refine ⟨t, _, rfl, SqT.of gt, rfl, _, _, rfl, _, _, rfl, rfl, rfl, ?_⟩
        refine ⟨_, rfl, _, rfl, ite2 (fun e => ?_) (fun e => ?_)⟩
        · have e := of_decide_eq_true e
          rw [hr0] at e
          have ej : j = k := by
            have := List.head_eq_of_cons_eq e
            omega
          have ex : x = V.str (wdN j) := by
            rw [List.getElem?_map] at hx
            obtain ⟨u, hu, rfl⟩ := Option.map_eq_some_iff.mp hx
            unfold wdN
            rw [ej, hu]
            rfl
          subst ex
          rw [if_neg (by omega)] at hD2
          refine ⟨_, rfl, _, hD2, by decide, same_more (sm.trans st) nD0, ?_, ?_, ?_⟩
          · rw [upd_ne nl8]
            exact st _ _ g8
          · rw [upd_ne nl7]
            exact st _ _ g7
          · rw [upd_same, if_pos (by omega)]
            rfl
        · have ej : ¬ j = k := fun z => e (decide_eq_true (by rw [hr0, z]))
          refine ⟨sm.trans st, st _ _ g8, st _ _ g7, ?_⟩
          rw [hD2]
          by_cases z : j < k
          · rw [if_pos z, if_pos (by omega)]
          · rw [if_neg z, if_neg (by omega)]
      · rintro H' ⟨sm, g8, g7, hD⟩
        rw [wl, tl, if_pos (by omega)] at hD
        have hm : C ∈ T.C_ShelfError :: T.Cs := List.mem_cons_of_mem _ (List.mem_of_getElem? hC)
        refine ⟨_, rfl, D, _, rfl, .inl (SqL.of hD), rfl, _, rfl, iteNS rfl ?_⟩
        refine ⟨_, rfl, .inl ⟨a, C, _, _, true, rfl, ex.same sm, excC_of T hm, .ty _, (kit_tops T hm).2, true, rfl, iteF ?_⟩⟩
        exact ⟨_, rfl, D, _, _, _, rfl, rfl, SqL.of hD, at_of (j := 0) (by omega) rfl, q _ sm⟩
end
section
variable {P : Program} {w : World} {K : PySem.W.Frag} {mg : Str → Option Value} {base : Heap}
/-- the word of what was caught -/
def cClass (Cs : List Addr) : VSpec := fun ds Q _ => ∃ d : Val, ds = [d] ∧ ((d = .non ∧ Q [] (.str "done")) ∨ ∃ (n : Nat) (C : Addr), d = .exc (.ref C) ∧ Cs[n]? = some C ∧ Q [] (.str (wdN n)))
theorem M_l_class {Cs : List Addr} : Mono (cClass Cs) := fun ds Q Q' E E' h _ ⟨d, e, z⟩ => ⟨d, e, z.imp (fun ⟨a, b⟩ => ⟨a, h _ _ b⟩) fun ⟨n, C, a, b, q⟩ => ⟨n, C, a, b, h _ _ q⟩⟩
theorem v_class (T : Tx K mg) (Ps : TL) : FnOk P w K mg base CX0 (1) T.f_l_class T.fd_l_class ["_law_caught"] (vsp K Ps [] 1 (cClass T.Cs)) := (ok_class T).imp fun vs H Q E ⟨ds, Fs, s, d, e, h⟩ => by
  subst e
  obtain ⟨v, rfl, r1⟩ := arg1 s
  refine ⟨v, rfl, ?_⟩
  rcases h with ⟨rfl, q⟩ | ⟨n, C, rfl, hC, q⟩
  · exact .inl ⟨r1.non_eq, q H _ [] Fs (out_same (Same.refl _) s.tb) (.str _) List.nodup_nil fun _ h => nomatch h⟩
  · generalize hF : Fs 0 = F0 at r1
    cases r1 with
    | exc ex => exact .inr ⟨_, C, n, rfl, hC, ex, fun H' sm => q H' _ [] Fs (out_same sm s.tb) (.str _) List.nodup_nil fun _ h => nomatch h⟩
end
section
variable {c : Vc} {as : List Arg} {ta : TA} {f : Option (List Nat)} {wa : VWA} {S : VSpec} {n : Nat}
/-- a call that may raise, of what sees no store -/
theorem simC_0 (hM : Mono S) (h : SimA c ta as f [] wa) (hn : as.length = n) (ho : noO as = true) : SimC c (fun Ex => tCallS (vsp c.K c.Ps [] n S) Ex ta) [] (fun xe => wCall S xe B0 wa) := ⟨fun xe Ex env σ H Fs Q R S0 hw hx k =>
  h.sim env σ H Fs _ _ S0 hw fun vs ds Gs env1 H1 Fs1 o r fr q => by
    have T : Tags [] id as := ⟨(fun _ h => nomatch h), (fun _ h => nomatch h), fun p i z => absurd z (noO_at ho), fun _ h => nomatch h⟩
    refine ⟨ds, fun p => Gs.getD p [], call_in (pad := []) (g := 0) o.sr (by rw [List.append_nil]; exact r) T hn (by rw [r.len, hn]) (fun _ z => nomatch z), hM _ _ _ _ _ (fun ds' rv hb H' v F Gs' O rr nd new => ?_) (fun x hx' H' Gs' ef tb => hx x H' ((kp0 o.ef).trans (kp0 ef)) (fun a z => o.ef.gr a (ef.gr a z)) tb hx') q⟩
    have o2 := call_out (env' := env1) o.sr r T O o.sr.le (fun _ h => nomatch h) (fun _ _ => rfl)
    refine k v rv F env1 H' _ (o.trans o2) rr (fun a ha j hj _ z => ?_) (fun mv e => ⟨nd, fun a ha => .inl (o.ef.gr a (new a ha).1)⟩) hb
    rw [slotF_ne (own := []) fun p (hp : p ∈ ([] : List Nat)) _ => nomatch hp] at z
    exact (o.sr.mutb j a z).ex (new a ha).1⟩
end
theorem shelfF_pw {l : List Nat} {k : Kept} (h : shelfF l = some k) : (k.map (·.1)).Pairwise fun a b => a.cps.toList < b.cps.toList := by
  unfold shelfF at h
  split at h
  · cases h
    exact .nil
  · exact (rowsG_ok h).2.1
theorem InsOnly.upd {g : GS} {a : Addr} {C : Addr} {fs : List (Str × Val)} (h : InsOnly g) : InsOnly (g.upd a (.ins C fs)) := fun b c hb => by
  by_cases e : b = a
  · rw [e, GS.upd_same] at hb
    cases hb
    exact ⟨C, fs, rfl⟩
  · rw [GS.upd_ne e] at hb
    exact h b c hb
section
variable {P : Program} {w : World} {K : PySem.W.Frag} {mg : Str → Option Value} {base : Heap}
/-- what is told of a text: by way 0 a span, by way 1 a cover, by way 2 a shelf -/
def askV (i : Nat) (l : List Nat) : Val :=
  match i with
  | 0 => (spanF l).elim (.str "text") spV
  | 1 => (coverF l).elim (.str "text") fun c => .lst (c.map spV)
  | _ => (shelfF l).elim (.str "text") fun k => .dic (keptV k)
def cAsked (T : Tx K mg) : VSpec := fun ds Q _ => ∃ (x : Str) (i : Nat) (g : GS), ds = [.str x, .int (i : Int), .gho g] ∧ i < 3 ∧ x.length ≤ 80000 ∧ InsOnly g ∧ ∀ g', InsOnly g' → Q [.gho g'] (askV i x.cps.toList)
theorem M_l_asked {T : Tx K mg} : Mono (cAsked T) := fun ds Q Q' E E' h _ ⟨x, i, g, a, b, c, d, q⟩ => ⟨x, i, g, a, b, c, d, fun g' z => h _ _ (q g' z)⟩
theorem v_l_asked (T : Tx K mg) (B : Tbs T base) : FnOk P w K mg base CX0 (7) T.f_l_asked T.fd_l_asked ["_law_text", "_law_way"] (vspG K T.tabs [] 2 (cAsked T)) := by
  have G_read_span : FnOk P w K mg base (L2.CX P w) _ _ _ _ _ := v_read_span T B
  have G_read_cover : FnOk P w K mg base (L2.CX P w) _ _ _ _ _ := v_read_cover T B
  have G_read_shelf : FnOk P w K mg base (L2.CX P w) _ _ _ _ _ := v_read_shelf T B
  have G_l_class : FnOk P w K mg base CX0 _ _ _ _ _ := v_class T T.tabs
  have G_Shelf_names : FnOk P w K mg base CX0 _ _ _ _ _ := v_sh_names T
  have G_Shelf_span : FnOk P w K mg base (L2.CX P w) _ _ _ _ _ := v_sh_span T
  have G_Shelf_weight : FnOk P w K mg base (L2.CX P w) _ _ _ _ _ := v_sh_weight T
  refine T.F_l_asked.ok sc_l_asked (fun vs H Q E h => vspG_len h) (fun cdv A outer s H vs Q E hr h => ⟨_, (pss_cons (ps_set (i := 2) sc_l_asked.nd rfl (Or.inl rfl) pe_non)
      (pss_cons (ps_set (i := 3) sc_l_asked.nd rfl (Or.inl rfl) pe_non)
      (pss_cons (ps_try_kept 4 2 rfl rfl sc_l_asked.nd rfl rfl rfl rfl ⟨rfl, by decide, Or.inl T.g_ShelfError⟩ rfl (fun W pn xe tk _ => (pss_one (ps_if (pt_cmpR op_eq (pv 1) pe_int (nomark _)) (pss_one (ps_set (i := 3) sc_l_asked.nd rfl (Or.inl rfl) (pe_callS G_read_span (hr.mono (by decide)) (by rfl) T.g_read_span T.F_read_span.kp T.b_read_span (fun σ => passAt tk σ) (pa_cons (pv 0) pa_nil)))) (pss_one (ps_if (pt_cmpR op_eq (pv 1) pe_int (nomark _)) (pss_one (ps_set (i := 3) sc_l_asked.nd rfl (Or.inl rfl) (pe_callS G_read_cover (hr.mono (by decide)) (by rfl) T.g_read_cover T.F_read_cover.kp T.b_read_cover (fun σ => passAt tk σ) (pa_cons (pv 0) pa_nil)))) (pss_one (ps_set (i := 3) sc_l_asked.nd rfl (Or.inl rfl) (pe_callS G_read_shelf (hr.mono (by decide)) (by rfl) T.g_read_shelf T.F_read_shelf.kp T.b_read_shelf (fun σ => passAt tk σ) (pa_cons (pv 0) pa_nil))))))))))
      (pss_cons (ps_if (pt_cmpR op_notN (pv 2) pe_non (nomark _)) (pss_one (ps_ret (pe_call G_l_class (hr.mono (by decide)) (by rfl) T.g_l_class T.F_l_class.kp T.b_l_class .nil pass0 (pa_cons (pv 2) pa_nil)))) pss_nil)
      (pss_cons (ps_if (pt_cmpR op_lt (pv 1) pe_int (nomark _)) (pss_one (ps_ret (pv 3))) pss_nil)
      (pss_cons (ps_set (i := 5) sc_l_asked.nd rfl (Or.inl rfl) pe_dnewK)
      (pss_cons (ps_for PassesOwn.never (by rfl) (pi_list (pe_meth0 (pv 3) T.cl_Shelf T.mt_Shelf_names G_Shelf_names (hr.mono (by decide)) T.b_Shelf_names .nil pass0 )) (pg_name (i := 6) sc_l_asked.nd rfl (Or.inl rfl))
        (pss_one (ps_asg (pe_tup (pa_cons (pe_meth (pv 3) T.cl_Shelf T.mt_Shelf_span G_Shelf_span (hr.mono (by decide)) T.b_Shelf_span .nil passL (pa_cons (pv 6) pa_nil)) (pa_cons (pe_meth (pv 3) T.cl_Shelf T.mt_Shelf_weight G_Shelf_weight (hr.mono (by decide)) T.b_Shelf_weight .nil passL (pa_cons (pv 6) pa_nil)) pa_nil))) (pg_sub (pv 5) (pv 6) (set_dict (room_u hr))))))
      (pss_one (ps_ret (pv 5)))))))))), (vfnG (own := []) (N := 7) (lo := [3, 5]) (Ef := [7, 3, 5]) (UG0 7) h rfl (by decide) rfl rfl hUG0 (simS_seq (simS_asg simE_non (simG_name (i := 2) (show 2 < 7 by decide) rfl rfl) rfl rfl)
      (simS_seq (simS_setO (i := 3) simE_non (show 3 < 7 by decide) rfl rfl rfl rfl rfl)
      (simS_seq (simS_tryS (Se := T.C_ShelfError) (Cs := T.Cs) (i := 4) (j := 2) (fun C h => exm_all T (List.mem_cons_of_mem _ h)) (simW_if (simT_test (simE_op r2_eq (simE_var (i := 1) rfl) simE_int rfl))
      (simW_setO (i := 3) (simC_0 M_read_span (simA_varF (i := 0) simA_nil) rfl rfl) (show 3 < 7 by decide) rfl rfl rfl rfl)
      (simW_if (simT_test (simE_op r2_eq (simE_var (i := 1) rfl) simE_int rfl))
      (simW_setO (i := 3) (simC_0 M_read_cover (simA_varF (i := 0) simA_nil) rfl rfl) (show 3 < 7 by decide) rfl rfl rfl rfl)
      (simW_setO (i := 3) (simC_G0 M_read_shelf (simA_varF (i := 0) simA_nil) rfl rfl rfl) (show 3 < 7 by decide) rfl rfl rfl rfl) rfl) rfl) rfl rfl rfl rfl)
      (simS_seq (simS_if (simT_test (simE_op r2_notN (simE_var (i := 2) rfl) simE_non rfl)) (simS_ret (simE_call0 M_l_class (simA_var (i := 2) rfl simA_nil) rfl rfl) rfl rfl rfl rfl) (simS_next rfl) rfl rfl)
      (simS_seq (simS_if (simT_test (simE_op r2_ib (simE_var (i := 1) rfl) simE_int rfl)) (simS_ret (simE_move (i := 3) rfl) rfl rfl rfl rfl) (simS_next rfl) rfl rfl)
      (simS_seq (simS_setO (i := 5) simE_dnew (show 5 < 7 by decide) rfl rfl rfl rfl rfl)
      (simS_seq (simS_for (E' := [5]) (simI_list (simE_methR M_Shelf_names (simE_flat (simE_own (i := 3))) simA_nil rfl rfl)) (simG_name (i := 6) (show 6 < 7 by decide) rfl rfl) (simS_dsetK (i := 5) (simE_tup (simA_consF (simE_methR M_Shelf_span (simE_flat (simE_own (i := 3))) (simA_varF (i := 6) simA_nil) rfl rfl) (simA_consF (simE_methR M_Shelf_weight (simE_flat (simE_own (i := 3))) (simA_varF (i := 6) simA_nil) rfl rfl) simA_nil rfl rfl rfl rfl rfl) rfl rfl rfl rfl rfl) (by decide)) (simE_var (i := 6) rfl) rfl rfl rfl rfl rfl) rfl rfl rfl rfl)
      (simS_ret (simE_move (i := 5) rfl) rfl rfl rfl rfl)))))))) ?_)⟩)
  rintro ds Q X ⟨x, i, g, rfl, i3, xl, io, q⟩
  obtain ⟨l, rfl⟩ : ∃ l, x = SX.S l := ⟨x.cps.toList, (SX.S_tl x).symm⟩
  have q : ∀ g', InsOnly g' → Q [.gho g'] (askV i l) := q
  have len9 : (SX.S l).length ≤ 90000 := by omega
  rcases i with _ | _ | _ | i
  · refine ⟨rfl, ?_⟩
    refine ⟨rfl, SX.S l, rfl, len9, ?_, ?_⟩
    · intro e
      have e : spanF l = none := e
      refine ⟨10, T.C_NoText, rfl, rfl, ?_⟩
      have q := q g io
      unfold askV at q
      rw [e] at q
      exact ⟨_, rfl, .inr ⟨10, T.C_NoText, rfl, rfl, q⟩⟩
    · intro s e
      have e : spanF l = some s := e
      have q := q g io
      unfold askV at q
      rw [e] at q
      exact q
  · refine ⟨rfl, ?_⟩
    refine ⟨rfl, SX.S l, rfl, xl, ?_, ?_⟩
    · intro e
      have e : coverF l = none := e
      refine ⟨10, T.C_NoText, rfl, rfl, ?_⟩
      have q := q g io
      unfold askV at q
      rw [e] at q
      exact ⟨_, rfl, .inr ⟨10, T.C_NoText, rfl, rfl, q⟩⟩
    · intro s e
      have e : coverF l = some s := e
      have q := q g io
      unfold askV at q
      rw [e] at q
      exact q
  · refine ⟨rfl, ?_⟩
    refine ⟨rfl, g, rfl, SX.S l, g, rfl, io, xl, ?_, ?_⟩
    · intro e
      have e : shelfF l = none := e
      refine ⟨10, T.C_NoText, rfl, rfl, ?_⟩
      have q := q g io
      unfold askV at q
      rw [e] at q
      exact ⟨_, rfl, .inr ⟨10, T.C_NoText, rfl, rfl, q⟩⟩
    · intro k e b nb
      have e : shelfF l = some k := e
      have ok := shelfF_ok e
      obtain ⟨g2, hg2⟩ : ∃ g2, g2 = g.upd b (shC T.C_Shelf [k] 0) := ⟨_, rfl⟩
      have io2 : InsOnly g2 := by rw [hg2]; exact io.upd
      have sh : ShAt T.C_Shelf g2 b [k] 0 k := ⟨by rw [hg2, GS.upd_same], rfl, by show 1 ≤ 100000; decide⟩
      rw [← hg2]
      have q := q g2 io2
      unfold askV at q
      rw [e] at q
      have pw := shelfF_pw e
      have en : namesK k = k.map (·.1) := List.Perm.eq_of_pairwise (le := fun a b => leS a b = true) (fun _ _ _ _ => leS_anti) (sortT_pw _) (pw.imp fun h => leS_iff.mpr (List.le_of_lt h)) (sortT_perm _)
      refine ⟨rfl, b, g2, _, rfl, rfl, sh.1, rfl, g2, rfl, b, g2, [k], 0, k, rfl, sh, ok, ?_⟩
      rw [en]
      refine ⟨fun i env => ∃ y6 : Option Val, env = [some (.str (SX.S l)), some (.int 2), some .non, some (.opq b), none, some (.dic (keptV (k.take i))), y6, some (.gho g2)], ⟨_, rfl⟩, ?_, ?_⟩
      · rintro i x env hx ⟨y6, rfl⟩
        rw [List.getElem?_map, List.getElem?_map] at hx
        obtain ⟨nm, hnm, rfl⟩ := Option.map_eq_some_iff.mp hx
        obtain ⟨r, hr, rfl⟩ := Option.map_eq_some_iff.mp hnm
        have hk := getR_mem ok.nd (List.mem_of_getElem? hr)
        refine ⟨rfl, b, g2, _, rfl, rfl, sh.1, rfl, rfl, g2, rfl, b, g2, [k], 0, k, r.1, rfl, sh, fun y hy => ?_, fun z => by rw [hk] at z; cases z⟩
        rw [hk] at hy
        cases hy
        refine ⟨rfl, b, g2, _, rfl, rfl, sh.1, rfl, rfl, g2, rfl, b, g2, [k], 0, k, r.1, rfl, sh, fun y hy => ?_, fun z => by rw [hk] at z; cases z⟩
        rw [hk] at hy
        cases hy
        have i60 : (k.take i).length ≤ 60 := by
          rw [List.length_take]
          have := ok.le
          omega
        refine ⟨keptV (k.take i), rfl, kept_flat _, keptV (k.take i), r.1, rfl, kept_flat _, rfl, rfl, by rw [kept_len]; omega, ?_⟩
        refine ⟨some (.str r.1), ?_⟩
        rw [show Val.tup [spV r.2.1, .int r.2.2] = .tup [spV r.2.1, .int r.2.2] from rfl, kept_snocN ok.nd hr]
        rfl
      · rintro env ⟨y6, rfl⟩
        rw [List.length_map, List.length_map, List.take_length]
        exact q
  · omega
end
section
variable {P : Program} {w : World} {K : PySem.W.Frag} {mg : Str → Option Value} {base : Heap}
/-- what the law reads, by way -/
def dueV (i : Nat) (l : List Nat) : Val :=
  match i with
  | 0 => spO (spanF l)
  | 1 => covO (coverF l)
  | _ => shO (shelfF l)
theorem dueV_none (i : Nat) (l : List Nat) : ((dueV i l).isNon = true ∧ askV i l = Val.str "text") ∨ ((dueV i l).isNon = false ∧ askV i l = dueV i l) := by
  rcases i with _ | _ | i
  · show ((spO (spanF l)).isNon = true ∧ (spanF l).elim (Val.str "text") spV = Val.str "text") ∨ ((spO (spanF l)).isNon = false ∧ (spanF l).elim (Val.str "text") spV = spO (spanF l))
    cases spanF l with
    | none => exact .inl ⟨rfl, rfl⟩
    | some s => exact .inr ⟨rfl, rfl⟩
  · show ((covO (coverF l)).isNon = true ∧ (coverF l).elim (Val.str "text") (fun c => Val.lst (c.map spV)) = Val.str "text") ∨ ((covO (coverF l)).isNon = false ∧ (coverF l).elim (Val.str "text") (fun c => Val.lst (c.map spV)) = covO (coverF l))
    cases coverF l with
    | none => exact .inl ⟨rfl, rfl⟩
    | some s => exact .inr ⟨rfl, rfl⟩
  · show ((shO (shelfF l)).isNon = true ∧ (shelfF l).elim (Val.str "text") (fun k => Val.dic (keptV k)) = Val.str "text") ∨ ((shO (shelfF l)).isNon = false ∧ (shelfF l).elim (Val.str "text") (fun k => Val.dic (keptV k)) = shO (shelfF l))
    cases shelfF l with
    | none => exact .inl ⟨rfl, rfl⟩
    | some s => exact .inr ⟨rfl, rfl⟩
theorem ne_same (i : Nat) (l : List Nat) {Q : Val → Prop} (q : Q (.bl false)) : fNeT (askV i l) (askV i l) Q := by
  have txt : Val.okD (.str "text") := (okN_str 0 (by decide)).okD (by decide)
  have eq1 : ∀ v : Val, v.okD → fNeT v v Q := fun v h => .inl ⟨h, h, by rw [PySem.SeqAt.eqv_refl _ (SeqAt.canLay_of_shaped h.2)]; exact q⟩
  rcases i with _ | _ | i
  · show fNeT ((spanF l).elim (Val.str "text") spV) ((spanF l).elim (Val.str "text") spV) Q
    cases spanF l with
    | none => exact eq1 _ txt
    | some s => exact eq1 _ (okD_span s)
  · show fNeT ((coverF l).elim (Val.str "text") fun c => Val.lst (c.map spV)) ((coverF l).elim (Val.str "text") fun c => Val.lst (c.map spV)) Q
    cases coverF l with
    | none => exact eq1 _ txt
    | some s => exact eq1 _ (okD_spans s)
  · show fNeT ((shelfF l).elim (Val.str "text") fun k => Val.dic (keptV k)) ((shelfF l).elim (Val.str "text") fun k => Val.dic (keptV k)) Q
    cases e : shelfF l with
    | none => exact eq1 _ txt
    | some k =>
      have ok := shelfF_ok e
      refine .inr ⟨keptV k, keptV k, rfl, rfl, rfl, fun p hp => ?_, q⟩
      unfold keptV at hp
      obtain ⟨r, hr, rfl⟩ := List.mem_map.mp hp
      refine ⟨?_, (okN_tup (n := 1) (okN_c (okN_span r.2.1) (okN_1 (okN_int 1 r.2.2)))).okD (by decide)⟩
      show getKV (keptV k) (.inr r.1) = some (rowV r)
      rw [get_kept, getR_mem ok.nd hr]
      rfl
def cRight : VSpec := fun ds Q _ => ∃ (x : Str) (g : GS), ds = [.str x, .gho g] ∧ x.length ≤ 80000 ∧ InsOnly g ∧ ∀ g', InsOnly g' → Q [.gho g'] (.bl true)
theorem M_l_right : Mono cRight := fun ds Q Q' E E' h _ ⟨x, g, a, b, c, q⟩ => ⟨x, g, a, b, c, fun g' z => h _ _ (q g' z)⟩
theorem v_l_right (T : Tx K mg) (B : Tbs T base) : FnOk P w K mg base CX0 (8) T.f_l_right T.fd_l_right ["_law_text"] (vspG K T.tabs [] 1 cRight) := by
  have G_l_span_read : FnOk P w K mg base CX0 _ _ _ _ _ := v_l_span_read T
  have G_l_cover_read : FnOk P w K mg base CX0 _ _ _ _ _ := v_l_cover_read T
  have G_l_shelf_read : FnOk P w K mg base CX0 _ _ _ _ _ := v_l_shelf_read T
  have G_l_asked : FnOk P w K mg base CX0 _ _ _ _ _ := v_l_asked T B
  refine T.F_l_right.ok sc_l_right (fun vs H Q E h => vspG_len h) (fun cdv A outer s H vs Q E hr h => ⟨_, (pss_cons (ps_for PassesOwn.never (by rfl) (pi_list (pe_lst (pa_cons (pe_tup (pa_cons pe_int (pa_cons (pe_call G_l_span_read (hr.mono (by decide)) (by rfl) T.g_l_span_read T.F_l_span_read.kp T.b_l_span_read .nil pass0 (pa_cons (pv 0) pa_nil)) pa_nil))) (pa_cons (pe_tup (pa_cons pe_int (pa_cons (pe_call G_l_cover_read (hr.mono (by decide)) (by rfl) T.g_l_cover_read T.F_l_cover_read.kp T.b_l_cover_read .nil pass0 (pa_cons (pv 0) pa_nil)) pa_nil))) (pa_cons (pe_tup (pa_cons pe_int (pa_cons (pe_call G_l_shelf_read (hr.mono (by decide)) (by rfl) T.g_l_shelf_read T.F_l_shelf_read.kp T.b_l_shelf_read .nil pass0 (pa_cons (pv 0) pa_nil)) pa_nil))) pa_nil))))) (pg_tup rfl (pgs_cons (pg_name (i := 1) sc_l_right.nd rfl (Or.inl rfl)) (pgs_cons (pg_name (i := 2) sc_l_right.nd rfl (Or.inl rfl)) pgs_nil)))
        (pss_cons (ps_if (pt_cmpR op_isN (pv 2) pe_non (nomark _)) (pss_one (ps_set (i := 2) sc_l_right.nd rfl (Or.inl rfl) pe_str)) pss_nil)
      (pss_one (ps_if (pt_cmpR (op_neT (units65 hr)) (pe_call G_l_asked (hr.mono (by decide)) (by rfl) T.g_l_asked T.F_l_asked.kp T.b_l_asked .nil pass0 (pa_cons (pv 0) (pa_cons (pv 1) pa_nil))) (pv 2) (nomark _)) (pss_one (ps_ret pe_bl)) pss_nil))))
      (pss_one (ps_ret pe_bl))), (vfnG (own := []) (N := 3) (lo := []) (Ef := [3]) (UG0 3) h rfl (by decide) rfl rfl hUG0 (simS_seq (simS_for (E' := [3]) (simI_list (simE_lst (simA_consF (simE_tup (simA_consF simE_int (simA_consF (simE_call0 M_l_span_read (simA_varF (i := 0) simA_nil) rfl rfl) simA_nil rfl rfl rfl rfl rfl) rfl rfl rfl rfl rfl) (by decide)) (simA_consF (simE_tup (simA_consF simE_int (simA_consF (simE_call0 M_l_cover_read (simA_varF (i := 0) simA_nil) rfl rfl) simA_nil rfl rfl rfl rfl rfl) rfl rfl rfl rfl rfl) (by decide)) (simA_consF (simE_tup (simA_consF simE_int (simA_consF (simE_call0 M_l_shelf_read (simA_varF (i := 0) simA_nil) rfl rfl) simA_nil rfl rfl rfl rfl rfl) rfl rfl rfl rfl rfl) (by decide)) simA_nil rfl rfl rfl rfl rfl) rfl rfl rfl rfl rfl) rfl rfl rfl rfl rfl) (by decide))) (simG_tup (simGs_cons (simG_name (i := 1) (show 1 < 3 by decide) rfl rfl) (simGs_cons (simG_name (i := 2) (show 2 < 3 by decide) rfl rfl) simGs_nil))) (simS_seq (simS_if (simT_test (simE_op r2_isN (simE_var (i := 2) rfl) simE_non rfl)) (simS_asg simE_str (simG_name (i := 2) (show 2 < 3 by decide) rfl rfl) rfl rfl) (simS_next rfl) rfl rfl)
      (simS_if (simT_test (simE_op r2_neT (simE_callG0 M_l_asked (simA_varF (i := 0) (simA_varF (i := 1) simA_nil)) rfl rfl rfl) (simE_var (i := 2) rfl) rfl)) (simS_ret simE_bl rfl rfl rfl rfl) (simS_next rfl) rfl rfl)) rfl rfl rfl rfl)
      (simS_ret simE_bl rfl rfl rfl rfl)) ?_)⟩)
  rintro ds Q X ⟨x, g, rfl, xl, io, q⟩
  obtain ⟨l, rfl⟩ : ∃ l, x = SX.S l := ⟨x.cps.toList, (SX.S_tl x).symm⟩
  have len9 : (SX.S l).length ≤ 90000 := by omega
  refine ⟨rfl, SX.S l, rfl, len9, ?_⟩
  refine ⟨rfl, SX.S l, rfl, xl, ?_⟩
  refine ⟨rfl, SX.S l, rfl, xl, ?_⟩
  have each : ∀ (i : Nat) (v : Val), [Val.tup [Val.int 0, spO (spanF l)], Val.tup [Val.int 1, covO (coverF l)], Val.tup [Val.int 2, shO (shelfF l)]][i]? = some v → i < 3 ∧ v = .tup [.int (i : Int), dueV i l] := fun i v h => by
    rcases i with _ | _ | _ | i
    · cases h
      exact ⟨by decide, rfl⟩
    · cases h
      exact ⟨by decide, rfl⟩
    · cases h
      exact ⟨by decide, rfl⟩
    · cases h
  refine ⟨fun i env => ∃ (g : GS) (y1 y2 : Option Val), env = [some (.str (SX.S l)), y1, y2, some (.gho g)] ∧ InsOnly g, ⟨g, none, none, rfl, io⟩, ?_, ?_⟩
  · rintro i v env hv ⟨g1, y1, y2, rfl, io1⟩
    obtain ⟨i3, rfl⟩ := each i v hv
    clear hv
    refine ⟨rfl, ?_⟩
    rcases dueV_none i l with ⟨h1, h2⟩ | ⟨h1, h2⟩
    case' inl => refine ifT (by rw [h1]; rfl) ?_
    case' inr => refine ifF (by rw [h1]; rfl) ?_
    case' inr => rw [← h2]
    all_goals
      refine ⟨rfl, rfl, g1, rfl, SX.S l, i, g1, rfl, i3, xl, io1, fun g2 io2 => ?_⟩
      try rw [← h2]
      show fNeT (askV i l) (askV i l) _
      refine ne_same i l ?_
      exact ⟨g2, _, _, rfl, io2⟩
  · rintro env ⟨g1, y1, y2, rfl, io1⟩
    exact q g1 io1
end
section
variable {P : Program} {w : World} {K : PySem.W.Frag} {mg : Str → Option Value} {base : Heap}
/-! ### the cell, the mixing, the purse, a draw -/
def spAt (K : PySem.W.Frag) : Sp := fun vs H Q _ => ∃ (a : Addr) (ns : List Int) (k : Int), vs = [.ref a, .int k] ∧ SqL K H a (ns.map V.int) ∧ 0 ≤ k ∧ ∀ z, Q (.int z) H
theorem ok_at (T : Tx K mg) : FnOk P w K mg base CX0 (1) T.f_l_at T.fd_l_at ["_law_script", "_law_k"] (spAt K) := by
  refine T.F_l_at.ok sc_l_at (fun vs H Q E h => ?_) (fun cdv A outer s H vs Q E hr h => ?_)
  · obtain ⟨a, ns, k, rfl, _⟩ := h
    rfl
  · obtain ⟨a, ns, k, rfl, hS, h0, q⟩ := h
    refine ⟨_, (pss_cons (ps_if (pt_cmpR op_lt (pv 1) (pe_callB call_len_seq (by rfl) T.m_len PySem.boot_len (pa_cons (pv 0) pa_nil)) (nomark _)) (pss_one (ps_ret (pe_ix ix_list (pv 0) (pv 1) (fun _ _ => rfl)))) pss_nil)
      (pss_one (ps_ret pe_int))), ?_⟩
    refine ⟨_, rfl, _, rfl, a, _, rfl, .inl hS, _, _, rfl, rfl, _, rfl, ite2 (fun e => ?_) (fun e => ?_)⟩
    · have e0 : k < ((ns.map V.int).length : Int) := of_decide_eq_true e
      rw [List.length_map] at e0
      have h1 : k.toNat < ns.length := by omega
      refine ⟨_, rfl, _, rfl, a, _, k, .int ns[k.toNat], rfl, rfl, hS, at_of (j := k.toNat) (by omega) ?_, q _⟩
      rw [List.getElem?_map, List.getElem?_eq_getElem h1]
      rfl
    · exact q 0
def spMixed : Sp := fun vs H Q _ => ∃ (a k : Int), vs = [.int a, .int k] ∧ 0 ≤ k ∧ k < 2 ^ 60 ∧ 0 ≤ a ∧ a < 2 ^ 60 ∧ ∀ z : Int, 0 ≤ z → z < 2147483587 → Q (.int z) H
theorem ok_mixed (T : Tx K mg) : FnOk P w K mg base CX0 (1) T.f_l_mixed T.fd_l_mixed ["_law_cell", "_law_k"] spMixed := by
  refine T.F_l_mixed.ok sc_l_mixed (fun vs H Q E h => ?_) (fun cdv A outer s H vs Q E hr h => ?_)
  · obtain ⟨a, k, rfl, _⟩ := h
    rfl
  · obtain ⟨a, k, rfl, h0, h1, h2, h3, q⟩ := h
    refine ⟨_, (pss_cons (ps_set (i := 2) sc_l_mixed.nd rfl (Or.inl rfl) (pe_op op_mod (pe_op op_add (pe_op op_add (pe_op op_add (pe_op op_mul (pv 0) pe_int) (pe_op op_mul (pe_op op_mul pe_int (pv 1)) (pv 1))) (pv 1)) pe_int) pe_int))
      (pss_cons (ps_set (i := 2) sc_l_mixed.nd rfl (Or.inl rfl) (pe_op op_mod (pe_op op_add (pe_op op_mul (pv 2) (pv 2)) pe_int) pe_int))
      (pss_one (ps_ret (pe_op op_mod (pe_op op_mul (pv 2) pe_int) pe_int))))), ?_⟩
    refine ⟨_, rfl, _, _, rfl, rfl, .inr ⟨by decide, by decide⟩, _, rfl, _, _, rfl, rfl, .inl ⟨by decide, by decide⟩, _, rfl, _, _, rfl, rfl, .inr ⟨by omega, by omega⟩, _, _, rfl, rfl, _, rfl, _, _, rfl, rfl, _, _, rfl, rfl, _, _, rfl, rfl, by show (0 : Int) < 2147483647; decide, ?_⟩
    generalize hx : (a * 1103515245 + 7919 * k * k + k + 1) % 2147483647 = x
    have x0 : 0 ≤ x := by omega
    have x1 : x < 2147483647 := by omega
    clear hx
    refine ⟨_, rfl, _, rfl, _, _, rfl, rfl, .inl ⟨by omega, by omega⟩, _, _, rfl, rfl, _, _, rfl, rfl, by show (0 : Int) < 2147483629; decide, ?_⟩
    generalize hy : (x * x + 69621) % 2147483629 = y
    have y0 : 0 ≤ y := by omega
    have y1 : y < 2147483629 := by omega
    clear hy
    refine ⟨_, rfl, _, _, rfl, rfl, .inl ⟨by omega, by omega⟩, _, _, rfl, rfl, by show (0 : Int) < 2147483587; decide, ?_⟩
    exact q _ (by omega) (by omega)
def spPurse (K : PySem.W.Frag) : Sp := fun vs H Q _ => ∃ (a : Addr) (ns : List Int) (k : Int), vs = [.ref a, .int k] ∧ SqL K H a (ns.map V.int) ∧ 0 ≤ k ∧ k ≤ 63 ∧ ∀ H' p, Same H H' → H p = none → Pu H' p 63000 → Q (.ref p) H'
theorem ok_purse (T : Tx K mg) : FnOk P w K mg base CX0 (2) T.f_l_purse T.fd_l_purse ["_law_script", "_law_at_here"] (spPurse K) := by
  have G_l_at : FnOk P w K mg base CX0 _ _ _ _ _ := ok_at T
  refine T.F_l_purse.ok sc_l_purse (fun vs H Q E h => ?_) (fun cdv A outer s H vs Q E hr h => ?_)
  · obtain ⟨a, ns, k, rfl, _⟩ := h
    rfl
  · obtain ⟨a, ns, k, rfl, hS, h0, h1, q⟩ := h
    refine ⟨_, (pss_cons (ps_set (i := 2) sc_l_purse.nd rfl (Or.inl rfl) (pe_call G_l_at (hr.mono (by decide)) (by rfl) T.g_l_at T.F_l_at.kp T.b_l_at .nil pass0 (pa_cons (pv 0) (pa_cons (pv 1) pa_nil))))
      (pss_one (ps_ret (pe_lst (pa_cons (pe_callB (call_max2 rfl) (by rfl) T.m_max (by decide +kernel) (pa_cons (pe_op op_sub (pv 2) (pe_op op_pow pe_int pe_int)) (pa_cons pe_int pa_nil))) (pa_cons (pe_op op_mod (pv 2) pe_int) (pa_cons (pe_op op_mul pe_int (pv 1)) pa_nil))))))), ?_⟩
    refine ⟨_, rfl, _, rfl, a, ns, k, rfl, hS, h0, fun z => ?_⟩
    refine ⟨_, rfl, _, _, rfl, rfl, ⟨by decide, by decide, by decide⟩, _, _, rfl, rfl, _, _, rfl, _, rfl, _, _, rfl, rfl, by show (0 : Int) < 2147483647; decide, _, rfl, _, _, rfl, rfl, .inl ⟨by decide, by decide⟩, small_le (by simp), fun p np => ?_⟩
    refine q _ p (same_upd np) np ⟨_, _, _, upd_same, ?_, by omega, by omega, by omega, by omega⟩
    split <;> omega
def spDraw : Sp := fun vs H Q _ => ∃ (p : Addr) (m : Int) (n : Nat), vs = [.ref p, .int m] ∧ Pu H p n ∧ n ≤ 1000000000 ∧ 0 < m ∧ m < 2 ^ 88 ∧ ∀ H' r, Chg [p] H H' → Pu H' p (n + 3) → 0 ≤ r → r < m → Q (.int r) H'
theorem bits_le {m : Int} (h0 : 0 < m) (h1 : m < 2 ^ 88) : (Builtin.Int.intBits m : Nat) ≤ 88 := by
  have h : m.natAbs < 2 ^ 88 := by
    have e : (2 : Int) ^ 88 = ((2 ^ 88 : Nat) : Int) := by decide
    rw [e] at h1
    omega
  exact PyProof.Rows.intBits_le h
theorem ok_draw (T : Tx K mg) : FnOk P w K mg base CX0 (2) T.f_l_draw T.fd_l_draw ["_law_purse_here", "_law_out_of"] spDraw := by
  have G_l_mixed : FnOk P w K mg base CX0 _ _ _ _ _ := ok_mixed T
  refine T.F_l_draw.ok sc_l_draw (fun vs H Q E h => ?_) (fun cdv A outer s H vs Q E hr h => ?_)
  · obtain ⟨p, m, n, rfl, _⟩ := h
    rfl
  · obtain ⟨p, m, n, rfl, hp, hn, h0, h1, q⟩ := h
    obtain ⟨a, b, c, hP, ha, hb, hb1, hc, hc1⟩ := hp
    refine ⟨_, (pss_cons (ps_if (pt_cmpR op_gt (pe_ix ix_list (pv 0) pe_int (fun _ _ => rfl)) pe_int (nomark _)) (pss_cons (ps_set (i := 2) sc_l_draw.nd rfl (Or.inl rfl) (pe_op op_mod (pe_ix ix_list (pv 0) pe_int (fun _ _ => rfl)) (pv 1)))
      (pss_cons (ps_asg (pe_op op_fdivW (pe_ix ix_list (pv 0) pe_int (fun _ _ => rfl)) (pv 1)) (pg_sub (pv 0) pe_int set_list))
      (pss_one (ps_ret (pv 2))))) pss_nil)
      (pss_cons (ps_set (i := 3) sc_l_draw.nd rfl (Or.inl rfl) pe_int)
      (pss_cons (ps_for PassesOwn.never (by rfl) (pi_range1 (by rfl) T.m_range (pa_cons (pe_op op_add pe_int (pe_op op_fdiv (pe_bits (pv 1)) pe_int)) pa_nil)) (pg_name (i := 4) sc_l_draw.nd rfl (Or.inl rfl))
        (pss_cons (ps_asg (pe_op op_add (pe_ix ix_list (pv 0) pe_int (fun _ _ => rfl)) pe_int) (pg_sub (pv 0) pe_int set_list))
      (pss_one (ps_set (i := 3) sc_l_draw.nd rfl (Or.inl rfl) (pe_op op_add (pe_op op_mul (pv 3) pe_int) (pe_call G_l_mixed (hr.mono (by decide)) (by rfl) T.g_l_mixed T.F_l_mixed.kp T.b_l_mixed .nil pass0 (pa_cons (pe_ix ix_list (pv 0) pe_int (fun _ _ => rfl)) (pa_cons (pe_ix ix_list (pv 0) pe_int (fun _ _ => rfl)) pa_nil))))))))
      (pss_one (ps_ret (pe_op op_mod (pv 3) (pv 1))))))), ?_⟩
    have hS : SqL K H p [.int a, .int b, .int c] := SqL.of hP
    refine ⟨_, rfl, p, _, _, _, rfl, rfl, hS, atI_nat (j := 0) rfl, _, _, rfl, rfl, _, rfl, ite2 (fun e => ?_) (fun e => ?_)⟩
    · have ea : 0 < a := of_decide_eq_true e
      refine ⟨_, rfl, p, _, _, _, rfl, rfl, hS, atI_nat (j := 0) rfl, _, rfl, _, _, rfl, rfl, h0, ?_⟩
      refine ⟨_, rfl, p, _, _, _, rfl, rfl, hS, atI_nat (j := 0) rfl, _, rfl, _, _, rfl, rfl, wide_div (b := 88) h0 ?_ (by decide) (by decide), ?_⟩
      · have e : (2 : Int) ^ 88 = ((2 ^ 88 : Nat) : Int) := by decide
        rw [e] at h1
        omega
      refine ⟨_, rfl, p, _, _, 0, rfl, rfl, hP, rfl, ?_⟩
      refine ⟨_, rfl, ?_⟩
      refine q _ _ (Chg.upd List.mem_cons_self) ⟨a / m, b, c, upd_same, Int.ediv_nonneg ha (by omega), hb, hb1, hc, by omega⟩ (Int.emod_nonneg _ (by omega)) (Int.emod_lt_of_pos _ h0)
    · have hb88 := bits_le h0 h1
      refine ⟨_, rfl, _, rfl, _, _, rfl, rfl, ⟨by decide, by decide⟩, _, _, rfl, rfl, _, rfl, by omega, by omega, ?_⟩
      refine for_range (lo := 0) (n := (1 + ((Builtin.Int.intBits m : Nat) : Int) / 30).toNat) (fun i σ H' => ∃ (x : Int) (c' : Int) (y4 : Option V), σ = [some (.ref p), some (.int m), none, some (.int x), y4] ∧ Chg [p] H H' ∧ H' p = some (.lst [.int a, .int b, .int c']) ∧ c' = c + i ∧ 0 ≤ x ∧ x < 2 ^ (32 * i)) ⟨0, c, none, rfl, Chg.refl _ _, hP, by omega, by omega, by decide⟩ ?_ ?_
      · rintro i σ H' hi ⟨x, c', y4, rfl, hch, hP', hc', x0, x1⟩
        have hi3 : i ≤ 2 := by omega
        refine ⟨_, rfl, p, _, _, _, rfl, rfl, SqL.of hP', atI_nat (j := 2) rfl, _, _, rfl, rfl, _, rfl, p, _, _, 2, rfl, rfl, hP', rfl, ?_⟩
        have hP2 : (upd H' p (.lst [.int a, .int b, .int (c' + 1)])) p = some (.lst [.int a, .int b, .int (c' + 1)]) := upd_same
        refine ⟨_, rfl, _, _, rfl, rfl, .inr ⟨by decide, by decide⟩, _, rfl, p, _, _, _, rfl, rfl, SqL.of hP2, atI_nat (j := 1) rfl, _, rfl, p, _, _, _, rfl, rfl, SqL.of hP2, atI_nat (j := 2) rfl, b, c' + 1, rfl, by omega, by omega, hb, by omega, fun z z0 z1 => ?_⟩
        refine ⟨_, _, rfl, rfl, x * 2147483587 + z, c' + 1, _, rfl, hch.trans (Chg.upd List.mem_cons_self), hP2, by omega, by omega, ?_⟩
        have e : (2 : Int) ^ (32 * (i + 1)) = 2 ^ (32 * i) * 4294967296 := by
          rw [Nat.mul_add, Int.pow_add]
          rfl
        rw [e]
        omega
      · rintro σ H' ⟨x, c', y4, rfl, hch, hP', hc', x0, x1⟩
        refine ⟨_, rfl, _, rfl, _, _, rfl, rfl, h0, ?_⟩
        exact q _ _ hch ⟨a, b, c', hP', ha, hb, hb1, by omega, by omega⟩ (Int.emod_nonneg _ (by omega)) (Int.emod_lt_of_pos _ h0)
end
section
variable {P : Program} {w : World} {K : PySem.W.Frag} {mg : Str → Option Value} {base : Heap}
/-! ### a number, an end, a span -/
def spNumber : Sp := fun vs H Q _ => ∃ (p : Addr) (m b : Int) (n : Nat), vs = [.ref p, .int m] ∧ Pu H p n ∧ n + 6 ≤ 1000000000 ∧ 1 ≤ m ∧ m ≤ b ∧ 30 ≤ b ∧ b < 2 ^ 60 ∧ ∀ H' r, Chg [p] H H' → Pu H' p (n + 6) → -b ≤ r → r ≤ b → Q (.int r) H'
theorem far_of {m b r : Int} (h0 : 0 ≤ r) (h1 : r < 4) (hm : 1 ≤ m) (hmb : m ≤ b) (hb : 30 ≤ b) : ∃ f, ([.int 1, .int 4, .int 30, .int m] : List V)[r.toNat]? = some (.int f) ∧ 1 ≤ f ∧ f ≤ b := by
  have h : r = 0 ∨ r = 1 ∨ r = 2 ∨ r = 3 := by omega
  rcases h with rfl | rfl | rfl | rfl
  · exact ⟨1, rfl, by omega, by omega⟩
  · exact ⟨4, rfl, by omega, by omega⟩
  · exact ⟨30, rfl, by omega, by omega⟩
  · exact ⟨m, rfl, by omega, by omega⟩
theorem ok_number (T : Tx K mg) : FnOk P w K mg base CX0 (3) T.f_l_number T.fd_l_number ["_law_purse_here", "_law_most"] spNumber := by
  have G_l_draw : FnOk P w K mg base CX0 _ _ _ _ _ := ok_draw T
  refine T.F_l_number.ok sc_l_number (fun vs H Q E h => ?_) (fun cdv A outer s H vs Q E hr h => ?_)
  · obtain ⟨p, m, b, n, rfl, _⟩ := h
    rfl
  · obtain ⟨p, m, b, n, rfl, hp, hn, h0, h2, h3, h1, q⟩ := h
    refine ⟨_, (pss_cons (ps_set (i := 2) sc_l_number.nd rfl (Or.inl rfl) (pe_ix ix_list (pe_lst (pa_cons pe_int (pa_cons pe_int (pa_cons pe_int (pa_cons (pv 1) pa_nil))))) (pe_call G_l_draw (hr.mono (by decide)) (by rfl) T.g_l_draw T.F_l_draw.kp T.b_l_draw .nil pass0 (pa_cons (pv 0) (pa_cons pe_int pa_nil))) (fun _ _ => rfl)))
      (pss_one (ps_ret (pe_op op_sub (pe_call G_l_draw (hr.mono (by decide)) (by rfl) T.g_l_draw T.F_l_draw.kp T.b_l_draw .nil pass0 (pa_cons (pv 0) (pa_cons (pe_op op_add (pe_op op_mul pe_int (pv 2)) pe_int) pa_nil))) (pv 2))))), ?_⟩
    refine ⟨_, rfl, small_le (by simp), fun l nl => ?_⟩
    have s1 := same_upd (o := .lst [.int 1, .int 4, .int 30, .int m]) nl
    have npl : p ≠ l := hp.ne nl
    refine ⟨_, rfl, p, 4, n, rfl, hp.same s1, by omega, by decide, by decide, fun H1 r c1 p1 r0 r1 => ?_⟩
    obtain ⟨f, hf, f0, f1⟩ := far_of r0 r1 h0 h2 h3
    refine ⟨l, _, r, _, rfl, rfl, SqL.of (c1 _ _ (nmem1 npl.symm) upd_same), at_of (j := r.toNat) (by omega) hf, ?_⟩
    refine ⟨_, rfl, _, rfl, _, _, rfl, rfl, .inl ⟨by decide, by decide⟩, _, _, rfl, rfl, p, 2 * f + 1, n + 3, rfl, p1, by omega, by omega, by omega, fun H2 x c2 p2 x0 x1 => ?_⟩
    refine ⟨_, rfl, _, _, rfl, rfl, q _ _ ((Chg.of_same s1).trans (c1.trans c2)) p2 (by omega) (by omega)⟩
def spEnd (K : PySem.W.Frag) : Sp := fun vs H Q _ => ∃ (p e : Addr) (m b : Int) (n : Nat) (ns : List Int), vs = [.ref p, .ref e, .int m] ∧ Pu H p n ∧ n + 9 ≤ 1000000000 ∧ SqL K H e (ns.map V.int) ∧ e ≠ p ∧ ns.length ≤ 1000000 ∧ 1 ≤ m ∧ m ≤ b ∧ 30 ≤ b ∧ b < 2 ^ 60 ∧
  ∀ H' r, Chg [p] H H' → Pu H' p (n + 9) → -b ≤ r → r ≤ b → Q (.int r) H'
theorem ok_end (T : Tx K mg) : FnOk P w K mg base CX0 (4) T.f_l_end T.fd_l_end ["_law_purse_here", "_law_ends", "_law_most"] (spEnd K) := by
  have G_l_draw : FnOk P w K mg base CX0 _ _ _ _ _ := ok_draw T
  have G_l_number : FnOk P w K mg base CX0 _ _ _ _ _ := ok_number T
  refine T.F_l_end.ok sc_l_end (fun vs H Q E h => ?_) (fun cdv A outer s H vs Q E hr h => ?_)
  · obtain ⟨p, e, m, b, n, ns, rfl, _⟩ := h
    rfl
  · obtain ⟨p, e, m, b, n, ns, rfl, hp, hn, hE, hne, hlen, h0, h2, h3, h1, q⟩ := h
    refine ⟨_, (pss_cons (ps_if (PW.pt (pw_and (pt_cmpR (op_neD hr.units) (pv 1) (pe_lst pa_nil) (nomark _)) (pw_and1 (pt_cmpR op_gt (pe_call G_l_draw (hr.mono (by decide)) (by rfl) T.g_l_draw T.F_l_draw.kp T.b_l_draw .nil pass0 (pa_cons (pv 0) (pa_cons pe_int pa_nil))) pe_int (nomark _))))) (pss_cons (ps_set (i := 3) sc_l_end.nd rfl (Or.inl rfl) (pe_op op_sub (pe_op op_add (pe_ix ix_list (pv 1) (pe_call G_l_draw (hr.mono (by decide)) (by rfl) T.g_l_draw T.F_l_draw.kp T.b_l_draw .nil pass0 (pa_cons (pv 0) (pa_cons (pe_callB call_len_seq (by rfl) T.m_len PySem.boot_len (pa_cons (pv 1) pa_nil)) pa_nil))) (fun _ _ => rfl)) (pe_call G_l_draw (hr.mono (by decide)) (by rfl) T.g_l_draw T.F_l_draw.kp T.b_l_draw .nil pass0 (pa_cons (pv 0) (pa_cons pe_int pa_nil)))) pe_int))
      (pss_one (ps_ret (pe_callB (call_max2 rfl) (by rfl) T.m_max (by decide +kernel) (pa_cons (pe_op op_sub pe_int (pv 2)) (pa_cons (pe_callB (call_min2 rfl) (by rfl) T.m_min (by decide +kernel) (pa_cons (pv 2) (pa_cons (pv 3) pa_nil))) pa_nil)))))) pss_nil)
      (pss_one (ps_ret (pe_call G_l_number (hr.mono (by decide)) (by rfl) T.g_l_number T.F_l_number.kp T.b_l_number .nil pass0 (pa_cons (pv 0) (pa_cons (pv 2) pa_nil)))))), ?_⟩
    refine ⟨_, rfl, Nat.zero_le _, fun l nl => ?_⟩
    have s1 := same_upd (o := .lst []) nl
    refine ⟨_, _, .lst (s1.seq hE) (dpAll_ints ns), .lst (SqL.of upd_same) .nil, shaped_ints ns, shaped_nil, _, rfl, ?_⟩
    rw [eqv_ints_nil]
    by_cases hnil : ns = []
    · rw [decide_eq_true hnil]
      refine iteF (iteF ?_)
      exact ⟨_, rfl, _, rfl, p, m, b, n, rfl, hp.same s1, by omega, h0, h2, h3, h1, fun H2 x c2 p2 x0 x1 => q _ _ ((Chg.of_same s1).trans c2) (p2.mono (by omega)) x0 x1⟩
    · rw [decide_eq_false hnil]
      have hl0 : 0 < ns.length := List.length_pos_iff.mpr hnil
      refine iteT ?_
      refine ⟨_, rfl, p, 3, n, rfl, hp.same s1, by omega, by decide, by decide, fun H1 r c1 p1 r0 r1 => ?_⟩
      have hE1 : SqL K H1 e (ns.map V.int) := c1.seq (nmem1 hne) (s1.seq hE)
      refine ⟨_, _, rfl, rfl, _, rfl, ite2 (fun _ => ?_) (fun _ => ?_)⟩
      · refine ⟨_, rfl, _, rfl, _, rfl, e, _, rfl, .inl hE1, p, ns.length, n + 3, ?_, p1, by omega, by omega, by omega, fun H2 x c2 p2 x0 x1 => ?_⟩
        · rw [List.length_map]
          rfl
        have hx : x.toNat < ns.length := by omega
        refine ⟨e, _, x, .int ns[x.toNat], rfl, rfl, c2.seq (nmem1 hne) hE1, at_of (j := x.toNat) (by omega) ?_, ?_⟩
        · rw [List.getElem?_map, List.getElem?_eq_getElem hx]
          rfl
        refine ⟨_, rfl, p, 3, n + 6, rfl, p2, by omega, by decide, by decide, fun H3 y c3 p3 y0 y1 => ?_⟩
        refine ⟨_, _, rfl, rfl, _, _, rfl, rfl, ?_⟩
        refine ⟨_, rfl, _, _, rfl, rfl, _, rfl, _, rfl, _, _, rfl, _, _, rfl, ?_⟩
        refine q _ _ ((Chg.of_same s1).trans (c1.trans (c2.trans c3))) p3 ?_ ?_
        · split <;> split <;> omega
        · split <;> split <;> omega
      · exact ⟨_, rfl, _, rfl, p, m, b, n + 3, rfl, p1, by omega, h0, h2, h3, h1, fun H2 x c2 p2 x0 x1 => q _ _ ((Chg.of_same s1).trans (c1.trans c2)) p2 x0 x1⟩
theorem min3_of (a b c : Int) : ∃ z, nuMin3 (.int a) (.int b) (.int c) = some (.int z) ∧ z ≤ a ∧ z ≤ b ∧ z ≤ c ∧ (z = a ∨ z = b ∨ z = c) := by
  have e2 : ∀ x y : Int, nuMin2 (.int x) (.int y) = some (.int (if y < x then y else x)) := fun x y => by
    show (some (decide (y < x))).map (fun c => if c = true then V.int y else V.int x) = _
    by_cases h : y < x <;> simp [h]
  refine ⟨if c < (if b < a then b else a) then c else (if b < a then b else a), ?_, ?_⟩
  · unfold nuMin3
    rw [e2]
    show nuMin2 _ _ = _
    rw [e2]
  · split <;> split <;> omega
theorem max3_of (a b c : Int) : ∃ z, nuMax3 (.int a) (.int b) (.int c) = some (.int z) ∧ a ≤ z ∧ b ≤ z ∧ c ≤ z ∧ (z = a ∨ z = b ∨ z = c) := by
  have e2 : ∀ x y : Int, nuMax2 (.int x) (.int y) = some (.int (if x < y then y else x)) := fun x y => by
    show (some (decide (x < y))).map (fun c => if c = true then V.int y else V.int x) = _
    by_cases h : x < y <;> simp [h]
  refine ⟨if (if a < b then b else a) < c then c else (if a < b then b else a), ?_, ?_⟩
  · unfold nuMax3
    rw [e2]
    show nuMax2 _ _ = _
    rw [e2]
  · split <;> split <;> omega
def spSpan : Sp := fun vs H Q _ => ∃ (p e : Addr) (m b : Int) (n : Nat) (ns : List Int), vs = [.ref p, .ref e, .int m] ∧ Pu H p n ∧ n + 18 ≤ 1000000000 ∧ H e = some (.lst (ns.map V.int)) ∧ e ≠ p ∧ ns.length ≤ 100000 ∧ 1 ≤ m ∧ m ≤ b ∧ 30 ≤ b ∧ b < 2 ^ 60 ∧
  ∀ H' t lo hi, Chg [p, e] H H' → Pu H' p (n + 18) → H' e = some (.lst ((ns ++ [lo, hi]).map V.int)) → H t = none → H' t = some (.tup [.int lo, .int hi]) → -b ≤ lo → lo < hi → hi ≤ b → Q (.ref t) H'
theorem ok_span (T : Tx K mg) : FnOk P w K mg base CX0 (5) T.f_l_span T.fd_l_span ["_law_purse_here", "_law_ends", "_law_most"] spSpan := by
  have G_l_end : FnOk P w K mg base CX0 _ _ _ _ _ := ok_end T
  refine T.F_l_span.ok sc_l_span (fun vs H Q E h => ?_) (fun cdv A outer s H vs Q E hr h => ?_)
  · obtain ⟨p, e, m, b, n, ns, rfl, _⟩ := h
    rfl
  · obtain ⟨p, e, m, b, n, ns, rfl, hp, hn, hE, hne, hlen, h0, h2, h3, h1, q⟩ := h
    refine ⟨_, (pss_cons (ps_set (i := 3) sc_l_span.nd rfl (Or.inl rfl) (pe_call G_l_end (hr.mono (by decide)) (by rfl) T.g_l_end T.F_l_end.kp T.b_l_end .nil pass0 (pa_cons (pv 0) (pa_cons (pv 1) (pa_cons (pv 2) pa_nil)))))
      (pss_cons (ps_set (i := 4) sc_l_span.nd rfl (Or.inl rfl) (pe_call G_l_end (hr.mono (by decide)) (by rfl) T.g_l_end T.F_l_end.kp T.b_l_end .nil pass0 (pa_cons (pv 0) (pa_cons (pe_op op_cat (pv 1) (pe_lst (pa_cons (pv 3) pa_nil))) (pa_cons (pv 2) pa_nil)))))
      (pss_cons (ps_set (i := 5) sc_l_span.nd rfl (Or.inl rfl) (pe_callB (call_min3Nu rfl) (by rfl) T.m_min (by decide +kernel) (pa_cons (pv 3) (pa_cons (pv 4) (pa_cons (pe_op op_sub (pv 2) pe_int) pa_nil)))))
      (pss_cons (ps_set (i := 6) sc_l_span.nd rfl (Or.inl rfl) (pe_callB (call_max3Nu rfl) (by rfl) T.m_max (by decide +kernel) (pa_cons (pv 3) (pa_cons (pv 4) (pa_cons (pe_op op_add (pv 5) pe_int) pa_nil)))))
      (pss_cons (ps_expr (pe_bm PySem.F.plainAttrs_list PySem.F.slot_list_append PySem.F.type_list_append mt_append (pv 1) (pa_cons (pv 5) pa_nil)))
      (pss_cons (ps_expr (pe_bm PySem.F.plainAttrs_list PySem.F.slot_list_append PySem.F.type_list_append mt_append (pv 1) (pa_cons (pv 6) pa_nil)))
      (pss_one (ps_ret (pe_tup (pa_cons (pv 5) (pa_cons (pv 6) pa_nil))))))))))), ?_⟩
    have up : ∀ {H H' : Hp}, Chg [p] H H' → Chg [p, e] H H' := fun c => c.mono fun x hx => by
      rw [List.mem_singleton.mp hx]
      exact List.mem_cons_self
    refine ⟨_, rfl, _, rfl, _, rfl, p, e, m, b, n, ns, rfl, hp, by omega, SqL.of hE, hne, by omega, h0, h2, h3, h1, fun H1 x c1 p1 x0 x1 => ?_⟩
    have hE1 : H1 e = some (.lst (ns.map V.int)) := c1 _ _ (nmem1 hne) hE
    refine ⟨_, rfl, _, rfl, _, rfl, small_le (by simp), fun l1 nl1 => ?_⟩
    have s1 := same_upd (o := .lst [.int x]) nl1
    refine ⟨e, l1, _, _, rfl, rfl, s1 _ _ hE1, upd_same, ?_, fun l2 nl2 => ?_⟩
    · rw [List.length_map]
      exact small_le (by simp; omega)
    have s2 := same_upd (o := .lst (ns.map V.int ++ [.int x])) nl2
    have p3 := (p1.same s1).same s2
    refine ⟨_, rfl, p, l2, m, b, n + 9, ns ++ [x], rfl, p3, by omega, SqL.of ?_, ?_, ?_, h0, h2, h3, h1, fun H2 y c2 p2 y0 y1 => ?_⟩
    · rw [List.map_append]
      exact upd_same
    · exact ((p1.same s1).ne nl2).symm
    · simp
      omega
    have hE2 : H2 e = some (.lst (ns.map V.int)) := c2 _ _ (nmem1 hne) (s2 _ _ (s1 _ _ hE1))
    have cc : Chg [p] H H2 := c1.trans ((Chg.of_same s1).trans ((Chg.of_same s2).trans c2))
    obtain ⟨lo, elo, l_1, l_2, l_3, l_4⟩ := min3_of x y (m - 1)
    refine ⟨_, rfl, _, rfl, _, rfl, _, _, rfl, rfl, _, _, _, _, rfl, elo, ?_⟩
    obtain ⟨hi, ehi, i_1, i_2, i_3, i_4⟩ := max3_of x y (lo + 1)
    refine ⟨_, rfl, _, rfl, _, rfl, _, _, rfl, rfl, _, _, _, _, rfl, ehi, ?_⟩
    refine ⟨_, rfl, .inl ⟨rfl, _, SqL.of hE2⟩, _, rfl, e, _, _, rfl, rfl, hE2, ?_, ?_⟩
    · rw [List.length_map]
      exact small_lt (by omega)
    have hE3 : (upd H2 e (.lst (ns.map V.int ++ [.int lo]))) e = some (.lst (ns.map V.int ++ [.int lo])) := upd_same
    refine ⟨_, rfl, .inl ⟨rfl, _, SqL.of hE3⟩, _, rfl, e, _, _, rfl, rfl, hE3, ?_, ?_⟩
    · rw [List.length_append, List.length_map]
      exact small_lt (by simp; omega)
    rw [upd_upd]
    refine ⟨_, rfl, _, rfl, (by show 2 ≤ sizeLine; decide), fun t nt => ?_⟩
    have hE4 : (upd H2 e (.lst (ns.map V.int ++ [.int lo] ++ [.int hi]))) e = some (.lst (ns.map V.int ++ [.int lo] ++ [.int hi])) := upd_same
    have c5 : Chg [p, e] H (upd (upd H2 e (.lst (ns.map V.int ++ [.int lo] ++ [.int hi]))) t (.tup [.int lo, .int hi])) := (up cc).trans ((Chg.upd (List.mem_cons_of_mem _ List.mem_cons_self)).trans (Chg.of_same (same_upd nt)))
    have te : t ≠ e := (ne_of_none hE4 nt).symm
    have p5 : Pu (upd H2 e (.lst (ns.map V.int ++ [.int lo] ++ [.int hi]))) p (n + 18) := p2.chg (L := [e]) (Chg.upd List.mem_cons_self) (nmem1 hne.symm)
    have tp : t ≠ p := (p5.ne nt).symm
    refine q _ t lo hi c5 (p5.same (same_upd nt)) ?_ ?_ upd_same (by omega) (by omega) (by omega)
    · rw [upd_ne te.symm, upd_same, List.map_append, List.append_assoc]
      rfl
    · rw [upd_ne te] at nt
      exact cc.free (nmem1 tp) nt
end
section
variable {P : Program} {w : World} {K : PySem.W.Frag} {mg : Str → Option Value} {base : Heap}
/-! ### one number, one span drawn, over values -/
def cDraw : VSpec := fun ds Q _ => ∃ (p : Val) (m : Int) (n : Nat), ds = [p, .int m] ∧ PuW p n ∧ n ≤ 1000000000 ∧ 0 < m ∧ m < 2 ^ 88 ∧ ∀ (p' : Val) (r : Int), PuW p' (n + 3) → 0 ≤ r → r < m → Q [p'] (.int r)
theorem M_l_draw : Mono cDraw := fun ds Q Q' E E' h _ ⟨p, m, n, e, a, b, c, d, q⟩ => ⟨p, m, n, e, a, b, c, d, fun p' r h1 h2 h3 => h _ _ (q p' r h1 h2 h3)⟩
theorem v_draw (T : Tx K mg) (Ps : TL) : FnOk P w K mg base CX0 (2) T.f_l_draw T.fd_l_draw ["_law_purse_here", "_law_out_of"] (vsp K Ps [0] 2 cDraw) := (ok_draw T).imp fun vs H Q E ⟨ds, Fs, s, p, m, n, e, pw, h0, h1, h2, q⟩ => by
  subst e
  obtain ⟨v, v', rfl, r1, r2⟩ := arg2 s
  have ev : v' = .int m := r2.int_eq
  obtain ⟨l, e1, pu, hF⟩ := pw.pu r1
  have mp : Mutb H l := s.mutb 0 l (by rw [hF]; simp)
  refine ⟨l, m, n, by rw [e1, ev], pu, h0, h1, h2, fun H' r ch pu' r0 rm => ?_⟩
  obtain ⟨d', pw', rp⟩ := PuW.of (K := K) pu'
  exact q d' r pw' r0 rm H' _ [] Fs (out_own1 e1 hF ch s.tb (by obtain ⟨_, h⟩ := pu'.at; rw [h]; exact fun z => by cases z) mp rp) (.int _) (by simp) fun a ha => by cases ha
def cSpan : VSpec := fun ds Q _ => ∃ (p : Val) (m b : Int) (n : Nat) (ns : List Int), ds = [p, .lst (ns.map Val.int), .int m] ∧ PuW p n ∧ n + 18 ≤ 1000000000 ∧ ns.length ≤ 100000 ∧ 1 ≤ m ∧ m ≤ b ∧ 30 ≤ b ∧ b < 2 ^ 60 ∧
  ∀ (p' : Val) (lo hi : Int), PuW p' (n + 18) → -b ≤ lo → lo < hi → hi ≤ b → Q [p', .lst ((ns ++ [lo, hi]).map Val.int)] (spV (lo, hi))
theorem M_l_span : Mono cSpan := fun ds Q Q' E E' h _ ⟨p, m, u, n, ns, e, a, b, c, d, f, f2, f3, q⟩ => ⟨p, m, u, n, ns, e, a, b, c, d, f, f2, f3, fun p' lo hi h1 h2 h3 h4 => h _ _ (q p' lo hi h1 h2 h3 h4)⟩
theorem v_span (T : Tx K mg) (Ps : TL) : FnOk P w K mg base CX0 (5) T.f_l_span T.fd_l_span ["_law_purse_here", "_law_ends", "_law_most"] (vsp K Ps [0, 1] 3 cSpan) := (ok_span T).imp fun vs H Q E ⟨ds, Fs, s, p, m, b, n, ns, e, pw, h0, h1, h2, h3, h4, h5, q⟩ => by
  subst e
  obtain ⟨v, v', v'', rfl, r1, r2, r3⟩ := arg3 s
  have ev : v'' = .int m := r3.int_eq
  obtain ⟨l, e1, pu, hF⟩ := pw.pu r1
  obtain ⟨l2, e2, hl2, hG⟩ := r2.ints
  have hne : l ≠ l2 := fun z => s.sep 0 (by simp) 1 (by decide) l (by rw [hF]; simp) (by rw [hG, z]; simp)
  have mp : Mutb H l := s.mutb 0 l (by rw [hF]; simp)
  have mq : Mutb H l2 := s.mutb 1 l2 (by rw [hG]; simp)
  refine ⟨l, l2, m, b, n, ns, by rw [e1, e2, ev], pu, h0, hl2, hne.symm, h1, h2, h3, h4, h5, fun H' t lo hi ch pu' he' nt ht a1 a2 a3 => ?_⟩
  obtain ⟨d', pw', rp⟩ := PuW.of (K := K) pu'
  exact q d' lo hi pw' a1 a2 a3 H' _ [] Fs (out_own2 e1 e2 hF hG hne ch s.tb mp mq rp (rp_ints he')) (.tup ht (RpA.cons (F := []) (.int _) (RpA.one (.int _)))) (by simp) fun a ha => by cases ha
end
section
variable {P : Program} {w : World} {K : PySem.W.Frag} {mg : Str → Option Value} {base : Heap}
def cEndV : VSpec := fun ds Q _ => ∃ (p : Val) (m : Int) (n : Nat) (ns : List Int), ds = [p, .lst (ns.map Val.int), .int m] ∧ PuW p n ∧ n + 9 ≤ 1000000000 ∧ ns.length ≤ 100000 ∧ 30 ≤ m ∧ m < 2 ^ 60 ∧
  ∀ (p' : Val) (r : Int), PuW p' (n + 9) → -m ≤ r → r ≤ m → Q [p'] (.int r)
theorem M_l_end : Mono cEndV := fun ds Q Q' E E' h _ ⟨p, m, n, ns, e, a, b, c, d, f, q⟩ => ⟨p, m, n, ns, e, a, b, c, d, f, fun p' r h1 h2 h3 => h _ _ (q p' r h1 h2 h3)⟩
theorem v_end (T : Tx K mg) (Ps : TL) : FnOk P w K mg base CX0 (4) T.f_l_end T.fd_l_end ["_law_purse_here", "_law_ends", "_law_most"] (vsp K Ps [0] 3 cEndV) := (ok_end T).imp fun vs H Q E ⟨ds, Fs, s, p, m, n, ns, e, pw, h0, h1, h2, h3, q⟩ => by
  subst e
  obtain ⟨v, v', v'', rfl, r1, r2, r3⟩ := arg3 s
  have ev : v'' = .int m := r3.int_eq
  obtain ⟨l, e1, pu, hF⟩ := pw.pu r1
  obtain ⟨l2, e2, hl2, hG⟩ := r2.ints
  have hne : l ≠ l2 := fun z => s.sep 0 (by simp) 1 (by decide) l (by rw [hF]; simp) (by rw [hG, z]; simp)
  have mp : Mutb H l := s.mutb 0 l (by rw [hF]; simp)
  refine ⟨l, l2, m, m, n, ns, by rw [e1, e2, ev], pu, h0, SqL.of hl2, hne.symm, by omega, by omega, Int.le_refl _, h2, h3, fun H' r ch pu' a1 a2 => ?_⟩
  obtain ⟨d', pw', rp⟩ := PuW.of (K := K) pu'
  exact q d' r pw' a1 a2 H' _ [] Fs (out_own1 e1 hF ch s.tb (by obtain ⟨_, h⟩ := pu'.at; rw [h]; exact fun z => by cases z) mp rp) (.int _) (by simp) fun a ha => by cases ha
end
section
variable {P : Program} {w : World} {K : PySem.W.Frag} {mg : Str → Option Value} {base : Heap}
/-! ### what is drawn, over values -/
def cPurse : VSpec := fun ds Q _ => ∃ (d : Val) (ns : List Int) (k : Int), ds = [d, .int k] ∧ (d = .lst (ns.map Val.int) ∨ d = .frz (ns.map Val.int)) ∧ 0 ≤ k ∧ k ≤ 63 ∧ ∀ p, PuW p 63000 → Q [] p
theorem M_l_purse : Mono cPurse := fun ds Q Q' E E' h _ ⟨d, ns, k, e, a, b, c, q⟩ => ⟨d, ns, k, e, a, b, c, fun p hp => h _ _ (q p hp)⟩
theorem v_purse (T : Tx K mg) (Ps : TL) : FnOk P w K mg base CX0 (2) T.f_l_purse T.fd_l_purse ["_law_script", "_law_at_here"] (vsp K Ps [] 2 cPurse) := (ok_purse T).imp fun vs H Q E ⟨ds, Fs, s, d, ns, k, e, hd, h0, h1, q⟩ => by
  subst e
  obtain ⟨v, v', rfl, r1, r2⟩ := arg2 s
  have ev : v' = .int k := r2.int_eq
  subst ev
  obtain ⟨l, us, G, ev, hs, ra, _⟩ := rd_lst r1 hd
  subst ev
  rw [rpa_ints' ra] at hs
  refine ⟨l, ns, k, rfl, hs, h0, h1, fun H' p sm np pu => ?_⟩
  obtain ⟨d', pw, rp⟩ := PuW.of (K := K) pu
  exact q d' pw H' _ [p] Fs (out_same sm s.tb) rp (by simp) fun a ha => by
    rw [List.mem_singleton.mp ha]
    exact ⟨np, fun _ h => nomatch h⟩
end
theorem can_gaps : ∀ {c : List Span}, c.Pairwise (fun s t => s.2 < t.1) → (c.zip (c.drop 1)).all (fun p => decide (p.1.2 < p.2.1)) = true
  | [], _ => rfl
  | [_], _ => rfl
  | a :: b :: r, h => by
    obtain ⟨h1, h2⟩ := List.pairwise_cons.mp h
    have ih := can_gaps h2
    show (decide (a.2 < b.1) && ((b :: r).zip ((b :: r).drop 1)).all _) = true
    rw [ih, decide_eq_true (h1 b List.mem_cons_self)]
    rfl
/-! ### pairs of ascending ends: a cover -/
def pairsI (ks : List Int) : List Span := (List.range (ks.length / 2)).map fun k => (ks[2 * k]?.getD 0, ks[2 * k + 1]?.getD 0)
theorem at_lt {ks : List Int} (h : ks.Pairwise (· < ·)) {i j : Nat} (ij : i < j) (jl : j < ks.length) : ks[i]?.getD 0 < ks[j]?.getD 0 := by
  rw [List.getElem?_eq_getElem (show i < ks.length by omega), List.getElem?_eq_getElem jl]
  exact List.pairwise_iff_getElem.mp h i j (by omega) jl ij
theorem at_mem {ks : List Int} {i : Nat} (il : i < ks.length) : ks[i]?.getD 0 ∈ ks := by
  rw [List.getElem?_eq_getElem il]
  exact List.getElem_mem _
theorem pairsI_len (ks : List Int) : (pairsI ks).length = ks.length / 2 := by
  unfold pairsI
  rw [List.length_map, List.length_range]
theorem pairsI_span {ks : List Int} (h : ks.Pairwise (· < ·)) (b : ∀ k ∈ ks, -999999999999 ≤ k ∧ k ≤ 999999999999) : (pairsI ks).all isSpan = true := by
  refine List.all_eq_true.mpr fun s hs => ?_
  obtain ⟨k, hk, rfl⟩ := List.mem_map.mp hs
  have kl := List.mem_range.mp hk
  have h1 := b _ (at_mem (ks := ks) (i := 2 * k) (by omega))
  have h2 := b _ (at_mem (ks := ks) (i := 2 * k + 1) (by omega))
  exact (isSpan_iff _).mpr ⟨h1.1, at_lt h (by omega) (by omega), h2.2⟩
theorem pairsI_cov {ks : List Int} (h : ks.Pairwise (· < ·)) (l : ks.length ≤ 401) : covB (pairsI ks) = true := by
  unfold covB
  rw [Bool.and_eq_true]
  refine ⟨decide_eq_true (by rw [pairsI_len]; omega), can_gaps ?_⟩
  unfold pairsI
  refine List.pairwise_map.mpr (List.pairwise_lt_range.imp_of_mem fun {a b} ha hb ab => ?_)
  have := List.mem_range.mp hb
  exact at_lt h (by omega) (by omega)
theorem rngV_pr (n : Nat) : rngV 0 n = (List.range n).map fun (k : Nat) => Val.int (k : Int) := by
  unfold rngV
  refine congrArg (fun f => List.map f (List.range n)) (funext fun k => ?_)
  rw [Int.zero_add]
theorem pairsI_at {ks : List Int} {i : Nat} (il : i < ks.length) : atI (ks.map Val.int) (i : Int) = some (.int (ks[i]?.getD 0)) := atI_nat (by
  rw [List.getElem?_map, List.getElem?_eq_getElem il]
  rfl)
section
variable {P : Program} {w : World} {K : PySem.W.Frag} {mg : Str → Option Value} {base : Heap}
def cCovD : VSpec := fun ds Q _ => ∃ (p : Val) (n m : Nat), ds = [p, .int (m : Int)] ∧ PuW p n ∧ n + 10000 ≤ 1000000000 ∧ m ≤ 200 ∧ ∀ (p' : Val) (c : List Span), PuW p' (n + 18 * m) → c.all isSpan = true → covB c = true → c.length ≤ 200 → Q [p'] (.lst (c.map spV))
theorem M_l_cover : Mono cCovD := fun ds Q Q' E E' h _ ⟨p, n, m, a, b, c, d, q⟩ => ⟨p, n, m, a, b, c, d, fun p' ss h1 h2 h3 h4 => h _ _ (q p' ss h1 h2 h3 h4)⟩
theorem v_l_cover (T : Tx K mg) : FnOk P w K mg base CX0 (5) T.f_l_cover T.fd_l_cover ["_law_purse_here", "_law_many"] (vsp K T.tabs [0] 2 cCovD) := by
  have G_l_end : FnOk P w K mg base CX0 _ _ _ _ _ := v_end T T.tabs
  refine T.F_l_cover.ok sc_l_cover (fun vs H Q E h => vsp_len h) (fun cdv A outer s H vs Q E hr h => ⟨_, (pss_cons (ps_set (i := 2) sc_l_cover.nd rfl (Or.inr rfl) (pe_lst pa_nil))
      (pss_cons (ps_for PassesOwn.never (by rfl) (pi_range1 (by rfl) T.m_range (pa_cons (pe_op op_mul pe_int (pv 1)) pa_nil)) (pg_name (i := 3) sc_l_cover.nd rfl (Or.inl rfl))
        (pss_one (ps_expr (pe_bm PySem.F.plainAttrs_list PySem.F.slot_list_append PySem.F.type_list_append mt_append (pv 2) (pa_cons (pe_call G_l_end (hr.mono (by decide)) (by rfl) T.g_l_end T.F_l_end.kp T.b_l_end .nil pass0 (pa_cons (pv 0) (pa_cons (pv 2) (pa_cons (pe_op op_sub (pe_op op_pow pe_int pe_int) pe_int) pa_nil)))) pa_nil)))))
      (pss_cons (ps_set (i := 2) sc_l_cover.nd rfl (Or.inr rfl) (pe_callB (cr_sortedSetB rfl) (by rfl) T.m_sorted (by decide +kernel) (pa_cons (pe_callTy (call_set_of rfl) (by rfl) T.m_set (by decide +kernel) (pa_cons (pv 2) pa_nil)) pa_nil)))
      (pss_one (ps_ret (pe_lc (own := [("_law_k", 3)]) (g := (gName 3)) (by rfl) sc_l_cover.nd (pi_range1 (by rfl) T.m_range (pa_cons (pe_op op_fdiv (pe_callB call_len_seq (by rfl) T.m_len PySem.boot_len (pa_cons (pv 2) pa_nil)) pe_int) pa_nil)) (blkOk_by (own := [("_law_k", 3)]) (N := N_l_cover) (sc := defScope s_l_cover) (by decide +kernel)) (fun _ _ _ _ _ => (pg_name (i := 3) sc_l_cover.nd rfl (Or.inl rfl))) (fun _ _ _ _ _ => pts_nil) (fun _ _ _ _ _ => (pe_tup (pa_cons (pe_ix (show IxR _ (rIxL K) from ix_list) (pv 2) (pe_op op_mul pe_int (pv 3)) (fun _ _ => rfl)) (pa_cons (pe_ix (show IxR _ (rIxL K) from ix_list) (pv 2) (pe_op op_add (pe_op op_mul pe_int (pv 3)) pe_int) (fun _ _ => rfl)) pa_nil)))))))))), (vfn (N := 4) (lo := [2]) (Ef := [0, 2]) U1 h rfl (by decide) rfl rfl hU1 (simS_seq (simS_setO (i := 2) (simE_lst simA_nil (by decide)) (show 2 < 4 by decide) rfl rfl rfl rfl rfl)
      (simS_seq (simS_for (E' := [0, 2]) (simI_rng1 (simA_consF (simE_op r2_iic simE_int (simE_var (i := 1) rfl) rfl) simA_nil rfl rfl rfl rfl rfl)) (simG_name (i := 3) (show 3 < 4 by decide) rfl rfl) (simS_expr (simE_app (i := 2) (simE_call1 (i := 0) M_l_end (simA_own (i := 0) rfl (simA_cons (simE_own (i := 2)) (simA_consF (simE_op r2_ii (simE_op r2_iic simE_int simE_int rfl) simE_int rfl) simA_nil rfl rfl rfl rfl rfl) rfl)) rfl rfl (show 0 < 4 by decide)) rfl) rfl rfl) rfl rfl rfl rfl)
      (simS_seq (simS_setO (i := 2) (simE_sortSetB (simE_own (i := 2))) (show 2 < 4 by decide) rfl rfl rfl rfl rfl)
      (simS_ret (simE_lc (fx := [0, 1, 2]) (simI_rng1 (simA_consF (simE_op r2_iic (simE_cb cb_len (simA_consF (simE_move (i := 2) rfl) simA_nil rfl rfl rfl rfl rfl)) simE_int rfl) simA_nil rfl rfl rfl rfl rfl)) (simG_name (i := 3) (show 3 < 4 by decide) rfl rfl) simT_yes (simE_tup (simA_consF (simE_flat (simE_ixL (simE_own (i := 2)) (simE_op r2_iic simE_int (simE_var (i := 3) rfl) rfl) rfl)) (simA_consF (simE_flat (simE_ixL (simE_own (i := 2)) (simE_op r2_ii (simE_op r2_iic simE_int (simE_var (i := 3) rfl) rfl) simE_int rfl) rfl)) simA_nil rfl rfl rfl rfl rfl) rfl rfl rfl rfl rfl) (by decide)) rfl rfl rfl) rfl rfl rfl rfl)))) ?_)⟩)
  rintro ds Q X ⟨p, n, m, rfl, pw, hn, m200, q⟩
  have c12 : L2.CPow 10 12 := ⟨by decide, by decide, by decide⟩
  have e12 : (10 : Int) ^ Int.toNat 12 - 1 = 999999999999 := by decide
  have e2m : (2 * (m : Int)).toNat = 2 * m := by omega
  refine ⟨.inl ⟨by decide, by decide⟩, ⟨by omega, by omega⟩, fun i env => ∃ (p' : Val) (zs : List Int) (y3 : Option Val), env = [some p', some (.int (m : Int)), some (.lst (zs.map Val.int)), y3] ∧ PuW p' (n + 9 * i) ∧ zs.length = i ∧ (∀ k ∈ zs, -999999999999 ≤ k ∧ k ≤ 999999999999), ⟨p, [], none, rfl, pw, rfl, fun _ h => nomatch h⟩, ?_, ?_⟩
  · rintro i y env hy ⟨p', zs, y3, rfl, pw', zl, zb⟩
    obtain ⟨im, rfl⟩ := rngV_at hy
    clear hy
    rw [e2m] at im
    refine ⟨c12, p', (10 : Int) ^ Int.toNat 12 - 1, n + 9 * i, zs, rfl, pw', by omega, by omega, by decide, by decide, fun p1 r pw1 r0 r1 => ?_⟩
    rw [e12] at r0 r1
    refine ⟨rfl, by rw [List.length_map]; omega, p1, zs ++ [r], some (.int (0 + (i : Int))), by rw [List.map_append]; rfl, pw1.mono (by omega), by rw [List.length_append, zl]; rfl, fun k hk => ?_⟩
    rcases List.mem_append.mp hk with z | z
    · exact zb k z
    · rw [List.mem_singleton.mp z]
      exact ⟨by omega, r1⟩
  · rintro env ⟨p', zs, y3, rfl, pw', zl, zb⟩
    rw [rngV_len, e2m] at pw' zl
    refine ⟨zs, rfl, by omega, fun ks kp km => ?_⟩
    have kb : ∀ k ∈ ks, -999999999999 ≤ k ∧ k ≤ 999999999999 := fun k hk => zb k ((km k).mp hk)
    have kl : ks.length ≤ 400 := by
      have := nodup_len (kp.imp fun h => Int.ne_of_lt h) fun x hx => (km x).mp hx
      omega
    have pl := pairsI_len ks
    have q9 := q p' (pairsI ks) (pw'.mono (by omega)) (pairsI_span kp kb) (pairsI_cov kp (by omega)) (by omega)
    have le : (ks.map Val.int).length = ks.length := List.length_map ..
    have ed : (((ks.map Val.int).length : Int) / 2) = ((ks.length / 2 : Nat) : Int) := by rw [le]; omega
    refine ⟨⟨by decide, by decide⟩, ?_⟩
    conv => whnf
    rw [ed]
    refine ⟨⟨by omega, by omega⟩, ?_⟩
    rw [Int.toNat_natCast, rngV_pr]
    refine lc_map (List.range (ks.length / 2)) (fun (k : Nat) => Val.int (k : Int)) (fun k => spV (ks[2 * k]?.getD 0, ks[2 * k + 1]?.getD 0)) ?_ (fun _ _ => rfl) (by rw [List.length_range]; omega) ?_
    · intro k hk R h
      have kl := List.mem_range.mp hk
      have a1 : atI (ks.map Val.int) (2 * (k : Int)) = some (.int (ks[2 * k]?.getD 0)) := by
        rw [show 2 * (k : Int) = ((2 * k : Nat) : Int) by omega]
        exact pairsI_at (by omega)
      have a2 : atI (ks.map Val.int) (2 * (k : Int) + 1) = some (.int (ks[2 * k + 1]?.getD 0)) := by
        rw [show 2 * (k : Int) + 1 = ((2 * k + 1 : Nat) : Int) by omega]
        exact pairsI_at (by omega)
      refine ⟨.inl ⟨by decide, by decide⟩, ?_⟩
      conv => whnf
      rw [a1]
      refine ⟨rfl, ?_⟩
      refine ⟨.inl ⟨by decide, by decide⟩, ?_⟩
      conv => whnf
      rw [a2]
      exact ⟨rfl, h⟩
    · have e : (List.range (ks.length / 2)).map (fun k => spV (ks[2 * k]?.getD 0, ks[2 * k + 1]?.getD 0)) = (pairsI ks).map spV := by
        unfold pairsI
        rw [List.map_map]
        rfl
      rw [e]
      exact q9
end
section
variable {P : Program} {w : World} {K : PySem.W.Frag} {mg : Str → Option Value} {base : Heap}
/-! ### names that are drawn -/
def abc : List Nat := [97, 98, 99, 100, 101, 102, 103, 104, 105, 106, 107, 108, 109, 110, 111, 112, 113, 114, 115, 116, 117, 118, 119, 120, 121, 122]
theorem abc_at {r : Int} (h0 : 0 ≤ r) (h1 : r < 26) : ∃ c, atI abc r = some c ∧ c = 97 + r.toNat ∧ isLow c = true := by
  have hn : r.toNat < 26 := by omega
  refine ⟨97 + r.toNat, ?_, rfl, ?_⟩
  · have e : r = (r.toNat : Int) := by omega
    rw [e]
    have : ∀ n, n < 26 → abc[n]? = some (97 + n) := by decide
    have h := atI_nat (this _ hn)
    exact h
  · unfold isLow
    rw [decide_eq_true (by omega), decide_eq_true (by omega)]
    rfl
/-- a sign put in -/
def putIn (stem : List Nat) (at_ : Nat) (c : Nat) : List Nat := stem.take at_ ++ [c] ++ stem.drop at_
theorem putIn_inj {stem : List Nat} {at_ c d : Nat} (h : putIn stem at_ c = putIn stem at_ d) : c = d := by
  unfold putIn at h
  rw [List.append_assoc, List.append_assoc] at h
  have := List.append_cancel_left h
  exact (List.cons.inj this).1
theorem putIn_name {stem : List Nat} {at_ c : Nat} (hs : stem.all isLow = true) (hl : stem.length ≤ 6) (hc : isLow c = true) : isName (SX.S (putIn stem at_ c)) = true := by
  have ln : (putIn stem at_ c).length = stem.length + 1 := by
    unfold putIn
    rw [List.length_append, List.length_append, List.length_take, List.length_drop, List.length_singleton]
    omega
  show (decide (1 ≤ (putIn stem at_ c).length) && decide ((putIn stem at_ c).length ≤ 8) && (putIn stem at_ c).all isLow) = true
  rw [ln, decide_eq_true (by omega), decide_eq_true (by omega)]
  unfold putIn
  rw [List.all_append, List.all_append, List.all_cons, List.all_nil, hc]
  rw [List.all_eq_true] at hs
  rw [show (stem.take at_).all isLow = true from List.all_eq_true.mpr fun x hx => hs x (List.mem_of_mem_take hx), show (stem.drop at_).all isLow = true from List.all_eq_true.mpr fun x hx => hs x (List.mem_of_mem_drop hx)]
  rfl
def cNamesL : VSpec := fun ds Q _ => ∃ (p : Val) (n m : Nat), ds = [p, .int (m : Int)] ∧ PuW p n ∧ n + 1000 ≤ 1000000000 ∧ m ≤ 26 ∧ ∀ (p' : Val) (ns : List Str), PuW p' (n + 30) → ns.length = m → ns.Nodup → (∀ x ∈ ns, isName x = true ∧ x.cps.toList.length ≤ 7) → Q [p'] (.lst (ns.map Val.str))
theorem M_l_names : Mono cNamesL := fun ds Q Q' E E' h _ ⟨p, n, m, e, a, b, c, q⟩ => ⟨p, n, m, e, a, b, c, fun p' ns h1 h2 h3 h4 => h _ _ (q p' ns h1 h2 h3 h4)⟩
theorem v_l_names (T : Tx K mg) : FnOk P w K mg base CX0 (3) T.f_l_names T.fd_l_names ["_law_purse_here", "_law_many"] (vsp K T.tabs [0] 2 cNamesL) := by
  have G_l_draw : FnOk P w K mg base CX0 _ _ _ _ _ := v_draw T T.tabs
  refine T.F_l_names.ok sc_l_names (fun vs H Q E h => vsp_len h) (fun cdv A outer s H vs Q E hr h => ⟨_, (pss_cons (ps_set (i := 2) sc_l_names.nd rfl (Or.inr rfl) pe_str)
      (pss_cons (ps_set (i := 3) sc_l_names.nd rfl (Or.inr rfl) (pe_bm PySem.F.plainAttrs_str PySem.F.slot_str_join PySem.F.type_str_join mt_join pe_str (pa_cons (pe_lc (own := [("_law_k", 7)]) (g := (gName 7)) (by rfl) sc_l_names.nd (pi_range1 (by rfl) T.m_range (pa_cons (pe_call G_l_draw (hr.mono (by decide)) (by rfl) T.g_l_draw T.F_l_draw.kp T.b_l_draw .nil pass0 (pa_cons (pv 0) (pa_cons pe_int pa_nil))) pa_nil)) (blkOk_by (own := [("_law_k", 7)]) (N := N_l_names) (sc := defScope s_l_names) (by decide +kernel)) (fun _ _ _ _ _ => (pg_name (i := 7) sc_l_names.nd rfl (Or.inl rfl))) (fun _ _ _ _ _ => pts_nil) (fun _ _ _ _ _ => (pe_ix ix_str (pv 2) (pe_call G_l_draw (hr.mono (by decide)) (by rfl) T.g_l_draw T.F_l_draw.kp T.b_l_draw .nil pass0 (pa_cons (pv 0) (pa_cons pe_int pa_nil))) (fun _ _ => rfl)))) pa_nil)))
      (pss_cons (ps_set (i := 4) sc_l_names.nd rfl (Or.inr rfl) (pe_call G_l_draw (hr.mono (by decide)) (by rfl) T.g_l_draw T.F_l_draw.kp T.b_l_draw .nil pass0 (pa_cons (pv 0) (pa_cons (pe_op op_add (pe_callB (show CallR _ (.builtin "len") (fun xs H Q => ∃ x n, xs = [x] ∧ LenV K x H n ∧ Q (.int (n : Nat)) H) from call_len) (by rfl) T.m_len PySem.boot_len (pa_cons (pv 3) pa_nil)) pe_int) pa_nil))))
      (pss_cons (ps_set (i := 5) sc_l_names.nd rfl (Or.inr rfl) (pe_call G_l_draw (hr.mono (by decide)) (by rfl) T.g_l_draw T.F_l_draw.kp T.b_l_draw .nil pass0 (pa_cons (pv 0) (pa_cons pe_int pa_nil))))
      (pss_cons (ps_setLc (i := 6) (own := [("_law_k", 7)]) (g := (gName 7)) (by rfl) sc_l_names.nd rfl rfl (sw_true rfl rfl rfl (by decide +kernel)) (pi_range1 (by rfl) T.m_range (pa_cons (pv 1) pa_nil)) (blkOk_by (own := [("_law_k", 7)]) (N := N_l_names) (sc := defScope s_l_names) (by decide +kernel)) (fun _ _ _ _ _ => (pg_name (i := 7) sc_l_names.nd rfl (Or.inl rfl))) (fun _ _ _ _ _ => pts_nil) (fun _ _ _ _ _ => (pe_op op_add_str (pe_op op_add_str (pe_slice sl_str (pv 3) po_none (po_some (pv 4))) (pe_ix ix_str (pv 2) (pe_op op_mod (pe_op op_add (pv 5) (pe_op op_mul pe_int (pv 7))) pe_int) (fun _ _ => rfl))) (pe_slice sl_str (pv 3) (po_some (pv 4)) po_none))))
      (pss_one (ps_ret (pv 6)))))))), (vfn (N := 8) (lo := [6]) (Ef := [0, 6]) U1 h rfl (by decide) rfl rfl hU1 (simS_seq (simS_asg simE_str (simG_name (i := 2) (show 2 < 8 by decide) rfl rfl) rfl rfl)
      (simS_seq (simS_asg (simE_join (simE_lc (fx := [0, 1, 2, 3, 4, 5, 6]) (simI_rng1 (simA_consF (simE_call1 (i := 0) M_l_draw (simA_own (i := 0) rfl (simA_consF simE_int simA_nil rfl rfl rfl rfl rfl)) rfl rfl (show 0 < 8 by decide)) simA_nil rfl rfl rfl rfl rfl)) (simG_name (i := 7) (show 7 < 8 by decide) rfl rfl) simT_yes (simE_op r2_ixS (simE_var (i := 2) rfl) (simE_call1 (i := 0) M_l_draw (simA_own (i := 0) rfl (simA_consF simE_int simA_nil rfl rfl rfl rfl rfl)) rfl rfl (show 0 < 8 by decide)) rfl) rfl rfl rfl)) (simG_name (i := 3) (show 3 < 8 by decide) rfl rfl) rfl rfl)
      (simS_seq (simS_asg (simE_call1 (i := 0) M_l_draw (simA_own (i := 0) rfl (simA_consF (simE_op r2_ii (simE_cb cb_lenS (simA_varF (i := 3) simA_nil)) simE_int rfl) simA_nil rfl rfl rfl rfl rfl)) rfl rfl (show 0 < 8 by decide)) (simG_name (i := 4) (show 4 < 8 by decide) rfl rfl) rfl rfl)
      (simS_seq (simS_asg (simE_call1 (i := 0) M_l_draw (simA_own (i := 0) rfl (simA_consF simE_int simA_nil rfl rfl rfl rfl rfl)) rfl rfl (show 0 < 8 by decide)) (simG_name (i := 5) (show 5 < 8 by decide) rfl rfl) rfl rfl)
      (simS_seq (simS_setO (i := 6) (simE_lc (fx := [0, 1, 2, 3, 4, 5, 6]) (simI_rng1 (simA_varF (i := 1) simA_nil)) (simG_name (i := 7) (show 7 < 8 by decide) rfl rfl) simT_yes (simE_op r2_addS (simE_op r2_addS (simE_slS (simE_var (i := 3) rfl) simO_none (simO_some (simE_var (i := 4) rfl)) rfl rfl) (simE_op r2_ixS (simE_var (i := 2) rfl) (simE_op r2_iic (simE_op r2_ii (simE_var (i := 5) rfl) (simE_op r2_iic simE_int (simE_var (i := 7) rfl) rfl) rfl) simE_int rfl) rfl) rfl) (simE_slS (simE_var (i := 3) rfl) (simO_some (simE_var (i := 4) rfl)) simO_none rfl rfl) rfl) rfl rfl rfl) (show 6 < 8 by decide) rfl rfl rfl rfl rfl)
      (simS_ret (simE_move (i := 6) rfl) rfl rfl rfl rfl)))))) ?_)⟩)
  rintro ds Q X ⟨p, n, m, rfl, pw, hn, hm, q⟩
  have eabc : (Str.ofString "abcdefghijklmnopqrstuvwxyz") = SX.S abc := by decide +kernel
  refine ⟨p, 7, n, rfl, pw, by omega, by decide, by decide, fun p1 r pw1 r0 r7 => ?_⟩
  rw [eabc]
  refine ⟨by omega, fun i acc env => ∃ (p' : Val) (cs : List Nat), env = [some p', some (.int m), some (.str (SX.S abc)), none, none, none, none, none] ∧ PuW p' (n + 3 + 3 * i) ∧ acc = cs.map (fun c => Val.str (SX.S [c])) ∧ cs.length = i ∧ cs.all isLow = true, ⟨p1, [], rfl, pw1, rfl, rfl, rfl⟩, ?_, ?_⟩
  · rintro i v acc env hi ⟨p', cs, rfl, pw', rfl, ln, al⟩
    obtain ⟨ir, rfl⟩ := rngV_at hi
    refine ⟨by rw [List.length_map]; omega, ?_⟩
    refine ⟨p', 26, _, rfl, pw', by omega, by decide, by decide, fun p2 x pw2 x0 x1 => ?_⟩
    obtain ⟨c, hc, _, lc⟩ := abc_at x0 x1
    refine ⟨by decide, c, hc, rfl, p2, cs ++ [c], rfl, pw2, ?_, ?_, ?_⟩
    · rw [List.map_append]
      rfl
    · rw [List.length_append, ln]
      rfl
    · rw [List.all_append, al, List.all_cons, lc]
      rfl
  · rintro acc env ⟨p', cs, rfl, pw', rfl, ln, al⟩
    rw [rngV_len] at ln pw'
    have cl : cs.length ≤ 6 := by omega
    have fl : (cs.map fun c => [c]).flatten = cs := by
      clear ln al cl
      induction cs with
      | nil => rfl
      | cons c r ih =>
        rw [List.map_cons, List.flatten_cons, ih]
        rfl
    refine ⟨cs.map (fun c => [c]), by rw [List.map_map]; rfl, by rw [fl]; omega, ?_⟩
    rw [fl]
    have sl : (SX.S cs).length = cs.length := SX.S_len cs
    refine ⟨rfl, small_le (by rw [sl]; omega), p', _, _, rfl, pw', by omega, by omega, ?_, fun p2 a pw2 a0 a1 => ?_⟩
    · have : (2 : Int) ^ 88 = 309485009821345068724781056 := by decide
      rw [sl]
      omega
    rw [sl] at a1
    refine ⟨p2, 26, _, rfl, pw2, by omega, by decide, by decide, fun p3 f pw3 f0 f1 => ?_⟩
    refine ⟨rfl, by omega, ?_⟩
    have ea : a = (a.toNat : Int) := by omega
    obtain ⟨aN, haN⟩ : ∃ aN, aN = a.toNat := ⟨_, rfl⟩
    rw [← haN] at ea
    subst ea
    refine lc_map (List.range ((m : Int)).toNat) (fun i => .int (0 + (i : Nat))) (fun k => .str (SX.S (putIn cs aN (97 + ((f + 7 * (k : Int)) % 26).toNat)))) ?_ (fun _ _ => rfl) (by rw [List.length_range]; omega) ?_
    · intro k hk R h
      have km : k < m := by
        have := List.mem_range.mp hk
        omega
      have e1 : cutL cs none (some (aN : Int)) = cs.take aN := cutL_take' cs aN
      have e2 : cutL cs (some (aN : Int)) none = cs.drop aN := cutL_drop' cs aN (by omega)
      obtain ⟨c, hc, ec, lc⟩ := abc_at (r := (f + 7 * (k : Int)) % 26) (Int.emod_nonneg _ (by decide)) (Int.emod_lt_of_pos _ (by decide))
      rw [← ec] at h
      refine ⟨by rw [sl]; omega, ?_⟩
      refine ⟨.inl ⟨by decide, by omega⟩, (show (0 : Int) < 26 by decide), by decide, c, ?_, ?_⟩
      · rw [Int.zero_add]
        exact hc
      · show fCatS (Val.str (SX.S (cutL cs none (some (aN : Int))))) (Val.str (SX.S [c])) _
        rw [e1]
        refine ⟨by rw [SX.S_len, SX.S_len, List.length_take, List.length_singleton]; omega, ?_⟩
        refine ⟨by rw [sl]; omega, ?_⟩
        show fCatS (Val.str (SX.S (cs.take aN ++ [c]))) (Val.str (SX.S (cutL cs (some (aN : Int)) none))) _
        rw [e2]
        refine ⟨by rw [SX.S_len, SX.S_len, List.length_append, List.length_take, List.length_drop, List.length_singleton]; omega, ?_⟩
        exact h
    · have en : (List.range ((m : Int)).toNat).map (fun (k : Nat) => Val.str (SX.S (putIn cs aN (97 + ((f + 7 * (k : Int)) % 26).toNat)))) = ((List.range m).map fun (k : Nat) => SX.S (putIn cs aN (97 + ((f + 7 * (k : Int)) % 26).toNat))).map Val.str := by
        rw [List.map_map, show ((m : Int)).toNat = m by omega]
        rfl
      rw [en]
      refine q p3 _ (pw3.mono (by omega)) (by rw [List.length_map, List.length_range]) ?_ fun x hx => ?_
      · refine List.Pairwise.map _ ?_ (List.nodup_range.imp_of_mem ?_ : (List.range m).Pairwise fun i j => i < m ∧ j < m ∧ i ≠ j)
        · intro i j ⟨hi, hj, ne⟩ e
          have := putIn_inj (SX.S_inj e)
          omega
        · intro i j hi hj ne
          exact ⟨List.mem_range.mp hi, List.mem_range.mp hj, ne⟩
      · obtain ⟨k, hk, rfl⟩ := List.mem_map.mp hx
        obtain ⟨c, _, ec, lc⟩ := abc_at (r := (f + 7 * (k : Int)) % 26) (Int.emod_nonneg _ (by decide)) (Int.emod_lt_of_pos _ (by decide))
        rw [← ec]
        refine ⟨putIn_name al cl lc, ?_⟩
        show (putIn cs aN _).length ≤ 7
        unfold putIn
        rw [List.length_append, List.length_append, List.length_take, List.length_drop, List.length_singleton]
        omega
end
section
variable {P : Program} {w : World} {K : PySem.W.Frag} {mg : Str → Option Value} {base : Heap}
/-! ### spans and covers, written and read -/
def spanL (s : Span) : List Nat := decL s.1 ++ ([46, 46] ++ decL s.2)
theorem decL_len {i : Int} (h : i.natAbs < 1000000000000) : (decL i).length ≤ 13 := by
  have := TL.numL_len (n := i.natAbs) (k := 12) (by decide) h
  unfold decL
  split
  · rw [List.length_cons]
    omega
  · omega
theorem pow1900 : (1000000000000 : Nat) < 2 ^ 1900 := Nat.lt_of_lt_of_le (show 1000000000000 < 2 ^ 40 by decide) (Nat.pow_le_pow_right (by decide) (by decide))
theorem spanL_len {s : Span} (h : isSpan s = true) : (spanL s).length ≤ 28 := by
  have b := (isSpan_iff s).mp h
  have d1 := decL_len (i := s.1) (by omega)
  have d2 := decL_len (i := s.2) (by omega)
  unfold spanL
  rw [List.length_append, List.length_append]
  show _ + (2 + _) ≤ _
  omega
end
/-! ### what is written is read back -/
/-! ### a shelf as a text: rows in the order of the names -/
def rowL (r : Row) : List Nat := r.1.cps.toList ++ ([32] ++ (spanL r.2.1 ++ ([32] ++ decL r.2.2)))
def sortR (k : Kept) : List Row := (namesK k).map fun n => (n, (getR k n).getD ((0, 0), 0))
def shelfL (k : Kept) : List Nat := TL.joinL [10] ((sortR k).map rowL)
theorem sortR_perm {k : Kept} (nd : (k.map (·.1)).Nodup) : (sortR k).Perm k := by
  have h := (sortT_perm (k.map (·.1))).map fun n => (n, (getR k n).getD ((0, 0), 0))
  have e : (k.map (·.1)).map (fun n => (n, (getR k n).getD ((0, 0), 0))) = k := by
    rw [List.map_map]
    refine (List.map_congr_left fun r hr => ?_).trans (List.map_id k)
    show (r.1, (getR k r.1).getD ((0, 0), 0)) = r
    rw [getR_mem nd hr]
    rfl
  rw [e] at h
  exact h
theorem sortR_len (k : Kept) : (sortR k).length = k.length := by
  unfold sortR
  rw [List.length_map, namesK_len]
theorem name_len {x : Str} (h : isName x = true) : 1 ≤ x.cps.toList.length ∧ x.cps.toList.length ≤ 8 ∧ ∀ c ∈ x.cps.toList, 97 ≤ c ∧ c ≤ 122 := by
  unfold isName at h
  rw [Bool.and_eq_true, Bool.and_eq_true] at h
  refine ⟨of_decide_eq_true h.1.1, of_decide_eq_true h.1.2, fun c hc => ?_⟩
  have := List.all_eq_true.mp h.2 c hc
  unfold isLow at this
  rw [Bool.and_eq_true] at this
  exact ⟨of_decide_eq_true this.1, of_decide_eq_true this.2⟩
theorem wt_abs {i : Int} (h : isWt i = true) : i.natAbs < 1000000000000 := by
  unfold isWt at h
  rw [Bool.and_eq_true] at h
  have h1 := of_decide_eq_true h.1
  have h2 := of_decide_eq_true h.2
  omega
theorem rowL_len {r : Row} (h1 : isName r.1 = true) (h2 : isSpan r.2.1 = true) (h3 : isWt r.2.2 = true) : (rowL r).length ≤ 51 := by
  have a := (name_len h1).2.1
  have b := spanL_len h2
  have c := decL_len (wt_abs h3)
  unfold rowL
  rw [List.length_append, List.length_append, List.length_append, List.length_append]
  show _ + (1 + (_ + (1 + _))) ≤ _
  omega
theorem rows_sum : ∀ {R : List Row}, (∀ r ∈ R, isName r.1 = true ∧ isSpan r.2.1 = true ∧ isWt r.2.2 = true) → ((R.map rowL).map List.length).sum ≤ 51 * R.length
  | [], _ => Nat.le_refl _
  | r :: t, h => by
    obtain ⟨h1, h2, h3⟩ := h r List.mem_cons_self
    have := rowL_len h1 h2 h3
    have := rows_sum (R := t) fun x hx => h x (List.mem_cons_of_mem _ hx)
    rw [List.map_cons, List.map_cons, List.sum_cons, List.length_cons]
    omega
/-! ### what is written of a shelf is read back -/
theorem sortR_each {k : Kept} (ok : KOk k) : ∀ r ∈ sortR k, isName r.1 = true ∧ isSpan r.2.1 = true ∧ isWt r.2.2 = true := fun r hr => by
  have := (sortR_perm ok.nd).mem_iff.mp hr
  exact ⟨ok.nm r this, ok.sp r this, ok.wt r this⟩
section
variable {P : Program} {w : World} {K : PySem.W.Frag} {mg : Str → Option Value} {base : Heap}
def cSpanText : VSpec := fun ds Q _ => ∃ s : Span, ds = [spV s] ∧ isSpan s = true ∧ Q [] (.str (SX.S (spanL s)))
theorem M_l_span_text : Mono cSpanText := fun ds Q Q' E E' h _ ⟨s, a, b, q⟩ => ⟨s, a, b, h _ _ q⟩
theorem v_l_span_text (T : Tx K mg) : FnOk P w K mg base CX0 (1) T.f_l_span_text T.fd_l_span_text ["_law_span_here"] (vsp K T.tabs [] 1 cSpanText) := by
  refine T.F_l_span_text.ok sc_l_span_text (fun vs H Q E h => vsp_len h) (fun cdv A outer s H vs Q E hr h => ⟨_, (pss_one (ps_ret (pe_op op_add_str (pe_op op_add_str (pe_callTy call_str_int (by rfl) T.m_str (by decide +kernel) (pa_cons (pe_ix ix_tup (pv 0) pe_int (fun _ _ => rfl)) pa_nil)) pe_str) (pe_callTy call_str_int (by rfl) T.m_str (by decide +kernel) (pa_cons (pe_ix ix_tup (pv 0) pe_int (fun _ _ => rfl)) pa_nil))))), (vfn (N := 1) (lo := []) (Ef := []) U0 h rfl (by decide) rfl rfl hU0 (simS_ret (simE_op r2_addS (simE_op r2_addS (simE_cb cb_strI (simA_consF (simE_flat (simE_ixT (simE_var (i := 0) rfl) simE_int rfl)) simA_nil rfl rfl rfl rfl rfl)) simE_str rfl) (simE_cb cb_strI (simA_consF (simE_flat (simE_ixT (simE_var (i := 0) rfl) simE_int rfl)) simA_nil rfl rfl rfl rfl rfl)) rfl) rfl rfl rfl rfl) ?_)⟩)
  rintro ds Q X ⟨s, rfl, h, q⟩
  have b := (isSpan_iff s).mp h
  have n1 : s.1.natAbs < 1000000000000 := by omega
  have n2 : s.2.natAbs < 1000000000000 := by omega
  have d1 := decL_len n1
  have d2 := decL_len n2
  refine ⟨rfl, s.1, rfl, Nat.lt_trans n1 pow1900, ?_⟩
  refine ⟨by rw [SX.S_len]; show _ + 2 ≤ _; omega, ?_⟩
  refine ⟨rfl, s.2, rfl, Nat.lt_trans n2 pow1900, ?_⟩
  have el : ((SX.S (decL s.1)).cps.toList ++ (Str.ofString "..").cps.toList) = decL s.1 ++ ([46, 46] : List Nat) := rfl
  refine ⟨by rw [el, SX.S_len, SX.S_len, List.length_append]; show _ + 2 + _ ≤ _; omega, ?_⟩
  have q9 : Q [] (.str (SX.S ((SX.S ((SX.S (decL s.1)).cps.toList ++ (Str.ofString "..").cps.toList)).cps.toList ++ (SX.S (decL s.2)).cps.toList))) := by
    rw [el]
    show Q [] (.str (SX.S ((decL s.1 ++ ([46, 46] : List Nat)) ++ decL s.2)))
    rw [List.append_assoc]
    exact q
  exact q9
end
section
variable {P : Program} {w : World} {K : PySem.W.Frag} {mg : Str → Option Value} {base : Heap}
def cShelfText : VSpec := fun ds Q _ => ∃ k : Kept, ds = [.fdc (keptV k)] ∧ KOk k ∧ Q [] (.str (SX.S (shelfL k)))
theorem M_l_shelf_text : Mono cShelfText := fun ds Q Q' E E' h _ ⟨k, a, b, q⟩ => ⟨k, a, b, h _ _ q⟩
theorem v_l_shelf_text (T : Tx K mg) : FnOk P w K mg base CX0 (2) T.f_l_shelf_text T.fd_l_shelf_text ["_law_kept"] (vsp K T.tabs [] 1 cShelfText) := by
  have G_l_span_text : FnOk P w K mg base CX0 _ _ _ _ _ := v_l_span_text T
  refine T.F_l_shelf_text.ok sc_l_shelf_text (fun vs H Q E h => vsp_len h) (fun cdv A outer s H vs Q E hr h => ⟨_, (pss_cons (ps_setLc (i := 1) (own := [("_law_name", 2)]) (g := (gName 2)) (by rfl) sc_l_shelf_text.nd rfl rfl (sw_true rfl rfl rfl (by decide +kernel)) (pi_list (pe_callB (show CallR _ (.builtin "sorted") rSortK from call_sortedD rfl) (by rfl) T.m_sorted (by decide +kernel) (pa_cons (pv 0) pa_nil))) (blkOk_by (own := [("_law_name", 2)]) (N := N_l_shelf_text) (sc := defScope s_l_shelf_text) (by decide +kernel)) (fun _ _ _ _ _ => (pg_name (i := 2) sc_l_shelf_text.nd rfl (Or.inl rfl))) (fun _ _ _ _ _ => pts_nil) (fun _ _ _ _ _ => (pe_bm PySem.F.plainAttrs_str PySem.F.slot_str_join PySem.F.type_str_join (show MtR _ "str.join" (rJoin K) from mt_join) pe_str (pa_cons (pe_lst (pa_cons (pv 2) (pa_cons (pe_call G_l_span_text (hr.mono (by decide)) (by rfl) T.g_l_span_text T.F_l_span_text.kp T.b_l_span_text .nil pass0 (pa_cons (pe_ix (show IxR _ (rIxT K) from ix_tup) (pe_dget (room_u hr) (pv 0) (pv 2) (fun _ _ => rfl)) pe_int (fun _ _ => rfl)) pa_nil)) (pa_cons (pe_callTy call_str_int (by rfl) T.m_str (by decide +kernel) (pa_cons (pe_ix (show IxR _ (rIxT K) from ix_tup) (pe_dget (room_u hr) (pv 0) (pv 2) (fun _ _ => rfl)) pe_int (fun _ _ => rfl)) pa_nil)) pa_nil)))) pa_nil))))
      (pss_one (ps_ret (pe_bm PySem.F.plainAttrs_str PySem.F.slot_str_join PySem.F.type_str_join mt_join pe_str (pa_cons (pv 1) pa_nil))))), (vfn (N := 3) (lo := []) (Ef := []) U0 h rfl (by decide) rfl rfl hU0 (simS_seq (simS_asg (simE_lc (fx := [0, 1]) (simI_list (simE_cbl cb_sortK (simA_varF (i := 0) simA_nil))) (simG_name (i := 2) (show 2 < 3 by decide) rfl rfl) simT_yes (simE_joinS (simE_lst (simA_varF (i := 2) (simA_consF (simE_call0 M_l_span_text (simA_consF (simE_flat (simE_ixT (simE_dixK (simE_var (i := 0) rfl) (simE_var (i := 2) rfl) rfl) simE_int rfl)) simA_nil rfl rfl rfl rfl rfl) rfl rfl) (simA_consF (simE_cb cb_strI (simA_consF (simE_flat (simE_ixT (simE_dixK (simE_var (i := 0) rfl) (simE_var (i := 2) rfl) rfl) simE_int rfl)) simA_nil rfl rfl rfl rfl rfl)) simA_nil rfl rfl rfl rfl rfl) rfl rfl rfl rfl rfl)) (by decide))) rfl rfl rfl) (simG_name (i := 1) (show 1 < 3 by decide) rfl rfl) rfl rfl)
      (simS_ret (simE_joinS (simE_var (i := 1) rfl)) rfl rfl rfl rfl)) ?_)⟩)
  rintro ds Q X ⟨k, rfl, ok, q⟩
  have nl := namesK_len k
  have kl := ok.le
  refine ⟨kept_flat k, _, keptV k, k.map (·.1), rfl, .inl rfl, kept_keys k, by rw [List.length_map]; omega, fun ys p srt => ?_⟩
  have ey : ys = namesK k := sortT_one p srt
  subst ey
  refine lc_map (namesK k) Val.str (fun nm => Val.str (SX.S (rowL (nm, (getR k nm).getD ((0, 0), 0))))) ?_ (fun _ _ => rfl) (by omega) ?_
  · intro nm hn R h
    obtain ⟨x, hx⟩ := namesK_get hn
    rw [hx] at h
    have h : R (Val.str (SX.S (rowL (nm, x)))) _ := h
    have mk := getR_some hx
    have o1 : isName nm = true := ok.nm _ mk
    have o2 : isSpan x.1 = true := ok.sp _ mk
    have o3 : isWt x.2 = true := ok.wt _ mk
    have n1 := (name_len o1).2.1
    have sl := spanL_len o2
    have wl := decL_len (wt_abs o3)
    have gk : getKV (keptV k) (.inr nm) = some (.tup [spV x.1, .int x.2]) := by
      rw [get_kept, hx]
      rfl
    refine ⟨keptV k, .inr nm, .tup [spV x.1, .int x.2], .inl rfl, rfl, gk, rfl, ?_⟩
    refine ⟨rfl, x.1, rfl, o2, ?_⟩
    refine ⟨keptV k, .inr nm, .tup [spV x.1, .int x.2], .inl rfl, rfl, gk, rfl, ?_⟩
    refine ⟨rfl, x.2, rfl, Nat.lt_trans (wt_abs o3) pow1900, ?_⟩
    refine ⟨rfl, [nm.cps.toList, spanL x.1, decL x.2], ?_, ?_, ?_⟩
    · show Val.lst [.str nm, .str (SX.S (spanL x.1)), .str (SX.S (decL x.2))] = Val.lst [.str (SX.S nm.cps.toList), .str (SX.S (spanL x.1)), .str (SX.S (decL x.2))]
      rw [SX.S_tl]
    · show nm.cps.toList.length + ((spanL x.1).length + ((decL x.2).length + 0)) + 3 * 1 ≤ _
      omega
    · exact h
  · refine ⟨(sortR k).map rowL, ?_, ?_, q⟩
    · unfold sortR
      rw [List.map_map, List.map_map]
      rfl
    · have := rows_sum (sortR_each ok)
      have := sortR_len k
      rw [List.length_map]
      show _ + _ * 1 ≤ _
      omega
end
theorem spl_sum (S : List Nat) : ∀ (l : List Nat) (k : Nat) (acc : List Nat), ((TL.spl S k acc l).map List.length).sum + (TL.spl S k acc l).length ≤ acc.length + l.length + 1
  | [], k, acc => by
    rw [TL.spl_nil]
    show acc.length + 0 + 1 ≤ _
    omega
  | c :: r, 0, acc => by
    show ((if TL.pre S (c :: r) = true then acc :: TL.spl S (S.length - 1) [] r else TL.spl S 0 (acc ++ [c]) r).map List.length).sum + (if TL.pre S (c :: r) = true then acc :: TL.spl S (S.length - 1) [] r else TL.spl S 0 (acc ++ [c]) r).length ≤ acc.length + (r.length + 1) + 1
    split
    · have := spl_sum S r (S.length - 1) []
      rw [List.map_cons, List.sum_cons, List.length_cons]
      have e0 : ([] : List Nat).length = 0 := rfl
      rw [e0] at this
      omega
    · have := spl_sum S r 0 (acc ++ [c])
      rw [List.length_append, List.length_singleton] at this
      omega
  | c :: r, k + 1, acc => by
    have := spl_sum S r k acc
    rw [List.length_cons]
    exact Nat.le_trans this (by omega)
/-- the signs of some words, and the words -/
def sgn (ps : List (List Nat)) : Nat := (ps.map List.length).sum + ps.length
theorem sgn_app (a b : List (List Nat)) : sgn (a ++ b) = sgn a + sgn b := by
  unfold sgn
  rw [List.map_append, List.sum_append, List.length_append]
  omega
theorem sgn_one (x : List Nat) : sgn [x] = x.length + 1 := rfl
theorem sgn_cut (ps : List (List Nat)) (k : Nat) : sgn (ps.take k) + sgn (ps.drop k) = sgn ps := by
  rw [← sgn_app, List.take_append_drop]
theorem sgn_drop (ps : List (List Nat)) (k : Nat) : sgn (ps.drop (k + 1)) ≤ sgn (ps.drop k) := by
  have h := sgn_cut (ps.drop k) 1
  rw [List.drop_drop] at h
  omega
theorem sgn_at {ps : List (List Nat)} {k : Nat} {x : List Nat} (h : ps[k]? = some x) : x.length + 1 ≤ sgn ps := by
  induction ps generalizing k with
  | nil => cases h
  | cons a r ih =>
    have e : sgn (a :: r) = sgn [a] + sgn r := sgn_app [a] r
    rw [sgn_one] at e
    cases k with
    | zero =>
      cases h
      omega
    | succ k =>
      have := ih (k := k) h
      omega
theorem sgn_rev (ps : List (List Nat)) : sgn ps.reverse = sgn ps := by
  induction ps with
  | nil => rfl
  | cons a r ih =>
    rw [List.reverse_cons, sgn_app, ih]
    have e : sgn (a :: r) = sgn [a] + sgn r := sgn_app [a] r
    omega
theorem joinL_le (c : Nat) : ∀ ps : List (List Nat), (TL.joinL [c] ps).length ≤ sgn ps
  | [] => Nat.zero_le _
  | [p] => by
    show p.length ≤ p.length + 0 + 1
    omega
  | p :: r :: t => by
    have ih := joinL_le c (r :: t)
    have e : TL.joinL [c] (p :: r :: t) = p ++ ([c] ++ TL.joinL [c] (r :: t)) := rfl
    have e2 : sgn (p :: r :: t) = sgn [p] + sgn (r :: t) := sgn_app [p] (r :: t)
    rw [sgn_one] at e2
    rw [e, List.length_append, List.length_append, e2]
    show _ + (1 + _) ≤ _
    omega
theorem atI_in {α : Type} {xs : List α} {i : Int} (h0 : 0 ≤ i) (h1 : i < (xs.length : Int)) : ∃ c, atI xs i = some c ∧ xs[i.toNat]? = some c := by
  have hn : i.toNat < xs.length := by omega
  have e : ((i.toNat : Nat) : Int) = i := by omega
  have h : xs[i.toNat]? = some xs[i.toNat] := List.getElem?_eq_getElem hn
  have h2 : atI xs ((i.toNat : Nat) : Int) = some xs[i.toNat] := atI_nat h
  exact ⟨_, by rw [e] at h2; exact h2, h⟩
theorem spl_pos (S : List Nat) : ∀ (l : List Nat) (k : Nat) (acc : List Nat), 0 < (TL.spl S k acc l).length
  | [], k, acc => by
    rw [TL.spl_nil]
    exact Nat.zero_lt_one
  | c :: r, 0, acc => by
    show 0 < (if TL.pre S (c :: r) = true then acc :: TL.spl S (S.length - 1) [] r else TL.spl S 0 (acc ++ [c]) r).length
    split
    · exact Nat.zero_lt_succ _
    · exact spl_pos S r 0 (acc ++ [c])
  | c :: r, k + 1, acc => spl_pos S r k acc
/-- the odd words -/
def oddA : List Str := [Str.ofString "-0", Str.ofString "00", Str.ofString "01", Str.ofString "+1", Str.ofString "1..2", Str.ofString "2..1", Str.ofString "3..3", Str.ofString "..", Str.ofString "1..2..3", Str.ofString "1...2", Str.ofString "-1..-0", Str.ofString "1000000000"]
def oddB : List Str := [Str.ofString "1000000001", Str.ofString "999999999999"]
def oddC : List Str := [Str.ofString "1000000000000", Str.ofString "0..1000000000000", Str.ofString "-1000000000000..0", Str.ofString "A", Str.ofString "aaaaaaaaa", Str.ofString "", Str.ofString "1.2"]
theorem odd_le : ((oddA ++ oddB) ++ oddC).all (fun s => decide (s.cps.toList.length ≤ 17)) = true := by decide +kernel
theorem odd_at {i : Int} (h0 : 0 ≤ i) (h1 : i < 21) : ∃ x : List Nat, atI ((oddA.map Val.str ++ oddB.map Val.str) ++ oddC.map Val.str) i = some (.str (SX.S x)) ∧ x.length ≤ 17 := by
  have e : (oddA.map Val.str ++ oddB.map Val.str) ++ oddC.map Val.str = ((oddA ++ oddB) ++ oddC).map Val.str := by rw [List.map_append, List.map_append]
  rw [e]
  obtain ⟨c, h2, h3⟩ := atI_in (xs := ((oddA ++ oddB) ++ oddC).map Val.str) h0 (by rw [List.length_map]; exact h1)
  rw [List.getElem?_map] at h3
  obtain ⟨s, hs, rfl⟩ := Option.map_eq_some_iff.mp h3
  have hm := List.all_eq_true.mp odd_le s (List.mem_of_getElem? hs)
  exact ⟨s.cps.toList, by rw [h2, SX.S_tl], of_decide_eq_true hm⟩
def fewS : List Nat := (Str.ofString "0123456789-. abz").cps.toList ++ (Str.ofString "\n").cps.toList
theorem few_len : fewS.length = 17 := by decide +kernel
def manyS : List Nat := (Str.ofString " !#$&'()*+,-./0123456789:;<=>?@ABCXYZ[]^_`abcxyz{|}~").cps.toList
theorem many_len : manyS.length ≤ 60 ∧ 0 < manyS.length := by decide +kernel
section
variable {P : Program} {w : World} {K : PySem.W.Frag} {mg : Str → Option Value} {base : Heap}
def cSpoilt : VSpec := fun ds Q _ => ∃ (p : Val) (m : Nat) (x : Str), ds = [p, .str x] ∧ PuW p m ∧ m ≤ 10000000 ∧ x.length ≤ 30000 ∧ ∀ (p' : Val) (y : Str), PuW p' (m + 30) → y.length ≤ 2 * x.length + 50 → Q [p'] (.str y)
theorem M_l_spoilt : Mono cSpoilt := fun ds Q Q' E E' h _ ⟨p, m, x, a, b, c, d, q⟩ => ⟨p, m, x, a, b, c, d, fun p' y z u => h _ _ (q p' y z u)⟩
theorem v_l_spoilt (T : Tx K mg) : FnOk P w K mg base CX0 (3) T.f_l_spoilt T.fd_l_spoilt ["_law_purse_here", "_law_text"] (vsp K T.tabs [0] 2 cSpoilt) := by
  have G_l_draw : FnOk P w K mg base CX0 _ _ _ _ _ := v_draw T T.tabs
  refine T.F_l_spoilt.ok sc_l_spoilt (fun vs H Q E h => vsp_len h) (fun cdv A outer s H vs Q E hr h => ⟨_, (pss_cons (ps_set (i := 2) sc_l_spoilt.nd rfl (Or.inl rfl) (pe_call G_l_draw (hr.mono (by decide)) (by rfl) T.g_l_draw T.F_l_draw.kp T.b_l_draw .nil pass0 (pa_cons (pv 0) (pa_cons pe_int pa_nil))))
      (pss_cons (ps_set (i := 3) sc_l_spoilt.nd rfl (Or.inl rfl) (pe_call G_l_draw (hr.mono (by decide)) (by rfl) T.g_l_draw T.F_l_draw.kp T.b_l_draw .nil pass0 (pa_cons (pv 0) (pa_cons (pe_op op_add (pe_callB (show CallR _ (.builtin "len") (fun xs H Q => ∃ x n, xs = [x] ∧ LenV K x H n ∧ Q (.int (n : Nat)) H) from call_len) (by rfl) T.m_len PySem.boot_len (pa_cons (pv 1) pa_nil)) pe_int) pa_nil))))
      (pss_cons (ps_set (i := 4) sc_l_spoilt.nd rfl (Or.inl rfl) (pe_bm PySem.F.plainAttrs_str PySem.F.slot_str_split PySem.F.type_str_split (show MtR _ "str.split" rSplit from mt_split) (pv 1) (pa_cons pe_str pa_nil)))
      (pss_cons (ps_set (i := 5) sc_l_spoilt.nd rfl (Or.inl rfl) (pe_call G_l_draw (hr.mono (by decide)) (by rfl) T.g_l_draw T.F_l_draw.kp T.b_l_draw .nil pass0 (pa_cons (pv 0) (pa_cons (pe_callB call_len_seq (by rfl) T.m_len PySem.boot_len (pa_cons (pv 4) pa_nil)) pa_nil))))
      (pss_cons (ps_set (i := 6) sc_l_spoilt.nd rfl (Or.inl rfl) (pe_op op_add_str pe_str pe_str))
      (pss_cons (ps_if (pt_cmpR op_eq (pe_call G_l_draw (hr.mono (by decide)) (by rfl) T.g_l_draw T.F_l_draw.kp T.b_l_draw .nil pass0 (pa_cons (pv 0) (pa_cons pe_int pa_nil))) pe_int (nomark _)) (pss_one (ps_set (i := 6) sc_l_spoilt.nd rfl (Or.inl rfl) pe_str)) pss_nil)
      (pss_cons (ps_set (i := 7) sc_l_spoilt.nd rfl (Or.inl rfl) (pe_ix ix_str (pv 6) (pe_call G_l_draw (hr.mono (by decide)) (by rfl) T.g_l_draw T.F_l_draw.kp T.b_l_draw .nil pass0 (pa_cons (pv 0) (pa_cons (pe_callB (show CallR _ (.builtin "len") (fun xs H Q => ∃ x n, xs = [x] ∧ LenV K x H n ∧ Q (.int (n : Nat)) H) from call_len) (by rfl) T.m_len PySem.boot_len (pa_cons (pv 6) pa_nil)) pa_nil))) (fun _ _ => rfl)))
      (pss_cons (ps_set (i := 8) sc_l_spoilt.nd rfl (Or.inl rfl) (pe_lst (pa_cons pe_str (pa_cons pe_str (pa_cons pe_str (pa_cons pe_str (pa_cons pe_str (pa_cons pe_str (pa_cons pe_str (pa_cons pe_str (pa_cons pe_str (pa_cons pe_str (pa_cons pe_str (pa_cons pe_str pa_nil))))))))))))))
      (pss_cons (ps_set (i := 8) sc_l_spoilt.nd rfl (Or.inl rfl) (pe_op op_cat (pv 8) (pe_lst (pa_cons pe_str (pa_cons pe_str pa_nil)))))
      (pss_cons (ps_set (i := 8) sc_l_spoilt.nd rfl (Or.inl rfl) (pe_op op_cat (pv 8) (pe_lst (pa_cons pe_str (pa_cons pe_str (pa_cons pe_str (pa_cons pe_str (pa_cons pe_str (pa_cons pe_str (pa_cons pe_str pa_nil))))))))))
      (pss_cons (ps_if (pt_cmpR op_eq (pv 2) pe_int (nomark _)) (pss_one (ps_ret (pe_op op_add_str (pe_slice sl_str (pv 1) po_none (po_some (pv 3))) (pe_slice sl_str (pv 1) (po_some (pe_op op_add (pv 3) pe_int)) po_none)))) pss_nil)
      (pss_cons (ps_if (pt_cmpR op_lt (pv 2) pe_int (nomark _)) (pss_one (ps_ret (pe_op op_add_str (pe_op op_add_str (pe_slice sl_str (pv 1) po_none (po_some (pv 3))) (pv 7)) (pe_slice sl_str (pv 1) (po_some (pv 3)) po_none)))) pss_nil)
      (pss_cons (ps_if (pt_cmpR op_eq (pv 2) pe_int (nomark _)) (pss_one (ps_ret (pe_op op_add_str (pe_op op_add_str (pe_slice sl_str (pv 1) po_none (po_some (pv 3))) (pv 7)) (pe_slice sl_str (pv 1) (po_some (pe_op op_add (pv 3) pe_int)) po_none)))) pss_nil)
      (pss_cons (ps_if (pt_cmpR op_eq (pv 2) pe_int (nomark _)) (pss_one (ps_ret (pe_bm PySem.F.plainAttrs_str PySem.F.slot_str_join PySem.F.type_str_join mt_join pe_str (pa_cons (pe_op op_cat (pe_op op_cat (pe_slice sl_list (pv 4) po_none (po_some (pv 5))) (pe_lst (pa_cons (pe_ix ix_list (pv 8) (pe_call G_l_draw (hr.mono (by decide)) (by rfl) T.g_l_draw T.F_l_draw.kp T.b_l_draw .nil pass0 (pa_cons (pv 0) (pa_cons (pe_callB call_len_seq (by rfl) T.m_len PySem.boot_len (pa_cons (pv 8) pa_nil)) pa_nil))) (fun _ _ => rfl)) pa_nil))) (pe_slice sl_list (pv 4) (po_some (pe_op op_add (pv 5) pe_int)) po_none)) pa_nil)))) pss_nil)
      (pss_cons (ps_if (pt_cmpR op_eq (pv 2) pe_int (nomark _)) (pss_one (ps_ret (pe_bm PySem.F.plainAttrs_str PySem.F.slot_str_join PySem.F.type_str_join mt_join pe_str (pa_cons (pe_op op_cat (pe_op op_cat (pe_slice sl_list (pv 4) po_none (po_some (pv 5))) (pe_lst (pa_cons (pe_ix ix_list (pv 4) (pv 5) (fun _ _ => rfl)) pa_nil))) (pe_slice sl_list (pv 4) (po_some (pv 5)) po_none)) pa_nil)))) pss_nil)
      (pss_cons (ps_if (pt_cmpR op_eq (pv 2) pe_int (nomark _)) (pss_one (ps_ret (pe_bm PySem.F.plainAttrs_str PySem.F.slot_str_join PySem.F.type_str_join mt_join pe_str (pa_cons (pe_revL (pe_bm PySem.F.plainAttrs_str PySem.F.slot_str_split PySem.F.type_str_split (show MtR _ "str.split" rSplit from mt_split) (pv 1) (pa_cons pe_str pa_nil))) pa_nil)))) pss_nil)
      (pss_one (ps_ret (pe_op op_add_str (pe_op op_add_str (pv 1) (pe_ix ix_list (pe_lst (pa_cons pe_str (pa_cons pe_str pa_nil))) (pe_op op_mod (pv 3) pe_int) (fun _ _ => rfl))) (pv 1)))))))))))))))))))), (vfn (N := 9) (lo := []) (Ef := [0]) U1 h rfl (by decide) rfl rfl hU1 (simS_seq (simS_asg (simE_call1 (i := 0) M_l_draw (simA_own (i := 0) rfl (simA_consF simE_int simA_nil rfl rfl rfl rfl rfl)) rfl rfl (show 0 < 9 by decide)) (simG_name (i := 2) (show 2 < 9 by decide) rfl rfl) rfl rfl)
      (simS_seq (simS_asg (simE_call1 (i := 0) M_l_draw (simA_own (i := 0) rfl (simA_consF (simE_op r2_ii (simE_cb cb_lenS (simA_varF (i := 1) simA_nil)) simE_int rfl) simA_nil rfl rfl rfl rfl rfl)) rfl rfl (show 0 < 9 by decide)) (simG_name (i := 3) (show 3 < 9 by decide) rfl rfl) rfl rfl)
      (simS_seq (simS_asg (simE_split (simE_var (i := 1) rfl)) (simG_name (i := 4) (show 4 < 9 by decide) rfl rfl) rfl rfl)
      (simS_seq (simS_asg (simE_call1 (i := 0) M_l_draw (simA_own (i := 0) rfl (simA_consF (simE_cb cb_len (simA_var (i := 4) rfl simA_nil)) simA_nil rfl rfl rfl rfl rfl)) rfl rfl (show 0 < 9 by decide)) (simG_name (i := 5) (show 5 < 9 by decide) rfl rfl) rfl rfl)
      (simS_seq (simS_asg (simE_op r2_addS simE_str simE_str rfl) (simG_name (i := 6) (show 6 < 9 by decide) rfl rfl) rfl rfl)
      (simS_seq (simS_if (simT_test (simE_op r2_eq (simE_call1 (i := 0) M_l_draw (simA_own (i := 0) rfl (simA_consF simE_int simA_nil rfl rfl rfl rfl rfl)) rfl rfl (show 0 < 9 by decide)) simE_int rfl)) (simS_asg simE_str (simG_name (i := 6) (show 6 < 9 by decide) rfl rfl) rfl rfl) (simS_next rfl) rfl rfl)
      (simS_seq (simS_asg (simE_op r2_ixS (simE_var (i := 6) rfl) (simE_call1 (i := 0) M_l_draw (simA_own (i := 0) rfl (simA_consF (simE_cb cb_lenS (simA_varF (i := 6) simA_nil)) simA_nil rfl rfl rfl rfl rfl)) rfl rfl (show 0 < 9 by decide)) rfl) (simG_name (i := 7) (show 7 < 9 by decide) rfl rfl) rfl rfl)
      (simS_seq (simS_asg (simE_lst (simA_consF simE_str (simA_consF simE_str (simA_consF simE_str (simA_consF simE_str (simA_consF simE_str (simA_consF simE_str (simA_consF simE_str (simA_consF simE_str (simA_consF simE_str (simA_consF simE_str (simA_consF simE_str (simA_consF simE_str simA_nil rfl rfl rfl rfl rfl) rfl rfl rfl rfl rfl) rfl rfl rfl rfl rfl) rfl rfl rfl rfl rfl) rfl rfl rfl rfl rfl) rfl rfl rfl rfl rfl) rfl rfl rfl rfl rfl) rfl rfl rfl rfl rfl) rfl rfl rfl rfl rfl) rfl rfl rfl rfl rfl) rfl rfl rfl rfl rfl) rfl rfl rfl rfl rfl) (by decide)) (simG_name (i := 8) (show 8 < 9 by decide) rfl rfl) rfl rfl)
      (simS_seq (simS_asg (simE_opL r2_cat (simE_var (i := 8) rfl) (simE_lst (simA_consF simE_str (simA_consF simE_str simA_nil rfl rfl rfl rfl rfl) rfl rfl rfl rfl rfl) (by decide)) rfl) (simG_name (i := 8) (show 8 < 9 by decide) rfl rfl) rfl rfl)
      (simS_seq (simS_asg (simE_opL r2_cat (simE_var (i := 8) rfl) (simE_lst (simA_consF simE_str (simA_consF simE_str (simA_consF simE_str (simA_consF simE_str (simA_consF simE_str (simA_consF simE_str (simA_consF simE_str simA_nil rfl rfl rfl rfl rfl) rfl rfl rfl rfl rfl) rfl rfl rfl rfl rfl) rfl rfl rfl rfl rfl) rfl rfl rfl rfl rfl) rfl rfl rfl rfl rfl) rfl rfl rfl rfl rfl) (by decide)) rfl) (simG_name (i := 8) (show 8 < 9 by decide) rfl rfl) rfl rfl)
      (simS_seq (simS_if (simT_test (simE_op r2_eq (simE_var (i := 2) rfl) simE_int rfl)) (simS_ret (simE_op r2_addS (simE_slS (simE_var (i := 1) rfl) simO_none (simO_some (simE_var (i := 3) rfl)) rfl rfl) (simE_slS (simE_var (i := 1) rfl) (simO_some (simE_op r2_ii (simE_var (i := 3) rfl) simE_int rfl)) simO_none rfl rfl) rfl) rfl rfl rfl rfl) (simS_next rfl) rfl rfl)
      (simS_seq (simS_if (simT_test (simE_op r2_ib (simE_var (i := 2) rfl) simE_int rfl)) (simS_ret (simE_op r2_addS (simE_op r2_addS (simE_slS (simE_var (i := 1) rfl) simO_none (simO_some (simE_var (i := 3) rfl)) rfl rfl) (simE_var (i := 7) rfl) rfl) (simE_slS (simE_var (i := 1) rfl) (simO_some (simE_var (i := 3) rfl)) simO_none rfl rfl) rfl) rfl rfl rfl rfl) (simS_next rfl) rfl rfl)
      (simS_seq (simS_if (simT_test (simE_op r2_eq (simE_var (i := 2) rfl) simE_int rfl)) (simS_ret (simE_op r2_addS (simE_op r2_addS (simE_slS (simE_var (i := 1) rfl) simO_none (simO_some (simE_var (i := 3) rfl)) rfl rfl) (simE_var (i := 7) rfl) rfl) (simE_slS (simE_var (i := 1) rfl) (simO_some (simE_op r2_ii (simE_var (i := 3) rfl) simE_int rfl)) simO_none rfl rfl) rfl) rfl rfl rfl rfl) (simS_next rfl) rfl rfl)
      (simS_seq (simS_if (simT_test (simE_op r2_eq (simE_var (i := 2) rfl) simE_int rfl)) (simS_ret (simE_joinS (simE_opL r2_cat (simE_opL r2_cat (simE_sl (simE_var (i := 4) rfl) simO_none (simO_some (simE_var (i := 5) rfl)) rfl rfl) (simE_lst (simA_consF (simE_flat (simE_ixL (simE_var (i := 8) rfl) (simE_call1 (i := 0) M_l_draw (simA_own (i := 0) rfl (simA_consF (simE_cb cb_len (simA_var (i := 8) rfl simA_nil)) simA_nil rfl rfl rfl rfl rfl)) rfl rfl (show 0 < 9 by decide)) rfl)) simA_nil rfl rfl rfl rfl rfl) (by decide)) rfl) (simE_sl (simE_var (i := 4) rfl) (simO_some (simE_op r2_ii (simE_var (i := 5) rfl) simE_int rfl)) simO_none rfl rfl) rfl)) rfl rfl rfl rfl) (simS_next rfl) rfl rfl)
      (simS_seq (simS_if (simT_test (simE_op r2_eq (simE_var (i := 2) rfl) simE_int rfl)) (simS_ret (simE_joinS (simE_opL r2_cat (simE_opL r2_cat (simE_sl (simE_var (i := 4) rfl) simO_none (simO_some (simE_var (i := 5) rfl)) rfl rfl) (simE_lst (simA_consF (simE_flat (simE_ixL (simE_var (i := 4) rfl) (simE_var (i := 5) rfl) rfl)) simA_nil rfl rfl rfl rfl rfl) (by decide)) rfl) (simE_sl (simE_var (i := 4) rfl) (simO_some (simE_var (i := 5) rfl)) simO_none rfl rfl) rfl)) rfl rfl rfl rfl) (simS_next rfl) rfl rfl)
      (simS_seq (simS_if (simT_test (simE_op r2_eq (simE_var (i := 2) rfl) simE_int rfl)) (simS_ret (simE_joinS (simE_rev (simE_split (simE_var (i := 1) rfl)))) rfl rfl rfl rfl) (simS_next rfl) rfl rfl)
      (simS_ret (simE_op r2_addS (simE_op r2_addS (simE_var (i := 1) rfl) (simE_ixL (simE_lst (simA_consF simE_str (simA_consF simE_str simA_nil rfl rfl rfl rfl rfl) rfl rfl rfl rfl rfl) (by decide)) (simE_op r2_iic (simE_var (i := 3) rfl) simE_int rfl) rfl) rfl) (simE_var (i := 1) rfl) rfl) rfl rfl rfl rfl))))))))))))))))) ?_)⟩)
  rintro ds Q X ⟨p, m, x, rfl, pw, hm, xl, q⟩
  obtain ⟨l, rfl⟩ : ∃ l, x = SX.S l := ⟨x.cps.toList, (SX.S_tl x).symm⟩
  have sl : (SX.S l).length = l.length := SX.S_len l
  rw [sl] at xl
  have e88 : (2 : Int) ^ 88 = 309485009821345068724781056 := by decide
  refine ⟨p, 8, m, rfl, pw, by omega, by decide, by decide, fun p1 wy pw1 y0 y8 => ?_⟩
  refine ⟨rfl, small_le (by rw [sl]; omega), ?_⟩
  refine ⟨p1, _, _, rfl, pw1, by omega, by rw [sl]; omega, by rw [e88, sl]; omega, fun p2 at' pw2 a0 a1 => ?_⟩
  obtain ⟨n, rfl⟩ : ∃ n : Nat, at' = (n : Int) := ⟨at'.toNat, by omega⟩
  have n1 : n ≤ l.length := by rw [sl] at a1; omega
  have fin : ∀ (p' : Val) (k : Nat) (y : List Nat), PuW p' k → k ≤ m + 30 → y.length ≤ 2 * l.length + 50 → Q [p'] (.str (SX.S y)) := fun p' k y h1 h2 h3 => q p' (SX.S y) (h1.mono h2) (by rw [SX.S_len, sl]; exact h3)
  clear q
  have e32 : (Str.ofString " ").cps.toList = [32] := rfl
  have sc : (SX.S l).cps.toList = l := rfl
  refine ⟨_, rfl, by rw [sl]; omega, ?_⟩
  rw [e32, sc]
  have ws := spl_sum [32] l 0 []
  have wn := spl_len [32] l 0 []
  have w1 : 0 < (TL.spl [32] 0 [] l).length := spl_pos [32] l 0 []
  generalize TL.spl [32] 0 [] l = ws' at ws wn w1
  have ws : sgn ws' ≤ l.length + 1 := by
    have e0 : ([] : List Nat).length = 0 := rfl
    rw [e0] at ws
    show (ws'.map List.length).sum + ws'.length ≤ _
    omega
  have wl : (ws'.map fun l => Val.str (SX.S l)).length = ws'.length := List.length_map ..
  refine ⟨p2, ((ws'.map fun l => Val.str (SX.S l)).length : Int), _, rfl, pw2, by omega, by rw [wl]; omega, by rw [e88, wl]; omega, fun p3 k' pw3 k0 k1 => ?_⟩
  conv in (List.set _ _ _) => change [some p2, some (.str (SX.S l)), some (.int wy), some (.int (n : Int)), some (.lst (ws'.map fun l => Val.str (SX.S l))), none, none, none, none]
  rw [wl] at k1
  obtain ⟨k, rfl⟩ : ∃ k : Nat, k' = (k : Int) := ⟨k'.toNat, by omega⟩
  have k2 : k < ws'.length := by omega
  refine ⟨by decide, ?_⟩
  refine ⟨p3, 3, _, rfl, pw3, by omega, by decide, by decide, fun p4 t pw4 t0 t3 => ?_⟩
  conv in (List.set _ _ _) => change [some p3, some (.str (SX.S l)), some (.int wy), some (.int (n : Int)), some (.lst (ws'.map fun l => Val.str (SX.S l))), some (.int (k : Int)), some (.str (SX.S ((Str.ofString "0123456789-. abz").cps.toList ++ (Str.ofString "\n").cps.toList))), none, none]
  have emany : Str.ofString " !#$&'()*+,-./0123456789:;<=>?@ABCXYZ[]^_`abcxyz{|}~" = SX.S manyS := (SX.S_tl _).symm
  obtain ⟨sg, eg, g1, g2⟩ : ∃ sg : List Nat, (sg = if t = 0 then manyS else fewS) ∧ 0 < sg.length ∧ sg.length ≤ 60 := by
    refine ⟨_, rfl, ?_⟩
    by_cases t = 0
    · rw [if_pos ‹_›]
      exact ⟨many_len.2, many_len.1⟩
    · rw [if_neg ‹_›, few_len]
      exact ⟨by decide, by decide⟩
  by_cases tz : t = 0
  case' pos =>
    rw [if_pos tz] at eg
    refine ifT (by rw [decide_eq_true tz]; rfl) ?_
    rw [emany, ← eg]
  case' neg =>
    rw [if_neg tz] at eg
    refine ifF (by rw [decide_eq_false tz]; rfl) ?_
    have ef : (Str.ofString "0123456789-. abz").cps.toList ++ (Str.ofString "\n").cps.toList = sg := eg.symm
    rw [ef]
  all_goals
    clear eg
    have gl : (SX.S sg).length = sg.length := SX.S_len sg
    refine ⟨rfl, small_le (by rw [gl]; omega), ?_⟩
    refine ⟨p4, ((SX.S sg).length : Int), _, rfl, pw4, by omega, by rw [gl]; omega, by rw [e88, gl]; omega, fun p5 v pw5 v0 v1 => ?_⟩
    conv in (List.set _ _ _) => change [some p4, some (.str (SX.S l)), some (.int wy), some (.int (n : Int)), some (.lst (ws'.map fun l => Val.str (SX.S l))), some (.int (k : Int)), some (.str (SX.S sg)), none, none]
    rw [gl] at v1
    obtain ⟨c, hc, _⟩ := atI_in v0 v1
    refine ⟨by rw [gl]; omega, c, hc, ?_⟩
    refine ⟨rfl, rfl, by decide, ?_⟩
    refine ⟨rfl, rfl, by decide, ?_⟩
    clear emany
    have la : (cutL l none (some (n : Int))).length = n := by
      rw [cutL_take', List.length_take]
      omega
    have lb : (cutL l (some (n : Int)) none).length = l.length - n := cutL_dropL l n
    have lb1 : (cutL l (some ((n : Int) + 1)) none).length = l.length - (n + 1) := cutL_dropL l (n + 1)
    have fw : ∀ ps : List (List Nat), Val.flatAll (ps.map fun l => Val.str (SX.S l)) = true := fun ps => flat_map (fun l => Val.str (SX.S l)) (fun _ => rfl) ps
    have ct : cutL (ws'.map fun l => Val.str (SX.S l)) none (some (k : Int)) = (ws'.take k).map fun l => Val.str (SX.S l) := by
      rw [cutL_take', List.map_take]
    have cd : cutL (ws'.map fun l => Val.str (SX.S l)) (some (k : Int)) none = (ws'.drop k).map fun l => Val.str (SX.S l) := by
      rw [cutL_drop' _ _ (by rw [wl]; omega), List.map_drop]
    have cd1 : cutL (ws'.map fun l => Val.str (SX.S l)) (some ((k : Int) + 1)) none = (ws'.drop (k + 1)).map fun l => Val.str (SX.S l) := by
      rw [List.map_drop]
      exact cutL_drop' _ (k + 1) (by rw [wl]; omega)
    have tk : (ws'.take k).length ≤ ws'.length := List.length_take_le' ..
    have dk : (ws'.drop k).length ≤ ws'.length := by rw [List.length_drop]; omega
    have dk1 : (ws'.drop (k + 1)).length ≤ ws'.length := by rw [List.length_drop]; omega
    by_cases w0 : wy = 0
    · refine ifT (by rw [decide_eq_true w0]; rfl) ?_
      refine ⟨by rw [sl]; omega, ?_⟩
      refine ⟨by rw [sl]; omega, ?_⟩
      refine ⟨by rw [SX.S_len, SX.S_len]; show (cutL l none (some (n : Int))).length + (cutL l (some ((n : Int) + 1)) none).length ≤ _; omega, ?_⟩
      refine fin p5 _ _ pw5 (by omega) ?_
      show (cutL l none (some (n : Int)) ++ cutL l (some ((n : Int) + 1)) none).length ≤ _
      rw [List.length_append]
      omega
    refine ifF (by rw [decide_eq_false w0]; rfl) ?_
    by_cases w1 : wy < 3
    · refine ifT (decide_eq_true w1) ?_
      refine ⟨by rw [sl]; omega, ?_⟩
      refine ⟨by rw [SX.S_len]; show (cutL l none (some (n : Int))).length + 1 ≤ _; omega, ?_⟩
      refine ⟨by rw [sl]; omega, ?_⟩
      refine ⟨by rw [SX.S_len, SX.S_len]; show (cutL l none (some (n : Int)) ++ [c]).length + (cutL l (some (n : Int)) none).length ≤ _; rw [List.length_append, List.length_singleton]; omega, ?_⟩
      refine fin p5 _ _ pw5 (by omega) ?_
      show ((cutL l none (some (n : Int)) ++ [c]) ++ cutL l (some (n : Int)) none).length ≤ _
      rw [List.length_append, List.length_append, List.length_singleton]
      omega
    refine ifF (decide_eq_false w1) ?_
    by_cases w3 : wy = 3
    · refine ifT (by rw [decide_eq_true w3]; rfl) ?_
      refine ⟨by rw [sl]; omega, ?_⟩
      refine ⟨by rw [SX.S_len]; show (cutL l none (some (n : Int))).length + 1 ≤ _; omega, ?_⟩
      refine ⟨by rw [sl]; omega, ?_⟩
      refine ⟨by rw [SX.S_len, SX.S_len]; show (cutL l none (some (n : Int)) ++ [c]).length + (cutL l (some ((n : Int) + 1)) none).length ≤ _; rw [List.length_append, List.length_singleton]; omega, ?_⟩
      refine fin p5 _ _ pw5 (by omega) ?_
      show ((cutL l none (some (n : Int)) ++ [c]) ++ cutL l (some ((n : Int) + 1)) none).length ≤ _
      rw [List.length_append, List.length_append, List.length_singleton]
      omega
    refine ifF (by rw [decide_eq_false w3]; rfl) ?_
    by_cases w4 : wy = 4
    · refine ifT (by rw [decide_eq_true w4]; rfl) ?_
      refine ⟨fw ws', ?_⟩
      refine ⟨p5, 21, _, rfl, pw5, by omega, by decide, by decide, fun p6 o pw6 o0 o1 => ?_⟩
      obtain ⟨x, hx, xl⟩ := odd_at o0 o1
      simp only [oddA, oddB, oddC, List.map_cons, List.map_nil] at hx
      conv => whnf
      rw [hx]
      refine ⟨rfl, ?_⟩
      rw [ct]
      refine ⟨fw _, rfl, by rw [List.length_map]; show _ + 1 ≤ _; omega, ?_⟩
      refine ⟨fw ws', ?_⟩
      rw [cd1]
      have e1 : ∀ a : List (List Nat), (a.map fun l => Val.str (SX.S l)) ++ [Val.str (SX.S x)] = (a ++ [x]).map fun l => Val.str (SX.S l) := fun a => by
        rw [List.map_append]
        rfl
      rw [e1]
      refine ⟨fw _, fw _, by rw [List.length_map, List.length_map, List.length_append, List.length_singleton]; omega, ?_⟩
      rw [← List.map_append]
      have h1 := sgn_cut ws' k
      have h2 := sgn_drop ws' k
      have h3 : sgn (ws'.take k ++ [x] ++ ws'.drop (k + 1)) ≤ 2 * l.length + 40 := by
        rw [sgn_app, sgn_app, sgn_one]
        omega
      refine ⟨_, rfl, by show _ + _ * 1 ≤ _; unfold sgn at h3; omega, ?_⟩
      exact fin p6 _ _ pw6 (by omega) (Nat.le_trans (joinL_le 32 _) (by omega))
    refine ifF (by rw [decide_eq_false w4]; rfl) ?_
    by_cases w5 : wy = 5
    · refine ifT (by rw [decide_eq_true w5]; rfl) ?_
      refine ⟨fw ws', ?_⟩
      obtain ⟨x, hx⟩ : ∃ x, ws'[k]? = some x := ⟨_, List.getElem?_eq_getElem k2⟩
      have hk : atI (ws'.map fun l => Val.str (SX.S l)) (k : Int) = some (.str (SX.S x)) := atI_nat (by rw [List.getElem?_map, hx]; rfl)
      conv => whnf
      rw [hk]
      refine ⟨rfl, ?_⟩
      rw [ct]
      refine ⟨fw _, rfl, by rw [List.length_map]; show _ + 1 ≤ _; omega, ?_⟩
      refine ⟨fw ws', ?_⟩
      rw [cd]
      have e1 : ∀ a : List (List Nat), (a.map fun l => Val.str (SX.S l)) ++ [Val.str (SX.S x)] = (a ++ [x]).map fun l => Val.str (SX.S l) := fun a => by
        rw [List.map_append]
        rfl
      rw [e1]
      refine ⟨fw _, fw _, by rw [List.length_map, List.length_map, List.length_append, List.length_singleton]; omega, ?_⟩
      rw [← List.map_append]
      have h1 := sgn_cut ws' k
      have h2 := sgn_at hx
      have h3 : sgn (ws'.take k ++ [x] ++ ws'.drop k) ≤ 2 * l.length + 40 := by
        rw [sgn_app, sgn_app, sgn_one]
        omega
      refine ⟨_, rfl, by show _ + _ * 1 ≤ _; unfold sgn at h3; omega, ?_⟩
      exact fin p5 _ _ pw5 (by omega) (Nat.le_trans (joinL_le 32 _) (by omega))
    refine ifF (by rw [decide_eq_false w5]; rfl) ?_
    by_cases w6 : wy = 6
    · refine ifT (by rw [decide_eq_true w6]; rfl) ?_
      refine ⟨_, rfl, by rw [sl]; omega, ?_⟩
      have e10 : (Str.ofString "\n").cps.toList = [10] := rfl
      rw [e10, sc]
      have vs := spl_sum [10] l 0 []
      generalize TL.spl [10] 0 [] l = vs' at vs
      have vs : sgn vs'.reverse ≤ l.length + 1 := by
        have e0 : ([] : List Nat).length = 0 := rfl
        rw [e0] at vs
        rw [sgn_rev]
        show (vs'.map List.length).sum + vs'.length ≤ _
        omega
      refine ⟨fw vs', ?_⟩
      rw [← List.map_reverse]
      refine ⟨_, rfl, by show _ + _ * 1 ≤ _; unfold sgn at vs; omega, ?_⟩
      exact fin p5 _ _ pw5 (by omega) (Nat.le_trans (joinL_le 10 _) (by omega))
    refine ifF (by rw [decide_eq_false w6]; rfl) ?_
    refine ⟨by show (0 : Int) < 2; decide, ?_⟩
    have m2 : (n : Int) % 2 = 0 ∨ (n : Int) % 2 = 1 := by omega
    conv => whnf
    rcases m2 with m2 | m2
    all_goals
      rw [m2]
      refine ⟨by rw [sl]; show _ + 1 ≤ _; omega, ?_⟩
      refine ⟨by rw [SX.S_len, sl, List.length_append]; show l.length + 1 + _ ≤ _; omega, ?_⟩
      refine fin p5 _ _ pw5 (by omega) ?_
      show ((l ++ [_]) ++ l).length ≤ _
      rw [List.length_append, List.length_append, List.length_singleton]
      omega
end
/-! ### the same, with draws within what stands third -/
section
variable {c : Vc} {te tm : TE} {we wm : VW} {S : VSpec} {i : Nat}
theorem simE_callF3e (hM : Mono S) (h1 : SimE c te [] (some []) [] we) (h2 : SimE c tm [] (some []) [i] wm) (hm : c.ms.contains i = true) (hi : i < c.N) : SimE c (tCall (vsp c.K c.Ps [0, 1] 3 S) [] c.E (tCons (tVar i) (tCons te (tCons tm tNil)))) [] (some []) [i] (wCallF3 i S c.xe we wm) := ⟨fun env σ H Fs Q R S0 hw k => by
  have hm : i ∈ c.ms := by simpa using hm
  unfold wCallF3 at hw
  split at hw
  case h_2 => exact hw.elim
  rename_i p0 hp0
  obtain ⟨v, hv, _⟩ := S0.at_ i p0 hp0
  have hv := hv.1 hi
  refine ⟨v, hv, h1.sim env σ H Fs _ _ S0 hw fun v1 d1 G1 env1 H1 Fs1 o1 r1 s1 f1 q1 => h2.sim env1 σ H1 Fs1 _ _ o1.sr q1 fun v2 d2 G2 env2 H2 Fs2 o2 r2 s2 f2 q2 => ?_⟩
  obtain ⟨fl, q2⟩ := q2
  have z := r2.flat fl
  subst z
  split at q2
  case h_2 => exact q2.elim
  rename_i p hp
  obtain ⟨v', hv', rp⟩ := o2.sr.at_ i p hp
  have hv' := hv'.1 hi
  rw [hv] at hv'
  cases hv'
  obtain ⟨r1', s1'⟩ := r1.eff o1.sr o2.ef s1 rfl
  obtain ⟨nd1, new1⟩ := f1 [] rfl
  have new1 : ∀ a ∈ G1, H a = none := fun a ha => (new1 a ha).elim id fun ⟨_, h, _⟩ => nomatch h
  have O12 := o1.trans o2
  have fsame : ∀ j ∈ c.ms, j ≠ i → Fs2 j = Fs j := fun j hj ne => O12.ef.out j hj fun h => ne (List.mem_singleton.mp h)
  have foot2 : ∀ a ∈ Fs2 i, a ∈ Fs i ∨ H a = none := fun a ha => O12.ef.foot i hm a ha
  have g1f : ∀ j, ∀ a ∈ G1, a ∉ Fs2 j := fun j a ha z => by
    by_cases hj : j ∈ c.ms
    · exact s1' a ha j hj (fun h => nomatch h) z
    · exact (S0.mutb j a (O12.vl j hj a z)).ex (new1 a ha)
  have Sc : Sr ⟨c.K, c.Ps, [0, 1], 3, fun _ _ _ => False, fun _ => False, false, 0⟩ ([p, d1, d2].map some) ([v, v1, v2].map some) H2 (fF3 (Fs2 i) G1) := by
    refine ⟨rfl, rfl, fun j d h => ?_, fun j h => ?_, fun x hx j hj a ha z => ?_, fun x hx => ?_, o2.sr.tb, xk0⟩
    · rcases j with _ | _ | _ | j
      · cases h
        exact ⟨v, .of (show 0 < 3 by decide) rfl, rp⟩
      · cases h
        exact ⟨v1, .of (show 1 < 3 by decide) rfl, r1'⟩
      · cases h
        exact ⟨v2, .of (show 2 < 3 by decide) rfl, r2⟩
      · simp at h
    · rcases j with _ | _ | _ | j
      · exact absurd rfl (h p)
      · exact absurd rfl (h d1)
      · rfl
      · rfl
    · rcases two01 hx with rfl | rfl
      · rcases j with _ | _ | j
        · exact hj rfl
        · exact g1f i a z ha
        · cases z
      · rcases j with _ | _ | j
        · exact g1f i a ha z
        · exact hj rfl
        · cases z
    · rcases two01 hx with rfl | rfl
      · exact o2.sr.nd i hm
      · exact nd1
  have effs : ∀ {Gs' : Fp} {H' : Hp}, Eff [0, 1] [0, 1] (fF3 (Fs2 i) G1) H2 Gs' H' → Eff c.ms [i] Fs H (upF Fs2 i (Gs' 0)) H' := fun {Gs' H'} ef => by
    refine ⟨fun j hj => by rw [List.mem_singleton.mp hj]; exact hm, fun b o hb hH => ?_, fun a ha => O12.ef.gr a (ef.gr a ha), fun j hj nn => ?_, fun j hj a ha => ?_⟩
    · have nb : b ∉ Fs i := fun z => hb (by rw [List.flatMap_singleton]; exact z)
      have n2 : b ∉ [0, 1].flatMap (fF3 (Fs2 i) G1) := fun z => by
        obtain ⟨x, hx, y⟩ := List.mem_flatMap.mp z
        rcases two01 hx with rfl | rfl
        · rcases foot2 b y with t | t
          · exact nb t
          · rw [hH] at t
            cases t
        · have := new1 b y
          rw [hH] at this
          cases this
      rcases O12.ef.kp b o hb hH with y | ⟨ps, qs, rfl, y⟩
      · exact ef.kp b o n2 y
      · rcases ef.kp b _ n2 y with x | ⟨_, qs', _, x⟩
        · exact .inr ⟨ps, qs, rfl, x⟩
        · exact .inr ⟨ps, qs', rfl, x⟩
    · have ne : j ≠ i := fun z => nn (List.mem_singleton.mpr z)
      rw [upF_ne ne]
      exact fsame j hj ne
    · by_cases e : j = i
      · subst e
        rw [upF_self] at ha
        rcases ef.foot 0 (by simp) a ha with y | y
        · exact foot2 a y
        · exact .inr (O12.ef.gr a y)
      · rw [upF_ne e, fsame j hj e] at ha
        exact .inl ha
  show vsp c.K c.Ps [0, 1] 3 S [v, v1, v2] H2 Q c.E
  refine ⟨_, _, Sc, hM _ _ _ _ _ (fun ds' rv hb H' u F Gs' O rr nd new => ?_) (fun x hx H' Gs' ef tb => ?_) q2⟩
  · cases ds' with
    | nil => exact hb.elim
    | cons p' ds' =>
      have ef := effs O.ef
      have hN2 : i < env2.length := by rw [o2.sr.le]; omega
      have g0 : ∀ a ∈ Gs' 0, a ∈ Fs2 i ∨ H2 a = none := fun a ha => O.ef.foot 0 (by simp) a ha
      refine k u rv F _ H' (upF Fs2 i (Gs' 0)) ⟨⟨by rw [List.length_set, o2.sr.le], o2.sr.ls, fun j d h => ?_, fun j h => ?_, fun x hx j hj a ha z => ?_, fun x hx => ?_, O.tb, S0.xk.eff ef⟩, ef, fun j hj a ha => ?_⟩ rr (fun a ha j hj _ z => ?_) (fun mv e => ⟨nd, fun a ha => .inl (O12.ef.gr a (new a ha).1)⟩) hb
      · rcases set_at h with ⟨rfl, rfl⟩ | ⟨ne, h⟩
        · obtain ⟨w, d, g1, g2, g3⟩ := O.rp 0 (by simp)
          cases g1
          cases g2
          exact ⟨_, .of hi hv, by rw [upF_self]; exact g3⟩
        · obtain ⟨w, g1, g2⟩ := o2.sr.at_ j d h
          refine ⟨w, g1, ?_⟩
          rw [upF_ne ne]
          refine g2.kp O.ef.kp (Sc.effm _) fun a ha z => ?_
          obtain ⟨x, hx, y⟩ := List.mem_flatMap.mp z
          rcases two01 hx with rfl | rfl
          · exact o2.sr.sep i hm j ne a y ha
          · exact g1f j a y ha
      · by_cases e : j = i
        · subst e
          exact absurd (by rw [List.getElem?_set_self hN2]) (h p')
        · rw [upF_ne e]
          refine o2.sr.emp j fun d' h' => h d' ?_
          rw [List.getElem?_set_ne (Ne.symm e)]
          exact h'
      · by_cases e : x = i
        · subst e
          rw [upF_self] at ha
          rw [upF_ne hj] at z
          rcases g0 a ha with y | y
          · exact o2.sr.sep x hx j hj a y z
          · exact (o2.sr.mutb j a z).ex y
        · rw [upF_ne e] at ha
          by_cases e2 : j = i
          · subst e2
            rw [upF_self] at z
            rcases g0 a z with y | y
            · exact o2.sr.sep x hx j hj a ha y
            · exact (o2.sr.mutb x a ha).ex y
          · rw [upF_ne e2] at z
            exact o2.sr.sep x hx j hj a ha z
      · by_cases e : x = i
        · subst e
          rw [upF_self]
          exact O.nd 0 (by simp)
        · rw [upF_ne e]
          exact o2.sr.nd x hx
      · rw [upF_ne fun e => hj (by rw [e]; exact hm)] at ha
        exact O12.vl j hj a ha
      · by_cases e : j = i
        · subst e
          rw [upF_self] at z
          exact (new a ha).2 0 (by simp) z
        · rw [upF_ne e] at z
          exact (o2.sr.mutb j a z).ex (new a ha).1
  · have ef := effs ef
    exact S0.xk x H' _ (ef.mono (fun j hj => ef.sub j hj) fun _ z => z) tb hx⟩
end
section
variable {P : Program} {w : World} {K : PySem.W.Frag} {mg : Str → Option Value} {base : Heap}
def spLaw (T : Tx K mg) : Sp := fun vs H Q _ => ∃ (a : Addr) (ns : List Int), vs = [.ref a] ∧ SqL K H a (ns.map V.int) ∧ ns.length ≤ 63 ∧ Tb T.tabs H ∧ ∀ H', Q (.bl true) H'
/-- a law that makes things of its own: the store is empty at first -/
def g0 : GS := fun _ => none
def cLawG : VSpec := fun ds Q _ => ∃ (d : Val) (ns : List Int), ds = [d, .gho g0] ∧ (d = .lst (ns.map Val.int) ∨ d = .frz (ns.map Val.int)) ∧ ns.length ≤ 63 ∧ ∀ g, Q [g] (.bl true)
theorem law_ofG (T : Tx K mg) {k : Nat} {f : Addr} {fd : FuncData} {ps : List Str} (h : FnOk P w K mg base CX0 k f fd ps (vspG K T.tabs [] 1 cLawG)) : FnOk P w K mg base CX0 k f fd ps (spLaw T) := h.imp fun vs H Q E ⟨a, ns, e, hS, hl, tb, q⟩ => by
  subst e
  obtain ⟨d, F, hd, r⟩ : ∃ d F, (d = Val.lst (ns.map Val.int) ∨ d = .frz (ns.map Val.int)) ∧ Rp K H F (.ref a) d := by
    rcases frzn_of hS with z | z
    · exact ⟨_, [a], .inl rfl, rp_ints z⟩
    · exact ⟨_, [], .inr rfl, .frz z (rpa_ints ns)⟩
  refine ⟨[d, .gho g0], fun j => if j = 0 then F else [], ⟨rfl, rfl, fun j d' h => ?_, fun j h => ?_, fun i hi j hj b hb z => ?_, fun i hi => ?_, tb, xk0⟩, d, ns, rfl, hd, hl, fun g H' v F' Fs' _ r' _ _ => ?_⟩
  · rcases j with _ | _ | j
    · cases h
      exact ⟨_, ⟨fun _ => rfl, fun z => absurd (show 1 ≤ 0 from z) (by decide)⟩, r⟩
    · cases h
      exact ⟨.non, ⟨fun z => absurd (show 1 < 1 from z) (by decide), fun _ => rfl⟩, .gho List.nodup_nil (fun a => ⟨(fun z => nomatch z), fun ⟨_, z⟩ => nomatch z⟩) fun _ _ z => nomatch z⟩
    · simp at h
  · rcases j with _ | j
    · exact absurd rfl (h d)
    · rfl
  · have hi : i = 1 := List.mem_singleton.mp hi
    subst hi
    cases hb
  · have hi : i = 1 := List.mem_singleton.mp hi
    subst hi
    exact List.nodup_nil
  · rw [r'.bl_eq]
    exact q H'
end
section
variable {P : Program} {w : World} {K : PySem.W.Frag} {mg : Str → Option Value} {base : Heap}
theorem sgn_spans {c : List Span} (h : c.all isSpan = true) : sgn (c.map spanL) ≤ 29 * c.length := by
  induction c with
  | nil => exact Nat.le_refl _
  | cons a r ih =>
    rw [List.all_cons, Bool.and_eq_true] at h
    have e : sgn ((a :: r).map spanL) = sgn [spanL a] + sgn (r.map spanL) := sgn_app [spanL a] (r.map spanL)
    rw [sgn_one] at e
    have h1 := spanL_len h.1
    have h2 := ih h.2
    rw [List.length_cons]
    omega
theorem shelfL_few {k : Kept} (ok : KOk k) (h : k.length ≤ 5) : (shelfL k).length ≤ 6000 := by
  have h1 := joinL_le 10 ((sortR k).map rowL)
  have h2 := rows_sum (sortR_each ok)
  have h3 := sortR_len k
  unfold sgn at h1
  rw [List.length_map] at h1
  unfold shelfL
  omega
theorem putR_few (k : Kept) (nm : Str) (s : Span) (w : Int) : (putR k nm s w).length ≤ k.length + 1 := by
  rw [putR_len]
  split <;> omega
theorem sgn_le {α : Type} (f : α → List Nat) (b : Nat) : ∀ l : List α, (∀ x ∈ l, (f x).length ≤ b) → sgn (l.map f) ≤ (b + 1) * l.length
  | [], _ => Nat.zero_le _
  | a :: r, h => by
    have e : sgn ((a :: r).map f) = sgn [f a] + sgn (r.map f) := sgn_app [f a] (r.map f)
    rw [sgn_one] at e
    have h1 := h a List.mem_cons_self
    have h2 := sgn_le f b r fun x hx => h x (List.mem_cons_of_mem _ hx)
    rw [List.length_cons, Nat.mul_add]
    omega
/-- a row of the long shelf -/
def alpha (k : Nat) : List Nat := ([97 + ((k : Int) / 26).toNat] ++ [97 + ((k : Int) % 26).toNat]) ++ (Str.ofString " 0..1 7").cps.toList
theorem alpha_len (k : Nat) : (alpha k).length = 9 := by
  unfold alpha
  rw [List.length_append, List.length_append]
  rfl
/-- a span of the long cover -/
def threes (k : Nat) : List Nat := (decL (3 * (k : Int)) ++ (Str.ofString "..").cps.toList) ++ decL (3 * (k : Int) + 1)
theorem threes_len {k : Nat} (h : k ≤ 1000) : (threes k).length ≤ 28 := by
  unfold threes
  have d1 := decL_len (i := 3 * (k : Int)) (by omega)
  have d2 := decL_len (i := 3 * (k : Int) + 1) (by omega)
  rw [List.length_append, List.length_append]
  show _ + 2 + _ ≤ _
  omega
theorem g0_ins : InsOnly g0 := fun _ _ z => nomatch z
theorem ok_law (T : Tx K mg) (B : Tbs T base) {f : Addr} {fd : FuncData} (F : Fun K "law" "law" s_law f fd) : FnOk P w K mg base CX0 (9) f fd ["_law_script"] (spLaw T) := by
  have G_l_purse : FnOk P w K mg base CX0 _ _ _ _ _ := v_purse T T.tabs
  have G_l_names : FnOk P w K mg base CX0 _ _ _ _ _ := v_l_names T
  have G_l_draw : FnOk P w K mg base CX0 _ _ _ _ _ := v_draw T T.tabs
  have G_l_span : FnOk P w K mg base CX0 _ _ _ _ _ := v_span T T.tabs
  have G_l_cover : FnOk P w K mg base CX0 _ _ _ _ _ := v_l_cover T
  have G_l_span_text : FnOk P w K mg base CX0 _ _ _ _ _ := v_l_span_text T
  have G_l_shelf_text : FnOk P w K mg base CX0 _ _ _ _ _ := v_l_shelf_text T
  have G_l_right : FnOk P w K mg base CX0 _ _ _ _ _ := v_l_right T B
  have G_l_spoilt : FnOk P w K mg base CX0 _ _ _ _ _ := v_l_spoilt T
  refine law_ofG T ?_
  refine F.ok sc_law (fun vs H Q E h => vspG_len h) (fun cdv A outer s H vs Q E hr h => ⟨_, (pss_cons (ps_set (i := 1) sc_law.nd rfl (Or.inl rfl) (pe_call G_l_names (hr.mono (by decide)) (by rfl) T.g_l_names T.F_l_names.kp T.b_l_names .nil pass0 (pa_cons (pe_call G_l_purse (hr.mono (by decide)) (by rfl) T.g_l_purse T.F_l_purse.kp T.b_l_purse .nil pass0 (pa_cons (pv 0) (pa_cons pe_int pa_nil))) (pa_cons pe_int pa_nil))))
      (pss_cons (ps_for PassesOwn.never (by rfl) (pi_range2 (by rfl) T.m_range (pa_cons pe_int (pa_cons pe_int pa_nil))) (pg_name (i := 2) sc_law.nd rfl (Or.inl rfl))
        (pss_cons (ps_set (i := 3) sc_law.nd rfl (Or.inl rfl) (pe_call G_l_purse (hr.mono (by decide)) (by rfl) T.g_l_purse T.F_l_purse.kp T.b_l_purse .nil pass0 (pa_cons (pv 0) (pa_cons (pv 2) pa_nil))))
      (pss_cons (ps_set (i := 4) sc_law.nd rfl (Or.inl rfl) pe_dnewK)
      (pss_cons (ps_for PassesOwn.never (by rfl) (pi_list (pe_slice sl_list (pv 1) po_none (po_some (pe_call G_l_draw (hr.mono (by decide)) (by rfl) T.g_l_draw T.F_l_draw.kp T.b_l_draw .nil pass0 (pa_cons (pv 3) (pa_cons pe_int pa_nil)))))) (pg_name (i := 5) sc_law.nd rfl (Or.inl rfl))
        (pss_one (ps_asg (pe_tup (pa_cons (pe_call G_l_span (hr.mono (by decide)) (by rfl) T.g_l_span T.F_l_span.kp T.b_l_span .nil pass0 (pa_cons (pv 3) (pa_cons (pe_lst pa_nil) (pa_cons (pe_ix ix_list (pe_lst (pa_cons pe_int (pa_cons (pe_op op_sub (pe_op op_pow pe_int pe_int) pe_int) pa_nil))) (pe_call G_l_draw (hr.mono (by decide)) (by rfl) T.g_l_draw T.F_l_draw.kp T.b_l_draw .nil pass0 (pa_cons (pv 3) (pa_cons pe_int pa_nil))) (fun _ _ => rfl)) pa_nil)))) (pa_cons (pe_call G_l_draw (hr.mono (by decide)) (by rfl) T.g_l_draw T.F_l_draw.kp T.b_l_draw .nil pass0 (pa_cons (pv 3) (pa_cons (pe_op op_add (pe_op op_pow pe_int pe_int) pe_int) pa_nil))) pa_nil))) (pg_sub (pv 4) (pv 5) (set_dict (room_u hr))))))
      (pss_cons (ps_set (i := 6) sc_law.nd rfl (Or.inl rfl) (pe_call G_l_cover (hr.mono (by decide)) (by rfl) T.g_l_cover T.F_l_cover.kp T.b_l_cover .nil pass0 (pa_cons (pv 3) (pa_cons (pe_call G_l_draw (hr.mono (by decide)) (by rfl) T.g_l_draw T.F_l_draw.kp T.b_l_draw .nil pass0 (pa_cons (pv 3) (pa_cons pe_int pa_nil))) pa_nil))))
      (pss_cons (ps_set (i := 7) sc_law.nd rfl (Or.inl rfl) (pe_lst (pa_cons (pe_call G_l_shelf_text (hr.mono (by decide)) (by rfl) T.g_l_shelf_text T.F_l_shelf_text.kp T.b_l_shelf_text .nil pass0 (pa_cons (pe_frzM (pv 4)) pa_nil)) (pa_cons (pe_bm PySem.F.plainAttrs_str PySem.F.slot_str_join PySem.F.type_str_join mt_join pe_str (pa_cons (pe_lc (own := [("_law_span_here", 14)]) (g := (gName 14)) (by rfl) sc_law.nd (pi_list (pv 6)) (blkOk_by (own := [("_law_span_here", 14)]) (N := N_law) (sc := defScope s_law) (by decide +kernel)) (fun _ _ _ _ _ => (pg_name (i := 14) sc_law.nd rfl (Or.inl rfl))) (fun _ _ _ _ _ => pts_nil) (fun _ _ _ _ _ => (pe_call G_l_span_text (hr.mono (by decide)) (by rfl) T.g_l_span_text T.F_l_span_text.kp T.b_l_span_text .nil pass0 (pa_cons (pv 14) pa_nil)))) pa_nil)) pa_nil))))
      (pss_cons (ps_expr (pe_bm PySem.F.plainAttrs_list PySem.F.slot_list_append PySem.F.type_list_append mt_append (pv 7) (pa_cons (pe_call G_l_span_text (hr.mono (by decide)) (by rfl) T.g_l_span_text T.F_l_span_text.kp T.b_l_span_text .nil pass0 (pa_cons (pe_call G_l_span (hr.mono (by decide)) (by rfl) T.g_l_span T.F_l_span.kp T.b_l_span .nil pass0 (pa_cons (pv 3) (pa_cons (pe_lst pa_nil) (pa_cons (pe_op op_sub (pe_op op_pow pe_int pe_int) pe_int) pa_nil)))) pa_nil)) pa_nil)))
      (pss_cons (ps_set (i := 8) sc_law.nd rfl (Or.inl rfl) (pe_ix ix_list (pv 7) (pe_call G_l_draw (hr.mono (by decide)) (by rfl) T.g_l_draw T.F_l_draw.kp T.b_l_draw .nil pass0 (pa_cons (pv 3) (pa_cons pe_int pa_nil))) (fun _ _ => rfl)))
      (pss_cons (ps_if (pt_not (pt_val (pe_call G_l_right (hr.mono (by decide)) (by rfl) T.g_l_right T.F_l_right.kp T.b_l_right .nil pass0 (pa_cons (pv 8) pa_nil)))) (pss_one (ps_ret pe_bl)) pss_nil)
      (pss_one (ps_for PassesOwn.never (by rfl) (pi_range1 (by rfl) T.m_range (pa_cons (pe_op op_add pe_int (pe_call G_l_draw (hr.mono (by decide)) (by rfl) T.g_l_draw T.F_l_draw.kp T.b_l_draw .nil pass0 (pa_cons (pv 3) (pa_cons pe_int pa_nil)))) pa_nil)) (pg_name (i := 9) sc_law.nd rfl (Or.inl rfl))
        (pss_cons (ps_set (i := 8) sc_law.nd rfl (Or.inl rfl) (pe_call G_l_spoilt (hr.mono (by decide)) (by rfl) T.g_l_spoilt T.F_l_spoilt.kp T.b_l_spoilt .nil pass0 (pa_cons (pv 3) (pa_cons (pv 8) pa_nil))))
      (pss_one (ps_if (pt_not (pt_val (pe_call G_l_right (hr.mono (by decide)) (by rfl) T.g_l_right T.F_l_right.kp T.b_l_right .nil pass0 (pa_cons (pv 8) pa_nil)))) (pss_one (ps_ret pe_bl)) pss_nil))))))))))))))
      (pss_cons (ps_set (i := 10) sc_law.nd rfl (Or.inr rfl) pe_str)
      (pss_cons (ps_setLc (i := 11) (own := [("_law_k", 13)]) (g := (gName 13)) (by rfl) sc_law.nd rfl rfl (sw_true rfl rfl rfl (by decide +kernel)) (pi_range1 (by rfl) T.m_range (pa_cons pe_int pa_nil)) (blkOk_by (own := [("_law_k", 13)]) (N := N_law) (sc := defScope s_law) (by decide +kernel)) (fun _ _ _ _ _ => (pg_name (i := 13) sc_law.nd rfl (Or.inl rfl))) (fun _ _ _ _ _ => pts_nil) (fun _ _ _ _ _ => (pe_op op_add_str (pe_op op_add_str (pe_ix ix_str (pv 10) (pe_op op_fdiv (pv 13) pe_int) (fun _ _ => rfl)) (pe_ix ix_str (pv 10) (pe_op op_mod (pv 13) pe_int) (fun _ _ => rfl))) pe_str)))
      (pss_cons (ps_setLc (i := 12) (own := [("_law_k", 13)]) (g := (gName 13)) (by rfl) sc_law.nd rfl rfl (sw_true rfl rfl rfl (by decide +kernel)) (pi_range1 (by rfl) T.m_range (pa_cons pe_int pa_nil)) (blkOk_by (own := [("_law_k", 13)]) (N := N_law) (sc := defScope s_law) (by decide +kernel)) (fun _ _ _ _ _ => (pg_name (i := 13) sc_law.nd rfl (Or.inl rfl))) (fun _ _ _ _ _ => pts_nil) (fun _ _ _ _ _ => (pe_op op_add_str (pe_op op_add_str (pe_callTy call_str_int (by rfl) T.m_str (by decide +kernel) (pa_cons (pe_op op_mul pe_int (pv 13)) pa_nil)) pe_str) (pe_callTy call_str_int (by rfl) T.m_str (by decide +kernel) (pa_cons (pe_op op_add (pe_op op_mul pe_int (pv 13)) pe_int) pa_nil)))))
      (pss_cons (ps_for PassesOwn.never (by rfl) (pi_list (pe_lst (pa_cons pe_str (pa_cons (pe_bm PySem.F.plainAttrs_str PySem.F.slot_str_join PySem.F.type_str_join mt_join pe_str (pa_cons (pv 11) pa_nil)) (pa_cons (pe_bm PySem.F.plainAttrs_str PySem.F.slot_str_join PySem.F.type_str_join mt_join pe_str (pa_cons (pe_slice sl_list (pv 11) po_none (po_some pe_int)) pa_nil)) (pa_cons (pe_bm PySem.F.plainAttrs_str PySem.F.slot_str_join PySem.F.type_str_join mt_join pe_str (pa_cons (pv 12) pa_nil)) (pa_cons (pe_bm PySem.F.plainAttrs_str PySem.F.slot_str_join PySem.F.type_str_join mt_join pe_str (pa_cons (pe_slice sl_list (pv 12) po_none (po_some pe_int)) pa_nil)) pa_nil))))))) (pg_name (i := 8) sc_law.nd rfl (Or.inl rfl))
        (pss_one (ps_if (pt_not (pt_val (pe_call G_l_right (hr.mono (by decide)) (by rfl) T.g_l_right T.F_l_right.kp T.b_l_right .nil pass0 (pa_cons (pv 8) pa_nil)))) (pss_one (ps_ret pe_bl)) pss_nil)))
      (pss_one (ps_ret pe_bl)))))))), (vfnG (own := []) (N := 15) (lo := [3, 4, 7]) (Ef := [15, 3, 4, 7]) (UG0 15) h rfl (by decide) rfl rfl hUG0 (simS_seq (simS_asg (simE_callF M_l_names (simE_call0 M_l_purse (simA_var (i := 0) rfl (simA_consF simE_int simA_nil rfl rfl rfl rfl rfl)) rfl rfl) (simA_consF simE_int simA_nil rfl rfl rfl rfl rfl) rfl) (simG_name (i := 1) (show 1 < 15 by decide) rfl rfl) rfl rfl)
      (simS_cut (simS_for (E' := [3, 4, 7, 15]) (simI_rng2 (simA_consF simE_int (simA_consF simE_int simA_nil rfl rfl rfl rfl rfl) rfl rfl rfl rfl rfl)) (simG_name (i := 2) (show 2 < 15 by decide) rfl rfl) (simS_seq (simS_setO (i := 3) (simE_call0 M_l_purse (simA_var (i := 0) rfl (simA_varF (i := 2) simA_nil)) rfl rfl) (show 3 < 15 by decide) rfl rfl rfl rfl rfl)
      (simS_seq (simS_setO (i := 4) simE_dnew (show 4 < 15 by decide) rfl rfl rfl rfl rfl)
      (simS_cut (simS_for (E' := [3, 4]) (simI_list (simE_sl (simE_var (i := 1) rfl) simO_none (simO_some (simE_call1 (i := 3) M_l_draw (simA_own (i := 3) rfl (simA_consF simE_int simA_nil rfl rfl rfl rfl rfl)) rfl rfl (show 3 < 15 by decide))) rfl rfl)) (simG_name (i := 5) (show 5 < 15 by decide) rfl rfl) (simS_dsetK (i := 4) (simE_tup (simA_consF (simE_callF3e (i := 3) M_l_span (simE_lst simA_nil (by decide)) (simE_flat (simE_ixL (simE_lst (simA_consF simE_int (simA_consF (simE_op r2_ii (simE_op r2_iic simE_int simE_int rfl) simE_int rfl) simA_nil rfl rfl rfl rfl rfl) rfl rfl rfl rfl rfl) (by decide)) (simE_call1 (i := 3) M_l_draw (simA_own (i := 3) rfl (simA_consF simE_int simA_nil rfl rfl rfl rfl rfl)) rfl rfl (show 3 < 15 by decide)) rfl)) rfl (show 3 < 15 by decide)) (simA_consF (simE_call1 (i := 3) M_l_draw (simA_own (i := 3) rfl (simA_consF (simE_op r2_ii (simE_op r2_iic simE_int simE_int rfl) simE_int rfl) simA_nil rfl rfl rfl rfl rfl)) rfl rfl (show 3 < 15 by decide)) simA_nil rfl rfl rfl rfl rfl) rfl rfl rfl rfl rfl) (by decide)) (simE_var (i := 5) rfl) rfl rfl rfl rfl rfl) rfl rfl rfl rfl)
      (simS_seq (simS_asg (simE_call1 (i := 3) M_l_cover (simA_own (i := 3) rfl (simA_consF (simE_call1 (i := 3) M_l_draw (simA_own (i := 3) rfl (simA_consF simE_int simA_nil rfl rfl rfl rfl rfl)) rfl rfl (show 3 < 15 by decide)) simA_nil rfl rfl rfl rfl rfl)) rfl rfl (show 3 < 15 by decide)) (simG_name (i := 6) (show 6 < 15 by decide) rfl rfl) rfl rfl)
      (simS_seq (simS_setO (i := 7) (simE_lst (simA_consF (simE_call0 M_l_shelf_text (simA_consF (simE_frzO (i := 4) (show 4 < 15 by decide) rfl) simA_nil rfl rfl rfl rfl rfl) rfl rfl) (simA_consF (simE_joinS (simE_lc (fx := [0, 1, 2, 3, 4, 5, 6, 7, 8, 9, 10, 11, 12, 13, 15]) (simI_list (simE_var (i := 6) rfl)) (simG_name (i := 14) (show 14 < 15 by decide) rfl rfl) simT_yes (simE_call0 M_l_span_text (simA_varF (i := 14) simA_nil) rfl rfl) rfl rfl rfl)) simA_nil rfl rfl rfl rfl rfl) rfl rfl rfl rfl rfl) (by decide)) (show 7 < 15 by decide) rfl rfl rfl rfl rfl)
      (simS_seq (simS_expr (simE_app (i := 7) (simE_call0 M_l_span_text (simA_consF (simE_callF3 (i := 3) M_l_span (simE_lst simA_nil (by decide)) (simE_op r2_ii (simE_op r2_iic simE_int simE_int rfl) simE_int rfl) rfl (show 3 < 15 by decide)) simA_nil rfl rfl rfl rfl rfl) rfl rfl) rfl) rfl rfl)
      (simS_seq (simS_asg (simE_flat (simE_ixL (simE_own (i := 7)) (simE_call1 (i := 3) M_l_draw (simA_own (i := 3) rfl (simA_consF simE_int simA_nil rfl rfl rfl rfl rfl)) rfl rfl (show 3 < 15 by decide)) rfl)) (simG_name (i := 8) (show 8 < 15 by decide) rfl rfl) rfl rfl)
      (simS_seq (simS_if (simT_not (simT_tB (simE_callG0 M_l_right (simA_varF (i := 8) simA_nil) rfl rfl rfl))) (simS_ret simE_bl rfl rfl rfl rfl) (simS_next rfl) rfl rfl)
      (simS_for (E' := [3, 15]) (simI_rng1 (simA_consF (simE_op r2_ii simE_int (simE_call1 (i := 3) M_l_draw (simA_own (i := 3) rfl (simA_consF simE_int simA_nil rfl rfl rfl rfl rfl)) rfl rfl (show 3 < 15 by decide)) rfl) simA_nil rfl rfl rfl rfl rfl)) (simG_name (i := 9) (show 9 < 15 by decide) rfl rfl) (simS_seq (simS_asg (simE_call1 (i := 3) M_l_spoilt (simA_own (i := 3) rfl (simA_varF (i := 8) simA_nil)) rfl rfl (show 3 < 15 by decide)) (simG_name (i := 8) (show 8 < 15 by decide) rfl rfl) rfl rfl)
      (simS_if (simT_not (simT_tB (simE_callG0 M_l_right (simA_varF (i := 8) simA_nil) rfl rfl rfl))) (simS_ret simE_bl rfl rfl rfl rfl) (simS_next rfl) rfl rfl)) rfl rfl rfl rfl))))))))) rfl rfl rfl rfl)
      (simS_seq (simS_asg simE_str (simG_name (i := 10) (show 10 < 15 by decide) rfl rfl) rfl rfl)
      (simS_seq (simS_asg (simE_lc (fx := [0, 1, 2, 3, 4, 5, 6, 7, 8, 9, 10, 11, 12, 14, 15]) (simI_rng1 (simA_consF simE_int simA_nil rfl rfl rfl rfl rfl)) (simG_name (i := 13) (show 13 < 15 by decide) rfl rfl) simT_yes (simE_op r2_addS (simE_op r2_addS (simE_op r2_ixS (simE_var (i := 10) rfl) (simE_op r2_iic (simE_var (i := 13) rfl) simE_int rfl) rfl) (simE_op r2_ixS (simE_var (i := 10) rfl) (simE_op r2_iic (simE_var (i := 13) rfl) simE_int rfl) rfl) rfl) simE_str rfl) rfl rfl rfl) (simG_name (i := 11) (show 11 < 15 by decide) rfl rfl) rfl rfl)
      (simS_seq (simS_asg (simE_lc (fx := [0, 1, 2, 3, 4, 5, 6, 7, 8, 9, 10, 11, 12, 14, 15]) (simI_rng1 (simA_consF simE_int simA_nil rfl rfl rfl rfl rfl)) (simG_name (i := 13) (show 13 < 15 by decide) rfl rfl) simT_yes (simE_op r2_addS (simE_op r2_addS (simE_cb cb_strI (simA_consF (simE_op r2_iic simE_int (simE_var (i := 13) rfl) rfl) simA_nil rfl rfl rfl rfl rfl)) simE_str rfl) (simE_cb cb_strI (simA_consF (simE_op r2_ii (simE_op r2_iic simE_int (simE_var (i := 13) rfl) rfl) simE_int rfl) simA_nil rfl rfl rfl rfl rfl)) rfl) rfl rfl rfl) (simG_name (i := 12) (show 12 < 15 by decide) rfl rfl) rfl rfl)
      (simS_cut (simS_for (E' := [15]) (simI_list (simE_lst (simA_consF simE_str (simA_consF (simE_joinS (simE_var (i := 11) rfl)) (simA_consF (simE_joinS (simE_sl (simE_var (i := 11) rfl) simO_none (simO_some simE_int) rfl rfl)) (simA_consF (simE_joinS (simE_var (i := 12) rfl)) (simA_consF (simE_joinS (simE_sl (simE_var (i := 12) rfl) simO_none (simO_some simE_int) rfl rfl)) simA_nil rfl rfl rfl rfl rfl) rfl rfl rfl rfl rfl) rfl rfl rfl rfl rfl) rfl rfl rfl rfl rfl) rfl rfl rfl rfl rfl) (by decide))) (simG_name (i := 8) (show 8 < 15 by decide) rfl rfl) (simS_if (simT_not (simT_tB (simE_callG0 M_l_right (simA_varF (i := 8) simA_nil) rfl rfl rfl))) (simS_ret simE_bl rfl rfl rfl rfl) (simS_next rfl) rfl rfl) rfl rfl rfl rfl)
      (simS_ret simE_bl rfl rfl rfl rfl))))))) ?_)⟩)
  clear G_l_purse G_l_names G_l_draw G_l_span G_l_cover G_l_span_text G_l_shelf_text G_l_right G_l_spoilt
  rintro ds Q X ⟨d, ns, rfl, hd, hl, q⟩
  refine ⟨d, ns, _, rfl, hd, by omega, by omega, fun p pw => ?_⟩
  refine ⟨rfl, p, 63000, 5, rfl, pw, by decide, by decide, fun p1 nms pw1 n5 nd nm => ?_⟩
  have c12 : L2.CPow 10 12 := ⟨by decide, by decide, by decide⟩
  have c9 : L2.CPow 10 9 := ⟨by decide, by decide, by decide⟩
  have e12 : (10 : Int) ^ Int.toNat 12 - 1 = 999999999999 := by decide
  have e9 : (10 : Int) ^ Int.toNat 9 + 1 = 1000000001 := by decide
  have nmsl : (nms.map Val.str).length = 5 := by rw [List.length_map, n5]
  refine ⟨fun env => ∃ (y2 y3 y4 y5 y6 y7 y8 y9 : Option Val) (g : GS), env = [some d, some (.lst (nms.map Val.str)), y2, y3, y4, y5, y6, y7, y8, y9, none, none, none, none, none, some (.gho g)] ∧ InsOnly g, ?_, ?_⟩
  · refine ⟨⟨by decide, by decide, by decide, by decide⟩, fun i env => ∃ (y2 y3 y4 y5 y6 y7 y8 y9 : Option Val) (g : GS), env = [some d, some (.lst (nms.map Val.str)), y2, y3, y4, y5, y6, y7, y8, y9, none, none, none, none, none, some (.gho g)] ∧ InsOnly g, ⟨none, none, none, none, none, none, none, none, g0, rfl, g0_ins⟩, ?_, ?_⟩
    · rintro i y env hy ⟨y2, y3, y4, y5, y6, y7, y8, y9, g, rfl, io⟩
      obtain ⟨im, rfl⟩ := rngV_at hy
      clear hy
      have im : i < 12 := im
      refine ⟨rfl, d, ns, 1 + (i : Int), rfl, hd, by omega, by omega, fun p pw => ?_⟩
      refine ⟨fun env => ∃ (p' : Val) (k : Kept) (y5 : Option Val), env = [some d, some (.lst (nms.map Val.str)), some (.int (1 + (i : Int))), some p', some (.dic (keptV k)), y5, y6, y7, y8, y9, none, none, none, none, none, some (.gho g)] ∧ PuW p' 64000 ∧ KOk k ∧ k.length ≤ 5, ?_, ?_⟩
      · refine ⟨p, 6, _, rfl, pw, by decide, by decide, by decide, fun p2 r pw2 r0 r6 => ?_⟩
        refine ⟨flat_map Val.str (fun _ => rfl) nms, ?_⟩
        obtain ⟨rn, rfl⟩ : ∃ rn : Nat, r = (rn : Int) := ⟨r.toNat, by omega⟩
        rw [cutL_take', ← List.map_take]
        refine ⟨fun j env => ∃ (p' : Val) (k : Kept) (y5 : Option Val), env = [some d, some (.lst (nms.map Val.str)), some (.int (1 + (i : Int))), some p', some (.dic (keptV k)), y5, y6, y7, y8, y9, none, none, none, none, none, some (.gho g)] ∧ PuW p' (63003 + 30 * j) ∧ KOk k ∧ k.length ≤ j, ⟨p2, [], y5, rfl, pw2, KOk.nil, Nat.le_refl _⟩, ?_, ?_⟩
        · rintro j x env hx ⟨p', k, y5, rfl, pw', ok, kl⟩
          obtain ⟨nm1, hn, rfl⟩ : ∃ nm1, (nms.take rn)[j]? = some nm1 ∧ x = Val.str nm1 := by
            rw [List.getElem?_map] at hx
            obtain ⟨a, b, c⟩ := Option.map_eq_some_iff.mp hx
            exact ⟨a, b, c.symm⟩
          have hmem := List.mem_of_mem_take (List.mem_of_getElem? hn)
          have jl : j < 5 := by
            have := (List.getElem?_eq_some_iff.mp hn).1
            rw [List.length_take] at this
            omega
          refine ⟨c12, p', 2, _, rfl, pw', by omega, by decide, by decide, fun p3 z pw3 z0 z2 => ?_⟩
          obtain ⟨mm, hat, m1, m2⟩ : ∃ mm : Int, atI [Val.int 9, Val.int ((10 : Int) ^ Int.toNat 12 - 1)] z = some (.int mm) ∧ 1 ≤ mm ∧ mm ≤ 999999999999 := by
            have zz : z = 0 ∨ z = 1 := by omega
            rcases zz with rfl | rfl
            · exact ⟨9, rfl, by decide, by decide⟩
            · exact ⟨_, rfl, by decide, by decide⟩
          conv => whnf
          rw [hat]
          refine ⟨rfl, rfl, p3, mm, 999999999999, _, [], rfl, pw3, by omega, by decide, m1, m2, by decide, by decide, fun p4 lo hi pw4 h1 h2 h3 => ?_⟩
          have os : isSpan (lo, hi) = true := (isSpan_iff _).mpr ⟨h1, h2, h3⟩
          refine ⟨c9, p4, (10 : Int) ^ Int.toNat 9 + 1, _, rfl, pw4, by omega, by decide, by decide, fun p5 wt pw5 w0 w1 => ?_⟩
          rw [e9] at w1
          have ow : isWt wt = true := by
            unfold isWt
            rw [decide_eq_true w0, decide_eq_true (by omega)]
            rfl
          refine ⟨_, rfl, kept_flat k, ?_⟩
          refine ⟨keptV k, nm1, rfl, kept_flat k, rfl, rfl, by unfold keptV; rw [List.length_map]; omega, ?_⟩
          refine ⟨p5, putR k nm1 (lo, hi) wt, _, by rw [← put_kept]; rfl, pw5.mono (by omega), ok.put (nm nm1 hmem).1 os ow (.inr (by omega)), ?_⟩
          have := putR_few k nm1 (lo, hi) wt
          omega
        · rintro env ⟨p', k, y5, rfl, pw', ok, kl⟩
          have : (List.map Val.str (nms.take rn)).length ≤ 5 := by
            rw [List.length_map, List.length_take]
            omega
          exact ⟨p', k, y5, rfl, pw'.mono (by omega), ok, by omega⟩
      · rintro env ⟨p', k, y5, rfl, pw', ok, kl⟩
        refine ⟨p', 6, _, rfl, pw', by omega, by decide, by decide, fun p2 cm pw2 cm0 cm6 => ?_⟩
        obtain ⟨m, rfl⟩ : ∃ m : Nat, cm = (m : Int) := ⟨cm.toNat, by omega⟩
        refine ⟨p2, _, m, rfl, pw2, by omega, by omega, fun p3 c pw3 cs cc cl => ?_⟩
        refine .inl ⟨_, rfl, kept_flat k, k, rfl, ok, ?_⟩
        refine lc_map c spV (fun s => Val.str (SX.S (spanL s))) ?_ (fun _ _ => rfl) (by omega) ?_
        · intro s hs R h
          exact ⟨rfl, s, rfl, List.all_eq_true.mp cs s hs, h⟩
        have sc := sgn_spans cs
        refine ⟨c.map spanL, by rw [List.map_map]; rfl, by show _ + _ * 1 ≤ _; unfold sgn at sc; rw [List.length_map] at sc ⊢; omega, ?_⟩
        have t1l : (SX.S (shelfL k)).length ≤ 6000 := by
          rw [SX.S_len]
          exact shelfL_few ok kl
        have t2l : (SX.S (TL.joinL [32] (c.map spanL))).length ≤ 6000 := by
          rw [SX.S_len]
          exact Nat.le_trans (joinL_le 32 _) (by omega)
        refine ⟨c12, rfl, p3, (10 : Int) ^ Int.toNat 12 - 1, 999999999999, _, [], rfl, pw3, by omega, by decide, by decide, by decide, by decide, by decide, fun p4 lo hi pw4 h1 h2 h3 => ?_⟩
        have os : isSpan (lo, hi) = true := (isSpan_iff _).mpr ⟨h1, h2, h3⟩
        have t3l : (SX.S (spanL (lo, hi))).length ≤ 6000 := by
          rw [SX.S_len]
          exact Nat.le_trans (spanL_len os) (by decide)
        refine ⟨(lo, hi), rfl, os, ?_⟩
        refine ⟨rfl, (show 2 < 1000000 by decide), ?_⟩
        conv in (List.set _ _ _) => change [some d, some (.lst (nms.map Val.str)), some (.int (1 + (i : Int))), some p4, some (.fdc (keptV k)), y5, some (.lst (c.map spV)), some (.lst ([Val.str (SX.S (shelfL k)), Val.str (SX.S (TL.joinL (Str.ofString " ").cps.toList (c.map spanL)))] ++ [Val.str (SX.S (spanL (lo, hi)))])), y8, y9, none, none, none, none, none, some (.gho g)]
        refine ⟨p4, 3, _, rfl, pw4, by omega, by decide, by decide, fun p5 r pw5 r0 r3 => ?_⟩
        obtain ⟨tx, hat, txl⟩ : ∃ tx : Str, atI ([Val.str (SX.S (shelfL k)), Val.str (SX.S (TL.joinL (Str.ofString " ").cps.toList (c.map spanL)))] ++ [Val.str (SX.S (spanL (lo, hi)))]) r = some (.str tx) ∧ tx.length ≤ 6000 := by
          have rr : r = 0 ∨ r = 1 ∨ r = 2 := by omega
          rcases rr with rfl | rfl | rfl
          · exact ⟨_, rfl, t1l⟩
          · exact ⟨_, rfl, t2l⟩
          · exact ⟨_, rfl, t3l⟩
        clear t1l t2l t3l
        conv => whnf
        rw [hat]
        clear hat
        refine ⟨rfl, ?_⟩
        refine ⟨rfl, g, rfl, tx, g, rfl, by omega, io, fun g2 io2 => ?_⟩
        refine ⟨p5, 2, _, rfl, pw5, by omega, by decide, by decide, fun p6 z pw6 z0 z2 => ?_⟩
        refine ⟨⟨by omega, by omega⟩, fun j env => ∃ (p' : Val) (x : Str) (y3 y4 y5 y6 y7 y9 : Option Val) (g : GS), env = [some d, some (.lst (nms.map Val.str)), some (.int (1 + (i : Int))), some p', y4, y5, y6, y7, some (.str x), y9, none, none, none, none, none, some (.gho g)] ∧ PuW p' (70000 + 30 * j) ∧ x.length + 50 ≤ 6050 * 2 ^ j ∧ InsOnly g, ⟨p6, tx, none, _, _, _, _, _, g2, rfl, pw6.mono (by omega), by show _ ≤ 6050 * 1; omega, io2⟩, ?_, ?_⟩
        · rintro j v env hv ⟨p', x, y3, y4, y5, y6, y7, y9, g, rfl, pw', xl, io⟩
          obtain ⟨jm, rfl⟩ := rngV_at hv
          clear hv
          have j2 : j < 2 := by omega
          have pj : 2 ^ j ≤ 2 := by
            rcases j with _ | _ | j
            · decide
            · decide
            · omega
          refine ⟨rfl, p', _, x, rfl, pw', by omega, by omega, fun p1 y pw1 yl => ?_⟩
          refine ⟨rfl, g, rfl, y, g, rfl, by omega, io, fun g2 io2 => ?_⟩
          exact ⟨p1, y, none, _, _, _, _, _, g2, rfl, pw1.mono (by omega), by rw [Nat.pow_succ]; omega, io2⟩
        · rintro env ⟨p', x, y3, y4, y5, y6, y7, y9, g, rfl, pw', xl, io⟩
          exact ⟨_, _, _, _, _, _, _, _, g, rfl, io⟩
    · rintro env ⟨y2, y3, y4, y5, y6, y7, y8, y9, g, rfl, io⟩
      exact ⟨y2, y3, y4, y5, y6, y7, y8, y9, g, rfl, io⟩
  · rintro env ⟨y2, y3, y4, y5, y6, y7, y8, y9, g, rfl, io⟩
    have eabc : (Str.ofString "abcdefghijklmnopqrstuvwxyz") = SX.S abc := by decide +kernel
    rw [eabc]
    refine ⟨⟨by decide, by decide⟩, ?_⟩
    rw [show (61 : Int).toNat = 61 from rfl, rngV_pr]
    refine lc_map (List.range 61) (fun (k : Nat) => Val.int (k : Int)) (fun k => Val.str (SX.S (alpha k))) ?_ (fun _ _ => rfl) (by decide) ?_
    · intro k hk R h
      have k61 := List.mem_range.mp hk
      obtain ⟨_, hc1, rfl, _⟩ := abc_at (r := (k : Int) / 26) (by omega) (by omega)
      obtain ⟨_, hc2, rfl, _⟩ := abc_at (r := (k : Int) % 26) (by omega) (by omega)
      refine ⟨(show CDiv _ _ from ⟨by decide, by decide⟩), by decide, _, hc1, ?_⟩
      refine ⟨(show (0 : Int) < 26 by decide), by decide, _, hc2, ?_⟩
      refine ⟨by rw [SX.S_len, SX.S_len]; show 1 + 1 ≤ _; omega, ?_⟩
      refine ⟨by rw [SX.S_len]; show 2 + 7 ≤ _; omega, ?_⟩
      exact h
    refine ⟨⟨by decide, by decide⟩, ?_⟩
    rw [show (201 : Int).toNat = 201 from rfl, rngV_pr]
    refine lc_map (List.range 201) (fun (k : Nat) => Val.int (k : Int)) (fun k => Val.str (SX.S (threes k))) ?_ (fun _ _ => rfl) (by decide) ?_
    · intro k hk R h
      have k201 := List.mem_range.mp hk
      have d1 := decL_len (i := 3 * (k : Int)) (by omega)
      have d2 := decL_len (i := 3 * (k : Int) + 1) (by omega)
      refine ⟨.inl ⟨by decide, by decide⟩, _, rfl, Nat.lt_trans (show _ < 1000000000000 by omega) pow1900, ?_⟩
      refine ⟨by rw [SX.S_len]; show _ + 2 ≤ _; omega, ?_⟩
      refine ⟨.inl ⟨by decide, by decide⟩, _, rfl, Nat.lt_trans (show _ < 1000000000000 by omega) pow1900, ?_⟩
      refine ⟨by rw [SX.S_len, SX.S_len]; show ((decL (3 * (k : Int)) ++ (Str.ofString "..").cps.toList)).length + _ ≤ _; rw [List.length_append]; show _ + 2 + _ ≤ _; omega, ?_⟩
      exact h
    have rs : sgn ((List.range 61).map alpha) ≤ 10 * 61 := sgn_le alpha 9 (List.range 61) fun x _ => by rw [alpha_len]; omega
    have ss : sgn ((List.range 201).map threes) ≤ 29 * 201 := sgn_le threes 28 (List.range 201) fun x hx => threes_len (by have := List.mem_range.mp hx; omega)
    have er : (List.range 61).map (fun k => Val.str (SX.S (alpha k))) = ((List.range 61).map alpha).map fun l => Val.str (SX.S l) := by
      rw [List.map_map]
      rfl
    have es : (List.range 201).map (fun k => Val.str (SX.S (threes k))) = ((List.range 201).map threes).map fun l => Val.str (SX.S l) := by
      rw [List.map_map]
      rfl
    rw [er, es]
    clear er es
    generalize (List.range 61).map alpha = rows at rs
    generalize (List.range 201).map threes = spans at ss
    have fw : ∀ ps : List (List Nat), Val.flatAll (ps.map fun l => Val.str (SX.S l)) = true := fun ps => flat_map (fun l => Val.str (SX.S l)) (fun _ => rfl) ps
    have rt := sgn_cut rows 60
    have st := sgn_cut spans 200
    refine ⟨fun env => ∃ (y2 y3 y4 y5 y6 y7 y8 y9 y10 y11 y12 y13 y14 : Option Val) (g : GS), env = [some d, some (.lst (nms.map Val.str)), y2, y3, y4, y5, y6, y7, y8, y9, y10, y11, y12, y13, y14, some (.gho g)] ∧ InsOnly g, ?_, ?_⟩
    · refine ⟨rows, rfl, by show _ + _ * 1 ≤ _; unfold sgn at rs; omega, ?_⟩
      refine ⟨fw rows, ?_⟩
      have c60 : cutL (rows.map fun l => Val.str (SX.S l)) none (some 60) = (rows.take 60).map fun l => Val.str (SX.S l) := by
        rw [List.map_take]
        exact cutL_take' _ 60
      have c200 : cutL (spans.map fun l => Val.str (SX.S l)) none (some 200) = (spans.take 200).map fun l => Val.str (SX.S l) := by
        rw [List.map_take]
        exact cutL_take' _ 200
      rw [c60]
      refine ⟨rows.take 60, rfl, by show _ + _ * 1 ≤ _; unfold sgn at rs rt; omega, ?_⟩
      refine ⟨spans, rfl, by show _ + _ * 1 ≤ _; unfold sgn at ss; omega, ?_⟩
      refine ⟨fw spans, ?_⟩
      rw [c200]
      refine ⟨spans.take 200, rfl, by show _ + _ * 1 ≤ _; unfold sgn at ss st; omega, ?_⟩
      have l1 : (SX.S (TL.joinL (Str.ofString "\n").cps.toList rows)).length ≤ 80000 := by
        rw [SX.S_len]
        exact Nat.le_trans (joinL_le 10 rows) (by omega)
      have l2 : (SX.S (TL.joinL (Str.ofString "\n").cps.toList (rows.take 60))).length ≤ 80000 := by
        rw [SX.S_len]
        exact Nat.le_trans (joinL_le 10 _) (by omega)
      have l3 : (SX.S (TL.joinL (Str.ofString " ").cps.toList spans)).length ≤ 80000 := by
        rw [SX.S_len]
        exact Nat.le_trans (joinL_le 32 spans) (by omega)
      have l4 : (SX.S (TL.joinL (Str.ofString " ").cps.toList (spans.take 200))).length ≤ 80000 := by
        rw [SX.S_len]
        exact Nat.le_trans (joinL_le 32 _) (by omega)
      refine ⟨fun _ env => ∃ (y2 y3 y4 y5 y6 y7 y8 y9 y10 y11 y12 y13 y14 : Option Val) (g : GS), env = [some d, some (.lst (nms.map Val.str)), y2, y3, y4, y5, y6, y7, y8, y9, y10, y11, y12, y13, y14, some (.gho g)] ∧ InsOnly g, ⟨_, _, _, _, _, _, _, _, _, _, _, _, _, g, rfl, io⟩, ?_, ?_⟩
      · rintro j v env hv ⟨y2, y3, y4, y5, y6, y7, y8, y9, y10, y11, y12, y13, y14, g, rfl, io⟩
        obtain ⟨t, rfl, tl⟩ : ∃ t, v = Val.str t ∧ t.length ≤ 80000 := by
          rcases j with _ | _ | _ | _ | _ | j
          · cases hv
            exact ⟨_, rfl, by decide⟩
          · cases hv
            exact ⟨_, rfl, l1⟩
          · cases hv
            exact ⟨_, rfl, l2⟩
          · cases hv
            exact ⟨_, rfl, l3⟩
          · cases hv
            exact ⟨_, rfl, l4⟩
          · cases hv
        clear hv
        refine ⟨rfl, g, rfl, t, g, rfl, tl, io, fun g2 io2 => ?_⟩
        exact ⟨_, _, _, _, _, _, _, _, _, _, _, _, _, g2, rfl, io2⟩
      · rintro env ⟨y2, y3, y4, y5, y6, y7, y8, y9, y10, y11, y12, y13, y14, g, rfl, io⟩
        exact ⟨_, _, _, _, _, _, _, _, _, _, _, _, _, g, rfl, io⟩
    · rintro env ⟨y2, y3, y4, y5, y6, y7, y8, y9, y10, y11, y12, y13, y14, g, rfl, io⟩
      exact q _
end
theorem all_mk {l : PySem.W.OpenLaw} {w : World} {K : PySem.W.Frag} {h : Heap} {mg : Str → Option Value} {fa : Addr} (X : K.In h) (G : h.Ns mainGlobals mg) (hfa : mg "law" = some (.ref fa))
    {C_Shelf : Addr}
    {f__wall : Addr} {od__wall an__wall : Option Addr} {sl__wall : Array (Option Value)} {oc__wall kV__wall dc__wall pm__wall cd__wall ct__wall : Value}
    {f_is_whole : Addr} {od_is_whole an_is_whole : Option Addr} {sl_is_whole : Array (Option Value)} {oc_is_whole kV_is_whole dc_is_whole pm_is_whole cd_is_whole ct_is_whole : Value}
    {f_is_place : Addr} {od_is_place an_is_place : Option Addr} {sl_is_place : Array (Option Value)} {oc_is_place kV_is_place dc_is_place pm_is_place cd_is_place ct_is_place : Value}
    {f_is_span : Addr} {od_is_span an_is_span : Option Addr} {sl_is_span : Array (Option Value)} {oc_is_span kV_is_span dc_is_span pm_is_span cd_is_span ct_is_span : Value}
    {f_check_place : Addr} {od_check_place an_check_place : Option Addr} {sl_check_place : Array (Option Value)} {oc_check_place kV_check_place dc_check_place pm_check_place cd_check_place ct_check_place : Value}
    {f_is_cover : Addr} {od_is_cover an_is_cover : Option Addr} {sl_is_cover : Array (Option Value)} {oc_is_cover kV_is_cover dc_is_cover pm_is_cover ct_is_cover ec_is_cover : Value} {cA_is_cover pA_is_cover : Addr} {dd_is_cover : Option Addr} {vc_is_cover : Array Value} {sc_t_is_cover : Array (Option Value)}
    {f_joined : Addr} {od_joined an_joined : Option Addr} {sl_joined : Array (Option Value)} {oc_joined kV_joined dc_joined pm_joined cd_joined ct_joined : Value}
    {f_is_name : Addr} {od_is_name an_is_name : Option Addr} {sl_is_name : Array (Option Value)} {oc_is_name kV_is_name dc_is_name pm_is_name ct_is_name ec_is_name : Value} {cA_is_name pA_is_name : Addr} {dd_is_name : Option Addr} {vc_is_name : Array Value} {sc_t_is_name : Array (Option Value)}
    {f_is_weight : Addr} {od_is_weight an_is_weight : Option Addr} {sl_is_weight : Array (Option Value)} {oc_is_weight kV_is_weight dc_is_weight pm_is_weight cd_is_weight ct_is_weight : Value}
    {f_check_weight : Addr} {od_check_weight an_check_weight : Option Addr} {sl_check_weight : Array (Option Value)} {oc_check_weight kV_check_weight dc_check_weight pm_check_weight cd_check_weight ct_check_weight : Value}
    {f_kept_on : Addr} {od_kept_on an_kept_on : Option Addr} {sl_kept_on : Array (Option Value)} {oc_kept_on kV_kept_on dc_kept_on pm_kept_on cd_kept_on ct_kept_on : Value}
    {f_keep : Addr} {od_keep an_keep : Option Addr} {sl_keep : Array (Option Value)} {oc_keep kV_keep dc_keep pm_keep cd_keep ct_keep : Value}
    {f_row_of : Addr} {od_row_of an_row_of : Option Addr} {sl_row_of : Array (Option Value)} {oc_row_of kV_row_of dc_row_of pm_row_of cd_row_of ct_row_of : Value}
    {f_put_row : Addr} {od_put_row an_put_row : Option Addr} {sl_put_row : Array (Option Value)} {oc_put_row kV_put_row dc_put_row pm_put_row cd_put_row ct_put_row : Value}
    {f_check_length : Addr} {od_check_length an_check_length : Option Addr} {sl_check_length : Array (Option Value)} {oc_check_length kV_check_length dc_check_length pm_check_length cd_check_length ct_check_length : Value}
    {f_spans_on : Addr} {od_spans_on an_spans_on : Option Addr} {sl_spans_on : Array (Option Value)} {oc_spans_on kV_spans_on dc_spans_on pm_spans_on cd_spans_on ct_spans_on : Value}
    {f_first_room : Addr} {od_first_room an_first_room : Option Addr} {sl_first_room : Array (Option Value)} {oc_first_room kV_first_room dc_first_room pm_first_room cd_first_room ct_first_room : Value}
    {f_Shelf___init__ : Addr} {od_Shelf___init__ an_Shelf___init__ : Option Addr} {sl_Shelf___init__ : Array (Option Value)} {oc_Shelf___init__ kV_Shelf___init__ dc_Shelf___init__ pm_Shelf___init__ cd_Shelf___init__ ct_Shelf___init__ : Value}
    {f_Shelf_weigh : Addr} {od_Shelf_weigh an_Shelf_weigh : Option Addr} {sl_Shelf_weigh : Array (Option Value)} {oc_Shelf_weigh kV_Shelf_weigh dc_Shelf_weigh pm_Shelf_weigh cd_Shelf_weigh ct_Shelf_weigh : Value}
    {f_Shelf_back : Addr} {od_Shelf_back an_Shelf_back : Option Addr} {sl_Shelf_back : Array (Option Value)} {oc_Shelf_back kV_Shelf_back dc_Shelf_back pm_Shelf_back cd_Shelf_back ct_Shelf_back : Value}
    {f_Shelf_again : Addr} {od_Shelf_again an_Shelf_again : Option Addr} {sl_Shelf_again : Array (Option Value)} {oc_Shelf_again kV_Shelf_again dc_Shelf_again pm_Shelf_again cd_Shelf_again ct_Shelf_again : Value}
    {f_Shelf_names : Addr} {od_Shelf_names an_Shelf_names : Option Addr} {sl_Shelf_names : Array (Option Value)} {oc_Shelf_names kV_Shelf_names dc_Shelf_names pm_Shelf_names cd_Shelf_names ct_Shelf_names : Value}
    {f_Shelf_span : Addr} {od_Shelf_span an_Shelf_span : Option Addr} {sl_Shelf_span : Array (Option Value)} {oc_Shelf_span kV_Shelf_span dc_Shelf_span pm_Shelf_span cd_Shelf_span ct_Shelf_span : Value}
    {f_Shelf_weight : Addr} {od_Shelf_weight an_Shelf_weight : Option Addr} {sl_Shelf_weight : Array (Option Value)} {oc_Shelf_weight kV_Shelf_weight dc_Shelf_weight pm_Shelf_weight cd_Shelf_weight ct_Shelf_weight : Value}
    {f_Shelf_cover : Addr} {od_Shelf_cover an_Shelf_cover : Option Addr} {sl_Shelf_cover : Array (Option Value)} {oc_Shelf_cover kV_Shelf_cover dc_Shelf_cover pm_Shelf_cover cd_Shelf_cover ct_Shelf_cover : Value}
    {f_Shelf_room : Addr} {od_Shelf_room an_Shelf_room : Option Addr} {sl_Shelf_room : Array (Option Value)} {oc_Shelf_room kV_Shelf_room dc_Shelf_room pm_Shelf_room cd_Shelf_room ct_Shelf_room : Value}
    {f_shelf_of : Addr} {od_shelf_of an_shelf_of : Option Addr} {sl_shelf_of : Array (Option Value)} {oc_shelf_of kV_shelf_of dc_shelf_of pm_shelf_of cd_shelf_of ct_shelf_of : Value}
    {f_number_from : Addr} {od_number_from an_number_from : Option Addr} {sl_number_from : Array (Option Value)} {oc_number_from kV_number_from dc_number_from pm_number_from ct_number_from ec_number_from : Value} {cA_number_from pA_number_from : Addr} {dd_number_from : Option Addr} {vc_number_from : Array Value} {sc_t_number_from : Array (Option Value)}
    {f_span_from : Addr} {od_span_from an_span_from : Option Addr} {sl_span_from : Array (Option Value)} {oc_span_from kV_span_from dc_span_from pm_span_from cd_span_from ct_span_from : Value}
    {f_row_from : Addr} {od_row_from an_row_from : Option Addr} {sl_row_from : Array (Option Value)} {oc_row_from kV_row_from dc_row_from pm_row_from cd_row_from ct_row_from : Value}
    {f_are_rows : Addr} {od_are_rows an_are_rows : Option Addr} {sl_are_rows : Array (Option Value)} {oc_are_rows kV_are_rows dc_are_rows pm_are_rows ct_are_rows ec_are_rows : Value} {cA_are_rows pA_are_rows : Addr} {dd_are_rows : Option Addr} {vc_are_rows : Array Value} {sc_t_are_rows : Array (Option Value)}
    {f_read_span : Addr} {od_read_span an_read_span : Option Addr} {sl_read_span : Array (Option Value)} {oc_read_span kV_read_span dc_read_span pm_read_span cd_read_span ct_read_span : Value}
    {f_read_cover : Addr} {od_read_cover an_read_cover : Option Addr} {sl_read_cover : Array (Option Value)} {oc_read_cover kV_read_cover dc_read_cover pm_read_cover cd_read_cover ct_read_cover : Value}
    {f_read_shelf : Addr} {od_read_shelf an_read_shelf : Option Addr} {sl_read_shelf : Array (Option Value)} {oc_read_shelf kV_read_shelf dc_read_shelf pm_read_shelf cd_read_shelf ct_read_shelf : Value}
    {f_l_at : Addr} {od_l_at an_l_at : Option Addr} {sl_l_at : Array (Option Value)} {oc_l_at kV_l_at dc_l_at pm_l_at cd_l_at ct_l_at : Value}
    {f_l_mixed : Addr} {od_l_mixed an_l_mixed : Option Addr} {sl_l_mixed : Array (Option Value)} {oc_l_mixed kV_l_mixed dc_l_mixed pm_l_mixed cd_l_mixed ct_l_mixed : Value}
    {f_l_purse : Addr} {od_l_purse an_l_purse : Option Addr} {sl_l_purse : Array (Option Value)} {oc_l_purse kV_l_purse dc_l_purse pm_l_purse cd_l_purse ct_l_purse : Value}
    {f_l_draw : Addr} {od_l_draw an_l_draw : Option Addr} {sl_l_draw : Array (Option Value)} {oc_l_draw kV_l_draw dc_l_draw pm_l_draw cd_l_draw ct_l_draw : Value}
    {f_l_number : Addr} {od_l_number an_l_number : Option Addr} {sl_l_number : Array (Option Value)} {oc_l_number kV_l_number dc_l_number pm_l_number cd_l_number ct_l_number : Value}
    {f_l_names : Addr} {od_l_names an_l_names : Option Addr} {sl_l_names : Array (Option Value)} {oc_l_names kV_l_names dc_l_names pm_l_names cd_l_names ct_l_names : Value}
    {f_l_end : Addr} {od_l_end an_l_end : Option Addr} {sl_l_end : Array (Option Value)} {oc_l_end kV_l_end dc_l_end pm_l_end cd_l_end ct_l_end : Value}
    {f_l_span : Addr} {od_l_span an_l_span : Option Addr} {sl_l_span : Array (Option Value)} {oc_l_span kV_l_span dc_l_span pm_l_span cd_l_span ct_l_span : Value}
    {f_l_cover : Addr} {od_l_cover an_l_cover : Option Addr} {sl_l_cover : Array (Option Value)} {oc_l_cover kV_l_cover dc_l_cover pm_l_cover cd_l_cover ct_l_cover : Value}
    {f_l_class : Addr} {od_l_class an_l_class : Option Addr} {sl_l_class : Array (Option Value)} {oc_l_class kV_l_class dc_l_class pm_l_class cd_l_class ct_l_class : Value}
    {f_l_span_text : Addr} {od_l_span_text an_l_span_text : Option Addr} {sl_l_span_text : Array (Option Value)} {oc_l_span_text kV_l_span_text dc_l_span_text pm_l_span_text cd_l_span_text ct_l_span_text : Value}
    {f_l_shelf_text : Addr} {od_l_shelf_text an_l_shelf_text : Option Addr} {sl_l_shelf_text : Array (Option Value)} {oc_l_shelf_text kV_l_shelf_text dc_l_shelf_text pm_l_shelf_text cd_l_shelf_text ct_l_shelf_text : Value}
    {f_l_number_read : Addr} {od_l_number_read an_l_number_read : Option Addr} {sl_l_number_read : Array (Option Value)} {oc_l_number_read kV_l_number_read dc_l_number_read pm_l_number_read cd_l_number_read ct_l_number_read : Value}
    {f_l_span_read : Addr} {od_l_span_read an_l_span_read : Option Addr} {sl_l_span_read : Array (Option Value)} {oc_l_span_read kV_l_span_read dc_l_span_read pm_l_span_read cd_l_span_read ct_l_span_read : Value}
    {f_l_cover_read : Addr} {od_l_cover_read an_l_cover_read : Option Addr} {sl_l_cover_read : Array (Option Value)} {oc_l_cover_read kV_l_cover_read dc_l_cover_read pm_l_cover_read cd_l_cover_read ct_l_cover_read : Value}
    {f_l_row_read : Addr} {od_l_row_read an_l_row_read : Option Addr} {sl_l_row_read : Array (Option Value)} {oc_l_row_read kV_l_row_read dc_l_row_read pm_l_row_read cd_l_row_read ct_l_row_read : Value}
    {f_l_shelf_read : Addr} {od_l_shelf_read an_l_shelf_read : Option Addr} {sl_l_shelf_read : Array (Option Value)} {oc_l_shelf_read kV_l_shelf_read dc_l_shelf_read pm_l_shelf_read cd_l_shelf_read ct_l_shelf_read : Value}
    {f_l_asked : Addr} {od_l_asked an_l_asked : Option Addr} {sl_l_asked : Array (Option Value)} {oc_l_asked kV_l_asked dc_l_asked pm_l_asked cd_l_asked ct_l_asked : Value}
    {f_l_right : Addr} {od_l_right an_l_right : Option Addr} {sl_l_right : Array (Option Value)} {oc_l_right kV_l_right dc_l_right pm_l_right cd_l_right ct_l_right : Value}
    {f_l_spoilt : Addr} {od_l_spoilt an_l_spoilt : Option Addr} {sl_l_spoilt : Array (Option Value)} {oc_l_spoilt kV_l_spoilt dc_l_spoilt pm_l_spoilt cd_l_spoilt ct_l_spoilt : Value}
    {f_law : Addr} {od_law an_law : Option Addr} {sl_law : Array (Option Value)} {oc_law kV_law dc_law pm_law cd_law ct_law : Value}
    {tc_LEAST_PLACE : Tok}
    {tc_GREATEST_PLACE : Tok}
    {tc_MOST_SPANS : Tok}
    {tc_LONGEST_NAME : Tok}
    {tc_GREATEST_WEIGHT : Tok}
    {tc_MOST_KEPT : Tok}
    {tc_GREATEST_LENGTH : Tok}
    {tc_MOST_FIGURES : Tok}
    {C_ShelfError : Addr}
    {C_NoSpan : Addr}
    {C_NoPlace : Addr}
    {C_NoCover : Addr}
    {C_NoWeight : Addr}
    {C_NoCount : Addr}
    {C_NoName : Addr}
    {C_Twice : Addr}
    {C_Full : Addr}
    {C_Bare : Addr}
    {C_NoDeed : Addr}
    {C_NoText : Addr}
    {C_NoLine : Addr}
    (aC_Shelf : PySem.W.nsIn K mainGlobals "Shelf" = some (some (.ref C_Shelf)))
    (a__wall : PySem.W.nsIn K mainGlobals "_wall" = some (some (.ref f__wall)))
    (l__wall : K.lookup f__wall = some ⟨oc__wall, od__wall, .func (PySem.W.fnOf "_wall" "_wall" (defArgs s__wall) (defBody s__wall) (defScope s__wall) .none kV__wall dc__wall pm__wall an__wall cd__wall ct__wall), sl__wall⟩)
    (c__wall : PySem.W.codeIn K cd__wall "_wall" = true)
    (k__wall : PySem.W.keepIn K (.ref f__wall) = true)
    (a_is_whole : PySem.W.nsIn K mainGlobals "is_whole" = some (some (.ref f_is_whole)))
    (l_is_whole : K.lookup f_is_whole = some ⟨oc_is_whole, od_is_whole, .func (PySem.W.fnOf "is_whole" "is_whole" (defArgs s_is_whole) (defBody s_is_whole) (defScope s_is_whole) .none kV_is_whole dc_is_whole pm_is_whole an_is_whole cd_is_whole ct_is_whole), sl_is_whole⟩)
    (c_is_whole : PySem.W.codeIn K cd_is_whole "is_whole" = true)
    (k_is_whole : PySem.W.keepIn K (.ref f_is_whole) = true)
    (a_is_place : PySem.W.nsIn K mainGlobals "is_place" = some (some (.ref f_is_place)))
    (l_is_place : K.lookup f_is_place = some ⟨oc_is_place, od_is_place, .func (PySem.W.fnOf "is_place" "is_place" (defArgs s_is_place) (defBody s_is_place) (defScope s_is_place) .none kV_is_place dc_is_place pm_is_place an_is_place cd_is_place ct_is_place), sl_is_place⟩)
    (c_is_place : PySem.W.codeIn K cd_is_place "is_place" = true)
    (k_is_place : PySem.W.keepIn K (.ref f_is_place) = true)
    (a_is_span : PySem.W.nsIn K mainGlobals "is_span" = some (some (.ref f_is_span)))
    (l_is_span : K.lookup f_is_span = some ⟨oc_is_span, od_is_span, .func (PySem.W.fnOf "is_span" "is_span" (defArgs s_is_span) (defBody s_is_span) (defScope s_is_span) .none kV_is_span dc_is_span pm_is_span an_is_span cd_is_span ct_is_span), sl_is_span⟩)
    (c_is_span : PySem.W.codeIn K cd_is_span "is_span" = true)
    (k_is_span : PySem.W.keepIn K (.ref f_is_span) = true)
    (a_check_place : PySem.W.nsIn K mainGlobals "check_place" = some (some (.ref f_check_place)))
    (l_check_place : K.lookup f_check_place = some ⟨oc_check_place, od_check_place, .func (PySem.W.fnOf "check_place" "check_place" (defArgs s_check_place) (defBody s_check_place) (defScope s_check_place) .none kV_check_place dc_check_place pm_check_place an_check_place cd_check_place ct_check_place), sl_check_place⟩)
    (c_check_place : PySem.W.codeIn K cd_check_place "check_place" = true)
    (k_check_place : PySem.W.keepIn K (.ref f_check_place) = true)
    (a_is_cover : PySem.W.nsIn K mainGlobals "is_cover" = some (some (.ref f_is_cover)))
    (l_is_cover : K.lookup f_is_cover = some ⟨oc_is_cover, od_is_cover, .func (PySem.W.fnOf "is_cover" "is_cover" (defArgs s_is_cover) (defBody s_is_cover) (defScope s_is_cover) .none kV_is_cover dc_is_cover pm_is_cover an_is_cover (.ref cA_is_cover) ct_is_cover), sl_is_cover⟩)
    (c_is_cover : PySem.W.codeIn K (.ref cA_is_cover) "is_cover" = true)
    (k_is_cover : PySem.W.keepIn K (.ref f_is_cover) = true)
    (y1_is_cover : K.lookup cA_is_cover = some ⟨ec_is_cover, dd_is_cover, .fields vc_is_cover, sc_t_is_cover⟩)
    (y2_is_cover : vc_is_cover[11]? = some (.ref pA_is_cover))
    (y3_is_cover : K.lookup pA_is_cover = none)
    (a_joined : PySem.W.nsIn K mainGlobals "joined" = some (some (.ref f_joined)))
    (l_joined : K.lookup f_joined = some ⟨oc_joined, od_joined, .func (PySem.W.fnOf "joined" "joined" (defArgs s_joined) (defBody s_joined) (defScope s_joined) .none kV_joined dc_joined pm_joined an_joined cd_joined ct_joined), sl_joined⟩)
    (c_joined : PySem.W.codeIn K cd_joined "joined" = true)
    (k_joined : PySem.W.keepIn K (.ref f_joined) = true)
    (a_is_name : PySem.W.nsIn K mainGlobals "is_name" = some (some (.ref f_is_name)))
    (l_is_name : K.lookup f_is_name = some ⟨oc_is_name, od_is_name, .func (PySem.W.fnOf "is_name" "is_name" (defArgs s_is_name) (defBody s_is_name) (defScope s_is_name) .none kV_is_name dc_is_name pm_is_name an_is_name (.ref cA_is_name) ct_is_name), sl_is_name⟩)
    (c_is_name : PySem.W.codeIn K (.ref cA_is_name) "is_name" = true)
    (k_is_name : PySem.W.keepIn K (.ref f_is_name) = true)
    (y1_is_name : K.lookup cA_is_name = some ⟨ec_is_name, dd_is_name, .fields vc_is_name, sc_t_is_name⟩)
    (y2_is_name : vc_is_name[11]? = some (.ref pA_is_name))
    (y3_is_name : K.lookup pA_is_name = none)
    (a_is_weight : PySem.W.nsIn K mainGlobals "is_weight" = some (some (.ref f_is_weight)))
    (l_is_weight : K.lookup f_is_weight = some ⟨oc_is_weight, od_is_weight, .func (PySem.W.fnOf "is_weight" "is_weight" (defArgs s_is_weight) (defBody s_is_weight) (defScope s_is_weight) .none kV_is_weight dc_is_weight pm_is_weight an_is_weight cd_is_weight ct_is_weight), sl_is_weight⟩)
    (c_is_weight : PySem.W.codeIn K cd_is_weight "is_weight" = true)
    (k_is_weight : PySem.W.keepIn K (.ref f_is_weight) = true)
    (a_check_weight : PySem.W.nsIn K mainGlobals "check_weight" = some (some (.ref f_check_weight)))
    (l_check_weight : K.lookup f_check_weight = some ⟨oc_check_weight, od_check_weight, .func (PySem.W.fnOf "check_weight" "check_weight" (defArgs s_check_weight) (defBody s_check_weight) (defScope s_check_weight) .none kV_check_weight dc_check_weight pm_check_weight an_check_weight cd_check_weight ct_check_weight), sl_check_weight⟩)
    (c_check_weight : PySem.W.codeIn K cd_check_weight "check_weight" = true)
    (k_check_weight : PySem.W.keepIn K (.ref f_check_weight) = true)
    (a_kept_on : PySem.W.nsIn K mainGlobals "kept_on" = some (some (.ref f_kept_on)))
    (l_kept_on : K.lookup f_kept_on = some ⟨oc_kept_on, od_kept_on, .func (PySem.W.fnOf "kept_on" "kept_on" (defArgs s_kept_on) (defBody s_kept_on) (defScope s_kept_on) .none kV_kept_on dc_kept_on pm_kept_on an_kept_on cd_kept_on ct_kept_on), sl_kept_on⟩)
    (c_kept_on : PySem.W.codeIn K cd_kept_on "kept_on" = true)
    (k_kept_on : PySem.W.keepIn K (.ref f_kept_on) = true)
    (a_keep : PySem.W.nsIn K mainGlobals "keep" = some (some (.ref f_keep)))
    (l_keep : K.lookup f_keep = some ⟨oc_keep, od_keep, .func (PySem.W.fnOf "keep" "keep" (defArgs s_keep) (defBody s_keep) (defScope s_keep) .none kV_keep dc_keep pm_keep an_keep cd_keep ct_keep), sl_keep⟩)
    (c_keep : PySem.W.codeIn K cd_keep "keep" = true)
    (k_keep : PySem.W.keepIn K (.ref f_keep) = true)
    (a_row_of : PySem.W.nsIn K mainGlobals "row_of" = some (some (.ref f_row_of)))
    (l_row_of : K.lookup f_row_of = some ⟨oc_row_of, od_row_of, .func (PySem.W.fnOf "row_of" "row_of" (defArgs s_row_of) (defBody s_row_of) (defScope s_row_of) .none kV_row_of dc_row_of pm_row_of an_row_of cd_row_of ct_row_of), sl_row_of⟩)
    (c_row_of : PySem.W.codeIn K cd_row_of "row_of" = true)
    (k_row_of : PySem.W.keepIn K (.ref f_row_of) = true)
    (a_put_row : PySem.W.nsIn K mainGlobals "put_row" = some (some (.ref f_put_row)))
    (l_put_row : K.lookup f_put_row = some ⟨oc_put_row, od_put_row, .func (PySem.W.fnOf "put_row" "put_row" (defArgs s_put_row) (defBody s_put_row) (defScope s_put_row) .none kV_put_row dc_put_row pm_put_row an_put_row cd_put_row ct_put_row), sl_put_row⟩)
    (c_put_row : PySem.W.codeIn K cd_put_row "put_row" = true)
    (k_put_row : PySem.W.keepIn K (.ref f_put_row) = true)
    (a_check_length : PySem.W.nsIn K mainGlobals "check_length" = some (some (.ref f_check_length)))
    (l_check_length : K.lookup f_check_length = some ⟨oc_check_length, od_check_length, .func (PySem.W.fnOf "check_length" "check_length" (defArgs s_check_length) (defBody s_check_length) (defScope s_check_length) .none kV_check_length dc_check_length pm_check_length an_check_length cd_check_length ct_check_length), sl_check_length⟩)
    (c_check_length : PySem.W.codeIn K cd_check_length "check_length" = true)
    (k_check_length : PySem.W.keepIn K (.ref f_check_length) = true)
    (a_spans_on : PySem.W.nsIn K mainGlobals "spans_on" = some (some (.ref f_spans_on)))
    (l_spans_on : K.lookup f_spans_on = some ⟨oc_spans_on, od_spans_on, .func (PySem.W.fnOf "spans_on" "spans_on" (defArgs s_spans_on) (defBody s_spans_on) (defScope s_spans_on) .none kV_spans_on dc_spans_on pm_spans_on an_spans_on cd_spans_on ct_spans_on), sl_spans_on⟩)
    (c_spans_on : PySem.W.codeIn K cd_spans_on "spans_on" = true)
    (k_spans_on : PySem.W.keepIn K (.ref f_spans_on) = true)
    (a_first_room : PySem.W.nsIn K mainGlobals "first_room" = some (some (.ref f_first_room)))
    (l_first_room : K.lookup f_first_room = some ⟨oc_first_room, od_first_room, .func (PySem.W.fnOf "first_room" "first_room" (defArgs s_first_room) (defBody s_first_room) (defScope s_first_room) .none kV_first_room dc_first_room pm_first_room an_first_room cd_first_room ct_first_room), sl_first_room⟩)
    (c_first_room : PySem.W.codeIn K cd_first_room "first_room" = true)
    (k_first_room : PySem.W.keepIn K (.ref f_first_room) = true)
    (a_Shelf___init__ : PySem.W.findIn K (.ref C_Shelf) "__init__" = some (some (.ref f_Shelf___init__)))
    (i_Shelf___init__ : PySem.W.isFn K (.ref f_Shelf___init__) = true)
    (l_Shelf___init__ : K.lookup f_Shelf___init__ = some ⟨oc_Shelf___init__, od_Shelf___init__, .func (PySem.W.fnOf "__init__" "Shelf.__init__" (defArgs s_Shelf___init__) (defBody s_Shelf___init__) (defScope s_Shelf___init__) .none kV_Shelf___init__ dc_Shelf___init__ pm_Shelf___init__ an_Shelf___init__ cd_Shelf___init__ ct_Shelf___init__), sl_Shelf___init__⟩)
    (c_Shelf___init__ : PySem.W.codeIn K cd_Shelf___init__ "Shelf.__init__" = true)
    (k_Shelf___init__ : PySem.W.keepIn K (.ref f_Shelf___init__) = true)
    (a_Shelf_weigh : PySem.W.findIn K (.ref C_Shelf) "weigh" = some (some (.ref f_Shelf_weigh)))
    (i_Shelf_weigh : PySem.W.isFn K (.ref f_Shelf_weigh) = true)
    (l_Shelf_weigh : K.lookup f_Shelf_weigh = some ⟨oc_Shelf_weigh, od_Shelf_weigh, .func (PySem.W.fnOf "weigh" "Shelf.weigh" (defArgs s_Shelf_weigh) (defBody s_Shelf_weigh) (defScope s_Shelf_weigh) .none kV_Shelf_weigh dc_Shelf_weigh pm_Shelf_weigh an_Shelf_weigh cd_Shelf_weigh ct_Shelf_weigh), sl_Shelf_weigh⟩)
    (c_Shelf_weigh : PySem.W.codeIn K cd_Shelf_weigh "Shelf.weigh" = true)
    (k_Shelf_weigh : PySem.W.keepIn K (.ref f_Shelf_weigh) = true)
    (a_Shelf_back : PySem.W.findIn K (.ref C_Shelf) "back" = some (some (.ref f_Shelf_back)))
    (i_Shelf_back : PySem.W.isFn K (.ref f_Shelf_back) = true)
    (l_Shelf_back : K.lookup f_Shelf_back = some ⟨oc_Shelf_back, od_Shelf_back, .func (PySem.W.fnOf "back" "Shelf.back" (defArgs s_Shelf_back) (defBody s_Shelf_back) (defScope s_Shelf_back) .none kV_Shelf_back dc_Shelf_back pm_Shelf_back an_Shelf_back cd_Shelf_back ct_Shelf_back), sl_Shelf_back⟩)
    (c_Shelf_back : PySem.W.codeIn K cd_Shelf_back "Shelf.back" = true)
    (k_Shelf_back : PySem.W.keepIn K (.ref f_Shelf_back) = true)
    (a_Shelf_again : PySem.W.findIn K (.ref C_Shelf) "again" = some (some (.ref f_Shelf_again)))
    (i_Shelf_again : PySem.W.isFn K (.ref f_Shelf_again) = true)
    (l_Shelf_again : K.lookup f_Shelf_again = some ⟨oc_Shelf_again, od_Shelf_again, .func (PySem.W.fnOf "again" "Shelf.again" (defArgs s_Shelf_again) (defBody s_Shelf_again) (defScope s_Shelf_again) .none kV_Shelf_again dc_Shelf_again pm_Shelf_again an_Shelf_again cd_Shelf_again ct_Shelf_again), sl_Shelf_again⟩)
    (c_Shelf_again : PySem.W.codeIn K cd_Shelf_again "Shelf.again" = true)
    (k_Shelf_again : PySem.W.keepIn K (.ref f_Shelf_again) = true)
    (a_Shelf_names : PySem.W.findIn K (.ref C_Shelf) "names" = some (some (.ref f_Shelf_names)))
    (i_Shelf_names : PySem.W.isFn K (.ref f_Shelf_names) = true)
    (l_Shelf_names : K.lookup f_Shelf_names = some ⟨oc_Shelf_names, od_Shelf_names, .func (PySem.W.fnOf "names" "Shelf.names" (defArgs s_Shelf_names) (defBody s_Shelf_names) (defScope s_Shelf_names) .none kV_Shelf_names dc_Shelf_names pm_Shelf_names an_Shelf_names cd_Shelf_names ct_Shelf_names), sl_Shelf_names⟩)
    (c_Shelf_names : PySem.W.codeIn K cd_Shelf_names "Shelf.names" = true)
    (k_Shelf_names : PySem.W.keepIn K (.ref f_Shelf_names) = true)
    (a_Shelf_span : PySem.W.findIn K (.ref C_Shelf) "span" = some (some (.ref f_Shelf_span)))
    (i_Shelf_span : PySem.W.isFn K (.ref f_Shelf_span) = true)
    (l_Shelf_span : K.lookup f_Shelf_span = some ⟨oc_Shelf_span, od_Shelf_span, .func (PySem.W.fnOf "span" "Shelf.span" (defArgs s_Shelf_span) (defBody s_Shelf_span) (defScope s_Shelf_span) .none kV_Shelf_span dc_Shelf_span pm_Shelf_span an_Shelf_span cd_Shelf_span ct_Shelf_span), sl_Shelf_span⟩)
    (c_Shelf_span : PySem.W.codeIn K cd_Shelf_span "Shelf.span" = true)
    (k_Shelf_span : PySem.W.keepIn K (.ref f_Shelf_span) = true)
    (a_Shelf_weight : PySem.W.findIn K (.ref C_Shelf) "weight" = some (some (.ref f_Shelf_weight)))
    (i_Shelf_weight : PySem.W.isFn K (.ref f_Shelf_weight) = true)
    (l_Shelf_weight : K.lookup f_Shelf_weight = some ⟨oc_Shelf_weight, od_Shelf_weight, .func (PySem.W.fnOf "weight" "Shelf.weight" (defArgs s_Shelf_weight) (defBody s_Shelf_weight) (defScope s_Shelf_weight) .none kV_Shelf_weight dc_Shelf_weight pm_Shelf_weight an_Shelf_weight cd_Shelf_weight ct_Shelf_weight), sl_Shelf_weight⟩)
    (c_Shelf_weight : PySem.W.codeIn K cd_Shelf_weight "Shelf.weight" = true)
    (k_Shelf_weight : PySem.W.keepIn K (.ref f_Shelf_weight) = true)
    (a_Shelf_cover : PySem.W.findIn K (.ref C_Shelf) "cover" = some (some (.ref f_Shelf_cover)))
    (i_Shelf_cover : PySem.W.isFn K (.ref f_Shelf_cover) = true)
    (l_Shelf_cover : K.lookup f_Shelf_cover = some ⟨oc_Shelf_cover, od_Shelf_cover, .func (PySem.W.fnOf "cover" "Shelf.cover" (defArgs s_Shelf_cover) (defBody s_Shelf_cover) (defScope s_Shelf_cover) .none kV_Shelf_cover dc_Shelf_cover pm_Shelf_cover an_Shelf_cover cd_Shelf_cover ct_Shelf_cover), sl_Shelf_cover⟩)
    (c_Shelf_cover : PySem.W.codeIn K cd_Shelf_cover "Shelf.cover" = true)
    (k_Shelf_cover : PySem.W.keepIn K (.ref f_Shelf_cover) = true)
    (a_Shelf_room : PySem.W.findIn K (.ref C_Shelf) "room" = some (some (.ref f_Shelf_room)))
    (i_Shelf_room : PySem.W.isFn K (.ref f_Shelf_room) = true)
    (l_Shelf_room : K.lookup f_Shelf_room = some ⟨oc_Shelf_room, od_Shelf_room, .func (PySem.W.fnOf "room" "Shelf.room" (defArgs s_Shelf_room) (defBody s_Shelf_room) (defScope s_Shelf_room) .none kV_Shelf_room dc_Shelf_room pm_Shelf_room an_Shelf_room cd_Shelf_room ct_Shelf_room), sl_Shelf_room⟩)
    (c_Shelf_room : PySem.W.codeIn K cd_Shelf_room "Shelf.room" = true)
    (k_Shelf_room : PySem.W.keepIn K (.ref f_Shelf_room) = true)
    (a_shelf_of : PySem.W.nsIn K mainGlobals "shelf_of" = some (some (.ref f_shelf_of)))
    (l_shelf_of : K.lookup f_shelf_of = some ⟨oc_shelf_of, od_shelf_of, .func (PySem.W.fnOf "shelf_of" "shelf_of" (defArgs s_shelf_of) (defBody s_shelf_of) (defScope s_shelf_of) .none kV_shelf_of dc_shelf_of pm_shelf_of an_shelf_of cd_shelf_of ct_shelf_of), sl_shelf_of⟩)
    (c_shelf_of : PySem.W.codeIn K cd_shelf_of "shelf_of" = true)
    (k_shelf_of : PySem.W.keepIn K (.ref f_shelf_of) = true)
    (a_number_from : PySem.W.nsIn K mainGlobals "number_from" = some (some (.ref f_number_from)))
    (l_number_from : K.lookup f_number_from = some ⟨oc_number_from, od_number_from, .func (PySem.W.fnOf "number_from" "number_from" (defArgs s_number_from) (defBody s_number_from) (defScope s_number_from) .none kV_number_from dc_number_from pm_number_from an_number_from (.ref cA_number_from) ct_number_from), sl_number_from⟩)
    (c_number_from : PySem.W.codeIn K (.ref cA_number_from) "number_from" = true)
    (k_number_from : PySem.W.keepIn K (.ref f_number_from) = true)
    (y1_number_from : K.lookup cA_number_from = some ⟨ec_number_from, dd_number_from, .fields vc_number_from, sc_t_number_from⟩)
    (y2_number_from : vc_number_from[11]? = some (.ref pA_number_from))
    (y3_number_from : K.lookup pA_number_from = none)
    (a_span_from : PySem.W.nsIn K mainGlobals "span_from" = some (some (.ref f_span_from)))
    (l_span_from : K.lookup f_span_from = some ⟨oc_span_from, od_span_from, .func (PySem.W.fnOf "span_from" "span_from" (defArgs s_span_from) (defBody s_span_from) (defScope s_span_from) .none kV_span_from dc_span_from pm_span_from an_span_from cd_span_from ct_span_from), sl_span_from⟩)
    (c_span_from : PySem.W.codeIn K cd_span_from "span_from" = true)
    (k_span_from : PySem.W.keepIn K (.ref f_span_from) = true)
    (a_row_from : PySem.W.nsIn K mainGlobals "row_from" = some (some (.ref f_row_from)))
    (l_row_from : K.lookup f_row_from = some ⟨oc_row_from, od_row_from, .func (PySem.W.fnOf "row_from" "row_from" (defArgs s_row_from) (defBody s_row_from) (defScope s_row_from) .none kV_row_from dc_row_from pm_row_from an_row_from cd_row_from ct_row_from), sl_row_from⟩)
    (c_row_from : PySem.W.codeIn K cd_row_from "row_from" = true)
    (k_row_from : PySem.W.keepIn K (.ref f_row_from) = true)
    (a_are_rows : PySem.W.nsIn K mainGlobals "are_rows" = some (some (.ref f_are_rows)))
    (l_are_rows : K.lookup f_are_rows = some ⟨oc_are_rows, od_are_rows, .func (PySem.W.fnOf "are_rows" "are_rows" (defArgs s_are_rows) (defBody s_are_rows) (defScope s_are_rows) .none kV_are_rows dc_are_rows pm_are_rows an_are_rows (.ref cA_are_rows) ct_are_rows), sl_are_rows⟩)
    (c_are_rows : PySem.W.codeIn K (.ref cA_are_rows) "are_rows" = true)
    (k_are_rows : PySem.W.keepIn K (.ref f_are_rows) = true)
    (y1_are_rows : K.lookup cA_are_rows = some ⟨ec_are_rows, dd_are_rows, .fields vc_are_rows, sc_t_are_rows⟩)
    (y2_are_rows : vc_are_rows[11]? = some (.ref pA_are_rows))
    (y3_are_rows : K.lookup pA_are_rows = none)
    (a_read_span : PySem.W.nsIn K mainGlobals "read_span" = some (some (.ref f_read_span)))
    (l_read_span : K.lookup f_read_span = some ⟨oc_read_span, od_read_span, .func (PySem.W.fnOf "read_span" "read_span" (defArgs s_read_span) (defBody s_read_span) (defScope s_read_span) .none kV_read_span dc_read_span pm_read_span an_read_span cd_read_span ct_read_span), sl_read_span⟩)
    (c_read_span : PySem.W.codeIn K cd_read_span "read_span" = true)
    (k_read_span : PySem.W.keepIn K (.ref f_read_span) = true)
    (a_read_cover : PySem.W.nsIn K mainGlobals "read_cover" = some (some (.ref f_read_cover)))
    (l_read_cover : K.lookup f_read_cover = some ⟨oc_read_cover, od_read_cover, .func (PySem.W.fnOf "read_cover" "read_cover" (defArgs s_read_cover) (defBody s_read_cover) (defScope s_read_cover) .none kV_read_cover dc_read_cover pm_read_cover an_read_cover cd_read_cover ct_read_cover), sl_read_cover⟩)
    (c_read_cover : PySem.W.codeIn K cd_read_cover "read_cover" = true)
    (k_read_cover : PySem.W.keepIn K (.ref f_read_cover) = true)
    (a_read_shelf : PySem.W.nsIn K mainGlobals "read_shelf" = some (some (.ref f_read_shelf)))
    (l_read_shelf : K.lookup f_read_shelf = some ⟨oc_read_shelf, od_read_shelf, .func (PySem.W.fnOf "read_shelf" "read_shelf" (defArgs s_read_shelf) (defBody s_read_shelf) (defScope s_read_shelf) .none kV_read_shelf dc_read_shelf pm_read_shelf an_read_shelf cd_read_shelf ct_read_shelf), sl_read_shelf⟩)
    (c_read_shelf : PySem.W.codeIn K cd_read_shelf "read_shelf" = true)
    (k_read_shelf : PySem.W.keepIn K (.ref f_read_shelf) = true)
    (a_l_at : PySem.W.nsIn K mainGlobals "_law_at" = some (some (.ref f_l_at)))
    (l_l_at : K.lookup f_l_at = some ⟨oc_l_at, od_l_at, .func (PySem.W.fnOf "_law_at" "_law_at" (defArgs s_l_at) (defBody s_l_at) (defScope s_l_at) .none kV_l_at dc_l_at pm_l_at an_l_at cd_l_at ct_l_at), sl_l_at⟩)
    (c_l_at : PySem.W.codeIn K cd_l_at "_law_at" = true)
    (k_l_at : PySem.W.keepIn K (.ref f_l_at) = true)
    (a_l_mixed : PySem.W.nsIn K mainGlobals "_law_mixed" = some (some (.ref f_l_mixed)))
    (l_l_mixed : K.lookup f_l_mixed = some ⟨oc_l_mixed, od_l_mixed, .func (PySem.W.fnOf "_law_mixed" "_law_mixed" (defArgs s_l_mixed) (defBody s_l_mixed) (defScope s_l_mixed) .none kV_l_mixed dc_l_mixed pm_l_mixed an_l_mixed cd_l_mixed ct_l_mixed), sl_l_mixed⟩)
    (c_l_mixed : PySem.W.codeIn K cd_l_mixed "_law_mixed" = true)
    (k_l_mixed : PySem.W.keepIn K (.ref f_l_mixed) = true)
    (a_l_purse : PySem.W.nsIn K mainGlobals "_law_purse" = some (some (.ref f_l_purse)))
    (l_l_purse : K.lookup f_l_purse = some ⟨oc_l_purse, od_l_purse, .func (PySem.W.fnOf "_law_purse" "_law_purse" (defArgs s_l_purse) (defBody s_l_purse) (defScope s_l_purse) .none kV_l_purse dc_l_purse pm_l_purse an_l_purse cd_l_purse ct_l_purse), sl_l_purse⟩)
    (c_l_purse : PySem.W.codeIn K cd_l_purse "_law_purse" = true)
    (k_l_purse : PySem.W.keepIn K (.ref f_l_purse) = true)
    (a_l_draw : PySem.W.nsIn K mainGlobals "_law_draw" = some (some (.ref f_l_draw)))
    (l_l_draw : K.lookup f_l_draw = some ⟨oc_l_draw, od_l_draw, .func (PySem.W.fnOf "_law_draw" "_law_draw" (defArgs s_l_draw) (defBody s_l_draw) (defScope s_l_draw) .none kV_l_draw dc_l_draw pm_l_draw an_l_draw cd_l_draw ct_l_draw), sl_l_draw⟩)
    (c_l_draw : PySem.W.codeIn K cd_l_draw "_law_draw" = true)
    (k_l_draw : PySem.W.keepIn K (.ref f_l_draw) = true)
    (a_l_number : PySem.W.nsIn K mainGlobals "_law_number" = some (some (.ref f_l_number)))
    (l_l_number : K.lookup f_l_number = some ⟨oc_l_number, od_l_number, .func (PySem.W.fnOf "_law_number" "_law_number" (defArgs s_l_number) (defBody s_l_number) (defScope s_l_number) .none kV_l_number dc_l_number pm_l_number an_l_number cd_l_number ct_l_number), sl_l_number⟩)
    (c_l_number : PySem.W.codeIn K cd_l_number "_law_number" = true)
    (k_l_number : PySem.W.keepIn K (.ref f_l_number) = true)
    (a_l_names : PySem.W.nsIn K mainGlobals "_law_names" = some (some (.ref f_l_names)))
    (l_l_names : K.lookup f_l_names = some ⟨oc_l_names, od_l_names, .func (PySem.W.fnOf "_law_names" "_law_names" (defArgs s_l_names) (defBody s_l_names) (defScope s_l_names) .none kV_l_names dc_l_names pm_l_names an_l_names cd_l_names ct_l_names), sl_l_names⟩)
    (c_l_names : PySem.W.codeIn K cd_l_names "_law_names" = true)
    (k_l_names : PySem.W.keepIn K (.ref f_l_names) = true)
    (a_l_end : PySem.W.nsIn K mainGlobals "_law_end" = some (some (.ref f_l_end)))
    (l_l_end : K.lookup f_l_end = some ⟨oc_l_end, od_l_end, .func (PySem.W.fnOf "_law_end" "_law_end" (defArgs s_l_end) (defBody s_l_end) (defScope s_l_end) .none kV_l_end dc_l_end pm_l_end an_l_end cd_l_end ct_l_end), sl_l_end⟩)
    (c_l_end : PySem.W.codeIn K cd_l_end "_law_end" = true)
    (k_l_end : PySem.W.keepIn K (.ref f_l_end) = true)
    (a_l_span : PySem.W.nsIn K mainGlobals "_law_span" = some (some (.ref f_l_span)))
    (l_l_span : K.lookup f_l_span = some ⟨oc_l_span, od_l_span, .func (PySem.W.fnOf "_law_span" "_law_span" (defArgs s_l_span) (defBody s_l_span) (defScope s_l_span) .none kV_l_span dc_l_span pm_l_span an_l_span cd_l_span ct_l_span), sl_l_span⟩)
    (c_l_span : PySem.W.codeIn K cd_l_span "_law_span" = true)
    (k_l_span : PySem.W.keepIn K (.ref f_l_span) = true)
    (a_l_cover : PySem.W.nsIn K mainGlobals "_law_cover" = some (some (.ref f_l_cover)))
    (l_l_cover : K.lookup f_l_cover = some ⟨oc_l_cover, od_l_cover, .func (PySem.W.fnOf "_law_cover" "_law_cover" (defArgs s_l_cover) (defBody s_l_cover) (defScope s_l_cover) .none kV_l_cover dc_l_cover pm_l_cover an_l_cover cd_l_cover ct_l_cover), sl_l_cover⟩)
    (c_l_cover : PySem.W.codeIn K cd_l_cover "_law_cover" = true)
    (k_l_cover : PySem.W.keepIn K (.ref f_l_cover) = true)
    (a_l_class : PySem.W.nsIn K mainGlobals "_law_class" = some (some (.ref f_l_class)))
    (l_l_class : K.lookup f_l_class = some ⟨oc_l_class, od_l_class, .func (PySem.W.fnOf "_law_class" "_law_class" (defArgs s_l_class) (defBody s_l_class) (defScope s_l_class) .none kV_l_class dc_l_class pm_l_class an_l_class cd_l_class ct_l_class), sl_l_class⟩)
    (c_l_class : PySem.W.codeIn K cd_l_class "_law_class" = true)
    (k_l_class : PySem.W.keepIn K (.ref f_l_class) = true)
    (a_l_span_text : PySem.W.nsIn K mainGlobals "_law_span_text" = some (some (.ref f_l_span_text)))
    (l_l_span_text : K.lookup f_l_span_text = some ⟨oc_l_span_text, od_l_span_text, .func (PySem.W.fnOf "_law_span_text" "_law_span_text" (defArgs s_l_span_text) (defBody s_l_span_text) (defScope s_l_span_text) .none kV_l_span_text dc_l_span_text pm_l_span_text an_l_span_text cd_l_span_text ct_l_span_text), sl_l_span_text⟩)
    (c_l_span_text : PySem.W.codeIn K cd_l_span_text "_law_span_text" = true)
    (k_l_span_text : PySem.W.keepIn K (.ref f_l_span_text) = true)
    (a_l_shelf_text : PySem.W.nsIn K mainGlobals "_law_shelf_text" = some (some (.ref f_l_shelf_text)))
    (l_l_shelf_text : K.lookup f_l_shelf_text = some ⟨oc_l_shelf_text, od_l_shelf_text, .func (PySem.W.fnOf "_law_shelf_text" "_law_shelf_text" (defArgs s_l_shelf_text) (defBody s_l_shelf_text) (defScope s_l_shelf_text) .none kV_l_shelf_text dc_l_shelf_text pm_l_shelf_text an_l_shelf_text cd_l_shelf_text ct_l_shelf_text), sl_l_shelf_text⟩)
    (c_l_shelf_text : PySem.W.codeIn K cd_l_shelf_text "_law_shelf_text" = true)
    (k_l_shelf_text : PySem.W.keepIn K (.ref f_l_shelf_text) = true)
    (a_l_number_read : PySem.W.nsIn K mainGlobals "_law_number_read" = some (some (.ref f_l_number_read)))
    (l_l_number_read : K.lookup f_l_number_read = some ⟨oc_l_number_read, od_l_number_read, .func (PySem.W.fnOf "_law_number_read" "_law_number_read" (defArgs s_l_number_read) (defBody s_l_number_read) (defScope s_l_number_read) .none kV_l_number_read dc_l_number_read pm_l_number_read an_l_number_read cd_l_number_read ct_l_number_read), sl_l_number_read⟩)
    (c_l_number_read : PySem.W.codeIn K cd_l_number_read "_law_number_read" = true)
    (k_l_number_read : PySem.W.keepIn K (.ref f_l_number_read) = true)
    (a_l_span_read : PySem.W.nsIn K mainGlobals "_law_span_read" = some (some (.ref f_l_span_read)))
    (l_l_span_read : K.lookup f_l_span_read = some ⟨oc_l_span_read, od_l_span_read, .func (PySem.W.fnOf "_law_span_read" "_law_span_read" (defArgs s_l_span_read) (defBody s_l_span_read) (defScope s_l_span_read) .none kV_l_span_read dc_l_span_read pm_l_span_read an_l_span_read cd_l_span_read ct_l_span_read), sl_l_span_read⟩)
    (c_l_span_read : PySem.W.codeIn K cd_l_span_read "_law_span_read" = true)
    (k_l_span_read : PySem.W.keepIn K (.ref f_l_span_read) = true)
    (a_l_cover_read : PySem.W.nsIn K mainGlobals "_law_cover_read" = some (some (.ref f_l_cover_read)))
    (l_l_cover_read : K.lookup f_l_cover_read = some ⟨oc_l_cover_read, od_l_cover_read, .func (PySem.W.fnOf "_law_cover_read" "_law_cover_read" (defArgs s_l_cover_read) (defBody s_l_cover_read) (defScope s_l_cover_read) .none kV_l_cover_read dc_l_cover_read pm_l_cover_read an_l_cover_read cd_l_cover_read ct_l_cover_read), sl_l_cover_read⟩)
    (c_l_cover_read : PySem.W.codeIn K cd_l_cover_read "_law_cover_read" = true)
    (k_l_cover_read : PySem.W.keepIn K (.ref f_l_cover_read) = true)
    (a_l_row_read : PySem.W.nsIn K mainGlobals "_law_row_read" = some (some (.ref f_l_row_read)))
    (l_l_row_read : K.lookup f_l_row_read = some ⟨oc_l_row_read, od_l_row_read, .func (PySem.W.fnOf "_law_row_read" "_law_row_read" (defArgs s_l_row_read) (defBody s_l_row_read) (defScope s_l_row_read) .none kV_l_row_read dc_l_row_read pm_l_row_read an_l_row_read cd_l_row_read ct_l_row_read), sl_l_row_read⟩)
    (c_l_row_read : PySem.W.codeIn K cd_l_row_read "_law_row_read" = true)
    (k_l_row_read : PySem.W.keepIn K (.ref f_l_row_read) = true)
    (a_l_shelf_read : PySem.W.nsIn K mainGlobals "_law_shelf_read" = some (some (.ref f_l_shelf_read)))
    (l_l_shelf_read : K.lookup f_l_shelf_read = some ⟨oc_l_shelf_read, od_l_shelf_read, .func (PySem.W.fnOf "_law_shelf_read" "_law_shelf_read" (defArgs s_l_shelf_read) (defBody s_l_shelf_read) (defScope s_l_shelf_read) .none kV_l_shelf_read dc_l_shelf_read pm_l_shelf_read an_l_shelf_read cd_l_shelf_read ct_l_shelf_read), sl_l_shelf_read⟩)
    (c_l_shelf_read : PySem.W.codeIn K cd_l_shelf_read "_law_shelf_read" = true)
    (k_l_shelf_read : PySem.W.keepIn K (.ref f_l_shelf_read) = true)
    (a_l_asked : PySem.W.nsIn K mainGlobals "_law_asked" = some (some (.ref f_l_asked)))
    (l_l_asked : K.lookup f_l_asked = some ⟨oc_l_asked, od_l_asked, .func (PySem.W.fnOf "_law_asked" "_law_asked" (defArgs s_l_asked) (defBody s_l_asked) (defScope s_l_asked) .none kV_l_asked dc_l_asked pm_l_asked an_l_asked cd_l_asked ct_l_asked), sl_l_asked⟩)
    (c_l_asked : PySem.W.codeIn K cd_l_asked "_law_asked" = true)
    (k_l_asked : PySem.W.keepIn K (.ref f_l_asked) = true)
    (a_l_right : PySem.W.nsIn K mainGlobals "_law_right" = some (some (.ref f_l_right)))
    (l_l_right : K.lookup f_l_right = some ⟨oc_l_right, od_l_right, .func (PySem.W.fnOf "_law_right" "_law_right" (defArgs s_l_right) (defBody s_l_right) (defScope s_l_right) .none kV_l_right dc_l_right pm_l_right an_l_right cd_l_right ct_l_right), sl_l_right⟩)
    (c_l_right : PySem.W.codeIn K cd_l_right "_law_right" = true)
    (k_l_right : PySem.W.keepIn K (.ref f_l_right) = true)
    (a_l_spoilt : PySem.W.nsIn K mainGlobals "_law_spoilt" = some (some (.ref f_l_spoilt)))
    (l_l_spoilt : K.lookup f_l_spoilt = some ⟨oc_l_spoilt, od_l_spoilt, .func (PySem.W.fnOf "_law_spoilt" "_law_spoilt" (defArgs s_l_spoilt) (defBody s_l_spoilt) (defScope s_l_spoilt) .none kV_l_spoilt dc_l_spoilt pm_l_spoilt an_l_spoilt cd_l_spoilt ct_l_spoilt), sl_l_spoilt⟩)
    (c_l_spoilt : PySem.W.codeIn K cd_l_spoilt "_law_spoilt" = true)
    (k_l_spoilt : PySem.W.keepIn K (.ref f_l_spoilt) = true)
    (a_law : PySem.W.nsIn K mainGlobals "law" = some (some (.ref f_law)))
    (l_law : K.lookup f_law = some ⟨oc_law, od_law, .func (PySem.W.fnOf "law" "law" (defArgs s_law) (defBody s_law) (defScope s_law) .none kV_law dc_law pm_law an_law cd_law ct_law), sl_law⟩)
    (c_law : PySem.W.codeIn K cd_law "law" = true)
    (k_law : PySem.W.keepIn K (.ref f_law) = true)
    (n_LEAST_PLACE : PySem.W.nsIn K mainGlobals "LEAST_PLACE" = some (some (.int (-999999999999) tc_LEAST_PLACE)))
    (n_GREATEST_PLACE : PySem.W.nsIn K mainGlobals "GREATEST_PLACE" = some (some (.int (999999999999) tc_GREATEST_PLACE)))
    (n_MOST_SPANS : PySem.W.nsIn K mainGlobals "MOST_SPANS" = some (some (.int (200) tc_MOST_SPANS)))
    (n_LONGEST_NAME : PySem.W.nsIn K mainGlobals "LONGEST_NAME" = some (some (.int (8) tc_LONGEST_NAME)))
    (n_GREATEST_WEIGHT : PySem.W.nsIn K mainGlobals "GREATEST_WEIGHT" = some (some (.int (1000000000) tc_GREATEST_WEIGHT)))
    (n_MOST_KEPT : PySem.W.nsIn K mainGlobals "MOST_KEPT" = some (some (.int (60) tc_MOST_KEPT)))
    (n_GREATEST_LENGTH : PySem.W.nsIn K mainGlobals "GREATEST_LENGTH" = some (some (.int (1000000000000) tc_GREATEST_LENGTH)))
    (n_MOST_FIGURES : PySem.W.nsIn K mainGlobals "MOST_FIGURES" = some (some (.int (12) tc_MOST_FIGURES)))
    (pg_Shelf : PySem.W.plainGet K C_Shelf Str.empty = true)
    (hd_Shelf : PySem.W.hasDictIn K C_Shelf = true)
    (po_Shelf : PySem.W.plainOver K C_Shelf = true)
    (sa_Shelf : PySem.W.findIn K (.ref C_Shelf) "__setattr__" = some (some (.builtin "object.__setattr__")))
    (mkc_Shelf : PySem.W.makesIn K C_Shelf = true)
    (kc_Shelf : PySem.W.keepIn K (.ref C_Shelf) = true)
    (na_Shelf_states : PySem.W.findIn K (.ref C_Shelf) "states" = some none)
    (na_Shelf_now : PySem.W.findIn K (.ref C_Shelf) "now" = some none)
    (a_ShelfError : PySem.W.nsIn K mainGlobals "ShelfError" = some (some (.ref C_ShelfError)))
    (x_ShelfError : PySem.W.excIn K C_ShelfError [.type "ValueError", .type "Exception", .type "BaseException", .type "object"] "ValueError.__new__" = true)
    (k_ShelfError : PySem.W.keepIn K (.ref C_ShelfError) = true)
    (b_ShelfError : PySem.W.subIn K (.ref C_ShelfError) (.type "BaseException") = some true)
    (t_ShelfError : PySem.W.typeIn K (.ref C_ShelfError) = some (.type "type"))
    (a_NoSpan : PySem.W.nsIn K mainGlobals "NoSpan" = some (some (.ref C_NoSpan)))
    (x_NoSpan : PySem.W.excIn K C_NoSpan [.type "ValueError", .type "Exception", .type "BaseException", .type "object"] "ValueError.__new__" = true)
    (k_NoSpan : PySem.W.keepIn K (.ref C_NoSpan) = true)
    (b_NoSpan : PySem.W.subIn K (.ref C_NoSpan) (.type "BaseException") = some true)
    (t_NoSpan : PySem.W.typeIn K (.ref C_NoSpan) = some (.type "type"))
    (a_NoPlace : PySem.W.nsIn K mainGlobals "NoPlace" = some (some (.ref C_NoPlace)))
    (x_NoPlace : PySem.W.excIn K C_NoPlace [.type "ValueError", .type "Exception", .type "BaseException", .type "object"] "ValueError.__new__" = true)
    (k_NoPlace : PySem.W.keepIn K (.ref C_NoPlace) = true)
    (b_NoPlace : PySem.W.subIn K (.ref C_NoPlace) (.type "BaseException") = some true)
    (t_NoPlace : PySem.W.typeIn K (.ref C_NoPlace) = some (.type "type"))
    (a_NoCover : PySem.W.nsIn K mainGlobals "NoCover" = some (some (.ref C_NoCover)))
    (x_NoCover : PySem.W.excIn K C_NoCover [.type "ValueError", .type "Exception", .type "BaseException", .type "object"] "ValueError.__new__" = true)
    (k_NoCover : PySem.W.keepIn K (.ref C_NoCover) = true)
    (b_NoCover : PySem.W.subIn K (.ref C_NoCover) (.type "BaseException") = some true)
    (t_NoCover : PySem.W.typeIn K (.ref C_NoCover) = some (.type "type"))
    (a_NoWeight : PySem.W.nsIn K mainGlobals "NoWeight" = some (some (.ref C_NoWeight)))
    (x_NoWeight : PySem.W.excIn K C_NoWeight [.type "ValueError", .type "Exception", .type "BaseException", .type "object"] "ValueError.__new__" = true)
    (k_NoWeight : PySem.W.keepIn K (.ref C_NoWeight) = true)
    (b_NoWeight : PySem.W.subIn K (.ref C_NoWeight) (.type "BaseException") = some true)
    (t_NoWeight : PySem.W.typeIn K (.ref C_NoWeight) = some (.type "type"))
    (a_NoCount : PySem.W.nsIn K mainGlobals "NoCount" = some (some (.ref C_NoCount)))
    (x_NoCount : PySem.W.excIn K C_NoCount [.type "ValueError", .type "Exception", .type "BaseException", .type "object"] "ValueError.__new__" = true)
    (k_NoCount : PySem.W.keepIn K (.ref C_NoCount) = true)
    (b_NoCount : PySem.W.subIn K (.ref C_NoCount) (.type "BaseException") = some true)
    (t_NoCount : PySem.W.typeIn K (.ref C_NoCount) = some (.type "type"))
    (a_NoName : PySem.W.nsIn K mainGlobals "NoName" = some (some (.ref C_NoName)))
    (x_NoName : PySem.W.excIn K C_NoName [.type "ValueError", .type "Exception", .type "BaseException", .type "object"] "ValueError.__new__" = true)
    (k_NoName : PySem.W.keepIn K (.ref C_NoName) = true)
    (b_NoName : PySem.W.subIn K (.ref C_NoName) (.type "BaseException") = some true)
    (t_NoName : PySem.W.typeIn K (.ref C_NoName) = some (.type "type"))
    (a_Twice : PySem.W.nsIn K mainGlobals "Twice" = some (some (.ref C_Twice)))
    (x_Twice : PySem.W.excIn K C_Twice [.type "ValueError", .type "Exception", .type "BaseException", .type "object"] "ValueError.__new__" = true)
    (k_Twice : PySem.W.keepIn K (.ref C_Twice) = true)
    (b_Twice : PySem.W.subIn K (.ref C_Twice) (.type "BaseException") = some true)
    (t_Twice : PySem.W.typeIn K (.ref C_Twice) = some (.type "type"))
    (a_Full : PySem.W.nsIn K mainGlobals "Full" = some (some (.ref C_Full)))
    (x_Full : PySem.W.excIn K C_Full [.type "ValueError", .type "Exception", .type "BaseException", .type "object"] "ValueError.__new__" = true)
    (k_Full : PySem.W.keepIn K (.ref C_Full) = true)
    (b_Full : PySem.W.subIn K (.ref C_Full) (.type "BaseException") = some true)
    (t_Full : PySem.W.typeIn K (.ref C_Full) = some (.type "type"))
    (a_Bare : PySem.W.nsIn K mainGlobals "Bare" = some (some (.ref C_Bare)))
    (x_Bare : PySem.W.excIn K C_Bare [.type "ValueError", .type "Exception", .type "BaseException", .type "object"] "ValueError.__new__" = true)
    (k_Bare : PySem.W.keepIn K (.ref C_Bare) = true)
    (b_Bare : PySem.W.subIn K (.ref C_Bare) (.type "BaseException") = some true)
    (t_Bare : PySem.W.typeIn K (.ref C_Bare) = some (.type "type"))
    (a_NoDeed : PySem.W.nsIn K mainGlobals "NoDeed" = some (some (.ref C_NoDeed)))
    (x_NoDeed : PySem.W.excIn K C_NoDeed [.type "ValueError", .type "Exception", .type "BaseException", .type "object"] "ValueError.__new__" = true)
    (k_NoDeed : PySem.W.keepIn K (.ref C_NoDeed) = true)
    (b_NoDeed : PySem.W.subIn K (.ref C_NoDeed) (.type "BaseException") = some true)
    (t_NoDeed : PySem.W.typeIn K (.ref C_NoDeed) = some (.type "type"))
    (a_NoText : PySem.W.nsIn K mainGlobals "NoText" = some (some (.ref C_NoText)))
    (x_NoText : PySem.W.excIn K C_NoText [.type "ValueError", .type "Exception", .type "BaseException", .type "object"] "ValueError.__new__" = true)
    (k_NoText : PySem.W.keepIn K (.ref C_NoText) = true)
    (b_NoText : PySem.W.subIn K (.ref C_NoText) (.type "BaseException") = some true)
    (t_NoText : PySem.W.typeIn K (.ref C_NoText) = some (.type "type"))
    (a_NoLine : PySem.W.nsIn K mainGlobals "NoLine" = some (some (.ref C_NoLine)))
    (x_NoLine : PySem.W.excIn K C_NoLine [.type "ValueError", .type "Exception", .type "BaseException", .type "object"] "ValueError.__new__" = true)
    (k_NoLine : PySem.W.keepIn K (.ref C_NoLine) = true)
    (b_NoLine : PySem.W.subIn K (.ref C_NoLine) (.type "BaseException") = some true)
    (t_NoLine : PySem.W.typeIn K (.ref C_NoLine) = some (.type "type"))
    (z_ValueError : PySem.W.nsIn K mainGlobals "ValueError" = some none)
    (z_all : PySem.W.nsIn K mainGlobals "all" = some none)
    (z_bool : PySem.W.nsIn K mainGlobals "bool" = some none)
    (z_int : PySem.W.nsIn K mainGlobals "int" = some none)
    (z_isinstance : PySem.W.nsIn K mainGlobals "isinstance" = some none)
    (z_len : PySem.W.nsIn K mainGlobals "len" = some none)
    (z_max : PySem.W.nsIn K mainGlobals "max" = some none)
    (z_min : PySem.W.nsIn K mainGlobals "min" = some none)
    (z_range : PySem.W.nsIn K mainGlobals "range" = some none)
    (z_set : PySem.W.nsIn K mainGlobals "set" = some none)
    (z_sorted : PySem.W.nsIn K mainGlobals "sorted" = some none)
    (z_str : PySem.W.nsIn K mainGlobals "str" = some none)
    (z_tuple : PySem.W.nsIn K mainGlobals "tuple" = some none)
    (z_zip : PySem.W.nsIn K mainGlobals "zip" = some none)
    (excs : ([C_ShelfError, C_NoSpan, C_NoPlace, C_NoCover, C_NoWeight, C_NoCount, C_NoName, C_Twice, C_Full, C_Bare, C_NoDeed, C_NoText, C_NoLine].map fun (D : Addr) => (PySem.W.findIn K (.ref D) "__getattribute__", PySem.W.findIn K (.ref D) "__getattr__", PySem.W.subIn K (.ref D) (.type "BaseException"), PySem.W.hasDictIn K D, PySem.W.findIn K (.ref D) "__class__", PySem.W.mroIn K D (.type "object"))) = [C_ShelfError, C_NoSpan, C_NoPlace, C_NoCover, C_NoWeight, C_NoCount, C_NoName, C_Twice, C_Full, C_Bare, C_NoDeed, C_NoText, C_NoLine].map fun (_ : Addr) => (some (some (.builtin "BaseException.__getattribute__")), some none, some true, true, some (some (.builtin "object.__class__")), some true))
    (gets : (PySem.W.specialIn K (.builtin "object.__class__") "__get__", PySem.W.takesIn K (.builtin "object.__class__")) = (some (some (.builtin "getset_descriptor.__get__")), some true))
    (kits : ([C_ShelfError, C_NoSpan, C_NoPlace, C_NoCover, C_NoWeight, C_NoCount, C_NoName, C_Twice, C_Full, C_Bare, C_NoDeed, C_NoText, C_NoLine].map fun (D : Addr) => [C_NoSpan, C_NoPlace, C_NoCover, C_NoWeight, C_NoCount, C_NoName, C_Twice, C_Full, C_Bare, C_NoDeed, C_NoText, C_NoLine].map fun (C : Addr) => PySem.W.kitOne K (.ref D) (.ref C)) = (List.range 13).map fun i => (List.range 12).map fun j => some (i == j + 1))
    (tops : ([C_ShelfError, C_NoSpan, C_NoPlace, C_NoCover, C_NoWeight, C_NoCount, C_NoName, C_Twice, C_Full, C_Bare, C_NoDeed, C_NoText, C_NoLine].map fun (D : Addr) => (PySem.W.kitOne K (.ref D) (.ref C_ShelfError), PySem.W.kitOne K (.ref D) (.type "ValueError"))) = [C_ShelfError, C_NoSpan, C_NoPlace, C_NoCover, C_NoWeight, C_NoCount, C_NoName, C_Twice, C_Full, C_Bare, C_NoDeed, C_NoText, C_NoLine].map fun (_ : Addr) => (some true, some true))
    (nones : ([C_ShelfError, C_NoSpan, C_NoPlace, C_NoCover, C_NoWeight, C_NoCount, C_NoName, C_Twice, C_Full, C_Bare, C_NoDeed, C_NoText, C_NoLine].map fun (C : Addr) => PySem.W.kitOne K (.type "NoneType") (.ref C)) = [C_ShelfError, C_NoSpan, C_NoPlace, C_NoCover, C_NoWeight, C_NoCount, C_NoName, C_Twice, C_Full, C_Bare, C_NoDeed, C_NoText, C_NoLine].map fun (_ : Addr) => some false)
    (exms : ([C_ShelfError, C_NoSpan, C_NoPlace, C_NoCover, C_NoWeight, C_NoCount, C_NoName, C_Twice, C_Full, C_Bare, C_NoDeed, C_NoText, C_NoLine].map fun (D : Addr) => PySem.W.exmOne K (.ref D) (.ref C_ShelfError)) = [C_ShelfError, C_NoSpan, C_NoPlace, C_NoCover, C_NoWeight, C_NoCount, C_NoName, C_Twice, C_Full, C_Bare, C_NoDeed, C_NoText, C_NoLine].map fun (_ : Addr) => some true)
    (R : ∀ nm ∈ (["is_cover", "is_name", "number_from", "are_rows"] : List Str), TabRec h mg nm)
    : LamX.LawAtS l w K CX0 9 63 "_law_script" mg fa h := by
  have e := hfa.symm.trans (PySem.W.mg_of X G a_law)
  cases e
  have F__wall := fun_mk (st := s__wall) l__wall c__wall k__wall
  have b__wall := F__wall.binds (ps := ["k"]) fun _ _ _ _ _ _ us hl => match us, hl with | [_], _ => rfl
  have F_is_whole := fun_mk (st := s_is_whole) l_is_whole c_is_whole k_is_whole
  have b_is_whole := F_is_whole.binds (ps := ["number"]) fun _ _ _ _ _ _ us hl => match us, hl with | [_], _ => rfl
  have F_is_place := fun_mk (st := s_is_place) l_is_place c_is_place k_is_place
  have b_is_place := F_is_place.binds (ps := ["number"]) fun _ _ _ _ _ _ us hl => match us, hl with | [_], _ => rfl
  have F_is_span := fun_mk (st := s_is_span) l_is_span c_is_span k_is_span
  have b_is_span := F_is_span.binds (ps := ["span"]) fun _ _ _ _ _ _ us hl => match us, hl with | [_], _ => rfl
  have F_check_place := fun_mk (st := s_check_place) l_check_place c_check_place k_check_place
  have b_check_place := F_check_place.binds (ps := ["place"]) fun _ _ _ _ _ _ us hl => match us, hl with | [_], _ => rfl
  have F_is_cover := fun_mk (st := s_is_cover) l_is_cover c_is_cover k_is_cover
  have b_is_cover := F_is_cover.binds (ps := ["spans"]) fun _ _ _ _ _ _ us hl => match us, hl with | [_], _ => rfl
  have F_joined := fun_mk (st := s_joined) l_joined c_joined k_joined
  have b_joined := F_joined.binds (ps := ["spans"]) fun _ _ _ _ _ _ us hl => match us, hl with | [_], _ => rfl
  have F_is_name := fun_mk (st := s_is_name) l_is_name c_is_name k_is_name
  have b_is_name := F_is_name.binds (ps := ["text"]) fun _ _ _ _ _ _ us hl => match us, hl with | [_], _ => rfl
  have F_is_weight := fun_mk (st := s_is_weight) l_is_weight c_is_weight k_is_weight
  have b_is_weight := F_is_weight.binds (ps := ["number"]) fun _ _ _ _ _ _ us hl => match us, hl with | [_], _ => rfl
  have F_check_weight := fun_mk (st := s_check_weight) l_check_weight c_check_weight k_check_weight
  have b_check_weight := F_check_weight.binds (ps := ["weight"]) fun _ _ _ _ _ _ us hl => match us, hl with | [_], _ => rfl
  have F_kept_on := fun_mk (st := s_kept_on) l_kept_on c_kept_on k_kept_on
  have b_kept_on := F_kept_on.binds (ps := ["shelf"]) fun _ _ _ _ _ _ us hl => match us, hl with | [_], _ => rfl
  have F_keep := fun_mk (st := s_keep) l_keep c_keep k_keep
  have b_keep := F_keep.binds (ps := ["shelf", "kept"]) fun _ _ _ _ _ _ us hl => match us, hl with | [_, _], _ => rfl
  have F_row_of := fun_mk (st := s_row_of) l_row_of c_row_of k_row_of
  have b_row_of := F_row_of.binds (ps := ["shelf", "name"]) fun _ _ _ _ _ _ us hl => match us, hl with | [_, _], _ => rfl
  have F_put_row := fun_mk (st := s_put_row) l_put_row c_put_row k_put_row
  have b_put_row := F_put_row.binds (ps := ["shelf", "name", "span", "weight"]) fun _ _ _ _ _ _ us hl => match us, hl with | [_, _, _, _], _ => rfl
  have F_check_length := fun_mk (st := s_check_length) l_check_length c_check_length k_check_length
  have b_check_length := F_check_length.binds (ps := ["length"]) fun _ _ _ _ _ _ us hl => match us, hl with | [_], _ => rfl
  have F_spans_on := fun_mk (st := s_spans_on) l_spans_on c_spans_on k_spans_on
  have b_spans_on := F_spans_on.binds (ps := ["shelf"]) fun _ _ _ _ _ _ us hl => match us, hl with | [_], _ => rfl
  have F_first_room := fun_mk (st := s_first_room) l_first_room c_first_room k_first_room
  have b_first_room := F_first_room.binds (ps := ["cover", "place", "length"]) fun _ _ _ _ _ _ us hl => match us, hl with | [_, _, _], _ => rfl
  have F_Shelf___init__ := fun_mk (st := s_Shelf___init__) l_Shelf___init__ c_Shelf___init__ k_Shelf___init__
  have b_Shelf___init__ := F_Shelf___init__.binds (ps := ["self"]) fun _ _ _ _ _ _ us hl => match us, hl with | [_], _ => rfl
  have F_Shelf_weigh := fun_mk (st := s_Shelf_weigh) l_Shelf_weigh c_Shelf_weigh k_Shelf_weigh
  have b_Shelf_weigh := F_Shelf_weigh.binds (ps := ["self", "name", "weight"]) fun _ _ _ _ _ _ us hl => match us, hl with | [_, _, _], _ => rfl
  have F_Shelf_back := fun_mk (st := s_Shelf_back) l_Shelf_back c_Shelf_back k_Shelf_back
  have b_Shelf_back := F_Shelf_back.binds (ps := ["self"]) fun _ _ _ _ _ _ us hl => match us, hl with | [_], _ => rfl
  have F_Shelf_again := fun_mk (st := s_Shelf_again) l_Shelf_again c_Shelf_again k_Shelf_again
  have b_Shelf_again := F_Shelf_again.binds (ps := ["self"]) fun _ _ _ _ _ _ us hl => match us, hl with | [_], _ => rfl
  have F_Shelf_names := fun_mk (st := s_Shelf_names) l_Shelf_names c_Shelf_names k_Shelf_names
  have b_Shelf_names := F_Shelf_names.binds (ps := ["self"]) fun _ _ _ _ _ _ us hl => match us, hl with | [_], _ => rfl
  have F_Shelf_span := fun_mk (st := s_Shelf_span) l_Shelf_span c_Shelf_span k_Shelf_span
  have b_Shelf_span := F_Shelf_span.binds (ps := ["self", "name"]) fun _ _ _ _ _ _ us hl => match us, hl with | [_, _], _ => rfl
  have F_Shelf_weight := fun_mk (st := s_Shelf_weight) l_Shelf_weight c_Shelf_weight k_Shelf_weight
  have b_Shelf_weight := F_Shelf_weight.binds (ps := ["self", "name"]) fun _ _ _ _ _ _ us hl => match us, hl with | [_, _], _ => rfl
  have F_Shelf_cover := fun_mk (st := s_Shelf_cover) l_Shelf_cover c_Shelf_cover k_Shelf_cover
  have b_Shelf_cover := F_Shelf_cover.binds (ps := ["self"]) fun _ _ _ _ _ _ us hl => match us, hl with | [_], _ => rfl
  have F_Shelf_room := fun_mk (st := s_Shelf_room) l_Shelf_room c_Shelf_room k_Shelf_room
  have b_Shelf_room := F_Shelf_room.binds (ps := ["self", "place", "length"]) fun _ _ _ _ _ _ us hl => match us, hl with | [_, _, _], _ => rfl
  have F_shelf_of := fun_mk (st := s_shelf_of) l_shelf_of c_shelf_of k_shelf_of
  have b_shelf_of := F_shelf_of.binds (ps := ["kept"]) fun _ _ _ _ _ _ us hl => match us, hl with | [_], _ => rfl
  have F_number_from := fun_mk (st := s_number_from) l_number_from c_number_from k_number_from
  have b_number_from := F_number_from.binds (ps := ["word"]) fun _ _ _ _ _ _ us hl => match us, hl with | [_], _ => rfl
  have F_span_from := fun_mk (st := s_span_from) l_span_from c_span_from k_span_from
  have b_span_from := F_span_from.binds (ps := ["text"]) fun _ _ _ _ _ _ us hl => match us, hl with | [_], _ => rfl
  have F_row_from := fun_mk (st := s_row_from) l_row_from c_row_from k_row_from
  have b_row_from := F_row_from.binds (ps := ["line"]) fun _ _ _ _ _ _ us hl => match us, hl with | [_], _ => rfl
  have F_are_rows := fun_mk (st := s_are_rows) l_are_rows c_are_rows k_are_rows
  have b_are_rows := F_are_rows.binds (ps := ["rows"]) fun _ _ _ _ _ _ us hl => match us, hl with | [_], _ => rfl
  have F_read_span := fun_mk (st := s_read_span) l_read_span c_read_span k_read_span
  have b_read_span := F_read_span.binds (ps := ["text"]) fun _ _ _ _ _ _ us hl => match us, hl with | [_], _ => rfl
  have F_read_cover := fun_mk (st := s_read_cover) l_read_cover c_read_cover k_read_cover
  have b_read_cover := F_read_cover.binds (ps := ["text"]) fun _ _ _ _ _ _ us hl => match us, hl with | [_], _ => rfl
  have F_read_shelf := fun_mk (st := s_read_shelf) l_read_shelf c_read_shelf k_read_shelf
  have b_read_shelf := F_read_shelf.binds (ps := ["text"]) fun _ _ _ _ _ _ us hl => match us, hl with | [_], _ => rfl
  have F_l_at := fun_mk (st := s_l_at) l_l_at c_l_at k_l_at
  have b_l_at := F_l_at.binds (ps := ["_law_script", "_law_k"]) fun _ _ _ _ _ _ us hl => match us, hl with | [_, _], _ => rfl
  have F_l_mixed := fun_mk (st := s_l_mixed) l_l_mixed c_l_mixed k_l_mixed
  have b_l_mixed := F_l_mixed.binds (ps := ["_law_cell", "_law_k"]) fun _ _ _ _ _ _ us hl => match us, hl with | [_, _], _ => rfl
  have F_l_purse := fun_mk (st := s_l_purse) l_l_purse c_l_purse k_l_purse
  have b_l_purse := F_l_purse.binds (ps := ["_law_script", "_law_at_here"]) fun _ _ _ _ _ _ us hl => match us, hl with | [_, _], _ => rfl
  have F_l_draw := fun_mk (st := s_l_draw) l_l_draw c_l_draw k_l_draw
  have b_l_draw := F_l_draw.binds (ps := ["_law_purse_here", "_law_out_of"]) fun _ _ _ _ _ _ us hl => match us, hl with | [_, _], _ => rfl
  have F_l_number := fun_mk (st := s_l_number) l_l_number c_l_number k_l_number
  have b_l_number := F_l_number.binds (ps := ["_law_purse_here", "_law_most"]) fun _ _ _ _ _ _ us hl => match us, hl with | [_, _], _ => rfl
  have F_l_names := fun_mk (st := s_l_names) l_l_names c_l_names k_l_names
  have b_l_names := F_l_names.binds (ps := ["_law_purse_here", "_law_many"]) fun _ _ _ _ _ _ us hl => match us, hl with | [_, _], _ => rfl
  have F_l_end := fun_mk (st := s_l_end) l_l_end c_l_end k_l_end
  have b_l_end := F_l_end.binds (ps := ["_law_purse_here", "_law_ends", "_law_most"]) fun _ _ _ _ _ _ us hl => match us, hl with | [_, _, _], _ => rfl
  have F_l_span := fun_mk (st := s_l_span) l_l_span c_l_span k_l_span
  have b_l_span := F_l_span.binds (ps := ["_law_purse_here", "_law_ends", "_law_most"]) fun _ _ _ _ _ _ us hl => match us, hl with | [_, _, _], _ => rfl
  have F_l_cover := fun_mk (st := s_l_cover) l_l_cover c_l_cover k_l_cover
  have b_l_cover := F_l_cover.binds (ps := ["_law_purse_here", "_law_many"]) fun _ _ _ _ _ _ us hl => match us, hl with | [_, _], _ => rfl
  have F_l_class := fun_mk (st := s_l_class) l_l_class c_l_class k_l_class
  have b_l_class := F_l_class.binds (ps := ["_law_caught"]) fun _ _ _ _ _ _ us hl => match us, hl with | [_], _ => rfl
  have F_l_span_text := fun_mk (st := s_l_span_text) l_l_span_text c_l_span_text k_l_span_text
  have b_l_span_text := F_l_span_text.binds (ps := ["_law_span_here"]) fun _ _ _ _ _ _ us hl => match us, hl with | [_], _ => rfl
  have F_l_shelf_text := fun_mk (st := s_l_shelf_text) l_l_shelf_text c_l_shelf_text k_l_shelf_text
  have b_l_shelf_text := F_l_shelf_text.binds (ps := ["_law_kept"]) fun _ _ _ _ _ _ us hl => match us, hl with | [_], _ => rfl
  have F_l_number_read := fun_mk (st := s_l_number_read) l_l_number_read c_l_number_read k_l_number_read
  have b_l_number_read := F_l_number_read.binds (ps := ["_law_text"]) fun _ _ _ _ _ _ us hl => match us, hl with | [_], _ => rfl
  have F_l_span_read := fun_mk (st := s_l_span_read) l_l_span_read c_l_span_read k_l_span_read
  have b_l_span_read := F_l_span_read.binds (ps := ["_law_text"]) fun _ _ _ _ _ _ us hl => match us, hl with | [_], _ => rfl
  have F_l_cover_read := fun_mk (st := s_l_cover_read) l_l_cover_read c_l_cover_read k_l_cover_read
  have b_l_cover_read := F_l_cover_read.binds (ps := ["_law_text"]) fun _ _ _ _ _ _ us hl => match us, hl with | [_], _ => rfl
  have F_l_row_read := fun_mk (st := s_l_row_read) l_l_row_read c_l_row_read k_l_row_read
  have b_l_row_read := F_l_row_read.binds (ps := ["_law_row"]) fun _ _ _ _ _ _ us hl => match us, hl with | [_], _ => rfl
  have F_l_shelf_read := fun_mk (st := s_l_shelf_read) l_l_shelf_read c_l_shelf_read k_l_shelf_read
  have b_l_shelf_read := F_l_shelf_read.binds (ps := ["_law_text"]) fun _ _ _ _ _ _ us hl => match us, hl with | [_], _ => rfl
  have F_l_asked := fun_mk (st := s_l_asked) l_l_asked c_l_asked k_l_asked
  have b_l_asked := F_l_asked.binds (ps := ["_law_text", "_law_way"]) fun _ _ _ _ _ _ us hl => match us, hl with | [_, _], _ => rfl
  have F_l_right := fun_mk (st := s_l_right) l_l_right c_l_right k_l_right
  have b_l_right := F_l_right.binds (ps := ["_law_text"]) fun _ _ _ _ _ _ us hl => match us, hl with | [_], _ => rfl
  have F_l_spoilt := fun_mk (st := s_l_spoilt) l_l_spoilt c_l_spoilt k_l_spoilt
  have b_l_spoilt := F_l_spoilt.binds (ps := ["_law_purse_here", "_law_text"]) fun _ _ _ _ _ _ us hl => match us, hl with | [_, _], _ => rfl
  have F_law := fun_mk (st := s_law) l_law c_law k_law
  have b_law := F_law.binds (ps := ["_law_script"]) fun _ _ _ _ _ _ us hl => match us, hl with | [_], _ => rfl
  let T : Tx K mg := { f__wall := _, fd__wall := _, F__wall := F__wall, b__wall := b__wall, g__wall := PySem.W.mg_of X G a__wall, f_is_whole := _, fd_is_whole := _, F_is_whole := F_is_whole, b_is_whole := b_is_whole, g_is_whole := PySem.W.mg_of X G a_is_whole, f_is_place := _, fd_is_place := _, F_is_place := F_is_place, b_is_place := b_is_place, g_is_place := PySem.W.mg_of X G a_is_place, f_is_span := _, fd_is_span := _, F_is_span := F_is_span, b_is_span := b_is_span, g_is_span := PySem.W.mg_of X G a_is_span, f_check_place := _, fd_check_place := _, F_check_place := F_check_place, b_check_place := b_check_place, g_check_place := PySem.W.mg_of X G a_check_place, f_is_cover := _, fd_is_cover := _, F_is_cover := F_is_cover, b_is_cover := b_is_cover, g_is_cover := PySem.W.mg_of X G a_is_cover, cA_is_cover := cA_is_cover, pA_is_cover := pA_is_cover, FC_is_cover := ⟨⟨_, _, _, _, _, _, _, _, rfl, l_is_cover, c_is_cover⟩⟩, f_joined := _, fd_joined := _, F_joined := F_joined, b_joined := b_joined, g_joined := PySem.W.mg_of X G a_joined, f_is_name := _, fd_is_name := _, F_is_name := F_is_name, b_is_name := b_is_name, g_is_name := PySem.W.mg_of X G a_is_name, cA_is_name := cA_is_name, pA_is_name := pA_is_name, FC_is_name := ⟨⟨_, _, _, _, _, _, _, _, rfl, l_is_name, c_is_name⟩⟩, f_is_weight := _, fd_is_weight := _, F_is_weight := F_is_weight, b_is_weight := b_is_weight, g_is_weight := PySem.W.mg_of X G a_is_weight, f_check_weight := _, fd_check_weight := _, F_check_weight := F_check_weight, b_check_weight := b_check_weight, g_check_weight := PySem.W.mg_of X G a_check_weight, f_kept_on := _, fd_kept_on := _, F_kept_on := F_kept_on, b_kept_on := b_kept_on, g_kept_on := PySem.W.mg_of X G a_kept_on, f_keep := _, fd_keep := _, F_keep := F_keep, b_keep := b_keep, g_keep := PySem.W.mg_of X G a_keep, f_row_of := _, fd_row_of := _, F_row_of := F_row_of, b_row_of := b_row_of, g_row_of := PySem.W.mg_of X G a_row_of, f_put_row := _, fd_put_row := _, F_put_row := F_put_row, b_put_row := b_put_row, g_put_row := PySem.W.mg_of X G a_put_row, f_check_length := _, fd_check_length := _, F_check_length := F_check_length, b_check_length := b_check_length, g_check_length := PySem.W.mg_of X G a_check_length, f_spans_on := _, fd_spans_on := _, F_spans_on := F_spans_on, b_spans_on := b_spans_on, g_spans_on := PySem.W.mg_of X G a_spans_on, f_first_room := _, fd_first_room := _, F_first_room := F_first_room, b_first_room := b_first_room, g_first_room := PySem.W.mg_of X G a_first_room, f_Shelf___init__ := _, fd_Shelf___init__ := _, F_Shelf___init__ := F_Shelf___init__, b_Shelf___init__ := b_Shelf___init__, mk_Shelf := ⟨mkc_Shelf, a_Shelf___init__, i_Shelf___init__, kc_Shelf⟩, f_Shelf_weigh := _, fd_Shelf_weigh := _, F_Shelf_weigh := F_Shelf_weigh, b_Shelf_weigh := b_Shelf_weigh, mt_Shelf_weigh := ⟨a_Shelf_weigh, i_Shelf_weigh, k_Shelf_weigh⟩, f_Shelf_back := _, fd_Shelf_back := _, F_Shelf_back := F_Shelf_back, b_Shelf_back := b_Shelf_back, mt_Shelf_back := ⟨a_Shelf_back, i_Shelf_back, k_Shelf_back⟩, f_Shelf_again := _, fd_Shelf_again := _, F_Shelf_again := F_Shelf_again, b_Shelf_again := b_Shelf_again, mt_Shelf_again := ⟨a_Shelf_again, i_Shelf_again, k_Shelf_again⟩, f_Shelf_names := _, fd_Shelf_names := _, F_Shelf_names := F_Shelf_names, b_Shelf_names := b_Shelf_names, mt_Shelf_names := ⟨a_Shelf_names, i_Shelf_names, k_Shelf_names⟩, f_Shelf_span := _, fd_Shelf_span := _, F_Shelf_span := F_Shelf_span, b_Shelf_span := b_Shelf_span, mt_Shelf_span := ⟨a_Shelf_span, i_Shelf_span, k_Shelf_span⟩, f_Shelf_weight := _, fd_Shelf_weight := _, F_Shelf_weight := F_Shelf_weight, b_Shelf_weight := b_Shelf_weight, mt_Shelf_weight := ⟨a_Shelf_weight, i_Shelf_weight, k_Shelf_weight⟩, f_Shelf_cover := _, fd_Shelf_cover := _, F_Shelf_cover := F_Shelf_cover, b_Shelf_cover := b_Shelf_cover, mt_Shelf_cover := ⟨a_Shelf_cover, i_Shelf_cover, k_Shelf_cover⟩, f_Shelf_room := _, fd_Shelf_room := _, F_Shelf_room := F_Shelf_room, b_Shelf_room := b_Shelf_room, mt_Shelf_room := ⟨a_Shelf_room, i_Shelf_room, k_Shelf_room⟩, f_shelf_of := _, fd_shelf_of := _, F_shelf_of := F_shelf_of, b_shelf_of := b_shelf_of, g_shelf_of := PySem.W.mg_of X G a_shelf_of, f_number_from := _, fd_number_from := _, F_number_from := F_number_from, b_number_from := b_number_from, g_number_from := PySem.W.mg_of X G a_number_from, cA_number_from := cA_number_from, pA_number_from := pA_number_from, FC_number_from := ⟨⟨_, _, _, _, _, _, _, _, rfl, l_number_from, c_number_from⟩⟩, f_span_from := _, fd_span_from := _, F_span_from := F_span_from, b_span_from := b_span_from, g_span_from := PySem.W.mg_of X G a_span_from, f_row_from := _, fd_row_from := _, F_row_from := F_row_from, b_row_from := b_row_from, g_row_from := PySem.W.mg_of X G a_row_from, f_are_rows := _, fd_are_rows := _, F_are_rows := F_are_rows, b_are_rows := b_are_rows, g_are_rows := PySem.W.mg_of X G a_are_rows, cA_are_rows := cA_are_rows, pA_are_rows := pA_are_rows, FC_are_rows := ⟨⟨_, _, _, _, _, _, _, _, rfl, l_are_rows, c_are_rows⟩⟩, f_read_span := _, fd_read_span := _, F_read_span := F_read_span, b_read_span := b_read_span, g_read_span := PySem.W.mg_of X G a_read_span, f_read_cover := _, fd_read_cover := _, F_read_cover := F_read_cover, b_read_cover := b_read_cover, g_read_cover := PySem.W.mg_of X G a_read_cover, f_read_shelf := _, fd_read_shelf := _, F_read_shelf := F_read_shelf, b_read_shelf := b_read_shelf, g_read_shelf := PySem.W.mg_of X G a_read_shelf, f_l_at := _, fd_l_at := _, F_l_at := F_l_at, b_l_at := b_l_at, g_l_at := PySem.W.mg_of X G a_l_at, f_l_mixed := _, fd_l_mixed := _, F_l_mixed := F_l_mixed, b_l_mixed := b_l_mixed, g_l_mixed := PySem.W.mg_of X G a_l_mixed, f_l_purse := _, fd_l_purse := _, F_l_purse := F_l_purse, b_l_purse := b_l_purse, g_l_purse := PySem.W.mg_of X G a_l_purse, f_l_draw := _, fd_l_draw := _, F_l_draw := F_l_draw, b_l_draw := b_l_draw, g_l_draw := PySem.W.mg_of X G a_l_draw, f_l_number := _, fd_l_number := _, F_l_number := F_l_number, b_l_number := b_l_number, g_l_number := PySem.W.mg_of X G a_l_number, f_l_names := _, fd_l_names := _, F_l_names := F_l_names, b_l_names := b_l_names, g_l_names := PySem.W.mg_of X G a_l_names, f_l_end := _, fd_l_end := _, F_l_end := F_l_end, b_l_end := b_l_end, g_l_end := PySem.W.mg_of X G a_l_end, f_l_span := _, fd_l_span := _, F_l_span := F_l_span, b_l_span := b_l_span, g_l_span := PySem.W.mg_of X G a_l_span, f_l_cover := _, fd_l_cover := _, F_l_cover := F_l_cover, b_l_cover := b_l_cover, g_l_cover := PySem.W.mg_of X G a_l_cover, f_l_class := _, fd_l_class := _, F_l_class := F_l_class, b_l_class := b_l_class, g_l_class := PySem.W.mg_of X G a_l_class, f_l_span_text := _, fd_l_span_text := _, F_l_span_text := F_l_span_text, b_l_span_text := b_l_span_text, g_l_span_text := PySem.W.mg_of X G a_l_span_text, f_l_shelf_text := _, fd_l_shelf_text := _, F_l_shelf_text := F_l_shelf_text, b_l_shelf_text := b_l_shelf_text, g_l_shelf_text := PySem.W.mg_of X G a_l_shelf_text, f_l_number_read := _, fd_l_number_read := _, F_l_number_read := F_l_number_read, b_l_number_read := b_l_number_read, g_l_number_read := PySem.W.mg_of X G a_l_number_read, f_l_span_read := _, fd_l_span_read := _, F_l_span_read := F_l_span_read, b_l_span_read := b_l_span_read, g_l_span_read := PySem.W.mg_of X G a_l_span_read, f_l_cover_read := _, fd_l_cover_read := _, F_l_cover_read := F_l_cover_read, b_l_cover_read := b_l_cover_read, g_l_cover_read := PySem.W.mg_of X G a_l_cover_read, f_l_row_read := _, fd_l_row_read := _, F_l_row_read := F_l_row_read, b_l_row_read := b_l_row_read, g_l_row_read := PySem.W.mg_of X G a_l_row_read, f_l_shelf_read := _, fd_l_shelf_read := _, F_l_shelf_read := F_l_shelf_read, b_l_shelf_read := b_l_shelf_read, g_l_shelf_read := PySem.W.mg_of X G a_l_shelf_read, f_l_asked := _, fd_l_asked := _, F_l_asked := F_l_asked, b_l_asked := b_l_asked, g_l_asked := PySem.W.mg_of X G a_l_asked, f_l_right := _, fd_l_right := _, F_l_right := F_l_right, b_l_right := b_l_right, g_l_right := PySem.W.mg_of X G a_l_right, f_l_spoilt := _, fd_l_spoilt := _, F_l_spoilt := F_l_spoilt, b_l_spoilt := b_l_spoilt, g_l_spoilt := PySem.W.mg_of X G a_l_spoilt, f_law := _, fd_law := _, F_law := F_law, b_law := b_law, g_law := PySem.W.mg_of X G a_law, tc_LEAST_PLACE := _, c_LEAST_PLACE := PySem.W.mg_of X G n_LEAST_PLACE, tc_GREATEST_PLACE := _, c_GREATEST_PLACE := PySem.W.mg_of X G n_GREATEST_PLACE, tc_MOST_SPANS := _, c_MOST_SPANS := PySem.W.mg_of X G n_MOST_SPANS, tc_LONGEST_NAME := _, c_LONGEST_NAME := PySem.W.mg_of X G n_LONGEST_NAME, tc_GREATEST_WEIGHT := _, c_GREATEST_WEIGHT := PySem.W.mg_of X G n_GREATEST_WEIGHT, tc_MOST_KEPT := _, c_MOST_KEPT := PySem.W.mg_of X G n_MOST_KEPT, tc_GREATEST_LENGTH := _, c_GREATEST_LENGTH := PySem.W.mg_of X G n_GREATEST_LENGTH, tc_MOST_FIGURES := _, c_MOST_FIGURES := PySem.W.mg_of X G n_MOST_FIGURES, C_Shelf := _, g_Shelf := PySem.W.mg_of X G aC_Shelf, cl_Shelf := ⟨pg_Shelf, hd_Shelf, po_Shelf, sa_Shelf⟩, na_Shelf_states := na_Shelf_states, na_Shelf_now := na_Shelf_now, C_ShelfError := _, g_ShelfError := PySem.W.mg_of X G a_ShelfError, x_ShelfError := x_ShelfError, k_ShelfError := k_ShelfError, b_ShelfError := b_ShelfError, t_ShelfError := t_ShelfError, C_NoSpan := _, g_NoSpan := PySem.W.mg_of X G a_NoSpan, x_NoSpan := x_NoSpan, k_NoSpan := k_NoSpan, b_NoSpan := b_NoSpan, t_NoSpan := t_NoSpan, C_NoPlace := _, g_NoPlace := PySem.W.mg_of X G a_NoPlace, x_NoPlace := x_NoPlace, k_NoPlace := k_NoPlace, b_NoPlace := b_NoPlace, t_NoPlace := t_NoPlace, C_NoCover := _, g_NoCover := PySem.W.mg_of X G a_NoCover, x_NoCover := x_NoCover, k_NoCover := k_NoCover, b_NoCover := b_NoCover, t_NoCover := t_NoCover, C_NoWeight := _, g_NoWeight := PySem.W.mg_of X G a_NoWeight, x_NoWeight := x_NoWeight, k_NoWeight := k_NoWeight, b_NoWeight := b_NoWeight, t_NoWeight := t_NoWeight, C_NoCount := _, g_NoCount := PySem.W.mg_of X G a_NoCount, x_NoCount := x_NoCount, k_NoCount := k_NoCount, b_NoCount := b_NoCount, t_NoCount := t_NoCount, C_NoName := _, g_NoName := PySem.W.mg_of X G a_NoName, x_NoName := x_NoName, k_NoName := k_NoName, b_NoName := b_NoName, t_NoName := t_NoName, C_Twice := _, g_Twice := PySem.W.mg_of X G a_Twice, x_Twice := x_Twice, k_Twice := k_Twice, b_Twice := b_Twice, t_Twice := t_Twice, C_Full := _, g_Full := PySem.W.mg_of X G a_Full, x_Full := x_Full, k_Full := k_Full, b_Full := b_Full, t_Full := t_Full, C_Bare := _, g_Bare := PySem.W.mg_of X G a_Bare, x_Bare := x_Bare, k_Bare := k_Bare, b_Bare := b_Bare, t_Bare := t_Bare, C_NoDeed := _, g_NoDeed := PySem.W.mg_of X G a_NoDeed, x_NoDeed := x_NoDeed, k_NoDeed := k_NoDeed, b_NoDeed := b_NoDeed, t_NoDeed := t_NoDeed, C_NoText := _, g_NoText := PySem.W.mg_of X G a_NoText, x_NoText := x_NoText, k_NoText := k_NoText, b_NoText := b_NoText, t_NoText := t_NoText, C_NoLine := _, g_NoLine := PySem.W.mg_of X G a_NoLine, x_NoLine := x_NoLine, k_NoLine := k_NoLine, b_NoLine := b_NoLine, t_NoLine := t_NoLine, m_ValueError := PySem.W.mg_none_of X G z_ValueError, m_all := PySem.W.mg_none_of X G z_all, m_bool := PySem.W.mg_none_of X G z_bool, m_int := PySem.W.mg_none_of X G z_int, m_isinstance := PySem.W.mg_none_of X G z_isinstance, m_len := PySem.W.mg_none_of X G z_len, m_max := PySem.W.mg_none_of X G z_max, m_min := PySem.W.mg_none_of X G z_min, m_range := PySem.W.mg_none_of X G z_range, m_set := PySem.W.mg_none_of X G z_set, m_sorted := PySem.W.mg_none_of X G z_sorted, m_str := PySem.W.mg_none_of X G z_str, m_tuple := PySem.W.mg_none_of X G z_tuple, m_zip := PySem.W.mg_none_of X G z_zip, excs := excs, gets := gets, kits := kits, tops := tops, nones := nones, exms := exms }
  have z_t0 := tab_of X (R "is_cover" (by simp)) (PySem.W.mg_of X G a_is_cover) l_is_cover rfl y1_is_cover y2_is_cover
  have z_t1 := tab_of X (R "is_name" (by simp)) (PySem.W.mg_of X G a_is_name) l_is_name rfl y1_is_name y2_is_name
  have z_t2 := tab_of X (R "number_from" (by simp)) (PySem.W.mg_of X G a_number_from) l_number_from rfl y1_number_from y2_number_from
  have z_t3 := tab_of X (R "are_rows" (by simp)) (PySem.W.mg_of X G a_are_rows) l_are_rows rfl y1_are_rows y2_are_rows
  have e1 : ∀ p ∈ ([(cA_is_cover, pA_is_cover), (cA_is_name, pA_is_name), (cA_number_from, pA_number_from), (cA_are_rows, pA_are_rows)] : List (Addr × Addr)), h.get? p.2 = some { cls := .none, data := .fields #[] } ∧ K.lookup p.2 = none ∧ PySem.W.CodeHd h p.1 p.2 := fun p hp => by
    simp only [List.mem_cons, List.not_mem_nil, or_false] at hp
    rcases hp with rfl | rfl | rfl | rfl
    · exact ⟨z_t0.1, y3_is_cover, z_t0.2⟩
    · exact ⟨z_t1.1, y3_is_name, z_t1.2⟩
    · exact ⟨z_t2.1, y3_number_from, z_t2.2⟩
    · exact ⟨z_t3.1, y3_are_rows, z_t3.2⟩
  refine ⟨PySem.W.fnOf "law" "law" (defArgs s_law) (defBody s_law) (defScope s_law) .none kV_law dc_law pm_law an_law cd_law ct_law, [(cA_is_cover, pA_is_cover), (cA_is_name, pA_is_name), (cA_number_from, pA_number_from), (cA_are_rows, pA_are_rows)], spLaw T, fun p hp => (e1 p hp).1, fun p hp => (e1 p hp).2.1, fun p hp => (e1 p hp).2.2, fun s v => .of_eq rfl, fun H a ns hl _ hT hS => ?_, fun base _ _ hB => ?_⟩
  · refine ⟨a, ns, rfl, hS, hl, ⟨fun P hP => ?_, fun p hp => ?_⟩, fun _ => rfl⟩
    · refine ⟨#[], ?_, True.intro⟩
      have hP : P ∈ [pA_is_cover, pA_is_name, pA_number_from, pA_are_rows] := hP
      simp only [List.mem_cons, List.not_mem_nil, or_false] at hP
      rcases hP with hP | hP | hP | hP
      · rw [hP]
        exact hT (cA_is_cover, pA_is_cover) (by simp)
      · rw [hP]
        exact hT (cA_is_name, pA_is_name) (by simp)
      · rw [hP]
        exact hT (cA_number_from, pA_number_from) (by simp)
      · rw [hP]
        exact hT (cA_are_rows, pA_are_rows) (by simp)
    · exact absurd hp List.not_mem_nil
  · exact ok_law T { t_is_cover := ⟨(hB (cA_is_cover, pA_is_cover) (by simp)).code, (hB (cA_is_cover, pA_is_cover) (by simp)).bm, (hB (cA_is_cover, pA_is_cover) (by simp)).gP⟩, t_is_name := ⟨(hB (cA_is_name, pA_is_name) (by simp)).code, (hB (cA_is_name, pA_is_name) (by simp)).bm, (hB (cA_is_name, pA_is_name) (by simp)).gP⟩, t_number_from := ⟨(hB (cA_number_from, pA_number_from) (by simp)).code, (hB (cA_number_from, pA_number_from) (by simp)).bm, (hB (cA_number_from, pA_number_from) (by simp)).gP⟩, t_are_rows := ⟨(hB (cA_are_rows, pA_are_rows) (by simp)).code, (hB (cA_are_rows, pA_are_rows) (by simp)).bm, (hB (cA_are_rows, pA_are_rows) (by simp)).gP⟩ } F_law
end Sp
open PySem PySem.W PyProof.Rows
set_option maxHeartbeats 0 in
theorem PySem.Challenge.cw_spanshelf_k79_texts_of_nothing_holds : PySem.Challenge.rw_spanshelf_k79_texts_of_nothing.Holds := by
  w_on; o_law; k_head; (case hw => w_witness2)
  k_fill
  refine Sp.walk_tabs (l := PySem.Challenge.rw_spanshelf_k79_texts_of_nothing) (n := 63) (k := 9) (x := "_law_script") (CX := fun _ => L2.CX0) ["is_cover", "is_name", "number_from", "are_rows"] rfl (by decide) rfl ⟨rfl, by decide, by decide⟩ (by first | rfl | decide +kernel) (fun w h Y => by first | exact PySem.W.kIn_of Y | exact PySem.W.km_in_of Y) ?F (fun _ _ _ _ _ h => h)
  case F =>
    intro w mg fa h KX G hmg hR
    refine' Sp.all_mk KX G hmg ?aC_Shelf ?a__wall ?l__wall ?c__wall ?k__wall ?a_is_whole ?l_is_whole ?c_is_whole ?k_is_whole ?a_is_place ?l_is_place ?c_is_place ?k_is_place ?a_is_span ?l_is_span ?c_is_span ?k_is_span ?a_check_place ?l_check_place ?c_check_place ?k_check_place ?a_is_cover ?l_is_cover ?c_is_cover ?k_is_cover ?y1_is_cover ?y2_is_cover ?y3_is_cover ?a_joined ?l_joined ?c_joined ?k_joined ?a_is_name ?l_is_name ?c_is_name ?k_is_name ?y1_is_name ?y2_is_name ?y3_is_name ?a_is_weight ?l_is_weight ?c_is_weight ?k_is_weight ?a_check_weight ?l_check_weight ?c_check_weight ?k_check_weight ?a_kept_on ?l_kept_on ?c_kept_on ?k_kept_on ?a_keep ?l_keep ?c_keep ?k_keep ?a_row_of ?l_row_of ?c_row_of ?k_row_of ?a_put_row ?l_put_row ?c_put_row ?k_put_row ?a_check_length ?l_check_length ?c_check_length ?k_check_length ?a_spans_on ?l_spans_on ?c_spans_on ?k_spans_on ?a_first_room ?l_first_room ?c_first_room ?k_first_room ?a_Shelf___init__ ?i_Shelf___init__ ?l_Shelf___init__ ?c_Shelf___init__ ?k_Shelf___init__ ?a_Shelf_weigh ?i_Shelf_weigh ?l_Shelf_weigh ?c_Shelf_weigh ?k_Shelf_weigh ?a_Shelf_back ?i_Shelf_back ?l_Shelf_back ?c_Shelf_back ?k_Shelf_back ?a_Shelf_again ?i_Shelf_again ?l_Shelf_again ?c_Shelf_again ?k_Shelf_again ?a_Shelf_names ?i_Shelf_names ?l_Shelf_names ?c_Shelf_names ?k_Shelf_names ?a_Shelf_span ?i_Shelf_span ?l_Shelf_span ?c_Shelf_span ?k_Shelf_span ?a_Shelf_weight ?i_Shelf_weight ?l_Shelf_weight ?c_Shelf_weight ?k_Shelf_weight ?a_Shelf_cover ?i_Shelf_cover ?l_Shelf_cover ?c_Shelf_cover ?k_Shelf_cover ?a_Shelf_room ?i_Shelf_room ?l_Shelf_room ?c_Shelf_room ?k_Shelf_room ?a_shelf_of ?l_shelf_of ?c_shelf_of ?k_shelf_of ?a_number_from ?l_number_from ?c_number_from ?k_number_from ?y1_number_from ?y2_number_from ?y3_number_from ?a_span_from ?l_span_from ?c_span_from ?k_span_from ?a_row_from ?l_row_from ?c_row_from ?k_row_from ?a_are_rows ?l_are_rows ?c_are_rows ?k_are_rows ?y1_are_rows ?y2_are_rows ?y3_are_rows ?a_read_span ?l_read_span ?c_read_span ?k_read_span ?a_read_cover ?l_read_cover ?c_read_cover ?k_read_cover ?a_read_shelf ?l_read_shelf ?c_read_shelf ?k_read_shelf ?a_l_at ?l_l_at ?c_l_at ?k_l_at ?a_l_mixed ?l_l_mixed ?c_l_mixed ?k_l_mixed ?a_l_purse ?l_l_purse ?c_l_purse ?k_l_purse ?a_l_draw ?l_l_draw ?c_l_draw ?k_l_draw ?a_l_number ?l_l_number ?c_l_number ?k_l_number ?a_l_names ?l_l_names ?c_l_names ?k_l_names ?a_l_end ?l_l_end ?c_l_end ?k_l_end ?a_l_span ?l_l_span ?c_l_span ?k_l_span ?a_l_cover ?l_l_cover ?c_l_cover ?k_l_cover ?a_l_class ?l_l_class ?c_l_class ?k_l_class ?a_l_span_text ?l_l_span_text ?c_l_span_text ?k_l_span_text ?a_l_shelf_text ?l_l_shelf_text ?c_l_shelf_text ?k_l_shelf_text ?a_l_number_read ?l_l_number_read ?c_l_number_read ?k_l_number_read ?a_l_span_read ?l_l_span_read ?c_l_span_read ?k_l_span_read ?a_l_cover_read ?l_l_cover_read ?c_l_cover_read ?k_l_cover_read ?a_l_row_read ?l_l_row_read ?c_l_row_read ?k_l_row_read ?a_l_shelf_read ?l_l_shelf_read ?c_l_shelf_read ?k_l_shelf_read ?a_l_asked ?l_l_asked ?c_l_asked ?k_l_asked ?a_l_right ?l_l_right ?c_l_right ?k_l_right ?a_l_spoilt ?l_l_spoilt ?c_l_spoilt ?k_l_spoilt ?a_law ?l_law ?c_law ?k_law ?n_LEAST_PLACE ?n_GREATEST_PLACE ?n_MOST_SPANS ?n_LONGEST_NAME ?n_GREATEST_WEIGHT ?n_MOST_KEPT ?n_GREATEST_LENGTH ?n_MOST_FIGURES ?pg_Shelf ?hd_Shelf ?po_Shelf ?sa_Shelf ?mkc_Shelf ?kc_Shelf ?na_Shelf_states ?na_Shelf_now ?a_ShelfError ?x_ShelfError ?k_ShelfError ?b_ShelfError ?t_ShelfError ?a_NoSpan ?x_NoSpan ?k_NoSpan ?b_NoSpan ?t_NoSpan ?a_NoPlace ?x_NoPlace ?k_NoPlace ?b_NoPlace ?t_NoPlace ?a_NoCover ?x_NoCover ?k_NoCover ?b_NoCover ?t_NoCover ?a_NoWeight ?x_NoWeight ?k_NoWeight ?b_NoWeight ?t_NoWeight ?a_NoCount ?x_NoCount ?k_NoCount ?b_NoCount ?t_NoCount ?a_NoName ?x_NoName ?k_NoName ?b_NoName ?t_NoName ?a_Twice ?x_Twice ?k_Twice ?b_Twice ?t_Twice ?a_Full ?x_Full ?k_Full ?b_Full ?t_Full ?a_Bare ?x_Bare ?k_Bare ?b_Bare ?t_Bare ?a_NoDeed ?x_NoDeed ?k_NoDeed ?b_NoDeed ?t_NoDeed ?a_NoText ?x_NoText ?k_NoText ?b_NoText ?t_NoText ?a_NoLine ?x_NoLine ?k_NoLine ?b_NoLine ?t_NoLine ?z_ValueError ?z_all ?z_bool ?z_int ?z_isinstance ?z_len ?z_max ?z_min ?z_range ?z_set ?z_sorted ?z_str ?z_tuple ?z_zip ?excs ?gets ?kits ?tops ?nones ?exms hR
    (case aC_Shelf => first | k_is | rfl)
    (case a__wall => first | k_is | rfl)
    (case l__wall => first | k_is | rfl)
    (case c__wall => first | k_is | rfl)
    (case k__wall => first | k_is | rfl)
    (case a_is_whole => first | k_is | rfl)
    (case l_is_whole => first | k_is | rfl)
    (case c_is_whole => first | k_is | rfl)
    (case k_is_whole => first | k_is | rfl)
    (case a_is_place => first | k_is | rfl)
    (case l_is_place => first | k_is | rfl)
    (case c_is_place => first | k_is | rfl)
    (case k_is_place => first | k_is | rfl)
    (case a_is_span => first | k_is | rfl)
    (case l_is_span => first | k_is | rfl)
    (case c_is_span => first | k_is | rfl)
    (case k_is_span => first | k_is | rfl)
    (case a_check_place => first | k_is | rfl)
    (case l_check_place => first | k_is | rfl)
    (case c_check_place => first | k_is | rfl)
    (case k_check_place => first | k_is | rfl)
    (case a_is_cover => first | k_is | rfl)
    (case l_is_cover => first | k_is | rfl)
    (case c_is_cover => first | k_is | rfl)
    (case k_is_cover => first | k_is | rfl)
    (case y1_is_cover => first | k_is | rfl)
    (case y2_is_cover => rfl)
    (case y3_is_cover => first | k_is | kernel_rfl)
    (case a_joined => first | k_is | rfl)
    (case l_joined => first | k_is | rfl)
    (case c_joined => first | k_is | rfl)
    (case k_joined => first | k_is | rfl)
    (case a_is_name => first | k_is | rfl)
    (case l_is_name => first | k_is | rfl)
    (case c_is_name => first | k_is | rfl)
    (case k_is_name => first | k_is | rfl)
    (case y1_is_name => first | k_is | rfl)
    (case y2_is_name => rfl)
    (case y3_is_name => first | k_is | kernel_rfl)
    (case a_is_weight => first | k_is | rfl)
    (case l_is_weight => first | k_is | rfl)
    (case c_is_weight => first | k_is | rfl)
    (case k_is_weight => first | k_is | rfl)
    (case a_check_weight => first | k_is | rfl)
    (case l_check_weight => first | k_is | rfl)
    (case c_check_weight => first | k_is | rfl)
    (case k_check_weight => first | k_is | rfl)
    (case a_kept_on => first | k_is | rfl)
    (case l_kept_on => first | k_is | rfl)
    (case c_kept_on => first | k_is | rfl)
    (case k_kept_on => first | k_is | rfl)
    (case a_keep => first | k_is | rfl)
    (case l_keep => first | k_is | rfl)
    (case c_keep => first | k_is | rfl)
    (case k_keep => first | k_is | rfl)
    (case a_row_of => first | k_is | rfl)
    (case l_row_of => first | k_is | rfl)
    (case c_row_of => first | k_is | rfl)
    (case k_row_of => first | k_is | rfl)
    (case a_put_row => first | k_is | rfl)
    (case l_put_row => first | k_is | rfl)
    (case c_put_row => first | k_is | rfl)
    (case k_put_row => first | k_is | rfl)
    (case a_check_length => first | k_is | rfl)
    (case l_check_length => first | k_is | rfl)
    (case c_check_length => first | k_is | rfl)
    (case k_check_length => first | k_is | rfl)
    (case a_spans_on => first | k_is | rfl)
    (case l_spans_on => first | k_is | rfl)
    (case c_spans_on => first | k_is | rfl)
    (case k_spans_on => first | k_is | rfl)
    (case a_first_room => first | k_is | rfl)
    (case l_first_room => first | k_is | rfl)
    (case c_first_room => first | k_is | rfl)
    (case k_first_room => first | k_is | rfl)
    (case a_Shelf___init__ => first | k_is | rfl)
    (case i_Shelf___init__ => first | k_is | rfl)
    (case l_Shelf___init__ => first | k_is | rfl)
    (case c_Shelf___init__ => first | k_is | rfl)
    (case k_Shelf___init__ => first | k_is | rfl)
    (case a_Shelf_weigh => first | k_is | rfl)
    (case i_Shelf_weigh => first | k_is | rfl)
    (case l_Shelf_weigh => first | k_is | rfl)
    (case c_Shelf_weigh => first | k_is | rfl)
    (case k_Shelf_weigh => first | k_is | rfl)
    (case a_Shelf_back => first | k_is | rfl)
    (case i_Shelf_back => first | k_is | rfl)
    (case l_Shelf_back => first | k_is | rfl)
    (case c_Shelf_back => first | k_is | rfl)
    (case k_Shelf_back => first | k_is | rfl)
    (case a_Shelf_again => first | k_is | rfl)
    (case i_Shelf_again => first | k_is | rfl)
    (case l_Shelf_again => first | k_is | rfl)
    (case c_Shelf_again => first | k_is | rfl)
    (case k_Shelf_again => first | k_is | rfl)
    (case a_Shelf_names => first | k_is | rfl)
    (case i_Shelf_names => first | k_is | rfl)
    (case l_Shelf_names => first | k_is | rfl)
    (case c_Shelf_names => first | k_is | rfl)
    (case k_Shelf_names => first | k_is | rfl)
    (case a_Shelf_span => first | k_is | rfl)
    (case i_Shelf_span => first | k_is | rfl)
    (case l_Shelf_span => first | k_is | rfl)
    (case c_Shelf_span => first | k_is | rfl)
    (case k_Shelf_span => first | k_is | rfl)
    (case a_Shelf_weight => first | k_is | rfl)
    (case i_Shelf_weight => first | k_is | rfl)
    (case l_Shelf_weight => first | k_is | rfl)
    (case c_Shelf_weight => first | k_is | rfl)
    (case k_Shelf_weight => first | k_is | rfl)
    (case a_Shelf_cover => first | k_is | rfl)
    (case i_Shelf_cover => first | k_is | rfl)
    (case l_Shelf_cover => first | k_is | rfl)
    (case c_Shelf_cover => first | k_is | rfl)
    (case k_Shelf_cover => first | k_is | rfl)
    (case a_Shelf_room => first | k_is | rfl)
    (case i_Shelf_room => first | k_is | rfl)
    (case l_Shelf_room => first | k_is | rfl)
    (case c_Shelf_room => first | k_is | rfl)
    (case k_Shelf_room => first | k_is | rfl)
    (case a_shelf_of => first | k_is | rfl)
    (case l_shelf_of => first | k_is | rfl)
    (case c_shelf_of => first | k_is | rfl)
    (case k_shelf_of => first | k_is | rfl)
    (case a_number_from => first | k_is | rfl)
    (case l_number_from => first | k_is | rfl)
    (case c_number_from => first | k_is | rfl)
    (case k_number_from => first | k_is | rfl)
    (case y1_number_from => first | k_is | rfl)
    (case y2_number_from => rfl)
    (case y3_number_from => first | k_is | kernel_rfl)
    (case a_span_from => first | k_is | rfl)
    (case l_span_from => first | k_is | rfl)
    (case c_span_from => first | k_is | rfl)
    (case k_span_from => first | k_is | rfl)
    (case a_row_from => first | k_is | rfl)
    (case l_row_from => first | k_is | rfl)
    (case c_row_from => first | k_is | rfl)
    (case k_row_from => first | k_is | rfl)
    (case a_are_rows => first | k_is | rfl)
    (case l_are_rows => first | k_is | rfl)
    (case c_are_rows => first | k_is | rfl)
    (case k_are_rows => first | k_is | rfl)
    (case y1_are_rows => first | k_is | rfl)
    (case y2_are_rows => rfl)
    (case y3_are_rows => first | k_is | kernel_rfl)
    (case a_read_span => first | k_is | rfl)
    (case l_read_span => first | k_is | rfl)
    (case c_read_span => first | k_is | rfl)
    (case k_read_span => first | k_is | rfl)
    (case a_read_cover => first | k_is | rfl)
    (case l_read_cover => first | k_is | rfl)
    (case c_read_cover => first | k_is | rfl)
    (case k_read_cover => first | k_is | rfl)
    (case a_read_shelf => first | k_is | rfl)
    (case l_read_shelf => first | k_is | rfl)
    (case c_read_shelf => first | k_is | rfl)
    (case k_read_shelf => first | k_is | rfl)
    (case a_l_at => first | k_is | rfl)
    (case l_l_at => first | k_is | rfl)
    (case c_l_at => first | k_is | rfl)
    (case k_l_at => first | k_is | rfl)
    (case a_l_mixed => first | k_is | rfl)
    (case l_l_mixed => first | k_is | rfl)
    (case c_l_mixed => first | k_is | rfl)
    (case k_l_mixed => first | k_is | rfl)
    (case a_l_purse => first | k_is | rfl)
    (case l_l_purse => first | k_is | rfl)
    (case c_l_purse => first | k_is | rfl)
    (case k_l_purse => first | k_is | rfl)
    (case a_l_draw => first | k_is | rfl)
    (case l_l_draw => first | k_is | rfl)
    (case c_l_draw => first | k_is | rfl)
    (case k_l_draw => first | k_is | rfl)
    (case a_l_number => first | k_is | rfl)
    (case l_l_number => first | k_is | rfl)
    (case c_l_number => first | k_is | rfl)
    (case k_l_number => first | k_is | rfl)
    (case a_l_names => first | k_is | rfl)
    (case l_l_names => first | k_is | rfl)
    (case c_l_names => first | k_is | rfl)
    (case k_l_names => first | k_is | rfl)
    (case a_l_end => first | k_is | rfl)
    (case l_l_end => first | k_is | rfl)
    (case c_l_end => first | k_is | rfl)
    (case k_l_end => first | k_is | rfl)
    (case a_l_span => first | k_is | rfl)
    (case l_l_span => first | k_is | rfl)
    (case c_l_span => first | k_is | rfl)
    (case k_l_span => first | k_is | rfl)
    (case a_l_cover => first | k_is | rfl)
    (case l_l_cover => first | k_is | rfl)
    (case c_l_cover => first | k_is | rfl)
    (case k_l_cover => first | k_is | rfl)
    (case a_l_class => first | k_is | rfl)
    (case l_l_class => first | k_is | rfl)
    (case c_l_class => first | k_is | rfl)
    (case k_l_class => first | k_is | rfl)
    (case a_l_span_text => first | k_is | rfl)
    (case l_l_span_text => first | k_is | rfl)
    (case c_l_span_text => first | k_is | rfl)
    (case k_l_span_text => first | k_is | rfl)
    (case a_l_shelf_text => first | k_is | rfl)
    (case l_l_shelf_text => first | k_is | rfl)
    (case c_l_shelf_text => first | k_is | rfl)
    (case k_l_shelf_text => first | k_is | rfl)
    (case a_l_number_read => first | k_is | rfl)
    (case l_l_number_read => first | k_is | rfl)
    (case c_l_number_read => first | k_is | rfl)
    (case k_l_number_read => first | k_is | rfl)
    (case a_l_span_read => first | k_is | rfl)
    (case l_l_span_read => first | k_is | rfl)
    (case c_l_span_read => first | k_is | rfl)
    (case k_l_span_read => first | k_is | rfl)
    (case a_l_cover_read => first | k_is | rfl)
    (case l_l_cover_read => first | k_is | rfl)
    (case c_l_cover_read => first | k_is | rfl)
    (case k_l_cover_read => first | k_is | rfl)
    (case a_l_row_read => first | k_is | rfl)
    (case l_l_row_read => first | k_is | rfl)
    (case c_l_row_read => first | k_is | rfl)
    (case k_l_row_read => first | k_is | rfl)
    (case a_l_shelf_read => first | k_is | rfl)
    (case l_l_shelf_read => first | k_is | rfl)
    (case c_l_shelf_read => first | k_is | rfl)
    (case k_l_shelf_read => first | k_is | rfl)
    (case a_l_asked => first | k_is | rfl)
    (case l_l_asked => first | k_is | rfl)
    (case c_l_asked => first | k_is | rfl)
    (case k_l_asked => first | k_is | rfl)
    (case a_l_right => first | k_is | rfl)
    (case l_l_right => first | k_is | rfl)
    (case c_l_right => first | k_is | rfl)
    (case k_l_right => first | k_is | rfl)
    (case a_l_spoilt => first | k_is | rfl)
    (case l_l_spoilt => first | k_is | rfl)
    (case c_l_spoilt => first | k_is | rfl)
    (case k_l_spoilt => first | k_is | rfl)
    (case a_law => first | k_is | rfl)
    (case l_law => first | k_is | rfl)
    (case c_law => first | k_is | rfl)
    (case k_law => first | k_is | rfl)
    (case n_LEAST_PLACE => first | k_is | rfl)
    (case n_GREATEST_PLACE => first | k_is | rfl)
    (case n_MOST_SPANS => first | k_is | rfl)
    (case n_LONGEST_NAME => first | k_is | rfl)
    (case n_GREATEST_WEIGHT => first | k_is | rfl)
    (case n_MOST_KEPT => first | k_is | rfl)
    (case n_GREATEST_LENGTH => first | k_is | rfl)
    (case n_MOST_FIGURES => first | k_is | rfl)
    (case pg_Shelf => first | k_is | rfl)
    (case hd_Shelf => first | k_is | rfl)
    (case po_Shelf => first | k_is | rfl)
    (case sa_Shelf => first | k_is | rfl)
    (case mkc_Shelf => first | k_is | rfl)
    (case kc_Shelf => first | k_is | rfl)
    (case na_Shelf_states => first | k_is | rfl)
    (case na_Shelf_now => first | k_is | rfl)
    (case a_ShelfError => first | k_is | rfl)
    (case x_ShelfError => k_exc)
    (case k_ShelfError => first | k_is | rfl)
    (case b_ShelfError => first | k_is | rfl)
    (case t_ShelfError => first | k_is | rfl)
    (case a_NoSpan => first | k_is | rfl)
    (case x_NoSpan => k_exc)
    (case k_NoSpan => first | k_is | rfl)
    (case b_NoSpan => first | k_is | rfl)
    (case t_NoSpan => first | k_is | rfl)
    (case a_NoPlace => first | k_is | rfl)
    (case x_NoPlace => k_exc)
    (case k_NoPlace => first | k_is | rfl)
    (case b_NoPlace => first | k_is | rfl)
    (case t_NoPlace => first | k_is | rfl)
    (case a_NoCover => first | k_is | rfl)
    (case x_NoCover => k_exc)
    (case k_NoCover => first | k_is | rfl)
    (case b_NoCover => first | k_is | rfl)
    (case t_NoCover => first | k_is | rfl)
    (case a_NoWeight => first | k_is | rfl)
    (case x_NoWeight => k_exc)
    (case k_NoWeight => first | k_is | rfl)
    (case b_NoWeight => first | k_is | rfl)
    (case t_NoWeight => first | k_is | rfl)
    (case a_NoCount => first | k_is | rfl)
    (case x_NoCount => k_exc)
    (case k_NoCount => first | k_is | rfl)
    (case b_NoCount => first | k_is | rfl)
    (case t_NoCount => first | k_is | rfl)
    (case a_NoName => first | k_is | rfl)
    (case x_NoName => k_exc)
    (case k_NoName => first | k_is | rfl)
    (case b_NoName => first | k_is | rfl)
    (case t_NoName => first | k_is | rfl)
    (case a_Twice => first | k_is | rfl)
    (case x_Twice => k_exc)
    (case k_Twice => first | k_is | rfl)
    (case b_Twice => first | k_is | rfl)
    (case t_Twice => first | k_is | rfl)
    (case a_Full => first | k_is | rfl)
    (case x_Full => k_exc)
    (case k_Full => first | k_is | rfl)
    (case b_Full => first | k_is | rfl)
    (case t_Full => first | k_is | rfl)
    (case a_Bare => first | k_is | rfl)
    (case x_Bare => k_exc)
    (case k_Bare => first | k_is | rfl)
    (case b_Bare => first | k_is | rfl)
    (case t_Bare => first | k_is | rfl)
    (case a_NoDeed => first | k_is | rfl)
    (case x_NoDeed => k_exc)
    (case k_NoDeed => first | k_is | rfl)
    (case b_NoDeed => first | k_is | rfl)
    (case t_NoDeed => first | k_is | rfl)
    (case a_NoText => first | k_is | rfl)
    (case x_NoText => k_exc)
    (case k_NoText => first | k_is | rfl)
    (case b_NoText => first | k_is | rfl)
    (case t_NoText => first | k_is | rfl)
    (case a_NoLine => first | k_is | rfl)
    (case x_NoLine => k_exc)
    (case k_NoLine => first | k_is | rfl)
    (case b_NoLine => first | k_is | rfl)
    (case t_NoLine => first | k_is | rfl)
    (case z_ValueError => first | k_is | rfl)
    (case z_all => first | k_is | rfl)
    (case z_bool => first | k_is | rfl)
    (case z_int => first | k_is | rfl)
    (case z_isinstance => first | k_is | rfl)
    (case z_len => first | k_is | rfl)
    (case z_max => first | k_is | rfl)
    (case z_min => first | k_is | rfl)
    (case z_range => first | k_is | rfl)
    (case z_set => first | k_is | rfl)
    (case z_sorted => first | k_is | rfl)
    (case z_str => first | k_is | rfl)
    (case z_tuple => first | k_is | rfl)
    (case z_zip => first | k_is | rfl)
    (case excs => kernel_rfl)
    (case gets => kernel_rfl)
    (case kits => kernel_rfl)
    (case tops => kernel_rfl)
    (case nones => kernel_rfl)
    (case exms => kernel_rfl)
