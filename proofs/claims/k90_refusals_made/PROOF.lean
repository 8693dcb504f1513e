import PyProof.Rows.All
import Wide.All
import OpenK.AllK
import Wide.FinOn
import PySem.Challenge.RW_spanshelf_k90_refusals_made
import HandS.ForMost
import HandS.ForExc
import HandS.IsInst
import HandS.Wide
import HandS.WideBits
import HandS.Flt
import HandS.ExcIs
import HandS.ExcValue
set_option Elab.async false
set_option linter.all false
set_option maxRecDepth 100000
set_option maxHeartbeats 4000000
namespace Sp
open PySem PySem.Spec PyProof.Rows L2
def topS (i : Nat) : Stmt := PySem.Challenge.pw_spanshelf_k90_refusals_made.main.body.getD i (.Pass ⟨0, 0, 0, 0⟩)
abbrev s_is_whole : Stmt := topS 17
abbrev N_is_whole : List Str := ["number"]
theorem sc_is_whole : FnScope N_is_whole ["number"] (defScope s_is_whole) := ⟨rfl, rfl, rfl, by decide +kernel, rfl, by decide +kernel, by decide +kernel⟩
abbrev s_is_place : Stmt := topS 18
abbrev N_is_place : List Str := ["number"]
theorem sc_is_place : FnScope N_is_place ["number"] (defScope s_is_place) := ⟨rfl, rfl, rfl, by decide +kernel, rfl, by decide +kernel, by decide +kernel⟩
abbrev s_is_span : Stmt := topS 19
abbrev N_is_span : List Str := ["span", "low", "high"]
theorem sc_is_span : FnScope N_is_span ["span"] (defScope s_is_span) := ⟨rfl, rfl, rfl, by decide +kernel, rfl, by decide +kernel, by decide +kernel⟩
abbrev s_check_span : Stmt := topS 20
abbrev N_check_span : List Str := ["span"]
theorem sc_check_span : FnScope N_check_span ["span"] (defScope s_check_span) := ⟨rfl, rfl, rfl, by decide +kernel, rfl, by decide +kernel, by decide +kernel⟩
abbrev s_length_of : Stmt := topS 21
abbrev N_length_of : List Str := ["span", "low", "high"]
theorem sc_length_of : FnScope N_length_of ["span"] (defScope s_length_of) := ⟨rfl, rfl, rfl, by decide +kernel, rfl, by decide +kernel, by decide +kernel⟩
abbrev s_l_sorts : Stmt := topS 23
abbrev N_l_sorts : List Str := ["_law_caught_here", "_law_some"]
theorem sc_l_sorts : FnScope N_l_sorts ["_law_caught_here"] (defScope s_l_sorts) := ⟨rfl, rfl, rfl, by decide +kernel, rfl, by decide +kernel, by decide +kernel⟩
abbrev s_l_right : Stmt := topS 24
abbrev N_l_right : List Str := ["_law_some", "_law_at", "_law_caught_here", "_law_k"]
theorem sc_l_right : FnScope N_l_right ["_law_some", "_law_at"] (defScope s_l_right) := ⟨rfl, rfl, rfl, by decide +kernel, rfl, by decide +kernel, by decide +kernel⟩
abbrev s_l_caught : Stmt := topS 25
abbrev N_l_caught : List Str := ["_law_low", "_law_caught_here", "e"]
theorem sc_l_caught : FnScope N_l_caught ["_law_low"] (defScope s_l_caught) := ⟨rfl, rfl, rfl, by decide +kernel, rfl, by decide +kernel, by decide +kernel⟩
abbrev s_law : Stmt := topS 26
abbrev N_law : List Str := ["_law_script", "_law_text", "_law_rows", "_law_at", "_law_some"]
theorem sc_law : FnScope N_law ["_law_script"] (defScope s_law) := ⟨rfl, rfl, rfl, by decide +kernel, rfl, by decide +kernel, by decide +kernel⟩

structure Tx (K : PySem.W.Frag) (mg : Str → Option Value) where
  f_is_whole : Addr
  fd_is_whole : FuncData
  F_is_whole : Fun K "is_whole" "is_whole" s_is_whole f_is_whole fd_is_whole
  b_is_whole : Binds K fd_is_whole ["number"] []
  g_is_whole : mg "is_whole" = some (.ref f_is_whole)
  f_is_place : Addr
  fd_is_place : FuncData
  F_is_place : Fun K "is_place" "is_place" s_is_place f_is_place fd_is_place
  b_is_place : Binds K fd_is_place ["number"] []
  g_is_place : mg "is_place" = some (.ref f_is_place)
  f_is_span : Addr
  fd_is_span : FuncData
  F_is_span : Fun K "is_span" "is_span" s_is_span f_is_span fd_is_span
  b_is_span : Binds K fd_is_span ["span"] []
  g_is_span : mg "is_span" = some (.ref f_is_span)
  f_check_span : Addr
  fd_check_span : FuncData
  F_check_span : Fun K "check_span" "check_span" s_check_span f_check_span fd_check_span
  b_check_span : Binds K fd_check_span ["span"] []
  g_check_span : mg "check_span" = some (.ref f_check_span)
  f_length_of : Addr
  fd_length_of : FuncData
  F_length_of : Fun K "length_of" "length_of" s_length_of f_length_of fd_length_of
  b_length_of : Binds K fd_length_of ["span"] []
  g_length_of : mg "length_of" = some (.ref f_length_of)
  f_l_sorts : Addr
  fd_l_sorts : FuncData
  F_l_sorts : Fun K "_law_sorts" "_law_sorts" s_l_sorts f_l_sorts fd_l_sorts
  b_l_sorts : Binds K fd_l_sorts ["_law_caught_here"] []
  g_l_sorts : mg "_law_sorts" = some (.ref f_l_sorts)
  f_l_right : Addr
  fd_l_right : FuncData
  F_l_right : Fun K "_law_right" "_law_right" s_l_right f_l_right fd_l_right
  b_l_right : Binds K fd_l_right ["_law_some", "_law_at"] []
  g_l_right : mg "_law_right" = some (.ref f_l_right)
  f_l_caught : Addr
  fd_l_caught : FuncData
  F_l_caught : Fun K "_law_caught" "_law_caught" s_l_caught f_l_caught fd_l_caught
  b_l_caught : Binds K fd_l_caught ["_law_low"] []
  g_l_caught : mg "_law_caught" = some (.ref f_l_caught)
  f_law : Addr
  fd_law : FuncData
  F_law : Fun K "law" "law" s_law f_law fd_law
  b_law : Binds K fd_law ["_law_script"] []
  g_law : mg "law" = some (.ref f_law)
  tc_LEAST_PLACE : Tok
  c_LEAST_PLACE : mg "LEAST_PLACE" = some (.int (-999999999999) tc_LEAST_PLACE)
  tc_GREATEST_PLACE : Tok
  c_GREATEST_PLACE : mg "GREATEST_PLACE" = some (.int (999999999999) tc_GREATEST_PLACE)
  C_ShelfError : Addr
  g_ShelfError : mg "ShelfError" = some (.ref C_ShelfError)
  x_ShelfError : PySem.W.excIn K C_ShelfError [.type "ValueError", .type "Exception", .type "BaseException", .type "object"] "ValueError.__new__" = true
  k_ShelfError : PySem.W.keepIn K (.ref C_ShelfError) = true
  b_ShelfError : PySem.W.subIn K (.ref C_ShelfError) (.type "BaseException") = some true
  t_ShelfError : PySem.W.typeIn K (.ref C_ShelfError) = some (.type "type")
  C_NoSpan : Addr
  g_NoSpan : mg "NoSpan" = some (.ref C_NoSpan)
  x_NoSpan : PySem.W.excIn K C_NoSpan [.type "ValueError", .type "Exception", .type "BaseException", .type "object"] "ValueError.__new__" = true
  k_NoSpan : PySem.W.keepIn K (.ref C_NoSpan) = true
  b_NoSpan : PySem.W.subIn K (.ref C_NoSpan) (.type "BaseException") = some true
  t_NoSpan : PySem.W.typeIn K (.ref C_NoSpan) = some (.type "type")
  C_NoPlace : Addr
  g_NoPlace : mg "NoPlace" = some (.ref C_NoPlace)
  x_NoPlace : PySem.W.excIn K C_NoPlace [.type "ValueError", .type "Exception", .type "BaseException", .type "object"] "ValueError.__new__" = true
  k_NoPlace : PySem.W.keepIn K (.ref C_NoPlace) = true
  b_NoPlace : PySem.W.subIn K (.ref C_NoPlace) (.type "BaseException") = some true
  t_NoPlace : PySem.W.typeIn K (.ref C_NoPlace) = some (.type "type")
  C_NoCover : Addr
  g_NoCover : mg "NoCover" = some (.ref C_NoCover)
  x_NoCover : PySem.W.excIn K C_NoCover [.type "ValueError", .type "Exception", .type "BaseException", .type "object"] "ValueError.__new__" = true
  k_NoCover : PySem.W.keepIn K (.ref C_NoCover) = true
  b_NoCover : PySem.W.subIn K (.ref C_NoCover) (.type "BaseException") = some true
  t_NoCover : PySem.W.typeIn K (.ref C_NoCover) = some (.type "type")
  C_NoWeight : Addr
  g_NoWeight : mg "NoWeight" = some (.ref C_NoWeight)
  x_NoWeight : PySem.W.excIn K C_NoWeight [.type "ValueError", .type "Exception", .type "BaseException", .type "object"] "ValueError.__new__" = true
  k_NoWeight : PySem.W.keepIn K (.ref C_NoWeight) = true
  b_NoWeight : PySem.W.subIn K (.ref C_NoWeight) (.type "BaseException") = some true
  t_NoWeight : PySem.W.typeIn K (.ref C_NoWeight) = some (.type "type")
  C_NoCount : Addr
  g_NoCount : mg "NoCount" = some (.ref C_NoCount)
  x_NoCount : PySem.W.excIn K C_NoCount [.type "ValueError", .type "Exception", .type "BaseException", .type "object"] "ValueError.__new__" = true
  k_NoCount : PySem.W.keepIn K (.ref C_NoCount) = true
  b_NoCount : PySem.W.subIn K (.ref C_NoCount) (.type "BaseException") = some true
  t_NoCount : PySem.W.typeIn K (.ref C_NoCount) = some (.type "type")
  C_NoName : Addr
  g_NoName : mg "NoName" = some (.ref C_NoName)
  x_NoName : PySem.W.excIn K C_NoName [.type "ValueError", .type "Exception", .type "BaseException", .type "object"] "ValueError.__new__" = true
  k_NoName : PySem.W.keepIn K (.ref C_NoName) = true
  b_NoName : PySem.W.subIn K (.ref C_NoName) (.type "BaseException") = some true
  t_NoName : PySem.W.typeIn K (.ref C_NoName) = some (.type "type")
  C_Twice : Addr
  g_Twice : mg "Twice" = some (.ref C_Twice)
  x_Twice : PySem.W.excIn K C_Twice [.type "ValueError", .type "Exception", .type "BaseException", .type "object"] "ValueError.__new__" = true
  k_Twice : PySem.W.keepIn K (.ref C_Twice) = true
  b_Twice : PySem.W.subIn K (.ref C_Twice) (.type "BaseException") = some true
  t_Twice : PySem.W.typeIn K (.ref C_Twice) = some (.type "type")
  C_Full : Addr
  g_Full : mg "Full" = some (.ref C_Full)
  x_Full : PySem.W.excIn K C_Full [.type "ValueError", .type "Exception", .type "BaseException", .type "object"] "ValueError.__new__" = true
  k_Full : PySem.W.keepIn K (.ref C_Full) = true
  b_Full : PySem.W.subIn K (.ref C_Full) (.type "BaseException") = some true
  t_Full : PySem.W.typeIn K (.ref C_Full) = some (.type "type")
  C_Bare : Addr
  g_Bare : mg "Bare" = some (.ref C_Bare)
  x_Bare : PySem.W.excIn K C_Bare [.type "ValueError", .type "Exception", .type "BaseException", .type "object"] "ValueError.__new__" = true
  k_Bare : PySem.W.keepIn K (.ref C_Bare) = true
  b_Bare : PySem.W.subIn K (.ref C_Bare) (.type "BaseException") = some true
  t_Bare : PySem.W.typeIn K (.ref C_Bare) = some (.type "type")
  C_NoDeed : Addr
  g_NoDeed : mg "NoDeed" = some (.ref C_NoDeed)
  x_NoDeed : PySem.W.excIn K C_NoDeed [.type "ValueError", .type "Exception", .type "BaseException", .type "object"] "ValueError.__new__" = true
  k_NoDeed : PySem.W.keepIn K (.ref C_NoDeed) = true
  b_NoDeed : PySem.W.subIn K (.ref C_NoDeed) (.type "BaseException") = some true
  t_NoDeed : PySem.W.typeIn K (.ref C_NoDeed) = some (.type "type")
  C_NoText : Addr
  g_NoText : mg "NoText" = some (.ref C_NoText)
  x_NoText : PySem.W.excIn K C_NoText [.type "ValueError", .type "Exception", .type "BaseException", .type "object"] "ValueError.__new__" = true
  k_NoText : PySem.W.keepIn K (.ref C_NoText) = true
  b_NoText : PySem.W.subIn K (.ref C_NoText) (.type "BaseException") = some true
  t_NoText : PySem.W.typeIn K (.ref C_NoText) = some (.type "type")
  C_NoLine : Addr
  g_NoLine : mg "NoLine" = some (.ref C_NoLine)
  x_NoLine : PySem.W.excIn K C_NoLine [.type "ValueError", .type "Exception", .type "BaseException", .type "object"] "ValueError.__new__" = true
  k_NoLine : PySem.W.keepIn K (.ref C_NoLine) = true
  b_NoLine : PySem.W.subIn K (.ref C_NoLine) (.type "BaseException") = some true
  t_NoLine : PySem.W.typeIn K (.ref C_NoLine) = some (.type "type")
  m_ValueError : mg "ValueError" = none
  m_bool : mg "bool" = none
  m_enumerate : mg "enumerate" = none
  m_int : mg "int" = none
  m_isinstance : mg "isinstance" = none
  m_len : mg "len" = none
  m_range : mg "range" = none
  m_str : mg "str" = none
  m_sum : mg "sum" = none
  m_tuple : mg "tuple" = none
  excs : ([C_ShelfError, C_NoSpan, C_NoPlace, C_NoCover, C_NoWeight, C_NoCount, C_NoName, C_Twice, C_Full, C_Bare, C_NoDeed, C_NoText, C_NoLine].map fun (D : Addr) => (PySem.W.findIn K (.ref D) "__getattribute__", PySem.W.findIn K (.ref D) "__getattr__", PySem.W.subIn K (.ref D) (.type "BaseException"), PySem.W.hasDictIn K D, PySem.W.findIn K (.ref D) "__class__", PySem.W.mroIn K D (.type "object"))) = [C_ShelfError, C_NoSpan, C_NoPlace, C_NoCover, C_NoWeight, C_NoCount, C_NoName, C_Twice, C_Full, C_Bare, C_NoDeed, C_NoText, C_NoLine].map fun (_ : Addr) => (some (some (.builtin "BaseException.__getattribute__")), some none, some true, true, some (some (.builtin "object.__class__")), some true)
  gets : (PySem.W.specialIn K (.builtin "object.__class__") "__get__", PySem.W.takesIn K (.builtin "object.__class__")) = (some (some (.builtin "getset_descriptor.__get__")), some true)
  kits : ([C_ShelfError, C_NoSpan, C_NoPlace, C_NoCover, C_NoWeight, C_NoCount, C_NoName, C_Twice, C_Full, C_Bare, C_NoDeed, C_NoText, C_NoLine].map fun (D : Addr) => [C_NoSpan, C_NoPlace, C_NoCover, C_NoWeight, C_NoCount, C_NoName, C_Twice, C_Full, C_Bare, C_NoDeed, C_NoText, C_NoLine].map fun (C : Addr) => PySem.W.kitOne K (.ref D) (.ref C)) = (List.range 13).map fun i => (List.range 12).map fun j => some (i == j + 1)
  tops : ([C_ShelfError, C_NoSpan, C_NoPlace, C_NoCover, C_NoWeight, C_NoCount, C_NoName, C_Twice, C_Full, C_Bare, C_NoDeed, C_NoText, C_NoLine].map fun (D : Addr) => (PySem.W.kitOne K (.ref D) (.ref C_ShelfError), PySem.W.kitOne K (.ref D) (.type "ValueError"))) = [C_ShelfError, C_NoSpan, C_NoPlace, C_NoCover, C_NoWeight, C_NoCount, C_NoName, C_Twice, C_Full, C_Bare, C_NoDeed, C_NoText, C_NoLine].map fun (_ : Addr) => (some true, some true)
  nones : ([C_ShelfError, C_NoSpan, C_NoPlace, C_NoCover, C_NoWeight, C_NoCount, C_NoName, C_Twice, C_Full, C_Bare, C_NoDeed, C_NoText, C_NoLine].map fun (C : Addr) => PySem.W.kitOne K (.type "NoneType") (.ref C)) = [C_ShelfError, C_NoSpan, C_NoPlace, C_NoCover, C_NoWeight, C_NoCount, C_NoName, C_Twice, C_Full, C_Bare, C_NoDeed, C_NoText, C_NoLine].map fun (_ : Addr) => some false
  exms : ([C_ShelfError, C_NoSpan, C_NoPlace, C_NoCover, C_NoWeight, C_NoCount, C_NoName, C_Twice, C_Full, C_Bare, C_NoDeed, C_NoText, C_NoLine].map fun (D : Addr) => PySem.W.exmOne K (.ref D) (.ref C_ShelfError)) = [C_ShelfError, C_NoSpan, C_NoPlace, C_NoCover, C_NoWeight, C_NoCount, C_NoName, C_Twice, C_Full, C_Bare, C_NoDeed, C_NoText, C_NoLine].map fun (_ : Addr) => some true
/-! ### heaps -/
theorem same_upd {H : Hp} {p : Addr} {o : HO} (h : H p = none) : Same H (upd H p o) := fun b x e => by
  rw [upd_ne (ne_of_none e h)]
  exact e
theorem upd_at {H : Hp} {p : Addr} {o : HO} (h : H p = none) : (upd H p o) p = some o ∧ Same H (upd H p o) := ⟨upd_same, same_upd h⟩
theorem same_more {H H' : Hp} {p : Addr} {o : HO} (h : Same H H') (n : H p = none) : Same H (upd H' p o) := fun b x e => by
  rw [upd_ne (ne_of_none e n)]
  exact h _ _ e
/-- all but what stands at the addresses of L is kept -/
def Chg (L : List Addr) (H H' : Hp) : Prop := ∀ b o, b ∉ L → H b = some o → H' b = some o
theorem Chg.refl (L : List Addr) (H : Hp) : Chg L H H := fun _ _ _ h => h
theorem Chg.trans {L : List Addr} {H H1 H2 : Hp} (a : Chg L H H1) (b : Chg L H1 H2) : Chg L H H2 := fun c o n h => b c o n (a c o n h)
theorem Chg.of_same {L : List Addr} {H H' : Hp} (a : Same H H') : Chg L H H' := fun c o _ h => a c o h
theorem Chg.same {H H' : Hp} (a : Chg [] H H') : Same H H' := fun c o h => a c o List.not_mem_nil h
theorem Chg.mono {L L' : List Addr} {H H' : Hp} (a : Chg L H H') (h : ∀ x ∈ L, x ∈ L') : Chg L' H H' := fun c o n e => a c o (fun q => n (h c q)) e
theorem Chg.upd {L : List Addr} {H : Hp} {p : Addr} {o : HO} (h : p ∈ L) : Chg L H (upd H p o) := fun b x n e => by
  have hne : b ≠ p := fun z => n (by rw [z]; exact h)
  rw [upd_ne hne]
  exact e
theorem Chg.free {L : List Addr} {H H' : Hp} (a : Chg L H H') {l : Addr} (hl : l ∉ L) (h : H' l = none) : H l = none := by
  cases q : H l with
  | none => rfl
  | some o =>
    rw [a l o hl q] at h
    cases h
theorem Chg.seq {K : PySem.W.Frag} {L : List Addr} {H H' : Hp} {a : Addr} {xs : List V} (e : Chg L H H') (n : a ∉ L) (h : SqL K H a xs) : SqL K H' a xs := by
  rcases h with (h | ⟨o, h⟩) | h
  · exact .inl (.inl (e _ _ n h))
  · exact .inl (.inr ⟨o, e _ _ n h⟩)
  · exact .inr h
theorem same_tup {K : PySem.W.Frag} {H H' : Hp} {a : Addr} {xs : List V} (e : Same H H') (h : SqT K H a xs) : SqT K H' a xs := by
  rcases h with (h | ⟨o, h⟩) | h
  · exact .inl (.inl (e _ _ h))
  · exact .inl (.inr ⟨o, e _ _ h⟩)
  · exact .inr h
theorem nmem1 {a b : Addr} (h : a ≠ b) : a ∉ [b] := fun q => h (List.mem_singleton.mp q)
theorem nmem2 {a b c : Addr} (h : a ≠ b) (h2 : a ≠ c) : a ∉ [b, c] := fun q => by
  rcases List.mem_cons.mp q with q | q
  · exact h q
  · exact h2 (List.mem_singleton.mp q)
theorem small_lt {n : Nat} (h : n ≤ 1000000) : n < sizeLine := Nat.lt_of_le_of_lt h (by decide)
theorem small_le {n : Nat} (h : n ≤ 1000000) : n ≤ sizeLine := Nat.le_of_lt (small_lt h)
/-- a list of whole numbers at p that may be changed -/
def Pu (H : Hp) (p : Addr) (n : Nat) : Prop := ∃ a b c : Int, H p = some (.lst [.int a, .int b, .int c]) ∧ 0 ≤ a ∧ 0 ≤ b ∧ b < 2147483647 ∧ 0 ≤ c ∧ c ≤ n
theorem Pu.chg {L : List Addr} {H H' : Hp} {p : Addr} {n : Nat} (h : Pu H p n) (e : Chg L H H') (hp : p ∉ L) : Pu H' p n := by
  obtain ⟨a, b, c, h1, h2⟩ := h
  exact ⟨a, b, c, e _ _ hp h1, h2⟩
theorem Pu.same {H H' : Hp} {p : Addr} {n : Nat} (h : Pu H p n) (e : Same H H') : Pu H' p n := h.chg (L := []) (Chg.of_same e) List.not_mem_nil
theorem Pu.mono {H : Hp} {p : Addr} {n m : Nat} (h : Pu H p n) (e : n ≤ m) : Pu H p m := by
  obtain ⟨a, b, c, h1, h2, h3, h4, h5, h6⟩ := h
  exact ⟨a, b, c, h1, h2, h3, h4, h5, by omega⟩
theorem Pu.ne {H : Hp} {p q : Addr} {n : Nat} (h : Pu H p n) (e : H q = none) : p ≠ q := by
  obtain ⟨a, b, c, h1, _⟩ := h
  exact ne_of_none h1 e
theorem Pu.at {H : Hp} {p : Addr} {n : Nat} (h : Pu H p n) : ∃ o, H p = some o := by
  obtain ⟨a, b, c, h1, _⟩ := h
  exact ⟨_, h1⟩
/-! ### data: whole numbers, spans, lists of them -/
theorem dpAll_ints {K : PySem.W.Frag} {H : Hp} : ∀ ns : List Int, DpAll K H (ns.map V.int) (ns.map PyData.int)
  | [] => .nil
  | n :: r => .cons (.int n) (dpAll_ints r)
theorem lay_ints : ∀ ns : List Int, PyData.canLayAll0 (ns.map PyData.int) = true ∧ PyData.depthAll (ns.map PyData.int) = 0
  | [] => ⟨rfl, rfl⟩
  | n :: r => by
    obtain ⟨h1, h2⟩ := lay_ints r
    refine ⟨?_, ?_⟩
    · show (PyData.canLay0 (.int n) && PyData.canLayAll0 (r.map PyData.int)) = true
      rw [h1]
      rfl
    · show max (PyData.depth (.int n)) (PyData.depthAll (r.map PyData.int)) = 0
      rw [h2]
      rfl
theorem shaped_ints (ns : List Int) : SeqAt.shaped (.list (ns.map PyData.int)) = true := by
  obtain ⟨h1, h2⟩ := lay_ints ns
  show (PyData.canLayAll0 (ns.map PyData.int) && decide (PyData.depthAll (ns.map PyData.int) + 1 ≤ 64)) = true
  rw [h1, h2]
  rfl
theorem shaped_nil : SeqAt.shaped (.list []) = true := rfl
theorem eqv_ints_nil (ns : List Int) : PyData.eqv (.list (ns.map PyData.int)) (.list []) = decide (ns = []) := by
  cases ns with
  | nil => rfl
  | cons n r => simp [PyData.eqv, PyData.eqvAll]
abbrev Span := Int × Int
def spD (s : Span) : PyData := .tuple [.int s.1, .int s.2]
/-- v is the span s -/
def Spn (H : Hp) (v : V) (s : Span) : Prop := ∃ t, v = .ref t ∧ H t = some (.tup [.int s.1, .int s.2])
inductive Sps (H : Hp) : List V → List Span → Prop where
  | nil : Sps H [] []
  | cons {v : V} {s : Span} {vs : List V} {ss : List Span} : Spn H v s → Sps H vs ss → Sps H (v :: vs) (s :: ss)
theorem Spn.same {H H' : Hp} {v : V} {s : Span} (h : Spn H v s) (e : Same H H') : Spn H' v s := by
  obtain ⟨t, rfl, ht⟩ := h
  exact ⟨t, rfl, e _ _ ht⟩
theorem Sps.same {H H' : Hp} (e : Same H H') : ∀ {vs : List V} {ss : List Span}, Sps H vs ss → Sps H' vs ss
  | _, _, .nil => .nil
  | _, _, .cons h t => .cons (h.same e) (Sps.same e t)
/-- only lists are changed: spans stay -/
def Lsts (L : List Addr) (H : Hp) : Prop := ∀ p ∈ L, ∀ xs, H p ≠ some (.tup xs)
theorem Pu.lsts {H : Hp} {p : Addr} {n : Nat} (h : Pu H p n) : Lsts [p] H := fun b hb xs => by
  obtain ⟨_, _, _, h1, _⟩ := h
  rw [List.mem_singleton.mp hb, h1]
  exact fun z => by cases z
theorem Lsts.of1 {H : Hp} {l : Addr} {ys : List V} (h : H l = some (.lst ys)) : Lsts [l] H := fun b hb xs => by
  rw [List.mem_singleton.mp hb, h]
  exact fun z => by cases z
theorem Lsts.two {H : Hp} {p q : Addr} (h : Lsts [p] H) (h2 : Lsts [q] H) : Lsts [p, q] H := fun b hb xs => by
  rcases List.mem_cons.mp hb with e | e
  · rw [e]
    exact h p List.mem_cons_self xs
  · exact h2 b e xs
theorem Spn.chg {L : List Addr} {H H' : Hp} {v : V} {s : Span} (h : Spn H v s) (e : Chg L H H') (l : Lsts L H) : Spn H' v s := by
  obtain ⟨t, rfl, ht⟩ := h
  exact ⟨t, rfl, e _ _ (fun q => l t q _ ht) ht⟩
theorem Sps.chg {L : List Addr} {H H' : Hp} (e : Chg L H H') (l : Lsts L H) : ∀ {vs : List V} {ss : List Span}, Sps H vs ss → Sps H' vs ss
  | _, _, .nil => .nil
  | _, _, .cons h t => .cons (h.chg e l) (Sps.chg e l t)
theorem Sps.len {H : Hp} : ∀ {vs : List V} {ss : List Span}, Sps H vs ss → vs.length = ss.length
  | _, _, .nil => rfl
  | _, _, .cons _ t => congrArg (· + 1) t.len
theorem Sps.app {H : Hp} : ∀ {vs ws : List V} {ss ts : List Span}, Sps H vs ss → Sps H ws ts → Sps H (vs ++ ws) (ss ++ ts)
  | _, _, _, _, .nil, h => h
  | _, _, _, _, .cons a t, h => .cons a (Sps.app t h)
theorem Sps.one {H : Hp} {v : V} {s : Span} (h : Spn H v s) : Sps H [v] [s] := .cons h .nil
theorem Sps.get {H : Hp} : ∀ {vs : List V} {ss : List Span} {i : Nat} {v : V}, Sps H vs ss → vs[i]? = some v → ∃ s, ss[i]? = some s ∧ Spn H v s
  | _, _, _, _, .nil, e => by simp at e
  | _, _, 0, v, .cons (s := s) h t, e => ⟨s, rfl, by
      have q := Option.some.inj (show some _ = some v from e)
      rw [← q]
      exact h⟩
  | _, _, i + 1, v, .cons h t, e => Sps.get (i := i) t e
theorem Sps.get' {H : Hp} : ∀ {vs : List V} {ss : List Span} {i : Nat} {s : Span}, Sps H vs ss → ss[i]? = some s → ∃ v, vs[i]? = some v ∧ Spn H v s
  | _, _, _, _, .nil, e => by simp at e
  | _, _, 0, s, .cons (v := v) h t, e => ⟨v, rfl, by
      have q := Option.some.inj (show some _ = some s from e)
      rw [← q]
      exact h⟩
  | _, _, i + 1, v, .cons h t, e => Sps.get' (i := i) t e
theorem Spn.dp {K : PySem.W.Frag} {H : Hp} {v : V} {s : Span} (h : Spn H v s) : Dp K H v (spD s) := by
  obtain ⟨t, rfl, ht⟩ := h
  exact .tup (SqT.of ht) (.cons (.int _) (.cons (.int _) .nil))
theorem Sps.dpAll {K : PySem.W.Frag} {H : Hp} : ∀ {vs : List V} {ss : List Span}, Sps H vs ss → DpAll K H vs (ss.map spD)
  | _, _, .nil => .nil
  | _, _, .cons h t => .cons h.dp t.dpAll
theorem Sps.dp {K : PySem.W.Frag} {H : Hp} {a : Addr} {vs : List V} {ss : List Span} (h : Sps H vs ss) (q : SqL K H a vs) : Dp K H (.ref a) (.list (ss.map spD)) := .lst q h.dpAll
theorem lay_spans : ∀ ss : List Span, PyData.canLayAll0 (ss.map spD) = true ∧ PyData.depthAll (ss.map spD) ≤ 1
  | [] => ⟨rfl, by decide⟩
  | s :: r => by
    obtain ⟨h1, h2⟩ := lay_spans r
    refine ⟨?_, ?_⟩
    · show (PyData.canLay0 (spD s) && PyData.canLayAll0 (r.map spD)) = true
      rw [h1]
      rfl
    · show max (PyData.depth (spD s)) (PyData.depthAll (r.map spD)) ≤ 1
      have e : PyData.depth (spD s) = 1 := rfl
      rw [e]
      omega
theorem shaped_spans (ss : List Span) : SeqAt.shaped (.list (ss.map spD)) = true := by
  obtain ⟨h1, h2⟩ := lay_spans ss
  show (PyData.canLayAll0 (ss.map spD) && decide (PyData.depthAll (ss.map spD) + 1 ≤ 64)) = true
  rw [h1, decide_eq_true (by omega)]
  rfl
theorem eqv_span (s t : Span) : PyData.eqv (spD s) (spD t) = decide (s = t) := by
  obtain ⟨a, b⟩ := s
  obtain ⟨c, d⟩ := t
  simp [PyData.eqv, PyData.eqvAll, spD, Bool.beq_eq_decide_eq]
theorem eqvAll_spans : ∀ ss ts : List Span, PyData.eqvAll (ss.map spD) (ts.map spD) = decide (ss = ts)
  | [], [] => rfl
  | [], _ :: _ => rfl
  | _ :: _, [] => rfl
  | s :: ss, t :: ts => by
    show (PyData.eqv (spD s) (spD t) && PyData.eqvAll (ss.map spD) (ts.map spD)) = _
    rw [eqv_span, eqvAll_spans ss ts]
    by_cases h : s = t <;> by_cases h2 : ss = ts <;> simp [h, h2]
theorem eqv_spans (ss ts : List Span) : PyData.eqv (.list (ss.map spD)) (.list (ts.map spD)) = decide (ss = ts) := eqvAll_spans ss ts
theorem eqv_spans_nil (ss : List Span) : PyData.eqv (.list (ss.map spD)) (.list []) = decide (ss = []) := eqvAll_spans ss []
section
variable {P : Program} {w : World} {K : PySem.W.Frag} {mg : Str → Option Value} {base : Heap}
/-! ### the program: spans -/
def isPlace (i : Int) : Bool := decide (-999999999999 ≤ i) && decide (i ≤ 999999999999)
def isSpan (s : Span) : Bool := isPlace s.1 && isPlace s.2 && decide (s.1 < s.2)
theorem isSpan_iff (s : Span) : isSpan s = true ↔ (-999999999999 ≤ s.1 ∧ s.1 < s.2 ∧ s.2 ≤ 999999999999) := by
  unfold isSpan isPlace
  simp only [Bool.and_eq_true, decide_eq_true_eq]
  omega
def spWhole : Sp := fun vs H Q _ => ∃ i : Int, vs = [.int i] ∧ Q (.bl true) H
theorem ok_is_whole (T : Tx K mg) : FnOk P w K mg base CX0 (1) T.f_is_whole T.fd_is_whole ["number"] spWhole := by
  refine T.F_is_whole.ok sc_is_whole (fun vs H Q E h => ?_) (fun cdv A outer s H vs Q E hr h => ?_)
  · obtain ⟨i, rfl, _⟩ := h
    rfl
  · obtain ⟨i, rfl, q⟩ := h
    refine ⟨_, (pss_one (ps_ret (pe_and (pe_callB call_isi (by rfl) T.m_isinstance (by decide +kernel) (pa_cons (pv 0) (pa_cons (pe_bltn (v := .ty "int") (by rfl) T.m_int (by decide +kernel) rfl) pa_nil))) (pe_one (pe_not (pe_callB call_isi (by rfl) T.m_isinstance (by decide +kernel) (pa_cons (pv 0) (pa_cons (pe_bltn (v := .ty "bool") (by rfl) T.m_bool (by decide +kernel) rfl) pa_nil)))))))), ?_⟩
    refine ⟨_, rfl, _, _, _, _, true, rfl, .ty _, .base (.int i), kit_ty (by decide +kernel), true, rfl, iteT ?_⟩
    exact ⟨_, rfl, _, _, _, _, false, rfl, .ty _, .base (.int i), kit_ty (by decide +kernel), false, rfl, q⟩
def spPlace : Sp := fun vs H Q _ => ∃ i : Int, vs = [.int i] ∧ Q (.bl (isPlace i)) H
theorem ok_is_place (T : Tx K mg) : FnOk P w K mg base CX0 (2) T.f_is_place T.fd_is_place ["number"] spPlace := by
  have G_is_whole : FnOk P w K mg base CX0 _ _ _ _ _ := ok_is_whole T
  refine T.F_is_place.ok sc_is_place (fun vs H Q E h => ?_) (fun cdv A outer s H vs Q E hr h => ?_)
  · obtain ⟨i, rfl, _⟩ := h
    rfl
  · obtain ⟨i, rfl, q⟩ := h
    refine ⟨_, (pss_one (ps_ret (pe_and (pe_call G_is_whole (hr.mono (by decide)) (by rfl) T.g_is_whole T.F_is_whole.kp T.b_is_whole .nil pass0 (pa_cons (pv 0) pa_nil)) (pe_one (pe_chain op_le op_le (pe_glob (v := .int (-999999999999)) (by rfl) T.c_LEAST_PLACE ⟨_, rfl⟩) (pv 0) (pe_glob (v := .int (999999999999)) (by rfl) T.c_GREATEST_PLACE ⟨_, rfl⟩)))))), ?_⟩
    refine ⟨_, rfl, i, rfl, true, rfl, iteT ?_⟩
    refine ⟨_, rfl, _, _, rfl, rfl, _, rfl, ?_⟩
    unfold isPlace at q
    by_cases h : -999999999999 ≤ i
    · rw [decide_eq_true h] at q ⊢
      exact iteT ⟨_, _, rfl, rfl, q⟩
    · rw [decide_eq_false h] at q ⊢
      exact iteF q
def spIsSpan : Sp := fun vs H Q _ => ∃ (v : V) (s : Span), vs = [v] ∧ Spn H v s ∧ Q (.bl (isSpan s)) H
theorem ok_is_span (T : Tx K mg) : FnOk P w K mg base CX0 (3) T.f_is_span T.fd_is_span ["span"] spIsSpan := by
  have G_is_place : FnOk P w K mg base CX0 _ _ _ _ _ := ok_is_place T
  refine T.F_is_span.ok sc_is_span (fun vs H Q E h => ?_) (fun cdv A outer s H vs Q E hr h => ?_)
  · obtain ⟨v, s, rfl, _⟩ := h
    rfl
  · obtain ⟨v, s, rfl, ⟨t, rfl, ht⟩, q⟩ := h
    refine ⟨_, (pss_cons (ps_if (PW.pt (pw_or (pt_not (pt_val (pe_callB call_isi (by rfl) T.m_isinstance (by decide +kernel) (pa_cons (pv 0) (pa_cons (pe_bltn (v := .ty "tuple") (by rfl) T.m_tuple (by decide +kernel) rfl) pa_nil))))) (pw_or1 (pt_cmpR op_ne (pe_callB call_len_seq (by rfl) T.m_len PySem.boot_len (pa_cons (pv 0) pa_nil)) pe_int (nomark _))))) (pss_one (ps_ret pe_bl)) pss_nil)
      (pss_cons (ps_asg (pv 0) (pg_tup rfl (pgs_cons (pg_name (i := 1) sc_is_span.nd rfl (Or.inl rfl)) (pgs_cons (pg_name (i := 2) sc_is_span.nd rfl (Or.inl rfl)) pgs_nil))))
      (pss_one (ps_ret (pe_and (pe_call G_is_place (hr.mono (by decide)) (by rfl) T.g_is_place T.F_is_place.kp T.b_is_place .nil pass0 (pa_cons (pv 1) pa_nil)) (pe_and (pe_call G_is_place (hr.mono (by decide)) (by rfl) T.g_is_place T.F_is_place.kp T.b_is_place .nil pass0 (pa_cons (pv 2) pa_nil)) (pe_one (pe_cmpR op_lt (pv 1) (pv 2) (nomark _))))))))), ?_⟩
    refine ⟨_, rfl, _, _, _, _, true, rfl, .ty _, .base (.tup ht), kit_ty (by decide +kernel), true, rfl, iteF ?_⟩
    refine ⟨_, rfl, t, _, rfl, .inr (SqT.of ht), rfl, _, rfl, iteF ?_⟩
    refine ⟨_, rfl, t, _, rfl, SqT.of ht, rfl, _, _, rfl, _, _, rfl, rfl, ?_⟩
    unfold isSpan at q
    refine ⟨_, rfl, s.1, rfl, _, rfl, ?_⟩
    by_cases h1 : isPlace s.1 = true
    · rw [h1] at q ⊢
      refine iteT ⟨_, rfl, s.2, rfl, _, rfl, ?_⟩
      by_cases h2 : isPlace s.2 = true
      · rw [h2] at q ⊢
        exact iteT ⟨_, rfl, _, rfl, _, _, rfl, rfl, q⟩
      · rw [Bool.not_eq_true] at h2
        rw [h2] at q ⊢
        exact iteF q
    · rw [Bool.not_eq_true] at h1
      rw [h1] at q ⊢
      exact iteF q
def spCheck (C : Addr) : Sp := fun vs H Q E => ∃ (v : V) (s : Span), vs = [v] ∧ Spn H v s ∧ (isSpan s = true → Q .non H) ∧ (isSpan s = false → E (.ref C) none H)
theorem ok_check_span (T : Tx K mg) : FnOk P w K mg base (L2.CX P w) (4) T.f_check_span T.fd_check_span ["span"] (spCheck T.C_NoSpan) := by
  have G_is_span : FnOk P w K mg base CX0 _ _ _ _ _ := ok_is_span T
  refine T.F_check_span.okX sc_check_span (fun vs H Q E h => ?_) (fun cdv A outer s H vs Q E hr h => ?_)
  · obtain ⟨v, s, rfl, _⟩ := h
    rfl
  · obtain ⟨v, s, rfl, hv, q, e⟩ := h
    refine ⟨_, (pss_one (ps_if (pt_not (pt_val (pe_call G_is_span (hr.mono (by decide)) (by rfl) T.g_is_span T.F_is_span.kp T.b_is_span .nil pass0 (pa_cons (pv 0) pa_nil)))) (pss_one (ps_raise (by rfl) (takes_of rfl rfl rfl rfl) (pmk_own PySem.F.excBase_ValueError T.x_NoSpan T.g_NoSpan T.k_NoSpan (raises_own T.b_NoSpan T.t_NoSpan) (by exact rfl)))) pss_nil)), ?_⟩
    refine ⟨_, rfl, v, s, rfl, hv, _, rfl, ?_⟩
    by_cases h : isSpan s = true
    · rw [h]
      exact iteF (q h)
    · rw [Bool.not_eq_true] at h
      rw [h]
      exact iteT (e h)
def spLength (C : Addr) : Sp := fun vs H Q E => ∃ (v : V) (s : Span), vs = [v] ∧ Spn H v s ∧ (isSpan s = true → Q (.int (s.2 - s.1)) H) ∧ (isSpan s = false → E (.ref C) none H)
theorem ok_length_of (T : Tx K mg) : FnOk P w K mg base (L2.CX P w) (5) T.f_length_of T.fd_length_of ["span"] (spLength T.C_NoSpan) := by
  have G_check_span : FnOk P w K mg base (L2.CX P w) _ _ _ _ _ := ok_check_span T
  refine T.F_length_of.okX sc_length_of (fun vs H Q E h => ?_) (fun cdv A outer s H vs Q E hr h => ?_)
  · obtain ⟨v, s, rfl, _⟩ := h
    rfl
  · obtain ⟨v, s, rfl, hv, q, e⟩ := h
    refine ⟨_, (pss_cons (ps_expr (pe_call G_check_span (hr.mono (by decide)) (by rfl) T.g_check_span T.F_check_span.kp T.b_check_span .nil (passes_call (takes_of rfl rfl rfl rfl) (fun _ _ _ _ h => h)) (pa_cons (pv 0) pa_nil)))
      (pss_cons (ps_asg (pv 0) (pg_tup rfl (pgs_cons (pg_name (i := 1) sc_length_of.nd rfl (Or.inl rfl)) (pgs_cons (pg_name (i := 2) sc_length_of.nd rfl (Or.inl rfl)) pgs_nil))))
      (pss_one (ps_ret (pe_op op_sub (pv 2) (pv 1)))))), ?_⟩
    refine ⟨_, rfl, v, s, rfl, hv, fun h => ?_, e⟩
    obtain ⟨t, rfl, ht⟩ := hv
    refine ⟨_, rfl, t, _, rfl, SqT.of ht, rfl, _, _, rfl, _, _, rfl, rfl, ?_⟩
    exact ⟨_, rfl, _, rfl, _, _, rfl, rfl, q h⟩
end
/-! ### exceptions as values -/
/-- what stands at a is an exception of the class cls -/
def ExP (cls : Value) (a : Addr) : HO := .ext fun h => ∃ (ob : Obj) (fv : Array Value), h.get? a = some ob ∧ Zc cls none ob ∧ ob.data = .fields fv
def IsEx (H : Hp) (cls : Value) (a : Addr) : Prop := ∃ φ : Heap → Prop, H a = some (.ext φ) ∧ ∀ h, φ h → ∃ (ob : Obj) (fv : Array Value), h.get? a = some ob ∧ Zc cls none ob ∧ ob.data = .fields fv
theorem isEx_P {H : Hp} {cls : Value} {a : Addr} (e : H a = some (ExP cls a)) : IsEx H cls a := ⟨_, e, fun _ q => q⟩
theorem isEx_O {H : Hp} {cls : Value} {a : Addr} (e : H a = some (ExO cls a)) : IsEx H cls a := ⟨_, e, fun _ q => by
  obtain ⟨ob, fv, h1, h2, h3, _⟩ := q
  exact ⟨ob, fv, h1, h2, h3⟩⟩
theorem IsEx.same {H H' : Hp} {cls : Value} {a : Addr} (x : IsEx H cls a) (e : Same H H') : IsEx H' cls a := by
  obtain ⟨φ, h1, h2⟩ := x
  exact ⟨φ, e _ _ h1, h2⟩
/-- isinstance(x, c), x an exception that is tracked -/
def rIsX (K : PySem.W.Frag) : List V → Hp → VK → Prop := fun xs H Q => ∃ (a D : Addr) (c : V) (u : Value) (b : Bool), xs = [.ref a, c] ∧ IsEx H (.ref D) a ∧ ExcC K D ∧ ClsV c u ∧ PySem.W.kitOne K (.ref D) u = some b ∧ Q (.bl b) H
theorem call_isX {X : Cx} : CallR X (.builtin "isinstance") (rIsX X.K) := by
  intro pins s σ H xs us Q I r hh
  obtain ⟨a, D, c, u, b, rfl, ⟨φ, hφ, ex⟩, C, kc, e, q⟩ := hh
  obtain ⟨u1, u2, rfl, r1, r2⟩ := vals2 r
  have e2 := kc.eq r2
  subst e2
  cases (show u1 = Value.ref a from r1)
  obtain ⟨p, _, _⟩ := (show ObjOk X.prog X.w H s.heap a (.ext φ) from I.hok a _ hφ)
  obtain ⟨⟨oc, od, oda, osl⟩, fv, h1, ⟨z1, z2⟩, h3⟩ := ex _ p
  dsimp only at z1 z2 h3
  subst z1 z2 h3
  have J : PySem.W.InstAt s.heap a ⟨.ref D, none, .fields fv, osl⟩ D none := ⟨h1, rfl, rfl, trivial⟩
  have kx := PySem.W.handS_kitx_exc (ox := ⟨.ref D, none, .fields fv, osl⟩) (x := a) C.hg C.hk C.hs C.hd C.ha C.hn C.ht C.hm
  exact PySem.W.kia_one kx I.kIn J e (fun z => nomatch z) fun tk => ⟨.bl b, H, I.tok tk, rfl, q⟩
/-- a tracked exception, or any other value -/
def rIsY (K : PySem.W.Frag) : List V → Hp → VK → Prop := fun xs H Q => rIsX K xs H Q ∨ rIsi K xs H Q
theorem call_isY {X : Cx} : CallR X (.builtin "isinstance") (rIsY X.K) := fun pins s σ H xs us Q I r hh => by
  rcases hh with hh | hh
  · exact call_isX pins s σ H xs us Q I r hh
  · exact call_isi pins s σ H xs us Q I r hh
/-- X(), an own exception class without own __init__, as a value -/
theorem pe_exc0 {X : Cx} {C : Addr} {bmB : List Value} {B newId initId : String} {x : Str} {p pos : Pos} (F : ExcBaseFacts B newId initId bmB) (q : PySem.W.excIn X.K C bmB newId = true) (gC : X.mg x = some (.ref C))
    (kC : PySem.W.keepIn X.K (.ref C) = true) (hg : Gl X x) (hdb : (x == ("__debug__" : Str)) = false := by decide) :
    PE X (.Call (.Name x p) [] [] pos) (fun _ H Q => ∀ a, H a = none → Q (.ref a) (upd H a (ExO (.ref C) a))) := by
  constructor
  intro pins s σ H Q I hh
  refine wpAny_Call_Name_kw (ld_glob I hg gC ?_ hdb)
  refine PySem.W.callWith_K0 I.kIn kC ?_
  rw [List.append_nil]
  obtain ⟨_, _, _, _, _, _, _, _, _, _, _, _, _, _, _, _, _, hC, hN, hni, tl⟩ := exc_obj I.kIn q
  refine wpAny_call_exc_subT F tl hC hN hni (fun h' a hm => ?_) (Nat.zero_le _)
  have hn : H a = none := I.hok.gone hm.new
  obtain ⟨t, ht, _, _⟩ := hm.there
  exact ⟨.ref a, _, I.laidN hm.keeps hm.new hn (exO_ok ht ⟨rfl, rfl⟩ rfl rfl rfl (by decide : 4 < 6)), rfl, hh a hn⟩
/-- an exception that stands pinned, younger than the entry, may be tracked -/
theorem inv_track {X : Cx} {pins : List (Addr × Obj)} {σ : L2.St} {H : Hp} {s : Shared} {a : Addr} {ob : Obj} {fv : Array Value} {cls : Value} (I : Inv X ((a, ob) :: pins) σ H s) (hz : Zc cls none ob) (hd : ob.data = .fields fv)
    (h0 : ∀ o, X.s_0.heap.get? a ≠ some o) (hp : ∀ p ∈ X.pn ++ pins, p.1 ≠ a) : Inv X pins σ (upd H a (ExP cls a)) s := by
  obtain ⟨g1, g2, g3, g4, g5⟩ := I.pin (a, ob) (List.mem_append_right _ List.mem_cons_self)
  have out : ∀ p ∈ X.pn ++ pins, p ∈ X.pn ++ (a, ob) :: pins := fun p m => by
    rcases List.mem_append.mp m with m | m
    · exact List.mem_append_left _ m
    · exact List.mem_append_right _ (List.mem_cons_of_mem _ m)
  refine { ok := I.ok, os := I.os, bare := I.bare, loc := I.loc, cell := I.cell, len := I.len, base := ?b, free := ?f, freeC := ?c, pin := ?p, hok := ?k }
  case b =>
    refine { keep := I.base.keep, slot := I.base.slot, there := I.base.there, free := fun b o e n x => ?_, tups := fun b xs e => ?_, frzs := fun b o u e => ?_, tbls := fun b ps e => ?_ }
    · have nb : b ≠ a := fun z => h0 o (by rw [← z]; exact e)
      rw [upd_ne nb]
      exact I.base.free b o e n x
    · have h1 := I.base.tups b xs e
      rw [upd_ne (ne_of_none h1 g2)]
      exact h1
    · have h1 := I.base.frzs b o u e
      rw [upd_ne (ne_of_none h1 g2)]
      exact h1
    · obtain ⟨m, h1⟩ := I.base.tbls b ps e
      exact ⟨m, by rw [upd_ne (ne_of_none h1 g2)]; exact h1⟩
  case f =>
    rw [upd_ne (Ne.symm g3)]
    exact I.free
  case c =>
    intro y c e
    have nc : c ≠ a := fun z => by
      obtain ⟨v, o, h1, h2⟩ := I.cell y c e
      rw [z, g1] at h1
      cases h1
      exact g5 _ h2
    rw [upd_ne nc]
    exact I.freeC y c e
  case p =>
    intro p m
    obtain ⟨k1, k2, k3, k4, k5⟩ := I.pin p (out p m)
    exact ⟨k1, by rw [upd_ne (hp p m)]; exact k2, k3, k4, k5⟩
  case k =>
    refine HOk.laidN I.hok (fun _ _ z => z) g2 ⟨⟨ob, fv, g1, hz, hd⟩, ⟨ob, g1⟩, fun h1 h2 x y => ?_⟩
    obtain ⟨o', f', q1, q2⟩ := x
    exact ⟨o', f', y _ q1, q2⟩
/-- the wish of a clause «except c as n: y = n»: slots i of n, j of y -/
def wKept (K : PySem.W.Frag) (c : Value) (i j : Nat) (D : Ends) : WX := fun cls d σ H => d = none ∧ PySem.W.exmOne K cls c = some true ∧ ∀ a, H a = none → D.nx ((σ.set j (some (.ref a))).set i none) (upd H a (ExP cls a))
/-- behind the look at the frame: the handlers -/
def atHandlers (X : Cx) (pins : List (Addr × Obj)) (D : Ends) (hs : List ExceptHandler) : Value → Shared → Prop := fun e t => wpAny (model X.prog X.w) X.A (noteFrame e X.env)
  (fun _ t1 => wpAny (model X.prog X.w) X.A (setFlight e none) (fun _ t2 => wpAny (model X.prog X.w) X.A (handleBy e X.env hs) (SP X pins D) X.xe t2) X.xe t1) X.xe t
section
variable {X : Cx} {x n y : Str} {c : Value} {i j : Nat} {body : List Stmt} {np pos pos' py pv' sp' : Pos} {tb : WX → TS}
theorem kept_catch (hs : X.stack = X.env :: X.outer) (hf : X.env.frame = some X.env.locals) (hN : X.N.Nodup) (hi : X.N[i]? = some n) (hln : X.env.kindOf n = some .local) (hj : X.N[j]? = some y) (hly : X.env.scope.names.lookup y = some .local)
    (nd : (n == ("__debug__" : Str)) = false) (ncd : (n == ("__classdict__" : Str)) = false) (hsw : swapsWith (.Name n pv') (some (.Name y py)) sp'.line X.env = pure false) (hc : Names X x c) (hex : X.ex = [])
    {pins : List (Addr × Obj)} {D : Ends} {u : Value} {s' : Shared} (ok : X.Ok) {pn0 : List (Addr × Obj)} {xe0 : Value → Shared → Prop} (hpn : pn0 = X.pn ++ pins)
    (z : XE (X.tr pn0 xe0) (wKept X.K c i j D) u s') : atHandlers X pins D [.ExceptHandler (some (.Name x np)) (some n) [.Assign [.Name y py] (.Name n pv') sp'] pos'] u s' := by
  subst hpn
  obtain ⟨a, B, sI, pq, τ, H', cls, d, rfl, J0, nb, up, sky, na, os, ag, rfl, te, nx⟩ := z
  have J : Inv X pins τ H' sI := J0.ofTry ok
  have hfr : X.A.frames = some (X.env :: X.outer) := by
    rw [← hs]
    exact ok.frames
  unfold atHandlers
  refine Sky.land Zc.steady hfr hf (by rw [← hs]; exact sky) fun h3 fl3 up3 => ?_
  have J3 : Inv X pins τ H' { s' with heap := h3 } := J.landed nb fl3.1 (up.trans up3) os ag
  obtain ⟨o3, f3, ho3, hz3, hd3⟩ := fl3.there
  have nfr : a ∉ frs (X.env :: X.outer) := fun hm => by
    obtain ⟨_, o', e', hnf⟩ := fl3.2.2.1.mem hm
    rw [ho3] at e'
    cases e'
    exact hnf _ hd3
  have nL : a ≠ X.env.locals := fun e => nfr (List.mem_filterMap.mpr ⟨X.env, List.mem_cons_self, by rw [hf, e]⟩)
  have nF : a ∉ X.fs := fun hm => by
    obtain ⟨e, he, q⟩ := List.mem_filterMap.mp hm
    exact nfr (List.mem_filterMap.mpr ⟨e, List.mem_cons_of_mem _ he, q⟩)
  have newI : ∀ o, sI.heap.get? a ≠ some o := fun o e => by
    have h1 := nb a o e (by rw [show frs (X.tr (X.pn ++ pins) xe0).stack = frs (X.env :: X.outer) from congrArg frs hs]; exact nfr)
    rw [fl3.2.1] at h1
    cases h1
  have new0 : ∀ o, X.s_0.heap.get? a ≠ some o := fun o e => by
    obtain ⟨o', e'⟩ := J.base.there a o e (by rw [hex]; exact List.not_mem_nil)
    exact newI _ e'
  have newP : ∀ p ∈ X.pn ++ pins, p.1 ≠ a := fun p m e => newI _ (by rw [← e]; exact (J.pin p m).1)
  have S3 := J3.suite ho3 hd3 na nL nF
  refine wpAny_handleBy_cons (codeAny_handlers_test ?_) (by intro q; cases q)
  have isT : PySem.W.Looks (model X.prog X.w) h3 (typeOf (.ref a)) cls := fun A Q E t k q => wpAny_typeOf_ref (k _ _ ho3) (by rw [hz3.1]; exact q)
  have isM := PySem.W.exm_one (M := model X.prog X.w) J3.kIn isT te
  have nm : ∀ {Q : Value → Shared → Prop} {E : Value → Shared → Prop}, Q c { s' with heap := h3 } → wpAny (model X.prog X.w) (X.A.mark (some (.ref a))) (eval (.Name x np) X.env) Q E { s' with heap := h3 } := fun q => by
    obtain ⟨k1, k2, k3 | ⟨k3, k4, k5⟩⟩ := hc
    · exact ld_glob (X := X.suite a ((a, o3) :: (X.pn ++ pins))) S3 k1 k3 q k2
    · exact ld_blt (X := X.suite a ((a, o3) :: (X.pn ++ pins))) S3 k1 k3 k4 q k5 k2
  refine nm (isM.here (codeAny_handlers_suite_as ?_))
  refine HandSPX.lands_againZ fl3 fun h4 fl4 up4 => ?_
  have J4 : Inv X pins τ H' { s' with heap := h4 } := J.landed nb fl4.1 ((up.trans up3).trans up4) os ag
  obtain ⟨o4, f4, ho4, hz4, hd4⟩ := fl4.there
  have S4 := J4.suite ho4 hd4 na nL nF
  refine store_ok (X := X.suite a ((a, o4) :: (X.pn ++ pins))) (v := .ref a) S4 hN hi (.inl hln) rfl (fun s5 S5 => ?_) (.inr hln)
  have hlen : i < τ.length := by
    rw [J.len]
    exact (List.getElem?_eq_some_iff.mp hi).1
  have suite : PSs (X.suite a ((a, o4) :: (X.pn ++ pins))) [.Assign [.Name y py] (.Name n pv') sp'] (tAsg (tVar i) (gName j)) :=
    pss_one (ps_set (i := j) hN hj (.inl hly) (pe_var hi (.inl hln) nd ncd) hsw (.inr hly))
  let D5 : Ends := { nx := fun σ6 H6 => σ6 = (τ.set i (some (.ref a))).set j (some (.ref a)) ∧ H6 = H', rt := fun _ _ => False, bk := fun _ _ => False, ct := fun _ _ => False }
  refine wpAny_mono (suite.run [] s5 _ H' D5 S5 ⟨.ref a, by rw [List.getElem?_set_self hlen], rfl, rfl⟩) (fun f s6 got => ?_) (fun _ _ w => False.elim w)
  cases f with
  | next =>
    obtain ⟨σ6, H6, S6, rfl, rfl⟩ := got
    have J6 : Inv X ((a, o4) :: pins) ((τ.set i (some (.ref a))).set j (some (.ref a))) H6 s6 :=
      { ok := ok, os := S6.os, bare := S6.bare, base := S6.base, loc := S6.loc, cell := S6.cell, free := S6.free, freeC := S6.freeC, hok := S6.hok, len := S6.len,
        pin := fun p m => S6.pin p (by
          rw [List.append_nil]
          rcases List.mem_append.mp m with m | m
          · exact List.mem_cons_of_mem _ (List.mem_append_left _ m)
          · rcases List.mem_cons.mp m with m | m
            · rw [m]
              exact List.mem_cons_self
            · exact List.mem_cons_of_mem _ (List.mem_append_right _ m)) }
    refine gone_ok J6 hN hi hln fun s7 J7 => ⟨_, _, inv_track J7 hz4 hd4 new0 newP, ?_⟩
    have hsl : ((τ.set i (some (V.ref a))).set j (some (.ref a))).set i none = (τ.set j (some (.ref a))).set i none := by
      apply List.ext_getElem?
      intro k
      simp only [List.getElem?_set, List.length_set]
      by_cases h1 : i = k <;> by_cases h2 : j = k <;> simp [h1, h2]
    rw [hsl]
    exact nx a na
  | brk =>
    obtain ⟨_, _, _, w⟩ := got
    exact w.elim
  | cont =>
    obtain ⟨_, _, _, w⟩ := got
    exact w.elim
  | ret v =>
    obtain ⟨_, _, _, _, _, w⟩ := got
    exact w.elim
/-- try: body except x as n: y = n -/
theorem ps_try_kept (i j : Nat) (hs : X.stack = X.env :: X.outer) (hf : X.env.frame = some X.env.locals) (hN : X.N.Nodup) (hi : X.N[i]? = some n) (hln : X.env.kindOf n = some .local) (hj : X.N[j]? = some y) (hly : X.env.scope.names.lookup y = some .local) (hc : Names X x c) (hex : X.ex = [])
    (hb : ∀ (W : WX) (pn : List (Addr × Obj)) (xe : Value → Shared → Prop), Takes (X.tr pn xe) W → PassesOwn (model X.prog X.w) X.A X.env xe → PSs (X.tr pn xe) body (tb W))
    (nd : (n == ("__debug__" : Str)) = false := by decide) (ncd : (n == ("__classdict__" : Str)) = false := by decide) (hsw : swapsWith (.Name n pv') (some (.Name y py)) sp'.line X.env = pure false := by rfl) :
    PS X (.Try body [.ExceptHandler (some (.Name x np)) (some n) [.Assign [.Name y py] (.Name n pv') sp'] pos'] [] [] pos) (fun D σ H => tb (wKept X.K c i j D) D σ H) := by
  constructor
  intro pins s σ H D I hh
  have ok := I.ok
  refine wpAny_Try_except ?_
  have run := (hb (wKept X.K c i j D) (X.pn ++ pins) (atHandlers X pins D [.ExceptHandler (some (.Name x np)) (some n) [.Assign [.Name y py] (.Name n pv') sp'] pos']) (fun u s' z => kept_catch hs hf hN hi hln hj hly nd ncd hsw hc hex ok rfl z) PassesOwn.looking).run [] s σ H D (I.toTry _) hh
  refine wpAny_mono run (fun f s1 got => ?_) (fun _ _ w => w)
  cases f with
  | next =>
    obtain ⟨σ1, H1, J1, q⟩ := got
    exact wpAny_execs_nil ⟨σ1, H1, J1.ofTry ok, q⟩
  | brk =>
    obtain ⟨σ1, H1, J1, q⟩ := got
    exact ⟨σ1, H1, J1.ofTry ok, q⟩
  | cont =>
    obtain ⟨σ1, H1, J1, q⟩ := got
    exact ⟨σ1, H1, J1.ofTry ok, q⟩
  | ret v =>
    obtain ⟨v1, σ1, H1, J1, r, q⟩ := got
    exact ⟨v1, σ1, H1, J1.ofTry ok, r, q⟩
end
section
variable {P : Program} {w : World} {K : PySem.W.Frag} {mg : Str → Option Value} {base : Heap}
/-! ### the kinds of refusals -/
def Tx.Cs (T : Tx K mg) : List Addr := [T.C_NoSpan, T.C_NoPlace, T.C_NoCover, T.C_NoWeight, T.C_NoCount, T.C_NoName, T.C_Twice, T.C_Full, T.C_Bare, T.C_NoDeed, T.C_NoText, T.C_NoLine]
theorem excC_of (T : Tx K mg) {D : Addr} (h : D ∈ T.C_ShelfError :: T.Cs) : ExcC K D := by
  have hd := (List.map_inj_left.mp T.excs) D h
  simp only [Prod.mk.injEq] at hd
  obtain ⟨h1, h2, h3, h4, h5, h6⟩ := hd
  have hg := T.gets
  simp only [Prod.mk.injEq] at hg
  exact ⟨h1, h2, h3, h4, h5, hg.1, hg.2, h6⟩
theorem kit_row (T : Tx K mg) {i j : Nat} {D C : Addr} (hi : (T.C_ShelfError :: T.Cs)[i]? = some D) (hj : T.Cs[j]? = some C) : PySem.W.kitOne K (.ref D) (.ref C) = some (i == j + 1) := by
  have e := congrArg (fun l => l[i]?) T.kits
  rw [List.getElem?_map, show ([T.C_ShelfError, T.C_NoSpan, T.C_NoPlace, T.C_NoCover, T.C_NoWeight, T.C_NoCount, T.C_NoName, T.C_Twice, T.C_Full, T.C_Bare, T.C_NoDeed, T.C_NoText, T.C_NoLine] : List Addr) = T.C_ShelfError :: T.Cs from rfl, hi] at e
  have hl : i < 13 := by
    have := (List.getElem?_eq_some_iff.mp hi).1
    simpa [Tx.Cs] using this
  have hl2 : j < 12 := by
    have := (List.getElem?_eq_some_iff.mp hj).1
    simpa [Tx.Cs] using this
  rw [List.getElem?_map, List.getElem?_range hl] at e
  have e := Option.some.inj e
  have e2 := congrArg (fun l => l[j]?) e
  rw [List.getElem?_map, List.getElem?_map, show ([T.C_NoSpan, T.C_NoPlace, T.C_NoCover, T.C_NoWeight, T.C_NoCount, T.C_NoName, T.C_Twice, T.C_Full, T.C_Bare, T.C_NoDeed, T.C_NoText, T.C_NoLine] : List Addr) = T.Cs from rfl, hj, List.getElem?_range hl2] at e2
  exact Option.some.inj e2
theorem kit_tops (T : Tx K mg) {D : Addr} (h : D ∈ T.C_ShelfError :: T.Cs) : PySem.W.kitOne K (.ref D) (.ref T.C_ShelfError) = some true ∧ PySem.W.kitOne K (.ref D) (.type "ValueError") = some true := by
  have hd := (List.map_inj_left.mp T.tops) D h
  simp only [Prod.mk.injEq] at hd
  exact hd
theorem kit_none (T : Tx K mg) {C : Addr} (h : C ∈ T.C_ShelfError :: T.Cs) : PySem.W.kitOne K (.type "NoneType") (.ref C) = some false := (List.map_inj_left.mp T.nones) C h
theorem exm_all (T : Tx K mg) {D : Addr} (h : D ∈ T.C_ShelfError :: T.Cs) : PySem.W.exmOne K (.ref D) (.ref T.C_ShelfError) = some true := (List.map_inj_left.mp T.exms) D h
/-- v is a refusal of the kind r, or None, or a bare ShelfError (r is empty) -/
def Kd (T : Tx K mg) (H : Hp) (v : V) (r : List Int) : Prop :=
  (∃ (a : Addr) (i : Nat) (D : Addr), v = .ref a ∧ (T.C_ShelfError :: T.Cs)[i]? = some D ∧ IsEx H (.ref D) a ∧ r = if i = 0 then [] else [(i : Int) - 1]) ∨ (v = .non ∧ r = [])
theorem Kd.same {T : Tx K mg} {H H' : Hp} {v : V} {r : List Int} (h : Kd T H v r) (e : Same H H') : Kd T H' v r := by
  rcases h with ⟨a, i, D, h1, h2, h3, h4⟩ | h
  · exact .inl ⟨a, i, D, h1, h2, h3.same e, h4⟩
  · exact .inr h
theorem Kd.is {T : Tx K mg} {H : Hp} {v : V} {r : List Int} {Q : VK} (h : Kd T H v r) (j : Nat) {C : Addr} (hj : T.Cs[j]? = some C) (q : Q (.bl (decide (r = [(j : Int)]))) H) : rIsY K [v, .ref C] H Q := by
  rcases h with ⟨a, i, D, rfl, h2, h3, h4⟩ | ⟨rfl, h4⟩
  · refine .inl ⟨a, D, _, _, _, rfl, h3, excC_of T (List.mem_of_getElem? h2), .own C, kit_row T h2 hj, ?_⟩
    have e : decide (r = [(j : Int)]) = (i == j + 1) := by
      rw [h4]
      by_cases hi : i = 0
      · rw [if_pos hi, hi]
        simp
      · rw [if_neg hi]
        by_cases h5 : i = j + 1
        · subst h5
          simp
        · have : ¬ ((i : Int) - 1 = (j : Int)) := by omega
          simp [h5, this]
    rw [← e]
    exact q
  · refine .inr ⟨_, _, _, _, false, rfl, .own C, .base .non, kit_none T (List.mem_cons_of_mem _ (List.mem_of_getElem? hj)), ?_⟩
    have e : decide (r = [(j : Int)]) = false := by
      rw [h4]
      simp
    rw [← e]
    exact q
end
section
variable {P : Program} {w : World} {K : PySem.W.Frag} {mg : Str → Option Value} {base : Heap}
/-! ### the law: refusals made -/
theorem dpAll_bls {K : PySem.W.Frag} {H : Hp} : ∀ bs : List Bool, DpAll K H (bs.map V.bl) (bs.map PyData.bool)
  | [] => .nil
  | b :: r => .cons (.bl b) (dpAll_bls r)
theorem lay_bls : ∀ bs : List Bool, PyData.canLayAll0 (bs.map PyData.bool) = true ∧ PyData.depthAll (bs.map PyData.bool) = 0
  | [] => ⟨rfl, rfl⟩
  | n :: r => by
    obtain ⟨h1, h2⟩ := lay_bls r
    refine ⟨?_, ?_⟩
    · show (PyData.canLay0 (.bool n) && PyData.canLayAll0 (r.map PyData.bool)) = true
      rw [h1]
      rfl
    · show max (PyData.depth (.bool n)) (PyData.depthAll (r.map PyData.bool)) = 0
      rw [h2]
      rfl
theorem shaped_bls (bs : List Bool) : SeqAt.shaped (.list (bs.map PyData.bool)) = true := by
  obtain ⟨h1, h2⟩ := lay_bls bs
  show (PyData.canLayAll0 (bs.map PyData.bool) && decide (PyData.depthAll (bs.map PyData.bool) + 1 ≤ 64)) = true
  rw [h1, h2]
  rfl
theorem eqv_bls_refl (bs : List Bool) : PyData.eqv (.list (bs.map PyData.bool)) (.list (bs.map PyData.bool)) = true := PySem.SeqAt.eqv_refl _ (lay_bls bs).1
/-- v is a refusal of the class with number i: 0 ShelfError, then the twelve -/
def Kx (T : Tx K mg) (H : Hp) (v : V) (i : Nat) : Prop := ∃ (a D : Addr), v = .ref a ∧ (T.C_ShelfError :: T.Cs)[i]? = some D ∧ IsEx H (.ref D) a
def kr (i : Nat) : List Int := if i = 0 then [] else [(i : Int) - 1]
theorem Kx.kd {T : Tx K mg} {H : Hp} {v : V} {i : Nat} (h : Kx T H v i) : Kd T H v (kr i) := by
  obtain ⟨a, D, h1, h2, h3⟩ := h
  exact .inl ⟨a, i, D, h1, h2, h3, rfl⟩
theorem Kx.same {T : Tx K mg} {H H' : Hp} {v : V} {i : Nat} (h : Kx T H v i) (e : Same H H') : Kx T H' v i := by
  obtain ⟨a, D, h1, h2, h3⟩ := h
  exact ⟨a, D, h1, h2, h3.same e⟩
def sortsL (i : Nat) : List Bool := (List.range 12).map fun (k : Nat) => decide (kr i = [(k : Int)])
def spSorts (T : Tx K mg) : Sp := fun vs H Q _ => ∃ (v : V) (i : Nat), vs = [v] ∧ Kx T H v i ∧ ∀ H' p, Same H H' → H p = none → H' p = some (.lst ((sortsL i).map V.bl)) → Q (.ref p) H'
theorem ok_sorts (T : Tx K mg) : FnOk P w K mg base CX0 (1) T.f_l_sorts T.fd_l_sorts ["_law_caught_here"] (spSorts T) := by
  refine T.F_l_sorts.ok sc_l_sorts (fun vs H Q E h => ?_) (fun cdv A outer s H vs Q E hr h => ?_)
  · obtain ⟨v, r, rfl, _⟩ := h
    rfl
  · obtain ⟨v, i, rfl, h, q⟩ := h
    refine ⟨_, (pss_cons (ps_set (i := 1) sc_l_sorts.nd rfl (Or.inl rfl) (pe_lst (pa_cons (pe_callB call_isY (by rfl) T.m_isinstance (by decide +kernel) (pa_cons (pv 0) (pa_cons (pe_glob (v := .ref T.C_NoSpan) (by rfl) T.g_NoSpan rfl) pa_nil))) (pa_cons (pe_callB call_isY (by rfl) T.m_isinstance (by decide +kernel) (pa_cons (pv 0) (pa_cons (pe_glob (v := .ref T.C_NoPlace) (by rfl) T.g_NoPlace rfl) pa_nil))) (pa_cons (pe_callB call_isY (by rfl) T.m_isinstance (by decide +kernel) (pa_cons (pv 0) (pa_cons (pe_glob (v := .ref T.C_NoCover) (by rfl) T.g_NoCover rfl) pa_nil))) pa_nil)))))
      (pss_cons (ps_set (i := 1) sc_l_sorts.nd rfl (Or.inl rfl) (pe_op op_cat (pv 1) (pe_lst (pa_cons (pe_callB call_isY (by rfl) T.m_isinstance (by decide +kernel) (pa_cons (pv 0) (pa_cons (pe_glob (v := .ref T.C_NoWeight) (by rfl) T.g_NoWeight rfl) pa_nil))) (pa_cons (pe_callB call_isY (by rfl) T.m_isinstance (by decide +kernel) (pa_cons (pv 0) (pa_cons (pe_glob (v := .ref T.C_NoCount) (by rfl) T.g_NoCount rfl) pa_nil))) (pa_cons (pe_callB call_isY (by rfl) T.m_isinstance (by decide +kernel) (pa_cons (pv 0) (pa_cons (pe_glob (v := .ref T.C_NoName) (by rfl) T.g_NoName rfl) pa_nil))) pa_nil))))))
      (pss_cons (ps_set (i := 1) sc_l_sorts.nd rfl (Or.inl rfl) (pe_op op_cat (pv 1) (pe_lst (pa_cons (pe_callB call_isY (by rfl) T.m_isinstance (by decide +kernel) (pa_cons (pv 0) (pa_cons (pe_glob (v := .ref T.C_Twice) (by rfl) T.g_Twice rfl) pa_nil))) (pa_cons (pe_callB call_isY (by rfl) T.m_isinstance (by decide +kernel) (pa_cons (pv 0) (pa_cons (pe_glob (v := .ref T.C_Full) (by rfl) T.g_Full rfl) pa_nil))) (pa_cons (pe_callB call_isY (by rfl) T.m_isinstance (by decide +kernel) (pa_cons (pv 0) (pa_cons (pe_glob (v := .ref T.C_Bare) (by rfl) T.g_Bare rfl) pa_nil))) pa_nil))))))
      (pss_one (ps_ret (pe_op op_cat (pv 1) (pe_lst (pa_cons (pe_callB call_isY (by rfl) T.m_isinstance (by decide +kernel) (pa_cons (pv 0) (pa_cons (pe_glob (v := .ref T.C_NoDeed) (by rfl) T.g_NoDeed rfl) pa_nil))) (pa_cons (pe_callB call_isY (by rfl) T.m_isinstance (by decide +kernel) (pa_cons (pv 0) (pa_cons (pe_glob (v := .ref T.C_NoText) (by rfl) T.g_NoText rfl) pa_nil))) (pa_cons (pe_callB call_isY (by rfl) T.m_isinstance (by decide +kernel) (pa_cons (pv 0) (pa_cons (pe_glob (v := .ref T.C_NoLine) (by rfl) T.g_NoLine rfl) pa_nil))) pa_nil)))))))))), ?_⟩
    have h := h.kd
    generalize hr' : kr i = r at h
    refine ⟨_, rfl, h.is 0 rfl ⟨_, rfl, h.is 1 rfl ⟨_, rfl, h.is 2 rfl ⟨small_le (by simp), fun l1 n1 => ?_⟩⟩⟩⟩
    obtain ⟨e1, s1⟩ := upd_at (o := .lst [.bl (decide (r = [((0 : Nat) : Int)])), .bl (decide (r = [((1 : Nat) : Int)])), .bl (decide (r = [((2 : Nat) : Int)]))]) n1
    have h := h.same s1
    refine ⟨_, rfl, _, rfl, h.is 3 rfl ⟨_, rfl, h.is 4 rfl ⟨_, rfl, h.is 5 rfl ⟨small_le (by simp), fun l2 n2 => ?_⟩⟩⟩⟩
    obtain ⟨e2, s2⟩ := upd_at (o := .lst [.bl (decide (r = [((3 : Nat) : Int)])), .bl (decide (r = [((4 : Nat) : Int)])), .bl (decide (r = [((5 : Nat) : Int)]))]) n2
    have h := h.same s2
    refine ⟨l1, l2, _, _, rfl, rfl, s2 _ _ e1, e2, small_le (by simp), fun l3 n3 => ?_⟩
    obtain ⟨e3, s3⟩ := upd_at (o := .lst ([.bl (decide (r = [((0 : Nat) : Int)])), .bl (decide (r = [((1 : Nat) : Int)])), .bl (decide (r = [((2 : Nat) : Int)]))] ++ [.bl (decide (r = [((3 : Nat) : Int)])), .bl (decide (r = [((4 : Nat) : Int)])), .bl (decide (r = [((5 : Nat) : Int)]))])) n3
    have h := h.same s3
    refine ⟨_, rfl, _, rfl, h.is 6 rfl ⟨_, rfl, h.is 7 rfl ⟨_, rfl, h.is 8 rfl ⟨small_le (by simp), fun l4 n4 => ?_⟩⟩⟩⟩
    obtain ⟨e4, s4⟩ := upd_at (o := .lst [.bl (decide (r = [((6 : Nat) : Int)])), .bl (decide (r = [((7 : Nat) : Int)])), .bl (decide (r = [((8 : Nat) : Int)]))]) n4
    have h := h.same s4
    refine ⟨l3, l4, _, _, rfl, rfl, s4 _ _ e3, e4, small_le (by simp), fun l5 n5 => ?_⟩
    obtain ⟨e5, s5⟩ := upd_at (o := .lst ([.bl (decide (r = [((0 : Nat) : Int)])), .bl (decide (r = [((1 : Nat) : Int)])), .bl (decide (r = [((2 : Nat) : Int)]))] ++ [.bl (decide (r = [((3 : Nat) : Int)])), .bl (decide (r = [((4 : Nat) : Int)])), .bl (decide (r = [((5 : Nat) : Int)]))] ++ [.bl (decide (r = [((6 : Nat) : Int)])), .bl (decide (r = [((7 : Nat) : Int)])), .bl (decide (r = [((8 : Nat) : Int)]))])) n5
    have h := h.same s5
    refine ⟨_, rfl, _, rfl, h.is 9 rfl ⟨_, rfl, h.is 10 rfl ⟨_, rfl, h.is 11 rfl ⟨small_le (by simp), fun l6 n6 => ?_⟩⟩⟩⟩
    obtain ⟨e6, s6⟩ := upd_at (o := .lst [.bl (decide (r = [((9 : Nat) : Int)])), .bl (decide (r = [((10 : Nat) : Int)])), .bl (decide (r = [((11 : Nat) : Int)]))]) n6
    refine ⟨l5, l6, _, _, rfl, rfl, s6 _ _ e5, e6, small_le (by simp), fun l7 n7 => ?_⟩
    have all := s1.trans (s2.trans (s3.trans (s4.trans (s5.trans s6))))
    refine q _ l7 (same_more all (all.free n7)) (all.free n7) ?_
    rw [upd_same]
    subst hr'
    rfl
/-- right(some, at): all of some are of the class i, at tells which -/
def spRight (T : Tx K mg) : Sp := fun vs H Q _ => ∃ (l : Addr) (us : List V) (at' : Int) (i : Nat), vs = [.ref l, .int at'] ∧ H l = some (.lst us) ∧ (∀ u ∈ us, Kx T H u i) ∧ i < 13 ∧ ((i = 0 ∧ at' = 12) ∨ (i : Int) = at' + 1) ∧ ∀ H', Same H H' → Q (.bl true) H'
theorem sorts_at {i : Nat} {at' : Int} (h : i < 13) (e : (i = 0 ∧ at' = 12) ∨ (i : Int) = at' + 1) : sortsL i = (List.range 12).map fun (k : Nat) => decide ((k : Int) = at') := by
  unfold sortsL kr
  refine List.map_congr_left fun k hk => ?_
  have hk := List.mem_range.mp hk
  refine decide_eq_decide.mpr ?_
  rcases e with ⟨rfl, rfl⟩ | e
  · rw [if_pos rfl]
    constructor
    · intro z
      cases z
    · intro z
      omega
  · by_cases h0 : i = 0
    · rw [if_pos h0]
      constructor
      · intro z
        cases z
      · intro z
        omega
    · rw [if_neg h0]
      constructor
      · intro z
        have := (List.cons.inj z).1
        omega
      · intro z
        rw [show (i : Int) - 1 = (k : Int) by omega]
theorem ok_right (T : Tx K mg) : FnOk P w K mg base CX0 (2) T.f_l_right T.fd_l_right ["_law_some", "_law_at"] (spRight T) := by
  have G_l_sorts : FnOk P w K mg base CX0 _ _ _ _ _ := ok_sorts T
  refine T.F_l_right.ok sc_l_right (fun vs H Q E h => ?_) (fun cdv A outer s H vs Q E hr h => ?_)
  · obtain ⟨l, us, a, i, rfl, _⟩ := h
    rfl
  · obtain ⟨l, us, a, i, rfl, hl, hu, hi, e, q⟩ := h
    refine ⟨_, (pss_cons (ps_for PassesOwn.never (by rfl) (pi_list (pv 0)) (pg_name (i := 2) sc_l_right.nd rfl (Or.inl rfl))
        (pss_cons (ps_if (PW.pt (pw_or (pt_not (pt_val (pe_callB call_isY (by rfl) T.m_isinstance (by decide +kernel) (pa_cons (pv 2) (pa_cons (pe_glob (v := .ref T.C_ShelfError) (by rfl) T.g_ShelfError rfl) pa_nil))))) (pw_or1 (pt_not (pt_val (pe_callB call_isY (by rfl) T.m_isinstance (by decide +kernel) (pa_cons (pv 2) (pa_cons (pe_bltn (v := .ty "ValueError") (by rfl) T.m_ValueError (by decide +kernel) rfl) pa_nil)))))))) (pss_one (ps_ret pe_bl)) pss_nil)
      (pss_one (ps_if (pt_cmpR (op_neD hr.units) (pe_call G_l_sorts (hr.mono (by decide)) (by rfl) T.g_l_sorts T.F_l_sorts.kp T.b_l_sorts .nil pass0 (pa_cons (pv 2) pa_nil)) (pe_lc (own := [("_law_k", 3)]) (g := (gName 3)) (by rfl) sc_l_right.nd (pi_range1 (by rfl) T.m_range (pa_cons pe_int pa_nil)) (blkOk_by (own := [("_law_k", 3)]) (N := N_l_right) (sc := defScope s_l_right) (by decide +kernel)) (fun _ _ _ _ _ => (pg_name (i := 3) sc_l_right.nd rfl (Or.inl rfl))) (fun _ _ _ _ _ => pts_nil) (fun _ _ _ _ _ => (pe_cmpR op_eq (pv 3) (pv 1) (nomark _)))) (nomark _)) (pss_one (ps_ret pe_bl)) pss_nil))))
      (pss_one (ps_ret pe_bl))), ?_⟩
    refine ⟨_, rfl, l, rfl, ⟨_, SqL.of hl⟩, for_list (K := K) (a := l) (xs := us) (fun j σ H' => ∃ y2, σ = [some (.ref l), some (.int a), y2, none] ∧ Same H H') ⟨none, rfl, Same.refl _⟩ (fun i σ H' _ ⟨_, _, sm⟩ => SqL.of (sm _ _ hl)) ?_ ?_⟩
    · rintro j u σ H' hj ⟨y2, rfl, sm⟩
      have kx := (hu u (List.mem_of_getElem? hj)).same sm
      obtain ⟨b, D, rfl, hD, ex⟩ := id kx
      have hm := List.mem_of_getElem? hD
      have kt := kit_tops T hm
      refine ⟨_, rfl, .inl ⟨b, D, _, _, true, rfl, ex, excC_of T hm, .own _, kt.1, true, rfl, iteF ?_⟩⟩
      refine ⟨_, rfl, .inl ⟨b, D, _, _, true, rfl, ex, excC_of T hm, .ty _, kt.2, true, rfl, iteF ?_⟩⟩
      refine ⟨_, rfl, _, i, rfl, kx, fun H1 p s1 np hp => ?_⟩
      refine ⟨12, rfl, by decide, by decide, fun Dl nD => ?_⟩
      have np1 : p ≠ Dl := ne_of_none hp nD
      refine lc_range (lo := 0) (n := 12) (fun k H'' => Same H1 H'' ∧ H'' Dl = some (.lst (((List.range k).map fun (k : Nat) => decide ((k : Int) = a)).map V.bl))) ⟨same_upd nD, upd_same⟩ ?_ ?_
      · rintro k H'' hk ⟨s2, hD2⟩
        refine ⟨rfl, ?_⟩
        unfold tYes
        refine iteT ⟨_, rfl, _, rfl, rfl, _, hD2, small_lt ?_, same_more s2 nD, ?_⟩
        · rw [List.length_map, List.length_map, List.length_range]
          omega
        · rw [upd_same, List.range_succ, List.map_append, List.map_append]
          have ek : decide (V.int (0 + (k : Int)) = V.int a) = decide ((k : Int) = a) := by
            rw [Int.zero_add]
            exact decide_eq_decide.mpr ⟨V.int.inj, congrArg V.int⟩
          rw [ek]
          rfl
      · rintro H'' ⟨s2, hD2⟩
        refine ⟨_, _, .lst (SqL.of (s2 _ _ hp)) (dpAll_bls _), .lst (SqL.of hD2) (dpAll_bls _), shaped_bls _, shaped_bls _, _, rfl, ?_⟩
        rw [sorts_at hi e, eqv_bls_refl]
        exact iteF ⟨_, rfl, sm.trans (s1.trans s2)⟩
    · rintro σ H' ⟨y2, rfl, sm⟩
      exact q _ sm
def spCaught90 (T : Tx K mg) : Sp := fun vs H Q _ => ∃ (z : Int), vs = [.int z] ∧ ∀ H' p u, Same H H' → H' p = some (.lst [u]) → Kx T H' u 1 → Q (.ref p) H'
theorem ok_caught (T : Tx K mg) : FnOk P w K mg base CX0 (6) T.f_l_caught T.fd_l_caught ["_law_low"] (spCaught90 T) := by
  have G_length_of : FnOk P w K mg base (L2.CX P w) _ _ _ _ _ := ok_length_of T
  refine T.F_l_caught.ok sc_l_caught (fun vs H Q E h => ?_) (fun cdv A outer s H vs Q E hr h => ?_)
  · obtain ⟨z, rfl, _⟩ := h
    rfl
  · obtain ⟨z, rfl, q⟩ := h
    refine ⟨_, (pss_cons (ps_set (i := 1) sc_l_caught.nd rfl (Or.inl rfl) pe_non)
      (pss_cons (ps_try_kept 2 1 rfl rfl sc_l_caught.nd rfl rfl rfl rfl ⟨rfl, by decide, Or.inl T.g_ShelfError⟩ rfl (fun W pn xe tk _ => (pss_one (ps_expr (pe_callS G_length_of (hr.mono (by decide)) (by rfl) T.g_length_of T.F_length_of.kp T.b_length_of (fun σ => passAt tk σ) (pa_cons (pe_tup (pa_cons (pv 0) (pa_cons (pv 0) pa_nil))) pa_nil))))))
      (pss_one (ps_ret (pe_lst (pa_cons (pv 1) pa_nil)))))), ?_⟩
    have hm : T.C_NoSpan ∈ T.C_ShelfError :: T.Cs := List.mem_cons_of_mem _ List.mem_cons_self
    have no : isSpan (z, z) = false := by
      cases e : isSpan (z, z) with
      | false => rfl
      | true =>
        have := (isSpan_iff (z, z)).mp e
        simp only at this
        omega
    refine ⟨_, rfl, _, rfl, (by show 2 ≤ sizeLine; decide), fun t nt => ?_⟩
    obtain ⟨et, st⟩ := upd_at (o := .tup [.int z, .int z]) nt
    refine ⟨.ref t, (z, z), rfl, ⟨t, rfl, et⟩, fun h => ?_, fun _ => ⟨rfl, exm_all T hm, fun a na => ?_⟩⟩
    · rw [no] at h
      cases h
    · obtain ⟨ea, sa⟩ := upd_at (o := ExP (.ref T.C_NoSpan) a) na
      refine ⟨_, rfl, small_le (by simp), fun l nl => ?_⟩
      obtain ⟨el, sl⟩ := upd_at (o := .lst [.ref a]) nl
      exact q _ l _ (st.trans (sa.trans sl)) el ⟨a, _, rfl, rfl, isEx_P (sl _ _ ea)⟩
/-! rows of two refusals -/
inductive Rws (T : Tx K mg) (H : Hp) : List V → List Nat → Prop where
  | nil : Rws T H [] []
  | cons {l : Addr} {us vs : List V} {i : Nat} {is : List Nat} : H l = some (.lst us) → (∀ u ∈ us, Kx T H u i) → Rws T H vs is → Rws T H (.ref l :: vs) (i :: is)
theorem Rws.same {T : Tx K mg} {H H' : Hp} (e : Same H H') : ∀ {vs : List V} {is : List Nat}, Rws T H vs is → Rws T H' vs is
  | _, _, .nil => .nil
  | _, _, .cons h k t => .cons (e _ _ h) (fun u hu => (k u hu).same e) (Rws.same e t)
theorem Rws.app {T : Tx K mg} {H : Hp} : ∀ {vs ws : List V} {is js : List Nat}, Rws T H vs is → Rws T H ws js → Rws T H (vs ++ ws) (is ++ js)
  | _, _, _, _, .nil, h => h
  | _, _, _, _, .cons a k t, h => .cons a k (Rws.app t h)
theorem Rws.len {T : Tx K mg} {H : Hp} : ∀ {vs : List V} {is : List Nat}, Rws T H vs is → vs.length = is.length
  | _, _, .nil => rfl
  | _, _, .cons _ _ t => congrArg (· + 1) t.len
theorem Rws.get {T : Tx K mg} {H : Hp} : ∀ {vs : List V} {is : List Nat} {j : Nat} {v : V}, Rws T H vs is → vs[j]? = some v → ∃ l us i, v = .ref l ∧ H l = some (.lst us) ∧ (∀ u ∈ us, Kx T H u i) ∧ is[j]? = some i
  | _, _, _, _, .nil, e => by simp at e
  | _, _, 0, v, .cons (l := l) (us := us) (i := i) h k t, e => ⟨l, us, i, (Option.some.inj e).symm, h, k, rfl⟩
  | _, _, j + 1, v, .cons h k t, e => Rws.get (j := j) t e
def tRow (C : Addr) (x : Nat) : TE := tLst (tCons (fun _ H Q => ∀ a, H a = none → Q (.ref a) (upd H a (ExO (.ref C) a))) (tCons (fun σ H Q => tVar x σ H fun _ H1 => ∀ a, H1 a = none → Q (.ref a) (upd H1 a (ExO (.ref C) a))) tNil))
theorem row_read (T : Tx K mg) {C : Addr} {i x : Nat} {σ : L2.St} {z : V} (hC : (T.C_ShelfError :: T.Cs)[i]? = some C) (hx : σ[x]? = some (some z)) {H : Hp} {Q : VK} (q : ∀ H' l us, Same H H' → H' l = some (.lst us) → (∀ u ∈ us, Kx T H' u i) → Q (.ref l) H') : tRow C x σ H Q := by
  intro a na
  refine ⟨z, hx, fun b nb => ⟨small_le (by simp), fun l nl => ?_⟩⟩
  obtain ⟨ea, sa⟩ := upd_at (o := ExO (.ref C) a) na
  obtain ⟨eb, sb⟩ := upd_at (o := ExO (.ref C) b) nb
  obtain ⟨el, sl⟩ := upd_at (o := .lst [.ref a, .ref b]) nl
  refine q _ l _ (sa.trans (sb.trans sl)) el fun u hu => ?_
  rcases List.mem_cons.mp hu with rfl | hu
  · exact ⟨a, C, rfl, hC, isEx_O ((sb.trans sl) _ _ ea)⟩
  · rw [List.mem_singleton.mp hu]
    exact ⟨b, C, rfl, hC, isEx_O (sl _ _ eb)⟩
def tRows (x : Nat) : List Addr → TA
  | [] => tNil
  | C :: r => tCons (tRow C x) (tRows x r)
theorem rows_read (T : Tx K mg) {x : Nat} {σ : L2.St} {z : V} (hx : σ[x]? = some (some z)) : ∀ (cs : List Addr) (is : List Nat), (∀ (j : Nat) (C : Addr), cs[j]? = some C → ∃ (i : Nat), is[j]? = some i ∧ (T.C_ShelfError :: T.Cs)[i]? = some C) → cs.length = is.length → ∀ {H : Hp} {Q : List V → Hp → Prop}, (∀ H' vs, Same H H' → Rws T H' vs is → Q vs H') → tRows x cs σ H Q
  | [], [], _, _, H, Q, q => q H [] (Same.refl _) .nil
  | [], _ :: _, _, hl, _, _, _ => by simp at hl
  | _ :: _, [], _, hl, _, _, _ => by simp at hl
  | C :: r, i :: is, h, hl, H, Q, q => by
    obtain ⟨i', e1, e2⟩ := h 0 C rfl
    cases e1
    show tRow C x σ H (fun v H1 => tRows x r σ H1 (fun vs H2 => Q (v :: vs) H2))
    refine row_read T e2 hx fun H1 l us s1 h1 k1 => ?_
    exact rows_read T hx r is (fun j C e => h (j + 1) C e) (by simpa using hl) fun H2 vs s2 h2 => q H2 (.ref l :: vs) (s1.trans s2) (.cons (s2 _ _ h1) (fun u hu => (k1 u hu).same s2) h2)
theorem rows_lst (T : Tx K mg) {x : Nat} {σ : L2.St} (z : V) (cs : List Addr) (is : List Nat) (hx : σ[x]? = some (some z)) (hl2 : cs.length ≤ 1000000) (h : ∀ (j : Nat) (C : Addr), cs[j]? = some C → ∃ (i : Nat), is[j]? = some i ∧ (T.C_ShelfError :: T.Cs)[i]? = some C) (hl : cs.length = is.length) {H : Hp} {Q : VK}
    (q : ∀ H' vs, Same H H' → Rws T H' vs is → ∀ p, H' p = none → Q (.ref p) (upd H' p (.lst vs))) : tLst (tRows x cs) σ H Q :=
  rows_read T hx cs is h hl fun H' vs s h => ⟨small_le (by rw [h.len, ← hl]; exact hl2), q H' vs s h⟩
theorem three {T : Tx K mg} {a b c : Addr} {i : Nat} (h1 : (T.C_ShelfError :: T.Cs)[i]? = some a) (h2 : (T.C_ShelfError :: T.Cs)[i + 1]? = some b) (h3 : (T.C_ShelfError :: T.Cs)[i + 2]? = some c) : ∀ (j : Nat) (C : Addr), [a, b, c][j]? = some C → ∃ (k : Nat), [i, i + 1, i + 2][j]? = some k ∧ (T.C_ShelfError :: T.Cs)[k]? = some C := fun j C e => by
  rcases j with _ | _ | _ | j
  · exact ⟨_, rfl, h1.trans e⟩
  · exact ⟨_, rfl, h2.trans e⟩
  · exact ⟨_, rfl, h3.trans e⟩
  · simp at e
def spLaw (K : PySem.W.Frag) : Sp := fun vs H Q _ => ∃ (a : Addr) (ns : List Int), vs = [.ref a] ∧ SqL K H a (ns.map V.int) ∧ ns.length ≤ 63 ∧ Only H ∧ ∀ H', Q (.bl true) H'
theorem ok_law (T : Tx K mg) {f : Addr} {fd : FuncData} (F : Fun K "law" "law" s_law f fd) : FnOk P w K mg base CX0 (7) f fd ["_law_script"] (spLaw K) := by
  have G_l_right : FnOk P w K mg base CX0 _ _ _ _ _ := ok_right T
  have G_l_caught : FnOk P w K mg base CX0 _ _ _ _ _ := ok_caught T
  refine F.ok sc_law (fun vs H Q E h => ?_) (fun cdv A outer s H vs Q E hr h => ?_)
  · obtain ⟨a, ns, rfl, _⟩ := h
    rfl
  · obtain ⟨a, ns, rfl, hS, hlen, hO, q⟩ := h
    refine ⟨_, (pss_cons (ps_set (i := 1) sc_law.nd rfl (Or.inl rfl) (pe_op op_add_str (pe_op op_add_str (pe_callTy call_str_int (by rfl) T.m_str (by decide +kernel) (pa_cons (pe_callB call_len_seq (by rfl) T.m_len PySem.boot_len (pa_cons (pv 0) pa_nil)) pa_nil)) pe_str) (pe_callTy call_str_int (by rfl) T.m_str (by decide +kernel) (pa_cons (pe_op op_mod (pe_callB (cr_sum rfl) (by rfl) T.m_sum (by decide +kernel) (pa_cons (pe_slice sl_list (pv 0) po_none (po_some pe_int)) pa_nil)) (pe_op op_pow pe_int pe_int)) pa_nil))))
      (pss_cons (ps_set (i := 2) sc_law.nd rfl (Or.inl rfl) (pe_lst (pa_cons (pe_lst (pa_cons (pe_exc0 PySem.F.excBase_ValueError T.x_NoSpan T.g_NoSpan T.k_NoSpan (by rfl)) (pa_cons (pe_exc1 PySem.F.excBase_ValueError T.x_NoSpan T.g_NoSpan T.k_NoSpan (by rfl) (pv 1)) pa_nil))) (pa_cons (pe_lst (pa_cons (pe_exc0 PySem.F.excBase_ValueError T.x_NoPlace T.g_NoPlace T.k_NoPlace (by rfl)) (pa_cons (pe_exc1 PySem.F.excBase_ValueError T.x_NoPlace T.g_NoPlace T.k_NoPlace (by rfl) (pv 1)) pa_nil))) (pa_cons (pe_lst (pa_cons (pe_exc0 PySem.F.excBase_ValueError T.x_NoCover T.g_NoCover T.k_NoCover (by rfl)) (pa_cons (pe_exc1 PySem.F.excBase_ValueError T.x_NoCover T.g_NoCover T.k_NoCover (by rfl) (pv 1)) pa_nil))) pa_nil)))))
      (pss_cons (ps_set (i := 2) sc_law.nd rfl (Or.inl rfl) (pe_op op_cat (pv 2) (pe_lst (pa_cons (pe_lst (pa_cons (pe_exc0 PySem.F.excBase_ValueError T.x_NoWeight T.g_NoWeight T.k_NoWeight (by rfl)) (pa_cons (pe_exc1 PySem.F.excBase_ValueError T.x_NoWeight T.g_NoWeight T.k_NoWeight (by rfl) (pv 1)) pa_nil))) (pa_cons (pe_lst (pa_cons (pe_exc0 PySem.F.excBase_ValueError T.x_NoCount T.g_NoCount T.k_NoCount (by rfl)) (pa_cons (pe_exc1 PySem.F.excBase_ValueError T.x_NoCount T.g_NoCount T.k_NoCount (by rfl) (pv 1)) pa_nil))) (pa_cons (pe_lst (pa_cons (pe_exc0 PySem.F.excBase_ValueError T.x_NoName T.g_NoName T.k_NoName (by rfl)) (pa_cons (pe_exc1 PySem.F.excBase_ValueError T.x_NoName T.g_NoName T.k_NoName (by rfl) (pv 1)) pa_nil))) pa_nil))))))
      (pss_cons (ps_set (i := 2) sc_law.nd rfl (Or.inl rfl) (pe_op op_cat (pv 2) (pe_lst (pa_cons (pe_lst (pa_cons (pe_exc0 PySem.F.excBase_ValueError T.x_Twice T.g_Twice T.k_Twice (by rfl)) (pa_cons (pe_exc1 PySem.F.excBase_ValueError T.x_Twice T.g_Twice T.k_Twice (by rfl) (pv 1)) pa_nil))) (pa_cons (pe_lst (pa_cons (pe_exc0 PySem.F.excBase_ValueError T.x_Full T.g_Full T.k_Full (by rfl)) (pa_cons (pe_exc1 PySem.F.excBase_ValueError T.x_Full T.g_Full T.k_Full (by rfl) (pv 1)) pa_nil))) (pa_cons (pe_lst (pa_cons (pe_exc0 PySem.F.excBase_ValueError T.x_Bare T.g_Bare T.k_Bare (by rfl)) (pa_cons (pe_exc1 PySem.F.excBase_ValueError T.x_Bare T.g_Bare T.k_Bare (by rfl) (pv 1)) pa_nil))) pa_nil))))))
      (pss_cons (ps_set (i := 2) sc_law.nd rfl (Or.inl rfl) (pe_op op_cat (pv 2) (pe_lst (pa_cons (pe_lst (pa_cons (pe_exc0 PySem.F.excBase_ValueError T.x_NoDeed T.g_NoDeed T.k_NoDeed (by rfl)) (pa_cons (pe_exc1 PySem.F.excBase_ValueError T.x_NoDeed T.g_NoDeed T.k_NoDeed (by rfl) (pv 1)) pa_nil))) (pa_cons (pe_lst (pa_cons (pe_exc0 PySem.F.excBase_ValueError T.x_NoText T.g_NoText T.k_NoText (by rfl)) (pa_cons (pe_exc1 PySem.F.excBase_ValueError T.x_NoText T.g_NoText T.k_NoText (by rfl) (pv 1)) pa_nil))) (pa_cons (pe_lst (pa_cons (pe_exc0 PySem.F.excBase_ValueError T.x_NoLine T.g_NoLine T.k_NoLine (by rfl)) (pa_cons (pe_exc1 PySem.F.excBase_ValueError T.x_NoLine T.g_NoLine T.k_NoLine (by rfl) (pv 1)) pa_nil))) pa_nil))))))
      (pss_cons (ps_for PassesOwn.never (by rfl) (pi_enum (by rfl) T.m_enumerate (pa_cons (pv 2) pa_nil)) (pg_tup rfl (pgs_cons (pg_name (i := 3) sc_law.nd rfl (Or.inl rfl)) (pgs_cons (pg_name (i := 4) sc_law.nd rfl (Or.inl rfl)) pgs_nil)))
        (pss_one (ps_if (pt_not (pt_val (pe_call G_l_right (hr.mono (by decide)) (by rfl) T.g_l_right T.F_l_right.kp T.b_l_right .nil pass0 (pa_cons (pv 4) (pa_cons (pv 3) pa_nil))))) (pss_one (ps_ret pe_bl)) pss_nil)))
      (pss_one (ps_ret (pe_and (pe_call G_l_right (hr.mono (by decide)) (by rfl) T.g_l_right T.F_l_right.kp T.b_l_right .nil pass0 (pa_cons (pe_lst (pa_cons (pe_exc0 PySem.F.excBase_ValueError T.x_ShelfError T.g_ShelfError T.k_ShelfError (by rfl)) (pa_cons (pe_exc1 PySem.F.excBase_ValueError T.x_ShelfError T.g_ShelfError T.k_ShelfError (by rfl) (pv 1)) pa_nil))) (pa_cons pe_int pa_nil))) (pe_one (pe_call G_l_right (hr.mono (by decide)) (by rfl) T.g_l_right T.F_l_right.kp T.b_l_right .nil pass0 (pa_cons (pe_call G_l_caught (hr.mono (by decide)) (by rfl) T.g_l_caught T.F_l_caught.kp T.b_l_caught .nil pass0 (pa_cons (pe_callB call_len_seq (by rfl) T.m_len PySem.boot_len (pa_cons (pv 0) pa_nil)) pa_nil)) (pa_cons pe_int pa_nil))))))))))))), ?_⟩
    have e9 : (10 : Int) ^ (9 : Int).toNat = 1000000000 := by decide
    have lg : ∀ z : Int, 0 ≤ z → z < 1000000000 → z.natAbs.log2 < 1920 := fun z h0 h1 => by
      have h2 : z.natAbs < 2 ^ 30 := by
        have h3 : (2 : Nat) ^ 30 = 1073741824 := by decide
        omega
      exact PySem.Flt.log2_lt_of (by decide) (Nat.lt_of_lt_of_le h2 (Nat.pow_le_pow_right (by decide) (by decide)))
    have ll : (ns.map V.int).length ≤ 63 := by
      rw [List.length_map]
      exact hlen
    refine ⟨_, rfl, a, _, rfl, .inl hS, _, rfl, lg _ (by omega) (by omega), _, _, rfl, rfl, ?_, ?_⟩
    · have h1 := toString_length_le (v := ((ns.map V.int).length : Int)) (by omega) (k := 9) (by decide) (by rw [show (10 : Int) ^ 9 = 1000000000 by decide]; omega)
      have h2 : (Str.ofString " of ").length = 4 := by decide
      refine small_le ?_
      omega
    have hcut : ∃ ms : List Int, cutV (ns.map V.int) none (some 63) = ms.map V.int := by
      unfold cutV
      exact ⟨_, by rw [← List.map_drop, ← List.map_take]⟩
    obtain ⟨ms, hms⟩ := hcut
    refine ⟨_, rfl, _, rfl, a, _, rfl, hS, fun c nc => ?_⟩
    rw [hms]
    obtain ⟨gc, sc⟩ := upd_at (o := .lst (ms.map V.int)) nc
    refine ⟨c, ms, rfl, SqL.of gc, _, _, rfl, rfl, ⟨by decide, by decide, by decide⟩, _, _, rfl, rfl, (by show (0 : Int) < (10 : Int) ^ (9 : Int).toNat; rw [e9]; decide), _, rfl, ?_, ?_⟩
    · rw [e9]
      exact lg _ (Int.emod_nonneg _ (by decide)) (Int.emod_lt_of_pos _ (by decide))
    rw [e9]
    refine ⟨_, _, rfl, rfl, ?_, ?_⟩
    · have h1 := toString_length_le (v := ((ns.map V.int).length : Int)) (by omega) (k := 9) (by decide) (by rw [show (10 : Int) ^ 9 = 1000000000 by decide]; omega)
      have h2 : (Str.ofString " of ").length = 4 := by decide
      have h3 := toString_length_le (v := ms.sum % 1000000000) (Int.emod_nonneg _ (by decide)) (k := 9) (by decide) (Int.emod_lt_of_pos _ (by decide))
      refine small_le ?_
      rw [PySem.Str.length_append]
      omega
    generalize (Str.ofString (toString ((ns.map V.int).length : Int)) ++ Str.ofString " of " ++ Str.ofString (toString (ms.sum % 1000000000))) = tx
    simp only [gName, tSeq, tAsg]
    refine rows_lst T (.str tx) [T.C_NoSpan, T.C_NoPlace, T.C_NoCover] [1, 2, 3] rfl (by simp) (three rfl rfl rfl) rfl fun H1 v1 s1 r1 l1 n1 => ?_
    obtain ⟨g1, t1⟩ := upd_at (o := .lst v1) n1
    refine ⟨_, rfl, ?_⟩
    refine rows_lst T (.str tx) [T.C_NoWeight, T.C_NoCount, T.C_NoName] [4, 5, 6] rfl (by simp) (three rfl rfl rfl) rfl fun H2 v2 s2 r2 l2 n2 => ?_
    obtain ⟨g2, t2⟩ := upd_at (o := .lst v2) n2
    refine ⟨l1, l2, _, _, rfl, rfl, t2 _ _ (s2 _ _ g1), g2, small_le (by rw [r1.len, r2.len]; simp), fun l3 n3 => ?_⟩
    obtain ⟨g3, t3⟩ := upd_at (o := .lst (v1 ++ v2)) n3
    have r3 := (r1.same (t1.trans (s2.trans (t2.trans t3)))).app (r2.same (t2.trans t3))
    try simp only [gName, tSeq, tAsg]
    refine ⟨_, rfl, ?_⟩
    refine rows_lst T (.str tx) [T.C_Twice, T.C_Full, T.C_Bare] [7, 8, 9] rfl (by simp) (three rfl rfl rfl) rfl fun H4 v4 s4 r4 l4 n4 => ?_
    obtain ⟨g4, t4⟩ := upd_at (o := .lst v4) n4
    refine ⟨l3, l4, _, _, rfl, rfl, t4 _ _ (s4 _ _ g3), g4, small_le (by rw [r3.len, r4.len]; simp), fun l5 n5 => ?_⟩
    obtain ⟨g5, t5⟩ := upd_at (o := .lst (v1 ++ v2 ++ v4)) n5
    have r5 := (r3.same (s4.trans (t4.trans t5))).app (r4.same (t4.trans t5))
    try simp only [gName, tSeq, tAsg]
    refine ⟨_, rfl, ?_⟩
    refine rows_lst T (.str tx) [T.C_NoDeed, T.C_NoText, T.C_NoLine] [10, 11, 12] rfl (by simp) (three rfl rfl rfl) rfl fun H6 v6 s6 r6 l6 n6 => ?_
    obtain ⟨g6, t6⟩ := upd_at (o := .lst v6) n6
    refine ⟨l5, l6, _, _, rfl, rfl, t6 _ _ (s6 _ _ g5), g6, small_le (by rw [r5.len, r6.len]; simp), fun l7 n7 => ?_⟩
    obtain ⟨g7, t7⟩ := upd_at (o := .lst (v1 ++ v2 ++ v4 ++ v6)) n7
    have r7 := (r5.same (s6.trans (t6.trans t7))).app (r6.same (t6.trans t7))
    have r7 : Rws T _ (v1 ++ v2 ++ v4 ++ v6) [1, 2, 3, 4, 5, 6, 7, 8, 9, 10, 11, 12] := r7
    have hS7 := ((sc.trans s1).trans (t1.trans (s2.trans (t2.trans (t3.trans (s4.trans (t4.trans (t5.trans (s6.trans (t6.trans t7)))))))))).seq hS
    try simp only [gName, tSeq, tAsg]
    revert r7 g7 hS7
    generalize upd _ l7 _ = H7
    intro g7 r7 hS7
    have hl12 := r7.len
    revert r7 g7 hl12
    generalize v1 ++ v2 ++ v4 ++ v6 = rows
    intro g7 r7 hl12
    have hl12 : rows.length = 12 := hl12
    refine ⟨_, rfl, l7, _, rfl, SqL.of g7, ?_⟩
    refine ⟨fun i m σ H' => ∃ y3 y4, σ = [some (.ref a), some (.str tx), some (.ref l7), y3, y4] ∧ i + m = 12 ∧ Same H7 H', ⟨12, none, none, rfl, rfl, Same.refl _⟩, fun i m σ H' hW => ?_⟩
    obtain ⟨y3, y4, rfl, em, sm⟩ := hW
    have hL : SqL K H' l7 rows := SqL.of (sm _ _ g7)
    by_cases hi : i < 12
    · have hi2 : i < rows.length := by omega
      obtain ⟨l, us, k, ev, hl, hk, hik⟩ := r7.get (List.getElem?_eq_getElem hi2)
      refine .inr ⟨⟨_, _, hL, List.getElem?_eq_getElem hi2⟩, fun σ' H'' => ∃ y3 y4, σ' = [some (.ref a), some (.str tx), some (.ref l7), y3, y4] ∧ Same H7 H'', fun σ' H'' hN => ?_, fun x H'' hy => ?_⟩
      · obtain ⟨z3, z4, e1, e2⟩ := hN
        exact ⟨m - 1, by omega, z3, z4, e1, by omega, e2⟩
      · obtain ⟨t, x1, rfl, nt, rfl, f1⟩ := hy
        have ex1 : x1 = .ref l := by
          have h1 := f1 _ hL
          rw [List.getElem?_eq_getElem hi2] at h1
          rw [← Option.some.inj h1]
          exact ev
        subst ex1
        obtain ⟨gt, st⟩ := upd_at (o := .tup [.int (i : Nat), .ref l]) nt
        refine ⟨t, _, rfl, SqT.of gt, rfl, _, _, rfl, _, _, rfl, rfl, ?_⟩
        have s8 := sm.trans st
        have ki : k = i + 1 := by
          have h1 : ([1, 2, 3, 4, 5, 6, 7, 8, 9, 10, 11, 12] : List Nat)[i]? = some (i + 1) := by
            have key : ∀ i : Nat, i < 12 → ([1, 2, 3, 4, 5, 6, 7, 8, 9, 10, 11, 12] : List Nat)[i]? = some (i + 1) := by decide
            exact key i hi
          rw [hik] at h1
          exact Option.some.inj h1
        refine ⟨_, rfl, _, rfl, l, us, (i : Nat), k, rfl, s8 _ _ hl, fun u hu => (hk u hu).same s8, by omega, .inr (by omega), fun H9 s9 => ?_⟩
        exact ⟨true, rfl, iteF ⟨_, _, rfl, s8.trans s9⟩⟩
    · refine .inl ⟨⟨_, hL, by omega⟩, ?_⟩
      intro b nb
      refine ⟨_, rfl, fun c nc => ⟨small_le (by simp), fun l nl => ?_⟩⟩
      obtain ⟨eb, sb⟩ := upd_at (o := ExO (.ref T.C_ShelfError) b) nb
      obtain ⟨ec, sc'⟩ := upd_at (o := ExO (.ref T.C_ShelfError) c) nc
      obtain ⟨el, sl⟩ := upd_at (o := .lst [.ref b, .ref c]) nl
      have s8 := sb.trans (sc'.trans sl)
      have hk : ∀ u ∈ ([.ref b, .ref c] : List V), Kx T _ u 0 := fun u hu => by
        rcases List.mem_cons.mp hu with rfl | hu
        · exact ⟨b, _, rfl, rfl, isEx_O ((sc'.trans sl) _ _ eb)⟩
        · rw [List.mem_singleton.mp hu]
          exact ⟨c, _, rfl, rfl, isEx_O (sl _ _ ec)⟩
      refine ⟨l, _, 12, 0, rfl, el, hk, by decide, .inl ⟨rfl, rfl⟩, fun H9 s9 => ⟨true, rfl, iteT ?_⟩⟩
      have hS9 := (sm.trans (s8.trans s9)).seq hS7
      refine ⟨_, rfl, a, _, rfl, .inl hS9, _, rfl, fun H10 p u s10 hp hu => ?_⟩
      refine ⟨p, [u], 0, 1, rfl, hp, fun v hv => ?_, by decide, .inr rfl, fun H11 s11 => q _⟩
      rw [List.mem_singleton.mp hv]
      exact hu
end
theorem all_mk {l : PySem.W.OpenLaw} {w : World} {K : PySem.W.Frag} {h : Heap} {mg : Str → Option Value} {fa : Addr} (X : K.In h) (G : h.Ns mainGlobals mg) (hfa : mg "law" = some (.ref fa))
    {f_is_whole : Addr} {od_is_whole an_is_whole : Option Addr} {sl_is_whole : Array (Option Value)} {oc_is_whole kV_is_whole dc_is_whole pm_is_whole cd_is_whole ct_is_whole : Value}
    {f_is_place : Addr} {od_is_place an_is_place : Option Addr} {sl_is_place : Array (Option Value)} {oc_is_place kV_is_place dc_is_place pm_is_place cd_is_place ct_is_place : Value}
    {f_is_span : Addr} {od_is_span an_is_span : Option Addr} {sl_is_span : Array (Option Value)} {oc_is_span kV_is_span dc_is_span pm_is_span cd_is_span ct_is_span : Value}
    {f_check_span : Addr} {od_check_span an_check_span : Option Addr} {sl_check_span : Array (Option Value)} {oc_check_span kV_check_span dc_check_span pm_check_span cd_check_span ct_check_span : Value}
    {f_length_of : Addr} {od_length_of an_length_of : Option Addr} {sl_length_of : Array (Option Value)} {oc_length_of kV_length_of dc_length_of pm_length_of cd_length_of ct_length_of : Value}
    {f_l_sorts : Addr} {od_l_sorts an_l_sorts : Option Addr} {sl_l_sorts : Array (Option Value)} {oc_l_sorts kV_l_sorts dc_l_sorts pm_l_sorts cd_l_sorts ct_l_sorts : Value}
    {f_l_right : Addr} {od_l_right an_l_right : Option Addr} {sl_l_right : Array (Option Value)} {oc_l_right kV_l_right dc_l_right pm_l_right cd_l_right ct_l_right : Value}
    {f_l_caught : Addr} {od_l_caught an_l_caught : Option Addr} {sl_l_caught : Array (Option Value)} {oc_l_caught kV_l_caught dc_l_caught pm_l_caught cd_l_caught ct_l_caught : Value}
    {f_law : Addr} {od_law an_law : Option Addr} {sl_law : Array (Option Value)} {oc_law kV_law dc_law pm_law cd_law ct_law : Value}
    {tc_LEAST_PLACE : Tok}
    {tc_GREATEST_PLACE : Tok}
    {C_ShelfError : Addr}
    {C_NoSpan : Addr}
    {C_NoPlace : Addr}
    {C_NoCover : Addr}
    {C_NoWeight : Addr}
    {C_NoCount : Addr}
    {C_NoName : Addr}
    {C_Twice : Addr}
    {C_Full : Addr}
    {C_Bare : Addr}
    {C_NoDeed : Addr}
    {C_NoText : Addr}
    {C_NoLine : Addr}
    (a_is_whole : PySem.W.nsIn K mainGlobals "is_whole" = some (some (.ref f_is_whole)))
    (l_is_whole : K.lookup f_is_whole = some ⟨oc_is_whole, od_is_whole, .func (PySem.W.fnOf "is_whole" "is_whole" (defArgs s_is_whole) (defBody s_is_whole) (defScope s_is_whole) .none kV_is_whole dc_is_whole pm_is_whole an_is_whole cd_is_whole ct_is_whole), sl_is_whole⟩)
    (c_is_whole : PySem.W.codeIn K cd_is_whole "is_whole" = true)
    (k_is_whole : PySem.W.keepIn K (.ref f_is_whole) = true)
    (a_is_place : PySem.W.nsIn K mainGlobals "is_place" = some (some (.ref f_is_place)))
    (l_is_place : K.lookup f_is_place = some ⟨oc_is_place, od_is_place, .func (PySem.W.fnOf "is_place" "is_place" (defArgs s_is_place) (defBody s_is_place) (defScope s_is_place) .none kV_is_place dc_is_place pm_is_place an_is_place cd_is_place ct_is_place), sl_is_place⟩)
    (c_is_place : PySem.W.codeIn K cd_is_place "is_place" = true)
    (k_is_place : PySem.W.keepIn K (.ref f_is_place) = true)
    (a_is_span : PySem.W.nsIn K mainGlobals "is_span" = some (some (.ref f_is_span)))
    (l_is_span : K.lookup f_is_span = some ⟨oc_is_span, od_is_span, .func (PySem.W.fnOf "is_span" "is_span" (defArgs s_is_span) (defBody s_is_span) (defScope s_is_span) .none kV_is_span dc_is_span pm_is_span an_is_span cd_is_span ct_is_span), sl_is_span⟩)
    (c_is_span : PySem.W.codeIn K cd_is_span "is_span" = true)
    (k_is_span : PySem.W.keepIn K (.ref f_is_span) = true)
    (a_check_span : PySem.W.nsIn K mainGlobals "check_span" = some (some (.ref f_check_span)))
    (l_check_span : K.lookup f_check_span = some ⟨oc_check_span, od_check_span, .func (PySem.W.fnOf "check_span" "check_span" (defArgs s_check_span) (defBody s_check_span) (defScope s_check_span) .none kV_check_span dc_check_span pm_check_span an_check_span cd_check_span ct_check_span), sl_check_span⟩)
    (c_check_span : PySem.W.codeIn K cd_check_span "check_span" = true)
    (k_check_span : PySem.W.keepIn K (.ref f_check_span) = true)
    (a_length_of : PySem.W.nsIn K mainGlobals "length_of" = some (some (.ref f_length_of)))
    (l_length_of : K.lookup f_length_of = some ⟨oc_length_of, od_length_of, .func (PySem.W.fnOf "length_of" "length_of" (defArgs s_length_of) (defBody s_length_of) (defScope s_length_of) .none kV_length_of dc_length_of pm_length_of an_length_of cd_length_of ct_length_of), sl_length_of⟩)
    (c_length_of : PySem.W.codeIn K cd_length_of "length_of" = true)
    (k_length_of : PySem.W.keepIn K (.ref f_length_of) = true)
    (a_l_sorts : PySem.W.nsIn K mainGlobals "_law_sorts" = some (some (.ref f_l_sorts)))
    (l_l_sorts : K.lookup f_l_sorts = some ⟨oc_l_sorts, od_l_sorts, .func (PySem.W.fnOf "_law_sorts" "_law_sorts" (defArgs s_l_sorts) (defBody s_l_sorts) (defScope s_l_sorts) .none kV_l_sorts dc_l_sorts pm_l_sorts an_l_sorts cd_l_sorts ct_l_sorts), sl_l_sorts⟩)
    (c_l_sorts : PySem.W.codeIn K cd_l_sorts "_law_sorts" = true)
    (k_l_sorts : PySem.W.keepIn K (.ref f_l_sorts) = true)
    (a_l_right : PySem.W.nsIn K mainGlobals "_law_right" = some (some (.ref f_l_right)))
    (l_l_right : K.lookup f_l_right = some ⟨oc_l_right, od_l_right, .func (PySem.W.fnOf "_law_right" "_law_right" (defArgs s_l_right) (defBody s_l_right) (defScope s_l_right) .none kV_l_right dc_l_right pm_l_right an_l_right cd_l_right ct_l_right), sl_l_right⟩)
    (c_l_right : PySem.W.codeIn K cd_l_right "_law_right" = true)
    (k_l_right : PySem.W.keepIn K (.ref f_l_right) = true)
    (a_l_caught : PySem.W.nsIn K mainGlobals "_law_caught" = some (some (.ref f_l_caught)))
    (l_l_caught : K.lookup f_l_caught = some ⟨oc_l_caught, od_l_caught, .func (PySem.W.fnOf "_law_caught" "_law_caught" (defArgs s_l_caught) (defBody s_l_caught) (defScope s_l_caught) .none kV_l_caught dc_l_caught pm_l_caught an_l_caught cd_l_caught ct_l_caught), sl_l_caught⟩)
    (c_l_caught : PySem.W.codeIn K cd_l_caught "_law_caught" = true)
    (k_l_caught : PySem.W.keepIn K (.ref f_l_caught) = true)
    (a_law : PySem.W.nsIn K mainGlobals "law" = some (some (.ref f_law)))
    (l_law : K.lookup f_law = some ⟨oc_law, od_law, .func (PySem.W.fnOf "law" "law" (defArgs s_law) (defBody s_law) (defScope s_law) .none kV_law dc_law pm_law an_law cd_law ct_law), sl_law⟩)
    (c_law : PySem.W.codeIn K cd_law "law" = true)
    (k_law : PySem.W.keepIn K (.ref f_law) = true)
    (n_LEAST_PLACE : PySem.W.nsIn K mainGlobals "LEAST_PLACE" = some (some (.int (-999999999999) tc_LEAST_PLACE)))
    (n_GREATEST_PLACE : PySem.W.nsIn K mainGlobals "GREATEST_PLACE" = some (some (.int (999999999999) tc_GREATEST_PLACE)))
    (a_ShelfError : PySem.W.nsIn K mainGlobals "ShelfError" = some (some (.ref C_ShelfError)))
    (x_ShelfError : PySem.W.excIn K C_ShelfError [.type "ValueError", .type "Exception", .type "BaseException", .type "object"] "ValueError.__new__" = true)
    (k_ShelfError : PySem.W.keepIn K (.ref C_ShelfError) = true)
    (b_ShelfError : PySem.W.subIn K (.ref C_ShelfError) (.type "BaseException") = some true)
    (t_ShelfError : PySem.W.typeIn K (.ref C_ShelfError) = some (.type "type"))
    (a_NoSpan : PySem.W.nsIn K mainGlobals "NoSpan" = some (some (.ref C_NoSpan)))
    (x_NoSpan : PySem.W.excIn K C_NoSpan [.type "ValueError", .type "Exception", .type "BaseException", .type "object"] "ValueError.__new__" = true)
    (k_NoSpan : PySem.W.keepIn K (.ref C_NoSpan) = true)
    (b_NoSpan : PySem.W.subIn K (.ref C_NoSpan) (.type "BaseException") = some true)
    (t_NoSpan : PySem.W.typeIn K (.ref C_NoSpan) = some (.type "type"))
    (a_NoPlace : PySem.W.nsIn K mainGlobals "NoPlace" = some (some (.ref C_NoPlace)))
    (x_NoPlace : PySem.W.excIn K C_NoPlace [.type "ValueError", .type "Exception", .type "BaseException", .type "object"] "ValueError.__new__" = true)
    (k_NoPlace : PySem.W.keepIn K (.ref C_NoPlace) = true)
    (b_NoPlace : PySem.W.subIn K (.ref C_NoPlace) (.type "BaseException") = some true)
    (t_NoPlace : PySem.W.typeIn K (.ref C_NoPlace) = some (.type "type"))
    (a_NoCover : PySem.W.nsIn K mainGlobals "NoCover" = some (some (.ref C_NoCover)))
    (x_NoCover : PySem.W.excIn K C_NoCover [.type "ValueError", .type "Exception", .type "BaseException", .type "object"] "ValueError.__new__" = true)
    (k_NoCover : PySem.W.keepIn K (.ref C_NoCover) = true)
    (b_NoCover : PySem.W.subIn K (.ref C_NoCover) (.type "BaseException") = some true)
    (t_NoCover : PySem.W.typeIn K (.ref C_NoCover) = some (.type "type"))
    (a_NoWeight : PySem.W.nsIn K mainGlobals "NoWeight" = some (some (.ref C_NoWeight)))
    (x_NoWeight : PySem.W.excIn K C_NoWeight [.type "ValueError", .type "Exception", .type "BaseException", .type "object"] "ValueError.__new__" = true)
    (k_NoWeight : PySem.W.keepIn K (.ref C_NoWeight) = true)
    (b_NoWeight : PySem.W.subIn K (.ref C_NoWeight) (.type "BaseException") = some true)
    (t_NoWeight : PySem.W.typeIn K (.ref C_NoWeight) = some (.type "type"))
    (a_NoCount : PySem.W.nsIn K mainGlobals "NoCount" = some (some (.ref C_NoCount)))
    (x_NoCount : PySem.W.excIn K C_NoCount [.type "ValueError", .type "Exception", .type "BaseException", .type "object"] "ValueError.__new__" = true)
    (k_NoCount : PySem.W.keepIn K (.ref C_NoCount) = true)
    (b_NoCount : PySem.W.subIn K (.ref C_NoCount) (.type "BaseException") = some true)
    (t_NoCount : PySem.W.typeIn K (.ref C_NoCount) = some (.type "type"))
    (a_NoName : PySem.W.nsIn K mainGlobals "NoName" = some (some (.ref C_NoName)))
    (x_NoName : PySem.W.excIn K C_NoName [.type "ValueError", .type "Exception", .type "BaseException", .type "object"] "ValueError.__new__" = true)
    (k_NoName : PySem.W.keepIn K (.ref C_NoName) = true)
    (b_NoName : PySem.W.subIn K (.ref C_NoName) (.type "BaseException") = some true)
    (t_NoName : PySem.W.typeIn K (.ref C_NoName) = some (.type "type"))
    (a_Twice : PySem.W.nsIn K mainGlobals "Twice" = some (some (.ref C_Twice)))
    (x_Twice : PySem.W.excIn K C_Twice [.type "ValueError", .type "Exception", .type "BaseException", .type "object"] "ValueError.__new__" = true)
    (k_Twice : PySem.W.keepIn K (.ref C_Twice) = true)
    (b_Twice : PySem.W.subIn K (.ref C_Twice) (.type "BaseException") = some true)
    (t_Twice : PySem.W.typeIn K (.ref C_Twice) = some (.type "type"))
    (a_Full : PySem.W.nsIn K mainGlobals "Full" = some (some (.ref C_Full)))
    (x_Full : PySem.W.excIn K C_Full [.type "ValueError", .type "Exception", .type "BaseException", .type "object"] "ValueError.__new__" = true)
    (k_Full : PySem.W.keepIn K (.ref C_Full) = true)
    (b_Full : PySem.W.subIn K (.ref C_Full) (.type "BaseException") = some true)
    (t_Full : PySem.W.typeIn K (.ref C_Full) = some (.type "type"))
    (a_Bare : PySem.W.nsIn K mainGlobals "Bare" = some (some (.ref C_Bare)))
    (x_Bare : PySem.W.excIn K C_Bare [.type "ValueError", .type "Exception", .type "BaseException", .type "object"] "ValueError.__new__" = true)
    (k_Bare : PySem.W.keepIn K (.ref C_Bare) = true)
    (b_Bare : PySem.W.subIn K (.ref C_Bare) (.type "BaseException") = some true)
    (t_Bare : PySem.W.typeIn K (.ref C_Bare) = some (.type "type"))
    (a_NoDeed : PySem.W.nsIn K mainGlobals "NoDeed" = some (some (.ref C_NoDeed)))
    (x_NoDeed : PySem.W.excIn K C_NoDeed [.type "ValueError", .type "Exception", .type "BaseException", .type "object"] "ValueError.__new__" = true)
    (k_NoDeed : PySem.W.keepIn K (.ref C_NoDeed) = true)
    (b_NoDeed : PySem.W.subIn K (.ref C_NoDeed) (.type "BaseException") = some true)
    (t_NoDeed : PySem.W.typeIn K (.ref C_NoDeed) = some (.type "type"))
    (a_NoText : PySem.W.nsIn K mainGlobals "NoText" = some (some (.ref C_NoText)))
    (x_NoText : PySem.W.excIn K C_NoText [.type "ValueError", .type "Exception", .type "BaseException", .type "object"] "ValueError.__new__" = true)
    (k_NoText : PySem.W.keepIn K (.ref C_NoText) = true)
    (b_NoText : PySem.W.subIn K (.ref C_NoText) (.type "BaseException") = some true)
    (t_NoText : PySem.W.typeIn K (.ref C_NoText) = some (.type "type"))
    (a_NoLine : PySem.W.nsIn K mainGlobals "NoLine" = some (some (.ref C_NoLine)))
    (x_NoLine : PySem.W.excIn K C_NoLine [.type "ValueError", .type "Exception", .type "BaseException", .type "object"] "ValueError.__new__" = true)
    (k_NoLine : PySem.W.keepIn K (.ref C_NoLine) = true)
    (b_NoLine : PySem.W.subIn K (.ref C_NoLine) (.type "BaseException") = some true)
    (t_NoLine : PySem.W.typeIn K (.ref C_NoLine) = some (.type "type"))
    (z_ValueError : PySem.W.nsIn K mainGlobals "ValueError" = some none)
    (z_bool : PySem.W.nsIn K mainGlobals "bool" = some none)
    (z_enumerate : PySem.W.nsIn K mainGlobals "enumerate" = some none)
    (z_int : PySem.W.nsIn K mainGlobals "int" = some none)
    (z_isinstance : PySem.W.nsIn K mainGlobals "isinstance" = some none)
    (z_len : PySem.W.nsIn K mainGlobals "len" = some none)
    (z_range : PySem.W.nsIn K mainGlobals "range" = some none)
    (z_str : PySem.W.nsIn K mainGlobals "str" = some none)
    (z_sum : PySem.W.nsIn K mainGlobals "sum" = some none)
    (z_tuple : PySem.W.nsIn K mainGlobals "tuple" = some none)
    (excs : ([C_ShelfError, C_NoSpan, C_NoPlace, C_NoCover, C_NoWeight, C_NoCount, C_NoName, C_Twice, C_Full, C_Bare, C_NoDeed, C_NoText, C_NoLine].map fun (D : Addr) => (PySem.W.findIn K (.ref D) "__getattribute__", PySem.W.findIn K (.ref D) "__getattr__", PySem.W.subIn K (.ref D) (.type "BaseException"), PySem.W.hasDictIn K D, PySem.W.findIn K (.ref D) "__class__", PySem.W.mroIn K D (.type "object"))) = [C_ShelfError, C_NoSpan, C_NoPlace, C_NoCover, C_NoWeight, C_NoCount, C_NoName, C_Twice, C_Full, C_Bare, C_NoDeed, C_NoText, C_NoLine].map fun (_ : Addr) => (some (some (.builtin "BaseException.__getattribute__")), some none, some true, true, some (some (.builtin "object.__class__")), some true))
    (gets : (PySem.W.specialIn K (.builtin "object.__class__") "__get__", PySem.W.takesIn K (.builtin "object.__class__")) = (some (some (.builtin "getset_descriptor.__get__")), some true))
    (kits : ([C_ShelfError, C_NoSpan, C_NoPlace, C_NoCover, C_NoWeight, C_NoCount, C_NoName, C_Twice, C_Full, C_Bare, C_NoDeed, C_NoText, C_NoLine].map fun (D : Addr) => [C_NoSpan, C_NoPlace, C_NoCover, C_NoWeight, C_NoCount, C_NoName, C_Twice, C_Full, C_Bare, C_NoDeed, C_NoText, C_NoLine].map fun (C : Addr) => PySem.W.kitOne K (.ref D) (.ref C)) = (List.range 13).map fun i => (List.range 12).map fun j => some (i == j + 1))
    (tops : ([C_ShelfError, C_NoSpan, C_NoPlace, C_NoCover, C_NoWeight, C_NoCount, C_NoName, C_Twice, C_Full, C_Bare, C_NoDeed, C_NoText, C_NoLine].map fun (D : Addr) => (PySem.W.kitOne K (.ref D) (.ref C_ShelfError), PySem.W.kitOne K (.ref D) (.type "ValueError"))) = [C_ShelfError, C_NoSpan, C_NoPlace, C_NoCover, C_NoWeight, C_NoCount, C_NoName, C_Twice, C_Full, C_Bare, C_NoDeed, C_NoText, C_NoLine].map fun (_ : Addr) => (some true, some true))
    (nones : ([C_ShelfError, C_NoSpan, C_NoPlace, C_NoCover, C_NoWeight, C_NoCount, C_NoName, C_Twice, C_Full, C_Bare, C_NoDeed, C_NoText, C_NoLine].map fun (C : Addr) => PySem.W.kitOne K (.type "NoneType") (.ref C)) = [C_ShelfError, C_NoSpan, C_NoPlace, C_NoCover, C_NoWeight, C_NoCount, C_NoName, C_Twice, C_Full, C_Bare, C_NoDeed, C_NoText, C_NoLine].map fun (_ : Addr) => some false)
    (exms : ([C_ShelfError, C_NoSpan, C_NoPlace, C_NoCover, C_NoWeight, C_NoCount, C_NoName, C_Twice, C_Full, C_Bare, C_NoDeed, C_NoText, C_NoLine].map fun (D : Addr) => PySem.W.exmOne K (.ref D) (.ref C_ShelfError)) = [C_ShelfError, C_NoSpan, C_NoPlace, C_NoCover, C_NoWeight, C_NoCount, C_NoName, C_Twice, C_Full, C_Bare, C_NoDeed, C_NoText, C_NoLine].map fun (_ : Addr) => some true)
    : ∃ fd : FuncData, (∀ (s : Shared) (v : Value), BindsTo s fd ⟨[v], []⟩ [("_law_script", v)]) ∧ ∀ base : Heap, K.In base → base.Ns mainGlobals mg → FnOk l.prog w K mg base CX0 7 fa fd ["_law_script"] (spLaw K) := by
  have e := hfa.symm.trans (PySem.W.mg_of X G a_law)
  cases e
  have F_is_whole := fun_mk (st := s_is_whole) l_is_whole c_is_whole k_is_whole
  have b_is_whole := F_is_whole.binds (ps := ["number"]) fun _ _ _ _ _ _ us hl => match us, hl with | [_], _ => rfl
  have F_is_place := fun_mk (st := s_is_place) l_is_place c_is_place k_is_place
  have b_is_place := F_is_place.binds (ps := ["number"]) fun _ _ _ _ _ _ us hl => match us, hl with | [_], _ => rfl
  have F_is_span := fun_mk (st := s_is_span) l_is_span c_is_span k_is_span
  have b_is_span := F_is_span.binds (ps := ["span"]) fun _ _ _ _ _ _ us hl => match us, hl with | [_], _ => rfl
  have F_check_span := fun_mk (st := s_check_span) l_check_span c_check_span k_check_span
  have b_check_span := F_check_span.binds (ps := ["span"]) fun _ _ _ _ _ _ us hl => match us, hl with | [_], _ => rfl
  have F_length_of := fun_mk (st := s_length_of) l_length_of c_length_of k_length_of
  have b_length_of := F_length_of.binds (ps := ["span"]) fun _ _ _ _ _ _ us hl => match us, hl with | [_], _ => rfl
  have F_l_sorts := fun_mk (st := s_l_sorts) l_l_sorts c_l_sorts k_l_sorts
  have b_l_sorts := F_l_sorts.binds (ps := ["_law_caught_here"]) fun _ _ _ _ _ _ us hl => match us, hl with | [_], _ => rfl
  have F_l_right := fun_mk (st := s_l_right) l_l_right c_l_right k_l_right
  have b_l_right := F_l_right.binds (ps := ["_law_some", "_law_at"]) fun _ _ _ _ _ _ us hl => match us, hl with | [_, _], _ => rfl
  have F_l_caught := fun_mk (st := s_l_caught) l_l_caught c_l_caught k_l_caught
  have b_l_caught := F_l_caught.binds (ps := ["_law_low"]) fun _ _ _ _ _ _ us hl => match us, hl with | [_], _ => rfl
  have F_law := fun_mk (st := s_law) l_law c_law k_law
  have b_law := F_law.binds (ps := ["_law_script"]) fun _ _ _ _ _ _ us hl => match us, hl with | [_], _ => rfl
  have T : Tx K mg := { f_is_whole := _, fd_is_whole := _, F_is_whole := F_is_whole, b_is_whole := b_is_whole, g_is_whole := PySem.W.mg_of X G a_is_whole, f_is_place := _, fd_is_place := _, F_is_place := F_is_place, b_is_place := b_is_place, g_is_place := PySem.W.mg_of X G a_is_place, f_is_span := _, fd_is_span := _, F_is_span := F_is_span, b_is_span := b_is_span, g_is_span := PySem.W.mg_of X G a_is_span, f_check_span := _, fd_check_span := _, F_check_span := F_check_span, b_check_span := b_check_span, g_check_span := PySem.W.mg_of X G a_check_span, f_length_of := _, fd_length_of := _, F_length_of := F_length_of, b_length_of := b_length_of, g_length_of := PySem.W.mg_of X G a_length_of, f_l_sorts := _, fd_l_sorts := _, F_l_sorts := F_l_sorts, b_l_sorts := b_l_sorts, g_l_sorts := PySem.W.mg_of X G a_l_sorts, f_l_right := _, fd_l_right := _, F_l_right := F_l_right, b_l_right := b_l_right, g_l_right := PySem.W.mg_of X G a_l_right, f_l_caught := _, fd_l_caught := _, F_l_caught := F_l_caught, b_l_caught := b_l_caught, g_l_caught := PySem.W.mg_of X G a_l_caught, f_law := _, fd_law := _, F_law := F_law, b_law := b_law, g_law := PySem.W.mg_of X G a_law, tc_LEAST_PLACE := _, c_LEAST_PLACE := PySem.W.mg_of X G n_LEAST_PLACE, tc_GREATEST_PLACE := _, c_GREATEST_PLACE := PySem.W.mg_of X G n_GREATEST_PLACE, C_ShelfError := _, g_ShelfError := PySem.W.mg_of X G a_ShelfError, x_ShelfError := x_ShelfError, k_ShelfError := k_ShelfError, b_ShelfError := b_ShelfError, t_ShelfError := t_ShelfError, C_NoSpan := _, g_NoSpan := PySem.W.mg_of X G a_NoSpan, x_NoSpan := x_NoSpan, k_NoSpan := k_NoSpan, b_NoSpan := b_NoSpan, t_NoSpan := t_NoSpan, C_NoPlace := _, g_NoPlace := PySem.W.mg_of X G a_NoPlace, x_NoPlace := x_NoPlace, k_NoPlace := k_NoPlace, b_NoPlace := b_NoPlace, t_NoPlace := t_NoPlace, C_NoCover := _, g_NoCover := PySem.W.mg_of X G a_NoCover, x_NoCover := x_NoCover, k_NoCover := k_NoCover, b_NoCover := b_NoCover, t_NoCover := t_NoCover, C_NoWeight := _, g_NoWeight := PySem.W.mg_of X G a_NoWeight, x_NoWeight := x_NoWeight, k_NoWeight := k_NoWeight, b_NoWeight := b_NoWeight, t_NoWeight := t_NoWeight, C_NoCount := _, g_NoCount := PySem.W.mg_of X G a_NoCount, x_NoCount := x_NoCount, k_NoCount := k_NoCount, b_NoCount := b_NoCount, t_NoCount := t_NoCount, C_NoName := _, g_NoName := PySem.W.mg_of X G a_NoName, x_NoName := x_NoName, k_NoName := k_NoName, b_NoName := b_NoName, t_NoName := t_NoName, C_Twice := _, g_Twice := PySem.W.mg_of X G a_Twice, x_Twice := x_Twice, k_Twice := k_Twice, b_Twice := b_Twice, t_Twice := t_Twice, C_Full := _, g_Full := PySem.W.mg_of X G a_Full, x_Full := x_Full, k_Full := k_Full, b_Full := b_Full, t_Full := t_Full, C_Bare := _, g_Bare := PySem.W.mg_of X G a_Bare, x_Bare := x_Bare, k_Bare := k_Bare, b_Bare := b_Bare, t_Bare := t_Bare, C_NoDeed := _, g_NoDeed := PySem.W.mg_of X G a_NoDeed, x_NoDeed := x_NoDeed, k_NoDeed := k_NoDeed, b_NoDeed := b_NoDeed, t_NoDeed := t_NoDeed, C_NoText := _, g_NoText := PySem.W.mg_of X G a_NoText, x_NoText := x_NoText, k_NoText := k_NoText, b_NoText := b_NoText, t_NoText := t_NoText, C_NoLine := _, g_NoLine := PySem.W.mg_of X G a_NoLine, x_NoLine := x_NoLine, k_NoLine := k_NoLine, b_NoLine := b_NoLine, t_NoLine := t_NoLine, m_ValueError := PySem.W.mg_none_of X G z_ValueError, m_bool := PySem.W.mg_none_of X G z_bool, m_enumerate := PySem.W.mg_none_of X G z_enumerate, m_int := PySem.W.mg_none_of X G z_int, m_isinstance := PySem.W.mg_none_of X G z_isinstance, m_len := PySem.W.mg_none_of X G z_len, m_range := PySem.W.mg_none_of X G z_range, m_str := PySem.W.mg_none_of X G z_str, m_sum := PySem.W.mg_none_of X G z_sum, m_tuple := PySem.W.mg_none_of X G z_tuple, excs := excs, gets := gets, kits := kits, tops := tops, nones := nones, exms := exms }
  exact ⟨PySem.W.fnOf "law" "law" (defArgs s_law) (defBody s_law) (defScope s_law) .none kV_law dc_law pm_law an_law cd_law ct_law, fun s v => .of_eq rfl, fun base _ _ => ok_law T F_law⟩
end Sp
open PySem PySem.W PyProof.Rows
set_option maxHeartbeats 0 in
theorem PySem.Challenge.cw_spanshelf_k90_refusals_made_holds : PySem.Challenge.rw_spanshelf_k90_refusals_made.Holds := by
  w_on; o_law; k_head; (case hw => w_witness2)
  k_fill
  refine L2.walk_of (l := PySem.Challenge.rw_spanshelf_k90_refusals_made) (n := 63) (k := 7) (x := "_law_script") (CX := fun _ => L2.CX0) (sp := fun w => Sp.spLaw _) rfl (by decide) rfl ⟨rfl, by decide, by decide⟩ (fun w h Y => PySem.W.kIn_of Y) ?F (fun _ _ a ns hl hO hS => ⟨a, ns, rfl, hS, hl, hO, fun _ => rfl⟩) (fun _ _ _ _ _ h => h)
  case F =>
    intro w mg fa h KX G hmg
    refine' Sp.all_mk KX G hmg ?a_is_whole ?l_is_whole ?c_is_whole ?k_is_whole ?a_is_place ?l_is_place ?c_is_place ?k_is_place ?a_is_span ?l_is_span ?c_is_span ?k_is_span ?a_check_span ?l_check_span ?c_check_span ?k_check_span ?a_length_of ?l_length_of ?c_length_of ?k_length_of ?a_l_sorts ?l_l_sorts ?c_l_sorts ?k_l_sorts ?a_l_right ?l_l_right ?c_l_right ?k_l_right ?a_l_caught ?l_l_caught ?c_l_caught ?k_l_caught ?a_law ?l_law ?c_law ?k_law ?n_LEAST_PLACE ?n_GREATEST_PLACE ?a_ShelfError ?x_ShelfError ?k_ShelfError ?b_ShelfError ?t_ShelfError ?a_NoSpan ?x_NoSpan ?k_NoSpan ?b_NoSpan ?t_NoSpan ?a_NoPlace ?x_NoPlace ?k_NoPlace ?b_NoPlace ?t_NoPlace ?a_NoCover ?x_NoCover ?k_NoCover ?b_NoCover ?t_NoCover ?a_NoWeight ?x_NoWeight ?k_NoWeight ?b_NoWeight ?t_NoWeight ?a_NoCount ?x_NoCount ?k_NoCount ?b_NoCount ?t_NoCount ?a_NoName ?x_NoName ?k_NoName ?b_NoName ?t_NoName ?a_Twice ?x_Twice ?k_Twice ?b_Twice ?t_Twice ?a_Full ?x_Full ?k_Full ?b_Full ?t_Full ?a_Bare ?x_Bare ?k_Bare ?b_Bare ?t_Bare ?a_NoDeed ?x_NoDeed ?k_NoDeed ?b_NoDeed ?t_NoDeed ?a_NoText ?x_NoText ?k_NoText ?b_NoText ?t_NoText ?a_NoLine ?x_NoLine ?k_NoLine ?b_NoLine ?t_NoLine ?z_ValueError ?z_bool ?z_enumerate ?z_int ?z_isinstance ?z_len ?z_range ?z_str ?z_sum ?z_tuple ?excs ?gets ?kits ?tops ?nones ?exms
    (case a_is_whole => first | k_is | rfl)
    (case l_is_whole => first | k_is | rfl)
    (case c_is_whole => first | k_is | rfl)
    (case k_is_whole => first | k_is | rfl)
    (case a_is_place => first | k_is | rfl)
    (case l_is_place => first | k_is | rfl)
    (case c_is_place => first | k_is | rfl)
    (case k_is_place => first | k_is | rfl)
    (case a_is_span => first | k_is | rfl)
    (case l_is_span => first | k_is | rfl)
    (case c_is_span => first | k_is | rfl)
    (case k_is_span => first | k_is | rfl)
    (case a_check_span => first | k_is | rfl)
    (case l_check_span => first | k_is | rfl)
    (case c_check_span => first | k_is | rfl)
    (case k_check_span => first | k_is | rfl)
    (case a_length_of => first | k_is | rfl)
    (case l_length_of => first | k_is | rfl)
    (case c_length_of => first | k_is | rfl)
    (case k_length_of => first | k_is | rfl)
    (case a_l_sorts => first | k_is | rfl)
    (case l_l_sorts => first | k_is | rfl)
    (case c_l_sorts => first | k_is | rfl)
    (case k_l_sorts => first | k_is | rfl)
    (case a_l_right => first | k_is | rfl)
    (case l_l_right => first | k_is | rfl)
    (case c_l_right => first | k_is | rfl)
    (case k_l_right => first | k_is | rfl)
    (case a_l_caught => first | k_is | rfl)
    (case l_l_caught => first | k_is | rfl)
    (case c_l_caught => first | k_is | rfl)
    (case k_l_caught => first | k_is | rfl)
    (case a_law => first | k_is | rfl)
    (case l_law => first | k_is | rfl)
    (case c_law => first | k_is | rfl)
    (case k_law => first | k_is | rfl)
    (case n_LEAST_PLACE => first | k_is | rfl)
    (case n_GREATEST_PLACE => first | k_is | rfl)
    (case a_ShelfError => first | k_is | rfl)
    (case x_ShelfError => k_exc)
    (case k_ShelfError => first | k_is | rfl)
    (case b_ShelfError => first | k_is | rfl)
    (case t_ShelfError => first | k_is | rfl)
    (case a_NoSpan => first | k_is | rfl)
    (case x_NoSpan => k_exc)
    (case k_NoSpan => first | k_is | rfl)
    (case b_NoSpan => first | k_is | rfl)
    (case t_NoSpan => first | k_is | rfl)
    (case a_NoPlace => first | k_is | rfl)
    (case x_NoPlace => k_exc)
    (case k_NoPlace => first | k_is | rfl)
    (case b_NoPlace => first | k_is | rfl)
    (case t_NoPlace => first | k_is | rfl)
    (case a_NoCover => first | k_is | rfl)
    (case x_NoCover => k_exc)
    (case k_NoCover => first | k_is | rfl)
    (case b_NoCover => first | k_is | rfl)
    (case t_NoCover => first | k_is | rfl)
    (case a_NoWeight => first | k_is | rfl)
    (case x_NoWeight => k_exc)
    (case k_NoWeight => first | k_is | rfl)
    (case b_NoWeight => first | k_is | rfl)
    (case t_NoWeight => first | k_is | rfl)
    (case a_NoCount => first | k_is | rfl)
    (case x_NoCount => k_exc)
    (case k_NoCount => first | k_is | rfl)
    (case b_NoCount => first | k_is | rfl)
    (case t_NoCount => first | k_is | rfl)
    (case a_NoName => first | k_is | rfl)
    (case x_NoName => k_exc)
    (case k_NoName => first | k_is | rfl)
    (case b_NoName => first | k_is | rfl)
    (case t_NoName => first | k_is | rfl)
    (case a_Twice => first | k_is | rfl)
    (case x_Twice => k_exc)
    (case k_Twice => first | k_is | rfl)
    (case b_Twice => first | k_is | rfl)
    (case t_Twice => first | k_is | rfl)
    (case a_Full => first | k_is | rfl)
    (case x_Full => k_exc)
    (case k_Full => first | k_is | rfl)
    (case b_Full => first | k_is | rfl)
    (case t_Full => first | k_is | rfl)
    (case a_Bare => first | k_is | rfl)
    (case x_Bare => k_exc)
    (case k_Bare => first | k_is | rfl)
    (case b_Bare => first | k_is | rfl)
    (case t_Bare => first | k_is | rfl)
    (case a_NoDeed => first | k_is | rfl)
    (case x_NoDeed => k_exc)
    (case k_NoDeed => first | k_is | rfl)
    (case b_NoDeed => first | k_is | rfl)
    (case t_NoDeed => first | k_is | rfl)
    (case a_NoText => first | k_is | rfl)
    (case x_NoText => k_exc)
    (case k_NoText => first | k_is | rfl)
    (case b_NoText => first | k_is | rfl)
    (case t_NoText => first | k_is | rfl)
    (case a_NoLine => first | k_is | rfl)
    (case x_NoLine => k_exc)
    (case k_NoLine => first | k_is | rfl)
    (case b_NoLine => first | k_is | rfl)
    (case t_NoLine => first | k_is | rfl)
    (case z_ValueError => first | k_is | rfl)
    (case z_bool => first | k_is | rfl)
    (case z_enumerate => first | k_is | rfl)
    (case z_int => first | k_is | rfl)
    (case z_isinstance => first | k_is | rfl)
    (case z_len => first | k_is | rfl)
    (case z_range => first | k_is | rfl)
    (case z_str => first | k_is | rfl)
    (case z_sum => first | k_is | rfl)
    (case z_tuple => first | k_is | rfl)
    (case excs => kernel_rfl)
    (case gets => kernel_rfl)
    (case kits => kernel_rfl)
    (case tops => kernel_rfl)
    (case nones => kernel_rfl)
    (case exms => kernel_rfl)
