import PyProof.Rows.All
import Wide.All
import OpenK.AllK
import Wide.FinOn
import PySem.Challenge.RW_spanshelf_k02_no_spans
import HandS.ForMost
import HandS.ForExc
import HandS.IsInst
import HandS.Wide
import HandS.WideBits
import HandS.Flt
import HandS.ExcIs
import HandS.ExcValue
set_option Elab.async false
set_option linter.all false
set_option maxRecDepth 100000
set_option maxHeartbeats 4000000
namespace Sp
open PySem PySem.Spec PyProof.Rows L2
def topS (i : Nat) : Stmt := PySem.Challenge.pw_spanshelf_k02_no_spans.main.body.getD i (.Pass ⟨0, 0, 0, 0⟩)
abbrev s_is_whole : Stmt := topS 17
abbrev N_is_whole : List Str := ["number"]
theorem sc_is_whole : FnScope N_is_whole ["number"] (defScope s_is_whole) := ⟨rfl, rfl, rfl, by decide +kernel, rfl, by decide +kernel, by decide +kernel⟩
abbrev s_is_place : Stmt := topS 18
abbrev N_is_place : List Str := ["number"]
theorem sc_is_place : FnScope N_is_place ["number"] (defScope s_is_place) := ⟨rfl, rfl, rfl, by decide +kernel, rfl, by decide +kernel, by decide +kernel⟩
abbrev s_is_span : Stmt := topS 19
abbrev N_is_span : List Str := ["span", "low", "high"]
theorem sc_is_span : FnScope N_is_span ["span"] (defScope s_is_span) := ⟨rfl, rfl, rfl, by decide +kernel, rfl, by decide +kernel, by decide +kernel⟩
abbrev s_check_span : Stmt := topS 20
abbrev N_check_span : List Str := ["span"]
theorem sc_check_span : FnScope N_check_span ["span"] (defScope s_check_span) := ⟨rfl, rfl, rfl, by decide +kernel, rfl, by decide +kernel, by decide +kernel⟩
abbrev s_share_a_place : Stmt := topS 21
abbrev N_share_a_place : List Str := ["one", "other"]
theorem sc_share_a_place : FnScope N_share_a_place ["one", "other"] (defScope s_share_a_place) := ⟨rfl, rfl, rfl, by decide +kernel, rfl, by decide +kernel, by decide +kernel⟩
abbrev s_is_inside : Stmt := topS 22
abbrev N_is_inside : List Str := ["one", "other"]
theorem sc_is_inside : FnScope N_is_inside ["one", "other"] (defScope s_is_inside) := ⟨rfl, rfl, rfl, by decide +kernel, rfl, by decide +kernel, by decide +kernel⟩
abbrev s_length_of : Stmt := topS 23
abbrev N_length_of : List Str := ["span", "low", "high"]
theorem sc_length_of : FnScope N_length_of ["span"] (defScope s_length_of) := ⟨rfl, rfl, rfl, by decide +kernel, rfl, by decide +kernel, by decide +kernel⟩
abbrev s_meet : Stmt := topS 24
abbrev N_meet : List Str := ["one", "other"]
theorem sc_meet : FnScope N_meet ["one", "other"] (defScope s_meet) := ⟨rfl, rfl, rfl, by decide +kernel, rfl, by decide +kernel, by decide +kernel⟩
abbrev s_lies_within : Stmt := topS 25
abbrev N_lies_within : List Str := ["one", "other"]
theorem sc_lies_within : FnScope N_lies_within ["one", "other"] (defScope s_lies_within) := ⟨rfl, rfl, rfl, by decide +kernel, rfl, by decide +kernel, by decide +kernel⟩
abbrev s_l_at : Stmt := topS 27
abbrev N_l_at : List Str := ["_law_script", "_law_k"]
theorem sc_l_at : FnScope N_l_at ["_law_script", "_law_k"] (defScope s_l_at) := ⟨rfl, rfl, rfl, by decide +kernel, rfl, by decide +kernel, by decide +kernel⟩
abbrev s_l_mixed : Stmt := topS 28
abbrev N_l_mixed : List Str := ["_law_cell", "_law_k", "_law_number_here"]
theorem sc_l_mixed : FnScope N_l_mixed ["_law_cell", "_law_k"] (defScope s_l_mixed) := ⟨rfl, rfl, rfl, by decide +kernel, rfl, by decide +kernel, by decide +kernel⟩
abbrev s_l_purse : Stmt := topS 29
abbrev N_l_purse : List Str := ["_law_script", "_law_at_here", "_law_cell"]
theorem sc_l_purse : FnScope N_l_purse ["_law_script", "_law_at_here"] (defScope s_l_purse) := ⟨rfl, rfl, rfl, by decide +kernel, rfl, by decide +kernel, by decide +kernel⟩
abbrev s_l_draw : Stmt := topS 30
abbrev N_l_draw : List Str := ["_law_purse_here", "_law_out_of", "_law_drawn", "_law_number_here", "_law_k"]
theorem sc_l_draw : FnScope N_l_draw ["_law_purse_here", "_law_out_of"] (defScope s_l_draw) := ⟨rfl, rfl, rfl, by decide +kernel, rfl, by decide +kernel, by decide +kernel⟩
abbrev s_l_number : Stmt := topS 31
abbrev N_l_number : List Str := ["_law_purse_here", "_law_most", "_law_far"]
theorem sc_l_number : FnScope N_l_number ["_law_purse_here", "_law_most"] (defScope s_l_number) := ⟨rfl, rfl, rfl, by decide +kernel, rfl, by decide +kernel, by decide +kernel⟩
abbrev s_l_end : Stmt := topS 32
abbrev N_l_end : List Str := ["_law_purse_here", "_law_ends", "_law_most", "_law_near"]
theorem sc_l_end : FnScope N_l_end ["_law_purse_here", "_law_ends", "_law_most"] (defScope s_l_end) := ⟨rfl, rfl, rfl, by decide +kernel, rfl, by decide +kernel, by decide +kernel⟩
abbrev s_l_span : Stmt := topS 33
abbrev N_l_span : List Str := ["_law_purse_here", "_law_ends", "_law_most", "_law_one", "_law_other", "_law_low", "_law_high"]
theorem sc_l_span : FnScope N_l_span ["_law_purse_here", "_law_ends", "_law_most"] (defScope s_l_span) := ⟨rfl, rfl, rfl, by decide +kernel, rfl, by decide +kernel, by decide +kernel⟩
abbrev s_l_kinds : Stmt := topS 34
abbrev N_l_kinds : List Str := ["_law_e", "_law_found", "_law_k"]
theorem sc_l_kinds : FnScope N_l_kinds ["_law_e"] (defScope s_l_kinds) := ⟨rfl, rfl, rfl, by decide +kernel, rfl, by decide +kernel, by decide +kernel⟩
abbrev s_l_bad_span : Stmt := topS 35
abbrev N_l_bad_span : List Str := ["_law_purse_here", "_law_far", "_law_one", "_law_some"]
theorem sc_l_bad_span : FnScope N_l_bad_span ["_law_purse_here"] (defScope s_l_bad_span) := ⟨rfl, rfl, rfl, by decide +kernel, rfl, by decide +kernel, by decide +kernel⟩
abbrev s_l_caught : Stmt := topS 36
abbrev N_l_caught : List Str := ["_law_way", "_law_one", "_law_other", "_law_caught_here", "_law_e"]
theorem sc_l_caught : FnScope N_l_caught ["_law_way", "_law_one", "_law_other"] (defScope s_l_caught) := ⟨rfl, rfl, rfl, by decide +kernel, rfl, by decide +kernel, by decide +kernel⟩
abbrev s_l_made_by_hand : Stmt := topS 37
abbrev N_l_made_by_hand : List Str := ["_law_some", "_law_more", "_law_row", "_law_e", "_law_k"]
theorem sc_l_made_by_hand : FnScope N_l_made_by_hand [] (defScope s_l_made_by_hand) := ⟨rfl, rfl, rfl, by decide +kernel, rfl, by decide +kernel, by decide +kernel⟩
abbrev s_law : Stmt := topS 38
abbrev N_law : List Str := ["_law_script", "_law_purse_here", "_law_good", "_law_one", "_law_turn", "_law_bad", "_law_way"]
theorem sc_law : FnScope N_law ["_law_script"] (defScope s_law) := ⟨rfl, rfl, rfl, by decide +kernel, rfl, by decide +kernel, by decide +kernel⟩

structure Tx (K : PySem.W.Frag) (mg : Str → Option Value) where
  f_is_whole : Addr
  fd_is_whole : FuncData
  F_is_whole : Fun K "is_whole" "is_whole" s_is_whole f_is_whole fd_is_whole
  b_is_whole : Binds K fd_is_whole ["number"] []
  g_is_whole : mg "is_whole" = some (.ref f_is_whole)
  f_is_place : Addr
  fd_is_place : FuncData
  F_is_place : Fun K "is_place" "is_place" s_is_place f_is_place fd_is_place
  b_is_place : Binds K fd_is_place ["number"] []
  g_is_place : mg "is_place" = some (.ref f_is_place)
  f_is_span : Addr
  fd_is_span : FuncData
  F_is_span : Fun K "is_span" "is_span" s_is_span f_is_span fd_is_span
  b_is_span : Binds K fd_is_span ["span"] []
  g_is_span : mg "is_span" = some (.ref f_is_span)
  f_check_span : Addr
  fd_check_span : FuncData
  F_check_span : Fun K "check_span" "check_span" s_check_span f_check_span fd_check_span
  b_check_span : Binds K fd_check_span ["span"] []
  g_check_span : mg "check_span" = some (.ref f_check_span)
  f_share_a_place : Addr
  fd_share_a_place : FuncData
  F_share_a_place : Fun K "share_a_place" "share_a_place" s_share_a_place f_share_a_place fd_share_a_place
  b_share_a_place : Binds K fd_share_a_place ["one", "other"] []
  g_share_a_place : mg "share_a_place" = some (.ref f_share_a_place)
  f_is_inside : Addr
  fd_is_inside : FuncData
  F_is_inside : Fun K "is_inside" "is_inside" s_is_inside f_is_inside fd_is_inside
  b_is_inside : Binds K fd_is_inside ["one", "other"] []
  g_is_inside : mg "is_inside" = some (.ref f_is_inside)
  f_length_of : Addr
  fd_length_of : FuncData
  F_length_of : Fun K "length_of" "length_of" s_length_of f_length_of fd_length_of
  b_length_of : Binds K fd_length_of ["span"] []
  g_length_of : mg "length_of" = some (.ref f_length_of)
  f_meet : Addr
  fd_meet : FuncData
  F_meet : Fun K "meet" "meet" s_meet f_meet fd_meet
  b_meet : Binds K fd_meet ["one", "other"] []
  g_meet : mg "meet" = some (.ref f_meet)
  f_lies_within : Addr
  fd_lies_within : FuncData
  F_lies_within : Fun K "lies_within" "lies_within" s_lies_within f_lies_within fd_lies_within
  b_lies_within : Binds K fd_lies_within ["one", "other"] []
  g_lies_within : mg "lies_within" = some (.ref f_lies_within)
  f_l_at : Addr
  fd_l_at : FuncData
  F_l_at : Fun K "_law_at" "_law_at" s_l_at f_l_at fd_l_at
  b_l_at : Binds K fd_l_at ["_law_script", "_law_k"] []
  g_l_at : mg "_law_at" = some (.ref f_l_at)
  f_l_mixed : Addr
  fd_l_mixed : FuncData
  F_l_mixed : Fun K "_law_mixed" "_law_mixed" s_l_mixed f_l_mixed fd_l_mixed
  b_l_mixed : Binds K fd_l_mixed ["_law_cell", "_law_k"] []
  g_l_mixed : mg "_law_mixed" = some (.ref f_l_mixed)
  f_l_purse : Addr
  fd_l_purse : FuncData
  F_l_purse : Fun K "_law_purse" "_law_purse" s_l_purse f_l_purse fd_l_purse
  b_l_purse : Binds K fd_l_purse ["_law_script", "_law_at_here"] []
  g_l_purse : mg "_law_purse" = some (.ref f_l_purse)
  f_l_draw : Addr
  fd_l_draw : FuncData
  F_l_draw : Fun K "_law_draw" "_law_draw" s_l_draw f_l_draw fd_l_draw
  b_l_draw : Binds K fd_l_draw ["_law_purse_here", "_law_out_of"] []
  g_l_draw : mg "_law_draw" = some (.ref f_l_draw)
  f_l_number : Addr
  fd_l_number : FuncData
  F_l_number : Fun K "_law_number" "_law_number" s_l_number f_l_number fd_l_number
  b_l_number : Binds K fd_l_number ["_law_purse_here", "_law_most"] []
  g_l_number : mg "_law_number" = some (.ref f_l_number)
  f_l_end : Addr
  fd_l_end : FuncData
  F_l_end : Fun K "_law_end" "_law_end" s_l_end f_l_end fd_l_end
  b_l_end : Binds K fd_l_end ["_law_purse_here", "_law_ends", "_law_most"] []
  g_l_end : mg "_law_end" = some (.ref f_l_end)
  f_l_span : Addr
  fd_l_span : FuncData
  F_l_span : Fun K "_law_span" "_law_span" s_l_span f_l_span fd_l_span
  b_l_span : Binds K fd_l_span ["_law_purse_here", "_law_ends", "_law_most"] []
  g_l_span : mg "_law_span" = some (.ref f_l_span)
  f_l_kinds : Addr
  fd_l_kinds : FuncData
  F_l_kinds : Fun K "_law_kinds" "_law_kinds" s_l_kinds f_l_kinds fd_l_kinds
  b_l_kinds : Binds K fd_l_kinds ["_law_e"] []
  g_l_kinds : mg "_law_kinds" = some (.ref f_l_kinds)
  f_l_bad_span : Addr
  fd_l_bad_span : FuncData
  F_l_bad_span : Fun K "_law_bad_span" "_law_bad_span" s_l_bad_span f_l_bad_span fd_l_bad_span
  b_l_bad_span : Binds K fd_l_bad_span ["_law_purse_here"] []
  g_l_bad_span : mg "_law_bad_span" = some (.ref f_l_bad_span)
  f_l_caught : Addr
  fd_l_caught : FuncData
  F_l_caught : Fun K "_law_caught" "_law_caught" s_l_caught f_l_caught fd_l_caught
  b_l_caught : Binds K fd_l_caught ["_law_way", "_law_one", "_law_other"] []
  g_l_caught : mg "_law_caught" = some (.ref f_l_caught)
  f_l_made_by_hand : Addr
  fd_l_made_by_hand : FuncData
  F_l_made_by_hand : Fun K "_law_made_by_hand" "_law_made_by_hand" s_l_made_by_hand f_l_made_by_hand fd_l_made_by_hand
  b_l_made_by_hand : Binds K fd_l_made_by_hand [] []
  g_l_made_by_hand : mg "_law_made_by_hand" = some (.ref f_l_made_by_hand)
  f_law : Addr
  fd_law : FuncData
  F_law : Fun K "law" "law" s_law f_law fd_law
  b_law : Binds K fd_law ["_law_script"] []
  g_law : mg "law" = some (.ref f_law)
  tc_LEAST_PLACE : Tok
  c_LEAST_PLACE : mg "LEAST_PLACE" = some (.int (-999999999999) tc_LEAST_PLACE)
  tc_GREATEST_PLACE : Tok
  c_GREATEST_PLACE : mg "GREATEST_PLACE" = some (.int (999999999999) tc_GREATEST_PLACE)
  C_ShelfError : Addr
  g_ShelfError : mg "ShelfError" = some (.ref C_ShelfError)
  x_ShelfError : PySem.W.excIn K C_ShelfError [.type "ValueError", .type "Exception", .type "BaseException", .type "object"] "ValueError.__new__" = true
  k_ShelfError : PySem.W.keepIn K (.ref C_ShelfError) = true
  b_ShelfError : PySem.W.subIn K (.ref C_ShelfError) (.type "BaseException") = some true
  t_ShelfError : PySem.W.typeIn K (.ref C_ShelfError) = some (.type "type")
  C_NoSpan : Addr
  g_NoSpan : mg "NoSpan" = some (.ref C_NoSpan)
  x_NoSpan : PySem.W.excIn K C_NoSpan [.type "ValueError", .type "Exception", .type "BaseException", .type "object"] "ValueError.__new__" = true
  k_NoSpan : PySem.W.keepIn K (.ref C_NoSpan) = true
  b_NoSpan : PySem.W.subIn K (.ref C_NoSpan) (.type "BaseException") = some true
  t_NoSpan : PySem.W.typeIn K (.ref C_NoSpan) = some (.type "type")
  C_NoPlace : Addr
  g_NoPlace : mg "NoPlace" = some (.ref C_NoPlace)
  x_NoPlace : PySem.W.excIn K C_NoPlace [.type "ValueError", .type "Exception", .type "BaseException", .type "object"] "ValueError.__new__" = true
  k_NoPlace : PySem.W.keepIn K (.ref C_NoPlace) = true
  b_NoPlace : PySem.W.subIn K (.ref C_NoPlace) (.type "BaseException") = some true
  t_NoPlace : PySem.W.typeIn K (.ref C_NoPlace) = some (.type "type")
  C_NoCover : Addr
  g_NoCover : mg "NoCover" = some (.ref C_NoCover)
  x_NoCover : PySem.W.excIn K C_NoCover [.type "ValueError", .type "Exception", .type "BaseException", .type "object"] "ValueError.__new__" = true
  k_NoCover : PySem.W.keepIn K (.ref C_NoCover) = true
  b_NoCover : PySem.W.subIn K (.ref C_NoCover) (.type "BaseException") = some true
  t_NoCover : PySem.W.typeIn K (.ref C_NoCover) = some (.type "type")
  C_NoWeight : Addr
  g_NoWeight : mg "NoWeight" = some (.ref C_NoWeight)
  x_NoWeight : PySem.W.excIn K C_NoWeight [.type "ValueError", .type "Exception", .type "BaseException", .type "object"] "ValueError.__new__" = true
  k_NoWeight : PySem.W.keepIn K (.ref C_NoWeight) = true
  b_NoWeight : PySem.W.subIn K (.ref C_NoWeight) (.type "BaseException") = some true
  t_NoWeight : PySem.W.typeIn K (.ref C_NoWeight) = some (.type "type")
  C_NoCount : Addr
  g_NoCount : mg "NoCount" = some (.ref C_NoCount)
  x_NoCount : PySem.W.excIn K C_NoCount [.type "ValueError", .type "Exception", .type "BaseException", .type "object"] "ValueError.__new__" = true
  k_NoCount : PySem.W.keepIn K (.ref C_NoCount) = true
  b_NoCount : PySem.W.subIn K (.ref C_NoCount) (.type "BaseException") = some true
  t_NoCount : PySem.W.typeIn K (.ref C_NoCount) = some (.type "type")
  C_NoName : Addr
  g_NoName : mg "NoName" = some (.ref C_NoName)
  x_NoName : PySem.W.excIn K C_NoName [.type "ValueError", .type "Exception", .type "BaseException", .type "object"] "ValueError.__new__" = true
  k_NoName : PySem.W.keepIn K (.ref C_NoName) = true
  b_NoName : PySem.W.subIn K (.ref C_NoName) (.type "BaseException") = some true
  t_NoName : PySem.W.typeIn K (.ref C_NoName) = some (.type "type")
  C_Twice : Addr
  g_Twice : mg "Twice" = some (.ref C_Twice)
  x_Twice : PySem.W.excIn K C_Twice [.type "ValueError", .type "Exception", .type "BaseException", .type "object"] "ValueError.__new__" = true
  k_Twice : PySem.W.keepIn K (.ref C_Twice) = true
  b_Twice : PySem.W.subIn K (.ref C_Twice) (.type "BaseException") = some true
  t_Twice : PySem.W.typeIn K (.ref C_Twice) = some (.type "type")
  C_Full : Addr
  g_Full : mg "Full" = some (.ref C_Full)
  x_Full : PySem.W.excIn K C_Full [.type "ValueError", .type "Exception", .type "BaseException", .type "object"] "ValueError.__new__" = true
  k_Full : PySem.W.keepIn K (.ref C_Full) = true
  b_Full : PySem.W.subIn K (.ref C_Full) (.type "BaseException") = some true
  t_Full : PySem.W.typeIn K (.ref C_Full) = some (.type "type")
  C_Bare : Addr
  g_Bare : mg "Bare" = some (.ref C_Bare)
  x_Bare : PySem.W.excIn K C_Bare [.type "ValueError", .type "Exception", .type "BaseException", .type "object"] "ValueError.__new__" = true
  k_Bare : PySem.W.keepIn K (.ref C_Bare) = true
  b_Bare : PySem.W.subIn K (.ref C_Bare) (.type "BaseException") = some true
  t_Bare : PySem.W.typeIn K (.ref C_Bare) = some (.type "type")
  C_NoDeed : Addr
  g_NoDeed : mg "NoDeed" = some (.ref C_NoDeed)
  x_NoDeed : PySem.W.excIn K C_NoDeed [.type "ValueError", .type "Exception", .type "BaseException", .type "object"] "ValueError.__new__" = true
  k_NoDeed : PySem.W.keepIn K (.ref C_NoDeed) = true
  b_NoDeed : PySem.W.subIn K (.ref C_NoDeed) (.type "BaseException") = some true
  t_NoDeed : PySem.W.typeIn K (.ref C_NoDeed) = some (.type "type")
  C_NoText : Addr
  g_NoText : mg "NoText" = some (.ref C_NoText)
  x_NoText : PySem.W.excIn K C_NoText [.type "ValueError", .type "Exception", .type "BaseException", .type "object"] "ValueError.__new__" = true
  k_NoText : PySem.W.keepIn K (.ref C_NoText) = true
  b_NoText : PySem.W.subIn K (.ref C_NoText) (.type "BaseException") = some true
  t_NoText : PySem.W.typeIn K (.ref C_NoText) = some (.type "type")
  C_NoLine : Addr
  g_NoLine : mg "NoLine" = some (.ref C_NoLine)
  x_NoLine : PySem.W.excIn K C_NoLine [.type "ValueError", .type "Exception", .type "BaseException", .type "object"] "ValueError.__new__" = true
  k_NoLine : PySem.W.keepIn K (.ref C_NoLine) = true
  b_NoLine : PySem.W.subIn K (.ref C_NoLine) (.type "BaseException") = some true
  t_NoLine : PySem.W.typeIn K (.ref C_NoLine) = some (.type "type")
  m_ValueError : mg "ValueError" = none
  m_bool : mg "bool" = none
  m_int : mg "int" = none
  m_isinstance : mg "isinstance" = none
  m_len : mg "len" = none
  m_max : mg "max" = none
  m_min : mg "min" = none
  m_range : mg "range" = none
  m_tuple : mg "tuple" = none
  excs : ([C_ShelfError, C_NoSpan, C_NoPlace, C_NoCover, C_NoWeight, C_NoCount, C_NoName, C_Twice, C_Full, C_Bare, C_NoDeed, C_NoText, C_NoLine].map fun (D : Addr) => (PySem.W.findIn K (.ref D) "__getattribute__", PySem.W.findIn K (.ref D) "__getattr__", PySem.W.subIn K (.ref D) (.type "BaseException"), PySem.W.hasDictIn K D, PySem.W.findIn K (.ref D) "__class__", PySem.W.mroIn K D (.type "object"))) = [C_ShelfError, C_NoSpan, C_NoPlace, C_NoCover, C_NoWeight, C_NoCount, C_NoName, C_Twice, C_Full, C_Bare, C_NoDeed, C_NoText, C_NoLine].map fun (_ : Addr) => (some (some (.builtin "BaseException.__getattribute__")), some none, some true, true, some (some (.builtin "object.__class__")), some true)
  gets : (PySem.W.specialIn K (.builtin "object.__class__") "__get__", PySem.W.takesIn K (.builtin "object.__class__")) = (some (some (.builtin "getset_descriptor.__get__")), some true)
  kits : ([C_ShelfError, C_NoSpan, C_NoPlace, C_NoCover, C_NoWeight, C_NoCount, C_NoName, C_Twice, C_Full, C_Bare, C_NoDeed, C_NoText, C_NoLine].map fun (D : Addr) => [C_NoSpan, C_NoPlace, C_NoCover, C_NoWeight, C_NoCount, C_NoName, C_Twice, C_Full, C_Bare, C_NoDeed, C_NoText, C_NoLine].map fun (C : Addr) => PySem.W.kitOne K (.ref D) (.ref C)) = (List.range 13).map fun i => (List.range 12).map fun j => some (i == j + 1)
  tops : ([C_ShelfError, C_NoSpan, C_NoPlace, C_NoCover, C_NoWeight, C_NoCount, C_NoName, C_Twice, C_Full, C_Bare, C_NoDeed, C_NoText, C_NoLine].map fun (D : Addr) => (PySem.W.kitOne K (.ref D) (.ref C_ShelfError), PySem.W.kitOne K (.ref D) (.type "ValueError"))) = [C_ShelfError, C_NoSpan, C_NoPlace, C_NoCover, C_NoWeight, C_NoCount, C_NoName, C_Twice, C_Full, C_Bare, C_NoDeed, C_NoText, C_NoLine].map fun (_ : Addr) => (some true, some true)
  nones : ([C_ShelfError, C_NoSpan, C_NoPlace, C_NoCover, C_NoWeight, C_NoCount, C_NoName, C_Twice, C_Full, C_Bare, C_NoDeed, C_NoText, C_NoLine].map fun (C : Addr) => PySem.W.kitOne K (.type "NoneType") (.ref C)) = [C_ShelfError, C_NoSpan, C_NoPlace, C_NoCover, C_NoWeight, C_NoCount, C_NoName, C_Twice, C_Full, C_Bare, C_NoDeed, C_NoText, C_NoLine].map fun (_ : Addr) => some false
  exms : ([C_ShelfError, C_NoSpan, C_NoPlace, C_NoCover, C_NoWeight, C_NoCount, C_NoName, C_Twice, C_Full, C_Bare, C_NoDeed, C_NoText, C_NoLine].map fun (D : Addr) => PySem.W.exmOne K (.ref D) (.ref C_ShelfError)) = [C_ShelfError, C_NoSpan, C_NoPlace, C_NoCover, C_NoWeight, C_NoCount, C_NoName, C_Twice, C_Full, C_Bare, C_NoDeed, C_NoText, C_NoLine].map fun (_ : Addr) => some true
/-! ### heaps -/
theorem same_upd {H : Hp} {p : Addr} {o : HO} (h : H p = none) : Same H (upd H p o) := fun b x e => by
  rw [upd_ne (ne_of_none e h)]
  exact e
theorem upd_at {H : Hp} {p : Addr} {o : HO} (h : H p = none) : (upd H p o) p = some o ∧ Same H (upd H p o) := ⟨upd_same, same_upd h⟩
theorem same_more {H H' : Hp} {p : Addr} {o : HO} (h : Same H H') (n : H p = none) : Same H (upd H' p o) := fun b x e => by
  rw [upd_ne (ne_of_none e n)]
  exact h _ _ e
/-- all but what stands at the addresses of L is kept -/
def Chg (L : List Addr) (H H' : Hp) : Prop := ∀ b o, b ∉ L → H b = some o → H' b = some o
theorem Chg.refl (L : List Addr) (H : Hp) : Chg L H H := fun _ _ _ h => h
theorem Chg.trans {L : List Addr} {H H1 H2 : Hp} (a : Chg L H H1) (b : Chg L H1 H2) : Chg L H H2 := fun c o n h => b c o n (a c o n h)
theorem Chg.of_same {L : List Addr} {H H' : Hp} (a : Same H H') : Chg L H H' := fun c o _ h => a c o h
theorem Chg.same {H H' : Hp} (a : Chg [] H H') : Same H H' := fun c o h => a c o List.not_mem_nil h
theorem Chg.mono {L L' : List Addr} {H H' : Hp} (a : Chg L H H') (h : ∀ x ∈ L, x ∈ L') : Chg L' H H' := fun c o n e => a c o (fun q => n (h c q)) e
theorem Chg.upd {L : List Addr} {H : Hp} {p : Addr} {o : HO} (h : p ∈ L) : Chg L H (upd H p o) := fun b x n e => by
  have hne : b ≠ p := fun z => n (by rw [z]; exact h)
  rw [upd_ne hne]
  exact e
theorem Chg.free {L : List Addr} {H H' : Hp} (a : Chg L H H') {l : Addr} (hl : l ∉ L) (h : H' l = none) : H l = none := by
  cases q : H l with
  | none => rfl
  | some o =>
    rw [a l o hl q] at h
    cases h
theorem Chg.seq {K : PySem.W.Frag} {L : List Addr} {H H' : Hp} {a : Addr} {xs : List V} (e : Chg L H H') (n : a ∉ L) (h : SqL K H a xs) : SqL K H' a xs := by
  rcases h with (h | ⟨o, h⟩) | h
  · exact .inl (.inl (e _ _ n h))
  · exact .inl (.inr ⟨o, e _ _ n h⟩)
  · exact .inr h
theorem same_tup {K : PySem.W.Frag} {H H' : Hp} {a : Addr} {xs : List V} (e : Same H H') (h : SqT K H a xs) : SqT K H' a xs := by
  rcases h with (h | ⟨o, h⟩) | h
  · exact .inl (.inl (e _ _ h))
  · exact .inl (.inr ⟨o, e _ _ h⟩)
  · exact .inr h
theorem nmem1 {a b : Addr} (h : a ≠ b) : a ∉ [b] := fun q => h (List.mem_singleton.mp q)
theorem nmem2 {a b c : Addr} (h : a ≠ b) (h2 : a ≠ c) : a ∉ [b, c] := fun q => by
  rcases List.mem_cons.mp q with q | q
  · exact h q
  · exact h2 (List.mem_singleton.mp q)
theorem small_lt {n : Nat} (h : n ≤ 1000000) : n < sizeLine := Nat.lt_of_le_of_lt h (by decide)
theorem small_le {n : Nat} (h : n ≤ 1000000) : n ≤ sizeLine := Nat.le_of_lt (small_lt h)
/-- a list of whole numbers at p that may be changed -/
def Pu (H : Hp) (p : Addr) (n : Nat) : Prop := ∃ a b c : Int, H p = some (.lst [.int a, .int b, .int c]) ∧ 0 ≤ a ∧ 0 ≤ b ∧ b < 2147483647 ∧ 0 ≤ c ∧ c ≤ n
theorem Pu.chg {L : List Addr} {H H' : Hp} {p : Addr} {n : Nat} (h : Pu H p n) (e : Chg L H H') (hp : p ∉ L) : Pu H' p n := by
  obtain ⟨a, b, c, h1, h2⟩ := h
  exact ⟨a, b, c, e _ _ hp h1, h2⟩
theorem Pu.same {H H' : Hp} {p : Addr} {n : Nat} (h : Pu H p n) (e : Same H H') : Pu H' p n := h.chg (L := []) (Chg.of_same e) List.not_mem_nil
theorem Pu.mono {H : Hp} {p : Addr} {n m : Nat} (h : Pu H p n) (e : n ≤ m) : Pu H p m := by
  obtain ⟨a, b, c, h1, h2, h3, h4, h5, h6⟩ := h
  exact ⟨a, b, c, h1, h2, h3, h4, h5, by omega⟩
theorem Pu.ne {H : Hp} {p q : Addr} {n : Nat} (h : Pu H p n) (e : H q = none) : p ≠ q := by
  obtain ⟨a, b, c, h1, _⟩ := h
  exact ne_of_none h1 e
theorem Pu.at {H : Hp} {p : Addr} {n : Nat} (h : Pu H p n) : ∃ o, H p = some o := by
  obtain ⟨a, b, c, h1, _⟩ := h
  exact ⟨_, h1⟩
section
variable {P : Program} {w : World} {K : PySem.W.Frag} {mg : Str → Option Value} {base : Heap}
/-! ### the cell, the mixing, the purse, a draw -/
def spAt (K : PySem.W.Frag) : Sp := fun vs H Q _ => ∃ (a : Addr) (ns : List Int) (k : Int), vs = [.ref a, .int k] ∧ SqL K H a (ns.map V.int) ∧ 0 ≤ k ∧ ∀ z, Q (.int z) H
theorem ok_at (T : Tx K mg) : FnOk P w K mg base CX0 (1) T.f_l_at T.fd_l_at ["_law_script", "_law_k"] (spAt K) := by
  refine T.F_l_at.ok sc_l_at (fun vs H Q E h => ?_) (fun cdv A outer s H vs Q E hr h => ?_)
  · obtain ⟨a, ns, k, rfl, _⟩ := h
    rfl
  · obtain ⟨a, ns, k, rfl, hS, h0, q⟩ := h
    refine ⟨_, (pss_cons (ps_if (pt_cmpR op_lt (pv 1) (pe_callB call_len_seq (by rfl) T.m_len PySem.boot_len (pa_cons (pv 0) pa_nil)) (nomark _)) (pss_one (ps_ret (pe_ix ix_list (pv 0) (pv 1) (fun _ _ => rfl)))) pss_nil)
      (pss_one (ps_ret pe_int))), ?_⟩
    refine ⟨_, rfl, _, rfl, a, _, rfl, .inl hS, _, _, rfl, rfl, _, rfl, ite2 (fun e => ?_) (fun e => ?_)⟩
    · have e0 : k < ((ns.map V.int).length : Int) := of_decide_eq_true e
      rw [List.length_map] at e0
      have h1 : k.toNat < ns.length := by omega
      refine ⟨_, rfl, _, rfl, a, _, k, .int ns[k.toNat], rfl, rfl, hS, at_of (j := k.toNat) (by omega) ?_, q _⟩
      rw [List.getElem?_map, List.getElem?_eq_getElem h1]
      rfl
    · exact q 0
def spMixed : Sp := fun vs H Q _ => ∃ (a k : Int), vs = [.int a, .int k] ∧ 0 ≤ k ∧ k < 2 ^ 60 ∧ 0 ≤ a ∧ a < 2 ^ 60 ∧ ∀ z : Int, 0 ≤ z → z < 2147483587 → Q (.int z) H
theorem ok_mixed (T : Tx K mg) : FnOk P w K mg base CX0 (1) T.f_l_mixed T.fd_l_mixed ["_law_cell", "_law_k"] spMixed := by
  refine T.F_l_mixed.ok sc_l_mixed (fun vs H Q E h => ?_) (fun cdv A outer s H vs Q E hr h => ?_)
  · obtain ⟨a, k, rfl, _⟩ := h
    rfl
  · obtain ⟨a, k, rfl, h0, h1, h2, h3, q⟩ := h
    refine ⟨_, (pss_cons (ps_set (i := 2) sc_l_mixed.nd rfl (Or.inl rfl) (pe_op op_mod (pe_op op_add (pe_op op_add (pe_op op_add (pe_op op_mul (pv 0) pe_int) (pe_op op_mul (pe_op op_mul pe_int (pv 1)) (pv 1))) (pv 1)) pe_int) pe_int))
      (pss_cons (ps_set (i := 2) sc_l_mixed.nd rfl (Or.inl rfl) (pe_op op_mod (pe_op op_add (pe_op op_mul (pv 2) (pv 2)) pe_int) pe_int))
      (pss_one (ps_ret (pe_op op_mod (pe_op op_mul (pv 2) pe_int) pe_int))))), ?_⟩
    refine ⟨_, rfl, _, _, rfl, rfl, .inr ⟨by decide, by decide⟩, _, rfl, _, _, rfl, rfl, .inl ⟨by decide, by decide⟩, _, rfl, _, _, rfl, rfl, .inr ⟨by omega, by omega⟩, _, _, rfl, rfl, _, rfl, _, _, rfl, rfl, _, _, rfl, rfl, _, _, rfl, rfl, by show (0 : Int) < 2147483647; decide, ?_⟩
    generalize hx : (a * 1103515245 + 7919 * k * k + k + 1) % 2147483647 = x
    have x0 : 0 ≤ x := by omega
    have x1 : x < 2147483647 := by omega
    clear hx
    refine ⟨_, rfl, _, rfl, _, _, rfl, rfl, .inl ⟨by omega, by omega⟩, _, _, rfl, rfl, _, _, rfl, rfl, by show (0 : Int) < 2147483629; decide, ?_⟩
    generalize hy : (x * x + 69621) % 2147483629 = y
    have y0 : 0 ≤ y := by omega
    have y1 : y < 2147483629 := by omega
    clear hy
    refine ⟨_, rfl, _, _, rfl, rfl, .inl ⟨by omega, by omega⟩, _, _, rfl, rfl, by show (0 : Int) < 2147483587; decide, ?_⟩
    exact q _ (by omega) (by omega)
def spPurse (K : PySem.W.Frag) : Sp := fun vs H Q _ => ∃ (a : Addr) (ns : List Int) (k : Int), vs = [.ref a, .int k] ∧ SqL K H a (ns.map V.int) ∧ 0 ≤ k ∧ k ≤ 63 ∧ ∀ H' p, Same H H' → H p = none → Pu H' p 63000 → Q (.ref p) H'
theorem ok_purse (T : Tx K mg) : FnOk P w K mg base CX0 (2) T.f_l_purse T.fd_l_purse ["_law_script", "_law_at_here"] (spPurse K) := by
  have G_l_at : FnOk P w K mg base CX0 _ _ _ _ _ := ok_at T
  refine T.F_l_purse.ok sc_l_purse (fun vs H Q E h => ?_) (fun cdv A outer s H vs Q E hr h => ?_)
  · obtain ⟨a, ns, k, rfl, _⟩ := h
    rfl
  · obtain ⟨a, ns, k, rfl, hS, h0, h1, q⟩ := h
    refine ⟨_, (pss_cons (ps_set (i := 2) sc_l_purse.nd rfl (Or.inl rfl) (pe_call G_l_at (hr.mono (by decide)) (by rfl) T.g_l_at T.F_l_at.kp T.b_l_at .nil pass0 (pa_cons (pv 0) (pa_cons (pv 1) pa_nil))))
      (pss_one (ps_ret (pe_lst (pa_cons (pe_callB (call_max2 rfl) (by rfl) T.m_max (by decide +kernel) (pa_cons (pe_op op_sub (pv 2) (pe_op op_pow pe_int pe_int)) (pa_cons pe_int pa_nil))) (pa_cons (pe_op op_mod (pv 2) pe_int) (pa_cons (pe_op op_mul pe_int (pv 1)) pa_nil))))))), ?_⟩
    refine ⟨_, rfl, _, rfl, a, ns, k, rfl, hS, h0, fun z => ?_⟩
    refine ⟨_, rfl, _, _, rfl, rfl, ⟨by decide, by decide, by decide⟩, _, _, rfl, rfl, _, _, rfl, _, rfl, _, _, rfl, rfl, by show (0 : Int) < 2147483647; decide, _, rfl, _, _, rfl, rfl, .inl ⟨by decide, by decide⟩, small_le (by simp), fun p np => ?_⟩
    refine q _ p (same_upd np) np ⟨_, _, _, upd_same, ?_, by omega, by omega, by omega, by omega⟩
    split <;> omega
def spDraw : Sp := fun vs H Q _ => ∃ (p : Addr) (m : Int) (n : Nat), vs = [.ref p, .int m] ∧ Pu H p n ∧ n ≤ 1000000000 ∧ 0 < m ∧ m < 2 ^ 88 ∧ ∀ H' r, Chg [p] H H' → Pu H' p (n + 3) → 0 ≤ r → r < m → Q (.int r) H'
theorem bits_le {m : Int} (h0 : 0 < m) (h1 : m < 2 ^ 88) : (Builtin.Int.intBits m : Nat) ≤ 88 := by
  have h : m.natAbs < 2 ^ 88 := by
    have e : (2 : Int) ^ 88 = ((2 ^ 88 : Nat) : Int) := by decide
    rw [e] at h1
    omega
  exact PyProof.Rows.intBits_le h
theorem ok_draw (T : Tx K mg) : FnOk P w K mg base CX0 (2) T.f_l_draw T.fd_l_draw ["_law_purse_here", "_law_out_of"] spDraw := by
  have G_l_mixed : FnOk P w K mg base CX0 _ _ _ _ _ := ok_mixed T
  refine T.F_l_draw.ok sc_l_draw (fun vs H Q E h => ?_) (fun cdv A outer s H vs Q E hr h => ?_)
  · obtain ⟨p, m, n, rfl, _⟩ := h
    rfl
  · obtain ⟨p, m, n, rfl, hp, hn, h0, h1, q⟩ := h
    obtain ⟨a, b, c, hP, ha, hb, hb1, hc, hc1⟩ := hp
    refine ⟨_, (pss_cons (ps_if (pt_cmpR op_gt (pe_ix ix_list (pv 0) pe_int (fun _ _ => rfl)) pe_int (nomark _)) (pss_cons (ps_set (i := 2) sc_l_draw.nd rfl (Or.inl rfl) (pe_op op_mod (pe_ix ix_list (pv 0) pe_int (fun _ _ => rfl)) (pv 1)))
      (pss_cons (ps_asg (pe_op op_fdivW (pe_ix ix_list (pv 0) pe_int (fun _ _ => rfl)) (pv 1)) (pg_sub (pv 0) pe_int set_list))
      (pss_one (ps_ret (pv 2))))) pss_nil)
      (pss_cons (ps_set (i := 3) sc_l_draw.nd rfl (Or.inl rfl) pe_int)
      (pss_cons (ps_for PassesOwn.never (by rfl) (pi_range1 (by rfl) T.m_range (pa_cons (pe_op op_add pe_int (pe_op op_fdiv (pe_bits (pv 1)) pe_int)) pa_nil)) (pg_name (i := 4) sc_l_draw.nd rfl (Or.inl rfl))
        (pss_cons (ps_asg (pe_op op_add (pe_ix ix_list (pv 0) pe_int (fun _ _ => rfl)) pe_int) (pg_sub (pv 0) pe_int set_list))
      (pss_one (ps_set (i := 3) sc_l_draw.nd rfl (Or.inl rfl) (pe_op op_add (pe_op op_mul (pv 3) pe_int) (pe_call G_l_mixed (hr.mono (by decide)) (by rfl) T.g_l_mixed T.F_l_mixed.kp T.b_l_mixed .nil pass0 (pa_cons (pe_ix ix_list (pv 0) pe_int (fun _ _ => rfl)) (pa_cons (pe_ix ix_list (pv 0) pe_int (fun _ _ => rfl)) pa_nil))))))))
      (pss_one (ps_ret (pe_op op_mod (pv 3) (pv 1))))))), ?_⟩
    have hS : SqL K H p [.int a, .int b, .int c] := SqL.of hP
    refine ⟨_, rfl, p, _, _, _, rfl, rfl, hS, atI_nat (j := 0) rfl, _, _, rfl, rfl, _, rfl, ite2 (fun e => ?_) (fun e => ?_)⟩
    · have ea : 0 < a := of_decide_eq_true e
      refine ⟨_, rfl, p, _, _, _, rfl, rfl, hS, atI_nat (j := 0) rfl, _, rfl, _, _, rfl, rfl, h0, ?_⟩
      refine ⟨_, rfl, p, _, _, _, rfl, rfl, hS, atI_nat (j := 0) rfl, _, rfl, _, _, rfl, rfl, wide_div (b := 88) h0 ?_ (by decide) (by decide), ?_⟩
      · have e : (2 : Int) ^ 88 = ((2 ^ 88 : Nat) : Int) := by decide
        rw [e] at h1
        omega
      refine ⟨_, rfl, p, _, _, 0, rfl, rfl, hP, rfl, ?_⟩
      refine ⟨_, rfl, ?_⟩
      refine q _ _ (Chg.upd List.mem_cons_self) ⟨a / m, b, c, upd_same, Int.ediv_nonneg ha (by omega), hb, hb1, hc, by omega⟩ (Int.emod_nonneg _ (by omega)) (Int.emod_lt_of_pos _ h0)
    · have hb88 := bits_le h0 h1
      refine ⟨_, rfl, _, rfl, _, _, rfl, rfl, ⟨by decide, by decide⟩, _, _, rfl, rfl, _, rfl, by omega, by omega, ?_⟩
      refine for_range (lo := 0) (n := (1 + ((Builtin.Int.intBits m : Nat) : Int) / 30).toNat) (fun i σ H' => ∃ (x : Int) (c' : Int) (y4 : Option V), σ = [some (.ref p), some (.int m), none, some (.int x), y4] ∧ Chg [p] H H' ∧ H' p = some (.lst [.int a, .int b, .int c']) ∧ c' = c + i ∧ 0 ≤ x ∧ x < 2 ^ (32 * i)) ⟨0, c, none, rfl, Chg.refl _ _, hP, by omega, by omega, by decide⟩ ?_ ?_
      · rintro i σ H' hi ⟨x, c', y4, rfl, hch, hP', hc', x0, x1⟩
        have hi3 : i ≤ 2 := by omega
        refine ⟨_, rfl, p, _, _, _, rfl, rfl, SqL.of hP', atI_nat (j := 2) rfl, _, _, rfl, rfl, _, rfl, p, _, _, 2, rfl, rfl, hP', rfl, ?_⟩
        have hP2 : (upd H' p (.lst [.int a, .int b, .int (c' + 1)])) p = some (.lst [.int a, .int b, .int (c' + 1)]) := upd_same
        refine ⟨_, rfl, _, _, rfl, rfl, .inr ⟨by decide, by decide⟩, _, rfl, p, _, _, _, rfl, rfl, SqL.of hP2, atI_nat (j := 1) rfl, _, rfl, p, _, _, _, rfl, rfl, SqL.of hP2, atI_nat (j := 2) rfl, b, c' + 1, rfl, by omega, by omega, hb, by omega, fun z z0 z1 => ?_⟩
        refine ⟨_, _, rfl, rfl, x * 2147483587 + z, c' + 1, _, rfl, hch.trans (Chg.upd List.mem_cons_self), hP2, by omega, by omega, ?_⟩
        have e : (2 : Int) ^ (32 * (i + 1)) = 2 ^ (32 * i) * 4294967296 := by
          rw [Nat.mul_add, Int.pow_add]
          rfl
        rw [e]
        omega
      · rintro σ H' ⟨x, c', y4, rfl, hch, hP', hc', x0, x1⟩
        refine ⟨_, rfl, _, rfl, _, _, rfl, rfl, h0, ?_⟩
        exact q _ _ hch ⟨a, b, c', hP', ha, hb, hb1, by omega, by omega⟩ (Int.emod_nonneg _ (by omega)) (Int.emod_lt_of_pos _ h0)
end
/-! ### data: whole numbers, spans, lists of them -/
theorem dpAll_ints {K : PySem.W.Frag} {H : Hp} : ∀ ns : List Int, DpAll K H (ns.map V.int) (ns.map PyData.int)
  | [] => .nil
  | n :: r => .cons (.int n) (dpAll_ints r)
theorem lay_ints : ∀ ns : List Int, PyData.canLayAll0 (ns.map PyData.int) = true ∧ PyData.depthAll (ns.map PyData.int) = 0
  | [] => ⟨rfl, rfl⟩
  | n :: r => by
    obtain ⟨h1, h2⟩ := lay_ints r
    refine ⟨?_, ?_⟩
    · show (PyData.canLay0 (.int n) && PyData.canLayAll0 (r.map PyData.int)) = true
      rw [h1]
      rfl
    · show max (PyData.depth (.int n)) (PyData.depthAll (r.map PyData.int)) = 0
      rw [h2]
      rfl
theorem shaped_ints (ns : List Int) : SeqAt.shaped (.list (ns.map PyData.int)) = true := by
  obtain ⟨h1, h2⟩ := lay_ints ns
  show (PyData.canLayAll0 (ns.map PyData.int) && decide (PyData.depthAll (ns.map PyData.int) + 1 ≤ 64)) = true
  rw [h1, h2]
  rfl
theorem shaped_nil : SeqAt.shaped (.list []) = true := rfl
theorem eqv_ints_nil (ns : List Int) : PyData.eqv (.list (ns.map PyData.int)) (.list []) = decide (ns = []) := by
  cases ns with
  | nil => rfl
  | cons n r => simp [PyData.eqv, PyData.eqvAll]
abbrev Span := Int × Int
def spD (s : Span) : PyData := .tuple [.int s.1, .int s.2]
/-- v is the span s -/
def Spn (H : Hp) (v : V) (s : Span) : Prop := ∃ t, v = .ref t ∧ H t = some (.tup [.int s.1, .int s.2])
inductive Sps (H : Hp) : List V → List Span → Prop where
  | nil : Sps H [] []
  | cons {v : V} {s : Span} {vs : List V} {ss : List Span} : Spn H v s → Sps H vs ss → Sps H (v :: vs) (s :: ss)
theorem Spn.same {H H' : Hp} {v : V} {s : Span} (h : Spn H v s) (e : Same H H') : Spn H' v s := by
  obtain ⟨t, rfl, ht⟩ := h
  exact ⟨t, rfl, e _ _ ht⟩
theorem Sps.same {H H' : Hp} (e : Same H H') : ∀ {vs : List V} {ss : List Span}, Sps H vs ss → Sps H' vs ss
  | _, _, .nil => .nil
  | _, _, .cons h t => .cons (h.same e) (Sps.same e t)
/-- only lists are changed: spans stay -/
def Lsts (L : List Addr) (H : Hp) : Prop := ∀ p ∈ L, ∀ xs, H p ≠ some (.tup xs)
theorem Pu.lsts {H : Hp} {p : Addr} {n : Nat} (h : Pu H p n) : Lsts [p] H := fun b hb xs => by
  obtain ⟨_, _, _, h1, _⟩ := h
  rw [List.mem_singleton.mp hb, h1]
  exact fun z => by cases z
theorem Lsts.of1 {H : Hp} {l : Addr} {ys : List V} (h : H l = some (.lst ys)) : Lsts [l] H := fun b hb xs => by
  rw [List.mem_singleton.mp hb, h]
  exact fun z => by cases z
theorem Lsts.two {H : Hp} {p q : Addr} (h : Lsts [p] H) (h2 : Lsts [q] H) : Lsts [p, q] H := fun b hb xs => by
  rcases List.mem_cons.mp hb with e | e
  · rw [e]
    exact h p List.mem_cons_self xs
  · exact h2 b e xs
theorem Spn.chg {L : List Addr} {H H' : Hp} {v : V} {s : Span} (h : Spn H v s) (e : Chg L H H') (l : Lsts L H) : Spn H' v s := by
  obtain ⟨t, rfl, ht⟩ := h
  exact ⟨t, rfl, e _ _ (fun q => l t q _ ht) ht⟩
theorem Sps.chg {L : List Addr} {H H' : Hp} (e : Chg L H H') (l : Lsts L H) : ∀ {vs : List V} {ss : List Span}, Sps H vs ss → Sps H' vs ss
  | _, _, .nil => .nil
  | _, _, .cons h t => .cons (h.chg e l) (Sps.chg e l t)
theorem Sps.len {H : Hp} : ∀ {vs : List V} {ss : List Span}, Sps H vs ss → vs.length = ss.length
  | _, _, .nil => rfl
  | _, _, .cons _ t => congrArg (· + 1) t.len
theorem Sps.app {H : Hp} : ∀ {vs ws : List V} {ss ts : List Span}, Sps H vs ss → Sps H ws ts → Sps H (vs ++ ws) (ss ++ ts)
  | _, _, _, _, .nil, h => h
  | _, _, _, _, .cons a t, h => .cons a (Sps.app t h)
theorem Sps.one {H : Hp} {v : V} {s : Span} (h : Spn H v s) : Sps H [v] [s] := .cons h .nil
theorem Sps.get {H : Hp} : ∀ {vs : List V} {ss : List Span} {i : Nat} {v : V}, Sps H vs ss → vs[i]? = some v → ∃ s, ss[i]? = some s ∧ Spn H v s
  | _, _, _, _, .nil, e => by simp at e
  | _, _, 0, v, .cons (s := s) h t, e => ⟨s, rfl, by
      have q := Option.some.inj (show some _ = some v from e)
      rw [← q]
      exact h⟩
  | _, _, i + 1, v, .cons h t, e => Sps.get (i := i) t e
theorem Sps.get' {H : Hp} : ∀ {vs : List V} {ss : List Span} {i : Nat} {s : Span}, Sps H vs ss → ss[i]? = some s → ∃ v, vs[i]? = some v ∧ Spn H v s
  | _, _, _, _, .nil, e => by simp at e
  | _, _, 0, s, .cons (v := v) h t, e => ⟨v, rfl, by
      have q := Option.some.inj (show some _ = some s from e)
      rw [← q]
      exact h⟩
  | _, _, i + 1, v, .cons h t, e => Sps.get' (i := i) t e
theorem Spn.dp {K : PySem.W.Frag} {H : Hp} {v : V} {s : Span} (h : Spn H v s) : Dp K H v (spD s) := by
  obtain ⟨t, rfl, ht⟩ := h
  exact .tup (SqT.of ht) (.cons (.int _) (.cons (.int _) .nil))
theorem Sps.dpAll {K : PySem.W.Frag} {H : Hp} : ∀ {vs : List V} {ss : List Span}, Sps H vs ss → DpAll K H vs (ss.map spD)
  | _, _, .nil => .nil
  | _, _, .cons h t => .cons h.dp t.dpAll
theorem Sps.dp {K : PySem.W.Frag} {H : Hp} {a : Addr} {vs : List V} {ss : List Span} (h : Sps H vs ss) (q : SqL K H a vs) : Dp K H (.ref a) (.list (ss.map spD)) := .lst q h.dpAll
theorem lay_spans : ∀ ss : List Span, PyData.canLayAll0 (ss.map spD) = true ∧ PyData.depthAll (ss.map spD) ≤ 1
  | [] => ⟨rfl, by decide⟩
  | s :: r => by
    obtain ⟨h1, h2⟩ := lay_spans r
    refine ⟨?_, ?_⟩
    · show (PyData.canLay0 (spD s) && PyData.canLayAll0 (r.map spD)) = true
      rw [h1]
      rfl
    · show max (PyData.depth (spD s)) (PyData.depthAll (r.map spD)) ≤ 1
      have e : PyData.depth (spD s) = 1 := rfl
      rw [e]
      omega
theorem shaped_spans (ss : List Span) : SeqAt.shaped (.list (ss.map spD)) = true := by
  obtain ⟨h1, h2⟩ := lay_spans ss
  show (PyData.canLayAll0 (ss.map spD) && decide (PyData.depthAll (ss.map spD) + 1 ≤ 64)) = true
  rw [h1, decide_eq_true (by omega)]
  rfl
theorem eqv_span (s t : Span) : PyData.eqv (spD s) (spD t) = decide (s = t) := by
  obtain ⟨a, b⟩ := s
  obtain ⟨c, d⟩ := t
  simp [PyData.eqv, PyData.eqvAll, spD, Bool.beq_eq_decide_eq]
theorem eqvAll_spans : ∀ ss ts : List Span, PyData.eqvAll (ss.map spD) (ts.map spD) = decide (ss = ts)
  | [], [] => rfl
  | [], _ :: _ => rfl
  | _ :: _, [] => rfl
  | s :: ss, t :: ts => by
    show (PyData.eqv (spD s) (spD t) && PyData.eqvAll (ss.map spD) (ts.map spD)) = _
    rw [eqv_span, eqvAll_spans ss ts]
    by_cases h : s = t <;> by_cases h2 : ss = ts <;> simp [h, h2]
theorem eqv_spans (ss ts : List Span) : PyData.eqv (.list (ss.map spD)) (.list (ts.map spD)) = decide (ss = ts) := eqvAll_spans ss ts
theorem eqv_spans_nil (ss : List Span) : PyData.eqv (.list (ss.map spD)) (.list []) = decide (ss = []) := eqvAll_spans ss []
section
variable {P : Program} {w : World} {K : PySem.W.Frag} {mg : Str → Option Value} {base : Heap}
/-! ### a number, an end, a span -/
def spNumber : Sp := fun vs H Q _ => ∃ (p : Addr) (m : Int) (n : Nat), vs = [.ref p, .int m] ∧ Pu H p n ∧ n + 6 ≤ 1000000000 ∧ 30 ≤ m ∧ m < 2 ^ 60 ∧ ∀ H' r, Chg [p] H H' → Pu H' p (n + 6) → -m ≤ r → r ≤ m → Q (.int r) H'
theorem far_of {m r : Int} (h0 : 0 ≤ r) (h1 : r < 4) (hm : 30 ≤ m) : ∃ f, ([.int 1, .int 4, .int 30, .int m] : List V)[r.toNat]? = some (.int f) ∧ 1 ≤ f ∧ f ≤ m := by
  have h : r = 0 ∨ r = 1 ∨ r = 2 ∨ r = 3 := by omega
  rcases h with rfl | rfl | rfl | rfl
  · exact ⟨1, rfl, by omega, by omega⟩
  · exact ⟨4, rfl, by omega, by omega⟩
  · exact ⟨30, rfl, by omega, by omega⟩
  · exact ⟨m, rfl, by omega, by omega⟩
theorem ok_number (T : Tx K mg) : FnOk P w K mg base CX0 (3) T.f_l_number T.fd_l_number ["_law_purse_here", "_law_most"] spNumber := by
  have G_l_draw : FnOk P w K mg base CX0 _ _ _ _ _ := ok_draw T
  refine T.F_l_number.ok sc_l_number (fun vs H Q E h => ?_) (fun cdv A outer s H vs Q E hr h => ?_)
  · obtain ⟨p, m, n, rfl, _⟩ := h
    rfl
  · obtain ⟨p, m, n, rfl, hp, hn, h0, h1, q⟩ := h
    refine ⟨_, (pss_cons (ps_set (i := 2) sc_l_number.nd rfl (Or.inl rfl) (pe_ix ix_list (pe_lst (pa_cons pe_int (pa_cons pe_int (pa_cons pe_int (pa_cons (pv 1) pa_nil))))) (pe_call G_l_draw (hr.mono (by decide)) (by rfl) T.g_l_draw T.F_l_draw.kp T.b_l_draw .nil pass0 (pa_cons (pv 0) (pa_cons pe_int pa_nil))) (fun _ _ => rfl)))
      (pss_one (ps_ret (pe_op op_sub (pe_call G_l_draw (hr.mono (by decide)) (by rfl) T.g_l_draw T.F_l_draw.kp T.b_l_draw .nil pass0 (pa_cons (pv 0) (pa_cons (pe_op op_add (pe_op op_mul pe_int (pv 2)) pe_int) pa_nil))) (pv 2))))), ?_⟩
    refine ⟨_, rfl, small_le (by simp), fun l nl => ?_⟩
    have s1 := same_upd (o := .lst [.int 1, .int 4, .int 30, .int m]) nl
    have npl : p ≠ l := hp.ne nl
    refine ⟨_, rfl, p, 4, n, rfl, hp.same s1, by omega, by decide, by decide, fun H1 r c1 p1 r0 r1 => ?_⟩
    obtain ⟨f, hf, f0, f1⟩ := far_of r0 r1 h0
    refine ⟨l, _, r, _, rfl, rfl, SqL.of (c1 _ _ (nmem1 npl.symm) upd_same), at_of (j := r.toNat) (by omega) hf, ?_⟩
    refine ⟨_, rfl, _, rfl, _, _, rfl, rfl, .inl ⟨by decide, by decide⟩, _, _, rfl, rfl, p, 2 * f + 1, n + 3, rfl, p1, by omega, by omega, by omega, fun H2 x c2 p2 x0 x1 => ?_⟩
    refine ⟨_, rfl, _, _, rfl, rfl, q _ _ ((Chg.of_same s1).trans (c1.trans c2)) p2 (by omega) (by omega)⟩
def spEnd (K : PySem.W.Frag) : Sp := fun vs H Q _ => ∃ (p e : Addr) (m : Int) (n : Nat) (ns : List Int), vs = [.ref p, .ref e, .int m] ∧ Pu H p n ∧ n + 9 ≤ 1000000000 ∧ SqL K H e (ns.map V.int) ∧ e ≠ p ∧ ns.length ≤ 1000000 ∧ 30 ≤ m ∧ m < 2 ^ 60 ∧
  ∀ H' r, Chg [p] H H' → Pu H' p (n + 9) → -m ≤ r → r ≤ m → Q (.int r) H'
theorem ok_end (T : Tx K mg) : FnOk P w K mg base CX0 (4) T.f_l_end T.fd_l_end ["_law_purse_here", "_law_ends", "_law_most"] (spEnd K) := by
  have G_l_draw : FnOk P w K mg base CX0 _ _ _ _ _ := ok_draw T
  have G_l_number : FnOk P w K mg base CX0 _ _ _ _ _ := ok_number T
  refine T.F_l_end.ok sc_l_end (fun vs H Q E h => ?_) (fun cdv A outer s H vs Q E hr h => ?_)
  · obtain ⟨p, e, m, n, ns, rfl, _⟩ := h
    rfl
  · obtain ⟨p, e, m, n, ns, rfl, hp, hn, hE, hne, hlen, h0, h1, q⟩ := h
    refine ⟨_, (pss_cons (ps_if (PW.pt (pw_and (pt_cmpR (op_neD hr.units) (pv 1) (pe_lst pa_nil) (nomark _)) (pw_and1 (pt_cmpR op_gt (pe_call G_l_draw (hr.mono (by decide)) (by rfl) T.g_l_draw T.F_l_draw.kp T.b_l_draw .nil pass0 (pa_cons (pv 0) (pa_cons pe_int pa_nil))) pe_int (nomark _))))) (pss_cons (ps_set (i := 3) sc_l_end.nd rfl (Or.inl rfl) (pe_op op_sub (pe_op op_add (pe_ix ix_list (pv 1) (pe_call G_l_draw (hr.mono (by decide)) (by rfl) T.g_l_draw T.F_l_draw.kp T.b_l_draw .nil pass0 (pa_cons (pv 0) (pa_cons (pe_callB call_len_seq (by rfl) T.m_len PySem.boot_len (pa_cons (pv 1) pa_nil)) pa_nil))) (fun _ _ => rfl)) (pe_call G_l_draw (hr.mono (by decide)) (by rfl) T.g_l_draw T.F_l_draw.kp T.b_l_draw .nil pass0 (pa_cons (pv 0) (pa_cons pe_int pa_nil)))) pe_int))
      (pss_one (ps_ret (pe_callB (call_max2 rfl) (by rfl) T.m_max (by decide +kernel) (pa_cons (pe_op op_sub pe_int (pv 2)) (pa_cons (pe_callB (call_min2 rfl) (by rfl) T.m_min (by decide +kernel) (pa_cons (pv 2) (pa_cons (pv 3) pa_nil))) pa_nil)))))) pss_nil)
      (pss_one (ps_ret (pe_call G_l_number (hr.mono (by decide)) (by rfl) T.g_l_number T.F_l_number.kp T.b_l_number .nil pass0 (pa_cons (pv 0) (pa_cons (pv 2) pa_nil)))))), ?_⟩
    refine ⟨_, rfl, Nat.zero_le _, fun l nl => ?_⟩
    have s1 := same_upd (o := .lst []) nl
    refine ⟨_, _, .lst (s1.seq hE) (dpAll_ints ns), .lst (SqL.of upd_same) .nil, shaped_ints ns, shaped_nil, _, rfl, ?_⟩
    rw [eqv_ints_nil]
    by_cases hnil : ns = []
    · rw [decide_eq_true hnil]
      refine iteF (iteF ?_)
      exact ⟨_, rfl, _, rfl, p, m, n, rfl, hp.same s1, by omega, h0, h1, fun H2 x c2 p2 x0 x1 => q _ _ ((Chg.of_same s1).trans c2) (p2.mono (by omega)) x0 x1⟩
    · rw [decide_eq_false hnil]
      have hl0 : 0 < ns.length := List.length_pos_iff.mpr hnil
      refine iteT ?_
      refine ⟨_, rfl, p, 3, n, rfl, hp.same s1, by omega, by decide, by decide, fun H1 r c1 p1 r0 r1 => ?_⟩
      have hE1 : SqL K H1 e (ns.map V.int) := c1.seq (nmem1 hne) (s1.seq hE)
      refine ⟨_, _, rfl, rfl, _, rfl, ite2 (fun _ => ?_) (fun _ => ?_)⟩
      · refine ⟨_, rfl, _, rfl, _, rfl, e, _, rfl, .inl hE1, p, ns.length, n + 3, ?_, p1, by omega, by omega, by omega, fun H2 x c2 p2 x0 x1 => ?_⟩
        · rw [List.length_map]
          rfl
        have hx : x.toNat < ns.length := by omega
        refine ⟨e, _, x, .int ns[x.toNat], rfl, rfl, c2.seq (nmem1 hne) hE1, at_of (j := x.toNat) (by omega) ?_, ?_⟩
        · rw [List.getElem?_map, List.getElem?_eq_getElem hx]
          rfl
        refine ⟨_, rfl, p, 3, n + 6, rfl, p2, by omega, by decide, by decide, fun H3 y c3 p3 y0 y1 => ?_⟩
        refine ⟨_, _, rfl, rfl, _, _, rfl, rfl, ?_⟩
        refine ⟨_, rfl, _, _, rfl, rfl, _, rfl, _, rfl, _, _, rfl, _, _, rfl, ?_⟩
        refine q _ _ ((Chg.of_same s1).trans (c1.trans (c2.trans c3))) p3 ?_ ?_
        · split <;> split <;> omega
        · split <;> split <;> omega
      · exact ⟨_, rfl, _, rfl, p, m, n + 3, rfl, p1, by omega, h0, h1, fun H2 x c2 p2 x0 x1 => q _ _ ((Chg.of_same s1).trans (c1.trans c2)) p2 x0 x1⟩
theorem min3_of (a b c : Int) : ∃ z, nuMin3 (.int a) (.int b) (.int c) = some (.int z) ∧ z ≤ a ∧ z ≤ b ∧ z ≤ c ∧ (z = a ∨ z = b ∨ z = c) := by
  have e2 : ∀ x y : Int, nuMin2 (.int x) (.int y) = some (.int (if y < x then y else x)) := fun x y => by
    show (some (decide (y < x))).map (fun c => if c = true then V.int y else V.int x) = _
    by_cases h : y < x <;> simp [h]
  refine ⟨if c < (if b < a then b else a) then c else (if b < a then b else a), ?_, ?_⟩
  · unfold nuMin3
    rw [e2]
    show nuMin2 _ _ = _
    rw [e2]
  · split <;> split <;> omega
theorem max3_of (a b c : Int) : ∃ z, nuMax3 (.int a) (.int b) (.int c) = some (.int z) ∧ a ≤ z ∧ b ≤ z ∧ c ≤ z ∧ (z = a ∨ z = b ∨ z = c) := by
  have e2 : ∀ x y : Int, nuMax2 (.int x) (.int y) = some (.int (if x < y then y else x)) := fun x y => by
    show (some (decide (x < y))).map (fun c => if c = true then V.int y else V.int x) = _
    by_cases h : x < y <;> simp [h]
  refine ⟨if (if a < b then b else a) < c then c else (if a < b then b else a), ?_, ?_⟩
  · unfold nuMax3
    rw [e2]
    show nuMax2 _ _ = _
    rw [e2]
  · split <;> split <;> omega
def spSpan : Sp := fun vs H Q _ => ∃ (p e : Addr) (m : Int) (n : Nat) (ns : List Int), vs = [.ref p, .ref e, .int m] ∧ Pu H p n ∧ n + 18 ≤ 1000000000 ∧ H e = some (.lst (ns.map V.int)) ∧ e ≠ p ∧ ns.length ≤ 100000 ∧ 30 ≤ m ∧ m < 2 ^ 60 ∧
  ∀ H' t lo hi, Chg [p, e] H H' → Pu H' p (n + 18) → H' e = some (.lst ((ns ++ [lo, hi]).map V.int)) → H t = none → H' t = some (.tup [.int lo, .int hi]) → -m ≤ lo → lo < hi → hi ≤ m → Q (.ref t) H'
theorem ok_span (T : Tx K mg) : FnOk P w K mg base CX0 (5) T.f_l_span T.fd_l_span ["_law_purse_here", "_law_ends", "_law_most"] spSpan := by
  have G_l_end : FnOk P w K mg base CX0 _ _ _ _ _ := ok_end T
  refine T.F_l_span.ok sc_l_span (fun vs H Q E h => ?_) (fun cdv A outer s H vs Q E hr h => ?_)
  · obtain ⟨p, e, m, n, ns, rfl, _⟩ := h
    rfl
  · obtain ⟨p, e, m, n, ns, rfl, hp, hn, hE, hne, hlen, h0, h1, q⟩ := h
    refine ⟨_, (pss_cons (ps_set (i := 3) sc_l_span.nd rfl (Or.inl rfl) (pe_call G_l_end (hr.mono (by decide)) (by rfl) T.g_l_end T.F_l_end.kp T.b_l_end .nil pass0 (pa_cons (pv 0) (pa_cons (pv 1) (pa_cons (pv 2) pa_nil)))))
      (pss_cons (ps_set (i := 4) sc_l_span.nd rfl (Or.inl rfl) (pe_call G_l_end (hr.mono (by decide)) (by rfl) T.g_l_end T.F_l_end.kp T.b_l_end .nil pass0 (pa_cons (pv 0) (pa_cons (pe_op op_cat (pv 1) (pe_lst (pa_cons (pv 3) pa_nil))) (pa_cons (pv 2) pa_nil)))))
      (pss_cons (ps_set (i := 5) sc_l_span.nd rfl (Or.inl rfl) (pe_callB (call_min3Nu rfl) (by rfl) T.m_min (by decide +kernel) (pa_cons (pv 3) (pa_cons (pv 4) (pa_cons (pe_op op_sub (pv 2) pe_int) pa_nil)))))
      (pss_cons (ps_set (i := 6) sc_l_span.nd rfl (Or.inl rfl) (pe_callB (call_max3Nu rfl) (by rfl) T.m_max (by decide +kernel) (pa_cons (pv 3) (pa_cons (pv 4) (pa_cons (pe_op op_add (pv 5) pe_int) pa_nil)))))
      (pss_cons (ps_expr (pe_bm PySem.F.plainAttrs_list PySem.F.slot_list_append PySem.F.type_list_append mt_append (pv 1) (pa_cons (pv 5) pa_nil)))
      (pss_cons (ps_expr (pe_bm PySem.F.plainAttrs_list PySem.F.slot_list_append PySem.F.type_list_append mt_append (pv 1) (pa_cons (pv 6) pa_nil)))
      (pss_one (ps_ret (pe_tup (pa_cons (pv 5) (pa_cons (pv 6) pa_nil))))))))))), ?_⟩
    have up : ∀ {H H' : Hp}, Chg [p] H H' → Chg [p, e] H H' := fun c => c.mono fun x hx => by
      rw [List.mem_singleton.mp hx]
      exact List.mem_cons_self
    refine ⟨_, rfl, _, rfl, _, rfl, p, e, m, n, ns, rfl, hp, by omega, SqL.of hE, hne, by omega, h0, h1, fun H1 x c1 p1 x0 x1 => ?_⟩
    have hE1 : H1 e = some (.lst (ns.map V.int)) := c1 _ _ (nmem1 hne) hE
    refine ⟨_, rfl, _, rfl, _, rfl, small_le (by simp), fun l1 nl1 => ?_⟩
    have s1 := same_upd (o := .lst [.int x]) nl1
    refine ⟨e, l1, _, _, rfl, rfl, s1 _ _ hE1, upd_same, ?_, fun l2 nl2 => ?_⟩
    · rw [List.length_map]
      exact small_le (by simp; omega)
    have s2 := same_upd (o := .lst (ns.map V.int ++ [.int x])) nl2
    have p3 := (p1.same s1).same s2
    refine ⟨_, rfl, p, l2, m, n + 9, ns ++ [x], rfl, p3, by omega, SqL.of ?_, ?_, ?_, h0, h1, fun H2 y c2 p2 y0 y1 => ?_⟩
    · rw [List.map_append]
      exact upd_same
    · exact ((p1.same s1).ne nl2).symm
    · simp
      omega
    have hE2 : H2 e = some (.lst (ns.map V.int)) := c2 _ _ (nmem1 hne) (s2 _ _ (s1 _ _ hE1))
    have cc : Chg [p] H H2 := c1.trans ((Chg.of_same s1).trans ((Chg.of_same s2).trans c2))
    obtain ⟨lo, elo, l_1, l_2, l_3, l_4⟩ := min3_of x y (m - 1)
    refine ⟨_, rfl, _, rfl, _, rfl, _, _, rfl, rfl, _, _, _, _, rfl, elo, ?_⟩
    obtain ⟨hi, ehi, i_1, i_2, i_3, i_4⟩ := max3_of x y (lo + 1)
    refine ⟨_, rfl, _, rfl, _, rfl, _, _, rfl, rfl, _, _, _, _, rfl, ehi, ?_⟩
    refine ⟨_, rfl, .inl ⟨rfl, _, SqL.of hE2⟩, _, rfl, e, _, _, rfl, rfl, hE2, ?_, ?_⟩
    · rw [List.length_map]
      exact small_lt (by omega)
    have hE3 : (upd H2 e (.lst (ns.map V.int ++ [.int lo]))) e = some (.lst (ns.map V.int ++ [.int lo])) := upd_same
    refine ⟨_, rfl, .inl ⟨rfl, _, SqL.of hE3⟩, _, rfl, e, _, _, rfl, rfl, hE3, ?_, ?_⟩
    · rw [List.length_append, List.length_map]
      exact small_lt (by simp; omega)
    rw [upd_upd]
    refine ⟨_, rfl, _, rfl, (by show 2 ≤ sizeLine; decide), fun t nt => ?_⟩
    have hE4 : (upd H2 e (.lst (ns.map V.int ++ [.int lo] ++ [.int hi]))) e = some (.lst (ns.map V.int ++ [.int lo] ++ [.int hi])) := upd_same
    have c5 : Chg [p, e] H (upd (upd H2 e (.lst (ns.map V.int ++ [.int lo] ++ [.int hi]))) t (.tup [.int lo, .int hi])) := (up cc).trans ((Chg.upd (List.mem_cons_of_mem _ List.mem_cons_self)).trans (Chg.of_same (same_upd nt)))
    have te : t ≠ e := (ne_of_none hE4 nt).symm
    have p5 : Pu (upd H2 e (.lst (ns.map V.int ++ [.int lo] ++ [.int hi]))) p (n + 18) := p2.chg (L := [e]) (Chg.upd List.mem_cons_self) (nmem1 hne.symm)
    have tp : t ≠ p := (p5.ne nt).symm
    refine q _ t lo hi c5 (p5.same (same_upd nt)) ?_ ?_ upd_same (by omega) (by omega) (by omega)
    · rw [upd_ne te.symm, upd_same, List.map_append, List.append_assoc]
      rfl
    · rw [upd_ne te] at nt
      exact cc.free (nmem1 tp) nt
end
section
variable {P : Program} {w : World} {K : PySem.W.Frag} {mg : Str → Option Value} {base : Heap}
/-! ### the program: spans -/
def isPlace (i : Int) : Bool := decide (-999999999999 ≤ i) && decide (i ≤ 999999999999)
def isSpan (s : Span) : Bool := isPlace s.1 && isPlace s.2 && decide (s.1 < s.2)
theorem isSpan_iff (s : Span) : isSpan s = true ↔ (-999999999999 ≤ s.1 ∧ s.1 < s.2 ∧ s.2 ≤ 999999999999) := by
  unfold isSpan isPlace
  simp only [Bool.and_eq_true, decide_eq_true_eq]
  omega
def spWhole : Sp := fun vs H Q _ => ∃ i : Int, vs = [.int i] ∧ Q (.bl true) H
theorem ok_is_whole (T : Tx K mg) : FnOk P w K mg base CX0 (1) T.f_is_whole T.fd_is_whole ["number"] spWhole := by
  refine T.F_is_whole.ok sc_is_whole (fun vs H Q E h => ?_) (fun cdv A outer s H vs Q E hr h => ?_)
  · obtain ⟨i, rfl, _⟩ := h
    rfl
  · obtain ⟨i, rfl, q⟩ := h
    refine ⟨_, (pss_one (ps_ret (pe_and (pe_callB call_isi (by rfl) T.m_isinstance (by decide +kernel) (pa_cons (pv 0) (pa_cons (pe_bltn (v := .ty "int") (by rfl) T.m_int (by decide +kernel) rfl) pa_nil))) (pe_one (pe_not (pe_callB call_isi (by rfl) T.m_isinstance (by decide +kernel) (pa_cons (pv 0) (pa_cons (pe_bltn (v := .ty "bool") (by rfl) T.m_bool (by decide +kernel) rfl) pa_nil)))))))), ?_⟩
    refine ⟨_, rfl, _, _, _, _, true, rfl, .ty _, .base (.int i), kit_ty (by decide +kernel), true, rfl, iteT ?_⟩
    exact ⟨_, rfl, _, _, _, _, false, rfl, .ty _, .base (.int i), kit_ty (by decide +kernel), false, rfl, q⟩
def spPlace : Sp := fun vs H Q _ => ∃ i : Int, vs = [.int i] ∧ Q (.bl (isPlace i)) H
theorem ok_is_place (T : Tx K mg) : FnOk P w K mg base CX0 (2) T.f_is_place T.fd_is_place ["number"] spPlace := by
  have G_is_whole : FnOk P w K mg base CX0 _ _ _ _ _ := ok_is_whole T
  refine T.F_is_place.ok sc_is_place (fun vs H Q E h => ?_) (fun cdv A outer s H vs Q E hr h => ?_)
  · obtain ⟨i, rfl, _⟩ := h
    rfl
  · obtain ⟨i, rfl, q⟩ := h
    refine ⟨_, (pss_one (ps_ret (pe_and (pe_call G_is_whole (hr.mono (by decide)) (by rfl) T.g_is_whole T.F_is_whole.kp T.b_is_whole .nil pass0 (pa_cons (pv 0) pa_nil)) (pe_one (pe_chain op_le op_le (pe_glob (v := .int (-999999999999)) (by rfl) T.c_LEAST_PLACE ⟨_, rfl⟩) (pv 0) (pe_glob (v := .int (999999999999)) (by rfl) T.c_GREATEST_PLACE ⟨_, rfl⟩)))))), ?_⟩
    refine ⟨_, rfl, i, rfl, true, rfl, iteT ?_⟩
    refine ⟨_, rfl, _, _, rfl, rfl, _, rfl, ?_⟩
    unfold isPlace at q
    by_cases h : -999999999999 ≤ i
    · rw [decide_eq_true h] at q ⊢
      exact iteT ⟨_, _, rfl, rfl, q⟩
    · rw [decide_eq_false h] at q ⊢
      exact iteF q
def spIsSpan : Sp := fun vs H Q _ => ∃ (v : V) (s : Span), vs = [v] ∧ Spn H v s ∧ Q (.bl (isSpan s)) H
theorem ok_is_span (T : Tx K mg) : FnOk P w K mg base CX0 (3) T.f_is_span T.fd_is_span ["span"] spIsSpan := by
  have G_is_place : FnOk P w K mg base CX0 _ _ _ _ _ := ok_is_place T
  refine T.F_is_span.ok sc_is_span (fun vs H Q E h => ?_) (fun cdv A outer s H vs Q E hr h => ?_)
  · obtain ⟨v, s, rfl, _⟩ := h
    rfl
  · obtain ⟨v, s, rfl, ⟨t, rfl, ht⟩, q⟩ := h
    refine ⟨_, (pss_cons (ps_if (PW.pt (pw_or (pt_not (pt_val (pe_callB call_isi (by rfl) T.m_isinstance (by decide +kernel) (pa_cons (pv 0) (pa_cons (pe_bltn (v := .ty "tuple") (by rfl) T.m_tuple (by decide +kernel) rfl) pa_nil))))) (pw_or1 (pt_cmpR op_ne (pe_callB call_len_seq (by rfl) T.m_len PySem.boot_len (pa_cons (pv 0) pa_nil)) pe_int (nomark _))))) (pss_one (ps_ret pe_bl)) pss_nil)
      (pss_cons (ps_asg (pv 0) (pg_tup rfl (pgs_cons (pg_name (i := 1) sc_is_span.nd rfl (Or.inl rfl)) (pgs_cons (pg_name (i := 2) sc_is_span.nd rfl (Or.inl rfl)) pgs_nil))))
      (pss_one (ps_ret (pe_and (pe_call G_is_place (hr.mono (by decide)) (by rfl) T.g_is_place T.F_is_place.kp T.b_is_place .nil pass0 (pa_cons (pv 1) pa_nil)) (pe_and (pe_call G_is_place (hr.mono (by decide)) (by rfl) T.g_is_place T.F_is_place.kp T.b_is_place .nil pass0 (pa_cons (pv 2) pa_nil)) (pe_one (pe_cmpR op_lt (pv 1) (pv 2) (nomark _))))))))), ?_⟩
    refine ⟨_, rfl, _, _, _, _, true, rfl, .ty _, .base (.tup ht), kit_ty (by decide +kernel), true, rfl, iteF ?_⟩
    refine ⟨_, rfl, t, _, rfl, .inr (SqT.of ht), rfl, _, rfl, iteF ?_⟩
    refine ⟨_, rfl, t, _, rfl, SqT.of ht, rfl, _, _, rfl, _, _, rfl, rfl, ?_⟩
    unfold isSpan at q
    refine ⟨_, rfl, s.1, rfl, _, rfl, ?_⟩
    by_cases h1 : isPlace s.1 = true
    · rw [h1] at q ⊢
      refine iteT ⟨_, rfl, s.2, rfl, _, rfl, ?_⟩
      by_cases h2 : isPlace s.2 = true
      · rw [h2] at q ⊢
        exact iteT ⟨_, rfl, _, rfl, _, _, rfl, rfl, q⟩
      · rw [Bool.not_eq_true] at h2
        rw [h2] at q ⊢
        exact iteF q
    · rw [Bool.not_eq_true] at h1
      rw [h1] at q ⊢
      exact iteF q
def spCheck (C : Addr) : Sp := fun vs H Q E => ∃ (v : V) (s : Span), vs = [v] ∧ Spn H v s ∧ (isSpan s = true → Q .non H) ∧ (isSpan s = false → E (.ref C) none H)
theorem ok_check_span (T : Tx K mg) : FnOk P w K mg base (L2.CX P w) (4) T.f_check_span T.fd_check_span ["span"] (spCheck T.C_NoSpan) := by
  have G_is_span : FnOk P w K mg base CX0 _ _ _ _ _ := ok_is_span T
  refine T.F_check_span.okX sc_check_span (fun vs H Q E h => ?_) (fun cdv A outer s H vs Q E hr h => ?_)
  · obtain ⟨v, s, rfl, _⟩ := h
    rfl
  · obtain ⟨v, s, rfl, hv, q, e⟩ := h
    refine ⟨_, (pss_one (ps_if (pt_not (pt_val (pe_call G_is_span (hr.mono (by decide)) (by rfl) T.g_is_span T.F_is_span.kp T.b_is_span .nil pass0 (pa_cons (pv 0) pa_nil)))) (pss_one (ps_raise (by rfl) (takes_of rfl rfl rfl rfl) (pmk_own PySem.F.excBase_ValueError T.x_NoSpan T.g_NoSpan T.k_NoSpan (raises_own T.b_NoSpan T.t_NoSpan) (by exact rfl)))) pss_nil)), ?_⟩
    refine ⟨_, rfl, v, s, rfl, hv, _, rfl, ?_⟩
    by_cases h : isSpan s = true
    · rw [h]
      exact iteF (q h)
    · rw [Bool.not_eq_true] at h
      rw [h]
      exact iteT (e h)
def spLength (C : Addr) : Sp := fun vs H Q E => ∃ (v : V) (s : Span), vs = [v] ∧ Spn H v s ∧ (isSpan s = true → Q (.int (s.2 - s.1)) H) ∧ (isSpan s = false → E (.ref C) none H)
theorem ok_length_of (T : Tx K mg) : FnOk P w K mg base (L2.CX P w) (5) T.f_length_of T.fd_length_of ["span"] (spLength T.C_NoSpan) := by
  have G_check_span : FnOk P w K mg base (L2.CX P w) _ _ _ _ _ := ok_check_span T
  refine T.F_length_of.okX sc_length_of (fun vs H Q E h => ?_) (fun cdv A outer s H vs Q E hr h => ?_)
  · obtain ⟨v, s, rfl, _⟩ := h
    rfl
  · obtain ⟨v, s, rfl, hv, q, e⟩ := h
    refine ⟨_, (pss_cons (ps_expr (pe_call G_check_span (hr.mono (by decide)) (by rfl) T.g_check_span T.F_check_span.kp T.b_check_span .nil (passes_call (takes_of rfl rfl rfl rfl) (fun _ _ _ _ h => h)) (pa_cons (pv 0) pa_nil)))
      (pss_cons (ps_asg (pv 0) (pg_tup rfl (pgs_cons (pg_name (i := 1) sc_length_of.nd rfl (Or.inl rfl)) (pgs_cons (pg_name (i := 2) sc_length_of.nd rfl (Or.inl rfl)) pgs_nil))))
      (pss_one (ps_ret (pe_op op_sub (pv 2) (pv 1)))))), ?_⟩
    refine ⟨_, rfl, v, s, rfl, hv, fun h => ?_, e⟩
    obtain ⟨t, rfl, ht⟩ := hv
    refine ⟨_, rfl, t, _, rfl, SqT.of ht, rfl, _, _, rfl, _, _, rfl, rfl, ?_⟩
    exact ⟨_, rfl, _, rfl, _, _, rfl, rfl, q h⟩
def spTwo (C : Addr) (f : Span → Span → Bool) : Sp := fun vs H Q E => ∃ (v u : V) (s r : Span), vs = [v, u] ∧ Spn H v s ∧ Spn H u r ∧ (isSpan s = true → isSpan r = true → Q (.bl (f s r)) H) ∧ (isSpan s = false → E (.ref C) none H) ∧ (isSpan s = true → isSpan r = false → E (.ref C) none H)
def meetB (s r : Span) : Bool := decide (s.1 < r.2) && decide (r.1 < s.2)
def withinB (s r : Span) : Bool := decide (r.1 ≤ s.1) && decide (s.2 ≤ r.2)
def spBoth (f : Span → Span → Bool) : Sp := fun vs H Q _ => ∃ (v u : V) (s r : Span), vs = [v, u] ∧ Spn H v s ∧ Spn H u r ∧ Q (.bl (f s r)) H
theorem ok_share_a_place (T : Tx K mg) : FnOk P w K mg base CX0 (1) T.f_share_a_place T.fd_share_a_place ["one", "other"] (spBoth meetB) := by
  refine T.F_share_a_place.ok sc_share_a_place (fun vs H Q E h => ?_) (fun cdv A outer s H vs Q E hr h => ?_)
  · obtain ⟨v, u, s, r, rfl, _⟩ := h
    rfl
  · obtain ⟨v, u, s, r, rfl, ⟨t, rfl, ht⟩, ⟨t2, rfl, ht2⟩, q⟩ := h
    refine ⟨_, (pss_one (ps_ret (pe_and (pe_cmpR op_lt (pe_ix ix_tup (pv 0) pe_int (fun _ _ => rfl)) (pe_ix ix_tup (pv 1) pe_int (fun _ _ => rfl)) (nomark _)) (pe_one (pe_cmpR op_lt (pe_ix ix_tup (pv 1) pe_int (fun _ _ => rfl)) (pe_ix ix_tup (pv 0) pe_int (fun _ _ => rfl)) (nomark _)))))), ?_⟩
    unfold meetB at q
    refine ⟨_, rfl, t, _, _, _, rfl, rfl, SqT.of ht, atI_nat (j := 0) rfl, _, rfl, t2, _, _, _, rfl, rfl, SqT.of ht2, atI_nat (j := 1) rfl, _, _, rfl, rfl, _, rfl, ?_⟩
    by_cases h : s.1 < r.2
    · rw [decide_eq_true h] at q ⊢
      exact iteT ⟨_, rfl, t2, _, _, _, rfl, rfl, SqT.of ht2, atI_nat (j := 0) rfl, _, rfl, t, _, _, _, rfl, rfl, SqT.of ht, atI_nat (j := 1) rfl, _, _, rfl, rfl, q⟩
    · rw [decide_eq_false h] at q ⊢
      exact iteF q
theorem ok_is_inside (T : Tx K mg) : FnOk P w K mg base CX0 (1) T.f_is_inside T.fd_is_inside ["one", "other"] (spBoth withinB) := by
  refine T.F_is_inside.ok sc_is_inside (fun vs H Q E h => ?_) (fun cdv A outer s H vs Q E hr h => ?_)
  · obtain ⟨v, u, s, r, rfl, _⟩ := h
    rfl
  · obtain ⟨v, u, s, r, rfl, ⟨t, rfl, ht⟩, ⟨t2, rfl, ht2⟩, q⟩ := h
    refine ⟨_, (pss_one (ps_ret (pe_and (pe_cmpR op_le (pe_ix ix_tup (pv 1) pe_int (fun _ _ => rfl)) (pe_ix ix_tup (pv 0) pe_int (fun _ _ => rfl)) (nomark _)) (pe_one (pe_cmpR op_le (pe_ix ix_tup (pv 0) pe_int (fun _ _ => rfl)) (pe_ix ix_tup (pv 1) pe_int (fun _ _ => rfl)) (nomark _)))))), ?_⟩
    unfold withinB at q
    refine ⟨_, rfl, t2, _, _, _, rfl, rfl, SqT.of ht2, atI_nat (j := 0) rfl, _, rfl, t, _, _, _, rfl, rfl, SqT.of ht, atI_nat (j := 0) rfl, _, _, rfl, rfl, _, rfl, ?_⟩
    by_cases h : r.1 ≤ s.1
    · rw [decide_eq_true h] at q ⊢
      exact iteT ⟨_, rfl, t, _, _, _, rfl, rfl, SqT.of ht, atI_nat (j := 1) rfl, _, rfl, t2, _, _, _, rfl, rfl, SqT.of ht2, atI_nat (j := 1) rfl, _, _, rfl, rfl, q⟩
    · rw [decide_eq_false h] at q ⊢
      exact iteF q
theorem ok_meet (T : Tx K mg) : FnOk P w K mg base (L2.CX P w) (5) T.f_meet T.fd_meet ["one", "other"] (spTwo T.C_NoSpan meetB) := by
  have G_check_span : FnOk P w K mg base (L2.CX P w) _ _ _ _ _ := ok_check_span T
  have G_share_a_place : FnOk P w K mg base CX0 _ _ _ _ _ := ok_share_a_place T
  refine T.F_meet.okX sc_meet (fun vs H Q E h => ?_) (fun cdv A outer s H vs Q E hr h => ?_)
  · obtain ⟨v, u, s, r, rfl, _⟩ := h
    rfl
  · obtain ⟨v, u, s, r, rfl, hv, hu, q, e1, e2⟩ := h
    refine ⟨_, (pss_cons (ps_expr (pe_call G_check_span (hr.mono (by decide)) (by rfl) T.g_check_span T.F_check_span.kp T.b_check_span .nil (passes_call (takes_of rfl rfl rfl rfl) (fun _ _ _ _ h => h)) (pa_cons (pv 0) pa_nil)))
      (pss_cons (ps_expr (pe_call G_check_span (hr.mono (by decide)) (by rfl) T.g_check_span T.F_check_span.kp T.b_check_span .nil (passes_call (takes_of rfl rfl rfl rfl) (fun _ _ _ _ h => h)) (pa_cons (pv 1) pa_nil)))
      (pss_one (ps_ret (pe_call G_share_a_place (hr.mono (by decide)) (by rfl) T.g_share_a_place T.F_share_a_place.kp T.b_share_a_place .nil pass0 (pa_cons (pv 0) (pa_cons (pv 1) pa_nil))))))), ?_⟩
    exact ⟨_, rfl, v, s, rfl, hv, fun h1 => ⟨_, rfl, u, r, rfl, hu, fun h2 => ⟨_, rfl, _, rfl, v, u, s, r, rfl, hv, hu, q h1 h2⟩, e2 h1⟩, e1⟩
theorem ok_lies_within (T : Tx K mg) : FnOk P w K mg base (L2.CX P w) (5) T.f_lies_within T.fd_lies_within ["one", "other"] (spTwo T.C_NoSpan withinB) := by
  have G_check_span : FnOk P w K mg base (L2.CX P w) _ _ _ _ _ := ok_check_span T
  have G_is_inside : FnOk P w K mg base CX0 _ _ _ _ _ := ok_is_inside T
  refine T.F_lies_within.okX sc_lies_within (fun vs H Q E h => ?_) (fun cdv A outer s H vs Q E hr h => ?_)
  · obtain ⟨v, u, s, r, rfl, _⟩ := h
    rfl
  · obtain ⟨v, u, s, r, rfl, hv, hu, q, e1, e2⟩ := h
    refine ⟨_, (pss_cons (ps_expr (pe_call G_check_span (hr.mono (by decide)) (by rfl) T.g_check_span T.F_check_span.kp T.b_check_span .nil (passes_call (takes_of rfl rfl rfl rfl) (fun _ _ _ _ h => h)) (pa_cons (pv 0) pa_nil)))
      (pss_cons (ps_expr (pe_call G_check_span (hr.mono (by decide)) (by rfl) T.g_check_span T.F_check_span.kp T.b_check_span .nil (passes_call (takes_of rfl rfl rfl rfl) (fun _ _ _ _ h => h)) (pa_cons (pv 1) pa_nil)))
      (pss_one (ps_ret (pe_call G_is_inside (hr.mono (by decide)) (by rfl) T.g_is_inside T.F_is_inside.kp T.b_is_inside .nil pass0 (pa_cons (pv 0) (pa_cons (pv 1) pa_nil))))))), ?_⟩
    exact ⟨_, rfl, v, s, rfl, hv, fun h1 => ⟨_, rfl, u, r, rfl, hu, fun h2 => ⟨_, rfl, _, rfl, v, u, s, r, rfl, hv, hu, q h1 h2⟩, e2 h1⟩, e1⟩
end
/-! ### exceptions as values -/
/-- what stands at a is an exception of the class cls -/
def ExP (cls : Value) (a : Addr) : HO := .ext fun h => ∃ (ob : Obj) (fv : Array Value), h.get? a = some ob ∧ Zc cls none ob ∧ ob.data = .fields fv
def IsEx (H : Hp) (cls : Value) (a : Addr) : Prop := ∃ φ : Heap → Prop, H a = some (.ext φ) ∧ ∀ h, φ h → ∃ (ob : Obj) (fv : Array Value), h.get? a = some ob ∧ Zc cls none ob ∧ ob.data = .fields fv
theorem isEx_P {H : Hp} {cls : Value} {a : Addr} (e : H a = some (ExP cls a)) : IsEx H cls a := ⟨_, e, fun _ q => q⟩
theorem isEx_O {H : Hp} {cls : Value} {a : Addr} (e : H a = some (ExO cls a)) : IsEx H cls a := ⟨_, e, fun _ q => by
  obtain ⟨ob, fv, h1, h2, h3, _⟩ := q
  exact ⟨ob, fv, h1, h2, h3⟩⟩
theorem IsEx.same {H H' : Hp} {cls : Value} {a : Addr} (x : IsEx H cls a) (e : Same H H') : IsEx H' cls a := by
  obtain ⟨φ, h1, h2⟩ := x
  exact ⟨φ, e _ _ h1, h2⟩
/-- isinstance(x, c), x an exception that is tracked -/
def rIsX (K : PySem.W.Frag) : List V → Hp → VK → Prop := fun xs H Q => ∃ (a D : Addr) (c : V) (u : Value) (b : Bool), xs = [.ref a, c] ∧ IsEx H (.ref D) a ∧ ExcC K D ∧ ClsV c u ∧ PySem.W.kitOne K (.ref D) u = some b ∧ Q (.bl b) H
theorem call_isX {X : Cx} : CallR X (.builtin "isinstance") (rIsX X.K) := by
  intro pins s σ H xs us Q I r hh
  obtain ⟨a, D, c, u, b, rfl, ⟨φ, hφ, ex⟩, C, kc, e, q⟩ := hh
  obtain ⟨u1, u2, rfl, r1, r2⟩ := vals2 r
  have e2 := kc.eq r2
  subst e2
  cases (show u1 = Value.ref a from r1)
  obtain ⟨p, _, _⟩ := (show ObjOk X.prog X.w H s.heap a (.ext φ) from I.hok a _ hφ)
  obtain ⟨⟨oc, od, oda, osl⟩, fv, h1, ⟨z1, z2⟩, h3⟩ := ex _ p
  dsimp only at z1 z2 h3
  subst z1 z2 h3
  have J : PySem.W.InstAt s.heap a ⟨.ref D, none, .fields fv, osl⟩ D none := ⟨h1, rfl, rfl, trivial⟩
  have kx := PySem.W.handS_kitx_exc (ox := ⟨.ref D, none, .fields fv, osl⟩) (x := a) C.hg C.hk C.hs C.hd C.ha C.hn C.ht C.hm
  exact PySem.W.kia_one kx I.kIn J e (fun z => nomatch z) fun tk => ⟨.bl b, H, I.tok tk, rfl, q⟩
/-- a tracked exception, or any other value -/
def rIsY (K : PySem.W.Frag) : List V → Hp → VK → Prop := fun xs H Q => rIsX K xs H Q ∨ rIsi K xs H Q
theorem call_isY {X : Cx} : CallR X (.builtin "isinstance") (rIsY X.K) := fun pins s σ H xs us Q I r hh => by
  rcases hh with hh | hh
  · exact call_isX pins s σ H xs us Q I r hh
  · exact call_isi pins s σ H xs us Q I r hh
/-- X(), an own exception class without own __init__, as a value -/
theorem pe_exc0 {X : Cx} {C : Addr} {bmB : List Value} {B newId initId : String} {x : Str} {p pos : Pos} (F : ExcBaseFacts B newId initId bmB) (q : PySem.W.excIn X.K C bmB newId = true) (gC : X.mg x = some (.ref C))
    (kC : PySem.W.keepIn X.K (.ref C) = true) (hg : Gl X x) (hdb : (x == ("__debug__" : Str)) = false := by decide) :
    PE X (.Call (.Name x p) [] [] pos) (fun _ H Q => ∀ a, H a = none → Q (.ref a) (upd H a (ExO (.ref C) a))) := by
  constructor
  intro pins s σ H Q I hh
  refine wpAny_Call_Name_kw (ld_glob I hg gC ?_ hdb)
  refine PySem.W.callWith_K0 I.kIn kC ?_
  rw [List.append_nil]
  obtain ⟨_, _, _, _, _, _, _, _, _, _, _, _, _, _, _, _, _, hC, hN, hni, tl⟩ := exc_obj I.kIn q
  refine wpAny_call_exc_subT F tl hC hN hni (fun h' a hm => ?_) (Nat.zero_le _)
  have hn : H a = none := I.hok.gone hm.new
  obtain ⟨t, ht, _, _⟩ := hm.there
  exact ⟨.ref a, _, I.laidN hm.keeps hm.new hn (exO_ok ht ⟨rfl, rfl⟩ rfl rfl rfl (by decide : 4 < 6)), rfl, hh a hn⟩
/-- an exception that stands pinned, younger than the entry, may be tracked -/
theorem inv_track {X : Cx} {pins : List (Addr × Obj)} {σ : L2.St} {H : Hp} {s : Shared} {a : Addr} {ob : Obj} {fv : Array Value} {cls : Value} (I : Inv X ((a, ob) :: pins) σ H s) (hz : Zc cls none ob) (hd : ob.data = .fields fv)
    (h0 : ∀ o, X.s_0.heap.get? a ≠ some o) (hp : ∀ p ∈ X.pn ++ pins, p.1 ≠ a) : Inv X pins σ (upd H a (ExP cls a)) s := by
  obtain ⟨g1, g2, g3, g4, g5⟩ := I.pin (a, ob) (List.mem_append_right _ List.mem_cons_self)
  have out : ∀ p ∈ X.pn ++ pins, p ∈ X.pn ++ (a, ob) :: pins := fun p m => by
    rcases List.mem_append.mp m with m | m
    · exact List.mem_append_left _ m
    · exact List.mem_append_right _ (List.mem_cons_of_mem _ m)
  refine { ok := I.ok, os := I.os, bare := I.bare, loc := I.loc, cell := I.cell, len := I.len, base := ?b, free := ?f, freeC := ?c, pin := ?p, hok := ?k }
  case b =>
    refine { keep := I.base.keep, slot := I.base.slot, there := I.base.there, free := fun b o e n x => ?_, tups := fun b xs e => ?_, frzs := fun b o u e => ?_, tbls := fun b ps e => ?_ }
    · have nb : b ≠ a := fun z => h0 o (by rw [← z]; exact e)
      rw [upd_ne nb]
      exact I.base.free b o e n x
    · have h1 := I.base.tups b xs e
      rw [upd_ne (ne_of_none h1 g2)]
      exact h1
    · have h1 := I.base.frzs b o u e
      rw [upd_ne (ne_of_none h1 g2)]
      exact h1
    · obtain ⟨m, h1⟩ := I.base.tbls b ps e
      exact ⟨m, by rw [upd_ne (ne_of_none h1 g2)]; exact h1⟩
  case f =>
    rw [upd_ne (Ne.symm g3)]
    exact I.free
  case c =>
    intro y c e
    have nc : c ≠ a := fun z => by
      obtain ⟨v, o, h1, h2⟩ := I.cell y c e
      rw [z, g1] at h1
      cases h1
      exact g5 _ h2
    rw [upd_ne nc]
    exact I.freeC y c e
  case p =>
    intro p m
    obtain ⟨k1, k2, k3, k4, k5⟩ := I.pin p (out p m)
    exact ⟨k1, by rw [upd_ne (hp p m)]; exact k2, k3, k4, k5⟩
  case k =>
    refine HOk.laidN I.hok (fun _ _ z => z) g2 ⟨⟨ob, fv, g1, hz, hd⟩, ⟨ob, g1⟩, fun h1 h2 x y => ?_⟩
    obtain ⟨o', f', q1, q2⟩ := x
    exact ⟨o', f', y _ q1, q2⟩
/-- the wish of a clause «except c as n: y = n»: slots i of n, j of y -/
def wKept (K : PySem.W.Frag) (c : Value) (i j : Nat) (D : Ends) : WX := fun cls d σ H => d = none ∧ PySem.W.exmOne K cls c = some true ∧ ∀ a, H a = none → D.nx ((σ.set j (some (.ref a))).set i none) (upd H a (ExP cls a))
/-- behind the look at the frame: the handlers -/
def atHandlers (X : Cx) (pins : List (Addr × Obj)) (D : Ends) (hs : List ExceptHandler) : Value → Shared → Prop := fun e t => wpAny (model X.prog X.w) X.A (noteFrame e X.env)
  (fun _ t1 => wpAny (model X.prog X.w) X.A (setFlight e none) (fun _ t2 => wpAny (model X.prog X.w) X.A (handleBy e X.env hs) (SP X pins D) X.xe t2) X.xe t1) X.xe t
section
variable {X : Cx} {x n y : Str} {c : Value} {i j : Nat} {body : List Stmt} {np pos pos' py pv' sp' : Pos} {tb : WX → TS}
theorem kept_catch (hs : X.stack = X.env :: X.outer) (hf : X.env.frame = some X.env.locals) (hN : X.N.Nodup) (hi : X.N[i]? = some n) (hln : X.env.kindOf n = some .local) (hj : X.N[j]? = some y) (hly : X.env.scope.names.lookup y = some .local)
    (nd : (n == ("__debug__" : Str)) = false) (ncd : (n == ("__classdict__" : Str)) = false) (hsw : swapsWith (.Name n pv') (some (.Name y py)) sp'.line X.env = pure false) (hc : Names X x c) (hex : X.ex = [])
    {pins : List (Addr × Obj)} {D : Ends} {u : Value} {s' : Shared} (ok : X.Ok) {pn0 : List (Addr × Obj)} {xe0 : Value → Shared → Prop} (hpn : pn0 = X.pn ++ pins)
    (z : XE (X.tr pn0 xe0) (wKept X.K c i j D) u s') : atHandlers X pins D [.ExceptHandler (some (.Name x np)) (some n) [.Assign [.Name y py] (.Name n pv') sp'] pos'] u s' := by
  subst hpn
  obtain ⟨a, B, sI, pq, τ, H', cls, d, rfl, J0, nb, up, sky, na, os, ag, rfl, te, nx⟩ := z
  have J : Inv X pins τ H' sI := J0.ofTry ok
  have hfr : X.A.frames = some (X.env :: X.outer) := by
    rw [← hs]
    exact ok.frames
  unfold atHandlers
  refine Sky.land Zc.steady hfr hf (by rw [← hs]; exact sky) fun h3 fl3 up3 => ?_
  have J3 : Inv X pins τ H' { s' with heap := h3 } := J.landed nb fl3.1 (up.trans up3) os ag
  obtain ⟨o3, f3, ho3, hz3, hd3⟩ := fl3.there
  have nfr : a ∉ frs (X.env :: X.outer) := fun hm => by
    obtain ⟨_, o', e', hnf⟩ := fl3.2.2.1.mem hm
    rw [ho3] at e'
    cases e'
    exact hnf _ hd3
  have nL : a ≠ X.env.locals := fun e => nfr (List.mem_filterMap.mpr ⟨X.env, List.mem_cons_self, by rw [hf, e]⟩)
  have nF : a ∉ X.fs := fun hm => by
    obtain ⟨e, he, q⟩ := List.mem_filterMap.mp hm
    exact nfr (List.mem_filterMap.mpr ⟨e, List.mem_cons_of_mem _ he, q⟩)
  have newI : ∀ o, sI.heap.get? a ≠ some o := fun o e => by
    have h1 := nb a o e (by rw [show frs (X.tr (X.pn ++ pins) xe0).stack = frs (X.env :: X.outer) from congrArg frs hs]; exact nfr)
    rw [fl3.2.1] at h1
    cases h1
  have new0 : ∀ o, X.s_0.heap.get? a ≠ some o := fun o e => by
    obtain ⟨o', e'⟩ := J.base.there a o e (by rw [hex]; exact List.not_mem_nil)
    exact newI _ e'
  have newP : ∀ p ∈ X.pn ++ pins, p.1 ≠ a := fun p m e => newI _ (by rw [← e]; exact (J.pin p m).1)
  have S3 := J3.suite ho3 hd3 na nL nF
  refine wpAny_handleBy_cons (codeAny_handlers_test ?_) (by intro q; cases q)
  have isT : PySem.W.Looks (model X.prog X.w) h3 (typeOf (.ref a)) cls := fun A Q E t k q => wpAny_typeOf_ref (k _ _ ho3) (by rw [hz3.1]; exact q)
  have isM := PySem.W.exm_one (M := model X.prog X.w) J3.kIn isT te
  have nm : ∀ {Q : Value → Shared → Prop} {E : Value → Shared → Prop}, Q c { s' with heap := h3 } → wpAny (model X.prog X.w) (X.A.mark (some (.ref a))) (eval (.Name x np) X.env) Q E { s' with heap := h3 } := fun q => by
    obtain ⟨k1, k2, k3 | ⟨k3, k4, k5⟩⟩ := hc
    · exact ld_glob (X := X.suite a ((a, o3) :: (X.pn ++ pins))) S3 k1 k3 q k2
    · exact ld_blt (X := X.suite a ((a, o3) :: (X.pn ++ pins))) S3 k1 k3 k4 q k5 k2
  refine nm (isM.here (codeAny_handlers_suite_as ?_))
  refine HandSPX.lands_againZ fl3 fun h4 fl4 up4 => ?_
  have J4 : Inv X pins τ H' { s' with heap := h4 } := J.landed nb fl4.1 ((up.trans up3).trans up4) os ag
  obtain ⟨o4, f4, ho4, hz4, hd4⟩ := fl4.there
  have S4 := J4.suite ho4 hd4 na nL nF
  refine store_ok (X := X.suite a ((a, o4) :: (X.pn ++ pins))) (v := .ref a) S4 hN hi (.inl hln) rfl (fun s5 S5 => ?_) (.inr hln)
  have hlen : i < τ.length := by
    rw [J.len]
    exact (List.getElem?_eq_some_iff.mp hi).1
  have suite : PSs (X.suite a ((a, o4) :: (X.pn ++ pins))) [.Assign [.Name y py] (.Name n pv') sp'] (tAsg (tVar i) (gName j)) :=
    pss_one (ps_set (i := j) hN hj (.inl hly) (pe_var hi (.inl hln) nd ncd) hsw (.inr hly))
  let D5 : Ends := { nx := fun σ6 H6 => σ6 = (τ.set i (some (.ref a))).set j (some (.ref a)) ∧ H6 = H', rt := fun _ _ => False, bk := fun _ _ => False, ct := fun _ _ => False }
  refine wpAny_mono (suite.run [] s5 _ H' D5 S5 ⟨.ref a, by rw [List.getElem?_set_self hlen], rfl, rfl⟩) (fun f s6 got => ?_) (fun _ _ w => False.elim w)
  cases f with
  | next =>
    obtain ⟨σ6, H6, S6, rfl, rfl⟩ := got
    have J6 : Inv X ((a, o4) :: pins) ((τ.set i (some (.ref a))).set j (some (.ref a))) H6 s6 :=
      { ok := ok, os := S6.os, bare := S6.bare, base := S6.base, loc := S6.loc, cell := S6.cell, free := S6.free, freeC := S6.freeC, hok := S6.hok, len := S6.len,
        pin := fun p m => S6.pin p (by
          rw [List.append_nil]
          rcases List.mem_append.mp m with m | m
          · exact List.mem_cons_of_mem _ (List.mem_append_left _ m)
          · rcases List.mem_cons.mp m with m | m
            · rw [m]
              exact List.mem_cons_self
            · exact List.mem_cons_of_mem _ (List.mem_append_right _ m)) }
    refine gone_ok J6 hN hi hln fun s7 J7 => ⟨_, _, inv_track J7 hz4 hd4 new0 newP, ?_⟩
    have hsl : ((τ.set i (some (V.ref a))).set j (some (.ref a))).set i none = (τ.set j (some (.ref a))).set i none := by
      apply List.ext_getElem?
      intro k
      simp only [List.getElem?_set, List.length_set]
      by_cases h1 : i = k <;> by_cases h2 : j = k <;> simp [h1, h2]
    rw [hsl]
    exact nx a na
  | brk =>
    obtain ⟨_, _, _, w⟩ := got
    exact w.elim
  | cont =>
    obtain ⟨_, _, _, w⟩ := got
    exact w.elim
  | ret v =>
    obtain ⟨_, _, _, _, _, w⟩ := got
    exact w.elim
/-- try: body except x as n: y = n -/
theorem ps_try_kept (i j : Nat) (hs : X.stack = X.env :: X.outer) (hf : X.env.frame = some X.env.locals) (hN : X.N.Nodup) (hi : X.N[i]? = some n) (hln : X.env.kindOf n = some .local) (hj : X.N[j]? = some y) (hly : X.env.scope.names.lookup y = some .local) (hc : Names X x c) (hex : X.ex = [])
    (hb : ∀ (W : WX) (pn : List (Addr × Obj)) (xe : Value → Shared → Prop), Takes (X.tr pn xe) W → PassesOwn (model X.prog X.w) X.A X.env xe → PSs (X.tr pn xe) body (tb W))
    (nd : (n == ("__debug__" : Str)) = false := by decide) (ncd : (n == ("__classdict__" : Str)) = false := by decide) (hsw : swapsWith (.Name n pv') (some (.Name y py)) sp'.line X.env = pure false := by rfl) :
    PS X (.Try body [.ExceptHandler (some (.Name x np)) (some n) [.Assign [.Name y py] (.Name n pv') sp'] pos'] [] [] pos) (fun D σ H => tb (wKept X.K c i j D) D σ H) := by
  constructor
  intro pins s σ H D I hh
  have ok := I.ok
  refine wpAny_Try_except ?_
  have run := (hb (wKept X.K c i j D) (X.pn ++ pins) (atHandlers X pins D [.ExceptHandler (some (.Name x np)) (some n) [.Assign [.Name y py] (.Name n pv') sp'] pos']) (fun u s' z => kept_catch hs hf hN hi hln hj hly nd ncd hsw hc hex ok rfl z) PassesOwn.looking).run [] s σ H D (I.toTry _) hh
  refine wpAny_mono run (fun f s1 got => ?_) (fun _ _ w => w)
  cases f with
  | next =>
    obtain ⟨σ1, H1, J1, q⟩ := got
    exact wpAny_execs_nil ⟨σ1, H1, J1.ofTry ok, q⟩
  | brk =>
    obtain ⟨σ1, H1, J1, q⟩ := got
    exact ⟨σ1, H1, J1.ofTry ok, q⟩
  | cont =>
    obtain ⟨σ1, H1, J1, q⟩ := got
    exact ⟨σ1, H1, J1.ofTry ok, q⟩
  | ret v =>
    obtain ⟨v1, σ1, H1, J1, r, q⟩ := got
    exact ⟨v1, σ1, H1, J1.ofTry ok, r, q⟩
end
section
variable {P : Program} {w : World} {K : PySem.W.Frag} {mg : Str → Option Value} {base : Heap}
/-! ### the kinds of refusals -/
def Tx.Cs (T : Tx K mg) : List Addr := [T.C_NoSpan, T.C_NoPlace, T.C_NoCover, T.C_NoWeight, T.C_NoCount, T.C_NoName, T.C_Twice, T.C_Full, T.C_Bare, T.C_NoDeed, T.C_NoText, T.C_NoLine]
theorem excC_of (T : Tx K mg) {D : Addr} (h : D ∈ T.C_ShelfError :: T.Cs) : ExcC K D := by
  have hd := (List.map_inj_left.mp T.excs) D h
  simp only [Prod.mk.injEq] at hd
  obtain ⟨h1, h2, h3, h4, h5, h6⟩ := hd
  have hg := T.gets
  simp only [Prod.mk.injEq] at hg
  exact ⟨h1, h2, h3, h4, h5, hg.1, hg.2, h6⟩
theorem kit_row (T : Tx K mg) {i j : Nat} {D C : Addr} (hi : (T.C_ShelfError :: T.Cs)[i]? = some D) (hj : T.Cs[j]? = some C) : PySem.W.kitOne K (.ref D) (.ref C) = some (i == j + 1) := by
  have e := congrArg (fun l => l[i]?) T.kits
  rw [List.getElem?_map, show ([T.C_ShelfError, T.C_NoSpan, T.C_NoPlace, T.C_NoCover, T.C_NoWeight, T.C_NoCount, T.C_NoName, T.C_Twice, T.C_Full, T.C_Bare, T.C_NoDeed, T.C_NoText, T.C_NoLine] : List Addr) = T.C_ShelfError :: T.Cs from rfl, hi] at e
  have hl : i < 13 := by
    have := (List.getElem?_eq_some_iff.mp hi).1
    simpa [Tx.Cs] using this
  have hl2 : j < 12 := by
    have := (List.getElem?_eq_some_iff.mp hj).1
    simpa [Tx.Cs] using this
  rw [List.getElem?_map, List.getElem?_range hl] at e
  have e := Option.some.inj e
  have e2 := congrArg (fun l => l[j]?) e
  rw [List.getElem?_map, List.getElem?_map, show ([T.C_NoSpan, T.C_NoPlace, T.C_NoCover, T.C_NoWeight, T.C_NoCount, T.C_NoName, T.C_Twice, T.C_Full, T.C_Bare, T.C_NoDeed, T.C_NoText, T.C_NoLine] : List Addr) = T.Cs from rfl, hj, List.getElem?_range hl2] at e2
  exact Option.some.inj e2
theorem kit_tops (T : Tx K mg) {D : Addr} (h : D ∈ T.C_ShelfError :: T.Cs) : PySem.W.kitOne K (.ref D) (.ref T.C_ShelfError) = some true ∧ PySem.W.kitOne K (.ref D) (.type "ValueError") = some true := by
  have hd := (List.map_inj_left.mp T.tops) D h
  simp only [Prod.mk.injEq] at hd
  exact hd
theorem kit_none (T : Tx K mg) {C : Addr} (h : C ∈ T.C_ShelfError :: T.Cs) : PySem.W.kitOne K (.type "NoneType") (.ref C) = some false := (List.map_inj_left.mp T.nones) C h
theorem exm_all (T : Tx K mg) {D : Addr} (h : D ∈ T.C_ShelfError :: T.Cs) : PySem.W.exmOne K (.ref D) (.ref T.C_ShelfError) = some true := (List.map_inj_left.mp T.exms) D h
/-- v is a refusal of the kind r, or None, or a bare ShelfError (r is empty) -/
def Kd (T : Tx K mg) (H : Hp) (v : V) (r : List Int) : Prop :=
  (∃ (a : Addr) (i : Nat) (D : Addr), v = .ref a ∧ (T.C_ShelfError :: T.Cs)[i]? = some D ∧ IsEx H (.ref D) a ∧ r = if i = 0 then [] else [(i : Int) - 1]) ∨ (v = .non ∧ r = [])
theorem Kd.same {T : Tx K mg} {H H' : Hp} {v : V} {r : List Int} (h : Kd T H v r) (e : Same H H') : Kd T H' v r := by
  rcases h with ⟨a, i, D, h1, h2, h3, h4⟩ | h
  · exact .inl ⟨a, i, D, h1, h2, h3.same e, h4⟩
  · exact .inr h
theorem Kd.is {T : Tx K mg} {H : Hp} {v : V} {r : List Int} {Q : VK} (h : Kd T H v r) (j : Nat) {C : Addr} (hj : T.Cs[j]? = some C) (q : Q (.bl (decide (r = [(j : Int)]))) H) : rIsY K [v, .ref C] H Q := by
  rcases h with ⟨a, i, D, rfl, h2, h3, h4⟩ | ⟨rfl, h4⟩
  · refine .inl ⟨a, D, _, _, _, rfl, h3, excC_of T (List.mem_of_getElem? h2), .own C, kit_row T h2 hj, ?_⟩
    have e : decide (r = [(j : Int)]) = (i == j + 1) := by
      rw [h4]
      by_cases hi : i = 0
      · rw [if_pos hi, hi]
        simp
      · rw [if_neg hi]
        by_cases h5 : i = j + 1
        · subst h5
          simp
        · have : ¬ ((i : Int) - 1 = (j : Int)) := by omega
          simp [h5, this]
    rw [← e]
    exact q
  · refine .inr ⟨_, _, _, _, false, rfl, .own C, .base .non, kit_none T (List.mem_cons_of_mem _ (List.mem_of_getElem? hj)), ?_⟩
    have e : decide (r = [(j : Int)]) = false := by
      rw [h4]
      simp
    rw [← e]
    exact q
def spKinds (T : Tx K mg) : Sp := fun vs H Q _ => ∃ (v : V) (r : List Int), vs = [v] ∧ Kd T H v r ∧ ∀ H' p, Same H H' → H p = none → H' p = some (.lst (r.map V.int)) → Q (.ref p) H'
theorem kd_twelve {T : Tx K mg} {H : Hp} {v : V} {r : List Int} (h : Kd T H v r) : ((List.range 12).filter (fun (k : Nat) => decide (r = [(k : Int)]))).map (fun (k : Nat) => (k : Int)) = r := by
  have key : ∀ i : Nat, i < 13 → ((List.range 12).filter (fun (k : Nat) => decide ((if i = 0 then [] else [(i : Int) - 1]) = [(k : Int)]))).map (fun (k : Nat) => (k : Int)) = if i = 0 then [] else [(i : Int) - 1] := by decide +kernel
  rcases h with ⟨a, i, D, rfl, h2, h3, h4⟩ | ⟨rfl, h4⟩
  · have hl : i < 13 := by
      have := (List.getElem?_eq_some_iff.mp h2).1
      simpa [Tx.Cs] using this
    rw [h4]
    exact key i hl
  · rw [h4]
    exact key 0 (by decide)
theorem ok_kinds (T : Tx K mg) : FnOk P w K mg base CX0 (1) T.f_l_kinds T.fd_l_kinds ["_law_e"] (spKinds T) := by
  refine T.F_l_kinds.ok sc_l_kinds (fun vs H Q E h => ?_) (fun cdv A outer s H vs Q E hr h => ?_)
  · obtain ⟨v, r, rfl, _⟩ := h
    rfl
  · obtain ⟨v, r, rfl, h, q⟩ := h
    refine ⟨_, (pss_cons (ps_set (i := 1) sc_l_kinds.nd rfl (Or.inr rfl) (pe_lst (pa_cons (pe_callB call_isY (by rfl) T.m_isinstance (by decide +kernel) (pa_cons (pv 0) (pa_cons (pe_glob (v := .ref T.C_NoSpan) (by rfl) T.g_NoSpan rfl) pa_nil))) (pa_cons (pe_callB call_isY (by rfl) T.m_isinstance (by decide +kernel) (pa_cons (pv 0) (pa_cons (pe_glob (v := .ref T.C_NoPlace) (by rfl) T.g_NoPlace rfl) pa_nil))) (pa_cons (pe_callB call_isY (by rfl) T.m_isinstance (by decide +kernel) (pa_cons (pv 0) (pa_cons (pe_glob (v := .ref T.C_NoCover) (by rfl) T.g_NoCover rfl) pa_nil))) (pa_cons (pe_callB call_isY (by rfl) T.m_isinstance (by decide +kernel) (pa_cons (pv 0) (pa_cons (pe_glob (v := .ref T.C_NoWeight) (by rfl) T.g_NoWeight rfl) pa_nil))) pa_nil))))))
      (pss_cons (ps_set (i := 1) sc_l_kinds.nd rfl (Or.inr rfl) (pe_op op_cat (pv 1) (pe_lst (pa_cons (pe_callB call_isY (by rfl) T.m_isinstance (by decide +kernel) (pa_cons (pv 0) (pa_cons (pe_glob (v := .ref T.C_NoCount) (by rfl) T.g_NoCount rfl) pa_nil))) (pa_cons (pe_callB call_isY (by rfl) T.m_isinstance (by decide +kernel) (pa_cons (pv 0) (pa_cons (pe_glob (v := .ref T.C_NoName) (by rfl) T.g_NoName rfl) pa_nil))) (pa_cons (pe_callB call_isY (by rfl) T.m_isinstance (by decide +kernel) (pa_cons (pv 0) (pa_cons (pe_glob (v := .ref T.C_Twice) (by rfl) T.g_Twice rfl) pa_nil))) (pa_cons (pe_callB call_isY (by rfl) T.m_isinstance (by decide +kernel) (pa_cons (pv 0) (pa_cons (pe_glob (v := .ref T.C_Full) (by rfl) T.g_Full rfl) pa_nil))) pa_nil)))))))
      (pss_cons (ps_set (i := 1) sc_l_kinds.nd rfl (Or.inr rfl) (pe_op op_cat (pv 1) (pe_lst (pa_cons (pe_callB call_isY (by rfl) T.m_isinstance (by decide +kernel) (pa_cons (pv 0) (pa_cons (pe_glob (v := .ref T.C_Bare) (by rfl) T.g_Bare rfl) pa_nil))) (pa_cons (pe_callB call_isY (by rfl) T.m_isinstance (by decide +kernel) (pa_cons (pv 0) (pa_cons (pe_glob (v := .ref T.C_NoDeed) (by rfl) T.g_NoDeed rfl) pa_nil))) (pa_cons (pe_callB call_isY (by rfl) T.m_isinstance (by decide +kernel) (pa_cons (pv 0) (pa_cons (pe_glob (v := .ref T.C_NoText) (by rfl) T.g_NoText rfl) pa_nil))) (pa_cons (pe_callB call_isY (by rfl) T.m_isinstance (by decide +kernel) (pa_cons (pv 0) (pa_cons (pe_glob (v := .ref T.C_NoLine) (by rfl) T.g_NoLine rfl) pa_nil))) pa_nil)))))))
      (pss_cons (ps_if (PW.pt (pw_or (pt_not (pt_val (pe_callB call_isY (by rfl) T.m_isinstance (by decide +kernel) (pa_cons (pv 0) (pa_cons (pe_glob (v := .ref T.C_ShelfError) (by rfl) T.g_ShelfError rfl) pa_nil))))) (pw_or1 (pt_not (pt_val (pe_callB call_isY (by rfl) T.m_isinstance (by decide +kernel) (pa_cons (pv 0) (pa_cons (pe_bltn (v := .ty "ValueError") (by rfl) T.m_ValueError (by decide +kernel) rfl) pa_nil)))))))) (pss_one (ps_ret (pe_lst pa_nil))) pss_nil)
      (pss_one (ps_ret (pe_lc (own := [("_law_k", 2)]) (g := (gName 2)) (by rfl) sc_l_kinds.nd (pi_range1 (by rfl) T.m_range (pa_cons pe_int pa_nil)) (blkOk_by (own := [("_law_k", 2)]) (N := N_l_kinds) (sc := defScope s_l_kinds) (by decide +kernel)) (fun _ _ _ _ _ => (pg_name (i := 2) sc_l_kinds.nd rfl (Or.inl rfl))) (fun _ _ _ _ _ => (pts_one (pt_val (pe_ix (show IxR _ (rIxL K) from ix_list) (pv 1) (pv 2) (fun _ _ => rfl))))) (fun _ _ _ _ _ => (pv 2))))))))), ?_⟩
    refine ⟨_, rfl, h.is 0 rfl ⟨_, rfl, h.is 1 rfl ⟨_, rfl, h.is 2 rfl ⟨_, rfl, h.is 3 rfl ⟨small_le (by simp), fun l1 n1 => ?_⟩⟩⟩⟩⟩
    have s1 := same_upd (o := .lst [.bl (decide (r = [((0 : Nat) : Int)])), .bl (decide (r = [((1 : Nat) : Int)])), .bl (decide (r = [((2 : Nat) : Int)])), .bl (decide (r = [((3 : Nat) : Int)]))]) n1
    have h := h.same s1
    refine ⟨_, rfl, _, rfl, h.is 4 rfl ⟨_, rfl, h.is 5 rfl ⟨_, rfl, h.is 6 rfl ⟨_, rfl, h.is 7 rfl ⟨small_le (by simp), fun l2 n2 => ?_⟩⟩⟩⟩⟩
    have s2 := same_upd (o := .lst [.bl (decide (r = [((4 : Nat) : Int)])), .bl (decide (r = [((5 : Nat) : Int)])), .bl (decide (r = [((6 : Nat) : Int)])), .bl (decide (r = [((7 : Nat) : Int)]))]) n2
    have h := h.same s2
    refine ⟨l1, l2, _, _, rfl, rfl, s2 _ _ upd_same, upd_same, small_le (by simp), fun l3 n3 => ?_⟩
    have s3 := same_upd (o := .lst ([.bl (decide (r = [((0 : Nat) : Int)])), .bl (decide (r = [((1 : Nat) : Int)])), .bl (decide (r = [((2 : Nat) : Int)])), .bl (decide (r = [((3 : Nat) : Int)]))] ++ [.bl (decide (r = [((4 : Nat) : Int)])), .bl (decide (r = [((5 : Nat) : Int)])), .bl (decide (r = [((6 : Nat) : Int)])), .bl (decide (r = [((7 : Nat) : Int)]))])) n3
    have h := h.same s3
    refine ⟨_, rfl, _, rfl, h.is 8 rfl ⟨_, rfl, h.is 9 rfl ⟨_, rfl, h.is 10 rfl ⟨_, rfl, h.is 11 rfl ⟨small_le (by simp), fun l4 n4 => ?_⟩⟩⟩⟩⟩
    have s4 := same_upd (o := .lst [.bl (decide (r = [((8 : Nat) : Int)])), .bl (decide (r = [((9 : Nat) : Int)])), .bl (decide (r = [((10 : Nat) : Int)])), .bl (decide (r = [((11 : Nat) : Int)]))]) n4
    have h := h.same s4
    refine ⟨l3, l4, _, _, rfl, rfl, s4 _ _ upd_same, upd_same, small_le (by simp), fun l5 n5 => ?_⟩
    obtain ⟨e5, s5⟩ := upd_at (o := .lst ([.bl (decide (r = [((0 : Nat) : Int)])), .bl (decide (r = [((1 : Nat) : Int)])), .bl (decide (r = [((2 : Nat) : Int)])), .bl (decide (r = [((3 : Nat) : Int)]))] ++ [.bl (decide (r = [((4 : Nat) : Int)])), .bl (decide (r = [((5 : Nat) : Int)])), .bl (decide (r = [((6 : Nat) : Int)])), .bl (decide (r = [((7 : Nat) : Int)]))] ++ [.bl (decide (r = [((8 : Nat) : Int)])), .bl (decide (r = [((9 : Nat) : Int)])), .bl (decide (r = [((10 : Nat) : Int)])), .bl (decide (r = [((11 : Nat) : Int)]))])) n5
    have h := h.same s5
    have all := s1.trans (s2.trans (s3.trans (s4.trans s5)))
    have h0 := h
    rcases h0 with ⟨a, i, D, rfl, h2, h3, h4⟩ | ⟨rfl, h4⟩
    · have hm := List.mem_of_getElem? h2
      have kt := kit_tops T hm
      refine ⟨_, rfl, .inl ⟨a, D, _, _, true, rfl, h3, excC_of T hm, .own _, kt.1, true, rfl, iteF ?_⟩⟩
      refine ⟨_, rfl, .inl ⟨a, D, _, _, true, rfl, h3, excC_of T hm, .ty _, kt.2, true, rfl, iteF ?_⟩⟩
      refine ⟨12, rfl, by decide, by decide, fun Dl nD => ?_⟩
      have nD0 := all.free nD
      have nl5 : l5 ≠ Dl := ne_of_none e5 nD
      refine lc_range (lo := 0) (n := 12) (fun k H' => Same H H' ∧ H' l5 = some (.lst ((List.range 12).map fun (k : Nat) => V.bl (decide (r = [(k : Int)])))) ∧ H' Dl = some (.lst ((((List.range k).filter (fun (k : Nat) => decide (r = [(k : Int)]))).map (fun (k : Nat) => (k : Int))).map V.int))) ⟨same_more all nD0, same_upd nD _ _ e5, upd_same⟩ ?_ ?_
      · rintro k H' hk ⟨sm, h5, hD⟩
        refine ⟨rfl, _, rfl, _, rfl, l5, _, _, _, rfl, rfl, SqL.of h5, at_of (j := k) (by omega) (v := V.bl (decide (r = [(k : Int)]))) ?_, _, rfl, ?_⟩
        · rw [List.getElem?_map, List.getElem?_range hk]
          rfl
        have hr : List.range (k + 1) = List.range k ++ [k] := List.range_succ
        by_cases hq : r = [(k : Int)]
        · rw [decide_eq_true hq]
          refine iteT ⟨_, rfl, _, hD, ?_, same_more sm nD0, ?_, ?_⟩
          · refine small_lt ?_
            rw [List.length_map, List.length_map]
            refine Nat.le_trans (List.length_filter_le _ _) ?_
            rw [List.length_range]
            omega
          · rw [upd_ne nl5]
            exact h5
          · rw [upd_same, hr, List.filter_append, List.map_append, List.map_append]
            simp [hq]
        · rw [decide_eq_false hq]
          refine iteF ⟨sm, h5, ?_⟩
          rw [hr, List.filter_append, List.map_append, List.map_append, hD]
          simp [hq]
      · rintro H' ⟨sm, h5, hD⟩
        rw [kd_twelve h] at hD
        exact q _ _ sm nD0 hD
    · refine ⟨_, rfl, .inr ⟨_, _, _, _, false, rfl, .own _, .base .non, kit_none T List.mem_cons_self, false, rfl, iteT (iteT ?_)⟩⟩
      refine ⟨Nat.zero_le _, fun p np => ?_⟩
      subst h4
      exact q _ p (all.trans (same_upd np)) (all.free np) upd_same
end
section
variable {P : Program} {w : World} {K : PySem.W.Frag} {mg : Str → Option Value} {base : Heap}
/-! ### lists of lists of whole numbers -/
inductive Lls (H : Hp) : List V → List (List Int) → Prop where
  | nil : Lls H [] []
  | cons {t : Addr} {r : List Int} {vs : List V} {ll : List (List Int)} : H t = some (.lst (r.map V.int)) → Lls H vs ll → Lls H (.ref t :: vs) (r :: ll)
theorem Lls.same {H H' : Hp} (e : Same H H') : ∀ {vs : List V} {ll : List (List Int)}, Lls H vs ll → Lls H' vs ll
  | _, _, .nil => .nil
  | _, _, .cons h t => .cons (e _ _ h) (Lls.same e t)
theorem Lls.app {H : Hp} : ∀ {vs ws : List V} {ss ts : List (List Int)}, Lls H vs ss → Lls H ws ts → Lls H (vs ++ ws) (ss ++ ts)
  | _, _, _, _, .nil, h => h
  | _, _, _, _, .cons a t, h => .cons a (Lls.app t h)
theorem Lls.len {H : Hp} : ∀ {vs : List V} {ss : List (List Int)}, Lls H vs ss → vs.length = ss.length
  | _, _, .nil => rfl
  | _, _, .cons _ t => congrArg (· + 1) t.len
def llD (ll : List (List Int)) : List PyData := ll.map fun r => .list (r.map PyData.int)
theorem Lls.dpAll {K : PySem.W.Frag} {H : Hp} : ∀ {vs : List V} {ll : List (List Int)}, Lls H vs ll → DpAll K H vs (llD ll)
  | _, _, .nil => .nil
  | _, _, .cons h t => .cons (.lst (SqL.of h) (dpAll_ints _)) t.dpAll
theorem lay_ll : ∀ ll : List (List Int), PyData.canLayAll0 (llD ll) = true ∧ PyData.depthAll (llD ll) ≤ 1
  | [] => ⟨rfl, by decide⟩
  | r :: ll => by
    obtain ⟨h1, h2⟩ := lay_ll ll
    obtain ⟨g1, g2⟩ := lay_ints r
    refine ⟨?_, ?_⟩
    · show (PyData.canLayAll0 (r.map PyData.int) && PyData.canLayAll0 (llD ll)) = true
      rw [h1, g1]
      rfl
    · show max (PyData.depthAll (r.map PyData.int) + 1) (PyData.depthAll (llD ll)) ≤ 1
      rw [g2]
      omega
theorem shaped_ll (ll : List (List Int)) : SeqAt.shaped (.list (llD ll)) = true := by
  obtain ⟨h1, h2⟩ := lay_ll ll
  show (PyData.canLayAll0 (llD ll) && decide (PyData.depthAll (llD ll) + 1 ≤ 64)) = true
  rw [h1, decide_eq_true (by omega)]
  rfl
theorem eqv_ll_refl (ll : List (List Int)) : PyData.eqv (.list (llD ll)) (.list (llD ll)) = true := PySem.SeqAt.eqv_refl _ (lay_ll ll).1
theorem eqv_ints (ms : List Int) : ∀ ns : List Int, PyData.eqv (.list (ns.map PyData.int)) (.list (ms.map PyData.int)) = decide (ns = ms) := by
  induction ms with
  | nil => exact eqv_ints_nil
  | cons m r ih =>
    intro ns
    cases ns with
    | nil => rfl
    | cons n q =>
      have h := ih q
      show (PyData.eqv (.int n) (.int m) && PyData.eqv (.list (q.map PyData.int)) (.list (r.map PyData.int))) = _
      rw [h]
      by_cases h1 : n = m <;> by_cases h2 : q = r <;> simp [h1, h2, PyData.eqv]
/-! ### refusals made by hand -/
inductive Exs (H : Hp) : List V → List Addr → Prop where
  | nil : Exs H [] []
  | cons {a C : Addr} {vs : List V} {cs : List Addr} : IsEx H (.ref C) a → Exs H vs cs → Exs H (.ref a :: vs) (C :: cs)
theorem Exs.same {H H' : Hp} (e : Same H H') : ∀ {vs : List V} {cs : List Addr}, Exs H vs cs → Exs H' vs cs
  | _, _, .nil => .nil
  | _, _, .cons h t => .cons (h.same e) (Exs.same e t)
theorem Exs.app {H : Hp} : ∀ {vs ws : List V} {ss ts : List Addr}, Exs H vs ss → Exs H ws ts → Exs H (vs ++ ws) (ss ++ ts)
  | _, _, _, _, .nil, h => h
  | _, _, _, _, .cons a t, h => .cons a (Exs.app t h)
theorem Exs.len {H : Hp} : ∀ {vs : List V} {ss : List Addr}, Exs H vs ss → vs.length = ss.length
  | _, _, .nil => rfl
  | _, _, .cons _ t => congrArg (· + 1) t.len
theorem Exs.get {H : Hp} : ∀ {vs : List V} {cs : List Addr} {i : Nat} {v : V}, Exs H vs cs → vs[i]? = some v → ∃ a C, v = .ref a ∧ cs[i]? = some C ∧ IsEx H (.ref C) a
  | _, _, _, _, .nil, e => by simp at e
  | _, _, 0, v, .cons (a := a) (C := C) h t, e => ⟨a, C, (Option.some.inj e).symm, rfl, h⟩
  | _, _, i + 1, v, .cons h t, e => Exs.get (i := i) t e
def tExs : List Addr → TA
  | [] => tNil
  | C :: r => tCons (fun _ H Q => ∀ a, H a = none → Q (.ref a) (upd H a (ExO (.ref C) a))) (tExs r)
theorem exs_read : ∀ (cs : List Addr) {σ : L2.St} {H : Hp} {Q : List V → Hp → Prop}, (∀ H' vs, Same H H' → Exs H' vs cs → Q vs H') → tExs cs σ H Q
  | [], _, H, _, q => q H [] (Same.refl _) .nil
  | C :: r, σ, H, Q, q => fun a na => exs_read r fun H' vs s h => q H' (.ref a :: vs) ((same_upd na).trans s) (.cons ((isEx_O upd_same).same s) h)
theorem exs_lst (cs : List Addr) {σ : L2.St} {H : Hp} {Q : VK} (hl : cs.length ≤ 1000000) (q : ∀ H' vs, Same H H' → Exs H' vs cs → ∀ p, H' p = none → Q (.ref p) (upd H' p (.lst vs))) : tLst (tExs cs) σ H Q :=
  exs_read cs fun H' vs s h => ⟨small_le (by rw [h.len]; exact hl), q H' vs s h⟩
theorem Exs.kd {T : Tx K mg} {H : Hp} {vs : List V} {i : Nat} {v : V} (h : Exs H vs T.Cs) (e : vs[i]? = some v) : Kd T H v [(i : Int)] := by
  obtain ⟨a, C, rfl, hC, x⟩ := h.get e
  refine .inl ⟨a, i + 1, C, rfl, hC, x, ?_⟩
  rw [if_neg (by omega)]
  simp
def spMade : Sp := fun vs H Q _ => vs = [] ∧ ∀ H', Same H H' → Q (.bl true) H'
theorem ok_made (T : Tx K mg) : FnOk P w K mg base CX0 (2) T.f_l_made_by_hand T.fd_l_made_by_hand [] spMade := by
  have G_l_kinds : FnOk P w K mg base CX0 _ _ _ _ _ := ok_kinds T
  refine T.F_l_made_by_hand.ok sc_l_made_by_hand (fun vs H Q E h => ?_) (fun cdv A outer s H vs Q E hr h => ?_)
  · obtain ⟨rfl, _⟩ := h
    rfl
  · obtain ⟨rfl, q⟩ := h
    refine ⟨_, (pss_cons (ps_set (i := 0) sc_l_made_by_hand.nd rfl (Or.inl rfl) (pe_lst (pa_cons (pe_exc0 PySem.F.excBase_ValueError T.x_NoSpan T.g_NoSpan T.k_NoSpan (by rfl)) (pa_cons (pe_exc0 PySem.F.excBase_ValueError T.x_NoPlace T.g_NoPlace T.k_NoPlace (by rfl)) (pa_cons (pe_exc0 PySem.F.excBase_ValueError T.x_NoCover T.g_NoCover T.k_NoCover (by rfl)) (pa_cons (pe_exc0 PySem.F.excBase_ValueError T.x_NoWeight T.g_NoWeight T.k_NoWeight (by rfl)) (pa_cons (pe_exc0 PySem.F.excBase_ValueError T.x_NoCount T.g_NoCount T.k_NoCount (by rfl)) (pa_cons (pe_exc0 PySem.F.excBase_ValueError T.x_NoName T.g_NoName T.k_NoName (by rfl)) (pa_cons (pe_exc0 PySem.F.excBase_ValueError T.x_Twice T.g_Twice T.k_Twice (by rfl)) (pa_cons (pe_exc0 PySem.F.excBase_ValueError T.x_Full T.g_Full T.k_Full (by rfl)) (pa_cons (pe_exc0 PySem.F.excBase_ValueError T.x_Bare T.g_Bare T.k_Bare (by rfl)) (pa_cons (pe_exc0 PySem.F.excBase_ValueError T.x_NoDeed T.g_NoDeed T.k_NoDeed (by rfl)) pa_nil))))))))))))
      (pss_cons (ps_set (i := 0) sc_l_made_by_hand.nd rfl (Or.inl rfl) (pe_op op_cat (pv 0) (pe_lst (pa_cons (pe_exc0 PySem.F.excBase_ValueError T.x_NoText T.g_NoText T.k_NoText (by rfl)) (pa_cons (pe_exc0 PySem.F.excBase_ValueError T.x_NoLine T.g_NoLine T.k_NoLine (by rfl)) pa_nil)))))
      (pss_cons (ps_set (i := 1) sc_l_made_by_hand.nd rfl (Or.inl rfl) (pe_lst (pa_cons (pe_exc1 PySem.F.excBase_ValueError T.x_NoSpan T.g_NoSpan T.k_NoSpan (by rfl) pe_str) (pa_cons (pe_exc1 PySem.F.excBase_ValueError T.x_NoPlace T.g_NoPlace T.k_NoPlace (by rfl) pe_str) (pa_cons (pe_exc1 PySem.F.excBase_ValueError T.x_NoCover T.g_NoCover T.k_NoCover (by rfl) pe_str) (pa_cons (pe_exc1 PySem.F.excBase_ValueError T.x_NoWeight T.g_NoWeight T.k_NoWeight (by rfl) pe_str) (pa_cons (pe_exc1 PySem.F.excBase_ValueError T.x_NoCount T.g_NoCount T.k_NoCount (by rfl) pe_str) (pa_cons (pe_exc1 PySem.F.excBase_ValueError T.x_NoName T.g_NoName T.k_NoName (by rfl) pe_str) (pa_cons (pe_exc1 PySem.F.excBase_ValueError T.x_Twice T.g_Twice T.k_Twice (by rfl) pe_str) (pa_cons (pe_exc1 PySem.F.excBase_ValueError T.x_Full T.g_Full T.k_Full (by rfl) pe_str) pa_nil))))))))))
      (pss_cons (ps_set (i := 1) sc_l_made_by_hand.nd rfl (Or.inl rfl) (pe_op op_cat (pv 1) (pe_lst (pa_cons (pe_exc1 PySem.F.excBase_ValueError T.x_Bare T.g_Bare T.k_Bare (by rfl) pe_str) (pa_cons (pe_exc1 PySem.F.excBase_ValueError T.x_NoDeed T.g_NoDeed T.k_NoDeed (by rfl) pe_str) (pa_cons (pe_exc1 PySem.F.excBase_ValueError T.x_NoText T.g_NoText T.k_NoText (by rfl) pe_str) (pa_cons (pe_exc1 PySem.F.excBase_ValueError T.x_NoLine T.g_NoLine T.k_NoLine (by rfl) pe_str) pa_nil)))))))
      (pss_cons (ps_for PassesOwn.never (by rfl) (pi_list (pe_lst (pa_cons (pv 0) (pa_cons (pv 1) pa_nil)))) (pg_name (i := 2) sc_l_made_by_hand.nd rfl (Or.inl rfl))
        (pss_one (ps_if (pt_cmpR (op_neD hr.units) (pe_lc (own := [("_law_e", 3)]) (g := (gName 3)) (by rfl) sc_l_made_by_hand.nd (pi_list (pv 2)) (blkOk_by (own := [("_law_e", 3)]) (N := N_l_made_by_hand) (sc := defScope s_l_made_by_hand) (by decide +kernel)) (fun _ _ _ _ _ => (pg_name (i := 3) sc_l_made_by_hand.nd rfl (Or.inl rfl))) (fun _ _ _ _ _ => pts_nil) (fun _ _ _ _ _ => (pe_call G_l_kinds (hr.mono (by decide)) (by rfl) T.g_l_kinds T.F_l_kinds.kp T.b_l_kinds .nil pass0 (pa_cons (pv 3) pa_nil)))) (pe_lc (own := [("_law_k", 4)]) (g := (gName 4)) (by rfl) sc_l_made_by_hand.nd (pi_range1 (by rfl) T.m_range (pa_cons pe_int pa_nil)) (blkOk_by (own := [("_law_k", 4)]) (N := N_l_made_by_hand) (sc := defScope s_l_made_by_hand) (by decide +kernel)) (fun _ _ _ _ _ => (pg_name (i := 4) sc_l_made_by_hand.nd rfl (Or.inl rfl))) (fun _ _ _ _ _ => pts_nil) (fun _ _ _ _ _ => (pe_lst (pa_cons (pv 4) pa_nil)))) (nomark _)) (pss_one (ps_ret pe_bl)) pss_nil)))
      (pss_one (ps_ret (pe_and (pe_cmpR (op_eqD hr.units) (pe_call G_l_kinds (hr.mono (by decide)) (by rfl) T.g_l_kinds T.F_l_kinds.kp T.b_l_kinds .nil pass0 (pa_cons (pe_exc0 PySem.F.excBase_ValueError T.x_ShelfError T.g_ShelfError T.k_ShelfError (by rfl)) pa_nil)) (pe_lst pa_nil) (nomark _)) (pe_one (pe_callB call_isY (by rfl) T.m_isinstance (by decide +kernel) (pa_cons (pe_exc1 PySem.F.excBase_ValueError T.x_ShelfError T.g_ShelfError T.k_ShelfError (by rfl) pe_str) (pa_cons (pe_bltn (v := .ty "ValueError") (by rfl) T.m_ValueError (by decide +kernel) rfl) pa_nil)))))))))))), ?_⟩
    -- some
    simp only [tSeq, tAsg, tC]
    refine exs_lst [T.C_NoSpan, T.C_NoPlace, T.C_NoCover, T.C_NoWeight, T.C_NoCount, T.C_NoName, T.C_Twice, T.C_Full, T.C_Bare, T.C_NoDeed] (by simp) fun H1 v1 s1 x1 l1 n1 => ?_
    obtain ⟨e1, t1⟩ := upd_at (o := .lst v1) n1
    refine ⟨_, rfl, ?_⟩
    refine exs_lst [T.C_NoText, T.C_NoLine] (by simp) fun H2 v2 s2 x2 l2 n2 => ?_
    obtain ⟨e2, t2⟩ := upd_at (o := .lst v2) n2
    refine ⟨l1, l2, _, _, rfl, rfl, t2 _ _ (s2 _ _ e1), e2, small_le (by rw [x1.len, x2.len]; simp), fun l3 n3 => ?_⟩
    obtain ⟨e3, t3⟩ := upd_at (o := .lst (v1 ++ v2)) n3
    have a3 := s1.trans (t1.trans (s2.trans (t2.trans t3)))
    have x3 := (x1.same (t1.trans (s2.trans (t2.trans t3)))).app (x2.same (t2.trans t3))
    have x3 : Exs _ (v1 ++ v2) T.Cs := x3
    -- more
    simp only [gName, tSeq, tAsg, tC]
    refine exs_lst [T.C_NoSpan, T.C_NoPlace, T.C_NoCover, T.C_NoWeight, T.C_NoCount, T.C_NoName, T.C_Twice, T.C_Full] (by simp) fun H4 v4 s4 x4 l4 n4 => ?_
    obtain ⟨e4, t4⟩ := upd_at (o := .lst v4) n4
    refine ⟨_, rfl, ?_⟩
    refine exs_lst [T.C_Bare, T.C_NoDeed, T.C_NoText, T.C_NoLine] (by simp) fun H5 v5 s5 x5 l5 n5 => ?_
    obtain ⟨e5, t5⟩ := upd_at (o := .lst v5) n5
    refine ⟨l4, l5, _, _, rfl, rfl, t5 _ _ (s5 _ _ e4), e5, small_le (by rw [x4.len, x5.len]; simp), fun l6 n6 => ?_⟩
    obtain ⟨e6, t6⟩ := upd_at (o := .lst (v4 ++ v5)) n6
    have b6 := s4.trans (t4.trans (s5.trans (t5.trans t6)))
    have x6 := (x4.same (t4.trans (s5.trans (t5.trans t6)))).app (x5.same (t5.trans t6))
    have x6 : Exs _ (v4 ++ v5) T.Cs := x6
    refine ⟨_, rfl, _, rfl, small_le (by simp), fun l7 n7 => ?_⟩
    obtain ⟨e7, t7⟩ := upd_at (o := .lst [.ref l3, .ref l6]) n7
    have x3 := x3.same (b6.trans t7)
    have x6 := x6.same t7
    have r3 := t7 _ _ (b6 _ _ e3)
    have r6 := t7 _ _ e6
    have all := a3.trans (b6.trans t7)
    revert x3 x6 r3 r6 e7 all
    generalize upd _ l7 _ = H7
    intro e7 x3 x6 r3 r6 all
    have rows : ∀ (i : Nat) (y : V), ([.ref l3, .ref l6] : List V)[i]? = some y → ∃ l vs, y = .ref l ∧ H7 l = some (.lst vs) ∧ Exs H7 vs T.Cs := fun i y e => by
      rcases i with _ | _ | i
      · exact ⟨l3, _, (Option.some.inj e).symm, r3, x3⟩
      · exact ⟨l6, _, (Option.some.inj e).symm, r6, x6⟩
      · simp at e
    refine ⟨l7, rfl, ⟨_, SqL.of e7⟩, for_list (K := K) (a := l7) (xs := [.ref l3, .ref l6]) (fun i σ H' => ∃ y2, σ = [some (.ref l3), some (.ref l6), y2, none, none] ∧ Same H7 H') ⟨none, rfl, Same.refl _⟩ (fun i σ H' _ ⟨_, _, sm⟩ => SqL.of (sm _ _ e7)) ?_ ?_⟩
    · rintro i y σ H' hi ⟨y2, rfl, sm⟩
      obtain ⟨l, vs, rfl, hl, hx⟩ := rows i y hi
      refine ⟨_, rfl, l, rfl, ⟨_, SqL.of (sm _ _ hl)⟩, fun D nD => ?_⟩
      have hx := hx.same sm
      have hl := sm _ _ hl
      have hlen : vs.length = 12 := by
        rw [hx.len]
        rfl
      have nlD : l ≠ D := ne_of_none hl nD
      refine lc_list (K := K) (a := l) (xs := vs) (fun k H'' => Same H' H'' ∧ ∃ us, H'' D = some (.lst us) ∧ Lls H'' us ((List.range k).map fun (j : Nat) => [(j : Int)])) ⟨same_upd nD, [], upd_same, .nil⟩ (fun k H'' _ h => SqL.of (h.1 _ _ hl)) ?_ ?_
      · rintro k x H'' hk ⟨s8, us, hD, hu⟩
        refine ⟨rfl, ?_⟩
        unfold tYes
        refine iteT ⟨_, rfl, x, [(k : Int)], rfl, (hx.same s8).kd hk, fun H9 p s9 np hp => ?_⟩
        have nD0 := nD
        have hD9 := s9 _ _ hD
        have kl : k < 12 := by
          rw [← hlen]
          exact (List.getElem?_eq_some_iff.mp hk).1
        have ul := hu.len
        rw [List.length_map, List.length_range] at ul
        have pD : p ≠ D := fun z => by
          rw [z, hD] at np
          cases np
        refine ⟨us, hD9, small_lt (by omega), same_more (s8.trans s9) nD, us ++ [.ref p], upd_same, ?_⟩
        have cu : ∀ {ws : List V} {ll : List (List Int)}, Lls H'' ws ll → (∀ v ∈ ws, v ≠ .ref D) → Lls (upd H9 D (.lst (us ++ [.ref p]))) ws ll := fun {ws ll} h hne => by
          induction h with
          | nil => exact .nil
          | @cons t r vs ll ht hr ih =>
            refine .cons ?_ (ih fun v hv => hne v (List.mem_cons_of_mem _ hv))
            rw [upd_ne (fun z => hne (.ref t) List.mem_cons_self (by rw [z]))]
            exact s9 _ _ ht
        have nus : ∀ v ∈ us, v ≠ .ref D := fun v hv z => by
          subst z
          have key : ∀ {ws : List V} {ll : List (List Int)}, Lls H'' ws ll → .ref D ∈ ws → ∃ r : List Int, H'' D = some (.lst (r.map V.int)) := fun {ws ll} h hm => by
            induction h with
            | nil => cases hm
            | @cons t r vs ll ht hr ih =>
              rcases List.mem_cons.mp hm with e | e
              · cases e
                exact ⟨r, ht⟩
              · exact ih e
          obtain ⟨r, hr⟩ := key hu hv
          rw [hD] at hr
          have e := HO.lst.inj (Option.some.inj hr)
          rw [e] at hv
          obtain ⟨z, _, hz⟩ := List.mem_map.mp hv
          cases hz
        rw [List.range_succ, List.map_append]
        refine (cu hu nus).app (.cons ?_ .nil)
        rw [upd_ne pD]
        exact hp
      · rintro H'' ⟨s8, us, hD, hu⟩
        refine ⟨12, rfl, by decide, by decide, fun D2 nD2 => ?_⟩
        rw [hlen] at hu
        refine lc_range (lo := 0) (n := 12) (fun k H9 => Same H'' H9 ∧ ∃ ws, H9 D2 = some (.lst ws) ∧ Lls H9 ws ((List.range k).map fun (j : Nat) => [(j : Int)]) ∧ ∀ v ∈ ws, v ≠ .ref D2) ⟨same_upd nD2, [], upd_same, .nil, fun v hv => nomatch hv⟩ ?_ ?_
        · rintro k H9 hk ⟨s9, ws, hD2, hw, nw⟩
          refine ⟨rfl, ?_⟩
          unfold tYes
          refine iteT ⟨_, rfl, small_le (by simp), fun p np => ?_⟩
          have wl := hw.len
          rw [List.length_map, List.length_range] at wl
          have pD : p ≠ D2 := fun z => by
            rw [z, hD2] at np
            cases np
          obtain ⟨ep, sp⟩ := upd_at (o := .lst [.int (0 + (k : Int))]) np
          refine ⟨ws, sp _ _ hD2, small_lt (by omega), same_more (s9.trans sp) nD2, ws ++ [.ref p], upd_same, ?_, ?_⟩
          · have cu : ∀ {ws' : List V} {ll : List (List Int)}, Lls H9 ws' ll → (∀ v ∈ ws', v ≠ .ref D2) → Lls (upd (upd H9 p (.lst [.int (0 + (k : Int))])) D2 (.lst (ws ++ [.ref p]))) ws' ll := fun {ws' ll} h hne => by
              induction h with
              | nil => exact .nil
              | @cons t r vs ll ht hr ih =>
                refine .cons ?_ (ih fun v hv => hne v (List.mem_cons_of_mem _ hv))
                rw [upd_ne (fun z => hne (.ref t) List.mem_cons_self (by rw [z]))]
                exact sp _ _ ht
            rw [List.range_succ, List.map_append]
            refine (cu hw nw).app (.cons ?_ .nil)
            rw [upd_ne pD, ep, Int.zero_add]
            rfl
          · intro v hv
            rcases List.mem_append.mp hv with hv | hv
            · exact nw v hv
            · rw [List.mem_singleton.mp hv]
              exact fun z => pD (V.ref.inj z)
        · rintro H9 ⟨s9, ws, hD2, hw, nw⟩
          refine ⟨_, _, .lst (SqL.of (s9 _ _ hD)) (hu.same s9).dpAll, .lst (SqL.of hD2) hw.dpAll, shaped_ll _, shaped_ll _, _, rfl, ?_⟩
          rw [eqv_ll_refl]
          exact iteF ⟨_, rfl, sm.trans (s8.trans s9)⟩
    · rintro σ H' ⟨y2, rfl, sm⟩
      refine fun a na => ?_
      obtain ⟨ea, sa⟩ := upd_at (o := ExO (.ref T.C_ShelfError) a) na
      refine ⟨.ref a, [], rfl, .inl ⟨a, 0, _, rfl, rfl, isEx_O ea, rfl⟩, fun H8 p s8 np hp => ?_⟩
      refine ⟨Nat.zero_le _, fun l8 n8 => ?_⟩
      obtain ⟨e8, t8⟩ := upd_at (o := .lst []) n8
      refine ⟨_, _, .lst (SqL.of (t8 _ _ hp)) (dpAll_ints []), .lst (SqL.of e8) .nil, shaped_ints [], shaped_nil, true, rfl, iteT ?_⟩
      refine fun b nb => ?_
      obtain ⟨eb, sb⟩ := upd_at (o := ExO (.ref T.C_ShelfError) b) nb
      refine .inl ⟨b, _, _, _, true, rfl, isEx_O eb, excC_of T List.mem_cons_self, .ty _, (kit_tops T List.mem_cons_self).2, ?_⟩
      exact q _ (all.trans (sm.trans (sa.trans (s8.trans (t8.trans sb)))))
end
section
variable {P : Program} {w : World} {K : PySem.W.Frag} {mg : Str → Option Value} {base : Heap}
/-! ### a tuple that is no span -/
def spBad : Sp := fun vs H Q _ => ∃ (p : Addr) (n : Nat), vs = [.ref p] ∧ Pu H p n ∧ n + 12 ≤ 1000000000 ∧ ∀ H' v s, Chg [p] H H' → Pu H' p (n + 12) → Spn H' v s → isSpan s = false → (∀ a, v = .ref a → H a = none) → Q v H'
theorem not_span {a b : Int} (h : ¬ (-999999999999 ≤ a ∧ a < b ∧ b ≤ 999999999999)) : isSpan (a, b) = false := by
  cases e : isSpan (a, b) with
  | false => rfl
  | true => exact absurd ((isSpan_iff (a, b)).mp e) h
theorem ok_bad_span (T : Tx K mg) : FnOk P w K mg base CX0 (4) T.f_l_bad_span T.fd_l_bad_span ["_law_purse_here"] spBad := by
  have G_l_draw : FnOk P w K mg base CX0 _ _ _ _ _ := ok_draw T
  have G_l_number : FnOk P w K mg base CX0 _ _ _ _ _ := ok_number T
  refine T.F_l_bad_span.ok sc_l_bad_span (fun vs H Q E h => ?_) (fun cdv A outer s H vs Q E hr h => ?_)
  · obtain ⟨p, n, rfl, _⟩ := h
    rfl
  · obtain ⟨p, n, rfl, hp, hn, q⟩ := h
    refine ⟨_, (pss_cons (ps_set (i := 1) sc_l_bad_span.nd rfl (Or.inl rfl) (pe_op op_add (pe_op op_pow pe_int pe_int) (pe_call G_l_draw (hr.mono (by decide)) (by rfl) T.g_l_draw T.F_l_draw.kp T.b_l_draw .nil pass0 (pa_cons (pv 0) (pa_cons (pe_op op_pow pe_int pe_int) pa_nil)))))
      (pss_cons (ps_set (i := 2) sc_l_bad_span.nd rfl (Or.inl rfl) (pe_call G_l_number (hr.mono (by decide)) (by rfl) T.g_l_number T.F_l_number.kp T.b_l_number .nil pass0 (pa_cons (pv 0) (pa_cons (pe_op op_sub (pe_op op_pow pe_int pe_int) pe_int) pa_nil))))
      (pss_cons (ps_set (i := 3) sc_l_bad_span.nd rfl (Or.inl rfl) (pe_lst (pa_cons (pe_tup (pa_cons (pv 2) (pa_cons (pv 2) pa_nil))) (pa_cons (pe_tup (pa_cons (pe_op op_add (pv 2) pe_int) (pa_cons (pv 2) pa_nil))) (pa_cons (pe_tup (pa_cons (pv 2) (pa_cons (pv 1) pa_nil))) (pa_cons (pe_tup (pa_cons (pe_op op_sub pe_int (pv 1)) (pa_cons (pv 2) pa_nil))) (pa_cons (pe_tup (pa_cons (pv 1) (pa_cons (pe_op op_add (pv 1) pe_int) pa_nil))) (pa_cons (pe_tup (pa_cons (pe_op op_sub (pe_op op_sub pe_int (pv 1)) pe_int) (pa_cons (pe_op op_sub pe_int (pv 1)) pa_nil))) pa_nil))))))))
      (pss_cons (ps_set (i := 3) sc_l_bad_span.nd rfl (Or.inl rfl) (pe_op op_cat (pv 3) (pe_lst (pa_cons (pe_tup (pa_cons (pe_op op_sub pe_int (pe_op op_pow pe_int pe_int)) (pa_cons pe_int pa_nil))) (pa_cons (pe_tup (pa_cons pe_int (pa_cons (pe_op op_pow pe_int pe_int) pa_nil))) (pa_cons (pe_tup (pa_cons (pe_op op_pow pe_int pe_int) (pa_cons (pe_op op_sub pe_int (pe_op op_pow pe_int pe_int)) pa_nil))) pa_nil))))))
      (pss_one (ps_ret (pe_ix ix_list (pv 3) (pe_call G_l_draw (hr.mono (by decide)) (by rfl) T.g_l_draw T.F_l_draw.kp T.b_l_draw .nil pass0 (pa_cons (pv 0) (pa_cons pe_int pa_nil))) (fun _ _ => rfl)))))))), ?_⟩
    have e12 : (10 : Int) ^ (12 : Int).toNat = 1000000000000 := by decide
    have e18 : (10 : Int) ^ (18 : Int).toNat = 1000000000000000000 := by decide
    have e29 : (10 : Int) ^ (29 : Int).toNat = 100000000000000000000000000000 := by decide
    refine ⟨_, _, rfl, rfl, ⟨by decide, by decide, by decide⟩, _, rfl, _, _, rfl, rfl, ⟨by decide, by decide, by decide⟩, p, _, n, rfl, hp, by omega, ?_, ?_, fun H1 r c1 p1 r0 r1 => ?_⟩
    · rw [e18]
      decide
    · rw [e18]
      decide
    rw [e18] at r1
    refine ⟨_, _, rfl, rfl, ?_⟩
    rw [e12]
    refine ⟨_, rfl, _, _, rfl, rfl, ⟨by decide, by decide, by decide⟩, _, _, rfl, rfl, p, _, n + 3, rfl, p1, by omega, ?_, ?_, fun H2 x c2 p2 x0 x1 => ?_⟩
    · rw [e12]
      decide
    · rw [e12]
      decide
    rw [e12] at x0 x1
    refine ⟨_, rfl, _, rfl, (by show 2 ≤ sizeLine; decide), fun t1 n1 => ?_⟩
    obtain ⟨g1, s1⟩ := upd_at (o := .tup [.int x, .int x]) n1
    refine ⟨_, rfl, _, _, rfl, rfl, _, rfl, (by show 2 ≤ sizeLine; decide), fun t2 n2 => ?_⟩
    obtain ⟨g2, s2⟩ := upd_at (o := .tup [.int (x + 1), .int x]) n2
    refine ⟨_, rfl, _, rfl, (by show 2 ≤ sizeLine; decide), fun t3 n3 => ?_⟩
    obtain ⟨g3, s3⟩ := upd_at (o := .tup [.int x, .int (1000000000000 + r)]) n3
    refine ⟨_, rfl, _, _, rfl, rfl, _, rfl, (by show 2 ≤ sizeLine; decide), fun t4 n4 => ?_⟩
    obtain ⟨g4, s4⟩ := upd_at (o := .tup [.int (0 - (1000000000000 + r)), .int x]) n4
    refine ⟨_, rfl, _, rfl, _, _, rfl, rfl, (by show 2 ≤ sizeLine; decide), fun t5 n5 => ?_⟩
    obtain ⟨g5, s5⟩ := upd_at (o := .tup [.int (1000000000000 + r), .int (1000000000000 + r + 1)]) n5
    refine ⟨_, rfl, _, _, rfl, rfl, _, _, rfl, rfl, _, rfl, _, _, rfl, rfl, (by show 2 ≤ sizeLine; decide), fun t6 n6 => ?_⟩
    obtain ⟨g6, s6⟩ := upd_at (o := .tup [.int (0 - (1000000000000 + r) - 1), .int (0 - (1000000000000 + r))]) n6
    refine ⟨small_le (by simp), fun l1 m1 => ?_⟩
    obtain ⟨k1, u1⟩ := upd_at (o := .lst [.ref t1, .ref t2, .ref t3, .ref t4, .ref t5, .ref t6]) m1
    refine ⟨_, rfl, _, _, rfl, rfl, ⟨by decide, by decide, by decide⟩, _, _, rfl, rfl, (by show 2 ≤ sizeLine; decide), fun t7 n7 => ?_⟩
    obtain ⟨g7, s7⟩ := upd_at (o := .tup [.int (0 - (10 : Int) ^ (12 : Int).toNat), .int 0]) n7
    refine ⟨_, _, rfl, rfl, ⟨by decide, by decide, by decide⟩, (by show 2 ≤ sizeLine; decide), fun t8 n8 => ?_⟩
    obtain ⟨g8, s8⟩ := upd_at (o := .tup [.int 0, .int ((10 : Int) ^ (12 : Int).toNat)]) n8
    refine ⟨_, _, rfl, rfl, ⟨by decide, by decide, by decide⟩, _, _, rfl, rfl, ⟨by decide, by decide, by decide⟩, _, _, rfl, rfl, (by show 2 ≤ sizeLine; decide), fun t9 n9 => ?_⟩
    obtain ⟨g9, s9⟩ := upd_at (o := .tup [.int ((10 : Int) ^ (29 : Int).toNat), .int (0 - (10 : Int) ^ (29 : Int).toNat)]) n9
    refine ⟨small_le (by simp), fun l2 m2 => ?_⟩
    obtain ⟨k2, u2⟩ := upd_at (o := .lst [.ref t7, .ref t8, .ref t9]) m2
    refine ⟨l1, l2, _, _, rfl, rfl, u2 _ _ (s9 _ _ (s8 _ _ (s7 _ _ k1))), k2, small_le (by simp), fun l3 m3 => ?_⟩
    obtain ⟨k3, u3⟩ := upd_at (o := .lst ([.ref t1, .ref t2, .ref t3, .ref t4, .ref t5, .ref t6] ++ [.ref t7, .ref t8, .ref t9])) m3
    have z9 := u2.trans u3
    have z8 := s9.trans z9
    have z7 := s8.trans z8
    have z6 := u1.trans (s7.trans z7)
    have z5 := s6.trans z6
    have z4 := s5.trans z5
    have z3 := s4.trans z4
    have z2 := s3.trans z3
    have z1 := s2.trans z2
    have z0 := s1.trans z1
    have cc : Chg [p] H _ := c1.trans (c2.trans (Chg.of_same z0))
    have pp := p2.same z0
    have old : ∀ a, H2 a = none → a ≠ p → H a = none := fun a h ne => (c1.trans c2).free (nmem1 ne) h
    have fr : ∀ (b : Addr) (H' : Hp), Same H2 H' → H' b = none → H b = none := fun b H' e h => old b (e.free h) (fun z => by
      obtain ⟨o, ho⟩ := p2.at
      rw [z, e _ _ ho] at h
      cases h)
    have f1 := fr t1 _ (Same.refl _) n1
    have f2 := fr t2 _ s1 n2
    have f3 := fr t3 _ (s1.trans s2) n3
    have f4 := fr t4 _ (s1.trans (s2.trans s3)) n4
    have f5 := fr t5 _ (s1.trans (s2.trans (s3.trans s4))) n5
    have f6 := fr t6 _ (s1.trans (s2.trans (s3.trans (s4.trans s5)))) n6
    have f7 := fr t7 _ (s1.trans (s2.trans (s3.trans (s4.trans (s5.trans (s6.trans u1)))))) n7
    have f8 := fr t8 _ (s1.trans (s2.trans (s3.trans (s4.trans (s5.trans (s6.trans (u1.trans s7))))))) n8
    have f9 := fr t9 _ (s1.trans (s2.trans (s3.trans (s4.trans (s5.trans (s6.trans (u1.trans (s7.trans s8)))))))) n9
    have nine : ∀ i : Nat, i < 9 → ∃ t s, ([.ref t1, .ref t2, .ref t3, .ref t4, .ref t5, .ref t6] ++ [.ref t7, .ref t8, .ref t9] : List V)[i]? = some (.ref t) ∧ Spn _ (.ref t) s ∧ isSpan s = false ∧ H t = none := fun i hi => by
      rcases i with _ | _ | _ | _ | _ | _ | _ | _ | _ | i
      · exact ⟨t1, (x, x), rfl, ⟨t1, rfl, z1 _ _ g1⟩, not_span (by omega), f1⟩
      · exact ⟨t2, (x + 1, x), rfl, ⟨t2, rfl, z2 _ _ g2⟩, not_span (by omega), f2⟩
      · exact ⟨t3, (x, 1000000000000 + r), rfl, ⟨t3, rfl, z3 _ _ g3⟩, not_span (by omega), f3⟩
      · exact ⟨t4, (0 - (1000000000000 + r), x), rfl, ⟨t4, rfl, z4 _ _ g4⟩, not_span (by omega), f4⟩
      · exact ⟨t5, (1000000000000 + r, 1000000000000 + r + 1), rfl, ⟨t5, rfl, z5 _ _ g5⟩, not_span (by omega), f5⟩
      · exact ⟨t6, (0 - (1000000000000 + r) - 1, 0 - (1000000000000 + r)), rfl, ⟨t6, rfl, z6 _ _ g6⟩, not_span (by omega), f6⟩
      · exact ⟨t7, (0 - (10 : Int) ^ (12 : Int).toNat, 0), rfl, ⟨t7, rfl, z7 _ _ g7⟩, not_span (by rw [e12]; omega), f7⟩
      · exact ⟨t8, (0, (10 : Int) ^ (12 : Int).toNat), rfl, ⟨t8, rfl, z8 _ _ g8⟩, not_span (by rw [e12]; omega), f8⟩
      · exact ⟨t9, ((10 : Int) ^ (29 : Int).toNat, 0 - (10 : Int) ^ (29 : Int).toNat), rfl, ⟨t9, rfl, z9 _ _ g9⟩, not_span (by rw [e29]; omega), f9⟩
      · omega
    refine ⟨_, rfl, _, rfl, p, 9, n + 9, rfl, pp, by omega, by decide, by decide, fun H3 y c3 p3 y0 y1 => ?_⟩
    obtain ⟨t, sp, hi, hs, bad, ft⟩ := nine y.toNat (by omega)
    have l3p : l3 ≠ p := fun z => by
      obtain ⟨o, ho⟩ := (p2.same (s1.trans (s2.trans (s3.trans (s4.trans (s5.trans (s6.trans (u1.trans (s7.trans (s8.trans (s9.trans u2))))))))))).at
      rw [z, ho] at m3
      cases m3
    have ls := pp.lsts
    refine ⟨l3, _, y, .ref t, rfl, rfl, SqL.of (c3 _ _ (nmem1 l3p) k3), at_of (j := y.toNat) (by omega) hi, ?_⟩
    exact q _ _ sp (cc.trans c3) (p3.mono (by omega)) (hs.chg c3 ls) bad (fun a ha => by cases ha; exact ft)
end
section
variable {P : Program} {w : World} {K : PySem.W.Frag} {mg : Str → Option Value} {base : Heap}
/-! ### the law: no spans -/
def badR (b : Bool) : List Int := if b = true then [] else [0]
def okBy (wy : Int) (s r : Span) : Bool := if wy = 0 then isSpan s else isSpan s && isSpan r
def spCaught : Sp := fun vs H Q _ => ∃ (wy : Int) (v u : V) (s r : Span), vs = [.int wy, v, u] ∧ Spn H v s ∧ Spn H u r ∧ ∀ H' p, Same H H' → H' p = some (.lst ((badR (okBy wy s r)).map V.int)) → Q (.ref p) H'
theorem ok_caught (T : Tx K mg) : FnOk P w K mg base CX0 (6) T.f_l_caught T.fd_l_caught ["_law_way", "_law_one", "_law_other"] spCaught := by
  have G_length_of : FnOk P w K mg base (L2.CX P w) _ _ _ _ _ := ok_length_of T
  have G_meet : FnOk P w K mg base (L2.CX P w) _ _ _ _ _ := ok_meet T
  have G_lies_within : FnOk P w K mg base (L2.CX P w) _ _ _ _ _ := ok_lies_within T
  have G_l_kinds : FnOk P w K mg base CX0 _ _ _ _ _ := ok_kinds T
  refine T.F_l_caught.ok sc_l_caught (fun vs H Q E h => ?_) (fun cdv A outer s H vs Q E hr h => ?_)
  · obtain ⟨wy, v, u, s, r, rfl, _⟩ := h
    rfl
  · obtain ⟨wy, v, u, s, r, rfl, hv, hu, q⟩ := h
    refine ⟨_, (pss_cons (ps_set (i := 3) sc_l_caught.nd rfl (Or.inl rfl) pe_non)
      (pss_cons (ps_try_kept 4 3 rfl rfl sc_l_caught.nd rfl rfl rfl rfl ⟨rfl, by decide, Or.inl T.g_ShelfError⟩ rfl (fun W pn xe tk _ => (pss_one (ps_if (pt_cmpR op_eq (pv 0) pe_int (nomark _)) (pss_one (ps_expr (pe_callS G_length_of (hr.mono (by decide)) (by rfl) T.g_length_of T.F_length_of.kp T.b_length_of (fun σ => passAt tk σ) (pa_cons (pv 1) pa_nil)))) (pss_one (ps_if (pt_cmpR op_eq (pv 0) pe_int (nomark _)) (pss_one (ps_expr (pe_callS G_meet (hr.mono (by decide)) (by rfl) T.g_meet T.F_meet.kp T.b_meet (fun σ => passAt tk σ) (pa_cons (pv 1) (pa_cons (pv 2) pa_nil))))) (pss_one (ps_expr (pe_callS G_lies_within (hr.mono (by decide)) (by rfl) T.g_lies_within T.F_lies_within.kp T.b_lies_within (fun σ => passAt tk σ) (pa_cons (pv 1) (pa_cons (pv 2) pa_nil)))))))))))
      (pss_one (ps_ret (pe_call G_l_kinds (hr.mono (by decide)) (by rfl) T.g_l_kinds T.F_l_kinds.kp T.b_l_kinds .nil pass0 (pa_cons (pv 3) pa_nil)))))), ?_⟩
    have hm : T.C_NoSpan ∈ T.C_ShelfError :: T.Cs := List.mem_cons_of_mem _ List.mem_cons_self
    -- how it ends: nothing caught, or a refusal
    have good : ∀ b : Bool, b = true → okBy wy s r = b → (tRet (tCall (spKinds T) [] E0 (tCons (tVar 3) tNil))) { nx := fun _ H' => Q .non H', rt := Q } [some (.int wy), some v, some u, some .non, none] H := fun b hb e => by
      subst hb
      refine ⟨_, rfl, .non, [], rfl, .inr ⟨rfl, rfl⟩, fun H' p s1 np hp => q H' p s1 ?_⟩
      rw [e]
      exact hp
    have bad : okBy wy s r = false → ∀ a, H a = none → (tRet (tCall (spKinds T) [] E0 (tCons (tVar 3) tNil))) { nx := fun _ H' => Q .non H', rt := Q } [some (.int wy), some v, some u, some (.ref a), none] (upd H a (ExP (.ref T.C_NoSpan) a)) := fun e a na => by
      obtain ⟨ea, sa⟩ := upd_at (o := ExP (.ref T.C_NoSpan) a) na
      refine ⟨_, rfl, .ref a, [0], rfl, .inl ⟨a, 1, _, rfl, rfl, isEx_P ea, rfl⟩, fun H' p s1 np hp => q H' p (sa.trans s1) ?_⟩
      rw [e]
      exact hp
    refine ⟨_, rfl, rfl, _, rfl, ite2 (fun e => ?_) (fun e => ?_)⟩
    · have e0 : wy = 0 := V.int.inj (of_decide_eq_true e)
      have eo : okBy wy s r = isSpan s := if_pos e0
      exact ⟨_, rfl, v, s, rfl, hv, fun h => good true rfl (by rw [eo]; exact h), fun h => ⟨rfl, exm_all T hm, fun a na => bad (by rw [eo]; exact h) a na⟩⟩
    · have e0 : ¬ wy = 0 := fun z => e (decide_eq_true (congrArg V.int z))
      have eo : okBy wy s r = (isSpan s && isSpan r) := if_neg e0
      refine ⟨_, rfl, rfl, _, rfl, ite2 (fun _ => ?_) (fun _ => ?_)⟩
      · exact ⟨_, rfl, _, rfl, v, u, s, r, rfl, hv, hu, fun h1 h2 => good true rfl (by rw [eo, h1, h2]; rfl), fun h => ⟨rfl, exm_all T hm, fun a na => bad (by rw [eo, h]; rfl) a na⟩, fun h1 h2 => ⟨rfl, exm_all T hm, fun a na => bad (by rw [eo, h1, h2]; rfl) a na⟩⟩
      · exact ⟨_, rfl, _, rfl, v, u, s, r, rfl, hv, hu, fun h1 h2 => good true rfl (by rw [eo, h1, h2]; rfl), fun h => ⟨rfl, exm_all T hm, fun a na => bad (by rw [eo, h]; rfl) a na⟩, fun h1 h2 => ⟨rfl, exm_all T hm, fun a na => bad (by rw [eo, h1, h2]; rfl) a na⟩⟩
def spLaw (K : PySem.W.Frag) : Sp := fun vs H Q _ => ∃ (a : Addr) (ns : List Int), vs = [.ref a] ∧ SqL K H a (ns.map V.int) ∧ ns.length ≤ 63 ∧ Only H ∧ ∀ H', Q (.bl true) H'
theorem ok_law (T : Tx K mg) {f : Addr} {fd : FuncData} (F : Fun K "law" "law" s_law f fd) : FnOk P w K mg base CX0 (7) f fd ["_law_script"] (spLaw K) := by
  have G_l_purse : FnOk P w K mg base CX0 _ _ _ _ _ := ok_purse T
  have G_l_span : FnOk P w K mg base CX0 _ _ _ _ _ := ok_span T
  have G_l_made_by_hand : FnOk P w K mg base CX0 _ _ _ _ _ := ok_made T
  have G_l_bad_span : FnOk P w K mg base CX0 _ _ _ _ _ := ok_bad_span T
  have G_l_caught : FnOk P w K mg base CX0 _ _ _ _ _ := ok_caught T
  refine F.ok sc_law (fun vs H Q E h => ?_) (fun cdv A outer s H vs Q E hr h => ?_)
  · obtain ⟨a, ns, rfl, _⟩ := h
    rfl
  · obtain ⟨a, ns, rfl, hS, hlen, hO, q⟩ := h
    refine ⟨_, (pss_cons (ps_if (pt_not (pt_val (pe_call0 G_l_made_by_hand (hr.mono (by decide)) (by rfl) T.g_l_made_by_hand T.F_l_made_by_hand.kp T.b_l_made_by_hand .nil pass0 ))) (pss_one (ps_ret pe_bl)) pss_nil)
      (pss_cons (ps_set (i := 1) sc_law.nd rfl (Or.inl rfl) (pe_call G_l_purse (hr.mono (by decide)) (by rfl) T.g_l_purse T.F_l_purse.kp T.b_l_purse .nil pass0 (pa_cons (pv 0) (pa_cons pe_int pa_nil))))
      (pss_cons (ps_set (i := 2) sc_law.nd rfl (Or.inl rfl) (pe_call G_l_span (hr.mono (by decide)) (by rfl) T.g_l_span T.F_l_span.kp T.b_l_span .nil pass0 (pa_cons (pv 1) (pa_cons (pe_lst pa_nil) (pa_cons (pe_op op_sub (pe_op op_pow pe_int pe_int) pe_int) pa_nil)))))
      (pss_cons (ps_for PassesOwn.never (by rfl) (pi_list (pe_lst (pa_cons (pv 2) (pa_cons (pe_tup (pa_cons (pe_op op_sub pe_int (pe_op op_pow pe_int pe_int)) (pa_cons (pe_op op_sub (pe_op op_pow pe_int pe_int) pe_int) pa_nil))) pa_nil)))) (pg_name (i := 3) sc_law.nd rfl (Or.inl rfl))
        (pss_one (ps_for PassesOwn.never (by rfl) (pi_range1 (by rfl) T.m_range (pa_cons pe_int pa_nil)) (pg_name (i := 4) sc_law.nd rfl (Or.inl rfl))
        (pss_cons (ps_set (i := 5) sc_law.nd rfl (Or.inl rfl) (pe_call G_l_bad_span (hr.mono (by decide)) (by rfl) T.g_l_bad_span T.F_l_bad_span.kp T.b_l_bad_span .nil pass0 (pa_cons (pv 1) pa_nil)))
      (pss_one (ps_for PassesOwn.never (by rfl) (pi_range1 (by rfl) T.m_range (pa_cons pe_int pa_nil)) (pg_name (i := 6) sc_law.nd rfl (Or.inl rfl))
        (pss_cons (ps_if (PW.pt (pw_or (pt_cmpR (op_neD hr.units) (pe_call G_l_caught (hr.mono (by decide)) (by rfl) T.g_l_caught T.F_l_caught.kp T.b_l_caught .nil pass0 (pa_cons (pv 6) (pa_cons (pv 5) (pa_cons (pv 3) pa_nil)))) (pe_lst (pa_cons pe_int pa_nil)) (nomark _)) (pw_or1 (pt_cmpR (op_neD hr.units) (pe_call G_l_caught (hr.mono (by decide)) (by rfl) T.g_l_caught T.F_l_caught.kp T.b_l_caught .nil pass0 (pa_cons (pv 6) (pa_cons (pv 3) (pa_cons (pv 3) pa_nil)))) (pe_lst pa_nil) (nomark _))))) (pss_one (ps_ret pe_bl)) pss_nil)
      (pss_cons (ps_if (PW.pt (pw_and (pt_cmpR op_gt (pv 6) pe_int (nomark _)) (pw_and1 (pt_cmpR (op_neD hr.units) (pe_call G_l_caught (hr.mono (by decide)) (by rfl) T.g_l_caught T.F_l_caught.kp T.b_l_caught .nil pass0 (pa_cons (pv 6) (pa_cons (pv 3) (pa_cons (pv 5) pa_nil)))) (pe_lst (pa_cons pe_int pa_nil)) (nomark _))))) (pss_one (ps_ret pe_bl)) pss_nil)
      (pss_one (ps_if (PW.pt (pw_and (pt_cmpR op_gt (pv 6) pe_int (nomark _)) (pw_and1 (pt_cmpR (op_neD hr.units) (pe_call G_l_caught (hr.mono (by decide)) (by rfl) T.g_l_caught T.F_l_caught.kp T.b_l_caught .nil pass0 (pa_cons (pv 6) (pa_cons (pv 5) (pa_cons (pv 5) pa_nil)))) (pe_lst (pa_cons pe_int pa_nil)) (nomark _))))) (pss_one (ps_ret pe_bl)) pss_nil))))))))))
      (pss_one (ps_ret pe_bl)))))), ?_⟩
    have e12 : (10 : Int) ^ (12 : Int).toNat = 1000000000000 := by decide
    refine ⟨rfl, fun H0 s0 => ⟨true, rfl, iteF ?_⟩⟩
    refine ⟨_, rfl, a, ns, 0, rfl, s0.seq hS, by decide, by decide, fun H1 p s1 np p1 => ?_⟩
    refine ⟨_, rfl, Nat.zero_le _, fun e ne => ?_⟩
    obtain ⟨ge, s2⟩ := upd_at (o := .lst []) ne
    have nep : e ≠ p := (p1.ne ne).symm
    refine ⟨_, _, rfl, rfl, ⟨by decide, by decide, by decide⟩, _, _, rfl, rfl, p, e, _, 63000, [], rfl, p1.same s2, by decide, ge, nep, by decide, by rw [e12]; decide, by rw [e12]; decide, fun H2 t lo hi c2 p2 hE2 nt ht b1 b2 b3 => ?_⟩
    rw [e12] at b1 b3
    have gs : isSpan (lo, hi) = true := (isSpan_iff (lo, hi)).mpr ⟨by simpa using b1, b2, by simpa using b3⟩
    refine ⟨_, rfl, _, _, rfl, rfl, ⟨by decide, by decide, by decide⟩, _, _, rfl, rfl, _, _, rfl, rfl, ⟨by decide, by decide, by decide⟩, _, _, rfl, rfl, (by show 2 ≤ sizeLine; decide), fun t2 n2 => ?_⟩
    obtain ⟨g2, s3⟩ := upd_at (o := .tup [.int (1 - (10 : Int) ^ (12 : Int).toNat), .int ((10 : Int) ^ (12 : Int).toNat - 1)]) n2
    refine ⟨small_le (by simp), fun L nL => ?_⟩
    obtain ⟨gL, s4⟩ := upd_at (o := .lst [.ref t, .ref t2]) nL
    have p4 := (p2.same s3).same s4
    have gt := s4 _ _ (s3 _ _ ht)
    have gt2 := s4 _ _ g2
    have nLp : L ≠ p := ((p2.same s3).ne nL).symm
    revert p4 gt gt2 gL
    generalize upd _ L _ = H4
    intro gL p4 gt gt2
    have two : ∀ (i : Nat) (y : V), ([.ref t, .ref t2] : List V)[i]? = some y → ∃ s : Span, Spn H4 y s ∧ isSpan s = true := fun i y e => by
      rcases i with _ | _ | i
      · exact ⟨(lo, hi), ⟨t, (Option.some.inj e).symm, gt⟩, gs⟩
      · refine ⟨(1 - (10 : Int) ^ (12 : Int).toNat, (10 : Int) ^ (12 : Int).toNat - 1), ⟨t2, (Option.some.inj e).symm, gt2⟩, (isSpan_iff _).mpr ?_⟩
        rw [e12]
        decide
      · simp at e
    refine ⟨L, rfl, ⟨_, SqL.of gL⟩, for_list (K := K) (a := L) (xs := [.ref t, .ref t2]) (fun i σ H' => ∃ y3 y4 y5 y6, σ = [some (.ref a), some (.ref p), some (.ref t), y3, y4, y5, y6] ∧ Chg [p] H4 H' ∧ Pu H' p (63018 + 36 * i)) ⟨none, none, none, none, rfl, Chg.refl _ _, p4⟩ (fun i σ H' _ ⟨_, _, _, _, _, c, _⟩ => SqL.of (c _ _ (nmem1 nLp) gL)) ?_ ?_⟩
    · rintro i y σ H' hi' ⟨y3, y4, y5, y6, rfl, c5, p5⟩
      have hi2 : i < 2 := (List.getElem?_eq_some_iff.mp hi').1
      obtain ⟨s, hs, ok⟩ := two i y hi'
      have ls4 : Lsts [p] H4 := p4.lsts
      refine ⟨3, rfl, by decide, by decide, for_range (lo := 0) (n := 3) (fun j σ H'' => ∃ y4 y5 y6, σ = [some (.ref a), some (.ref p), some (.ref t), some y, y4, y5, y6] ∧ Chg [p] H4 H'' ∧ Pu H'' p (63018 + 36 * i + 12 * j)) ⟨y4, y5, y6, rfl, c5, p5⟩ ?_ ?_⟩
      · rintro j σ H'' hj ⟨y4, y5, y6, rfl, c6, p6⟩
        refine ⟨_, rfl, p, _, rfl, p6, by omega, fun H7 v r c7 p7 hv bad fv => ?_⟩
        have c8 := c6.trans c7
        have hs7 : Spn H7 y s := hs.chg c8 ls4
        refine ⟨3, rfl, by decide, by decide, for_range (lo := 0) (n := 3) (fun k σ H8 => ∃ y6, σ = [some (.ref a), some (.ref p), some (.ref t), some y, some (.int (0 + (j : Int))), some v, y6] ∧ Same H7 H8) ⟨y6, rfl, Same.refl _⟩ ?_ ?_⟩
        · rintro k σ H8 hk ⟨y6, rfl, s8⟩
          have ok1 : okBy (0 + (k : Int)) r s = false := by
            unfold okBy
            rw [bad]
            split <;> rfl
          have ok2 : okBy (0 + (k : Int)) s s = true := by
            unfold okBy
            rw [ok]
            split <;> rfl
          refine ⟨_, rfl, _, rfl, _, rfl, _, v, y, r, s, rfl, hv.same s8, hs7.same s8, fun H9 l s9 hl => ?_⟩
          rw [ok1] at hl
          refine ⟨small_le (by simp), fun m1 nm1 => ?_⟩
          obtain ⟨gm1, sm1⟩ := upd_at (o := .lst [.int 0]) nm1
          have s10 := s8.trans (s9.trans sm1)
          refine ⟨_, _, .lst (SqL.of (sm1 _ _ hl)) (dpAll_ints [0]), .lst (SqL.of gm1) (dpAll_ints [0]), shaped_ints [0], shaped_ints [0], false, rfl, iteF ?_⟩
          refine ⟨_, rfl, _, rfl, _, rfl, _, y, y, s, s, rfl, hs7.same s10, hs7.same s10, fun H11 l2 s11 hl2 => ?_⟩
          have s11 := s10.trans s11
          rw [ok2] at hl2
          refine ⟨Nat.zero_le _, fun m nm => ?_⟩
          obtain ⟨gm, sm⟩ := upd_at (o := .lst []) nm
          refine ⟨_, _, .lst (SqL.of (sm _ _ hl2)) (dpAll_ints []), .lst (SqL.of gm) .nil, shaped_ints [], shaped_nil, false, rfl, iteF ?_⟩
          have s12 := s11.trans sm
          refine ⟨_, rfl, _, _, rfl, rfl, _, rfl, ?_⟩
          have last : ∀ (H13 : Hp), Same H7 H13 → ((tIfS (tAnd (tTest (tOp (rI0 fun i j => .bl (decide (j < i))) (tVar 6) (tC (.int 0)))) (tTest (tOp (rNeD K) (tCall spCaught [] E0 (tCons (tVar 6) (tCons (tVar 5) (tCons (tVar 5) tNil)))) (tLst (tCons (tC (.int 0)) tNil))))) (tRet (tC (.bl false))) tNext)
              { nx := fun σ' H' => ∃ y6, σ' = [some (.ref a), some (.ref p), some (.ref t), some y, some (.int (0 + (j : Int))), some v, y6] ∧ Same H7 H', rt := Q } [some (.ref a), some (.ref p), some (.ref t), some y, some (.int (0 + (j : Int))), some v, some (.int (0 + (k : Int)))] H13) := fun H13 s13 => by
            refine ⟨_, rfl, _, _, rfl, rfl, _, rfl, ?_⟩
            by_cases hk0 : 0 < 0 + (k : Int)
            · rw [decide_eq_true hk0]
              have okb : okBy (0 + (k : Int)) r r = false := by
                unfold okBy
                rw [bad]
                split <;> rfl
              refine iteT ⟨_, rfl, _, rfl, _, rfl, _, v, v, r, r, rfl, hv.same s13, hv.same s13, fun H14 l3 s14 hl3 => ?_⟩
              rw [okb] at hl3
              refine ⟨small_le (by simp), fun m1 nm1 => ?_⟩
              obtain ⟨gm1, sm1⟩ := upd_at (o := .lst [.int 0]) nm1
              exact ⟨_, _, .lst (SqL.of (sm1 _ _ hl3)) (dpAll_ints [0]), .lst (SqL.of gm1) (dpAll_ints [0]), shaped_ints [0], shaped_ints [0], false, rfl, iteF ⟨_, rfl, s13.trans (s14.trans sm1)⟩⟩
            · rw [decide_eq_false hk0]
              exact iteF (iteF ⟨_, rfl, s13⟩)
          by_cases hk0 : 0 < 0 + (k : Int)
          · rw [decide_eq_true hk0]
            have okc : okBy (0 + (k : Int)) s r = false := by
              unfold okBy
              rw [bad, if_neg (by omega), Bool.and_false]
            refine iteT ⟨_, rfl, _, rfl, _, rfl, _, y, v, s, r, rfl, hs7.same s12, hv.same s12, fun H14 l3 s14 hl3 => ?_⟩
            rw [okc] at hl3
            refine ⟨small_le (by simp), fun m1 nm1 => ?_⟩
            obtain ⟨gm1, sm1⟩ := upd_at (o := .lst [.int 0]) nm1
            exact ⟨_, _, .lst (SqL.of (sm1 _ _ hl3)) (dpAll_ints [0]), .lst (SqL.of gm1) (dpAll_ints [0]), shaped_ints [0], shaped_ints [0], false, rfl, iteF (last _ (s12.trans (s14.trans sm1)))⟩
          · rw [decide_eq_false hk0]
            exact iteF (iteF (last _ s12))
        · rintro σ H8 ⟨y6, rfl, s8⟩
          exact ⟨_, _, _, rfl, c8.trans (Chg.of_same s8), (p7.same s8).mono (by omega)⟩
      · rintro σ H'' ⟨y4, y5, y6, rfl, c6, p6⟩
        exact ⟨_, _, _, _, rfl, c6, p6.mono (by omega)⟩
    · rintro σ H' ⟨y3, y4, y5, y6, rfl, c5, p5⟩
      exact q _
end
theorem all_mk {l : PySem.W.OpenLaw} {w : World} {K : PySem.W.Frag} {h : Heap} {mg : Str → Option Value} {fa : Addr} (X : K.In h) (G : h.Ns mainGlobals mg) (hfa : mg "law" = some (.ref fa))
    {f_is_whole : Addr} {od_is_whole an_is_whole : Option Addr} {sl_is_whole : Array (Option Value)} {oc_is_whole kV_is_whole dc_is_whole pm_is_whole cd_is_whole ct_is_whole : Value}
    {f_is_place : Addr} {od_is_place an_is_place : Option Addr} {sl_is_place : Array (Option Value)} {oc_is_place kV_is_place dc_is_place pm_is_place cd_is_place ct_is_place : Value}
    {f_is_span : Addr} {od_is_span an_is_span : Option Addr} {sl_is_span : Array (Option Value)} {oc_is_span kV_is_span dc_is_span pm_is_span cd_is_span ct_is_span : Value}
    {f_check_span : Addr} {od_check_span an_check_span : Option Addr} {sl_check_span : Array (Option Value)} {oc_check_span kV_check_span dc_check_span pm_check_span cd_check_span ct_check_span : Value}
    {f_share_a_place : Addr} {od_share_a_place an_share_a_place : Option Addr} {sl_share_a_place : Array (Option Value)} {oc_share_a_place kV_share_a_place dc_share_a_place pm_share_a_place cd_share_a_place ct_share_a_place : Value}
    {f_is_inside : Addr} {od_is_inside an_is_inside : Option Addr} {sl_is_inside : Array (Option Value)} {oc_is_inside kV_is_inside dc_is_inside pm_is_inside cd_is_inside ct_is_inside : Value}
    {f_length_of : Addr} {od_length_of an_length_of : Option Addr} {sl_length_of : Array (Option Value)} {oc_length_of kV_length_of dc_length_of pm_length_of cd_length_of ct_length_of : Value}
    {f_meet : Addr} {od_meet an_meet : Option Addr} {sl_meet : Array (Option Value)} {oc_meet kV_meet dc_meet pm_meet cd_meet ct_meet : Value}
    {f_lies_within : Addr} {od_lies_within an_lies_within : Option Addr} {sl_lies_within : Array (Option Value)} {oc_lies_within kV_lies_within dc_lies_within pm_lies_within cd_lies_within ct_lies_within : Value}
    {f_l_at : Addr} {od_l_at an_l_at : Option Addr} {sl_l_at : Array (Option Value)} {oc_l_at kV_l_at dc_l_at pm_l_at cd_l_at ct_l_at : Value}
    {f_l_mixed : Addr} {od_l_mixed an_l_mixed : Option Addr} {sl_l_mixed : Array (Option Value)} {oc_l_mixed kV_l_mixed dc_l_mixed pm_l_mixed cd_l_mixed ct_l_mixed : Value}
    {f_l_purse : Addr} {od_l_purse an_l_purse : Option Addr} {sl_l_purse : Array (Option Value)} {oc_l_purse kV_l_purse dc_l_purse pm_l_purse cd_l_purse ct_l_purse : Value}
    {f_l_draw : Addr} {od_l_draw an_l_draw : Option Addr} {sl_l_draw : Array (Option Value)} {oc_l_draw kV_l_draw dc_l_draw pm_l_draw cd_l_draw ct_l_draw : Value}
    {f_l_number : Addr} {od_l_number an_l_number : Option Addr} {sl_l_number : Array (Option Value)} {oc_l_number kV_l_number dc_l_number pm_l_number cd_l_number ct_l_number : Value}
    {f_l_end : Addr} {od_l_end an_l_end : Option Addr} {sl_l_end : Array (Option Value)} {oc_l_end kV_l_end dc_l_end pm_l_end cd_l_end ct_l_end : Value}
    {f_l_span : Addr} {od_l_span an_l_span : Option Addr} {sl_l_span : Array (Option Value)} {oc_l_span kV_l_span dc_l_span pm_l_span cd_l_span ct_l_span : Value}
    {f_l_kinds : Addr} {od_l_kinds an_l_kinds : Option Addr} {sl_l_kinds : Array (Option Value)} {oc_l_kinds kV_l_kinds dc_l_kinds pm_l_kinds cd_l_kinds ct_l_kinds : Value}
    {f_l_bad_span : Addr} {od_l_bad_span an_l_bad_span : Option Addr} {sl_l_bad_span : Array (Option Value)} {oc_l_bad_span kV_l_bad_span dc_l_bad_span pm_l_bad_span cd_l_bad_span ct_l_bad_span : Value}
    {f_l_caught : Addr} {od_l_caught an_l_caught : Option Addr} {sl_l_caught : Array (Option Value)} {oc_l_caught kV_l_caught dc_l_caught pm_l_caught cd_l_caught ct_l_caught : Value}
    {f_l_made_by_hand : Addr} {od_l_made_by_hand an_l_made_by_hand : Option Addr} {sl_l_made_by_hand : Array (Option Value)} {oc_l_made_by_hand kV_l_made_by_hand dc_l_made_by_hand pm_l_made_by_hand cd_l_made_by_hand ct_l_made_by_hand : Value}
    {f_law : Addr} {od_law an_law : Option Addr} {sl_law : Array (Option Value)} {oc_law kV_law dc_law pm_law cd_law ct_law : Value}
    {tc_LEAST_PLACE : Tok}
    {tc_GREATEST_PLACE : Tok}
    {C_ShelfError : Addr}
    {C_NoSpan : Addr}
    {C_NoPlace : Addr}
    {C_NoCover : Addr}
    {C_NoWeight : Addr}
    {C_NoCount : Addr}
    {C_NoName : Addr}
    {C_Twice : Addr}
    {C_Full : Addr}
    {C_Bare : Addr}
    {C_NoDeed : Addr}
    {C_NoText : Addr}
    {C_NoLine : Addr}
    (a_is_whole : PySem.W.nsIn K mainGlobals "is_whole" = some (some (.ref f_is_whole)))
    (l_is_whole : K.lookup f_is_whole = some ⟨oc_is_whole, od_is_whole, .func (PySem.W.fnOf "is_whole" "is_whole" (defArgs s_is_whole) (defBody s_is_whole) (defScope s_is_whole) .none kV_is_whole dc_is_whole pm_is_whole an_is_whole cd_is_whole ct_is_whole), sl_is_whole⟩)
    (c_is_whole : PySem.W.codeIn K cd_is_whole "is_whole" = true)
    (k_is_whole : PySem.W.keepIn K (.ref f_is_whole) = true)
    (a_is_place : PySem.W.nsIn K mainGlobals "is_place" = some (some (.ref f_is_place)))
    (l_is_place : K.lookup f_is_place = some ⟨oc_is_place, od_is_place, .func (PySem.W.fnOf "is_place" "is_place" (defArgs s_is_place) (defBody s_is_place) (defScope s_is_place) .none kV_is_place dc_is_place pm_is_place an_is_place cd_is_place ct_is_place), sl_is_place⟩)
    (c_is_place : PySem.W.codeIn K cd_is_place "is_place" = true)
    (k_is_place : PySem.W.keepIn K (.ref f_is_place) = true)
    (a_is_span : PySem.W.nsIn K mainGlobals "is_span" = some (some (.ref f_is_span)))
    (l_is_span : K.lookup f_is_span = some ⟨oc_is_span, od_is_span, .func (PySem.W.fnOf "is_span" "is_span" (defArgs s_is_span) (defBody s_is_span) (defScope s_is_span) .none kV_is_span dc_is_span pm_is_span an_is_span cd_is_span ct_is_span), sl_is_span⟩)
    (c_is_span : PySem.W.codeIn K cd_is_span "is_span" = true)
    (k_is_span : PySem.W.keepIn K (.ref f_is_span) = true)
    (a_check_span : PySem.W.nsIn K mainGlobals "check_span" = some (some (.ref f_check_span)))
    (l_check_span : K.lookup f_check_span = some ⟨oc_check_span, od_check_span, .func (PySem.W.fnOf "check_span" "check_span" (defArgs s_check_span) (defBody s_check_span) (defScope s_check_span) .none kV_check_span dc_check_span pm_check_span an_check_span cd_check_span ct_check_span), sl_check_span⟩)
    (c_check_span : PySem.W.codeIn K cd_check_span "check_span" = true)
    (k_check_span : PySem.W.keepIn K (.ref f_check_span) = true)
    (a_share_a_place : PySem.W.nsIn K mainGlobals "share_a_place" = some (some (.ref f_share_a_place)))
    (l_share_a_place : K.lookup f_share_a_place = some ⟨oc_share_a_place, od_share_a_place, .func (PySem.W.fnOf "share_a_place" "share_a_place" (defArgs s_share_a_place) (defBody s_share_a_place) (defScope s_share_a_place) .none kV_share_a_place dc_share_a_place pm_share_a_place an_share_a_place cd_share_a_place ct_share_a_place), sl_share_a_place⟩)
    (c_share_a_place : PySem.W.codeIn K cd_share_a_place "share_a_place" = true)
    (k_share_a_place : PySem.W.keepIn K (.ref f_share_a_place) = true)
    (a_is_inside : PySem.W.nsIn K mainGlobals "is_inside" = some (some (.ref f_is_inside)))
    (l_is_inside : K.lookup f_is_inside = some ⟨oc_is_inside, od_is_inside, .func (PySem.W.fnOf "is_inside" "is_inside" (defArgs s_is_inside) (defBody s_is_inside) (defScope s_is_inside) .none kV_is_inside dc_is_inside pm_is_inside an_is_inside cd_is_inside ct_is_inside), sl_is_inside⟩)
    (c_is_inside : PySem.W.codeIn K cd_is_inside "is_inside" = true)
    (k_is_inside : PySem.W.keepIn K (.ref f_is_inside) = true)
    (a_length_of : PySem.W.nsIn K mainGlobals "length_of" = some (some (.ref f_length_of)))
    (l_length_of : K.lookup f_length_of = some ⟨oc_length_of, od_length_of, .func (PySem.W.fnOf "length_of" "length_of" (defArgs s_length_of) (defBody s_length_of) (defScope s_length_of) .none kV_length_of dc_length_of pm_length_of an_length_of cd_length_of ct_length_of), sl_length_of⟩)
    (c_length_of : PySem.W.codeIn K cd_length_of "length_of" = true)
    (k_length_of : PySem.W.keepIn K (.ref f_length_of) = true)
    (a_meet : PySem.W.nsIn K mainGlobals "meet" = some (some (.ref f_meet)))
    (l_meet : K.lookup f_meet = some ⟨oc_meet, od_meet, .func (PySem.W.fnOf "meet" "meet" (defArgs s_meet) (defBody s_meet) (defScope s_meet) .none kV_meet dc_meet pm_meet an_meet cd_meet ct_meet), sl_meet⟩)
    (c_meet : PySem.W.codeIn K cd_meet "meet" = true)
    (k_meet : PySem.W.keepIn K (.ref f_meet) = true)
    (a_lies_within : PySem.W.nsIn K mainGlobals "lies_within" = some (some (.ref f_lies_within)))
    (l_lies_within : K.lookup f_lies_within = some ⟨oc_lies_within, od_lies_within, .func (PySem.W.fnOf "lies_within" "lies_within" (defArgs s_lies_within) (defBody s_lies_within) (defScope s_lies_within) .none kV_lies_within dc_lies_within pm_lies_within an_lies_within cd_lies_within ct_lies_within), sl_lies_within⟩)
    (c_lies_within : PySem.W.codeIn K cd_lies_within "lies_within" = true)
    (k_lies_within : PySem.W.keepIn K (.ref f_lies_within) = true)
    (a_l_at : PySem.W.nsIn K mainGlobals "_law_at" = some (some (.ref f_l_at)))
    (l_l_at : K.lookup f_l_at = some ⟨oc_l_at, od_l_at, .func (PySem.W.fnOf "_law_at" "_law_at" (defArgs s_l_at) (defBody s_l_at) (defScope s_l_at) .none kV_l_at dc_l_at pm_l_at an_l_at cd_l_at ct_l_at), sl_l_at⟩)
    (c_l_at : PySem.W.codeIn K cd_l_at "_law_at" = true)
    (k_l_at : PySem.W.keepIn K (.ref f_l_at) = true)
    (a_l_mixed : PySem.W.nsIn K mainGlobals "_law_mixed" = some (some (.ref f_l_mixed)))
    (l_l_mixed : K.lookup f_l_mixed = some ⟨oc_l_mixed, od_l_mixed, .func (PySem.W.fnOf "_law_mixed" "_law_mixed" (defArgs s_l_mixed) (defBody s_l_mixed) (defScope s_l_mixed) .none kV_l_mixed dc_l_mixed pm_l_mixed an_l_mixed cd_l_mixed ct_l_mixed), sl_l_mixed⟩)
    (c_l_mixed : PySem.W.codeIn K cd_l_mixed "_law_mixed" = true)
    (k_l_mixed : PySem.W.keepIn K (.ref f_l_mixed) = true)
    (a_l_purse : PySem.W.nsIn K mainGlobals "_law_purse" = some (some (.ref f_l_purse)))
    (l_l_purse : K.lookup f_l_purse = some ⟨oc_l_purse, od_l_purse, .func (PySem.W.fnOf "_law_purse" "_law_purse" (defArgs s_l_purse) (defBody s_l_purse) (defScope s_l_purse) .none kV_l_purse dc_l_purse pm_l_purse an_l_purse cd_l_purse ct_l_purse), sl_l_purse⟩)
    (c_l_purse : PySem.W.codeIn K cd_l_purse "_law_purse" = true)
    (k_l_purse : PySem.W.keepIn K (.ref f_l_purse) = true)
    (a_l_draw : PySem.W.nsIn K mainGlobals "_law_draw" = some (some (.ref f_l_draw)))
    (l_l_draw : K.lookup f_l_draw = some ⟨oc_l_draw, od_l_draw, .func (PySem.W.fnOf "_law_draw" "_law_draw" (defArgs s_l_draw) (defBody s_l_draw) (defScope s_l_draw) .none kV_l_draw dc_l_draw pm_l_draw an_l_draw cd_l_draw ct_l_draw), sl_l_draw⟩)
    (c_l_draw : PySem.W.codeIn K cd_l_draw "_law_draw" = true)
    (k_l_draw : PySem.W.keepIn K (.ref f_l_draw) = true)
    (a_l_number : PySem.W.nsIn K mainGlobals "_law_number" = some (some (.ref f_l_number)))
    (l_l_number : K.lookup f_l_number = some ⟨oc_l_number, od_l_number, .func (PySem.W.fnOf "_law_number" "_law_number" (defArgs s_l_number) (defBody s_l_number) (defScope s_l_number) .none kV_l_number dc_l_number pm_l_number an_l_number cd_l_number ct_l_number), sl_l_number⟩)
    (c_l_number : PySem.W.codeIn K cd_l_number "_law_number" = true)
    (k_l_number : PySem.W.keepIn K (.ref f_l_number) = true)
    (a_l_end : PySem.W.nsIn K mainGlobals "_law_end" = some (some (.ref f_l_end)))
    (l_l_end : K.lookup f_l_end = some ⟨oc_l_end, od_l_end, .func (PySem.W.fnOf "_law_end" "_law_end" (defArgs s_l_end) (defBody s_l_end) (defScope s_l_end) .none kV_l_end dc_l_end pm_l_end an_l_end cd_l_end ct_l_end), sl_l_end⟩)
    (c_l_end : PySem.W.codeIn K cd_l_end "_law_end" = true)
    (k_l_end : PySem.W.keepIn K (.ref f_l_end) = true)
    (a_l_span : PySem.W.nsIn K mainGlobals "_law_span" = some (some (.ref f_l_span)))
    (l_l_span : K.lookup f_l_span = some ⟨oc_l_span, od_l_span, .func (PySem.W.fnOf "_law_span" "_law_span" (defArgs s_l_span) (defBody s_l_span) (defScope s_l_span) .none kV_l_span dc_l_span pm_l_span an_l_span cd_l_span ct_l_span), sl_l_span⟩)
    (c_l_span : PySem.W.codeIn K cd_l_span "_law_span" = true)
    (k_l_span : PySem.W.keepIn K (.ref f_l_span) = true)
    (a_l_kinds : PySem.W.nsIn K mainGlobals "_law_kinds" = some (some (.ref f_l_kinds)))
    (l_l_kinds : K.lookup f_l_kinds = some ⟨oc_l_kinds, od_l_kinds, .func (PySem.W.fnOf "_law_kinds" "_law_kinds" (defArgs s_l_kinds) (defBody s_l_kinds) (defScope s_l_kinds) .none kV_l_kinds dc_l_kinds pm_l_kinds an_l_kinds cd_l_kinds ct_l_kinds), sl_l_kinds⟩)
    (c_l_kinds : PySem.W.codeIn K cd_l_kinds "_law_kinds" = true)
    (k_l_kinds : PySem.W.keepIn K (.ref f_l_kinds) = true)
    (a_l_bad_span : PySem.W.nsIn K mainGlobals "_law_bad_span" = some (some (.ref f_l_bad_span)))
    (l_l_bad_span : K.lookup f_l_bad_span = some ⟨oc_l_bad_span, od_l_bad_span, .func (PySem.W.fnOf "_law_bad_span" "_law_bad_span" (defArgs s_l_bad_span) (defBody s_l_bad_span) (defScope s_l_bad_span) .none kV_l_bad_span dc_l_bad_span pm_l_bad_span an_l_bad_span cd_l_bad_span ct_l_bad_span), sl_l_bad_span⟩)
    (c_l_bad_span : PySem.W.codeIn K cd_l_bad_span "_law_bad_span" = true)
    (k_l_bad_span : PySem.W.keepIn K (.ref f_l_bad_span) = true)
    (a_l_caught : PySem.W.nsIn K mainGlobals "_law_caught" = some (some (.ref f_l_caught)))
    (l_l_caught : K.lookup f_l_caught = some ⟨oc_l_caught, od_l_caught, .func (PySem.W.fnOf "_law_caught" "_law_caught" (defArgs s_l_caught) (defBody s_l_caught) (defScope s_l_caught) .none kV_l_caught dc_l_caught pm_l_caught an_l_caught cd_l_caught ct_l_caught), sl_l_caught⟩)
    (c_l_caught : PySem.W.codeIn K cd_l_caught "_law_caught" = true)
    (k_l_caught : PySem.W.keepIn K (.ref f_l_caught) = true)
    (a_l_made_by_hand : PySem.W.nsIn K mainGlobals "_law_made_by_hand" = some (some (.ref f_l_made_by_hand)))
    (l_l_made_by_hand : K.lookup f_l_made_by_hand = some ⟨oc_l_made_by_hand, od_l_made_by_hand, .func (PySem.W.fnOf "_law_made_by_hand" "_law_made_by_hand" (defArgs s_l_made_by_hand) (defBody s_l_made_by_hand) (defScope s_l_made_by_hand) .none kV_l_made_by_hand dc_l_made_by_hand pm_l_made_by_hand an_l_made_by_hand cd_l_made_by_hand ct_l_made_by_hand), sl_l_made_by_hand⟩)
    (c_l_made_by_hand : PySem.W.codeIn K cd_l_made_by_hand "_law_made_by_hand" = true)
    (k_l_made_by_hand : PySem.W.keepIn K (.ref f_l_made_by_hand) = true)
    (a_law : PySem.W.nsIn K mainGlobals "law" = some (some (.ref f_law)))
    (l_law : K.lookup f_law = some ⟨oc_law, od_law, .func (PySem.W.fnOf "law" "law" (defArgs s_law) (defBody s_law) (defScope s_law) .none kV_law dc_law pm_law an_law cd_law ct_law), sl_law⟩)
    (c_law : PySem.W.codeIn K cd_law "law" = true)
    (k_law : PySem.W.keepIn K (.ref f_law) = true)
    (n_LEAST_PLACE : PySem.W.nsIn K mainGlobals "LEAST_PLACE" = some (some (.int (-999999999999) tc_LEAST_PLACE)))
    (n_GREATEST_PLACE : PySem.W.nsIn K mainGlobals "GREATEST_PLACE" = some (some (.int (999999999999) tc_GREATEST_PLACE)))
    (a_ShelfError : PySem.W.nsIn K mainGlobals "ShelfError" = some (some (.ref C_ShelfError)))
    (x_ShelfError : PySem.W.excIn K C_ShelfError [.type "ValueError", .type "Exception", .type "BaseException", .type "object"] "ValueError.__new__" = true)
    (k_ShelfError : PySem.W.keepIn K (.ref C_ShelfError) = true)
    (b_ShelfError : PySem.W.subIn K (.ref C_ShelfError) (.type "BaseException") = some true)
    (t_ShelfError : PySem.W.typeIn K (.ref C_ShelfError) = some (.type "type"))
    (a_NoSpan : PySem.W.nsIn K mainGlobals "NoSpan" = some (some (.ref C_NoSpan)))
    (x_NoSpan : PySem.W.excIn K C_NoSpan [.type "ValueError", .type "Exception", .type "BaseException", .type "object"] "ValueError.__new__" = true)
    (k_NoSpan : PySem.W.keepIn K (.ref C_NoSpan) = true)
    (b_NoSpan : PySem.W.subIn K (.ref C_NoSpan) (.type "BaseException") = some true)
    (t_NoSpan : PySem.W.typeIn K (.ref C_NoSpan) = some (.type "type"))
    (a_NoPlace : PySem.W.nsIn K mainGlobals "NoPlace" = some (some (.ref C_NoPlace)))
    (x_NoPlace : PySem.W.excIn K C_NoPlace [.type "ValueError", .type "Exception", .type "BaseException", .type "object"] "ValueError.__new__" = true)
    (k_NoPlace : PySem.W.keepIn K (.ref C_NoPlace) = true)
    (b_NoPlace : PySem.W.subIn K (.ref C_NoPlace) (.type "BaseException") = some true)
    (t_NoPlace : PySem.W.typeIn K (.ref C_NoPlace) = some (.type "type"))
    (a_NoCover : PySem.W.nsIn K mainGlobals "NoCover" = some (some (.ref C_NoCover)))
    (x_NoCover : PySem.W.excIn K C_NoCover [.type "ValueError", .type "Exception", .type "BaseException", .type "object"] "ValueError.__new__" = true)
    (k_NoCover : PySem.W.keepIn K (.ref C_NoCover) = true)
    (b_NoCover : PySem.W.subIn K (.ref C_NoCover) (.type "BaseException") = some true)
    (t_NoCover : PySem.W.typeIn K (.ref C_NoCover) = some (.type "type"))
    (a_NoWeight : PySem.W.nsIn K mainGlobals "NoWeight" = some (some (.ref C_NoWeight)))
    (x_NoWeight : PySem.W.excIn K C_NoWeight [.type "ValueError", .type "Exception", .type "BaseException", .type "object"] "ValueError.__new__" = true)
    (k_NoWeight : PySem.W.keepIn K (.ref C_NoWeight) = true)
    (b_NoWeight : PySem.W.subIn K (.ref C_NoWeight) (.type "BaseException") = some true)
    (t_NoWeight : PySem.W.typeIn K (.ref C_NoWeight) = some (.type "type"))
    (a_NoCount : PySem.W.nsIn K mainGlobals "NoCount" = some (some (.ref C_NoCount)))
    (x_NoCount : PySem.W.excIn K C_NoCount [.type "ValueError", .type "Exception", .type "BaseException", .type "object"] "ValueError.__new__" = true)
    (k_NoCount : PySem.W.keepIn K (.ref C_NoCount) = true)
    (b_NoCount : PySem.W.subIn K (.ref C_NoCount) (.type "BaseException") = some true)
    (t_NoCount : PySem.W.typeIn K (.ref C_NoCount) = some (.type "type"))
    (a_NoName : PySem.W.nsIn K mainGlobals "NoName" = some (some (.ref C_NoName)))
    (x_NoName : PySem.W.excIn K C_NoName [.type "ValueError", .type "Exception", .type "BaseException", .type "object"] "ValueError.__new__" = true)
    (k_NoName : PySem.W.keepIn K (.ref C_NoName) = true)
    (b_NoName : PySem.W.subIn K (.ref C_NoName) (.type "BaseException") = some true)
    (t_NoName : PySem.W.typeIn K (.ref C_NoName) = some (.type "type"))
    (a_Twice : PySem.W.nsIn K mainGlobals "Twice" = some (some (.ref C_Twice)))
    (x_Twice : PySem.W.excIn K C_Twice [.type "ValueError", .type "Exception", .type "BaseException", .type "object"] "ValueError.__new__" = true)
    (k_Twice : PySem.W.keepIn K (.ref C_Twice) = true)
    (b_Twice : PySem.W.subIn K (.ref C_Twice) (.type "BaseException") = some true)
    (t_Twice : PySem.W.typeIn K (.ref C_Twice) = some (.type "type"))
    (a_Full : PySem.W.nsIn K mainGlobals "Full" = some (some (.ref C_Full)))
    (x_Full : PySem.W.excIn K C_Full [.type "ValueError", .type "Exception", .type "BaseException", .type "object"] "ValueError.__new__" = true)
    (k_Full : PySem.W.keepIn K (.ref C_Full) = true)
    (b_Full : PySem.W.subIn K (.ref C_Full) (.type "BaseException") = some true)
    (t_Full : PySem.W.typeIn K (.ref C_Full) = some (.type "type"))
    (a_Bare : PySem.W.nsIn K mainGlobals "Bare" = some (some (.ref C_Bare)))
    (x_Bare : PySem.W.excIn K C_Bare [.type "ValueError", .type "Exception", .type "BaseException", .type "object"] "ValueError.__new__" = true)
    (k_Bare : PySem.W.keepIn K (.ref C_Bare) = true)
    (b_Bare : PySem.W.subIn K (.ref C_Bare) (.type "BaseException") = some true)
    (t_Bare : PySem.W.typeIn K (.ref C_Bare) = some (.type "type"))
    (a_NoDeed : PySem.W.nsIn K mainGlobals "NoDeed" = some (some (.ref C_NoDeed)))
    (x_NoDeed : PySem.W.excIn K C_NoDeed [.type "ValueError", .type "Exception", .type "BaseException", .type "object"] "ValueError.__new__" = true)
    (k_NoDeed : PySem.W.keepIn K (.ref C_NoDeed) = true)
    (b_NoDeed : PySem.W.subIn K (.ref C_NoDeed) (.type "BaseException") = some true)
    (t_NoDeed : PySem.W.typeIn K (.ref C_NoDeed) = some (.type "type"))
    (a_NoText : PySem.W.nsIn K mainGlobals "NoText" = some (some (.ref C_NoText)))
    (x_NoText : PySem.W.excIn K C_NoText [.type "ValueError", .type "Exception", .type "BaseException", .type "object"] "ValueError.__new__" = true)
    (k_NoText : PySem.W.keepIn K (.ref C_NoText) = true)
    (b_NoText : PySem.W.subIn K (.ref C_NoText) (.type "BaseException") = some true)
    (t_NoText : PySem.W.typeIn K (.ref C_NoText) = some (.type "type"))
    (a_NoLine : PySem.W.nsIn K mainGlobals "NoLine" = some (some (.ref C_NoLine)))
    (x_NoLine : PySem.W.excIn K C_NoLine [.type "ValueError", .type "Exception", .type "BaseException", .type "object"] "ValueError.__new__" = true)
    (k_NoLine : PySem.W.keepIn K (.ref C_NoLine) = true)
    (b_NoLine : PySem.W.subIn K (.ref C_NoLine) (.type "BaseException") = some true)
    (t_NoLine : PySem.W.typeIn K (.ref C_NoLine) = some (.type "type"))
    (z_ValueError : PySem.W.nsIn K mainGlobals "ValueError" = some none)
    (z_bool : PySem.W.nsIn K mainGlobals "bool" = some none)
    (z_int : PySem.W.nsIn K mainGlobals "int" = some none)
    (z_isinstance : PySem.W.nsIn K mainGlobals "isinstance" = some none)
    (z_len : PySem.W.nsIn K mainGlobals "len" = some none)
    (z_max : PySem.W.nsIn K mainGlobals "max" = some none)
    (z_min : PySem.W.nsIn K mainGlobals "min" = some none)
    (z_range : PySem.W.nsIn K mainGlobals "range" = some none)
    (z_tuple : PySem.W.nsIn K mainGlobals "tuple" = some none)
    (excs : ([C_ShelfError, C_NoSpan, C_NoPlace, C_NoCover, C_NoWeight, C_NoCount, C_NoName, C_Twice, C_Full, C_Bare, C_NoDeed, C_NoText, C_NoLine].map fun (D : Addr) => (PySem.W.findIn K (.ref D) "__getattribute__", PySem.W.findIn K (.ref D) "__getattr__", PySem.W.subIn K (.ref D) (.type "BaseException"), PySem.W.hasDictIn K D, PySem.W.findIn K (.ref D) "__class__", PySem.W.mroIn K D (.type "object"))) = [C_ShelfError, C_NoSpan, C_NoPlace, C_NoCover, C_NoWeight, C_NoCount, C_NoName, C_Twice, C_Full, C_Bare, C_NoDeed, C_NoText, C_NoLine].map fun (_ : Addr) => (some (some (.builtin "BaseException.__getattribute__")), some none, some true, true, some (some (.builtin "object.__class__")), some true))
    (gets : (PySem.W.specialIn K (.builtin "object.__class__") "__get__", PySem.W.takesIn K (.builtin "object.__class__")) = (some (some (.builtin "getset_descriptor.__get__")), some true))
    (kits : ([C_ShelfError, C_NoSpan, C_NoPlace, C_NoCover, C_NoWeight, C_NoCount, C_NoName, C_Twice, C_Full, C_Bare, C_NoDeed, C_NoText, C_NoLine].map fun (D : Addr) => [C_NoSpan, C_NoPlace, C_NoCover, C_NoWeight, C_NoCount, C_NoName, C_Twice, C_Full, C_Bare, C_NoDeed, C_NoText, C_NoLine].map fun (C : Addr) => PySem.W.kitOne K (.ref D) (.ref C)) = (List.range 13).map fun i => (List.range 12).map fun j => some (i == j + 1))
    (tops : ([C_ShelfError, C_NoSpan, C_NoPlace, C_NoCover, C_NoWeight, C_NoCount, C_NoName, C_Twice, C_Full, C_Bare, C_NoDeed, C_NoText, C_NoLine].map fun (D : Addr) => (PySem.W.kitOne K (.ref D) (.ref C_ShelfError), PySem.W.kitOne K (.ref D) (.type "ValueError"))) = [C_ShelfError, C_NoSpan, C_NoPlace, C_NoCover, C_NoWeight, C_NoCount, C_NoName, C_Twice, C_Full, C_Bare, C_NoDeed, C_NoText, C_NoLine].map fun (_ : Addr) => (some true, some true))
    (nones : ([C_ShelfError, C_NoSpan, C_NoPlace, C_NoCover, C_NoWeight, C_NoCount, C_NoName, C_Twice, C_Full, C_Bare, C_NoDeed, C_NoText, C_NoLine].map fun (C : Addr) => PySem.W.kitOne K (.type "NoneType") (.ref C)) = [C_ShelfError, C_NoSpan, C_NoPlace, C_NoCover, C_NoWeight, C_NoCount, C_NoName, C_Twice, C_Full, C_Bare, C_NoDeed, C_NoText, C_NoLine].map fun (_ : Addr) => some false)
    (exms : ([C_ShelfError, C_NoSpan, C_NoPlace, C_NoCover, C_NoWeight, C_NoCount, C_NoName, C_Twice, C_Full, C_Bare, C_NoDeed, C_NoText, C_NoLine].map fun (D : Addr) => PySem.W.exmOne K (.ref D) (.ref C_ShelfError)) = [C_ShelfError, C_NoSpan, C_NoPlace, C_NoCover, C_NoWeight, C_NoCount, C_NoName, C_Twice, C_Full, C_Bare, C_NoDeed, C_NoText, C_NoLine].map fun (_ : Addr) => some true)
    : ∃ fd : FuncData, (∀ (s : Shared) (v : Value), BindsTo s fd ⟨[v], []⟩ [("_law_script", v)]) ∧ ∀ base : Heap, K.In base → base.Ns mainGlobals mg → FnOk l.prog w K mg base CX0 7 fa fd ["_law_script"] (spLaw K) := by
  have e := hfa.symm.trans (PySem.W.mg_of X G a_law)
  cases e
  have F_is_whole := fun_mk (st := s_is_whole) l_is_whole c_is_whole k_is_whole
  have b_is_whole := F_is_whole.binds (ps := ["number"]) fun _ _ _ _ _ _ us hl => match us, hl with | [_], _ => rfl
  have F_is_place := fun_mk (st := s_is_place) l_is_place c_is_place k_is_place
  have b_is_place := F_is_place.binds (ps := ["number"]) fun _ _ _ _ _ _ us hl => match us, hl with | [_], _ => rfl
  have F_is_span := fun_mk (st := s_is_span) l_is_span c_is_span k_is_span
  have b_is_span := F_is_span.binds (ps := ["span"]) fun _ _ _ _ _ _ us hl => match us, hl with | [_], _ => rfl
  have F_check_span := fun_mk (st := s_check_span) l_check_span c_check_span k_check_span
  have b_check_span := F_check_span.binds (ps := ["span"]) fun _ _ _ _ _ _ us hl => match us, hl with | [_], _ => rfl
  have F_share_a_place := fun_mk (st := s_share_a_place) l_share_a_place c_share_a_place k_share_a_place
  have b_share_a_place := F_share_a_place.binds (ps := ["one", "other"]) fun _ _ _ _ _ _ us hl => match us, hl with | [_, _], _ => rfl
  have F_is_inside := fun_mk (st := s_is_inside) l_is_inside c_is_inside k_is_inside
  have b_is_inside := F_is_inside.binds (ps := ["one", "other"]) fun _ _ _ _ _ _ us hl => match us, hl with | [_, _], _ => rfl
  have F_length_of := fun_mk (st := s_length_of) l_length_of c_length_of k_length_of
  have b_length_of := F_length_of.binds (ps := ["span"]) fun _ _ _ _ _ _ us hl => match us, hl with | [_], _ => rfl
  have F_meet := fun_mk (st := s_meet) l_meet c_meet k_meet
  have b_meet := F_meet.binds (ps := ["one", "other"]) fun _ _ _ _ _ _ us hl => match us, hl with | [_, _], _ => rfl
  have F_lies_within := fun_mk (st := s_lies_within) l_lies_within c_lies_within k_lies_within
  have b_lies_within := F_lies_within.binds (ps := ["one", "other"]) fun _ _ _ _ _ _ us hl => match us, hl with | [_, _], _ => rfl
  have F_l_at := fun_mk (st := s_l_at) l_l_at c_l_at k_l_at
  have b_l_at := F_l_at.binds (ps := ["_law_script", "_law_k"]) fun _ _ _ _ _ _ us hl => match us, hl with | [_, _], _ => rfl
  have F_l_mixed := fun_mk (st := s_l_mixed) l_l_mixed c_l_mixed k_l_mixed
  have b_l_mixed := F_l_mixed.binds (ps := ["_law_cell", "_law_k"]) fun _ _ _ _ _ _ us hl => match us, hl with | [_, _], _ => rfl
  have F_l_purse := fun_mk (st := s_l_purse) l_l_purse c_l_purse k_l_purse
  have b_l_purse := F_l_purse.binds (ps := ["_law_script", "_law_at_here"]) fun _ _ _ _ _ _ us hl => match us, hl with | [_, _], _ => rfl
  have F_l_draw := fun_mk (st := s_l_draw) l_l_draw c_l_draw k_l_draw
  have b_l_draw := F_l_draw.binds (ps := ["_law_purse_here", "_law_out_of"]) fun _ _ _ _ _ _ us hl => match us, hl with | [_, _], _ => rfl
  have F_l_number := fun_mk (st := s_l_number) l_l_number c_l_number k_l_number
  have b_l_number := F_l_number.binds (ps := ["_law_purse_here", "_law_most"]) fun _ _ _ _ _ _ us hl => match us, hl with | [_, _], _ => rfl
  have F_l_end := fun_mk (st := s_l_end) l_l_end c_l_end k_l_end
  have b_l_end := F_l_end.binds (ps := ["_law_purse_here", "_law_ends", "_law_most"]) fun _ _ _ _ _ _ us hl => match us, hl with | [_, _, _], _ => rfl
  have F_l_span := fun_mk (st := s_l_span) l_l_span c_l_span k_l_span
  have b_l_span := F_l_span.binds (ps := ["_law_purse_here", "_law_ends", "_law_most"]) fun _ _ _ _ _ _ us hl => match us, hl with | [_, _, _], _ => rfl
  have F_l_kinds := fun_mk (st := s_l_kinds) l_l_kinds c_l_kinds k_l_kinds
  have b_l_kinds := F_l_kinds.binds (ps := ["_law_e"]) fun _ _ _ _ _ _ us hl => match us, hl with | [_], _ => rfl
  have F_l_bad_span := fun_mk (st := s_l_bad_span) l_l_bad_span c_l_bad_span k_l_bad_span
  have b_l_bad_span := F_l_bad_span.binds (ps := ["_law_purse_here"]) fun _ _ _ _ _ _ us hl => match us, hl with | [_], _ => rfl
  have F_l_caught := fun_mk (st := s_l_caught) l_l_caught c_l_caught k_l_caught
  have b_l_caught := F_l_caught.binds (ps := ["_law_way", "_law_one", "_law_other"]) fun _ _ _ _ _ _ us hl => match us, hl with | [_, _, _], _ => rfl
  have F_l_made_by_hand := fun_mk (st := s_l_made_by_hand) l_l_made_by_hand c_l_made_by_hand k_l_made_by_hand
  have b_l_made_by_hand := F_l_made_by_hand.binds (ps := []) fun _ _ _ _ _ _ us hl => match us, hl with | [], _ => rfl
  have F_law := fun_mk (st := s_law) l_law c_law k_law
  have b_law := F_law.binds (ps := ["_law_script"]) fun _ _ _ _ _ _ us hl => match us, hl with | [_], _ => rfl
  have T : Tx K mg := { f_is_whole := _, fd_is_whole := _, F_is_whole := F_is_whole, b_is_whole := b_is_whole, g_is_whole := PySem.W.mg_of X G a_is_whole, f_is_place := _, fd_is_place := _, F_is_place := F_is_place, b_is_place := b_is_place, g_is_place := PySem.W.mg_of X G a_is_place, f_is_span := _, fd_is_span := _, F_is_span := F_is_span, b_is_span := b_is_span, g_is_span := PySem.W.mg_of X G a_is_span, f_check_span := _, fd_check_span := _, F_check_span := F_check_span, b_check_span := b_check_span, g_check_span := PySem.W.mg_of X G a_check_span, f_share_a_place := _, fd_share_a_place := _, F_share_a_place := F_share_a_place, b_share_a_place := b_share_a_place, g_share_a_place := PySem.W.mg_of X G a_share_a_place, f_is_inside := _, fd_is_inside := _, F_is_inside := F_is_inside, b_is_inside := b_is_inside, g_is_inside := PySem.W.mg_of X G a_is_inside, f_length_of := _, fd_length_of := _, F_length_of := F_length_of, b_length_of := b_length_of, g_length_of := PySem.W.mg_of X G a_length_of, f_meet := _, fd_meet := _, F_meet := F_meet, b_meet := b_meet, g_meet := PySem.W.mg_of X G a_meet, f_lies_within := _, fd_lies_within := _, F_lies_within := F_lies_within, b_lies_within := b_lies_within, g_lies_within := PySem.W.mg_of X G a_lies_within, f_l_at := _, fd_l_at := _, F_l_at := F_l_at, b_l_at := b_l_at, g_l_at := PySem.W.mg_of X G a_l_at, f_l_mixed := _, fd_l_mixed := _, F_l_mixed := F_l_mixed, b_l_mixed := b_l_mixed, g_l_mixed := PySem.W.mg_of X G a_l_mixed, f_l_purse := _, fd_l_purse := _, F_l_purse := F_l_purse, b_l_purse := b_l_purse, g_l_purse := PySem.W.mg_of X G a_l_purse, f_l_draw := _, fd_l_draw := _, F_l_draw := F_l_draw, b_l_draw := b_l_draw, g_l_draw := PySem.W.mg_of X G a_l_draw, f_l_number := _, fd_l_number := _, F_l_number := F_l_number, b_l_number := b_l_number, g_l_number := PySem.W.mg_of X G a_l_number, f_l_end := _, fd_l_end := _, F_l_end := F_l_end, b_l_end := b_l_end, g_l_end := PySem.W.mg_of X G a_l_end, f_l_span := _, fd_l_span := _, F_l_span := F_l_span, b_l_span := b_l_span, g_l_span := PySem.W.mg_of X G a_l_span, f_l_kinds := _, fd_l_kinds := _, F_l_kinds := F_l_kinds, b_l_kinds := b_l_kinds, g_l_kinds := PySem.W.mg_of X G a_l_kinds, f_l_bad_span := _, fd_l_bad_span := _, F_l_bad_span := F_l_bad_span, b_l_bad_span := b_l_bad_span, g_l_bad_span := PySem.W.mg_of X G a_l_bad_span, f_l_caught := _, fd_l_caught := _, F_l_caught := F_l_caught, b_l_caught := b_l_caught, g_l_caught := PySem.W.mg_of X G a_l_caught, f_l_made_by_hand := _, fd_l_made_by_hand := _, F_l_made_by_hand := F_l_made_by_hand, b_l_made_by_hand := b_l_made_by_hand, g_l_made_by_hand := PySem.W.mg_of X G a_l_made_by_hand, f_law := _, fd_law := _, F_law := F_law, b_law := b_law, g_law := PySem.W.mg_of X G a_law, tc_LEAST_PLACE := _, c_LEAST_PLACE := PySem.W.mg_of X G n_LEAST_PLACE, tc_GREATEST_PLACE := _, c_GREATEST_PLACE := PySem.W.mg_of X G n_GREATEST_PLACE, C_ShelfError := _, g_ShelfError := PySem.W.mg_of X G a_ShelfError, x_ShelfError := x_ShelfError, k_ShelfError := k_ShelfError, b_ShelfError := b_ShelfError, t_ShelfError := t_ShelfError, C_NoSpan := _, g_NoSpan := PySem.W.mg_of X G a_NoSpan, x_NoSpan := x_NoSpan, k_NoSpan := k_NoSpan, b_NoSpan := b_NoSpan, t_NoSpan := t_NoSpan, C_NoPlace := _, g_NoPlace := PySem.W.mg_of X G a_NoPlace, x_NoPlace := x_NoPlace, k_NoPlace := k_NoPlace, b_NoPlace := b_NoPlace, t_NoPlace := t_NoPlace, C_NoCover := _, g_NoCover := PySem.W.mg_of X G a_NoCover, x_NoCover := x_NoCover, k_NoCover := k_NoCover, b_NoCover := b_NoCover, t_NoCover := t_NoCover, C_NoWeight := _, g_NoWeight := PySem.W.mg_of X G a_NoWeight, x_NoWeight := x_NoWeight, k_NoWeight := k_NoWeight, b_NoWeight := b_NoWeight, t_NoWeight := t_NoWeight, C_NoCount := _, g_NoCount := PySem.W.mg_of X G a_NoCount, x_NoCount := x_NoCount, k_NoCount := k_NoCount, b_NoCount := b_NoCount, t_NoCount := t_NoCount, C_NoName := _, g_NoName := PySem.W.mg_of X G a_NoName, x_NoName := x_NoName, k_NoName := k_NoName, b_NoName := b_NoName, t_NoName := t_NoName, C_Twice := _, g_Twice := PySem.W.mg_of X G a_Twice, x_Twice := x_Twice, k_Twice := k_Twice, b_Twice := b_Twice, t_Twice := t_Twice, C_Full := _, g_Full := PySem.W.mg_of X G a_Full, x_Full := x_Full, k_Full := k_Full, b_Full := b_Full, t_Full := t_Full, C_Bare := _, g_Bare := PySem.W.mg_of X G a_Bare, x_Bare := x_Bare, k_Bare := k_Bare, b_Bare := b_Bare, t_Bare := t_Bare, C_NoDeed := _, g_NoDeed := PySem.W.mg_of X G a_NoDeed, x_NoDeed := x_NoDeed, k_NoDeed := k_NoDeed, b_NoDeed := b_NoDeed, t_NoDeed := t_NoDeed, C_NoText := _, g_NoText := PySem.W.mg_of X G a_NoText, x_NoText := x_NoText, k_NoText := k_NoText, b_NoText := b_NoText, t_NoText := t_NoText, C_NoLine := _, g_NoLine := PySem.W.mg_of X G a_NoLine, x_NoLine := x_NoLine, k_NoLine := k_NoLine, b_NoLine := b_NoLine, t_NoLine := t_NoLine, m_ValueError := PySem.W.mg_none_of X G z_ValueError, m_bool := PySem.W.mg_none_of X G z_bool, m_int := PySem.W.mg_none_of X G z_int, m_isinstance := PySem.W.mg_none_of X G z_isinstance, m_len := PySem.W.mg_none_of X G z_len, m_max := PySem.W.mg_none_of X G z_max, m_min := PySem.W.mg_none_of X G z_min, m_range := PySem.W.mg_none_of X G z_range, m_tuple := PySem.W.mg_none_of X G z_tuple, excs := excs, gets := gets, kits := kits, tops := tops, nones := nones, exms := exms }
  exact ⟨PySem.W.fnOf "law" "law" (defArgs s_law) (defBody s_law) (defScope s_law) .none kV_law dc_law pm_law an_law cd_law ct_law, fun s v => .of_eq rfl, fun base _ _ => ok_law T F_law⟩
end Sp
open PySem PySem.W PyProof.Rows
set_option maxHeartbeats 0 in
theorem PySem.Challenge.cw_spanshelf_k02_no_spans_holds : PySem.Challenge.rw_spanshelf_k02_no_spans.Holds := by
  w_on; o_law; k_head; (case hw => w_witness2)
  k_fill
  refine L2.walk_of (l := PySem.Challenge.rw_spanshelf_k02_no_spans) (n := 63) (k := 7) (x := "_law_script") (CX := fun _ => L2.CX0) (sp := fun w => Sp.spLaw _) rfl (by decide) rfl ⟨rfl, by decide, by decide⟩ (fun w h Y => PySem.W.kIn_of Y) ?F (fun _ _ a ns hl hO hS => ⟨a, ns, rfl, hS, hl, hO, fun _ => rfl⟩) (fun _ _ _ _ _ h => h)
  case F =>
    intro w mg fa h KX G hmg
    refine' Sp.all_mk KX G hmg ?a_is_whole ?l_is_whole ?c_is_whole ?k_is_whole ?a_is_place ?l_is_place ?c_is_place ?k_is_place ?a_is_span ?l_is_span ?c_is_span ?k_is_span ?a_check_span ?l_check_span ?c_check_span ?k_check_span ?a_share_a_place ?l_share_a_place ?c_share_a_place ?k_share_a_place ?a_is_inside ?l_is_inside ?c_is_inside ?k_is_inside ?a_length_of ?l_length_of ?c_length_of ?k_length_of ?a_meet ?l_meet ?c_meet ?k_meet ?a_lies_within ?l_lies_within ?c_lies_within ?k_lies_within ?a_l_at ?l_l_at ?c_l_at ?k_l_at ?a_l_mixed ?l_l_mixed ?c_l_mixed ?k_l_mixed ?a_l_purse ?l_l_purse ?c_l_purse ?k_l_purse ?a_l_draw ?l_l_draw ?c_l_draw ?k_l_draw ?a_l_number ?l_l_number ?c_l_number ?k_l_number ?a_l_end ?l_l_end ?c_l_end ?k_l_end ?a_l_span ?l_l_span ?c_l_span ?k_l_span ?a_l_kinds ?l_l_kinds ?c_l_kinds ?k_l_kinds ?a_l_bad_span ?l_l_bad_span ?c_l_bad_span ?k_l_bad_span ?a_l_caught ?l_l_caught ?c_l_caught ?k_l_caught ?a_l_made_by_hand ?l_l_made_by_hand ?c_l_made_by_hand ?k_l_made_by_hand ?a_law ?l_law ?c_law ?k_law ?n_LEAST_PLACE ?n_GREATEST_PLACE ?a_ShelfError ?x_ShelfError ?k_ShelfError ?b_ShelfError ?t_ShelfError ?a_NoSpan ?x_NoSpan ?k_NoSpan ?b_NoSpan ?t_NoSpan ?a_NoPlace ?x_NoPlace ?k_NoPlace ?b_NoPlace ?t_NoPlace ?a_NoCover ?x_NoCover ?k_NoCover ?b_NoCover ?t_NoCover ?a_NoWeight ?x_NoWeight ?k_NoWeight ?b_NoWeight ?t_NoWeight ?a_NoCount ?x_NoCount ?k_NoCount ?b_NoCount ?t_NoCount ?a_NoName ?x_NoName ?k_NoName ?b_NoName ?t_NoName ?a_Twice ?x_Twice ?k_Twice ?b_Twice ?t_Twice ?a_Full ?x_Full ?k_Full ?b_Full ?t_Full ?a_Bare ?x_Bare ?k_Bare ?b_Bare ?t_Bare ?a_NoDeed ?x_NoDeed ?k_NoDeed ?b_NoDeed ?t_NoDeed ?a_NoText ?x_NoText ?k_NoText ?b_NoText ?t_NoText ?a_NoLine ?x_NoLine ?k_NoLine ?b_NoLine ?t_NoLine ?z_ValueError ?z_bool ?z_int ?z_isinstance ?z_len ?z_max ?z_min ?z_range ?z_tuple ?excs ?gets ?kits ?tops ?nones ?exms
    (case a_is_whole => first | k_is | rfl)
    (case l_is_whole => first | k_is | rfl)
    (case c_is_whole => first | k_is | rfl)
    (case k_is_whole => first | k_is | rfl)
    (case a_is_place => first | k_is | rfl)
    (case l_is_place => first | k_is | rfl)
    (case c_is_place => first | k_is | rfl)
    (case k_is_place => first | k_is | rfl)
    (case a_is_span => first | k_is | rfl)
    (case l_is_span => first | k_is | rfl)
    (case c_is_span => first | k_is | rfl)
    (case k_is_span => first | k_is | rfl)
    (case a_check_span => first | k_is | rfl)
    (case l_check_span => first | k_is | rfl)
    (case c_check_span => first | k_is | rfl)
    (case k_check_span => first | k_is | rfl)
    (case a_share_a_place => first | k_is | rfl)
    (case l_share_a_place => first | k_is | rfl)
    (case c_share_a_place => first | k_is | rfl)
    (case k_share_a_place => first | k_is | rfl)
    (case a_is_inside => first | k_is | rfl)
    (case l_is_inside => first | k_is | rfl)
    (case c_is_inside => first | k_is | rfl)
    (case k_is_inside => first | k_is | rfl)
    (case a_length_of => first | k_is | rfl)
    (case l_length_of => first | k_is | rfl)
    (case c_length_of => first | k_is | rfl)
    (case k_length_of => first | k_is | rfl)
    (case a_meet => first | k_is | rfl)
    (case l_meet => first | k_is | rfl)
    (case c_meet => first | k_is | rfl)
    (case k_meet => first | k_is | rfl)
    (case a_lies_within => first | k_is | rfl)
    (case l_lies_within => first | k_is | rfl)
    (case c_lies_within => first | k_is | rfl)
    (case k_lies_within => first | k_is | rfl)
    (case a_l_at => first | k_is | rfl)
    (case l_l_at => first | k_is | rfl)
    (case c_l_at => first | k_is | rfl)
    (case k_l_at => first | k_is | rfl)
    (case a_l_mixed => first | k_is | rfl)
    (case l_l_mixed => first | k_is | rfl)
    (case c_l_mixed => first | k_is | rfl)
    (case k_l_mixed => first | k_is | rfl)
    (case a_l_purse => first | k_is | rfl)
    (case l_l_purse => first | k_is | rfl)
    (case c_l_purse => first | k_is | rfl)
    (case k_l_purse => first | k_is | rfl)
    (case a_l_draw => first | k_is | rfl)
    (case l_l_draw => first | k_is | rfl)
    (case c_l_draw => first | k_is | rfl)
    (case k_l_draw => first | k_is | rfl)
    (case a_l_number => first | k_is | rfl)
    (case l_l_number => first | k_is | rfl)
    (case c_l_number => first | k_is | rfl)
    (case k_l_number => first | k_is | rfl)
    (case a_l_end => first | k_is | rfl)
    (case l_l_end => first | k_is | rfl)
    (case c_l_end => first | k_is | rfl)
    (case k_l_end => first | k_is | rfl)
    (case a_l_span => first | k_is | rfl)
    (case l_l_span => first | k_is | rfl)
    (case c_l_span => first | k_is | rfl)
    (case k_l_span => first | k_is | rfl)
    (case a_l_kinds => first | k_is | rfl)
    (case l_l_kinds => first | k_is | rfl)
    (case c_l_kinds => first | k_is | rfl)
    (case k_l_kinds => first | k_is | rfl)
    (case a_l_bad_span => first | k_is | rfl)
    (case l_l_bad_span => first | k_is | rfl)
    (case c_l_bad_span => first | k_is | rfl)
    (case k_l_bad_span => first | k_is | rfl)
    (case a_l_caught => first | k_is | rfl)
    (case l_l_caught => first | k_is | rfl)
    (case c_l_caught => first | k_is | rfl)
    (case k_l_caught => first | k_is | rfl)
    (case a_l_made_by_hand => first | k_is | rfl)
    (case l_l_made_by_hand => first | k_is | rfl)
    (case c_l_made_by_hand => first | k_is | rfl)
    (case k_l_made_by_hand => first | k_is | rfl)
    (case a_law => first | k_is | rfl)
    (case l_law => first | k_is | rfl)
    (case c_law => first | k_is | rfl)
    (case k_law => first | k_is | rfl)
    (case n_LEAST_PLACE => first | k_is | rfl)
    (case n_GREATEST_PLACE => first | k_is | rfl)
    (case a_ShelfError => first | k_is | rfl)
    (case x_ShelfError => k_exc)
    (case k_ShelfError => first | k_is | rfl)
    (case b_ShelfError => first | k_is | rfl)
    (case t_ShelfError => first | k_is | rfl)
    (case a_NoSpan => first | k_is | rfl)
    (case x_NoSpan => k_exc)
    (case k_NoSpan => first | k_is | rfl)
    (case b_NoSpan => first | k_is | rfl)
    (case t_NoSpan => first | k_is | rfl)
    (case a_NoPlace => first | k_is | rfl)
    (case x_NoPlace => k_exc)
    (case k_NoPlace => first | k_is | rfl)
    (case b_NoPlace => first | k_is | rfl)
    (case t_NoPlace => first | k_is | rfl)
    (case a_NoCover => first | k_is | rfl)
    (case x_NoCover => k_exc)
    (case k_NoCover => first | k_is | rfl)
    (case b_NoCover => first | k_is | rfl)
    (case t_NoCover => first | k_is | rfl)
    (case a_NoWeight => first | k_is | rfl)
    (case x_NoWeight => k_exc)
    (case k_NoWeight => first | k_is | rfl)
    (case b_NoWeight => first | k_is | rfl)
    (case t_NoWeight => first | k_is | rfl)
    (case a_NoCount => first | k_is | rfl)
    (case x_NoCount => k_exc)
    (case k_NoCount => first | k_is | rfl)
    (case b_NoCount => first | k_is | rfl)
    (case t_NoCount => first | k_is | rfl)
    (case a_NoName => first | k_is | rfl)
    (case x_NoName => k_exc)
    (case k_NoName => first | k_is | rfl)
    (case b_NoName => first | k_is | rfl)
    (case t_NoName => first | k_is | rfl)
    (case a_Twice => first | k_is | rfl)
    (case x_Twice => k_exc)
    (case k_Twice => first | k_is | rfl)
    (case b_Twice => first | k_is | rfl)
    (case t_Twice => first | k_is | rfl)
    (case a_Full => first | k_is | rfl)
    (case x_Full => k_exc)
    (case k_Full => first | k_is | rfl)
    (case b_Full => first | k_is | rfl)
    (case t_Full => first | k_is | rfl)
    (case a_Bare => first | k_is | rfl)
    (case x_Bare => k_exc)
    (case k_Bare => first | k_is | rfl)
    (case b_Bare => first | k_is | rfl)
    (case t_Bare => first | k_is | rfl)
    (case a_NoDeed => first | k_is | rfl)
    (case x_NoDeed => k_exc)
    (case k_NoDeed => first | k_is | rfl)
    (case b_NoDeed => first | k_is | rfl)
    (case t_NoDeed => first | k_is | rfl)
    (case a_NoText => first | k_is | rfl)
    (case x_NoText => k_exc)
    (case k_NoText => first | k_is | rfl)
    (case b_NoText => first | k_is | rfl)
    (case t_NoText => first | k_is | rfl)
    (case a_NoLine => first | k_is | rfl)
    (case x_NoLine => k_exc)
    (case k_NoLine => first | k_is | rfl)
    (case b_NoLine => first | k_is | rfl)
    (case t_NoLine => first | k_is | rfl)
    (case z_ValueError => first | k_is | rfl)
    (case z_bool => first | k_is | rfl)
    (case z_int => first | k_is | rfl)
    (case z_isinstance => first | k_is | rfl)
    (case z_len => first | k_is | rfl)
    (case z_max => first | k_is | rfl)
    (case z_min => first | k_is | rfl)
    (case z_range => first | k_is | rfl)
    (case z_tuple => first | k_is | rfl)
    (case excs => kernel_rfl)
    (case gets => kernel_rfl)
    (case kits => kernel_rfl)
    (case tops => kernel_rfl)
    (case nones => kernel_rfl)
    (case exms => kernel_rfl)
