import PyProof.Rows.All
import Wide.All
import OpenK.AllK
import Wide.FinOn
import Lean
import PyProof.EqAt
import PyProof.EqKinds
import PyProof.TupleCall
import PySem.Challenge.RW_handflow_k06_read_trees
set_option Elab.async false
set_option linter.all false
set_option maxRecDepth 100000
namespace L2
open PySem PySem.Spec PyProof.Rows PySem.W
def inClass (s : Stmt) (j : Nat) : Stmt := match s with
  | .ClassDef _ _ _ body _ _ _ _ _ _ _ => body.getD j (.Pass ⟨0, 0, 0, 0⟩)
  | _ => .Pass ⟨0, 0, 0, 0⟩
def defArgs (s : Stmt) : Arguments := match s with
  | .FunctionDef _ a _ _ _ _ _ _ _ _ => a
  | _ => { posonlyargs := [], args := [], vararg := none, kwonlyargs := [], kw_defaults := [], kwarg := none, defaults := [] }
def defBody (s : Stmt) : List Stmt := match s with
  | .FunctionDef _ _ b _ _ _ _ _ _ _ => b
  | _ => []
def defScope (s : Stmt) : Scope := match s with
  | .FunctionDef _ _ _ _ _ _ sc _ _ _ => sc
  | _ => { kind := .function, names := [], isGenerator := false, isCoroutine := false }
end L2
namespace K06
open PySem L2
def top (i : Nat) : Stmt := PySem.Challenge.pw_handflow_k06_read_trees.main.body.getD i (.Pass ⟨0, 0, 0, 0⟩)
noncomputable def defPos (s : Stmt) : Pos := match s with
  | .FunctionDef _ _ _ _ _ _ _ _ _ p => p
  | _ => ⟨0, 0, 0, 0⟩
abbrev vs (x : String) (t : Nat) : Value := .str (Str.ofString x) t
abbrev de (P : Params) (x : String) (t : Nat) (v : Value) : DictEntry := ⟨PyData.keyHash P (Str.ofString x), vs x t, v⟩
noncomputable def hk : Params → PySem.W.Frag := fun P =>
  (nat_lit 2, Obj.mk .none none (Data.dict #[]) #[]) ::
  (nat_lit 3, Obj.mk (.type "dict") none (Data.dict #[de P "__name__" 165 (vs "law_handflow_k06_read_trees" 642), de P "__doc__" 166 .none, de P "__package__" 167 .none, de P "__loader__" 168 (.builtin "__main__.__loader__#opaque"), de P "__spec__" 169 .none, de P "__annotations__" 170 (.ref 6), de P "__builtins__" 171 (.ref 4), de P "__file__" 173 (vs "/claim/cut.py" 172), de P "__cached__" 174 .none, de P "FlowError" 216 (.ref 31), de P "BadRow" 232 (.ref 44), de P "BadNest" 248 (.ref 56), de P "Twice" 264 (.ref 68), de P "NoStore" 280 (.ref 80), de P "Hidden" 296 (.ref 92), de P "KEYWORDS" 309 (.ref 95), de P "SIGNS" 319 (.ref 96), de P "LETTERS" 321 (vs "abcdefghijklmnopqrstuvwxyz" 320), de P "FIGURES" 323 (vs "0123456789" 322), de P "MOST_LETTERS" 325 (.int 8 324), de P "MOST_FIGURES" 327 (.int 30 326), de P "is_name" 334 (.ref 103), de P "number_in" 341 (.ref 110), de P "value_in" 348 (.ref 117), de P "is_made_of" 354 (.ref 122), de P "FORMS" 388 (.ref 123), de P "SET_FORM" 393 (.ref 134), de P "MOST_LENGTH" 395 (.int 2000 394), de P "MOST_ROUNDS" 397 (.int 99 396), de P "row_of" 407 (.ref 141), de P "words_of" 413 (.ref 146), de P "form_of" 422 (.ref 153), de P "filled" 428 (.ref 158), de P "thing_in" 436 (.ref 165), de P "number_within" 446 (.ref 172), de P "HEADS" 451 (.ref 173), de P "OPENERS" 455 (.ref 174), de P "MOVES" 458 (.ref 175), de P "MOST_BLOCKS" 460 (.int 12 459), de P "Block" 521 (.ref 220), de P "Reading" 591 (.ref 274), de P "read" 603 (.ref 285), de P "check" 612 (.ref 292), de P "check_nest" 621 (.ref 299), de P "check_twice" 632 (.ref 306), de P "check_move" 641 (.ref 313), de P "_law_cell_at" 651 (.ref 320), de P "_law_mixed" 660 (.ref 327), de P "_law_keywords" 666 (.ref 334), de P "_law_letters" 676 (.ref 341), de P "_law_name_by" 689 (.ref 348), de P "_law_value_by" 698 (.ref 355), de P "_law_from" 707 (.ref 362), de P "_law_spaced" 717 (.ref 369), de P "_law_same" 727 (.ref 376), de P "_law_here" 735 (.ref 383), de P "_law_ended" 746 (.ref 390), de P "_law_set_by" 758 (.ref 397), de P "_law_single_by" 772 (.ref 404), de P "_law_step" 778 (.ref 409), de P "_law_build" 784 (.ref 414), de P "_law_text_by" 797 (.ref 421), de P "law" 806 (.ref 428)] 63) #[]) ::
  (nat_lit 15, Obj.mk (.type "tuple") none (Data.seq #[.type "ValueError"]) #[]) ::
  (nat_lit 27, Obj.mk (.type "code") none (Data.fields #[vs "__init__" 201, vs "FlowError.__init__" 202, vs "/claim/cut.py" 203, .int 4 0, .int 3 0, .int 0 0, .int 0 0, .int 3 0, .ref 22, .bool true, .int 181 0, .ref 23, .none, .ref 24, .ref 25, .ref 26, .int 207 0, .int 4 0, vs "/claim/cut.py" 208]) #[]) ::
  (nat_lit 28, Obj.mk (.type "function") none (.func (PySem.W.fnOf "__init__" "FlowError.__init__" (defArgs (inClass (top 1) 0)) (defBody (inClass (top 1) 0)) (defScope (inClass (top 1) 0)) .none .none .none (vs "handflow.errors" 187) none (.ref 27) .none)) #[]) ::
  (nat_lit 29, Obj.mk (.type "tuple") none (Data.seq #[vs "place" 210]) #[]) ::
  (nat_lit 30, Obj.mk (.type "dict") none (Data.dict #[de P "__module__" 196 (vs "handflow.errors" 187), de P "__firstlineno__" 200 (.int 2 199), de P "__init__" 209 (.ref 28), de P "__static_attributes__" 211 (.ref 29), de P "__weakref__" 213 (.ref 32), de P "__doc__" 214 .none] 3) #[]) ::
  (nat_lit 31, Obj.mk (.type "type") none (Data.cls (ClassData.mk (Str.ofString "FlowError") [.type "ValueError"] [.ref 31, .type "ValueError", .type "Exception", .type "BaseException", .type "object"] 30 (Str.ofString "FlowError") true [] [.ref 44, .ref 56, .ref 68, .ref 80, .ref 92] false none false)) #[some (.ref 15), none, some (vs "FlowError" 189), some (vs "FlowError" 197), some (.builtin "ValueError.__new__"), some (.bool true)]) ::
  (nat_lit 32, Obj.mk (.type "getset_descriptor") none (Data.fields #[vs "__weakref__" 212, .ref 31, .builtin "ExceptionGroup.__weakref__", .none]) #[]) ::
  (nat_lit 35, Obj.mk (.type "tuple") none (Data.seq #[.ref 31]) #[]) ::
  (nat_lit 42, Obj.mk (.type "tuple") none (Data.seq #[]) #[]) ::
  (nat_lit 43, Obj.mk (.type "dict") none (Data.dict #[de P "__module__" 224 (vs "handflow.errors" 187), de P "__firstlineno__" 228 (.int 7 227), de P "__static_attributes__" 229 (.ref 42), de P "__doc__" 230 .none] 2) #[]) ::
  (nat_lit 44, Obj.mk (.type "type") none (Data.cls (ClassData.mk (Str.ofString "BadRow") [.ref 31] [.ref 44, .ref 31, .type "ValueError", .type "Exception", .type "BaseException", .type "object"] 43 (Str.ofString "BadRow") true [] [] false none false)) #[some (.ref 35), none, some (vs "BadRow" 217), some (vs "BadRow" 225), some (.builtin "ValueError.__new__"), some (.bool true)]) ::
  (nat_lit 47, Obj.mk (.type "tuple") none (Data.seq #[.ref 31]) #[]) ::
  (nat_lit 54, Obj.mk (.type "tuple") none (Data.seq #[]) #[]) ::
  (nat_lit 55, Obj.mk (.type "dict") none (Data.dict #[de P "__module__" 240 (vs "handflow.errors" 187), de P "__firstlineno__" 244 (.int 9 243), de P "__static_attributes__" 245 (.ref 54), de P "__doc__" 246 .none] 2) #[]) ::
  (nat_lit 56, Obj.mk (.type "type") none (Data.cls (ClassData.mk (Str.ofString "BadNest") [.ref 31] [.ref 56, .ref 31, .type "ValueError", .type "Exception", .type "BaseException", .type "object"] 55 (Str.ofString "BadNest") true [] [] false none false)) #[some (.ref 47), none, some (vs "BadNest" 233), some (vs "BadNest" 241), some (.builtin "ValueError.__new__"), some (.bool true)]) ::
  (nat_lit 59, Obj.mk (.type "tuple") none (Data.seq #[.ref 31]) #[]) ::
  (nat_lit 66, Obj.mk (.type "tuple") none (Data.seq #[]) #[]) ::
  (nat_lit 67, Obj.mk (.type "dict") none (Data.dict #[de P "__module__" 256 (vs "handflow.errors" 187), de P "__firstlineno__" 260 (.int 11 259), de P "__static_attributes__" 261 (.ref 66), de P "__doc__" 262 .none] 2) #[]) ::
  (nat_lit 68, Obj.mk (.type "type") none (Data.cls (ClassData.mk (Str.ofString "Twice") [.ref 31] [.ref 68, .ref 31, .type "ValueError", .type "Exception", .type "BaseException", .type "object"] 67 (Str.ofString "Twice") true [] [] false none false)) #[some (.ref 59), none, some (vs "Twice" 249), some (vs "Twice" 257), some (.builtin "ValueError.__new__"), some (.bool true)]) ::
  (nat_lit 71, Obj.mk (.type "tuple") none (Data.seq #[.ref 31]) #[]) ::
  (nat_lit 78, Obj.mk (.type "tuple") none (Data.seq #[]) #[]) ::
  (nat_lit 79, Obj.mk (.type "dict") none (Data.dict #[de P "__module__" 272 (vs "handflow.errors" 187), de P "__firstlineno__" 276 (.int 13 275), de P "__static_attributes__" 277 (.ref 78), de P "__doc__" 278 .none] 2) #[]) ::
  (nat_lit 80, Obj.mk (.type "type") none (Data.cls (ClassData.mk (Str.ofString "NoStore") [.ref 31] [.ref 80, .ref 31, .type "ValueError", .type "Exception", .type "BaseException", .type "object"] 79 (Str.ofString "NoStore") true [] [] false none false)) #[some (.ref 71), none, some (vs "NoStore" 265), some (vs "NoStore" 273), some (.builtin "ValueError.__new__"), some (.bool true)]) ::
  (nat_lit 83, Obj.mk (.type "tuple") none (Data.seq #[.ref 31]) #[]) ::
  (nat_lit 90, Obj.mk (.type "tuple") none (Data.seq #[]) #[]) ::
  (nat_lit 91, Obj.mk (.type "dict") none (Data.dict #[de P "__module__" 288 (vs "handflow.errors" 187), de P "__firstlineno__" 292 (.int 15 291), de P "__static_attributes__" 293 (.ref 90), de P "__doc__" 294 .none] 2) #[]) ::
  (nat_lit 92, Obj.mk (.type "type") none (Data.cls (ClassData.mk (Str.ofString "Hidden") [.ref 31] [.ref 92, .ref 31, .type "ValueError", .type "Exception", .type "BaseException", .type "object"] 91 (Str.ofString "Hidden") true [] [] false none false)) #[some (.ref 83), none, some (vs "Hidden" 281), some (vs "Hidden" 289), some (.builtin "ValueError.__new__"), some (.bool true)]) ::
  (nat_lit 95, Obj.mk (.type "tuple") none (Data.seq #[vs "ask" 299, vs "store" 300, vs "put" 301, vs "get" 302, vs "give" 303, vs "if" 304, vs "else" 305, vs "while" 306, vs "repeat" 307, vs "end" 308]) #[]) ::
  (nat_lit 96, Obj.mk (.type "tuple") none (Data.seq #[vs "+" 310, vs "-" 311, vs "*" 312, vs "/" 313, vs "<" 314, vs "=" 315, vs "&" 316, vs "|" 317, vs "^" 318]) #[]) ::
  (nat_lit 102, Obj.mk (.type "code") none (Data.fields #[vs "is_name" 328, vs "is_name" 329, vs "/claim/cut.py" 330, .int 24 0, .int 1 0, .int 0 0, .int 0 0, .int 3 0, .ref 97, .bool true, .int 181 0, .ref 98, .none, .ref 99, .ref 100, .ref 101, .int 332 0, .int 24 0, vs "/claim/cut.py" 333]) #[]) ::
  (nat_lit 103, Obj.mk (.type "function") none (.func (PySem.W.fnOf "is_name" "is_name" (defArgs (top 14)) (defBody (top 14)) (defScope (top 14)) .none .none .none (vs "handflow.words" 297) none (.ref 102) .none)) #[]) ::
  (nat_lit 109, Obj.mk (.type "code") none (Data.fields #[vs "number_in" 335, vs "number_in" 336, vs "/claim/cut.py" 337, .int 28 0, .int 1 0, .int 0 0, .int 0 0, .int 3 0, .ref 104, .bool true, .int 181 0, .ref 105, .none, .ref 106, .ref 107, .ref 108, .int 339 0, .int 28 0, vs "/claim/cut.py" 340]) #[]) ::
  (nat_lit 110, Obj.mk (.type "function") none (.func (PySem.W.fnOf "number_in" "number_in" (defArgs (top 15)) (defBody (top 15)) (defScope (top 15)) .none .none .none (vs "handflow.words" 297) none (.ref 109) .none)) #[]) ::
  (nat_lit 116, Obj.mk (.type "code") none (Data.fields #[vs "value_in" 342, vs "value_in" 343, vs "/claim/cut.py" 344, .int 36 0, .int 1 0, .int 0 0, .int 0 0, .int 3 0, .ref 111, .bool true, .int 181 0, .ref 112, .none, .ref 113, .ref 114, .ref 115, .int 346 0, .int 36 0, vs "/claim/cut.py" 347]) #[]) ::
  (nat_lit 117, Obj.mk (.type "function") none (.func (PySem.W.fnOf "value_in" "value_in" (defArgs (top 16)) (defBody (top 16)) (defScope (top 16)) .none .none .none (vs "handflow.words" 297) none (.ref 116) .none)) #[]) ::
  (nat_lit 121, Obj.mk (.type "code") none (Data.fields #[vs "is_made_of" 349, vs "is_made_of" 350, vs "/claim/cut.py" 351, .int 38 0, .int 2 0, .int 0 0, .int 0 0, .int 3 0, .ref 118, .bool true, .int 181 0, .ref 119, .none, .none, .none, .ref 120, .int 352 0, .int 38 0, vs "/claim/cut.py" 353]) #[]) ::
  (nat_lit 122, Obj.mk (.type "function") none (.func (PySem.W.fnOf "is_made_of" "is_made_of" (defArgs (top 17)) (defBody (top 17)) (defScope (top 17)) .none .none .none (vs "handflow.words" 297) none (.ref 121) .none)) #[]) ::
  (nat_lit 123, Obj.mk (.type "dict") none (Data.dict #[de P "ask" 357 (.ref 124), de P "store" 359 (.ref 125), de P "put" 362 (.ref 126), de P "get" 365 (.ref 127), de P "give" 368 (.ref 128), de P "if" 370 (.ref 129), de P "else" 372 (.ref 130), de P "while" 373 (.ref 131), de P "repeat" 375 (.ref 132), de P "end" 377 (.ref 133)] 10) #[]) ::
  (nat_lit 124, Obj.mk (.type "tuple") none (Data.seq #[vs "name" 358]) #[]) ::
  (nat_lit 125, Obj.mk (.type "tuple") none (Data.seq #[vs "name" 360, vs "length" 361]) #[]) ::
  (nat_lit 126, Obj.mk (.type "tuple") none (Data.seq #[vs "name" 363, vs "name" 364]) #[]) ::
  (nat_lit 127, Obj.mk (.type "tuple") none (Data.seq #[vs "name" 366, vs "name" 367]) #[]) ::
  (nat_lit 128, Obj.mk (.type "tuple") none (Data.seq #[vs "name" 369]) #[]) ::
  (nat_lit 129, Obj.mk (.type "tuple") none (Data.seq #[vs "name" 371]) #[]) ::
  (nat_lit 130, Obj.mk (.type "tuple") none (Data.seq #[]) #[]) ::
  (nat_lit 131, Obj.mk (.type "tuple") none (Data.seq #[vs "name" 374]) #[]) ::
  (nat_lit 132, Obj.mk (.type "tuple") none (Data.seq #[vs "rounds" 376]) #[]) ::
  (nat_lit 133, Obj.mk (.type "tuple") none (Data.seq #[]) #[]) ::
  (nat_lit 134, Obj.mk (.type "tuple") none (Data.seq #[vs "name" 389, vs "value" 390, vs "sign" 391, vs "value" 392]) #[]) ::
  (nat_lit 140, Obj.mk (.type "code") none (Data.fields #[vs "row_of" 398, vs "row_of" 399, vs "/claim/cut.py" 400, .int 45 0, .int 2 0, .int 0 0, .int 0 0, .int 3 0, .ref 135, .bool true, .int 181 0, .ref 136, .none, .ref 137, .ref 138, .ref 139, .int 405 0, .int 45 0, vs "/claim/cut.py" 406]) #[]) ::
  (nat_lit 141, Obj.mk (.type "function") none (.func (PySem.W.fnOf "row_of" "row_of" (defArgs (top 23)) (defBody (top 23)) (defScope (top 23)) .none .none .none (vs "handflow.rows" 355) none (.ref 140) .none)) #[]) ::
  (nat_lit 145, Obj.mk (.type "code") none (Data.fields #[vs "words_of" 408, vs "words_of" 409, vs "/claim/cut.py" 410, .int 53 0, .int 1 0, .int 0 0, .int 0 0, .int 3 0, .ref 142, .bool true, .int 181 0, .ref 143, .none, .none, .none, .ref 144, .int 411 0, .int 53 0, vs "/claim/cut.py" 412]) #[]) ::
  (nat_lit 146, Obj.mk (.type "function") none (.func (PySem.W.fnOf "words_of" "words_of" (defArgs (top 24)) (defBody (top 24)) (defScope (top 24)) .none .none .none (vs "handflow.rows" 355) none (.ref 145) .none)) #[]) ::
  (nat_lit 152, Obj.mk (.type "code") none (Data.fields #[vs "form_of" 414, vs "form_of" 415, vs "/claim/cut.py" 416, .int 55 0, .int 1 0, .int 0 0, .int 0 0, .int 3 0, .ref 147, .bool true, .int 181 0, .ref 148, .none, .ref 149, .ref 150, .ref 151, .int 420 0, .int 55 0, vs "/claim/cut.py" 421]) #[]) ::
  (nat_lit 153, Obj.mk (.type "function") none (.func (PySem.W.fnOf "form_of" "form_of" (defArgs (top 25)) (defBody (top 25)) (defScope (top 25)) .none .none .none (vs "handflow.rows" 355) none (.ref 152) .none)) #[]) ::
  (nat_lit 157, Obj.mk (.type "code") none (Data.fields #[vs "filled" 423, vs "filled" 424, vs "/claim/cut.py" 425, .int 65 0, .int 3 0, .int 0 0, .int 0 0, .int 3 0, .ref 154, .bool true, .int 181 0, .ref 155, .none, .none, .none, .ref 156, .int 426 0, .int 65 0, vs "/claim/cut.py" 427]) #[]) ::
  (nat_lit 158, Obj.mk (.type "function") none (.func (PySem.W.fnOf "filled" "filled" (defArgs (top 26)) (defBody (top 26)) (defScope (top 26)) .none .none .none (vs "handflow.rows" 355) none (.ref 157) .none)) #[]) ::
  (nat_lit 164, Obj.mk (.type "code") none (Data.fields #[vs "thing_in" 429, vs "thing_in" 430, vs "/claim/cut.py" 431, .int 72 0, .int 2 0, .int 0 0, .int 0 0, .int 3 0, .ref 159, .bool true, .int 181 0, .ref 160, .none, .ref 161, .ref 162, .ref 163, .int 434 0, .int 72 0, vs "/claim/cut.py" 435]) #[]) ::
  (nat_lit 165, Obj.mk (.type "function") none (.func (PySem.W.fnOf "thing_in" "thing_in" (defArgs (top 27)) (defBody (top 27)) (defScope (top 27)) .none .none .none (vs "handflow.rows" 355) none (.ref 164) .none)) #[]) ::
  (nat_lit 171, Obj.mk (.type "code") none (Data.fields #[vs "number_within" 437, vs "number_within" 438, vs "/claim/cut.py" 439, .int 82 0, .int 3 0, .int 0 0, .int 0 0, .int 3 0, .ref 166, .bool true, .int 181 0, .ref 167, .none, .ref 168, .ref 169, .ref 170, .int 444 0, .int 82 0, vs "/claim/cut.py" 445]) #[]) ::
  (nat_lit 172, Obj.mk (.type "function") none (.func (PySem.W.fnOf "number_within" "number_within" (defArgs (top 28)) (defBody (top 28)) (defScope (top 28)) .none .none .none (vs "handflow.rows" 355) none (.ref 171) .none)) #[]) ::
  (nat_lit 173, Obj.mk (.type "tuple") none (Data.seq #[vs "ask" 449, vs "store" 450]) #[]) ::
  (nat_lit 174, Obj.mk (.type "tuple") none (Data.seq #[vs "if" 452, vs "while" 453, vs "repeat" 454]) #[]) ::
  (nat_lit 175, Obj.mk (.type "tuple") none (Data.seq #[vs "put" 456, vs "get" 457]) #[]) ::
  (nat_lit 188, Obj.mk (.type "code") none (Data.fields #[vs "__init__" 473, vs "Block.__init__" 474, vs "/claim/cut.py" 475, .int 94 0, .int 2 0, .int 0 0, .int 0 0, .int 3 0, .ref 183, .bool true, .int 181 0, .ref 184, .none, .ref 185, .ref 186, .ref 187, .int 478 0, .int 94 0, vs "/claim/cut.py" 479]) #[]) ::
  (nat_lit 189, Obj.mk (.type "function") none (.func (PySem.W.fnOf "__init__" "Block.__init__" (defArgs (inClass (top 34) 0)) (defBody (inClass (top 34) 0)) (defScope (inClass (top 34) 0)) .none .none .none (vs "handflow.reader" 447) none (.ref 188) .none)) #[]) ::
  (nat_lit 195, Obj.mk (.type "code") none (Data.fields #[vs "lay" 481, vs "Block.lay" 482, vs "/claim/cut.py" 483, .int 100 0, .int 2 0, .int 0 0, .int 0 0, .int 3 0, .ref 190, .bool true, .int 181 0, .ref 191, .none, .ref 192, .ref 193, .ref 194, .int 486 0, .int 100 0, vs "/claim/cut.py" 487]) #[]) ::
  (nat_lit 196, Obj.mk (.type "function") none (.func (PySem.W.fnOf "lay" "Block.lay" (defArgs (inClass (top 34) 1)) (defBody (inClass (top 34) 1)) (defScope (inClass (top 34) 1)) .none .none .none (vs "handflow.reader" 447) none (.ref 195) .none)) #[]) ::
  (nat_lit 202, Obj.mk (.type "code") none (Data.fields #[vs "turn" 489, vs "Block.turn" 490, vs "/claim/cut.py" 491, .int 106 0, .int 1 0, .int 0 0, .int 0 0, .int 3 0, .ref 197, .bool true, .int 181 0, .ref 198, .none, .ref 199, .ref 200, .ref 201, .int 493 0, .int 106 0, vs "/claim/cut.py" 494]) #[]) ::
  (nat_lit 203, Obj.mk (.type "function") none (.func (PySem.W.fnOf "turn" "Block.turn" (defArgs (inClass (top 34) 2)) (defBody (inClass (top 34) 2)) (defScope (inClass (top 34) 2)) .none .none .none (vs "handflow.reader" 447) none (.ref 202) .none)) #[]) ::
  (nat_lit 209, Obj.mk (.type "code") none (Data.fields #[vs "may_turn" 496, vs "Block.may_turn" 497, vs "/claim/cut.py" 498, .int 109 0, .int 1 0, .int 0 0, .int 0 0, .int 3 0, .ref 204, .bool true, .int 181 0, .ref 205, .none, .ref 206, .ref 207, .ref 208, .int 500 0, .int 109 0, vs "/claim/cut.py" 501]) #[]) ::
  (nat_lit 210, Obj.mk (.type "function") none (.func (PySem.W.fnOf "may_turn" "Block.may_turn" (defArgs (inClass (top 34) 3)) (defBody (inClass (top 34) 3)) (defScope (inClass (top 34) 3)) .none .none .none (vs "handflow.reader" 447) none (.ref 209) .none)) #[]) ::
  (nat_lit 216, Obj.mk (.type "code") none (Data.fields #[vs "whole" 503, vs "Block.whole" 504, vs "/claim/cut.py" 505, .int 112 0, .int 1 0, .int 0 0, .int 0 0, .int 3 0, .ref 211, .bool true, .int 181 0, .ref 212, .none, .ref 213, .ref 214, .ref 215, .int 507 0, .int 112 0, vs "/claim/cut.py" 508]) #[]) ::
  (nat_lit 217, Obj.mk (.type "function") none (.func (PySem.W.fnOf "whole" "Block.whole" (defArgs (inClass (top 34) 4)) (defBody (inClass (top 34) 4)) (defScope (inClass (top 34) 4)) .none .none .none (vs "handflow.reader" 447) none (.ref 216) .none)) #[]) ::
  (nat_lit 218, Obj.mk (.type "tuple") none (Data.seq #[vs "deeds" 510, vs "form" 511, vs "others" 512, vs "turned" 513]) #[]) ::
  (nat_lit 219, Obj.mk (.type "dict") none (Data.dict #[de P "__module__" 468 (vs "handflow.reader" 447), de P "__firstlineno__" 472 (.int 92 471), de P "__init__" 480 (.ref 189), de P "lay" 488 (.ref 196), de P "turn" 495 (.ref 203), de P "may_turn" 502 (.ref 210), de P "whole" 509 (.ref 217), de P "__static_attributes__" 514 (.ref 218), de P "__dict__" 516 (.ref 221), de P "__weakref__" 518 (.ref 222), de P "__doc__" 519 .none] 4) #[]) ::
  (nat_lit 220, Obj.mk (.type "type") none (Data.cls (ClassData.mk (Str.ofString "Block") [.type "object"] [.ref 220, .type "object"] 219 (Str.ofString "Block") true [] [] false none false)) #[none, none, some (vs "Block" 461), some (vs "Block" 469), some (.builtin "object.__new__"), some (.bool true)]) ::
  (nat_lit 221, Obj.mk (.type "getset_descriptor") none (Data.fields #[vs "__dict__" 515, .ref 220, .builtin "function.__dict__", .builtin "function.__dict__#set"]) #[]) ::
  (nat_lit 222, Obj.mk (.type "getset_descriptor") none (Data.fields #[vs "__weakref__" 517, .ref 220, .builtin "ExceptionGroup.__weakref__", .none]) #[]) ::
  (nat_lit 237, Obj.mk (.type "code") none (Data.fields #[vs "__init__" 534, vs "Reading.__init__" 535, vs "/claim/cut.py" 536, .int 118 0, .int 1 0, .int 0 0, .int 0 0, .int 3 0, .ref 232, .bool true, .int 181 0, .ref 233, .none, .ref 234, .ref 235, .ref 236, .int 538 0, .int 118 0, vs "/claim/cut.py" 539]) #[]) ::
  (nat_lit 238, Obj.mk (.type "function") none (.func (PySem.W.fnOf "__init__" "Reading.__init__" (defArgs (inClass (top 35) 0)) (defBody (inClass (top 35) 0)) (defScope (inClass (top 35) 0)) .none .none .none (vs "handflow.reader" 447) none (.ref 237) .none)) #[]) ::
  (nat_lit 244, Obj.mk (.type "code") none (Data.fields #[vs "enter" 541, vs "Reading.enter" 542, vs "/claim/cut.py" 543, .int 125 0, .int 2 0, .int 0 0, .int 0 0, .int 3 0, .ref 239, .bool true, .int 181 0, .ref 240, .none, .ref 241, .ref 242, .ref 243, .int 546 0, .int 125 0, vs "/claim/cut.py" 547]) #[]) ::
  (nat_lit 245, Obj.mk (.type "function") none (.func (PySem.W.fnOf "enter" "Reading.enter" (defArgs (inClass (top 35) 1)) (defBody (inClass (top 35) 1)) (defScope (inClass (top 35) 1)) .none .none .none (vs "handflow.reader" 447) none (.ref 244) .none)) #[]) ::
  (nat_lit 251, Obj.mk (.type "code") none (Data.fields #[vs "follow" 549, vs "Reading.follow" 550, vs "/claim/cut.py" 551, .int 134 0, .int 2 0, .int 0 0, .int 0 0, .int 3 0, .ref 246, .bool true, .int 181 0, .ref 247, .none, .ref 248, .ref 249, .ref 250, .int 555 0, .int 134 0, vs "/claim/cut.py" 556]) #[]) ::
  (nat_lit 252, Obj.mk (.type "function") none (.func (PySem.W.fnOf "follow" "Reading.follow" (defArgs (inClass (top 35) 2)) (defBody (inClass (top 35) 2)) (defScope (inClass (top 35) 2)) .none .none .none (vs "handflow.reader" 447) none (.ref 251) .none)) #[]) ::
  (nat_lit 258, Obj.mk (.type "code") none (Data.fields #[vs "lay_down" 558, vs "Reading.lay_down" 559, vs "/claim/cut.py" 560, .int 145 0, .int 2 0, .int 0 0, .int 0 0, .int 3 0, .ref 253, .bool true, .int 181 0, .ref 254, .none, .ref 255, .ref 256, .ref 257, .int 563 0, .int 145 0, vs "/claim/cut.py" 564]) #[]) ::
  (nat_lit 259, Obj.mk (.type "function") none (.func (PySem.W.fnOf "lay_down" "Reading.lay_down" (defArgs (inClass (top 35) 3)) (defBody (inClass (top 35) 3)) (defScope (inClass (top 35) 3)) .none .none .none (vs "handflow.reader" 447) none (.ref 258) .none)) #[]) ::
  (nat_lit 265, Obj.mk (.type "code") none (Data.fields #[vs "may_turn_innermost" 566, vs "Reading.may_turn_innermost" 567, vs "/claim/cut.py" 568, .int 151 0, .int 1 0, .int 0 0, .int 0 0, .int 3 0, .ref 260, .bool true, .int 181 0, .ref 261, .none, .ref 262, .ref 263, .ref 264, .int 570 0, .int 151 0, vs "/claim/cut.py" 571]) #[]) ::
  (nat_lit 266, Obj.mk (.type "function") none (.func (PySem.W.fnOf "may_turn_innermost" "Reading.may_turn_innermost" (defArgs (inClass (top 35) 4)) (defBody (inClass (top 35) 4)) (defScope (inClass (top 35) 4)) .none .none .none (vs "handflow.reader" 447) none (.ref 265) .none)) #[]) ::
  (nat_lit 270, Obj.mk (.type "code") none (Data.fields #[vs "is_hiding" 573, vs "Reading.is_hiding" 574, vs "/claim/cut.py" 575, .int 154 0, .int 1 0, .int 0 0, .int 0 0, .int 3 0, .ref 267, .bool true, .int 181 0, .ref 268, .none, .none, .none, .ref 269, .int 576 0, .int 154 0, vs "/claim/cut.py" 577]) #[]) ::
  (nat_lit 271, Obj.mk (.type "function") none (.func (PySem.W.fnOf "is_hiding" "Reading.is_hiding" (defArgs (inClass (top 35) 5)) (defBody (inClass (top 35) 5)) (defScope (inClass (top 35) 5)) .none .none .none (vs "handflow.reader" 447) none (.ref 270) .none)) #[]) ::
  (nat_lit 272, Obj.mk (.type "tuple") none (Data.seq #[vs "asks" 579, vs "begun" 580, vs "blocks" 581, vs "body" 582, vs "stores" 583]) #[]) ::
  (nat_lit 273, Obj.mk (.type "dict") none (Data.dict #[de P "__module__" 529 (vs "handflow.reader" 447), de P "__firstlineno__" 533 (.int 116 532), de P "__init__" 540 (.ref 238), de P "enter" 548 (.ref 245), de P "follow" 557 (.ref 252), de P "lay_down" 565 (.ref 259), de P "may_turn_innermost" 572 (.ref 266), de P "is_hiding" 578 (.ref 271), de P "__static_attributes__" 584 (.ref 272), de P "__dict__" 586 (.ref 275), de P "__weakref__" 588 (.ref 276), de P "__doc__" 589 .none] 4) #[]) ::
  (nat_lit 274, Obj.mk (.type "type") none (Data.cls (ClassData.mk (Str.ofString "Reading") [.type "object"] [.ref 274, .type "object"] 273 (Str.ofString "Reading") true [] [] false none false)) #[none, none, some (vs "Reading" 522), some (vs "Reading" 530), some (.builtin "object.__new__"), some (.bool true)]) ::
  (nat_lit 275, Obj.mk (.type "getset_descriptor") none (Data.fields #[vs "__dict__" 585, .ref 274, .builtin "function.__dict__", .builtin "function.__dict__#set"]) #[]) ::
  (nat_lit 276, Obj.mk (.type "getset_descriptor") none (Data.fields #[vs "__weakref__" 587, .ref 274, .builtin "ExceptionGroup.__weakref__", .none]) #[]) ::
  (nat_lit 284, Obj.mk (.type "code") none (Data.fields #[vs "read" 592, vs "read" 593, vs "/claim/cut.py" 594, .int 156 0, .int 1 0, .int 0 0, .int 0 0, .int 3 0, .ref 279, .bool true, .int 181 0, .ref 280, .none, .ref 281, .ref 282, .ref 283, .int 601 0, .int 156 0, vs "/claim/cut.py" 602]) #[]) ::
  (nat_lit 285, Obj.mk (.type "function") none (.func (PySem.W.fnOf "read" "read" (defArgs (top 36)) (defBody (top 36)) (defScope (top 36)) .none .none .none (vs "handflow.reader" 447) none (.ref 284) .none)) #[]) ::
  (nat_lit 291, Obj.mk (.type "code") none (Data.fields #[vs "check" 604, vs "check" 605, vs "/claim/cut.py" 606, .int 167 0, .int 3 0, .int 0 0, .int 0 0, .int 3 0, .ref 286, .bool true, .int 181 0, .ref 287, .none, .ref 288, .ref 289, .ref 290, .int 610 0, .int 167 0, vs "/claim/cut.py" 611]) #[]) ::
  (nat_lit 292, Obj.mk (.type "function") none (.func (PySem.W.fnOf "check" "check" (defArgs (top 37)) (defBody (top 37)) (defScope (top 37)) .none .none .none (vs "handflow.reader" 447) none (.ref 291) .none)) #[]) ::
  (nat_lit 298, Obj.mk (.type "code") none (Data.fields #[vs "check_nest" 613, vs "check_nest" 614, vs "/claim/cut.py" 615, .int 173 0, .int 3 0, .int 0 0, .int 0 0, .int 3 0, .ref 293, .bool true, .int 181 0, .ref 294, .none, .ref 295, .ref 296, .ref 297, .int 619 0, .int 173 0, vs "/claim/cut.py" 620]) #[]) ::
  (nat_lit 299, Obj.mk (.type "function") none (.func (PySem.W.fnOf "check_nest" "check_nest" (defArgs (top 38)) (defBody (top 38)) (defScope (top 38)) .none .none .none (vs "handflow.reader" 447) none (.ref 298) .none)) #[]) ::
  (nat_lit 305, Obj.mk (.type "code") none (Data.fields #[vs "check_twice" 622, vs "check_twice" 623, vs "/claim/cut.py" 624, .int 182 0, .int 3 0, .int 0 0, .int 0 0, .int 3 0, .ref 300, .bool true, .int 181 0, .ref 301, .none, .ref 302, .ref 303, .ref 304, .int 630 0, .int 182 0, vs "/claim/cut.py" 631]) #[]) ::
  (nat_lit 306, Obj.mk (.type "function") none (.func (PySem.W.fnOf "check_twice" "check_twice" (defArgs (top 39)) (defBody (top 39)) (defScope (top 39)) .none .none .none (vs "handflow.reader" 447) none (.ref 305) .none)) #[]) ::
  (nat_lit 312, Obj.mk (.type "code") none (Data.fields #[vs "check_move" 633, vs "check_move" 634, vs "/claim/cut.py" 635, .int 187 0, .int 3 0, .int 0 0, .int 0 0, .int 3 0, .ref 307, .bool true, .int 181 0, .ref 308, .none, .ref 309, .ref 310, .ref 311, .int 639 0, .int 187 0, vs "/claim/cut.py" 640]) #[]) ::
  (nat_lit 313, Obj.mk (.type "function") none (.func (PySem.W.fnOf "check_move" "check_move" (defArgs (top 40)) (defBody (top 40)) (defScope (top 40)) .none .none .none (vs "handflow.reader" 447) none (.ref 312) .none)) #[]) ::
  (nat_lit 319, Obj.mk (.type "code") none (Data.fields #[vs "_law_cell_at" 644, vs "_law_cell_at" 645, vs "/claim/cut.py" 646, .int 193 0, .int 2 0, .int 0 0, .int 0 0, .int 3 0, .ref 314, .bool true, .int 181 0, .ref 315, .none, .ref 316, .ref 317, .ref 318, .int 649 0, .int 193 0, vs "/claim/cut.py" 650]) #[]) ::
  (nat_lit 320, Obj.mk (.type "function") none (.func (PySem.W.fnOf "_law_cell_at" "_law_cell_at" (defArgs (top 42)) (defBody (top 42)) (defScope (top 42)) .none .none .none (vs "law_handflow_k06_read_trees" 642) none (.ref 319) .none)) #[]) ::
  (nat_lit 326, Obj.mk (.type "code") none (Data.fields #[vs "_law_mixed" 652, vs "_law_mixed" 653, vs "/claim/cut.py" 654, .int 197 0, .int 2 0, .int 0 0, .int 0 0, .int 3 0, .ref 321, .bool true, .int 181 0, .ref 322, .none, .ref 323, .ref 324, .ref 325, .int 658 0, .int 197 0, vs "/claim/cut.py" 659]) #[]) ::
  (nat_lit 327, Obj.mk (.type "function") none (.func (PySem.W.fnOf "_law_mixed" "_law_mixed" (defArgs (top 43)) (defBody (top 43)) (defScope (top 43)) .none .none .none (vs "law_handflow_k06_read_trees" 642) none (.ref 326) .none)) #[]) ::
  (nat_lit 333, Obj.mk (.type "code") none (Data.fields #[vs "_law_keywords" 661, vs "_law_keywords" 662, vs "/claim/cut.py" 663, .int 200 0, .int 0 0, .int 0 0, .int 0 0, .int 3 0, .ref 328, .bool true, .int 181 0, .ref 329, .none, .ref 330, .ref 331, .ref 332, .int 664 0, .int 200 0, vs "/claim/cut.py" 665]) #[]) ::
  (nat_lit 334, Obj.mk (.type "function") none (.func (PySem.W.fnOf "_law_keywords" "_law_keywords" (defArgs (top 44)) (defBody (top 44)) (defScope (top 44)) .none .none .none (vs "law_handflow_k06_read_trees" 642) none (.ref 333) .none)) #[]) ::
  (nat_lit 340, Obj.mk (.type "code") none (Data.fields #[vs "_law_letters" 667, vs "_law_letters" 668, vs "/claim/cut.py" 669, .int 202 0, .int 2 0, .int 0 0, .int 0 0, .int 3 0, .ref 335, .bool true, .int 181 0, .ref 336, .none, .ref 337, .ref 338, .ref 339, .int 674 0, .int 202 0, vs "/claim/cut.py" 675]) #[]) ::
  (nat_lit 341, Obj.mk (.type "function") none (.func (PySem.W.fnOf "_law_letters" "_law_letters" (defArgs (top 45)) (defBody (top 45)) (defScope (top 45)) .none .none .none (vs "law_handflow_k06_read_trees" 642) none (.ref 340) .none)) #[]) ::
  (nat_lit 347, Obj.mk (.type "code") none (Data.fields #[vs "_law_name_by" 677, vs "_law_name_by" 678, vs "/claim/cut.py" 679, .int 208 0, .int 1 0, .int 0 0, .int 0 0, .int 3 0, .ref 342, .bool true, .int 181 0, .ref 343, .none, .ref 344, .ref 345, .ref 346, .int 687 0, .int 208 0, vs "/claim/cut.py" 688]) #[]) ::
  (nat_lit 348, Obj.mk (.type "function") none (.func (PySem.W.fnOf "_law_name_by" "_law_name_by" (defArgs (top 46)) (defBody (top 46)) (defScope (top 46)) .none .none .none (vs "law_handflow_k06_read_trees" 642) none (.ref 347) .none)) #[]) ::
  (nat_lit 354, Obj.mk (.type "code") none (Data.fields #[vs "_law_value_by" 690, vs "_law_value_by" 691, vs "/claim/cut.py" 692, .int 222 0, .int 1 0, .int 0 0, .int 0 0, .int 3 0, .ref 349, .bool true, .int 181 0, .ref 350, .none, .ref 351, .ref 352, .ref 353, .int 696 0, .int 222 0, vs "/claim/cut.py" 697]) #[]) ::
  (nat_lit 355, Obj.mk (.type "function") none (.func (PySem.W.fnOf "_law_value_by" "_law_value_by" (defArgs (top 47)) (defBody (top 47)) (defScope (top 47)) .none .none .none (vs "law_handflow_k06_read_trees" 642) none (.ref 354) .none)) #[]) ::
  (nat_lit 361, Obj.mk (.type "code") none (Data.fields #[vs "_law_from" 699, vs "_law_from" 700, vs "/claim/cut.py" 701, .int 230 0, .int 3 0, .int 0 0, .int 0 0, .int 3 0, .ref 356, .bool true, .int 181 0, .ref 357, .none, .ref 358, .ref 359, .ref 360, .int 705 0, .int 230 0, vs "/claim/cut.py" 706]) #[]) ::
  (nat_lit 362, Obj.mk (.type "function") none (.func (PySem.W.fnOf "_law_from" "_law_from" (defArgs (top 48)) (defBody (top 48)) (defScope (top 48)) .none .none .none (vs "law_handflow_k06_read_trees" 642) none (.ref 361) .none)) #[]) ::
  (nat_lit 368, Obj.mk (.type "code") none (Data.fields #[vs "_law_spaced" 708, vs "_law_spaced" 709, vs "/claim/cut.py" 710, .int 234 0, .int 2 0, .int 0 0, .int 0 0, .int 3 0, .ref 363, .bool true, .int 181 0, .ref 364, .none, .ref 365, .ref 366, .ref 367, .int 715 0, .int 234 0, vs "/claim/cut.py" 716]) #[]) ::
  (nat_lit 369, Obj.mk (.type "function") none (.func (PySem.W.fnOf "_law_spaced" "_law_spaced" (defArgs (top 49)) (defBody (top 49)) (defScope (top 49)) .none .none .none (vs "law_handflow_k06_read_trees" 642) none (.ref 368) .none)) #[]) ::
  (nat_lit 375, Obj.mk (.type "code") none (Data.fields #[vs "_law_same" 718, vs "_law_same" 719, vs "/claim/cut.py" 720, .int 242 0, .int 2 0, .int 0 0, .int 0 0, .int 3 0, .ref 370, .bool true, .int 181 0, .ref 371, .none, .ref 372, .ref 373, .ref 374, .int 725 0, .int 242 0, vs "/claim/cut.py" 726]) #[]) ::
  (nat_lit 376, Obj.mk (.type "function") none (.func (PySem.W.fnOf "_law_same" "_law_same" (defArgs (top 50)) (defBody (top 50)) (defScope (top 50)) .none .none .none (vs "law_handflow_k06_read_trees" 642) none (.ref 375) .none)) #[]) ::
  (nat_lit 382, Obj.mk (.type "code") none (Data.fields #[vs "_law_here" 728, vs "_law_here" 729, vs "/claim/cut.py" 730, .int 257 0, .int 2 0, .int 0 0, .int 0 0, .int 3 0, .ref 377, .bool true, .int 181 0, .ref 378, .none, .ref 379, .ref 380, .ref 381, .int 733 0, .int 257 0, vs "/claim/cut.py" 734]) #[]) ::
  (nat_lit 383, Obj.mk (.type "function") none (.func (PySem.W.fnOf "_law_here" "_law_here" (defArgs (top 51)) (defBody (top 51)) (defScope (top 51)) .none .none .none (vs "law_handflow_k06_read_trees" 642) none (.ref 382) .none)) #[]) ::
  (nat_lit 389, Obj.mk (.type "code") none (Data.fields #[vs "_law_ended" 736, vs "_law_ended" 737, vs "/claim/cut.py" 738, .int 261 0, .int 3 0, .int 0 0, .int 0 0, .int 3 0, .ref 384, .bool true, .int 181 0, .ref 385, .none, .ref 386, .ref 387, .ref 388, .int 744 0, .int 261 0, vs "/claim/cut.py" 745]) #[]) ::
  (nat_lit 390, Obj.mk (.type "function") none (.func (PySem.W.fnOf "_law_ended" "_law_ended" (defArgs (top 52)) (defBody (top 52)) (defScope (top 52)) .none .none .none (vs "law_handflow_k06_read_trees" 642) none (.ref 389) .none)) #[]) ::
  (nat_lit 396, Obj.mk (.type "code") none (Data.fields #[vs "_law_set_by" 747, vs "_law_set_by" 748, vs "/claim/cut.py" 749, .int 268 0, .int 2 0, .int 0 0, .int 0 0, .int 3 0, .ref 391, .bool true, .int 181 0, .ref 392, .none, .ref 393, .ref 394, .ref 395, .int 756 0, .int 268 0, vs "/claim/cut.py" 757]) #[]) ::
  (nat_lit 397, Obj.mk (.type "function") none (.func (PySem.W.fnOf "_law_set_by" "_law_set_by" (defArgs (top 53)) (defBody (top 53)) (defScope (top 53)) .none .none .none (vs "law_handflow_k06_read_trees" 642) none (.ref 396) .none)) #[]) ::
  (nat_lit 403, Obj.mk (.type "code") none (Data.fields #[vs "_law_single_by" 759, vs "_law_single_by" 760, vs "/claim/cut.py" 761, .int 277 0, .int 4 0, .int 0 0, .int 0 0, .int 3 0, .ref 398, .bool true, .int 181 0, .ref 399, .none, .ref 400, .ref 401, .ref 402, .int 770 0, .int 277 0, vs "/claim/cut.py" 771]) #[]) ::
  (nat_lit 404, Obj.mk (.type "function") none (.func (PySem.W.fnOf "_law_single_by" "_law_single_by" (defArgs (top 54)) (defBody (top 54)) (defScope (top 54)) .none .none .none (vs "law_handflow_k06_read_trees" 642) none (.ref 403) .none)) #[]) ::
  (nat_lit 408, Obj.mk (.type "code") none (Data.fields #[vs "_law_step" 773, vs "_law_step" 774, vs "/claim/cut.py" 775, .int 288 0, .int 6 0, .int 0 0, .int 0 0, .int 3 0, .ref 405, .bool true, .int 181 0, .ref 406, .none, .none, .none, .ref 407, .int 776 0, .int 288 0, vs "/claim/cut.py" 777]) #[]) ::
  (nat_lit 409, Obj.mk (.type "function") none (.func (PySem.W.fnOf "_law_step" "_law_step" (defArgs (top 55)) (defBody (top 55)) (defScope (top 55)) .none .none .none (vs "law_handflow_k06_read_trees" 642) none (.ref 408) .none)) #[]) ::
  (nat_lit 413, Obj.mk (.type "code") none (Data.fields #[vs "_law_build" 779, vs "_law_build" 780, vs "/claim/cut.py" 781, .int 311 0, .int 1 0, .int 0 0, .int 0 0, .int 3 0, .ref 410, .bool true, .int 181 0, .ref 411, .none, .none, .none, .ref 412, .int 782 0, .int 311 0, vs "/claim/cut.py" 783]) #[]) ::
  (nat_lit 414, Obj.mk (.type "function") none (.func (PySem.W.fnOf "_law_build" "_law_build" (defArgs (top 56)) (defBody (top 56)) (defScope (top 56)) .none .none .none (vs "law_handflow_k06_read_trees" 642) none (.ref 413) .none)) #[]) ::
  (nat_lit 420, Obj.mk (.type "code") none (Data.fields #[vs "_law_text_by" 785, vs "_law_text_by" 786, vs "/claim/cut.py" 787, .int 333 0, .int 2 0, .int 0 0, .int 0 0, .int 3 0, .ref 415, .bool true, .int 181 0, .ref 416, .none, .ref 417, .ref 418, .ref 419, .int 795 0, .int 333 0, vs "/claim/cut.py" 796]) #[]) ::
  (nat_lit 421, Obj.mk (.type "function") none (.func (PySem.W.fnOf "_law_text_by" "_law_text_by" (defArgs (top 57)) (defBody (top 57)) (defScope (top 57)) .none .none .none (vs "law_handflow_k06_read_trees" 642) none (.ref 420) .none)) #[]) ::
  (nat_lit 427, Obj.mk (.type "code") none (Data.fields #[vs "law" 798, vs "law" 799, vs "/claim/cut.py" 800, .int 344 0, .int 1 0, .int 0 0, .int 0 0, .int 3 0, .ref 422, .bool true, .int 181 0, .ref 423, .none, .ref 424, .ref 425, .ref 426, .int 804 0, .int 344 0, vs "/claim/cut.py" 805]) #[]) ::
  (nat_lit 428, Obj.mk (.type "function") none (.func (PySem.W.fnOf "law" "law" (defArgs (top 58)) (defBody (top 58)) (defScope (top 58)) .none .none .none (vs "law_handflow_k06_read_trees" 642) none (.ref 427) .none)) #[]) ::
  []
noncomputable def hks : List Addr := [2, 3, 15, 27, 28, 29, 30, 31, 32, 35, 42, 43, 44, 47, 54, 55, 56, 59, 66, 67, 68, 71, 78, 79, 80, 83, 90, 91, 92, 95, 96, 102, 103, 109, 110, 116, 117, 121, 122, 123, 124, 125, 126, 127, 128, 129, 130, 131, 132, 133, 134, 140, 141, 145, 146, 152, 153, 157, 158, 164, 165, 171, 172, 173, 174, 175, 188, 189, 195, 196, 202, 203, 209, 210, 216, 217, 218, 219, 220, 221, 222, 237, 238, 244, 245, 251, 252, 258, 259, 265, 266, 270, 271, 272, 273, 274, 275, 276, 284, 285, 291, 292, 298, 299, 305, 306, 312, 313, 319, 320, 326, 327, 333, 334, 340, 341, 347, 348, 354, 355, 361, 362, 368, 369, 375, 376, 382, 383, 389, 390, 396, 397, 403, 404, 408, 409, 413, 414, 420, 421, 427, 428]
theorem hk_as : ∀ P, hks = (hk P).map (·.1) := fun _ => by kernel_rfl
noncomputable def vw : Program := PySem.W.view PySem.Challenge.pw_handflow_k06_read_trees [1, 2, 3, 4, 5, 6, 8, 9, 10, 11, 12, 13, 14, 15, 16, 17, 19, 20, 21, 22, 23, 24, 25, 26, 27, 28, 30, 31, 32, 33, 34, 35, 36, 37, 38, 39, 40, 42, 43, 44, 45, 46, 47, 48, 49, 50, 51, 52, 53, 54, 55, 56, 57, 58]
noncomputable def hkH : PySem.W.Hook := PySem.W.kHook hk hks hk_as
noncomputable def xt (s : Shared) : Bool := PySem.W.xlAt vw [] s && PySem.W.recOk (PySem.W.RowW.records (PySem.W.OpenRow.toRowW (PySem.W.OpenLaw.row PySem.Challenge.rw_handflow_k06_read_trees))) s
noncomputable def bt (P : Params) : PySem.W.BT := (.node (PySem.W.boot_o_0 P) (.node (PySem.W.boot_o_1 P) (.node (PySem.W.boot_o_3 P) (.node (PySem.W.boot_o_7 P) .nil .nil) .nil) (.node (PySem.W.boot_o_5 P) (.node (PySem.W.boot_o_9 P) .nil .nil) .nil)) (.node (PySem.W.boot_o_2 P) (.node (PySem.W.boot_o_4 P) (.node (PySem.W.boot_o_8 P) .nil .nil) .nil) (.node (PySem.W.boot_o_6 P) (.node (PySem.W.boot_o_10 P) .nil .nil) .nil)))
theorem bt_is (P : Params) : PySem.W.absHeap (bt P) 11 {} = PySem.W.boot_heap P := by kernel_rfl
noncomputable def bs (P : Params) (os : OsState) : PySem.W.SharedT := ⟨bt P, 11, {}, #[], PySem.W.boot_drawn, PySem.W.boot_toks, os⟩
theorem bs_is (P : Params) (os : OsState) : (bs P os).abs = ⟨PySem.W.boot_heap P, #[], PySem.W.boot_drawn, PySem.W.boot_toks, os⟩ := by
  unfold bs PySem.W.SharedT.abs; rw [bt_is]
def goT (p : Program) (w : World) (A : Option Value) : Nat → PySem.W.SharedT → Thread → Option PySem.W.SharedT
  | 0, _, _ => none
  | m + 1, x, y => match PySem.W.through y with
    | true => some x
    | false => match PySem.W.stepOk 11 A y with
      | false => none
      | true => match PySem.W.stepT (denote PySem.treeTable) p w x y with
        | none => none
        | some (x', y') => goT p w A m x' y'
noncomputable abbrev annB (w : World) : Option Value := (PySem.W.boot_heap w.params).nsMap mainGlobals "__annotations__"
def EndsT (p q : Program) (loose : List Str) (Xt : Shared → Bool) {α : Type} (Yf : Shared → α) (Ya : World → α) (N : Nat) (w : World) : Prop :=
  ∀ os : OsState, (goT p w (annB w) N (bs w.params os) (PySem.W.topStub p)).map (fun s => (PySem.W.staticsOk (PySem.importedModules p.main.body) (PySem.W.boot_heap w.params) s.abs.heap && PySem.W.namesBound p s.abs.heap && PySem.W.gensDone s.abs && PySem.W.laidKept (PySem.W.boot_heap w.params) s.abs.heap, PySem.W.openSeen q loose (PySem.importedModules p.main.body) Xt true s.abs, Yf s.abs)) = some (true, PySem.W.openGood q loose, Ya w)
set_option maxHeartbeats 0 in
theorem leftF : ∀ w : World, EndsT PySem.Challenge.pw_handflow_k06_read_trees vw [("FORMS" : Str)] xt hkH.obs hkH.val 6880 (w.withFollow "special-get-raises" false) := fun w os => by kernel_rfl
set_option maxHeartbeats 0 in
theorem leftT : ∀ w : World, EndsT PySem.Challenge.pw_handflow_k06_read_trees vw [("FORMS" : Str)] xt hkH.obs hkH.val 6880 (w.withFollow "special-get-raises" true) := fun w os => by kernel_rfl
end K06
namespace L2
open PySem PySem.Spec PyProof.Rows
abbrev Key := Sum Int Str
def keyIs : Key → Value → Bool
  | .inl k, v => Value.isInt k v
  | .inr x, v => Value.isStrOf x v
def keyH (w : World) : Key → Int
  | .inl k => hashInt k
  | .inr x => hashStr w x
theorem keyIs_shape : ∀ {k : Key} {v : Value}, keyIs k v = true → (∃ i t, k = Sum.inl i ∧ v = Value.int i t) ∨ (∃ x t, k = Sum.inr x ∧ v = Value.str x t)
  | .inl i, v, h => by
    obtain ⟨t, e⟩ := Value.isInt_shape (k := i) (v := v) h
    exact .inl ⟨i, t, rfl, e⟩
  | .inr x, v, h => by
    obtain ⟨t, e⟩ := Value.isStrOf_shape (x := x) (v := v) h
    exact .inr ⟨x, t, rfl, e⟩
theorem keyIs_int (i : Int) (t : Tok) : keyIs (.inl i) (.int i t) = true := by simp [keyIs, Value.isInt]
theorem keyIs_str (x : Str) (t : Tok) : keyIs (.inr x) (.str x t) = true := by simp [keyIs, Value.isStrOf]
theorem key_ll (a b : Int) : decide ((Sum.inl a : Key) = Sum.inl b) = (a == b) := by
  by_cases e : a = b
  · subst e; simp
  · have h : ¬ (Sum.inl a : Key) = Sum.inl b := fun q => e (Sum.inl.inj q)
    rw [decide_eq_false h]
    exact (beq_eq_false_iff_ne.mpr e).symm
theorem key_rr (a b : Str) : decide ((Sum.inr a : Key) = Sum.inr b) = decide (a = b) := by
  by_cases e : a = b
  · subst e; simp
  · have h : ¬ (Sum.inr a : Key) = Sum.inr b := fun q => e (Sum.inr.inj q)
    rw [decide_eq_false h, decide_eq_false e]
theorem key_lr (a : Int) (b : Str) : decide ((Sum.inl a : Key) = Sum.inr b) = false := decide_eq_false (fun q => nomatch q)
theorem key_rl (a : Str) (b : Int) : decide ((Sum.inr a : Key) = Sum.inl b) = false := decide_eq_false (fun q => nomatch q)
def mixKind (prog : Program) (w : World) : PySem.KeyKind prog w Key where
  is := keyIs
  hash := keyH w
  inj := fun v a b ha hb => by
    rcases keyIs_shape ha with ⟨i, t, rfl, rfl⟩ | ⟨x, t, rfl, rfl⟩
    · rcases keyIs_shape hb with ⟨j, u, rfl, e⟩ | ⟨y, u, rfl, e⟩
      · injection e with e1 _; rw [e1]
      · exact nomatch e
    · rcases keyIs_shape hb with ⟨j, u, rfl, e⟩ | ⟨y, u, rfl, e⟩
      · exact nomatch e
      · injection e with e1 _; rw [e1]
  byValue := fun k v h => by
    rcases keyIs_shape h with ⟨i, t, rfl, rfl⟩ | ⟨x, t, rfl, rfl⟩ <;> rfl
  pyHash := fun hv h => by
    rcases keyIs_shape hv with ⟨i, t, rfl, rfl⟩ | ⟨x, t, rfl, rfl⟩
    · exact wpAny_pyHash_int h
    · exact wpAny_pyHash_str h
  eqBool := fun hu hv h => by
    rcases keyIs_shape hu with ⟨i, t, rfl, rfl⟩ | ⟨x, t, rfl, rfl⟩
    · rcases keyIs_shape hv with ⟨j, u, rfl, rfl⟩ | ⟨y, u, rfl, rfl⟩
      · rw [key_ll] at h; exact wpAny_eqBool_int h
      · rw [key_lr] at h; exact SeqAt.EqAt.int_str i t y u _ _ _ _ h
    · rcases keyIs_shape hv with ⟨j, u, rfl, rfl⟩ | ⟨y, u, rfl, rfl⟩
      · rw [key_rl] at h; exact SeqAt.EqAt.str_int x t j u _ _ _ _ h
      · rw [key_rr] at h; exact wpAny_eqBool_str h
  «strs» := fun k x t v h => by
    rcases keyIs_shape h with ⟨i, u, rfl, e⟩ | ⟨y, u, rfl, e⟩
    · exact nomatch e
    · injection e with e1 _
      subst e1
      cases v <;> rfl
theorem mixKind_int (prog : Program) (w : World) (i : Int) (t : Tok) : (mixKind prog w).is (.inl i) (.int i t) = true := keyIs_int i t
theorem mixKind_str (prog : Program) (w : World) (x : Str) (t : Tok) : (mixKind prog w).is (.inr x) (.str x t) = true := keyIs_str x t
end L2
namespace L2
open PySem PySem.Spec PyProof.Rows
inductive V where
  | non | bl (b : Bool) | int (i : Int) | str (x : Str) | byt (b : Array UInt8) | flt (b : UInt64) | ref (a : Addr) | ty (n : String)
  deriving DecidableEq
def RelV : V → Value → Prop
  | .non, u => u = Value.none
  | .bl b, u => u = Value.bool b
  | .int i, u => ∃ t, u = Value.int i t
  | .str x, u => ∃ t, u = Value.str x t
  | .byt b, u => ∃ t, u = Value.bytes b t
  | .flt b, u => ∃ t, u = Value.float b t
  | .ref a, u => u = Value.ref a
  | .ty n, u => u = Value.type n
abbrev Vals : List V → List Value → Prop := Paired RelV
theorem Vals.length {xs : List V} {us : List Value} (r : Vals xs us) : xs.length = us.length := Paired.length r
theorem Vals.get : ∀ {xs : List V} {us : List Value} {i : Nat} {x : V}, Vals xs us → xs[i]? = some x → ∃ u, us[i]? = some u ∧ RelV x u
  | _, _, _, _, .nil, e => by simp at e
  | _, _, 0, _, .cons r _, e => by simp at e; subst e; exact ⟨_, rfl, r⟩
  | _, _, i + 1, x, .cons _ t, e => by
    obtain ⟨u, h1, h2⟩ := Vals.get (i := i) (x := x) t (by simpa using e)
    exact ⟨u, by simpa using h1, h2⟩
theorem Vals.append : ∀ {xs ys : List V} {us ws : List Value}, Vals xs us → Vals ys ws → Vals (xs ++ ys) (us ++ ws)
  | _, _, _, _, .nil, s => s
  | _, _, _, _, .cons r t, s => .cons r (Vals.append t s)
theorem Vals.take : ∀ {xs : List V} {us : List Value} (n : Nat), Vals xs us → Vals (xs.take n) (us.take n)
  | _, _, 0, _ => .nil
  | _, _, _ + 1, .nil => .nil
  | _, _, n + 1, .cons r t => .cons r (Vals.take n t)
theorem Vals.drop : ∀ {xs : List V} {us : List Value} (n : Nat), Vals xs us → Vals (xs.drop n) (us.drop n)
  | _, _, 0, r => r
  | _, _, _ + 1, .nil => .nil
  | _, _, n + 1, .cons _ t => Vals.drop n t
def RelO : Option V → Option Value → Prop
  | some v, some u => RelV v u
  | none, none => True
  | _, _ => False
def KV {κ : Type} : List (κ × V) → List (κ × Value) → Prop := Paired fun (p : κ × V) (q : κ × Value) => p.1 = q.1 ∧ RelV p.2 q.2
def kV : Key → V
  | .inl i => .int i
  | .inr x => .str x
inductive HO where
  | lst (xs : List V)
  | tup (xs : List V)
  | dK (kvs : List (Key × V)) | dT (kvs : List (List Key × V))
  | set (S : Int → Bool) (n : Nat)
  | ins (C dx : Addr) (fs : List (Str × V))
  | own (x : Addr)
  | xd (fs : List (Str × V))
  | met (f x : Addr)
  | rng (lo hi : Int)
  | frz (o : Obj) (u : HO)
  | tbl (ps : Array Value)
  | ext (φ : Heap → Prop)
abbrev Hp := Addr → Option HO
def upd (H : Hp) (a : Addr) (o : HO) : Hp := fun b => if b = a then some o else H b
theorem upd_same {H : Hp} {a : Addr} {o : HO} : upd H a o a = some o := by unfold upd; rw [if_pos rfl]
theorem upd_ne {H : Hp} {a b : Addr} {o : HO} (h : b ≠ a) : upd H a o b = H b := by unfold upd; rw [if_neg h]
theorem ne_of {H : Hp} {a b : Addr} {o u : HO} (h : H a = some o) (h' : H b = some u) (d : o ≠ u) : a ≠ b := by
  intro e; subst e; rw [h] at h'; exact d (Option.some.inj h')
theorem ne_of_none {H : Hp} {a b : Addr} {o : HO} (h : H a = some o) (h' : H b = none) : a ≠ b := by
  intro e; subst e; rw [h] at h'; cases h'
section
variable (P : Program) (w : World)
def ObjOk (H : Hp) (h : Heap) (a : Addr) : HO → Prop
  | .lst xs => xs.length ≤ sizeLine ∧ ∃ (its : List Value) (n : Nat), Vals xs its ∧ h.get? a = some { cls := .type "list", data := .seq its.toArray n }
  | .tup xs => xs.length ≤ sizeLine ∧ ∃ its : List Value, Vals xs its ∧ IsTup h a its.toArray
  | .dK kvs => kvs.length ≤ sizeLine ∧ (a == sysModules) = false ∧ ∃ vs, KV kvs vs ∧ h.DictOf (mixKind P w) a vs
  | .dT kvs => kvs.length ≤ sizeLine ∧ (a == sysModules) = false ∧ ∃ xs : List (List Key × Addr × Value),
      Paired (fun (p : List Key × V) (q : List Key × Addr × Value) => p.1 = q.1 ∧ H q.2.1 = some (.tup (p.1.map kV)) ∧ RelV p.2 q.2.2) kvs xs ∧
      ∃ o es ep, h.get? a = some o ∧ o.ExactDict ∧ o.data = .dict es ep ∧ es.toList = xs.map (entryOfKey (tupleKind (mixKind P w))) ∧ (xs.map (·.1)).Nodup
  | .set S n => h.SetOf (intKind P w) a S n
  | .ins C dx fs => H dx = some (.own a) ∧ fs.length ≤ 1000 ∧ dx ≠ a ∧ h.get? a = some (PySem.W.instObj C dx) ∧
      ∃ mA, h.Ns1 dx mA ∧ (∀ f, RelO (fs.lookup f) (mA f)) ∧ PySem.Within mA (fs.map (·.1))
  | .own _ => ∃ o, h.get? a = some o
  | .xd fs => ∃ mA, h.Ns1 a mA ∧ ∀ f, RelO (fs.lookup f) (mA f)
  | .rng lo hi => ∃ t u v, h.get? a = some { cls := .type "range", data := .fields #[.int lo t, .int hi u, .int 1 v] }
  | .frz o u => h.get? a = some o ∧ ObjOk H h a u
  | .tbl ps => h.get? a = some { cls := .none, data := .fields ps }
  | .met f x => h.get? a = some (PySem.W.methodObj (.ref f) (.ref x))
  | .ext φ => φ h ∧ (∃ o, h.get? a = some o) ∧ ∀ h1 h2 : Heap, φ h1 → (∀ o, h1.get? a = some o → h2.get? a = some o) → φ h2
def HOk (H : Hp) (h : Heap) : Prop := ∀ a o, H a = some o → ObjOk P w H h a o
end
section
variable {P : Program} {w : World} {H H' : Hp} {h h' : Heap} {a : Addr} {o : HO}
theorem ObjOk.lt (x : ObjOk P w H h a o) : a < h.objs.size := by
  cases o with
  | lst xs => obtain ⟨_, _, _, _, e⟩ := x; exact Heap.lt_size e
  | tup xs => obtain ⟨_, _, _, p⟩ := x; exact p.lt
  | dK kvs => obtain ⟨_, _, _, _, o, _, _, e, _⟩ := x; exact Heap.lt_size e
  | dT kvs => obtain ⟨_, _, _, _, o, _, _, e, _⟩ := x; exact Heap.lt_size e
  | set S n => obtain ⟨o, _, _, _, e, _⟩ := x; exact Heap.lt_size e
  | ins C dx fs => obtain ⟨_, _, _, e, _⟩ := x; exact Heap.lt_size e
  | own y => obtain ⟨_, e⟩ := x; exact Heap.lt_size e
  | xd fs => obtain ⟨_, ⟨_, _, _, e, _⟩, _⟩ := x; exact Heap.lt_size e
  | rng lo hi => obtain ⟨_, _, _, e⟩ := x; exact Heap.lt_size e
  | frz ob u => obtain ⟨e, _⟩ := x; exact Heap.lt_size e
  | tbl ps => exact Heap.lt_size (show h.get? a = some _ from x)
  | met f y => exact Heap.lt_size (show h.get? a = some _ from x)
  | ext φ => obtain ⟨_, ⟨_, e⟩, _⟩ := x; exact Heap.lt_size e
theorem Paired.mapP {α β : Type} {F G : α → β → Prop} : ∀ {l₁ : List α} {l₂ : List β}, Paired F l₁ l₂ → (∀ a b, F a b → G a b) → Paired G l₁ l₂
  | _, _, .nil, _ => .nil
  | _, _, .cons r t, f => .cons (f _ _ r) (Paired.mapP t f)
theorem ObjOk.stay (x : ObjOk P w H h a o) (k : ∀ b u, (b = a ∨ H b = some (.own a)) → h.get? b = some u → h'.get? b = some u)
    (ho : ∀ b, H b = some (.own a) → H' b = some (.own a)) (ht : ∀ b xs, H b = some (.tup xs) → H' b = some (.tup xs)) : ObjOk P w H' h' a o := by
  induction o with
  | lst xs => obtain ⟨z, its, n, r, e⟩ := x; exact ⟨z, its, n, r, k _ _ (.inl rfl) e⟩
  | tup xs => obtain ⟨z, its, r, ob, e, c⟩ := x; exact ⟨z, its, r, ob, k _ _ (.inl rfl) e, c⟩
  | dK kvs => obtain ⟨z, y, vs, r, ob, es, ep, e, c⟩ := x; exact ⟨z, y, vs, r, ob, es, ep, k _ _ (.inl rfl) e, c⟩
  | dT kvs =>
    obtain ⟨z, y, xs, r, ob, es, ep, e, c⟩ := x
    exact ⟨z, y, xs, Paired.mapP r fun p q z => ⟨z.1, ht _ _ z.2.1, z.2.2⟩, ob, es, ep, k _ _ (.inl rfl) e, c⟩
  | set S n => obtain ⟨ob, es, ep, t, e, c⟩ := x; exact ⟨ob, es, ep, t, k _ _ (.inl rfl) e, c⟩
  | ins C dx fs =>
    obtain ⟨d, z, ne, e, mA, ⟨od, es, ep, e2, c⟩, r⟩ := x
    exact ⟨ho _ d, z, ne, k _ _ (.inl rfl) e, mA, ⟨od, es, ep, k _ _ (.inr d) e2, c⟩, r⟩
  | own y => obtain ⟨ob, e⟩ := x; exact ⟨ob, k _ _ (.inl rfl) e⟩
  | xd fs => obtain ⟨mA, ⟨od, es, ep, e, c⟩, r⟩ := x; exact ⟨mA, ⟨od, es, ep, k _ _ (.inl rfl) e, c⟩, r⟩
  | rng lo hi => obtain ⟨t, u, v, e⟩ := x; exact ⟨t, u, v, k _ _ (.inl rfl) e⟩
  | frz ob u ih => obtain ⟨e, q⟩ := x; exact ⟨k _ _ (.inl rfl) e, ih q⟩
  | tbl ps =>
    have e : h.get? a = some { cls := .none, data := .fields ps } := x
    show h'.get? a = some { cls := .none, data := .fields ps }
    exact k a _ (.inl rfl) e
  | met f y =>
    have e : h.get? a = some (PySem.W.methodObj (.ref f) (.ref y)) := x
    show h'.get? a = some (PySem.W.methodObj (.ref f) (.ref y))
    exact k a _ (.inl rfl) e
  | ext φ => obtain ⟨p, ⟨o, e⟩, st⟩ := x; exact ⟨st _ _ p fun o q => k _ _ (.inl rfl) q, ⟨o, k _ _ (.inl rfl) e⟩, st⟩
theorem HOk.lt (x : HOk P w H h) (e : H a = some o) : a < h.objs.size := (x a o e).lt
theorem HOk.fresh (x : HOk P w H h) (e : h.objs.size ≤ a) : H a = none := by
  cases q : H a with
  | none => rfl
  | some u => exact absurd (Nat.lt_of_lt_of_le (x.lt q) e) (Nat.lt_irrefl _)
theorem HOk.kept (x : HOk P w H h) (k : ∀ b u, h.get? b = some u → h'.get? b = some u) : HOk P w H h' := fun a o e =>
  (x a o e).stay (fun b u _ q => k b u q) (fun _ q => q) fun _ _ q => q
theorem HOk.laid (x : HOk P w H h) (k : ∀ b u, h.get? b = some u → h'.get? b = some u) (hp : h.objs.size ≤ a) (new : ObjOk P w (upd H a o) h' a o) : HOk P w (upd H a o) h' := fun b u e => by
  have hn := x.fresh hp
  by_cases hb : b = a
  · subst hb; rw [upd_same] at e; cases e; exact new
  · rw [upd_ne hb] at e
    exact (x b u e).stay (fun c v _ q => k c v q) (fun c q => by rw [upd_ne (ne_of_none q hn)]; exact q) fun c xs q => by rw [upd_ne (ne_of_none q hn)]; exact q
end
def Rd (H : Hp) (a : Addr) (u : HO) : Prop := H a = some u ∨ ∃ o, H a = some (.frz o u)
theorem Rd.ok {P : Program} {w : World} {H : Hp} {h : Heap} {a : Addr} {u : HO} (r : Rd H a u) (x : HOk P w H h) : ObjOk P w H h a u := by
  rcases r with r | ⟨o, r⟩
  · exact x a u r
  · obtain ⟨_, q⟩ := x a _ r
    exact q
def Mut : Option HO → Prop
  | some (.lst _) => True
  | some (.dK _) => True
  | some (.dT _) => True
  | some (.set _ _) => True
  | some (.ins _ _ _) => True
  | some (.ext _) => True
  | _ => False
section
variable {P : Program} {w : World} {H : Hp} {h h' : Heap} {x e : Addr} {o' : HO}
theorem HOk.write (ok : HOk P w H h) (mu : Mut (H x)) (he : e = x ∨ H e = some (.own x)) (k : ∀ b u, b ≠ e → h.get? b = some u → h'.get? b = some u) (heo : ∃ u, h'.get? e = some u)
    (new : ObjOk P w (upd H x o') h' x o') : HOk P w (upd H x o') h' := fun b u q => by
  have nown : ∀ c y, H c = some (.own y) → c ≠ x := fun c y r z => by subst z; rw [r] at mu; exact mu
  have ntup : ∀ c xs, H c = some (.tup xs) → c ≠ x := fun c xs r z => by subst z; rw [r] at mu; exact mu
  by_cases hb : b = x
  · subst hb; rw [upd_same] at q; cases q; exact new
  · rw [upd_ne hb] at q
    by_cases hbe : b = e
    · have q' : H b = some (.own x) := by
        rcases he with z | z
        · exact absurd (hbe.trans z) hb
        · rw [hbe]; exact z
      rw [q] at q'; cases q'
      obtain ⟨v, hv⟩ := heo
      exact ⟨v, by rw [hbe]; exact hv⟩
    · refine (ok b u q).stay (fun c v hc r => k c v ?_ r) (fun c r => by rw [upd_ne (nown c b r)]; exact r) fun c xs r => by rw [upd_ne (ntup c xs r)]; exact r
      rcases hc with rfl | hc
      · exact hbe
      · rintro rfl
        rcases he with z | z
        · exact nown c b hc z
        · rw [hc] at z; cases z; exact hb rfl
end
structure Un (fs ex : List Addr) (H H' : Hp) (h h' : Heap) : Prop where
  keep : ∀ b o, h.get? b = some o → H b = none → b ∉ fs → b ∉ ex → h'.get? b = some o
  slot : ∀ b o, h.get? b = some o → H b = none → b ∈ fs → b ∉ ex → ∃ sl, h'.get? b = some { o with slots := sl }
  free : ∀ b o, h.get? b = some o → H b = none → b ∉ ex → H' b = none
  there : ∀ b o, h.get? b = some o → b ∉ ex → ∃ o', h'.get? b = some o'
  tups : ∀ b xs, H b = some (.tup xs) → H' b = some (.tup xs)
  frzs : ∀ b o u, H b = some (.frz o u) → H' b = some (.frz o u)
  tbls : ∀ b ps, H b = some (.tbl ps) → ∃ more, H' b = some (.tbl (ps ++ more))
section
variable {fs fs' ex ex' : List Addr} {H H1 H2 : Hp} {h h1 h2 h' : Heap} {a x e : Addr} {o : HO}
theorem Un.any (u : Un fs ex H H1 h h1) {b : Addr} {ob : Obj} (q : h.get? b = some ob) (n : H b = none) (hx : b ∉ ex) : ∃ sl, h1.get? b = some { ob with slots := sl } := by
  by_cases hb : b ∈ fs
  · exact u.slot b ob q n hb hx
  · exact ⟨ob.slots, u.keep b ob q n hb hx⟩
theorem Un.kept (k : ∀ b u, h.get? b = some u → h'.get? b = some u) : Un fs ex H H h h' :=
  ⟨fun b ob q _ _ _ => k b ob q, fun b ob q _ _ _ => ⟨ob.slots, k b ob q⟩, fun _ _ _ n _ => n, fun b ob q _ => ⟨ob, k b ob q⟩, fun _ _ q => q, fun _ _ _ q => q, fun _ ps q => ⟨#[], by rw [q]; simp⟩⟩
theorem Un.refl : Un fs ex H H h h := Un.kept fun _ _ q => q
theorem Un.laid (k : ∀ b u, h.get? b = some u → h'.get? b = some u) (hp : h.objs.size ≤ a) (hn : H a = none) : Un fs ex H (upd H a o) h h' where
  keep := fun b u q _ _ _ => k b u q
  slot := fun b u q _ _ _ => ⟨u.slots, k b u q⟩
  free := fun b u q n _ => by rw [upd_ne (Nat.ne_of_lt (Nat.lt_of_lt_of_le (Heap.lt_size q) hp))]; exact n
  there := fun b u q _ => ⟨u, k b u q⟩
  tups := fun b xs q => by rw [upd_ne (ne_of_none q hn)]; exact q
  frzs := fun b u xs q => by rw [upd_ne (ne_of_none q hn)]; exact q
  tbls := fun b ps q => ⟨#[], by rw [upd_ne (ne_of_none q hn), q]; simp⟩
theorem Un.write (mu : Mut (H x)) (he : e = x ∨ H e = some (.own x)) (k : ∀ b u, b ≠ e → h.get? b = some u → h'.get? b = some u) (heo : ∃ u, h'.get? e = some u) : Un fs ex H (upd H x o) h h' := by
  have hx : ∀ b, H b = none → b ≠ x := fun b n z => by subst z; rw [n] at mu; exact mu
  have hb : ∀ b, H b = none → b ≠ e := fun b n z => by
    subst z
    rcases he with r | r
    · exact hx b n r
    · rw [n] at r; cases r
  have hm : ∀ b u, H b = some u → ¬ Mut (some u) → b ≠ x := fun b u q nm z => by subst z; rw [q] at mu; exact nm mu
  refine ⟨fun b u q n _ _ => k b u (hb b n) q, fun b u q n _ _ => ⟨u.slots, k b u (hb b n) q⟩, fun b u q n _ => by rw [upd_ne (hx b n)]; exact n, fun b u q _ => ?_,
    fun b xs q => by rw [upd_ne (hm b _ q fun z => z)]; exact q, fun b u xs q => by rw [upd_ne (hm b _ q fun z => z)]; exact q, fun b ps q => ⟨#[], by rw [upd_ne (hm b _ q fun z => z), q]; simp⟩⟩
  by_cases hbe : b = e
  · subst hbe; exact heo
  · exact ⟨u, k b u hbe q⟩
end
def trk (h : Heap) (H : Hp) : List Addr := (List.range h.objs.size).filter fun a => (H a).isSome
def hidT (h : Heap) (H : Hp) : Heap := PySem.W.hideAll h (trk h H)
theorem hidT_size (h : Heap) (H : Hp) : (hidT h H).objs.size = h.objs.size := PySem.W.hideAll_size _ _
theorem hidT_get {h : Heap} {H : Hp} {b : Addr} {o : Obj} (e : h.get? b = some o) (n : H b = none) : (hidT h H).get? b = some o :=
  PySem.W.hideAll_get _ e fun hm => by
    have q : (H b).isSome = true := (List.mem_filter.mp hm).2
    rw [n] at q; simp at q
theorem of_hidT {h : Heap} {H : Hp} {b : Addr} {o : Obj} (e : (hidT h H).get? b = some o) : h.get? b = some o ∧ H b = none := by
  have e' : h.get? b = some o := PySem.W.of_hideAll (trk h H) e
  refine ⟨e', ?_⟩
  cases q : H b with
  | none => rfl
  | some x =>
    have hm : b ∈ trk h H := List.mem_filter.mpr ⟨List.mem_range.mpr (Heap.lt_size e'), by simp [q]⟩
    have z : (hidT h H).get? b = none := PySem.W.hideAll_none (trk h H) hm
    rw [z] at e; cases e
def allNews (g h : Heap) (L : Addr) : List (Addr × Obj) := (List.range h.objs.size).filterMap fun a => if a = L ∨ (g.get? a).isSome = true then none else (h.get? a).map fun o => (a, o)
def rest (g h : Heap) (L d : Addr) : List (Addr × Obj) := (allNews g h L).filter fun p => decide (p.1 ≠ d)
end L2
namespace L2
open PySem PySem.Spec PyProof.Rows
structure Mod (K : PySem.W.Frag) (mg : Str → Option Value) (base : Heap) : Prop where
  kin : K.In base
  glob : base.Ns mainGlobals mg
  blt : ∃ mb, base.Ns builtinsNs mb ∧ ∀ x : Str, x ≠ "__name__" → mb x = bootBuiltins x
  nolimit : base.NoLimit
structure Cx where
  prog : Program
  w : World
  K : PySem.W.Frag
  mg : Str → Option Value
  base : Heap
  A : Around
  N : List Str
  s₀ : Shared
  H₀ : Hp
  env : Env
  outer : List Env
  stack : List Env
  ex : List Addr
  fn : Str → Bool
  calm : Bool
  pn : List (Addr × Obj)
  xe : Value → Shared → Prop
def frs (l : List Env) : List Addr := l.filterMap (·.frame)
abbrev Cx.fs (X : Cx) : List Addr := frs X.outer
def Vis (sc : Scope) (x : Str) : Prop := sc.names.lookup x = some .local ∨ sc.names.lookup x = some .cell ∨ sc.names.lookup x = some .free
def Loc (sc : Scope) (x : Str) : Prop := sc.names.lookup x = some .local ∨ sc.names.lookup x = some .cell
def Look (env : Env) (h : Heap) (m : Str → Option Value) (x : Str) (u : Value) : Prop :=
  (env.kindOf x = some .local ∧ m x = some u) ∨ ((env.kindOf x = some .cell ∨ env.kindOf x = some .free) ∧ ∃ c, env.cells.lookup x = some c ∧ h.IsCell c (some u))
structure Cx.Ok (X : Cx) : Prop where
  mod : Mod X.K X.mg X.base
  kind : X.env.scope.kind = .function
  glob : X.env.globals = mainGlobals
  blt : X.env.builtins = builtinsNs
  above : X.s₀.heap.objs.size ≤ X.env.locals
  inj : ∀ x y c, X.env.cells.lookup x = some c → X.env.cells.lookup y = some c → x = y
  has : ∀ x, (X.env.kindOf x = some .cell ∨ X.env.kindOf x = some .free) → ∃ c, X.env.cells.lookup x = some c
  cab : ∀ x c, X.fn x = true → X.env.cells.lookup x = some c → X.s₀.heap.objs.size ≤ c
  hd : X.calm = true → X.A.handled = none
  frames : X.A.frames = some X.stack
  stk : X.stack = X.outer ∨ (X.stack = X.env :: X.outer ∧ X.env.frame = some X.env.locals)
  exf : ∀ b ∈ X.ex, b ≠ X.env.locals ∧ ∀ x c, X.env.cells.lookup x = some c → c ≠ b
  bs : ∀ b o, X.base.get? b = some o → X.s₀.heap.get? b = some o ∧ X.H₀ b = none
  bsz : X.base.objs.size ≤ X.s₀.heap.objs.size
  noex : ∀ b o, X.base.get? b = some o → b ∉ X.ex
  exfs : ∀ b ∈ X.ex, b ∉ X.fs
  funs : X.s₀.heap.FunFrames X.base X.outer
  frf : ∀ b ∈ X.fs, X.H₀ b = none
structure Inv (X : Cx) (pins : List (Addr × Obj)) (σ : List (Option V)) (H : Hp) (s : Shared) : Prop where
  ok : X.Ok
  os : s.os = X.s₀.os
  bare : AllBare s.gens
  base : Un X.fs X.ex X.H₀ H X.s₀.heap s.heap
  loc : ∃ m, s.heap.Ns X.env.locals m ∧ ∀ (i : Nat) (x : Str) (v : V), X.N[i]? = some x → σ[i]? = some (some v) → Vis X.env.scope x → ∃ u, RelV v u ∧ Look X.env s.heap m x u
  cell : ∀ x c, X.env.cells.lookup x = some c → ∃ v, s.heap.IsCell c v
  free : H X.env.locals = none
  freeC : ∀ x c, X.env.cells.lookup x = some c → H c = none
  pin : ∀ p ∈ X.pn ++ pins, s.heap.get? p.1 = some p.2 ∧ H p.1 = none ∧ p.1 ≠ X.env.locals ∧ p.1 ∉ X.fs ∧ ∀ v, p.2.data ≠ .cell v
  hok : HOk X.prog X.w H s.heap
  len : σ.length = X.N.length
section
variable {X : Cx} {pins : List (Addr × Obj)} {σ : List (Option V)} {H H' : Hp} {s : Shared} {h' : Heap}
theorem Cx.Ok.nofr (ok : X.Ok) {b : Addr} {o : Obj} (e : X.base.get? b = some o) : b ∉ X.fs := fun hb => by
  have := (ok.funs.mem hb).1
  rw [e] at this; cases this
theorem Inv.bs (I : Inv X pins σ H s) : ∀ b o, X.base.get? b = some o → s.heap.get? b = some o ∧ H b = none := fun b o e =>
  ⟨I.base.keep b o (I.ok.bs b o e).1 (I.ok.bs b o e).2 (I.ok.nofr e) (I.ok.noex b o e), I.base.free b o (I.ok.bs b o e).1 (I.ok.bs b o e).2 (I.ok.noex b o e)⟩
theorem Inv.bk (I : Inv X pins σ H s) : ∀ b o, X.base.get? b = some o → s.heap.get? b = some o := fun b o e => (I.bs b o e).1
theorem Inv.mod (I : Inv X pins σ H s) : Mod X.K X.mg X.base := I.ok.mod
theorem Inv.kIn (I : Inv X pins σ H s) : X.K.In s.heap := I.ok.mod.kin.keeps I.bk
theorem Inv.lt (I : Inv X pins σ H s) : X.env.locals < s.heap.objs.size := let ⟨_, hn, _⟩ := I.loc; hn.lt
theorem Inv.sz (I : Inv X pins σ H s) : X.s₀.heap.objs.size ≤ s.heap.objs.size := Nat.le_trans I.ok.above (Nat.le_of_lt I.lt)
theorem Inv.nofs (I : Inv X pins σ H s) {a : Addr} (h : s.heap.objs.size ≤ a) : a ∉ X.fs := fun hb => by
  obtain ⟨_, o, ho, _⟩ := I.ok.funs.mem hb
  exact absurd (Nat.lt_of_lt_of_le (Heap.lt_size ho) (Nat.le_trans I.sz h)) (Nat.lt_irrefl _)
theorem Inv.cne (I : Inv X pins σ H s) : ∀ x c, X.env.cells.lookup x = some c → c ≠ X.env.locals := fun x c e z => by
  obtain ⟨v, o, ho, hd⟩ := I.cell x c e
  obtain ⟨m, ⟨o', es, ep, ho', hd', _⟩, _⟩ := I.loc
  rw [z, ho'] at ho; cases ho; rw [hd'] at hd; cases hd
theorem Inv.funs (I : Inv X pins σ H s) : s.heap.FunFrames X.base X.outer := by
  have all : ∀ (l : List Env), (∀ b ∈ frs l, b ∈ X.fs) → X.s₀.heap.FunFrames X.base l → s.heap.FunFrames X.base l := by
    intro l
    induction l with
    | nil => intro _ _; trivial
    | cons env r ih =>
      intro hs hl
      obtain ⟨hk, ⟨L, o, hf, hn, ho, hd⟩, hr⟩ := hl
      have hL : L ∈ X.fs := hs L (by unfold frs; rw [List.filterMap_cons, hf]; exact List.mem_cons_self)
      obtain ⟨sl, e⟩ := I.base.slot L o ho (I.ok.frf L hL) hL fun z => I.ok.exfs L z hL
      exact ⟨hk, ⟨L, _, hf, hn, e, hd⟩, ih (fun b hb => hs b (by unfold frs; rw [List.filterMap_cons, hf]; exact List.mem_cons_of_mem _ hb)) hr⟩
  exact all X.outer (fun _ hb => hb) I.ok.funs
theorem Inv.stack (I : Inv X pins σ H s) : s.heap.FunFrames X.base X.stack := by
  rcases I.ok.stk with e | ⟨e, hf⟩
  · rw [e]; exact I.funs
  · rw [e]
    obtain ⟨m, hn, _⟩ := I.loc
    refine .cons (by rw [I.ok.kind]; decide) hf hn ?_ I.funs
    exact Heap.get?_none_of_le (Nat.le_trans I.ok.bsz I.ok.above)
theorem Inv.stkSub (I : Inv X pins σ H s) : ∀ b ∈ frs X.stack, b ∈ X.env.locals :: X.fs := fun b hb => by
  rcases I.ok.stk with e | ⟨e, hf⟩
  · rw [e] at hb; exact List.mem_cons_of_mem _ hb
  · rw [e] at hb
    unfold frs at hb
    rw [List.filterMap_cons, hf] at hb
    exact hb
theorem Inv.stkFree (I : Inv X pins σ H s) : ∀ b ∈ frs X.stack, H b = none := fun b hb => by
  rcases List.mem_cons.mp (I.stkSub b hb) with e | hb
  · rw [e]; exact I.free
  · obtain ⟨_, o, ho, _⟩ := I.ok.funs.mem hb
    exact I.base.free b o ho (I.ok.frf b hb) fun z => I.ok.exfs b z hb
theorem Inv.step {g' : Array GenState} {t' : Nat} {d' : Drawn} {ch : List Addr} (I : Inv X pins σ H s)
    (hch : ∀ b ∈ ch, (b ∈ X.ex ∨ X.s₀.heap.objs.size ≤ b) ∧ b ≠ X.env.locals ∧ (∀ x c, X.env.cells.lookup x = some c → c ≠ b) ∧ ∀ p ∈ X.pn ++ pins, p.1 ≠ b)
    (keep : ∀ b o, b ≠ X.env.locals → b ∉ X.fs → b ∉ ch → s.heap.get? b = some o → H b = none → h'.get? b = some o)
    (slot : ∀ b o, b ≠ X.env.locals → b ∈ X.fs → b ∉ ch → s.heap.get? b = some o → H b = none → ∃ sl, h'.get? b = some { o with slots := sl }) (free : ∀ b o, b ∉ ch → s.heap.get? b = some o → H b = none → H' b = none)
    (there : ∀ b o, b ∉ ch → s.heap.get? b = some o → ∃ o', h'.get? b = some o')
    (tups : ∀ b xs, H b = some (.tup xs) → H' b = some (.tup xs)) (frzs : ∀ b o u, H b = some (.frz o u) → H' b = some (.frz o u)) (tbls : ∀ b ps, H b = some (.tbl ps) → ∃ more, H' b = some (.tbl (ps ++ more)))
    (ns : ∀ m, s.heap.Ns X.env.locals m → h'.Ns X.env.locals m) (hok : HOk X.prog X.w H' h') (hg : AllBare g') :
    Inv X pins σ H' { s with heap := h', gens := g', drawn := d', toks := t' } := by
  have neL : ∀ b o, X.s₀.heap.get? b = some o → b ≠ X.env.locals := fun b o e => Nat.ne_of_lt (Nat.lt_of_lt_of_le (Heap.lt_size e) I.ok.above)
  have neC : ∀ b o, X.s₀.heap.get? b = some o → b ∉ X.ex → b ∉ ch := fun b o e hx hb => by
    rcases (hch b hb).1 with z | z
    · exact hx z
    · exact absurd (Nat.lt_of_lt_of_le (Heap.lt_size e) z) (Nat.lt_irrefl _)
  have cellK : ∀ x c, X.env.cells.lookup x = some c → ∀ v, s.heap.IsCell c v → h'.IsCell c v := fun x c e v ⟨o, ho, hd⟩ => by
    have nch : c ∉ ch := fun z => (hch c z).2.2.1 x c e rfl
    by_cases hc : c ∈ X.fs
    · obtain ⟨sl, q⟩ := slot c o (I.cne x c e) hc nch ho (I.freeC x c e)
      exact ⟨_, q, hd⟩
    · exact ⟨o, keep c o (I.cne x c e) hc nch ho (I.freeC x c e), hd⟩
  refine ⟨I.ok, I.os, hg, ⟨fun b o e n hb hx => ?_, fun b o e n hb hx => ?_, fun b o e n hx => ?_, fun b o e hx => ?_, fun b xs e => tups b xs (I.base.tups b xs e), fun b o xs e => frzs b o xs (I.base.frzs b o xs e), fun b ps e => ?_⟩, ?_, fun x c e => ?_, ?_, fun x c e => ?_, fun p hp => ?_, hok, I.len⟩
  · exact keep b o (neL b o e) hb (neC b o e hx) (I.base.keep b o e n hb hx) (I.base.free b o e n hx)
  · obtain ⟨sl, e1⟩ := I.base.slot b o e n hb hx
    obtain ⟨sl', e2⟩ := slot b _ (neL b o e) hb (neC b o e hx) e1 (I.base.free b o e n hx)
    exact ⟨sl', e2⟩
  · obtain ⟨o', e1⟩ := I.base.there b o e hx
    exact free b o' (neC b o e hx) e1 (I.base.free b o e n hx)
  · obtain ⟨o', e1⟩ := I.base.there b o e hx
    exact there b o' (neC b o e hx) e1
  · obtain ⟨m1, e1⟩ := I.base.tbls b ps e
    obtain ⟨m2, e2⟩ := tbls b _ e1
    exact ⟨m1 ++ m2, by rw [e2, Array.append_assoc]⟩
  · obtain ⟨m, hn, hl⟩ := I.loc
    refine ⟨m, ns m hn, fun i x v e1 e2 e3 => ?_⟩
    obtain ⟨u, r, l⟩ := hl i x v e1 e2 e3
    refine ⟨u, r, ?_⟩
    rcases l with l | ⟨k, c, e, z⟩
    · exact .inl l
    · exact .inr ⟨k, c, e, cellK x c e _ z⟩
  · obtain ⟨v, z⟩ := I.cell x c e
    exact ⟨v, cellK x c e v z⟩
  · obtain ⟨m, ⟨o, _, _, ho, _⟩, _⟩ := I.loc
    exact free _ o (fun z => (hch _ z).2.1 rfl) ho I.free
  · obtain ⟨v, o, ho, hd⟩ := I.cell x c e
    exact free c o (fun z => (hch c z).2.2.1 x c e rfl) ho (I.freeC x c e)
  · obtain ⟨e, n, ne, nf, d⟩ := I.pin p hp
    have nch : p.1 ∉ ch := fun z => (hch p.1 z).2.2.2 p hp rfl
    exact ⟨keep p.1 p.2 ne nf nch e n, free p.1 p.2 nch e n, ne, nf, d⟩
theorem Inv.un {t' : Nat} (I : Inv X pins σ H s) (u : Un X.fs [] H H' s.heap h') (hok : HOk X.prog X.w H' h') : Inv X pins σ H' { s with heap := h', toks := t' } := by
  obtain ⟨m, ⟨o, es, ep, ho, r⟩, _⟩ := id I.loc
  obtain ⟨sl, hL⟩ := u.any ho I.free (by simp)
  exact I.step (g' := s.gens) (d' := s.drawn) (ch := []) (fun _ z => nomatch z) (fun b o _ hb _ e n => u.keep b o e n hb (by simp)) (fun b o _ hb _ e n => u.slot b o e n hb (by simp)) (fun b o _ e n => u.free b o e n (by simp)) (fun b o _ e => u.there b o e (by simp)) u.tups u.frzs u.tbls (fun m' hm => by
    obtain ⟨o', es', ep', ho', r'⟩ := hm
    rw [ho] at ho'; cases ho'
    exact ⟨_, es', ep', hL, r'⟩) hok I.bare
theorem Inv.call {g' : Array GenState} {t' : Nat} {d' : Drawn} {ch : List Addr} (I : Inv X pins σ H s) (u : Un (frs X.stack) ch H H' s.heap h') (hok : HOk X.prog X.w H' h') (hg : AllBare g')
    (hch : ∀ b ∈ ch, (b ∈ X.ex ∨ X.s₀.heap.objs.size ≤ b) ∧ b ≠ X.env.locals ∧ (∀ x c, X.env.cells.lookup x = some c → c ≠ b) ∧ ∀ p ∈ X.pn ++ pins, p.1 ≠ b) :
    Inv X pins σ H' { s with heap := h', gens := g', drawn := d', toks := t' } := by
  obtain ⟨m, ⟨o, es, ep, ho, r⟩, _⟩ := id I.loc
  obtain ⟨sl, hL⟩ := u.any ho I.free fun z => (hch _ z).2.1 rfl
  exact I.step (ch := ch) hch (fun b o hL hb hc e n => u.keep b o e n (fun z => (List.mem_cons.mp (I.stkSub b z)).elim hL hb) hc) (fun b o _ _ hc e n => u.any e n hc) (fun b o hc e n => u.free b o e n hc) (fun b o hc e => u.there b o e hc) u.tups u.frzs u.tbls (fun m' hm => by
    obtain ⟨o', es', ep', ho', r'⟩ := hm
    rw [ho] at ho'; cases ho'
    exact ⟨_, es', ep', hL, r'⟩) hok hg
theorem Inv.turned {t' : Nat} {it : Addr} (I : Inv X pins σ H s) (k : ∀ b o, b ≠ it → s.heap.get? b = some o → h'.get? b = some o) (hn : H it = none) (hL : it ≠ X.env.locals)
    (h1 : it ∈ X.ex ∨ X.s₀.heap.objs.size ≤ it) (h2 : ∀ x c, X.env.cells.lookup x = some c → c ≠ it) (h3 : ∀ p ∈ X.pn ++ pins, p.1 ≠ it) : Inv X pins σ H { s with heap := h', toks := t' } := by
  have nit : ∀ b u, H b = some u → b ≠ it := fun b u e z => by rw [z, hn] at e; cases e
  refine I.step (g' := s.gens) (d' := s.drawn) (ch := [it]) (fun b hb => ?_) (fun b o _ _ hc e _ => k b o (fun z => hc (by simp [z])) e) (fun b o _ _ hc e _ => ⟨o.slots, k b o (fun z => hc (by simp [z])) e⟩) (fun _ _ _ _ n => n)
    (fun b o hc e => ⟨o, k b o (fun z => hc (by simp [z])) e⟩) (fun _ _ e => e) (fun _ _ _ e => e) (fun b ps e => ⟨#[], by rw [e]; simp⟩) (fun m hm => ?_) (fun b u e => ?_) I.bare
  · have e : b = it := by simpa using hb
    subst e
    exact ⟨h1, hL, h2, h3⟩
  · obtain ⟨o, es, ep, ho, r⟩ := hm
    exact ⟨o, es, ep, k _ o (Ne.symm hL) ho, r⟩
  · refine (I.hok b u e).stay (fun c v hc q => k c v ?_ q) (fun _ q => q) fun _ _ q => q
    rcases hc with z | z
    · rw [z]; exact nit b u e
    · exact nit c _ z
theorem Inv.tok (I : Inv X pins σ H s) (t : Nat) : Inv X pins σ H { s with toks := t } := I.un (h' := s.heap) (t' := t) Un.refl I.hok
theorem Inv.kept {t' : Nat} (I : Inv X pins σ H s) (k : ∀ b u, s.heap.get? b = some u → h'.get? b = some u) : Inv X pins σ H { s with heap := h', toks := t' } := I.un (Un.kept k) (I.hok.kept k)
theorem Inv.laid {a : Addr} {o : HO} {t' : Nat} (I : Inv X pins σ H s) (k : ∀ b u, s.heap.get? b = some u → h'.get? b = some u) (hp : s.heap.objs.size ≤ a) (new : ObjOk X.prog X.w (upd H a o) h' a o) :
    Inv X pins σ (upd H a o) { s with heap := h', toks := t' } := I.un (Un.laid k hp (I.hok.fresh hp)) (I.hok.laid k hp new)
theorem Inv.write {x e : Addr} {o : HO} {t' : Nat} (I : Inv X pins σ H s) (mu : Mut (H x)) (he : e = x ∨ H e = some (.own x)) (k : ∀ b u, b ≠ e → s.heap.get? b = some u → h'.get? b = some u) (heo : ∃ u, h'.get? e = some u)
    (new : ObjOk X.prog X.w (upd H x o) h' x o) : Inv X pins σ (upd H x o) { s with heap := h', toks := t' } := I.un (Un.write mu he k heo) (I.hok.write mu he k heo new)
theorem Inv.pins_of {pins' : List (Addr × Obj)} (I : Inv X pins σ H s) (h : ∀ p ∈ pins', s.heap.get? p.1 = some p.2 ∧ H p.1 = none ∧ p.1 ≠ X.env.locals ∧ p.1 ∉ X.fs ∧ ∀ v, p.2.data ≠ .cell v) : Inv X pins' σ H s :=
  ⟨I.ok, I.os, I.bare, I.base, I.loc, I.cell, I.free, I.freeC, fun p hp => (List.mem_append.mp hp).elim (fun z => I.pin p (List.mem_append_left _ z)) (h p), I.hok, I.len⟩
theorem nodup_ix {N : List Str} (hN : N.Nodup) {i j : Nat} {x : Str} (a : N[i]? = some x) (b : N[j]? = some x) : i = j := by
  obtain ⟨h1, e1⟩ := List.getElem?_eq_some_iff.mp a
  obtain ⟨h2, e2⟩ := List.getElem?_eq_some_iff.mp b
  exact (List.getElem_inj hN).mp (e1.trans e2.symm)
theorem store_ok2 {M : Model} {A : Around} {E : Value → Shared → Prop} {i : Nat} {x : Str} {v : V} {u : Value} {Q : Unit → Shared → Prop} (I : Inv X pins σ H s) (hN : X.N.Nodup) (hi : X.N[i]? = some x) (hx : Loc X.env.scope x) (r : RelV v u)
    (h : ∀ s', Inv X pins (σ.set i (some v)) H s' → (∃ a, Heap.SameBut a s.heap s'.heap ∧ (a = X.env.locals ∨ X.env.cells.lookup x = some a)) → Q () s') (hf : X.fn x = true ∨ X.env.scope.names.lookup x = some .local := by first | exact .inl rfl | exact .inr rfl | assumption) : wpAny M A (storeName X.env x u) Q E s := by
  obtain ⟨m, hn, hl⟩ := id I.loc
  have hcls : (X.env.scope.kind == .class || (X.env.scope.kind == .module && X.env.locals != X.env.globals)) = false := by rw [I.ok.kind]; rfl
  have hiσ : i < σ.length := by rw [I.len]; exact (List.getElem?_eq_some_iff.mp hi).1
  have cne := I.cne
  have tracked : ∀ {a : Addr} {h' : Heap}, (∃ o, s.heap.get? a = some o ∧ H a = none) → Heap.SameBut a s.heap h' → HOk X.prog X.w H h' := fun {a h'} ha hs b ob e => by
    obtain ⟨_, _, hfree⟩ := ha
    refine (I.hok b ob e).stay (fun c w' hc q => (hs.2 c ?_).trans q) (fun _ q => q) fun _ _ q => q
    rintro rfl
    rcases hc with rfl | hc
    · rw [hfree] at e; cases e
    · rw [hfree] at hc; cases hc
  rcases hx with hk | hk
  · refine wpAny_storeName_local hk hn (fun h' hn' hs => ?_) hcls
    obtain ⟨oL, _, _, hoL, _⟩ := id hn
    refine h _ ⟨I.ok, I.os, I.bare, ⟨fun b o e n hb hx => ?_, fun b o e n hb hx => ?_, I.base.free, fun b o e hx => ?_, I.base.tups, I.base.frzs, I.base.tbls⟩, ⟨_, hn', fun j y v' e1 e2 e3 => ?_⟩, fun y c e => ?_, I.free, I.freeC, fun p hp => ?_, tracked ⟨oL, hoL, I.free⟩ hs, by simpa using I.len⟩ ⟨_, hs, .inl rfl⟩
    · exact (hs.2 b (Nat.ne_of_lt (Nat.lt_of_lt_of_le (Heap.lt_size e) I.ok.above))).trans (I.base.keep b o e n hb hx)
    · obtain ⟨sl, e1⟩ := I.base.slot b o e n hb hx
      exact ⟨sl, (hs.2 b (Nat.ne_of_lt (Nat.lt_of_lt_of_le (Heap.lt_size e) I.ok.above))).trans e1⟩
    · obtain ⟨o', e1⟩ := I.base.there b o e hx
      exact ⟨o', (hs.2 b (Nat.ne_of_lt (Nat.lt_of_lt_of_le (Heap.lt_size e) I.ok.above))).trans e1⟩
    · by_cases hj : j = i
      · subst hj
        rw [hi] at e1; cases e1
        rw [List.getElem?_set_self hiσ] at e2
        cases e2
        exact ⟨u, r, .inl ⟨hk, by simp⟩⟩
      · rw [List.getElem?_set_ne (Ne.symm hj)] at e2
        obtain ⟨u', r', q⟩ := hl j y v' e1 e2 e3
        refine ⟨u', r', ?_⟩
        rcases q with ⟨k, e⟩ | ⟨k, c, e, z⟩
        · refine .inl ⟨k, ?_⟩
          have : y ≠ x := fun e => hj (nodup_ix hN e1 (e ▸ hi))
          simp [this, e]
        · exact .inr ⟨k, c, e, z.sameBut hs (cne y c e)⟩
    · obtain ⟨w', z⟩ := I.cell y c e
      exact ⟨w', z.sameBut hs (cne y c e)⟩
    · obtain ⟨e, n, ne, nf, d⟩ := I.pin p hp
      exact ⟨(hs.2 p.1 ne).trans e, n, ne, nf, d⟩
  · have hfn : X.fn x = true := by
      rcases hf with z | z
      · exact z
      · rw [z] at hk; cases hk
    obtain ⟨c, hc⟩ := I.ok.has x (.inl hk)
    obtain ⟨w', z⟩ := I.cell x c hc
    refine wpAny_storeName_cell I.ok.kind hk hc z (fun h' hc' hs => ?_)
    obtain ⟨oc, hoc, hocd⟩ := id z
    refine h { s with heap := h' } ⟨I.ok, I.os, I.bare, ⟨fun b o e n hb hx => ?_, fun b o e n hb hx => ?_, I.base.free, fun b o e hx => ?_, I.base.tups, I.base.frzs, I.base.tbls⟩, ⟨m, hn.sameBut hs (Ne.symm (cne x c hc)), fun j y v' e1 e2 e3 => ?_⟩, fun y c' e => ?_, I.free, I.freeC, fun p hp => ?_, tracked ⟨oc, hoc, I.freeC x c hc⟩ hs, by simpa using I.len⟩ ⟨c, hs, .inr hc⟩
    · exact (hs.2 b (Nat.ne_of_lt (Nat.lt_of_lt_of_le (Heap.lt_size e) (I.ok.cab x c hfn hc)))).trans (I.base.keep b o e n hb hx)
    · obtain ⟨sl, e1⟩ := I.base.slot b o e n hb hx
      exact ⟨sl, (hs.2 b (Nat.ne_of_lt (Nat.lt_of_lt_of_le (Heap.lt_size e) (I.ok.cab x c hfn hc)))).trans e1⟩
    · obtain ⟨o', e1⟩ := I.base.there b o e hx
      exact ⟨o', (hs.2 b (Nat.ne_of_lt (Nat.lt_of_lt_of_le (Heap.lt_size e) (I.ok.cab x c hfn hc)))).trans e1⟩
    · by_cases hj : j = i
      · subst hj
        rw [hi] at e1; cases e1
        rw [List.getElem?_set_self hiσ] at e2
        cases e2
        exact ⟨u, r, .inr ⟨.inl hk, c, hc, hc'⟩⟩
      · rw [List.getElem?_set_ne (Ne.symm hj)] at e2
        obtain ⟨u', r', q⟩ := hl j y v' e1 e2 e3
        refine ⟨u', r', ?_⟩
        rcases q with q | ⟨k, c', e, z'⟩
        · exact .inl q
        · refine .inr ⟨k, c', e, z'.sameBut hs ?_⟩
          rintro rfl
          exact hj (nodup_ix hN e1 (I.ok.inj _ _ _ e hc ▸ hi))
    · by_cases hcc : c' = c
      · subst hcc; exact ⟨_, hc'⟩
      · obtain ⟨w2, z2⟩ := I.cell y c' e
        exact ⟨w2, z2.sameBut hs hcc⟩
    · obtain ⟨e, n, ne, nf, d⟩ := I.pin p hp
      refine ⟨(hs.2 p.1 ?_).trans e, n, ne, nf, d⟩
      intro q
      rw [q, hoc] at e
      have q' : oc = p.2 := Option.some.inj e
      exact d w' (by rw [← q']; exact hocd)
theorem store_ok {M : Model} {A : Around} {E : Value → Shared → Prop} {i : Nat} {x : Str} {v : V} {u : Value} {Q : Unit → Shared → Prop} (I : Inv X pins σ H s) (hN : X.N.Nodup) (hi : X.N[i]? = some x) (hx : Loc X.env.scope x) (r : RelV v u)
    (h : ∀ s', Inv X pins (σ.set i (some v)) H s' → Q () s') (hf : X.fn x = true ∨ X.env.scope.names.lookup x = some .local := by first | exact .inl rfl | exact .inr rfl | assumption) : wpAny M A (storeName X.env x u) Q E s :=
  store_ok2 I hN hi hx r (fun s' I' _ => h s' I') hf
theorem Inv.call' {s' : Shared} {ch : List Addr} (I : Inv X pins σ H s) (ho : s'.os = s.os) (u : Un (frs X.stack) ch H H' s.heap s'.heap) (hok : HOk X.prog X.w H' s'.heap) (hg : AllBare s'.gens)
    (hch : ∀ b ∈ ch, (b ∈ X.ex ∨ X.s₀.heap.objs.size ≤ b) ∧ b ≠ X.env.locals ∧ (∀ x c, X.env.cells.lookup x = some c → c ≠ b) ∧ ∀ p ∈ X.pn ++ pins, p.1 ≠ b) : Inv X pins σ H' s' := by
  obtain ⟨h', g', d', t', o'⟩ := s'
  have e : o' = s.os := ho
  subst e
  exact I.call (g' := g') (t' := t') (d' := d') u hok hg hch
end
abbrev XK := Value → Option Addr → Hp → Prop
abbrev St := List (Option V)
abbrev VK := V → Hp → Prop
abbrev TE := St → Hp → VK → Prop
abbrev TT := St → Hp → (Bool → Hp → Prop) → Prop
abbrev TA := St → Hp → (List V → Hp → Prop) → Prop
structure Ends where
  nx : St → Hp → Prop
  rt : VK
  bk : St → Hp → Prop := fun _ _ => False
  ct : St → Hp → Prop := fun _ _ => False
abbrev TS := Ends → St → Hp → Prop
def EP (X : Cx) (pins : List (Addr × Obj)) (σ : St) (Q : VK) (u : Value) (s' : Shared) : Prop := ∃ v H', Inv X pins σ H' s' ∧ RelV v u ∧ Q v H'
def TP (X : Cx) (pins : List (Addr × Obj)) (σ : St) (Q : Bool → Hp → Prop) (b : Bool) (s' : Shared) : Prop := ∃ H', Inv X pins σ H' s' ∧ Q b H'
def AP (X : Cx) (pins : List (Addr × Obj)) (σ : St) (Q : List V → Hp → Prop) (us : List Value) (s' : Shared) : Prop := ∃ vs H', Inv X pins σ H' s' ∧ Vals vs us ∧ Q vs H'
def SP (X : Cx) (pins : List (Addr × Obj)) (D : Ends) (f : Flow) (s' : Shared) : Prop :=
  match f with
  | .next => ∃ σ' H', Inv X pins σ' H' s' ∧ D.nx σ' H'
  | .brk => ∃ σ' H', Inv X pins σ' H' s' ∧ D.bk σ' H'
  | .cont => ∃ σ' H', Inv X pins σ' H' s' ∧ D.ct σ' H'
  | .ret u => ∃ v σ' H', Inv X pins σ' H' s' ∧ RelV v u ∧ D.rt v H'
def PE (X : Cx) (e : Expr) (t : TE) : Prop :=
  ∀ (pins : List (Addr × Obj)) (s : Shared) (σ : St) (H : Hp) (Q : VK), Inv X pins σ H s → t σ H Q → wpAny (model X.prog X.w) X.A (eval e X.env) (EP X pins σ Q) X.xe s
def PT (X : Cx) (e : Expr) (t : TT) : Prop :=
  ∀ (pins : List (Addr × Obj)) (s : Shared) (σ : St) (H : Hp) (Q : Bool → Hp → Prop), Inv X pins σ H s → t σ H Q → wpAny (model X.prog X.w) X.A (isTrue e X.env (eval e X.env)) (TP X pins σ Q) X.xe s
def PW (X : Cx) (e : Expr) (t : TT) : Prop :=
  ∀ (whole : Sem Value) (pins : List (Addr × Obj)) (s : Shared) (σ : St) (H : Hp) (Q : Bool → Hp → Prop), Inv X pins σ H s → t σ H Q → wpAny (model X.prog X.w) X.A (isTrue e X.env whole) (TP X pins σ Q) X.xe s
theorem PW.pt {X : Cx} {e : Expr} {t : TT} (h : PW X e t) : PT X e t := h _
def PA (X : Cx) (es : List Expr) (t : TA) : Prop :=
  ∀ (pos : Pos) (pins : List (Addr × Obj)) (s : Shared) (σ : St) (H : Hp) (Q : List V → Hp → Prop), Inv X pins σ H s → t σ H Q → wpAny (model X.prog X.w) X.A (spliced (backTo pos (starEach es X.env))) (AP X pins σ Q) X.xe s
def PS (X : Cx) (st : Stmt) (t : TS) : Prop :=
  ∀ (pins : List (Addr × Obj)) (s : Shared) (σ : St) (H : Hp) (D : Ends), Inv X pins σ H s → t D σ H → wpAny (model X.prog X.w) X.A (exec st X.env) (SP X pins D) X.xe s
def PSs (X : Cx) (st : List Stmt) (t : TS) : Prop :=
  ∀ (pins : List (Addr × Obj)) (s : Shared) (σ : St) (H : Hp) (D : Ends), Inv X pins σ H s → t D σ H → wpAny (model X.prog X.w) X.A (execs st X.env) (SP X pins D) X.xe s
theorem thn {α : Type} {t : Sem α} {Q Q' : α → Shared → Prop} {M : Model} {A : Around} {E : Value → Shared → Prop} {s : Shared} (h : wpAny M A t Q E s) (hQ : ∀ a s, Q a s → Q' a s) : wpAny M A t Q' E s := wpAny_mono h hQ fun _ _ x => x
end L2
namespace L2
open PySem PySem.Spec PyProof.Rows
section
variable {X : Cx}
theorem bin {a b : Expr} {ta tb : TE} (ha : PE X a ta) (hb : PE X b tb) {pins : List (Addr × Obj)} {s : Shared} {σ : St} {H : Hp} {R : V → V → Hp → Prop} (I : Inv X pins σ H s) (h : ta σ H fun x H1 => tb σ H1 fun y H2 => R x y H2)
    {α : Type} {Q : α → Shared → Prop} {f : Value → Value → Sem α}
    (hf : ∀ v u s2 x y H2, Inv X pins σ H2 s2 → RelV x v → RelV y u → R x y H2 → wpAny (model X.prog X.w) X.A (f v u) Q X.xe s2) :
    wpAny (model X.prog X.w) X.A (eval a X.env) (fun v s₁ => wpAny (model X.prog X.w) X.A (eval b X.env) (fun u s₂ => wpAny (model X.prog X.w) X.A (f v u) Q X.xe s₂) X.xe s₁) X.xe s := by
  refine thn (ha pins s σ H _ I h) fun v s1 ⟨x, H1, I1, r1, q1⟩ => ?_
  refine thn (hb pins s1 σ H1 _ I1 q1) fun u s2 ⟨y, H2, I2, r2, q2⟩ => ?_
  exact hf v u s2 x y H2 I2 r1 r2 q2
def tVar (i : Nat) : TE := fun σ H Q => ∃ v, σ[i]? = some (some v) ∧ Q v H
def tC (v : V) : TE := fun _ H Q => Q v H
theorem pe_var {i : Nat} {x : Str} {pos : Pos} (hN : X.N[i]? = some x) (hv : Vis X.env.scope x) (hd : (x == ("__debug__" : Str)) = false := by decide) (hcd : (x == ("__classdict__" : Str)) = false := by decide) : PE X (.Name x pos) (tVar i) := by
  intro pins s σ H Q I h
  obtain ⟨v, e, h⟩ := h
  obtain ⟨m, hn, hl⟩ := I.loc
  obtain ⟨u, r, l⟩ := hl i x v hN e hv
  have fin : EP X pins σ Q u s := ⟨v, H, I, r, h⟩
  rcases l with ⟨hk, hm⟩ | ⟨hk, c, hc, hcell⟩
  · exact wpAny_Name (wpAny_loadName_local I.ok.kind hk hn hm fin) hd
  · rcases hk with hk | hk
    · exact wpAny_Name (wpAny_loadName_cell I.ok.kind hk hc hcell fin) hd
    · exact wpAny_Name (wpAny_loadName_free I.ok.kind hk hc hcell fin hcd) hd
theorem pe_int {i j pos} : PE X (.Constant (.int i) j pos) (tC (.int i)) := fun _ _ _ H _ I h => wpAny_Constant_int ⟨.int i, H, I.tok _, ⟨_, rfl⟩, h⟩
theorem pe_bl {b j pos} : PE X (.Constant (.bool b) j pos) (tC (.bl b)) := fun _ _ _ H _ I h => Constant_bool ⟨.bl b, H, I, rfl, h⟩
theorem pe_non {j pos} : PE X (.Constant .none j pos) (tC .non) := fun _ _ _ H _ I h => Constant_none ⟨.non, H, I, rfl, h⟩
theorem pe_str {x j pos} : PE X (.Constant (.str x) j pos) (tC (.str x)) := fun _ _ _ H _ I h => Calls.Constant_str ⟨.str x, H, I.tok _, ⟨_, rfl⟩, h⟩
def Gl (X : Cx) (x : Str) : Prop := X.env.kindOf x = some .globalImplicit
theorem ld_glob {E : Value → Shared → Prop} {pins : List (Addr × Obj)} {s : Shared} {σ : St} {H : Hp} {x : Str} {u : Value} {pos : Pos} {Q : Value → Shared → Prop} (I : Inv X pins σ H s) (hg : Gl X x) (hm : X.mg x = some u) (h : Q u s)
    (hd : (x == ("__debug__" : Str)) = false := by decide) : wpAny (model X.prog X.w) X.A (eval (.Name x pos) X.env) Q E s :=
  Calls.Name_function_global I.ok.kind hg (Calls.loadGlobal_global (by rw [I.ok.glob]; exact I.mod.glob.keeps I.bk) hm h) hd
theorem ld_blt {E : Value → Shared → Prop} {pins : List (Addr × Obj)} {s : Shared} {σ : St} {H : Hp} {x : Str} {u : Value} {pos : Pos} {Q : Value → Shared → Prop} (I : Inv X pins σ H s) (hg : Gl X x) (hm : X.mg x = none) (hv : bootBuiltins x = some u) (h : Q u s)
    (hn : x ≠ "__name__" := by decide) (hd : (x == ("__debug__" : Str)) = false := by decide) : wpAny (model X.prog X.w) X.A (eval (.Name x pos) X.env) Q E s := by
  obtain ⟨mb, h1, h2⟩ := I.mod.blt
  exact Calls.Name_function_global I.ok.kind hg (Calls.loadGlobal_builtin (by rw [I.ok.glob]; exact I.mod.glob.keeps I.bk) hm (by rw [I.ok.blt]; exact h1.keeps I.bk) ((h2 x hn).trans hv) h) hd
theorem pe_glob {x : Str} {v : V} {u : Value} {pos : Pos} (hg : Gl X x) (hm : X.mg x = some u) (r : RelV v u) (hd : (x == ("__debug__" : Str)) = false := by decide) : PE X (.Name x pos) (tC v) :=
  fun _ _ _ H _ I h => ld_glob I hg hm ⟨v, H, I, r, h⟩ hd
theorem pe_bltn {x : Str} {v : V} {u : Value} {pos : Pos} (hg : Gl X x) (hm : X.mg x = none) (hv : bootBuiltins x = some u) (r : RelV v u) (hn : x ≠ "__name__" := by decide) (hd : (x == ("__debug__" : Str)) = false := by decide) : PE X (.Name x pos) (tC v) :=
  fun _ _ _ H _ I h => ld_blt I hg hm hv ⟨v, H, I, r, h⟩ hn hd
variable {a b : Expr} {ta tb : TE} {pos : Pos}
def PC (X : Cx) (op : CmpOp) (a b : Expr) (t : TE) : Prop :=
  ∀ (pins : List (Addr × Obj)) (s : Shared) (σ : St) (H : Hp) (Q : VK), Inv X pins σ H s → t σ H Q →
    wpAny (model X.prog X.w) X.A (eval a X.env) (fun v s₁ => wpAny (model X.prog X.w) X.A (eval b X.env) (fun u s₂ => wpAny (model X.prog X.w) X.A (compareOp op v u) (EP X pins σ Q) X.xe s₂) X.xe s₁) X.xe s
def tB (t : TE) : TT := fun σ H Q => t σ H fun x H1 => ∃ c, x = .bl c ∧ Q c H1
theorem pt_cmp {op : CmpOp} {t : TE} (h : PC X op a b t) (h1 : behindInMarks op b = false := by first | exact nobehind _ (by decide) (by decide) | rfl) : PT X (.Compare a [op] [b] pos) (tB t) := by
  intro pins s σ H Q I hw
  refine wpAny_isTrue_Compare1 (thn (h pins s σ H _ I hw) fun v s1 h1 => thn h1 fun u s2 h2 => thn h2 fun c s3 ⟨x, H1, I1, r1, q1⟩ => ?_) h1
  obtain ⟨d, rfl, q⟩ := q1
  cases r1
  exact wpAny_truthy_bool ⟨H1, I1, q⟩
theorem pt_val {e : Expr} {t : TE} (h : PE X e t) (he : ∀ whole, isTrue e X.env whole = (do let v ← whole; standAt e.pos; holding [v] (truthy v)) := by intro _; rfl) : PT X e (tB t) := by
  intro pins s σ H Q I hw
  refine isTrue_plain (thn (h pins s σ H _ I hw) fun v s1 ⟨x, H1, I1, r1, q1⟩ => ?_) (he _)
  obtain ⟨d, rfl, q⟩ := q1
  cases r1
  exact wpAny_truthy_bool ⟨H1, I1, q⟩
variable {tA tB' : TT} {rest : List Expr}
def tAnd (t u : TT) : TT := fun σ H Q => t σ H fun c H1 => if c = true then u σ H1 Q else Q false H1
def tOr (t u : TT) : TT := fun σ H Q => t σ H fun c H1 => if c = true then Q true H1 else u σ H1 Q
def tNot (t : TT) : TT := fun σ H Q => t σ H fun c H1 => Q (!c) H1
theorem pw_and1 (ha : PT X a tA) : PW X (.BoolOp .And [a] pos) tA := by
  intro wh pins s σ H Q I h
  refine isTrue_and (thn (ha pins s σ H Q I h) fun c s1 e => ?_)
  cases c with
  | true => exact isTrue_and_nil e
  | false => exact e
theorem pw_or1 (ha : PT X a tA) : PW X (.BoolOp .Or [a] pos) tA := by
  intro wh pins s σ H Q I h
  refine isTrue_or (thn (ha pins s σ H Q I h) fun c s1 e => ?_)
  cases c with
  | false => exact isTrue_or_nil e
  | true => exact e
theorem pw_and (ha : PT X a tA) (hb : PW X (.BoolOp .And (b :: rest) pos) tB') : PW X (.BoolOp .And (a :: b :: rest) pos) (tAnd tA tB') := by
  intro wh pins s σ H Q I h
  refine isTrue_and (thn (ha pins s σ H _ I h) fun c s1 ⟨H1, I1, q1⟩ => ?_)
  cases c with
  | true => exact hb wh pins s1 σ H1 Q I1 q1
  | false => exact ⟨H1, I1, q1⟩
theorem pw_or (ha : PT X a tA) (hb : PW X (.BoolOp .Or (b :: rest) pos) tB') : PW X (.BoolOp .Or (a :: b :: rest) pos) (tOr tA tB') := by
  intro wh pins s σ H Q I h
  refine isTrue_or (thn (ha pins s σ H _ I h) fun c s1 ⟨H1, I1, q1⟩ => ?_)
  cases c with
  | true => exact ⟨H1, I1, q1⟩
  | false => exact hb wh pins s1 σ H1 Q I1 q1
theorem pt_not (ha : PT X a tA) : PT X (.UnaryOp .Not a pos) (tNot tA) := by
  intro pins s σ H Q I h
  exact isTrue_not (ha pins s σ H (fun c H1 => Q (!c) H1) I h)
def tAndV (ta tb : TE) : TE := fun σ H Q => ta σ H fun x H1 => ∃ c, x = .bl c ∧ if c = true then tb σ H1 Q else Q (.bl false) H1
def tNotV (ta : TE) : TE := fun σ H Q => ta σ H fun x H1 => ∃ c, x = .bl c ∧ Q (.bl (!c)) H1
theorem pe_one {op} {t : TE} (h : PE X a t) : PE X (.BoolOp op [a] pos) t := fun pins s σ H Q I hw => BoolOp_one (h pins s σ H Q I hw)
theorem pe_and (ha : PE X a ta) (hb : PE X (.BoolOp .And (b :: rest) pos) tb) : PE X (.BoolOp .And (a :: b :: rest) pos) (tAndV ta tb) := by
  intro pins s σ H Q I h
  refine BoolOp_and (thn (ha pins s σ H _ I h) fun v s1 ⟨x, H1, I1, r1, q1⟩ => ?_)
  obtain ⟨c, rfl, q1⟩ := q1
  cases r1
  refine wpAny_truthy_bool ?_
  cases c with
  | true => exact hb pins s1 σ H1 Q I1 q1
  | false => exact ⟨.bl false, H1, I1, rfl, q1⟩
theorem pe_not (ha : PE X a ta) : PE X (.UnaryOp .Not a pos) (tNotV ta) := by
  intro pins s σ H Q I h
  refine UnaryOp_ (thn (ha pins s σ H _ I h) fun v s1 ⟨x, H1, I1, r1, q1⟩ => ?_)
  obtain ⟨c, rfl, q1⟩ := q1
  cases r1
  exact not_of (wpAny_truthy_bool ⟨.bl (!c), H1, I1, rfl, q1⟩)
def tIf (t : TT) (ta tb : TE) : TE := fun σ H Q => t σ H fun c H1 => if c = true then ta σ H1 Q else tb σ H1 Q
theorem pe_ifExp {c : Expr} (hc : PT X c tA) (ha : PE X a ta) (hb : PE X b tb) : PE X (.IfExp c a b pos) (tIf tA ta tb) := by
  intro pins s σ H Q I h
  refine wpAny_IfExp (thn (hc pins s σ H _ I h) fun d s1 ⟨H1, I1, q1⟩ => ?_)
  cases d with
  | true => exact ha pins s1 σ H1 Q I1 q1
  | false => exact hb pins s1 σ H1 Q I1 q1
end
end L2
namespace L2
open PySem PySem.Spec PyProof.Rows
def SqL (K : PySem.W.Frag) (H : Hp) (a : Addr) (xs : List V) : Prop :=
  Rd H a (.lst xs) ∨
    ∃ (o : Obj) (its : Array Value) (n : Nat), K.lookup a = some o ∧ o.cls = .type "list" ∧ o.dict = none ∧ o.data = .seq its n ∧ its.size ≤ sizeLine ∧ Vals xs its.toList
def SqT (K : PySem.W.Frag) (H : Hp) (a : Addr) (xs : List V) : Prop :=
  Rd H a (.tup xs) ∨
    ∃ (o : Obj) (its : Array Value) (n : Nat), K.lookup a = some o ∧ o.cls = .type "tuple" ∧ o.data = .seq its n ∧ its.size ≤ sizeLine ∧ Vals xs its.toList
def absV : Value → Option V
  | .none => some .non
  | .bool b => some (.bl b)
  | .int i _ => some (.int i)
  | .str x _ => some (.str x)
  | .bytes b _ => some (.byt b)
  | .float b _ => some (.flt b)
  | .ref a => some (.ref a)
  | .type n => some (.ty n)
  | _ => none
theorem RelV.abs {x : V} {u : Value} (r : RelV x u) : absV u = some x := by
  cases x with
  | non => cases r; rfl
  | bl _ => cases r; rfl
  | int _ => obtain ⟨t, rfl⟩ := r; rfl
  | str _ => obtain ⟨t, rfl⟩ := r; rfl
  | byt _ => obtain ⟨t, rfl⟩ := r; rfl
  | flt _ => obtain ⟨t, rfl⟩ := r; rfl
  | ref _ => cases r; rfl
  | ty _ => cases r; rfl
theorem RelV.inj {x y : V} {u : Value} (r : RelV x u) (q : RelV y u) : x = y := Option.some.inj (r.abs.symm.trans q.abs)
theorem Vals.inj : ∀ {xs ys : List V} {us : List Value}, Vals xs us → Vals ys us → xs = ys
  | _, _, _, .nil, .nil => rfl
  | _, _, _, .cons r t, .cons r' t' => by rw [r.inj r', Vals.inj t t']
section
variable {X : Cx} {pins : List (Addr × Obj)} {σ : St} {H : Hp} {s : Shared} {a : Addr} {xs ys : List V}
theorem SqL.of {K : PySem.W.Frag} (h : H a = some (.lst xs)) : SqL K H a xs := .inl (.inl h)
theorem SqT.of {K : PySem.W.Frag} (h : H a = some (.tup xs)) : SqT K H a xs := .inl (.inl h)
theorem Inv.list (I : Inv X pins σ H s) (h : SqL X.K H a xs) : ∃ its : List Value, Vals xs its ∧ PlainL s.heap a its.toArray ∧ xs.length ≤ sizeLine := by
  rcases h with h | ⟨o, its, n, hk, hc, hd, hs, hz, r⟩
  · obtain ⟨z, its, n, r, e⟩ := h.ok I.hok
    exact ⟨its, r, ⟨_, n, e, rfl, rfl, rfl⟩, z⟩
  · refine ⟨its.toList, r, ⟨o, n, I.kIn a o hk, hc, hd, by simpa using hs⟩, ?_⟩
    have e := r.length
    simp only [Array.length_toList] at e
    omega
theorem Inv.tuple (I : Inv X pins σ H s) (h : SqT X.K H a xs) : ∃ its : List Value, Vals xs its ∧ IsTup s.heap a its.toArray ∧ xs.length ≤ sizeLine := by
  rcases h with h | ⟨o, its, n, hk, hc, hs, hz, r⟩
  · obtain ⟨z, its, r, p⟩ := h.ok I.hok
    exact ⟨its, r, p, z⟩
  · refine ⟨its.toList, r, ⟨o, I.kIn a o hk, hc, n, by simpa using hs⟩, ?_⟩
    have e := r.length
    simp only [Array.length_toList] at e
    omega
theorem Inv.list_inj (I : Inv X pins σ H s) (h : SqL X.K H a xs) (h' : SqL X.K H a ys) : xs = ys := by
  obtain ⟨its, r, ⟨o, n, e, _, _, d⟩, _⟩ := I.list h
  obtain ⟨its', r', ⟨o', n', e', _, _, d'⟩, _⟩ := I.list h'
  rw [e] at e'; cases e'
  rw [d] at d'
  injection d' with d1 _
  have : its = its' := by simpa using congrArg Array.toList d1
  subst this
  exact r.inj r'
theorem Inv.tuple_inj (I : Inv X pins σ H s) (h : SqT X.K H a xs) (h' : SqT X.K H a ys) : xs = ys := by
  obtain ⟨its, r, ⟨o, e, _, n, d⟩, _⟩ := I.tuple h
  obtain ⟨its', r', ⟨o', e', _, n', d'⟩, _⟩ := I.tuple h'
  rw [e] at e'; cases e'
  rw [d] at d'
  injection d' with d1 _
  have : its = its' := by simpa using congrArg Array.toList d1
  subst this
  exact r.inj r'
end
abbrev Cx.wish (X : Cx) (E : Value → Shared → Prop) : Cx := { X with xe := E }
abbrev Cx.nox (X : Cx) : Cx := X.wish fun _ _ => False
theorem Cx.Ok.wish {X : Cx} (ok : X.Ok) (E : Value → Shared → Prop) : (X.wish E).Ok :=
  ⟨ok.mod, ok.kind, ok.glob, ok.blt, ok.above, ok.inj, ok.has, ok.cab, ok.hd, ok.frames, ok.stk, ok.exf, ok.bs, ok.bsz, ok.noex, ok.exfs, ok.funs, ok.frf⟩
theorem Cx.Ok.unwish {X : Cx} {E : Value → Shared → Prop} (ok : (X.wish E).Ok) : X.Ok :=
  ⟨ok.mod, ok.kind, ok.glob, ok.blt, ok.above, ok.inj, ok.has, ok.cab, ok.hd, ok.frames, ok.stk, ok.exf, ok.bs, ok.bsz, ok.noex, ok.exfs, ok.funs, ok.frf⟩
section
variable {X : Cx} {pins : List (Addr × Obj)} {σ : St} {H : Hp} {s : Shared} {E : Value → Shared → Prop}
theorem Inv.wish (I : Inv X pins σ H s) (E : Value → Shared → Prop) : Inv (X.wish E) pins σ H s := ⟨I.ok.wish E, I.os, I.bare, I.base, I.loc, I.cell, I.free, I.freeC, I.pin, I.hok, I.len⟩
theorem Inv.unwish (I : Inv (X.wish E) pins σ H s) : Inv X pins σ H s := ⟨I.ok.unwish, I.os, I.bare, I.base, I.loc, I.cell, I.free, I.freeC, I.pin, I.hok, I.len⟩
theorem SP.unwish {D : Ends} {f : Flow} {s' : Shared} (h : SP (X.wish E) pins D f s') : SP X pins D f s' := by
  cases f with
  | next => obtain ⟨σ', H', I, q⟩ := h; exact ⟨σ', H', I.unwish, q⟩
  | brk => obtain ⟨σ', H', I, q⟩ := h; exact ⟨σ', H', I.unwish, q⟩
  | cont => obtain ⟨σ', H', I, q⟩ := h; exact ⟨σ', H', I.unwish, q⟩
  | ret u => obtain ⟨v, σ', H', I, r, q⟩ := h; exact ⟨v, σ', H', I.unwish, r, q⟩
theorem PSs.nox {st : List Stmt} {t : TS} (h : PSs X.nox st t) : PSs X st t := fun pins s σ H D I hw =>
  wpAny_mono (h pins s σ H D (I.wish _) hw) (fun _ _ q => q.unwish) fun _ _ z => False.elim z
end
section
variable {X : Cx} {st : Stmt} {rest : List Stmt} {t u : TS} {e : Expr} {te : TE} {pos : Pos}
def tNext : TS := fun D σ H => D.nx σ H
def tSeq (t u : TS) : TS := fun D σ H => t { D with nx := u D } σ H
theorem pss_nil : PSs X [] tNext := fun _ _ σ H _ I h => wpAny_execs_nil ⟨σ, H, I, h⟩
theorem pss_cons (h1 : PS X st t) (h2 : PSs X rest u) : PSs X (st :: rest) (tSeq t u) := by
  intro pins s σ H D I h
  refine wpAny_execs_cons (thn (h1 pins s σ H { D with nx := u D } I h) fun f s1 q => ?_)
  cases f with
  | next =>
    obtain ⟨σ', H', I', q⟩ := q
    exact h2 pins s1 σ' H' D I' q
  | ret v => exact q
  | brk => exact q
  | cont => exact q
theorem pss_one (h1 : PS X st t) : PSs X [st] t := by
  intro pins s σ H D I h
  refine wpAny_execs_cons (thn (h1 pins s σ H D I h) fun f s1 q => ?_)
  cases f with
  | next => exact wpAny_execs_nil q
  | ret v => exact q
  | brk => exact q
  | cont => exact q
theorem Inv.quiet {pins : List (Addr × Obj)} {σ : St} {H : Hp} {s : Shared} (I : Inv X pins σ H s) : interactive X.env = false := by simp [interactive, I.ok.kind]
def tDrop (te : TE) : TS := fun D σ H => te σ H fun _ H1 => D.nx σ H1
theorem ps_expr (he : PE X e te) (hs : swapsWith e none pos.line X.env = pure false := by rfl) : PS X (.Expr e pos) (tDrop te) := by
  intro pins s σ H D I h
  exact wpAny_Expr_any (thn (he pins s σ H _ I h) fun v s1 ⟨x, H1, I1, r1, q1⟩ => ⟨σ, H1, I1, q1⟩) I.quiet hs
def tRet (te : TE) : TS := fun D σ H => te σ H D.rt
theorem ps_ret (he : PE X e te) : PS X (.Return (some e) pos) (tRet te) := by
  intro pins s σ H D I h
  exact wpAny_Return_some (thn (he pins s σ H _ I h) fun v s1 ⟨x, H1, I1, r1, q1⟩ => ⟨x, σ, H1, I1, r1, q1⟩)
def tIfS (c : TT) (t u : TS) : TS := fun D σ H => c σ H fun b H1 => if b = true then t D σ H1 else u D σ H1
theorem ps_if {c : Expr} {a b : List Stmt} {tc : TT} (hc : PT X c tc) (ha : PSs X a t) (hb : PSs X b u) : PS X (.If c a b pos) (tIfS tc t u) := by
  intro pins s σ H D I h
  refine wpAny_If (thn (hc pins s σ H _ I h) fun d s1 ⟨H1, I1, q1⟩ => ?_)
  cases d with
  | true => exact ha pins s1 σ H1 D I1 q1
  | false => exact hb pins s1 σ H1 D I1 q1
def tNever : TS := fun _ _ _ => False
theorem ps_never : PS X st tNever := fun _ _ _ _ _ _ h => h.elim
end
abbrev TG := V → St → Hp → (St → Hp → Prop) → Prop
abbrev TGs := List V → St → Hp → (St → Hp → Prop) → Prop
def PG (X : Cx) (target : Expr) (t : TG) : Prop :=
  ∀ (pins : List (Addr × Obj)) (s : Shared) (σ : St) (H : Hp) (v : V) (u : Value) (Q : St → Hp → Prop), Inv X pins σ H s → RelV v u → t v σ H Q →
    wpAny (model X.prog X.w) X.A (assign target X.env u) (fun _ s' => ∃ σ' H', Inv X pins σ' H' s' ∧ Q σ' H') X.xe s
def PGs (X : Cx) (ts : List Expr) (t : TGs) : Prop :=
  ∀ (pins : List (Addr × Obj)) (s : Shared) (σ : St) (H : Hp) (vs : List V) (us : List Value) (Q : St → Hp → Prop), Inv X pins σ H s → Vals vs us → t vs σ H Q →
    wpAny (model X.prog X.w) X.A (assignInOrder ((assignEach ts X.env).map (·.2)) us) (fun _ s' => ∃ σ' H', Inv X pins σ' H' s' ∧ Q σ' H') X.xe s
section
variable {X : Cx} {pos : Pos}
def gName (i : Nat) : TG := fun v σ H Q => Q (σ.set i (some v)) H
theorem pg_name {i : Nat} {x : Str} (hN : X.N.Nodup) (hi : X.N[i]? = some x) (hx : Loc X.env.scope x) (hf : X.fn x = true ∨ X.env.scope.names.lookup x = some .local := by first | exact .inl rfl | exact .inr rfl | assumption) : PG X (.Name x pos) (gName i) := by
  intro pins s σ H v u Q I r h
  exact wpAny_assign_Name (store_ok I hN hi hx r (fun s' I' => ⟨_, H, I', h⟩) hf)
def gNil : TGs := fun vs σ H Q => vs = [] ∧ Q σ H
def gCons (t : TG) (u : TGs) : TGs := fun vs σ H Q => ∃ v r, vs = v :: r ∧ t v σ H fun σ' H' => u r σ' H' Q
theorem pgs_nil : PGs X [] gNil := by
  intro pins s σ H vs us Q I r h
  obtain ⟨e, h⟩ := h
  subst e
  cases r
  exact assignInOrder_nil ⟨σ, H, I, h⟩
theorem pgs_cons {e : Expr} {es : List Expr} {t : TG} {u : TGs} (h1 : PG X e t) (h2 : PGs X es u)
    (hs : (assignEach (e :: es) X.env).map (·.2) = assign e X.env :: (assignEach es X.env).map (·.2) := by rfl) : PGs X (e :: es) (gCons t u) := by
  intro pins s σ H vs us Q I r h
  obtain ⟨v, vr, e1, h⟩ := h
  subst e1
  cases r with
  | cons r rr =>
    rw [hs]
    refine assignInOrder_cons (thn (h1 pins s σ H _ _ _ I r h) fun _ s1 ⟨σ1, H1, I1, q1⟩ => ?_)
    exact h2 pins s1 σ1 H1 _ _ Q I1 rr q1
def gTup (K : PySem.W.Frag) (n : Nat) (t : TGs) : TG := fun v σ H Q => ∃ a xs, v = .ref a ∧ SqT K H a xs ∧ xs.length = n ∧ t xs σ H Q
theorem pg_tup {es : List Expr} {k : Nat} {t : TGs} {n : Nat} (hc : X.calm = true) (h : PGs X es t)
    (hn : (assignEach es X.env).length = n := by rfl) (hst : (assignEach es X.env).findIdx? (·.1) = none := by rfl) : PG X (.Tuple es k pos) (gTup X.K n t) := by
  intro pins s σ H v u Q I r hw
  obtain ⟨a, xs, e1, hq, hl, hw⟩ := hw
  subst e1
  cases r
  obtain ⟨its, rv, ht, hz⟩ := I.tuple hq
  refine assign_Tuple_tuple (I.ok.hd hc) ht (by simp [hn, ← hl, rv.length]) hst fun h' hx => ?_
  have I1 : Inv X pins σ H { s with heap := h' } := I.kept (t' := s.toks) fun b o e => hx b o (Nat.ne_of_lt (Heap.lt_size e)) e
  exact h pins _ σ H xs _ Q I1 (by simpa using rv) hw
def tAsg (te : TE) (g : TG) : TS := fun D σ H => te σ H fun x H1 => g x σ H1 D.nx
theorem ps_set {i : Nat} {x : Str} {e : Expr} {te : TE} {pos' : Pos} (hN : X.N.Nodup) (hi : X.N[i]? = some x) (hx : Loc X.env.scope x) (he : PE X e te) (hs : swapsWith e (some (.Name x pos')) pos.line X.env = pure false := by rfl) (hf : X.fn x = true ∨ X.env.scope.names.lookup x = some .local := by first | exact .inl rfl | exact .inr rfl | assumption) :
    PS X (.Assign [.Name x pos'] e pos) (tAsg te (gName i)) := by
  intro pins s σ H D I h
  refine wpAny_Assign_Name (thn (he pins s σ H _ I h) fun v s1 ⟨y, H1, I1, r1, q1⟩ => ?_) hs
  exact store_ok I1 hN hi hx r1 (fun s2 I2 => ⟨_, H1, I2, q1⟩) hf
end
section
variable {X : Cx} {pos : Pos}
def tWhile (c : TT) (tb : TS) : TS := fun D σ H => ∃ W : Nat → St → Hp → Prop, (∃ m, W m σ H) ∧ ∀ m σ H, W m σ H →
  c σ H fun b H1 => if b = true then ∃ N : St → Hp → Prop, (∀ σ' H', N σ' H' → ∃ m', m' < m ∧ W m' σ' H') ∧ tb { D with nx := N, ct := N, bk := D.nx } σ H1 else D.nx σ H1
theorem ps_while {c : Expr} {body : List Stmt} {tc : TT} {tb : TS} (hp : PassesOwn (model X.prog X.w) X.A X.env X.xe) (hc : PT X c tc) (hb : PSs X body tb) : PS X (.While c body [] pos) (tWhile tc tb) := by
  intro pins s σ H D I h
  obtain ⟨W, ⟨m0, w0⟩, turn⟩ := h
  refine wpAny_While (codeAny_whileLoop (fun n s' => ∃ σ' H', Inv X pins σ' H' s' ∧ W n σ' H') ?_ m0 ⟨σ, H, I, w0⟩)
  rintro n s1 ⟨σ1, H1, I1, w1⟩
  refine wpAny_passesOwn hp (thn (hc pins s1 σ1 H1 _ I1 (turn n σ1 H1 w1)) fun b s2 ⟨H2, I2, q2⟩ => ?_)
  cases b with
  | true =>
    obtain ⟨N, hN, q2⟩ := q2
    rw [if_pos rfl]
    refine wpAny_passesOwn hp (thn (hb pins s2 σ1 H2 _ I2 q2) fun f s3 q3 => ?_)
    cases f with
    | next =>
      obtain ⟨σ3, H3, I3, n3⟩ := q3
      obtain ⟨m', hm, w3⟩ := hN σ3 H3 n3
      exact ⟨m', hm, σ3, H3, I3, w3⟩
    | cont =>
      obtain ⟨σ3, H3, I3, n3⟩ := q3
      obtain ⟨m', hm, w3⟩ := hN σ3 H3 n3
      exact ⟨m', hm, σ3, H3, I3, w3⟩
    | brk => exact q3
    | ret v => exact q3
  | false =>
    rw [if_neg Bool.false_ne_true]
    exact wpAny_execs_nil ⟨σ1, H2, I2, q2⟩
end
structure It where
  go : Nat → Hp → Prop
  yld : Nat → Hp → V → Hp → Prop
  stop : Nat → Hp → Prop
def FpOk (X : Cx) (pins : List (Addr × Obj)) (H : Hp) (b : Addr) : Prop :=
  H b = none ∧ b ≠ X.env.locals ∧ b ∉ X.fs ∧ (b ∈ X.ex ∨ X.s₀.heap.objs.size ≤ b) ∧ (∀ x c, X.env.cells.lookup x = some c → c ≠ b) ∧ ∀ p ∈ X.pn ++ pins, p.1 ≠ b
theorem Inv.fpOk {X : Cx} {pins : List (Addr × Obj)} {σ : St} {H H' : Hp} {s : Shared} {b : Addr} (I : Inv X pins σ H s) (hb : s.heap.objs.size ≤ b) (hn : H' b = none) : FpOk X pins H' b := by
  refine ⟨hn, Nat.ne_of_gt (Nat.lt_of_lt_of_le I.lt hb), I.nofs hb, .inr (Nat.le_trans I.sz hb), fun x c e z => ?_, fun p hp z => ?_⟩
  · obtain ⟨v, q⟩ := I.cell x c e
    exact absurd (Nat.lt_of_lt_of_le q.lt (by rw [z]; exact hb)) (Nat.lt_irrefl _)
  · exact absurd (Nat.lt_of_lt_of_le (Heap.lt_size (I.pin p hp).1) (by rw [z]; exact hb)) (Nat.lt_irrefl _)
structure Turn (P : Program) (w : World) (K : PySem.W.Frag) (tg : Expr) (J : It) (fp : List Addr) (it : Addr) (tn : Nat → Heap → Prop) : Prop where
  mem : it ∈ fp
  obj : ∀ i h, tn i h → ∀ b ∈ fp, ∃ o, h.get? b = some o ∧ ∀ v, o.data ≠ .cell v
  keep : ∀ i h h', tn i h → (∀ b ∈ fp, ∀ o, h.get? b = some o → h'.get? b = some o) → tn i h'
  item : ∀ (X : Cx), X.prog = P → X.w = w → X.K = K → X.calm = true → ∀ (i : Nat) (pins : List (Addr × Obj)) (s : Shared) (σ : St) (H : Hp) (E : Value → Shared → Prop), Inv X pins σ H s → (∀ b ∈ fp, FpOk X pins H b) → tn i s.heap → J.go i H →
    wpAny (model P w) X.A (pyNext (.ref it)) (fun r s1 => ∃ u, r = some u ∧
      wpAny (model P w) X.A (letOwnedTupleGo tg (.ref it) u) (fun _ s2 => ∃ x H', Inv X pins σ H' s2 ∧ RelV x u ∧ J.yld i H x H' ∧ tn (i + 1) s2.heap ∧ ∀ b ∈ fp, H' b = none) E s1) E s
  done : ∀ (X : Cx), X.prog = P → X.w = w → X.K = K → X.calm = true → ∀ (i : Nat) (pins : List (Addr × Obj)) (s : Shared) (σ : St) (H : Hp) (E : Value → Shared → Prop), Inv X pins σ H s → (∀ b ∈ fp, FpOk X pins H b) → tn i s.heap → J.stop i H →
    wpAny (model P w) X.A (pyNext (.ref it)) (fun r s1 => r = none ∧ Inv X pins σ H s1) E s
  self : ∀ (A : Around) (i : Nat) (s : Shared) (Q : Value → Shared → Prop) (E : Value → Shared → Prop), tn i s.heap → Q (.ref it) s → wpAny (model P w) A (pyIter (.ref it)) Q E s
abbrev TI := St → Hp → (It → Hp → Prop) → Prop
def PIE (X : Cx) (pins : List (Addr × Obj)) (σ : St) (tg : Expr) (R : It → Hp → Prop) (itv : Value) (s2 : Shared) : Prop :=
  ∃ (it : Addr) (fp : List Addr) (tn : Nat → Heap → Prop) (J : It) (H' : Hp), itv = .ref it ∧ Inv X pins σ H' s2 ∧ Turn X.prog X.w X.K tg J fp it tn ∧ tn 0 s2.heap ∧ (∀ b ∈ fp, FpOk X pins H' b) ∧ R J H'
def PI (X : Cx) (tg iter : Expr) (wi : TI) : Prop :=
  ∀ (pins : List (Addr × Obj)) (s : Shared) (σ : St) (H : Hp) (R : It → Hp → Prop), Inv X pins σ H s → wi σ H R →
    wpAny (model X.prog X.w) X.A (eval iter X.env) (fun v s1 => wpAny (model X.prog X.w) X.A (pyIter v) (PIE X pins σ tg R) X.xe s1) X.xe s
theorem go_of {M : Model} {A : Around} {E : Value → Shared → Prop} {s : Shared} {tg : Expr} {it : Addr} {u : Value} {o : Obj} {n : String} {vs : Array Value} {Q : Unit → Shared → Prop} (ho : s.heap.get? it = some o) (hc : o.cls = .type n) (hd : o.data = .fields vs)
    (hn : ["enumerate", "zip", "dict_itemiterator", "dict_reverseitemiterator", "odict_iterator", "itertools.zip_longest", "itertools.pairwise"].contains n = false) (hQ : Q () s) : wpAny M A (letOwnedTupleGo tg (.ref it) u) Q E s := by
  unfold letOwnedTupleGo
  cases tg <;> first
    | exact wpAny_pure hQ
    | (cases u <;> first
        | exact wpAny_pure hQ
        | (refine wpAny_bind (wpAny_load ho ?_)
           rw [hc, hd]
           show wpAny M A (if (["enumerate", "zip", "dict_itemiterator", "dict_reverseitemiterator", "odict_iterator", "itertools.zip_longest", "itertools.pairwise"].contains n && vs[0]? == some (rawInt _)) = true then _ else _) Q E s
           rw [if_neg (by intro h; rw [hn, Bool.false_and] at h; cases h)]
           exact wpAny_pure hQ))
def Itl (K : PySem.W.Frag) (a : Addr) : It :=
  ⟨fun i H => ∃ xs x, SqL K H a xs ∧ xs[i]? = some x, fun i H x H' => H' = H ∧ ∀ xs, SqL K H a xs → xs[i]? = some x, fun i H => ∃ xs, SqL K H a xs ∧ xs.length ≤ i⟩
def Itt (K : PySem.W.Frag) (a : Addr) : It :=
  ⟨fun i H => ∃ xs x, SqT K H a xs ∧ xs[i]? = some x, fun i H x H' => H' = H ∧ ∀ xs, SqT K H a xs → xs[i]? = some x, fun i H => ∃ xs, SqT K H a xs ∧ xs.length ≤ i⟩
def Itr (lo : Int) (n : Nat) : It := ⟨fun i _ => i < n, fun i H x H' => H' = H ∧ x = .int (lo + i), fun i _ => n ≤ i⟩
theorem turn_list {P : Program} {w : World} {K : PySem.W.Frag} {tg : Expr} (a it : Addr) : Turn P w K tg (Itl K a) [it] it (fun i h => h.IsListIter it a i) where
  mem := by simp
  obj := fun i h st b hb => by
    have e : b = it := by simpa using hb
    subst e
    obtain ⟨o, e, c, d⟩ := st
    exact ⟨o, e, fun v z => by rw [d] at z; cases z⟩
  keep := fun i h h' st k => st.at fun o e => k it (by simp) o e
  item := by
    intro X hP hw hK hc i pins s σ H E I hf st hg
    subst hP hw hK
    obtain ⟨xs, x, hq, hx⟩ := hg
    obtain ⟨its, rv, p, hz⟩ := I.list hq
    obtain ⟨u, hu, ru⟩ := rv.get hx
    obtain ⟨f0, f1, f2, f3, f4, f5⟩ := hf it (by simp)
    refine wpAny_pyNext_list_item st p.isList (x := u) (by simpa using hu) fun h' st' sb => ?_
    have I1 : Inv X pins σ H { s with heap := h' } := I.turned (t' := s.toks) (fun b o hb e => (sb.2 b hb).trans e) f0 f1 f3 f4 f5
    obtain ⟨o, e, c, d⟩ := id st'
    exact ⟨u, rfl, go_of (s := { s with heap := h' }) e c d (by decide) ⟨x, H, I1, ru, ⟨rfl, fun ys hy => by rw [I.list_inj hy hq]; exact hx⟩, st', fun b hb => (hf b hb).1⟩⟩
  done := by
    intro X hP hw hK hc i pins s σ H E I hf st hg
    subst hP hw hK
    obtain ⟨xs, hq, hx⟩ := hg
    obtain ⟨its, rv, p, hz⟩ := I.list hq
    obtain ⟨f0, f1, f2, f3, f4, f5⟩ := hf it (by simp)
    have hl := rv.length
    exact wpAny_pyNext_list_end (I.ok.hd hc) st p.isList (by simp; omega) fun h' eb => ⟨rfl, I.turned (t' := s.toks) (fun b o hb e => eb b o hb e) f0 f1 f3 f4 f5⟩
  self := fun _ _ _ _ _ st h => wpAny_pyIter_listiter st h
theorem turn_tuple {P : Program} {w : World} {K : PySem.W.Frag} {tg : Expr} (a it : Addr) : Turn P w K tg (Itt K a) [it] it (fun i h => h.IsTupleIter it a i) where
  mem := by simp
  obj := fun i h st b hb => by
    have e : b = it := by simpa using hb
    subst e
    obtain ⟨o, e, c, d⟩ := st
    exact ⟨o, e, fun v z => by rw [d] at z; cases z⟩
  keep := fun i h h' st k => st.at fun o e => k it (by simp) o e
  item := by
    intro X hP hw hK hc i pins s σ H E I hf st hg
    subst hP hw hK
    obtain ⟨xs, x, hq, hx⟩ := hg
    obtain ⟨its, rv, p, hz⟩ := I.tuple hq
    obtain ⟨u, hu, ru⟩ := rv.get hx
    obtain ⟨f0, f1, f2, f3, f4, f5⟩ := hf it (by simp)
    refine wpAny_pyNext_tuple_item st (show s.heap.IsTuple a its.toArray from p) (x := u) (by simpa using hu) fun h' st' sb => ?_
    have I1 : Inv X pins σ H { s with heap := h' } := I.turned (t' := s.toks) (fun b o hb e => (sb.2 b hb).trans e) f0 f1 f3 f4 f5
    obtain ⟨o, e, c, d⟩ := id st'
    exact ⟨u, rfl, go_of (s := { s with heap := h' }) e c d (by decide) ⟨x, H, I1, ru, ⟨rfl, fun ys hy => by rw [I.tuple_inj hy hq]; exact hx⟩, st', fun b hb => (hf b hb).1⟩⟩
  done := by
    intro X hP hw hK hc i pins s σ H E I hf st hg
    subst hP hw hK
    obtain ⟨xs, hq, hx⟩ := hg
    obtain ⟨its, rv, p, hz⟩ := I.tuple hq
    obtain ⟨f0, f1, f2, f3, f4, f5⟩ := hf it (by simp)
    have hl := rv.length
    exact wpAny_pyNext_tuple_end (I.ok.hd hc) st (show s.heap.IsTuple a its.toArray from p) (by simp; omega) fun h' eb => ⟨rfl, I.turned (t' := s.toks) (fun b o hb e => eb b o hb e) f0 f1 f3 f4 f5⟩
  self := fun _ _ _ _ _ st h => wpAny_pyIter_tupleiter st h
theorem turn_range {P : Program} {w : World} {K : PySem.W.Frag} {tg : Expr} (it : Addr) (lo : Int) (n : Nat) : Turn P w K tg (Itr lo n) [it] it (fun i h => IsRangeIter h it (lo + (i : Nat) * 1) ((n : Int) - (i : Nat)) 1) where
  mem := by simp
  obj := fun i h st b hb => by
    have e : b = it := by simpa using hb
    subst e
    exact ⟨_, st, fun v z => by
      have z' : Data.fields _ = Data.cell v := z
      cases z'⟩
  keep := fun i h h' st k => k it (by simp) _ st
  item := by
    intro X hP hw hK hc i pins s σ H E I hf st hg
    subst hP hw hK
    obtain ⟨f0, f1, f2, f3, f4, f5⟩ := hf it (by simp)
    have W := Walks.range (prog := X.prog) (w := X.w) (I.ok.hd hc) it lo 1 n
    refine W.item i s _ _ hg st fun v h' tk hv st' kk => ?_
    obtain ⟨t, rfl⟩ := hv
    have I1 : Inv X pins σ H { s with heap := h', toks := tk } := I.turned (fun b o hb e => kk b o (by simpa using hb) e) f0 f1 f3 f4 f5
    refine ⟨_, rfl, go_of (s := { s with heap := h', toks := tk }) (n := "range_iterator") st' rfl rfl (by decide) ⟨.int (lo + i), H, I1, ⟨t, ?_⟩, ⟨rfl, rfl⟩, st', fun b hb => (hf b hb).1⟩⟩
    rw [Int.mul_one]
  done := by
    intro X hP hw hK hc i pins s σ H E I hf st hg
    subst hP hw hK
    obtain ⟨f0, f1, f2, f3, f4, f5⟩ := hf it (by simp)
    exact wpAny_pyNext_range_end (I.ok.hd hc) st (by have : n ≤ i := hg; omega) fun h' eb => ⟨rfl, I.turned (t' := s.toks) (fun b o hb e => eb b o hb e) f0 f1 f3 f4 f5⟩
  self := fun _ _ _ _ _ st h => wpAny_pyIter_rangeiter st h
end L2
namespace L2
open PySem PySem.Spec PyProof.Rows
section
variable {X : Cx} {tg : Expr}
def iList (K : PySem.W.Frag) (tl : TE) : TI := fun σ H R => tl σ H fun x H1 => ∃ a, x = .ref a ∧ (∃ xs, SqL K H1 a xs) ∧ R (Itl K a) H1
def iTup (K : PySem.W.Frag) (tl : TE) : TI := fun σ H R => tl σ H fun x H1 => ∃ a, x = .ref a ∧ (∃ xs, SqT K H1 a xs) ∧ R (Itt K a) H1
theorem pi_list {l : Expr} {tl : TE} (hl : PE X l tl) : PI X tg l (iList X.K tl) := by
  intro pins s σ H R I h
  refine thn (hl pins s σ H _ I h) fun v s1 ⟨x, H1, I1, r1, q1⟩ => ?_
  obtain ⟨a, e, ⟨xs, hq⟩, q⟩ := q1
  subst e
  cases r1
  obtain ⟨its, rv, p, hz⟩ := I1.list hq
  refine wpAny_pyIter_list p.isList ?_
  refine ⟨s1.heap.objs.size, [s1.heap.objs.size], _, _, H1, rfl, I1.kept (t' := s1.toks) fun b o e => Heap.get?_push_of_some _ e, turn_list a _, ⟨_, Heap.get?_push_size _ rfl, rfl, rfl⟩, fun b hb => ?_, q⟩
  have e : b = s1.heap.objs.size := by simpa using hb
  subst e
  exact I1.fpOk (Nat.le_refl _) (I1.hok.fresh (Nat.le_refl _))
theorem pi_tup {l : Expr} {tl : TE} (hl : PE X l tl) : PI X tg l (iTup X.K tl) := by
  intro pins s σ H R I h
  refine thn (hl pins s σ H _ I h) fun v s1 ⟨x, H1, I1, r1, q1⟩ => ?_
  obtain ⟨a, e, ⟨xs, hq⟩, q⟩ := q1
  subst e
  cases r1
  obtain ⟨its, rv, p, hz⟩ := I1.tuple hq
  refine wpAny_pyIter_tuple (show s1.heap.IsTuple a its.toArray from p) ?_
  refine ⟨s1.heap.objs.size, [s1.heap.objs.size], _, _, H1, rfl, I1.kept (t' := s1.toks) fun b o e => Heap.get?_push_of_some _ e, turn_tuple a _, ⟨_, Heap.get?_push_size _ rfl, rfl, rfl⟩, fun b hb => ?_, q⟩
  have e : b = s1.heap.objs.size := by simpa using hb
  subst e
  exact I1.fpOk (Nat.le_refl _) (I1.hok.fresh (Nat.le_refl _))
theorem range_it {pins : List (Addr × Obj)} {σ : St} {H : Hp} {s : Shared} {R : It → Hp → Prop} {E : Value → Shared → Prop} {lo hi : Int} {t u v : Tok} {tk : Nat} (I : Inv X pins σ H s) (h1 : -(2 ^ 62) ≤ lo) (h2 : lo < 2 ^ 62) (h3 : -(2 ^ 62) ≤ hi) (h4 : hi < 2 ^ 62)
    (q : R (Itr lo (hi - lo).toNat) H) : wpAny (model X.prog X.w) X.A (pyIter (.ref s.heap.objs.size)) (PIE X pins σ tg R) E { s with heap := s.heap.push { cls := .type "range", data := .fields #[.int lo t, .int hi u, .int 1 v] }, toks := tk } := by
  refine wpAny_pyIter_range (IsRange.new ..) (small_one h1 h2 h3 h4) ?_
  have I1 : Inv X pins σ H { s with heap := s.heap.push { cls := .type "range", data := .fields #[.int lo t, .int hi u, .int 1 v] }, toks := tk } := I.kept fun b o e => Heap.get?_push_of_some _ e
  refine ⟨(s.heap.push { cls := .type "range", data := .fields #[.int lo t, .int hi u, .int 1 v] }).objs.size, [(s.heap.push { cls := .type "range", data := .fields #[.int lo t, .int hi u, .int 1 v] }).objs.size], _, _, H, rfl,
    I1.kept (t' := tk) fun b o e => Heap.get?_push_of_some _ e, turn_range _ lo (hi - lo).toNat, ?_, fun b hb => ?_, q⟩
  · have e1 : lo + ((0 : Nat) : Int) * 1 = lo := by simp
    have e2 : (((hi - lo).toNat : Nat) : Int) - ((0 : Nat) : Int) = Builtin.Range.rangeSize lo hi 1 := by rw [rangeSize_one]; split <;> omega
    show IsRangeIter _ _ (lo + ((0 : Nat) : Int) * 1) ((((hi - lo).toNat : Nat) : Int) - ((0 : Nat) : Int)) 1
    rw [e1, e2]
    exact Heap.get?_push_size _ rfl
  · have e : b = (s.heap.push { cls := .type "range", data := .fields #[.int lo t, .int hi u, .int 1 v] }).objs.size := by simpa using hb
    subst e
    exact I1.fpOk (Nat.le_refl _) (I1.hok.fresh (Nat.le_refl _))
def iRng1 (ta : TA) : TI := fun σ H R => ta σ H fun vs H1 => ∃ j : Int, vs = [.int j] ∧ -(2 ^ 62) ≤ j ∧ j < 2 ^ 62 ∧ R (Itr 0 j.toNat) H1
theorem pi_range1 {a : Expr} {ta : TA} {p pos : Pos} (hg : Gl X "range") (hm : X.mg "range" = none) (ha : PA X [a] ta) (hs : starEach [a] X.env = [(false, eval a X.env)] := by rfl) : PI X tg (.Call (.Name "range" p) [a] [] pos) (iRng1 ta) := by
  intro pins s σ H R I h
  refine Call_ (ld_blt I hg hm boot_range (PyProof.Rows.callWith_type1 (thn (ha pos pins s σ H _ I h) fun us s1 ⟨vs, H1, I1, r1, q1⟩ => ?_) hs rfl))
  obtain ⟨j, e, q1, q2, q⟩ := q1
  subst e
  cases r1 with
  | cons r rr =>
    cases rr
    obtain ⟨t, rfl⟩ := r
    exact call_range_1 (range_it I1 (by omega) (by omega) q1 q2 (by simpa using q))
def tFor (wi : TI) (g : TG) (tb : TS) : TS := fun D σ H => wi σ H fun J H1 => ∃ W : Nat → Nat → St → Hp → Prop, (∃ m, W 0 m σ H1) ∧ ∀ i m σ H, W i m σ H →
  (J.stop i H ∧ D.nx σ H) ∨ (J.go i H ∧ ∃ N : St → Hp → Prop, (∀ σ' H', N σ' H' → ∃ m', m' < m ∧ W (i + 1) m' σ' H') ∧ ∀ x H', J.yld i H x H' → g x σ H' fun σ2 H2 => tb { D with nx := N, ct := N, bk := D.nx } σ2 H2)
def pinsAt (fp : List Addr) (h : Heap) : List (Addr × Obj) := fp.filterMap fun b => (h.get? b).map fun o => (b, o)
theorem mem_pinsAt {fp : List Addr} {h : Heap} {b : Addr} {o : Obj} (hb : b ∈ fp) (e : h.get? b = some o) : (b, o) ∈ pinsAt fp h := List.mem_filterMap.mpr ⟨b, hb, by rw [e]; rfl⟩
theorem of_pinsAt {fp : List Addr} {h : Heap} {p : Addr × Obj} (hp : p ∈ pinsAt fp h) : p.1 ∈ fp ∧ h.get? p.1 = some p.2 := by
  obtain ⟨b, hb, e⟩ := List.mem_filterMap.mp hp
  cases q : h.get? b with
  | none => rw [q] at e; cases e
  | some o =>
    rw [q] at e
    have e' : (b, o) = p := Option.some.inj e
    subst e'
    exact ⟨hb, q⟩
theorem Inv.pinned {pins : List (Addr × Obj)} {σ : St} {H : Hp} {s : Shared} {fp : List Addr} (I : Inv X pins σ H s) (hf : ∀ b ∈ fp, FpOk X pins H b) (ho : ∀ b ∈ fp, ∃ o, s.heap.get? b = some o ∧ ∀ v, o.data ≠ .cell v) : Inv X (pins ++ pinsAt fp s.heap) σ H s :=
  I.pins_of fun p hp => (List.mem_append.mp hp).elim (fun z => I.pin p (List.mem_append_right _ z)) fun z => by
    obtain ⟨hb, e⟩ := of_pinsAt z
    obtain ⟨f0, f1, f2, _⟩ := hf p.1 hb
    obtain ⟨o, e', d⟩ := ho p.1 hb
    rw [e] at e'; cases e'
    exact ⟨e, f0, f1, f2, d⟩
theorem Inv.unpinned {pins pl : List (Addr × Obj)} {σ : St} {H : Hp} {s : Shared} (I : Inv X (pins ++ pl) σ H s) : Inv X pins σ H s := I.pins_of fun p hp => I.pin p (List.mem_append_right _ (List.mem_append_left _ hp))
theorem ps_for {iter : Expr} {body : List Stmt} {wi : TI} {g : TG} {tb : TS} {pos : Pos} (hp : PassesOwn (model X.prog X.w) X.A X.env X.xe) (hc : X.calm = true) (hi : PI X tg iter wi) (hg : PG X tg g) (hb : PSs X body tb)
    (hs : ∀ x, foldedSetIterable iter X.env x = pure x := by intro _; rfl) : PS X (.For tg iter body [] pos) (tFor wi g tb) := by
  intro pins s σ H D I h
  refine wpAny_For (thn (hi pins s σ H _ I h) fun v s1 h1 => thn h1 fun itv s2 h2 => ?_) hs
  obtain ⟨it, fp, tn, J, H2, e, I2, T, st2, f2, W, ⟨m0, w0⟩, turn⟩ := h2
  subst e
  have stat : ∀ {H' : Hp}, (∀ b ∈ fp, H' b = none) → ∀ b ∈ fp, FpOk X pins H' b := fun hn b hb => ⟨hn b hb, (f2 b hb).2⟩
  refine codeAny_forLoop_any (fun n s' => ∃ i σ' H', Inv X pins σ' H' s' ∧ tn i s'.heap ∧ (∀ b ∈ fp, H' b = none) ∧ W i n σ' H') ?_ m0 ⟨0, σ, H2, I2, st2, fun b hb => (f2 b hb).1, w0⟩
  rintro n s3 ⟨i, σ3, H3, I3, st3, fr3, w3⟩
  rcases turn i n σ3 H3 w3 with ⟨stop, qn⟩ | ⟨go, N, hN, step⟩
  · refine wpAny_passesOwn hp (thn (T.done X rfl rfl rfl hc i pins s3 σ3 H3 X.xe I3 (stat fr3) st3 stop) fun r s4 ⟨hr, I4⟩ => ?_)
    subst hr
    exact wpAny_execs_nil ⟨σ3, H3, I4, qn⟩
  · refine wpAny_passesOwn hp (thn (T.item X rfl rfl rfl hc i pins s3 σ3 H3 X.xe I3 (stat fr3) st3 go) fun r s4 ⟨u, hr, h4⟩ => ?_)
    subst hr
    refine wpAny_passesOwn hp (thn h4 fun _ s5 ⟨x, H5, I5, r5, y5, st5, fr5⟩ => ?_)
    have I5' := I5.pinned (stat fr5) (T.obj _ _ st5)
    refine wpAny_passesOwn hp (thn (hg _ s5 σ3 H5 x u _ I5' r5 (step x H5 y5)) fun _ s6 ⟨σ6, H6, I6, q6⟩ => ?_)
    refine wpAny_passesOwn hp (thn (hb _ s6 σ6 H6 _ I6 q6) fun f s7 q7 => ?_)
    have again : ∀ {σ7 : St} {H7 : Hp}, Inv X (pins ++ pinsAt fp s5.heap) σ7 H7 s7 → N σ7 H7 → ∃ m, m < n ∧ ∃ i σ' H', Inv X pins σ' H' s7 ∧ tn i s7.heap ∧ (∀ b ∈ fp, H' b = none) ∧ W i m σ' H' := fun {σ7 H7} I7 n7 => by
      obtain ⟨m', hm, w7⟩ := hN σ7 H7 n7
      refine ⟨m', hm, i + 1, σ7, H7, I7.unpinned, T.keep _ _ _ st5 fun b hb o e => (I7.pin (b, o) (List.mem_append_right _ (List.mem_append_right _ (mem_pinsAt hb e)))).1, fun b hb => ?_, w7⟩
      obtain ⟨o, e, d⟩ := T.obj _ _ st5 b hb
      exact (I7.pin (b, o) (List.mem_append_right _ (List.mem_append_right _ (mem_pinsAt hb e)))).2.1
    cases f with
    | next => obtain ⟨σ7, H7, I7, n7⟩ := q7; exact again I7 n7
    | cont => obtain ⟨σ7, H7, I7, n7⟩ := q7; exact again I7 n7
    | brk => obtain ⟨σ7, H7, I7, q7⟩ := q7; exact ⟨σ7, H7, I7.unpinned, q7⟩
    | ret v => obtain ⟨x7, σ7, H7, I7, r7, q7⟩ := q7; exact ⟨x7, σ7, H7, I7.unpinned, r7, q7⟩
end
theorem for_list {K : PySem.W.Frag} {a : Addr} {xs : List V} {g : TG} {tb : TS} {D : Ends} {σ : St} {H : Hp} (Pv : Nat → St → Hp → Prop) (h0 : Pv 0 σ H) (hl : ∀ i σ H, i ≤ xs.length → Pv i σ H → SqL K H a xs)
    (hs : ∀ i x σ H, xs[i]? = some x → Pv i σ H → g x σ H fun σ2 H2 => tb { D with nx := Pv (i + 1), ct := Pv (i + 1), bk := D.nx } σ2 H2) (hd : ∀ σ H, Pv xs.length σ H → D.nx σ H) :
    ∃ W : Nat → Nat → St → Hp → Prop, (∃ m, W 0 m σ H) ∧ ∀ i m σ H, W i m σ H →
      ((Itl K a).stop i H ∧ D.nx σ H) ∨ ((Itl K a).go i H ∧ ∃ N : St → Hp → Prop, (∀ σ' H', N σ' H' → ∃ m', m' < m ∧ W (i + 1) m' σ' H') ∧ ∀ x H', (Itl K a).yld i H x H' → g x σ H' fun σ2 H2 => tb { D with nx := N, ct := N, bk := D.nx } σ2 H2) := by
  refine ⟨fun i m σ H => m = xs.length - i ∧ i ≤ xs.length ∧ Pv i σ H, ⟨xs.length, by simp, Nat.zero_le _, h0⟩, ?_⟩
  rintro i m σ H ⟨rfl, hi, p⟩
  have q := hl i σ H hi p
  by_cases hlt : i < xs.length
  · refine .inr ⟨⟨xs, xs[i], q, by simp [hlt]⟩, Pv (i + 1), fun σ' H' p' => ⟨xs.length - (i + 1), by omega, rfl, hlt, p'⟩, fun x H' y => ?_⟩
    obtain ⟨e, y⟩ := y
    subst e
    exact hs i x σ _ (y xs q) p
  · have e : i = xs.length := by omega
    subst e
    exact .inl ⟨⟨xs, q, Nat.le_refl _⟩, hd σ H p⟩
theorem for_range {lo : Int} {n : Nat} {g : TG} {tb : TS} {D : Ends} {σ : St} {H : Hp} (Pv : Nat → St → Hp → Prop) (h0 : Pv 0 σ H)
    (hs : ∀ i σ H, i < n → Pv i σ H → g (.int (lo + i)) σ H fun σ2 H2 => tb { D with nx := Pv (i + 1), ct := Pv (i + 1), bk := D.nx } σ2 H2) (hd : ∀ σ H, Pv n σ H → D.nx σ H) :
    ∃ W : Nat → Nat → St → Hp → Prop, (∃ m, W 0 m σ H) ∧ ∀ i m σ H, W i m σ H →
      ((Itr lo n).stop i H ∧ D.nx σ H) ∨ ((Itr lo n).go i H ∧ ∃ N : St → Hp → Prop, (∀ σ' H', N σ' H' → ∃ m', m' < m ∧ W (i + 1) m' σ' H') ∧ ∀ x H', (Itr lo n).yld i H x H' → g x σ H' fun σ2 H2 => tb { D with nx := N, ct := N, bk := D.nx } σ2 H2) := by
  refine ⟨fun i m σ H => m = n - i ∧ i ≤ n ∧ Pv i σ H, ⟨n, by simp, Nat.zero_le _, h0⟩, ?_⟩
  rintro i m σ H ⟨rfl, hi, p⟩
  by_cases hlt : i < n
  · refine .inr ⟨hlt, Pv (i + 1), fun σ' H' p' => ⟨n - (i + 1), by omega, rfl, hlt, p'⟩, fun x H' y => ?_⟩
    obtain ⟨e, y⟩ := y
    subst e y
    exact hs i σ _ hlt p
  · have e : i = n := by omega
    subst e
    exact .inl ⟨Nat.le_refl _, hd σ H p⟩
end L2
namespace L2
open PySem PySem.Spec PyProof.Rows
abbrev R2 := V → V → Hp → VK → Prop
def OpR (X : Cx) (f : Value → Value → Sem Value) (r : R2) : Prop :=
  ∀ (pins : List (Addr × Obj)) (s : Shared) (σ : St) (H : Hp) (x y : V) (v u : Value) (Q : VK), Inv X pins σ H s → RelV x v → RelV y u → r x y H Q →
    wpAny (model X.prog X.w) X.A (f v u) (EP X pins σ Q) X.xe s
def UnR (X : Cx) (f : Value → Sem Value) (r : V → Hp → VK → Prop) : Prop :=
  ∀ (pins : List (Addr × Obj)) (s : Shared) (σ : St) (H : Hp) (x : V) (v : Value) (Q : VK), Inv X pins σ H s → RelV x v → r x H Q →
    wpAny (model X.prog X.w) X.A (f v) (EP X pins σ Q) X.xe s
def CallR (X : Cx) (f : Value) (r : List V → Hp → VK → Prop) : Prop :=
  ∀ (pins : List (Addr × Obj)) (s : Shared) (σ : St) (H : Hp) (xs : List V) (us : List Value) (Q : VK), Inv X pins σ H s → Vals xs us → r xs H Q →
    wpAny (model X.prog X.w) X.A (call f us) (EP X pins σ Q) X.xe s
def TruR (X : Cx) (r : V → Hp → (Bool → Hp → Prop) → Prop) : Prop :=
  ∀ (pins : List (Addr × Obj)) (s : Shared) (σ : St) (H : Hp) (x : V) (v : Value) (Q : Bool → Hp → Prop), Inv X pins σ H s → RelV x v → r x H Q →
    wpAny (model X.prog X.w) X.A (truthy v) (TP X pins σ Q) X.xe s
def tOp (r : R2) (ta tb : TE) : TE := fun σ H Q => ta σ H fun x H1 => tb σ H1 fun y H2 => r x y H2 Q
def tUn (r : V → Hp → VK → Prop) (ta : TE) : TE := fun σ H Q => ta σ H fun x H1 => r x H1 Q
def rI (C : Int → Int → Prop) (g : Int → Int → V) : R2 := fun x y H Q => ∃ i j, x = .int i ∧ y = .int j ∧ C i j ∧ Q (g i j) H
def rI0 (g : Int → Int → V) : R2 := fun x y H Q => ∃ i j, x = .int i ∧ y = .int j ∧ Q (g i j) H
def rU (g : Int → V) : V → Hp → VK → Prop := fun x H Q => ∃ i, x = .int i ∧ Q (g i) H
section
variable {X : Cx} {a b c : Expr} {ta tb tc : TE} {pos : Pos}
theorem binT (ha : PE X a ta) (hb : PE X b tb) {pins : List (Addr × Obj)} {s : Shared} {σ : St} {H : Hp} {R : V → V → Hp → Prop} (I : Inv X pins σ H s)
    (h : ta σ H fun x H1 => tb σ H1 fun y H2 => R x y H2) {Q : Value → Shared → Prop} {f : Value → Value → Sem Value}
    (hf : ∀ v u s2 x y H2, Inv X pins σ H2 s2 → RelV x v → RelV y u → R x y H2 → wpAny (model X.prog X.w) X.A (f v u) Q X.xe s2) :
    wpAny (model X.prog X.w) X.A (eval a X.env) (fun v s₁ => wpAny (model X.prog X.w) X.A (eval b X.env) (fun u s₂ => wpAny (model X.prog X.w) X.A (f v u) Q X.xe s₂) X.xe s₁) X.xe s := by
  refine thn (ha pins s σ H _ I h) fun v s1 ⟨x, H1, I1, r1, q1⟩ => ?_
  refine thn (hb pins s1 σ H1 _ I1 q1) fun u s2 ⟨y, H2, I2, r2, q2⟩ => ?_
  exact hf v u s2 x y H2 I2 r1 r2 q2
theorem pe_op {op : Operator} {r : R2} (ho : OpR X (binaryOp op) r) (ha : PE X a ta) (hb : PE X b tb) : PE X (.BinOp a op b pos) (tOp r ta tb) := by
  intro pins s σ H Q I h
  exact wpAny_BinOp (binT ha hb I h fun v u s2 x y H2 I2 rx ry q => ho pins s2 σ H2 x y v u Q I2 rx ry q)
theorem pe_un {op : UnaryOp} {r : V → Hp → VK → Prop} (ho : UnR X (unaryOp op) r) (ha : PE X a ta) : PE X (.UnaryOp op a pos) (tUn r ta) := by
  intro pins s σ H Q I h
  exact UnaryOp_ (thn (ha pins s σ H _ I h) fun v s1 ⟨x, H1, I1, r1, q1⟩ => ho pins s1 σ H1 x v Q I1 r1 q1)
theorem opI {f : Value → Value → Sem Value} {C : Int → Int → Prop} {g : Int → Int → Int}
    (rule : ∀ (i j : Int) (t u : Tok) (s : Shared) (Q : Value → Shared → Prop) (E : Value → Shared → Prop), C i j → Q (.int (g i j) s.toks) { s with toks := s.toks + 1 } → wpAny (model X.prog X.w) X.A (f (.int i t) (.int j u)) Q E s) :
    OpR X f (rI C fun i j => .int (g i j)) := by
  intro pins s σ H x y v u Q I rx ry h
  obtain ⟨i, j, rfl, rfl, hc, q⟩ := h
  obtain ⟨t, rfl⟩ := rx
  obtain ⟨t', rfl⟩ := ry
  exact rule i j t t' s _ _ hc ⟨.int (g i j), H, I.tok _, ⟨_, rfl⟩, q⟩
theorem opI0 {f : Value → Value → Sem Value} {g : Int → Int → Int}
    (rule : ∀ (i j : Int) (t u : Tok) (s : Shared) (Q : Value → Shared → Prop) (E : Value → Shared → Prop), Q (.int (g i j) s.toks) { s with toks := s.toks + 1 } → wpAny (model X.prog X.w) X.A (f (.int i t) (.int j u)) Q E s) :
    OpR X f (rI0 fun i j => .int (g i j)) := by
  intro pins s σ H x y v u Q I rx ry h
  obtain ⟨i, j, rfl, rfl, q⟩ := h
  obtain ⟨t, rfl⟩ := rx
  obtain ⟨t', rfl⟩ := ry
  exact rule i j t t' s _ _ ⟨.int (g i j), H, I.tok _, ⟨_, rfl⟩, q⟩
theorem opB0 {f : Value → Value → Sem Value} {g : Int → Int → Bool}
    (rule : ∀ (i j : Int) (t u : Tok) (s : Shared) (Q : Value → Shared → Prop) (E : Value → Shared → Prop), Q (.bool (g i j)) s → wpAny (model X.prog X.w) X.A (f (.int i t) (.int j u)) Q E s) :
    OpR X f (rI0 fun i j => .bl (g i j)) := by
  intro pins s σ H x y v u Q I rx ry h
  obtain ⟨i, j, rfl, rfl, q⟩ := h
  obtain ⟨t, rfl⟩ := rx
  obtain ⟨t', rfl⟩ := ry
  exact rule i j t t' s _ _ ⟨.bl (g i j), H, I, rfl, q⟩
def CDiv (i j : Int) : Prop := 0 < j ∧ j < 1073741824
def CPow (i j : Int) : Prop := 0 ≤ j ∧ j ≤ 1000000 ∧ i.natAbs < 2 ^ 64
theorem op_add : OpR X (binaryOp .Add) (rI0 fun i j => .int (i + j)) := opI0 fun _ _ _ _ _ _ _ q => add_int q
theorem op_sub : OpR X (binaryOp .Sub) (rI0 fun i j => .int (i - j)) := opI0 fun _ _ _ _ _ _ _ q => sub_int q
theorem op_fdiv : OpR X (binaryOp .FloorDiv) (rI CDiv fun i j => .int (i / j)) := opI fun i j _ _ _ _ _ hc q => by
  have h1 : (0 : Int) < j := hc.1
  have h2 : j < 1073741824 := hc.2
  exact floordiv_int (by omega) (by rw [Int.fdiv_eq_ediv_of_nonneg i (by omega)]; exact q) (.inl (PyProof.noPylong_small (by omega)))
theorem op_mod : OpR X (binaryOp .Mod) (rI (fun _ j => 0 < j) fun i j => .int (i % j)) := opI fun i j _ _ _ _ _ hc q => by
  have h1 : (0 : Int) < j := hc
  exact mod_int' (by omega) (by rw [Int.fmod_eq_emod_of_nonneg i (by omega)]; exact q)
theorem op_pow : OpR X (binaryOp .Pow) (rI CPow fun i j => .int (i ^ j.toNat)) := opI fun _ _ _ _ _ _ _ hc q => pow_int_small hc.1 hc.2.1 hc.2.2 q
theorem unI {f : Value → Sem Value} {g : Int → Int}
    (rule : ∀ (i : Int) (t : Tok) (s : Shared) (Q : Value → Shared → Prop) (E : Value → Shared → Prop), Q (.int (g i) s.toks) { s with toks := s.toks + 1 } → wpAny (model X.prog X.w) X.A (f (.int i t)) Q E s) :
    UnR X f (rU fun i => .int (g i)) := by
  intro pins s σ H x v Q I rx h
  obtain ⟨i, rfl, q⟩ := h
  obtain ⟨t, rfl⟩ := rx
  exact rule i t s _ _ ⟨.int (g i), H, I.tok _, ⟨_, rfl⟩, q⟩
theorem un_neg : UnR X (unaryOp .USub) (rU fun i => .int (-i)) := unI fun _ _ _ _ _ q => neg_int q
end
def scal : V → V → Bool
  | .non, .non => true | .non, .int _ => true | .int _, .non => true | .non, .bl _ => true | .bl _, .non => true | .non, .str _ => true | .str _, .non => true
  | .int _, .int _ => true | .bl _, .bl _ => true | .str _, .str _ => true | .byt _, .byt _ => true
  | .int _, .str _ => true | .str _, .int _ => true | .bl _, .str _ => true | .str _, .bl _ => true
  | _, _ => false
def rEq : R2 := fun x y H Q => scal x y = true ∧ Q (.bl (decide (x = y))) H
def rNe : R2 := fun x y H Q => scal x y = true ∧ Q (.bl (!decide (x = y))) H
theorem dec_int {i j : Int} : decide (V.int i = V.int j) = (i == j) := by
  rw [Bool.eq_iff_iff]
  simp
theorem dec_bl {i j : Bool} : decide (V.bl i = V.bl j) = (i == j) := by
  rw [Bool.eq_iff_iff]
  simp
theorem dec_str {i j : Str} : decide (V.str i = V.str j) = (i == j) := by
  rw [Bool.eq_iff_iff]
  simp
theorem dec_byt {i j : Array UInt8} : decide (V.byt i = V.byt j) = (i.toList == j.toList) := by
  rw [Bool.eq_iff_iff]
  cases i
  cases j
  simp
section
variable {X : Cx} {a b c : Expr} {ta tb tc : TE} {pos : Pos}
theorem fin_bl {pins : List (Addr × Obj)} {σ : St} {H : Hp} {s : Shared} {Q : VK} {k k' : Bool} (I : Inv X pins σ H s) (q : Q (.bl k) H) (e : k = k') : EP X pins σ Q (.bool k') s := by
  subst e
  exact ⟨.bl k, H, I, rfl, q⟩
theorem op_eq : OpR X (compareOp .Eq) rEq := by
  intro pins s σ H x y v u Q I rx ry h
  obtain ⟨hs, q⟩ := h
  cases x with
  | non =>
    cases rx
    cases y with
    | non => cases ry; exact PySem.EqNone.eq_none_none (fin_bl I q (by simp))
    | bl j => cases ry; exact PySem.EqNone.eq_none_bool (fin_bl I q (by simp))
    | int j => obtain ⟨t', rfl⟩ := ry; exact PySem.EqNone.eq_none_int (fin_bl I q (by simp))
    | str j => obtain ⟨t', rfl⟩ := ry; exact PySem.EqNone.eq_none_str (fin_bl I q (by simp))
    | _ => exact absurd (show false = true from hs) Bool.false_ne_true
  | bl i =>
    cases rx
    cases y with
    | non => cases ry; exact PySem.EqNone.eq_bool_none (fin_bl I q (by simp))
    | bl j => cases ry; exact eq_bool (fin_bl I q dec_bl)
    | str j => obtain ⟨t', rfl⟩ := ry; exact PySem.EqMixed.eq_bool_str (fin_bl I q (by simp))
    | _ => exact absurd (show false = true from hs) Bool.false_ne_true
  | int i =>
    obtain ⟨t, rfl⟩ := rx
    cases y with
    | non => cases ry; exact PySem.EqNone.eq_int_none (fin_bl I q (by simp))
    | int j => obtain ⟨t', rfl⟩ := ry; exact eq_int (fin_bl I q dec_int)
    | str j => obtain ⟨t', rfl⟩ := ry; exact PySem.EqMixed.eq_int_str (fin_bl I q (by simp))
    | _ => exact absurd (show false = true from hs) Bool.false_ne_true
  | str i =>
    obtain ⟨t, rfl⟩ := rx
    cases y with
    | non => cases ry; exact PySem.EqNone.eq_str_none (fin_bl I q (by simp))
    | bl j => cases ry; exact PySem.EqMixed.eq_str_bool (fin_bl I q (by simp))
    | int j => obtain ⟨t', rfl⟩ := ry; exact PySem.EqMixed.eq_str_int (fin_bl I q (by simp))
    | str j => obtain ⟨t', rfl⟩ := ry; exact eq_str (fin_bl I q dec_str)
    | _ => exact absurd (show false = true from hs) Bool.false_ne_true
  | byt i =>
    obtain ⟨t, rfl⟩ := rx
    cases y with
    | byt j => obtain ⟨t', rfl⟩ := ry; exact PySem.W.eq_bytes (fin_bl I q dec_byt)
    | _ => exact absurd (show false = true from hs) Bool.false_ne_true
  | _ => cases y <;> exact absurd (show false = true from hs) Bool.false_ne_true
theorem op_ne : OpR X (compareOp .NotEq) rNe := by
  intro pins s σ H x y v u Q I rx ry h
  obtain ⟨hs, q⟩ := h
  cases x with
  | non =>
    cases rx
    cases y with
    | non => cases ry; exact PySem.EqNone.ne_none_none (fin_bl I q (by simp))
    | bl j => cases ry; exact PySem.EqNone.ne_none_bool (fin_bl I q (by simp))
    | int j => obtain ⟨t', rfl⟩ := ry; exact PySem.EqNone.ne_none_int (fin_bl I q (by simp))
    | str j => obtain ⟨t', rfl⟩ := ry; exact PySem.EqNone.ne_none_str (fin_bl I q (by simp))
    | _ => exact absurd (show false = true from hs) Bool.false_ne_true
  | bl i =>
    cases rx
    cases y with
    | non => cases ry; exact PySem.EqNone.ne_bool_none (fin_bl I q (by simp))
    | bl j => cases ry; exact ne_bool (fin_bl I q (congrArg not dec_bl))
    | str j => obtain ⟨t', rfl⟩ := ry; exact PySem.EqMixed.ne_bool_str (fin_bl I q (by simp))
    | _ => exact absurd (show false = true from hs) Bool.false_ne_true
  | int i =>
    obtain ⟨t, rfl⟩ := rx
    cases y with
    | non => cases ry; exact PySem.EqNone.ne_int_none (fin_bl I q (by simp))
    | int j => obtain ⟨t', rfl⟩ := ry; exact ne_int (fin_bl I q (congrArg not dec_int))
    | str j => obtain ⟨t', rfl⟩ := ry; exact PySem.EqMixed.ne_int_str (fin_bl I q (by simp))
    | _ => exact absurd (show false = true from hs) Bool.false_ne_true
  | str i =>
    obtain ⟨t, rfl⟩ := rx
    cases y with
    | non => cases ry; exact PySem.EqNone.ne_str_none (fin_bl I q (by simp))
    | bl j => cases ry; exact PySem.EqMixed.ne_str_bool (fin_bl I q (by simp))
    | int j => obtain ⟨t', rfl⟩ := ry; exact PySem.EqMixed.ne_str_int (fin_bl I q (by simp))
    | str j => obtain ⟨t', rfl⟩ := ry; exact ne_str (fin_bl I q (congrArg not dec_str))
    | _ => exact absurd (show false = true from hs) Bool.false_ne_true
  | byt i =>
    obtain ⟨t, rfl⟩ := rx
    cases y with
    | byt j => obtain ⟨t', rfl⟩ := ry; exact PySem.W.ne_bytes (fin_bl I q (congrArg not dec_byt))
    | _ => exact absurd (show false = true from hs) Bool.false_ne_true
  | _ => cases y <;> exact absurd (show false = true from hs) Bool.false_ne_true
theorem op_lt : OpR X (compareOp .Lt) (rI0 fun i j => .bl (decide (i < j))) := opB0 fun _ _ _ _ _ _ _ q => lt_int q
theorem op_le : OpR X (compareOp .LtE) (rI0 fun i j => .bl (decide (i ≤ j))) := opB0 fun _ _ _ _ _ _ _ q => le_int q
theorem op_gt : OpR X (compareOp .Gt) (rI0 fun i j => .bl (decide (j < i))) := opB0 fun _ _ _ _ _ _ _ q => gt_int q
theorem op_ge : OpR X (compareOp .GtE) (rI0 fun i j => .bl (decide (j ≤ i))) := opB0 fun _ _ _ _ _ _ _ q => ge_int q
theorem op_in_str : OpR X (compareOp .In) (fun x y H Q => ∃ i j, x = .str i ∧ y = .str j ∧ Q (.bl (!(Builtin.Str.occurrences j i 0 j.length 1).isEmpty)) H) := by
  intro pins s σ H x y v u Q I rx ry h
  obtain ⟨i, j, rfl, rfl, q⟩ := h
  obtain ⟨t, rfl⟩ := rx
  obtain ⟨t', rfl⟩ := ry
  exact in_str (fin_bl I q rfl)
theorem op_isN : OpR X (compareOp .Is) (fun x y H Q => y = .non ∧ Q (.bl (decide (x = .non))) H) := by
  intro pins s σ H x y v u Q I rx ry h
  obtain ⟨rfl, q⟩ := h
  cases ry
  refine is_none_gen (fin_bl I q ?_)
  cases x <;> first
    | (cases rx; rfl)
    | (obtain ⟨t, rfl⟩ := rx; rfl)
theorem op_notN : OpR X (compareOp .IsNot) (fun x y H Q => y = .non ∧ Q (.bl (!decide (x = .non))) H) := by
  intro pins s σ H x y v u Q I rx ry h
  obtain ⟨rfl, q⟩ := h
  cases ry
  refine isnot_none_gen (fin_bl I q ?_)
  cases x <;> first
    | (cases rx; rfl)
    | (obtain ⟨t, rfl⟩ := rx; rfl)
theorem nomark (b : Expr) {op : CmpOp} (h : op ≠ .In := by decide) (h2 : op ≠ .NotIn := by decide) : behindInMarks op b = false := by
  have e1 : (op == CmpOp.In) = false := by cases op <;> first | rfl | exact absurd rfl h
  have e2 : (op == CmpOp.NotIn) = false := by cases op <;> first | rfl | exact absurd rfl h2
  cases b <;> simp [behindInMarks, e1, e2]
theorem pe_cmpR {op : CmpOp} {r : R2} (ho : OpR X (compareOp op) r) (ha : PE X a ta) (hb : PE X b tb) (hm : behindInMarks op b = false) : PE X (.Compare a [op] [b] pos) (tOp r ta tb) := by
  intro pins s σ H Q I h
  exact wpAny_Compare1 (binT ha hb I h fun v u s2 x y H2 I2 rx ry q => ho pins s2 σ H2 x y v u Q I2 rx ry q) hm
def tTest (t : TE) : TT := fun σ H Q => t σ H fun x H' => ∃ k, x = .bl k ∧ Q k H'
theorem pt_cmpR {op : CmpOp} {r : R2} (ho : OpR X (compareOp op) r) (ha : PE X a ta) (hb : PE X b tb) (hm : behindInMarks op b = false) : PT X (.Compare a [op] [b] pos) (tTest (tOp r ta tb)) := by
  intro pins s σ H Q I h
  refine wpAny_isTrue_Compare1 (thn (ha pins s σ H _ I h) fun v s1 ⟨x, H1, I1, r1, q1⟩ => thn (hb pins s1 σ H1 _ I1 q1) fun u s2 ⟨y, H2, I2, r2, q2⟩ =>
    thn (ho pins s2 σ H2 x y v u _ I2 r1 r2 q2) fun c s3 ⟨z, H3, I3, r3, k, e, q3⟩ => ?_) hm
  subst e
  cases r3
  exact wpAny_truthy_bool ⟨H3, I3, q3⟩
def tChain (r r' : R2) (ta tb tc : TE) : TE := fun σ H Q => ta σ H fun x H1 => tb σ H1 fun y H2 => r x y H2 fun z H3 => ∃ k, z = .bl k ∧
  (if k = true then tc σ H3 fun w' H4 => r' y w' H4 Q else Q (.bl false) H3)
theorem pt_chain {op op' : CmpOp} {r r' : R2} (ho : OpR X (compareOp op) r) (ho' : OpR X (compareOp op') r') (ha : PE X a ta) (hb : PE X b tb) (hc : PE X c tc)
    (hm : lastMarks [op, op'] [b, c] = false := by with_unfolding_all rfl) : PT X (.Compare a [op, op'] [b, c] pos) (tTest (tChain r r' ta tb tc)) := by
  intro pins s σ H Q I h
  refine isTrue_chain (thn (ha pins s σ H _ I h) fun v s1 ⟨x, H1, I1, r1, q1⟩ => test_link (thn (hb pins s1 σ H1 _ I1 q1) fun u s2 ⟨y, H2, I2, r2, q2⟩ =>
    thn (ho pins s2 σ H2 x y v u _ I2 r1 r2 q2) fun d s3 ⟨z, H3, I3, r3, k, e, q3⟩ => ?_)) hm
  subst e
  cases r3
  refine wpAny_truthy_bool ?_
  cases k with
  | false =>
    obtain ⟨k', e', q'⟩ := q3
    cases e'
    exact ite_ff ⟨H3, I3, q'⟩
  | true =>
    refine ite_tt (test_last (thn (hc pins s3 σ H3 _ I3 q3) fun w' s4 ⟨z', H4, I4, r4, q4⟩ => thn (ho' pins s4 σ H4 y z' u w' _ I4 r2 r4 q4) fun d' s5 ⟨z2, H5, I5, r5, k2, e2, q5⟩ => ?_))
    subst e2
    cases r5
    exact wpAny_truthy_bool ⟨H5, I5, q5⟩
theorem line63 : (sizeLine : Nat) < 2 ^ 63 := by rw [sizeLine_eq]; decide
theorem op_add_str : OpR X (binaryOp .Add) (fun x y H Q => ∃ i j, x = .str i ∧ y = .str j ∧ i.length + j.length ≤ sizeLine ∧ Q (.str (i ++ j)) H) := by
  intro pins s σ H x y v u Q I rx ry h
  obtain ⟨i, j, rfl, rfl, hz, q⟩ := h
  obtain ⟨t, rfl⟩ := rx
  obtain ⟨t', rfl⟩ := ry
  exact add_str (fun t' tk => ⟨.str (i ++ j), H, I.tok _, ⟨_, rfl⟩, q⟩) hz
theorem vals1 {x : V} {us : List Value} (r : Vals [x] us) : ∃ u, us = [u] ∧ RelV x u := by
  cases r with
  | cons r1 r2 => cases r2; exact ⟨_, rfl, r1⟩
theorem vals2 {x y : V} {us : List Value} (r : Vals [x, y] us) : ∃ u w', us = [u, w'] ∧ RelV x u ∧ RelV y w' := by
  cases r with
  | cons r1 r2 =>
    cases r2 with
    | cons r3 r4 => cases r4; exact ⟨_, _, rfl, r1, r3⟩
theorem call_max2 (hc : X.calm = true) : CallR X (.builtin "max") (fun xs H Q => ∃ i j, xs = [.int i, .int j] ∧ Q (.int (if j > i then j else i)) H) := by
  intro pins s σ H xs us Q I r h
  obtain ⟨i, j, rfl, q⟩ := h
  obtain ⟨u, w', rfl, ⟨t, rfl⟩, ⟨t', rfl⟩⟩ := vals2 r
  refine max_two_ints (I.ok.hd hc) fun h' tk k => ⟨_, H, I.kept k, ?_, q⟩
  by_cases hj : j > i
  · rw [if_pos hj, if_pos hj]; exact ⟨_, rfl⟩
  · rw [if_neg hj, if_neg hj]; exact ⟨_, rfl⟩
theorem call_str_int : CallR X (.type "str") (fun xs H Q => ∃ i, xs = [.int i] ∧ i.natAbs.log2 < 1920 ∧ Q (.str (toString i)) H) := by
  intro pins s σ H xs us Q I r h
  obtain ⟨i, rfl, hz, q⟩ := h
  obtain ⟨u, rfl, t, rfl⟩ := vals1 r
  exact PySem.P.str_of_int hz ⟨.str _, H, I.tok _, ⟨_, rfl⟩, q⟩
end
end L2
namespace L2
open PySem PySem.Spec PyProof.Rows
structure ObjM (h : Heap) (x dx C : Addr) (mA : Str → Option Value) : Prop where
  obj : h.get? x = some (PySem.W.instObj C dx)
  ns : h.Ns1 dx mA
  ne : dx ≠ x
theorem lookIn_ns {h : Heap} {dx : Addr} {mA : Str → Option Value} (n : h.Ns1 dx mA) : ∃ od, h.get? dx = some od ∧ ∀ name, PySem.W.lookIn name od = some (mA name) := by
  obtain ⟨o, es, ep, ho, hd, hk, _, hm⟩ := n
  refine ⟨o, ho, fun name => ?_⟩
  have e := hm name
  unfold nsFind findBy at e
  rw [← Array.find?_toList] at e
  unfold PySem.W.lookIn
  rw [hd]
  dsimp only
  split
  · rename_i y q
    rw [q] at e
    exact congrArg some e
  · rename_i q
    rw [q] at e
    have a : es.toList.any (·.refKey) = false := by
      rw [List.any_eq_false]
      intro y hy
      obtain ⟨z, t, hkey⟩ := hk y (Array.mem_toList_iff.mp hy)
      simp [DictEntry.refKey, hkey]
    have a' : ¬ es.toList.any (·.refKey) = true := by rw [a]; exact Bool.false_ne_true
    rw [if_neg a']
    exact congrArg some e
theorem ObjM.look {h : Heap} {x dx C : Addr} {mA : Str → Option Value} (I : ObjM h x dx C mA) : ∃ od, PySem.W.InstAt h x (PySem.W.instObj C dx) C (some od) ∧ ∀ name, PySem.W.lookIn name od = some (mA name) :=
  let ⟨od, ho, hl⟩ := lookIn_ns I.ns
  ⟨od, ⟨I.obj, rfl, rfl, ho⟩, hl⟩
section
variable {prog : Program} {w : World} {A : Around} {E : Value → Shared → Prop} {s : Shared} {K : PySem.W.Frag} {x dx C f : Addr} {mA : Str → Option Value} {name : Str} {v : Value}
theorem get_map {expr : Bool} {Q : Value → Shared → Prop} (X : K.In s.heap) (I : ObjM s.heap x dx C mA) (hg : PySem.W.plainGet K C name = true) (hh : PySem.W.hasDictIn K C = true)
    (ha : PySem.W.findIn K (.ref C) name = some none) (hv : mA name = some v) (hv' : PySem.W.handedIn v = true) (h : Q v { s with toks := s.toks + 1 }) :
    wpAny (model prog w) A (getAttr (.ref x) name expr) Q E s := by
  obtain ⟨od, J, hl⟩ := I.look
  exact PySem.W.get_value X J (PySem.W.plainGet_of hg).1 (PySem.W.findObj_own hh ha rfl (by rw [hl, hv])) hv' h
theorem get_meth {pl : Sem Bool} {Q : Value × List Value → Shared → Prop} (X : K.In s.heap) (I : ObjM s.heap x dx C mA) (hg : PySem.W.plainGet K C name = true)
    (hf : PySem.W.findIn K (.ref C) name = some (some (.ref f))) (ht : PySem.W.isFn K (.ref f) = true) (hv : mA name = none) (h : Q (.ref f, [.ref x]) s) :
    wpAny (model prog w) A (getMethod (.ref x) name pl) Q E s := by
  obtain ⟨od, J, hl⟩ := I.look
  exact PySem.W.method_fn X J (PySem.W.plainGet_of hg).1 (PySem.W.plainGet_of hg).2 hf (beq_iff_eq.mp ht) (by show (PySem.W.lookIn name od).map (·.isSome) = some false; rw [hl, hv]; rfl) h
theorem set_map {ns : List Str} {Q : Unit → Shared → Prop} (X : K.In s.heap) (I : ObjM s.heap x dx C mA)
    (hs : PySem.W.findIn K (.ref C) "__setattr__" = some (some (.builtin "object.__setattr__"))) (hp : PySem.W.plainOver K C = true) (ht : PySem.W.takerIn K C name = some none) (hh : PySem.W.hasDictIn K C = true)
    (hw : PySem.Within mA ns) (hsz : ns.length ≤ sizeLine)
    (h : ∀ h', ObjM h' x dx C (fun y => if y = name then some v else mA y) → Heap.SameBut dx s.heap h' → Q () { s with heap := h', toks := s.toks + 2 }) :
    wpAny (model prog w) A (setAttr (.ref x) name v) Q E s := by
  obtain ⟨od, J, hl⟩ := I.look
  refine PySem.W.set_plain X J hs (PySem.W.osa_open (s := { s with toks := s.toks + 1 }) (r := none) X J hp ht fun b => ?_)
  obtain ⟨cd, hc, hd'⟩ := PySem.W.any_some hh
  have hx : s.heap.get? x = some ⟨.ref C, some dx, .plain, #[]⟩ := I.obj
  refine wpAny_bind (wpAny_pure (wpAny_bind (wpAny_bind (wpAny_loadPart hx (wpAny_bind (PySem.W.Looks.here (s := { s with toks := s.toks + 1 }) (PySem.W.looks_clsIn X hc) ?_))))))
  rw [hd']
  refine wpAny_pure (a := some dx) (wpAny_bind (wpAny_pure (wpAny_bind ?_)))
  refine wpAny_nsSet1 (s := { s with toks := s.toks + 1 }) I.ns fun h' hn2 hs2 => ?_
  obtain ⟨oD, esD, epD, hoD, hdD, hcD⟩ := hn2.count (PySem.Within.cons name v hw)
  refine wpAny_bind (wpAny_lookBehind hoD (by rw [hdD]; exact pastItsLine_dict (Nat.le_trans hcD (by rw [List.length_cons]; omega))) ?_)
  exact wpAny_pure (h _ ⟨(hs2.2 _ (Ne.symm I.ne)).trans I.obj, hn2, I.ne⟩ hs2)
theorem make_map {R : Result → Shared → Prop} {vs : List Value} {kw : List (Str × Value)} (X : K.In s.heap) (hm : PySem.W.makesIn K C = true)
    (hi : PySem.W.findIn K (.ref C) "__init__" = some (some (.ref f))) (hf : PySem.W.typeIn K (.ref f) = some (.type "function"))
    (h : codeAny (model prog w) (A.under (.builtin "type.__call__" ⟨.ref C :: vs, kw⟩)) (.call (.ref f) ⟨.ref (s.heap.objs.size + 1) :: vs, kw⟩) (PySem.W.InitBack (s.heap.objs.size + 1) R)
      { s with heap := (s.heap.push PySem.W.emptyDict).push (PySem.W.instObj C s.heap.objs.size) }) :
    codeAny (model prog w) A (.call (.ref C) ⟨vs, kw⟩) R s := by
  obtain ⟨hh, g, d, t, os⟩ := s
  exact PySem.W.make_core (PySem.W.makes_of X hm) (PySem.W.looks_findIn X hi) (fun self => PySem.W.bind_fn X self hf) (.inl rfl) h
end
def putF (f : Str) (v : V) : List (Str × V) → List (Str × V)
  | [] => [(f, v)]
  | (g, x) :: r => if g = f then (g, v) :: r else (g, x) :: putF f v r
theorem lookup_putF (f g : Str) (v : V) : ∀ fs : List (Str × V), (putF f v fs).lookup g = if g = f then some v else fs.lookup g
  | [] => by
    show List.lookup g [(f, v)] = _
    by_cases h : g = f
    · have hb : (g == f) = true := beq_iff_eq.mpr h
      simp only [List.lookup, hb, if_pos h]
    · have hb : (g == f) = false := beq_eq_false_iff_ne.mpr h
      simp only [List.lookup, hb, if_neg h]
  | (k, x) :: r => by
    have ih := lookup_putF f g v r
    rw [show putF f v ((k, x) :: r) = (if k = f then (k, v) :: r else (k, x) :: putF f v r) from rfl]
    by_cases hk : k = f
    · rw [if_pos hk]
      by_cases h : g = k
      · have hb : (g == k) = true := beq_iff_eq.mpr h
        simp only [List.lookup, hb, if_pos (h.trans hk)]
      · have hb : (g == k) = false := beq_eq_false_iff_ne.mpr h
        simp only [List.lookup, hb, if_neg (fun e : g = f => h (e.trans hk.symm))]
    · rw [if_neg hk]
      by_cases h : g = k
      · have hb : (g == k) = true := beq_iff_eq.mpr h
        simp only [List.lookup, hb, if_neg (fun e : g = f => hk (h.symm.trans e))]
      · have hb : (g == k) = false := beq_eq_false_iff_ne.mpr h
        simp only [List.lookup, hb]
        exact ih
theorem keys_putF (f : Str) (v : V) : ∀ fs : List (Str × V), f ∈ (putF f v fs).map (·.1) ∧ ∀ g, g ∈ fs.map (·.1) → g ∈ (putF f v fs).map (·.1)
  | [] => ⟨by simp [putF], fun g h => by simp at h⟩
  | (k, x) :: r => by
    obtain ⟨i1, i2⟩ := keys_putF f v r
    rw [show putF f v ((k, x) :: r) = (if k = f then (k, v) :: r else (k, x) :: putF f v r) from rfl]
    by_cases hk : k = f
    · rw [if_pos hk]
      subst hk
      exact ⟨by simp, fun g h => by simpa using h⟩
    · rw [if_neg hk]
      refine ⟨?_, fun g h => ?_⟩
      · rw [List.map_cons]
        exact List.mem_cons_of_mem _ i1
      · rw [List.map_cons] at h ⊢
        rcases List.mem_cons.mp h with e | e
        · exact List.mem_cons.mpr (.inl e)
        · exact List.mem_cons_of_mem _ (i2 g e)
theorem length_putF (f : Str) (v : V) : ∀ fs : List (Str × V), (putF f v fs).length ≤ fs.length + 1
  | [] => by simp [putF]
  | (k, x) :: r => by
    have ih := length_putF f v r
    rw [show putF f v ((k, x) :: r) = (if k = f then (k, v) :: r else (k, x) :: putF f v r) from rfl]
    by_cases hk : k = f
    · rw [if_pos hk, List.length_cons, List.length_cons]; omega
    · rw [if_neg hk, List.length_cons, List.length_cons]; omega
theorem RelO.some_of {v : V} {o : Option Value} (r : RelO (some v) o) : ∃ u, o = some u ∧ RelV v u := by
  cases o with
  | none => exact (show False from r).elim
  | some u => exact ⟨u, rfl, r⟩
theorem RelO.none_of {o : Option Value} (r : RelO none o) : o = none := by
  cases o with
  | none => rfl
  | some u => exact (show False from r).elim
theorem handed_of {v : V} {u : Value} (r : RelV v u) : PySem.W.handedIn u = true := by
  cases v with
  | non => cases (show u = Value.none from r); rfl
  | bl b => cases (show u = Value.bool b from r); rfl
  | int i => obtain ⟨t, e⟩ := (show ∃ t, u = Value.int i t from r); cases e; rfl
  | str x => obtain ⟨t, e⟩ := (show ∃ t, u = Value.str x t from r); cases e; rfl
  | byt b => obtain ⟨t, e⟩ := (show ∃ t, u = Value.bytes b t from r); cases e; rfl
  | flt b => obtain ⟨t, e⟩ := (show ∃ t, u = Value.float b t from r); cases e; rfl
  | ref a => cases (show u = Value.ref a from r); rfl
  | ty n => cases (show u = Value.type n from r); rfl
section
variable {P : Program} {w : World} {H H' : Hp} {h h' : Heap} {a C dx : Addr} {fs fs' : List (Str × V)}
theorem ins_get (hok : HOk P w H h) (e : H a = some (.ins C dx fs)) : ∃ mA, ObjM h a dx C mA ∧ (∀ f, RelO (fs.lookup f) (mA f)) ∧ PySem.Within mA (fs.map (·.1)) ∧ fs.length ≤ 1000 ∧ H dx = some (.own a) := by
  obtain ⟨d, z, ne, ob, mA, n, r, q⟩ := (show ObjOk P w H h a (.ins C dx fs) from hok a _ e)
  exact ⟨mA, ⟨ob, n, ne⟩, r, q, z, d⟩
end
structure Cls (K : PySem.W.Frag) (C : Addr) : Prop where
  pg : PySem.W.plainGet K C Str.empty = true
  hd : PySem.W.hasDictIn K C = true
  po : PySem.W.plainOver K C = true
  sa : PySem.W.findIn K (.ref C) "__setattr__" = some (some (.builtin "object.__setattr__"))
theorem Cls.get {K : PySem.W.Frag} {C : Addr} (c : Cls K C) (f : Str) : PySem.W.plainGet K C f = true := c.pg
def NoAttr (K : PySem.W.Frag) (C : Addr) (f : Str) : Prop := PySem.W.findIn K (.ref C) f = some none
theorem NoAttr.taker {K : PySem.W.Frag} {C : Addr} {f : Str} (n : NoAttr K C f) : PySem.W.takerIn K C f = some none := by
  unfold PySem.W.takerIn
  rw [show PySem.W.findIn K (.ref C) f = some none from n]
  rfl
structure Meth (K : PySem.W.Frag) (C : Addr) (m : Str) (f : Addr) : Prop where
  at_ : PySem.W.findIn K (.ref C) m = some (some (.ref f))
  fn : PySem.W.isFn K (.ref f) = true
  kp : PySem.W.keepIn K (.ref f) = true
section
variable {X : Cx} {pins : List (Addr × Obj)} {σ : St} {H : Hp} {s : Shared} {a C dx : Addr} {fs : List (Str × V)} {f : Str} {v : V} {A : Around} {E : Value → Shared → Prop}
theorem getattr_ok {b : Bool} {Q : Value → Shared → Prop} (I : Inv X pins σ H s) (e : H a = some (.ins C dx fs)) (c : Cls X.K C) (n : NoAttr X.K C f) (l : fs.lookup f = some v)
    (h : ∀ u s', Inv X pins σ H s' → RelV v u → Q u s') : wpAny (model X.prog X.w) A (getAttr (.ref a) f b) Q E s := by
  obtain ⟨mA, O, r, _, _, _⟩ := ins_get I.hok e
  obtain ⟨u, hu, ru⟩ := RelO.some_of (v := v) (o := mA f) (by rw [← l]; exact r f)
  exact get_map I.kIn O (c.get f) c.hd n hu (handed_of ru) (h u _ (I.tok _) ru)
theorem getmeth_ok {m : Str} {g : Addr} {pl : Sem Bool} {Q : Value × List Value → Shared → Prop} (I : Inv X pins σ H s) (e : H a = some (.ins C dx fs)) (c : Cls X.K C) (k : Meth X.K C m g) (l : fs.lookup m = none)
    (h : Q (.ref g, [.ref a]) s) : wpAny (model X.prog X.w) A (getMethod (.ref a) m pl) Q E s := by
  obtain ⟨mA, O, r, _, _, _⟩ := ins_get I.hok e
  have hn : mA m = none := RelO.none_of (by rw [← l]; exact r m)
  exact get_meth I.kIn O (c.get m) k.at_ k.fn hn h
theorem setattr_ok {y : V} {u : Value} {Q : Unit → Shared → Prop} (I : Inv X pins σ H s) (e : H a = some (.ins C dx fs)) (c : Cls X.K C) (n : NoAttr X.K C f) (hl : fs.length < 1000) (ry : RelV y u)
    (h : ∀ s', Inv X pins σ (upd H a (.ins C dx (putF f y fs))) s' → Q () s') : wpAny (model X.prog X.w) A (setAttr (.ref a) f u) Q E s := by
  obtain ⟨mA, O, r, wi, _, ho⟩ := ins_get I.hok e
  have hz : (fs.map (·.1)).length ≤ sizeLine := by rw [List.length_map, sizeLine_eq]; omega
  refine set_map I.kIn O c.sa c.po n.taker c.hd wi hz fun h' O' sb => h _ ?_
  have hd : ∃ o, h'.get? dx = some o := let ⟨o, _, _, e', _⟩ := O'.ns; ⟨o, e'⟩
  refine I.write (x := a) (e := dx) (by rw [e]; exact True.intro) (.inr ho) (fun b q hb z => (sb.2 b hb).trans z) hd ?_
  refine ⟨by rw [upd_ne O.ne]; exact ho, ?_, O.ne, O'.obj, _, O'.ns, fun g => ?_, fun g hg => ?_⟩
  · have := length_putF f y fs; omega
  · show RelO ((putF f y fs).lookup g) (if g = f then some u else mA g)
    rw [lookup_putF]
    by_cases q : g = f
    · rw [if_pos q, if_pos q]; exact ry
    · rw [if_neg q, if_neg q]; exact r g
  · by_cases q : g = f
    · rw [q]; exact (keys_putF f y fs).1
    · refine (keys_putF f y fs).2 g (wi g fun z => hg ?_)
      show (if g = f then some u else mA g) = none
      rw [if_neg q]; exact z
theorem Inv.made (I : Inv X pins σ H s) : Inv X pins σ (upd (upd H s.heap.objs.size (.own (s.heap.objs.size + 1))) (s.heap.objs.size + 1) (.ins C s.heap.objs.size []))
    { s with heap := (s.heap.push PySem.W.emptyDict).push (PySem.W.instObj C s.heap.objs.size) } := by
  have e1 : (s.heap.push PySem.W.emptyDict).get? s.heap.objs.size = some PySem.W.emptyDict := Heap.get?_push_size s.heap rfl
  have e2 : ((s.heap.push PySem.W.emptyDict).push (PySem.W.instObj C s.heap.objs.size)).get? (s.heap.objs.size + 1) = some (PySem.W.instObj C s.heap.objs.size) := by
    have := Heap.get?_push_size (s.heap.push PySem.W.emptyDict) (o := PySem.W.instObj C s.heap.objs.size) rfl
    rwa [Heap.size_push] at this
  have e3 : (s.heap.push PySem.W.emptyDict).Ns s.heap.objs.size (fun _ => none) := ⟨PySem.W.emptyDict, #[], _, e1, rfl, (fun e he => absurd he (by simp)), fun _ => rfl⟩
  have I1 := I.laid (a := s.heap.objs.size) (o := .own (s.heap.objs.size + 1)) (h' := s.heap.push PySem.W.emptyDict) (t' := s.toks) (fun b u q => Heap.get?_push_of_some _ q) (Nat.le_refl _) ⟨_, e1⟩
  refine I1.laid (a := s.heap.objs.size + 1) (o := .ins C s.heap.objs.size []) (t' := s.toks) (fun b u q => Heap.get?_push_of_some _ q) (Nat.le_of_eq (Heap.size_push _ _)) ?_
  have ne : s.heap.objs.size ≠ s.heap.objs.size + 1 := Nat.ne_of_lt (Nat.lt_succ_self _)
  refine ⟨by rw [upd_ne ne, upd_same], Nat.zero_le _, ne, e2, fun _ => none, (Heap.Ns1.of_empty e3).at fun o q => Heap.get?_push_of_some _ q, fun _ => True.intro, fun y hy => absurd rfl hy⟩
theorem attr_of {prog : Program} {w : World} {env : Env} {e : Expr} {f : Str} {pos : Pos} {s : Shared} {Q : Value → Shared → Prop} (hb : attributeBase e f env (eval e env) = eval e env)
    (h : wpAny (model prog w) A (eval e env) (fun o s₁ => wpAny (model prog w) A (getAttr o f true) Q E s₁) E s) : wpAny (model prog w) A (eval (.Attribute e f pos) env) Q E s :=
  Attribute_any_ h (by rw [arm_eval_Attribute, hb])
end
def tFld (K : PySem.W.Frag) (ta : TE) (f : Str) : TE := fun σ H Q => ta σ H fun x H1 => ∃ a C dx fs v, x = .ref a ∧ H1 a = some (.ins C dx fs) ∧ Cls K C ∧ NoAttr K C f ∧ fs.lookup f = some v ∧ Q v H1
def sFld (K : PySem.W.Frag) (ta tv : TE) (f : Str) : TS := fun D σ H => tv σ H fun y H1 => ta σ H1 fun x H2 => ∃ a C dx fs, x = .ref a ∧ H2 a = some (.ins C dx fs) ∧ Cls K C ∧ NoAttr K C f ∧ fs.length < 1000 ∧
  D.nx σ (upd H2 a (.ins C dx (putF f y fs)))
section
variable {X : Cx} {o e value : Expr} {f : Str} {pos pos' tpos : Pos} {ta tv : TE}
theorem pe_fld (he : PE X e ta) (hb : attributeBase e f X.env (eval e X.env) = eval e X.env) : PE X (.Attribute e f pos) (tFld X.K ta f) := by
  intro pins s σ H Q I h
  refine attr_of hb (thn (he pins s σ H _ I h) fun u s1 ⟨x, H1, I1, rx, a, C, dx, fs, v, ex, ea, c, n, l, q⟩ => ?_)
  subst ex
  obtain rfl : u = Value.ref a := rx
  exact getattr_ok I1 ea c n l fun u' s2 I2 ru => ⟨v, H1, I2, ru, q⟩
theorem ps_fld (ha : PE X o ta) (hv : PE X value tv) (hs : swapsWith value (some (.Attribute o f pos')) pos.line X.env = pure false) : PS X (.Assign [.Attribute o f pos'] value pos) (sFld X.K ta tv f) := by
  intro pins s σ H D I h
  refine plainObj_wpAny_Assign_Attribute (thn (hv pins s σ H _ I h) fun u s1 ⟨y, H1, I1, ry, q⟩ => thn (ha pins s1 σ H1 _ I1 q) fun ov s2 ⟨x, H2, I2, rx, a, C, dx, fs, ex, ea, c, n, l, q2⟩ => ?_) hs
  subst ex
  obtain rfl : ov = Value.ref a := rx
  exact setattr_ok I2 ea c n l ry fun s3 I3 => ⟨σ, _, I3, q2⟩
theorem methcall_of {pl : Sem Bool} {m : Str} {apos : Pos} {args : List Expr} {pins : List (Addr × Obj)} {s : Shared} {σ : St} {H : Hp} {Q : Value → Shared → Prop} {te : TE} (he : PE X e te) (I : Inv X pins σ H s)
    (h : te σ H fun x H1 => ∃ a C dx fs g, x = .ref a ∧ H1 a = some (.ins C dx fs) ∧ Cls X.K C ∧ Meth X.K C m g ∧ fs.lookup m = none ∧
      ∀ s1, Inv X pins σ H1 s1 → wpAny (model X.prog X.w) X.A (callWith pos (.ref g) [.ref a] (backTo pos (starEach args X.env)) (backToKw pos (keywordEach [] X.env))) Q X.xe s1)
    (ht : eval (.Call (.Attribute e m apos) args [] pos) X.env = (do
      let ov ← eval e X.env
      standAt apos.atName
      let (f, first) ← holding [ov] (getMethod ov m pl)
      callWith pos f first (backTo pos (starEach args X.env)) (backToKw pos (keywordEach [] X.env)))) :
    wpAny (model X.prog X.w) X.A (eval (.Call (.Attribute e m apos) args [] pos) X.env) Q X.xe s := by
  refine PySem.W.methodCall_KW (pl := pl) (thn (he pins s σ H _ I h) fun u s1 ⟨x, H1, I1, rx, a, C, dx, fs, g, ex, ea, c, k, l, q⟩ => ?_) ht
  subst ex
  obtain rfl : u = Value.ref a := rx
  exact getmeth_ok I1 ea c k l (q s1 I1)
end
section
variable {X : Cx} {pins : List (Addr × Obj)} {σ : St} {H : Hp} {s : Shared} {A : Around} {E : Value → Shared → Prop} {Q : Value → Shared → Prop} {c : Value} {b : Bool}
inductive TyOf (K : PySem.W.Frag) (H : Hp) : V → Value → Prop where
  | non : TyOf K H .non (.type "NoneType")
  | bl (x : Bool) : TyOf K H (.bl x) (.type "bool")
  | int (i : Int) : TyOf K H (.int i) (.type "int")
  | str (x : Str) : TyOf K H (.str x) (.type "str")
  | flt (x : UInt64) : TyOf K H (.flt x) (.type "float")
  | lst {a : Addr} {xs : List V} (e : H a = some (.lst xs)) : TyOf K H (.ref a) (.type "list")
  | frz {a : Addr} {o : Obj} {xs : List V} (e : H a = some (.frz o (.lst xs))) : TyOf K H (.ref a) (.type "list")
  | tup {a : Addr} {xs : List V} (e : H a = some (.tup xs)) : TyOf K H (.ref a) (.type "tuple")
  | dK {a : Addr} {kvs : List (Key × V)} (e : H a = some (.dK kvs)) : TyOf K H (.ref a) (.type "dict")
  | dT {a : Addr} {kvs : List (List Key × V)} (e : H a = some (.dT kvs)) : TyOf K H (.ref a) (.type "dict")
  | ins {a C dx : Addr} {fs : List (Str × V)} (e : H a = some (.ins C dx fs)) (cl : Cls K C) (ha : PySem.W.findIn K (.ref C) "__class__" = some (some (.builtin "object.__class__")))
      (hn : PySem.W.specialIn K (.builtin "object.__class__") "__get__" = some (some (.builtin "getset_descriptor.__get__"))) (htk : PySem.W.takesIn K (.builtin "object.__class__") = some true)
      (hm : PySem.W.mroIn K C (.type "object") = some true) : TyOf K H (.ref a) (.ref C)
theorem isinst_ok {x : V} {u t : Value} (I : Inv X pins σ H s) (rx : RelV x u) (ty : TyOf X.K H x t) (e : PySem.W.kitOne X.K t c = some b) (h : ∀ tk, Q (.bool b) { s with toks := tk }) :
    wpAny (model X.prog X.w) A (call (.builtin "isinstance") [u, c]) Q E s := by
  cases ty with
  | non => cases (show u = Value.none from rx); exact PySem.W.kia_one PySem.W.kitx_none I.kIn True.intro e (fun z => nomatch z) h
  | bl y => cases (show u = Value.bool y from rx); exact PySem.W.kia_one PySem.W.kitx_bool I.kIn True.intro e (fun z => nomatch z) h
  | int i => obtain ⟨t, q⟩ := (show ∃ t, u = Value.int i t from rx); cases q; exact PySem.W.kia_one PySem.W.kitx_int I.kIn True.intro e (fun z => nomatch z) h
  | str y => obtain ⟨t, q⟩ := (show ∃ t, u = Value.str y t from rx); cases q; exact PySem.W.kia_one PySem.W.kitx_str I.kIn True.intro e (fun z => nomatch z) h
  | flt y => obtain ⟨t, q⟩ := (show ∃ t, u = Value.float y t from rx); cases q; exact PySem.W.kia_one PySem.W.kitx_float I.kIn True.intro e (fun z => nomatch z) h
  | @lst a xs ea =>
    cases (show u = Value.ref a from rx)
    obtain ⟨_, _, n, _, h1⟩ := (show ObjOk X.prog X.w H s.heap a (.lst xs) from I.hok a _ ea)
    exact PySem.W.kia_one PySem.W.kitx_list I.kIn ⟨_, h1, rfl⟩ e (fun z => nomatch z) h
  | @frz a ob xs ea =>
    cases (show u = Value.ref a from rx)
    obtain ⟨_, _, _, n, _, h1⟩ := (show ObjOk X.prog X.w H s.heap a (.frz ob (.lst xs)) from I.hok a _ ea)
    exact PySem.W.kia_one PySem.W.kitx_list I.kIn ⟨_, h1, rfl⟩ e (fun z => nomatch z) h
  | @tup a xs ea =>
    cases (show u = Value.ref a from rx)
    obtain ⟨_, _, _, p⟩ := (show ObjOk X.prog X.w H s.heap a (.tup xs) from I.hok a _ ea)
    obtain ⟨o, h1, h2, _⟩ := p
    exact PySem.W.kia_one PySem.W.kitx_tuple I.kIn ⟨o, h1, h2⟩ e (fun z => nomatch z) h
  | @dK a kvs ea =>
    cases (show u = Value.ref a from rx)
    obtain ⟨_, _, vs, _, p⟩ := (show ObjOk X.prog X.w H s.heap a (.dK kvs) from I.hok a _ ea)
    obtain ⟨o, es, ep, h1, h2, _⟩ := p
    exact PySem.W.kia_one PySem.W.kitx_dict I.kIn ⟨o, h1, h2.1⟩ e (fun z => nomatch z) h
  | @dT a kvs ea =>
    cases (show u = Value.ref a from rx)
    obtain ⟨_, _, xs, _, o, es, ep, h1, h2, _⟩ := (show ObjOk X.prog X.w H s.heap a (.dT kvs) from I.hok a _ ea)
    exact PySem.W.kia_one PySem.W.kitx_dict I.kIn ⟨o, h1, h2.1⟩ e (fun z => nomatch z) h
  | @ins a C dx fs ea cl ha hn htk hm =>
    cases (show u = Value.ref a from rx)
    obtain ⟨mA, O, _⟩ := ins_get I.hok ea
    obtain ⟨od, J, _⟩ := O.look
    exact PySem.W.kia_one (PySem.W.kitx_own (cl.get _) cl.hd ha hn htk hm) I.kIn J e (fun z => nomatch z) h
end
end L2
namespace L2
open PySem PySem.Spec PyProof.Rows
structure Room (k : Nat) (A : Around) : Prop where
  hd : A.handled = none
  dp : A.depth + 3 * k + 5 < recursionLimit
  un : A.units + 16 * k + 200 < cLine
theorem Room.mono {j k : Nat} {A : Around} (r : Room k A) (h : j ≤ k) : Room j A := ⟨r.hd, by have := r.dp; omega, by have := r.un; omega⟩
theorem Room.deeper {k : Nat} {A : Around} (r : Room (k + 1) A) (env : Env) : Room k (A.deeper env) :=
  ⟨r.hd, by have := r.dp; show A.depth + 1 + 3 * k + 5 < _; omega, by have := r.un; show A.units + 3 + 16 * k + 200 < _; omega⟩
theorem make_depth {A : Around} {C : Addr} {us : List Value} {kw : List (Str × Value)} : (A.under (.builtin "type.__call__" ⟨.ref C :: us, kw⟩)).depth = A.depth + 1 := by
  first | rfl | simp [Around.under, Code.weight, Code.isCreation, Code.isGuard, Code.isCaller, Code.frames, Code.isFrame, guardIds]
theorem make_units {A : Around} {C : Addr} {us : List Value} {kw : List (Str × Value)} : (A.under (.builtin "type.__call__" ⟨.ref C :: us, kw⟩)).units = A.units + 1 := by
  first | rfl | simp [Around.under, Code.cUnits, Code.frames, Code.isFrame]
theorem Room.make {k : Nat} {A : Around} (r : Room (k + 1) A) (C : Addr) (us : List Value) (kw : List (Str × Value)) : Room k (A.under (.builtin "type.__call__" ⟨.ref C :: us, kw⟩)) :=
  ⟨r.hd, by have := r.dp; rw [make_depth]; omega, by have := r.un; rw [make_units]; omega⟩
theorem Room.depth {k : Nat} {A : Around} (r : Room k A) : A.depth < recursionLimit := by have := r.dp; omega
theorem Room.units {k : Nat} {A : Around} (r : Room k A) : A.units + 64 < cLine := by have := r.un; omega
def tNil : TA := fun _ H Q => Q [] H
def tCons (ta : TE) (tr : TA) : TA := fun σ H Q => ta σ H fun x H1 => tr σ H1 fun xs H2 => Q (x :: xs) H2
section
variable {X : Cx} {e : Expr} {es : List Expr} {te : TE} {t : TA} {pos : Pos}
theorem pa_nil : PA X [] tNil := fun _ _ _ _ H Q I h => Calls.spliced_nil ⟨[], H, I, .nil, h⟩
theorem pa_cons (ha : PE X e te) (hr : PA X es t) (hs : starEach (e :: es) X.env = (false, eval e X.env) :: starEach es X.env := by rfl) : PA X (e :: es) (tCons te t) := by
  intro pos pins s σ H Q I h
  rw [hs]
  show wpAny _ _ (spliced ((false, eval e X.env) :: backTo pos (starEach es X.env))) _ _ s
  refine Calls.spliced_cons (thn (ha pins s σ H _ I h) fun u s1 ⟨x, H1, I1, r1, q1⟩ => ?_)
  exact thn (hr pos pins s1 σ H1 _ I1 q1) fun us s2 ⟨xs, H2, I2, r2, q2⟩ => ⟨x :: xs, H2, I2, .cons r1 r2, q2⟩
def tTup (t : TA) : TE := fun σ H Q => t σ H fun xs H1 => xs.length ≤ sizeLine ∧ ∀ p, H1 p = none → Q (.ref p) (upd H1 p (.tup xs))
def tLst (t : TA) : TE := fun σ H Q => t σ H fun xs H1 => xs.length ≤ sizeLine ∧ ∀ p, H1 p = none → Q (.ref p) (upd H1 p (.lst xs))
theorem pe_tup {x1} (h : PA X es t) : PE X (.Tuple es x1 pos) (tTup t) := by
  intro pins s σ H Q I hq
  refine wpAny_Tuple_spliced (thn (h pos pins s σ H _ I hq) fun us s1 ⟨xs, H1, I1, r, z, q⟩ => ⟨by rw [← r.length]; exact z, ?_⟩)
  have hf : H1 s1.heap.objs.size = none := I1.hok.fresh (Nat.le_refl _)
  refine ⟨.ref s1.heap.objs.size, upd H1 s1.heap.objs.size (.tup xs), I1.laid (t' := s1.toks) (fun b u e => Heap.get?_push_of_some _ e) (Nat.le_refl _) ?_, rfl, q _ hf⟩
  exact ⟨z, us, r, ⟨_, Heap.get?_push_size _ rfl, rfl, _, rfl⟩⟩
theorem pe_lst (h : PA X es t) : PE X (.List es pos) (tLst t) := by
  intro pins s σ H Q I hq
  refine wpAny_List_spliced (thn (h pos pins s σ H _ I hq) fun us s1 ⟨xs, H1, I1, r, z, q⟩ => ⟨by rw [← r.length]; exact z, ?_⟩)
  have hf : H1 s1.heap.objs.size = none := I1.hok.fresh (Nat.le_refl _)
  refine ⟨.ref s1.heap.objs.size, upd H1 s1.heap.objs.size (.lst xs), I1.laid (t' := s1.toks) (fun b u e => Heap.get?_push_of_some _ e) (Nat.le_refl _) ?_, rfl, q _ hf⟩
  exact ⟨z, us, 0, r, Heap.get?_push_size _ rfl⟩
end
abbrev Sp := List V → Hp → VK → XK → Prop
abbrev CXT := List Env → Hp → Shared → XK → Value → Shared → Prop
structure Env0 (P : Program) (w : World) (K : PySem.W.Frag) (mg : Str → Option Value) (base : Heap) (A : Around) (outer : List Env) (s : Shared) (H : Hp) : Prop where
  frames : A.frames = some outer
  mod : Mod K mg base
  bs : ∀ b o, base.get? b = some o → s.heap.get? b = some o ∧ H b = none
  bsz : base.objs.size ≤ s.heap.objs.size
  funs : s.heap.FunFrames base outer
  frf : ∀ b ∈ frs outer, H b = none
  hok : HOk P w H s.heap
  bare : AllBare s.gens
def CE (outer : List Env) (P : Program) (w : World) (H : Hp) (s : Shared) (Q : VK) (u : Value) (s' : Shared) : Prop :=
  ∃ v H', s'.os = s.os ∧ AllBare s'.gens ∧ Un (frs outer) [] H H' s.heap s'.heap ∧ HOk P w H' s'.heap ∧ RelV v u ∧ Q v H'
def CR (CX : CXT) (outer : List Env) (P : Program) (w : World) (H : Hp) (s : Shared) (Q : VK) (E : XK) (r : Result) (s' : Shared) : Prop :=
  match r with
  | .ok (.ret u) => CE outer P w H s Q u s'
  | .ok _ => False
  | .error e => CX outer H s E e s'
structure FnOk (P : Program) (w : World) (K : PySem.W.Frag) (mg : Str → Option Value) (base : Heap) (CX : CXT) (k : Nat) (f : Addr) (fd : FuncData) (ps : List Str) (sp : Sp) : Prop where
  len : ∀ vs H Q E, sp vs H Q E → vs.length = ps.length
  run : ∀ (A : Around) (outer : List Env) (s : Shared) (H : Hp) (args : Args) (us : List Value) (vs : List V) (Q : VK) (E : XK), Room k A → Env0 P w K mg base A outer s H → BindsTo s fd args (ps.zip us) → Vals vs us → sp vs H Q E →
    codeAny (model P w) A (.call (.ref f) args) (CR CX outer P w H s Q E) s
theorem Env0.make {P : Program} {w : World} {K : PySem.W.Frag} {mg : Str → Option Value} {base : Heap} {A : Around} {outer : List Env} {s : Shared} {H : Hp} (e : Env0 P w K mg base A outer s H) (C : Addr) (us : List Value) (kw : List (Str × Value)) :
    Env0 P w K mg base (A.under (.builtin "type.__call__" ⟨.ref C :: us, kw⟩)) outer s H := ⟨by first | exact e.frames | (simpa [Around.under, Code.envs, Code.isFrame, pushEnvs] using e.frames), e.mod, e.bs, e.bsz, e.funs, e.frf, e.hok, e.bare⟩
section
variable {X : Cx} {pins : List (Addr × Obj)} {σ : St} {H : Hp} {s s' : Shared}
theorem Inv.env0 (I : Inv X pins σ H s) : Env0 X.prog X.w X.K X.mg X.base X.A X.stack s H :=
  ⟨I.ok.frames, I.ok.mod, I.bs, Nat.le_trans I.ok.bsz I.sz, I.stack, I.stkFree, I.hok, I.bare⟩
theorem Inv.after {Q : VK} {u : Value} (I : Inv X pins σ H s) (h : CE X.stack X.prog X.w H s Q u s') : EP X pins σ Q u s' := by
  obtain ⟨v, H', os, bare, un, hok, r, q⟩ := h
  obtain ⟨hh, g, d, t, os'⟩ := s'
  obtain rfl : os' = s.os := os
  exact ⟨v, H', I.call (h' := hh) (g' := g) (d' := d) (t' := t) (ch := []) un hok bare (fun b z => absurd z (by simp)), r, q⟩
end
def tCall (sp : Sp) (dvs : List V) (E : XK) (t : TA) : TE := fun σ H Q => t σ H fun vs H1 => sp (vs ++ dvs) H1 Q E
def tMeth (C : Addr) (m : Str) (sp : Sp) (dvs : List V) (E : XK) (ta : TE) (t : TA) : TE := fun σ H Q => ta σ H fun x H1 => ∃ a dx fs, x = .ref a ∧ H1 a = some (.ins C dx fs) ∧ fs.lookup m = none ∧
  t σ H1 fun vs H2 => sp (x :: (vs ++ dvs)) H2 Q E
def tMake (C : Addr) (sp : Sp) (dvs : List V) (E : XK) (t : TA) : TE := fun σ H Q => t σ H fun vs H1 => ∀ x dx, H1 x = none → H1 dx = none → dx ≠ x →
  sp (.ref x :: (vs ++ dvs)) (upd (upd H1 dx (.own x)) x (.ins C dx [])) (fun v H2 => v = .non ∧ Q (.ref x) H2) E
def Binds (K : PySem.W.Frag) (fd : FuncData) (ps : List Str) (ds : List Value) : Prop :=
  ∀ (s : Shared) (us : List Value), K.In s.heap → (us ++ ds).length = ps.length → BindsTo s fd ⟨us, []⟩ (ps.zip (us ++ ds))
theorem Binds.all {K : PySem.W.Frag} {fd : FuncData} {ps : List Str} (h : ∀ us : List Value, us.length = ps.length → bindArgs fd ⟨us, []⟩ = pure (ps.zip us)) : Binds K fd ps [] := fun s us _ hl => by
  rw [List.append_nil] at hl ⊢
  exact .of_eq (h us hl)
def Passes (CX : CXT) (X : Cx) (E : XK) : Prop := ∀ (pins : List (Addr × Obj)) (σ : St) (H : Hp) (s : Shared) (e : Value) (s' : Shared), Inv X pins σ H s → CX X.stack H s E e s' → X.xe e s'
section
variable {X : Cx} {CX : CXT} {k : Nat} {f C : Addr} {fd : FuncData} {ps : List Str} {sp : Sp} {dvs : List V} {ds : List Value} {E : XK} {x m : Str} {p pos apos : Pos} {e o : Expr} {es : List Expr} {ta : TE} {t : TA}
theorem run_fn {pins : List (Addr × Obj)} {σ : St} {H : Hp} {s : Shared} {Q : VK} {us : List Value} {vs : List V} (F : FnOk X.prog X.w X.K X.mg X.base CX k f fd ps sp) (hr : Room k X.A) (hb : Binds X.K fd ps ds) (hd : Vals dvs ds) (hx : Passes CX X E)
    (I : Inv X pins σ H s) (r : Vals vs us) (h : sp (vs ++ dvs) H Q E) : wpAny (model X.prog X.w) X.A (call (.ref f) us) (EP X pins σ Q) X.xe s := by
  have r2 : Vals (vs ++ dvs) (us ++ ds) := r.append hd
  have hl : (us ++ ds).length = ps.length := by rw [← r2.length]; exact F.len _ _ _ _ h
  refine wpAny_call (codeAny_mono (F.run X.A X.stack s H ⟨us, []⟩ (us ++ ds) (vs ++ dvs) Q E hr I.env0 (hb s us I.kIn hl) r2 h) fun r s' hq => ?_)
  cases r with
  | error e => exact hx pins σ H s e s' I hq
  | ok fl =>
    cases fl with
    | ret u => exact I.after hq
    | next => exact False.elim hq
    | brk => exact False.elim hq
    | cont => exact False.elim hq
theorem pe_call (F : FnOk X.prog X.w X.K X.mg X.base CX k f fd ps sp) (hr : Room k X.A) (hg : Gl X x) (hm : X.mg x = some (.ref f)) (hk : PySem.W.keepIn X.K (.ref f) = true) (hb : Binds X.K fd ps ds) (hd : Vals dvs ds) (hx : Passes CX X E)
    (ha : PA X (e :: es) t) (hdb : (x == ("__debug__" : Str)) = false := by decide) (he : starEach (e :: es) X.env = (false, eval e X.env) :: starEach es X.env := by rfl) (hpl : (backTo pos (starEach es X.env)).any (·.1) = false := by rfl) :
    PE X (.Call (.Name x p) (e :: es) [] pos) (tCall sp dvs E t) := by
  intro pins s σ H Q I h
  refine wpAny_Call_Name_kw (ld_glob I hg hm ?_ hdb)
  refine PySem.W.callWith_K (h₀ := X.base) I.ok.mod.kin hk (thn (ha pos pins s σ H _ I h) fun us s1 ⟨vs, H1, I1, r, q⟩ => ⟨I1.kIn, ?_⟩) he hpl
  exact run_fn F hr hb hd hx I1 r q
theorem pe_call0 (F : FnOk X.prog X.w X.K X.mg X.base CX k f fd ps sp) (hr : Room k X.A) (hg : Gl X x) (hm : X.mg x = some (.ref f)) (hk : PySem.W.keepIn X.K (.ref f) = true) (hb : Binds X.K fd ps ds) (hd : Vals dvs ds) (hx : Passes CX X E)
    (hdb : (x == ("__debug__" : Str)) = false := by decide) : PE X (.Call (.Name x p) [] [] pos) (tCall sp dvs E tNil) := by
  intro pins s σ H Q I h
  refine wpAny_Call_Name_kw (ld_glob I hg hm ?_ hdb)
  exact PySem.W.callWith_K0 I.kIn hk (run_fn (us := []) F hr hb hd hx I .nil h)
theorem pe_meth {pl : Sem Bool} (he : PE X o ta) (c : Cls X.K C) (hm : Meth X.K C m f) (F : FnOk X.prog X.w X.K X.mg X.base CX k f fd ps sp) (hr : Room k X.A) (hb : Binds X.K fd ps ds) (hd : Vals dvs ds) (hx : Passes CX X E) (ha : PA X (e :: es) t)
    (hst : starEach (e :: es) X.env = (false, eval e X.env) :: starEach es X.env := by rfl) (hpl : (backTo pos (starEach es X.env)).any (·.1) = false := by rfl)
    (ht : eval (.Call (.Attribute o m apos) (e :: es) [] pos) X.env = (do
      let ov ← eval o X.env
      standAt apos.atName
      let (f, first) ← holding [ov] (getMethod ov m pl)
      callWith pos f first (backTo pos (starEach (e :: es) X.env)) (backToKw pos (keywordEach [] X.env))) := by rfl) :
    PE X (.Call (.Attribute o m apos) (e :: es) [] pos) (tMeth C m sp dvs E ta t) := by
  intro pins s σ H Q I h
  refine PySem.W.methodCall_KW (pl := pl) (thn (he pins s σ H _ I h) fun u s1 ⟨x, H1, I1, rx, a, dx, fs, ex, ea, l, q⟩ => ?_) ht
  subst ex
  obtain rfl : u = Value.ref a := rx
  refine getmeth_ok I1 ea c hm l ?_
  refine PySem.W.callWith_K (first := [.ref a]) (h₀ := X.base) I.ok.mod.kin hm.kp (thn (ha pos pins s1 σ H1 _ I1 q) fun us s2 ⟨vs, H2, I2, r, q2⟩ => ⟨I2.kIn, ?_⟩) hst hpl
  exact run_fn (us := .ref a :: us) (vs := .ref a :: vs) F hr hb hd hx I2 (.cons rfl r) q2
theorem pe_meth0 {pl : Sem Bool} (he : PE X o ta) (c : Cls X.K C) (hm : Meth X.K C m f) (F : FnOk X.prog X.w X.K X.mg X.base CX k f fd ps sp) (hr : Room k X.A) (hb : Binds X.K fd ps ds) (hd : Vals dvs ds) (hx : Passes CX X E)
    (ht : eval (.Call (.Attribute o m apos) [] [] pos) X.env = (do
      let ov ← eval o X.env
      standAt apos.atName
      let (f, first) ← holding [ov] (getMethod ov m pl)
      callWith pos f first (backTo pos (starEach [] X.env)) (backToKw pos (keywordEach [] X.env))) := by rfl) :
    PE X (.Call (.Attribute o m apos) [] [] pos) (tMeth C m sp dvs E ta tNil) := by
  intro pins s σ H Q I h
  refine PySem.W.methodCall_KW (pl := pl) (thn (he pins s σ H _ I h) fun u s1 ⟨x, H1, I1, rx, a, dx, fs, ex, ea, l, q⟩ => ?_) ht
  subst ex
  obtain rfl : u = Value.ref a := rx
  refine getmeth_ok I1 ea c hm l ?_
  exact PySem.W.callWith_K0 (first := [.ref a]) I1.kIn hm.kp (run_fn (us := [.ref a]) (vs := [.ref a]) F hr hb hd hx I1 (.cons rfl .nil) q)
structure Mk (K : PySem.W.Frag) (C f : Addr) : Prop where
  makes : PySem.W.makesIn K C = true
  init : PySem.W.findIn K (.ref C) "__init__" = some (some (.ref f))
  fn : PySem.W.isFn K (.ref f) = true
  kp : PySem.W.keepIn K (.ref C) = true
theorem run_make {pins : List (Addr × Obj)} {σ : St} {H : Hp} {s : Shared} {Q : VK} {us : List Value} {vs : List V} (M : Mk X.K C f) (F : FnOk X.prog X.w X.K X.mg X.base CX k f fd ps sp) (hr : Room (k + 1) X.A) (hb : Binds X.K fd ps ds) (hd : Vals dvs ds)
    (hx : Passes CX X E) (I : Inv X pins σ H s) (r : Vals vs us)
    (h : ∀ x dx, H x = none → H dx = none → dx ≠ x → sp (.ref x :: (vs ++ dvs)) (upd (upd H dx (.own x)) x (.ins C dx [])) (fun v H2 => v = .non ∧ Q (.ref x) H2) E) :
    wpAny (model X.prog X.w) X.A (call (.ref C) us) (EP X pins σ Q) X.xe s := by
  have hq := h (s.heap.objs.size + 1) s.heap.objs.size (I.hok.fresh (Nat.le_succ _)) (I.hok.fresh (Nat.le_refl _)) (Nat.ne_of_lt (Nat.lt_succ_self _))
  have I2 := Inv.made (C := C) I
  have r2 : Vals (V.ref (s.heap.objs.size + 1) :: (vs ++ dvs)) (Value.ref (s.heap.objs.size + 1) :: (us ++ ds)) := .cons rfl (r.append hd)
  have hl : (Value.ref (s.heap.objs.size + 1) :: us ++ ds).length = ps.length := by
    have e := r2.length
    rw [F.len _ _ _ _ hq] at e
    exact e.symm
  refine wpAny_call (make_map (f := f) I.kIn M.makes M.init (beq_iff_eq.mp M.fn) (codeAny_mono (F.run _ X.stack _ _ ⟨Value.ref (s.heap.objs.size + 1) :: us, []⟩ (Value.ref (s.heap.objs.size + 1) :: (us ++ ds)) _ _ E (hr.make C us [])
    (I2.env0.make C us []) (hb _ (Value.ref (s.heap.objs.size + 1) :: us) I2.kIn hl) r2 hq) fun r s' hq' => ?_))
  cases r with
  | error e => exact hx pins σ _ _ e s' I2 hq'
  | ok fl =>
    cases fl with
    | ret u =>
      obtain ⟨v, H', I3, rv, ev, q3⟩ := I2.after hq'
      subst ev
      exact ⟨rv, ⟨V.ref (s.heap.objs.size + 1), H', I3, rfl, q3⟩⟩
    | next => exact False.elim hq'
    | brk => exact False.elim hq'
    | cont => exact False.elim hq'
theorem pe_make (M : Mk X.K C f) (F : FnOk X.prog X.w X.K X.mg X.base CX k f fd ps sp) (hr : Room (k + 1) X.A) (hg : Gl X x) (hm : X.mg x = some (.ref C)) (hb : Binds X.K fd ps ds) (hd : Vals dvs ds) (hx : Passes CX X E)
    (ha : PA X (e :: es) t) (hdb : (x == ("__debug__" : Str)) = false := by decide) (he : starEach (e :: es) X.env = (false, eval e X.env) :: starEach es X.env := by rfl) (hpl : (backTo pos (starEach es X.env)).any (·.1) = false := by rfl) :
    PE X (.Call (.Name x p) (e :: es) [] pos) (tMake C sp dvs E t) := by
  intro pins s σ H Q I h
  refine wpAny_Call_Name_kw (ld_glob I hg hm ?_ hdb)
  refine PySem.W.callWith_K (h₀ := X.base) I.ok.mod.kin M.kp (thn (ha pos pins s σ H _ I h) fun us s1 ⟨vs, H1, I1, r, q⟩ => ⟨I1.kIn, ?_⟩) he hpl
  exact run_make M F hr hb hd hx I1 r q
theorem pe_make0 (M : Mk X.K C f) (F : FnOk X.prog X.w X.K X.mg X.base CX k f fd ps sp) (hr : Room (k + 1) X.A) (hg : Gl X x) (hm : X.mg x = some (.ref C)) (hb : Binds X.K fd ps ds) (hd : Vals dvs ds) (hx : Passes CX X E)
    (hdb : (x == ("__debug__" : Str)) = false := by decide) : PE X (.Call (.Name x p) [] [] pos) (tMake C sp dvs E tNil) := by
  intro pins s σ H Q I h
  refine wpAny_Call_Name_kw (ld_glob I hg hm ?_ hdb)
  exact PySem.W.callWith_K0 I.kIn M.kp (run_make (us := []) M F hr hb hd hx I .nil h)
end
section
variable {X : Cx} {CX : CXT} {k : Nat} {f C : Addr} {fd : FuncData} {ps ks : List Str} {sp : Sp} {E : XK} {x m : Str} {p pos apos kpos : Pos} {e o : Expr} {es : List Expr} {kws : List Keyword} {te ta : TE} {t tk : TA} {nm : Option Str}
variable {g : List Value → List Value → List Value} {gV : List V → List V → List V}
end
structure FnScope (N P : List Str) (sc : Scope) : Prop where
  kind : sc.kind = .function
  co : sc.isCoroutine = false
  gen : sc.isGenerator = false
  nd : N.Nodup
  pre : N.take P.length = P
  par : ∀ x ∈ P, sc.names.lookup x = some .local ∨ sc.names.lookup x = some .cell
  nofree : ∀ y ∈ sc.names, y.2 ≠ .free
theorem bindL_out {kindOf : Str → Option NameKind} {x : Str} : ∀ {binds : List (Str × Value)} {m : Str → Option Value}, (∀ v, (x, v) ∉ binds) → bindL kindOf binds m x = m x
  | [], _, _ => rfl
  | (n, v) :: r, m, h => by
    unfold bindL
    rw [bindL_out fun w hw => h w (List.mem_cons_of_mem _ hw)]
    split
    · have : x ≠ n := by rintro rfl; exact h v List.mem_cons_self
      simp [this]
    · rfl
theorem bindC_out {kindOf : Str → Option NameKind} {x : Str} : ∀ {binds : List (Str × Value)} {m : Str → Option Value}, (∀ v, (x, v) ∉ binds) → bindC kindOf binds m x = m x
  | [], _, _ => rfl
  | (n, v) :: r, m, h => by
    unfold bindC
    rw [bindC_out fun w hw => h w (List.mem_cons_of_mem _ hw)]
    split
    · rfl
    · have : x ≠ n := by rintro rfl; exact h v List.mem_cons_self
      simp [this]
theorem bindL_get {kindOf : Str → Option NameKind} {x : Str} {v : Value} : ∀ {P : List Str} {vs : List Value} {i : Nat} {m : Str → Option Value}, P.Nodup → P[i]? = some x → vs[i]? = some v → kindOf x = some .local →
    bindL kindOf (P.zip vs) m x = some v
  | [], _, _, _, _, h, _, _ => by simp at h
  | _ :: _, [], _, _, _, _, h, _ => by simp at h
  | p :: P, w :: vs, 0, m, nd, h1, h2, hk => by
    simp at h1 h2; subst h1; subst h2
    show bindL kindOf ((p, w) :: P.zip vs) m p = _
    unfold bindL
    rw [bindL_out fun v hv => (List.nodup_cons.mp nd).1 (List.of_mem_zip hv).1, if_pos hk]
    simp
  | p :: P, w :: vs, i + 1, m, nd, h1, h2, hk => by
    show bindL kindOf ((p, w) :: P.zip vs) m x = _
    unfold bindL
    exact bindL_get (i := i) (List.nodup_cons.mp nd).2 (by simpa using h1) (by simpa using h2) hk
theorem bindC_get {kindOf : Str → Option NameKind} {x : Str} {v : Value} : ∀ {P : List Str} {vs : List Value} {i : Nat} {m : Str → Option Value}, P.Nodup → P[i]? = some x → vs[i]? = some v → kindOf x ≠ some .local →
    bindC kindOf (P.zip vs) m x = some v
  | [], _, _, _, _, h, _, _ => by simp at h
  | _ :: _, [], _, _, _, _, h, _ => by simp at h
  | p :: P, w :: vs, 0, m, nd, h1, h2, hk => by
    simp at h1 h2; subst h1; subst h2
    show bindC kindOf ((p, w) :: P.zip vs) m p = _
    unfold bindC
    rw [bindC_out fun v hv => (List.nodup_cons.mp nd).1 (List.of_mem_zip hv).1, if_neg hk]
    simp
  | p :: P, w :: vs, i + 1, m, nd, h1, h2, hk => by
    show bindC kindOf ((p, w) :: P.zip vs) m x = _
    unfold bindC
    exact bindC_get (i := i) (List.nodup_cons.mp nd).2 (by simpa using h1) (by simpa using h2) hk
def start (N : List Str) (vs : List V) : St := vs.map some ++ List.replicate (N.length - vs.length) none
def cxOf (CX : CXT) (P : Program) (w : World) (K : PySem.W.Frag) (mg : Str → Option Value) (base : Heap) (N : List Str) (qual : Str) (scope : Scope) (f : Addr) (cd : Value) (A : Around) (outer : List Env) (s : Shared) (H : Hp) (E : XK) : Cx where
  prog := P
  w := w
  K := K
  mg := mg
  base := base
  A := A.deeper (envOfC qual scope s.heap.objs.size f cd)
  N := N
  s₀ := s
  H₀ := H
  env := envOfC qual scope s.heap.objs.size f cd
  outer := outer
  stack := envOfC qual scope s.heap.objs.size f cd :: outer
  ex := []
  calm := true
  fn := fun _ => true
  pn := []
  xe := fun e s' => wpAny (model P w) (A.deeper (envOfC qual scope s.heap.objs.size f cd)) (leaving (envOfC qual scope s.heap.objs.size f cd) e) (fun _ s'' => CX outer H s E e s'') (fun e' s'' => CX outer H s E e' s'') s'
theorem cell_has {sc : Scope} {n : Nat} {x : Str} (h : sc.names.lookup x = some .cell) : ∃ c, (cellsFrom n sc.names []).lookup x = some c := by
  have q := PySem.W.cellsFrom_some sc.names n [] (.inl h)
  exact Option.isSome_iff_exists.mp q
theorem inv_start {CX : CXT} {P : Program} {w : World} {K : PySem.W.Frag} {mg : Str → Option Value} {base : Heap} {N ps : List Str} {qual : Str} {scope : Scope} {f : Addr} {cd : Value} {A : Around} {outer : List Env} {s s1 : Shared} {H : Hp} {E : XK} {us : List Value} {vs : List V}
    (S : FnScope N ps scope) (hd : A.handled = none) (e0 : Env0 P w K mg base A outer s H) (hl : vs.length = ps.length) (r : Vals vs us)
    (x : InCallC s s.heap.objs.size (bindL (envOfC qual scope s.heap.objs.size f cd).kindOf (ps.zip us) fun _ => none) (cellsFrom (s.heap.objs.size + 1) scope.names []) (bindC (envOfC qual scope s.heap.objs.size f cd).kindOf (ps.zip us) fun _ => none) s1) :
    Inv (cxOf CX P w K mg base N qual scope f cd A outer s H E) [] (start N vs) H s1 := by
  have hpl : ps.length ≤ N.length := by have := congrArg List.length S.pre; rw [List.length_take] at this; omega
  obtain ⟨h1, tk, rfl, hk⟩ := x.done
  have noA : ∀ b : Addr, b ∉ (cxOf CX P w K mg base N qual scope f cd A outer s H E).ex := fun b z => absurd (show b ∈ ([] : List Addr) from z) (by simp)
  refine ⟨⟨e0.mod, S.kind, rfl, rfl, Nat.le_refl _, fun y z c h1 h2 => ?_, fun y hy => ?_, fun y c _ h => ?_, fun _ => hd, Around.frames_deeper e0.frames, .inr ⟨rfl, rfl⟩, fun b z => absurd z (noA b), e0.bs, e0.bsz, fun b _ _ => noA b, fun b z => absurd z (noA b), e0.funs, e0.frf⟩,
    rfl, e0.bare, Un.kept hk, ⟨_, x.toInCall.ns, fun i y v h1 h2 h3 => ?_⟩, fun y c h => ⟨_, x.cell y c h⟩, e0.hok.fresh (Nat.le_refl _), fun y c h => ?_, fun p hp => absurd (show p ∈ ([] : List (Addr × Obj)) from hp) (by simp), e0.hok.kept hk, ?_⟩
  · exact name_of_addr x.apart (PySem.mem_of_lookup h1) (PySem.mem_of_lookup h2)
  · have hy : scope.names.lookup y = some .cell ∨ scope.names.lookup y = some .free := hy
    rcases hy with hy | hy
    · exact cell_has hy
    · exact absurd rfl (S.nofree _ (PySem.mem_of_lookup hy))
  · exact Nat.le_of_lt (x.above y c (PySem.mem_of_lookup h))
  · have hi : i < vs.length := by
      unfold start at h2
      by_cases hi : i < vs.length
      · exact hi
      · rw [List.getElem?_append_right (by simpa using hi)] at h2
        rw [List.getElem?_replicate] at h2
        split at h2 <;> cases h2
    have ha : vs[i]? = some v := by
      unfold start at h2
      rw [List.getElem?_append_left (by simpa using hi), List.getElem?_map] at h2
      cases e : vs[i]? with
      | none => rw [e] at h2; cases h2
      | some a => rw [e] at h2; cases h2; rfl
    obtain ⟨u, hu, rv⟩ := r.get ha
    have hp : ps[i]? = some y := by
      rw [← S.pre, List.getElem?_take_of_lt (by omega)]; exact h1
    have ndP : ps.Nodup := by rw [← S.pre]; exact S.nd.sublist (List.take_sublist _ _)
    refine ⟨u, rv, ?_⟩
    rcases S.par y (List.mem_of_getElem? hp) with k | k
    · exact .inl ⟨k, bindL_get ndP hp hu k⟩
    · obtain ⟨c, e⟩ := cell_has (n := s.heap.objs.size + 1) k
      refine .inr ⟨.inl k, c, e, ?_⟩
      have q := x.cell y c e
      rw [bindC_get ndP hp hu (by show scope.names.lookup y ≠ _; rw [k]; decide)] at q
      exact q
  · exact e0.hok.fresh (Nat.le_of_lt (x.above y c (PySem.mem_of_lookup h)))
  · unfold start
    show _ = N.length
    rw [List.length_append, List.length_map, List.length_replicate]
    omega
theorem fn_of {CX : CXT} {P : Program} {w : World} {K : PySem.W.Frag} {mg : Str → Option Value} {base : Heap} {k : Nat} {f : Addr} {name qual : Str} {params : Arguments} {body : List Stmt} {scope : Scope} {dV kV doc pm cdv ct oc : Value} {an od : Option Addr}
    {osl : Array (Option Value)} {N ps : List Str} {sp : Sp} (lk : K.lookup f = some ⟨oc, od, .func (PySem.W.fnOf name qual params body scope dV kV doc pm an cdv ct), osl⟩) (hcd : PySem.W.codeIn K cdv qual = true) (S : FnScope N ps scope)
    (len : ∀ vs H Q E, sp vs H Q E → vs.length = ps.length)
    (hbody : ∀ (A : Around) (outer : List Env) (s : Shared) (H : Hp) (vs : List V) (Q : VK) (E : XK), Room k (A.deeper (envOfC qual scope s.heap.objs.size f cdv)) → sp vs H Q E →
      ∃ t, PSs (cxOf CX P w K mg base N qual scope f cdv A outer s H E) body t ∧ t { nx := fun _ H' => Q .non H', rt := Q } (start N vs) H) :
    FnOk P w K mg base CX (k + 1) f (PySem.W.fnOf name qual params body scope dV kV doc pm an cdv ct) ps sp := by
  refine ⟨len, fun A outer s H args us vs Q E hr e0 hb r hsp => ?_⟩
  have hl := len _ _ _ _ hsp
  have KX : K.In s.heap := e0.mod.kin.keeps fun b o e => (e0.bs b o e).1
  have lim : s.heap.NoLimit := e0.mod.nolimit.keeps fun b o e => (e0.bs b o e).1
  have hkind : ∀ y ∈ ps.zip us, scope.names.lookup y.1 = some .local ∨ (scope.names.lookup y.1 = some .cell ∧ ((cellsFrom (s.heap.objs.size + 1) scope.names []).lookup y.1).isSome = true) := fun ⟨n, v⟩ hy => by
    rcases S.par n (List.of_mem_zip hy).1 with q | q
    · exact .inl q
    · exact .inr ⟨q, PySem.W.cellsFrom_some _ _ _ (.inl q)⟩
  refine codeAny_call_function hr.depth (KX _ _ lk) rfl S.co S.gen rfl (PySem.W.codeRec_of KX hcd) (hb _ _ _ _ ?_)
  refine wpAny_newFunctionEnv_cells S.kind hkind fun env he s1 x => ?_
  subst he
  refine ⟨lim.keeps x.toInCall.keep, codeAny_func ?_⟩
  obtain ⟨t, ht, hq⟩ := hbody A outer s H vs Q E (hr.deeper _) hsp
  have I : Inv (cxOf CX P w K mg base N qual scope f cdv A outer s H E) [] (start N vs) H s1 := inv_start S hr.hd e0 hl r x
  refine wpAny_mono (ht [] s1 (start N vs) H _ I hq) (fun fl s' hs => ?_) fun e s' hs => hs
  have fin : ∀ {σ' : St} {H' : Hp} {v : V} {u : Value}, Inv (cxOf CX P w K mg base N qual scope f cdv A outer s H E) [] σ' H' s' → RelV v u → Q v H' → CE outer P w H s Q u s' :=
    fun {σ' H' v u} J rv q => ⟨v, H', J.os, J.bare, J.base, J.hok, rv, q⟩
  cases fl with
  | ret u =>
    obtain ⟨v, σ', H', J, rv, q⟩ := hs
    exact fin J rv q
  | next =>
    obtain ⟨σ', H', J, q⟩ := hs
    exact fin (v := V.non) (u := Value.none) J rfl q
  | brk =>
    obtain ⟨_, _, _, q⟩ := hs
    exact False.elim q
  | cont =>
    obtain ⟨_, _, _, q⟩ := hs
    exact False.elim q
end L2
namespace L2
open PySem PySem.Spec PyProof.Rows
section
variable {X : Cx} {x : Str} {p pos : Pos} {e : Expr} {es : List Expr} {t : TA} {id T : String} {r : List V → Hp → VK → Prop}
def tCB (r : List V → Hp → VK → Prop) (t : TA) : TE := fun σ H Q => t σ H fun vs H1 => r vs H1 Q
theorem pe_callB (hc : CallR X (.builtin id) r) (hg : Gl X x) (hm : X.mg x = none) (hv : bootBuiltins x = some (.builtin id)) (ha : PA X (e :: es) t) (hn : x ≠ "__name__" := by decide) (hdb : (x == ("__debug__" : Str)) = false := by decide)
    (he : starEach (e :: es) X.env = (false, eval e X.env) :: starEach es X.env := by rfl) (hpl : (backTo pos (starEach es X.env)).any (·.1) = false := by rfl) : PE X (.Call (.Name x p) (e :: es) [] pos) (tCB r t) := by
  intro pins s σ H Q I h
  refine wpAny_Call_Name_kw (ld_blt I hg hm hv ?_ hn hdb)
  exact PyProof.Rows.callWith_builtin1 (thn (ha pos pins s σ H _ I h) fun us s1 ⟨vs, H1, I1, r1, q1⟩ => hc pins s1 σ H1 vs us Q I1 r1 q1) he hpl
theorem pe_callTy (hc : CallR X (.type T) r) (hg : Gl X x) (hm : X.mg x = none) (hv : bootBuiltins x = some (.type T)) (ha : PA X (e :: es) t) (hn : x ≠ "__name__" := by decide) (hdb : (x == ("__debug__" : Str)) = false := by decide)
    (he : starEach (e :: es) X.env = (false, eval e X.env) :: starEach es X.env := by rfl) (hpl : (backTo pos (starEach es X.env)).any (·.1) = false := by rfl) : PE X (.Call (.Name x p) (e :: es) [] pos) (tCB r t) := by
  intro pins s σ H Q I h
  refine wpAny_Call_Name_kw (ld_blt I hg hm hv ?_ hn hdb)
  exact PyProof.Rows.callWith_type1 (thn (ha pos pins s σ H _ I h) fun us s1 ⟨vs, H1, I1, r1, q1⟩ => hc pins s1 σ H1 vs us Q I1 r1 q1) he hpl
end
end L2
namespace HT
open PySem PyProof.Rows
section
open PySem.SeqAt
open PySem.AutoSeq1 (wpAny_loadPart')
open PySem.MeetsSeq PySem.MeetsSeq2 PySem.MeetsSeq3
end
section
variable {prog : Program} {w : World} {A : Around} {E : Value → Shared → Prop} {s : Shared}
theorem cat_tup {t b : Addr} {vs ws : List Value} {Q : Value → Shared → Prop} (ht : IsTup s.heap t vs.toArray) (hb : IsTup s.heap b ws.toArray) (hv : vs ≠ [])
    (h1 : ws = [] → Q (.ref t) s) (h2 : ws ≠ [] → Q (.ref s.heap.objs.size) { s with heap := s.heap.push { cls := .type "tuple", data := .seq (vs ++ ws).toArray } })
    (hsz : vs.length + ws.length ≤ sizeLine) : wpAny (model prog w) A (binaryOp .Add (.ref t) (.ref b)) Q E s := by
  obtain ⟨⟨cls, dd, data, sl⟩, ho, hc, n, hd⟩ := id ht
  obtain ⟨⟨cls2, dd2, data2, sl2⟩, ho2, hc2, n2, hd2⟩ := id hb
  simp only at hc hd hc2 hd2
  subst hc hd hc2 hd2
  have e : vs.toArray ++ ws.toArray = (vs ++ ws).toArray := by simp
  by_cases hw : ws = []
  · exact concat_meets ⟨_, ho, rfl⟩ ⟨_, ho2, rfl⟩ noFill_tuple_add seq_tuple_add PySem.F.slot_tuple_add PySem.F.entry_tuple_add (PySem.F.args_tuple_add_2 _ _)
      (tuple_addW1 t b vs.toArray ws.toArray n n2 dd dd2 sl sl2 (by simpa using hv) (by simp [hw])) ⟨ho, ho2, h1 hw⟩
  · refine concat_meets ⟨_, ho, rfl⟩ ⟨_, ho2, rfl⟩ noFill_tuple_add seq_tuple_add PySem.F.slot_tuple_add PySem.F.entry_tuple_add (PySem.F.args_tuple_add_2 _ _)
      (tuple_addW2 t b vs.toArray ws.toArray n n2 dd dd2 sl sl2 (by simpa using hv) (by simpa using hw) (by rw [List.size_toArray, List.size_toArray]; exact hsz)) ⟨ho, ho2, ?_⟩
    rw [e]
    exact h2 hw
def sIx (n d : Nat) : Option Int → Nat
  | none => d
  | some v => if v < 0 then (v + (n : Int)).toNat else min v.toNat n
theorem sIx_none (n d : Nat) : sIx n d none = d := rfl
theorem sIx_nat (n d k : Nat) : sIx n d (some (k : Int)) = min k n := by
  show (if (k : Int) < 0 then ((k : Int) + (n : Int)).toNat else min (k : Int).toNat n) = min k n
  rw [if_neg (by omega), Int.toNat_natCast]
end
end HT
namespace L2
open PySem PySem.Spec PyProof.Rows
abbrev TO := St → Hp → (Option Int → Hp → Prop) → Prop
def PO (X : Cx) (e : Option Expr) (t : TO) : Prop :=
  ∀ (pins : List (Addr × Obj)) (s : Shared) (σ : St) (H : Hp) (Q : Option Int → Hp → Prop), Inv X pins σ H s → t σ H Q →
    wpAny (model X.prog X.w) X.A (evalPart e X.env) (fun u s' => ∃ o H', Inv X pins σ H' s' ∧ IsPart u o ∧ Q o H') X.xe s
def tNoPart : TO := fun _ H Q => Q none H
def tPart (t : TE) : TO := fun σ H Q => t σ H fun x H1 => ∃ i, x = .int i ∧ Q (some i) H1
section
variable {X : Cx} {e : Expr} {te : TE} {lo hi : Option Expr} {tl th : TO} {pos p2 : Pos}
theorem po_none : PO X none tNoPart := by
  intro pins s σ H Q I h
  rw [evalPart_none]
  exact wpAny_pure ⟨none, H, I, .none, h⟩
theorem po_some (h : PE X e te) : PO X (some e) (tPart te) := by
  intro pins s σ H Q I hw
  rw [evalPart_some]
  refine thn (h pins s σ H _ I hw) fun u s1 ⟨x, H1, I1, r1, q1⟩ => ?_
  obtain ⟨i, rfl, q⟩ := q1
  obtain ⟨t, rfl⟩ := r1
  exact ⟨some i, H1, I1, .int i t, q⟩
def SlR (X : Cx) (r : V → Option Int → Option Int → Hp → VK → Prop) : Prop :=
  ∀ (pins : List (Addr × Obj)) (s : Shared) (σ : St) (H : Hp) (x : V) (v vl vu : Value) (lo hi : Option Int) (sl : Addr) (Q : VK), Inv X pins σ H s → RelV x v → s.heap.IsSliceOf sl vl vu .none → IsPart vl lo → IsPart vu hi → r x lo hi H Q →
    ∃ T id, typeLookup (.type T) "__getitem__" = pure (some (.builtin id)) ∧ s.TypeIs v T ∧ wpAny (model X.prog X.w) X.A (getItem v (.ref sl)) (EP X pins σ Q) X.xe s
def tSl (r : V → Option Int → Option Int → Hp → VK → Prop) (te : TE) (tl th : TO) : TE := fun σ H Q => te σ H fun x H1 => tl σ H1 fun l H2 => th σ H2 fun u H3 => r x l u H3 Q
theorem pe_slice {r : V → Option Int → Option Int → Hp → VK → Prop} (hr : SlR X r) (he : PE X e te) (hl : PO X lo tl) (hu : PO X hi th) : PE X (.Subscript e (.Slice lo hi none p2) pos) (tSl r te tl th) := by
  intro pins s σ H Q I h
  refine Subscript_ (thn (he pins s σ H _ I h) fun v s1 ⟨x, H1, I1, r1, q1⟩ => ?_)
  refine wpAny_Slice (thn (hl pins s1 σ H1 _ I1 q1) fun vl s2 ⟨l, H2, I2, pl, q2⟩ => thn (hu pins s2 σ H2 _ I2 q2) fun vu s3 ⟨u, H3, I3, pu, q3⟩ => ?_)
  rw [evalPart_none]
  refine wpAny_pure ?_
  have I4 : Inv X pins σ H3 { s3 with heap := s3.heap.push { cls := .type "slice", data := .fields #[vl, vu, .none] } } := I3.kept (t' := s3.toks) fun b ob q => Heap.get?_push_of_some _ q
  obtain ⟨T, id, hT, ht, hg⟩ := hr pins { s3 with heap := s3.heap.push { cls := .type "slice", data := .fields #[vl, vu, .none] } } σ H3 x v vl vu l u s3.heap.objs.size Q I4 r1 (Heap.IsSliceOf.new ..) pl pu q3
  show wpAny (model X.prog X.w) X.A (subscriptTail e (.Slice lo hi none p2) v (.ref s3.heap.objs.size)) (EP X pins σ Q) X.xe { s3 with heap := s3.heap.push { cls := .type "slice", data := .fields #[vl, vu, .none] } }
  exact tail_any (ops := [.ref s3.heap.objs.size, v]) ht hT hg (by with_unfolding_all rfl)
def cutV (xs : List V) (lo hi : Option Int) : List V := (xs.drop (HT.sIx xs.length 0 lo)).take (HT.sIx xs.length xs.length hi - HT.sIx xs.length 0 lo)
theorem cutV_length (xs : List V) (lo hi : Option Int) : (cutV xs lo hi).length ≤ xs.length := by
  unfold cutV
  rw [List.length_take, List.length_drop]
  omega
def rCatT (K : PySem.W.Frag) : R2 := fun x y H Q => ∃ a b xs ys, x = .ref a ∧ y = .ref b ∧ SqT K H a xs ∧ SqT K H b ys ∧ xs ≠ [] ∧ xs.length + ys.length ≤ sizeLine ∧
  (ys = [] → Q (.ref a) H) ∧ (ys ≠ [] → ∀ p, H p = none → Q (.ref p) (upd H p (.tup (xs ++ ys))))
theorem Vals.nil_iff {xs : List V} {us : List Value} (r : Vals xs us) : us = [] ↔ xs = [] := by
  cases r with
  | nil => simp
  | cons _ _ => simp
theorem op_catT : OpR X (binaryOp .Add) (rCatT X.K) := by
  intro pins s σ H x y v u Q I rx ry h
  obtain ⟨a, b, xs, ys, rfl, rfl, ha, hb, hx, hz, q1, q2⟩ := h
  cases rx
  cases ry
  obtain ⟨its, r1, p1, _⟩ := I.tuple ha
  obtain ⟨its2, r2, p2, _⟩ := I.tuple hb
  refine HT.cat_tup p1 p2 (fun z => hx (r1.nil_iff.mp z)) (fun z => ⟨.ref a, H, I, rfl, q1 (r2.nil_iff.mp z)⟩) (fun z => ?_) (by rw [← r1.length, ← r2.length]; exact hz)
  refine ⟨.ref s.heap.objs.size, _, I.laid (t' := s.toks) (o := .tup (xs ++ ys)) (fun b ob q => Heap.get?_push_of_some _ q) (Nat.le_refl _) ?_, rfl, q2 (fun w => z (r2.nil_iff.mpr w)) _ (I.hok.fresh (Nat.le_refl _))⟩
  exact ⟨by rw [List.length_append]; exact hz, _, r1.append r2, IsTup.new _ _⟩
end
end L2
namespace L2
open PySem PySem.Spec PyProof.Rows
def ixN (n : Nat) (i : Int) : Option Nat := if 0 ≤ i then (if i < n then some i.toNat else none) else if -(n : Int) ≤ i then some (i + n).toNat else none
def atI {α : Type} (xs : List α) (i : Int) : Option α := (ixN xs.length i).bind fun j => xs[j]?
theorem ixN_seq {n : Nat} {i : Int} {j : Nat} (h : ixN n i = some j) : seqIndex? i n = some j ∧ j < n ∧ -(n : Int) ≤ i ∧ i < n := by
  unfold ixN at h
  by_cases h0 : 0 ≤ i
  · rw [if_pos h0] at h
    by_cases h1 : i < n
    · rw [if_pos h1] at h
      have e : i.toNat = j := Option.some.inj h
      exact ⟨by rw [seqIndex_of h0 h1, e], by omega, by omega, h1⟩
    · rw [if_neg h1] at h; cases h
  · rw [if_neg h0] at h
    by_cases h1 : -(n : Int) ≤ i
    · rw [if_pos h1] at h
      have e : (i + n).toNat = j := Option.some.inj h
      exact ⟨by rw [seqIndex_neg (by omega) h1, e], by omega, h1, by omega⟩
    · rw [if_neg h1] at h; cases h
theorem atI_get {α : Type} {xs : List α} {i : Int} {v : α} (h : atI xs i = some v) : ∃ j, seqIndex? i xs.length = some j ∧ xs[j]? = some v ∧ j < xs.length ∧ -(xs.length : Int) ≤ i ∧ i < xs.length := by
  unfold atI at h
  cases e : ixN xs.length i with
  | none => rw [e] at h; cases h
  | some j =>
    rw [e] at h
    obtain ⟨h1, h2, h3, h4⟩ := ixN_seq e
    exact ⟨j, h1, h, h2, h3, h4⟩
theorem atI_nat {α : Type} {xs : List α} {j : Nat} {v : α} (h : xs[j]? = some v) : atI xs (j : Int) = some v := by
  have hj : j < xs.length := (List.getElem?_eq_some_iff.mp h).1
  have e : ixN xs.length (j : Int) = some j := by
    unfold ixN
    rw [if_pos (by omega), if_pos (by omega)]; simp
  unfold atI; rw [e]; exact h
theorem atI_last {α : Type} (xs : List α) (v : α) : atI (xs ++ [v]) (-1) = some v := by
  have hl : (xs ++ [v]).length = xs.length + 1 := by simp
  have e : ixN (xs ++ [v]).length (-1) = some xs.length := by
    unfold ixN
    rw [hl, if_neg (by decide), if_pos (by omega)]
    congr 1
    omega
  unfold atI
  rw [e]
  show (xs ++ [v])[xs.length]? = some v
  simp
def PlainIx (b : Expr) : Prop := ∀ o i, subscripted b false o i = operate [o, i] (getItem o i)
def IxR (X : Cx) (r : R2) : Prop :=
  ∀ (value slice : Expr) (pins : List (Addr × Obj)) (s : Shared) (σ : St) (H : Hp) (x y : V) (v u : Value) (Q : VK), Inv X pins σ H s → RelV x v → RelV y u → r x y H Q →
    subscripted slice false v u = operate [v, u] (getItem v u) → wpAny (model X.prog X.w) X.A (subscriptTail value slice v u) (EP X pins σ Q) X.xe s
def MtR (X : Cx) (id : String) (r : V → List V → Hp → VK → Prop) : Prop :=
  ∀ (pins : List (Addr × Obj)) (s : Shared) (σ : St) (H : Hp) (x : V) (xs : List V) (v : Value) (us : List Value) (Q : VK), Inv X pins σ H s → RelV x v → Vals xs us → r x xs H Q →
    wpAny (model X.prog X.w) X.A (call (.builtin id) (v :: us)) (EP X pins σ Q) X.xe s
section
variable {X : Cx} {a b : Expr} {ta tb : TE} {pos : Pos}
theorem pe_ix {r : R2} (hr : IxR X r) (ha : PE X a ta) (hb : PE X b tb) (hs : PlainIx b) : PE X (.Subscript a b pos) (tOp r ta tb) := by
  intro pins s σ H Q I h
  exact Subscript_ (binT ha hb I h fun v u s2 x y H2 I2 rx ry q => hr a b pins s2 σ H2 x y v u Q I2 rx ry q (hs _ _))
def rIxL (K : PySem.W.Frag) : R2 := fun x y H Q => ∃ p xs i v, x = .ref p ∧ y = .int i ∧ SqL K H p xs ∧ atI xs i = some v ∧ Q v H
def rIxT (K : PySem.W.Frag) : R2 := fun x y H Q => ∃ p xs i v, x = .ref p ∧ y = .int i ∧ SqT K H p xs ∧ atI xs i = some v ∧ Q v H
def rIxS : R2 := fun x y H Q => ∃ z i c, x = .str z ∧ y = .int i ∧ z.length ≤ sizeLine ∧ atI z.cps.toList i = some c ∧ Q (.str ⟨#[c]⟩) H
theorem ix_list : IxR X (rIxL X.K) := by
  intro value slice pins s σ H x y v u Q I rx ry h hs
  obtain ⟨p, xs, i, z, rfl, rfl, hq, he, q⟩ := h
  cases rx
  obtain ⟨t, rfl⟩ := ry
  obtain ⟨its, r, pl, hz⟩ := I.list hq
  obtain ⟨j, h1, h2, h3, h4, h5⟩ := atI_get he
  obtain ⟨w, ew, rw'⟩ := r.get h2
  have hl := r.length
  have hn := line63
  have fin : EP X pins σ Q w s := ⟨z, H, I, rw', q⟩
  by_cases h0 : 0 ≤ i
  · have hj : i.toNat = j := by
      rw [seqIndex_of h0 h5] at h1
      exact Option.some.inj h1
    exact item_listR pl.isList h0 (by omega) (by rw [hj]; simpa using ew) fin hs
  · have hj : (i + (its.toArray.size : Int)).toNat = j := by
      rw [seqIndex_neg (by omega) h4] at h1
      rw [List.size_toArray, ← hl]
      exact Option.some.inj h1
    exact subscriptTail_builtinR (x := w) pl.isList.typeIs slot_list_getitem.lookup
      (wpAny_getItem_list_neg (Q := fun r s' => r = w ∧ EP X pins σ Q r s') pl.isList (by omega) (by rw [List.size_toArray] <;> omega) (by omega) (by rw [hj]; simpa using ew) ⟨rfl, fin⟩) hs
theorem ix_tup : IxR X (rIxT X.K) := by
  intro value slice pins s σ H x y v u Q I rx ry h hs
  obtain ⟨p, xs, i, z, rfl, rfl, hq, he, q⟩ := h
  cases rx
  obtain ⟨t, rfl⟩ := ry
  obtain ⟨its, r, pl, hz⟩ := I.tuple hq
  obtain ⟨j, h1, h2, h3, h4, h5⟩ := atI_get he
  obtain ⟨w, ew, rw'⟩ := r.get h2
  have hl := r.length
  have hn := line63
  have fin : EP X pins σ Q w s := ⟨z, H, I, rw', q⟩
  exact subscriptTail_builtinR (x := w) pl.typeIs slot_tuple_getitem.lookup
    (getItem_tuple (j := j) (Q := fun r s' => r = w ∧ EP X pins σ Q r s') pl (by omega) (by omega) (by rw [List.size_toArray, ← hl]; exact h1) (by simpa using ew) ⟨rfl, fin⟩) hs
theorem ix_str : IxR X rIxS := by
  intro value slice pins s σ H x y v u Q I rx ry h hs
  obtain ⟨z, i, c, rfl, rfl, hz, he, q⟩ := h
  obtain ⟨t, rfl⟩ := rx
  obtain ⟨t', rfl⟩ := ry
  obtain ⟨j, h1, h2, h3, h4, h5⟩ := atI_get he
  have hl : z.cps.toList.length = z.length := by simp [Str.length]
  rw [hl] at h1 h4 h5
  have hn := line63
  exact tail_any (typeIs_str s z t) slot_str_getitem.lookup (getItem_str (c := c) (by
    have e1 : decide (i < -(2 ^ 63 : Int)) = false := decide_eq_false (by omega)
    have e2 : decide (i ≥ 2 ^ 63) = false := decide_eq_false (by omega)
    rw [e1, e2, Bool.or_false]) (by rw [h1]; simpa using h2) ⟨.str ⟨#[c]⟩, H, I.tok _, ⟨_, rfl⟩, q⟩) hs
theorem slice_bounds (lo hi : Option Int) (n : Nat) : (sliceBounds lo hi none n).1 = ((HT.sIx n 0 lo : Nat) : Int) ∧ (sliceBounds lo hi none n).2.1 = ((HT.sIx n n hi : Nat) : Int) ∧ (sliceBounds lo hi none n).2.2 = 1 := by
  refine ⟨?_, ?_, rfl⟩
  · cases lo with
    | none => simp [sliceBounds, HT.sIx]
    | some i =>
      simp only [sliceBounds, HT.sIx, Option.getD_none, show (1 : Int) > 0 by decide, if_true]
      by_cases h : i < 0
      · simp only [h, if_true] <;> omega
      · simp only [h, if_false] <;> omega
  · cases hi with
    | none => simp [sliceBounds, HT.sIx]
    | some i =>
      simp only [sliceBounds, HT.sIx, Option.getD_none, show (1 : Int) > 0 by decide, if_true]
      by_cases h : i < 0
      · simp only [h, if_true] <;> omega
      · simp only [h, if_false] <;> omega
theorem slicePick_cut (its : List Value) (lo hi : Option Int) : slicePick its.toArray lo hi none = ((its.drop (HT.sIx its.length 0 lo)).take (HT.sIx its.length its.length hi - HT.sIx its.length 0 lo)).toArray := by
  obtain ⟨h1, h2, h3⟩ := slice_bounds lo hi its.toArray.size
  unfold slicePick
  rw [h1, h2, h3]
  simp only [sliceRange_one, pick_run, List.size_toArray] <;> rfl
def rSlL (K : PySem.W.Frag) : V → Option Int → Option Int → Hp → VK → Prop := fun x lo hi H Q => ∃ a xs, x = .ref a ∧ SqL K H a xs ∧ ∀ p, H p = none → Q (.ref p) (upd H p (.lst (cutV xs lo hi)))
theorem sl_list : SlR X (rSlL X.K) := by
  intro pins s σ H x v vl vu lo hi sl Q I rx hs pl pu h
  obtain ⟨a, xs, rfl, hx, q⟩ := h
  cases rx
  obtain ⟨its, r, ht, hz⟩ := I.list hx
  have hlen := r.length
  refine ⟨"list", _, slot_list_getitem.lookup, ht.isList.typeIs, ?_⟩
  refine wpAny_getItem_list_slice ht.isList hs pl pu .none (by simp) ?_ (by rw [List.size_toArray] <;> omega)
  rw [slicePick_cut, ← hlen]
  refine ⟨.ref s.heap.objs.size, _, I.laid (t' := s.toks) (o := .lst (cutV xs lo hi)) (fun b ob q => Heap.get?_push_of_some _ q) (Nat.le_refl _) ?_, rfl, q _ (I.hok.fresh (Nat.le_refl _))⟩
  exact ⟨Nat.le_trans (cutV_length xs lo hi) hz, _, 0, (r.drop (HT.sIx xs.length 0 lo)).take (HT.sIx xs.length xs.length hi - HT.sIx xs.length 0 lo), Heap.get?_push_size _ rfl⟩
def flatV : V → Bool
  | .non => true
  | .bl _ => true
  | .int _ => true
  | .str _ => true
  | _ => false
def eqV : V → V → Bool
  | .non, .non => true
  | .bl a, .bl b => a == b
  | .bl a, .int b => (if a then 1 else 0) == b
  | .int a, .bl b => a == (if b then 1 else 0)
  | .int a, .int b => a == b
  | .str a, .str b => a == b
  | _, _ => false
theorem eqAt_V {A : Around} {s : Shared} {y x : V} {u v : Value} (ry : RelV y u) (rx : RelV x v) (fy : flatV y = true) (fx : flatV x = true) : SeqAt.EqAt A s u v (eqV y x) := by
  cases y with
  | non =>
    cases ry
    cases x with
    | non => cases rx; exact SeqAt.EqAt.same _
    | bl b => cases rx; exact SeqAt.EqAt.none_bool b
    | int b => obtain ⟨t, rfl⟩ := rx; exact SeqAt.EqAt.none_int b t
    | str b => obtain ⟨t, rfl⟩ := rx; exact SeqAt.EqAt.none_str b t
    | _ => exact absurd (show false = true from fx) Bool.false_ne_true
  | bl a =>
    cases ry
    cases x with
    | non => cases rx; exact SeqAt.EqAt.bool_none a
    | bl b => cases rx; exact SeqAt.EqAt.bool_bool a b
    | int b => obtain ⟨t, rfl⟩ := rx; exact SeqAt.EqAt.bool_int a b t
    | str b => obtain ⟨t, rfl⟩ := rx; exact SeqAt.EqAt.bool_str a b t
    | _ => exact absurd (show false = true from fx) Bool.false_ne_true
  | int a =>
    obtain ⟨t', rfl⟩ := ry
    cases x with
    | non => cases rx; exact SeqAt.EqAt.int_none a t'
    | bl b => cases rx; exact SeqAt.EqAt.int_bool a t' b
    | int b => obtain ⟨t, rfl⟩ := rx; exact SeqAt.EqAt.int_int a t' b t
    | str b => obtain ⟨t, rfl⟩ := rx; exact SeqAt.EqAt.int_str a t' b t
    | _ => exact absurd (show false = true from fx) Bool.false_ne_true
  | str a =>
    obtain ⟨t', rfl⟩ := ry
    cases x with
    | non => cases rx; exact SeqAt.EqAt.str_none a t'
    | bl b => cases rx; exact SeqAt.EqAt.str_bool a t' b
    | int b => obtain ⟨t, rfl⟩ := rx; exact SeqAt.EqAt.str_int a t' b t
    | str b => obtain ⟨t, rfl⟩ := rx; exact SeqAt.EqAt.str_str a t' b t
    | _ => exact absurd (show false = true from fx) Bool.false_ne_true
  | _ => exact absurd (show false = true from fy) Bool.false_ne_true
def eqU (x : V) (u : Value) : Bool := match u with
  | .none => eqV .non x
  | .bool b => eqV (.bl b) x
  | .int i _ => eqV (.int i) x
  | .str z _ => eqV (.str z) x
  | _ => false
theorem eqU_of {x y : V} {u : Value} (r : RelV y u) (f : flatV y = true) : eqU x u = eqV y x := by
  cases y with
  | non => cases r; rfl
  | bl b => cases r; rfl
  | int i => obtain ⟨t, rfl⟩ := r; rfl
  | str z => obtain ⟨t, rfl⟩ := r; rfl
  | _ => exact absurd (show false = true from f) Bool.false_ne_true
theorem any_eqU {x : V} : ∀ {xs : List V} {us : List Value}, Vals xs us → xs.all flatV = true → us.any (eqU x) = xs.any fun y => eqV y x
  | _, _, .nil, _ => rfl
  | y :: xs, u :: us, .cons r t, f => by
    rw [List.all_cons, Bool.and_eq_true] at f
    rw [List.any_cons, List.any_cons, eqU_of r f.1, any_eqU t f.2]
theorem mem_eqAt {A : Around} {s : Shared} {x : V} {v : Value} (rx : RelV x v) (fx : flatV x = true) : ∀ {xs : List V} {us : List Value}, Vals xs us → xs.all flatV = true → ∀ u ∈ us, SeqAt.EqAt A s u v (eqU x u)
  | _, _, .nil, _ => fun u hu => by cases hu
  | y :: xs, u :: us, .cons r t, f => fun u' hu => by
    rw [List.all_cons, Bool.and_eq_true] at f
    rcases List.mem_cons.mp hu with rfl | hu
    · rw [eqU_of r f.1]; exact eqAt_V r rx f.1 fx
    · exact mem_eqAt rx fx t f.2 u' hu
def inV (x : V) (xs : List V) : Bool := xs.any fun y => eqV y x
def rIn (K : PySem.W.Frag) (neg : Bool) : R2 := fun x y H Q => ∃ p xs, y = .ref p ∧ (SqL K H p xs ∨ SqT K H p xs) ∧ flatV x = true ∧ xs.all flatV = true ∧ Q (.bl (if neg then !inV x xs else inV x xs)) H
theorem op_in_seq : OpR X (compareOp .In) (rIn X.K false) := by
  intro pins s σ H x y v u Q I rx ry h
  obtain ⟨p, xs, rfl, hq, fx, fs, q⟩ := h
  cases ry
  rcases hq with hq | hq
  · obtain ⟨its, r, pl, hz⟩ := I.list hq
    refine SeqAt.in_listAt (eqU x) pl.isList (fun w hw => mem_eqAt rx fx r fs w (by simpa using hw)) ⟨.bl _, H, I, rfl, ?_⟩
    rw [show its.toArray.any (eqU x) = its.any (eqU x) by simp, any_eqU r fs]
    exact q
  · obtain ⟨its, r, pl, hz⟩ := I.tuple hq
    refine SeqAt.in_tupleAt (eqU x) pl (fun w hw => mem_eqAt rx fx r fs w (by simpa using hw)) ⟨.bl _, H, I, rfl, ?_⟩
    rw [show its.toArray.any (eqU x) = its.any (eqU x) by simp, any_eqU r fs]
    exact q
theorem op_notIn_seq : OpR X (compareOp .NotIn) (rIn X.K true) := by
  intro pins s σ H x y v u Q I rx ry h
  obtain ⟨p, xs, rfl, hq, fx, fs, q⟩ := h
  cases ry
  rcases hq with hq | hq
  · obtain ⟨its, r, pl, hz⟩ := I.list hq
    refine SeqAt.notIn_listAt (eqU x) pl.isList (fun w hw => mem_eqAt rx fx r fs w (by simpa using hw)) ⟨.bl _, H, I, rfl, ?_⟩
    rw [show its.toArray.any (eqU x) = its.any (eqU x) by simp, any_eqU r fs]
    exact q
  · obtain ⟨its, r, pl, hz⟩ := I.tuple hq
    refine SeqAt.notIn_tupleAt (eqU x) pl (fun w hw => mem_eqAt rx fx r fs w (by simpa using hw)) ⟨.bl _, H, I, rfl, ?_⟩
    rw [show its.toArray.any (eqU x) = its.any (eqU x) by simp, any_eqU r fs]
    exact q
theorem call_len_seq : CallR X (.builtin "len") (fun xs H Q => ∃ p ys, xs = [.ref p] ∧ (SqL X.K H p ys ∨ SqT X.K H p ys) ∧ Q (.int ys.length) H) := by
  intro pins s σ H xs us Q I r h
  obtain ⟨p, ys, rfl, hq, q⟩ := h
  obtain ⟨u, rfl, rx⟩ := vals1 r
  cases rx
  have hn := line63
  rcases hq with hq | hq
  · obtain ⟨its, r', pl, hz⟩ := I.list hq
    have hlen := r'.length
    exact Calls.call_len_list pl.isList (by simp only [List.size_toArray] <;> omega) ⟨.int ys.length, H, I.tok _, ⟨s.toks + 1, by rw [List.size_toArray, hlen]⟩, q⟩
  · obtain ⟨its, r', pl, hz⟩ := I.tuple hq
    have hlen := r'.length
    exact len_tuple pl (by simp only [List.size_toArray] <;> omega) ⟨.int ys.length, H, I.tok _, ⟨s.toks + 1, by rw [List.size_toArray, hlen]⟩, q⟩
theorem call_len_str : CallR X (.builtin "len") (fun xs H Q => ∃ z, xs = [.str z] ∧ z.length ≤ sizeLine ∧ Q (.int z.length) H) := by
  intro pins s σ H xs us Q I r h
  obtain ⟨z, rfl, hz, q⟩ := h
  obtain ⟨u, rfl, t, rfl⟩ := vals1 r
  have hn := line63
  exact len_str (by omega) ⟨.int z.length, H, I.tok _, ⟨_, rfl⟩, q⟩
theorem CallR.or {f : Value} {r r' : List V → Hp → VK → Prop} (h : CallR X f r) (h' : CallR X f r') : CallR X f (fun xs H Q => r xs H Q ∨ r' xs H Q) := by
  intro pins s σ H xs us Q I rs q
  rcases q with q | q
  · exact h pins s σ H xs us Q I rs q
  · exact h' pins s σ H xs us Q I rs q
theorem call_tuple_of : CallR X (.type "tuple") (fun xs H Q => ∃ p ys, xs = [.ref p] ∧ ((SqL X.K H p ys ∧ ∀ l, H l = none → Q (.ref l) (upd H l (.tup ys))) ∨ (SqT X.K H p ys ∧ Q (.ref p) H))) := by
  intro pins s σ H xs us Q I r h
  obtain ⟨p, ys, rfl, h⟩ := h
  obtain ⟨u, rfl, rx⟩ := vals1 r
  cases rx
  rcases h with ⟨hq, q⟩ | ⟨hq, q⟩
  · obtain ⟨its, r', pl, hz⟩ := I.list hq
    have hlen := r'.length
    refine call_tuple_list pl.isList (fun h' kp => ?_) (by simp only [List.size_toArray] <;> omega)
    have I1 : Inv X pins σ H { s with heap := h' } := I.kept (t' := s.toks) kp
    have I2 : Inv X pins σ (upd H h'.objs.size (.tup ys)) { s with heap := h'.push { cls := .type "tuple", data := .seq its.toArray } } :=
      I1.laid (t' := s.toks) (fun b o e => Heap.get?_push_of_some _ e) (Nat.le_refl _) (show ObjOk X.prog X.w _ _ _ (.tup ys) from ⟨hz, its, r', IsTup.new _ _⟩)
    exact ⟨.ref h'.objs.size, _, I2, rfl, q _ (I1.hok.fresh (Nat.le_refl _))⟩
  · obtain ⟨its, r', pl, hz⟩ := I.tuple hq
    exact call_tuple_same pl ⟨.ref p, H, I, rfl, q⟩
def tyV (K : PySem.W.Frag) (T : String) (x : V) (H : Hp) : Prop := match x with
  | .str _ => T = "str"
  | .int _ => T = "int"
  | .ref p => (T = "list" ∧ ∃ xs, SqL K H p xs) ∨ (T = "tuple" ∧ ∃ o, K.lookup p = some o ∧ o.cls = .type "tuple" ∧ o.dict = none) ∨
      (T = "dict" ∧ ((∃ kvs, H p = some (.dK kvs)) ∨ ∃ kvs, H p = some (.dT kvs))) ∨ (T = "set" ∧ ∃ S n, H p = some (.set S n))
  | _ => False
theorem tyV_is {pins : List (Addr × Obj)} {σ : St} {H : Hp} {s : Shared} {T : String} {x : V} {v : Value} (I : Inv X pins σ H s) (r : RelV x v) (ty : tyV X.K T x H) :
    s.TypeIs v T ∧ ∀ a, v = .ref a → ∃ ob, s.heap.get? a = some ob ∧ ob.dict = none := by
  cases x with
  | str z =>
    obtain ⟨t, rfl⟩ := r
    cases (show T = "str" from ty)
    exact ⟨typeIs_str s z t, fun _ e => nomatch e⟩
  | int i =>
    obtain ⟨t, rfl⟩ := r
    cases (show T = "int" from ty)
    exact ⟨typeIs_int s i t, fun _ e => nomatch e⟩
  | ref p =>
    cases r
    rcases ty with ⟨rfl, xs, hq⟩ | ⟨rfl, o, hk, hc, hd⟩ | ⟨rfl, hk⟩ | ⟨rfl, S, n, hk⟩
    · obtain ⟨its, _, pl, _⟩ := I.list hq
      refine ⟨pl.isList.typeIs, fun a e => ?_⟩
      cases e
      obtain ⟨o, n, e, c, hd, _⟩ := pl
      exact ⟨o, e, hd⟩
    · refine ⟨⟨o, I.kIn p o hk, hc⟩, fun a e => ?_⟩
      cases e
      exact ⟨o, I.kIn _ o hk, hd⟩
    · have z : ∃ o, s.heap.get? p = some o ∧ o.ExactDict := by
        rcases hk with ⟨kvs, hk⟩ | ⟨kvs, hk⟩
        · obtain ⟨_, _, _, _, o, _, _, e, ex, _⟩ := I.hok p _ hk
          exact ⟨o, e, ex⟩
        · obtain ⟨_, _, _, _, o, _, _, e, ex, _⟩ := I.hok p _ hk
          exact ⟨o, e, ex⟩
      obtain ⟨o, e, ex⟩ := z
      refine ⟨⟨o, e, ex.1⟩, fun a e2 => ?_⟩
      cases e2
      exact ⟨o, e, ex.2.1⟩
    · obtain ⟨o, _, _, _, e, ex, _⟩ := I.hok p _ hk
      refine ⟨⟨o, e, ex.1⟩, fun a e2 => ?_⟩
      cases e2
      exact ⟨o, e, ex.2.1⟩
  | _ => exact False.elim ty
def tBM0 (K : PySem.W.Frag) (T : String) (r : V → List V → Hp → VK → Prop) (to : TE) : TE := fun σ H Q => to σ H fun x H1 => tyV K T x H1 ∧ r x [] H1 Q
def tBM (K : PySem.W.Frag) (T : String) (r : V → List V → Hp → VK → Prop) (to : TE) (t : TA) : TE := fun σ H Q => to σ H fun x H1 => tyV K T x H1 ∧ t σ H1 fun xs H2 => r x xs H2 Q
variable {o e : Expr} {es : List Expr} {to : TE} {t : TA} {name : Str} {apos cpos : Pos} {T id : String} {r : V → List V → Hp → VK → Prop}
theorem pe_bm0 (pa : PlainAttrs T) (slot : Slot T name id) (hty : typeOf (.builtin id) = pure (.type "method_descriptor")) (hm : MtR X id r) (ho : PE X o to)
    (hbase : attributeBase o name X.env (eval o X.env) = eval o X.env := by rfl) (hline : (apos.endLine == cpos.line) = true := by rfl) : PE X (.Call (.Attribute o name apos) [] [] cpos) (tBM0 X.K T r to) := by
  intro pins s σ H Q I h
  refine wpAny_Call_method0_late hbase hline (thn (ho pins s σ H _ I h) fun v s1 ⟨x, H1, I1, r1, ty, q1⟩ => ?_)
  obtain ⟨h1, h2⟩ := tyV_is I1 r1 ty
  exact ⟨T, id, pa, slot, hty, h1, h2, Calls.callWith_builtin rfl (PySem.evalArgs_none (hm pins s1 σ H1 x [] v [] Q I1 r1 .nil q1))⟩
theorem pe_bm (pa : PlainAttrs T) (slot : Slot T name id) (hty : typeOf (.builtin id) = pure (.type "method_descriptor")) (hm : MtR X id r) (ho : PE X o to) (ha : PA X (e :: es) t)
    (hbase : attributeBase o name X.env (eval o X.env) = eval o X.env := by rfl)
    (hfew : ((backTo cpos (starEach (e :: es) X.env)).all (fun x => !x.1) && (backToKw cpos (keywordEach [] X.env)).all (fun x => x.1.isSome)
      && decide ((e :: es).length + ([] : List Keyword).length + (if ([] : List Keyword).isEmpty then 0 else 1) < 30)) = true := by rfl)
    (hline : (apos.endLine == cpos.line) = true := by rfl) (hs : starEach (e :: es) X.env = (false, eval e X.env) :: starEach es X.env := by rfl) (hplain : (backTo cpos (starEach es X.env)).any (·.1) = false := by rfl) :
    PE X (.Call (.Attribute o name apos) (e :: es) [] cpos) (tBM X.K T r to t) := by
  intro pins s σ H Q I h
  refine wpAny_Call_method_late hbase hfew hline rfl (thn (ho pins s σ H _ I h) fun v s1 ⟨x, H1, I1, r1, ty, q1⟩ => ?_)
  obtain ⟨h1, h2⟩ := tyV_is I1 r1 ty
  refine ⟨T, id, pa, slot, hty, h1, h2, ?_⟩
  have hA := ha cpos pins s1 σ H1 _ I1 q1
  rw [hs] at hA ⊢
  refine Calls.callWith_builtin (by show (false || (backTo cpos (starEach es X.env)).any (·.1)) = false; rw [hplain] <;> rfl) (Calls.evalArgs_plain ?_)
  exact thn hA fun us s2 ⟨vs, H2, I2, r2, q2⟩ => hm pins s2 σ H2 x vs v us Q I2 r1 r2 q2
end
end L2
namespace L2
open PySem PySem.Spec PyProof.Rows
def MtM (X : Cx) (id : String) (r : V → List V → Hp → VK → Prop) : Prop :=
  ∀ (pins : List (Addr × Obj)) (s : Shared) (σ : St) (H : Hp) (x : V) (xs : List V) (v : Value) (us : List Value) (Q : VK), Inv X pins σ H s → RelV x v → Vals xs us → r x xs H Q →
    wpAny (model X.prog X.w) X.A (call (.builtin id) (v :: us)) (EP X pins σ Q) X.xe s
theorem Vals.one : ∀ {x : V} {us : List Value}, Vals [x] us → ∃ u, us = [u] ∧ RelV x u
  | _, _, .cons r .nil => ⟨_, rfl, r⟩
theorem Vals.zero : ∀ {us : List Value}, Vals [] us → us = []
  | _, .nil => rfl
theorem Vals.dropLast {xs : List V} {us : List Value} (h : Vals xs us) : Vals xs.dropLast us.dropLast := by
  induction h with
  | nil => exact .nil
  | cons r t ih =>
    cases t with
    | nil => exact .nil
    | cons q t' => exact .cons r ih
theorem erase_last {α : Type} (l : List α) : l.eraseIdx (l.length - 1) = l.dropLast := by
  induction l with
  | nil => rfl
  | cons a r ih =>
    cases r with
    | nil => rfl
    | cons b r =>
      have e : (a :: b :: r).length - 1 = ((b :: r).length - 1) + 1 := by
        have h1 : (a :: b :: r).length = r.length + 2 := rfl
        have h2 : (b :: r).length = r.length + 1 := rfl
        omega
      rw [e, List.eraseIdx_cons_succ, ih]
      all_goals rfl
section
variable {X : Cx} {pins : List (Addr × Obj)} {σ : St} {H : Hp} {s : Shared} {l b : Addr} {xs ys zs : List V}
theorem Inv.lset {its its' : List Value} {n : Nat} {f : Array Value → Array Value} {t' : Nat} (I : Inv X pins σ H s) (hH : H l = some (.lst xs))
    (e : s.heap.get? l = some { cls := .type "list", data := .seq its.toArray n }) (hf : f its.toArray = its'.toArray) (hv : Vals ys its') (hz : ys.length ≤ sizeLine) :
    Inv X pins σ (upd H l (.lst ys)) { s with heap := s.heap.update l (Obj.mapSeq f), toks := t' } := by
  have q := PySem.IsL.update e f
  rw [hf] at q
  refine I.write (x := l) (e := l) (by rw [hH]; exact trivial) (.inl rfl) (fun b' u hb hu => (Heap.get?_update_other s.heap (Obj.mapSeq f) (Ne.symm hb)).trans hu) ⟨_, q⟩ ?_
  exact ⟨hz, its', _, hv, q⟩
theorem Inv.lnew {its : List Value} {t' : Nat} (I : Inv X pins σ H s) (hv : Vals ys its) (hz : ys.length ≤ sizeLine) :
    Inv X pins σ (upd H s.heap.objs.size (.lst ys)) { s with heap := s.heap.push { cls := .type "list", data := .seq its.toArray }, toks := t' } :=
  I.laid (fun _ _ q => Heap.get?_push_of_some _ q) (Nat.le_refl _) ⟨hz, its, 0, hv, Heap.get?_push_size _ rfl⟩
theorem Inv.fresh (I : Inv X pins σ H s) : H s.heap.objs.size = none := I.hok.fresh (Nat.le_refl _)
theorem Inv.lstM (I : Inv X pins σ H s) (hH : H l = some (.lst xs)) : xs.length ≤ sizeLine ∧ ∃ (its : List Value) (n : Nat), Vals xs its ∧ xs.length = its.length ∧ s.heap.get? l = some { cls := .type "list", data := .seq its.toArray n } := by
  obtain ⟨z, its, n, r, e⟩ := I.hok l _ hH
  exact ⟨z, its, n, r, r.length, e⟩
end
section
variable {X : Cx}
def rAppend : V → List V → Hp → VK → Prop := fun x vs H Q => ∃ l xs y, x = .ref l ∧ vs = [y] ∧ H l = some (.lst xs) ∧ xs.length < sizeLine ∧ Q .non (upd H l (.lst (xs ++ [y])))
theorem mt_append : MtM X "list.append" rAppend := by
  intro pins s σ H x vs v us Q I rx rv h
  obtain ⟨l, xs, y, rfl, rfl, hH, hz, q⟩ := h
  cases rx
  obtain ⟨u, rfl, ru⟩ := rv.one
  obtain ⟨z, its, n, r, hl, e⟩ := I.lstM hH
  refine call_meets F.slot_list_append ⟨_, e, rfl⟩ F.entry_list_append (F.args_list_append_2 _ _) (PySem.list_append l its.toArray n u (by rw [List.size_toArray]; omega)) ⟨e, ?_⟩
  refine ⟨.non, _, I.lset (its' := its ++ [u]) hH e (by simp) (r.append (.cons ru .nil)) ?_, rfl, q⟩
  rw [List.length_append, List.length_singleton]
  omega
def rPop : V → List V → Hp → VK → Prop := fun x vs H Q => ∃ l xs y, x = .ref l ∧ vs = [] ∧ H l = some (.lst xs) ∧ xs[xs.length - 1]? = some y ∧ Q y (upd H l (.lst xs.dropLast))
theorem mt_pop : MtM X "list.pop" rPop := by
  intro pins s σ H x vs v us Q I rx rv h
  obtain ⟨l, xs, y, rfl, rfl, hH, hy, q⟩ := h
  cases rx
  have hus := rv.zero
  subst hus
  obtain ⟨z, its, n, r, hl, e⟩ := I.lstM hH
  obtain ⟨u, hu, ru⟩ := r.get hy
  have hy' : its.toArray[its.toArray.size - 1]? = some u := by
    show its.toArray[its.length - 1]? = some u
    rw [← Array.getElem?_toList, ← hl]
    exact hu
  refine call_meets F.slot_list_pop ⟨_, e, rfl⟩ F.entry_list_pop (F.args_list_pop_1 _) (MeetsSeq.list_pop_last l its.toArray n u hy' (by rw [List.size_toArray]; omega)) ⟨e, ?_⟩
  refine ⟨y, _, I.lset (its' := its.dropLast) hH e ?_ r.dropLast ?_, ru, q⟩
  · show its.toArray.eraseIdxIfInBounds (its.toArray.size - 1) = its.dropLast.toArray
    rw [List.size_toArray, List.eraseIdxIfInBounds_toArray, erase_last]
  · rw [List.length_dropLast]
    omega
end
section
variable {prog : Program} {w : World} {A : Around} {E : Value → Shared → Prop} {s : Shared}
set_option maxRecDepth 100000 in
end
section
variable {X : Cx}
end
end L2
namespace L2
open PySem PySem.Spec PyProof.Rows
section
variable {κ : Type} [DecidableEq κ]
def valV (kvs : List (κ × V)) (k : κ) : Option V := (kvs.find? fun kv => decide (kv.1 = k)).map (·.2)
def putK (kvs : List (κ × V)) (k : κ) (v : V) : List (κ × V) :=
  if (kvs.any fun kv => decide (kv.1 = k)) = true then kvs.map (fun kv => if kv.1 = k then (kv.1, v) else kv) else kvs ++ [(k, v)]
theorem valV_pos {p : κ × V} {r : List (κ × V)} {k : κ} (e : p.1 = k) : valV (p :: r) k = some p.2 := by simp [valV, List.find?_cons, e]
theorem valV_neg {p : κ × V} {r : List (κ × V)} {k : κ} (e : ¬ p.1 = k) : valV (p :: r) k = valV r k := by simp [valV, List.find?_cons, e]
theorem valV_any (k : κ) : ∀ kvs : List (κ × V), (kvs.any fun kv => decide (kv.1 = k)) = (valV kvs k).isSome
  | [] => rfl
  | p :: r => by
    rw [List.any_cons]
    by_cases e : p.1 = k
    · simp only [valV_pos e, decide_eq_true e, Bool.true_or, Option.isSome_some]
    · rw [valV_neg e, decide_eq_false e, Bool.false_or]; exact valV_any k r
theorem length_putK (kvs : List (κ × V)) (k : κ) (v : V) : (putK kvs k v).length ≤ kvs.length + 1 := by
  unfold putK
  split
  · rw [List.length_map]; omega
  · rw [List.length_append, List.length_cons, List.length_nil]; omega
theorem putK_new {kvs : List (κ × V)} {k : κ} (v : V) (h : valV kvs k = none) : putK kvs k v = kvs ++ [(k, v)] := by
  unfold putK
  rw [valV_any, h]
  exact if_neg (by decide)
theorem RelO.isSome_eq {o : Option V} {u : Option Value} (r : RelO o u) : o.isSome = u.isSome := by
  cases o with
  | none => cases u with
    | none => rfl
    | some _ => exact (show False from r).elim
  | some _ => cases u with
    | none => exact (show False from r).elim
    | some _ => rfl
theorem KV.val {kvs : List (κ × V)} {vs : List (κ × Value)} (r : KV kvs vs) (k : κ) : RelO (valV kvs k) (valueAt vs k) := by
  unfold KV at r
  induction r with
  | nil => exact True.intro
  | @cons p q ps qs h t ih =>
    obtain ⟨h1, h2⟩ := h
    by_cases e : p.1 = k
    · have e' : q.1 = k := h1.symm.trans e
      have b : valueAt (q :: qs) k = some q.2 := by simp [valueAt, List.find?_cons, e']
      rw [valV_pos e, b]; exact h2
    · have e' : ¬ q.1 = k := fun z => e (h1.trans z)
      have b : valueAt (q :: qs) k = valueAt qs k := by simp [valueAt, List.find?_cons, e']
      rw [valV_neg e, b]; exact ih
theorem KV.any {kvs : List (κ × V)} {vs : List (κ × Value)} (r : KV kvs vs) (k : κ) : (kvs.any fun kv => decide (kv.1 = k)) = vs.any fun kv => decide (kv.1 = k) := by
  unfold KV at r
  induction r with
  | nil => rfl
  | cons h t ih => rw [List.any_cons, List.any_cons, ih, h.1]
theorem KV.repl {kvs : List (κ × V)} {vs : List (κ × Value)} (r : KV kvs vs) (k : κ) {y : V} {u : Value} (ry : RelV y u) :
    KV (kvs.map fun kv => if kv.1 = k then (kv.1, y) else kv) (vs.map fun kv => if kv.1 = k then (kv.1, u) else kv) := by
  unfold KV at r ⊢
  induction r with
  | nil => exact .nil
  | @cons p q ps qs h t ih =>
    rw [List.map_cons, List.map_cons]
    refine .cons ?_ ih
    obtain ⟨h1, h2⟩ := h
    by_cases e : p.1 = k
    · rw [if_pos e, if_pos (h1.symm.trans e)]; exact ⟨h1, ry⟩
    · rw [if_neg e, if_neg (fun z => e (h1.trans z))]; exact ⟨h1, h2⟩
theorem KV.put {kvs : List (κ × V)} {vs : List (κ × Value)} (r : KV kvs vs) (k : κ) {y : V} {u : Value} (ry : RelV y u) : KV (putK kvs k y) (stored vs k u) := by
  unfold putK stored
  rw [r.any k]
  by_cases e : (vs.any fun kv => decide (kv.1 = k)) = true
  · rw [if_pos e, if_pos e]; exact r.repl k ry
  · rw [if_neg e, if_neg e]; exact Paired.snoc r ⟨rfl, ry⟩
theorem KV.length {kvs : List (κ × V)} {vs : List (κ × Value)} (r : KV kvs vs) : kvs.length = vs.length := Paired.length r
end
theorem kV_is {P : Program} {w : World} {k : Key} {u : Value} (r : RelV (kV k) u) : (mixKind P w).is k u = true := by
  cases k with
  | inl i => obtain ⟨t, e⟩ := (show ∃ t, u = Value.int i t from r); subst e; exact mixKind_int P w i t
  | inr x => obtain ⟨t, e⟩ := (show ∃ t, u = Value.str x t from r); subst e; exact mixKind_str P w x t
theorem items_are {P : Program} {w : World} : ∀ {ks : List Key} {us : List Value}, Vals (ks.map kV) us → ItemsAre (mixKind P w) ks us
  | [], _, r => by rw [List.map_nil] at r; cases r; exact .nil
  | k :: ks, _, r => by
    rw [List.map_cons] at r
    cases r with
    | cons h t => exact .cons (kV_is h) (items_are t)
abbrev KT (H : Hp) : List (List Key × V) → List (List Key × Addr × Value) → Prop := Paired fun p q => p.1 = q.1 ∧ H q.2.1 = some (.tup (p.1.map kV)) ∧ RelV p.2 q.2.2
theorem KT.val {H : Hp} {kvs : List (List Key × V)} {xs : List (List Key × Addr × Value)} (r : KT H kvs xs) (k : List Key) : RelO (valV kvs k) ((atKey xs k).map (·.2)) := by
  induction r with
  | nil => exact True.intro
  | @cons p q ps qs h t ih =>
    obtain ⟨h1, _, h2⟩ := h
    by_cases e : p.1 = k
    · have e' : q.1 = k := h1.symm.trans e
      have b : atKey (q :: qs) k = some q.2 := by simp [atKey, List.find?_cons, e']
      rw [valV_pos e, b]; exact h2
    · have e' : ¬ q.1 = k := fun z => e (h1.trans z)
      have b : atKey (q :: qs) k = atKey qs k := by simp [atKey, List.find?_cons, e']
      rw [valV_neg e, b]; exact ih
theorem KT.repl {H : Hp} {kvs : List (List Key × V)} {xs : List (List Key × Addr × Value)} (r : KT H kvs xs) (k : List Key) {y : V} {u : Value} (ry : RelV y u) :
    KT H (kvs.map fun kv => if kv.1 = k then (kv.1, y) else kv) (xs.map (putAt k u)) := by
  induction r with
  | nil => exact .nil
  | @cons p q ps qs h t ih =>
    rw [List.map_cons, List.map_cons]
    refine .cons ?_ ih
    obtain ⟨h1, h2, h3⟩ := h
    unfold putAt
    by_cases e : p.1 = k
    · rw [if_pos e, if_pos (h1.symm.trans e)]; exact ⟨h1, h2, ry⟩
    · rw [if_neg e, if_neg (fun z => e (h1.trans z))]; exact ⟨h1, h2, h3⟩
theorem KT.put {H : Hp} {kvs : List (List Key × V)} {xs : List (List Key × Addr × Value)} (r : KT H kvs xs) (k : List Key) {b : Addr} {y : V} {u : Value} (hb : H b = some (.tup (k.map kV))) (ry : RelV y u) :
    KT H (putK kvs k y) (storedH xs k b u) := by
  have e : (kvs.any fun kv => decide (kv.1 = k)) = (atKey xs k).isSome := by
    rw [valV_any, (r.val k).isSome_eq, Option.isSome_map]
  unfold putK storedH
  rw [e]
  by_cases q : (atKey xs k).isSome = true
  · rw [if_pos q, if_pos q]; exact r.repl k ry
  · rw [if_neg q, if_neg q]; exact Paired.snoc r ⟨rfl, hb, ry⟩
theorem KT.keeps {H H' : Hp} {kvs : List (List Key × V)} {xs : List (List Key × Addr × Value)} (r : KT H kvs xs) (ht : ∀ b ys, H b = some (.tup ys) → H' b = some (.tup ys)) : KT H' kvs xs :=
  Paired.mapP r fun _ _ z => ⟨z.1, ht _ _ z.2.1, z.2.2⟩
section
variable {P : Program} {w : World} {H : Hp} {h : Heap} {a : Addr}
theorem rd_of {u : HO} (ok : HOk P w H h) (e : Rd H a u) : ObjOk P w H h a u := e.ok ok
theorem dk_rd {kvs : List (Key × V)} (ok : HOk P w H h) (e : Rd H a (.dK kvs)) : kvs.length ≤ sizeLine ∧ (a == sysModules) = false ∧ ∃ vs, KV kvs vs ∧ h.DictOf (mixKind P w) a vs :=
  show ObjOk P w H h a (.dK kvs) from rd_of ok e
theorem dk_of {kvs : List (Key × V)} (ok : HOk P w H h) (e : H a = some (.dK kvs)) : kvs.length ≤ sizeLine ∧ (a == sysModules) = false ∧ ∃ vs, KV kvs vs ∧ h.DictOf (mixKind P w) a vs := dk_rd ok (.inl e)
theorem key_of {ks : List Key} (ok : HOk P w H h) (e : H a = some (.tup (ks.map kV))) : (tupleKind (mixKind P w)).is h ks a := by
  obtain ⟨_, its, r, o, h1, h2, n, h3⟩ := (show ObjOk P w H h a (.tup (ks.map kV)) from ok a _ e)
  exact ⟨o, its.toArray, n, h1, h2, h3, by simpa using items_are r⟩
theorem dt_rd {kvs : List (List Key × V)} (ok : HOk P w H h) (e : Rd H a (.dT kvs)) : kvs.length ≤ sizeLine ∧ (a == sysModules) = false ∧
    ∃ xs, KT H kvs xs ∧ h.DictOfH (tupleKind (mixKind P w)) a xs := by
  obtain ⟨z, y, xs, r, o, es, ep, h1, h2, h3, h4, h5⟩ := (show ObjOk P w H h a (.dT kvs) from rd_of ok e)
  refine ⟨z, y, xs, r, o, es, ep, h1, h2, h3, h4, fun x hx => ?_, h5⟩
  have all : ∀ {l : List (List Key × V)} {m : List (List Key × Addr × Value)}, KT H l m → ∀ x ∈ m, (tupleKind (mixKind P w)).is h x.1 x.2.1 := by
    intro l m q
    induction q with
    | nil => intro x hx; exact nomatch hx
    | @cons p q ps qs hq t ih =>
      intro x hx
      rcases List.mem_cons.mp hx with e | hx
      · subst e
        exact key_of ok (by rw [← hq.1]; exact hq.2.1)
      · exact ih x hx
  exact all r x hx
theorem dt_of {kvs : List (List Key × V)} (ok : HOk P w H h) (e : H a = some (.dT kvs)) : kvs.length ≤ sizeLine ∧ (a == sysModules) = false ∧
    ∃ xs, KT H kvs xs ∧ h.DictOfH (tupleKind (mixKind P w)) a xs := dt_rd ok (.inl e)
end
def DPut (H : Hp) (a : Addr) (y v : V) (H' : Hp) : Prop :=
  (∃ kvs k, H a = some (.dK kvs) ∧ y = kV k ∧ kvs.length < sizeLine ∧ H' = upd H a (.dK (putK kvs k v))) ∨
  ∃ kvs k b, H a = some (.dT kvs) ∧ y = .ref b ∧ H b = some (.tup (k.map kV)) ∧ kvs.length < sizeLine ∧ H' = upd H a (.dT (putK kvs k v))
section
variable {X : Cx} {pins : List (Addr × Obj)} {σ : St} {H : Hp} {s : Shared} {a : Addr} {y v : V} {u r : Value} {o : Option V} {A : Around} {E : Value → Shared → Prop}
theorem Inv.big (I : Inv X pins σ H s) : sysModules < s.heap.objs.size := by
  have h : mainGlobals < s.heap.objs.size := (I.mod.glob.keeps I.bk).lt
  exact Nat.lt_trans (by decide) h
theorem d_write {h' : Heap} {t' : Nat} {ob : HO} (I : Inv X pins σ H s) (mu : Mut (H a)) (hs : Heap.SameBut a s.heap h') (he : ∃ q, h'.get? a = some q) (new : ObjOk X.prog X.w (upd H a ob) h' a ob) :
    Inv X pins σ (upd H a ob) { s with heap := h', toks := t' } :=
  I.write (x := a) (e := a) mu (.inl rfl) (fun b q hb z => (hs.2 b hb).trans z) he new
theorem dk_new {P : Program} {w : World} {H' : Hp} {h' : Heap} {kvs : List (Key × V)} {vs : List (Key × Value)} (z : kvs.length ≤ sizeLine) (hd : (a == sysModules) = false) (rel : KV kvs vs) (dd : h'.DictOf (mixKind P w) a vs) :
    ObjOk P w H' h' a (.dK kvs) := ⟨z, hd, vs, rel, dd⟩
theorem d_setItem {H' : Hp} {Q : Unit → Shared → Prop} (hu : A.units + 1 < cLine) (I : Inv X pins σ H s) (g : DPut H a y v H') (ry : RelV y u) (rv : RelV v r) (h : ∀ s', Inv X pins σ H' s' → Q () s') :
    wpAny (model X.prog X.w) A (setItem (.ref a) u r) Q E s := by
  rcases g with ⟨kvs, k, e, ey, l, eH⟩ | ⟨kvs, k, b, e, ey, eb, l, eH⟩
  · subst ey eH
    obtain ⟨z, hd, vs, rel, dd⟩ := dk_of I.hok e
    have hz : vs.length ≤ sizeLine := by rw [← rel.length]; exact z
    have hl : (putK kvs k v).length ≤ sizeLine := by have := length_putK kvs k v; omega
    refine wpAny_setItem_pairs (hsz := hz) (kV_is ry) dd fun h' dd' hs => h _ ?_
    have he : ∃ q, h'.get? a = some q := let ⟨q, _, _, hq, _⟩ := dd'; ⟨q, hq⟩
    exact d_write I (by rw [e]; exact True.intro) hs he (dk_new hl hd (rel.put k rv) dd')
  · subst ey eH
    cases (show u = Value.ref b from ry)
    obtain ⟨z, hd, xs, rel, dd⟩ := dt_of I.hok e
    have hz : xs.length ≤ sizeLine := by rw [← Paired.length rel]; exact z
    have hl : (putK kvs k v).length ≤ sizeLine := by have := length_putK kvs k v; omega
    refine wpAny_setItem_heap (hsz := hz) (tupleKind_room_in1 hu) (key_of I.hok eb) dd fun h' dd' hs => h _ ?_
    obtain ⟨q, es, ep, hq, h2, h3, h4, _, h5⟩ := dd'
    refine d_write I (by rw [e]; exact True.intro) hs ⟨q, hq⟩ ⟨hl, hd, _, (rel.put k eb rv).keeps fun c ys ec => ?_, q, es, ep, hq, h2, h3, h4, h5⟩
    rw [upd_ne (ne_of ec e (fun z => nomatch z))]
    exact ec
end
section
variable {X : Cx} {pins : List (Addr × Obj)} {σ : St} {H : Hp} {s : Shared} {a : Addr} {kvs : List (Key × V)} {k : Key} {u : Value} {A : Around} {E : Value → Shared → Prop}
end
def sDPut (td ty tv : TE) : TS := fun D σ H => tv σ H fun v H1 => td σ H1 fun x H2 => ty σ H2 fun y H3 => ∃ a H4, x = .ref a ∧ DPut H3 a y v H4 ∧ D.nx σ H4
section
variable {X : Cx} {o i e value : Expr} {pos pos' tpos : Pos} {td ty tv : TE}
theorem ps_dput (hu : X.A.units + 1 < cLine) (ho : PE X o td) (hi : PE X i ty) (hv : PE X value tv) (hs : swapsWith value (some (.Subscript o i pos')) pos.line X.env = pure false) :
    PS X (.Assign [.Subscript o i pos'] value pos) (sDPut td ty tv) := by
  intro pins s σ H D I h
  refine wpAny_Assign_Subscript (thn (hv pins s σ H _ I h) fun r s1 ⟨v, H1, I1, rv, q1⟩ => thn (ho pins s1 σ H1 _ I1 q1) fun u s2 ⟨x, H2, I2, rx, q2⟩ => thn (hi pins s2 σ H2 _ I2 q2) fun iv s3 ⟨y, H3, I3, ry, a, H4, ex, g, q3⟩ => ?_) hs
  subst ex
  obtain rfl : u = Value.ref a := rx
  exact d_setItem hu I3 g ry rv fun s4 I4 => ⟨σ, H4, I4, q3⟩
end
theorem dk_empty {P : Program} {w : World} {H : Hp} (h : Heap) (hb : sysModules < h.objs.size) : ObjOk P w H (h.push { cls := .type "dict", data := .dict #[] }) h.objs.size (.dK []) :=
  ⟨Nat.zero_le _, beq_eq_false_iff_ne.mpr (Ne.symm (Nat.ne_of_lt hb)), [], .nil, Heap.DictOf.new h⟩
def tDNewK : TE := fun _ H Q => ∀ p, H p = none → Q (.ref p) (upd H p (.dK []))
section
variable {X : Cx} {pos : Pos}
theorem pe_dnewK : PE X (.Dict [] [] pos) tDNewK := fun pins s σ H Q I h =>
  wpAny_Dict_empty ⟨.ref s.heap.objs.size, _, I.laid (a := s.heap.objs.size) (o := .dK []) (t' := s.toks) (fun _ _ q => Heap.get?_push_of_some _ q) (Nat.le_refl _) (dk_empty s.heap I.big), rfl, h _ (I.hok.fresh (Nat.le_refl _))⟩
end
def IsD (H : Hp) (a : Addr) : Prop := (∃ kvs, Rd H a (.dK kvs)) ∨ ∃ kvs, Rd H a (.dT kvs)
theorem isD_at {X : Cx} {pins : List (Addr × Obj)} {σ : St} {H : Hp} {s : Shared} {a : Addr} (I : Inv X pins σ H s) (d : IsD H a) :
    s.TypeIs (.ref a) "dict" ∧ (∀ b, Value.ref a = .ref b → ∃ ob, s.heap.get? b = some ob ∧ ob.dict = none) ∧ (a == sysModules) = false := by
  rcases d with ⟨kvs, e⟩ | ⟨kvs, e⟩
  · obtain ⟨_, hd, vs, _, dd⟩ := dk_rd I.hok e
    refine ⟨dd.typeIs, fun b q => ?_, hd⟩
    cases q
    obtain ⟨ob, _, _, h1, h2, _⟩ := dd
    exact ⟨ob, h1, h2.2.1⟩
  · obtain ⟨_, hd, xs, _, dd⟩ := dt_rd I.hok e
    refine ⟨dd.typeIs, fun b q => ?_, hd⟩
    cases q
    obtain ⟨ob, _, _, h1, h2, _⟩ := dd
    exact ⟨ob, h1, h2.2.1⟩
section
variable {X : Cx} {pins : List (Addr × Obj)} {σ : St} {H : Hp} {s : Shared} {a : Addr} {y d : V} {u r : Value} {o : Option V} {A : Around} {E : Value → Shared → Prop}
end
section
variable {X : Cx} {o e f : Expr} {apos cpos : Pos} {td ty tx : TE}
end
section
variable {X : Cx} {pins : List (Addr × Obj)} {σ : St} {H : Hp} {s : Shared} {a : Addr} {kvs : List (Key × V)} {A : Around} {E : Value → Shared → Prop}
end
section
variable {X : Cx} {pins : List (Addr × Obj)} {σ : St} {H : Hp} {s : Shared} {a : Addr} {y : V} {u : Value} {A : Around} {E : Value → Shared → Prop}
end
end L2
namespace Att
open PySem PySem.W PySem.Calls PyProof.Rows
theorem ints_of_wellAll {P : Params} {h : Heap} : ∀ (ns : List Int) (vs : List Value), WellAll P h vs (ns.map WData.int) → IntsAre vs ns := by
  intro ns
  induction ns with
  | nil =>
    intro vs w
    rw [List.map_nil] at w
    cases w
    exact .nil
  | cons n ns ih =>
    intro vs w
    rw [List.map_cons] at w
    cases w with
    | cons a b =>
      cases a
      exact .cons _ _ (ih _ b)
theorem script_of {l : OpenLaw} {n : Nat} (hn : l.most = some n) {P : Params} {h : Heap} {args : List WData} {vals : List Value}
    (hpre : l.row.toRowW.claim.pre args = true) (hwl : WellAll P h vals args) :
    ∃ a vs ns, vals = [Value.ref a] ∧ args = [WData.list (ns.map WData.int)] ∧ h.get? a = some { cls := .type "list", data := .seq vs.toArray } ∧ IntsAre vs ns ∧ ns.length ≤ n := by
  have hsh : WShape.hasAll [] args [.list .int] = true := (pre_splitW hpre).1
  have hc : l.pre.holds [] { args := args } = true := (pre_splitW hpre).2
  obtain ⟨d, r, rfl, h1, h2⟩ := hasAllW_cons hsh
  obtain rfl := hasAllW_nil h2
  obtain ⟨xs, rfl, h3⟩ := hasW_list h1
  obtain ⟨ns, rfl⟩ := items_int h3
  have hlen : ns.length ≤ n := by
    unfold OpenLaw.pre at hc
    have h4 : (WTm.not (.lt (.lit (.int (n : Int))) (.len (.arg 0)))).holds [] { args := [.list (ns.map .int)] } = true := by
      have h4 := (holds_andW hc).1
      rw [hn] at h4
      exact h4
    have h5 := condW_of h4 (w_not (w_lt w_lit (w_len_list (w_arg rfl))))
    rw [List.length_map] at h5
    refine Nat.le_of_not_lt fun q => ?_
    have q' : (n : Int) < ((ns.length : Nat) : Int) := by omega
    first
      | (rw [decide_eq_true q'] at h5; exact absurd h5 (by decide))
      | (simp at h5; omega)
  cases hwl with
  | cons w1 w2 =>
    cases w2
    cases w1 with
    | list ho hall => exact ⟨_, _, ns, rfl, rfl, ho, ints_of_wellAll ns _ hall, hlen⟩
theorem post_true (l : OpenLaw) (args : List WData) : l.row.toRowW.claim.post args (.bool true) args = true :=
  postW_of (r := l.row.toRowW) (X := (true == true))
    (show WShape.has [] (.bool true) .bool = true by first | rfl | decide | simp [WShape.has, WShape.arms, WShape.armsAll])
    (show (WTm.eq .res (.lit (.bool true))).value [] { args := args, res := some (.bool true), after := args } = some (.bool (true == true)) from w_eq_bool (w_res rfl) w_lit) rfl
section
variable {prog : Program} {w : World} {A : Around} {E : Value → Shared → Prop} {s : Shared} {K : Frag}
end
end Att
namespace L2
open PySem PySem.Spec PyProof.Rows
theorem vals_ints : ∀ {vs : List Value} {ns : List Int}, IntsAre vs ns → Vals (ns.map V.int) vs
  | _, _, .nil => .nil
  | _, _, .cons n t h => .cons ⟨t, rfl⟩ (vals_ints h)
def Only (H : Hp) : Prop := ∀ b, H b = none ∨ ∃ o xs, H b = some (.frz o (.lst xs))
theorem law_call {P : Program} {w : World} {K : PySem.W.Frag} {mg mb : Str → Option Value} {CX : CXT} {k : Nat} {fa a : Addr} {fd : FuncData} {x : Str} {sp : Sp} {s₁ : Shared} {vs : List Value} {ns : List Int}
    (KX : K.In s₁.heap) (hns : s₁.heap.Ns mainGlobals mg) (hb : s₁.heap.Ns builtinsNs mb) (hbb : ∀ x : Str, x ≠ "__name__" → mb x = bootBuiltins x) (hlim : s₁.heap.NoLimit) (hg : s₁.gens = #[])
    (ha : s₁.heap.get? a = some { cls := .type "list", data := .seq vs.toArray }) (hi : IntsAre vs ns) (hl : ns.length ≤ sizeLine) (hr : Room k callerA)
    (F : ∀ base : Heap, K.In base → base.Ns mainGlobals mg → FnOk P w K mg base CX k fa fd [x] sp) (hbind : ∀ (s : Shared) (u : Value), BindsTo s fd ⟨[u], []⟩ [(x, u)])
    (hsp : ∀ H : Hp, Only H → SqL K H a (ns.map V.int) → sp [.ref a] H (fun v _ => v = .bl true) fun _ _ _ => False)
    (hCX : ∀ H e s', CX [] H s₁ (fun _ _ _ => False) e s' → False) :
    codeAny (model P w) callerA (.call (.ref fa) ⟨[.ref a], []⟩) (fun r s' => r = .ok (.ret (.bool true)) ∧ OldK s₁.heap s'.heap ∧ s'.os = s₁.os ∧ AllBare s'.gens) s₁ := by
  have rv := vals_ints hi
  have lenV := hi.length
  have core : ∀ H : Hp, Only H → SqL K H a (ns.map V.int) → HOk P w H s₁.heap → (∀ b, H b ≠ none → b = a) → (H a ≠ none → K.lookup a = none) →
      codeAny (model P w) callerA (.call (.ref fa) ⟨[.ref a], []⟩) (fun r s' => r = .ok (.ret (.bool true)) ∧ OldK s₁.heap s'.heap ∧ s'.os = s₁.os ∧ AllBare s'.gens) s₁ := by
    intro H hO hS hok hA hK
    have base_of : ∀ {b : Addr} {o : Obj}, s₁.heap.get? b = some o → H b = none → (hidT s₁.heap H).get? b = some o := fun e n => hidT_get e n
    have noA : ∀ {b : Addr} {o : Obj} {es : Array DictEntry} {ep : Nat}, s₁.heap.get? b = some o → o.data = .dict es ep → H b = none := fun {b o es ep} e d => by
      cases q : H b with
      | none => rfl
      | some u =>
        have e' : b = a := hA b (by rw [q]; simp)
        subst e'
        rw [ha] at e; cases e
        have d' : Data.seq vs.toArray _ = Data.dict es ep := d
        cases d'
    have nsK : ∀ {b : Addr} {m : Str → Option Value}, s₁.heap.Ns b m → (hidT s₁.heap H).Ns b m := fun {b m} ⟨o, es, ep, e, d, r⟩ => ⟨o, es, ep, base_of e (noA e d), d, r⟩
    have hKb : K.In (hidT s₁.heap H) := fun b o e => base_of (KX b o e) (by
      cases q : H b with
      | none => rfl
      | some u =>
        have e' : b = a := hA b (by rw [q]; simp)
        subst e'
        rw [hK (by rw [q]; simp)] at e; cases e)
    have hM : Mod K mg (hidT s₁.heap H) := ⟨hKb, nsK hns, ⟨mb, nsK hb, hbb⟩, let ⟨mc, h1, h2⟩ := hlim; ⟨mc, nsK h1, h2⟩⟩
    have e0 : Env0 P w K mg (hidT s₁.heap H) callerA [] s₁ H := ⟨rfl, hM, fun b o e => of_hidT e, Nat.le_of_eq (hidT_size _ _), trivial, fun b hb => absurd (show b ∈ ([] : List Addr) from hb) (by simp), hok, .of_eq hg⟩
    refine codeAny_mono ((F _ hKb (nsK hns)).run callerA [] s₁ H ⟨[.ref a], []⟩ [.ref a] [.ref a] _ _ hr e0 (hbind s₁ (.ref a)) (.cons rfl .nil) (hsp H hO hS)) fun r s' h => ?_
    cases r with
    | error e => exact (hCX H e s' h).elim
    | ok fl =>
      cases fl with
      | next => exact False.elim h
      | brk => exact False.elim h
      | cont => exact False.elim h
      | ret u =>
        obtain ⟨v, H', os, bare, un, hok', r', q⟩ := h
        have q' : v = .bl true := q
        subst q'
        obtain rfl : u = Value.bool true := r'
        refine ⟨rfl, OldK.of_keep fun b o e => ?_, os, bare⟩
        cases q : H b with
        | none => exact un.keep b o e q (by intro z; exact absurd (show b ∈ ([] : List Addr) from z) (by simp)) (by simp)
        | some u =>
          rcases hO b with z | ⟨ob, xs, z⟩
          · rw [q] at z; cases z
          · have z2 := un.frzs b ob _ z
            obtain ⟨e1, _⟩ := hok b _ z
            obtain ⟨e2, _⟩ := hok' b _ z2
            rw [e] at e1; cases e1
            exact e2
  cases hk : K.lookup a with
  | some o =>
    have e := KX a o hk
    rw [ha] at e
    cases e
    refine core (fun _ => none) (fun _ => .inl rfl) (.inr ⟨_, vs.toArray, _, hk, rfl, rfl, rfl, by rw [List.size_toArray, lenV]; exact hl, by simpa using rv⟩) (fun b u z => by have z' : (none : Option HO) = some u := z; cases z') (fun b z => absurd rfl z) fun z => absurd rfl z
  | none =>
    refine core (fun b => if b = a then some (.frz { cls := .type "list", data := .seq vs.toArray } (.lst (ns.map V.int))) else none) (fun b => ?_) (.inl (.inr ⟨{ cls := .type "list", data := .seq vs.toArray }, if_pos rfl⟩)) (fun b u z => ?_) (fun b z => ?_) fun _ => hk
    · by_cases hb : b = a
      · exact .inr ⟨_, _, if_pos hb⟩
      · exact .inl (if_neg hb)
    · by_cases hb : b = a
      · have z' := (if_pos hb).symm.trans z
        cases z'
        subst hb
        exact ⟨ha, by rw [List.length_map]; exact hl, vs, _, rv, ha⟩
      · have z' := (if_neg hb).symm.trans z
        cases z'
    · by_cases hb : b = a
      · exact hb
      · exact absurd (if_neg hb) z
end L2
namespace L2
open PySem PySem.Spec PyProof.Rows
end L2
namespace L2
open PySem PySem.Spec PyProof.Rows
abbrev CX0 : CXT := fun _ _ _ _ _ _ => False
abbrev E0 : XK := fun _ _ _ => False
theorem pass0 {X : Cx} : Passes CX0 X E0 := fun _ _ _ _ _ _ _ h => h.elim
structure Fun (K : PySem.W.Frag) (x qual : Str) (st : Stmt) (f : Addr) (fd : FuncData) : Prop where
  ex : ∃ (oc : Value) (od : Option Addr) (kV doc pm : Value) (an : Option Addr) (cdv ct : Value) (osl : Array (Option Value)),
    fd = PySem.W.fnOf x qual (defArgs st) (defBody st) (defScope st) .none kV doc pm an cdv ct ∧ K.lookup f = some ⟨oc, od, .func fd, osl⟩ ∧ PySem.W.codeIn K cdv qual = true
  kp : PySem.W.keepIn K (.ref f) = true
section
variable {P : Program} {w : World} {K : PySem.W.Frag} {mg : Str → Option Value} {base : Heap}
theorem Fun.ok {x qual : Str} {st : Stmt} {f : Addr} {fd : FuncData} {N ps : List Str} {k : Nat} {sp : Sp} (F : Fun K x qual st f fd) (S : FnScope N ps (defScope st)) (len : ∀ vs H Q E, sp vs H Q E → vs.length = ps.length)
    (hbody : ∀ (cdv : Value) (A : Around) (outer : List Env) (s : Shared) (H : Hp) (vs : List V) (Q : VK) (E : XK), Room k (A.deeper (envOfC qual (defScope st) s.heap.objs.size f cdv)) → sp vs H Q E →
      ∃ t, PSs (cxOf CX0 P w K mg base N qual (defScope st) f cdv A outer s H E).nox (defBody st) t ∧ t { nx := fun _ H' => Q .non H', rt := Q } (start N vs) H) : FnOk P w K mg base CX0 (k + 1) f fd ps sp := by
  obtain ⟨oc, od, kV, doc, pm, an, cdv, ct, osl, rfl, lk, hcd⟩ := F.ex
  refine fn_of lk hcd S len fun A outer s H vs Q E hr hsp => ?_
  obtain ⟨t, h, q⟩ := hbody cdv A outer s H vs Q E hr hsp
  exact ⟨t, h.nox, q⟩
theorem Fun.binds {x qual : Str} {st : Stmt} {f : Addr} {fd : FuncData} {ps : List Str} (F : Fun K x qual st f fd)
    (h : ∀ (kV doc pm : Value) (an : Option Addr) (cdv ct : Value) (us : List Value), us.length = ps.length → bindArgs (PySem.W.fnOf x qual (defArgs st) (defBody st) (defScope st) .none kV doc pm an cdv ct) ⟨us, []⟩ = pure (ps.zip us)) : Binds K fd ps [] := by
  obtain ⟨oc, od, kV, doc, pm, an, cdv, ct, osl, rfl, lk, hcd⟩ := F.ex
  exact .all (h kV doc pm an cdv ct)
theorem fun_mk {x qual : Str} {st : Stmt} {f : Addr} {oc : Value} {od an : Option Addr} {osl : Array (Option Value)} {kV doc pm cdv ct : Value} (l : K.lookup f = some ⟨oc, od, .func (PySem.W.fnOf x qual (defArgs st) (defBody st) (defScope st) .none kV doc pm an cdv ct), osl⟩)
    (c : PySem.W.codeIn K cdv qual = true) (k : PySem.W.keepIn K (.ref f) = true) : Fun K x qual st f (PySem.W.fnOf x qual (defArgs st) (defBody st) (defScope st) .none kV doc pm an cdv ct) := ⟨⟨oc, od, kV, doc, pm, an, cdv, ct, osl, rfl, l, c⟩, k⟩
end
section
variable {X : Cx}
theorem pv (i : Nat) {x : Str} {pos : Pos} (hN : X.N[i]? = some x := by rfl) (hv : Vis X.env.scope x := by first | exact Or.inl rfl | exact Or.inr (Or.inl rfl) | exact Or.inr (Or.inr rfl)) (hd : (x == ("__debug__" : Str)) = false := by decide)
    (hcd : (x == ("__classdict__" : Str)) = false := by decide) : PE X (.Name x pos) (tVar i) := pe_var hN hv hd hcd
end
theorem iteF {A B : Prop} (h : B) : if false = true then A else B := by
  rw [if_neg Bool.false_ne_true]
  exact h
theorem iteT {A B : Prop} (h : A) : if true = true then A else B := by
  rw [if_pos rfl]
  exact h
theorem ite2 {c A B : Prop} [Decidable c] (h1 : c → A) (h2 : ¬ c → B) : if c then A else B := by
  by_cases h : c
  · rw [if_pos h]
    exact h1 h
  · rw [if_neg h]
    exact h2 h
theorem iteNS {c A B : Prop} [Decidable c] (hc : c) (h : B) : if (!decide c) = true then A else B := by
  rw [decide_eq_true hc]
  exact iteF h
def Same (H H' : Hp) : Prop := ∀ b o, H b = some o → H' b = some o
theorem Same.refl (H : Hp) : Same H H := fun _ _ h => h
theorem Same.trans {H H1 H2 : Hp} (a : Same H H1) (b : Same H1 H2) : Same H H2 := fun c o h => b c o (a c o h)
theorem Same.seq {K : PySem.W.Frag} {H H' : Hp} {a : Addr} {xs : List V} (e : Same H H') (h : SqL K H a xs) : SqL K H' a xs := by
  rcases h with (h | ⟨o, h⟩) | h
  · exact .inl (.inl (e _ _ h))
  · exact .inl (.inr ⟨o, e _ _ h⟩)
  · exact .inr h
end L2
namespace L2
open PySem PySem.Spec PyProof.Rows
section
variable {X : Cx}
end
section
variable {κ : Type} [DecidableEq κ]
theorem valV_in {kvs : List (κ × V)} {k : κ} {v : V} (h : valV kvs k = some v) : k ∈ kvs.map (·.1) := by
  have q : (kvs.any fun kv => decide (kv.1 = k)) = true := by
    rw [valV_any, h]
    all_goals rfl
  obtain ⟨p, hp, e⟩ := List.any_eq_true.mp q
  exact List.mem_map.mpr ⟨p, hp, of_decide_eq_true e⟩
end
end L2
namespace L2
open PySem PySem.Spec PyProof.Rows
def freeCells (cells : List (Str × Addr)) : List (Str × NameKind) → List (Str × Addr) → List (Str × Addr)
  | [], acc => acc
  | (n, k) :: r, acc => freeCells cells r (if k == .free then (match cells.lookup n with | some c => (n, c) :: acc | none => acc) else acc)
theorem closureFor_eq {scope : Scope} {env : Env} (h : ∀ y ∈ scope.names, y.2 = .free → ∃ c, env.cells.lookup y.1 = some c) : closureFor scope env = pure (freeCells env.cells scope.names []) := by
  simp only [closureFor]
  generalize ([] : List (Str × Addr)) = acc
  revert h
  generalize scope.names = l
  intro h
  induction l generalizing acc with
  | nil => simp [freeCells]
  | cons x r ih =>
    obtain ⟨n, k⟩ := x
    rw [List.forIn_cons]
    have hr : ∀ y ∈ r, y.2 = NameKind.free → ∃ c, env.cells.lookup y.1 = some c := fun y hy => h y (List.mem_cons_of_mem _ hy)
    by_cases hk : k = .free
    · subst hk
      obtain ⟨c, e⟩ := h (n, .free) List.mem_cons_self rfl
      have e' : List.lookup n env.cells = some c := e
      have e2 : cellOf env n = pure c := by unfold cellOf; rw [e']
      simp only [beq_self_eq_true, if_true, e2, pure_bind, freeCells, e']
      exact ih _ hr
    · have hb : (k == NameKind.free) = false := by simpa using hk
      simp only [hb, Bool.false_eq_true, if_false, pure_bind, freeCells]
      exact ih _ hr
theorem freeCells_mem (cells : List (Str × Addr)) : ∀ (l : List (Str × NameKind)) (acc : List (Str × Addr)) (p : Str × Addr), p ∈ freeCells cells l acc → p ∈ acc ∨ (p.1, NameKind.free) ∈ l ∧ cells.lookup p.1 = some p.2
  | [], _, _, h => .inl h
  | (n, k) :: r, acc, p, h => by
    have h' : p ∈ freeCells cells r (if k == .free then (match cells.lookup n with | some c => (n, c) :: acc | none => acc) else acc) := h
    rcases freeCells_mem cells r _ p h' with q | ⟨q1, q2⟩
    · by_cases hk : k = .free
      · subst hk
        simp only [beq_self_eq_true, if_true] at q
        cases e : cells.lookup n with
        | none => rw [e] at q; exact .inl q
        | some c =>
          rw [e] at q
          rcases List.mem_cons.mp q with rfl | q
          · exact .inr ⟨List.mem_cons_self, e⟩
          · exact .inl q
      · have hb : (k == NameKind.free) = false := by simpa using hk
        simp only [hb, Bool.false_eq_true, if_false] at q
        exact .inl q
    · exact .inr ⟨List.mem_cons_of_mem _ q1, q2⟩
theorem lookup_some_of_mem {α β : Type} [BEq α] [LawfulBEq α] {x : α} : ∀ {l : List (α × β)} {c : β}, (x, c) ∈ l → ∃ d, l.lookup x = some d
  | (a, b) :: r, c, h => by
    by_cases e : x = a
    · subst e; exact ⟨b, by simp⟩
    · rcases List.mem_cons.mp h with q | q
      · cases q; exact absurd rfl e
      · obtain ⟨d, hd⟩ := lookup_some_of_mem q
        refine ⟨d, ?_⟩
        have e' : (x == a) = false := by simpa using e
        simp only [List.lookup_cons, e']
        exact hd
theorem freeCells_has (cells : List (Str × Addr)) (x : Str) (c : Addr) (e : cells.lookup x = some c) : ∀ (l : List (Str × NameKind)) (acc : List (Str × Addr)), ((x, NameKind.free) ∈ l ∨ (x, c) ∈ acc) → (x, c) ∈ freeCells cells l acc
  | [], _, h => h.elim (fun q => nomatch q) id
  | (n, k) :: r, acc, h => by
    refine freeCells_has cells x c e r _ ?_
    rcases h with h | h
    · rcases List.mem_cons.mp h with q | q
      · cases q
        refine .inr ?_
        rw [e]
        exact List.mem_cons_self
      · exact .inl q
    · refine .inr ?_
      by_cases hk : (k == NameKind.free) = true
      · rw [if_pos hk]
        cases cells.lookup n with
        | none => exact h
        | some _ => exact List.mem_cons_of_mem _ h
      · rw [if_neg hk]; exact h
theorem freeCells_look {cells : List (Str × Addr)} {names : List (Str × NameKind)} {x : Str} {c : Addr} (h : (freeCells cells names []).lookup x = some c) : cells.lookup x = some c := by
  have hm := PySem.mem_of_lookup h
  rcases freeCells_mem cells names [] _ hm with q | ⟨_, q⟩
  · exact nomatch q
  · exact q
theorem freeCells_ex {cells : List (Str × Addr)} {names : List (Str × NameKind)} {x : Str} {c : Addr} (hm : (x, NameKind.free) ∈ names) (e : cells.lookup x = some c) : (freeCells cells names []).lookup x = some c := by
  obtain ⟨d, hd⟩ := lookup_some_of_mem (freeCells_has cells x c e names [] (.inl hm))
  have := freeCells_look hd
  rw [e] at this
  rw [hd, this]
theorem relabel_look {scope : Scope} {env : Env} {x : Str} {k : NameKind} (h : (relabel scope env).names.lookup x = some k) : ∃ k', scope.names.lookup x = some k' ∧ (k' = k ∨ (k' = .free ∧ k = .cell)) := by
  have go : ∀ (l : List (Str × NameKind)), (l.map fun (n, k) => if (k == NameKind.free && env.scope.kind == .function && env.kindOf n == some .cell) then (n, NameKind.cell) else (n, k)).lookup x = some k → ∃ k', l.lookup x = some k' ∧ (k' = k ∨ (k' = .free ∧ k = .cell)) := by
    intro l
    induction l with
    | nil => intro h; simp at h
    | cons p r ih =>
      obtain ⟨n, kk⟩ := p
      intro h
      simp only [List.map_cons] at h
      by_cases hx : x = n
      · subst hx
        by_cases hc : (kk == NameKind.free && env.scope.kind == .function && env.kindOf x == some .cell) = true
        · rw [if_pos hc] at h
          simp at h
          have : kk = .free := by
            simp only [Bool.and_eq_true, beq_iff_eq] at hc
            exact hc.1.1
          exact ⟨kk, by simp, .inr ⟨this, h.symm⟩⟩
        · rw [if_neg hc] at h
          simp at h
          exact ⟨kk, by simp, .inl h⟩
      · have e' : (x == n) = false := by simpa using hx
        have : ∀ b : Bool, (if b = true then (n, NameKind.cell) else (n, kk)).1 = n := fun b => by cases b <;> rfl
        rw [List.lookup_cons, this, e'] at h
        obtain ⟨k', h1, h2⟩ := ih h
        exact ⟨k', by rw [List.lookup_cons, e']; exact h1, h2⟩
  exact go scope.names h
theorem relabel_free {scope : Scope} {env : Env} {x : Str} (h : scope.names.lookup x = some .free) : (relabel scope env).names.lookup x = some .cell ∨ (relabel scope env).names.lookup x = some .free := by
  have go : ∀ (l : List (Str × NameKind)), l.lookup x = some .free → (l.map fun (n, k) => if (k == NameKind.free && env.scope.kind == .function && env.kindOf n == some .cell) then (n, NameKind.cell) else (n, k)).lookup x = some .cell ∨ (l.map fun (n, k) => if (k == NameKind.free && env.scope.kind == .function && env.kindOf n == some .cell) then (n, NameKind.cell) else (n, k)).lookup x = some .free := by
    intro l
    induction l with
    | nil => intro h; simp at h
    | cons p r ih =>
      obtain ⟨n, kk⟩ := p
      intro h
      simp only [List.map_cons]
      by_cases hx : x = n
      · subst hx
        simp at h
        by_cases hc : (kk == NameKind.free && env.scope.kind == .function && env.kindOf x == some .cell) = true
        · rw [if_pos hc]; simp
        · rw [if_neg hc]; simp [h]
      · have e' : (x == n) = false := by simpa using hx
        have t : ∀ b : Bool, (if b = true then (n, NameKind.cell) else (n, kk)).1 = n := fun b => by cases b <;> rfl
        rw [List.lookup_cons, e'] at h
        rw [List.lookup_cons, t, e']
        exact ih h
  exact go scope.names h
section
variable {prog : Program} {w : World} {A : Around} {R : Result → Shared → Prop} {s : Shared}
theorem compLoop_go {elt target iter : Expr} {ifs : List Expr} {scope : Scope} {pos : Pos} {it acc : Value} {env : Env} (I : Nat → Shared → Prop)
    (turn : ∀ n s, I n s → wpAny (model prog w) A (pyNext it) (fun r s₁ => match r with
      | none => R (.ok .next) s₁
      | some v => wpAny (model prog w) A (letOwnedTupleGo target it v) (fun _ s₁' => wpAny (model prog w) A (assign target env v) (fun _ s₂ =>
          wpAny (model prog w) A (forIn ifs true fun c r => if r = true then do let ok ← isTrue c env (eval c env); pure (ForInStep.yield ok) else pure (ForInStep.yield r)) (fun ok s₃ =>
            if ok = true then wpAny (model prog w) A (eval elt env) (fun x s₄ =>
              wpAny (model prog w) A (call (.builtin "list.append") [acc, x]) (fun _ s₅ => ∃ m, m < n ∧ I m s₅) (fun _ _ => False) s₄) (fun _ _ => False) s₃
            else ∃ m, m < n ∧ I m s₃) (fun _ _ => False) s₂) (fun _ _ => False) s₁') (fun _ _ => False) s₁) (fun _ _ => False) s)
    (n : Nat) (h : I n s) :
    codeAny (model prog w) A (.compLoop (.ListComp elt [⟨target, iter, ifs, 0⟩] scope pos) 0 it acc env) R s := by
  refine codeAny_loop rfl I (fun n s hI => ?_) n h
  show wpAny _ A ((compTurn (.ListComp elt [⟨target, iter, ifs, 0⟩] scope pos) 0 it acc env).onRaise (fun x => do noteFrame x env; theTreesLotGoes x)) _ _ s
  refine wpAny_noted ?_
  rw [compTurn_list]
  refine wpAny_bind (wpAny_standAt (wpAny_bind (wpAny_mono (turn n s hI) (fun r s₁ h₁ => ?_) fun _ _ h' => h'.elim)))
  cases r with
  | none => exact wpAny_pure h₁
  | some v =>
    refine wpAny_bind (wpAny_mono h₁ (fun _ s₁' h₁' => ?_) fun _ _ h' => h'.elim)
    refine wpAny_bind (wpAny_mono h₁' (fun _ s₂ h₂ => wpAny_bind (wpAny_mono h₂ (fun ok s₃ h₃ => ?_) fun _ _ h' => h'.elim)) fun _ _ h' => h'.elim)
    cases ok with
    | false => exact wpAny_pure ⟨rfl, h₃⟩
    | true =>
      exact wpAny_bind (wpAny_bind (wpAny_mono h₃ (fun x s₄ h₄ => wpAny_bind (wpAny_mono h₄ (fun _ s₅ h₅ => wpAny_pure (wpAny_pure ⟨rfl, h₅⟩)) fun _ _ h' => h'.elim)) fun _ _ h' => h'.elim))
end
structure CompSc (esc : Scope) (N : List Str) (scope : Scope) (k : Nat) (Nc : List Str) (js : List Nat) : Prop where
  kind : scope.kind = .function
  cell : ∀ y ∈ scope.names, y.2 ≠ .cell
  names : ∀ y ∈ scope.names, y.2 = .local → scope.names.lookup y.1 = some .local
  free : ∀ y ∈ scope.names, y.2 = .free → esc.names.lookup y.1 = some .cell ∨ esc.names.lookup y.1 = some .free
  len : Nc.length = k + js.length
  out : ∀ p ∈ (Nc.drop k).zip js, N[p.2]? = some p.1 ∧ scope.names.lookup p.1 = some .free
def compSt (k : Nat) (js : List Nat) (σ : St) : St := List.replicate k none ++ js.map fun j => (σ[j]?).join
def Cx.comp (X : Cx) (pins : List (Addr × Obj)) (Nc : List Str) (scope : Scope) (fp : List Addr) (s : Shared) (H : Hp) (C : Addr) : Cx :=
  { X with N := Nc, s₀ := s, H₀ := H, env := compEnvC scope (freeCells X.env.cells scope.names []) C X.env, outer := X.stack, stack := X.stack, ex := fp, fn := fun _ => false, pn := X.pn ++ pins, xe := fun _ _ => False }
section
variable {X : Cx} {pins : List (Addr × Obj)} {σ : St} {H : Hp} {s : Shared} {scope : Scope} {Nc : List Str} {js : List Nat} {k : Nat}
theorem CompSc.some (S : CompSc X.env.scope X.N scope k Nc js) (I : Inv X pins σ H s) : ∀ y ∈ scope.names, y.2 = .free → ∃ c, X.env.cells.lookup y.1 = some c := fun y hy hk => I.ok.has y.1 (S.free y hy hk)
theorem CompSc.clos (S : CompSc X.env.scope X.N scope k Nc js) (I : Inv X pins σ H s) : closureFor scope X.env = pure (freeCells X.env.cells scope.names []) := closureFor_eq (S.some I)
theorem comp_ok (S : CompSc X.env.scope X.N scope k Nc js) (I : Inv X pins σ H s) {fp : List Addr} (hf : ∀ b ∈ fp, FpOk X pins H b) (hlt : ∀ b ∈ fp, b < s.heap.objs.size) {C : Addr} (hC : s.heap.objs.size ≤ C) : (X.comp pins Nc scope fp s H C).Ok := by
  have ltC : ∀ b, b < s.heap.objs.size → b ≠ C := fun b hb => Nat.ne_of_lt (Nat.lt_of_lt_of_le hb hC)
  have notstk : ∀ b ∈ fp, b ∉ frs X.stack := fun b hb z => by
    rcases List.mem_cons.mp (I.stkSub b z) with e | e
    · exact (hf b hb).2.1 e
    · exact (hf b hb).2.2.1 e
  refine ⟨I.ok.mod, S.kind, I.ok.glob, I.ok.blt, hC, fun x y c h1 h2 => I.ok.inj x y c (freeCells_look h1) (freeCells_look h2), fun x hx => ?_, fun x c h => ?_, I.ok.hd, I.ok.frames, .inl rfl, fun b hb => ⟨?_, fun x c e => (hf b hb).2.2.2.2.1 x c (freeCells_look e)⟩,
    fun b o e => ⟨(I.bs b o e).1, (I.bs b o e).2⟩, Nat.le_trans I.ok.bsz I.sz, fun b o e hb => ?_, notstk, I.stack, I.stkFree⟩
  · have hx' : (relabel scope X.env).names.lookup x = some .cell ∨ (relabel scope X.env).names.lookup x = some .free := hx
    have hfree : (x, NameKind.free) ∈ scope.names := by
      rcases hx' with h | h
      · obtain ⟨k', h1, h2⟩ := relabel_look h
        rcases h2 with rfl | ⟨rfl, _⟩
        · exact absurd rfl (S.cell _ (PySem.mem_of_lookup h1))
        · exact PySem.mem_of_lookup h1
      · obtain ⟨k', h1, h2⟩ := relabel_look h
        rcases h2 with rfl | ⟨rfl, _⟩
        · exact PySem.mem_of_lookup h1
        · exact PySem.mem_of_lookup h1
    obtain ⟨c, hc⟩ := S.some I (x, .free) hfree rfl
    exact ⟨c, freeCells_ex hfree hc⟩
  · exact absurd (show false = true from h) Bool.false_ne_true
  · exact ltC b (hlt b hb)
  · rcases (hf b hb).2.2.2.1 with q | q
    · exact I.ok.noex b o e q
    · exact absurd (Nat.lt_of_lt_of_le (Heap.lt_size e) (Nat.le_trans I.ok.bsz q)) (Nat.lt_irrefl _)
theorem comp_inv (S : CompSc X.env.scope X.N scope k Nc js) (I : Inv X pins σ H s) {fp : List Addr} (hf : ∀ b ∈ fp, FpOk X pins H b) (hlt : ∀ b ∈ fp, b < s.heap.objs.size) {C : Addr} (hC : s.heap.objs.size ≤ C) {s1 : Shared}
    (os : s1.os = s.os) (bare : AllBare s1.gens) (kept : ∀ b o, s.heap.get? b = some o → s1.heap.get? b = some o) (ns : ∃ m, s1.heap.Ns C m) : Inv (X.comp pins Nc scope fp s H C) [] (compSt k js σ) H s1 := by
  have ltC : ∀ b, b < s.heap.objs.size → b ≠ C := fun b hb => Nat.ne_of_lt (Nat.lt_of_lt_of_le hb hC)
  refine ⟨comp_ok S I hf hlt hC, os, bare, Un.kept kept, ?_, fun x c e => ?_, I.hok.fresh hC, fun x c e => I.freeC x c (freeCells_look e), fun p hp => ?_, I.hok.kept kept, ?_⟩
  · obtain ⟨mc, hns⟩ := ns
    refine ⟨mc, hns, fun i x v e1 e2 e3 => ?_⟩
    have e1' : Nc[i]? = some x := e1
    by_cases hi : i < k
    · unfold compSt at e2
      rw [List.getElem?_append_left (by simpa using hi), List.getElem?_replicate, if_pos hi] at e2
      cases e2
    · obtain ⟨i', rfl⟩ : ∃ i', i = k + i' := ⟨i - k, by omega⟩
      unfold compSt at e2
      rw [List.getElem?_append_right (by simp), List.length_replicate, Nat.add_sub_cancel_left, List.getElem?_map] at e2
      cases ej : js[i']? with
      | none => rw [ej] at e2; cases e2
      | some j =>
        rw [ej] at e2
        have e2' : (σ[j]?).join = some v := Option.some.inj e2
        have e4 : σ[j]? = some (some v) := by
          cases q : σ[j]? with
          | none => rw [q] at e2'; cases e2'
          | some z => rw [q] at e2'; cases z with
            | none => cases e2'
            | some z => cases e2'; rfl
        have hm : (x, j) ∈ (Nc.drop k).zip js := List.mem_of_getElem? (i := i') (List.getElem?_zip_eq_some.mpr ⟨by rw [List.getElem?_drop]; exact e1', ej⟩)
        obtain ⟨hN, hfr⟩ := S.out _ hm
        have hfm : (x, NameKind.free) ∈ scope.names := PySem.mem_of_lookup hfr
        have hk := S.free _ hfm rfl
        obtain ⟨m, hn, hl⟩ := I.loc
        obtain ⟨u, r, l⟩ := hl j x v hN e4 (.inr hk)
        refine ⟨u, r, ?_⟩
        rcases l with ⟨hk', _⟩ | ⟨_, c, hc, o, ho, hd⟩
        · have hk'' : X.env.scope.names.lookup x = some .local := hk'
          rcases hk with hk | hk
          · rw [hk] at hk''; cases hk''
          · rw [hk] at hk''; cases hk''
        · exact .inr ⟨relabel_free hfr, c, freeCells_ex hfm hc, o, kept _ _ ho, hd⟩
  · obtain ⟨v, o, ho, hd⟩ := I.cell x c (freeCells_look e)
    exact ⟨v, o, kept _ _ ho, hd⟩
  · have hp' : p ∈ X.pn ++ pins := by
      rcases List.mem_append.mp hp with z | z
      · exact z
      · exact nomatch z
    obtain ⟨e, n, ne, nf, d⟩ := I.pin p hp'
    refine ⟨kept _ _ e, n, ltC _ (Heap.lt_size e), fun z => ?_, d⟩
    rcases List.mem_cons.mp (I.stkSub _ z) with q | q
    · exact ne q
    · exact nf q
  · show (compSt k js σ).length = Nc.length
    unfold compSt
    rw [List.length_append, List.length_replicate, List.length_map, S.len]
theorem comp_back (I : Inv X pins σ H s) {fp : List Addr} (hf : ∀ b ∈ fp, FpOk X pins H b) {C D : Addr} (hDs : s.heap.objs.size ≤ D) {pins' : List (Addr × Obj)} {σ' : St} {H' : Hp} {s' : Shared} {ys : List V} {its : List Value} {n : Nat}
    (J : Inv (X.comp pins Nc scope fp s H C) pins' σ' H' s') (hD : H' D = none) (hz : ys.length ≤ sizeLine) (hv : Vals ys its) (ho : s'.heap.get? D = some { cls := .type "list", data := .seq its.toArray n }) :
    Inv X pins σ (upd H' D (.lst ys)) s' := by
  have B : Un (frs X.stack) fp H H' s.heap s'.heap := J.base
  have neD : ∀ b o, s.heap.get? b = some o → b ≠ D := fun b o e => Nat.ne_of_lt (Nat.lt_of_lt_of_le (Heap.lt_size e) hDs)
  refine I.call' (ch := fp) J.os ⟨B.keep, B.slot, fun b o e n hx => ?_, B.there, fun b xs e => ?_, fun b o u e => ?_, fun b ps e => ?_⟩ (fun b o e => ?_) J.bare fun b hb => ⟨(hf b hb).2.2.2.1, (hf b hb).2.1, (hf b hb).2.2.2.2.1, (hf b hb).2.2.2.2.2⟩
  · rw [upd_ne (neD b o e)]; exact B.free b o e n hx
  · rw [upd_ne (ne_of_none (B.tups b xs e) hD)]; exact B.tups b xs e
  · rw [upd_ne (ne_of_none (B.frzs b o u e) hD)]; exact B.frzs b o u e
  · obtain ⟨more, q⟩ := B.tbls b ps e
    exact ⟨more, by rw [upd_ne (ne_of_none q hD)]; exact q⟩
  · by_cases hb : b = D
    · subst hb
      rw [upd_same] at e
      cases e
      exact ⟨hz, its, n, hv, ho⟩
    · rw [upd_ne hb] at e
      exact (J.hok b o e).stay (fun c v _ q => q) (fun c q => by rw [upd_ne (ne_of_none q hD)]; exact q) fun c xs q => by rw [upd_ne (ne_of_none q hD)]; exact q
end
def PTs (Y : Cx) (ifs : List Expr) (t : TT) : Prop :=
  ∀ (pins : List (Addr × Obj)) (s : Shared) (σ : St) (H : Hp) (Q : Bool → Hp → Prop), Inv Y pins σ H s → t σ H Q →
    wpAny (model Y.prog Y.w) Y.A (forIn ifs true fun c r => if r = true then do let ok ← isTrue c Y.env (eval c Y.env); pure (ForInStep.yield ok) else pure (ForInStep.yield r)) (TP Y pins σ Q) Y.xe s
def tYes : TT := fun _ H Q => Q true H
theorem pts_nil {Y : Cx} : PTs Y [] tYes := fun _ _ _ H _ I h => wpAny_tests_nil ⟨H, I, h⟩
theorem pts_one {Y : Cx} {c : Expr} {t : TT} (h : PT Y c t) : PTs Y [c] t := fun pins s σ H Q I hq => wpAny_tests_one (h pins s σ H Q I hq)
def CompTurns (J : It) (g : TG) (tt : TT) (te : TE) (Fin : List V → Hp → Prop) (W : Nat → Nat → List V → St → Hp → Prop) : Prop :=
  ∀ i m ys σ H, W i m ys σ H → (J.stop i H ∧ ys.length ≤ sizeLine ∧ Fin ys H) ∨ (J.go i H ∧ ys.length < sizeLine ∧ ∃ N : List V → St → Hp → Prop, (∀ ys' σ' H', N ys' σ' H' → ∃ m', m' < m ∧ W (i + 1) m' ys' σ' H') ∧
    ∀ x H', J.yld i H x H' → g x σ H' fun σ2 H2 => tt σ2 H2 fun b H3 => if b = true then te σ2 H3 fun y H4 => N (ys ++ [y]) σ2 H4 else N ys σ2 H3)
section
variable {X : Cx} {pins : List (Addr × Obj)} {σ : St} {H : Hp} {s : Shared} {scope : Scope} {Nc : List Str} {js : List Nat} {k : Nat} {tg iter elt : Expr} {ifs : List Expr} {pos : Pos} {g : TG} {tt : TT} {te : TE}
theorem comp_block {J : It} {fp : List Addr} {it : Addr} {tn : Nat → Heap → Prop} {Fin : List V → Hp → Prop} {W : Nat → Nat → List V → St → Hp → Prop} {RR : Value → Addr → Result → Shared → Prop} {E : Value → Shared → Prop} {m0 : Nat}
    (S : CompSc X.env.scope X.N scope k Nc js) (hc : X.calm = true) (I : Inv X pins σ H s) (T : Turn X.prog X.w X.K tg J fp it tn) (st : tn 0 s.heap) (hf : ∀ b ∈ fp, FpOk X pins H b)
    (hg : ∀ pins fp s H C, PG (X.comp pins Nc scope fp s H C) tg g) (ht : ∀ pins fp s H C, PTs (X.comp pins Nc scope fp s H C) ifs tt) (he : ∀ pins fp s H C, PE (X.comp pins Nc scope fp s H C) elt te)
    (w0 : W 0 m0 [] (compSt k js σ) H) (turn : CompTurns J g tt te Fin W)
    (hRR : ∀ D C s' ys H', Inv X pins σ (upd H' D (.lst ys)) s' → FpOk X pins (upd H' D (.lst ys)) C → (∃ m, s'.heap.Ns C m) → H' D = none → Fin ys H' → RR (.ref D) C (.ok .next) s') :
    wpAny (model X.prog X.w) X.A (newList []) (fun acc s₃ => wpAny (model X.prog X.w) X.A (newFunctionEnv scope X.env.globals (freeCells X.env.cells scope.names []) [] X.env.qual none .none (some X.env)) (fun cenv s₄ =>
      codeAny (model X.prog X.w) X.A (.compStart (.ListComp elt [⟨tg, iter, ifs, 0⟩] scope pos) 0 (.ref it) acc { cenv with scope := relabel scope X.env }) (RR acc cenv.locals) s₄) E s₃) E s := by
  refine wpAny_newObj_type (wpAny_newFunctionEnv S.cell (by intro y hy; simp at hy) (fun h₁ hns₁ hsb₁ => ?_) S.kind)
  dsimp only at hns₁ hsb₁ ⊢
  generalize hH2 : s.heap.push { cls := .type "list", dict := none, data := .seq ([] : List Value).toArray } = H2 at hns₁ hsb₁ ⊢
  have hC : H2.objs.size = s.heap.objs.size + 1 := by rw [← hH2, Heap.size_push]
  have hCle : s.heap.objs.size ≤ H2.objs.size := by rw [hC]; exact Nat.le_succ _
  have hDC : s.heap.objs.size ≠ H2.objs.size := by rw [hC]; exact Nat.ne_of_lt (Nat.lt_succ_self _)
  have old : ∀ b o, s.heap.get? b = some o → h₁.get? b = some o := fun b o e =>
    hsb₁.extBut b o (Nat.ne_of_lt (Nat.lt_of_lt_of_le (Heap.lt_size e) hCle)) (Heap.get?_push_of_some _ (hH2 ▸ Heap.get?_push_of_some _ e))
  have hacc : h₁.get? s.heap.objs.size = some { cls := .type "list", data := .seq ([] : List Value).toArray 0 } := hsb₁.extBut _ _ hDC (Heap.get?_push_of_some _ (hH2 ▸ Heap.get?_push_size _ rfl))
  have hob : ∀ b ∈ fp, ∃ o, s.heap.get? b = some o := fun b hb => let ⟨o, e, _⟩ := T.obj 0 _ st b hb; ⟨o, e⟩
  have hlt : ∀ b ∈ fp, b < s.heap.objs.size := fun b hb => let ⟨_, e⟩ := hob b hb; Heap.lt_size e
  have notstk : ∀ b ∈ fp, b ∉ frs X.stack := fun b hb z => by
    rcases List.mem_cons.mp (I.stkSub b z) with e | e
    · exact (hf b hb).2.1 e
    · exact (hf b hb).2.2.1 e
  have hDstk : s.heap.objs.size ∉ frs X.stack := fun z => by
    rcases List.mem_cons.mp (I.stkSub _ z) with e | e
    · have := I.lt
      rw [← e] at this
      exact Nat.lt_irrefl _ this
    · exact I.nofs (Nat.le_refl _) e
  let dpin : List Value → Nat → List (Addr × Obj) := fun its n => [(s.heap.objs.size, { cls := .type "list", data := .seq its.toArray n })]
  have fpok : ∀ {H' : Hp} {its : List Value} {n : Nat}, (∀ b ∈ fp, H' b = none) → ∀ b ∈ fp, FpOk (X.comp pins Nc scope fp s H H2.objs.size) (dpin its n) H' b := fun {H' its n} hn b hb =>
    ⟨hn b hb, Nat.ne_of_lt (Nat.lt_of_lt_of_le (hlt b hb) hCle), notstk b hb, .inl hb, fun x c e => (hf b hb).2.2.2.2.1 x c (freeCells_look e), fun p hp z => by
      rcases List.mem_append.mp hp with q | q
      · exact (hf b hb).2.2.2.2.2 p q z
      · have e : p = (s.heap.objs.size, _) := List.mem_singleton.mp q
        rw [e] at z
        exact absurd (hlt b hb) (by rw [← z]; exact Nat.lt_irrefl _)⟩
  have loop : ∀ s₃ : Shared, s₃ = { s with heap := h₁, toks := s.toks + ([] : List (Str × Value)).length } →
      codeAny (model X.prog X.w) X.A (.compLoop (.ListComp elt [⟨tg, iter, ifs, 0⟩] scope pos) 0 (.ref it) (.ref s.heap.objs.size) (compEnvC scope (freeCells X.env.cells scope.names []) H2.objs.size X.env)) (RR (.ref s.heap.objs.size) H2.objs.size) s₃ := by
    rintro s₃ rfl
    refine compLoop_go (fun n s' => ∃ i ys its nn σc H', Inv (X.comp pins Nc scope fp s H H2.objs.size) [] σc H' s' ∧ tn i s'.heap ∧ (∀ b ∈ fp, H' b = none) ∧ H' s.heap.objs.size = none ∧ Vals ys its ∧
      s'.heap.get? s.heap.objs.size = some { cls := .type "list", data := .seq its.toArray nn } ∧ W i n ys σc H') ?_ m0 ?_
    · rintro n s3 ⟨i, ys, its, nn, σ3, H3, I3, st3, fr3, hD3, hv3, ho3, w3⟩
      have I3' : Inv (X.comp pins Nc scope fp s H H2.objs.size) (dpin its nn) σ3 H3 s3 := I3.pins_of fun p hp => by
        have e : p = (s.heap.objs.size, _) := List.mem_singleton.mp hp
        subst e
        exact ⟨ho3, hD3, hDC, hDstk, fun v z => by cases z⟩
      rcases turn i n ys σ3 H3 w3 with ⟨stop, hz, fin⟩ | ⟨go, hz, N, hN, step⟩
      · refine thn (T.done (X.comp pins Nc scope fp s H H2.objs.size) rfl rfl rfl hc i (dpin its nn) s3 σ3 H3 (fun _ _ => False) I3' (fpok fr3) st3 stop) fun r s4 ⟨hr, I4⟩ => ?_
        subst hr
        have ho4 := (I4.pin _ (List.mem_append_right _ (List.mem_singleton.mpr rfl))).1
        obtain ⟨m4, hn4, _⟩ := I4.loc
        refine hRR _ _ s4 ys H3 (comp_back I hf (Nat.le_refl _) I4 hD3 hz hv3 ho4) (I.fpOk hCle ?_) ⟨m4, hn4⟩ hD3 fin
        rw [upd_ne (Ne.symm hDC)]
        exact I4.free
      · refine thn (T.item (X.comp pins Nc scope fp s H H2.objs.size) rfl rfl rfl hc i (dpin its nn) s3 σ3 H3 (fun _ _ => False) I3' (fpok fr3) st3 go) fun r s4 ⟨u, hr, h4⟩ => ?_
        subst hr
        refine thn h4 fun _ s5 ⟨x, H5, I5, r5, y5, st5, fr5⟩ => ?_
        have I5' := I5.pinned (fpok fr5) (T.obj _ _ st5)
        refine thn (hg pins fp s H H2.objs.size _ s5 σ3 H5 x u _ I5' r5 (step x H5 y5)) fun _ s6 ⟨σ6, H6, I6, q6⟩ => ?_
        refine thn (ht pins fp s H H2.objs.size _ s6 σ6 H6 _ I6 q6) fun ok s7 ⟨H7, I7, q7⟩ => ?_
        have keepIt : ∀ {σ' : St} {H' : Hp} {s' : Shared}, Inv (X.comp pins Nc scope fp s H H2.objs.size) (dpin its nn ++ pinsAt fp s5.heap) σ' H' s' →
            s'.heap.get? s.heap.objs.size = some { cls := .type "list", data := .seq its.toArray nn } ∧ H' s.heap.objs.size = none ∧ (∀ b ∈ fp, H' b = none) ∧ (∀ b ∈ fp, ∀ o, s5.heap.get? b = some o → s'.heap.get? b = some o) := fun {σ' H' s'} J => by
          have p1 := J.pin (s.heap.objs.size, _) (List.mem_append_right _ (List.mem_append_left _ (List.mem_singleton.mpr rfl)))
          refine ⟨p1.1, p1.2.1, fun b hb => ?_, fun b hb o e => (J.pin (b, o) (List.mem_append_right _ (List.mem_append_right _ (mem_pinsAt hb e)))).1⟩
          obtain ⟨o, e, _⟩ := T.obj _ _ st5 b hb
          exact (J.pin (b, o) (List.mem_append_right _ (List.mem_append_right _ (mem_pinsAt hb e)))).2.1
        cases ok with
        | true =>
          rw [if_pos rfl] at q7 ⊢
          refine thn (he pins fp s H H2.objs.size _ s7 σ6 H7 _ I7 q7) fun y s8 ⟨v, H8, I8, r8, q8⟩ => ?_
          obtain ⟨ho8, hD8, fr8, k8⟩ := keepIt I8
          refine append_at (hsz := by have := hv3.length; show its.toArray.size ≤ sizeLine; rw [List.size_toArray, ← this]; exact Nat.le_of_lt hz) ho8 fun h9 hs9 ho9 => ?_
          obtain ⟨m', hm', w9⟩ := hN _ _ _ q8
          have I8u : Inv (X.comp pins Nc scope fp s H H2.objs.size) [] σ6 H8 s8 := I8.pins_of fun p hp => nomatch hp
          have I9 : Inv (X.comp pins Nc scope fp s H H2.objs.size) [] σ6 H8 { s8 with heap := h9 } := I8u.turned (t' := s8.toks) (it := s.heap.objs.size) (fun b o hb e => (hs9.2 b hb).trans e) hD8 hDC (.inr (Nat.le_refl _)) (fun x c e z => by
            obtain ⟨v, q⟩ := I.cell x c (freeCells_look e)
            exact absurd q.lt (by rw [z]; exact Nat.lt_irrefl _)) fun p hp z => by
              have hp' : p ∈ X.pn ++ pins := by
                rcases List.mem_append.mp hp with q | q
                · exact q
                · exact nomatch q
              exact absurd (Heap.lt_size (I.pin p hp').1) (by rw [z]; exact Nat.lt_irrefl _)
          refine ⟨m', hm', i + 1, ys ++ [v], its ++ [y], nn + 1, σ6, H8, I9, T.keep _ _ _ st5 fun b hb o e => (hs9.2 b (Nat.ne_of_lt (hlt b hb))).trans (k8 b hb o e), fr8, hD8, hv3.append (.cons r8 .nil), ?_, w9⟩
          show h9.get? s.heap.objs.size = _
          rw [ho9]
          simp
        | false =>
          rw [if_neg Bool.false_ne_true] at q7 ⊢
          obtain ⟨ho8, hD8, fr8, k8⟩ := keepIt I7
          obtain ⟨m', hm', w9⟩ := hN _ _ _ q7
          exact ⟨m', hm', i + 1, ys, its, nn, σ6, H7, I7.pins_of fun p hp => (nomatch hp), T.keep _ _ _ st5 k8, fr8, hD8, hv3, ho8, w9⟩
    · exact ⟨0, [], [], 0, _, H, comp_inv S I hf hlt hCle rfl I.bare old ⟨_, hns₁⟩, T.keep _ _ _ st fun b _ o e => old b o e, fun b hb => (hf b hb).1, I.hok.fresh (Nat.le_refl _), .nil, hacc, w0⟩
  exact codeAny_compStart_list (loop _ rfl) (T.self X.A 0 _ _ _ (T.keep _ _ _ st fun b _ o e => old b o e) (loop _ rfl))
def tComp (wi : TI) (k : Nat) (js : List Nat) (g : TG) (tt : TT) (te : TE) : TE := fun σ H Q => wi σ H fun J H1 => ∃ W : Nat → Nat → List V → St → Hp → Prop, (∃ m, W 0 m [] (compSt k js σ) H1) ∧
  CompTurns J g tt te (fun ys H => ∀ D, H D = none → Q (.ref D) (upd H D (.lst ys))) W
theorem pe_comp {wi : TI} (S : CompSc X.env.scope X.N scope k Nc js) (hc : X.calm = true) (hi : PI X tg iter wi)
    (hg : ∀ pins fp s H C, PG (X.comp pins Nc scope fp s H C) tg g) (ht : ∀ pins fp s H C, PTs (X.comp pins Nc scope fp s H C) ifs tt) (he : ∀ pins fp s H C, PE (X.comp pins Nc scope fp s H C) elt te)
    (hs : ∀ x, foldedSetIterable iter X.env x = pure x := by intro _; rfl) : PE X (.ListComp elt [⟨tg, iter, ifs, 0⟩] scope pos) (tComp wi k js g tt te) := by
  intro pins s σ H Q I h
  rw [eval_ListComp]
  refine wpAny_comprehension_free (use := none) rfl hs (S.clos I) S.kind S.names (thn (hi pins s σ H _ I h) fun xv s1 h1 => thn h1 fun itv s2 h2 => ?_)
  obtain ⟨it, fp, tn, J, H2, e, I2, T, st2, f2, W, ⟨m0, w0⟩, turn⟩ := h2
  subst e
  refine comp_block (RR := fun acc C => compPost (model X.prog X.w) X.A X.xe none (EP X pins σ Q) acc C) S hc I2 T st2 f2 hg ht he w0 turn fun D C s' ys H' I' fC ns hD fin => ?_
  obtain ⟨m, hn⟩ := ns
  exact ⟨m, hn, fun h' hs' => ⟨.ref D, _, I'.turned (t' := s'.toks) (fun b o hb e => (hs'.2 b hb).trans e) fC.1 fC.2.1 fC.2.2.2.1 fC.2.2.2.2.1 fC.2.2.2.2.2, rfl, fin D hD⟩⟩
theorem ps_setcomp {wi : TI} {i : Nat} {x : Str} {px spos : Pos} (hN : X.N.Nodup) (hi' : X.N[i]? = some x) (hx : Loc X.env.scope x) (S : CompSc X.env.scope X.N scope k Nc js) (hc : X.calm = true) (hi : PI X tg iter wi)
    (hg : ∀ pins fp s H C, PG (X.comp pins Nc scope fp s H C) tg g) (ht : ∀ pins fp s H C, PTs (X.comp pins Nc scope fp s H C) ifs tt) (he : ∀ pins fp s H C, PE (X.comp pins Nc scope fp s H C) elt te)
    (hsw : swapsWith (.ListComp elt [⟨tg, iter, ifs, 0⟩] scope pos) (some (.Name x px)) spos.line X.env = pure true := by rfl)
    (hs : ∀ x, foldedSetIterable iter X.env x = pure x := by intro _; rfl) (hf : X.fn x = true ∨ X.env.scope.names.lookup x = some .local := by first | exact .inl rfl | exact .inr rfl | assumption) :
    PS X (.Assign [.Name x px] (.ListComp elt [⟨tg, iter, ifs, 0⟩] scope pos) spos) (tAsg (tComp wi k js g tt te) (gName i)) := by
  intro pins s σ H D I h
  rw [exec_Assign_Name_used _ _ _ _ hsw]
  refine wpAny_bind (wpAny_standAt (wpAny_bind ?_))
  show wpAny _ X.A (do let _ ← comprehension (.ListComp elt [⟨tg, iter, ifs, 0⟩] scope pos) scope X.env _ (newList []) false (eval iter X.env) (some (assign (.Name x px) X.env))) _ _ s
  refine wpAny_bind (wpAny_mono (wpAny_comprehension_free (use := some (assign (.Name x px) X.env)) (Q := fun _ s' => SP X pins D .next s') rfl hs (S.clos I) S.kind S.names
    (thn (hi pins s σ H _ I h) fun xv s1 h1 => thn h1 fun itv s2 h2 => ?_)) (fun _ s' hq => wpAny_pure (wpAny_pure hq)) fun _ _ e => e)
  obtain ⟨it, fp, tn, J, H2, e, I2, T, st2, f2, W, ⟨m0, w0⟩, turn⟩ := h2
  subst e
  refine comp_block (RR := fun acc C => compPost (model X.prog X.w) X.A X.xe (some (assign (.Name x px) X.env)) (fun _ s' => SP X pins D .next s') acc C) S hc I2 T st2 f2 hg ht he w0 turn fun A C s' ys H' I' fC ns hD fin => ?_
  obtain ⟨m, hn⟩ := ns
  show wpAny _ X.A (assign (.Name x px) X.env (.ref A)) _ _ _
  refine wpAny_assign_Name (store_ok2 I' hN hi' hx (v := .ref A) rfl (fun s'' I'' ⟨a, sb, ha⟩ => ?_) hf)
  have hCa : C ≠ a := by
    rcases ha with ha | ha
    · rw [ha]; exact fC.2.1
    · exact fun z => fC.2.2.2.2.1 x a ha z.symm
  exact ⟨m, hn.sameBut sb hCa, fun h' hs' => ⟨_, _, I''.turned (t' := s''.toks) (fun b o hb e => (hs'.2 b hb).trans e) fC.1 fC.2.1 fC.2.2.2.1 fC.2.2.2.2.1 fC.2.2.2.2.2, fin A hD⟩⟩
end
end L2
namespace L2
open PySem PySem.Spec PyProof.Rows
def Its (x : Str) : It := ⟨fun i _ => i < x.cps.size, fun i H v H' => H' = H ∧ ∃ c, x.cps[i]? = some c ∧ v = .str ⟨#[c]⟩, fun i _ => i = x.cps.size⟩
theorem turn_strA {P : Program} {w : World} {K : PySem.W.Frag} {tg : Expr} (it : Addr) (x : Str) (t : Tok) : Turn P w K tg (Its x) [it] it (fun i h => h.IsStrIter it "str_ascii_iterator" x t i) where
  mem := by simp
  obj := fun i h st b hb => by
    have e : b = it := by simpa using hb
    subst e
    obtain ⟨o, e, c, d⟩ := st
    exact ⟨o, e, fun v z => by rw [d] at z; cases z⟩
  keep := fun i h h' st k => let ⟨o, e, r⟩ := st; ⟨o, k it (by simp) o e, r⟩
  item := by
    intro X hP hw hK hc i pins s σ H E I hf st hg
    subst hP hw hK
    obtain ⟨f0, f1, f2, f3, f4, f5⟩ := hf it (by simp)
    refine (Walks.strAscii (prog := X.prog) (w := X.w) (I.ok.hd hc) it x t).item i s _ _ hg st fun v h' tk hv st' kk => ?_
    obtain ⟨c, u, hx, rfl⟩ := hv
    have I1 : Inv X pins σ H { s with heap := h', toks := tk } := I.turned (fun b o hb e => kk b o (by simpa using hb) e) f0 f1 f3 f4 f5
    obtain ⟨o, e, cl, d⟩ := id st'
    exact ⟨_, rfl, go_of (s := { s with heap := h', toks := tk }) e cl d (by decide) ⟨.str ⟨#[c]⟩, H, I1, ⟨u, rfl⟩, ⟨rfl, c, hx, rfl⟩, st', fun b hb => (hf b hb).1⟩⟩
  done := by
    intro X hP hw hK hc i pins s σ H E I hf st hg
    subst hP hw hK
    obtain ⟨f0, f1, f2, f3, f4, f5⟩ := hf it (by simp)
    have e : i = x.cps.size := hg
    subst e
    exact (Walks.strAscii (prog := X.prog) (w := X.w) (I.ok.hd hc) it x t).done s _ _ st fun h' tk kk => ⟨rfl, I.turned (fun b o hb e => kk b o (by simpa using hb) e) f0 f1 f3 f4 f5⟩
  self := fun _ _ _ _ _ st h => wpAny_pyIter_striter_ascii st h
theorem turn_strW {P : Program} {w : World} {K : PySem.W.Frag} {tg : Expr} (it : Addr) (x : Str) (t : Tok) : Turn P w K tg (Its x) [it] it (fun i h => h.IsStrIter it "str_iterator" x t i) where
  mem := by simp
  obj := fun i h st b hb => by
    have e : b = it := by simpa using hb
    subst e
    obtain ⟨o, e, c, d⟩ := st
    exact ⟨o, e, fun v z => by rw [d] at z; cases z⟩
  keep := fun i h h' st k => let ⟨o, e, r⟩ := st; ⟨o, k it (by simp) o e, r⟩
  item := by
    intro X hP hw hK hc i pins s σ H E I hf st hg
    subst hP hw hK
    obtain ⟨f0, f1, f2, f3, f4, f5⟩ := hf it (by simp)
    refine (Walks.strWide (prog := X.prog) (w := X.w) (I.ok.hd hc) it x t).item i s _ _ hg st fun v h' tk hv st' kk => ?_
    obtain ⟨c, u, hx, rfl⟩ := hv
    have I1 : Inv X pins σ H { s with heap := h', toks := tk } := I.turned (fun b o hb e => kk b o (by simpa using hb) e) f0 f1 f3 f4 f5
    obtain ⟨o, e, cl, d⟩ := id st'
    exact ⟨_, rfl, go_of (s := { s with heap := h', toks := tk }) e cl d (by decide) ⟨.str ⟨#[c]⟩, H, I1, ⟨u, rfl⟩, ⟨rfl, c, hx, rfl⟩, st', fun b hb => (hf b hb).1⟩⟩
  done := by
    intro X hP hw hK hc i pins s σ H E I hf st hg
    subst hP hw hK
    obtain ⟨f0, f1, f2, f3, f4, f5⟩ := hf it (by simp)
    have e : i = x.cps.size := hg
    subst e
    exact (Walks.strWide (prog := X.prog) (w := X.w) (I.ok.hd hc) it x t).done s _ _ st fun h' tk kk => ⟨rfl, I.turned (fun b o hb e => kk b o (by simpa using hb) e) f0 f1 f3 f4 f5⟩
  self := fun _ _ _ _ _ st h => wpAny_pyIter_striter_wide st h
def iStr (te : TE) : TI := fun σ H R => te σ H fun v H1 => ∃ x, v = .str x ∧ R (Its x) H1
section
variable {X : Cx} {tg : Expr}
theorem pi_str {e : Expr} {te : TE} (he : PE X e te) : PI X tg e (iStr te) := by
  intro pins s σ H R I h
  refine thn (he pins s σ H _ I h) fun v s1 ⟨x, H1, I1, r1, q1⟩ => ?_
  obtain ⟨z, rfl, q⟩ := q1
  obtain ⟨t, rfl⟩ := r1
  have fp : ∀ b ∈ [s1.heap.objs.size], FpOk X pins H1 b := fun b hb => by
    have e : b = s1.heap.objs.size := by simpa using hb
    subst e
    exact I1.fpOk (Nat.le_refl _) (I1.hok.fresh (Nat.le_refl _))
  cases ha : z.cps.all (· < 128) with
  | true => exact wpAny_pyIter_ascii ha ⟨s1.heap.objs.size, [s1.heap.objs.size], _, _, H1, rfl, I1.kept (t' := s1.toks) fun b o e => Heap.get?_push_of_some _ e, turn_strA _ z t, ⟨_, Heap.get?_push_size _ rfl, rfl, rfl⟩, fp, q⟩
  | false => exact wpAny_pyIter_wide ha ⟨s1.heap.objs.size, [s1.heap.objs.size], _, _, H1, rfl, I1.kept (t' := s1.toks) fun b o e => Heap.get?_push_of_some _ e, turn_strW _ z t, ⟨_, Heap.get?_push_size _ rfl, rfl, rfl⟩, fp, q⟩
theorem op_mul_str : OpR X (binaryOp .Mult) (fun x y H Q => ∃ z n, x = .str z ∧ y = .int n ∧ MulOk z n ∧ Q (.str (Txt.mul z n)) H) := by
  intro pins s σ H x y v u Q I rx ry h
  obtain ⟨z, n, rfl, rfl, hm, q⟩ := h
  obtain ⟨t, rfl⟩ := rx
  obtain ⟨t', rfl⟩ := ry
  exact PySem.SB.mul hm fun t' k => ⟨.str _, H, I.tok k, ⟨t', rfl⟩, q⟩
theorem op_mulB : OpR X (binaryOp .Mult) (rI IntMulOk fun i j => .int (i * j)) := opI fun _ _ _ _ _ _ _ hc q => mul_int q hc
theorem call_all (hc : X.calm = true) : CallR X (.builtin "all") (fun xs H Q => ∃ (p : Addr) (bs : List Bool), xs = [.ref p] ∧ SqL X.K H p (bs.map V.bl) ∧ Q (.bl (bs.all id)) H) := by
  intro pins s σ H xs us Q I r h
  obtain ⟨p, bs, rfl, hq, q⟩ := h
  obtain ⟨u, rfl, rx⟩ := vals1 r
  cases rx
  obtain ⟨its, rv, pl, hz⟩ := I.list hq
  have hl := pl.isList
  have hlt : p < s.heap.objs.size := by obtain ⟨_, e, _⟩ := hl; exact Heap.lt_size e
  have hlen : bs.length = its.length := by have := rv.length; rwa [List.length_map] at this
  refine call_all_walk (wpAny_pyIter_list hl ?_)
  refine ⟨s.heap.objs.size, [s.heap.objs.size, p], [s.heap.objs.size], its.toArray.size, _, _, fun i => (bs[i]?).getD true, rfl, Walks.list (A := X.A.in1) (I.ok.hd hc) _ p (Nat.ne_of_lt hlt) its.toArray,
    ⟨⟨_, Heap.get?_push_size _ rfl, rfl, rfl⟩, hl.push _⟩, fun i v s' Q' E' hP hQ => ?_, fun h' tk hk => ?_⟩
  · have hP' : its[i]? = some v := by simpa using hP
    have hi : i < bs.length := by rw [hlen]; exact (List.getElem?_eq_some_iff.mp hP').1
    obtain ⟨u', hu, ru⟩ := rv.get (i := i) (x := .bl bs[i]) (by rw [List.getElem?_map, List.getElem?_eq_getElem hi]; rfl)
    rw [hP'] at hu
    cases hu
    have e : v = .bool bs[i] := ru
    subst e
    simp only [List.getElem?_eq_getElem hi, Option.getD_some] at hQ
    exact wpAny_truthy_bool hQ
  · have e : ((List.range its.toArray.size).all fun i => (bs[i]?).getD true) = bs.all id := by
      rw [List.size_toArray, ← hlen]; exact PyProof.Rows.LSm.range_all bs
    rw [e]
    exact ⟨.bl _, H, I.kept (h' := h') (t' := tk) (fun b o e => hk b o (fun hm => by rw [List.mem_singleton.mp hm] at e; exact Nat.lt_irrefl _ (Heap.lt_size e)) (Heap.get?_push_of_some _ e)), rfl, q⟩
theorem call_any (hc : X.calm = true) : CallR X (.builtin "any") (fun xs H Q => ∃ (p : Addr) (bs : List Bool), xs = [.ref p] ∧ SqL X.K H p (bs.map V.bl) ∧ Q (.bl (bs.any id)) H) := by
  intro pins s σ H xs us Q I r h
  obtain ⟨p, bs, rfl, hq, q⟩ := h
  obtain ⟨u, rfl, rx⟩ := vals1 r
  cases rx
  obtain ⟨its, rv, pl, hz⟩ := I.list hq
  have hl := pl.isList
  have hlt : p < s.heap.objs.size := by obtain ⟨_, e, _⟩ := hl; exact Heap.lt_size e
  have hlen : bs.length = its.length := by have := rv.length; rwa [List.length_map] at this
  refine call_any_walk (wpAny_pyIter_list hl ?_)
  refine ⟨s.heap.objs.size, [s.heap.objs.size, p], [s.heap.objs.size], its.toArray.size, _, _, fun i => (bs[i]?).getD false, rfl, Walks.list (A := X.A.in1) (I.ok.hd hc) _ p (Nat.ne_of_lt hlt) its.toArray,
    ⟨⟨_, Heap.get?_push_size _ rfl, rfl, rfl⟩, hl.push _⟩, fun i v s' Q' E' hP hQ => ?_, fun h' tk hk => ?_⟩
  · have hP' : its[i]? = some v := by simpa using hP
    have hi : i < bs.length := by rw [hlen]; exact (List.getElem?_eq_some_iff.mp hP').1
    obtain ⟨u', hu, ru⟩ := rv.get (i := i) (x := .bl bs[i]) (by rw [List.getElem?_map, List.getElem?_eq_getElem hi]; rfl)
    rw [hP'] at hu
    cases hu
    have e : v = .bool bs[i] := ru
    subst e
    simp only [List.getElem?_eq_getElem hi, Option.getD_some] at hQ
    exact wpAny_truthy_bool hQ
  · have e : ((List.range its.toArray.size).any fun i => (bs[i]?).getD false) = bs.any id := by
      rw [List.size_toArray, ← hlen]; exact PyProof.Rows.LSm.range_any bs
    rw [e]
    exact ⟨.bl _, H, I.kept (h' := h') (t' := tk) (fun b o e => hk b o (fun hm => by rw [List.mem_singleton.mp hm] at e; exact Nat.lt_irrefl _ (Heap.lt_size e)) (Heap.get?_push_of_some _ e)), rfl, q⟩
theorem call_isT : CallR X (.builtin "isinstance") (fun xs H Q => ∃ x t T b, xs = [x, .ty T] ∧ TyOf X.K H x t ∧ PySem.W.kitOne X.K t (.type T) = some b ∧ Q (.bl b) H) := by
  intro pins s σ H xs us Q I r h
  obtain ⟨x, t, T, b, rfl, ty, e, q⟩ := h
  obtain ⟨u, c, rfl, ru, rc⟩ := vals2 r
  have ec : c = .type T := rc
  subst ec
  exact isinst_ok I ru ty e fun tk => ⟨.bl b, H, I.tok tk, rfl, q⟩
def rCatS (K : PySem.W.Frag) : R2 := fun x y H Q => ∃ l b xs zs, x = .ref l ∧ y = .ref b ∧ SqL K H l xs ∧ SqL K H b zs ∧ xs.length + zs.length ≤ sizeLine ∧ ∀ p, H p = none → Q (.ref p) (upd H p (.lst (xs ++ zs)))
theorem op_catS : OpR X (binaryOp .Add) (rCatS X.K) := by
  intro pins s σ H x y v u Q I rx ry h
  obtain ⟨l, b, xs, zs, rfl, rfl, hH, hB, hz, q⟩ := h
  cases rx
  cases ry
  obtain ⟨its, r, pl, z1⟩ := I.list hH
  obtain ⟨its2, r2, pl2, z2⟩ := I.list hB
  have hl1 := r.length
  have hl2 := r2.length
  obtain ⟨⟨cls, dd, data, sl⟩, n, ho, hc, _, hd⟩ := pl
  obtain ⟨⟨cls2, dd2, data2, sl2⟩, n2, ho2, hc2, _, hd2⟩ := pl2
  simp only at hc hd hc2 hd2
  subst hc hd hc2 hd2
  refine concat_meets ⟨_, ho, rfl⟩ ⟨_, ho2, rfl⟩ noFill_list_add seq_list_add PySem.F.slot_list_add PySem.F.entry_list_add (PySem.F.args_list_add_2 _ _) (list_addW l b its.toArray its2.toArray n n2 dd dd2 sl sl2 (by rw [List.size_toArray, List.size_toArray]; omega)) ⟨ho, ho2, ?_⟩
  have ea : its.toArray ++ its2.toArray = (its ++ its2).toArray := by simp
  rw [ea]
  exact ⟨.ref _, _, I.lnew (t' := s.toks) (r.append r2) (by rw [List.length_append]; omega), rfl, q _ I.fresh⟩
end
theorem comp_str {x : Str} {g : TG} {tt : TT} {te : TE} {Fin : List V → Hp → Prop} {σ : St} {H : Hp} (Pv : Nat → List V → St → Hp → Prop) (h0 : Pv 0 [] σ H) (hz : ∀ i ys σ H, i ≤ x.cps.size → Pv i ys σ H → ys.length ≤ i) (hx : x.cps.size ≤ sizeLine)
    (hs : ∀ i c ys σ H, x.cps[i]? = some c → Pv i ys σ H → g (.str ⟨#[c]⟩) σ H fun σ2 H2 => tt σ2 H2 fun b H3 => if b = true then te σ2 H3 fun y H4 => Pv (i + 1) (ys ++ [y]) σ2 H4 else Pv (i + 1) ys σ2 H3)
    (hd : ∀ ys σ H, Pv x.cps.size ys σ H → Fin ys H) : ∃ W : Nat → Nat → List V → St → Hp → Prop, (∃ m, W 0 m [] σ H) ∧ CompTurns (Its x) g tt te Fin W := by
  refine ⟨fun i m ys σ H => m = x.cps.size - i ∧ i ≤ x.cps.size ∧ Pv i ys σ H, ⟨x.cps.size, by simp, Nat.zero_le _, h0⟩, ?_⟩
  rintro i m ys σ H ⟨rfl, hi, p⟩
  have hl := hz i ys σ H hi p
  by_cases hlt : i < x.cps.size
  · refine .inr ⟨hlt, by omega, Pv (i + 1), fun ys' σ' H' p' => ⟨x.cps.size - (i + 1), by omega, rfl, hlt, p'⟩, fun v H' y => ?_⟩
    obtain ⟨e, c, hc, rfl⟩ := y
    subst e
    exact hs i c ys σ _ hc p
  · have e : i = x.cps.size := by omega
    subst e
    exact .inl ⟨rfl, by omega, hd ys σ H p⟩
end L2
namespace L2
open PySem PySem.Spec PyProof.Rows
section
variable {X : Cx}
theorem call_int_str : CallR X (.type "int") (fun xs H Q => ∃ (z : Str) (n : Int), xs = [.str z] ∧ PySem.intText? z = some n ∧ z.length ≤ 640 ∧ Q (.int n) H) := by
  intro pins s σ H xs us Q I r h
  obtain ⟨z, n, rfl, hn, hl, q⟩ := h
  obtain ⟨u, rfl, t, rfl⟩ := vals1 r
  exact PySem.W.KIN.call_text hn hl ⟨.int n, H, I.tok _, ⟨_, rfl⟩, q⟩
end
end L2
namespace L2
open PySem PySem.Spec PyProof.Rows
theorem yes_eq {te : TE} {N N' : V → St → Hp → Prop} {M : St → Hp → Prop} : (fun (σ2 : St) (H2 : Hp) => tYes σ2 H2 fun b H3 => if b = true then te σ2 H3 fun y H4 => N y σ2 H4 else M σ2 H3) = fun σ2 H2 => te σ2 H2 fun y H4 => N y σ2 H4 := by
  funext σ2 H2
  unfold tYes
  dsimp only
  rw [if_pos rfl]
theorem comp_str0 {x : Str} {g : TG} {te : TE} {Fin : List V → Hp → Prop} {σ : St} {H : Hp} (Pv : Nat → List V → St → Hp → Prop) (h0 : Pv 0 [] σ H) (hz : ∀ i ys σ H, i ≤ x.cps.size → Pv i ys σ H → ys.length ≤ i) (hx : x.cps.size ≤ sizeLine)
    (hs : ∀ i c ys σ H, x.cps[i]? = some c → Pv i ys σ H → g (.str ⟨#[c]⟩) σ H fun σ2 H2 => te σ2 H2 fun y H4 => Pv (i + 1) (ys ++ [y]) σ2 H4)
    (hd : ∀ ys σ H, Pv x.cps.size ys σ H → Fin ys H) : ∃ W : Nat → Nat → List V → St → Hp → Prop, (∃ m, W 0 m [] σ H) ∧ CompTurns (Its x) g tYes te Fin W :=
  comp_str Pv h0 hz hx (fun i c ys σ H hc p => by
    rw [yes_eq (N' := fun _ _ _ => True)]
    exact hs i c ys σ H hc p) hd
end L2
namespace L2
open PySem PySem.Spec PyProof.Rows
def constV (e : Expr) : Option V := match e with
  | .Constant (.str x) _ _ => some (.str x)
  | .Constant (.int i) _ _ => some (.int i)
  | .Constant (.bool b) _ _ => some (.bl b)
  | .Constant .none _ _ => some .non
  | _ => none
def constVs : List Expr → Option (List V)
  | [] => some []
  | e :: es => match constV e, constVs es with
    | some v, some vs => some (v :: vs)
    | _, _ => none
def tVals (vs : List V) : TA := fun _ H Q => Q vs H
theorem pe_const {X : Cx} {e : Expr} {v : V} (h : constV e = some v) : PE X e (tC v) ∧ ∀ es, starEach (e :: es) X.env = (false, eval e X.env) :: starEach es X.env := by
  unfold constV at h
  split at h
  · cases h; exact ⟨pe_str, fun _ => rfl⟩
  · cases h; exact ⟨pe_int, fun _ => rfl⟩
  · cases h; exact ⟨pe_bl, fun _ => rfl⟩
  · cases h; exact ⟨pe_non, fun _ => rfl⟩
  · cases h
theorem pa_const {X : Cx} : ∀ {es : List Expr} {vs : List V}, constVs es = some vs → PA X es (tVals vs)
  | [], vs, h => by cases h; exact pa_nil
  | e :: es, vs, h => by
    unfold constVs at h
    split at h
    · rename_i v ws h1 h2
      cases h
      obtain ⟨p, s⟩ := pe_const (X := X) h1
      exact pa_cons p (pa_const h2) (s es)
    · cases h
end L2
namespace L2
open PySem PySem.Spec PyProof.Rows
section
variable {X : Cx}
theorem oi_add : OpR X (binaryOp .Add) (fun x y H Q => ∃ i j, x = .int i ∧ y = .int j ∧ Q (.int (i + j)) H) := op_add
theorem oi_sub : OpR X (binaryOp .Sub) (fun x y H Q => ∃ i j, x = .int i ∧ y = .int j ∧ Q (.int (i - j)) H) := op_sub
theorem oi_mul : OpR X (binaryOp .Mult) (fun x y H Q => ∃ i j, x = .int i ∧ y = .int j ∧ IntMulOk i j ∧ Q (.int (i * j)) H) := op_mulB
theorem oi_fdiv : OpR X (binaryOp .FloorDiv) (fun x y H Q => ∃ i j, x = .int i ∧ y = .int j ∧ (0 < j ∧ j < 1073741824) ∧ Q (.int (i / j)) H) := op_fdiv
theorem oi_mod : OpR X (binaryOp .Mod) (fun x y H Q => ∃ i j, x = .int i ∧ y = .int j ∧ 0 < j ∧ Q (.int (i % j)) H) := op_mod
theorem oi_pow : OpR X (binaryOp .Pow) (fun x y H Q => ∃ i j, x = .int i ∧ y = .int j ∧ (0 ≤ j ∧ j ≤ 1000000 ∧ i.natAbs < 2 ^ 64) ∧ Q (.int (i ^ j.toNat)) H) := op_pow
theorem oi_lt : OpR X (compareOp .Lt) (fun x y H Q => ∃ i j, x = .int i ∧ y = .int j ∧ Q (.bl (decide (i < j))) H) := op_lt
theorem oi_le : OpR X (compareOp .LtE) (fun x y H Q => ∃ i j, x = .int i ∧ y = .int j ∧ Q (.bl (decide (i ≤ j))) H) := op_le
theorem oi_gt : OpR X (compareOp .Gt) (fun x y H Q => ∃ i j, x = .int i ∧ y = .int j ∧ Q (.bl (decide (j < i))) H) := op_gt
theorem oi_ge : OpR X (compareOp .GtE) (fun x y H Q => ∃ i j, x = .int i ∧ y = .int j ∧ Q (.bl (decide (j ≤ i))) H) := op_ge
end
end L2
namespace Att
open PySem PySem.W PySem.Calls PyProof.Rows
theorem script_bits {ns : List Int} (h : WData.layableAll [WData.list (ns.map WData.int)] = true) : ∀ n ∈ ns, Builtin.Int.intBits n ≤ 2 ^ 20 := fun n hn => by
  have h1 := layableW_arg h _ (List.mem_singleton.mpr rfl)
  have h2 := layableW_item h1 (WData.int n) (List.mem_map.mpr ⟨n, hn, rfl⟩)
  exact PyData.bits_of_layable (layable0_of_all (lay0_int h2))
theorem attach_callB {l : OpenLaw} {n : Nat} {q : Program} {loose : List Str} {XP : (Str → Option Value) → Heap → Prop} {YP : World → Heap → Prop} {d : DefRec}
    (hn : l.most = some n) (hdf : d.params.defaults = [])
    (call : ∀ (w : World) (s₀ s₁ : Shared) (mg mb : Str → Option Value) (fa : Addr) (o : Obj) (pm cd doc : Value) (a : Addr) (vs : List Value) (ns : List Int),
      Ground q loose [] XP w s₀ mg mb s₁.heap → YP w s₁.heap →
      s₁.heap.get? fa = some o → o.data = .func (docDef d.name d.params d.body d.scope pm cd doc) → s₁.heap.CodeRec cd d.name → mg d.name = some (.ref fa) →
      s₁.heap.get? a = some { cls := .type "list", data := .seq vs.toArray } → IntsAre vs ns → ns.length ≤ n → (∀ k ∈ ns, Builtin.Int.intBits k ≤ 2 ^ 20) → s₁.gens = #[] →
      codeAny (model l.prog w) callerA (.call (.ref fa) ⟨[.ref a], []⟩) (fun r s' => r = .ok (.ret (.bool true)) ∧ OldK s₁.heap s'.heap ∧ s'.os = s₁.os ∧ AllBare s'.gens) s₁) :
    WalkO q loose XP YP l.row.toRowW d [] (fun f vs => PySem.call f vs) := by
  intro w s₀ s₁ mg mb G Y fa o pm cd doc dV kV ho hd hcd hD hmg hg args vals as hpre hlay hrd hwl hlo
  obtain rfl : dV = .none := Dflts.none hD hdf
  obtain rfl : kV = .none := Dflts.noKw hD
  obtain ⟨a, vs, ns, rfl, rfl, hobj, hints, hlen⟩ := script_of hn hpre hwl
  refine enter_call (codeAny_mono (call w s₀ s₁ mg mb fa o pm cd doc a vs ns G Y ho (fd_plain hd) hcd hmg hobj hints hlen (script_bits hlay) hg) fun r s' hq => ?_)
  obtain ⟨rfl, h2, h3, h4⟩ := hq
  exact ⟨.inl ⟨.bool true, .bool true, [], rfl, fun _ => rfl, .bool true, post_true l _, fun _ => ⟨List.Pairwise.nil, fun _ hm => (nomatch hm)⟩⟩, h2, h3, h4⟩
end Att
namespace L2
open PySem PySem.Spec PyProof.Rows
theorem walk_ofB {l : PySem.W.OpenLaw} {n k : Nat} {q : Program} {loose : List Str} {XP : (Str → Option Value) → Heap → Prop} {YP : World → Heap → Prop} {d : DefRec} {K : Params → PySem.W.Frag} {CX : World → CXT} {sp : World → Sp} {x : Str}
    (hn : l.most = some n) (hn2 : n ≤ sizeLine) (hdf : d.params.defaults = []) (hr : Room k callerA)
    (hY : ∀ (w : World) (h : Heap), YP w h → (K w.params).In h)
    (F : ∀ (w : World) (mg : Str → Option Value) (fa : Addr) (h : Heap), (K w.params).In h → h.Ns mainGlobals mg → mg d.name = some (.ref fa) →
      ∃ fd : FuncData, (∀ (s : Shared) (u : Value), BindsTo s fd ⟨[u], []⟩ [(x, u)]) ∧
        ∀ base : Heap, (K w.params).In base → base.Ns mainGlobals mg → FnOk l.prog w (K w.params) mg base (CX w) k fa fd [x] (sp w))
    (hsp : ∀ (w : World) (H : Hp) (a : Addr) (ns : List Int), ns.length ≤ n → (∀ k ∈ ns, Builtin.Int.intBits k ≤ 2 ^ 20) → Only H → SqL (K w.params) H a (ns.map V.int) → sp w [.ref a] H (fun v _ => v = .bl true) fun _ _ _ => False)
    (hCX : ∀ (w : World) (H : Hp) (s : Shared) (e : Value) (s' : Shared), CX w [] H s (fun _ _ _ => False) e s' → False) :
    PySem.W.WalkO q loose XP YP l.row.toRowW d [] (fun f vs => PySem.call f vs) := by
  refine Att.attach_callB hn hdf fun w s₀ s₁ mg mb fa o pm cd doc a vs ns G Y ho hd hcd hmg hobj hints hlen hbits hg => ?_
  have KX := hY w _ Y
  obtain ⟨fd, hb, hF⟩ := F w mg fa _ KX G.T.g hmg
  exact law_call KX G.T.g G.T.b G.T.builtins G.T.nolimit hg hobj hints (Nat.le_trans hlen hn2) hr hF hb (fun H hO hS => hsp w H a ns hlen hbits hO hS) fun H e s' => hCX w H s₁ e s'
theorem Same.new {H : Hp} {p : Addr} (h : H p = none) (o : HO) : Same H (upd H p o) := fun b u q => by rw [upd_ne (ne_of_none q h)]; exact q
theorem Same.tup {K : PySem.W.Frag} {H H' : Hp} {a : Addr} {xs : List V} (e : Same H H') (h : SqT K H a xs) : SqT K H' a xs := by
  rcases h with (h | ⟨o, h⟩) | h
  · exact .inl (.inl (e _ _ h))
  · exact .inl (.inr ⟨o, e _ _ h⟩)
  · exact .inr h
theorem join1 {α : Type} {P R : α → Prop} {c A : Prop} {inst : Decidable c} (w : α) (hw : P w) (rest : ∀ w, P w → R w) (h : c → (∀ w, P w → R w) → A) : if c then A else R w := by
  by_cases hc : c
  · rw [if_pos hc]; exact h hc rest
  · rw [if_neg hc]; exact rest w hw
theorem join2 {α β : Type} {P R : α → β → Prop} {c A : Prop} {inst : Decidable c} (w : α) (z : β) (hw : P w z) (rest : ∀ w z, P w z → R w z) (h : c → (∀ w z, P w z → R w z) → A) : if c then A else R w z := by
  by_cases hc : c
  · rw [if_pos hc]; exact h hc rest
  · rw [if_neg hc]; exact rest w z hw
theorem join1' {α : Type} {P R : α → Prop} {c A B : Prop} {inst : Decidable c} {w : α} (hw : P w) (rest : ∀ w, P w → R w) (h : c → (∀ w, P w → R w) → A) (e : B = R w := by rfl) : @ite Prop c inst A B := by
  subst e
  exact join1 w hw rest h
theorem join2' {α β : Type} {P R : α → β → Prop} {c A B : Prop} {inst : Decidable c} {w : α} {z : β} (hw : P w z) (rest : ∀ w z, P w z → R w z) (h : c → (∀ w z, P w z → R w z) → A) (e : B = R w z := by rfl) : @ite Prop c inst A B := by
  subst e
  exact join2 w z hw rest h
theorem iteB {b : Bool} {A B : Prop} (h1 : b = true → A) (h2 : b = false → B) : if b = true then A else B := by
  cases b with
  | true => exact iteT (h1 rfl)
  | false => exact iteF (h2 rfl)
theorem atI_ex {α : Type} {xs : List α} {i : Int} (h0 : 0 ≤ i) (h1 : i < (xs.length : Int)) : ∃ v, atI xs i = some v ∧ v ∈ xs := by
  have hj : i.toNat < xs.length := by omega
  have e : ((i.toNat : Nat) : Int) = i := by omega
  have q := atI_nat (xs := xs) (j := i.toNat) (v := xs[i.toNat]) (List.getElem?_eq_getElem hj)
  rw [e] at q
  exact ⟨_, q, List.getElem_mem hj⟩
theorem len_le_line {n m : Nat} (h : n ≤ m) (hm : m ≤ 1000000 := by decide) : n ≤ sizeLine := Nat.le_trans h (Nat.le_trans hm (by rw [sizeLine_eq]; decide))
theorem str_len_append (x y : Str) : (x ++ y).length = x.length + y.length := strLen_append x y
end L2
namespace L2
open PySem PySem.Spec PyProof.Rows
theorem log_lt {i : Int} (h : i.natAbs < 2 ^ 1000) : i.natAbs.log2 < 1920 := by
  by_cases h0 : i.natAbs = 0
  · rw [h0]; decide
  · exact Nat.lt_trans ((Nat.log2_lt h0).mpr h) (by decide)
theorem fold_size (c : Array Nat) : ∀ (k : Nat) (acc : Array Nat), ((List.replicate k c).foldl (· ++ ·) acc).size = acc.size + k * c.size
  | 0, acc => by simp
  | k + 1, acc => by
    rw [List.replicate_succ, List.foldl_cons, fold_size c k, Array.size_append, Nat.succ_mul]
    omega
theorem mul_len (z : Str) {n : Int} (h0 : 0 ≤ n) : (Txt.mul z n).length = z.length * n.toNat := by
  unfold Txt.mul
  by_cases h1 : n < 1
  · rw [if_pos h1]
    have e : n.toNat = 0 := by omega
    rw [e, Nat.mul_zero]
    rfl
  · rw [if_neg h1]
    by_cases h2 : (n == 1 || z.length == 0) = true
    · rw [if_pos h2]
      simp only [Bool.or_eq_true, beq_iff_eq] at h2
      rcases h2 with rfl | h2
      · simp
      · rw [h2]; simp
    · rw [if_neg h2]
      show ((List.replicate n.toNat z.cps).foldl (· ++ ·) #[]).size = z.cps.size * n.toNat
      rw [fold_size]
      simp [Nat.mul_comm]
theorem mul_ok {z : Str} {n : Int} (hz : z.length ≤ 1000) (h0 : 0 ≤ n) (h1 : n ≤ 1000) : MulOk z n := by
  refine ⟨?_, fun h2 _ => ?_, fun _ _ => ?_⟩
  · rw [decide_eq_false (by omega), decide_eq_false (by omega)]
    rfl
  · have h3 : (1000 : Int) ≤ (2 ^ 63 - 1) / n := by
      rw [Int.le_ediv_iff_mul_le (by omega)]
      omega
    omega
  · have h4 : z.length * n.toNat ≤ 1000 * 1000 := Nat.mul_le_mul hz (by omega)
    unfold Builtin.Str.tooLong
    have := sizeLine_eq
    simp
    omega
end L2
namespace L2
open PySem PySem.Spec PyProof.Rows
def SIt (h : Heap) : Bool → Addr → Addr → Nat → Prop
  | false, it, l, k => h.IsListIter it l k
  | true, it, l, k => h.IsTupleIter it l k
def SSq (h : Heap) : Bool → Addr → Array Value → Prop
  | false, l, xs => h.IsList l xs
  | true, l, xs => h.IsTuple l xs
theorem SIt.obj {h : Heap} : ∀ {b : Bool} {it l : Addr} {k : Nat}, SIt h b it l k → ∃ o, h.get? it = some o ∧ ∃ vs, o.data = .fields vs
  | false, _, _, _, ⟨o, e, _, d⟩ => ⟨o, e, _, d⟩
  | true, _, _, _, ⟨o, e, _, d⟩ => ⟨o, e, _, d⟩
theorem SIt.keep {h h' : Heap} : ∀ {b : Bool} {it l : Addr} {k : Nat}, SIt h b it l k → (∀ o, h.get? it = some o → h'.get? it = some o) → SIt h' b it l k
  | false, _, _, _, ⟨o, e, r⟩, f => ⟨o, f o e, r⟩
  | true, _, _, _, ⟨o, e, r⟩, f => ⟨o, f o e, r⟩
theorem SSq.keep {h h' : Heap} : ∀ {b : Bool} {l : Addr} {xs : Array Value}, SSq h b l xs → (∀ o, h.get? l = some o → h'.get? l = some o) → SSq h' b l xs
  | false, _, _, ⟨o, e, r⟩, f => ⟨o, f o e, r⟩
  | true, _, _, ⟨o, e, r⟩, f => ⟨o, f o e, r⟩
theorem SSq.obj {h : Heap} : ∀ {b : Bool} {l : Addr} {xs : Array Value}, SSq h b l xs → ∃ o, h.get? l = some o ∧ ∃ n, o.data = .seq xs n
  | false, _, _, ⟨o, e, _, n, d⟩ => ⟨o, e, n, d⟩
  | true, _, _, ⟨o, e, _, n, d⟩ => ⟨o, e, n, d⟩
section
variable {prog : Program} {w : World} {A : Around} {E : Value → Shared → Prop} {s : Shared}
theorem nxt_tup_item {it t : Addr} {k : Nat} {xs : Array Value} {x : Value} {Q : Value → Shared → Prop} (hi : s.heap.IsTupleIter it t k) (ht : s.heap.IsTuple t xs) (hx : xs[k]? = some x)
    (q : ∀ g, g.IsTupleIter it t (k + 1) → Heap.SameBut it s.heap g → Q x { s with heap := g }) : wpAny (model prog w) A (Builtin.SmallTypes.nextOf (.ref it)) Q E s := by
  obtain ⟨o, e, c, d⟩ := id hi
  obtain ⟨ot, et, _, nt, dt⟩ := ht
  unfold Builtin.SmallTypes.nextOf
  refine wpAny_bind (wpAny_callSpecial?_slot (name := Str.ofString "__next__") hi.typeIs PySem.F.slot_tuple_iterator_next (wpAny_call_entry PySem.F.slot_tuple_iterator_next hi.typeIs PySem.F.entry_tuple_iterator_next ?_ (PySem.F.args_tuple_iterator_next_1 _)))
  show wpAny _ _ (field (.ref it) 0 >>= _) _ _ _; refine wpAny_bind (wpAny_field e d (x := .ref t) rfl ?_)
  show wpAny _ _ (if (Value.ref t == Value.none) = true then _ else _) _ _ _; rw [if_neg (show ¬ (Value.ref t == Value.none) = true from Bool.false_ne_true)]
  show wpAny _ _ (field (.ref it) 1 >>= _) _ _ _; refine wpAny_bind (wpAny_field e d (x := .int k 0) rfl ?_)
  show wpAny _ _ (seqItems? (.ref t) >>= _) _ _ _; refine wpAny_bind (wpAny_seqItems et dt ?_)
  simp only [Int.toNat_natCast, hx]; refine wpAny_bind (wpAny_setField e d (by simp) (wpAny_pure ⟨x, rfl, wpAny_pure (q _ ?_ (Heap.SameBut.update ..))⟩))
  exact ⟨_, Heap.get?_update_self _ e (Obj.isFreed_of_fields (Obj.data_mapFields d _)), (Obj.cls_mapFields ..).trans c, by rw [Obj.data_mapFields d]; simp [rawInt]⟩
theorem nxt_tup_end {it t : Addr} {k : Nat} {xs : Array Value} {Q : Value → Shared → Prop} (hh : A.handled = none) (hi : s.heap.IsTupleIter it t k) (ht : s.heap.IsTuple t xs) (hx : xs[k]? = none)
    (q : ∀ g x, Heap.ExtBut it s.heap g → (∃ o, g.get? x = some o ∧ o.cls = .type "StopIteration") → E (.ref x) { s with heap := g }) : wpAny (model prog w) A (Builtin.SmallTypes.nextOf (.ref it)) Q E s := by
  obtain ⟨o, e, c, d⟩ := id hi
  obtain ⟨ot, et, _, nt, dt⟩ := ht
  unfold Builtin.SmallTypes.nextOf
  refine wpAny_bind (wpAny_callSpecial?_slot (name := Str.ofString "__next__") hi.typeIs PySem.F.slot_tuple_iterator_next (wpAny_call_entry PySem.F.slot_tuple_iterator_next hi.typeIs PySem.F.entry_tuple_iterator_next ?_ (PySem.F.args_tuple_iterator_next_1 _)))
  show wpAny _ _ (field (.ref it) 0 >>= _) _ _ _; refine wpAny_bind (wpAny_field e d (x := .ref t) rfl ?_)
  show wpAny _ _ (if (Value.ref t == Value.none) = true then _ else _) _ _ _; rw [if_neg (show ¬ (Value.ref t == Value.none) = true from Bool.false_ne_true)]
  show wpAny _ _ (field (.ref it) 1 >>= _) _ _ _; refine wpAny_bind (wpAny_field e d (x := .int k 0) rfl ?_)
  show wpAny _ _ (seqItems? (.ref t) >>= _) _ _ _; refine wpAny_bind (wpAny_seqItems et dt ?_)
  simp only [Int.toNat_natCast, hx]; refine wpAny_bind (wpAny_rule (wpAny_bind (wpAny_setField e d (by simp) ?_)))
  show wpAny _ _ (newExc (.type "StopIteration") [] >>= _) _ _ _; refine wpAny_bind ?_; simp only [newExc, newTuple]; refine wpAny_bind (wpAny_newObj_type ?_ (by size_fits))
  refine wpAny_bind (m := firstArgMember _ _) (wpAny_of_eq (a := Value.none) (by first | rfl | (simp only [firstArgMember]; rfl)) (wpAny_newObj_type ?_ (by size_fits)))
  simp only [raiseNew]; refine wpAny_bind (wpAny_handled ?_); first | rw [show A.in1.handled = none from hh] | rw [hh]
  refine wpAny_bind (wpAny_pure (wpAny_throw (q _ _ (((Heap.SameBut.update ..).extBut.push _).push _) ⟨_, Heap.get?_push_size _ rfl, rfl⟩)))
theorem nxt_item {it l : Addr} {k : Nat} {xs : Array Value} {x : Value} {Q : Value → Shared → Prop} : ∀ {b : Bool}, SIt s.heap b it l k → SSq s.heap b l xs → xs[k]? = some x →
    (∀ g, SIt g b it l (k + 1) → Heap.SameBut it s.heap g → Q x { s with heap := g }) → wpAny (model prog w) A (Builtin.SmallTypes.nextOf (.ref it)) Q E s
  | false, a, c, d, q => wpAny_nextOf_list_item a c d q
  | true, a, c, d, q => nxt_tup_item a c d q
theorem nxt_end {it l : Addr} {k : Nat} {xs : Array Value} {Q : Value → Shared → Prop} (hh : A.handled = none) : ∀ {b : Bool}, SIt s.heap b it l k → SSq s.heap b l xs → xs[k]? = none →
    (∀ g x, Heap.ExtBut it s.heap g → (∃ o, g.get? x = some o ∧ o.cls = .type "StopIteration") → E (.ref x) { s with heap := g }) → wpAny (model prog w) A (Builtin.SmallTypes.nextOf (.ref it)) Q E s
  | false, a, c, d, q => wpAny_nextOf_list_end hh a c d q
  | true, a, c, d, q => nxt_tup_end hh a c d q
structure ZAp (z TI TO i1 i2 l1 l2 : Addr) : Prop where
  a : TI ≠ z ∧ TO ≠ z ∧ i1 ≠ z ∧ i2 ≠ z ∧ TI ≠ TO ∧ TI ≠ i1 ∧ TI ≠ i2 ∧ TO ≠ i1 ∧ TO ≠ i2 ∧ i1 ≠ i2
  l : ∀ c, c = l1 ∨ c = l2 → c ≠ z ∧ c ≠ TO ∧ c ≠ i1 ∧ c ≠ i2 ∧ c ≠ TI
theorem zipN_item {z TI TO i1 i2 l1 l2 : Addr} {b1 b2 : Bool} {k1 k2 : Nat} {xs ys : Array Value} {x y a b : Value} {Q : Value → Shared → Prop} (D : ZAp z TI TO i1 i2 l1 l2)
    (hz : IsZip s.heap z TI TO .none) (hI : IsPair s.heap TI (.ref i1) (.ref i2)) (hO : IsPair s.heap TO a b) (t1 : SIt s.heap b1 i1 l1 k1) (t2 : SIt s.heap b2 i2 l2 k2) (q1 : SSq s.heap b1 l1 xs) (q2 : SSq s.heap b2 l2 ys) (ex : xs[k1]? = some x) (ey : ys[k2]? = some y)
    (q : ∀ g, IsZip g z TI TO (rawInt s.heap.objs.size) → IsPair g TO x y → SIt g b1 i1 l1 (k1 + 1) → SIt g b2 i2 l2 (k2 + 1) → IsPair g s.heap.objs.size x y → (∀ c o, c ≠ z → c ≠ TO → c ≠ i1 → c ≠ i2 → s.heap.get? c = some o → g.get? c = some o) → Q (.ref s.heap.objs.size) { s with heap := g }) :
    wpAny (model prog w) A (Builtin.«zip.__next__» ⟨[.ref z], []⟩) (fun fin s' => ∃ v, fin = .done (.ret v) ∧ Q v s') E s := by
  obtain ⟨⟨nIz, nOz, n1z, n2z, nIO, nI1, nI2, nO1, nO2, n12⟩, lne⟩ := D
  obtain ⟨m1z, m1O, m11, m12, m1I⟩ := lne l1 (.inl rfl)
  obtain ⟨m2z, m2O, m21, m22, m2I⟩ := lne l2 (.inr rfl)
  show wpAny _ _ (field (.ref z) 2 >>= _) _ _ _; refine wpAny_bind (wpAny_field hz rfl (x := .bool false) rfl ?_)
  show wpAny _ _ (field (.ref z) 3 >>= _) _ _ _; refine wpAny_bind (wpAny_field hz rfl (x := .ref TI) rfl (wpAny_bind (wpAny_seqItems hI rfl ?_)))
  show wpAny _ _ (Builtin.SmallTypes.ownedTupleIsFree (.ref z) >>= _) _ _ _; refine wpAny_bind ?_; unfold Builtin.SmallTypes.ownedTupleIsFree
  refine wpAny_bind (wpAny_field hz rfl (x := .none) rfl (wpAny_pure ?_)); simp only [if_true]
  refine wpAny_bind (wpAny_rule (wpAny_bind (wpAny_field hz rfl (x := .ref TO) rfl (wpAny_bind (wpAny_setField_rec hz (by simp) fun g1 z1 s1 => ?_)))))
  replace z1 : IsZip g1 z TI TO .ellipsis := z1
  refine wpAny_bind ?_; simp only [List.zipIdx_cons, List.zipIdx_nil, List.forIn_cons, List.forIn_nil]; refine wpAny_bind (wpAny_bind (wpAny_onRaise ?_))
  show wpAny _ _ (Builtin.SmallTypes.nextOf (.ref i1) >>= _) _ _ _
  refine wpAny_bind (nxt_item (b := b1) (t1.keep fun o e => s1.extBut _ _ n1z e) (q1.keep fun o e => s1.extBut _ _ m1z e) ex fun g2 u1 s2 => wpAny_pure ?_)
  have o2 : IsPair g2 TO a b := s2.extBut _ _ nO1 (s1.extBut _ _ nOz hO)
  refine wpAny_bind (wpAny_seqItems o2 rfl (wpAny_bind (wpAny_updateSeq_pair o2 fun g3 o3 s3 => wpAny_bind (wpAny_letGo (wpAny_pure ?_)))))
  replace o3 : IsPair g3 TO x b := o3
  refine wpAny_bind (wpAny_bind (wpAny_onRaise ?_)); show wpAny _ _ (Builtin.SmallTypes.nextOf (.ref i2) >>= _) _ _ _
  refine wpAny_bind (nxt_item (b := b2) (t2.keep fun o e => s3.extBut _ _ nO2.symm (s2.extBut _ _ n12.symm (s1.extBut _ _ n2z e))) (q2.keep fun o e => s3.extBut _ _ m2O (s2.extBut _ _ m21 (s1.extBut _ _ m2z e))) ey fun g4 u2 s4 => wpAny_pure ?_)
  have o4 : IsPair g4 TO x b := s4.extBut _ _ nO2 o3
  refine wpAny_bind (wpAny_seqItems o4 rfl (wpAny_bind (wpAny_updateSeq_pair o4 fun g5 o5 s5 => wpAny_bind (wpAny_letGo (wpAny_pure (wpAny_pure ?_))))))
  replace o5 : IsPair g5 TO x y := o5
  refine wpAny_bind (wpAny_seqItems o5 rfl (wpAny_bind (wpAny_newTuple ?_)))
  have sz : g5.objs.size = s.heap.objs.size := by rw [s5.1, s4.1, s3.1, s2.1, s1.1]
  have z5 : IsZip g5 z TI TO .ellipsis := s5.extBut _ _ nOz.symm (s4.extBut _ _ n2z.symm (s3.extBut _ _ nOz.symm (s2.extBut _ _ n1z.symm z1)))
  have k5 : ∀ c o, c ≠ z → c ≠ TO → c ≠ i1 → c ≠ i2 → s.heap.get? c = some o → g5.get? c = some o := fun c o h1 h2 h3 h4 e => s5.extBut _ _ h2 (s4.extBut _ _ h4 (s3.extBut _ _ h2 (s2.extBut _ _ h3 (s1.extBut _ _ h1 e))))
  have v1 : SIt g5 b1 i1 l1 (k1 + 1) := u1.keep fun o e => s5.extBut _ _ nO1.symm (s4.extBut _ _ n12 (s3.extBut _ _ nO1.symm e))
  have v2 : SIt g5 b2 i2 l2 (k2 + 1) := u2.keep fun o e => s5.extBut _ _ nO2.symm e
  have zlt : z < g5.objs.size := Heap.lt_size z5
  show wpAny _ _ (Builtin.SmallTypes.ownedTupleHandOut (.ref z) (.ref g5.objs.size) >>= _) _ _ _; refine wpAny_bind ?_; unfold Builtin.SmallTypes.ownedTupleHandOut
  have z6 : IsZip (g5.push { cls := .type "tuple", data := .seq #[x, y] }) z TI TO .ellipsis := Heap.get?_push_of_some _ z5
  refine wpAny_bind (wpAny_setField_rec z6 (by simp) fun g7 z7 s7 => ?_)
  replace z7 : IsZip g7 z TI TO (rawInt g5.objs.size) := z7
  refine wpAny_setField_rec z7 (by simp) fun g8 z8 s8 => ?_
  replace z8 : IsZip g8 z TI TO (rawInt g5.objs.size) := z8
  have up : ∀ c o, c ≠ z → g5.get? c = some o → g8.get? c = some o := fun c o h1 e => s8.extBut _ _ h1 (s7.extBut _ _ h1 (Heap.get?_push_of_some _ e))
  have t8 : IsPair g8 g5.objs.size x y := s8.extBut _ _ (Nat.ne_of_gt zlt) (s7.extBut _ _ (Nat.ne_of_gt zlt) (Heap.get?_push_size _ rfl))
  rw [sz] at z8 t8
  refine wpAny_pure ⟨_, rfl, ?_⟩
  show Q (.ref g5.objs.size) _
  rw [sz]
  exact q g8 z8 (up _ _ nOz o5) (v1.keep fun o e => up _ o n1z e) (v2.keep fun o e => up _ o n2z e) t8 fun c o h1 h2 h3 h4 e => up c o h1 (k5 c o h1 h2 h3 h4 e)
theorem zipN_end {z TI TO i1 i2 l1 l2 : Addr} {b1 b2 : Bool} {k1 k2 : Nat} {xs ys : Array Value} {a b : Value} {Q : Fin → Shared → Prop} (hh : A.handled = none) (D : ZAp z TI TO i1 i2 l1 l2)
    (hz : IsZip s.heap z TI TO .none) (hI : IsPair s.heap TI (.ref i1) (.ref i2)) (hO : IsPair s.heap TO a b) (t1 : SIt s.heap b1 i1 l1 k1) (t2 : SIt s.heap b2 i2 l2 k2) (q1 : SSq s.heap b1 l1 xs) (q2 : SSq s.heap b2 l2 ys) (hend : xs[k1]? = none ∨ ys[k2]? = none)
    (q : ∀ g e, (∀ c o, c ≠ z → c ≠ TO → c ≠ i1 → c ≠ i2 → s.heap.get? c = some o → g.get? c = some o) → (∃ o, g.get? e = some o ∧ o.cls = .type "StopIteration") → E (.ref e) { s with heap := g }) :
    wpAny (model prog w) A (Builtin.«zip.__next__» ⟨[.ref z], []⟩) Q E s := by
  obtain ⟨⟨nIz, nOz, n1z, n2z, nIO, nI1, nI2, nO1, nO2, n12⟩, lne⟩ := D
  obtain ⟨m1z, m1O, m11, m12, m1I⟩ := lne l1 (.inl rfl)
  obtain ⟨m2z, m2O, m21, m22, m2I⟩ := lne l2 (.inr rfl)
  show wpAny _ _ (field (.ref z) 2 >>= _) _ _ _; refine wpAny_bind (wpAny_field hz rfl (x := .bool false) rfl ?_)
  show wpAny _ _ (field (.ref z) 3 >>= _) _ _ _; refine wpAny_bind (wpAny_field hz rfl (x := .ref TI) rfl (wpAny_bind (wpAny_seqItems hI rfl ?_)))
  show wpAny _ _ (Builtin.SmallTypes.ownedTupleIsFree (.ref z) >>= _) _ _ _; refine wpAny_bind ?_; unfold Builtin.SmallTypes.ownedTupleIsFree
  refine wpAny_bind (wpAny_field hz rfl (x := .none) rfl (wpAny_pure ?_)); simp only [if_true]
  refine wpAny_bind (wpAny_rule (wpAny_bind (wpAny_field hz rfl (x := .ref TO) rfl (wpAny_bind (wpAny_setField_rec hz (by simp) fun g1 z1 s1 => ?_)))))
  replace z1 : IsZip g1 z TI TO .ellipsis := z1
  refine wpAny_bind ?_; simp only [List.zipIdx_cons, List.zipIdx_nil, List.forIn_cons, List.forIn_nil]; refine wpAny_bind (wpAny_bind (wpAny_onRaise ?_))
  show wpAny _ _ (Builtin.SmallTypes.nextOf (.ref i1) >>= _) _ _ _
  cases ex : xs[k1]? with
  | none =>
    refine wpAny_bind (nxt_end (b := b1) hh (t1.keep fun o e => s1.extBut _ _ n1z e) (q1.keep fun o e => s1.extBut _ _ m1z e) ex fun g2 v s2 hv => ?_)
    obtain ⟨ov, ev, cv⟩ := hv
    have z2 : IsZip g2 z TI TO .ellipsis := s2 _ _ n1z.symm z1
    have nv : v ≠ z := fun h => by subst h; rw [z2] at ev; cases ev; simp at cv
    exact wpAny_setField_rec z2 (by simp) fun g3 _ s3 => q g3 v (fun c o h1 _ h3 _ e => s3.extBut _ _ h1 (s2 _ _ h3 (s1.extBut _ _ h1 e))) ⟨ov, s3.extBut _ _ nv ev, cv⟩
  | some x =>
    have ey : ys[k2]? = none := by rcases hend with h | h; rw [ex] at h; cases h; exact h
    refine wpAny_bind (nxt_item (b := b1) (t1.keep fun o e => s1.extBut _ _ n1z e) (q1.keep fun o e => s1.extBut _ _ m1z e) ex fun g2 u1 s2 => wpAny_pure ?_)
    have o2 : IsPair g2 TO a b := s2.extBut _ _ nO1 (s1.extBut _ _ nOz hO)
    refine wpAny_bind (wpAny_seqItems o2 rfl (wpAny_bind (wpAny_updateSeq_pair o2 fun g3 o3 s3 => wpAny_bind (wpAny_letGo (wpAny_pure ?_)))))
    refine wpAny_bind (wpAny_bind (wpAny_onRaise ?_)); show wpAny _ _ (Builtin.SmallTypes.nextOf (.ref i2) >>= _) _ _ _
    refine wpAny_bind (nxt_end (b := b2) hh (t2.keep fun o e => s3.extBut _ _ nO2.symm (s2.extBut _ _ n12.symm (s1.extBut _ _ n2z e))) (q2.keep fun o e => s3.extBut _ _ m2O (s2.extBut _ _ m21 (s1.extBut _ _ m2z e))) ey fun g4 v s4 hv => ?_)
    obtain ⟨ov, ev, cv⟩ := hv
    have z4 : IsZip g4 z TI TO .ellipsis := s4 _ _ n2z.symm (s3.extBut _ _ nOz.symm (s2.extBut _ _ n1z.symm z1))
    have nv : v ≠ z := fun h => by subst h; rw [z4] at ev; cases ev; simp at cv
    exact wpAny_setField_rec z4 (by simp) fun g5 _ s5 => q g5 v (fun c o h1 h2 h3 h4 e => s5.extBut _ _ h1 (s4 _ _ h4 (s3.extBut _ _ h2 (s2.extBut _ _ h3 (s1.extBut _ _ h1 e))))) ⟨ov, s5.extBut _ _ nv ev, cv⟩
end
end L2
namespace L2
open PySem PySem.Spec PyProof.Rows
section
variable {X : Cx} {pins : List (Addr × Obj)} {σ : St} {H : Hp} {s : Shared} {h' : Heap}
theorem Inv.turnedL {t' : Nat} {ch : List Addr} (I : Inv X pins σ H s) (k : ∀ b o, b ∉ ch → s.heap.get? b = some o → h'.get? b = some o) (hf : ∀ b ∈ ch, FpOk X pins H b) : Inv X pins σ H { s with heap := h', toks := t' } := by
  have nit : ∀ b u, H b = some u → b ∉ ch := fun b u e z => by rw [(hf b z).1] at e; cases e
  have hL : X.env.locals ∉ ch := fun z => (hf _ z).2.1 rfl
  refine I.step (g' := s.gens) (d' := s.drawn) (ch := ch) (fun b hb => ⟨(hf b hb).2.2.2.1, (hf b hb).2.1, (hf b hb).2.2.2.2.1, (hf b hb).2.2.2.2.2⟩) (fun b o _ _ hc e _ => k b o hc e) (fun b o _ _ hc e _ => ⟨o.slots, k b o hc e⟩) (fun _ _ _ _ n => n)
    (fun b o hc e => ⟨o, k b o hc e⟩) (fun _ _ e => e) (fun _ _ _ e => e) (fun b ps e => ⟨#[], by rw [e]; simp⟩) (fun m hm => ?_) (fun b u e => ?_) I.bare
  · obtain ⟨o, es, ep, ho, r⟩ := hm
    exact ⟨o, es, ep, k _ o hL ho, r⟩
  · refine (I.hok b u e).stay (fun c v hc q => k c v ?_ q) (fun _ q => q) fun _ _ q => q
    rcases hc with z | z
    · rw [z]; exact nit b u e
    · exact nit c _ z
theorem Inv.track {T : Addr} {o : HO} (I : Inv X pins σ H s) (f : FpOk X pins H T) (hs : X.s₀.heap.objs.size ≤ T) (new : ObjOk X.prog X.w (upd H T o) s.heap T o) : Inv X pins σ (upd H T o) s := by
  obtain ⟨f0, f1, f2, _, f4, f5⟩ := f
  have old : ∀ b u, X.s₀.heap.get? b = some u → b ≠ T := fun b u e => Nat.ne_of_lt (Nat.lt_of_lt_of_le (Heap.lt_size e) hs)
  refine ⟨I.ok, I.os, I.bare, ⟨I.base.keep, I.base.slot, fun b u e n hx => ?_, I.base.there, fun b xs e => ?_, fun b u v e => ?_, fun b ps e => ?_⟩, I.loc, I.cell, ?_, fun x c e => ?_, fun p hp => ?_, fun b u e => ?_, I.len⟩
  · rw [upd_ne (old b u e)]; exact I.base.free b u e n hx
  · rw [upd_ne (ne_of_none (I.base.tups b xs e) f0)]; exact I.base.tups b xs e
  · rw [upd_ne (ne_of_none (I.base.frzs b u v e) f0)]; exact I.base.frzs b u v e
  · obtain ⟨more, q⟩ := I.base.tbls b ps e
    exact ⟨more, by rw [upd_ne (ne_of_none q f0)]; exact q⟩
  · rw [upd_ne (Ne.symm f1)]; exact I.free
  · rw [upd_ne (f4 x c e)]; exact I.freeC x c e
  · obtain ⟨e, n, ne, nf, d⟩ := I.pin p hp
    exact ⟨e, by rw [upd_ne (f5 p hp)]; exact n, ne, nf, d⟩
  · by_cases hb : b = T
    · subst hb
      rw [upd_same] at e
      cases e
      exact new
    · rw [upd_ne hb] at e
      exact (I.hok b u e).stay (fun c v _ q => q) (fun c q => by rw [upd_ne (ne_of_none q f0)]; exact q) fun c xs q => by rw [upd_ne (ne_of_none q f0)]; exact q
end
def SqB (K : PySem.W.Frag) (H : Hp) : Bool → Addr → List V → Prop
  | false, a, xs => SqL K H a xs
  | true, a, xs => SqT K H a xs
theorem SqB.at {X : Cx} {pins : List (Addr × Obj)} {σ : St} {H : Hp} {s : Shared} (I : Inv X pins σ H s) : ∀ {b : Bool} {a : Addr} {xs : List V}, SqB X.K H b a xs → ∃ its : List Value, Vals xs its ∧ SSq s.heap b a its.toArray ∧ xs.length ≤ sizeLine
  | false, _, _, h => let ⟨its, r, p, z⟩ := I.list h; ⟨its, r, p.isList, z⟩
  | true, _, _, h => let ⟨its, r, p, z⟩ := I.tuple h; ⟨its, r, p, z⟩
theorem SqB.inj {X : Cx} {pins : List (Addr × Obj)} {σ : St} {H : Hp} {s : Shared} (I : Inv X pins σ H s) : ∀ {b : Bool} {a : Addr} {xs ys : List V}, SqB X.K H b a xs → SqB X.K H b a ys → xs = ys
  | false, _, _, _, h, h' => I.list_inj h h'
  | true, _, _, _, h, h' => I.tuple_inj h h'
def Itz (K : PySem.W.Frag) (b1 b2 : Bool) (l1 l2 : Addr) : It :=
  ⟨fun i H => ∃ xs ys x y, SqB K H b1 l1 xs ∧ SqB K H b2 l2 ys ∧ xs[i]? = some x ∧ ys[i]? = some y,
   fun i H v H' => ∃ p x y, H p = none ∧ v = .ref p ∧ H' = upd H p (.tup [x, y]) ∧ (∀ xs, SqB K H b1 l1 xs → xs[i]? = some x) ∧ ∀ ys, SqB K H b2 l2 ys → ys[i]? = some y,
   fun i H => ∃ xs ys, SqB K H b1 l1 xs ∧ SqB K H b2 l2 ys ∧ (xs.length ≤ i ∨ ys.length ≤ i)⟩
section
variable {prog : Program} {w : World} {A : Around} {E : Value → Shared → Prop} {s : Shared}
theorem zipP_item {z TI TO i1 i2 l1 l2 : Addr} {b1 b2 : Bool} {k1 k2 : Nat} {xs ys : Array Value} {x y a b : Value} {Q : Option Value → Shared → Prop} (D : ZAp z TI TO i1 i2 l1 l2)
    (hz : IsZip s.heap z TI TO .none) (hI : IsPair s.heap TI (.ref i1) (.ref i2)) (hO : IsPair s.heap TO a b) (t1 : SIt s.heap b1 i1 l1 k1) (t2 : SIt s.heap b2 i2 l2 k2) (q1 : SSq s.heap b1 l1 xs) (q2 : SSq s.heap b2 l2 ys) (ex : xs[k1]? = some x) (ey : ys[k2]? = some y)
    (q : ∀ g, IsZip g z TI TO (rawInt s.heap.objs.size) → IsPair g TO x y → SIt g b1 i1 l1 (k1 + 1) → SIt g b2 i2 l2 (k2 + 1) → IsPair g s.heap.objs.size x y → (∀ c o, c ≠ z → c ≠ TO → c ≠ i1 → c ≠ i2 → s.heap.get? c = some o → g.get? c = some o) → Q (some (.ref s.heap.objs.size)) { s with heap := g }) :
    wpAny (model prog w) A (pyNext (.ref z)) Q E s := by
  have ty : s.TypeIs (.ref z) "zip" := ⟨_, hz, rfl⟩
  unfold pyNext
  exact wpAny_bind (wpAny_attempt (wpAny_callSpecial?_slot (name := Str.ofString "__next__") ty PySem.F.slot_zip_next (wpAny_call_entry PySem.F.slot_zip_next ty PySem.F.entry_zip_next (zipN_item D hz hI hO t1 t2 q1 q2 ex ey fun g a1 a2 a3 a4 a5 a6 => wpAny_pure (q g a1 a2 a3 a4 a5 a6)) (PySem.F.args_zip_next_1 _))))
theorem zipP_end {z TI TO i1 i2 l1 l2 : Addr} {b1 b2 : Bool} {k1 k2 : Nat} {xs ys : Array Value} {a b : Value} {Q : Option Value → Shared → Prop} (hh : A.handled = none) (D : ZAp z TI TO i1 i2 l1 l2)
    (hz : IsZip s.heap z TI TO .none) (hI : IsPair s.heap TI (.ref i1) (.ref i2)) (hO : IsPair s.heap TO a b) (t1 : SIt s.heap b1 i1 l1 k1) (t2 : SIt s.heap b2 i2 l2 k2) (q1 : SSq s.heap b1 l1 xs) (q2 : SSq s.heap b2 l2 ys) (hend : xs[k1]? = none ∨ ys[k2]? = none)
    (q : ∀ g, (∀ c o, c ≠ z → c ≠ TO → c ≠ i1 → c ≠ i2 → s.heap.get? c = some o → g.get? c = some o) → Q none { s with heap := g }) : wpAny (model prog w) A (pyNext (.ref z)) Q E s := by
  have ty : s.TypeIs (.ref z) "zip" := ⟨_, hz, rfl⟩
  unfold pyNext
  refine wpAny_bind (wpAny_attempt (wpAny_callSpecial?_slot (name := Str.ofString "__next__") ty PySem.F.slot_zip_next (wpAny_call_entry PySem.F.slot_zip_next ty PySem.F.entry_zip_next (zipN_end hh D hz hI hO t1 t2 q1 q2 hend fun g e hk he => ?_) (PySem.F.args_zip_next_1 _))))
  obtain ⟨o, ho, hc⟩ := he
  exact wpAny_bind (wpAny_isInstance (T := "StopIteration") (b := true) ⟨o, ho, hc⟩ isSubtype_stop (wpAny_pure (q _ hk)))
end
theorem turn_zip {P : Program} {w : World} {K : PySem.W.Frag} {elts : List Expr} {kk : Nat} {tp : Pos} {b1 b2 : Bool} (z TI TO i1 i2 l1 l2 : Addr) (D : ZAp z TI TO i1 i2 l1 l2) :
    Turn P w K (.Tuple elts kk tp) (Itz K b1 b2 l1 l2) [z, TI, TO, i1, i2] z (fun i h => IsZip h z TI TO .none ∧ IsPair h TI (.ref i1) (.ref i2) ∧ (∃ a b, IsPair h TO a b) ∧ SIt h b1 i1 l1 i ∧ SIt h b2 i2 l2 i) where
  mem := by simp
  obj := fun i h st b hb => by
    obtain ⟨hz, hI, ⟨a, c, hO⟩, t1, t2⟩ := st
    simp only [List.mem_cons, List.not_mem_nil, or_false] at hb
    rcases hb with rfl | rfl | rfl | rfl | rfl
    · exact ⟨_, hz, fun v q => by cases q⟩
    · exact ⟨_, hI, fun v q => by cases q⟩
    · exact ⟨_, hO, fun v q => by cases q⟩
    · obtain ⟨o, e, vs, d⟩ := t1.obj
      exact ⟨o, e, fun v q => by rw [d] at q; cases q⟩
    · obtain ⟨o, e, vs, d⟩ := t2.obj
      exact ⟨o, e, fun v q => by rw [d] at q; cases q⟩
  keep := fun i h h' st k => by
    obtain ⟨hz, hI, ⟨a, c, hO⟩, t1, t2⟩ := st
    exact ⟨k z (by simp) _ hz, k TI (by simp) _ hI, ⟨a, c, k TO (by simp) _ hO⟩, t1.keep fun o e => k i1 (by simp) o e, t2.keep fun o e => k i2 (by simp) o e⟩
  item := by
    intro X hP hw hK hc i pins s σ H E I hf st hg
    subst hP hw hK
    obtain ⟨hz, hI, ⟨a, c, hO⟩, t1, t2⟩ := st
    obtain ⟨xs, ys, x, y, hx, hy, ex, ey⟩ := hg
    obtain ⟨its, rv, q1, z1⟩ := SqB.at I hx
    obtain ⟨jts, rw', q2, z2⟩ := SqB.at I hy
    obtain ⟨u, hu, ru⟩ := rv.get ex
    obtain ⟨v, hv, rv'⟩ := rw'.get ey
    refine zipP_item D hz hI hO t1 t2 q1 q2 (x := u) (y := v) (by simpa using hu) (by simpa using hv) fun g a1 a2 a3 a4 a5 a6 => ⟨_, rfl, ?_⟩
    refine wpAny_letOwnedTupleGo_zip a1 fun g' a1' sb => ?_
    obtain ⟨⟨nIz, nOz, n1z, n2z, nIO, nI1, nI2, nO1, nO2, n12⟩, lne⟩ := id D
    have hT : ∀ b ∈ [z, TI, TO, i1, i2], s.heap.objs.size ≠ b := fun b hb => by
      have : ∃ o, s.heap.get? b = some o := by
        simp only [List.mem_cons, List.not_mem_nil, or_false] at hb
        rcases hb with rfl | rfl | rfl | rfl | rfl
        · exact ⟨_, hz⟩
        · exact ⟨_, hI⟩
        · exact ⟨_, hO⟩
        · obtain ⟨o, e, _⟩ := t1.obj; exact ⟨o, e⟩
        · obtain ⟨o, e, _⟩ := t2.obj; exact ⟨o, e⟩
      obtain ⟨o, e⟩ := this
      exact Nat.ne_of_gt (Heap.lt_size e)
    have kk : ∀ b o, b ∉ [z, TI, TO, i1, i2] → s.heap.get? b = some o → g'.get? b = some o := fun b o hb e => by
      simp only [List.mem_cons, List.not_mem_nil, or_false, not_or] at hb
      exact sb.extBut _ _ hb.1 (a6 b o hb.1 hb.2.2.1 hb.2.2.2.1 hb.2.2.2.2 e)
    have I1 : Inv X pins σ H { s with heap := g' } := I.turnedL (t' := s.toks) kk hf
    have pT : IsPair g' s.heap.objs.size u v := sb.extBut _ _ (hT z (by simp)) a5
    have fT : FpOk X pins H s.heap.objs.size := I.fpOk (Nat.le_refl _) (I.hok.fresh (Nat.le_refl _))
    have I2 : Inv X pins σ (upd H s.heap.objs.size (.tup [x, y])) { s with heap := g' } := I1.track fT I.sz ⟨by show 2 ≤ sizeLine; decide, [u, v], .cons ru (.cons rv' .nil), ⟨_, pT, rfl, _, rfl⟩⟩
    refine ⟨.ref s.heap.objs.size, _, I2, rfl, ⟨_, x, y, I.hok.fresh (Nat.le_refl _), rfl, rfl, fun xs' h => by rw [SqB.inj I h hx]; exact ex, fun ys' h => by rw [SqB.inj I h hy]; exact ey⟩, ?_, fun b hb => ?_⟩
    · exact ⟨a1', sb.extBut _ _ nIz (a6 TI _ nIz nIO nI1 nI2 hI), ⟨u, v, sb.extBut _ _ nOz a2⟩, a3.keep fun o e => sb.extBut _ _ n1z e, a4.keep fun o e => sb.extBut _ _ n2z e⟩
    · rw [upd_ne (Ne.symm (hT b hb))]
      exact (hf b hb).1
  done := by
    intro X hP hw hK hc i pins s σ H E I hf st hg
    subst hP hw hK
    obtain ⟨hz, hI, ⟨a, c, hO⟩, t1, t2⟩ := st
    obtain ⟨xs, ys, hx, hy, hend⟩ := hg
    obtain ⟨its, rv, q1, z1⟩ := SqB.at I hx
    obtain ⟨jts, rw', q2, z2⟩ := SqB.at I hy
    have e1 := rv.length
    have e2 := rw'.length
    refine zipP_end (I.ok.hd hc) D hz hI hO t1 t2 q1 q2 (by
      rcases hend with h | h
      · exact .inl (by simp; omega)
      · exact .inr (by simp; omega)) fun g k => ⟨rfl, I.turnedL (t' := s.toks) (ch := [z, TI, TO, i1, i2]) (fun b o hb e => ?_) hf⟩
    simp only [List.mem_cons, List.not_mem_nil, or_false, not_or] at hb
    exact k b o hb.1 hb.2.2.1 hb.2.2.2.1 hb.2.2.2.2 e
  self := fun _ _ _ _ _ st h => wpAny_pyIter_zip st.1 h
end L2
namespace L2
open PySem PySem.Spec PyProof.Rows
def itObj (b : Bool) (l : Addr) : Obj := { cls := .type (if b = true then "tuple_iterator" else "list_iterator"), data := .fields #[.ref l, .int 0 0] }
theorem SIt.new {h : Heap} : ∀ {b : Bool} {it l : Addr}, h.get? it = some (itObj b l) → SIt h b it l 0
  | false, _, _, e => ⟨_, e, rfl, rfl⟩
  | true, _, _, e => ⟨_, e, rfl, rfl⟩
def zg2 (h : Heap) (b1 b2 : Bool) (l1 l2 : Addr) : Heap := (h.push (itObj b1 l1)).push (itObj b2 l2)
def zg3 (h : Heap) (b1 b2 : Bool) (l1 l2 : Addr) : Heap := (zg2 h b1 b2 l1 l2).push { cls := .type "tuple", data := .seq #[.ref h.objs.size, .ref (h.push (itObj b1 l1)).objs.size] }
def zg4 (h : Heap) (b1 b2 : Bool) (l1 l2 : Addr) : Heap := (zg3 h b1 b2 l1 l2).push { cls := .type "tuple", data := .seq #[.none, .none] }
def zg5 (h : Heap) (b1 b2 : Bool) (l1 l2 : Addr) : Heap := (zg4 h b1 b2 l1 l2).push { cls := .type "zip", data := .fields #[.none, .bool false, .bool false, .ref (zg2 h b1 b2 l1 l2).objs.size, .ref (zg3 h b1 b2 l1 l2).objs.size] }
theorem iterB {prog : Program} {w : World} {A : Around} {E : Value → Shared → Prop} {s : Shared} {l : Addr} {xs : Array Value} {Q : Value → Shared → Prop} : ∀ {b : Bool}, SSq s.heap b l xs → Q (.ref s.heap.objs.size) { s with heap := s.heap.push (itObj b l) } → wpAny (model prog w) A (pyIter (.ref l)) Q E s
  | false, h, q => wpAny_pyIter_list h q
  | true, h, q => wpAny_pyIter_tuple h q
theorem SSq.push {h : Heap} {b : Bool} {l : Addr} {xs : Array Value} (x : SSq h b l xs) (o : Obj) : SSq (h.push o) b l xs := x.keep fun _ e => Heap.get?_push_of_some _ e
set_option maxHeartbeats 8000000 in
theorem zip_new (b1 b2 : Bool) (l1 l2 : Addr) (xs ys : Array Value) :
    Meets (Builtin.«zip.__new__» ⟨[.type "zip", .ref l1, .ref l2], []⟩) (fun _ R s => SSq s.heap b1 l1 xs ∧ SSq s.heap b2 l2 ys ∧ R (.ok (.ret (.ref (zg4 s.heap b1 b2 l1 l2).objs.size))) { s with heap := zg5 s.heap b1 b2 l1 l2 }) :=
  .of_wp fun prog w A R s h => by
    obtain ⟨hp, g, d, tk, os⟩ := s
    obtain ⟨h1, h2, h⟩ := h
    have hsub := PySem.sub_zip
    have e1 : SSq (Shared.heap ⟨hp, g, d, tk, os⟩) b1 l1 xs := h1
    have e2 : SSq (Shared.heap ⟨hp.push (itObj b1 l1), g, d, tk, os⟩) b2 l2 ys := SSq.push h2 _
    wp_walk using iterB e1, iterB e2
    exact ⟨_, rfl, h⟩
section
variable {prog : Program} {w : World} {A : Around} {E : Value → Shared → Prop} {s : Shared}
theorem call_zipB {b1 b2 : Bool} {l1 l2 : Addr} {xs ys : Array Value} {Q : Value → Shared → Prop} (h1 : SSq s.heap b1 l1 xs) (h2 : SSq s.heap b2 l2 ys)
    (h : ∀ g n, n = s.heap.objs.size → IsZip g (n + 4) (n + 2) (n + 3) .none → IsPair g (n + 2) (.ref n) (.ref (n + 1)) → IsPair g (n + 3) .none .none → SIt g b1 n l1 0 → SIt g b2 (n + 1) l2 0 →
      (∀ c o, s.heap.get? c = some o → g.get? c = some o) → Q (.ref (n + 4)) { s with heap := g }) : wpAny (model prog w) A (call (.type "zip") [.ref l1, .ref l2]) Q E s := by
  refine callType_new PySem.F.called_zip (by decide) (PySem.F.typeCall_zip_2 _ _) (PySem.F.newCall_zip_2 _ _) (fun obj => PySem.F.args_object_init_3 obj _ _) PySem.F.entry_zip_new (zip_new b1 b2 l1 l2 xs ys) ⟨h1, h2, ?_⟩
  have e1 : (s.heap.push (itObj b1 l1)).objs.size = s.heap.objs.size + 1 := Heap.size_push ..
  have e2 : (zg2 s.heap b1 b2 l1 l2).objs.size = s.heap.objs.size + 2 := by unfold zg2; rw [Heap.size_push, e1]
  have e3 : (zg3 s.heap b1 b2 l1 l2).objs.size = s.heap.objs.size + 3 := by unfold zg3; rw [Heap.size_push, e2]
  have e4 : (zg4 s.heap b1 b2 l1 l2).objs.size = s.heap.objs.size + 4 := by unfold zg4; rw [Heap.size_push, e3]
  have p : ∀ {c : Addr} {o : Obj}, (zg4 s.heap b1 b2 l1 l2).get? c = some o → (zg5 s.heap b1 b2 l1 l2).get? c = some o := fun q => Heap.get?_push_of_some _ q
  have p4 : ∀ {c : Addr} {o : Obj}, (zg3 s.heap b1 b2 l1 l2).get? c = some o → (zg4 s.heap b1 b2 l1 l2).get? c = some o := fun q => Heap.get?_push_of_some _ q
  have p3 : ∀ {c : Addr} {o : Obj}, (zg2 s.heap b1 b2 l1 l2).get? c = some o → (zg3 s.heap b1 b2 l1 l2).get? c = some o := fun q => Heap.get?_push_of_some _ q
  have p2 : ∀ {c : Addr} {o : Obj}, (s.heap.push (itObj b1 l1)).get? c = some o → (zg2 s.heap b1 b2 l1 l2).get? c = some o := fun q => Heap.get?_push_of_some _ q
  have g5 : (zg5 s.heap b1 b2 l1 l2).get? (zg4 s.heap b1 b2 l1 l2).objs.size = some _ := Heap.get?_push_size _ rfl
  have g4 : (zg5 s.heap b1 b2 l1 l2).get? (zg3 s.heap b1 b2 l1 l2).objs.size = some _ := p (Heap.get?_push_size _ rfl)
  have g3 : (zg5 s.heap b1 b2 l1 l2).get? (zg2 s.heap b1 b2 l1 l2).objs.size = some _ := p (p4 (Heap.get?_push_size _ rfl))
  have g2 : (zg5 s.heap b1 b2 l1 l2).get? (s.heap.push (itObj b1 l1)).objs.size = some _ := p (p4 (p3 (Heap.get?_push_size _ rfl)))
  have g1 : (zg5 s.heap b1 b2 l1 l2).get? s.heap.objs.size = some _ := p (p4 (p3 (p2 (Heap.get?_push_size _ rfl))))
  show _ ∧ _
  rw [e2, e3, e4] at g5
  rw [e1, e2] at g3
  rw [e3] at g4
  rw [e1] at g2
  rw [e4]
  exact ⟨⟨_, g5, rfl⟩, h _ _ rfl g5 g3 g4 (SIt.new g1) (SIt.new g2) fun c o x => p (p4 (p3 (p2 (Heap.get?_push_of_some _ x))))⟩
end
section
variable {X : Cx}
def iZip (K : PySem.W.Frag) (ta : TA) : TI := fun σ H R => ta σ H fun vs H1 => ∃ b1 b2 l1 l2 xs ys, vs = [.ref l1, .ref l2] ∧ SqB K H1 b1 l1 xs ∧ SqB K H1 b2 l2 ys ∧ R (Itz K b1 b2 l1 l2) H1
theorem pi_zip {a b : Expr} {ta : TA} {p pos tp : Pos} {elts : List Expr} {kk : Nat} (hg : Gl X "zip") (hm : X.mg "zip" = none) (ha : PA X [a, b] ta) (hs : starEach [a, b] X.env = [(false, eval a X.env), (false, eval b X.env)] := by rfl) (hs2 : starEach [b] X.env = [(false, eval b X.env)] := by rfl) :
    PI X (.Tuple elts kk tp) (.Call (.Name "zip" p) [a, b] [] pos) (iZip X.K ta) := by
  intro pins s σ H R I h
  refine Call_ (ld_blt I hg hm PyProof.Rows.Boot.«zip» (PyProof.Rows.callWith_type1 (thn (ha pos pins s σ H _ I h) fun us s1 ⟨vs, H1, I1, r1, q1⟩ => ?_) (by rw [hs, hs2]) (by rw [hs2]; rfl)))
  obtain ⟨b1, b2, l1, l2, xs, ys, rfl, hx, hy, q⟩ := q1
  obtain ⟨u, u', rfl, ru, ru'⟩ := vals2 r1
  cases ru
  cases ru'
  obtain ⟨its, rv, s1', z1⟩ := SqB.at I1 hx
  obtain ⟨jts, rw', s2', z2⟩ := SqB.at I1 hy
  refine call_zipB s1' s2' fun g n hn a1 a2 a3 a4 a5 k => ?_
  have lt : ∀ c, c = l1 ∨ c = l2 → c < n := fun c hc => by
    rw [hn]
    rcases hc with rfl | rfl
    · obtain ⟨o, e, _⟩ := s1'.obj; exact Heap.lt_size e
    · obtain ⟨o, e, _⟩ := s2'.obj; exact Heap.lt_size e
  refine wpAny_pyIter_zip a1 ⟨n + 4, [n + 4, n + 2, n + 3, n, n + 1], _, _, H1, rfl, I1.kept (t' := s1.toks) k, turn_zip (n + 4) (n + 2) (n + 3) n (n + 1) l1 l2 ⟨?_, fun c hc => ?_⟩, ⟨a1, a2, ⟨_, _, a3⟩, a4, a5⟩, fun b hb => ?_, q⟩
  · have e : ∀ i j : Nat, i ≠ j → n + i ≠ n + j := fun i j h z => h (Nat.add_left_cancel z)
    exact ⟨e 2 4 (by decide), e 3 4 (by decide), e 0 4 (by decide), e 1 4 (by decide), e 2 3 (by decide), e 2 0 (by decide), e 2 1 (by decide), e 3 0 (by decide), e 3 1 (by decide), e 0 1 (by decide)⟩
  · have q := lt c hc
    have e : ∀ i : Nat, c ≠ n + i := fun i => Nat.ne_of_lt (Nat.lt_of_lt_of_le q (Nat.le_add_right _ _))
    exact ⟨e 4, e 3, e 0, e 1, e 2⟩
  · have e : ∀ i : Nat, FpOk X pins H1 (n + i) := fun i => I1.fpOk (by rw [hn]; exact Nat.le_add_right _ _) (I1.hok.fresh (by rw [hn]; exact Nat.le_add_right _ _))
    simp only [List.mem_cons, List.not_mem_nil, or_false] at hb
    rcases hb with rfl | rfl | rfl | rfl | rfl
    · exact e 4
    · exact e 2
    · exact e 3
    · exact e 0
    · exact e 1
end
end L2
namespace L2
open PySem PySem.Spec PyProof.Rows
open PySem.Builtin.Str in
theorem split_push {prog : Program} {w : World} {A : Around} {E : Value → Shared → Prop} {s : Shared} {x y : Str} {t u : Tok} {Q : Value → Shared → Prop} (hy : (y.length == 0) = false) (hz : x.length + 2 ≤ sizeLine)
    (q : ∀ (l : List (Str × Tok)) (k : Nat), l.map (·.1) = Txt.split x y → l.length ≤ sizeLine → Q (.ref s.heap.objs.size) { s with heap := s.heap.push { cls := .type "list", data := .seq (strValues l).toArray }, toks := k }) :
    wpAny (model prog w) A (call (.builtin "str.split") [.str x t, .str y u]) Q E s := by
  have hn : (partsBetween x (occurrences x y 0 x.length (x.length + 1)) y.length).length ≤ sizeLine := by
    have e := StrLaws.occ_length_le x y 0 x.length (x.length + 1)
    rw [length_partsBetween]
    omega
  have one : ([(x, t)] : List (Str × Tok)).length ≤ sizeLine := by show 1 ≤ sizeLine; decide
  cases c1 : (decide (x.length < y.length) || decide (strKind x < strKind y)) with
  | true => exact call_meets PySem.F.slot_str_split (typeIs_str _ _ _) PySem.F.entry_str_split (PySem.F.args_str_split_2 _ _) (meets_str_split_cannot_occur x y t u c1) (q [(x, t)] s.toks (if_pos c1).symm one)
  | false =>
    cases c2 : (occurrences x y 0 x.length (x.length + 1)).isEmpty with
    | true => exact call_meets PySem.F.slot_str_split (typeIs_str _ _ _) PySem.F.entry_str_split (PySem.F.args_str_split_2 _ _) (meets_str_split_not_found x y t u c1 hy c2) (q [(x, t)] s.toks ((if_neg (ne_true_of_eq_false c1)).trans (if_pos c2)).symm one)
    | false =>
      refine call_meets PySem.F.slot_str_split (typeIs_str _ _ _) PySem.F.entry_str_split (PySem.F.args_str_split_2 _ _) (meets_str_split_sep x y t u c1 hy c2 (by omega) hn) ?_
      have e : (numbered s.toks (partsBetween x (occurrences x y 0 x.length (x.length + 1)) y.length)).map (·.1) = Txt.split x y := (numbered_texts _ _).trans ((if_neg (ne_true_of_eq_false c1)).trans (if_neg (ne_true_of_eq_false c2))).symm
      have el : (numbered s.toks (partsBetween x (occurrences x y 0 x.length (x.length + 1)) y.length)).length ≤ sizeLine := by
        have := congrArg List.length (numbered_texts s.toks (partsBetween x (occurrences x y 0 x.length (x.length + 1)) y.length))
        rw [List.length_map] at this
        omega
      have z := q _ (s.toks + (partsBetween x (occurrences x y 0 x.length (x.length + 1)) y.length).length) e el
      rw [← strsFrom_eq] at z
      exact z
theorem vals_strs : ∀ l : List (Str × Tok), Vals ((l.map (·.1)).map V.str) (strValues l)
  | [] => .nil
  | p :: r => .cons ⟨p.2, rfl⟩ (vals_strs r)
section
variable {X : Cx}
theorem mt_split : MtR X "str.split" (fun v xs H Q => ∃ z y : Str, v = .str z ∧ xs = [.str y] ∧ (y.length == 0) = false ∧ z.length + 2 ≤ sizeLine ∧ ∀ p, H p = none → Q (.ref p) (upd H p (.lst ((Txt.split z y).map V.str)))) := by
  intro pins s σ H x xs v us Q I rx r h
  obtain ⟨z, y, rfl, rfl, hy, hz, q⟩ := h
  obtain ⟨t, rfl⟩ := rx
  obtain ⟨u, rfl, t', rfl⟩ := vals1 r
  refine split_push hy hz fun l k e hl => ?_
  have rv := vals_strs l
  rw [e] at rv
  have hlen : ((Txt.split z y).map V.str).length ≤ sizeLine := by rw [← e, List.length_map, List.length_map]; exact hl
  exact ⟨.ref _, _, I.lnew (t' := k) rv hlen, rfl, q _ I.fresh⟩
theorem mt_rstrip : MtR X "str.rstrip" (fun v xs H Q => ∃ z : Str, v = .str z ∧ xs = [] ∧ z.length ≤ sizeLine ∧ Q (.str (Txt.rstrip z)) H) := by
  intro pins s σ H x xs v us Q I rx r h
  obtain ⟨z, rfl, rfl, hz, q⟩ := h
  obtain ⟨t, rfl⟩ := rx
  cases r
  exact PySem.SC.rstrip (hsz := hz) fun t' k => ⟨.str _, H, I.tok k, ⟨t', rfl⟩, q⟩
end
@[irreducible] def rStrAny : List V → Hp → VK → Prop := fun xs H Q => (∃ z : Str, xs = [.str z] ∧ Q (.str z) H) ∨ ∃ i : Int, xs = [.int i] ∧ i.natAbs.log2 < 1920 ∧ Q (.str (toString i)) H
section
variable {X : Cx}
theorem call_str_str : CallR X (.type "str") (fun xs H Q => ∃ z : Str, xs = [.str z] ∧ Q (.str z) H) := by
  intro pins s σ H xs us Q I r h
  obtain ⟨z, rfl, q⟩ := h
  obtain ⟨u, rfl, t, rfl⟩ := vals1 r
  exact PySem.P.str_of_str ⟨.str z, H, I, ⟨t, rfl⟩, q⟩
theorem call_str_any : CallR X (.type "str") rStrAny := by
  unfold rStrAny
  exact CallR.or call_str_str call_str_int
end
section
variable {X : Cx} {pins : List (Addr × Obj)} {σ : St} {H : Hp} {s : Shared}
end
section
variable {X : Cx}
end
theorem for_zip {K : PySem.W.Frag} {b1 b2 : Bool} {l1 l2 : Addr} {xs ys : List V} {g : TG} {tb : TS} {D : Ends} {σ : St} {H : Hp} (Pv : Nat → St → Hp → Prop) (h0 : Pv 0 σ H) (hl : ∀ i σ H, Pv i σ H → SqB K H b1 l1 xs ∧ SqB K H b2 l2 ys)
    (hs : ∀ i x y σ H p, xs[i]? = some x → ys[i]? = some y → Pv i σ H → H p = none → g (.ref p) σ (upd H p (.tup [x, y])) fun σ2 H2 => tb { D with nx := Pv (i + 1), ct := Pv (i + 1), bk := D.nx } σ2 H2) (hd : ∀ σ H, Pv (min xs.length ys.length) σ H → D.nx σ H) :
    ∃ W : Nat → Nat → St → Hp → Prop, (∃ m, W 0 m σ H) ∧ ∀ i m σ H, W i m σ H →
      ((Itz K b1 b2 l1 l2).stop i H ∧ D.nx σ H) ∨ ((Itz K b1 b2 l1 l2).go i H ∧ ∃ N : St → Hp → Prop, (∀ σ' H', N σ' H' → ∃ m', m' < m ∧ W (i + 1) m' σ' H') ∧ ∀ x H', (Itz K b1 b2 l1 l2).yld i H x H' → g x σ H' fun σ2 H2 => tb { D with nx := N, ct := N, bk := D.nx } σ2 H2) := by
  refine ⟨fun i m σ H => m = min xs.length ys.length - i ∧ i ≤ min xs.length ys.length ∧ Pv i σ H, ⟨_, rfl, Nat.zero_le _, h0⟩, ?_⟩
  rintro i m σ H ⟨rfl, hi, p⟩
  obtain ⟨q1, q2⟩ := hl i σ H p
  by_cases hlt : i < min xs.length ys.length
  · have h1 : i < xs.length := by omega
    have h2 : i < ys.length := by omega
    refine .inr ⟨⟨xs, ys, xs[i], ys[i], q1, q2, by simp [h1], by simp [h2]⟩, Pv (i + 1), fun σ' H' p' => ⟨_, by omega, rfl, hlt, p'⟩, fun v H' y => ?_⟩
    obtain ⟨a, x, y, hn, rfl, rfl, e1, e2⟩ := y
    exact hs i x y σ H a (e1 xs q1) (e2 ys q2) p hn
  · have e : i = min xs.length ys.length := by omega
    subst e
    exact .inl ⟨⟨xs, ys, q1, q2, by omega⟩, hd σ H p⟩
theorem comp_list {K : PySem.W.Frag} {a : Addr} {xs : List V} {g : TG} {tt : TT} {te : TE} {Fin : List V → Hp → Prop} {σ : St} {H : Hp} (Pv : Nat → List V → St → Hp → Prop) (h0 : Pv 0 [] σ H) (hz : ∀ i ys σ H, i ≤ xs.length → Pv i ys σ H → ys.length ≤ i) (hx : xs.length ≤ sizeLine) (hl : ∀ i ys σ H, Pv i ys σ H → SqL K H a xs)
    (hs : ∀ i x ys σ H, xs[i]? = some x → Pv i ys σ H → g x σ H fun σ2 H2 => tt σ2 H2 fun b H3 => if b = true then te σ2 H3 fun y H4 => Pv (i + 1) (ys ++ [y]) σ2 H4 else Pv (i + 1) ys σ2 H3)
    (hd : ∀ ys σ H, Pv xs.length ys σ H → Fin ys H) : ∃ W : Nat → Nat → List V → St → Hp → Prop, (∃ m, W 0 m [] σ H) ∧ CompTurns (Itl K a) g tt te Fin W := by
  refine ⟨fun i m ys σ H => m = xs.length - i ∧ i ≤ xs.length ∧ Pv i ys σ H, ⟨_, rfl, Nat.zero_le _, h0⟩, ?_⟩
  rintro i m ys σ H ⟨rfl, hi, p⟩
  have hl' := hz i ys σ H hi p
  have q := hl i ys σ H p
  by_cases hlt : i < xs.length
  · refine .inr ⟨⟨xs, xs[i], q, by simp [hlt]⟩, by omega, Pv (i + 1), fun ys' σ' H' p' => ⟨_, by omega, rfl, hlt, p'⟩, fun v H' y => ?_⟩
    obtain ⟨e, y⟩ := y
    subst e
    exact hs i v ys σ _ (y xs q) p
  · have e : i = xs.length := by omega
    subst e
    exact .inl ⟨⟨xs, q, Nat.le_refl _⟩, by omega, hd ys σ H p⟩
theorem comp_zip {K : PySem.W.Frag} {b1 b2 : Bool} {l1 l2 : Addr} {xs zs : List V} {g : TG} {tt : TT} {te : TE} {Fin : List V → Hp → Prop} {σ : St} {H : Hp} (Pv : Nat → List V → St → Hp → Prop) (h0 : Pv 0 [] σ H) (hz : ∀ i ys σ H, Pv i ys σ H → ys.length ≤ i) (hx : xs.length ≤ sizeLine) (hl : ∀ i ys σ H, Pv i ys σ H → SqB K H b1 l1 xs ∧ SqB K H b2 l2 zs)
    (hs : ∀ i x z ys σ H p, xs[i]? = some x → zs[i]? = some z → Pv i ys σ H → H p = none → g (.ref p) σ (upd H p (.tup [x, z])) fun σ2 H2 => tt σ2 H2 fun b H3 => if b = true then te σ2 H3 fun y H4 => Pv (i + 1) (ys ++ [y]) σ2 H4 else Pv (i + 1) ys σ2 H3)
    (hd : ∀ ys σ H, Pv (min xs.length zs.length) ys σ H → Fin ys H) : ∃ W : Nat → Nat → List V → St → Hp → Prop, (∃ m, W 0 m [] σ H) ∧ CompTurns (Itz K b1 b2 l1 l2) g tt te Fin W := by
  refine ⟨fun i m ys σ H => m = min xs.length zs.length - i ∧ i ≤ min xs.length zs.length ∧ Pv i ys σ H, ⟨_, rfl, Nat.zero_le _, h0⟩, ?_⟩
  rintro i m ys σ H ⟨rfl, hi, p⟩
  have hl' := hz i ys σ H p
  obtain ⟨q1, q2⟩ := hl i ys σ H p
  by_cases hlt : i < min xs.length zs.length
  · have h1 : i < xs.length := by omega
    have h2 : i < zs.length := by omega
    refine .inr ⟨⟨xs, zs, xs[i], zs[i], q1, q2, by simp [h1], by simp [h2]⟩, by omega, Pv (i + 1), fun ys' σ' H' p' => ⟨_, by omega, rfl, hlt, p'⟩, fun v H' y => ?_⟩
    obtain ⟨a, x, y, hn, rfl, rfl, e1, e2⟩ := y
    exact hs i x y ys σ H a (e1 xs q1) (e2 zs q2) p hn
  · have e : i = min xs.length zs.length := by omega
    subst e
    exact .inl ⟨⟨xs, zs, q1, q2, by omega⟩, by omega, hd ys σ H p⟩
end L2
namespace L2
open PySem PySem.Spec PyProof.Rows
section
variable {X : Cx} {tg : Expr}
end
def KD (P : Program) (w : World) (K : PySem.W.Frag) (a : Addr) (kvs : List (Key × V)) : Prop := ∀ h : Heap, K.In h → (a == sysModules) = false ∧ ∃ vs, KV kvs vs ∧ h.DictOf (mixKind P w) a vs
theorem kd_pairs {P : Program} {w : World} : ∀ {rows : List (Str × Tok × V × Value)}, Pairs (mixKind P w) (rows.map fun r => ⟨hashStr w r.1, .str r.1 r.2.1, r.2.2.2⟩) (rows.map fun r => ((Sum.inr r.1 : Key), r.2.2.2))
  | [] => .nil
  | r :: rs => .cons (by show Value.isStrOf r.1 (.str r.1 r.2.1) = true; simp [Value.isStrOf]) rfl kd_pairs
theorem kd_rel : ∀ {rows : List (Str × Tok × V × Value)}, (∀ r ∈ rows, RelV r.2.2.1 r.2.2.2) → KV (rows.map fun r => ((Sum.inr r.1 : Key), r.2.2.1)) (rows.map fun r => ((Sum.inr r.1 : Key), r.2.2.2))
  | [], _ => .nil
  | r :: rs, h => .cons ⟨rfl, h r List.mem_cons_self⟩ (kd_rel fun q hq => h q (List.mem_cons_of_mem _ hq))
theorem KD.mk {P : Program} {w : World} {K : PySem.W.Frag} {a : Addr} {es : Array DictEntry} {n : Nat} (rows : List (Str × Tok × V × Value)) (lk : K.lookup a = some ⟨.type "dict", none, .dict es n, #[]⟩) (hne : (a == sysModules) = false)
    (hes : es.toList = rows.map fun r => ⟨hashStr w r.1, .str r.1 r.2.1, r.2.2.2⟩) (hr : ∀ r ∈ rows, RelV r.2.2.1 r.2.2.2) (nd : (rows.map (·.1)).Nodup) : KD P w K a (rows.map fun r => ((Sum.inr r.1 : Key), r.2.2.1)) := fun h hK => by
  refine ⟨hne, _, kd_rel hr, _, es, n, hK a _ lk, ⟨rfl, rfl, rfl⟩, rfl, fun e he => ?_, by rw [hes]; exact kd_pairs, ?_⟩
  · have he' : e ∈ es.toList := by simpa using he
    rw [hes] at he'
    obtain ⟨r, _, rfl⟩ := List.mem_map.mp he'
    exact ⟨.inr r.1, by show Value.isStrOf r.1 (.str r.1 r.2.1) = true; simp [Value.isStrOf], rfl⟩
  · rw [List.map_map]
    have e : ((fun x : Key × Value => x.1) ∘ fun r : Str × Tok × V × Value => ((Sum.inr r.1 : Key), r.2.2.2)) = (fun x : Str => (Sum.inr x : Key)) ∘ (fun r : Str × Tok × V × Value => r.1) := rfl
    rw [e, ← List.map_map]
    exact List.Pairwise.map _ (fun a b h q => h (Sum.inr.inj q)) nd
section
variable {X : Cx}
theorem op_in_kd : OpR X (compareOp .In) (fun x y H Q => ∃ a kvs k, y = .ref a ∧ KD X.prog X.w X.K a kvs ∧ x = kV k ∧ Q (.bl (valV kvs k).isSome) H) := by
  intro pins s σ H x y v u Q I rx ry h
  obtain ⟨a, kvs, k, rfl, hd, rfl, q⟩ := h
  cases ry
  obtain ⟨ne, vs, rel, dd⟩ := hd s.heap I.kIn
  refine wpAny_in_of (kV_is rx) ne dd.mapOf ⟨.bl _, H, I.tok _, ?_, q⟩
  rw [← (rel.val k).isSome_eq]
  rfl
theorem ix_kd : IxR X (fun x y H Q => ∃ a kvs k v, x = .ref a ∧ KD X.prog X.w X.K a kvs ∧ y = kV k ∧ valV kvs k = some v ∧ Q v H) := by
  intro value slice pins s σ H x y v u Q I rx ry h hs
  obtain ⟨a, kvs, k, z, rfl, hd, rfl, e, q⟩ := h
  cases rx
  obtain ⟨ne, vs, rel, dd⟩ := hd s.heap I.kIn
  obtain ⟨w', hw, rw'⟩ := RelO.some_of (v := z) (o := valueAt vs k) (by rw [← e]; exact rel.val k)
  exact tail_any dd.typeIs PySem.F.slot_dict_getitem.lookup (wpAny_getItem_of (kV_is ry) dd.mapOf hw ⟨z, H, I.tok _, rw', q⟩) hs
end
end L2
namespace L2
open PySem PySem.Spec PyProof.Rows PySem.NumText
def wl : List Nat → List Nat → List (List Nat)
  | [], cur => if cur = [] then [] else [cur]
  | c :: r, cur => if c = 32 then (if cur = [] then wl r [] else cur :: wl r []) else wl r (cur ++ [c])
theorem wl_word : ∀ (p r cur : List Nat), 32 ∉ p → wl (p ++ r) cur = wl r (cur ++ p)
  | [], r, cur, _ => by simp
  | c :: p, r, cur, h => by
    have h1 : c ≠ 32 := fun e => h (by simp [e])
    have h2 : 32 ∉ p := fun e => h (by simp [e])
    show (if c = 32 then (if cur = [] then wl (p ++ r) [] else cur :: wl (p ++ r) []) else wl (p ++ r) (cur ++ [c])) = _
    rw [if_neg h1, wl_word p r _ h2, List.append_assoc]
    rfl
theorem wl_end (p r : List Nat) (h : 32 ∉ p) : wl (p ++ 32 :: r) [] = (if p = [] then [] else [p]) ++ wl r [] := by
  rw [wl_word p _ _ h, List.nil_append]
  show (if (32 : Nat) = 32 then _ else _) = _
  rw [if_pos rfl]
  split <;> simp [*]
theorem wl_last (p : List Nat) (h : 32 ∉ p) : wl p [] = if p = [] then [] else [p] := by
  have := wl_word p [] [] h
  rw [List.append_nil, List.nil_append] at this
  exact this
theorem wl_tail : ∀ (t cur : List Nat), (∀ c ∈ t, c = 32) → wl t cur = if cur = [] then [] else [cur]
  | [], cur, _ => rfl
  | c :: t, cur, h => by
    have e : c = 32 := h c (by simp)
    have ih := wl_tail t [] fun d hd => h d (by simp [hd])
    rw [if_pos rfl] at ih
    show (if c = 32 then _ else _) = _
    rw [if_pos e, ih]
theorem wl_back : ∀ (a t cur : List Nat), (∀ c ∈ t, c = 32) → wl (a ++ t) cur = wl a cur
  | [], t, cur, h => wl_tail t cur h
  | c :: a, t, cur, h => by
    show (if c = 32 then (if cur = [] then wl (a ++ t) [] else cur :: wl (a ++ t) []) else wl (a ++ t) (cur ++ [c])) = (if c = 32 then (if cur = [] then wl a [] else cur :: wl a []) else wl a (cur ++ [c]))
    rw [wl_back a t [] h, wl_back a t _ h]
theorem wl_front : ∀ (t a : List Nat), (∀ c ∈ t, c = 32) → wl (t ++ a) [] = wl a []
  | [], a, _ => rfl
  | c :: t, a, h => by
    have e : c = 32 := h c (by simp)
    show (if c = 32 then _ else _) = _
    rw [if_pos e, if_pos rfl]
    exact wl_front t a fun d hd => h d (by simp [hd])
theorem app_signs (a y : Str) : (a ++ y).cps.toList = a.cps.toList ++ y.cps.toList := by rw [Str.cps_append, Array.toList_append]
theorem empty_iff {p : Str} : p = "" ↔ p.cps.toList = [] := by
  constructor
  · intro h; rw [h]; rfl
  · intro h; exact PyProof.Rows.ext_toList (by rw [h]; rfl)
theorem join_words : ∀ ps : List Str, (∀ p ∈ ps, 32 ∉ p.cps.toList) → wl (Str.join ⟨#[32]⟩ ps).cps.toList [] = (ps.filter fun p : Str => !decide (p = "")).map fun p => p.cps.toList
  | [], _ => rfl
  | [x], h => by
    have hx := h x (by simp)
    show wl x.cps.toList [] = _
    rw [wl_last _ hx]
    by_cases e : x = ""
    · rw [if_pos (empty_iff.mp e)]; simp [e]
    · rw [if_neg fun z => e (empty_iff.mpr z)]; simp [e]
  | x :: y :: r, h => by
    have hx := h x (by simp)
    have ih := join_words (y :: r) fun p hp => h p (by simp [hp])
    show wl ((x ++ ⟨#[32]⟩ ++ Str.join ⟨#[32]⟩ (y :: r) : Str).cps.toList) [] = _
    rw [app_signs, app_signs, List.append_assoc]
    show wl (x.cps.toList ++ 32 :: (Str.join ⟨#[32]⟩ (y :: r)).cps.toList) [] = _
    rw [wl_end _ _ hx, ih]
    generalize y :: r = yr
    by_cases e : x = ""
    · rw [if_pos (empty_iff.mp e), List.filter_cons]; simp [e]
    · rw [if_neg fun z => e (empty_iff.mpr z), List.filter_cons]; simp [e]
def wordsIn (x : Str) : List Str := (Txt.split x ⟨#[32]⟩).filter fun p : Str => !decide (p = "")
theorem wordsIn_signs (x : Str) : (wordsIn x).map (fun p => p.cps.toList) = wl x.cps.toList [] := by
  have j := join_words (Txt.split x ⟨#[32]⟩) (StrLaws.split_free x 32)
  rw [StrLaws.join_split] at j
  exact j.symm
theorem wordsIn_eq {x : Str} {ws : List Str} (h : wl x.cps.toList [] = ws.map fun p => p.cps.toList) : wordsIn x = ws := by
  have e := (wordsIn_signs x).trans h
  have inj : Function.Injective (fun p : Str => p.cps.toList) := fun a b e => PyProof.Rows.ext_toList e
  exact (List.map_inj_right (f := fun p : Str => p.cps.toList) (fun a b e => PyProof.Rows.ext_toList e)).mp e
theorem not_sp : ∀ c : Nat, c < 127 → 33 ≤ c → spS ⟨#[c]⟩ = false := by decide +kernel
theorem wl_rstrip {x : Str} (h : ∀ c ∈ x.cps.toList, 32 ≤ c ∧ c < 127) : wl (Txt.rstrip x).cps.toList [] = wl x.cps.toList [] := by
  obtain ⟨hi, h1, h2, h3, _⟩ := rstrip_cut (x := x) fun c hc => by have := h c hc; omega
  rw [h2, StrLaws.strSub_toList, List.drop_zero, Nat.sub_zero]
  conv => rhs; rw [← List.take_append_drop hi x.cps.toList]
  refine (wl_back _ _ _ fun c hc => ?_).symm
  obtain ⟨k, hk, e⟩ := List.mem_iff_getElem.mp hc
  rw [List.getElem_drop] at e
  have hk' : hi + k < x.length := by
    rw [List.length_drop] at hk
    have hl : x.cps.toList.length = x.length := Array.length_toList
    omega
  have hs := h3 (hi + k) (by omega) hk'
  have hg : x.cps.getD (hi + k) 0 = c := by
    rw [← e]
    have hk2 : hi + k < x.cps.size := hk'
    simp [Array.getD, hk2]
  rw [hg] at hs
  have hb := h c (List.mem_of_mem_drop hc)
  by_cases e32 : c = 32
  · exact e32
  · rw [not_sp c hb.2 (by omega)] at hs
    cases hs
theorem num_head : ∀ m : Nat, 0 < m → ∃ c r, Nat.toDigits 10 m = c :: r ∧ c ≠ '0' := by
  intro m
  induction m using Nat.strongRecOn with
  | _ m ih =>
    intro hm
    by_cases h : m < 10
    · rw [Nat.toDigits_of_lt_base h]
      refine ⟨_, [], rfl, ?_⟩
      have : ∀ d : Nat, d < 10 → 0 < d → Nat.digitChar d ≠ '0' := by decide
      exact this m h hm
    · have hr : m % 10 < 10 := Nat.mod_lt m (by decide)
      have t : Nat.toDigits 10 (m / 10) ++ Nat.toDigits 10 (m % 10) = Nat.toDigits 10 (10 * (m / 10) + m % 10) := Nat.toDigits_append_toDigits (by decide) (by omega) hr
      rw [Nat.div_add_mod] at t
      obtain ⟨c, r, e, hc⟩ := ih (m / 10) (by omega) (by omega)
      rw [← t, e]
      exact ⟨c, _, rfl, hc⟩
theorem num_signs {n : Int} (h0 : 0 ≤ n) (h1 : n < 10 ^ 30) : let x : Str := Str.ofString (toString n)
    1 ≤ x.length ∧ x.length ≤ 30 ∧ AllDigits x.cps.toList ∧ digitsVal x.cps.toList = n.toNat ∧ ¬ (x.cps.toList.head? = some 48 ∧ ¬ x = "0") := by
  have hl : (Str.ofString (toString n)).length ≤ 30 := toString_length_le h0 (by decide) h1
  obtain ⟨m, rfl⟩ := Int.eq_ofNat_of_zero_le h0
  have es := PySem.W.KIN.signs_num m
  have ll : (Str.ofString (toString (m : Int))).cps.toList.length = (Str.ofString (toString (m : Int))).length := Array.length_toList
  refine ⟨?_, hl, ?_, ?_, ?_⟩
  · rw [← ll, es, List.length_map]
    exact toDigits_len_ge 10 m
  · intro c hc
    rw [es] at hc
    obtain ⟨ch, hch, e⟩ := List.mem_map.mp hc
    rw [← e]
    exact PyProof.Rows.digit_range (Nat.isDigit_of_mem_toDigits (by decide) (by decide) hch)
  · rw [es, PySem.W.KIN.val_back]
    rfl
  · rintro ⟨e1, e2⟩
    by_cases hm : m = 0
    · subst hm
      exact e2 (by decide +kernel)
    · obtain ⟨c, r, e, hc⟩ := num_head m (by omega)
      rw [es, e] at e1
      have e3 : c.toNat = 48 := Option.some.inj e1
      apply hc
      have : c = Char.ofNat c.toNat := (Char.ofNat_toNat c).symm
      rw [this, e3]
theorem pg_tupC {X : Cx} {pins : List (Addr × Obj)} {Nc : List Str} {scope : Scope} {fp : List Addr} {s : Shared} {H : Hp} {C : Addr} {es : List Expr} {k : Nat} {t : TGs} {pos : Pos} (n : Nat) (hc : X.calm = true) (h : PGs (X.comp pins Nc scope fp s H C) es t)
    (hn : (assignEach es (X.comp pins Nc scope fp s H C).env).length = n := by rfl) (hst : (assignEach es (X.comp pins Nc scope fp s H C).env).findIdx? (·.1) = none := by rfl) : PG (X.comp pins Nc scope fp s H C) (.Tuple es k pos) (gTup X.K n t) :=
  pg_tup (X := X.comp pins Nc scope fp s H C) hc h hn hst
theorem join2c {α β : Type} {P R : α → β → Prop} {c A B : Prop} {inst : Decidable c} {w : α} {z : β} (hw : ¬ c → P w z) (rest : ∀ w z, P w z → R w z) (h : c → (∀ w z, P w z → R w z) → A) (e : B = R w z := by rfl) : @ite Prop c inst A B := by
  subst e
  by_cases hc : c
  · rw [if_pos hc]; exact h hc rest
  · rw [if_neg hc]; exact rest w z (hw hc)
end L2
namespace L2
open PySem PySem.Spec PyProof.Rows PySem.W
section
variable {prog : Program} {w : World} {A : Around} {R : Result → Shared → Prop} {E : Value → Shared → Prop} {h : Heap} {g : Array GenState} {d : Drawn} {t : Nat} {os : OsState}
variable {nm q : Str} {C N f : Addr} {bs bm : List Value} {hdct : Bool} {sn : List Str} {sub : List Value} {ab : Bool} {col : Option Bool} {dd : Option Addr} {k0 k1 k2 k3 k5 : Option Value}
end
end L2
namespace L2
open PySem PySem.Spec PyProof.Rows PySem.W
section
variable {prog : Program} {w : World} {A : Around} {R : Result → Shared → Prop} {E : Value → Shared → Prop} {h : Heap} {g : Array GenState} {d : Drawn} {t : Nat} {os : OsState}
variable {nm q : Str} {C N x : Addr} {bs bm : List Value} {sn : List Str} {sub : List Value} {ab : Bool} {col : Option Bool} {dd : Option Addr} {k0 k1 k2 k3 k5 : Option Value} {newId : String} {name : Str} {v : Value} {o : Obj} {fs : Array Value}
end
end L2
namespace L2
open PySem PySem.Spec PyProof.Rows PySem.W
section
variable {prog : Program} {w : World} {A : Around} {R : Result → Shared → Prop} {E : Value → Shared → Prop} {h : Heap} {g : Array GenState} {d : Drawn} {t : Nat} {os : OsState}
variable {nm q : Str} {C N e : Addr} {bs bm : List Value} {hdct : Bool} {sn : List Str} {sub : List Value} {ab : Bool} {col : Option Bool} {dd : Option Addr} {k0 k1 k2 k3 k5 : Option Value} {newId : String} {oe : Obj}
end
end L2
namespace L2
open PySem PySem.Spec PyProof.Rows PySem.W
section
variable {X : Cx} {pins : List (Addr × Obj)} {σ : St} {H : Hp} {s : Shared} {a C f dx : Addr}
end
end L2
namespace L2
open PySem PySem.Spec PyProof.Rows PySem.W
section
variable {X : Cx} {pins : List (Addr × Obj)} {σ : St} {H : Hp} {s : Shared} {a C f dx : Addr} {h' : Heap}
end
end L2
namespace L2
open PySem PySem.Spec PyProof.Rows PySem.W
section
variable {M : Model} {A : Around} {E : Value → Shared → Prop} {s : Shared} {base : Heap} {env : Env} {outer : List Env} {L e : Addr} {oe : Obj} {vs : Array Value}
end
end L2
namespace L2
open PySem PySem.Spec PyProof.Rows PySem.W
section
variable {P : Program} {w : World} {K : PySem.W.Frag} {mg : Str → Option Value} {base : Heap} {N : List Str} {qual : Str} {scope : Scope} {f : Addr} {cdv : Value} {A : Around} {outer : List Env} {s0 : Shared} {H0 : Hp} {E : XK}
end
end L2
namespace L2
open PySem PySem.Spec PyProof.Rows PySem.W
section
variable {M : Model} {A : Around} {E : Value → Shared → Prop} {env : Env}
variable {nm q : Str} {C N : Addr} {bs bm : List Value} {hdct : Bool} {sn : List Str} {sub : List Value} {ab : Bool} {col : Option Bool} {dd : Option Addr} {k0 k1 k2 k3 k5 : Option Value} {newId : String}
end
section
variable {X : Cx} {CX : CXT} {k : Nat} {f C : Addr} {fd : FuncData} {ps : List Str} {sp : Sp} {x : Str} {p pos cpos : Pos} {e : Expr} {es : List Expr} {t : TA}
end
end L2
namespace L2
open PySem PySem.Spec PyProof.Rows PySem.W
section
variable {M : Model} {A : Around} {E : Value → Shared → Prop} {h : Heap} {g : Array GenState} {d : Drawn} {t : Nat} {os : OsState} {e : Addr} {oe : Obj}
variable {nm q : Str} {C N : Addr} {bs bm : List Value} {hdct : Bool} {sn : List Str} {sub : List Value} {ab : Bool} {col : Option Bool} {dd : Option Addr} {k0 k1 k2 k3 k5 : Option Value} {newId : String}
variable {nm' q' : Str} {C' N' : Addr} {bs' bm' : List Value} {hdct' : Bool} {sn' : List Str} {sub' : List Value} {ab' : Bool} {col' : Option Bool} {dd' : Option Addr} {k0' k1' k2' k3' k5' : Option Value} {newId' : String}
end
section
variable {X : Cx} {pins : List (Addr × Obj)} {σ : St} {H : Hp} {s : Shared} {a : Addr} {oe : Obj} {vs : Array Value} {ex : List Addr} {fl : Value} {h' : Heap}
end
end L2
namespace L2
open PySem PySem.Spec PyProof.Rows PySem.W
section
variable {X : Cx} {k : Nat} {f C0 : Addr} {fd : FuncData} {ps : List Str} {sp : Sp} {dvs : List V} {ds : List Value} {fx cx y m n : Str} {iy im inn : Nat} {p pos apos py cp pm pn pa hpos tpos : Pos} {e : Expr} {es : List Expr} {t : TA}
end
end L2
namespace L2
open PySem PySem.Spec PyProof.Rows PySem.W
section
variable {prog : Program} {w : World} {A : Around} {E : Value → Shared → Prop} {h : Heap} {g : Array GenState} {d : Drawn} {t : Nat} {os : OsState} {a dx : Addr} {o : Obj} {vs : Array Value}
  {nm q : Str} {C N : Addr} {bs bm : List Value} {sn : List Str} {sub : List Value} {ab : Bool} {col : Option Bool} {dd : Option Addr} {k0 k1 k2 k3 k5 : Option Value} {newId : String} {mA : Str → Option Value} {name : Str} {v : Value}
end
section
variable {X : Cx} {e : Expr} {te : TE} {pos : Pos}
end
end L2
namespace L2
open PySem PySem.Spec PyProof.Rows PySem.W
section
variable {P : Program} {w : World} {K : PySem.W.Frag} {mg : Str → Option Value} {base : Heap}
end
end L2
namespace L2
open PySem PySem.Spec PyProof.Rows PySem.W
section
variable {prog : Program} {w : World} {A : Around} {E : Value → Shared → Prop} {h : Heap} {g : Array GenState} {d : Drawn} {t : Nat} {os : OsState} {a : Addr} {o : Obj} {vs : Array Value}
  {nm q : Str} {C N : Addr} {bs bm : List Value} {sn : List Str} {sub : List Value} {ab : Bool} {col : Option Bool} {dd : Option Addr} {k0 k1 k2 k3 k5 : Option Value} {newId : String}
end
end L2
namespace L2
open PySem PySem.Spec PyProof.Rows PySem.W
section
variable {X : Cx}
end
end L2
namespace L2
open PySem PySem.Spec PyProof.Rows
section
variable {X : Cx}
theorem oi_fdivW : OpR X (binaryOp .FloorDiv) (fun x y H Q => ∃ i j, x = .int i ∧ y = .int j ∧ (0 < j ∧ j.natAbs.log2 < 9000) ∧ Q (.int (i / j)) H) := by
  have z : OpR X (binaryOp .FloorDiv) (rI (fun _ j => 0 < j ∧ j.natAbs.log2 < 9000) fun i j => .int (i / j)) := opI fun i j _ _ _ _ _ hc q => by
    have h1 : (0 : Int) < j := hc.1
    exact floordiv_int (by omega) (by rw [Int.fdiv_eq_ediv_of_nonneg i (by omega)]; exact q) (.inl (PyProof.noPylong_of_log2 hc.2))
  exact z
end
end L2
namespace L2
open PySem PySem.Spec PyProof.Rows
end L2
namespace L2
open PySem
section
variable {P : Program} {w : World} {A : Around} {E : Value → Shared → Prop} {s : Shared}
end
end L2
namespace L2
open PySem
section
variable {P : Program} {w : World} {A : Around} {E : Value → Shared → Prop} {s : Shared}
end
end L2
namespace L2
open PySem
section
variable {P : Program} {w : World} {A : Around} {E : Value → Shared → Prop} {s : Shared}
end
end L2
namespace L2
open PySem
section
variable {P : Program} {w : World} {A : Around} {E : Value → Shared → Prop} {s : Shared}
end
end L2
namespace L2
open PySem
section
variable {P : Program} {w : World} {A : Around} {E : Value → Shared → Prop} {s : Shared}
end
end L2
namespace L2
open PySem
section
variable {P : Program} {w : World} {A : Around} {E : Value → Shared → Prop} {s : Shared}
set_option maxHeartbeats 3200000 in
end
end L2
namespace L2
open PySem PySem.Spec PyProof.Rows
section
variable {X : Cx}
end
end L2
namespace L2
open PySem
section
variable {P : Program} {w : World} {A : Around} {E : Value → Shared → Prop} {s : Shared}
end
end L2
namespace L2
open PySem PySem.Spec PyProof.Rows
section
variable {X : Cx}
end
end L2
namespace L2
open PySem PySem.Spec PyProof.Rows
theorem comp_tup {K : PySem.W.Frag} {a : Addr} {xs : List V} {g : TG} {tt : TT} {te : TE} {Fin : List V → Hp → Prop} {σ : St} {H : Hp} (Pv : Nat → List V → St → Hp → Prop) (h0 : Pv 0 [] σ H) (hz : ∀ i ys σ H, i ≤ xs.length → Pv i ys σ H → ys.length ≤ i) (hx : xs.length ≤ sizeLine) (hl : ∀ i ys σ H, Pv i ys σ H → SqT K H a xs)
    (hs : ∀ i x ys σ H, xs[i]? = some x → Pv i ys σ H → g x σ H fun σ2 H2 => tt σ2 H2 fun b H3 => if b = true then te σ2 H3 fun y H4 => Pv (i + 1) (ys ++ [y]) σ2 H4 else Pv (i + 1) ys σ2 H3)
    (hd : ∀ ys σ H, Pv xs.length ys σ H → Fin ys H) : ∃ W : Nat → Nat → List V → St → Hp → Prop, (∃ m, W 0 m [] σ H) ∧ CompTurns (Itt K a) g tt te Fin W := by
  refine ⟨fun i m ys σ H => m = xs.length - i ∧ i ≤ xs.length ∧ Pv i ys σ H, ⟨_, rfl, Nat.zero_le _, h0⟩, ?_⟩
  rintro i m ys σ H ⟨rfl, hi, p⟩
  have few := hz i ys σ H hi p
  have q := hl i ys σ H p
  by_cases lt : i < xs.length
  · refine .inr ⟨⟨xs, xs[i], q, by simp [lt]⟩, by omega, Pv (i + 1), fun ys' σ' H' p' => ⟨_, by omega, rfl, lt, p'⟩, fun v H' y => ?_⟩
    obtain ⟨e, y⟩ := y
    subst e
    exact hs i v ys σ _ (y xs q) p
  · obtain rfl : i = xs.length := by omega
    exact .inl ⟨⟨xs, q, Nat.le_refl _⟩, by omega, hd ys σ H p⟩
theorem ifYes {b : Bool} {A B : Prop} (h : b = true) (x : A) : if b = true then A else B := by rw [if_pos h]; exact x
theorem ifNo {b : Bool} {A B : Prop} (h : b = false) (x : B) : if b = true then A else B := by rw [if_neg (by rw [h]; decide)]; exact x
theorem ifN {x y : V} {A B : Prop} (h : x ≠ y) (b : B) : if decide (x = y) = true then A else B := by rw [if_neg (by rw [decide_eq_true_iff]; exact h)]; exact b
end L2
namespace L2
open PySem PySem.Spec PyProof.Rows
end L2
namespace Tr
open PySem PySem.Spec PyProof.Rows L2
set_option linter.all false
inductive Val
  | num (n : Int)
  | nm (x : Str)
inductive Deed
  | set (x : Str) (a : Val) (sg : Str) (b : Val)
  | put (q x : Str)
  | get (q x : Str)
  | give (x : Str)
  | cond (x : Str) (t o : List Deed)
  | whl (x : Str) (b : List Deed)
  | rep (n : Int) (b : List Deed)
def Val.names : Val → List Str
  | .num _ => []
  | .nm x => [x]
def Deed.names : Deed → List Str
  | .set x a _ b => x :: (a.names ++ b.names)
  | .put _ x | .get _ x | .give x | .cond x _ _ | .whl x _ => [x]
  | .rep _ _ => []
def Deed.inner : Deed → List (List Deed)
  | .cond _ t o => [t, o]
  | .whl _ b | .rep _ b => [b]
  | _ => []
def Deed.others : Deed → List Str
  | .put q _ => [q ++ (">" : Str)]
  | .get q _ => [q ++ ("<" : Str)]
  | .give _ | .whl _ _ => [(">" : Str)]
  | _ => []
mutual
def Deed.flat : Deed → List Deed
  | .cond x t o => .cond x t o :: (flats t ++ flats o)
  | .whl x b => .whl x b :: flats b
  | .rep n b => .rep n b :: flats b
  | .set x a sg b => [.set x a sg b]
  | .put q x => [.put q x]
  | .get q x => [.get q x]
  | .give x => [.give x]
def flats : List Deed → List Deed
  | [] => []
  | d :: r => d.flat ++ flats r
end
mutual
def Deed.depth : Deed → Nat
  | .cond _ t o => max (depths t) (depths o) + 1
  | .whl _ b => depths b + 1
  | .rep _ b => depths b + 1
  | _ => 0
def depths : List Deed → Nat
  | [] => 0
  | d :: r => max d.depth (depths r)
end
def Deed.cards (d : Deed) : List Str := d.names ++ d.others
def cards (b : List Deed) : List Str := (flats b).flatMap Deed.cards
inductive Op
  | root
  | ifT (x : Str)
  | ifO (x : Str) (t : List Deed)
  | whl (x : Str)
  | rep (n : Int)
structure Fr where
  op : Op
  ds : List Deed
  shut : Bool
  times : Int
def Fr.deed (f : Fr) : Deed := match f.op with
  | .root => .rep 0 f.ds
  | .ifT x => .cond x f.ds []
  | .ifO x t => .cond x t f.ds
  | .whl x => .whl x f.ds
  | .rep n => .rep n f.ds
def Op.one : Op → Nat
  | .root => 0
  | _ => 1
def mixed (c k : Int) : Int := (c % 2147483647 * (48271 + 1103 * k * k) % 2147483629 + k) * (c % 2147483647 * (48271 + 1103 * k * k) % 2147483629 + 3 * k) % 2147483587
def letters : Str := "abcdefghijklmnopqrstuvwxyz"
def kws : List Str := ["ask", "store", "put", "get", "give", "if", "else", "while", "repeat", "end"]
def Val.v : Val → V
  | .num n => .int n
  | .nm x => .str x
mutual
inductive RD (H : Hp) : V → Deed → Prop
  | set {p : Addr} {x : Str} {a : Val} {sg : Str} {b : Val} : H p = some (.tup [.str "set", .str x, a.v, .str sg, b.v]) → RD H (.ref p) (.set x a sg b)
  | put {p : Addr} {q x : Str} : H p = some (.tup [.str "put", .str q, .str x]) → RD H (.ref p) (.put q x)
  | get {p : Addr} {q x : Str} : H p = some (.tup [.str "get", .str q, .str x]) → RD H (.ref p) (.get q x)
  | give {p : Addr} {x : Str} : H p = some (.tup [.str "give", .str x]) → RD H (.ref p) (.give x)
  | cond {p t o : Addr} {x : Str} {ts os : List Deed} : H p = some (.tup [.str "if", .str x, .ref t, .ref o]) → RL H t ts → RL H o os → RD H (.ref p) (.cond x ts os)
  | whl {p b : Addr} {x : Str} {bs : List Deed} : H p = some (.tup [.str "while", .str x, .ref b]) → RL H b bs → RD H (.ref p) (.whl x bs)
  | rep {p b : Addr} {n : Int} {bs : List Deed} : H p = some (.tup [.str "repeat", .int n, .ref b]) → RL H b bs → RD H (.ref p) (.rep n bs)
inductive RL (H : Hp) : Addr → List Deed → Prop
  | mk {l : Addr} {vs : List V} {ds : List Deed} : H l = some (.lst vs) → RDs H vs ds → RL H l ds
inductive RDs (H : Hp) : List V → List Deed → Prop
  | nil : RDs H [] []
  | cons {v : V} {vs : List V} {d : Deed} {ds : List Deed} : RD H v d → RDs H vs ds → RDs H (v :: vs) (d :: ds)
end
mutual
theorem RD.same {H H' : Hp} (e : Same H H') : ∀ {v : V} {d : Deed}, RD H v d → RD H' v d
  | _, _, .set h => .set (e _ _ h)
  | _, _, .put h => .put (e _ _ h)
  | _, _, .get h => .get (e _ _ h)
  | _, _, .give h => .give (e _ _ h)
  | _, _, .cond h a b => .cond (e _ _ h) (RL.same e a) (RL.same e b)
  | _, _, .whl h a => .whl (e _ _ h) (RL.same e a)
  | _, _, .rep h a => .rep (e _ _ h) (RL.same e a)
theorem RL.same {H H' : Hp} (e : Same H H') : ∀ {l : Addr} {ds : List Deed}, RL H l ds → RL H' l ds
  | _, _, .mk h a => .mk (e _ _ h) (RDs.same e a)
theorem RDs.same {H H' : Hp} (e : Same H H') : ∀ {vs : List V} {ds : List Deed}, RDs H vs ds → RDs H' vs ds
  | _, _, .nil => .nil
  | _, _, .cons a b => .cons (RD.same e a) (RDs.same e b)
end
theorem RDs.app {H : Hp} : ∀ {us vs : List V} {a b : List Deed}, RDs H us a → RDs H vs b → RDs H (us ++ vs) (a ++ b)
  | _, _, _, _, .nil, h => h
  | _, _, _, _, .cons x r, h => .cons x (RDs.app r h)
mutual
def Deed.data : Deed → PyData
  | .set x a sg b => .tuple [.str "set", .str x, (match a with | .num n => .int n | .nm y => .str y), .str sg, (match b with | .num n => .int n | .nm y => .str y)]
  | .put q x => .tuple [.str "put", .str q, .str x]
  | .get q x => .tuple [.str "get", .str q, .str x]
  | .give x => .tuple [.str "give", .str x]
  | .cond x t o => .tuple [.str "if", .str x, .list (datas t), .list (datas o)]
  | .whl x b => .tuple [.str "while", .str x, .list (datas b)]
  | .rep n b => .tuple [.str "repeat", .int n, .list (datas b)]
def datas : List Deed → List PyData
  | [] => []
  | d :: r => d.data :: datas r
end
end Tr
namespace Tr
open PySem PySem.Spec PyProof.Rows L2
set_option linter.all false
theorem Same.none {H0 H : Hp} {f : Addr} (h : Same H0 H) (hf : H f = none) : H0 f = none := by
  cases q : H0 f with
  | none => rfl
  | some o => rw [h _ _ q] at hf; cases hf
structure Fz where
  f : Fr
  c : Addr
  p : Addr
  e : Addr
def Fz.o (x : Fz) : V := match x.f.op with
  | .ifT _ => .ref x.e
  | _ => .non
def wh : List Fr → List Deed → List Deed
  | [], _ => []
  | [f], dt => f.ds ++ dt
  | f :: g :: r, dt => wh (g :: r) [({ f with ds := f.ds ++ dt } : Fr).deed]
section
variable {Hb H0 H H1 : Hp} {S s0 s1 s2 s3 : Addr} {z : List Fz}
end
end Tr
namespace Tr
open PySem PySem.Spec PyProof.Rows L2
set_option linter.all false
section
variable {Hb H0 H H1 : Hp} {S s0 s1 s2 s3 : Addr} {z : List Fz}
end
end Tr
namespace Tr
open PySem PySem.Spec PyProof.Rows L2
set_option linter.all false
section
variable {Hb H0 H H' : Hp} {S s0 s1 s2 s3 : Addr} {z : List Fz}
end
end Tr
namespace Tr
open PySem PySem.Spec PyProof.Rows L2
set_option linter.all false
section
variable {Hb H0 H H4 : Hp} {S s0 s1 s2 s3 : Addr}
end
end Tr
namespace Tr
open PySem PySem.Spec PyProof.Rows L2
set_option linter.all false
end Tr
namespace Tr
open L2
end Tr
namespace Tr
end Tr
namespace Tr
open PySem PySem.Spec PyProof.Rows L2
set_option linter.all false
def Deed.strs : Deed → List Str
  | .set x a sg b => x :: sg :: (a.names ++ b.names)
  | .put q x | .get q x => [q, x]
  | .give x | .cond x _ _ | .whl x _ => [x]
  | .rep _ _ => []
end Tr
namespace Tr
open PySem PySem.Spec PyProof.Rows L2
set_option linter.all false
end Tr
namespace L2
open PySem PySem.Spec PyProof.Rows
theorem comp_list0 {K : PySem.W.Frag} {a : Addr} {xs : List V} {g : TG} {te : TE} {Fin : List V → Hp → Prop} {σ : St} {H : Hp} (Pv : Nat → List V → St → Hp → Prop) (h0 : Pv 0 [] σ H) (hz : ∀ i ys σ H, i ≤ xs.length → Pv i ys σ H → ys.length ≤ i) (hx : xs.length ≤ sizeLine) (hl : ∀ i ys σ H, Pv i ys σ H → SqL K H a xs)
    (hs : ∀ i x ys σ H, xs[i]? = some x → Pv i ys σ H → g x σ H fun σ2 H2 => te σ2 H2 fun y H4 => Pv (i + 1) (ys ++ [y]) σ2 H4)
    (hd : ∀ ys σ H, Pv xs.length ys σ H → Fin ys H) : ∃ W : Nat → Nat → List V → St → Hp → Prop, (∃ m, W 0 m [] σ H) ∧ CompTurns (Itl K a) g tYes te Fin W :=
  comp_list Pv h0 hz hx hl (fun i x ys σ H hx p => by
    rw [yes_eq (N' := fun _ _ _ => True)]
    exact hs i x ys σ H hx p) hd
end L2
namespace Tr
open PySem PySem.Spec PyProof.Rows L2
inductive RSs (H : Hp) : List V → List (Str × Int) → Prop
  | nil : RSs H [] []
  | cons {p : Addr} {vs : List V} {q : Str} {n : Int} {ss : List (Str × Int)} : H p = some (.tup [.str q, .int n]) → RSs H vs ss → RSs H (.ref p :: vs) ((q, n) :: ss)
theorem RSs.same {H H' : Hp} (e : Same H H') : ∀ {vs : List V} {ss : List (Str × Int)}, RSs H vs ss → RSs H' vs ss
  | _, _, .nil => .nil
  | _, _, .cons h r => .cons (e _ _ h) (RSs.same e r)
theorem RSs.snoc {H : Hp} {p : Addr} {q : Str} {n : Int} (h : H p = some (.tup [.str q, .int n])) : ∀ {vs : List V} {ss : List (Str × Int)}, RSs H vs ss → RSs H (vs ++ [.ref p]) (ss ++ [(q, n)])
  | _, _, .nil => .cons h .nil
  | _, _, .cons h' r => .cons h' (RSs.snoc h r)
theorem RSs.len {H : Hp} : ∀ {vs : List V} {ss : List (Str × Int)}, RSs H vs ss → vs.length = ss.length
  | _, _, .nil => rfl
  | _, _, .cons _ r => congrArg (· + 1) (RSs.len r)
theorem RSs.at {H : Hp} : ∀ {vs : List V} {ss : List (Str × Int)}, RSs H vs ss → ∀ (i : Nat) (v : V), vs[i]? = some v → ∃ p q n, v = .ref p ∧ ss[i]? = some (q, n) ∧ H p = some (.tup [.str q, .int n])
  | _, _, .nil, i, v, h => by simp at h
  | _, _, .cons (p := p) (q := q) (n := n) h' r, 0, v, h => by
    simp at h
    exact ⟨p, q, n, h.symm, rfl, h'⟩
  | _, _, .cons h' r, i + 1, v, h => RSs.at r i v (by simpa using h)
end Tr
namespace L2
open PySem
section
variable {P : Program} {w : World} {A : Around} {E : Value → Shared → Prop} {s : Shared}
end
end L2
namespace L2
open PySem
section
variable {P : Program} {w : World} {A : Around} {E : Value → Shared → Prop} {s : Shared}
set_option maxHeartbeats 3200000 in
end
end L2
namespace L2
open PySem PySem.Spec PyProof.Rows
section
variable {X : Cx}
end
end L2
namespace L2
open PySem PySem.Spec PyProof.Rows
section
variable {X : Cx}
end
end L2
namespace L2
open PySem PySem.Spec PyProof.Rows
section
variable {X : Cx}
end
end L2
namespace L2
theorem Room.one {n : Nat} {A : PySem.Around} (h : Room n A) : A.units + 1 < PySem.cLine := by
  have := h.units
  omega
theorem ix_tupK {X : Cx} {K : PySem.W.Frag} (e : X.K = K) : IxR X (rIxT K) := by
  subst e
  exact ix_tup
end L2
namespace Tr
open PySem PySem.Spec PyProof.Rows L2
noncomputable def srt (l : List Str) : List Str := by
  classical
  exact if h : ∃ zs : List Str, zs.Nodup ∧ (∀ k, k ∈ zs ↔ k ∈ l) ∧ sortedS zs = true then Classical.choose h else []
noncomputable def srtP (l : List Str) : List Str := by
  classical
  exact if h : ∃ zs : List Str, zs.Perm l ∧ sortedS zs = true then Classical.choose h else []
structure Row where
  kind : Str
  owns : List Str
  reads : List Str
  into : Option Str
  outof : Option Str
def optV : Option Str → V
  | none => .non
  | some q => .str q
noncomputable def rowV : Deed → Row
  | .set x a sg b => ⟨"set", [x], srt ((a.names ++ b.names).filter fun y => !decide (y = x)), none, none⟩
  | .put q x => ⟨"put", [q ++ (">" : Str)], [x], some q, none⟩
  | .get q x => ⟨"get", srtP [x, q ++ ("<" : Str)], [], none, some q⟩
  | .give x => ⟨"give", [(">" : Str)], [x], none, none⟩
  | .cond x t o => ⟨"if", srt (cards [.cond x t o]), [], none, none⟩
  | .whl x b => ⟨"while", srt (cards [.whl x b]), [], none, none⟩
  | .rep n b => ⟨"repeat", srt (cards [.rep n b]), [], none, none⟩
end Tr
namespace Tr
open PySem PySem.Spec PyProof.Rows L2
end Tr
namespace Tr
open PySem PySem.Spec PyProof.Rows L2
def Deed.word : Deed → Str
  | .set .. => "set"
  | .put .. => "put"
  | .get .. => "get"
  | .give .. => "give"
  | .cond .. => "if"
  | .whl .. => "while"
  | .rep .. => "repeat"
end Tr
namespace Tr
open PySem PySem.Spec PyProof.Rows L2
end Tr
namespace L2
open PySem PySem.Spec PyProof.Rows
end L2
namespace Tr
open PySem PySem.Spec PyProof.Rows L2
end Tr
namespace Tr
open PySem PySem.Spec PyProof.Rows L2
end Tr
namespace Tr
open PySem PySem.Spec PyProof.Rows L2
end Tr
namespace Tr
open PySem PySem.Spec PyProof.Rows L2
end Tr
namespace Tr
open PySem PySem.Spec PyProof.Rows L2
end Tr
namespace Tr
open PySem PySem.Spec PyProof.Rows L2
end Tr
namespace Tr
open PySem PySem.Spec PyProof.Rows L2
end Tr
namespace Tr
open PySem PySem.Spec PyProof.Rows L2
end Tr
namespace Tr
open PySem
end Tr
namespace Tr
open PySem
structure Wt where
  g : Int
  e : Deed → Int
mutual
def Wt.d (w : Wt) : Deed → Int
  | .rep n b => w.g + n * (Wt.l w b + w.g)
  | .cond _ _ _ => w.g
  | .whl _ _ => w.g
  | .set x a sg b => w.e (.set x a sg b)
  | .put q x => w.e (.put q x)
  | .get q x => w.e (.get q x)
  | .give x => w.e (.give x)
def Wt.l (w : Wt) : List Deed → Int
  | [] => 0
  | d :: r => Wt.d w d + Wt.l w r
end
def Wt.m (w : Wt) : List Fr → Int
  | [] => 0
  | [f] => f.times * w.l f.ds
  | f :: g :: r => f.times * w.l f.ds + (g.times * w.g + match f.op with | .rep _ => f.times * w.g | _ => 0) + Wt.m w (g :: r)
end Tr
namespace Tr
open PySem PySem.Spec PyProof.Rows L2
end Tr
namespace L2
open PySem PySem.Spec PyProof.Rows
section
variable {X : Cx} {CX : CXT} {k : Nat} {f C : Addr} {fd : FuncData} {ps : List Str} {sp : Sp} {E : XK} {x m : Str} {p pos apos : Pos} {e o : Expr} {es : List Expr} {t : TA} {te ta : TE} {ds : List Value} {dvs : List V}
end
theorem putF_new {f : Str} {v : V} : ∀ {fs : List (Str × V)} (ks : List Str), fs.map (·.1) = ks → (ks.all fun g => !decide (g = f)) = true → putF f v fs = fs ++ [(f, v)]
  | [], _, _, _ => rfl
  | (g, x) :: r, ks, e, h => by
    subst e
    simp only [List.map_cons, List.all_cons, Bool.and_eq_true, Bool.not_eq_true', decide_eq_false_iff_not] at h
    rw [putF, if_neg h.1, putF_new (r.map (·.1)) rfl h.2]
    rfl
theorem lookup_hit {k : Str} {v : V} {r : List (Str × V)} : List.lookup k ((k, v) :: r) = some v := by simp [List.lookup]
theorem lookup_miss {k g : Str} {v : V} {r : List (Str × V)} (h : (k == g) = false) : List.lookup k ((g, v) :: r) = List.lookup k r := by simp [List.lookup, h]
end L2
namespace L2
open PySem PySem.Spec PyProof.Rows
end L2
namespace L2
open PySem PySem.Spec PyProof.Rows
end L2
namespace L2
open PySem PySem.Spec PyProof.Rows
section
variable {X : Cx}
end
end L2
namespace L2
open PySem PySem.Spec PyProof.Rows
section
variable {prog : Program} {w : World} {A : Around} {E : Value → Shared → Prop} {s : Shared}
end
end L2
namespace L2
open PySem PySem.Spec PyProof.Rows
section
variable {X : Cx} {pins : List (Addr × Obj)} {σ : St}
theorem track_pairs {H0 : Hp} {s0 s : Shared} (I0 : Inv X pins σ H0 s0) : ∀ (ts : List Addr) (ps : List (V × V)) (H : Hp), Inv X pins σ H s → ts.length = ps.length → ts.Pairwise (· < ·) → (∀ t ∈ ts, s0.heap.objs.size ≤ t ∧ H t = none) →
    (∀ (j : Nat) (t : Addr) (p : V × V), ts[j]? = some t → ps[j]? = some p → ∃ u v, RelV p.1 u ∧ RelV p.2 v ∧ IsPair s.heap t u v) →
    ∃ H', Inv X pins σ H' s ∧ Same H H' ∧ (∀ b, b ∉ ts → H' b = H b) ∧ ∀ (j : Nat) (t : Addr) (p : V × V), ts[j]? = some t → ps[j]? = some p → H' t = some (.tup [p.1, p.2])
  | [], _, H, I, _, _, _, _ => ⟨H, I, Same.refl _, fun _ _ => rfl, fun j t p h => by simp at h⟩
  | t :: ts, [], _, _, hl, _, _, _ => by simp at hl
  | t :: ts, p :: ps, H, I, hl, pw, fr, ob => by
    obtain ⟨u, v, ru, rv, pT⟩ := ob 0 t p rfl rfl
    obtain ⟨ht, hn⟩ := fr t List.mem_cons_self
    obtain ⟨pw1, pw2⟩ := List.pairwise_cons.mp pw
    have I2 : Inv X pins σ (upd H t (.tup [p.1, p.2])) s := I.track (I0.fpOk ht hn) (Nat.le_trans I0.sz ht) ⟨by show 2 ≤ sizeLine; decide, [u, v], .cons ru (.cons rv .nil), ⟨_, pT, rfl, _, rfl⟩⟩
    obtain ⟨H', I3, s3, o3, a3⟩ := track_pairs I0 ts ps _ I2 (by simpa using hl) pw2 (fun t' ht' => ⟨(fr t' (List.mem_cons_of_mem _ ht')).1, by rw [upd_ne (Nat.ne_of_gt (pw1 t' ht'))]; exact (fr t' (List.mem_cons_of_mem _ ht')).2⟩) fun j t' p' h1 h2 => ob (j + 1) t' p' (by simpa using h1) (by simpa using h2)
    refine ⟨H', I3, (Same.new hn _).trans s3, fun b hb => ?_, fun j t' p' h1 h2 => ?_⟩
    · have nb : b ≠ t := fun z => hb (by rw [z]; exact List.mem_cons_self)
      rw [o3 b fun z => hb (List.mem_cons_of_mem _ z), upd_ne nb]
    · cases j with
      | zero =>
        simp at h1 h2
        subst h1
        subst h2
        exact s3 _ _ upd_same
      | succ j => exact a3 j t' p' (by simpa using h1) (by simpa using h2)
end
end L2
namespace L2
open PySem PySem.Spec PyProof.Rows
end L2
namespace L2
open PySem PySem.Spec PyProof.Rows
section
variable {X : Cx} {pins : List (Addr × Obj)} {σ : St} {H : Hp} {s : Shared} {a : Addr} {kvs : List (Key × V)} {k : Key} {z : V} {u r : Value} {A : Around} {E : Value → Shared → Prop}
end
section
variable {X : Cx} {o e f : Expr} {apos cpos : Pos} {td ty tx : TE}
end
end L2
namespace L2
open PySem PySem.Spec PyProof.Rows
section
variable {prog : Program} {w : World} {A : Around} {E : Value → Shared → Prop} {s : Shared}
end
end L2
namespace L2
open PySem PySem.Spec PyProof.Rows
section
variable {prog : Program} {w : World} {A : Around} {R : Result → Shared → Prop} {K : Type} [DecidableEq K] {knd : KeyKind prog w K}
end
end L2
namespace L2
open PySem PySem.Spec PyProof.Rows
section
variable {prog : Program} {w : World} {A : Around} {E : Value → Shared → Prop} {K : Type} [DecidableEq K] {knd : KeyKind prog w K} {s : Shared}
end
end L2
namespace L2
open PySem PySem.Spec PyProof.Rows
section
variable {X : Cx} {pins : List (Addr × Obj)} {σ : St} {H : Hp} {s : Shared}
end
end L2
namespace Tr
open PySem PySem.Spec PyProof.Rows L2
abbrev sl (x : Str) : List Nat := x.cps.toList
end Tr
namespace L2
open PySem PySem.Spec PyProof.Rows
section
variable {X : Cx}
theorem op_in_dk : OpR X (compareOp .In) (fun x y H Q => ∃ a kvs k, y = .ref a ∧ H a = some (.dK kvs) ∧ x = kV k ∧ Q (.bl (valV kvs k).isSome) H) := by
  intro pins s σ H x y v u Q I rx ry h
  obtain ⟨a, kvs, k, rfl, hd, rfl, q⟩ := h
  cases ry
  obtain ⟨_, ne, vs, rel, dd⟩ := dk_of I.hok hd
  refine wpAny_in_of (kV_is rx) ne dd.mapOf ⟨.bl _, H, I.tok _, ?_, q⟩
  rw [← (rel.val k).isSome_eq]
  rfl
end
end L2
namespace Tr
open PySem PySem.Spec PyProof.Rows L2
end Tr
namespace Tr
open PySem PySem.Spec PyProof.Rows L2
end Tr
namespace Tr
open PySem PySem.Spec PyProof.Rows L2
end Tr
namespace Tr
open PySem PySem.Spec PyProof.Rows L2
end Tr
namespace Tr
open PySem PySem.Spec PyProof.Rows L2
end Tr
namespace Tr
open PySem PySem.Spec PyProof.Rows L2
end Tr
namespace Tr
open PySem PySem.Spec PyProof.Rows L2
theorem inV_strs (c : Str) : ∀ zs : List Str, inV (.str c) (zs.map V.str) = decide (c ∈ zs)
  | [] => by simp [inV]
  | z :: r => by
    have ih := inV_strs c r
    unfold inV at *
    rw [List.map_cons, List.any_cons, ih]
    by_cases e : c = z
    · subst e
      simp [eqV]
    · have e' : ¬ z = c := fun y => e y.symm
      simp [eqV, e, e']
end Tr
namespace Tr
open PySem PySem.Spec PyProof.Rows L2
end Tr
namespace Tr
open PySem PySem.Spec PyProof.Rows L2
def RowOk (r : Row) : Prop := PyData.strOk r.kind = true ∧ (∀ s ∈ r.owns, PyData.strOk s = true) ∧ (∀ s ∈ r.reads, PyData.strOk s = true) ∧ (∀ q, r.into = some q → PyData.strOk q = true) ∧ ∀ q, r.outof = some q → PyData.strOk q = true
end Tr
namespace Tr
open PySem PySem.Spec PyProof.Rows L2
end Tr
namespace Tr
open PySem PySem.Spec PyProof.Rows L2
end Tr
namespace Tr
open PySem PySem.Spec PyProof.Rows L2
end Tr
namespace L2
open PySem
end L2
namespace L2
open PySem
section
variable {P : Program} {w : World} {A : Around} {E : Value → Shared → Prop} {s : Shared}
end
end L2
namespace L2
open PySem PySem.Spec PyProof.Rows
section
variable {X : Cx}
end
end L2
namespace L2
open PySem PySem.Spec PyProof.Rows
section
variable {P : Program} {w : World} {A : Around} {E : Value → Shared → Prop} {s : Shared}
end
section
variable {X : Cx}
theorem KV.get : ∀ {ps : List (Key × V)} {qs : List (Key × Value)} {i : Nat} {p : Key × V}, KV ps qs → ps[i]? = some p → ∃ q, qs[i]? = some q ∧ p.1 = q.1 ∧ RelV p.2 q.2
  | _, _, _, _, .nil, h => by simp at h
  | _, _, 0, _, .cons hx _, h => by
    simp only [List.getElem?_cons_zero, Option.some.injEq] at h
    subst h
    exact ⟨_, rfl, hx.1, hx.2⟩
  | _, _, i + 1, _, .cons _ r, h => by
    obtain ⟨q, e, z⟩ := KV.get r (by simpa using h)
    exact ⟨q, by simpa using e, z⟩
def tListItems (td : TE) : TE := fun σ H Q => td σ H fun x H1 => ∃ a kvs, x = .ref a ∧ H1 a = some (.dK kvs) ∧
  ∀ H' l (ts : List Addr), Same H1 H' → H1 l = none → H' l = some (.lst (ts.map V.ref)) → ts.length = kvs.length → (∀ (j : Nat) (t : Addr) (p : Key × V), ts[j]? = some t → kvs[j]? = some p → H' t = some (.tup [kV p.1, p.2]) ∧ H1 t = none) → Q (.ref l) H'
theorem is_kV {P : Program} {w : World} {k : Key} {u : Value} (h : (mixKind P w).is k u = true) : RelV (kV k) u := by
  have h : keyIs k u = true := h
  rcases keyIs_shape h with ⟨i, t, rfl, rfl⟩ | ⟨x, t, rfl, rfl⟩
  · exact ⟨t, rfl⟩
  · exact ⟨t, rfl⟩
theorem pe_listitems {o : Expr} {p1 apos cpos pos1 : Pos} {td : TE} (hc : X.calm = true) (hg : Gl X "list") (hm : X.mg "list" = none) (ho : PE X o td)
    (hbase : attributeBase o "items" X.env (eval o X.env) = eval o X.env := by rfl) (hline : (apos.endLine == cpos.line) = true := by rfl)
    (hs3 : starEach [.Call (.Attribute o "items" apos) [] [] cpos] X.env = [(false, eval (.Call (.Attribute o "items" apos) [] [] cpos) X.env)] := by rfl) :
    PE X (.Call (.Name "list" p1) [.Call (.Attribute o "items" apos) [] [] cpos] [] pos1) (tListItems td) := by
  intro pins s σ H Q I h
  refine wpAny_Call_Name_kw (ld_blt I hg hm PyProof.Rows.Boot.«list» ?_)
  refine PyProof.Rows.callWith_type1 ?_ (by rw [hs3]; rfl) rfl
  rw [hs3]
  show wpAny _ _ (spliced ((false, eval (.Call (.Attribute o "items" apos) [] [] cpos) X.env) :: backTo pos1 [])) _ _ s
  refine Calls.spliced_cons ?_
  refine wpAny_Call_method0_late hbase hline (thn (ho pins s σ H _ I h) fun v s1 ⟨x, H1, I1, r1, a, kvs, ex, eH, q⟩ => ?_)
  subst ex
  obtain rfl : v = Value.ref a := r1
  obtain ⟨z, hd, vs, rel, dd⟩ := dk_of I1.hok eH
  obtain ⟨t1, t2, _⟩ := isD_at I1 (.inl ⟨kvs, .inl eH⟩)
  refine ⟨"dict", "dict.items", PySem.F.plainAttrs_dict, PySem.F.slot_dict_items, PySem.F.type_dict_items, t1, t2, Calls.callWith_builtin rfl (PySem.evalArgs_none ?_)⟩
  refine call_meetsIn PySem.F.slot_dict_items dd.typeIs PySem.F.entry_dict_items (PySem.F.args_dict_items_1 _) (meets_dict_items (mixKind X.prog X.w) a hd) ⟨⟨vs, dd⟩, ?_⟩
  refine Calls.spliced_nil ?_
  obtain ⟨ep, da⟩ := dd.dictAt
  have kl := rel.length
  refine PySem.W.kdx_call (s := { s1 with heap := s1.heap.push { cls := .type "dict_items", data := .fields #[.ref a] } }) (knd := mixKind X.prog X.w) (kvs := vs) (ep := ep) (I1.ok.hd hc) ⟨_, Heap.get?_push_size _ rfl, rfl, rfl⟩ (da.push _) (by omega) fun h' tk acc c ts kp gl tl hG ets => ?_
  have keep : ∀ b o, s1.heap.get? b = some o → h'.get? b = some o := fun b o e => kp b o (Heap.get?_push_of_some _ e)
  have J : Inv X pins σ H1 { s1 with heap := h', toks := tk } := I1.kept keep
  have szp : (s1.heap.push ({ cls := .type "dict_items", data := .fields #[.ref a] } : Obj)).objs.size = s1.heap.objs.size + 1 := Heap.size_push _ _
  have old : ∀ t ∈ ts, s1.heap.objs.size ≤ t := fun t ht => by
    have := hG.above t ht
    have z : s1.heap.objs.size ≤ (s1.heap.push ({ cls := .type "dict_items", data := .fields #[.ref a] } : Obj)).objs.size := by rw [szp]; exact Nat.le_succ _
    exact Nat.le_trans z (Nat.le_of_lt this)
  obtain ⟨H', I3, s3, o3, a3⟩ := track_pairs (s := { s1 with heap := h', toks := tk }) I1 ts (kvs.map fun p => (kV p.1, p.2)) H1 J (by rw [List.length_map]; omega) hG.rise (fun t ht => ⟨old t ht, I1.hok.fresh (old t ht)⟩) fun j t p h1 h2 => by
    obtain ⟨key, k, x, e1, e2, e3⟩ := hG.pairs j t h1
    rw [List.getElem?_map] at h2
    obtain ⟨p', hp', rfl⟩ := Option.map_eq_some_iff.mp h2
    obtain ⟨q', hq', rq1, rq2⟩ := KV.get rel hp'
    rw [e1] at hq'
    cases hq'
    have rq1 : p'.1 = k := rq1
    subst rq1
    exact ⟨key, x, is_kV e2, rq2, e3⟩
  have lL : s1.heap.objs.size ≤ (s1.heap.push ({ cls := .type "dict_items", data := .fields #[.ref a] } : Obj)).objs.size := by rw [szp]; omega
  generalize (s1.heap.push ({ cls := .type "dict_items", data := .fields #[.ref a] } : Obj)).objs.size = L at gl hG lL ⊢
  have nL : L ∉ ts := fun hm => Nat.lt_irrefl _ (hG.above _ hm)
  have fL : H1 L = none := I1.hok.fresh lL
  have hL : H' L = none := by rw [o3 _ nL]; exact fL
  have vr : ∀ ts : List Addr, Vals (ts.map V.ref) (ts.map Value.ref) := fun ts => by
    induction ts with
    | nil => exact .nil
    | cons t ts ih => exact .cons rfl ih
  have I4 : Inv X pins σ (upd H' L (.lst (ts.map V.ref))) { s1 with heap := h', toks := tk } := I3.track (I1.fpOk lL hL) (Nat.le_trans I1.sz lL) ⟨by rw [List.length_map]; omega, ts.map Value.ref, c, vr ts, by rw [← ets]; simpa using gl⟩
  refine ⟨.ref L, _, I4, rfl, q _ L ts (s3.trans (Same.new hL _)) fL upd_same (by omega) fun j t p h1 h2 => ⟨?_, I1.hok.fresh (old t (List.mem_of_getElem? h1))⟩⟩
  exact Same.new hL _ _ _ (a3 j t (kV p.1, p.2) h1 (by rw [List.getElem?_map, h2]; rfl))
end
section
variable {P : Program} {w : World} {K : PySem.W.Frag} {mg : Str → Option Value} {base : Heap}
end
end L2
namespace Tr
open PySem PySem.Spec PyProof.Rows L2
set_option linter.all false
def addK (ks : List Str) (x : Str) : List Str := if x ∈ ks then ks else ks ++ [x]
end Tr
namespace L2
open PySem PySem.Spec PyProof.Rows
section
variable {X : Cx}
end
end L2
namespace L2
open PySem PySem.Spec PyProof.Rows
section
variable {X : Cx}
end
end L2
namespace L2
open PySem PySem.Spec PyProof.Rows PySem.W
section
variable {X : Cx} {k : Nat} {f C0 : Addr} {fd : FuncData} {ps : List Str} {sp : Sp} {dvs : List V} {ds : List Value} {fx cx y m n : Str} {iy im inn : Nat} {p pos apos py cp pm pn pa hpos : Pos} {e : Expr} {es : List Expr} {t : TA}
end
end L2
namespace L2
open PySem PySem.Spec PyProof.Rows PySem.W
section
variable {X : Cx}
end
end L2
namespace Tr
open PySem PySem.Spec PyProof.Rows L2
set_option linter.all false
def tabV (ks : List Str) (f : Str → V) : List (Key × V) := ks.map fun z => (.inr z, f z)
def setV (f : Str → V) (x : Str) (v : V) : Str → V := fun z => if z = x then v else f z
theorem tabV_keys (ks : List Str) (f : Str → V) : (tabV ks f).map (·.1) = ks.map Sum.inr := by
  unfold tabV
  rw [List.map_map]
  rfl
theorem tabV_len (ks : List Str) (f : Str → V) : (tabV ks f).length = ks.length := List.length_map _
theorem tabV_val {f : Str → V} {x : Str} : ∀ {ks : List Str}, x ∈ ks → valV (tabV ks f) (.inr x) = some (f x)
  | [], h => by simp at h
  | k :: ks, h => by
    unfold tabV valV
    rw [List.map_cons, List.find?_cons]
    by_cases e : k = x
    · subst e
      simp
    · have h' : x ∈ ks := by
        rcases List.mem_cons.mp h with z | z
        · exact absurd z.symm e
        · exact z
      have := tabV_val (f := f) h'
      unfold tabV valV at this
      simp only [Sum.inr.injEq, e, decide_false]
      exact this
theorem tabV_none {f : Str → V} {x : Str} {ks : List Str} (h : x ∉ ks) : valV (tabV ks f) (.inr x) = none := by
  cases e : valV (tabV ks f) (.inr x) with
  | none => rfl
  | some v =>
    have := valV_in e
    rw [tabV_keys] at this
    obtain ⟨z, hz, ez⟩ := List.mem_map.mp this
    cases ez
    exact absurd hz h
theorem tabV_off {f : Str → V} {x : Str} {v : V} {ks : List Str} (h : x ∉ ks) : tabV ks (setV f x v) = tabV ks f := by
  unfold tabV
  refine List.map_congr_left fun z hz => ?_
  show (_, (if z = x then v else f z)) = _
  rw [if_neg (fun e : z = x => h (e ▸ hz))]
theorem tabV_put {f : Str → V} {x : Str} {v : V} {ks : List Str} (hn : ks.Nodup) : putK (tabV ks f) (.inr x) v = tabV (addK ks x) (setV f x v) := by
  unfold addK
  split
  · rename_i h
    unfold putK
    rw [if_pos (by
      rw [List.any_eq_true]
      exact ⟨(.inr x, f x), List.mem_map.mpr ⟨x, h, rfl⟩, by simp⟩)]
    unfold tabV
    rw [List.map_map]
    refine List.map_congr_left fun z hz => ?_
    show (if _ then _ else _) = _
    unfold setV
    by_cases e : z = x
    · subst e
      simp
    · simp [e]
  · rename_i h
    rw [putK_new _ (tabV_none h)]
    show _ = tabV (ks ++ [x]) (setV f x v)
    unfold tabV
    rw [List.map_append]
    have := tabV_off (f := f) (v := v) h
    unfold tabV at this
    rw [this]
    simp [setV]
end Tr
namespace L2
open PySem PySem.Spec PyProof.Rows PySem.W
section
variable {P : Program} {w : World} {K : PySem.W.Frag} {mg : Str → Option Value} {base : Heap}
end
theorem pe_fldK {X : Cx} {K : PySem.W.Frag} {e : Expr} {f : Str} {ta : TE} {pos : Pos} (hk : X.K = K) (he : PE X e ta) (hb : attributeBase e f X.env (eval e X.env) = eval e X.env) : PE X (.Attribute e f pos) (tFld K ta f) := by
  subst hk
  exact pe_fld he hb
end L2
namespace L2
open PySem PySem.F PySem.Spec PyProof.Rows PySem.W
set_option maxRecDepth 100000
theorem new_enumK (l : Addr) (items : Array Value) (n : Nat) (dct : Option Addr) (sl : Array (Option Value)) (t : Tok) :
    Meets (Builtin.«enumerate.__new__» ⟨[.type "enumerate", .ref l], [("start", .int 1 t)]⟩) (fun _ R s => s.heap.get? l = some { cls := .type "list", dict := dct, data := .seq items n, slots := sl } ∧
      R (.ok (.ret (.ref (s.heap.push { cls := .type "list_iterator", data := .fields #[.ref l, .int 0 0] }).objs.size)))
        { s with heap := (s.heap.push { cls := .type "list_iterator", data := .fields #[.ref l, .int 0 0] }).push { cls := .type "enumerate", data := .fields #[.none, .bool false, .ref s.heap.objs.size, rawInt 1, .none, .none] } }) :=
  .of_wp fun prog w A R s h => by
    obtain ⟨hp, g, d, tk, os⟩ := s; obtain ⟨hl, h⟩ := h
    have hsub := sub_enumerate
    have hL : Heap.IsList (Shared.heap ⟨hp, g, d, tk, os⟩) l items := ⟨_, hl, rfl, n, rfl⟩
    wp_walk using AutoSeq1.wpAny_loadPart' hl
    refine wpAny_stack_any fun y => wpAny_pure ?_
    have f1 := AutoSeq1.idx_int
    split
    · rename_i c _ _ _ _ _
      cases (c == Value.type "enumerate")
      · wp_walk using AutoSeq1.wpAny_loadPart' hl, wpAny_pyIter_list hL
        exact ⟨_, rfl, h⟩
      · wp_walk using AutoSeq1.wpAny_loadPart' hl, wpAny_pyIter_list hL
        exact ⟨_, rfl, h⟩
    · wp_walk using AutoSeq1.wpAny_loadPart' hl, wpAny_pyIter_list hL
      exact ⟨_, rfl, h⟩
theorem init_kw {T nw : String} {me : Value} {rest : List Value} {kw : List (Str × Value)} (hl : typeLookup (.type T) "__init__" = pure (some (.builtin "object.__init__"))) (hm : Bind.madeBy (.type T) = pure (some nw)) (hne : (some nw != some "object.__new__") = true) :
    Meets (Builtin.«object.__init__» ⟨me :: rest, kw⟩) (fun _ R s => s.TypeIs me T ∧ R (.ok (.ret .none)) s) := by
  refine Meets.of_wp fun prog w A R s ⟨hT, hq⟩ => ?_
  cases rest with
  | nil =>
    cases kw with
    | nil => exact wpAny_pure ⟨_, rfl, hq⟩
    | cons a b =>
      repeat (any_goals (first | assumption | wp_step))
      exact ⟨_, rfl, hq⟩
  | cons a b =>
    repeat (any_goals (first | assumption | wp_step))
    exact ⟨_, rfl, hq⟩
section
variable {prog : Program} {w : World} {A : Around} {E : Value → Shared → Prop} {s : Shared}
theorem call_typeK {T nw : String} {B : Builtin} {xs : List Value} {kw : List (Str × Value)} {S : PySem.Spec} {Q : Value → Shared → Prop} (ft : TypeCalled T nw "object.__init__") (hne : (some nw != some "object.__new__") = true)
    (c1 : checkTypeCall T ⟨xs, kw⟩ = pure ()) (c2 : checkBuiltinCall nw ⟨.type T :: xs, kw⟩ = pure ()) (ok : ∀ me, argsOk "object.__init__" ⟨me :: xs, kw⟩) (en : entryFor table nw = some B) (g : Meets (B ⟨.type T :: xs, kw⟩) S)
    (h : S A.in1 (wants (fun me s1 => s1.TypeIs me T ∧ Q me s1) E) s) : wpAny (model prog w) A (call (.type T) xs kw) Q E s := by
  obtain ⟨c, tl, hmro⟩ := ft.mro
  have hmade := ft.made
  have hsub := ft.sub
  refine wpAny_call (codeAny_of_tree ?_)
  show wpAny _ _ (callAny (.type T) _) _ _ _
  refine wpAny_pure ⟨Code.quiet_builtin _ (by decide +kernel), codeAny_builtin F.entry_type_call ?_⟩
  rw [Around.under_plain (weight_type_call_type T xs kw) (units_type_call_type T xs kw)]
  have e1 := ft.notType
  have e2 := ft.canCreate
  repeat (any_goals (first | assumption | wp_step))
  refine codeAny_mono (codeAny_call_builtin ft.plain en (wpAny_of_eq c2 (g prog w A.in1 _ s h))) fun r s1 hr => ?_
  rcases r with e | fl
  · exact hr
  cases fl with
  | ret me =>
    obtain ⟨hT, hq⟩ := hr
    have hli := ft.init.lookup
    have hbi := ft.init.bind me
    repeat (any_goals (first | assumption | wp_step))
    refine codeAny_mono (codeAny_call_builtin ft.init.plain F.entry_object_init (ft.init.check _ _ _ _ _ _ _ _ hT (ok me) (init_kw ft.init.lookup ft.made hne prog w A.in1 (wants (fun r s2 => r = .none ∧ Q me s2) E) s1 ⟨hT, rfl, hq⟩))) fun r2 s2 hr2 => ?_
    rcases r2 with e | fl2
    · exact hr2
    cases fl2 with
    | ret r =>
      obtain ⟨rfl, hq⟩ := hr2
      repeat (any_goals (first | assumption | wp_step))
    | _ => exact hr2.elim
  | _ => exact hr.elim
theorem call_enum1 {l : Addr} {items : Array Value} {t : Tok} {Q : Value → Shared → Prop} (hL : s.heap.IsList l items)
    (h : ∀ g, IsEnum g (s.heap.objs.size + 1) s.heap.objs.size 1 .none → g.IsListIter s.heap.objs.size l 0 → g.objs.size = s.heap.objs.size + 2 → (∀ b o, s.heap.get? b = some o → g.get? b = some o) → Q (.ref (s.heap.objs.size + 1)) { s with heap := g }) :
    wpAny (model prog w) A (call (.type "enumerate") [.ref l] [("start", .int 1 t)]) Q E s := by
  obtain ⟨⟨c, dc, dt, sl⟩, hl, hc, n, hd⟩ := hL
  replace hc : c = .type "list" := hc
  replace hd : dt = .seq items n := hd
  subst hc hd
  refine call_typeK F.called_enumerate (by decide) ?_ ?_ (fun me => ?_) F.entry_enumerate_new (new_enumK l items n dc sl t) ⟨hl, ?_⟩
  · kernel_rfl
  · kernel_rfl
  · show argsOk _ _
    unfold argsOk
    rw [signature?_of (id := "object.__init__") (n := ['_', '_', 't', 'i', 'n', 'i', '_', '_']) (o := ['t', 'c', 'e', 'j', 'b', 'o']) (by kernel_rfl) owner_object]
    kernel_rfl
  have hz : (s.heap.push { cls := .type "list_iterator", data := .fields #[.ref l, .int 0 0] }).objs.size = s.heap.objs.size + 1 := Heap.size_push ..
  show _ ∧ _
  rw [hz]
  have he : IsEnum ((s.heap.push { cls := .type "list_iterator", data := .fields #[.ref l, .int 0 0] }).push { cls := .type "enumerate", data := .fields #[.none, .bool false, .ref s.heap.objs.size, rawInt 1, .none, .none] }) (s.heap.objs.size + 1) s.heap.objs.size 1 .none := by
    have := Heap.get?_push_size (s.heap.push { cls := .type "list_iterator", data := .fields #[.ref l, .int 0 0] }) (o := { cls := .type "enumerate", data := .fields #[.none, .bool false, .ref s.heap.objs.size, rawInt 1, .none, .none] }) rfl
    rw [hz] at this; exact this
  refine ⟨⟨_, he, rfl⟩, h _ he ⟨_, Heap.get?_push_of_some _ (Heap.get?_push_size _ rfl), rfl, rfl⟩ (by rw [Heap.size_push, hz]) fun b o q => Heap.get?_push_of_some _ (Heap.get?_push_of_some _ q)⟩
end
theorem Draws.shift {prog : Program} {w : World} {A : Around} {it : Addr} {fp : List Addr} {n : Nat} {P : Nat → Value → Prop} {St : Nat → Heap → Prop} (D : Draws prog w A it fp n P St) :
    Draws prog w A it fp (n + 1) (fun i x => ∃ j, i = j + 1 ∧ P j x) (fun i h => ∃ j, i = j + 1 ∧ St j h) where
  live := fun i h ⟨j, _, st⟩ => D.live j h st
  frame := fun i h h' ⟨j, e, st⟩ k => ⟨j, e, D.frame j h h' st k⟩
  item := fun i s Q E hi ⟨j, e, st⟩ hQ => D.item j s Q E (by omega) st fun x h' tk p st' sb => hQ x h' tk ⟨j, e, p⟩ ⟨j + 1, by omega, st'⟩ sb
  done := fun s Q E ⟨j, e, st⟩ hE => D.done s Q E (by
    obtain rfl : n = j := by omega
    exact st) hE
def Ite1 (K : PySem.W.Frag) (l : Addr) : It :=
  ⟨fun i H => ∃ xs x, SqL K H l xs ∧ xs[i]? = some x,
   fun i H v H' => ∃ p x, H p = none ∧ v = .ref p ∧ H' = upd H p (.tup [.int ((i + 1 : Nat) : Int), x]) ∧ ∀ xs, SqL K H l xs → xs[i]? = some x,
   fun i H => ∃ xs, SqL K H l xs ∧ xs.length ≤ i⟩
theorem turn_enum1 {P : Program} {w : World} {K : PySem.W.Frag} {elts : List Expr} {kk : Nat} {tp : Pos} (e it l : Addr) (ne : e ≠ it) :
    Turn P w K (.Tuple elts kk tp) (Ite1 K l) [e, it] e (fun i h => (∃ old, IsEnum h e it ((i + 1 : Nat) : Int) old) ∧ h.IsListIter it l i) where
  mem := by simp
  obj := fun i h st b hb => by
    obtain ⟨⟨old, he⟩, o, eo, c, d⟩ := st
    simp only [List.mem_cons, List.not_mem_nil, or_false] at hb
    rcases hb with rfl | rfl
    · exact ⟨_, he, fun v q => by cases q⟩
    · exact ⟨o, eo, fun v q => by rw [d] at q; cases q⟩
  keep := fun i h h' st k => by
    obtain ⟨⟨old, he⟩, o, eo, r⟩ := st
    exact ⟨⟨old, k e (by simp) _ he⟩, o, k it (by simp) o eo, r⟩
  item := by
    intro X hP hw hK hc i pins s σ H E I hf st hg
    subst hP hw hK
    obtain ⟨⟨old, he⟩, hit⟩ := st
    obtain ⟨xs, x, hx, ex⟩ := hg
    obtain ⟨its, rv, pl, z1⟩ := I.list hx
    obtain ⟨u, hu, ru⟩ := rv.get ex
    have hli : l ≠ it := by
      rintro rfl
      obtain ⟨o, eo, c, _⟩ := hit
      obtain ⟨o', eo', c', _⟩ := pl.isList
      rw [eo] at eo'
      cases eo'
      rw [c] at c'
      exact absurd (Value.type.inj c') (by decide)
    have hel : e ≠ l := by
      rintro rfl
      obtain ⟨o', eo', c', _⟩ := pl.isList
      rw [he] at eo'
      cases eo'
      exact absurd (Value.type.inj c') (by decide)
    have iu : its.toArray[i]? = some u := by simpa using hu
    have il : i < its.toArray.size := (Array.getElem?_eq_some_iff.mp iu).1
    have hd1 : X.A.in1.handled = none := (I.ok.hd hc)
    refine wpAny_pyNext_enum_itemD (Draws.shift (Draws.list (prog := X.prog) (w := X.w) hd1 it l hli its.toArray)) he ⟨i, rfl, hit, pl.isList⟩ (Nat.succ_lt_succ il) ne (by simp [ne, hel]) fun y g tk py a1 a2 a3 a4 a5 => ⟨_, rfl, ?_⟩
    obtain ⟨j, ej, py⟩ := py
    obtain rfl : i = j := by omega
    obtain rfl : u = y := Option.some.inj (iu.symm.trans py)
    obtain ⟨j2, ej2, a2, _⟩ := a2
    obtain rfl : i + 1 = j2 := by omega
    refine wpAny_letOwnedTupleGo_enum a1 fun g' a1' sb => ?_
    have hT : ∀ b ∈ [e, it], s.heap.objs.size ≠ b := fun b hb => by
      simp only [List.mem_cons, List.not_mem_nil, or_false] at hb
      rcases hb with rfl | rfl
      · exact Nat.ne_of_gt (Heap.lt_size he)
      · obtain ⟨o, eo, _⟩ := hit
        exact Nat.ne_of_gt (Heap.lt_size eo)
    have ky : ∀ b o, b ∉ [e, it] → s.heap.get? b = some o → g'.get? b = some o := fun b o hb q => by
      simp only [List.mem_cons, List.not_mem_nil, or_false, not_or] at hb
      exact sb.extBut _ _ hb.1 (a5 b o hb.1 hb.2 q)
    have I1 : Inv X pins σ H { s with heap := g', toks := tk + 1 } := I.turnedL (t' := tk + 1) ky hf
    have pT := sb.extBut _ _ (hT e (by simp)) a3
    have fT : FpOk X pins H s.heap.objs.size := I.fpOk (Nat.le_refl _) (I.hok.fresh (Nat.le_refl _))
    have I2 : Inv X pins σ (upd H s.heap.objs.size (.tup [.int ((i + 1 : Nat) : Int), x])) { s with heap := g', toks := tk + 1 } := I1.track fT I.sz ⟨by show 2 ≤ sizeLine; decide, [.int ((i + 1 : Nat) : Int) tk, u], .cons ⟨_, rfl⟩ (.cons ru .nil), ⟨_, pT, rfl, _, rfl⟩⟩
    refine ⟨.ref s.heap.objs.size, _, I2, rfl, ⟨_, x, I.hok.fresh (Nat.le_refl _), rfl, rfl, fun xs' h => by rw [I.list_inj h hx]; exact ex⟩, ⟨⟨u, a1'⟩, ?_⟩, fun b hb => ?_⟩
    · obtain ⟨o, eo, r⟩ := a2
      exact ⟨o, sb.extBut _ _ (Ne.symm ne) eo, r⟩
    · rw [upd_ne (Ne.symm (hT b hb))]
      exact (hf b hb).1
  done := by
    intro X hP hw hK hc i pins s σ H E I hf st hg
    subst hP hw hK
    obtain ⟨⟨old, he⟩, hit⟩ := st
    obtain ⟨xs, hx, hend⟩ := hg
    obtain ⟨its, rv, pl, z1⟩ := I.list hx
    have e1 := rv.length
    have hli : l ≠ it := by
      rintro rfl
      obtain ⟨o, eo, c, _⟩ := hit
      obtain ⟨o', eo', c', _⟩ := pl.isList
      rw [eo] at eo'
      cases eo'
      rw [c] at c'
      exact absurd (Value.type.inj c') (by decide)
    have hd1 : X.A.in1.handled = none := (I.ok.hd hc)
    have hT : s.TypeIs (.ref e) "enumerate" := ⟨_, he, rfl⟩
    unfold pyNext
    refine wpAny_bind (wpAny_attempt (wpAny_callSpecial?_slot (name := Str.ofString "__next__") hT F.slot_enumerate_next (wpAny_call_entry F.slot_enumerate_next hT F.entry_enumerate_next ?_ (F.args_enumerate_next_1 _))))
    show wpAny _ _ (PySem.field (.ref e) 2 >>= _) _ _ _
    refine wpAny_bind (wpAny_field he rfl (x := .ref it) rfl ?_)
    refine wpAny_bind (wpAny_nextOf_list_end hd1 hit pl.isList (by simp; omega) fun g x k hx' => ?_)
    obtain ⟨o, ho, hc'⟩ := hx'
    refine wpAny_bind (wpAny_isInstance (T := "StopIteration") (b := true) ⟨o, ho, hc'⟩ isSubtype_stop (wpAny_pure ⟨rfl, I.turnedL (t' := s.toks) (ch := [e, it]) (fun b o hb q => ?_) hf⟩))
    simp only [List.mem_cons, List.not_mem_nil, or_false, not_or] at hb
    exact k b o hb.2 q
  self := fun _ _ _ _ _ st h => by
    obtain ⟨⟨old, he⟩, _⟩ := st
    exact wpAny_pyIter_enum he h
section
variable {X : Cx}
theorem callWith_typeK {M : Model} {A : Around} {E : Value → Shared → Prop} {s : Shared} {env : Env} {pos : Pos} {T : String} {e : Expr} {rest : List Expr} {kws : List Keyword} {Q : Value → Shared → Prop}
    (h : wpAny M A (spliced (backTo pos (starEach (e :: rest) env))) (fun vs s1 => wpAny M A (evalAll ((backToKw pos (keywordEach kws env)).map (·.2))) (fun ks s2 => wpAny M A (call (.type T) vs (((backToKw pos (keywordEach kws env)).filterMap (·.1)).zip ks)) Q E s2) E s1) E s)
    (he : backTo pos (starEach (e :: rest) env) = (false, eval e env) :: backTo pos (starEach rest env) := by rfl) (hp : (backTo pos (starEach (e :: rest) env)).any (·.1) = false := by rfl)
    (ha : (backToKw pos (keywordEach kws env)).all (·.1.isSome) = true := by rfl) (hk : (backToKw pos (keywordEach kws env)).any (·.1.isNone) = false := by rfl) :
    wpAny M A (callWith pos (.type T) [] (backTo pos (starEach (e :: rest) env)) (backToKw pos (keywordEach kws env))) Q E s := by
  unfold callWith
  have h2 : wpAny M A (evalArgs (.type T) true (backTo pos (starEach (e :: rest) env)) (backToKw pos (keywordEach kws env))) (fun a s1 => wpAny M A (call (.type T) ([] ++ a.pos) a.kw) Q E s1) E s := by
    rw [he] at h ⊢
    exact evalArgs_kwB ha h
  refine wpAny_bind (wpAny_holding (wpAny_mono h2 (fun a s1 h1 => wpAny_bind (wpAny_standAt ?_)) fun _ _ q => q))
  simp only [hp, hk, Bool.or_false]
  refine wpAny_bind (wpAny_pure ?_)
  exact wpAny_bind (wpAny_mono h1 (fun r s2 hr => wpAny_bind (wpAny_holding (wpAny_point (wpAny_pure hr)))) fun _ _ q => q)
def iEnum1 (K : PySem.W.Frag) (ta : TA) : TI := fun σ H R => ta σ H fun vs H1 => ∃ l xs, vs = [.ref l] ∧ SqL K H1 l xs ∧ R (Ite1 K l) H1
theorem pi_enum1 {a ek : Expr} {ta : TA} {p pos tp kp : Pos} {elts : List Expr} {kk : Nat} (hg : Gl X "enumerate") (hm : X.mg "enumerate" = none) (ha : PA X [a] ta) (hk : PE X ek (tC (.int 1))) (hs : starEach [a] X.env = [(false, eval a X.env)] := by rfl) :
    PI X (.Tuple elts kk tp) (.Call (.Name "enumerate" p) [a] [⟨some "start", ek, kp⟩] pos) (iEnum1 X.K ta) := by
  intro pins s σ H R I h
  show wpAny _ _ (eval (.Call (.Name "enumerate" p) [a] [⟨some "start", ek, kp⟩] pos) X.env) _ _ _
  rw [show eval (.Call (.Name "enumerate" p) [a] [⟨some "start", ek, kp⟩] pos) X.env = (do callWith pos (← eval (.Name "enumerate" p) X.env) [] (backTo pos (starEach [a] X.env)) (backToKw pos (keywordEach [⟨some "start", ek, kp⟩] X.env))) from rfl]
  refine wpAny_bind (ld_blt I hg hm PyProof.Rows.Boot.«enumerate» (callWith_typeK (thn (ha pos pins s σ H _ I h) fun us s1 ⟨vs, H1, I1, r1, q1⟩ => ?_) (by rw [hs]; rfl) (by rw [hs]; rfl)))
  refine evalAll_cons (wpAny_bind (thn (hk pins s1 σ H1 (fun v H2 => v = .int 1 ∧ H2 = H1) I1 ⟨rfl, rfl⟩) fun u2 s2 ⟨v2, H2, I2, r2, e2, e3⟩ => ?_))
  subst e2 e3
  obtain ⟨t2, rfl⟩ := r2
  refine wpAny_bind (wpAny_standAt (wpAny_pure (evalAll_nil ?_)))
  obtain ⟨l, xs, rfl, hx, q⟩ := q1
  obtain ⟨u, rfl, ru⟩ := vals1 r1
  cases ru
  obtain ⟨its, rv, pl, z1⟩ := I2.list hx
  refine call_enum1 pl.isList fun g a1 a2 a3 k => ?_
  refine wpAny_pyIter_enum a1 ⟨s2.heap.objs.size + 1, [s2.heap.objs.size + 1, s2.heap.objs.size], _, _, H2, rfl, I2.kept (t' := s2.toks) k, turn_enum1 _ _ l (Nat.succ_ne_self _), ⟨⟨_, a1⟩, a2⟩, fun b hb => ?_, q⟩
  simp only [List.mem_cons, List.not_mem_nil, or_false] at hb
  rcases hb with rfl | rfl
  · exact I2.fpOk (Nat.le_succ _) (I2.hok.fresh (Nat.le_succ _))
  · exact I2.fpOk (Nat.le_refl _) (I2.hok.fresh (Nat.le_refl _))
end
theorem for_enum1 {K : PySem.W.Frag} {l : Addr} {xs : List V} {g : TG} {tb : TS} {D : Ends} {σ : St} {H : Hp} (Pv : Nat → St → Hp → Prop) (h0 : Pv 0 σ H) (hl : ∀ i σ H, Pv i σ H → SqL K H l xs)
    (hs : ∀ i x σ H p, xs[i]? = some x → Pv i σ H → H p = none → g (.ref p) σ (upd H p (.tup [.int ((i + 1 : Nat) : Int), x])) fun σ2 H2 => tb { D with nx := Pv (i + 1), ct := Pv (i + 1), bk := D.nx } σ2 H2)
    (hd : ∀ σ H, Pv xs.length σ H → D.nx σ H) :
    ∃ W : Nat → Nat → St → Hp → Prop, (∃ m, W 0 m σ H) ∧ ∀ i m σ H, W i m σ H →
      ((Ite1 K l).stop i H ∧ D.nx σ H) ∨ ((Ite1 K l).go i H ∧ ∃ N : St → Hp → Prop, (∀ σ' H', N σ' H' → ∃ m', m' < m ∧ W (i + 1) m' σ' H') ∧ ∀ x H', (Ite1 K l).yld i H x H' → g x σ H' fun σ2 H2 => tb { D with nx := N, ct := N, bk := D.nx } σ2 H2) := by
  refine ⟨fun i m σ H => m = xs.length - i ∧ i ≤ xs.length ∧ Pv i σ H, ⟨_, rfl, Nat.zero_le _, h0⟩, ?_⟩
  rintro i m σ H ⟨rfl, hi, p⟩
  have q := hl i σ H p
  by_cases lt : i < xs.length
  · refine .inr ⟨⟨xs, xs[i], q, by simp [lt]⟩, Pv (i + 1), fun σ' H' p' => ⟨_, by omega, rfl, lt, p'⟩, fun v H' y => ?_⟩
    obtain ⟨a, x, hn, rfl, rfl, e1⟩ := y
    exact hs i x σ H a (e1 xs q) p hn
  · obtain rfl : i = xs.length := by omega
    exact .inl ⟨⟨xs, q, Nat.le_refl _⟩, hd σ H p⟩
section
variable {X : Cx}
end
section
variable {X : Cx}
theorem keys_vals {P : Program} {w : World} : ∀ {kvs : List (Key × V)} {qs : List (Key × Value)} {vs : List Value}, KV kvs qs → vs.length = qs.length → (∀ (j : Nat) (v : Value), vs[j]? = some v → ∃ k x, qs[j]? = some (k, x) ∧ (mixKind P w).is k v = true) → Vals (kvs.map fun p => kV p.1) vs
  | _, _, [], .nil, _, _ => .nil
  | _, _, v :: vs, .nil, h, _ => by simp at h
  | _, _, [], .cons _ _, h, _ => by simp at h
  | _, _, v :: vs, .cons hx r, h, k => by
    obtain ⟨k0, x0, e, i0⟩ := k 0 v rfl
    simp only [List.getElem?_cons_zero, Option.some.injEq] at e
    subst e
    refine .cons ?_ (keys_vals r (by simpa using h) fun j u hj => by
      obtain ⟨k1, x1, e1, i1⟩ := k (j + 1) u (by simpa using hj)
      exact ⟨k1, x1, by simpa using e1, i1⟩)
    show RelV (kV _) v
    rw [hx.1]
    exact is_kV i0
theorem call_listD (hc : X.calm = true) : CallR X (.type "list") (fun xs H Q => ∃ (p : Addr) (kvs : List (Key × V)), xs = [.ref p] ∧ H p = some (.dK kvs) ∧ ∀ l, H l = none → Q (.ref l) (upd H l (.lst (kvs.map fun q => kV q.1)))) := by
  intro pins s σ H xs us Q I r h
  obtain ⟨p, kvs, rfl, hq, q⟩ := h
  obtain ⟨u, rfl, rx⟩ := vals1 r
  cases rx
  obtain ⟨z, hd, vs, rel, dd⟩ := dk_of I.hok hq
  obtain ⟨ep, da⟩ := dd.dictAt
  have kl := rel.length
  refine PySem.W.kdl_call (PySem.W.kdl_dict (knd := mixKind X.prog X.w) hd) (I.ok.hd hc) da (by omega) fun h' tk acc c old hl hI => ?_
  have hv : Vals (kvs.map fun q => kV q.1) acc.toList := keys_vals (P := X.prog) (w := X.w) rel (by rw [Array.length_toList]; exact hI.1) fun j v hj => hI.2 j v (by simpa using hj)
  have J := I.laid (t' := tk) (h' := h') (a := s.heap.objs.size) (o := .lst (kvs.map fun q => kV q.1)) old (Nat.le_refl _) ⟨by rw [List.length_map]; omega, acc.toList, c, hv, by simpa using hl⟩
  exact ⟨.ref s.heap.objs.size, _, J, rfl, q _ (I.hok.fresh (Nat.le_refl _))⟩
end
end L2
namespace L2
open PySem PySem.Spec PyProof.Rows PySem.W
theorem strs_vals : ∀ {ys : List Str} {its : List Value}, Vals (ys.map V.str) its → ∃ l : List (Str × Tok), its = strValues l ∧ l.map (·.1) = ys
  | [], _, h => by cases h; exact ⟨[], rfl, rfl⟩
  | y :: ys, _, h => by
    cases h with
    | cons r h =>
      obtain ⟨t, rfl⟩ := r
      obtain ⟨l, rfl, e⟩ := strs_vals h
      exact ⟨(y, t) :: l, rfl, by rw [List.map_cons, e]⟩
section
variable {X : Cx}
theorem mt_join : MtR X "str.join" (fun v xs H Q => ∃ (z : Str) (p : Addr) (ws : List Str), v = .str z ∧ xs = [.ref p] ∧ SqL X.K H p (ws.map V.str) ∧ JoinOk z ws = true ∧ Q (.str (Str.join z ws)) H) := by
  intro pins s σ H x xs v us Q I rx r h
  obtain ⟨z, p, ws, rfl, rfl, hp, hj, q⟩ := h
  obtain ⟨t, rfl⟩ := rx
  obtain ⟨u, rfl, ru⟩ := vals1 r
  cases ru
  obtain ⟨its, rv, pl, z1⟩ := I.list hp
  obtain ⟨l, rfl, e⟩ := strs_vals rv
  exact PySem.SC.join pl.isList e hj fun t' k => ⟨.str _, H, I.tok k, ⟨t', rfl⟩, by rw [show Txt.join z ws = Str.join z ws from StrLaws.glued_eq_join z ws]; exact q⟩
theorem join_ok_of {z : Str} {ws : List Str} {m : Nat} (h : ∀ w ∈ ws, w.length + z.length ≤ m) (hm : m * ws.length ≤ 1000000) : JoinOk z ws = true := by
  have key : ∀ (ws : List Str) (acc : Nat), (∀ w ∈ ws, w.length + z.length ≤ m) → ws.foldl (fun a w => a + w.length + z.length) acc ≤ acc + m * ws.length := by
    intro ws
    induction ws with
    | nil => intro acc _; simp
    | cons w r ih =>
      intro acc h
      have := ih (acc + w.length + z.length) fun u hu => h u (by simp [hu])
      have h1 := h w (by simp)
      rw [List.foldl_cons, List.length_cons, Nat.mul_succ]
      omega
  unfold JoinOk
  rw [List.foldl_toArray, Bool.not_eq_true']
  have := key ws 0 h
  unfold Builtin.Str.tooLong
  refine decide_eq_false ?_
  have hs : (1000000 : Nat) ≤ sizeLine := by decide
  omega
end
end L2
namespace L2
open PySem PySem.Spec PyProof.Rows PySem.W
section
variable {X : Cx} {pins : List (Addr × Obj)} {σ : St} {H : Hp} {s : Shared}
end
section
variable {X : Cx} {k : Nat} {f C : Addr} {fd : FuncData} {ps : List Str} {sp : Sp} {x : Str} {p pos cpos : Pos} {e : Expr} {es : List Expr} {t : TA}
end
section
variable {X : Cx}
end
section
variable {X : Cx}
theorem op_notin_dk : OpR X (compareOp .NotIn) (fun x y H Q => ∃ a kvs k, y = .ref a ∧ H a = some (.dK kvs) ∧ x = kV k ∧ Q (.bl (!(valV kvs k).isSome)) H) := by
  intro pins s σ H x y v u Q I rx ry h
  obtain ⟨a, kvs, k, rfl, hd, rfl, q⟩ := h
  cases ry
  obtain ⟨_, ne, vs, rel, dd⟩ := dk_of I.hok hd
  refine wpAny_notIn_of (kV_is rx) ne dd.mapOf ⟨.bl _, H, I.tok _, ?_, q⟩
  rw [← (rel.val k).isSome_eq]
  rfl
end
end L2
namespace L2
open PySem PySem.Spec PyProof.Rows PySem.W
section
variable {X : Cx} {e : Expr} {te : TE} {pos : Pos}
end
end L2
namespace L2
open PySem PySem.Spec PyProof.Rows PySem.W
section
variable {X : Cx} {K : PySem.W.Frag} {o e : Expr} {es : List Expr} {to : TE} {t : TA} {name : Str} {apos cpos : Pos} {T id : String} {r : V → List V → Hp → VK → Prop}
end
end L2
set_option Elab.async false
set_option maxRecDepth 100000
set_option maxHeartbeats 4000000
namespace K06
open PySem L2 Tr
seal PE PT PW PA PS PSs PG PGs PI PTs PO OpR UnR CallR TruR IxR SlR
local macro_rules | `(tactic| walk_at "rds") => `(tactic| first | assumption | decide | omega)
local macro_rules | `(tactic| walk_at "rd") => `(tactic| repeat (first | refine ⟨_, rfl, ?_⟩ | refine ⟨_, _, rfl, rfl, ?_⟩ | refine ⟨rfl, _, rfl, ?_⟩ | refine ⟨_, _, rfl, rfl, by walk_at "rds", ?_⟩ | refine And.intro (by walk_at "rds") ?_))
local macro_rules | `(tactic| walk_at "yes") => `(tactic| refine ifYes (by decide +kernel) ?_)
local macro_rules | `(tactic| walk_at "no") => `(tactic| refine ifNo (by decide +kernel) ?_)
abbrev s_is_name : Stmt := top 14
abbrev s_number_in : Stmt := top 15
abbrev s_value_in : Stmt := top 16
abbrev s_is_made_of : Stmt := top 17
abbrev s_row_of : Stmt := top 23
abbrev s_words_of : Stmt := top 24
abbrev s_form_of : Stmt := top 25
abbrev s_filled : Stmt := top 26
abbrev s_thing_in : Stmt := top 27
abbrev s_number_within : Stmt := top 28
abbrev s_Block___init__ : Stmt := inClass (top 34) 0
abbrev s_Block_lay : Stmt := inClass (top 34) 1
abbrev s_Block_turn : Stmt := inClass (top 34) 2
abbrev s_Block_may_turn : Stmt := inClass (top 34) 3
abbrev s_Block_whole : Stmt := inClass (top 34) 4
abbrev s_Reading___init__ : Stmt := inClass (top 35) 0
abbrev s_Reading_enter : Stmt := inClass (top 35) 1
abbrev s_Reading_follow : Stmt := inClass (top 35) 2
abbrev s_Reading_lay_down : Stmt := inClass (top 35) 3
abbrev s_Reading_may_turn_innermost : Stmt := inClass (top 35) 4
abbrev s_Reading_is_hiding : Stmt := inClass (top 35) 5
abbrev s_read : Stmt := top 36
abbrev s_check : Stmt := top 37
abbrev s_check_nest : Stmt := top 38
abbrev s_check_twice : Stmt := top 39
abbrev s_check_move : Stmt := top 40
abbrev s__law_cell_at : Stmt := top 42
abbrev s__law_mixed : Stmt := top 43
abbrev s__law_keywords : Stmt := top 44
abbrev s__law_letters : Stmt := top 45
abbrev s__law_name_by : Stmt := top 46
abbrev s__law_value_by : Stmt := top 47
abbrev s__law_from : Stmt := top 48
abbrev s__law_spaced : Stmt := top 49
abbrev s__law_same : Stmt := top 50
abbrev s__law_here : Stmt := top 51
abbrev s__law_ended : Stmt := top 52
abbrev s__law_set_by : Stmt := top 53
abbrev s__law_single_by : Stmt := top 54
abbrev s__law_step : Stmt := top 55
abbrev s__law_build : Stmt := top 56
abbrev s__law_text_by : Stmt := top 57
abbrev s_law : Stmt := top 58
theorem sc_is_name : FnScope ["word"] ["word"] (defScope s_is_name) := ⟨rfl, rfl, rfl, by decide +kernel, rfl, by decide +kernel, by decide +kernel⟩
theorem sc_number_in : FnScope ["word"] ["word"] (defScope s_number_in) := ⟨rfl, rfl, rfl, by decide +kernel, rfl, by decide +kernel, by decide +kernel⟩
theorem sc_value_in : FnScope ["word"] ["word"] (defScope s_value_in) := ⟨rfl, rfl, rfl, by decide +kernel, rfl, by decide +kernel, by decide +kernel⟩
theorem sc_is_made_of : FnScope ["word", "signs"] ["word", "signs"] (defScope s_is_made_of) := ⟨rfl, rfl, rfl, by decide +kernel, rfl, by decide +kernel, by decide +kernel⟩
theorem sc_row_of : FnScope ["row", "place", "words", "form"] ["row", "place"] (defScope s_row_of) := ⟨rfl, rfl, rfl, by decide +kernel, rfl, by decide +kernel, by decide +kernel⟩
theorem sc_words_of : FnScope ["row"] ["row"] (defScope s_words_of) := ⟨rfl, rfl, rfl, by decide +kernel, rfl, by decide +kernel, by decide +kernel⟩
theorem sc_form_of : FnScope ["words", "head", "right"] ["words"] (defScope s_form_of) := ⟨rfl, rfl, rfl, by decide +kernel, rfl, by decide +kernel, by decide +kernel⟩
theorem sc_filled : FnScope ["head", "words", "kinds", "things"] ["head", "words", "kinds"] (defScope s_filled) := ⟨rfl, rfl, rfl, by decide +kernel, rfl, by decide +kernel, by decide +kernel⟩
theorem sc_thing_in : FnScope ["word", "kind"] ["word", "kind"] (defScope s_thing_in) := ⟨rfl, rfl, rfl, by decide +kernel, rfl, by decide +kernel, by decide +kernel⟩
theorem sc_number_within : FnScope ["word", "least", "most", "number"] ["word", "least", "most"] (defScope s_number_within) := ⟨rfl, rfl, rfl, by decide +kernel, rfl, by decide +kernel, by decide +kernel⟩
theorem sc_Block___init__ : FnScope ["self", "form"] ["self", "form"] (defScope s_Block___init__) := ⟨rfl, rfl, rfl, by decide +kernel, rfl, by decide +kernel, by decide +kernel⟩
theorem sc_Block_lay : FnScope ["self", "deed"] ["self", "deed"] (defScope s_Block_lay) := ⟨rfl, rfl, rfl, by decide +kernel, rfl, by decide +kernel, by decide +kernel⟩
theorem sc_Block_turn : FnScope ["self"] ["self"] (defScope s_Block_turn) := ⟨rfl, rfl, rfl, by decide +kernel, rfl, by decide +kernel, by decide +kernel⟩
theorem sc_Block_may_turn : FnScope ["self"] ["self"] (defScope s_Block_may_turn) := ⟨rfl, rfl, rfl, by decide +kernel, rfl, by decide +kernel, by decide +kernel⟩
theorem sc_Block_whole : FnScope ["self"] ["self"] (defScope s_Block_whole) := ⟨rfl, rfl, rfl, by decide +kernel, rfl, by decide +kernel, by decide +kernel⟩
theorem sc_Reading___init__ : FnScope ["self"] ["self"] (defScope s_Reading___init__) := ⟨rfl, rfl, rfl, by decide +kernel, rfl, by decide +kernel, by decide +kernel⟩
theorem sc_Reading_enter : FnScope ["self", "form"] ["self", "form"] (defScope s_Reading_enter) := ⟨rfl, rfl, rfl, by decide +kernel, rfl, by decide +kernel, by decide +kernel⟩
theorem sc_Reading_follow : FnScope ["self", "form", "block"] ["self", "form"] (defScope s_Reading_follow) := ⟨rfl, rfl, rfl, by decide +kernel, rfl, by decide +kernel, by decide +kernel⟩
theorem sc_Reading_lay_down : FnScope ["self", "deed"] ["self", "deed"] (defScope s_Reading_lay_down) := ⟨rfl, rfl, rfl, by decide +kernel, rfl, by decide +kernel, by decide +kernel⟩
theorem sc_Reading_may_turn_innermost : FnScope ["self"] ["self"] (defScope s_Reading_may_turn_innermost) := ⟨rfl, rfl, rfl, by decide +kernel, rfl, by decide +kernel, by decide +kernel⟩
theorem sc_Reading_is_hiding : FnScope ["self"] ["self"] (defScope s_Reading_is_hiding) := ⟨rfl, rfl, rfl, by decide +kernel, rfl, by decide +kernel, by decide +kernel⟩
theorem sc_read : FnScope ["text", "rows", "reading", "place", "row", "form"] ["text"] (defScope s_read) := ⟨rfl, rfl, rfl, by decide +kernel, rfl, by decide +kernel, by decide +kernel⟩
theorem sc_check : FnScope ["reading", "form", "place"] ["reading", "form", "place"] (defScope s_check) := ⟨rfl, rfl, rfl, by decide +kernel, rfl, by decide +kernel, by decide +kernel⟩
theorem sc_check_nest : FnScope ["reading", "head", "place"] ["reading", "head", "place"] (defScope s_check_nest) := ⟨rfl, rfl, rfl, by decide +kernel, rfl, by decide +kernel, by decide +kernel⟩
theorem sc_check_twice : FnScope ["reading", "form", "place", "name", "told"] ["reading", "form", "place"] (defScope s_check_twice) := ⟨rfl, rfl, rfl, by decide +kernel, rfl, by decide +kernel, by decide +kernel⟩
theorem sc_check_move : FnScope ["reading", "store", "place"] ["reading", "store", "place"] (defScope s_check_move) := ⟨rfl, rfl, rfl, by decide +kernel, rfl, by decide +kernel, by decide +kernel⟩
theorem sc__law_cell_at : FnScope ["_law_script", "_law_k"] ["_law_script", "_law_k"] (defScope s__law_cell_at) := ⟨rfl, rfl, rfl, by decide +kernel, rfl, by decide +kernel, by decide +kernel⟩
theorem sc__law_mixed : FnScope ["_law_cell", "_law_k", "_law_factor"] ["_law_cell", "_law_k"] (defScope s__law_mixed) := ⟨rfl, rfl, rfl, by decide +kernel, rfl, by decide +kernel, by decide +kernel⟩
theorem sc__law_keywords : FnScope [] [] (defScope s__law_keywords) := ⟨rfl, rfl, rfl, by decide +kernel, rfl, by decide +kernel, by decide +kernel⟩
theorem sc__law_letters : FnScope ["_law_n", "_law_size", "_law_word", "_law_k"] ["_law_n", "_law_size"] (defScope s__law_letters) := ⟨rfl, rfl, rfl, by decide +kernel, rfl, by decide +kernel, by decide +kernel⟩
theorem sc__law_name_by : FnScope ["_law_n", "_law_size", "_law_way", "_law_rest", "_law_word", "_law_some", "_law_at"] ["_law_n"] (defScope s__law_name_by) := ⟨rfl, rfl, rfl, by decide +kernel, rfl, by decide +kernel, by decide +kernel⟩
theorem sc__law_value_by : FnScope ["_law_n", "_law_way", "_law_some"] ["_law_n"] (defScope s__law_value_by) := ⟨rfl, rfl, rfl, by decide +kernel, rfl, by decide +kernel, by decide +kernel⟩
theorem sc__law_from : FnScope ["_law_n", "_law_least", "_law_greatest"] ["_law_n", "_law_least", "_law_greatest"] (defScope s__law_from) := ⟨rfl, rfl, rfl, by decide +kernel, rfl, by decide +kernel, by decide +kernel⟩
theorem sc__law_spaced : FnScope ["_law_words", "_law_n", "_law_row", "_law_word"] ["_law_words", "_law_n"] (defScope s__law_spaced) := ⟨rfl, rfl, rfl, by decide +kernel, rfl, by decide +kernel, by decide +kernel⟩
theorem sc__law_same : FnScope ["_law_found", "_law_due", "_law_one", "_law_two"] ["_law_found", "_law_due"] (defScope s__law_same) := ⟨rfl, rfl, rfl, by decide +kernel, rfl, by decide +kernel, by decide +kernel⟩
theorem sc__law_here : FnScope ["_law_top", "_law_fences"] ["_law_top", "_law_fences"] (defScope s__law_here) := ⟨rfl, rfl, rfl, by decide +kernel, rfl, by decide +kernel, by decide +kernel⟩
theorem sc__law_ended : FnScope ["_law_top", "_law_fences", "_law_lines", "_law_fence", "_law_deed"] ["_law_top", "_law_fences", "_law_lines"] (defScope s__law_ended) := ⟨rfl, rfl, rfl, by decide +kernel, rfl, by decide +kernel, by decide +kernel⟩
theorem sc__law_set_by : FnScope ["_law_cell", "_law_x", "_law_n", "_law_left", "_law_right", "_law_sign"] ["_law_cell", "_law_x"] (defScope s__law_set_by) := ⟨rfl, rfl, rfl, by decide +kernel, rfl, by decide +kernel, by decide +kernel⟩
theorem sc__law_single_by : FnScope ["_law_way", "_law_cell", "_law_stores", "_law_fences", "_law_n", "_law_x", "_law_free", "_law_fence"] ["_law_way", "_law_cell", "_law_stores", "_law_fences"] (defScope s__law_single_by) := ⟨rfl, rfl, rfl, by decide +kernel, rfl, by decide +kernel, by decide +kernel⟩
theorem sc__law_step : FnScope ["_law_cell", "_law_deep", "_law_stores", "_law_top", "_law_fences", "_law_lines", "_law_n", "_law_way", "_law_it", "_law_deed", "_law_words"] ["_law_cell", "_law_deep", "_law_stores", "_law_top", "_law_fences", "_law_lines"] (defScope s__law_step) := ⟨rfl, rfl, rfl, by decide +kernel, rfl, by decide +kernel, by decide +kernel⟩
theorem sc__law_build : FnScope ["_law_script", "_law_asks", "_law_stores", "_law_lines", "_law_top", "_law_fences", "_law_n", "_law_many", "_law_k", "_law_cell", "_law_x"] ["_law_script"] (defScope s__law_build) := ⟨rfl, rfl, rfl, by decide +kernel, rfl, by decide +kernel, by decide +kernel⟩
theorem sc__law_text_by : FnScope ["_law_lines", "_law_script", "_law_rows", "_law_k", "_law_n", "_law_words", "_law_j"] ["_law_lines", "_law_script"] (defScope s__law_text_by) := ⟨rfl, rfl, rfl, by decide +kernel, rfl, by decide +kernel, by decide +kernel⟩
theorem sc_law : FnScope ["_law_script", "_law_made", "_law_found"] ["_law_script"] (defScope s_law) := ⟨rfl, rfl, rfl, by decide +kernel, rfl, by decide +kernel, by decide +kernel⟩
structure Adr where
  is_name : Addr
  fd_is_name : FuncData
  number_in : Addr
  fd_number_in : FuncData
  value_in : Addr
  fd_value_in : FuncData
  is_made_of : Addr
  fd_is_made_of : FuncData
  row_of : Addr
  fd_row_of : FuncData
  words_of : Addr
  fd_words_of : FuncData
  form_of : Addr
  fd_form_of : FuncData
  filled : Addr
  fd_filled : FuncData
  thing_in : Addr
  fd_thing_in : FuncData
  number_within : Addr
  fd_number_within : FuncData
  Block___init__ : Addr
  fd_Block___init__ : FuncData
  Block_lay : Addr
  fd_Block_lay : FuncData
  Block_turn : Addr
  fd_Block_turn : FuncData
  Block_may_turn : Addr
  fd_Block_may_turn : FuncData
  Block_whole : Addr
  fd_Block_whole : FuncData
  Reading___init__ : Addr
  fd_Reading___init__ : FuncData
  Reading_enter : Addr
  fd_Reading_enter : FuncData
  Reading_follow : Addr
  fd_Reading_follow : FuncData
  Reading_lay_down : Addr
  fd_Reading_lay_down : FuncData
  Reading_may_turn_innermost : Addr
  fd_Reading_may_turn_innermost : FuncData
  Reading_is_hiding : Addr
  fd_Reading_is_hiding : FuncData
  read : Addr
  fd_read : FuncData
  check : Addr
  fd_check : FuncData
  check_nest : Addr
  fd_check_nest : FuncData
  check_twice : Addr
  fd_check_twice : FuncData
  check_move : Addr
  fd_check_move : FuncData
  _law_cell_at : Addr
  fd__law_cell_at : FuncData
  _law_mixed : Addr
  fd__law_mixed : FuncData
  _law_keywords : Addr
  fd__law_keywords : FuncData
  _law_letters : Addr
  fd__law_letters : FuncData
  _law_name_by : Addr
  fd__law_name_by : FuncData
  _law_value_by : Addr
  fd__law_value_by : FuncData
  _law_from : Addr
  fd__law_from : FuncData
  _law_spaced : Addr
  fd__law_spaced : FuncData
  _law_same : Addr
  fd__law_same : FuncData
  _law_here : Addr
  fd__law_here : FuncData
  _law_ended : Addr
  fd__law_ended : FuncData
  _law_set_by : Addr
  fd__law_set_by : FuncData
  _law_single_by : Addr
  fd__law_single_by : FuncData
  _law_step : Addr
  fd__law_step : FuncData
  _law_build : Addr
  fd__law_build : FuncData
  _law_text_by : Addr
  fd__law_text_by : FuncData
  law : Addr
  fd_law : FuncData
  KEYWORDS : Addr
  SIGNS : Addr
  tk_LETTERS : Tok
  tk_FIGURES : Tok
  tk_MOST_LETTERS : Tok
  tk_MOST_FIGURES : Tok
  FORMS : Addr
  FORMS_0 : Addr
  FORMS_1 : Addr
  FORMS_2 : Addr
  FORMS_3 : Addr
  FORMS_4 : Addr
  FORMS_5 : Addr
  FORMS_6 : Addr
  FORMS_7 : Addr
  FORMS_8 : Addr
  FORMS_9 : Addr
  SET_FORM : Addr
  tk_MOST_LENGTH : Tok
  tk_MOST_ROUNDS : Tok
  HEADS : Addr
  OPENERS : Addr
  MOVES : Addr
  tk_MOST_BLOCKS : Tok
  C_Block : Addr
  C_Reading : Addr
structure Tx (P : Program) (w : World) (K : PySem.W.Frag) (mg : Str → Option Value) (a : Adr) : Prop where
  F_is_name : Fun K "is_name" "is_name" s_is_name a.is_name a.fd_is_name
  b_is_name : Binds K a.fd_is_name ["word"] []
  m_is_name : mg "is_name" = some (.ref a.is_name)
  F_number_in : Fun K "number_in" "number_in" s_number_in a.number_in a.fd_number_in
  b_number_in : Binds K a.fd_number_in ["word"] []
  m_number_in : mg "number_in" = some (.ref a.number_in)
  F_value_in : Fun K "value_in" "value_in" s_value_in a.value_in a.fd_value_in
  b_value_in : Binds K a.fd_value_in ["word"] []
  m_value_in : mg "value_in" = some (.ref a.value_in)
  F_is_made_of : Fun K "is_made_of" "is_made_of" s_is_made_of a.is_made_of a.fd_is_made_of
  b_is_made_of : Binds K a.fd_is_made_of ["word", "signs"] []
  m_is_made_of : mg "is_made_of" = some (.ref a.is_made_of)
  F_row_of : Fun K "row_of" "row_of" s_row_of a.row_of a.fd_row_of
  b_row_of : Binds K a.fd_row_of ["row", "place"] []
  m_row_of : mg "row_of" = some (.ref a.row_of)
  F_words_of : Fun K "words_of" "words_of" s_words_of a.words_of a.fd_words_of
  b_words_of : Binds K a.fd_words_of ["row"] []
  m_words_of : mg "words_of" = some (.ref a.words_of)
  F_form_of : Fun K "form_of" "form_of" s_form_of a.form_of a.fd_form_of
  b_form_of : Binds K a.fd_form_of ["words"] []
  m_form_of : mg "form_of" = some (.ref a.form_of)
  F_filled : Fun K "filled" "filled" s_filled a.filled a.fd_filled
  b_filled : Binds K a.fd_filled ["head", "words", "kinds"] []
  m_filled : mg "filled" = some (.ref a.filled)
  F_thing_in : Fun K "thing_in" "thing_in" s_thing_in a.thing_in a.fd_thing_in
  b_thing_in : Binds K a.fd_thing_in ["word", "kind"] []
  m_thing_in : mg "thing_in" = some (.ref a.thing_in)
  F_number_within : Fun K "number_within" "number_within" s_number_within a.number_within a.fd_number_within
  b_number_within : Binds K a.fd_number_within ["word", "least", "most"] []
  m_number_within : mg "number_within" = some (.ref a.number_within)
  F_Block___init__ : Fun K "__init__" "Block.__init__" s_Block___init__ a.Block___init__ a.fd_Block___init__
  b_Block___init__ : Binds K a.fd_Block___init__ ["self", "form"] []
  F_Block_lay : Fun K "lay" "Block.lay" s_Block_lay a.Block_lay a.fd_Block_lay
  b_Block_lay : Binds K a.fd_Block_lay ["self", "deed"] []
  F_Block_turn : Fun K "turn" "Block.turn" s_Block_turn a.Block_turn a.fd_Block_turn
  b_Block_turn : Binds K a.fd_Block_turn ["self"] []
  F_Block_may_turn : Fun K "may_turn" "Block.may_turn" s_Block_may_turn a.Block_may_turn a.fd_Block_may_turn
  b_Block_may_turn : Binds K a.fd_Block_may_turn ["self"] []
  F_Block_whole : Fun K "whole" "Block.whole" s_Block_whole a.Block_whole a.fd_Block_whole
  b_Block_whole : Binds K a.fd_Block_whole ["self"] []
  F_Reading___init__ : Fun K "__init__" "Reading.__init__" s_Reading___init__ a.Reading___init__ a.fd_Reading___init__
  b_Reading___init__ : Binds K a.fd_Reading___init__ ["self"] []
  F_Reading_enter : Fun K "enter" "Reading.enter" s_Reading_enter a.Reading_enter a.fd_Reading_enter
  b_Reading_enter : Binds K a.fd_Reading_enter ["self", "form"] []
  F_Reading_follow : Fun K "follow" "Reading.follow" s_Reading_follow a.Reading_follow a.fd_Reading_follow
  b_Reading_follow : Binds K a.fd_Reading_follow ["self", "form"] []
  F_Reading_lay_down : Fun K "lay_down" "Reading.lay_down" s_Reading_lay_down a.Reading_lay_down a.fd_Reading_lay_down
  b_Reading_lay_down : Binds K a.fd_Reading_lay_down ["self", "deed"] []
  F_Reading_may_turn_innermost : Fun K "may_turn_innermost" "Reading.may_turn_innermost" s_Reading_may_turn_innermost a.Reading_may_turn_innermost a.fd_Reading_may_turn_innermost
  b_Reading_may_turn_innermost : Binds K a.fd_Reading_may_turn_innermost ["self"] []
  F_Reading_is_hiding : Fun K "is_hiding" "Reading.is_hiding" s_Reading_is_hiding a.Reading_is_hiding a.fd_Reading_is_hiding
  b_Reading_is_hiding : Binds K a.fd_Reading_is_hiding ["self"] []
  F_read : Fun K "read" "read" s_read a.read a.fd_read
  b_read : Binds K a.fd_read ["text"] []
  m_read : mg "read" = some (.ref a.read)
  F_check : Fun K "check" "check" s_check a.check a.fd_check
  b_check : Binds K a.fd_check ["reading", "form", "place"] []
  m_check : mg "check" = some (.ref a.check)
  F_check_nest : Fun K "check_nest" "check_nest" s_check_nest a.check_nest a.fd_check_nest
  b_check_nest : Binds K a.fd_check_nest ["reading", "head", "place"] []
  m_check_nest : mg "check_nest" = some (.ref a.check_nest)
  F_check_twice : Fun K "check_twice" "check_twice" s_check_twice a.check_twice a.fd_check_twice
  b_check_twice : Binds K a.fd_check_twice ["reading", "form", "place"] []
  m_check_twice : mg "check_twice" = some (.ref a.check_twice)
  F_check_move : Fun K "check_move" "check_move" s_check_move a.check_move a.fd_check_move
  b_check_move : Binds K a.fd_check_move ["reading", "store", "place"] []
  m_check_move : mg "check_move" = some (.ref a.check_move)
  F__law_cell_at : Fun K "_law_cell_at" "_law_cell_at" s__law_cell_at a._law_cell_at a.fd__law_cell_at
  b__law_cell_at : Binds K a.fd__law_cell_at ["_law_script", "_law_k"] []
  m__law_cell_at : mg "_law_cell_at" = some (.ref a._law_cell_at)
  F__law_mixed : Fun K "_law_mixed" "_law_mixed" s__law_mixed a._law_mixed a.fd__law_mixed
  b__law_mixed : Binds K a.fd__law_mixed ["_law_cell", "_law_k"] []
  m__law_mixed : mg "_law_mixed" = some (.ref a._law_mixed)
  F__law_keywords : Fun K "_law_keywords" "_law_keywords" s__law_keywords a._law_keywords a.fd__law_keywords
  b__law_keywords : Binds K a.fd__law_keywords [] []
  m__law_keywords : mg "_law_keywords" = some (.ref a._law_keywords)
  F__law_letters : Fun K "_law_letters" "_law_letters" s__law_letters a._law_letters a.fd__law_letters
  b__law_letters : Binds K a.fd__law_letters ["_law_n", "_law_size"] []
  m__law_letters : mg "_law_letters" = some (.ref a._law_letters)
  F__law_name_by : Fun K "_law_name_by" "_law_name_by" s__law_name_by a._law_name_by a.fd__law_name_by
  b__law_name_by : Binds K a.fd__law_name_by ["_law_n"] []
  m__law_name_by : mg "_law_name_by" = some (.ref a._law_name_by)
  F__law_value_by : Fun K "_law_value_by" "_law_value_by" s__law_value_by a._law_value_by a.fd__law_value_by
  b__law_value_by : Binds K a.fd__law_value_by ["_law_n"] []
  m__law_value_by : mg "_law_value_by" = some (.ref a._law_value_by)
  F__law_from : Fun K "_law_from" "_law_from" s__law_from a._law_from a.fd__law_from
  b__law_from : Binds K a.fd__law_from ["_law_n", "_law_least", "_law_greatest"] []
  m__law_from : mg "_law_from" = some (.ref a._law_from)
  F__law_spaced : Fun K "_law_spaced" "_law_spaced" s__law_spaced a._law_spaced a.fd__law_spaced
  b__law_spaced : Binds K a.fd__law_spaced ["_law_words", "_law_n"] []
  m__law_spaced : mg "_law_spaced" = some (.ref a._law_spaced)
  F__law_same : Fun K "_law_same" "_law_same" s__law_same a._law_same a.fd__law_same
  b__law_same : Binds K a.fd__law_same ["_law_found", "_law_due"] []
  m__law_same : mg "_law_same" = some (.ref a._law_same)
  F__law_here : Fun K "_law_here" "_law_here" s__law_here a._law_here a.fd__law_here
  b__law_here : Binds K a.fd__law_here ["_law_top", "_law_fences"] []
  m__law_here : mg "_law_here" = some (.ref a._law_here)
  F__law_ended : Fun K "_law_ended" "_law_ended" s__law_ended a._law_ended a.fd__law_ended
  b__law_ended : Binds K a.fd__law_ended ["_law_top", "_law_fences", "_law_lines"] []
  m__law_ended : mg "_law_ended" = some (.ref a._law_ended)
  F__law_set_by : Fun K "_law_set_by" "_law_set_by" s__law_set_by a._law_set_by a.fd__law_set_by
  b__law_set_by : Binds K a.fd__law_set_by ["_law_cell", "_law_x"] []
  m__law_set_by : mg "_law_set_by" = some (.ref a._law_set_by)
  F__law_single_by : Fun K "_law_single_by" "_law_single_by" s__law_single_by a._law_single_by a.fd__law_single_by
  b__law_single_by : Binds K a.fd__law_single_by ["_law_way", "_law_cell", "_law_stores", "_law_fences"] []
  m__law_single_by : mg "_law_single_by" = some (.ref a._law_single_by)
  F__law_step : Fun K "_law_step" "_law_step" s__law_step a._law_step a.fd__law_step
  b__law_step : Binds K a.fd__law_step ["_law_cell", "_law_deep", "_law_stores", "_law_top", "_law_fences", "_law_lines"] []
  m__law_step : mg "_law_step" = some (.ref a._law_step)
  F__law_build : Fun K "_law_build" "_law_build" s__law_build a._law_build a.fd__law_build
  b__law_build : Binds K a.fd__law_build ["_law_script"] []
  m__law_build : mg "_law_build" = some (.ref a._law_build)
  F__law_text_by : Fun K "_law_text_by" "_law_text_by" s__law_text_by a._law_text_by a.fd__law_text_by
  b__law_text_by : Binds K a.fd__law_text_by ["_law_lines", "_law_script"] []
  m__law_text_by : mg "_law_text_by" = some (.ref a._law_text_by)
  F_law : Fun K "law" "law" s_law a.law a.fd_law
  b_law : Binds K a.fd_law ["_law_script"] []
  m_law : mg "law" = some (.ref a.law)
  z_all : mg "all" = none
  z_any : mg "any" = none
  z_bool : mg "bool" = none
  z_enumerate : mg "enumerate" = none
  z_int : mg "int" = none
  z_isinstance : mg "isinstance" = none
  z_len : mg "len" = none
  z_list : mg "list" = none
  z_max : mg "max" = none
  z_range : mg "range" = none
  z_str : mg "str" = none
  z_tuple : mg "tuple" = none
  z_zip : mg "zip" = none
  c_KEYWORDS : mg "KEYWORDS" = some (.ref a.KEYWORDS)
  t_KEYWORDS : ∀ H : Hp, SqT K H a.KEYWORDS [.str "ask", .str "store", .str "put", .str "get", .str "give", .str "if", .str "else", .str "while", .str "repeat", .str "end"]
  c_SIGNS : mg "SIGNS" = some (.ref a.SIGNS)
  t_SIGNS : ∀ H : Hp, SqT K H a.SIGNS [.str "+", .str "-", .str "*", .str "/", .str "<", .str "=", .str "&", .str "|", .str "^"]
  c_LETTERS : mg "LETTERS" = some (.str "abcdefghijklmnopqrstuvwxyz" a.tk_LETTERS)
  c_FIGURES : mg "FIGURES" = some (.str "0123456789" a.tk_FIGURES)
  c_MOST_LETTERS : mg "MOST_LETTERS" = some (.int 8 a.tk_MOST_LETTERS)
  c_MOST_FIGURES : mg "MOST_FIGURES" = some (.int 30 a.tk_MOST_FIGURES)
  c_FORMS : mg "FORMS" = some (.ref a.FORMS)
  d_FORMS : KD P w K a.FORMS [(.inr "ask", .ref a.FORMS_0), (.inr "store", .ref a.FORMS_1), (.inr "put", .ref a.FORMS_2), (.inr "get", .ref a.FORMS_3), (.inr "give", .ref a.FORMS_4), (.inr "if", .ref a.FORMS_5), (.inr "else", .ref a.FORMS_6), (.inr "while", .ref a.FORMS_7), (.inr "repeat", .ref a.FORMS_8), (.inr "end", .ref a.FORMS_9)]
  t_FORMS_0 : ∀ H : Hp, SqT K H a.FORMS_0 [.str "name"]
  t_FORMS_1 : ∀ H : Hp, SqT K H a.FORMS_1 [.str "name", .str "length"]
  t_FORMS_2 : ∀ H : Hp, SqT K H a.FORMS_2 [.str "name", .str "name"]
  t_FORMS_3 : ∀ H : Hp, SqT K H a.FORMS_3 [.str "name", .str "name"]
  t_FORMS_4 : ∀ H : Hp, SqT K H a.FORMS_4 [.str "name"]
  t_FORMS_5 : ∀ H : Hp, SqT K H a.FORMS_5 [.str "name"]
  t_FORMS_6 : ∀ H : Hp, SqT K H a.FORMS_6 []
  t_FORMS_7 : ∀ H : Hp, SqT K H a.FORMS_7 [.str "name"]
  t_FORMS_8 : ∀ H : Hp, SqT K H a.FORMS_8 [.str "rounds"]
  t_FORMS_9 : ∀ H : Hp, SqT K H a.FORMS_9 []
  c_SET_FORM : mg "SET_FORM" = some (.ref a.SET_FORM)
  t_SET_FORM : ∀ H : Hp, SqT K H a.SET_FORM [.str "name", .str "value", .str "sign", .str "value"]
  c_MOST_LENGTH : mg "MOST_LENGTH" = some (.int 2000 a.tk_MOST_LENGTH)
  c_MOST_ROUNDS : mg "MOST_ROUNDS" = some (.int 99 a.tk_MOST_ROUNDS)
  c_HEADS : mg "HEADS" = some (.ref a.HEADS)
  t_HEADS : ∀ H : Hp, SqT K H a.HEADS [.str "ask", .str "store"]
  c_OPENERS : mg "OPENERS" = some (.ref a.OPENERS)
  t_OPENERS : ∀ H : Hp, SqT K H a.OPENERS [.str "if", .str "while", .str "repeat"]
  c_MOVES : mg "MOVES" = some (.ref a.MOVES)
  t_MOVES : ∀ H : Hp, SqT K H a.MOVES [.str "put", .str "get"]
  c_MOST_BLOCKS : mg "MOST_BLOCKS" = some (.int 12 a.tk_MOST_BLOCKS)
  m_Block : mg "Block" = some (.ref a.C_Block)
  cl_Block : Cls K a.C_Block
  k_Block : Mk K a.C_Block a.Block___init__
  mt_Block_lay : Meth K a.C_Block "lay" a.Block_lay
  mt_Block_turn : Meth K a.C_Block "turn" a.Block_turn
  mt_Block_may_turn : Meth K a.C_Block "may_turn" a.Block_may_turn
  mt_Block_whole : Meth K a.C_Block "whole" a.Block_whole
  nf_Block_form : NoAttr K a.C_Block "form"
  nf_Block_deeds : NoAttr K a.C_Block "deeds"
  nf_Block_others : NoAttr K a.C_Block "others"
  nf_Block_turned : NoAttr K a.C_Block "turned"
  m_Reading : mg "Reading" = some (.ref a.C_Reading)
  cl_Reading : Cls K a.C_Reading
  k_Reading : Mk K a.C_Reading a.Reading___init__
  mt_Reading_enter : Meth K a.C_Reading "enter" a.Reading_enter
  mt_Reading_follow : Meth K a.C_Reading "follow" a.Reading_follow
  mt_Reading_lay_down : Meth K a.C_Reading "lay_down" a.Reading_lay_down
  mt_Reading_may_turn_innermost : Meth K a.C_Reading "may_turn_innermost" a.Reading_may_turn_innermost
  mt_Reading_is_hiding : Meth K a.C_Reading "is_hiding" a.Reading_is_hiding
  nf_Reading_asks : NoAttr K a.C_Reading "asks"
  nf_Reading_stores : NoAttr K a.C_Reading "stores"
  nf_Reading_body : NoAttr K a.C_Reading "body"
  nf_Reading_blocks : NoAttr K a.C_Reading "blocks"
  nf_Reading_begun : NoAttr K a.C_Reading "begun"
theorem Tx.r_KEYWORDS {P : Program} {w : World} {K : PySem.W.Frag} {mg : Str → Option Value} {a : Adr} (_ : Tx P w K mg a) : RelV (.ref a.KEYWORDS) (.ref a.KEYWORDS) := rfl
theorem Tx.r_SIGNS {P : Program} {w : World} {K : PySem.W.Frag} {mg : Str → Option Value} {a : Adr} (_ : Tx P w K mg a) : RelV (.ref a.SIGNS) (.ref a.SIGNS) := rfl
theorem Tx.r_LETTERS {P : Program} {w : World} {K : PySem.W.Frag} {mg : Str → Option Value} {a : Adr} (_ : Tx P w K mg a) : RelV (.str "abcdefghijklmnopqrstuvwxyz") (.str "abcdefghijklmnopqrstuvwxyz" a.tk_LETTERS) := ⟨_, rfl⟩
theorem Tx.r_FIGURES {P : Program} {w : World} {K : PySem.W.Frag} {mg : Str → Option Value} {a : Adr} (_ : Tx P w K mg a) : RelV (.str "0123456789") (.str "0123456789" a.tk_FIGURES) := ⟨_, rfl⟩
theorem Tx.r_MOST_LETTERS {P : Program} {w : World} {K : PySem.W.Frag} {mg : Str → Option Value} {a : Adr} (_ : Tx P w K mg a) : RelV (.int 8) (.int 8 a.tk_MOST_LETTERS) := ⟨_, rfl⟩
theorem Tx.r_MOST_FIGURES {P : Program} {w : World} {K : PySem.W.Frag} {mg : Str → Option Value} {a : Adr} (_ : Tx P w K mg a) : RelV (.int 30) (.int 30 a.tk_MOST_FIGURES) := ⟨_, rfl⟩
theorem Tx.r_FORMS {P : Program} {w : World} {K : PySem.W.Frag} {mg : Str → Option Value} {a : Adr} (_ : Tx P w K mg a) : RelV (.ref a.FORMS) (.ref a.FORMS) := rfl
theorem Tx.r_SET_FORM {P : Program} {w : World} {K : PySem.W.Frag} {mg : Str → Option Value} {a : Adr} (_ : Tx P w K mg a) : RelV (.ref a.SET_FORM) (.ref a.SET_FORM) := rfl
theorem Tx.r_MOST_LENGTH {P : Program} {w : World} {K : PySem.W.Frag} {mg : Str → Option Value} {a : Adr} (_ : Tx P w K mg a) : RelV (.int 2000) (.int 2000 a.tk_MOST_LENGTH) := ⟨_, rfl⟩
theorem Tx.r_MOST_ROUNDS {P : Program} {w : World} {K : PySem.W.Frag} {mg : Str → Option Value} {a : Adr} (_ : Tx P w K mg a) : RelV (.int 99) (.int 99 a.tk_MOST_ROUNDS) := ⟨_, rfl⟩
theorem Tx.r_HEADS {P : Program} {w : World} {K : PySem.W.Frag} {mg : Str → Option Value} {a : Adr} (_ : Tx P w K mg a) : RelV (.ref a.HEADS) (.ref a.HEADS) := rfl
theorem Tx.r_OPENERS {P : Program} {w : World} {K : PySem.W.Frag} {mg : Str → Option Value} {a : Adr} (_ : Tx P w K mg a) : RelV (.ref a.OPENERS) (.ref a.OPENERS) := rfl
theorem Tx.r_MOVES {P : Program} {w : World} {K : PySem.W.Frag} {mg : Str → Option Value} {a : Adr} (_ : Tx P w K mg a) : RelV (.ref a.MOVES) (.ref a.MOVES) := rfl
theorem Tx.r_MOST_BLOCKS {P : Program} {w : World} {K : PySem.W.Frag} {mg : Str → Option Value} {a : Adr} (_ : Tx P w K mg a) : RelV (.int 12) (.int 12 a.tk_MOST_BLOCKS) := ⟨_, rfl⟩
open PySem.NumText
def letters : Str := "abcdefghijklmnopqrstuvwxyz"
def kwV : List V := [.str "ask", .str "store", .str "put", .str "get", .str "give", .str "if", .str "else", .str "while", .str "repeat", .str "end"]
def isMade (w s : Str) : Bool := w.cps.toList.all fun c => decide (c ∈ s.cps.toList)
def isName (w : Str) : Bool := if 1 ≤ (w.length : Int) then (if (w.length : Int) ≤ 8 then (!inV (.str w) kwV && isMade w letters) else false) else false
def mixed (c k : Int) : Int := c * (91343852333181432387730302044767688731 + 7919000003 * k * k) % 170141183460469231731687303715884105727
def sp__law_mixed : Sp := fun vs H Q _ => ∃ c k : Int, vs = [.int c, .int k] ∧ Builtin.Int.intBits c ≤ 2 ^ 20 + 1 ∧ 0 ≤ k ∧ k ≤ 100 ∧ Q (.int (mixed c k)) H
def figures : Str := "0123456789"
def numIn (x : Str) : Option Int := if 1 ≤ (x.length : Int) then (if (x.length : Int) ≤ 30 then (if isMade x figures = true then (if x.cps.toList.head? = some 48 ∧ ¬ x = "0" then none else some ((digitsVal x.cps.toList : Nat) : Int)) else none) else none) else none
def optV : Option Int → V
  | none => .non
  | some n => .int n
def sp_number_in : Sp := fun vs H Q _ => ∃ w : Str, vs = [.str w] ∧ w.length ≤ 100000 ∧ ∀ H', Same H H' → Q (optV (numIn w)) H'
def sp_is_made_of : Sp := fun vs H Q _ => ∃ w s : Str, vs = [.str w, .str s] ∧ w.length ≤ 100000 ∧ ∀ H', Same H H' → Q (.bl (isMade w s)) H'
def sp_is_name : Sp := fun vs H Q _ => ∃ w : Str, vs = [.str w] ∧ w.length ≤ 100000 ∧ ∀ H', Same H H' → Q (.bl (isName w)) H'
def sgV : List V := [.str "+", .str "-", .str "*", .str "/", .str "<", .str "=", .str "&", .str "|", .str "^"]
def valIn (w : Str) : V := if isName w = true then .str w else optV (numIn w)
def withinV (o : Option Int) (lo hi : Int) : V := match o with
  | none => .non
  | some n => if n < lo then .non else if hi < n then .non else .int n
def thingIn (w k : Str) : V := if k = "name" then (if isName w = true then .str w else .non) else if k = "value" then valIn w else if k = "sign" then (if inV (.str w) sgV = true then .str w else .non) else if k = "length" then withinV (numIn w) 1 2000 else withinV (numIn w) 0 99
def thingsIn : List Str → List Str → List V
  | w :: ws, k :: ks => thingIn w k :: thingsIn ws ks
  | _, _ => []
def filledV (h : Str) (ws ks : List Str) : Option (List V) := if ws.length = ks.length then (if inV .non (thingsIn ws ks) = true then none else some (.str h :: thingsIn ws ks)) else none
def kinds (h : Str) : Option (List Str) :=
  if h = "ask" then some ["name"] else if h = "store" then some ["name", "length"] else if h = "put" then some ["name", "name"] else if h = "get" then some ["name", "name"]
  else if h = "give" then some ["name"] else if h = "if" then some ["name"] else if h = "else" then some [] else if h = "while" then some ["name"] else if h = "repeat" then some ["rounds"] else if h = "end" then some [] else none
def setKinds : List Str := ["name", "value", "sign", "value"]
def setWords (h : Str) (right : List Str) : List Str := h :: (if right.length = 1 then right ++ (["+", "0"] : List Str) else right)
def formV : List Str → Option (List V)
  | [] => none
  | h :: r => match kinds h with
    | some ks => filledV h r ks
    | none => if (h :: r).length < 3 then none else if r.head? = some ("=" : Str) then filledV "set" (setWords h r.tail) setKinds else none
theorem formV_kw {h : Str} {r ks : List Str} (e : kinds h = some ks) : formV (h :: r) = filledV h r ks := by
  show (match kinds h with | some ks => filledV h r ks | none => _) = _
  rw [e]
theorem formV_set {h : Str} {r : List Str} (e : kinds h = none) : formV (h :: r) = if (h :: r).length < 3 then none else if r.head? = some ("=" : Str) then filledV "set" (setWords h r.tail) setKinds else none := by
  show (match kinds h with | some ks => filledV h r ks | none => _) = _
  rw [e]
def ToldF (H : Hp) (Q : VK) : Option (List V) → Prop
  | none => ∀ H', Same H H' → Q .non H'
  | some xs => ∀ H' p, Same H H' → H' p = some (.tup xs) → Q (.ref p) H'
def sp_value_in : Sp := fun vs H Q _ => ∃ w : Str, vs = [.str w] ∧ w.length ≤ 100000 ∧ ∀ H', Same H H' → Q (valIn w) H'
def sp_number_within : Sp := fun vs H Q _ => ∃ (w : Str) (lo hi : Int), vs = [.str w, .int lo, .int hi] ∧ w.length ≤ 100000 ∧ ∀ H', Same H H' → Q (withinV (numIn w) lo hi) H'
def sp_thing_in : Sp := fun vs H Q _ => ∃ w k : Str, vs = [.str w, .str k] ∧ w.length ≤ 100000 ∧ ∀ H', Same H H' → Q (thingIn w k) H'
def sp_filled (K : PySem.W.Frag) : Sp := fun vs H Q _ => ∃ (h : Str) (l t : Addr) (ws ks : List Str), vs = [.str h, .ref l, .ref t] ∧ SqL K H l (ws.map V.str) ∧ SqT K H t (ks.map V.str) ∧ (∀ w ∈ ws, w.length ≤ 100000) ∧ ws.length ≤ 200000 ∧ ToldF H Q (filledV h ws ks)
def sp_form_of (K : PySem.W.Frag) : Sp := fun vs H Q _ => ∃ (l : Addr) (ws : List Str), vs = [.ref l] ∧ SqL K H l (ws.map V.str) ∧ ws ≠ [] ∧ (∀ w ∈ ws, w.length ≤ 100000) ∧ ws.length ≤ 100000 ∧ ToldF H Q (formV ws)
def sp_words_of : Sp := fun vs H Q _ => ∃ x : Str, vs = [.str x] ∧ x.length ≤ 90000 ∧ ∀ H' p, Same H H' → H' p = some (.lst ((wordsIn x).map V.str)) → Q (.ref p) H'
def kwS : List Str := ["ask", "store", "put", "get", "give", "if", "else", "while", "repeat", "end"]
def preName (w : Str) : Prop := isMade w letters = true ∧ 1 ≤ w.length ∧ w.length ≤ 8
theorem made_app {x y s : Str} (h1 : isMade x s = true) (h2 : isMade y s = true) : isMade (x ++ y) s = true := by
  unfold isMade at *
  rw [app_signs, List.all_append, h1, h2]
  rfl
theorem made_mul {c : Nat} {n : Int} {s : Str} (h : c ∈ s.cps.toList) : isMade (Txt.mul ⟨#[c]⟩ n) s = true := by
  unfold isMade
  rw [PyProof.Rows.mul_one_list, List.all_eq_true]
  intro d hd
  rw [(List.mem_replicate.mp hd).2]
  exact decide_eq_true h
theorem in_str {w : Str} : ∀ {ks : List Str}, inV (.str w) (ks.map V.str) = decide (w ∈ ks)
  | [] => rfl
  | k :: ks => by
    have ih := in_str (w := w) (ks := ks)
    show (eqV (.str k) (.str w) || inV (.str w) (ks.map V.str)) = _
    rw [ih, Bool.eq_iff_iff]
    show ((k == w) || decide (w ∈ ks)) = true ↔ _
    simp
    constructor
    · rintro (h | h)
      · exact .inl h.symm
      · exact .inr h
    · rintro (h | h)
      · exact .inl h.symm
      · exact .inr h
theorem kw_map : kwV = kwS.map V.str := rfl
theorem name_mk {w : Str} (h : preName w) (hk : ¬ inV (.str w) kwV = true) : isName w = true := by
  unfold isName
  rw [if_pos (by have := h.2.1; omega), if_pos (by have := h.2.2; omega), h.1, Bool.eq_false_iff.mpr hk]
  rfl
theorem name_kw {w : Str} (hk : inV (.str w) kwV = true) : isName (w ++ "q") = true := by
  rw [kw_map, in_str] at hk
  have : ∀ w ∈ kwS, isName (w ++ "q") = true := by decide +kernel
  exact this w (of_decide_eq_true hk)
theorem kw_len {w : Str} (hk : inV (.str w) kwV = true) : w.length ≤ 6 := by
  rw [kw_map, in_str] at hk
  have : ∀ w ∈ kwS, w.length ≤ 6 := by decide +kernel
  exact this w (of_decide_eq_true hk)
theorem name_is {w : Str} (h : isName w = true) : isMade w letters = true ∧ 1 ≤ w.length ∧ w.length ≤ 8 ∧ w ∉ kwS := by
  unfold isName at h
  split at h
  · split at h
    · rw [Bool.and_eq_true, kw_map, in_str] at h
      refine ⟨h.2, by omega, by omega, ?_⟩
      simpa using h.1
    · cases h
  · cases h
theorem made_signs {w s : Str} (h : isMade w s = true) : ∀ c ∈ w.cps.toList, c ∈ s.cps.toList := fun c hc => by
  unfold isMade at h
  rw [List.all_eq_true] at h
  exact of_decide_eq_true (h c hc)
def sp__law_keywords : Sp := fun vs H Q _ => vs = [] ∧ ∀ p H', Same H H' → H' p = some (.lst kwV) → Q (.ref p) H'
def sp__law_letters : Sp := fun vs H Q _ => ∃ n k : Int, vs = [.int n, .int k] ∧ 0 ≤ k ∧ k ≤ 1000 ∧ ∀ w : Str, w.length = k.toNat → isMade w letters = true → Q (.str w) H
def sp__law_name_by : Sp := fun vs H Q _ => ∃ n : Int, vs = [.int n] ∧ ∀ (w : Str) H', isName w = true → Same H H' → Q (.str w) H'
def goodVal (v : V) : Prop := (∃ w, v = .str w ∧ isName w = true) ∨ ∃ n : Int, v = .int n ∧ 0 ≤ n ∧ n < 10 ^ 30
def valStr : V → Str
  | .str w => w
  | .int n => toString n
  | _ => ""
def goodWord (w : Str) : Prop := 1 ≤ w.length ∧ w.length ≤ 40 ∧ ∀ c ∈ w.cps.toList, 33 ≤ c ∧ c < 127
def sp__law_cell_at (K : PySem.W.Frag) : Sp := fun vs H Q _ => ∃ (l : Addr) (ns : List Int) (k : Int), vs = [.ref l, .int k] ∧ SqL K H l (ns.map V.int) ∧ 0 ≤ k ∧ (∀ n ∈ ns, Builtin.Int.intBits n ≤ 2 ^ 20) ∧ ∀ c : Int, Builtin.Int.intBits c ≤ 2 ^ 20 → Q (.int c) H
def sp__law_value_by : Sp := fun vs H Q _ => ∃ n : Int, vs = [.int n] ∧ ∀ v H', goodVal v → Same H H' → Q v H'
def sp__law_from : Sp := fun vs H Q _ => ∃ n lo hi : Int, vs = [.int n, .int lo, .int hi] ∧ lo ≤ hi ∧ ∀ (r : Int) H', lo ≤ r → r ≤ hi → Same H H' → Q (.int r) H'
def sp__law_spaced (K : PySem.W.Frag) : Sp := fun vs H Q _ => ∃ (l : Addr) (ws : List Str) (n : Int), vs = [.ref l, .int n] ∧ SqL K H l (ws.map V.str) ∧ ws.length ≤ 100 ∧ (∀ w ∈ ws, goodWord w) ∧ ∀ x : Str, x.length ≤ 2 + 43 * ws.length → (∀ c ∈ x.cps.toList, 32 ≤ c ∧ c < 127) → wordsIn x = ws → Q (.str x) H
def flatOne (v : V) : Prop := (∃ x, v = .str x ∧ PyData.strOk x = true) ∨ ∃ n, v = .int n
def sp_row_of : Sp := fun vs H Q _ => ∃ (x : Str) (i : Int), vs = [.str x, .int i] ∧ x.length ≤ 90000 ∧ ((wordsIn x = [] ∧ ∀ H', Same H H' → Q .non H') ∨ (wordsIn x ≠ [] ∧ ∃ xs, formV (wordsIn x) = some xs ∧ ∀ H' p, Same H H' → H' p = some (.tup xs) → Q (.ref p) H'))
theorem num_in {n : Int} (h0 : 0 ≤ n) (h1 : n < 10 ^ 30) : numIn (toString n) = some n := by
  obtain ⟨a1, a2, a3, a4, a5⟩ := num_signs h0 h1
  unfold numIn
  have hm : isMade (Str.ofString (toString n)) figures = true := by
    unfold isMade
    rw [List.all_eq_true]
    intro c hc
    have hr := a3 c hc
    have : ∀ c : Nat, c < 58 → 48 ≤ c → c ∈ figures.cps.toList := by decide +kernel
    exact decide_eq_true (this c (by have := hr.2; omega) hr.1)
  rw [if_pos (by exact_mod_cast a1), if_pos (by exact_mod_cast a2), if_pos hm, if_neg a5]
  show some ((digitsVal (Str.ofString (toString n)).cps.toList : Nat) : Int) = some n
  rw [a4]
  congr 1
  omega
theorem num_word {n : Int} (h0 : 0 ≤ n) (h1 : n < 10 ^ 30) : goodWord (toString n) := by
  obtain ⟨a1, a2, a3, _, _⟩ := num_signs h0 h1
  refine ⟨a1, Nat.le_trans a2 (by decide), fun c hc => ?_⟩
  have := a3 c hc
  omega
theorem num_no_name {n : Int} (h0 : 0 ≤ n) (h1 : n < 10 ^ 30) : isName (toString n) = false := by
  obtain ⟨a1, a2, a3, _, _⟩ := num_signs h0 h1
  rw [Bool.eq_false_iff]
  intro h
  have hm := made_signs (name_is h).1
  have hl : (Str.ofString (toString n)).cps.toList.length = (Str.ofString (toString n)).length := Array.length_toList
  cases e : (Str.ofString (toString n)).cps.toList with
  | nil => rw [e] at hl; rw [← hl] at a1; exact absurd a1 (by decide)
  | cons c r =>
    have hc : c ∈ (Str.ofString (toString n)).cps.toList := by rw [e]; exact List.mem_cons_self
    have h1 := a3 c hc
    have h2 := hm c hc
    have : ∀ c ∈ letters.cps.toList, 97 ≤ c := by decide +kernel
    have := this c h2
    omega
theorem name_word {w : Str} (h : isName w = true) : goodWord w := by
  obtain ⟨a1, a2, a3, _⟩ := name_is h
  refine ⟨a2, by omega, fun c hc => ?_⟩
  have : ∀ c ∈ letters.cps.toList, 33 ≤ c ∧ c < 127 := by decide +kernel
  exact this c (made_signs a1 c hc)
theorem val_in {v : V} (h : goodVal v) : valIn (valStr v) = v := by
  rcases h with ⟨w, rfl, hw⟩ | ⟨n, rfl, h0, h1⟩
  · unfold valIn valStr
    rw [if_pos hw]
  · unfold valIn
    rw [if_neg (by show ¬ isName (toString n) = true; rw [num_no_name h0 h1]; decide)]
    show optV (numIn (toString n)) = _
    rw [num_in h0 h1]
    rfl
theorem val_word {v : V} (h : goodVal v) : goodWord (valStr v) := by
  rcases h with ⟨w, rfl, hw⟩ | ⟨n, rfl, h0, h1⟩
  · exact name_word hw
  · exact num_word h0 h1
theorem good_ok {w : Str} (h : goodWord w) : PyData.strOk w = true := by
  unfold PyData.strOk
  rw [Array.all_eq_true']
  intro c hc
  have := h.2.2 c (Array.mem_toList_iff.mpr hc)
  exact decide_eq_true (by omega)
theorem val_flat {v : V} (h : goodVal v) : flatOne v ∧ eqV v .non = false := by
  rcases h with ⟨w, rfl, hw⟩ | ⟨n, rfl, h0, h1⟩
  · exact ⟨.inl ⟨_, rfl, good_ok (name_word hw)⟩, rfl⟩
  · exact ⟨.inr ⟨_, rfl⟩, rfl⟩
theorem name_kinds {w : Str} (h : isName w = true) : kinds w = none := by
  have := (name_is h).2.2.2
  have k : ∀ z ∈ kwS, ¬ w = z := fun z hz e => this (e ▸ hz)
  unfold kinds
  rw [if_neg (k _ (by decide)), if_neg (k _ (by decide)), if_neg (k _ (by decide)), if_neg (k _ (by decide)), if_neg (k _ (by decide)), if_neg (k _ (by decide)), if_neg (k _ (by decide)), if_neg (k _ (by decide)), if_neg (k _ (by decide)), if_neg (k _ (by decide))]
theorem thing_name {w : Str} (h : isName w = true) : thingIn w "name" = .str w := by
  unfold thingIn
  rw [if_pos rfl, if_pos h]
theorem thing_value {w : Str} : thingIn w "value" = valIn w := by
  unfold thingIn
  rw [if_neg (by decide), if_pos rfl]
theorem thing_sign {w : Str} (h : inV (.str w) sgV = true) : thingIn w "sign" = .str w := by
  unfold thingIn
  rw [if_neg (by decide), if_neg (by decide), if_pos rfl, if_pos h]
theorem thing_length {n : Int} (h0 : 1 ≤ n) (h1 : n ≤ 2000) : thingIn (toString n) "length" = .int n := by
  unfold thingIn
  rw [if_neg (by decide), if_neg (by decide), if_neg (by decide), if_pos rfl, num_in (by omega) (by omega)]
  unfold withinV
  show (if n < 1 then V.non else if 2000 < n then V.non else V.int n) = _
  rw [if_neg (by omega), if_neg (by omega)]
theorem thing_rounds {n : Int} (h0 : 0 ≤ n) (h1 : n ≤ 99) : thingIn (toString n) "rounds" = .int n := by
  unfold thingIn
  rw [if_neg (by decide), if_neg (by decide), if_neg (by decide), if_neg (by decide), num_in (by omega) (by omega)]
  unfold withinV
  show (if n < 0 then V.non else if 99 < n then V.non else V.int n) = _
  rw [if_neg (by omega), if_neg (by omega)]
theorem filled_mk {h : Str} {ws ks : List Str} {xs : List V} (hl : ws.length = ks.length) (e : thingsIn ws ks = xs) (hn : inV .non xs = false) : filledV h ws ks = some (.str h :: xs) := by
  unfold filledV
  rw [if_pos hl, e, hn]
  rfl
theorem form_one {h x : Str} (hk : kinds h = some (["name"] : List Str)) (hx : isName x = true) : formV [h, x] = some [.str h, .str x] := by
  rw [formV_kw hk]
  refine filled_mk rfl ?_ rfl
  show [thingIn x "name"] = _
  rw [thing_name hx]
theorem form_two {h x y : Str} (hk : kinds h = some (["name", "name"] : List Str)) (hx : isName x = true) (hy : isName y = true) : formV [h, x, y] = some [.str h, .str x, .str y] := by
  rw [formV_kw hk]
  refine filled_mk rfl ?_ rfl
  show [thingIn x "name", thingIn y "name"] = _
  rw [thing_name hx, thing_name hy]
theorem form_none {h : Str} (hk : kinds h = some []) : formV [h] = some [.str h] := by
  rw [formV_kw hk]
  exact filled_mk rfl rfl rfl
theorem form_store {x : Str} {n : Int} (hx : isName x = true) (h0 : 1 ≤ n) (h1 : n ≤ 2000) : formV ["store", x, toString n] = some [.str "store", .str x, .int n] := by
  rw [formV_kw (show kinds "store" = some (["name", "length"] : List Str) from by decide +kernel)]
  refine filled_mk rfl ?_ rfl
  show [thingIn x "name", thingIn (toString n) "length"] = _
  rw [thing_name hx, thing_length h0 h1]
theorem form_repeat {n : Int} (h0 : 0 ≤ n) (h1 : n ≤ 99) : formV ["repeat", toString n] = some [.str "repeat", .int n] := by
  rw [formV_kw (show kinds "repeat" = some (["rounds"] : List Str) from by decide +kernel)]
  refine filled_mk rfl ?_ rfl
  show [thingIn (toString n) "rounds"] = _
  rw [thing_rounds h0 h1]
theorem form_set {x : Str} {v u : V} {sg : Str} (hx : isName x = true) (hv : goodVal v) (hs : inV (.str sg) sgV = true) (hu : goodVal u) : formV [x, "=", valStr v, sg, valStr u] = some [.str "set", .str x, v, .str sg, u] := by
  rw [formV_set (name_kinds hx), if_neg (by simp), if_pos (show (["=", valStr v, sg, valStr u] : List Str).head? = some ("=" : Str) from rfl)]
  refine filled_mk rfl ?_ ?_
  · show [thingIn x "name", thingIn (valStr v) "value", thingIn sg "sign", thingIn (valStr u) "value"] = _
    rw [thing_name hx, thing_value, thing_value, thing_sign hs, val_in hv, val_in hu]
  · show (eqV (.str x) .non || (eqV v .non || (eqV (.str sg) .non || (eqV u .non || false)))) = false
    rw [(val_flat hv).2, (val_flat hu).2]
    rfl
theorem form_set1 {x : Str} {v : V} (hx : isName x = true) (hv : goodVal v) : formV [x, "=", valStr v] = some [.str "set", .str x, v, .str "+", .int 0] := by
  rw [formV_set (name_kinds hx), if_neg (by simp), if_pos (show (["=", valStr v] : List Str).head? = some ("=" : Str) from rfl)]
  refine filled_mk rfl ?_ ?_
  · show [thingIn x "name", thingIn (valStr v) "value", thingIn "+" "sign", thingIn "0" "value"] = _
    rw [thing_name hx, thing_value, thing_value, thing_sign (by decide +kernel), val_in hv]
    have : valIn "0" = .int 0 := by decide +kernel
    rw [this]
  · show (eqV (.str x) .non || (eqV v .non || (eqV (.str "+") .non || (eqV (.int 0) .non || false)))) = false
    rw [(val_flat hv).2]
    rfl
inductive Kd where
  | cond (x : Str)
  | whl (x : Str)
  | rep (n : Int)
def Kd.h : Kd → Str
  | .cond _ => "if"
  | .whl _ => "while"
  | .rep _ => "repeat"
def Kd.v : Kd → V
  | .cond x => .str x
  | .whl x => .str x
  | .rep n => .int n
def Kd.deed : Kd → List Deed → List Deed → Deed
  | .cond x, t, o => .cond x t o
  | .whl x, t, _ => .whl x t
  | .rep n, t, _ => .rep n t
inductive Fm where
  | ask (x : Str)
  | sto (x : Str) (n : Int)
  | opn (k : Kd)
  | els
  | en
  | pl (d : Deed)
def Smp : Deed → Prop
  | .set _ _ _ _ | .put _ _ | .get _ _ | .give _ => True
  | _ => False
def dv : Deed → List V
  | .set x a sg b => [.str "set", .str x, a.v, .str sg, b.v]
  | .put q x => [.str "put", .str q, .str x]
  | .get q x => [.str "get", .str q, .str x]
  | .give x => [.str "give", .str x]
  | _ => []
def Fm.v : Fm → List V
  | .ask x => [.str "ask", .str x]
  | .sto x n => [.str "store", .str x, .int n]
  | .opn k => [.str k.h, k.v]
  | .els => [.str "else"]
  | .en => [.str "end"]
  | .pl d => dv d
def Fm.ok : Fm → Prop
  | .pl d => Smp d ∧ ∀ q x, d = .put q x ∨ d = .get q x → q.length ≤ 100
  | .ask x => x.length ≤ 100
  | .sto x _ => x.length ≤ 100
  | _ => True
theorem smp_rd {H : Hp} {p : Addr} {d : Deed} (s : Smp d) (h : H p = some (.tup (dv d))) : RD H (.ref p) d := by
  cases d with
  | set x a sg b => exact .set h
  | put q x => exact .put h
  | get q x => exact .get h
  | give x => exact .give h
  | _ => exact absurd s (by simp [Smp])
structure Fr6 where
  k : Kd
  ds : List Deed
  os : List Deed
  t : Bool
structure RS where
  ak : List Str
  st : List (Str × Int)
  top : List Deed
  fr : List Fr6
  bg : Bool
def R0 : RS := ⟨[], [], [], [], false⟩
def lay1 (f : Fr6) (d : Deed) : Fr6 := if f.t = true then { f with os := f.os ++ [d] } else { f with ds := f.ds ++ [d] }
def RS.lay (R : RS) (d : Deed) : RS := match R.fr.getLast? with
  | none => { R with top := R.top ++ [d] }
  | some f => { R with fr := R.fr.dropLast ++ [lay1 f d] }
def kys (st : List (Str × Int)) : List Str := st.map (·.1)
def stK (st : List (Str × Int)) : List (Key × V) := st.map fun p => (.inr p.1, .int p.2)
def good (R : RS) : Fm → Prop
  | .ask x => R.bg = false ∧ x ∉ R.ak
  | .sto x _ => R.bg = false ∧ x ∉ kys R.st
  | .opn _ => R.fr.length < 12
  | .els => ∃ f x, R.fr.getLast? = some f ∧ f.k = .cond x ∧ f.t = false
  | .en => R.fr ≠ []
  | .pl d => ∀ q x, d = .put q x ∨ d = .get q x → q ∈ kys R.st ∧ ∀ f ∈ R.fr, ∃ n, f.k = .rep n
def rd (R : RS) : Fm → RS
  | .ask x => { R with ak := R.ak ++ [x] }
  | .sto x n => { R with st := R.st ++ [(x, n)] }
  | .opn k => { R with fr := R.fr ++ [⟨k, [], [], false⟩], bg := true }
  | .els => match R.fr.getLast? with
    | none => R
    | some f => { R with fr := R.fr.dropLast ++ [{ f with t := true }], bg := true }
  | .en => match R.fr.getLast? with
    | none => R
    | some f => { RS.lay { R with fr := R.fr.dropLast } (f.k.deed f.ds f.os) with bg := true }
  | .pl d => { R.lay d with bg := true }
def BlkO (a : Adr) (dx f ld lo : Addr) (t : Bool) : HO := .ins a.C_Block dx [("form", .ref f), ("deeds", .ref ld), ("others", .ref lo), ("turned", .bl t)]
def RdO (a : Adr) (dx da ds lb ls : Addr) (bg : Bool) : HO := .ins a.C_Reading dx [("asks", .ref da), ("stores", .ref ds), ("body", .ref lb), ("blocks", .ref ls), ("begun", .bl bg)]
structure Bl where
  b : Addr
  dx : Addr
  f : Addr
  ld : Addr
  lo : Addr
  k : Kd
  ds : List Deed
  os : List Deed
  t : Bool
def Bl.fr (z : Bl) : Fr6 := ⟨z.k, z.ds, z.os, z.t⟩
structure BlAt (a : Adr) (H0 H : Hp) (z : Bl) (m : Nat) : Prop where
  ob : H z.b = some (BlkO a z.dx z.f z.ld z.lo z.t)
  fo : H z.f = some (.tup [.str z.k.h, z.k.v])
  de : ∃ xs, H z.ld = some (.lst xs) ∧ RDs H0 xs z.ds ∧ xs.length ≤ m
  ot : ∃ xs, H z.lo = some (.lst xs) ∧ RDs H0 xs z.os ∧ xs.length ≤ m
def lsts (lb ls : Addr) (zs : List Bl) : List Addr := lb :: ls :: zs.flatMap fun z => [z.ld, z.lo]
structure RdH (a : Adr) (H0 H : Hp) (r dx da ds lb ls : Addr) (zs : List Bl) (R : RS) (m : Nat) : Prop where
  sa : Same H0 H
  ro : H r = some (RdO a dx da ds lb ls R.bg)
  ao : H da = some (.dK (tabV R.ak fun _ => .bl true))
  so : H ds = some (.dK (stK R.st))
  bo : ∃ xs, H lb = some (.lst xs) ∧ RDs H0 xs R.top ∧ xs.length ≤ m
  lo : H ls = some (.lst (zs.map fun z => V.ref z.b))
  bs : ∀ z ∈ zs, BlAt a H0 H z m
  eb : zs.map Bl.fr = R.fr
  dj : da ≠ ds
  dl : (lsts lb ls zs).Nodup
  db : (zs.map (·.b)).Nodup
  na : R.ak.Nodup
  ns : (kys R.st).Nodup
  la : R.ak.length ≤ m
  lst : R.st.length ≤ m
  f1 : H0 r = none
  f2 : H0 da = none
  f3 : H0 ds = none
  f4 : ∀ c ∈ lsts lb ls zs, H0 c = none
  f5 : ∀ z ∈ zs, H0 z.b = none
def sp_Block___init__ (a : Adr) : Sp := fun vs H Q _ => ∃ (b dx f : Addr), vs = [.ref b, .ref f] ∧ H b = some (.ins a.C_Block dx []) ∧ ∀ H' ld lo, (∀ c o, c ≠ b → H c = some o → H' c = some o) → H ld = none → H lo = none → ld ≠ lo → H' b = some (BlkO a dx f ld lo false) → H' ld = some (.lst []) → H' lo = some (.lst []) → Q .non H'
def sp_Block_lay (a : Adr) : Sp := fun vs H Q _ => ∃ (b dx f ld lo : Addr) (t : Bool) (xs ys : List V) (v : V), vs = [.ref b, v] ∧ H b = some (BlkO a dx f ld lo t) ∧ H ld = some (.lst xs) ∧ H lo = some (.lst ys) ∧ xs.length < 10000 ∧ ys.length < 10000 ∧ Q .non (if t = true then upd H lo (.lst (ys ++ [v])) else upd H ld (.lst (xs ++ [v])))
def sp_Block_turn (a : Adr) : Sp := fun vs H Q _ => ∃ (b dx f ld lo : Addr) (t : Bool), vs = [.ref b] ∧ H b = some (BlkO a dx f ld lo t) ∧ Q .non (upd H b (BlkO a dx f ld lo true))
def sp_Block_may_turn (a : Adr) : Sp := fun vs H Q _ => ∃ (b dx f ld lo : Addr) (t : Bool) (h : Str) (r : List V), vs = [.ref b] ∧ H b = some (BlkO a dx f ld lo t) ∧ H f = some (.tup (.str h :: r)) ∧ Q (.bl (decide (h = "if") && !t)) H
def sp_Block_whole (a : Adr) : Sp := fun vs H Q _ => ∃ (b dx f ld lo : Addr) (t : Bool) (h : Str) (r : List V), vs = [.ref b] ∧ H b = some (BlkO a dx f ld lo t) ∧ H f = some (.tup (.str h :: r)) ∧ r.length ≤ 10 ∧ ∀ H' p, Same H H' → H p = none → H' p = some (.tup (.str h :: r ++ (if h = "if" then [.ref ld, .ref lo] else [.ref ld]))) → Q (.ref p) H'
def sp_Reading___init__ (a : Adr) : Sp := fun vs H Q _ => ∃ (r dx : Addr), vs = [.ref r] ∧ H r = some (.ins a.C_Reading dx []) ∧ ∀ H' da ds lb ls, (∀ c o, c ≠ r → H c = some o → H' c = some o) → H da = none → H ds = none → H lb = none → H ls = none → da ≠ ds → lb ≠ ls → H' r = some (RdO a dx da ds lb ls false) → H' da = some (.dK []) → H' ds = some (.dK []) → H' lb = some (.lst []) → H' ls = some (.lst []) → Q .non H'
def sp_Reading_lay_down (a : Adr) : Sp := fun vs H Q _ => ∃ (H0 : Hp) (r dx da ds lb ls : Addr) (zs : List Bl) (R : RS) (m : Nat) (v : V) (d : Deed), vs = [.ref r, v] ∧ RdH a H0 H r dx da ds lb ls zs R m ∧ m < 9000 ∧ RD H0 v d ∧ ∀ H' zs', RdH a H0 H' r dx da ds lb ls zs' (R.lay d) (m + 1) → Q .non H'
def sp_Reading_may_turn_innermost (a : Adr) : Sp := fun vs H Q _ => ∃ (H0 : Hp) (r dx da ds lb ls : Addr) (zs : List Bl) (R : RS) (m : Nat) (f : Fr6) (x : Str), vs = [.ref r] ∧ RdH a H0 H r dx da ds lb ls zs R m ∧ R.fr.getLast? = some f ∧ f.k = .cond x ∧ f.t = false ∧ Q (.bl true) H
def sp_Reading_follow (a : Adr) : Sp := fun vs H Q _ => ∃ (H0 : Hp) (r dx da ds lb ls p : Addr) (zs : List Bl) (R : RS) (m : Nat) (f : Fm), vs = [.ref r, .ref p] ∧ RdH a H0 H r dx da ds lb ls zs R m ∧ R.bg = true ∧ m < 9000 ∧ H0 p = some (.tup f.v) ∧ f.ok ∧ (∀ x, f ≠ .ask x) ∧ (∀ x n, f ≠ .sto x n) ∧ good R f ∧ ∀ H' H0' zs', Same H0 H0' → RdH a H0' H' r dx da ds lb ls zs' (rd R f) (m + 1) → Q .non H'
def sp_Reading_enter (a : Adr) : Sp := fun vs H Q _ => ∃ (H0 : Hp) (r dx da ds lb ls p : Addr) (zs : List Bl) (R : RS) (m : Nat) (f : Fm), vs = [.ref r, .ref p] ∧ RdH a H0 H r dx da ds lb ls zs R m ∧ m < 9000 ∧ H0 p = some (.tup f.v) ∧ f.ok ∧ good R f ∧ ∀ H' H0' zs', Same H0 H0' → RdH a H0' H' r dx da ds lb ls zs' (rd R f) (m + 1) → Q .non H'
def headOf (f : Fm) : Str := match f with
  | .ask _ => "ask"
  | .sto _ _ => "store"
  | .opn k => k.h
  | .els => "else"
  | .en => "end"
  | .pl d => d.word
def sp_Reading_is_hiding (a : Adr) : Sp := fun vs H Q _ => ∃ (H0 : Hp) (r dx da ds lb ls : Addr) (zs : List Bl) (R : RS) (m : Nat), vs = [.ref r] ∧ RdH a H0 H r dx da ds lb ls zs R m ∧ zs.length ≤ 100 ∧ (∀ f ∈ R.fr, ∃ n, f.k = .rep n) ∧ ∀ H', Same H H' → Q (.bl false) H'
def sp_check_nest (a : Adr) : Sp := fun vs H Q _ => ∃ (H0 : Hp) (r dx da ds lb ls : Addr) (zs : List Bl) (R : RS) (m : Nat) (f : Fm) (i : Int), vs = [.ref r, .str (headOf f), .int i] ∧ RdH a H0 H r dx da ds lb ls zs R m ∧ f.ok ∧ good R f ∧ ∀ H', Same H H' → Q .non H'
def sp_check_twice (a : Adr) : Sp := fun vs H Q _ => ∃ (H0 : Hp) (r dx da ds lb ls p : Addr) (zs : List Bl) (R : RS) (m : Nat) (f : Fm) (i : Int), vs = [.ref r, .ref p, .int i] ∧ RdH a H0 H r dx da ds lb ls zs R m ∧ H p = some (.tup f.v) ∧ ((∃ x, f = .ask x) ∨ ∃ x n, f = .sto x n) ∧ good R f ∧ Q .non H
def sp_check_move (a : Adr) : Sp := fun vs H Q _ => ∃ (H0 : Hp) (r dx da ds lb ls : Addr) (zs : List Bl) (R : RS) (m : Nat) (s : Str) (i : Int), vs = [.ref r, .str s, .int i] ∧ RdH a H0 H r dx da ds lb ls zs R m ∧ zs.length ≤ 100 ∧ s ∈ kys R.st ∧ (∀ f ∈ R.fr, ∃ n, f.k = .rep n) ∧ ∀ H', Same H H' → Q .non H'
def sp_check (a : Adr) : Sp := fun vs H Q _ => ∃ (H0 : Hp) (r dx da ds lb ls p : Addr) (zs : List Bl) (R : RS) (m : Nat) (f : Fm) (i : Int), vs = [.ref r, .ref p, .int i] ∧ RdH a H0 H r dx da ds lb ls zs R m ∧ zs.length ≤ 100 ∧ H p = some (.tup f.v) ∧ f.ok ∧ good R f ∧ ∀ H', Same H H' → Q .non H'
def rdO (R : RS) : Option Fm → RS
  | none => R
  | some f => rd R f
def rdA (fs : List (Option Fm)) : RS := fs.foldl rdO R0
structure Rws (rows : List Str) (fs : List (Option Fm)) : Prop where
  len : rows.length = fs.length
  no : ∀ (i : Nat) row, rows[i]? = some row → fs[i]? = some none → wordsIn row = []
  fm : ∀ (i : Nat) row f, rows[i]? = some row → fs[i]? = some (some f) → f.ok ∧ wordsIn row ≠ [] ∧ formV (wordsIn row) = some f.v ∧ good (rdA (fs.take i)) f
def sp_read : Sp := fun vs H Q _ => ∃ (x : Str) (rows : List Str) (fs : List (Option Fm)), vs = [.str x] ∧ x.length ≤ 90000 ∧ Txt.split x ⟨#[10]⟩ = rows ∧ rows.length ≤ 5000 ∧ Rws rows fs ∧ (rdA fs).fr = [] ∧
  ∀ H' t l1 l2 l3 (ts : List Addr), Same H H' → H' t = some (.tup [.ref l1, .ref l2, .ref l3]) → H' l1 = some (.lst ((rdA fs).ak.map V.str)) → H' l2 = some (.lst (ts.map V.ref)) → RSs H' (ts.map V.ref) (rdA fs).st → RL H' l3 (rdA fs).top → Q (.ref t) H'
def Own (H0 H : Hp) (cs : List (Addr × HO)) : Prop := Same H0 H ∧ (cs.map (·.1)).Nodup ∧ ∀ p ∈ cs, H p.1 = some p.2 ∧ H0 p.1 = none
structure Fc where
  b : Addr
  lp : Addr
  ld : Addr
  lo : Addr
  k : Kd
  ds : List Deed
  os : List Deed
  dv : List V
  ov : List V
  t : Bool
def Fc.fr (z : Fc) : Fr6 := ⟨z.k, z.ds, z.os, z.t⟩
def Fc.cells (z : Fc) : List (Addr × HO) := (z.ld, .lst z.dv) :: (z.lp, .lst (.ref z.ld :: if z.t = true then [.ref z.lo] else [])) :: (if z.t = true then [(z.lo, .lst z.ov)] else [])
structure FcAt (H0 : Hp) (z : Fc) (m : Nat) : Prop where
  ob : H0 z.b = some (.lst [.str z.k.h, z.k.v, .ref z.lp])
  de : RDs H0 z.dv z.ds
  ot : RDs H0 z.ov z.os
  nt : z.t = false → z.os = []
  ld : z.dv.length ≤ m
  lo : z.ov.length ≤ m
structure Ad5 where
  la : Addr
  ls : Addr
  lt : Addr
  lf : Addr
  ll : Addr
structure BS where
  zs : List Fc
  sv : List V
  tv : List V
  Ls : List Addr
  R : RS
def BS.cells (B : BS) (A : Ad5) : List (Addr × HO) := [(A.la, .lst (B.R.ak.map V.str)), (A.ls, .lst B.sv), (A.lt, .lst B.tv), (A.lf, .lst (B.zs.map fun z => V.ref z.b)), (A.ll, .lst (B.Ls.map V.ref))] ++ B.zs.flatMap Fc.cells
structure BdH (H0 H : Hp) (A : Ad5) (B : BS) (m : Nat) : Prop where
  own : Own H0 H (B.cells A)
  ss : RSs H0 B.sv B.R.st
  tt : RDs H0 B.tv B.R.top
  zz : ∀ z ∈ B.zs, FcAt H0 z m
  eb : B.zs.map Fc.fr = B.R.fr
  l1 : B.tv.length ≤ m
  l2 : B.sv.length ≤ m
  l3 : B.R.ak.length ≤ m
  l4 : B.Ls.length ≤ m
def dln : Deed → List Str
  | .set x a sg b => [x, "=", valStr a.v, sg, valStr b.v]
  | .put q x => ["put", q, x]
  | .get q x => ["get", q, x]
  | .give x => ["give", x]
  | _ => []
def lineOf : Fm → List Str
  | .ask x => ["ask", x]
  | .sto x n => ["store", x, toString n]
  | .opn k => [k.h, valStr k.v]
  | .els => ["else"]
  | .en => ["end"]
  | .pl d => dln d
def Kd.wd : Kd → Prop
  | .cond x => isName x = true
  | .whl x => isName x = true
  | .rep n => 0 ≤ n ∧ n ≤ 99
def dwd : Deed → Prop
  | .set x a sg b => isName x = true ∧ goodVal a.v ∧ inV (.str sg) sgV = true ∧ goodVal b.v
  | .put q x => isName q = true ∧ isName x = true
  | .get q x => isName q = true ∧ isName x = true
  | .give x => isName x = true
  | _ => False
def Fm.wd : Fm → Prop
  | .ask x => isName x = true
  | .sto x n => isName x = true ∧ 1 ≤ n ∧ n ≤ 2000
  | .opn k => k.wd
  | .els => True
  | .en => True
  | .pl d => dwd d
inductive Hist (H : Hp) : List Addr → List Fm → RS → Prop
  | nil : Hist H [] [] R0
  | snoc {Ls : List Addr} {fs : List Fm} {R : RS} {f : Fm} {L : Addr} : Hist H Ls fs R → good R f → f.wd → H L = some (.lst ((lineOf f).map V.str)) → Hist H (Ls ++ [L]) (fs ++ [f]) (rd R f)
def here (A : Ad5) (zs : List Fc) : Addr := match zs.getLast? with
  | none => A.lt
  | some z => if z.t = true then z.lo else z.ld
def sp__law_here : Sp := fun vs H Q _ => ∃ (H0 : Hp) (A : Ad5) (B : BS) (m : Nat), vs = [.ref A.lt, .ref A.lf] ∧ BdH H0 H A B m ∧ Q (.ref (here A B.zs)) H
def sp__law_ended : Sp := fun vs H Q _ => ∃ (H0 : Hp) (A : Ad5) (B : BS) (m : Nat) (fs : List Fm), vs = [.ref A.lt, .ref A.lf, .ref A.ll] ∧ BdH H0 H A B m ∧ Hist H0 B.Ls fs B.R ∧ B.R.fr ≠ [] ∧ m < 9000 ∧ ∀ H' H0' B', Same H0 H0' → BdH H0' H' A B' (m + 1) → Hist H0' B'.Ls (fs ++ [.en]) B'.R → B'.R = rd B.R .en → Q .non H'
def sp__law_set_by : Sp := fun vs H Q _ => ∃ (c : Int) (x : Str), vs = [.int c, .str x] ∧ Builtin.Int.intBits c ≤ 2 ^ 20 ∧ isName x = true ∧ ∀ H' p d, Same H H' → Smp d → dwd d → (∀ q x, ¬ (d = .put q x ∨ d = .get q x)) → H' p = some (.tup (dv d)) → Q (.ref p) H'
def sp__law_single_by : Sp := fun vs H Q _ => ∃ (H0 : Hp) (A : Ad5) (B : BS) (m : Nat) (wy c : Int), vs = [.int wy, .int c, .ref A.ls, .ref A.lf] ∧ BdH H0 H A B m ∧ m < 9000 ∧ Builtin.Int.intBits c ≤ 2 ^ 20 ∧ (∀ p ∈ B.R.st, isName p.1 = true) ∧ ∀ H' p d, Same H H' → Smp d → dwd d → good B.R (.pl d) → H' p = some (.tup (dv d)) → Q (.ref p) H'
def sp__law_step : Sp := fun vs H Q _ => ∃ (H0 : Hp) (A : Ad5) (B : BS) (m : Nat) (fs : List Fm) (c : Int) (dp : Bool), vs = [.int c, .bl dp, .ref A.ls, .ref A.lt, .ref A.lf, .ref A.ll] ∧ BdH H0 H A B m ∧ Hist H0 B.Ls fs B.R ∧ m < 9000 ∧ Builtin.Int.intBits c ≤ 2 ^ 20 ∧ (∀ p ∈ B.R.st, isName p.1 = true) ∧ ∀ H' H0' B' fs', Same H0 H0' → BdH H0' H' A B' (m + 1) → Hist H0' B'.Ls fs' B'.R → B'.R.st = B.R.st → fs'.length = fs.length + 1 → B'.R.fr.length ≤ B.R.fr.length + 1 → Q .non H'
def sp__law_build (K : PySem.W.Frag) : Sp := fun vs H Q _ => ∃ (l : Addr) (ns : List Int), vs = [.ref l] ∧ SqL K H l (ns.map V.int) ∧ ns.length ≤ 63 ∧ (∀ n ∈ ns, Builtin.Int.intBits n ≤ 2 ^ 20) ∧ ∀ H' H0 A B m t fs, Same H H0 → BdH H0 H' A B m → Hist H0 B.Ls fs B.R → B.R.fr = [] → m ≤ 100 → H' t = some (.tup [.ref A.la, .ref A.ls, .ref A.lt, .ref A.ll]) → Q (.ref t) H'
def RowOk (row : Str) : Prop := row.length ≤ 220 ∧ ∀ c ∈ row.cps.toList, 32 ≤ c
def WR (row : Str) : Option Fm → Prop
  | none => wordsIn row = []
  | some f => wordsIn row ≠ [] ∧ formV (wordsIn row) = some f.v
inductive Rs : List Str → List (Option Fm) → Prop
  | nil : Rs [] []
  | snoc {rows : List Str} {fo : List (Option Fm)} {row : Str} {o : Option Fm} : Rs rows fo → RowOk row → WR row o → Rs (rows ++ [row]) (fo ++ [o])
def sp__law_text_by (K : PySem.W.Frag) : Sp := fun vs H Q _ => ∃ (ll l : Addr) (Ls : List Addr) (fs : List Fm) (ns : List Int), vs = [.ref ll, .ref l] ∧ SqL K H l (ns.map V.int) ∧ (∀ n ∈ ns, Builtin.Int.intBits n ≤ 2 ^ 20) ∧ H ll = some (.lst (Ls.map V.ref)) ∧ Ls.length = fs.length ∧ fs.length ≤ 100 ∧ (∀ (i : Nat) L f, Ls[i]? = some L → fs[i]? = some f → f.wd ∧ H L = some (.lst ((lineOf f).map V.str))) ∧ ∀ H' rows fo, Same H H' → Rs rows fo → fo.filterMap id = fs → rows.length ≤ 300 → Q (.str (Str.join ⟨#[10]⟩ rows)) H'
inductive Al6 (H : Hp) : Nat → V → V → Prop
  | str (n : Nat) (x : Str) : Al6 H n (.str x) (.str x)
  | int (n : Nat) (i : Int) : Al6 H n (.int i) (.int i)
  | lst {n : Nat} {a b : Addr} {xs ys : List V} : H a = some (.lst xs) → H b = some (.lst ys) → xs.length = ys.length → (∀ (i : Nat) (x y : V), xs[i]? = some x → ys[i]? = some y → Al6 H n x y) → Al6 H (n + 1) (.ref a) (.ref b)
  | tup {n : Nat} {a b : Addr} {xs ys : List V} : H a = some (.tup xs) → H b = some (.tup ys) → xs.length = ys.length → (∀ (i : Nat) (x y : V), xs[i]? = some x → ys[i]? = some y → Al6 H n x y) → Al6 H (n + 1) (.ref a) (.ref b)
def sp__law_same (n : Nat) : Sp := fun vs H Q _ => ∃ x y m, vs = [x, y] ∧ m < n ∧ Al6 H m x y ∧ ∀ H', Same H H' → Q (.bl true) H'
def sp_law (K : PySem.W.Frag) : Sp := fun vs H Q _ => ∃ (a : Addr) (ns : List Int), vs = [.ref a] ∧ SqL K H a (ns.map V.int) ∧ ns.length ≤ 63 ∧ (∀ n ∈ ns, Builtin.Int.intBits n ≤ 2 ^ 20) ∧ Only H ∧ ∀ H', Q (.bl true) H'
section
variable {P : Program} {w : World} {K : PySem.W.Frag} {mg : Str → Option Value} {base : Heap} {a : Adr}
theorem ok_is_made_of (T : Tx P w K mg a) : FnOk P w K mg base CX0 1 a.is_made_of a.fd_is_made_of ["word", "signs"] sp_is_made_of := by
  refine T.F_is_made_of.ok sc_is_made_of (fun vs H Q E h => ?_) (fun cdv A outer s H vs Q E hr h => ?_)
  · obtain ⟨_, _, rfl, _⟩ := h
    rfl
  obtain ⟨x, z, rfl, hx, k⟩ := h
  refine ⟨_, (pss_one (ps_ret (pe_callB (call_all rfl) rfl T.z_all PyProof.Rows.Boot.«all» (pa_cons (pe_comp (k := 1) (Nc := ["sign", "signs"]) (js := [1]) (show CompSc (defScope s_is_made_of) ["word", "signs"] _ 1 ["sign", "signs"] [1] from CompSc.mk rfl (by decide +kernel) (by decide +kernel) (by decide +kernel) rfl (by decide +kernel)) rfl (pi_str (pv 0)) (fun _ _ _ _ _ => (pg_name (i := 0) (show List.Nodup (["sign", "signs"] : List Str) from by decide +kernel) rfl (Or.inl rfl))) (fun _ _ _ _ _ => pts_nil) (fun _ _ _ _ _ => (pe_cmpR op_in_str (pv 0) (pv 1) (by with_unfolding_all rfl)))) pa_nil)))), ?_⟩
  refine ⟨_, rfl, x, rfl, comp_str0 (fun i ys σ H2 => H2 = H ∧ (∃ v, σ = [v, some (.str z)]) ∧ ys = (x.cps.toList.take i).map fun c => V.bl (decide (c ∈ z.cps.toList))) ⟨rfl, ⟨none, rfl⟩, rfl⟩ ?_ (len_le_line (m := 100000) hx) ?_ ?_⟩
  · rintro i ys σ H2 hi ⟨_, _, rfl⟩
    rw [List.length_map, List.length_take]
    exact Nat.min_le_left _ _
  · rintro i c ys σ H2 hc ⟨rfl, ⟨v, rfl⟩, rfl⟩
    refine ⟨_, rfl, _, rfl, _, _, rfl, rfl, rfl, ⟨_, rfl⟩, ?_⟩
    have hc' : x.cps.toList[i]? = some c := by simpa using hc
    rw [PySem.StrLaws.found_one, List.take_add_one, hc', List.map_append]
    rfl
  · rintro ys σ H2 ⟨rfl, _, rfl⟩ D hD
    refine ⟨D, x.cps.toList.map fun c => decide (c ∈ z.cps.toList), rfl, SqL.of ?_, ?_⟩
    · rw [upd_same, List.take_of_length_le (by simp), List.map_map]
      rfl
    · have e : (x.cps.toList.map fun c => decide (c ∈ z.cps.toList)).all id = isMade x z := by
        unfold isMade
        rw [List.all_map]
        rfl
      rw [e]
      exact k _ (Same.new hD _)
theorem ok_is_name (T : Tx P w K mg a) : FnOk P w K mg base CX0 2 a.is_name a.fd_is_name ["word"] sp_is_name := by
  refine T.F_is_name.ok sc_is_name (fun vs H Q E h => ?_) (fun cdv A outer s H vs Q E hr h => ?_)
  · obtain ⟨_, rfl, _⟩ := h
    rfl
  obtain ⟨x, rfl, hx, k⟩ := h
  refine ⟨_, (pss_cons (ps_if (pt_not (pt_chain oi_le oi_le pe_int (pe_callB call_len_str rfl T.z_len PySem.boot_len (pa_cons (pv 0) pa_nil)) (pe_glob rfl T.c_MOST_LETTERS T.r_MOST_LETTERS))) (pss_one (ps_ret pe_bl)) pss_nil)
      (pss_one (ps_ret (pe_and (pe_cmpR op_notIn_seq (pv 0) (pe_glob rfl T.c_KEYWORDS T.r_KEYWORDS) (by with_unfolding_all rfl)) (pe_one (pe_call (ok_is_made_of T) (hr.mono (by decide)) rfl T.m_is_made_of T.F_is_made_of.kp T.b_is_made_of .nil pass0 (pa_cons (pv 0) (pa_cons (pe_glob rfl T.c_LETTERS T.r_LETTERS) pa_nil)))))))), ?_⟩
  refine ⟨_, rfl, x, rfl, len_le_line (m := 100000) hx, _, _, rfl, rfl, _, rfl, ?_⟩
  refine ite2 (fun c => ?_) (fun c => ?_)
  · have c1 : 1 ≤ (x.length : Int) := of_decide_eq_true c
    refine ⟨_, _, rfl, rfl, _, rfl, ?_⟩
    refine ite2 (fun c' => ?_) (fun c' => ?_)
    · have c2 : ¬ (x.length : Int) ≤ 8 := by simpa using c'
      have e : isName x = false := by unfold isName; rw [if_pos c1, if_neg c2]
      have q := k H (Same.refl H)
      rw [e] at q
      exact q
    · have c2 : (x.length : Int) ≤ 8 := by simpa using c'
      refine ⟨_, rfl, _, kwV, rfl, .inr (T.t_KEYWORDS H), rfl, rfl, _, rfl, ?_⟩
      have e : isName x = (!inV (.str x) kwV && isMade x letters) := by unfold isName; rw [if_pos c1, if_pos c2]
      refine iteB (fun c3 => ?_) (fun c3 => ?_)
      · refine ⟨_, rfl, x, letters, rfl, hx, fun H' hs => ?_⟩
        have q := k H' hs
        have c4 : (!inV (.str x) kwV) = true := c3
        rw [e, c4, Bool.true_and] at q
        exact q
      · have q := k H (Same.refl H)
        have c4 : (!inV (.str x) kwV) = false := c3
        rw [e, c4, Bool.false_and] at q
        exact q
  · have c1 : ¬ 1 ≤ (x.length : Int) := of_decide_eq_false (Bool.eq_false_iff.mpr c)
    have e : isName x = false := by unfold isName; rw [if_neg c1]
    have q := k H (Same.refl H)
    rw [e] at q
    exact ⟨_, rfl, iteT q⟩
theorem made_digits {x : Str} (h : isMade x figures = true) : AllDigits x.cps.toList := by
  intro c hc
  unfold isMade at h
  rw [List.all_eq_true] at h
  have hm : c ∈ figures.cps.toList := of_decide_eq_true (h c hc)
  have hf : ∀ d ∈ figures.cps.toList, 48 ≤ d ∧ d ≤ 57 := by decide +kernel
  exact hf c hm
theorem head_ex {x : Str} (h : 1 ≤ (x.length : Int)) : ∃ c, x.cps.toList.head? = some c ∧ atI x.cps.toList (0 : Int) = some c := by
  have hl : x.cps.toList.length = x.length := Array.length_toList
  cases e : x.cps.toList with
  | nil => rw [e] at hl; simp at hl; omega
  | cons c r => exact ⟨c, rfl, atI_nat (xs := c :: r) (j := 0) rfl⟩
theorem ok_number_in (T : Tx P w K mg a) : FnOk P w K mg base CX0 2 a.number_in a.fd_number_in ["word"] sp_number_in := by
  refine T.F_number_in.ok sc_number_in (fun vs H Q E h => ?_) (fun cdv A outer s H vs Q E hr h => ?_)
  · obtain ⟨_, rfl, _⟩ := h
    rfl
  obtain ⟨x, rfl, hx, k⟩ := h
  refine ⟨_, (pss_cons (ps_if (pt_not (pt_chain oi_le oi_le pe_int (pe_callB call_len_str rfl T.z_len PySem.boot_len (pa_cons (pv 0) pa_nil)) (pe_glob rfl T.c_MOST_FIGURES T.r_MOST_FIGURES))) (pss_one (ps_ret pe_non)) pss_nil)
      (pss_cons (ps_if (pt_not (pt_val (pe_call (ok_is_made_of T) (hr.mono (by decide)) rfl T.m_is_made_of T.F_is_made_of.kp T.b_is_made_of .nil pass0 (pa_cons (pv 0) (pa_cons (pe_glob rfl T.c_FIGURES T.r_FIGURES) pa_nil))))) (pss_one (ps_ret pe_non)) pss_nil)
      (pss_cons (ps_if (PW.pt (pw_and (pt_cmpR op_eq (pe_ix ix_str (pv 0) pe_int (fun _ _ => rfl)) pe_str (nomark _)) (pw_and1 (pt_cmpR op_ne (pv 0) pe_str (nomark _))))) (pss_one (ps_ret pe_non)) pss_nil)
      (pss_one (ps_ret (pe_callTy call_int_str rfl T.z_int PyProof.Rows.Boot.«int» (pa_cons (pv 0) pa_nil))))))), ?_⟩
  have hz := len_le_line (m := 100000) hx
  refine ⟨_, rfl, x, rfl, hz, _, _, rfl, rfl, _, rfl, ?_⟩
  refine ite2 (fun c => ?_) (fun c => ?_)
  rotate_left
  · have c1 : ¬ 1 ≤ (x.length : Int) := of_decide_eq_false (Bool.eq_false_iff.mpr c)
    have e : numIn x = none := by unfold numIn; rw [if_neg c1]
    have q := k H (Same.refl H)
    rw [e] at q
    exact ⟨_, rfl, iteT q⟩
  have c1 : 1 ≤ (x.length : Int) := of_decide_eq_true c
  refine ⟨_, _, rfl, rfl, _, rfl, ?_⟩
  refine ite2 (fun c' => ?_) (fun c' => ?_)
  · have c2 : ¬ (x.length : Int) ≤ 30 := by simpa using c'
    have e : numIn x = none := by unfold numIn; rw [if_pos c1, if_neg c2]
    have q := k H (Same.refl H)
    rw [e] at q
    exact q
  have c2 : (x.length : Int) ≤ 30 := by simpa using c'
  have e0 : numIn x = (if isMade x figures = true then (if x.cps.toList.head? = some 48 ∧ ¬ x = "0" then none else some ((digitsVal x.cps.toList : Nat) : Int)) else none) := by unfold numIn; rw [if_pos c1, if_pos c2]
  refine ⟨_, rfl, x, figures, rfl, hx, fun H1 hs => ⟨_, rfl, ?_⟩⟩
  refine ite2 (fun c => ?_) (fun c => ?_)
  · have c3 : ¬ isMade x figures = true := by simpa using c
    have q := k H1 hs
    rw [e0, if_neg c3] at q
    exact q
  have c3 : isMade x figures = true := by simpa using c
  rw [if_pos c3] at e0
  obtain ⟨d, hd1, hd2⟩ := head_ex c1
  have fin : ¬ (x.cps.toList.head? = some 48 ∧ ¬ x = "0") → Q (.int ((digitsVal x.cps.toList : Nat) : Int)) H1 := fun hn => by
    have q := k H1 hs
    rw [e0, if_neg hn] at q
    exact q
  have ret : ¬ (x.cps.toList.head? = some 48 ∧ ¬ x = "0") → (∃ v, (start ["word"] [V.str x])[0]? = some (some v) ∧ ∃ (z : Str) (n : Int), [v] = [.str z] ∧ PySem.intText? z = some n ∧ z.length ≤ 640 ∧ Q (.int n) H1) := fun hn =>
    ⟨_, rfl, x, _, rfl, intText_digits (made_digits c3) (by intro e; rw [e] at hd1; cases hd1) (by omega), by omega, fin hn⟩
  refine ⟨_, rfl, x, _, d, rfl, rfl, hz, hd2, rfl, _, rfl, ?_⟩
  refine ite2 (fun c => ?_) (fun c => ?_)
  · have hd : d = 48 := by
      have := of_decide_eq_true c
      injection this with e
      have e' : (⟨#[d]⟩ : Str) = ⟨#[48]⟩ := e
      injection e' with e'
      simpa using e'
    subst hd
    refine ⟨_, rfl, rfl, _, rfl, ?_⟩
    refine ite2 (fun c' => ?_) (fun c' => ?_)
    · have hn : ¬ x = "0" := by
        intro z
        rw [z] at c'
        simp at c'
      have q := k H1 hs
      rw [e0, if_pos ⟨hd1, hn⟩] at q
      exact q
    · have hn : x = "0" := by
        have z : (!decide (V.str x = V.str "0")) = false := by simpa using c'
        have z' : V.str x = V.str "0" := by simpa using z
        injection z'
      exact ret fun hh => hh.2 hn
  · refine iteF ?_
    refine ret fun hh => c ?_
    rw [hd1] at hh
    have : d = 48 := Option.some.inj hh.1
    subst this
    exact decide_eq_true rfl
theorem ok_value_in (T : Tx P w K mg a) : FnOk P w K mg base CX0 3 a.value_in a.fd_value_in ["word"] sp_value_in := by
  refine T.F_value_in.ok sc_value_in (fun vs H Q E h => ?_) (fun cdv A outer s H vs Q E hr h => ?_)
  · obtain ⟨_, rfl, _⟩ := h
    rfl
  obtain ⟨x, rfl, hx, k⟩ := h
  refine ⟨_, (pss_one (ps_ret (pe_ifExp (pt_val (pe_call (ok_is_name T) (hr.mono (by decide)) rfl T.m_is_name T.F_is_name.kp T.b_is_name .nil pass0 (pa_cons (pv 0) pa_nil))) (pv 0) (pe_call (ok_number_in T) (hr.mono (by decide)) rfl T.m_number_in T.F_number_in.kp T.b_number_in .nil pass0 (pa_cons (pv 0) pa_nil))))), ?_⟩
  refine ⟨_, rfl, x, rfl, hx, fun H1 hs => ⟨_, rfl, ?_⟩⟩
  refine ite2 (fun c => ?_) (fun c => ?_)
  · have q := k H1 hs
    unfold valIn at q
    rw [if_pos c] at q
    exact ⟨_, rfl, q⟩
  · refine ⟨_, rfl, x, rfl, hx, fun H2 hs2 => ?_⟩
    have q := k H2 (hs.trans hs2)
    unfold valIn at q
    rw [if_neg c] at q
    exact q
theorem ok_number_within (T : Tx P w K mg a) : FnOk P w K mg base CX0 3 a.number_within a.fd_number_within ["word", "least", "most"] sp_number_within := by
  refine T.F_number_within.ok sc_number_within (fun vs H Q E h => ?_) (fun cdv A outer s H vs Q E hr h => ?_)
  · obtain ⟨_, _, _, rfl, _⟩ := h
    rfl
  obtain ⟨x, lo, hi, rfl, hx, k⟩ := h
  refine ⟨_, (pss_cons (ps_set (i := 3) sc_number_within.nd rfl (Or.inl rfl) (pe_call (ok_number_in T) (hr.mono (by decide)) rfl T.m_number_in T.F_number_in.kp T.b_number_in .nil pass0 (pa_cons (pv 0) pa_nil)))
      (pss_cons (ps_if (PW.pt (pw_or (pt_cmpR op_isN (pv 3) pe_non (nomark _)) (pw_or (pt_cmpR oi_lt (pv 3) (pv 1) (nomark _)) (pw_or1 (pt_cmpR oi_gt (pv 3) (pv 2) (nomark _)))))) (pss_one (ps_ret pe_non)) pss_nil)
      (pss_one (ps_ret (pv 3))))), ?_⟩
  refine ⟨_, rfl, x, rfl, hx, fun H1 hs => ?_⟩
  have q := k H1 hs
  cases e : numIn x with
  | none =>
    rw [e] at q
    exact ⟨_, rfl, rfl, _, rfl, iteT (iteT q)⟩
  | some n =>
    rw [e] at q
    refine ⟨_, rfl, rfl, _, rfl, iteF ?_⟩
    refine ⟨_, rfl, _, rfl, _, _, rfl, rfl, _, rfl, ?_⟩
    have q' : Q (if n < lo then .non else if hi < n then .non else .int n) H1 := q
    refine ite2 (fun c => ?_) (fun c => ?_)
    · rw [if_pos (of_decide_eq_true c)] at q'
      exact iteT q'
    · rw [if_neg (of_decide_eq_false (Bool.eq_false_iff.mpr c))] at q'
      refine ⟨_, rfl, _, rfl, _, _, rfl, rfl, _, rfl, ?_⟩
      refine ite2 (fun c' => ?_) (fun c' => ?_)
      · rw [if_pos (of_decide_eq_true c')] at q'
        exact q'
      · rw [if_neg (of_decide_eq_false (Bool.eq_false_iff.mpr c'))] at q'
        exact ⟨_, rfl, q'⟩
theorem str_dec {x y : Str} : decide (V.str x = V.str y) = decide (x = y) := by
  rw [Bool.eq_iff_iff]
  simp
theorem ok_thing_in (T : Tx P w K mg a) : FnOk P w K mg base CX0 4 a.thing_in a.fd_thing_in ["word", "kind"] sp_thing_in := by
  refine T.F_thing_in.ok sc_thing_in (fun vs H Q E h => ?_) (fun cdv A outer s H vs Q E hr h => ?_)
  · obtain ⟨_, _, rfl, _⟩ := h
    rfl
  obtain ⟨x, z, rfl, hx, k⟩ := h
  refine ⟨_, (pss_cons (ps_if (pt_cmpR op_eq (pv 1) pe_str (nomark _)) (pss_one (ps_ret (pe_ifExp (pt_val (pe_call (ok_is_name T) (hr.mono (by decide)) rfl T.m_is_name T.F_is_name.kp T.b_is_name .nil pass0 (pa_cons (pv 0) pa_nil))) (pv 0) pe_non))) pss_nil)
      (pss_cons (ps_if (pt_cmpR op_eq (pv 1) pe_str (nomark _)) (pss_one (ps_ret (pe_call (ok_value_in T) (hr.mono (by decide)) rfl T.m_value_in T.F_value_in.kp T.b_value_in .nil pass0 (pa_cons (pv 0) pa_nil)))) pss_nil)
      (pss_cons (ps_if (pt_cmpR op_eq (pv 1) pe_str (nomark _)) (pss_one (ps_ret (pe_ifExp (pt_cmpR op_in_seq (pv 0) (pe_glob rfl T.c_SIGNS T.r_SIGNS) (by with_unfolding_all rfl)) (pv 0) pe_non))) pss_nil)
      (pss_cons (ps_if (pt_cmpR op_eq (pv 1) pe_str (nomark _)) (pss_one (ps_ret (pe_call (ok_number_within T) (hr.mono (by decide)) rfl T.m_number_within T.F_number_within.kp T.b_number_within .nil pass0 (pa_cons (pv 0) (pa_cons pe_int (pa_cons (pe_glob rfl T.c_MOST_LENGTH T.r_MOST_LENGTH) pa_nil)))))) pss_nil)
      (pss_one (ps_ret (pe_call (ok_number_within T) (hr.mono (by decide)) rfl T.m_number_within T.F_number_within.kp T.b_number_within .nil pass0 (pa_cons (pv 0) (pa_cons pe_int (pa_cons (pe_glob rfl T.c_MOST_ROUNDS T.r_MOST_ROUNDS) pa_nil)))))))))), ?_⟩
  unfold thingIn at k
  refine ⟨_, rfl, rfl, _, rfl, ?_⟩
  rw [str_dec]
  refine ite2 (fun c => ?_) (fun c => ?_)
  · rw [if_pos (of_decide_eq_true c)] at k
    refine ⟨_, rfl, x, rfl, hx, fun H1 hs => ⟨_, rfl, ?_⟩⟩
    have q := k H1 hs
    refine ite2 (fun c => ?_) (fun c => ?_)
    · rw [if_pos c] at q
      exact ⟨_, rfl, q⟩
    · rw [if_neg c] at q
      exact q
  rw [if_neg (of_decide_eq_false (Bool.eq_false_iff.mpr c))] at k
  refine ⟨_, rfl, rfl, _, rfl, ?_⟩
  rw [str_dec]
  refine ite2 (fun c => ?_) (fun c => ?_)
  · rw [if_pos (of_decide_eq_true c)] at k
    exact ⟨_, rfl, x, rfl, hx, k⟩
  rw [if_neg (of_decide_eq_false (Bool.eq_false_iff.mpr c))] at k
  refine ⟨_, rfl, rfl, _, rfl, ?_⟩
  rw [str_dec]
  refine ite2 (fun c => ?_) (fun c => ?_)
  · rw [if_pos (of_decide_eq_true c)] at k
    have q := k H (Same.refl H)
    refine ⟨_, rfl, _, sgV, rfl, .inr (T.t_SIGNS H), rfl, rfl, _, rfl, ?_⟩
    refine ite2 (fun c => ?_) (fun c => ?_)
    · have c' : inV (.str x) sgV = true := c
      rw [if_pos c'] at q
      exact ⟨_, rfl, q⟩
    · have c' : ¬ inV (.str x) sgV = true := c
      rw [if_neg c'] at q
      exact q
  rw [if_neg (of_decide_eq_false (Bool.eq_false_iff.mpr c))] at k
  refine ⟨_, rfl, rfl, _, rfl, ?_⟩
  rw [str_dec]
  refine ite2 (fun c => ?_) (fun c => ?_)
  · rw [if_pos (of_decide_eq_true c)] at k
    exact ⟨_, rfl, x, 1, 2000, rfl, hx, k⟩
  rw [if_neg (of_decide_eq_false (Bool.eq_false_iff.mpr c))] at k
  exact ⟨_, rfl, x, 0, 99, rfl, hx, k⟩
theorem cutV_drop (xs : List V) (k : Nat) : cutV xs (some (k : Int)) none = xs.drop k := by
  unfold cutV
  rw [HT.sIx_nat, HT.sIx_none]
  by_cases h : k ≤ xs.length
  · rw [Nat.min_eq_left h]
    exact List.take_of_length_le (by rw [List.length_drop]; omega)
  · rw [Nat.min_eq_right (by omega), List.drop_of_length_le (Nat.le_refl _), List.drop_of_length_le (by omega)]
    exact List.take_nil
theorem things_snoc : ∀ (ws ks : List Str) (i : Nat) (x z : Str), ws[i]? = some x → ks[i]? = some z → thingsIn (ws.take (i + 1)) (ks.take (i + 1)) = thingsIn (ws.take i) (ks.take i) ++ [thingIn x z]
  | [], _, _, _, _, h, _ => by simp at h
  | _ :: _, [], _, _, _, _, h => by simp at h
  | _ :: _, _ :: _, 0, _, _, h1, h2 => by simp at h1 h2; subst h1 h2; simp [thingsIn]
  | u :: ws, v :: ks, i + 1, x, z, h1, h2 => by
    have ih := things_snoc ws ks i x z (by simpa using h1) (by simpa using h2)
    show thingIn u v :: thingsIn (ws.take (i + 1)) (ks.take (i + 1)) = (thingIn u v :: thingsIn (ws.take i) (ks.take i)) ++ [thingIn x z]
    rw [ih]
    rfl
theorem things_len : ∀ (ws ks : List Str), (thingsIn ws ks).length = min ws.length ks.length
  | [], _ => by simp [thingsIn]
  | _ :: _, [] => by simp [thingsIn]
  | _ :: ws, _ :: ks => by
    show (thingsIn ws ks).length + 1 = min (ws.length + 1) (ks.length + 1)
    rw [things_len ws ks]
    omega
theorem thing_flat (w k : Str) : flatV (thingIn w k) = true := by
  unfold thingIn valIn withinV optV
  repeat' split
  all_goals rfl
theorem things_flat : ∀ (ws ks : List Str), (thingsIn ws ks).all flatV = true
  | [], _ => by simp [thingsIn]
  | _ :: _, [] => by simp [thingsIn]
  | w :: ws, k :: ks => by
    show (flatV (thingIn w k) && (thingsIn ws ks).all flatV) = true
    rw [thing_flat, things_flat ws ks]
    rfl
theorem ok_filled (T : Tx P w K mg a) : FnOk P w K mg base CX0 5 a.filled a.fd_filled ["head", "words", "kinds"] (sp_filled K) := by
  refine T.F_filled.ok sc_filled (fun vs H Q E h => ?_) (fun cdv A outer s H vs Q E hr h => ?_)
  · obtain ⟨_, _, _, _, _, rfl, _⟩ := h
    rfl
  obtain ⟨hd, l, t, ws, ks, rfl, hl, ht, hw, hn, k⟩ := h
  refine ⟨_, (pss_cons (ps_if (pt_cmpR op_ne (pe_callB call_len_seq rfl T.z_len PySem.boot_len (pa_cons (pv 1) pa_nil)) (pe_callB call_len_seq rfl T.z_len PySem.boot_len (pa_cons (pv 2) pa_nil)) (nomark _)) (pss_one (ps_ret pe_non)) pss_nil)
      (pss_cons (ps_setcomp (i := 3) sc_filled.nd rfl (Or.inl rfl) (k := 2) (Nc := ["word", "kind"]) (js := []) (show CompSc (defScope s_filled) ["head", "words", "kinds", "things"] _ 2 ["word", "kind"] [] from CompSc.mk rfl (by decide +kernel) (by decide +kernel) (by decide +kernel) rfl (by decide +kernel)) rfl (pi_zip rfl T.z_zip (pa_cons (pv 1) (pa_cons (pv 2) pa_nil))) (fun _ _ _ _ _ => (pg_tupC 2 rfl (pgs_cons (pg_name (i := 0) (show List.Nodup (["word", "kind"] : List Str) from by decide +kernel) rfl (Or.inl rfl)) (pgs_cons (pg_name (i := 1) (show List.Nodup (["word", "kind"] : List Str) from by decide +kernel) rfl (Or.inl rfl)) pgs_nil)))) (fun _ _ _ _ _ => pts_nil) (fun _ _ _ _ _ => (pe_call (ok_thing_in T) (hr.mono (by decide)) rfl T.m_thing_in T.F_thing_in.kp T.b_thing_in .nil pass0 (pa_cons (pv 0) (pa_cons (pv 1) pa_nil)))))
      (pss_cons (ps_if (pt_cmpR op_in_seq pe_non (pv 3) (by with_unfolding_all rfl)) (pss_one (ps_ret pe_non)) pss_nil)
      (pss_one (ps_ret (pe_op op_catT (pe_tup (pa_cons (pv 0) pa_nil)) (pe_callTy call_tuple_of rfl T.z_tuple PyProof.Rows.Boot.«tuple» (pa_cons (pv 3) pa_nil)))))))), ?_⟩
  have hzn : (200000 : Nat) ≤ sizeLine := by decide
  refine ⟨_, rfl, l, _, rfl, .inl hl, _, rfl, t, _, rfl, .inr ht, rfl, _, rfl, ?_⟩
  unfold filledV at k
  rw [List.length_map, List.length_map]
  refine ite2 (fun c => ?_) (fun c => ?_)
  · have c' : ¬ ws.length = ks.length := by
      intro e
      rw [e] at c
      simp at c
    rw [if_neg c'] at k
    exact k H (Same.refl H)
  have c' : ws.length = ks.length := by
    have : V.int (ws.length : Int) = V.int (ks.length : Int) := by simpa using c
    injection this with e
    omega
  rw [if_pos c'] at k
  refine ⟨_, rfl, _, rfl, false, true, l, t, _, _, rfl, hl, ht, ?_⟩
  refine comp_zip (b1 := false) (b2 := true) (xs := ws.map V.str) (zs := ks.map V.str) (fun i ys σ H2 => Same H H2 ∧ (∃ u v, σ = [u, v]) ∧ i ≤ ws.length ∧ ys = thingsIn (ws.take i) (ks.take i)) ⟨Same.refl H, ⟨none, none, rfl⟩, Nat.zero_le _, rfl⟩ ?_ (by rw [List.length_map]; omega) ?_ ?_ ?_
  · rintro i ys σ H2 ⟨_, _, _, rfl⟩
    rw [things_len, List.length_take]
    omega
  · rintro i ys σ H2 ⟨hs, _⟩
    exact ⟨hs.seq hl, hs.tup ht⟩
  · rintro i x z ys σ H2 p hx hz ⟨hs, ⟨u, v, rfl⟩, hi, rfl⟩ hp
    rw [List.getElem?_map] at hx hz
    obtain ⟨x, hx1, rfl⟩ := Option.map_eq_some_iff.mp hx
    obtain ⟨z, hz1, rfl⟩ := Option.map_eq_some_iff.mp hz
    clear hx hz
    have hx := hx1
    have hz := hz1
    have hi' : i < ws.length := by
      rcases Nat.lt_or_ge i ws.length with h | h
      · exact h
      · rw [List.getElem?_eq_none h] at hx; cases hx
    refine ⟨p, _, rfl, .inl (.inl upd_same), rfl, _, _, rfl, _, _, rfl, rfl, ?_⟩
    rw [yes_eq (N' := fun _ _ _ => True)]
    refine ⟨_, rfl, _, rfl, x, z, rfl, hw x (List.mem_of_getElem? hx), fun H3 hs3 => ?_⟩
    exact ⟨hs.trans ((Same.new hp _).trans hs3), ⟨_, _, rfl⟩, hi', (things_snoc ws ks i x z hx hz).symm⟩
  · rintro ys σ H2 ⟨hs, _, _, rfl⟩
    have e1 : ws.take (min (ws.map V.str).length (ks.map V.str).length) = ws := List.take_of_length_le (by rw [List.length_map, List.length_map]; omega)
    have e2 : ks.take (min (ws.map V.str).length (ks.map V.str).length) = ks := List.take_of_length_le (by rw [List.length_map, List.length_map]; omega)
    rw [e1, e2]
    refine fun D hD => ?_
    have hs2 := hs.trans (Same.new hD (.lst (thingsIn ws ks)))
    refine ⟨_, rfl, D, thingsIn ws ks, rfl, .inl (.inl (.inl upd_same)), rfl, things_flat ws ks, _, rfl, ?_⟩
    refine ite2 (fun c => ?_) (fun c => ?_)
    · have c2 : inV .non (thingsIn ws ks) = true := c
      rw [if_pos c2] at k
      exact k _ hs2
    · have c2 : ¬ inV .non (thingsIn ws ks) = true := c
      rw [if_neg c2] at k
      refine ⟨_, rfl, (by show 1 ≤ sizeLine; decide), fun p hp => ?_⟩
      refine ⟨_, rfl, D, _, rfl, .inl ⟨.inl (.inl ((Same.new hp _) _ _ upd_same)), fun r hr2 => ?_⟩⟩
      have hpr : upd (upd (upd H2 D (.lst (thingsIn ws ks))) p (.tup [.str hd])) r (.tup (thingsIn ws ks)) p = some (.tup [.str hd]) := (Same.new hr2 _) _ _ upd_same
      have hs3 := (hs2.trans (Same.new hp (.tup [.str hd]))).trans (Same.new hr2 (.tup (thingsIn ws ks)))
      refine ⟨p, r, _, _, rfl, rfl, .inl (.inl hpr), .inl (.inl upd_same), (by simp), ?_, fun e => ?_, fun e q hq => ?_⟩
      · rw [things_len]
        show 1 + _ ≤ _
        have : (200001 : Nat) ≤ sizeLine := by decide
        omega
      · rw [e] at k
        exact k _ p hs3 hpr
      · exact k _ q (hs3.trans (Same.new hq _)) upd_same
theorem join_len : ∀ ps : List Str, ps.length ≤ (Str.join ⟨#[32]⟩ ps).length + 1 ∧ ∀ p ∈ ps, p.length ≤ (Str.join ⟨#[32]⟩ ps).length
  | [] => ⟨by simp, by simp⟩
  | [x] => ⟨by simp, by intro p hp; cases List.mem_singleton.mp hp; exact Nat.le_refl _⟩
  | x :: y :: r => by
    have ih := join_len (y :: r)
    have e : (Str.join ⟨#[32]⟩ (x :: y :: r)).length = x.length + 1 + (Str.join ⟨#[32]⟩ (y :: r)).length := by
      show (x ++ ⟨#[32]⟩ ++ Str.join ⟨#[32]⟩ (y :: r) : Str).length = _
      rw [str_len_append, str_len_append]
      rfl
    refine ⟨by rw [e, List.length_cons]; omega, fun p hp => ?_⟩
    rw [e]
    rcases List.mem_cons.mp hp with rfl | h
    · omega
    · have := ih.2 p h
      omega
theorem split_sizes (x : Str) : (Txt.split x ⟨#[32]⟩).length ≤ x.length + 1 ∧ ∀ p ∈ Txt.split x ⟨#[32]⟩, p.length ≤ x.length := by
  have j := join_len (Txt.split x ⟨#[32]⟩)
  rw [StrLaws.join_split] at j
  exact j
theorem words_sizes (x : Str) : (wordsIn x).length ≤ x.length + 1 ∧ ∀ p ∈ wordsIn x, p.length ≤ x.length := by
  have j := split_sizes x
  refine ⟨Nat.le_trans (List.length_filter_le _ _) j.1, fun p hp => j.2 p (List.mem_filter.mp hp).1⟩
theorem ok_words_of (T : Tx P w K mg a) : FnOk P w K mg base CX0 1 a.words_of a.fd_words_of ["row"] sp_words_of := by
  refine T.F_words_of.ok sc_words_of (fun vs H Q E h => ?_) (fun cdv A outer s H vs Q E hr h => ?_)
  · obtain ⟨_, rfl, _⟩ := h
    rfl
  obtain ⟨x, rfl, hx, k⟩ := h
  refine ⟨_, (pss_one (ps_ret (pe_comp (k := 1) (Nc := ["word"]) (js := []) (show CompSc (defScope s_words_of) ["row"] _ 1 ["word"] [] from CompSc.mk rfl (by decide +kernel) (by decide +kernel) (by decide +kernel) rfl (by decide +kernel)) rfl (pi_list (pe_bm PySem.F.plainAttrs_str PySem.F.slot_str_split PySem.F.type_str_split mt_split (pv 0) (pa_cons pe_str pa_nil))) (fun _ _ _ _ _ => (pg_name (i := 0) (show List.Nodup (["word"] : List Str) from by decide +kernel) rfl (Or.inl rfl))) (fun _ _ _ _ _ => (pts_one (pt_cmpR op_ne (pv 0) pe_str (nomark _)))) (fun _ _ _ _ _ => (pv 0))))), ?_⟩
  have hzn : (100000 : Nat) ≤ sizeLine := by decide
  have sz := split_sizes x
  refine ⟨_, rfl, rfl, x, " ", rfl, rfl, rfl, by omega, fun p hp => ⟨p, rfl, ⟨_, .inl (.inl upd_same)⟩, ?_⟩⟩
  have hs0 := Same.new hp (.lst ((Txt.split x " ").map V.str))
  refine comp_list (xs := (Txt.split x " ").map V.str) (fun i ys σ H2 => H2 = upd H p (.lst ((Txt.split x " ").map V.str)) ∧ (∃ u, σ = [u]) ∧ ys = (((Txt.split x " ").take i).filter fun q : Str => !decide (q = "")).map V.str) ⟨rfl, ⟨none, rfl⟩, rfl⟩ ?_ ?_ ?_ ?_ ?_
  · rintro i ys σ H2 hi ⟨_, _, rfl⟩
    rw [List.length_map]
    refine Nat.le_trans (List.length_filter_le _ _) ?_
    rw [List.length_take]
    omega
  · rw [List.length_map]
    have := sz.1
    show (Txt.split x ⟨#[32]⟩).length ≤ _
    omega
  · rintro i ys σ H2 ⟨rfl, _⟩
    exact .inl (.inl upd_same)
  · rintro i v ys σ H2 hv ⟨rfl, ⟨u, rfl⟩, rfl⟩
    rw [List.getElem?_map] at hv
    obtain ⟨q, hq, rfl⟩ := Option.map_eq_some_iff.mp hv
    refine ⟨_, rfl, rfl, _, rfl, ?_⟩
    rw [str_dec]
    refine ite2 (fun c => ?_) (fun c => ?_)
    · refine ⟨_, rfl, rfl, ⟨_, rfl⟩, ?_⟩
      rw [List.take_add_one, hq, List.filter_append, List.map_append]
      show _ = _ ++ ([q].filter fun q : Str => !decide (q = "")).map V.str
      rw [List.filter_cons, if_pos c]
      rfl
    · refine ⟨rfl, ⟨_, rfl⟩, ?_⟩
      rw [List.take_add_one, hq, List.filter_append, List.map_append]
      show _ = _ ++ ([q].filter fun q : Str => !decide (q = "")).map V.str
      rw [List.filter_cons, if_neg c]
      simp
  · rintro ys σ H2 ⟨rfl, _, rfl⟩ D hD
    rw [List.length_map, List.take_of_length_le (Nat.le_refl _)]
    exact k _ D (hs0.trans (Same.new hD _)) upd_same
def formsAt (a : Adr) : List (Key × V) := [(.inr "ask", .ref a.FORMS_0), (.inr "store", .ref a.FORMS_1), (.inr "put", .ref a.FORMS_2), (.inr "get", .ref a.FORMS_3), (.inr "give", .ref a.FORMS_4), (.inr "if", .ref a.FORMS_5), (.inr "else", .ref a.FORMS_6), (.inr "while", .ref a.FORMS_7), (.inr "repeat", .ref a.FORMS_8), (.inr "end", .ref a.FORMS_9)]
theorem val_hit {k : Str} {v : V} {r : List (Key × V)} : valV ((.inr k, v) :: r) (.inr k) = some v := by simp [valV]
theorem val_miss {k h : Str} {v : V} {r : List (Key × V)} (e : ¬ h = k) : valV ((.inr k, v) :: r) (.inr h) = valV r (.inr h) := by
  unfold valV
  rw [List.find?_cons_of_neg]
  simp
  exact fun z => e z.symm
theorem kinds_at (T : Tx P w K mg a) (h : Str) : (kinds h = none ∧ valV (formsAt a) (.inr h) = none) ∨ ∃ ks t, kinds h = some ks ∧ valV (formsAt a) (.inr h) = some (.ref t) ∧ ∀ H, SqT K H t (ks.map V.str) := by
  unfold kinds formsAt
  by_cases e : h = "ask"
  · rw [if_pos e, e, val_hit]; exact .inr ⟨_, _, rfl, rfl, T.t_FORMS_0⟩
  rw [if_neg e, val_miss e]; clear e
  by_cases e : h = "store"
  · rw [if_pos e, e, val_hit]; exact .inr ⟨_, _, rfl, rfl, T.t_FORMS_1⟩
  rw [if_neg e, val_miss e]; clear e
  by_cases e : h = "put"
  · rw [if_pos e, e, val_hit]; exact .inr ⟨_, _, rfl, rfl, T.t_FORMS_2⟩
  rw [if_neg e, val_miss e]; clear e
  by_cases e : h = "get"
  · rw [if_pos e, e, val_hit]; exact .inr ⟨_, _, rfl, rfl, T.t_FORMS_3⟩
  rw [if_neg e, val_miss e]; clear e
  by_cases e : h = "give"
  · rw [if_pos e, e, val_hit]; exact .inr ⟨_, _, rfl, rfl, T.t_FORMS_4⟩
  rw [if_neg e, val_miss e]; clear e
  by_cases e : h = "if"
  · rw [if_pos e, e, val_hit]; exact .inr ⟨_, _, rfl, rfl, T.t_FORMS_5⟩
  rw [if_neg e, val_miss e]; clear e
  by_cases e : h = "else"
  · rw [if_pos e, e, val_hit]; exact .inr ⟨_, _, rfl, rfl, T.t_FORMS_6⟩
  rw [if_neg e, val_miss e]; clear e
  by_cases e : h = "while"
  · rw [if_pos e, e, val_hit]; exact .inr ⟨_, _, rfl, rfl, T.t_FORMS_7⟩
  rw [if_neg e, val_miss e]; clear e
  by_cases e : h = "repeat"
  · rw [if_pos e, e, val_hit]; exact .inr ⟨_, _, rfl, rfl, T.t_FORMS_8⟩
  rw [if_neg e, val_miss e]; clear e
  by_cases e : h = "end"
  · rw [if_pos e, e, val_hit]; exact .inr ⟨_, _, rfl, rfl, T.t_FORMS_9⟩
  rw [if_neg e, val_miss e]
  exact .inl ⟨rfl, rfl⟩
theorem ToldF.mono {H H1 : Hp} {Q : VK} {o : Option (List V)} (hs : Same H H1) (h : ToldF H Q o) : ToldF H1 Q o := by
  cases o with
  | none => exact fun H' e => h H' (hs.trans e)
  | some xs => exact fun H' p e => h H' p (hs.trans e)
theorem ok_form_of (T : Tx P w K mg a) : FnOk P w K mg base CX0 6 a.form_of a.fd_form_of ["words"] (sp_form_of K) := by
  refine T.F_form_of.ok sc_form_of (fun vs H Q E h => ?_) (fun cdv A outer s H vs Q E hr h => ?_)
  · obtain ⟨_, _, rfl, _⟩ := h
    rfl
  obtain ⟨l, ws, rfl, hl, hne, hw, hn, k⟩ := h
  refine ⟨_, (pss_cons (ps_set (i := 1) sc_form_of.nd rfl (Or.inl rfl) (pe_ix ix_list (pv 0) pe_int (fun _ _ => rfl)))
      (pss_cons (ps_if (pt_cmpR op_in_kd (pv 1) (pe_glob rfl T.c_FORMS T.r_FORMS) (by with_unfolding_all rfl)) (pss_one (ps_ret (pe_call (ok_filled T) (hr.mono (by decide)) rfl T.m_filled T.F_filled.kp T.b_filled .nil pass0 (pa_cons (pv 1) (pa_cons (pe_slice sl_list (pv 0) (po_some pe_int) po_none) (pa_cons (pe_ix ix_kd (pe_glob rfl T.c_FORMS T.r_FORMS) (pv 1) (fun _ _ => rfl)) pa_nil)))))) pss_nil)
      (pss_cons (ps_if (PW.pt (pw_or (pt_cmpR oi_lt (pe_callB call_len_seq rfl T.z_len PySem.boot_len (pa_cons (pv 0) pa_nil)) pe_int (nomark _)) (pw_or1 (pt_cmpR op_ne (pe_ix ix_list (pv 0) pe_int (fun _ _ => rfl)) pe_str (nomark _))))) (pss_one (ps_ret pe_non)) pss_nil)
      (pss_cons (ps_set (i := 2) sc_form_of.nd rfl (Or.inl rfl) (pe_slice sl_list (pv 0) (po_some pe_int) po_none))
      (pss_cons (ps_if (pt_cmpR op_eq (pe_callB call_len_seq rfl T.z_len PySem.boot_len (pa_cons (pv 2) pa_nil)) pe_int (nomark _)) (pss_one (ps_set (i := 2) sc_form_of.nd rfl (Or.inl rfl) (pe_op op_catS (pv 2) (pe_lst (pa_cons pe_str (pa_cons pe_str pa_nil)))))) pss_nil)
      (pss_one (ps_ret (pe_call (ok_filled T) (hr.mono (by decide)) rfl T.m_filled T.F_filled.kp T.b_filled .nil pass0 (pa_cons pe_str (pa_cons (pe_op op_catS (pe_lst (pa_cons (pv 1) pa_nil)) (pv 2)) (pa_cons (pe_glob rfl T.c_SET_FORM T.r_SET_FORM) pa_nil))))))))))), ?_⟩
  cases ws with
  | nil => exact absurd rfl hne
  | cons h r =>
  have hz : (300000 : Nat) ≤ sizeLine := by decide
  have hwr : ∀ w ∈ r, w.length ≤ 100000 := fun w hw' => hw w (List.mem_cons_of_mem _ hw')
  have hnr : r.length + 1 ≤ 100000 := by simpa using hn
  have e1 : cutV ((h :: r).map V.str) (some 1) none = r.map V.str := cutV_drop _ 1
  have e2 : cutV ((h :: r).map V.str) (some 2) none = r.tail.map V.str := by
    refine (cutV_drop _ 2).trans ?_
    cases r <;> simp
  refine ⟨_, rfl, l, _, 0, .str h, rfl, rfl, hl, atI_nat (j := 0) rfl, ?_⟩
  rcases kinds_at T h with ⟨ek, ev⟩ | ⟨ks, t, ek, ev, ht⟩
  rotate_left
  · rw [formV_kw ek] at k
    refine ⟨_, rfl, a.FORMS, formsAt a, .inr h, rfl, T.d_FORMS, rfl, _, rfl, ?_⟩
    rw [ev]
    refine iteT ?_
    refine ⟨_, rfl, _, rfl, _, rfl, l, _, rfl, hl, fun p hp => ?_⟩
    rw [e1]
    have hs := Same.new hp (.lst (r.map V.str))
    refine ⟨_, rfl, a.FORMS, formsAt a, .inr h, _, rfl, T.d_FORMS, rfl, ev, ?_⟩
    exact ⟨h, p, t, r, ks, rfl, .inl (.inl upd_same), ht _, hwr, by omega, k.mono hs⟩
  rw [formV_set ek] at k
  refine ⟨_, rfl, a.FORMS, formsAt a, .inr h, rfl, T.d_FORMS, rfl, _, rfl, ?_⟩
  rw [ev]
  refine iteF ?_
  refine ⟨_, rfl, l, _, rfl, .inl hl, _, _, rfl, rfl, _, rfl, ?_⟩
  rw [List.length_map]
  refine ite2 (fun c => ?_) (fun c => ?_)
  · have c' : (h :: r).length < 3 := by have := of_decide_eq_true c; omega
    rw [if_pos c'] at k
    exact iteT (k H (Same.refl H))
  have c' : ¬ (h :: r).length < 3 := by have := of_decide_eq_false (Bool.eq_false_iff.mpr c); omega
  rw [if_neg c'] at k
  cases r with
  | nil => simp at c'
  | cons g right =>
  refine ⟨_, rfl, l, _, 1, .str g, rfl, rfl, hl, atI_nat (j := 1) rfl, rfl, _, rfl, ?_⟩
  rw [str_dec]
  refine ite2 (fun c => ?_) (fun c => ?_)
  · have c2 : ¬ g = "=" := by simpa using c
    rw [if_neg (show ¬ (g :: right).head? = some ("=" : Str) from fun z => c2 (Option.some.inj z))] at k
    exact k H (Same.refl H)
  have c2 : g = "=" := by simpa using c
  subst c2
  rw [if_pos (show ("=" :: right : List Str).head? = some ("=" : Str) from rfl)] at k
  refine ⟨_, rfl, _, rfl, l, _, rfl, hl, fun p hp => ?_⟩
  rw [e2]
  have hs := Same.new hp (.lst ((("=" : Str) :: right).tail.map V.str))
  have e3 : ("=" :: right : List Str).tail = right := rfl
  rw [e3] at hs k ⊢
  have hlr : right.length + 2 ≤ 100000 := by simpa using hnr
  have hwr2 : ∀ w ∈ right, w.length ≤ 100000 := fun w hw' => hwr w (List.mem_cons_of_mem _ hw')
  have hh : h.length ≤ 100000 := hw h List.mem_cons_self
  refine ⟨_, rfl, p, _, rfl, .inl (.inl (.inl upd_same)), rfl, _, rfl, ?_⟩
  rw [List.length_map]
  refine join2c (P := fun (q : Addr) (H2 : Hp) => ∃ right2 : List Str, Same H H2 ∧ H2 q = some (.lst (right2.map V.str)) ∧ right2.length ≤ 100002 ∧ (∀ w ∈ right2, w.length ≤ 100000) ∧ ToldF H Q (filledV "set" (h :: right2) setKinds)) (w := p) (z := upd H p (.lst (right.map V.str))) (fun c => ?_) ?_ (fun c go => ?_)
  · refine ⟨right, hs, upd_same, by omega, hwr2, ?_⟩
    have c3 : ¬ right.length = 1 := by
      intro e
      rw [e] at c
      exact c (by decide)
    unfold setWords at k
    rw [if_neg c3] at k
    exact k
  · rintro q H2 ⟨right2, hs2, hq, hl2, hw2, k2⟩
    refine ⟨_, rfl, (by show 1 ≤ sizeLine; decide), fun b hb => ?_⟩
    refine ⟨_, rfl, b, q, [.str h], right2.map V.str, rfl, rfl, .inl (.inl upd_same), .inl (.inl ((Same.new hb _) _ _ hq)), ?_, fun d hd => ?_⟩
    · rw [List.length_map]
      show 1 + _ ≤ _
      omega
    · refine ⟨"set", d, a.SET_FORM, h :: right2, setKinds, rfl, .inl (.inl upd_same), T.t_SET_FORM _, ?_, by simp only [List.length_cons]; omega, k2.mono (hs2.trans ((Same.new hb _).trans (Same.new hd _)))⟩
      intro w hw'
      rcases List.mem_cons.mp hw' with rfl | h'
      · exact hh
      · exact hw2 w h'
  · have c3 : right.length = 1 := by
      have : V.int (right.length : Int) = V.int 1 := of_decide_eq_true c
      injection this with e
      omega
    refine ⟨_, rfl, (by show 2 ≤ sizeLine; decide), fun b hb => ?_⟩
    refine ⟨p, b, _, _, rfl, rfl, .inl (.inl ((Same.new hb _) _ _ upd_same)), .inl (.inl upd_same), ?_, fun d hd => ?_⟩
    · rw [List.length_map]
      show _ + 2 ≤ _
      omega
    refine go d _ ⟨right ++ (["+", "0"] : List Str), hs.trans ((Same.new hb _).trans (Same.new hd _)), ?_, ?_, ?_, ?_⟩
    · rw [List.map_append]
      exact upd_same
    · rw [List.length_append]
      show _ + 2 ≤ _
      omega
    · intro w hw'
      rcases List.mem_append.mp hw' with h' | h'
      · exact hwr2 w h'
      · have : ∀ w ∈ (["+", "0"] : List Str), w.length ≤ 100000 := by decide
        exact this w h'
    · unfold setWords at k
      rw [if_pos c3] at k
      exact k
theorem mulBits {x y : Int} (hx : Builtin.Int.intBits x ≤ 2 ^ 20 + 1) (hy : Builtin.Int.intBits y ≤ 128) : IntMulOk x y := by
  unfold IntMulOk
  have : Builtin.Int.intTooBig (Builtin.Int.intBits x + Builtin.Int.intBits y) = false := by
    have e : (2 : Nat) ^ 20 = 1048576 := by decide
    unfold Builtin.Int.intTooBig bitsLine
    exact decide_eq_false (by omega)
  rw [this]
  simp
theorem mixed_bits {k : Int} (h0 : 0 ≤ k) (h1 : k ≤ 100) : Builtin.Int.intBits (91343852333181432387730302044767688731 + 7919000003 * k * k) ≤ 128 := by
  have h2 : 0 ≤ k * k := Int.mul_nonneg h0 h0
  have h3 : k * k ≤ 100 * 100 := Int.mul_le_mul h1 h1 h0 (by decide)
  rw [Int.mul_assoc]
  generalize k * k = y at h2 h3
  exact (PySem.intBits_le_iff (m := 128)).mpr (by omega)
theorem ok__law_mixed (T : Tx P w K mg a) : FnOk P w K mg base CX0 1 a._law_mixed a.fd__law_mixed ["_law_cell", "_law_k"] sp__law_mixed := by
  refine T.F__law_mixed.ok sc__law_mixed (fun vs H Q E h => ?_) (fun cdv A outer s H vs Q E hr h => ?_)
  · obtain ⟨_, _, rfl, _⟩ := h
    rfl
  obtain ⟨c, k, rfl, hc, h0, h1, q⟩ := h
  refine ⟨_, (pss_cons (ps_set (i := 2) sc__law_mixed.nd rfl (Or.inl rfl) (pe_op oi_add pe_int (pe_op oi_mul (pe_op oi_mul pe_int (pv 1)) (pv 1))))
      (pss_one (ps_ret (pe_op oi_mod (pe_op oi_mul (pv 0) (pv 2)) pe_int)))), ?_⟩
  refine ⟨_, rfl, _, _, rfl, rfl, IntMulOk.of_left (intBits_le_64 (by decide) (by decide)), _, rfl, _, _, rfl, rfl, IntMulOk.of_right (intBits_le_64 (by omega) (by omega)), _, _, rfl, rfl, ?_⟩
  exact ⟨_, rfl, _, rfl, _, _, rfl, rfl, mulBits hc (mixed_bits h0 h1), _, _, rfl, rfl, (by show (0 : Int) < 170141183460469231731687303715884105727; decide), q⟩
theorem ok__law_keywords (T : Tx P w K mg a) : FnOk P w K mg base CX0 1 a._law_keywords a.fd__law_keywords [] sp__law_keywords := by
  refine T.F__law_keywords.ok sc__law_keywords (fun vs H Q E h => ?_) (fun cdv A outer s H vs Q E hr h => ?_)
  · obtain ⟨rfl, _⟩ := h
    rfl
  obtain ⟨rfl, q⟩ := h
  refine ⟨_, (pss_one (ps_ret (pe_lst (pa_const rfl)))), ?_⟩
  exact ⟨(by show 10 ≤ sizeLine; decide), fun p hp => q p _ (Same.new hp _) upd_same⟩
theorem ok__law_letters (T : Tx P w K mg a) : FnOk P w K mg base CX0 1 a._law_letters a.fd__law_letters ["_law_n", "_law_size"] sp__law_letters := by
  refine T.F__law_letters.ok sc__law_letters (fun vs H Q E h => ?_) (fun cdv A outer s H vs Q E hr h => ?_)
  · obtain ⟨_, _, rfl, _⟩ := h
    rfl
  obtain ⟨n, k, rfl, h0, h1, q⟩ := h
  refine ⟨_, (pss_cons (ps_set (i := 2) sc__law_letters.nd rfl (Or.inl rfl) pe_str)
      (pss_cons (ps_for PassesOwn.never rfl (pi_range1 rfl T.z_range (pa_cons (pv 1) pa_nil)) (pg_name (i := 3) sc__law_letters.nd rfl (Or.inl rfl))
      (pss_cons (ps_set (i := 2) sc__law_letters.nd rfl (Or.inl rfl) (pe_op op_add_str (pv 2) (pe_ix ix_str pe_str (pe_op oi_mod (pv 0) pe_int) (fun _ _ => rfl))))
      (pss_one (ps_set (i := 0) sc__law_letters.nd rfl (Or.inl rfl) (pe_op oi_fdiv (pv 0) pe_int)))))
      (pss_one (ps_ret (pv 2))))), ?_⟩
  refine ⟨_, rfl, k, rfl, by omega, by omega, for_range (fun i σ H2 => H2 = H ∧ ∃ (n' : Int) (z : Str) (v : Option V), σ = [some (.int n'), some (.int k), some (.str z), v] ∧ z.length = i ∧ isMade z letters = true) ⟨rfl, n, "", none, rfl, rfl, rfl⟩ ?_ ?_⟩
  · rintro i σ H2 hi ⟨rfl, n', z, v, rfl, hz, hm⟩
    obtain ⟨c, hc, hcm⟩ := atI_ex (xs := letters.cps.toList) (i := n' % 26) (Int.emod_nonneg _ (by decide)) (by
      have e : letters.cps.toList.length = 26 := by decide +kernel
      rw [e]
      exact Int.emod_lt_of_pos _ (by decide))
    refine ⟨_, rfl, _, rfl, _, _, rfl, rfl, (by show (0 : Int) < 26; decide), letters, _, c, rfl, rfl, (by decide +kernel), hc, _, _, rfl, rfl, ?_, ?_⟩
    · rw [hz]
      exact len_le_line (m := 2000) (by show i + 1 ≤ 2000; omega)
    · refine ⟨_, rfl, _, _, rfl, rfl, ⟨by decide, by decide⟩, rfl, _, _, _, rfl, ?_, ?_⟩
      · rw [str_len_append, hz]
        rfl
      · refine made_app hm ?_
        show (decide (c ∈ letters.cps.toList) && true) = true
        rw [decide_eq_true hcm]
        rfl
  · rintro σ H2 ⟨rfl, n', z, v, rfl, hz, hm⟩
    exact ⟨_, rfl, q z hz hm⟩
def someN : List Str := ["x", "xx", "xy", "yx", "ends", "iff", "a", "z", "aaaaaaaa", "aaaaaaab", "baaaaaaa", "aaaabaaa"]
theorem someN_pre : ∀ w ∈ someN, isMade w letters = true ∧ 1 ≤ w.length ∧ w.length ≤ 8 := by decide +kernel
theorem ok__law_name_by (T : Tx P w K mg a) : FnOk P w K mg base CX0 2 a._law_name_by a.fd__law_name_by ["_law_n"] sp__law_name_by := by
  refine T.F__law_name_by.ok sc__law_name_by (fun vs H Q E h => ?_) (fun cdv A outer s H vs Q E hr h => ?_)
  · obtain ⟨_, rfl, _⟩ := h
    rfl
  obtain ⟨n, rfl, q⟩ := h
  refine ⟨_, (pss_cons (ps_set (i := 1) sc__law_name_by.nd rfl (Or.inl rfl) (pe_op oi_add pe_int (pe_op oi_mod (pv 0) pe_int)))
      (pss_cons (ps_set (i := 2) sc__law_name_by.nd rfl (Or.inl rfl) (pe_op oi_mod (pe_op oi_fdiv (pv 0) pe_int) pe_int))
      (pss_cons (ps_set (i := 3) sc__law_name_by.nd rfl (Or.inl rfl) (pe_op oi_fdiv (pv 0) pe_int))
      (pss_cons (ps_set (i := 4) sc__law_name_by.nd rfl (Or.inl rfl) (pe_call (ok__law_letters T) (hr.mono (by decide)) rfl T.m__law_letters T.F__law_letters.kp T.b__law_letters .nil pass0 (pa_cons (pv 3) (pa_cons (pv 1) pa_nil))))
      (pss_cons (ps_if (pt_cmpR op_eq (pv 2) pe_int (nomark _)) (pss_cons (ps_set (i := 5) sc__law_name_by.nd rfl (Or.inl rfl) (pe_lst (pa_const rfl)))
      (pss_one (ps_set (i := 4) sc__law_name_by.nd rfl (Or.inl rfl) (pe_ix ix_list (pv 5) (pe_op oi_mod (pv 3) pe_int) (fun _ _ => rfl))))) pss_nil)
      (pss_cons (ps_if (pt_cmpR op_eq (pv 2) pe_int (nomark _)) (pss_cons (ps_set (i := 6) sc__law_name_by.nd rfl (Or.inl rfl) (pe_op oi_mod (pe_op oi_fdiv (pv 3) pe_int) (pv 1)))
      (pss_one (ps_set (i := 4) sc__law_name_by.nd rfl (Or.inl rfl) (pe_op op_add_str (pe_op op_add_str (pe_op op_mul_str pe_str (pv 6)) (pe_call (ok__law_letters T) (hr.mono (by decide)) rfl T.m__law_letters T.F__law_letters.kp T.b__law_letters .nil pass0 (pa_cons (pv 3) (pa_cons pe_int pa_nil)))) (pe_op op_mul_str pe_str (pe_op oi_sub (pe_op oi_sub (pv 1) pe_int) (pv 6))))))) pss_nil)
      (pss_cons (ps_if (pt_cmpR op_in_seq (pv 4) (pe_call0 (ok__law_keywords T) (hr.mono (by decide)) rfl T.m__law_keywords T.F__law_keywords.kp T.b__law_keywords .nil pass0) (by with_unfolding_all rfl)) (pss_one (ps_set (i := 4) sc__law_name_by.nd rfl (Or.inl rfl) (pe_op op_add_str (pv 4) pe_str))) pss_nil)
      (pss_one (ps_ret (pv 4)))))))))), ?_⟩
  refine ⟨_, rfl, _, _, rfl, rfl, (by decide), _, _, rfl, rfl, ?_⟩
  refine ⟨_, rfl, _, _, rfl, rfl, ⟨by decide, by decide⟩, _, _, rfl, rfl, (by decide), ?_⟩
  refine ⟨_, rfl, _, _, rfl, rfl, ⟨by decide, by decide⟩, ?_⟩
  have hs0 : 0 ≤ n % 8 := Int.emod_nonneg _ (by decide)
  have hs1 : n % 8 < 8 := Int.emod_lt_of_pos _ (by decide)
  generalize hsz : (1 + n % 8 : Int) = size
  generalize n / 8 % 4 = way
  generalize n / 32 = rest
  refine ⟨_, rfl, _, rfl, rest, size, rfl, by omega, by omega, fun word hw1 hw2 => ?_⟩
  refine ⟨_, rfl, rfl, _, rfl, ?_⟩
  refine join2c (P := fun (σ : St) (H2 : Hp) => Same H H2 ∧ ∃ (w2 : Str) (o5 o6 : Option V), σ = [some (.int n), some (.int size), some (.int way), some (.int rest), some (.str w2), o5, o6] ∧ preName w2) (fun c => ⟨Same.refl H, word, none, none, rfl, hw2, by omega, by omega⟩) ?_ (fun c go => ?_)
  rotate_left
  · refine ⟨(by show 12 ≤ sizeLine; decide), fun p hp => ?_⟩
    obtain ⟨v, hv, hm⟩ := atI_ex (xs := someN.map V.str) (i := rest % 12) (Int.emod_nonneg _ (by decide)) (by show rest % 12 < 12; exact Int.emod_lt_of_pos _ (by decide))
    obtain ⟨w2, hw2, rfl⟩ := List.mem_map.mp hm
    refine ⟨_, rfl, _, rfl, _, _, rfl, rfl, (by decide), p, someN.map V.str, _, _, rfl, rfl, .inl (.inl upd_same), hv, ?_⟩
    exact go _ _ ⟨Same.new hp _, w2, _, none, rfl, someN_pre w2 hw2⟩
  rintro σ H2 ⟨hs2, w2, o5, o6, rfl, hp2⟩
  clear hw1 hw2 word
  refine ⟨_, rfl, rfl, _, rfl, ?_⟩
  refine join2c (P := fun (σ : St) (H3 : Hp) => Same H H3 ∧ ∃ (w3 : Str) (o5 o6 : Option V), σ = [some (.int n), some (.int size), some (.int way), some (.int rest), some (.str w3), o5, o6] ∧ preName w3) (fun c => ⟨hs2, w2, o5, o6, rfl, hp2⟩) ?_ (fun c go => ?_)
  rotate_left
  · have a1 := Int.emod_nonneg (rest / 26) (show size ≠ 0 by omega)
    have a2 := Int.emod_lt_of_pos (rest / 26) (show 0 < size by omega)
    refine ⟨_, rfl, _, _, rfl, rfl, ⟨by decide, by decide⟩, _, rfl, _, _, rfl, rfl, (show 0 < size by omega), ?_⟩
    generalize rest / 26 % size = at1 at a1 a2
    have lm : ∀ k : Int, 0 ≤ k → k ≤ 8 → (Txt.mul ("m" : Str) k).length = k.toNat := fun k h0 h1 => by
      rw [mul_len _ h0]
      show 1 * _ = _
      omega
    refine ⟨_, rfl, _, _, rfl, rfl, mul_ok (by decide) a1 (by omega), _, rfl, rest, 1, rfl, by decide, by decide, fun z hz1 hz2 => ?_⟩
    have hz3 : z.length = 1 := hz1
    refine ⟨_, _, rfl, rfl, (by rw [lm _ a1 (by omega), hz3]; exact len_le_line (m := 100) (by omega)), ?_⟩
    refine ⟨_, rfl, _, _, rfl, rfl, _, rfl, _, _, rfl, rfl, _, _, rfl, rfl, mul_ok (by decide) (by omega) (by omega), ?_⟩
    have hlen : (Txt.mul ("m" : Str) at1 ++ z).length = at1.toNat + 1 := by rw [str_len_append, lm _ a1 (by omega), hz3]
    have hlen2 : (Txt.mul ("m" : Str) at1 ++ z ++ Txt.mul ("m" : Str) (size - 1 - at1)).length = at1.toNat + 1 + (size - 1 - at1).toNat := by rw [str_len_append, hlen, lm _ (by omega) (by omega)]
    refine ⟨_, _, rfl, rfl, (by rw [hlen, lm _ (by omega) (by omega)]; exact len_le_line (m := 100) (by omega)), ?_⟩
    refine go _ _ ⟨hs2, _, _, _, rfl, ?_, ?_, ?_⟩
    · exact made_app (made_app (made_mul (c := 109) (by decide +kernel)) hz2) (made_mul (c := 109) (by decide +kernel))
    · rw [hlen2]; omega
    · rw [hlen2]; omega
  rintro σ H3 ⟨hs3, w3, o5, o6, rfl, hp3⟩
  refine ⟨_, rfl, rfl, fun p H4 hs4 hp4 => ?_⟩
  refine ⟨p, kwV, rfl, .inl (.inl (.inl hp4)), rfl, rfl, _, rfl, ?_⟩
  refine ite2 (fun c => ?_) (fun c => ?_)
  · have c' : inV (.str w3) kwV = true := c
    exact ⟨_, rfl, _, _, rfl, rfl, (by have := kw_len c'; exact len_le_line (m := 100) (by show _ + 1 ≤ _; omega)), _, rfl, q _ _ (name_kw c') (hs3.trans hs4)⟩
  · have c' : ¬ inV (.str w3) kwV = true := c
    exact ⟨_, rfl, q _ _ (name_mk hp3 c') (hs3.trans hs4)⟩
theorem ok_row_of (T : Tx P w K mg a) : FnOk P w K mg base CX0 7 a.row_of a.fd_row_of ["row", "place"] sp_row_of := by
  refine T.F_row_of.ok sc_row_of (fun vs H Q E h => ?_) (fun cdv A outer s H vs Q E hr h => ?_)
  · obtain ⟨_, _, rfl, _⟩ := h
    rfl
  obtain ⟨x, i, rfl, hx, k⟩ := h
  refine ⟨_, (pss_cons (ps_set (i := 2) sc_row_of.nd rfl (Or.inl rfl) (pe_call (ok_words_of T) (hr.mono (by decide)) rfl T.m_words_of T.F_words_of.kp T.b_words_of .nil pass0 (pa_cons (pv 0) pa_nil)))
      (pss_cons (ps_if (pt_cmpR op_eq (pe_callB call_len_seq rfl T.z_len PySem.boot_len (pa_cons (pv 2) pa_nil)) pe_int (nomark _)) (pss_one (ps_ret pe_non)) pss_nil)
      (pss_cons (ps_set (i := 3) sc_row_of.nd rfl (Or.inl rfl) (pe_call (ok_form_of T) (hr.mono (by decide)) rfl T.m_form_of T.F_form_of.kp T.b_form_of .nil pass0 (pa_cons (pv 2) pa_nil)))
      (pss_cons (ps_if (pt_cmpR op_isN (pv 3) pe_non (nomark _)) (pss_one ps_never) pss_nil)
      (pss_one (ps_ret (pv 3))))))), ?_⟩
  have sz := words_sizes x
  refine ⟨_, rfl, x, rfl, hx, fun H1 p hs hp => ?_⟩
  refine ⟨_, rfl, p, _, rfl, .inl (.inl (.inl hp)), rfl, _, rfl, ?_⟩
  rcases k with ⟨e, k⟩ | ⟨e, xs, ef, k⟩
  · rw [e]
    exact iteT (k H1 hs)
  · rw [List.length_map]
    refine ite2 (fun c => ?_) (fun c => ?_)
    · have : V.int ((wordsIn x).length : Int) = V.int 0 := of_decide_eq_true c
      injection this with z
      exact absurd (List.length_eq_zero_iff.mp (by omega)) e
    · refine ⟨_, rfl, p, wordsIn x, rfl, .inl (.inl hp), e, fun w hw => Nat.le_trans (sz.2 w hw) (by omega), by omega, ?_⟩
      rw [ef]
      refine fun H2 d hs2 hd => ?_
      exact ⟨_, rfl, rfl, _, rfl, iteF ⟨_, rfl, k H2 d (hs.trans hs2) hd⟩⟩
theorem ok__law_cell_at (T : Tx P w K mg a) : FnOk P w K mg base CX0 1 a._law_cell_at a.fd__law_cell_at ["_law_script", "_law_k"] (sp__law_cell_at K) := by
  refine T.F__law_cell_at.ok sc__law_cell_at (fun vs H Q E h => ?_) (fun cdv A outer s H vs Q E hr h => ?_)
  · obtain ⟨_, _, _, rfl, _⟩ := h
    rfl
  obtain ⟨l, ns, k, rfl, hl, h0, hb, q⟩ := h
  refine ⟨_, (pss_cons (ps_if (pt_cmpR oi_lt (pv 1) (pe_callB call_len_seq rfl T.z_len PySem.boot_len (pa_cons (pv 0) pa_nil)) (nomark _)) (pss_one (ps_ret (pe_ix ix_list (pv 0) (pv 1) (fun _ _ => rfl)))) pss_nil)
      (pss_one (ps_ret pe_int))), ?_⟩
  refine ⟨_, rfl, _, rfl, l, _, rfl, .inl hl, _, _, rfl, rfl, _, rfl, ?_⟩
  rw [List.length_map]
  refine ite2 (fun c => ?_) (fun c => ?_)
  · have c' : k < (ns.length : Int) := of_decide_eq_true c
    obtain ⟨v, hv, hm⟩ := atI_ex (xs := ns.map V.int) h0 (by rw [List.length_map]; exact c')
    obtain ⟨n, hn, rfl⟩ := List.mem_map.mp hm
    exact ⟨_, rfl, _, rfl, l, _, _, _, rfl, rfl, hl, hv, q n (hb n hn)⟩
  · exact q 0 (by decide)
theorem p30' : (10 : Int) ^ (30 : Int).toNat = 1000000000000000000000000000000 := by decide +kernel
theorem p29' : (10 : Int) ^ (29 : Int).toNat = 100000000000000000000000000000 := by decide +kernel
theorem p18' : (10 : Int) ^ (18 : Int).toNat = 1000000000000000000 := by decide +kernel
theorem ok__law_value_by (T : Tx P w K mg a) : FnOk P w K mg base CX0 3 a._law_value_by a.fd__law_value_by ["_law_n"] sp__law_value_by := by
  refine T.F__law_value_by.ok sc__law_value_by (fun vs H Q E h => ?_) (fun cdv A outer s H vs Q E hr h => ?_)
  · obtain ⟨_, rfl, _⟩ := h
    rfl
  obtain ⟨n, rfl, q⟩ := h
  refine ⟨_, (pss_cons (ps_set (i := 1) sc__law_value_by.nd rfl (Or.inl rfl) (pe_op oi_mod (pv 0) pe_int))
      (pss_cons (ps_if (pt_cmpR oi_lt (pv 1) pe_int (nomark _)) (pss_one (ps_ret (pe_call (ok__law_name_by T) (hr.mono (by decide)) rfl T.m__law_name_by T.F__law_name_by.kp T.b__law_name_by .nil pass0 (pa_cons (pe_op oi_fdiv (pv 0) pe_int) pa_nil)))) pss_nil)
      (pss_cons (ps_if (pt_cmpR op_eq (pv 1) pe_int (nomark _)) (pss_cons (ps_set (i := 2) sc__law_value_by.nd rfl (Or.inl rfl) (pe_lst (pa_cons pe_int (pa_cons pe_int (pa_cons pe_int (pa_cons pe_int (pa_cons pe_int (pa_cons pe_int (pa_cons pe_int (pa_cons pe_int (pa_cons (pe_op oi_pow pe_int pe_int) (pa_cons (pe_op oi_sub (pe_op oi_pow pe_int pe_int) pe_int) (pa_cons (pe_op oi_sub (pe_op oi_pow pe_int pe_int) pe_int) (pa_cons (pe_op oi_pow pe_int pe_int) pa_nil))))))))))))))
      (pss_one (ps_ret (pe_ix ix_list (pv 2) (pe_op oi_mod (pe_op oi_fdiv (pv 0) pe_int) pe_int) (fun _ _ => rfl))))) pss_nil)
      (pss_one (ps_ret (pe_op oi_mod (pe_op oi_fdiv (pv 0) pe_int) (pe_op oi_pow pe_int pe_int))))))), ?_⟩
  refine ⟨_, rfl, _, _, rfl, rfl, (by decide), ?_⟩
  refine ⟨_, rfl, _, _, rfl, rfl, _, rfl, ?_⟩
  refine ite2 (fun c => ?_) (fun c => ?_)
  · exact ⟨_, rfl, _, _, rfl, rfl, ⟨by decide, by decide⟩, _, rfl, fun z H1 hz hs => q _ _ (.inl ⟨z, rfl, hz⟩) hs⟩
  refine ⟨_, rfl, rfl, _, rfl, ?_⟩
  have pw : ∀ k : Int, 0 ≤ k → k ≤ 100 → (0 ≤ k ∧ k ≤ 1000000 ∧ (10 : Int).natAbs < 2 ^ 64) := fun k h0 h1 => ⟨h0, by omega, by decide⟩
  refine ite2 (fun c => ?_) (fun c => ?_)
  · refine ⟨_, _, rfl, rfl, pw 29 (by decide) (by decide), _, _, rfl, rfl, pw 30 (by decide) (by decide), _, _, rfl, rfl, _, _, rfl, rfl, pw 30 (by decide) (by decide), _, _, rfl, rfl, _, _, rfl, rfl, pw 18 (by decide) (by decide), (by show 12 ≤ sizeLine; decide), fun p hp => ?_⟩
    refine ⟨_, rfl, _, rfl, _, _, rfl, rfl, ⟨by decide, by decide⟩, _, _, rfl, rfl, (by decide), ?_⟩
    obtain ⟨v, hv, hm⟩ := atI_ex (xs := [V.int 0, .int 1, .int 2, .int 9, .int 10, .int 11, .int 99, .int 100, .int (10 ^ (29 : Int).toNat), .int (10 ^ (30 : Int).toNat - 1), .int (10 ^ (30 : Int).toNat - 2), .int (10 ^ (18 : Int).toNat)]) (i := n / 4 % 12) (Int.emod_nonneg _ (by decide)) (by show n / 4 % 12 < 12; exact Int.emod_lt_of_pos _ (by decide))
    refine ⟨p, _, _, v, rfl, rfl, .inl (.inl upd_same), hv, q v _ ?_ (Same.new hp _)⟩
    rw [p29', p30', p18'] at hm
    have all : ∀ i ∈ [(0 : Int), 1, 2, 9, 10, 11, 99, 100, 100000000000000000000000000000, 1000000000000000000000000000000 - 1, 1000000000000000000000000000000 - 2, 1000000000000000000], 0 ≤ i ∧ i < 10 ^ 30 := by decide
    have hm' : v ∈ [(0 : Int), 1, 2, 9, 10, 11, 99, 100, 100000000000000000000000000000, 1000000000000000000000000000000 - 1, 1000000000000000000000000000000 - 2, 1000000000000000000].map V.int := hm
    obtain ⟨i, hi, rfl⟩ := List.mem_map.mp hm'
    exact .inr ⟨i, rfl, all i hi⟩
  · refine ⟨_, rfl, _, _, rfl, rfl, ⟨by decide, by decide⟩, _, _, rfl, rfl, pw 30 (by decide) (by decide), _, _, rfl, rfl, (by rw [p30']; decide), ?_⟩
    rw [p30']
    exact q _ _ (.inr ⟨_, rfl, Int.emod_nonneg _ (by decide), by have := Int.emod_lt_of_pos (n / 4) (show (0 : Int) < 1000000000000000000000000000000 by decide); omega⟩) (Same.refl H)
theorem ok__law_from (T : Tx P w K mg a) : FnOk P w K mg base CX0 1 a._law_from a.fd__law_from ["_law_n", "_law_least", "_law_greatest"] sp__law_from := by
  refine T.F__law_from.ok sc__law_from (fun vs H Q E h => ?_) (fun cdv A outer s H vs Q E hr h => ?_)
  · obtain ⟨_, _, _, rfl, _⟩ := h
    rfl
  obtain ⟨n, lo, hi, rfl, hle, q⟩ := h
  refine ⟨_, (pss_cons (ps_if (pt_cmpR op_eq (pe_op oi_mod (pv 0) pe_int) pe_int (nomark _)) (pss_one (ps_ret (pe_ix ix_list (pe_lst (pa_cons (pv 1) (pa_cons (pv 2) pa_nil))) (pe_op oi_mod (pe_op oi_fdiv (pv 0) pe_int) pe_int) (fun _ _ => rfl)))) pss_nil)
      (pss_one (ps_ret (pe_op oi_add (pv 1) (pe_op oi_mod (pe_op oi_fdiv (pv 0) pe_int) (pe_op oi_add (pe_op oi_sub (pv 2) (pv 1)) pe_int)))))), ?_⟩
  refine ⟨_, rfl, _, _, rfl, rfl, (by decide), rfl, _, rfl, ?_⟩
  refine ite2 (fun c => ?_) (fun c => ?_)
  · refine ⟨_, rfl, _, rfl, (by show 2 ≤ sizeLine; decide), fun p hp => ?_⟩
    obtain ⟨v, hv, hm⟩ := atI_ex (xs := [V.int lo, .int hi]) (i := n / 3 % 2) (Int.emod_nonneg _ (by decide)) (by show n / 3 % 2 < 2; exact Int.emod_lt_of_pos _ (by decide))
    refine ⟨_, rfl, _, _, rfl, rfl, ⟨by decide, by decide⟩, _, _, rfl, rfl, (by decide), p, _, _, v, rfl, rfl, .inl (.inl upd_same), hv, ?_⟩
    simp only [List.mem_cons, List.not_mem_nil, or_false] at hm
    rcases hm with rfl | rfl
    · exact q _ _ (Int.le_refl _) hle (Same.new hp _)
    · exact q _ _ hle (Int.le_refl _) (Same.new hp _)
  · have h1 := Int.emod_nonneg (n / 3) (show hi - lo + 1 ≠ 0 by omega)
    have h2 := Int.emod_lt_of_pos (n / 3) (show 0 < hi - lo + 1 by omega)
    exact ⟨_, rfl, _, rfl, _, _, rfl, rfl, ⟨by decide, by decide⟩, _, rfl, _, rfl, _, _, rfl, rfl, _, _, rfl, rfl, _, _, rfl, rfl, (show 0 < hi - lo + 1 by omega), _, _, rfl, rfl, q _ _ (by omega) (by omega) (Same.refl H)⟩
def Bnd (s : List Nat) (L : List (List Nat)) : Prop := ∀ b, wl (s ++ b) [] = L ++ wl b []
theorem blanks {k : Int} : ∀ c ∈ (Txt.mul (" " : Str) k).cps.toList, c = 32 := fun c hc => by
  have e : (Txt.mul (" " : Str) k).cps.toList = List.replicate k.toNat 32 := PyProof.Rows.mul_one_list 32 k
  rw [e] at hc
  exact (List.mem_replicate.mp hc).2
theorem bnd_step {s w t : List Nat} {L : List (List Nat)} (h : Bnd s L) (hw : 32 ∉ w) (hn : w ≠ []) (ht : ∀ c ∈ t, c = 32) (hl : t ≠ []) : Bnd (s ++ w ++ t) (L ++ [w]) := fun b => by
  cases t with
  | nil => exact absurd rfl hl
  | cons c t =>
    have e : c = 32 := ht c List.mem_cons_self
    subst e
    rw [List.append_assoc, List.append_assoc, h]
    show L ++ wl (w ++ 32 :: (t ++ b)) [] = _
    rw [wl_end _ _ hw, if_neg hn, wl_front t b fun d hd => ht d (List.mem_cons_of_mem _ hd), List.append_assoc]
theorem ok__law_spaced (T : Tx P w K mg a) : FnOk P w K mg base CX0 1 a._law_spaced a.fd__law_spaced ["_law_words", "_law_n"] (sp__law_spaced K) := by
  refine T.F__law_spaced.ok sc__law_spaced (fun vs H Q E h => ?_) (fun cdv A outer s H vs Q E hr h => ?_)
  · obtain ⟨_, _, _, rfl, _⟩ := h
    rfl
  obtain ⟨l, ws, n, rfl, hl, hn, hw, q⟩ := h
  refine ⟨_, (pss_cons (ps_set (i := 2) sc__law_spaced.nd rfl (Or.inl rfl) (pe_op op_mul_str pe_str (pe_op oi_mod (pv 1) pe_int)))
      (pss_cons (ps_for PassesOwn.never rfl (pi_list (pv 0)) (pg_name (i := 3) sc__law_spaced.nd rfl (Or.inl rfl))
      (pss_cons (ps_set (i := 1) sc__law_spaced.nd rfl (Or.inl rfl) (pe_op oi_fdiv (pv 1) pe_int))
      (pss_one (ps_set (i := 2) sc__law_spaced.nd rfl (Or.inl rfl) (pe_op op_add_str (pe_op op_add_str (pv 2) (pv 3)) (pe_op op_mul_str pe_str (pe_op oi_add pe_int (pe_op oi_mod (pv 1) pe_int))))))))
      (pss_cons (ps_if (pt_cmpR op_eq (pe_op oi_mod (pe_op oi_fdiv (pv 1) pe_int) pe_int) pe_int (nomark _)) (pss_one (ps_set (i := 2) sc__law_spaced.nd rfl (Or.inl rfl) (pe_bm0 PySem.F.plainAttrs_str PySem.F.slot_str_rstrip PySem.F.type_str_rstrip mt_rstrip (pv 2)))) pss_nil)
      (pss_one (ps_ret (pv 2)))))), ?_⟩
  have m0 : ∀ n : Int, 0 ≤ n % 3 ∧ n % 3 < 3 := fun n => ⟨Int.emod_nonneg _ (by decide), Int.emod_lt_of_pos _ (by decide)⟩
  have lm : ∀ k : Int, 0 ≤ k → (Txt.mul (" " : Str) k).length = k.toNat := fun k h0 => by
    rw [mul_len _ h0]
    show 1 * _ = _
    omega
  refine ⟨_, rfl, _, _, rfl, rfl, (by decide), _, _, rfl, rfl, mul_ok (by decide) (m0 n).1 (by have := (m0 n).2; omega), ?_⟩
  refine ⟨_, rfl, l, rfl, ⟨_, hl⟩, ?_⟩
  refine for_list (K := K) (xs := ws.map V.str) (fun i σ H2 => H2 = H ∧ ∃ (n' : Int) (x : Str) (v : Option V), σ = [some (.ref l), some (.int n'), some (.str x), v] ∧ x.length ≤ 2 + 43 * i ∧ Bnd x.cps.toList ((ws.take i).map fun p => p.cps.toList) ∧ ∀ c ∈ x.cps.toList, 32 ≤ c ∧ c < 127) ?_ ?_ ?_ ?_
  · refine ⟨rfl, n, _, none, rfl, ?_, ?_, ?_⟩
    · rw [lm _ (m0 n).1]
      have := (m0 n).2
      omega
    · exact fun b => wl_front _ b blanks
    · intro c hc
      have := blanks c hc
      omega
  · rintro i σ H2 _ ⟨rfl, _⟩
    exact hl
  · rintro i z σ H2 hz ⟨rfl, n', x, v, rfl, hx, hB, hc⟩
    have hi : i < 100 := by
      rcases Nat.lt_or_ge i (ws.map V.str).length with h | h
      · rw [List.length_map] at h; omega
      · rw [List.getElem?_eq_none h] at hz; cases hz
    rw [List.getElem?_map] at hz
    obtain ⟨g, hg, rfl⟩ := Option.map_eq_some_iff.mp hz
    have gw := hw g (List.mem_of_getElem? hg)
    have md := m0 (n' / 3)
    have ll : (Txt.mul (" " : Str) (1 + n' / 3 % 3)).length = (1 + n' / 3 % 3).toNat := lm _ (by omega)
    refine ⟨_, rfl, _, _, rfl, rfl, ⟨by decide, by decide⟩, ?_⟩
    refine ⟨_, rfl, _, rfl, _, _, rfl, rfl, len_le_line (m := 10000) (by have := gw.2.1; omega), ?_⟩
    refine ⟨_, rfl, _, _, rfl, rfl, (by decide), _, _, rfl, rfl, _, _, rfl, rfl, mul_ok (by decide) (by omega) (by omega), ?_⟩
    refine ⟨_, _, rfl, rfl, len_le_line (m := 10000) (by rw [str_len_append]; have := gw.2.1; omega), ?_⟩
    refine ⟨rfl, _, _, _, rfl, ?_, ?_, ?_⟩
    · rw [str_len_append, str_len_append]
      have := gw.2.1
      omega
    · rw [app_signs, app_signs, List.take_add_one, hg, List.map_append]
      refine bnd_step hB (fun z => ?_) (fun z => ?_) blanks (fun z => ?_)
      · have := gw.2.2 32 z
        omega
      · have h1 : g.cps.toList.length = g.length := Array.length_toList
        have := gw.1
        rw [z] at h1
        simp at h1
        omega
      · have h1 : (Txt.mul (" " : Str) (1 + n' / 3 % 3)).cps.toList.length = (Txt.mul (" " : Str) (1 + n' / 3 % 3)).length := Array.length_toList
        rw [z, ll] at h1
        simp at h1
        omega
    · intro c hcc
      rw [app_signs, app_signs] at hcc
      rcases List.mem_append.mp hcc with h | h
      · rcases List.mem_append.mp h with h | h
        · exact hc c h
        · have := gw.2.2 c h
          omega
      · have := blanks c h
        omega
  · rintro σ H2 ⟨rfl, n', x, v, rfl, hx, hB, hc⟩
    rw [List.length_map] at hx hB
    rw [List.take_of_length_le (Nat.le_refl _)] at hB
    have hwl : wl x.cps.toList [] = ws.map fun p => p.cps.toList := by
      have := hB []
      rw [List.append_nil] at this
      rw [this]
      show _ ++ [] = _
      rw [List.append_nil]
    refine ⟨_, rfl, _, _, rfl, rfl, ⟨by decide, by decide⟩, _, _, rfl, rfl, (by decide), rfl, _, rfl, ?_⟩
    refine ite2 (fun c => ?_) (fun c => ?_)
    · refine ⟨_, rfl, rfl, x, rfl, rfl, len_le_line (m := 10000) (by omega), _, rfl, q _ ?_ ?_ ?_⟩
      · obtain ⟨j, hj, e⟩ := PyProof.Rows.rstrip_is_prefix x
        have h1 : (Txt.rstrip x).cps.toList.length = (Txt.rstrip x).length := Array.length_toList
        rw [e, StrLaws.strSub_toList, List.length_take, List.length_drop] at h1
        rw [e]
        have h2 : x.cps.toList.length = x.length := Array.length_toList
        omega
      · obtain ⟨j, hj, e⟩ := PyProof.Rows.rstrip_is_prefix x
        intro c h
        rw [e, StrLaws.strSub_toList] at h
        exact hc c (List.mem_of_mem_drop (List.mem_of_mem_take h))
      · exact wordsIn_eq ((wl_rstrip hc).trans hwl)
    · exact ⟨_, rfl, q _ (by omega) hc (wordsIn_eq hwl)⟩
theorem str_any {v : V} (h : goodVal v) {R : VK} {H : Hp} (q : R (.str (valStr v)) H) : rStrAny [v] H R := by
  unfold rStrAny
  rcases h with ⟨w, rfl, hw⟩ | ⟨n, rfl, h0, h1⟩
  · exact .inl ⟨w, rfl, q⟩
  · refine .inr ⟨n, rfl, log_lt ?_, q⟩
    have e : (2 : Nat) ^ 100 ≤ 2 ^ 1000 := Nat.pow_le_pow_right (by decide) (by decide)
    omega
theorem good_kw {w : Str} (h : w ∈ kwS) : goodWord w := by
  have : ∀ w ∈ kwS, 1 ≤ w.length ∧ w.length ≤ 40 ∧ ∀ c ∈ w.cps.toList, 33 ≤ c ∧ c < 127 := by decide +kernel
  exact this w h
theorem all1 {α : Type} {p : α → Prop} {a : α} (h1 : p a) : ∀ x ∈ [a], p x := by simpa using h1
theorem all2 {α : Type} {p : α → Prop} {a b : α} (h1 : p a) (h2 : p b) : ∀ x ∈ [a, b], p x := by simpa using ⟨h1, h2⟩
theorem all3 {α : Type} {p : α → Prop} {a b c : α} (h1 : p a) (h2 : p b) (h3 : p c) : ∀ x ∈ [a, b, c], p x := by simpa using ⟨h1, h2, h3⟩
theorem all5 {α : Type} {p : α → Prop} {a b c d e : α} (h1 : p a) (h2 : p b) (h3 : p c) (h4 : p d) (h5 : p e) : ∀ x ∈ [a, b, c, d, e], p x := by simpa using ⟨h1, h2, h3, h4, h5⟩
theorem bf_f {x y z u : V} : List.lookup ("form" : Str) [(("form" : Str), x), ("deeds", y), ("others", z), ("turned", u)] = some x := lookup_hit
theorem bf_d {x y z u : V} : List.lookup ("deeds" : Str) [(("form" : Str), x), ("deeds", y), ("others", z), ("turned", u)] = some y := (lookup_miss (by decide +kernel)).trans lookup_hit
theorem bf_o {x y z u : V} : List.lookup ("others" : Str) [(("form" : Str), x), ("deeds", y), ("others", z), ("turned", u)] = some z := (lookup_miss (by decide +kernel)).trans ((lookup_miss (by decide +kernel)).trans lookup_hit)
theorem bf_t {x y z u : V} : List.lookup ("turned" : Str) [(("form" : Str), x), ("deeds", y), ("others", z), ("turned", u)] = some u := (lookup_miss (by decide +kernel)).trans ((lookup_miss (by decide +kernel)).trans ((lookup_miss (by decide +kernel)).trans lookup_hit))
theorem bf_none {k : Str} {x y z u : V} (h : ((k == ("form" : Str)) || (k == ("deeds" : Str)) || (k == ("others" : Str)) || (k == ("turned" : Str))) = false) : List.lookup k [(("form" : Str), x), ("deeds", y), ("others", z), ("turned", u)] = none := by
  simp only [Bool.or_eq_false_iff] at h
  rw [lookup_miss h.1.1.1, lookup_miss h.1.1.2, lookup_miss h.1.2, lookup_miss h.2]
  rfl
theorem ok_Block___init__ (T : Tx P w K mg a) : FnOk P w K mg base CX0 1 a.Block___init__ a.fd_Block___init__ ["self", "form"] (sp_Block___init__ a) := by
  refine T.F_Block___init__.ok sc_Block___init__ (fun vs H Q E h => ?_) (fun cdv A outer s H vs Q E hr h => ?_)
  · obtain ⟨_, _, _, rfl, _⟩ := h
    rfl
  obtain ⟨b, dx, f, rfl, h1, q⟩ := h
  refine ⟨_, (pss_cons (ps_fld (pv 0) (pv 1) rfl)
      (pss_cons (ps_fld (pv 0) (pe_lst pa_nil) rfl)
      (pss_cons (ps_fld (pv 0) (pe_lst pa_nil) rfl)
      (pss_one (ps_fld (pv 0) pe_bl rfl))))), ?_⟩
  refine ⟨_, rfl, _, rfl, b, a.C_Block, dx, [], rfl, h1, T.cl_Block, T.nf_Block_form, by simp, ?_⟩
  rw [putF_new [] rfl (by decide +kernel), List.nil_append]
  refine ⟨Nat.zero_le _, fun ld hld => ?_⟩
  have nd : b ≠ ld := fun z => by rw [← z, upd_same] at hld; cases hld
  refine ⟨_, rfl, b, a.C_Block, dx, _, rfl, by rw [upd_ne nd]; exact upd_same, T.cl_Block, T.nf_Block_deeds, by simp, ?_⟩
  rw [putF_new ["form"] rfl (by decide +kernel)]
  refine ⟨Nat.zero_le _, fun lo hlo => ?_⟩
  have no : b ≠ lo := fun z => by rw [← z, upd_same] at hlo; cases hlo
  refine ⟨_, rfl, b, a.C_Block, dx, _, rfl, by rw [upd_ne no]; exact upd_same, T.cl_Block, T.nf_Block_others, by simp, ?_⟩
  rw [putF_new ["form", "deeds"] rfl (by decide +kernel)]
  refine ⟨_, rfl, b, a.C_Block, dx, _, rfl, upd_same, T.cl_Block, T.nf_Block_turned, by simp, ?_⟩
  rw [putF_new ["form", "deeds", "others"] rfl (by decide +kernel)]
  rw [upd_ne no.symm] at hlo
  have dlo : lo ≠ ld := fun z => by rw [z, upd_same] at hlo; cases hlo
  have hld' : H ld = none := by rw [upd_ne nd.symm] at hld; exact hld
  have hlo' : H lo = none := by rw [upd_ne dlo, upd_ne no.symm] at hlo; exact hlo
  refine q _ ld lo (fun c o nc hc => ?_) hld' hlo' dlo.symm upd_same ?_ ?_
  · have f1 : c ≠ ld := fun z => by rw [z, hld'] at hc; cases hc
    have f2 : c ≠ lo := fun z => by rw [z, hlo'] at hc; cases hc
    rw [upd_ne nc, upd_ne nc, upd_ne f2, upd_ne nc, upd_ne f1, upd_ne nc]
    exact hc
  · rw [upd_ne nd.symm, upd_ne nd.symm, upd_ne dlo.symm, upd_ne nd.symm]
    exact upd_same
  · rw [upd_ne no.symm, upd_ne no.symm]
    exact upd_same
theorem ok_Block_lay (T : Tx P w K mg a) : FnOk P w K mg base CX0 1 a.Block_lay a.fd_Block_lay ["self", "deed"] (sp_Block_lay a) := by
  refine T.F_Block_lay.ok sc_Block_lay (fun vs H Q E h => ?_) (fun cdv A outer s H vs Q E hr h => ?_)
  · obtain ⟨_, _, _, _, _, _, _, _, _, rfl, _⟩ := h
    rfl
  obtain ⟨b, dx, f, ld, lo, t, xs, ys, v, rfl, h1, h2, h3, l2, l3, q⟩ := h
  refine ⟨_, (pss_one (ps_if (pt_val (pe_fld (pv 0) rfl)) (pss_one (ps_expr (pe_bm PySem.F.plainAttrs_list PySem.F.slot_list_append PySem.F.type_list_append mt_append (pe_fld (pv 0) rfl) (pa_cons (pv 1) pa_nil)))) (pss_one (ps_expr (pe_bm PySem.F.plainAttrs_list PySem.F.slot_list_append PySem.F.type_list_append mt_append (pe_fld (pv 0) rfl) (pa_cons (pv 1) pa_nil)))))), ?_⟩
  refine ⟨_, rfl, b, _, _, _, _, rfl, h1, T.cl_Block, T.nf_Block_turned, bf_t, _, rfl, ?_⟩
  cases t with
  | true =>
    exact ifYes rfl ⟨_, rfl, b, _, _, _, _, rfl, h1, T.cl_Block, T.nf_Block_others, bf_o, .inl ⟨rfl, _, SqL.of h3⟩, _, rfl, lo, _, _, rfl, rfl, h3, Nat.lt_of_lt_of_le (Nat.lt_trans l3 (by decide)) (show 1000000 ≤ sizeLine by decide), q⟩
  | false =>
    exact ifNo rfl ⟨_, rfl, b, _, _, _, _, rfl, h1, T.cl_Block, T.nf_Block_deeds, bf_d, .inl ⟨rfl, _, SqL.of h2⟩, _, rfl, ld, _, _, rfl, rfl, h2, Nat.lt_of_lt_of_le (Nat.lt_trans l2 (by decide)) (show 1000000 ≤ sizeLine by decide), q⟩
theorem ok_Block_turn (T : Tx P w K mg a) : FnOk P w K mg base CX0 1 a.Block_turn a.fd_Block_turn ["self"] (sp_Block_turn a) := by
  refine T.F_Block_turn.ok sc_Block_turn (fun vs H Q E h => ?_) (fun cdv A outer s H vs Q E hr h => ?_)
  · obtain ⟨_, _, _, _, _, _, rfl, _⟩ := h
    rfl
  obtain ⟨b, dx, f, ld, lo, t, rfl, h1, q⟩ := h
  refine ⟨_, (pss_one (ps_fld (pv 0) pe_bl rfl)), ?_⟩
  refine ⟨_, rfl, b, _, _, _, rfl, h1, T.cl_Block, T.nf_Block_turned, by simp, ?_⟩
  have e2 : putF ("turned" : Str) (V.bl true) [(("form" : Str), V.ref f), ("deeds", .ref ld), ("others", .ref lo), ("turned", .bl t)] = [(("form" : Str), V.ref f), ("deeds", .ref ld), ("others", .ref lo), ("turned", .bl true)] := by
    rw [putF, if_neg (by decide +kernel), putF, if_neg (by decide +kernel), putF, if_neg (by decide +kernel), putF, if_pos rfl]
  rw [e2]
  exact q
theorem atI0 {x : V} {r : List V} : atI (x :: r) 0 = some x := show atI (x :: r) ((0 : Nat) : Int) = some x from atI_nat rfl
theorem ln13 : 13 ≤ sizeLine := by decide
theorem ok_Block_may_turn (T : Tx P w K mg a) : FnOk P w K mg base CX0 1 a.Block_may_turn a.fd_Block_may_turn ["self"] (sp_Block_may_turn a) := by
  refine T.F_Block_may_turn.ok sc_Block_may_turn (fun vs H Q E h => ?_) (fun cdv A outer s H vs Q E hr h => ?_)
  · obtain ⟨_, _, _, _, _, _, _, _, rfl, _⟩ := h
    rfl
  obtain ⟨b, dx, f, ld, lo, t, h, r, rfl, h1, h2, q⟩ := h
  refine ⟨_, (pss_one (ps_ret (pe_and (pe_cmpR op_eq (pe_ix ix_tup (pe_fld (pv 0) rfl) pe_int (fun _ _ => rfl)) pe_str (nomark _)) (pe_one (pe_not (pe_fld (pv 0) rfl)))))), ?_⟩
  refine ⟨_, rfl, b, _, _, _, _, rfl, h1, T.cl_Block, T.nf_Block_form, bf_f, f, _, _, _, rfl, rfl, SqT.of h2, atI0, ?_⟩
  refine ⟨rfl, _, rfl, ?_⟩
  by_cases e : h = "if"
  · subst e
    refine ifYes (by decide) ⟨_, rfl, b, _, _, _, _, rfl, h1, T.cl_Block, T.nf_Block_turned, bf_t, _, rfl, ?_⟩
    rw [decide_eq_true rfl, Bool.true_and] at q
    exact q
  · refine ifN (fun z => e (by cases z; rfl)) ?_
    rw [decide_eq_false e, Bool.false_and] at q
    exact q
theorem ok_Block_whole (T : Tx P w K mg a) : FnOk P w K mg base CX0 1 a.Block_whole a.fd_Block_whole ["self"] (sp_Block_whole a) := by
  refine T.F_Block_whole.ok sc_Block_whole (fun vs H Q E h => ?_) (fun cdv A outer s H vs Q E hr h => ?_)
  · obtain ⟨_, _, _, _, _, _, _, _, rfl, _⟩ := h
    rfl
  obtain ⟨b, dx, f, ld, lo, t, h, r, rfl, h1, h2, rl, q⟩ := h
  refine ⟨_, (pss_cons (ps_if (pt_cmpR op_eq (pe_ix ix_tup (pe_fld (pv 0) rfl) pe_int (fun _ _ => rfl)) pe_str (nomark _)) (pss_one (ps_ret (pe_op op_catT (pe_fld (pv 0) rfl) (pe_tup (pa_cons (pe_fld (pv 0) rfl) (pa_cons (pe_fld (pv 0) rfl) pa_nil)))))) pss_nil)
      (pss_one (ps_ret (pe_op op_catT (pe_fld (pv 0) rfl) (pe_tup (pa_cons (pe_fld (pv 0) rfl) pa_nil)))))), ?_⟩
  refine ⟨_, rfl, b, _, _, _, _, rfl, h1, T.cl_Block, T.nf_Block_form, bf_f, f, _, _, _, rfl, rfl, SqT.of h2, atI0, ?_⟩
  refine ⟨rfl, _, rfl, ?_⟩
  by_cases e : h = "if"
  · subst e
    refine ifYes (by decide) ⟨_, rfl, b, _, _, _, _, rfl, h1, T.cl_Block, T.nf_Block_form, bf_f, _, rfl, b, _, _, _, _, rfl, h1, T.cl_Block, T.nf_Block_deeds, bf_d, _, rfl, b, _, _, _, _, rfl, h1, T.cl_Block, T.nf_Block_others, bf_o, by show 2 ≤ sizeLine; decide, fun p hp => ?_⟩
    have s1 := Same.new hp (.tup [.ref ld, .ref lo])
    exact ⟨f, p, _, _, rfl, rfl, SqT.of (s1 _ _ h2), SqT.of upd_same, List.cons_ne_nil _ _, Nat.le_trans (by show r.length + 1 + 2 ≤ 13; omega) ln13, fun z => (List.cons_ne_nil _ _ z).elim, fun _ p2 hp2 => q _ _ (s1.trans (Same.new hp2 _)) (Same.none s1 hp2) (by rw [if_pos rfl]; exact upd_same)⟩
  · refine ifN (fun z => e (by cases z; rfl)) ⟨_, rfl, b, _, _, _, _, rfl, h1, T.cl_Block, T.nf_Block_form, bf_f, _, rfl, b, _, _, _, _, rfl, h1, T.cl_Block, T.nf_Block_deeds, bf_d, by show 1 ≤ sizeLine; decide, fun p hp => ?_⟩
    have s1 := Same.new hp (.tup [.ref ld])
    exact ⟨f, p, _, _, rfl, rfl, SqT.of (s1 _ _ h2), SqT.of upd_same, List.cons_ne_nil _ _, Nat.le_trans (by show r.length + 1 + 1 ≤ 13; omega) ln13, fun z => (List.cons_ne_nil _ _ z).elim, fun _ p2 hp2 => q _ _ (s1.trans (Same.new hp2 _)) (Same.none s1 hp2) (by rw [if_neg e]; exact upd_same)⟩
theorem gf_a {x y z u v : V} : List.lookup ("asks" : Str) [(("asks" : Str), x), ("stores", y), ("body", z), ("blocks", u), ("begun", v)] = some x := lookup_hit
theorem gf_s {x y z u v : V} : List.lookup ("stores" : Str) [(("asks" : Str), x), ("stores", y), ("body", z), ("blocks", u), ("begun", v)] = some y := (lookup_miss (by decide +kernel)).trans lookup_hit
theorem gf_b {x y z u v : V} : List.lookup ("body" : Str) [(("asks" : Str), x), ("stores", y), ("body", z), ("blocks", u), ("begun", v)] = some z := (lookup_miss (by decide +kernel)).trans ((lookup_miss (by decide +kernel)).trans lookup_hit)
theorem gf_l {x y z u v : V} : List.lookup ("blocks" : Str) [(("asks" : Str), x), ("stores", y), ("body", z), ("blocks", u), ("begun", v)] = some u := (lookup_miss (by decide +kernel)).trans ((lookup_miss (by decide +kernel)).trans ((lookup_miss (by decide +kernel)).trans lookup_hit))
theorem gf_g {x y z u v : V} : List.lookup ("begun" : Str) [(("asks" : Str), x), ("stores", y), ("body", z), ("blocks", u), ("begun", v)] = some v := (lookup_miss (by decide +kernel)).trans ((lookup_miss (by decide +kernel)).trans ((lookup_miss (by decide +kernel)).trans ((lookup_miss (by decide +kernel)).trans lookup_hit)))
theorem gf_none {k : Str} {x y z u v : V} (h : ((k == ("asks" : Str)) || (k == ("stores" : Str)) || (k == ("body" : Str)) || (k == ("blocks" : Str)) || (k == ("begun" : Str))) = false) : List.lookup k [(("asks" : Str), x), ("stores", y), ("body", z), ("blocks", u), ("begun", v)] = none := by
  simp only [Bool.or_eq_false_iff] at h
  rw [lookup_miss h.1.1.1.1, lookup_miss h.1.1.1.2, lookup_miss h.1.1.2, lookup_miss h.1.2, lookup_miss h.2]
  rfl
theorem ok_Reading___init__ (T : Tx P w K mg a) : FnOk P w K mg base CX0 1 a.Reading___init__ a.fd_Reading___init__ ["self"] (sp_Reading___init__ a) := by
  refine T.F_Reading___init__.ok sc_Reading___init__ (fun vs H Q E h => ?_) (fun cdv A outer s H vs Q E hr h => ?_)
  · obtain ⟨_, _, rfl, _⟩ := h
    rfl
  obtain ⟨r, dx, rfl, h1, q⟩ := h
  refine ⟨_, (pss_cons (ps_fld (pv 0) pe_dnewK rfl)
      (pss_cons (ps_fld (pv 0) pe_dnewK rfl)
      (pss_cons (ps_fld (pv 0) (pe_lst pa_nil) rfl)
      (pss_cons (ps_fld (pv 0) (pe_lst pa_nil) rfl)
      (pss_one (ps_fld (pv 0) pe_bl rfl)))))), ?_⟩
  refine fun da hda => ?_
  have n1 : r ≠ da := fun z => by rw [← z, h1] at hda; cases hda
  refine ⟨_, rfl, r, a.C_Reading, dx, [], rfl, by rw [upd_ne n1]; exact h1, T.cl_Reading, T.nf_Reading_asks, by simp, ?_⟩
  rw [putF_new [] rfl (by decide +kernel), List.nil_append]
  refine fun ds hds => ?_
  have n2 : r ≠ ds := fun z => by rw [← z, upd_same] at hds; cases hds
  refine ⟨_, rfl, r, a.C_Reading, dx, _, rfl, by rw [upd_ne n2]; exact upd_same, T.cl_Reading, T.nf_Reading_stores, by simp, ?_⟩
  rw [putF_new ["asks"] rfl (by decide +kernel)]
  refine ⟨Nat.zero_le _, fun lb hlb => ?_⟩
  have n3 : r ≠ lb := fun z => by rw [← z, upd_same] at hlb; cases hlb
  refine ⟨_, rfl, r, a.C_Reading, dx, _, rfl, by rw [upd_ne n3]; exact upd_same, T.cl_Reading, T.nf_Reading_body, by simp, ?_⟩
  rw [putF_new ["asks", "stores"] rfl (by decide +kernel)]
  refine ⟨Nat.zero_le _, fun ls hls => ?_⟩
  have n4 : r ≠ ls := fun z => by rw [← z, upd_same] at hls; cases hls
  refine ⟨_, rfl, r, a.C_Reading, dx, _, rfl, by rw [upd_ne n4]; exact upd_same, T.cl_Reading, T.nf_Reading_blocks, by simp, ?_⟩
  rw [putF_new ["asks", "stores", "body"] rfl (by decide +kernel)]
  refine ⟨_, rfl, r, a.C_Reading, dx, _, rfl, upd_same, T.cl_Reading, T.nf_Reading_begun, by simp, ?_⟩
  rw [putF_new ["asks", "stores", "body", "blocks"] rfl (by decide +kernel)]
  have e2 : ds ≠ da := fun z => by rw [z, upd_ne n1.symm, upd_same] at hds; cases hds
  have hds' : H ds = none := by rw [upd_ne n2.symm, upd_ne e2] at hds; exact hds
  have e3 : lb ≠ ds := fun z => by rw [z, upd_ne n2.symm, upd_same] at hlb; cases hlb
  have e3' : lb ≠ da := fun z => by rw [z, upd_ne n1.symm, upd_ne e2.symm, upd_ne n1.symm, upd_same] at hlb; cases hlb
  have hlb' : H lb = none := by rw [upd_ne n3.symm, upd_ne e3, upd_ne n3.symm, upd_ne e3'] at hlb; exact hlb
  have e4 : ls ≠ lb := fun z => by rw [z, upd_ne n3.symm, upd_same] at hls; cases hls
  have e4' : ls ≠ ds := fun z => by rw [z, upd_ne n2.symm, upd_ne e3.symm, upd_ne n2.symm, upd_same] at hls; cases hls
  have e4'' : ls ≠ da := fun z => by rw [z, upd_ne n1.symm, upd_ne e3'.symm, upd_ne n1.symm, upd_ne e2.symm, upd_ne n1.symm, upd_same] at hls; cases hls
  have hls' : H ls = none := by rw [upd_ne n4.symm, upd_ne e4, upd_ne n4.symm, upd_ne e4', upd_ne n4.symm, upd_ne e4''] at hls; exact hls
  refine q _ da ds lb ls (fun c o nc hc => ?_) hda hds' hlb' hls' e2.symm e4.symm upd_same ?_ ?_ ?_ ?_
  · have k1 : c ≠ da := fun z => by rw [z, hda] at hc; cases hc
    have k2 : c ≠ ds := fun z => by rw [z, hds'] at hc; cases hc
    have k3 : c ≠ lb := fun z => by rw [z, hlb'] at hc; cases hc
    have k4 : c ≠ ls := fun z => by rw [z, hls'] at hc; cases hc
    rw [upd_ne nc, upd_ne nc, upd_ne k4, upd_ne nc, upd_ne k3, upd_ne nc, upd_ne k2, upd_ne nc, upd_ne k1]
    exact hc
  · rw [upd_ne n1.symm, upd_ne n1.symm, upd_ne e4''.symm, upd_ne n1.symm, upd_ne e3'.symm, upd_ne n1.symm, upd_ne e2.symm, upd_ne n1.symm]
    exact upd_same
  · rw [upd_ne n2.symm, upd_ne n2.symm, upd_ne e4'.symm, upd_ne n2.symm, upd_ne e3.symm, upd_ne n2.symm]
    exact upd_same
  · rw [upd_ne n3.symm, upd_ne n3.symm, upd_ne e4.symm, upd_ne n3.symm]
    exact upd_same
  · rw [upd_ne n4.symm, upd_ne n4.symm]
    exact upd_same
def kd : HO → Nat
  | .lst _ => 0
  | .tup _ => 1
  | .dK _ => 2
  | .ins _ _ fs => 10 + fs.length
  | _ => 5
theorem ne_kd {H : Hp} {x y : Addr} {o p : HO} (h1 : H x = some o) (h2 : H y = some p) (n : kd o ≠ kd p) : x ≠ y := fun e => n (congrArg kd (Option.some.inj (h1.symm.trans (e ▸ h2))))
theorem BlAt.same {a : Adr} {H0 H H' : Hp} (e : Same H H') {z : Bl} {m m' : Nat} (hm : m ≤ m') (h : BlAt a H0 H z m) : BlAt a H0 H' z m' := by
  obtain ⟨h1, h2, ⟨xs, h4, h5, h5'⟩, ⟨ys, h6, h7, h7'⟩⟩ := h
  exact ⟨e _ _ h1, e _ _ h2, ⟨xs, e _ _ h4, h5, by omega⟩, ⟨ys, e _ _ h6, h7, by omega⟩⟩
theorem BlAt.frz {a : Adr} {H0 H0' H : Hp} (e : Same H0 H0') {z : Bl} {m : Nat} (h : BlAt a H0 H z m) : BlAt a H0' H z m := by
  obtain ⟨h1, h2, ⟨xs, h4, h5, h5'⟩, ⟨ys, h6, h7, h7'⟩⟩ := h
  exact ⟨h1, h2, ⟨xs, h4, RDs.same e h5, h5'⟩, ⟨ys, h6, RDs.same e h7, h7'⟩⟩
theorem BlAt.off {a : Adr} {H0 H : Hp} {c : Addr} {o : HO} {z : Bl} {m m' : Nat} (hm : m ≤ m') (h : BlAt a H0 H z m) (n1 : z.b ≠ c) (n2 : z.f ≠ c) (n3 : z.ld ≠ c) (n4 : z.lo ≠ c) : BlAt a H0 (upd H c o) z m' := by
  obtain ⟨h1, h2, ⟨xs, h4, h5, h5'⟩, ⟨ys, h6, h7, h7'⟩⟩ := h
  exact ⟨by rw [upd_ne n1]; exact h1, by rw [upd_ne n2]; exact h2, ⟨xs, by rw [upd_ne n3]; exact h4, h5, by omega⟩, ⟨ys, by rw [upd_ne n4]; exact h6, h7, by omega⟩⟩
section
variable {H0 H : Hp} {r dx da ds lb ls : Addr} {zs : List Bl} {R : RS} {m : Nat}
theorem RdH.more {H' : Hp} (e : Same H H') {m' : Nat} (hm : m ≤ m') (h : RdH a H0 H r dx da ds lb ls zs R m) : RdH a H0 H' r dx da ds lb ls zs R m' :=
  ⟨h.sa.trans e, e _ _ h.ro, e _ _ h.ao, e _ _ h.so, h.bo.imp fun xs hx => ⟨e _ _ hx.1, hx.2.1, Nat.le_trans hx.2.2 hm⟩, e _ _ h.lo, fun z hz => (h.bs z hz).same e hm, h.eb, h.dj, h.dl, h.db, h.na, h.ns, Nat.le_trans h.la hm, Nat.le_trans h.lst hm, h.f1, h.f2, h.f3, h.f4, h.f5⟩
theorem RdH.same_upd {c : Addr} {o : HO} (h : Same H0 H) (n : H0 c = none) : Same H0 (upd H c o) := fun b x hb => by
  rw [upd_ne (fun e => by rw [e, n] at hb; cases hb)]
  exact h _ _ hb
theorem RdH.list_in (h : RdH a H0 H r dx da ds lb ls zs R m) {c : Addr} (hc : c ∈ lsts lb ls zs) : ∃ xs, H c = some (.lst xs) := by
  unfold lsts at hc
  simp only [List.mem_cons, List.mem_flatMap, List.not_mem_nil, or_false] at hc
  rcases hc with rfl | rfl | ⟨z, hz, rfl | rfl⟩
  · obtain ⟨xs, hx, _⟩ := h.bo
    exact ⟨xs, hx⟩
  · exact ⟨_, h.lo⟩
  · obtain ⟨xs, hx, _⟩ := (h.bs z hz).de
    exact ⟨xs, hx⟩
  · obtain ⟨xs, hx, _⟩ := (h.bs z hz).ot
    exact ⟨xs, hx⟩
theorem RdH.ld_in {z : Bl} (hz : z ∈ zs) : z.ld ∈ lsts lb ls zs ∧ z.lo ∈ lsts lb ls zs := by
  unfold lsts
  simp only [List.mem_cons, List.mem_flatMap, List.not_mem_nil, or_false]
  exact ⟨.inr (.inr ⟨z, hz, .inl rfl⟩), .inr (.inr ⟨z, hz, .inr rfl⟩)⟩
theorem RdH.begun (h : RdH a H0 H r dx da ds lb ls zs R m) : RdH a H0 (upd H r (RdO a dx da ds lb ls true)) r dx da ds lb ls zs { R with bg := true } m := by
  have nl : ∀ {c : Addr} {xs : List V}, H c = some (.lst xs) → c ≠ r := fun hc => ne_kd hc h.ro (show (0 : Nat) ≠ 15 by decide)
  have hf := h.so
  obtain ⟨xs, hx, hn, hl0⟩ := h.bo
  refine ⟨RdH.same_upd h.sa h.f1, upd_same, ?_, ?_, ⟨xs, ?_, hn, by omega⟩, ?_, fun z hz => ?_, h.eb, h.dj, h.dl, h.db, h.na, h.ns, h.la, h.lst, h.f1, h.f2, h.f3, h.f4, h.f5⟩
  · rw [upd_ne (ne_kd h.ao h.ro (show (2 : Nat) ≠ 15 by decide))]; exact h.ao
  · rw [upd_ne (ne_kd hf h.ro (show (2 : Nat) ≠ 15 by decide))]; exact hf
  · rw [upd_ne (nl hx)]; exact hx
  · rw [upd_ne (nl h.lo)]; exact h.lo
  · have b := h.bs z hz
    have b2 := b.fo
    obtain ⟨_, b3, _⟩ := b.de
    obtain ⟨_, b4, _⟩ := b.ot
    exact b.off (Nat.le_refl _) (ne_kd b.ob h.ro (show (14 : Nat) ≠ 15 by decide)) (ne_kd b2 h.ro (show (1 : Nat) ≠ 15 by decide)) (nl b3) (nl b4)
theorem RdH.ask {x : Str} (h : RdH a H0 H r dx da ds lb ls zs R m) (nx : x ∉ R.ak) : RdH a H0 (upd H da (.dK (Tr.tabV (R.ak ++ [x]) fun _ => .bl true))) r dx da ds lb ls zs { R with ak := R.ak ++ [x] } (m + 1) := by
  have nl : ∀ {c : Addr} {xs : List V}, H c = some (.lst xs) → c ≠ da := fun hc => ne_kd hc h.ao (show (0 : Nat) ≠ 2 by decide)
  have hf := h.so
  obtain ⟨xs, hx, hn, hl0⟩ := h.bo
  refine ⟨RdH.same_upd h.sa h.f2, ?_, upd_same, ?_, ⟨xs, ?_, hn, by omega⟩, ?_, fun z hz => ?_, h.eb, h.dj, h.dl, h.db, ?_, h.ns, ?_, Nat.le_succ_of_le h.lst, h.f1, h.f2, h.f3, h.f4, h.f5⟩
  · rw [upd_ne (ne_kd h.ro h.ao (show (15 : Nat) ≠ 2 by decide))]; exact h.ro
  · rw [upd_ne h.dj.symm]; exact hf
  · rw [upd_ne (nl hx)]; exact hx
  · rw [upd_ne (nl h.lo)]; exact h.lo
  · have b := h.bs z hz
    have b2 := b.fo
    obtain ⟨_, b3, _⟩ := b.de
    obtain ⟨_, b4, _⟩ := b.ot
    exact b.off (Nat.le_succ _) (ne_kd b.ob h.ao (show (14 : Nat) ≠ 2 by decide)) (ne_kd b2 h.ao (show (1 : Nat) ≠ 2 by decide)) (nl b3) (nl b4)
  · show (R.ak ++ [x]).Nodup
    rw [List.nodup_append]
    exact ⟨h.na, by simp, fun u hu v hv => by rw [List.mem_singleton.mp hv]; exact fun e => nx (e ▸ hu)⟩
  · show (R.ak ++ [x]).length ≤ m + 1
    rw [List.length_append]
    exact Nat.succ_le_succ h.la
theorem RdH.sto {x : Str} {n : Int} (h : RdH a H0 H r dx da ds lb ls zs R m) (nx : x ∉ kys R.st) : RdH a H0 (upd H ds (.dK (stK (R.st ++ [(x, n)])))) r dx da ds lb ls zs { R with st := R.st ++ [(x, n)] } (m + 1) := by
  have hf := h.so
  have nl : ∀ {c : Addr} {xs : List V}, H c = some (.lst xs) → c ≠ ds := fun hc => ne_kd hc hf (show (0 : Nat) ≠ 2 by decide)
  obtain ⟨xs, hx, hn, hl0⟩ := h.bo
  refine ⟨RdH.same_upd h.sa h.f3, ?_, ?_, upd_same, ⟨xs, ?_, hn, by omega⟩, ?_, fun z hz => ?_, h.eb, h.dj, h.dl, h.db, h.na, ?_, Nat.le_succ_of_le h.la, ?_, h.f1, h.f2, h.f3, h.f4, h.f5⟩
  · rw [upd_ne (ne_kd h.ro hf (show (15 : Nat) ≠ 2 by decide))]; exact h.ro
  · rw [upd_ne h.dj]; exact h.ao
  · rw [upd_ne (nl hx)]; exact hx
  · rw [upd_ne (nl h.lo)]; exact h.lo
  · have b := h.bs z hz
    have b2 := b.fo
    obtain ⟨_, b3, _⟩ := b.de
    obtain ⟨_, b4, _⟩ := b.ot
    exact b.off (Nat.le_succ _) (ne_kd b.ob hf (show (14 : Nat) ≠ 2 by decide)) (ne_kd b2 hf (show (1 : Nat) ≠ 2 by decide)) (nl b3) (nl b4)
  · show (kys (R.st ++ [(x, n)])).Nodup
    unfold kys
    rw [List.map_append, List.nodup_append]
    exact ⟨h.ns, by simp, fun u hu v hv => by rw [List.mem_singleton.mp hv]; exact fun e => nx ((show u = x from e) ▸ hu)⟩
  · show (R.st ++ [(x, n)]).length ≤ m + 1
    rw [List.length_append]
    exact Nat.succ_le_succ h.lst
theorem RdH.freeze (h : RdH a H0 H r dx da ds lb ls zs R m) {c : Addr} {o : HO} (hc : H c = some o) (n1 : r ≠ c) (n2 : da ≠ c) (n3 : ds ≠ c) (n4 : c ∉ lsts lb ls zs) (n5 : ∀ z ∈ zs, z.b ≠ c) : Same H0 (upd H0 c o) ∧ RdH a (upd H0 c o) H r dx da ds lb ls zs R m := by
  have e : Same H0 (upd H0 c o) := fun x y hx => by
    by_cases z : x = c
    · subst z
      have := h.sa _ _ hx
      rw [hc] at this
      rw [upd_same]
      exact this
    · rw [upd_ne z]; exact hx
  obtain ⟨xs, hx, hn, hl0⟩ := h.bo
  refine ⟨e, fun x y hx => ?_, h.ro, h.ao, h.so, ⟨xs, hx, RDs.same e hn, hl0⟩, h.lo, fun z hz => (h.bs z hz).frz e, h.eb, h.dj, h.dl, h.db, h.na, h.ns, h.la, h.lst, by rw [upd_ne n1]; exact h.f1, by rw [upd_ne n2]; exact h.f2, by rw [upd_ne n3]; exact h.f3, fun x hx => by rw [upd_ne (fun z => n4 (by rw [← z]; exact hx))]; exact h.f4 x hx, fun z hz => by rw [upd_ne (n5 z hz)]; exact h.f5 z hz⟩
  by_cases z : x = c
  · subst z
    rw [upd_same] at hx
    rw [hc]
    exact hx
  · rw [upd_ne z] at hx
    exact h.sa _ _ hx
theorem RdH.body {xs : List V} {v : V} {d : Deed} (h : RdH a H0 H r dx da ds lb ls zs R m) (hx : H lb = some (.lst xs)) (hd : RD H0 v d) : RdH a H0 (upd H lb (.lst (xs ++ [v]))) r dx da ds lb ls zs { R with top := R.top ++ [d] } (m + 1) := by
  have hf := h.so
  obtain ⟨xs', hx', hn, hl0⟩ := h.bo
  obtain rfl : xs = xs' := by rw [hx] at hx'; cases hx'; rfl
  have dl := h.dl
  unfold lsts at dl
  simp only [List.nodup_cons, List.mem_cons, not_or] at dl
  refine ⟨RdH.same_upd h.sa (h.f4 lb (by unfold lsts; exact List.mem_cons_self)), ?_, ?_, ?_, ⟨_, upd_same, RDs.app hn (.cons hd .nil), by rw [List.length_append]; exact Nat.succ_le_succ hl0⟩, ?_, fun z hz => ?_, h.eb, h.dj, h.dl, h.db, h.na, h.ns, Nat.le_succ_of_le h.la, Nat.le_succ_of_le h.lst, h.f1, h.f2, h.f3, h.f4, h.f5⟩
  · rw [upd_ne (ne_kd h.ro hx (show (15 : Nat) ≠ 0 by decide))]; exact h.ro
  · rw [upd_ne (ne_kd h.ao hx (show (2 : Nat) ≠ 0 by decide))]; exact h.ao
  · rw [upd_ne (ne_kd hf hx (show (2 : Nat) ≠ 0 by decide))]; exact hf
  · rw [upd_ne (fun e => dl.1.1 e.symm)]; exact h.lo
  · have b := h.bs z hz
    have b2 := b.fo
    refine b.off (Nat.le_succ _) (ne_kd b.ob hx (show (14 : Nat) ≠ 0 by decide)) (ne_kd b2 hx (show (1 : Nat) ≠ 0 by decide)) (fun e => dl.1.2 ?_) (fun e => dl.1.2 ?_)
    · exact List.mem_flatMap.mpr ⟨z, hz, by rw [e]; simp⟩
    · exact List.mem_flatMap.mpr ⟨z, hz, by rw [e]; simp⟩
theorem lsts_snoc {z : Bl} : lsts lb ls (zs ++ [z]) = lsts lb ls zs ++ [z.ld, z.lo] := by
  unfold lsts
  rw [List.flatMap_append]
  simp
theorem lsts_apart {z : Bl} (dl : (lsts lb ls (zs ++ [z])).Nodup) : (lsts lb ls zs).Nodup ∧ z.ld ≠ z.lo ∧ ∀ c ∈ lsts lb ls zs, c ≠ z.ld ∧ c ≠ z.lo := by
  rw [lsts_snoc, List.nodup_append] at dl
  obtain ⟨d1, d2, d3⟩ := dl
  refine ⟨d1, ?_, fun c hc => ⟨d3 c hc _ (by simp), d3 c hc _ (by simp)⟩⟩
  simp at d2
  exact d2
theorem RdH.lay_last {z : Bl} {xs : List V} {v : V} {d : Deed} (h : RdH a H0 H r dx da ds lb ls (zs ++ [z]) R m) (hx : H (if z.t = true then z.lo else z.ld) = some (.lst xs)) (hd : RD H0 v d) : RdH a H0 (upd H (if z.t = true then z.lo else z.ld) (.lst (xs ++ [v]))) r dx da ds lb ls (zs ++ [if z.t = true then { z with os := z.os ++ [d] } else { z with ds := z.ds ++ [d] }]) { R with fr := R.fr.dropLast ++ [lay1 z.fr d] } (m + 1) := by
  have hf := h.so
  obtain ⟨ys, hy, hn, hl0⟩ := h.bo
  obtain ⟨d1, d2, d3⟩ := lsts_apart h.dl
  have hc : (if z.t = true then z.lo else z.ld) = z.ld ∨ (if z.t = true then z.lo else z.ld) = z.lo := by split; exact .inr rfl; exact .inl rfl
  have ap : ∀ e ∈ lsts lb ls zs, e ≠ (if z.t = true then z.lo else z.ld) := fun e he => by
    split
    · exact (d3 e he).2
    · exact (d3 e he).1
  have ci : (if z.t = true then z.lo else z.ld) ∈ lsts lb ls (zs ++ [z]) := by
    rw [lsts_snoc]
    split <;> simp
  have ez : ∀ z' : Bl, z' = (if z.t = true then { z with os := z.os ++ [d] } else { z with ds := z.ds ++ [d] }) → z'.b = z.b ∧ z'.ld = z.ld ∧ z'.lo = z.lo ∧ z'.fr = lay1 z.fr d := fun z' e => by
    subst e
    unfold lay1 Bl.fr
    cases z.t <;> exact ⟨rfl, rfl, rfl, rfl⟩
  obtain ⟨eb1, eb2, eb3, eb4⟩ := ez _ rfl
  have el : lsts lb ls (zs ++ [if z.t = true then { z with os := z.os ++ [d] } else { z with ds := z.ds ++ [d] }]) = lsts lb ls (zs ++ [z]) := by rw [lsts_snoc, lsts_snoc, eb2, eb3]
  have db := h.db
  have efr : R.fr.dropLast = zs.map Bl.fr := by rw [← h.eb]; simp
  refine ⟨RdH.same_upd h.sa (h.f4 _ ci), ?_, ?_, ?_, ⟨ys, ?_, hn, by omega⟩, ?_, fun y hz => ?_, ?_, h.dj, by rw [el]; exact h.dl, ?_, h.na, h.ns, Nat.le_succ_of_le h.la, Nat.le_succ_of_le h.lst, h.f1, h.f2, h.f3, fun c hc => h.f4 c (by rw [el] at hc; exact hc), fun y hy => ?_⟩
  · rw [upd_ne (ne_kd h.ro hx (show (15 : Nat) ≠ 0 by decide))]; exact h.ro
  · rw [upd_ne (ne_kd h.ao hx (show (2 : Nat) ≠ 0 by decide))]; exact h.ao
  · rw [upd_ne (ne_kd hf hx (show (2 : Nat) ≠ 0 by decide))]; exact hf
  · rw [upd_ne (ap _ (by unfold lsts; simp))]; exact hy
  · rw [upd_ne (ap _ (by unfold lsts; simp)), h.lo, List.map_append, List.map_append, List.map_cons, List.map_cons, eb1]
  · rcases List.mem_append.mp hz with q | q
    · have b := h.bs y (List.mem_append_left _ q)
      exact b.off (Nat.le_succ _) (ne_kd b.ob hx (show (14 : Nat) ≠ 0 by decide)) (ne_kd b.fo hx (show (1 : Nat) ≠ 0 by decide)) (ap _ (RdH.ld_in q).1) (ap _ (RdH.ld_in q).2)
    · obtain rfl := List.mem_singleton.mp q
      have b := h.bs z (by simp)
      obtain ⟨us, b3, b3', b3''⟩ := b.de
      obtain ⟨ws, b4, b4', b4''⟩ := b.ot
      have n1 := ne_kd b.ob hx (show (14 : Nat) ≠ 0 by decide)
      have n2 := ne_kd b.fo hx (show (1 : Nat) ≠ 0 by decide)
      obtain ⟨zb, zdx, zf, zld, zlo, zk, zds, zos, zt⟩ := z
      cases zt with
      | true =>
        have hx : H zlo = some (.lst xs) := hx
        have b4 : H zlo = some (.lst ws) := b4
        obtain rfl : ws = xs := by rw [hx] at b4; cases b4; rfl
        exact ⟨(upd_ne n1).trans b.ob, (upd_ne n2).trans b.fo, ⟨us, (upd_ne d2).trans b3, b3', by omega⟩, ⟨_, upd_same, RDs.app b4' (.cons hd .nil), by rw [List.length_append]; exact Nat.succ_le_succ b4''⟩⟩
      | false =>
        have hx : H zld = some (.lst xs) := hx
        have b3 : H zld = some (.lst us) := b3
        obtain rfl : us = xs := by rw [hx] at b3; cases b3; rfl
        exact ⟨(upd_ne n1).trans b.ob, (upd_ne n2).trans b.fo, ⟨_, upd_same, RDs.app b3' (.cons hd .nil), by rw [List.length_append]; exact Nat.succ_le_succ b3''⟩, ⟨ws, (upd_ne d2.symm).trans b4, b4', by omega⟩⟩
  · rw [List.map_append, efr, List.map_cons, eb4]; rfl
  · rw [List.map_append, List.map_cons, eb1]
    rw [List.map_append] at db
    exact db
  · rcases List.mem_append.mp hy with q | q
    · exact h.f5 y (List.mem_append_left _ q)
    · rw [List.mem_singleton.mp q, eb1]
      exact h.f5 z (by simp)
theorem RdH.turn {z : Bl} (h : RdH a H0 H r dx da ds lb ls (zs ++ [z]) R m) : RdH a H0 (upd H z.b (BlkO a z.dx z.f z.ld z.lo true)) r dx da ds lb ls (zs ++ [{ z with t := true }]) { R with fr := R.fr.dropLast ++ [{ z.fr with t := true }] } (m + 1) := by
  have hf := h.so
  obtain ⟨ys, hy, hn, hl0⟩ := h.bo
  have hz : z ∈ zs ++ [z] := by simp
  have bz := h.bs z hz
  have nl : ∀ {c : Addr} {xs : List V}, H c = some (.lst xs) → c ≠ z.b := fun hc => ne_kd hc bz.ob (show (0 : Nat) ≠ 14 by decide)
  have eb : R.fr.dropLast = zs.map Bl.fr := by rw [← h.eb]; simp
  have el : lsts lb ls (zs ++ [{ z with t := true }]) = lsts lb ls (zs ++ [z]) := by rw [lsts_snoc, lsts_snoc]
  have db := h.db
  rw [List.map_append, List.nodup_append] at db
  refine ⟨RdH.same_upd h.sa (h.f5 z hz), ?_, ?_, ?_, ⟨ys, ?_, hn, by omega⟩, ?_, fun y hy => ?_, ?_, h.dj, by rw [el]; exact h.dl, ?_, h.na, h.ns, Nat.le_succ_of_le h.la, Nat.le_succ_of_le h.lst, h.f1, h.f2, h.f3, fun c hc => h.f4 c (by rw [el] at hc; exact hc), fun y hy => ?_⟩
  · rw [upd_ne (ne_kd h.ro bz.ob (show (15 : Nat) ≠ 14 by decide))]; exact h.ro
  · rw [upd_ne (ne_kd h.ao bz.ob (show (2 : Nat) ≠ 14 by decide))]; exact h.ao
  · rw [upd_ne (ne_kd hf bz.ob (show (2 : Nat) ≠ 14 by decide))]; exact hf
  · rw [upd_ne (nl hy)]; exact hy
  · rw [upd_ne (nl h.lo), h.lo, List.map_append, List.map_append]; rfl
  · rcases List.mem_append.mp hy with q | q
    · have b := h.bs y (List.mem_append_left _ q)
      have b2 := b.fo
      obtain ⟨_, b3, _⟩ := b.de
      obtain ⟨_, b4, _⟩ := b.ot
      refine b.off (Nat.le_succ _) (db.2.2 _ (List.mem_map.mpr ⟨y, q, rfl⟩) _ (by simp)) (ne_kd b2 bz.ob (show (1 : Nat) ≠ 14 by decide)) (nl b3) (nl b4)
    · obtain rfl := List.mem_singleton.mp q
      have b2 := bz.fo
      obtain ⟨us, b3, b3', b3''⟩ := bz.de
      obtain ⟨ws, b4, b4', b4''⟩ := bz.ot
      exact ⟨upd_same, by show upd H z.b _ z.f = _; rw [upd_ne (ne_kd b2 bz.ob (show (1 : Nat) ≠ 14 by decide))]; exact b2, ⟨us, by show upd H z.b _ z.ld = _; rw [upd_ne (nl b3)]; exact b3, b3', by omega⟩, ⟨ws, by show upd H z.b _ z.lo = _; rw [upd_ne (nl b4)]; exact b4, b4', by omega⟩⟩
  · rw [eb, List.map_append]; rfl
  · rw [List.map_append, List.nodup_append]; exact db
  · rcases List.mem_append.mp hy with q | q
    · exact h.f5 y (List.mem_append_left _ q)
    · obtain rfl := List.mem_singleton.mp q
      exact h.f5 z hz
theorem RdH.pop {z : Bl} (h : RdH a H0 H r dx da ds lb ls (zs ++ [z]) R m) : RdH a H0 (upd H ls (.lst (zs.map fun z => V.ref z.b))) r dx da ds lb ls zs { R with fr := R.fr.dropLast } m := by
  have hf := h.so
  obtain ⟨ys, hy, hn, hl0⟩ := h.bo
  obtain ⟨d1, d2, d3⟩ := lsts_apart h.dl
  have dl := d1
  unfold lsts at dl
  simp only [List.nodup_cons, List.mem_cons, not_or] at dl
  have db := h.db
  rw [List.map_append, List.nodup_append] at db
  have fi : ∀ c ∈ lsts lb ls zs, H0 c = none := fun c hc => h.f4 c (by rw [lsts_snoc]; exact List.mem_append_left _ hc)
  refine ⟨RdH.same_upd h.sa (fi ls (by unfold lsts; simp)), ?_, ?_, ?_, ⟨ys, ?_, hn, by omega⟩, upd_same, fun y hy => ?_, ?_, h.dj, d1, db.1, h.na, h.ns, h.la, h.lst, h.f1, h.f2, h.f3, fi, fun y hy => h.f5 y (List.mem_append_left _ hy)⟩
  · rw [upd_ne (ne_kd h.ro h.lo (show (15 : Nat) ≠ 0 by decide))]; exact h.ro
  · rw [upd_ne (ne_kd h.ao h.lo (show (2 : Nat) ≠ 0 by decide))]; exact h.ao
  · rw [upd_ne (ne_kd hf h.lo (show (2 : Nat) ≠ 0 by decide))]; exact hf
  · rw [upd_ne dl.1.1]; exact hy
  · have b := h.bs y (List.mem_append_left _ hy)
    have b2 := b.fo
    exact b.off (Nat.le_refl _) (ne_kd b.ob h.lo (show (14 : Nat) ≠ 0 by decide)) (ne_kd b2 h.lo (show (1 : Nat) ≠ 0 by decide)) (fun e => dl.2.1 (List.mem_flatMap.mpr ⟨y, hy, by rw [e]; simp⟩)) (fun e => dl.2.1 (List.mem_flatMap.mpr ⟨y, hy, by rw [e]; simp⟩))
  · show _ = R.fr.dropLast
    rw [← h.eb]; simp
theorem RdH.push {z : Bl} (h : RdH a H0 H r dx da ds lb ls zs R m) (hb : BlAt a H0 H z 0) (f1 : H0 z.b = none) (f2 : H0 z.ld = none) (f3 : H0 z.lo = none) (ne : z.ld ≠ z.lo) (ap : ∀ c ∈ lsts lb ls zs, c ≠ z.ld ∧ c ≠ z.lo) (nb : ∀ y ∈ zs, y.b ≠ z.b) :
    RdH a H0 (upd H ls (.lst ((zs ++ [z]).map fun z => V.ref z.b))) r dx da ds lb ls (zs ++ [z]) { R with fr := R.fr ++ [z.fr] } (m + 1) := by
  have hf := h.so
  obtain ⟨ys, hy, hn, hl0⟩ := h.bo
  have dl := h.dl
  unfold lsts at dl
  simp only [List.nodup_cons, List.mem_cons, not_or] at dl
  have lsi : ls ∈ lsts lb ls zs := by unfold lsts; simp
  refine ⟨RdH.same_upd h.sa (h.f4 ls lsi), ?_, ?_, ?_, ⟨ys, ?_, hn, by omega⟩, upd_same, fun y hy => ?_, ?_, h.dj, ?_, ?_, h.na, h.ns, Nat.le_succ_of_le h.la, Nat.le_succ_of_le h.lst, h.f1, h.f2, h.f3, fun c hc => ?_, fun y hy => ?_⟩
  · rw [upd_ne (ne_kd h.ro h.lo (show (15 : Nat) ≠ 0 by decide))]; exact h.ro
  · rw [upd_ne (ne_kd h.ao h.lo (show (2 : Nat) ≠ 0 by decide))]; exact h.ao
  · rw [upd_ne (ne_kd hf h.lo (show (2 : Nat) ≠ 0 by decide))]; exact hf
  · rw [upd_ne dl.1.1]; exact hy
  · rcases List.mem_append.mp hy with q | q
    · have b := h.bs y q
      have b2 := b.fo
      exact b.off (Nat.le_succ _) (ne_kd b.ob h.lo (show (14 : Nat) ≠ 0 by decide)) (ne_kd b2 h.lo (show (1 : Nat) ≠ 0 by decide)) (fun e => dl.2.1 (List.mem_flatMap.mpr ⟨y, q, by rw [e]; simp⟩)) (fun e => dl.2.1 (List.mem_flatMap.mpr ⟨y, q, by rw [e]; simp⟩))
    · obtain rfl := List.mem_singleton.mp q
      have b2 := hb.fo
      exact hb.off (Nat.zero_le _) (ne_kd hb.ob h.lo (show (14 : Nat) ≠ 0 by decide)) (ne_kd b2 h.lo (show (1 : Nat) ≠ 0 by decide)) (ap ls lsi).1.symm (ap ls lsi).2.symm
  · rw [List.map_append, h.eb]; rfl
  · rw [lsts_snoc, List.nodup_append]
    refine ⟨h.dl, by simp [ne], fun u hu v hv => ?_⟩
    simp only [List.mem_cons, List.not_mem_nil, or_false] at hv
    rcases hv with rfl | rfl
    · exact (ap u hu).1
    · exact (ap u hu).2
  · rw [List.map_append, List.nodup_append]
    refine ⟨h.db, by simp, fun u hu v hv => ?_⟩
    obtain ⟨y, hy, rfl⟩ := List.mem_map.mp hu
    simp only [List.map_cons, List.map_nil, List.mem_singleton] at hv
    rw [hv]
    exact nb y hy
  · rw [lsts_snoc] at hc
    rcases List.mem_append.mp hc with q | q
    · exact h.f4 c q
    · simp only [List.mem_cons, List.not_mem_nil, or_false] at q
      rcases q with rfl | rfl
      · exact f2
      · exact f3
  · rcases List.mem_append.mp hy with q | q
    · exact h.f5 y q
    · obtain rfl := List.mem_singleton.mp q
      exact f1
end
theorem lay_nil {R : RS} {d : Deed} (h : R.fr = []) : R.lay d = { R with top := R.top ++ [d] } := by unfold RS.lay; rw [h]; rfl
theorem lay_snoc {R : RS} {d : Deed} {f : Fr6} (h : R.fr.getLast? = some f) : R.lay d = { R with fr := R.fr.dropLast ++ [lay1 f d] } := by unfold RS.lay; rw [h]
theorem last_fr {zs : List Bl} {z : Bl} {fr : List Fr6} (e : (zs ++ [z]).map Bl.fr = fr) : fr.getLast? = some z.fr := by rw [← e, List.map_append]; simp
theorem ok_Reading_lay_down (T : Tx P w K mg a) : FnOk P w K mg base CX0 2 a.Reading_lay_down a.fd_Reading_lay_down ["self", "deed"] (sp_Reading_lay_down a) := by
  refine T.F_Reading_lay_down.ok sc_Reading_lay_down (fun vs H Q E h => ?_) (fun cdv A outer s H vs Q E hr h => ?_)
  · obtain ⟨_, _, _, _, _, _, _, _, _, _, _, _, rfl, _⟩ := h
    rfl
  obtain ⟨H0, r, dx, da, ds, lb, ls, zs, R, m, v, d, rfl, h, hm, hd, q⟩ := h
  refine ⟨_, (pss_one (ps_if (pt_cmpR op_eq (pe_callB call_len_seq rfl T.z_len PySem.boot_len (pa_cons (pe_fld (pv 0) rfl) pa_nil)) pe_int (nomark _)) (pss_one (ps_expr (pe_bm PySem.F.plainAttrs_list PySem.F.slot_list_append PySem.F.type_list_append mt_append (pe_fld (pv 0) rfl) (pa_cons (pv 1) pa_nil)))) (pss_one (ps_expr (pe_meth (pe_ix ix_list (pe_fld (pv 0) rfl) (pe_un un_neg pe_int) (fun _ _ => rfl)) T.cl_Block T.mt_Block_lay (ok_Block_lay T) (hr.mono (by decide)) T.b_Block_lay .nil pass0 (pa_cons (pv 1) pa_nil)))))), ?_⟩
  refine ⟨_, rfl, r, _, _, _, _, rfl, h.ro, T.cl_Reading, T.nf_Reading_blocks, gf_l, ls, _, rfl, .inl (SqL.of h.lo), ?_⟩
  rw [List.length_map]
  refine ⟨rfl, _, rfl, ?_⟩
  obtain ⟨xs, hx, hn, hl0⟩ := h.bo
  rcases List.eq_nil_or_concat zs with e | ⟨zs', z, e⟩
  · subst e
    refine ifYes (by decide) ⟨_, rfl, r, _, _, _, _, rfl, h.ro, T.cl_Reading, T.nf_Reading_body, gf_b, .inl ⟨rfl, _, SqL.of hx⟩, _, rfl, lb, _, _, rfl, rfl, hx, Nat.lt_of_lt_of_le (by omega) (show 1000000 ≤ sizeLine by decide), ?_⟩
    refine q _ [] ?_
    rw [lay_nil (by rw [← h.eb]; rfl)]
    exact h.body hx hd
  · rw [List.concat_eq_append] at e
    subst e
    refine ifN (fun z => by simp at z; omega) ?_
    have bz := h.bs z (by simp)
    obtain ⟨us, b3, b3', b3''⟩ := bz.de
    obtain ⟨ws, b4, b4', b4''⟩ := bz.ot
    refine ⟨_, rfl, r, _, _, _, _, rfl, h.ro, T.cl_Reading, T.nf_Reading_blocks, gf_l, _, rfl, ls, _, _, _, rfl, rfl, SqL.of h.lo, by rw [List.map_append]; exact atI_last _ _, z.b, _, _, rfl, bz.ob, bf_none (by decide +kernel), _, rfl, z.b, z.dx, z.f, z.ld, z.lo, z.t, us, ws, v, rfl, bz.ob, b3, b4, by omega, by omega, ?_⟩
    have k1 : z.t = true → RdH a H0 (upd H z.lo (.lst (ws ++ [v]))) r dx da ds lb ls _ (R.lay d) (m + 1) := fun zt => by
      have := h.lay_last (v := v) (d := d) (xs := ws) (by rw [if_pos zt]; exact b4) hd
      rw [if_pos zt] at this
      rw [lay_snoc (last_fr h.eb)]
      exact this
    have k2 : z.t = false → RdH a H0 (upd H z.ld (.lst (us ++ [v]))) r dx da ds lb ls _ (R.lay d) (m + 1) := fun zt => by
      have zt' : ¬ z.t = true := by rw [zt]; decide
      have := h.lay_last (v := v) (d := d) (xs := us) (by rw [if_neg zt']; exact b3) hd
      rw [if_neg zt'] at this
      rw [lay_snoc (last_fr h.eb)]
      exact this
    cases zt : z.t with
    | true => exact q _ _ (k1 zt)
    | false => exact q _ _ (k2 zt)
theorem ok_Reading_may_turn_innermost (T : Tx P w K mg a) : FnOk P w K mg base CX0 2 a.Reading_may_turn_innermost a.fd_Reading_may_turn_innermost ["self"] (sp_Reading_may_turn_innermost a) := by
  refine T.F_Reading_may_turn_innermost.ok sc_Reading_may_turn_innermost (fun vs H Q E h => ?_) (fun cdv A outer s H vs Q E hr h => ?_)
  · obtain ⟨_, _, _, _, _, _, _, _, _, _, _, _, rfl, _⟩ := h
    rfl
  obtain ⟨H0, r, dx, da, ds, lb, ls, zs, R, m, f, x, rfl, h, hf, fk, ft, q⟩ := h
  refine ⟨_, (pss_one (ps_ret (pe_and (pe_cmpR oi_gt (pe_callB call_len_seq rfl T.z_len PySem.boot_len (pa_cons (pe_fld (pv 0) rfl) pa_nil)) pe_int (nomark _)) (pe_one (pe_meth0 (pe_ix ix_list (pe_fld (pv 0) rfl) (pe_un un_neg pe_int) (fun _ _ => rfl)) T.cl_Block T.mt_Block_may_turn (ok_Block_may_turn T) (hr.mono (by decide)) T.b_Block_may_turn .nil pass0))))), ?_⟩
  refine ⟨_, rfl, r, _, _, _, _, rfl, h.ro, T.cl_Reading, T.nf_Reading_blocks, gf_l, ls, _, rfl, .inl (SqL.of h.lo), ?_⟩
  rw [List.length_map]
  refine ⟨_, _, rfl, rfl, _, rfl, ?_⟩
  rcases List.eq_nil_or_concat zs with e | ⟨zs', z, e⟩
  · subst e
    rw [← h.eb] at hf
    cases hf
  · rw [List.concat_eq_append] at e
    subst e
    have bz := h.bs z (by simp)
    have b2 := bz.fo
    rw [last_fr h.eb] at hf
    obtain rfl := Option.some.inj hf
    have fk : z.k = .cond x := fk
    have ft : z.t = false := ft
    rw [fk] at b2
    refine ifYes (decide_eq_true (by simp)) ⟨_, rfl, r, _, _, _, _, rfl, h.ro, T.cl_Reading, T.nf_Reading_blocks, gf_l, _, rfl, ls, _, _, _, rfl, rfl, SqL.of h.lo, by rw [List.map_append]; exact atI_last _ _, z.b, _, _, rfl, bz.ob, bf_none (by decide +kernel), z.b, z.dx, z.f, z.ld, z.lo, z.t, "if", _, rfl, bz.ob, b2, ?_⟩
    rw [ft]
    exact q
theorem none_upd {H : Hp} {x b : Addr} {o : HO} (h : upd H x o b = none) : H b = none := by
  by_cases e : b = x
  · rw [e, upd_same] at h; cases h
  · rw [upd_ne e] at h; exact h
theorem none_back {H H' : Hp} (e : Same H H') {c : Addr} (h : H' c = none) : H c = none := by
  cases q : H c with
  | none => rfl
  | some o => rw [e _ _ q] at h; cases h
theorem Kd.opener (k : Kd) : inV (.str k.h) [.str "if", .str "while", .str "repeat"] = true := by cases k <;> (show inV (.str _) _ = true) <;> (simp only [Kd.h]; decide +kernel)
theorem smp_head {d : Deed} (s : Smp d) : ∃ rs, dv d = .str d.word :: rs ∧ inV (.str d.word) [.str "if", .str "while", .str "repeat"] = false ∧ decide (V.str d.word = V.str "else") = false ∧ decide (V.str d.word = V.str "end") = false ∧ decide (V.str d.word = V.str "ask") = false ∧ decide (V.str d.word = V.str "store") = false := by
  cases d with
  | set x a sg b => exact ⟨_, rfl, by show inV (.str "set") _ = false; decide +kernel, by show decide (V.str "set" = _) = false; decide +kernel, by show decide (V.str "set" = _) = false; decide +kernel, by show decide (V.str "set" = _) = false; decide +kernel, by show decide (V.str "set" = _) = false; decide +kernel⟩
  | put q x => exact ⟨_, rfl, by show inV (.str "put") _ = false; decide +kernel, by show decide (V.str "put" = _) = false; decide +kernel, by show decide (V.str "put" = _) = false; decide +kernel, by show decide (V.str "put" = _) = false; decide +kernel, by show decide (V.str "put" = _) = false; decide +kernel⟩
  | get q x => exact ⟨_, rfl, by show inV (.str "get") _ = false; decide +kernel, by show decide (V.str "get" = _) = false; decide +kernel, by show decide (V.str "get" = _) = false; decide +kernel, by show decide (V.str "get" = _) = false; decide +kernel, by show decide (V.str "get" = _) = false; decide +kernel⟩
  | give x => exact ⟨_, rfl, by show inV (.str "give") _ = false; decide +kernel, by show decide (V.str "give" = _) = false; decide +kernel, by show decide (V.str "give" = _) = false; decide +kernel, by show decide (V.str "give" = _) = false; decide +kernel, by show decide (V.str "give" = _) = false; decide +kernel⟩
  | _ => exact absurd s (by simp [Smp])
theorem RdH.whole {H0 H : Hp} {r dx da ds lb ls : Addr} {zs : List Bl} {R : RS} {m : Nat} {z : Bl} {p : Addr} {us ws : List V} (h : RdH a H0 H r dx da ds lb ls zs R m) (n1 : z.ld ∉ lsts lb ls zs) (n2 : z.lo ∉ lsts lb ls zs) (h1 : H z.ld = some (.lst us)) (r1 : RDs H0 us z.ds) (h2 : H z.lo = some (.lst ws)) (r2 : RDs H0 ws z.os) (hp : H p = some (.tup (.str z.k.h :: [z.k.v] ++ (if z.k.h = "if" then [.ref z.ld, .ref z.lo] else [.ref z.ld])))) :
    ∃ H0', Same H0 H0' ∧ RdH a H0' H r dx da ds lb ls zs R m ∧ RD H0' (.ref p) (z.k.deed z.ds z.os) := by
  have nk : ∀ {c : Addr} {xs : List V}, H c = some (.lst xs) → r ≠ c ∧ da ≠ c ∧ ds ≠ c ∧ ∀ y ∈ zs, y.b ≠ c := fun hc => ⟨ne_kd h.ro hc (show (15 : Nat) ≠ 0 by decide), ne_kd h.ao hc (show (2 : Nat) ≠ 0 by decide), ne_kd h.so hc (show (2 : Nat) ≠ 0 by decide), fun y hy => ne_kd (h.bs y hy).ob hc (show (14 : Nat) ≠ 0 by decide)⟩
  obtain ⟨a1, a2, a3, a4⟩ := nk h1
  obtain ⟨e1, k1⟩ := h.freeze h1 a1 a2 a3 n1 a4
  obtain ⟨b1, b2, b3, b4⟩ := nk h2
  obtain ⟨e2, k2⟩ := k1.freeze h2 b1 b2 b3 n2 b4
  have tp : ∀ {c : Addr} {o : HO}, H c = some o → kd o ≠ 1 → c ≠ p := fun hc n => ne_kd hc hp n
  obtain ⟨e3, k3⟩ := k2.freeze hp (tp h.ro (show (15 : Nat) ≠ 1 by decide)) (tp h.ao (show (2 : Nat) ≠ 1 by decide)) (tp h.so (show (2 : Nat) ≠ 1 by decide)) (fun hc => by
    obtain ⟨xs, hx⟩ := h.list_in hc
    rw [hp] at hx
    cases hx) (fun y hy => tp (h.bs y hy).ob (show (14 : Nat) ≠ 1 by decide))
  refine ⟨_, e1.trans (e2.trans e3), k3, ?_⟩
  have l1 := (e2.trans e3) _ _ (upd_same (H := H0) (a := z.ld) (o := .lst us))
  have l2 := e3 _ _ (upd_same (H := upd H0 z.ld (.lst us)) (a := z.lo) (o := .lst ws))
  have q1 : RL _ z.ld z.ds := .mk l1 (RDs.same (e1.trans (e2.trans e3)) r1)
  have q2 : RL _ z.lo z.os := .mk l2 (RDs.same (e1.trans (e2.trans e3)) r2)
  generalize hF : upd (upd (upd H0 z.ld (.lst us)) z.lo (.lst ws)) p (.tup (.str z.k.h :: [z.k.v] ++ (if z.k.h = "if" then [.ref z.ld, .ref z.lo] else [.ref z.ld]))) = F at q1 q2
  have hpF : F p = some (.tup (.str z.k.h :: [z.k.v] ++ (if z.k.h = "if" then [.ref z.ld, .ref z.lo] else [.ref z.ld]))) := by rw [← hF]; exact upd_same
  cases ek : z.k with
  | cond x =>
    rw [ek] at hpF
    rw [show (Kd.cond x).h = "if" from rfl, if_pos rfl] at hpF
    exact .cond hpF q1 q2
  | whl x =>
    rw [ek] at hpF
    rw [show (Kd.whl x).h = "while" from rfl, if_neg (by decide +kernel)] at hpF
    exact .whl hpF q1
  | rep n =>
    rw [ek] at hpF
    rw [show (Kd.rep n).h = "repeat" from rfl, if_neg (by decide +kernel)] at hpF
    exact .rep hpF q1
theorem ok_Reading_follow (T : Tx P w K mg a) : FnOk P w K mg base CX0 3 a.Reading_follow a.fd_Reading_follow ["self", "form"] (sp_Reading_follow a) := by
  refine T.F_Reading_follow.ok sc_Reading_follow (fun vs H Q E h => ?_) (fun cdv A outer s H vs Q E hr h => ?_)
  · obtain ⟨_, _, _, _, _, _, _, _, _, _, _, _, rfl, _⟩ := h
    rfl
  obtain ⟨H0, r, dx, da, ds, lb, ls, p, zs, R, m, f, rfl, h, hg, hm, hp0, fok, na, ns, gd, q⟩ := h
  refine ⟨_, (pss_one (ps_if (pt_cmpR op_in_seq (pe_ix ix_tup (pv 1) pe_int (fun _ _ => rfl)) (pe_glob rfl T.c_OPENERS T.r_OPENERS) (by with_unfolding_all rfl)) (pss_one (ps_expr (pe_bm PySem.F.plainAttrs_list PySem.F.slot_list_append PySem.F.type_list_append mt_append (pe_fld (pv 0) rfl) (pa_cons (pe_make T.k_Block (ok_Block___init__ T) (hr.mono (by decide)) rfl T.m_Block T.b_Block___init__ .nil pass0 (pa_cons (pv 1) pa_nil)) pa_nil)))) (pss_one (ps_if (pt_cmpR op_eq (pe_ix ix_tup (pv 1) pe_int (fun _ _ => rfl)) pe_str (nomark _)) (pss_one (ps_expr (pe_meth0 (pe_ix ix_list (pe_fld (pv 0) rfl) (pe_un un_neg pe_int) (fun _ _ => rfl)) T.cl_Block T.mt_Block_turn (ok_Block_turn T) (hr.mono (by decide)) T.b_Block_turn .nil pass0))) (pss_one (ps_if (pt_cmpR op_eq (pe_ix ix_tup (pv 1) pe_int (fun _ _ => rfl)) pe_str (nomark _)) (pss_cons (ps_set (i := 2) sc_Reading_follow.nd rfl (Or.inl rfl) (pe_bm0 PySem.F.plainAttrs_list PySem.F.slot_list_pop PySem.F.type_list_pop mt_pop (pe_fld (pv 0) rfl)))
      (pss_one (ps_expr (pe_meth (pv 0) T.cl_Reading T.mt_Reading_lay_down (ok_Reading_lay_down T) (hr.mono (by decide)) T.b_Reading_lay_down .nil pass0 (pa_cons (pe_meth0 (pv 2) T.cl_Block T.mt_Block_whole (ok_Block_whole T) (hr.mono (by decide)) T.b_Block_whole .nil pass0) pa_nil))))) (pss_one (ps_expr (pe_meth (pv 0) T.cl_Reading T.mt_Reading_lay_down (ok_Reading_lay_down T) (hr.mono (by decide)) T.b_Reading_lay_down .nil pass0 (pa_cons (pv 1) pa_nil)))))))))), ?_⟩
  have hp := h.sa _ _ hp0
  obtain ⟨ak, st, top, fr, bg⟩ := R
  obtain rfl : bg = true := hg
  cases f with
  | ask x => exact absurd rfl (na x)
  | sto x n => exact absurd rfl (ns x n)
  | opn kd' =>
    have hp : H p = some (.tup [.str kd'.h, kd'.v]) := hp
    refine ⟨_, rfl, p, _, _, _, rfl, rfl, SqT.of hp, atI0, _, [.str "if", .str "while", .str "repeat"], rfl, .inr (T.t_OPENERS _), rfl, rfl, _, rfl, ifYes kd'.opener ?_⟩
    refine ⟨_, rfl, r, _, _, _, _, rfl, h.ro, T.cl_Reading, T.nf_Reading_blocks, gf_l, .inl ⟨rfl, _, SqL.of h.lo⟩, _, rfl, fun x d hx hd' ne => ?_⟩
    refine ⟨x, d, p, rfl, upd_same, fun H5 ld lo keep nld nlo ne2 hb hld hlo => ⟨rfl, ?_⟩⟩
    have s5 : Same H H5 := fun c o hc => keep c o (fun e => by rw [e, hx] at hc; cases hc) (by
      rw [upd_ne (fun e => by rw [e, hx] at hc; cases hc), upd_ne (fun e => by rw [e, hd'] at hc; cases hc)]
      exact hc)
    have nld' : H ld = none := none_upd (none_upd nld)
    have nlo' : H lo = none := none_upd (none_upd nlo)
    have len : zs.length = fr.length := by rw [← show _ = fr from h.eb, List.length_map]
    have r12 : fr.length < 12 := gd
    refine ⟨ls, _, _, rfl, rfl, s5 _ _ h.lo, Nat.lt_of_lt_of_le (by rw [List.length_map, len]; show fr.length < 13; omega) ln13, ?_⟩
    have k := (h.more s5 (Nat.le_refl _)).push (z := ⟨x, d, p, ld, lo, kd', [], [], false⟩) ⟨hb, s5 _ _ hp, ⟨[], hld, .nil, Nat.zero_le _⟩, ⟨[], hlo, .nil, Nat.zero_le _⟩⟩ (none_back h.sa hx) (none_back h.sa nld') (none_back h.sa nlo') ne2
      (fun c hc => by
        obtain ⟨xs, hc'⟩ := h.list_in hc
        exact ⟨fun e => (by rw [show c = ld from e, nld'] at hc'; cases hc'), fun e => (by rw [show c = lo from e, nlo'] at hc'; cases hc')⟩)
      (fun y hy e => by
        have := (h.bs y hy).ob
        rw [show y.b = x from e, hx] at this
        cases this)
    rw [List.map_append] at k
    exact q _ _ _ (Same.refl _) k
  | els =>
    have hp : H p = some (.tup [.str "else"]) := hp
    refine ⟨_, rfl, p, _, _, _, rfl, rfl, SqT.of hp, atI0, _, [.str "if", .str "while", .str "repeat"], rfl, .inr (T.t_OPENERS _), rfl, rfl, _, rfl, ifNo (by decide +kernel) ?_⟩
    refine ⟨_, rfl, p, _, _, _, rfl, rfl, SqT.of hp, atI0, rfl, _, rfl, ifYes (by decide +kernel) ?_⟩
    obtain ⟨f, x, hf, fk, ft⟩ := gd
    have hf : fr.getLast? = some f := hf
    rcases List.eq_nil_or_concat zs with e | ⟨zs', z, e⟩
    · subst e
      have : fr = [] := h.eb.symm
      rw [this] at hf
      cases hf
    rw [List.concat_eq_append] at e
    subst e
    have lf := last_fr h.eb
    have lf : fr.getLast? = some z.fr := lf
    have bz := h.bs z (by simp)
    refine ⟨_, rfl, r, _, _, _, _, rfl, h.ro, T.cl_Reading, T.nf_Reading_blocks, gf_l, _, rfl, ls, _, _, _, rfl, rfl, SqL.of h.lo, by rw [List.map_append]; exact atI_last _ _, z.b, _, _, rfl, bz.ob, bf_none (by decide +kernel), z.b, z.dx, z.f, z.ld, z.lo, z.t, rfl, bz.ob, ?_⟩
    have k := h.turn
    refine q _ _ (zs' ++ [{ z with t := true }]) (Same.refl _) ?_
    show RdH a H0 _ r dx da ds lb ls _ (match fr.getLast? with | none => _ | some f => _) (m + 1)
    rw [lf]
    exact k
  | en =>
    have hp : H p = some (.tup [.str "end"]) := hp
    refine ⟨_, rfl, p, _, _, _, rfl, rfl, SqT.of hp, atI0, _, [.str "if", .str "while", .str "repeat"], rfl, .inr (T.t_OPENERS _), rfl, rfl, _, rfl, ifNo (by decide +kernel) ?_⟩
    refine ⟨_, rfl, p, _, _, _, rfl, rfl, SqT.of hp, atI0, rfl, _, rfl, ifNo (by decide +kernel) ?_⟩
    refine ⟨_, rfl, p, _, _, _, rfl, rfl, SqT.of hp, atI0, rfl, _, rfl, ifYes (by decide +kernel) ?_⟩
    have gd : fr ≠ [] := gd
    rcases List.eq_nil_or_concat zs with e | ⟨zs', z, e⟩
    · subst e
      exact absurd h.eb.symm gd
    rw [List.concat_eq_append] at e
    subst e
    have lf := last_fr h.eb
    have lf : fr.getLast? = some z.fr := lf
    have bz := h.bs z (by simp)
    have k := h.pop
    obtain ⟨_, _, d3⟩ := lsts_apart h.dl
    refine ⟨_, rfl, r, _, _, _, _, rfl, h.ro, T.cl_Reading, T.nf_Reading_blocks, gf_l, .inl ⟨rfl, _, SqL.of h.lo⟩, ls, _, .ref z.b, rfl, rfl, h.lo, by rw [List.map_append, List.length_append]; simp, ?_⟩
    rw [List.map_append, show (zs'.map (fun z => V.ref z.b) ++ [z].map (fun z => V.ref z.b)).dropLast = zs'.map (fun z => V.ref z.b) by simp]
    have b2 := bz.fo
    obtain ⟨us, b3, b3', _⟩ := bz.de
    obtain ⟨ws, b4, b4', _⟩ := bz.ot
    have lsi : ls ∈ lsts lb ls zs' := by unfold lsts; simp
    have o6 := (show upd H ls (.lst (zs'.map fun z => V.ref z.b)) z.b = _ from upd_ne (ne_kd bz.ob h.lo (show (14 : Nat) ≠ 0 by decide))).trans bz.ob
    have t6 := (show upd H ls (.lst (zs'.map fun z => V.ref z.b)) z.f = _ from upd_ne (ne_kd b2 h.lo (show (1 : Nat) ≠ 0 by decide))).trans b2
    have l6 := (show upd H ls (.lst (zs'.map fun z => V.ref z.b)) z.ld = _ from upd_ne (d3 ls lsi).1.symm).trans b3
    have l7 := (show upd H ls (.lst (zs'.map fun z => V.ref z.b)) z.lo = _ from upd_ne (d3 ls lsi).2.symm).trans b4
    refine ⟨_, rfl, r, _, _, rfl, k.ro, gf_none (by decide +kernel), _, rfl, z.b, _, _, rfl, o6, bf_none (by decide +kernel), z.b, z.dx, z.f, z.ld, z.lo, z.t, z.k.h, [z.k.v], rfl, o6, t6, by simp, fun H7 p7 s7 n7 hp7 => ?_⟩
    obtain ⟨H0', e0, k7, rdp⟩ := (k.more s7 (Nat.le_refl _)).whole (z := z) (fun hc => (d3 _ hc).1 rfl) (fun hc => (d3 _ hc).2 rfl) (s7 _ _ l6) b3' (s7 _ _ l7) b4' hp7
    refine ⟨H0', r, dx, da, ds, lb, ls, zs', _, m, .ref p7, _, rfl, k7, hm, rdp, fun H8 zs8 k8 => q _ _ zs8 e0 ?_⟩
    show RdH a H0' H8 r dx da ds lb ls zs8 (match fr.getLast? with | none => _ | some f => _) (m + 1)
    rw [lf]
    have : (RS.lay ⟨ak, st, top, fr.dropLast, true⟩ (z.k.deed z.ds z.os)).bg = true := by unfold RS.lay; split <;> rfl
    have e9 : ({ RS.lay ⟨ak, st, top, fr.dropLast, true⟩ (z.fr.k.deed z.fr.ds z.fr.os) with bg := true } : RS) = RS.lay ⟨ak, st, top, fr.dropLast, true⟩ (z.k.deed z.ds z.os) := by
      unfold RS.lay
      split <;> rfl
    show RdH a H0' H8 r dx da ds lb ls zs8 ({ RS.lay ⟨ak, st, top, fr.dropLast, true⟩ (z.fr.k.deed z.fr.ds z.fr.os) with bg := true } : RS) (m + 1)
    rw [e9]
    exact k8
  | pl d =>
    obtain ⟨rs, ev, e1, e2, e3, _, _⟩ := smp_head fok.1
    have hp' : H p = some (.tup (dv d)) := hp
    rw [ev] at hp'
    refine ⟨_, rfl, p, _, _, _, rfl, rfl, SqT.of hp', atI0, _, [.str "if", .str "while", .str "repeat"], rfl, .inr (T.t_OPENERS _), rfl, rfl, _, rfl, ifNo e1 ?_⟩
    refine ⟨_, rfl, p, _, _, _, rfl, rfl, SqT.of hp', atI0, rfl, _, rfl, ifNo e2 ?_⟩
    refine ⟨_, rfl, p, _, _, _, rfl, rfl, SqT.of hp', atI0, rfl, _, rfl, ifNo e3 ?_⟩
    refine ⟨_, rfl, r, _, _, rfl, h.ro, gf_none (by decide +kernel), _, rfl, H0, r, dx, da, ds, lb, ls, zs, _, m, .ref p, d, rfl, h, hm, smp_rd fok.1 hp0, fun H5 zs5 k => q _ _ zs5 (Same.refl _) ?_⟩
    have e9 : ({ RS.lay ⟨ak, st, top, fr, true⟩ d with bg := true } : RS) = RS.lay ⟨ak, st, top, fr, true⟩ d := by
      unfold RS.lay
      split <;> rfl
    show RdH a H0 H5 r dx da ds lb ls zs5 ({ RS.lay ⟨ak, st, top, fr, true⟩ d with bg := true } : RS) (m + 1)
    rw [e9]
    exact k
theorem atI1 {x y : V} {r : List V} : atI (x :: y :: r) 1 = some y := show atI (x :: y :: r) ((1 : Nat) : Int) = some y from atI_nat rfl
theorem atI2 {x y z : V} {r : List V} : atI (x :: y :: z :: r) 2 = some z := show atI (x :: y :: z :: r) ((2 : Nat) : Int) = some z from atI_nat rfl
theorem tab_snoc {ks : List Str} {f : Str → V} {x : Str} {v : V} (hn : ks.Nodup) (nx : x ∉ ks) : putK (tabV ks f) (.inr x) v = tabV (ks ++ [x]) (setV f x v) := by
  rw [tabV_put hn]
  unfold addK
  rw [if_neg nx]
theorem tab_true {ks : List Str} {x : Str} : tabV (ks ++ [x]) (setV (fun _ => .bl true) x (.bl true)) = tabV (ks ++ [x]) fun _ => .bl true := by
  unfold tabV setV
  refine List.map_congr_left fun z _ => ?_
  split <;> rfl
theorem stK_new {st : List (Str × Int)} {x : Str} {n : Int} (nx : x ∉ kys st) : putK (stK st) (.inr x) (.int n) = stK (st ++ [(x, n)]) := by
  have : valV (stK st) (.inr x) = none := by
    cases e : valV (stK st) (.inr x) with
    | none => rfl
    | some v =>
      have := valV_in e
      unfold stK at this
      rw [List.map_map] at this
      obtain ⟨p, hp, ep⟩ := List.mem_map.mp this
      have ep : (Sum.inr p.1 : Key) = .inr x := ep
      cases ep
      exact absurd (List.mem_map.mpr ⟨p, hp, rfl⟩) nx
  rw [putK_new _ this]
  unfold stK
  rw [List.map_append]
  rfl
theorem Kd.no_head (k : Kd) : decide (V.str k.h = V.str "ask") = false ∧ decide (V.str k.h = V.str "store") = false := by
  cases k with
  | cond x => exact ⟨by show decide (V.str "if" = V.str "ask") = false; decide +kernel, by show decide (V.str "if" = V.str "store") = false; decide +kernel⟩
  | whl x => exact ⟨by show decide (V.str "while" = V.str "ask") = false; decide +kernel, by show decide (V.str "while" = V.str "store") = false; decide +kernel⟩
  | rep x => exact ⟨by show decide (V.str "repeat" = V.str "ask") = false; decide +kernel, by show decide (V.str "repeat" = V.str "store") = false; decide +kernel⟩
theorem lay_bg {R : RS} {d : Deed} {b : Bool} : ({ RS.lay { R with bg := b } d with bg := true } : RS) = { R.lay d with bg := true } := by
  obtain ⟨ak, st, top, fr, bg⟩ := R
  unfold RS.lay
  dsimp only
  cases fr.getLast? <;> rfl
theorem ok_Reading_enter (T : Tx P w K mg a) : FnOk P w K mg base CX0 4 a.Reading_enter a.fd_Reading_enter ["self", "form"] (sp_Reading_enter a) := by
  refine T.F_Reading_enter.ok sc_Reading_enter (fun vs H Q E h => ?_) (fun cdv A outer s H vs Q E hr h => ?_)
  · obtain ⟨_, _, _, _, _, _, _, _, _, _, _, _, rfl, _⟩ := h
    rfl
  obtain ⟨H0, r, dx, da, ds, lb, ls, p, zs, R, m, f, rfl, h, hm, hp0, fok, gd, q⟩ := h
  refine ⟨_, (pss_one (ps_if (pt_cmpR op_eq (pe_ix ix_tup (pv 1) pe_int (fun _ _ => rfl)) pe_str (nomark _)) (pss_one (ps_dput (hr.one) (pe_fld (pv 0) rfl) (pe_ix ix_tup (pv 1) pe_int (fun _ _ => rfl)) pe_bl rfl)) (pss_one (ps_if (pt_cmpR op_eq (pe_ix ix_tup (pv 1) pe_int (fun _ _ => rfl)) pe_str (nomark _)) (pss_one (ps_dput (hr.one) (pe_fld (pv 0) rfl) (pe_ix ix_tup (pv 1) pe_int (fun _ _ => rfl)) (pe_ix ix_tup (pv 1) pe_int (fun _ _ => rfl)) rfl)) (pss_cons (ps_fld (pv 0) pe_bl rfl)
      (pss_one (ps_expr (pe_meth (pv 0) T.cl_Reading T.mt_Reading_follow (ok_Reading_follow T) (hr.mono (by decide)) T.b_Reading_follow .nil pass0 (pa_cons (pv 1) pa_nil))))))))), ?_⟩
  have hp := h.sa _ _ hp0
  have key : (∃ x, f = .ask x) ∨ (∃ x n, f = .sto x n) ∨ (∃ hd rs, f.v = .str hd :: rs ∧ decide (V.str hd = V.str "ask") = false ∧ decide (V.str hd = V.str "store") = false ∧ (∀ x, f ≠ .ask x) ∧ (∀ x n, f ≠ .sto x n) ∧ good { R with bg := true } f ∧ rd { R with bg := true } f = rd R f) := by
    cases f with
    | ask x => exact .inl ⟨x, rfl⟩
    | sto x n => exact .inr (.inl ⟨x, n, rfl⟩)
    | opn k => exact .inr (.inr ⟨k.h, _, rfl, k.no_head.1, k.no_head.2, nofun, nofun, gd, rfl⟩)
    | els =>
      refine .inr (.inr ⟨"else", _, rfl, by decide +kernel, by decide +kernel, nofun, nofun, gd, ?_⟩)
      obtain ⟨f, x, hf, _, _⟩ := gd
      show (match R.fr.getLast? with | none => _ | some f => _) = (match R.fr.getLast? with | none => _ | some f => _)
      rw [hf]
    | en =>
      refine .inr (.inr ⟨"end", _, rfl, by decide +kernel, by decide +kernel, nofun, nofun, gd, ?_⟩)
      have gd : R.fr ≠ [] := gd
      cases hf : R.fr.getLast? with
      | none => exact absurd (List.getLast?_eq_none_iff.mp hf) gd
      | some f =>
        show (match R.fr.getLast? with | none => _ | some f => _) = (match R.fr.getLast? with | none => _ | some f => _)
        rw [hf]
        exact lay_bg (R := { R with fr := R.fr.dropLast })
    | pl d =>
      obtain ⟨rs, ev, _, _, _, e4, e5⟩ := smp_head fok.1
      refine .inr (.inr ⟨d.word, rs, ev, e4, e5, nofun, nofun, gd, ?_⟩)
      exact lay_bg
  rcases key with ⟨x, rfl⟩ | ⟨x, n, rfl⟩ | ⟨hd, rs, ev, n1, n2, na, ns, gd', erd⟩
  · have hp : H p = some (.tup [.str "ask", .str x]) := hp
    refine ⟨_, rfl, p, _, _, _, rfl, rfl, SqT.of hp, atI0, rfl, _, rfl, ifYes (by decide +kernel) ?_⟩
    obtain ⟨nb, nt⟩ := gd
    have la := h.la
    refine ⟨_, rfl, r, _, _, _, _, rfl, h.ro, T.cl_Reading, T.nf_Reading_asks, gf_a, _, rfl, p, _, _, _, rfl, rfl, SqT.of hp, atI1, da, _, rfl, .inl ⟨_, .inr x, h.ao, rfl, Nat.lt_of_lt_of_le (by rw [tabV_len]; omega) (show 1000000 ≤ sizeLine by decide), rfl⟩, ?_⟩
    rw [tab_snoc h.na nt, tab_true]
    exact q _ _ _ (Same.refl _) (h.ask nt)
  · have hp : H p = some (.tup [.str "store", .str x, .int n]) := hp
    refine ⟨_, rfl, p, _, _, _, rfl, rfl, SqT.of hp, atI0, rfl, _, rfl, ifNo (by decide +kernel) ?_⟩
    refine ⟨_, rfl, p, _, _, _, rfl, rfl, SqT.of hp, atI0, rfl, _, rfl, ifYes (by decide +kernel) ?_⟩
    obtain ⟨nb, nt⟩ := gd
    have la := h.lst
    have hs := h.so
    refine ⟨_, rfl, p, _, _, _, rfl, rfl, SqT.of hp, atI2, _, rfl, r, _, _, _, _, rfl, h.ro, T.cl_Reading, T.nf_Reading_stores, gf_s, _, rfl, p, _, _, _, rfl, rfl, SqT.of hp, atI1, ds, _, rfl, .inl ⟨_, .inr x, hs, rfl, Nat.lt_of_lt_of_le (by unfold stK; rw [List.length_map]; omega) (show 1000000 ≤ sizeLine by decide), rfl⟩, ?_⟩
    rw [stK_new nt]
    exact q _ _ _ (Same.refl _) (h.sto nt)
  · have hp' := hp
    rw [ev] at hp'
    refine ⟨_, rfl, p, _, _, _, rfl, rfl, SqT.of hp', atI0, rfl, _, rfl, ifNo n1 ?_⟩
    refine ⟨_, rfl, p, _, _, _, rfl, rfl, SqT.of hp', atI0, rfl, _, rfl, ifNo n2 ?_⟩
    refine ⟨_, rfl, r, _, _, _, rfl, h.ro, T.cl_Reading, T.nf_Reading_begun, by simp, ?_⟩
    have e2 : putF ("begun" : Str) (V.bl true) [(("asks" : Str), V.ref da), ("stores", .ref ds), ("body", .ref lb), ("blocks", .ref ls), ("begun", .bl R.bg)] = [(("asks" : Str), V.ref da), ("stores", .ref ds), ("body", .ref lb), ("blocks", .ref ls), ("begun", .bl true)] := by
      rw [putF, if_neg (by decide +kernel), putF, if_neg (by decide +kernel), putF, if_neg (by decide +kernel), putF, if_neg (by decide +kernel), putF, if_pos rfl]
    rw [e2]
    have k := h.begun
    exact ⟨_, rfl, r, _, _, rfl, k.ro, gf_none (by decide +kernel), _, rfl, H0, r, dx, da, ds, lb, ls, p, zs, _, m, f, rfl, k, rfl, hm, hp0, fok, na, ns, gd', fun H6 H06 zs' e6 k6 => q _ _ _ e6 (erd ▸ k6)⟩
theorem ok_Reading_is_hiding (T : Tx P w K mg a) : FnOk P w K mg base CX0 1 a.Reading_is_hiding a.fd_Reading_is_hiding ["self"] (sp_Reading_is_hiding a) := by
  refine T.F_Reading_is_hiding.ok sc_Reading_is_hiding (fun vs H Q E h => ?_) (fun cdv A outer s H vs Q E hr h => ?_)
  · obtain ⟨_, _, _, _, _, _, _, _, _, _, rfl, _⟩ := h
    rfl
  obtain ⟨H0, r, dx, da, ds, lb, ls, zs, R, m, rfl, h, zl, hrp, q⟩ := h
  refine ⟨_, (pss_one (ps_ret (pe_callB (call_any rfl) rfl T.z_any PyProof.Rows.Boot.«any» (pa_cons (pe_comp (k := 1) (Nc := ["block"]) (js := []) (show CompSc (defScope s_Reading_is_hiding) ["self"] _ 1 ["block"] [] from CompSc.mk rfl (by decide +kernel) (by decide +kernel) (by decide +kernel) rfl (by decide +kernel)) rfl (pi_list (pe_fld (pv 0) rfl)) (fun _ _ _ _ _ => (pg_name (i := 0) (show List.Nodup (["block"] : List Str) from by decide +kernel) rfl (Or.inl rfl))) (fun _ _ _ _ _ => pts_nil) (fun _ _ _ _ _ => (pe_cmpR op_ne (pe_ix (ix_tupK (K := K) rfl) (pe_fldK (K := K) rfl (pv 0) rfl) pe_int (fun _ _ => rfl)) pe_str (nomark _)))) pa_nil)))), ?_⟩
  refine ⟨_, rfl, r, _, _, _, _, rfl, h.ro, T.cl_Reading, T.nf_Reading_blocks, gf_l, ls, rfl, ⟨_, SqL.of h.lo⟩, ?_⟩
  refine comp_list0 (K := K) (a := ls) (xs := zs.map fun z => V.ref z.b) (fun i ys σ H2 => (∃ v, σ = [v]) ∧ H2 = H ∧ ys = (zs.take i).map fun _ => V.bl false) ⟨⟨_, rfl⟩, rfl, rfl⟩ ?_ (len_le_line (m := 100) (by rw [List.length_map]; omega)) ?_ ?_ ?_
  · rintro i ys σ H2 _ ⟨_, _, rfl⟩
    rw [List.length_map, List.length_take]
    exact Nat.min_le_left _ _
  · rintro i ys σ H2 ⟨_, rfl, _⟩
    exact SqL.of h.lo
  · rintro i x ys σ H2 hx ⟨⟨v, rfl⟩, rfl, rfl⟩
    rw [List.getElem?_map] at hx
    obtain ⟨z, hzi, rfl⟩ := Option.map_eq_some_iff.mp hx
    have bz := h.bs z (List.mem_of_getElem? hzi)
    have b2 := bz.fo
    obtain ⟨n, en⟩ := hrp z.fr (by rw [← h.eb]; exact List.mem_map.mpr ⟨z, List.mem_of_getElem? hzi, rfl⟩)
    have en : z.k = .rep n := en
    rw [en] at b2
    refine ⟨_, rfl, z.b, _, _, _, _, rfl, bz.ob, T.cl_Block, T.nf_Block_form, bf_f, z.f, _, _, _, rfl, rfl, SqT.of b2, atI0, rfl, ⟨_, rfl⟩, rfl, ?_⟩
    rw [List.take_add_one, hzi, List.map_append]
    have : (V.bl (!decide (V.str (Kd.rep n).h = V.str "repeat"))) = V.bl false := by show V.bl (!decide (V.str "repeat" = V.str "repeat")) = _; decide +kernel
    rw [this]
    rfl
  rintro ys σ H2 ⟨_, rfl, rfl⟩ l hl
  rw [List.length_map, List.take_length]
  have s1 := Same.new hl (.lst (zs.map fun _ => V.bl false))
  refine ⟨l, zs.map fun _ => false, rfl, SqL.of (by rw [upd_same, List.map_map]; rfl), ?_⟩
  have e : (zs.map fun _ => false).any id = false := by simp
  rw [e]
  exact q _ s1
def HeadsV : List V := [.str "ask", .str "store"]
def OpnV : List V := [.str "if", .str "while", .str "repeat"]
def MovV : List V := [.str "put", .str "get"]
theorem ok_check_nest (T : Tx P w K mg a) : FnOk P w K mg base CX0 5 a.check_nest a.fd_check_nest ["reading", "head", "place"] (sp_check_nest a) := by
  refine T.F_check_nest.ok sc_check_nest (fun vs H Q E h => ?_) (fun cdv A outer s H vs Q E hr h => ?_)
  · obtain ⟨_, _, _, _, _, _, _, _, _, _, _, _, rfl, _⟩ := h
    rfl
  obtain ⟨H0, r, dx, da, ds, lb, ls, zs, R, m, f, i, rfl, h, fok, gd, q⟩ := h
  refine ⟨_, (pss_cons (ps_if (PW.pt (pw_and (pt_cmpR op_in_seq (pv 1) (pe_glob rfl T.c_HEADS T.r_HEADS) (by with_unfolding_all rfl)) (pw_and1 (pt_val (pe_fld (pv 0) rfl))))) (pss_one ps_never) pss_nil)
      (pss_cons (ps_if (PW.pt (pw_and (pt_cmpR op_eq (pv 1) pe_str (nomark _)) (pw_and1 (pt_not (pt_val (pe_meth0 (pv 0) T.cl_Reading T.mt_Reading_may_turn_innermost (ok_Reading_may_turn_innermost T) (hr.mono (by decide)) T.b_Reading_may_turn_innermost .nil pass0)))))) (pss_one ps_never) pss_nil)
      (pss_cons (ps_if (PW.pt (pw_and (pt_cmpR op_eq (pv 1) pe_str (nomark _)) (pw_and1 (pt_cmpR op_eq (pe_callB call_len_seq rfl T.z_len PySem.boot_len (pa_cons (pe_fld (pv 0) rfl) pa_nil)) pe_int (nomark _))))) (pss_one ps_never) pss_nil)
      (pss_one (ps_if (PW.pt (pw_and (pt_cmpR op_in_seq (pv 1) (pe_glob rfl T.c_OPENERS T.r_OPENERS) (by with_unfolding_all rfl)) (pw_and1 (pt_cmpR oi_ge (pe_callB call_len_seq rfl T.z_len PySem.boot_len (pa_cons (pe_fld (pv 0) rfl) pa_nil)) (pe_glob rfl T.c_MOST_BLOCKS T.r_MOST_BLOCKS) (nomark _))))) (pss_one ps_never) pss_nil))))), ?_⟩
  have len : zs.length = R.fr.length := by rw [← h.eb, List.length_map]
  have q1 := q H (Same.refl H)
  cases f with
  | ask x =>
    refine ⟨_, rfl, _, HeadsV, rfl, .inr (T.t_HEADS _), rfl, rfl, _, rfl, ifYes (by show inV (.str "ask") HeadsV = true; decide +kernel) ⟨_, rfl, r, _, _, _, _, rfl, h.ro, T.cl_Reading, T.nf_Reading_begun, gf_g, _, rfl, ?_⟩⟩
    rw [show R.bg = false from gd.1]
    refine ifNo rfl ⟨_, rfl, rfl, _, rfl, ifNo (by show decide (V.str "ask" = V.str "else") = false; decide +kernel) (ifNo rfl ?_)⟩
    refine ⟨_, rfl, rfl, _, rfl, ifNo (by show decide (V.str "ask" = V.str "end") = false; decide +kernel) (ifNo rfl ?_)⟩
    exact ⟨_, rfl, _, OpnV, rfl, .inr (T.t_OPENERS _), rfl, rfl, _, rfl, ifNo (by show inV (.str "ask") OpnV = false; decide +kernel) (ifNo rfl q1)⟩
  | sto x n =>
    refine ⟨_, rfl, _, HeadsV, rfl, .inr (T.t_HEADS _), rfl, rfl, _, rfl, ifYes (by show inV (.str "store") HeadsV = true; decide +kernel) ⟨_, rfl, r, _, _, _, _, rfl, h.ro, T.cl_Reading, T.nf_Reading_begun, gf_g, _, rfl, ?_⟩⟩
    rw [show R.bg = false from gd.1]
    refine ifNo rfl ⟨_, rfl, rfl, _, rfl, ifNo (by show decide (V.str "store" = V.str "else") = false; decide +kernel) (ifNo rfl ?_)⟩
    refine ⟨_, rfl, rfl, _, rfl, ifNo (by show decide (V.str "store" = V.str "end") = false; decide +kernel) (ifNo rfl ?_)⟩
    exact ⟨_, rfl, _, OpnV, rfl, .inr (T.t_OPENERS _), rfl, rfl, _, rfl, ifNo (by show inV (.str "store") OpnV = false; decide +kernel) (ifNo rfl q1)⟩
  | opn k =>
    have hk : ∀ {b : Bool}, (∀ y, y = ("if" : Str) ∨ y = "while" ∨ y = "repeat" → inV (.str y) HeadsV = false ∧ decide (V.str y = V.str "else") = false ∧ decide (V.str y = V.str "end") = false ∧ inV (.str y) OpnV = true) := fun y hy => by rcases hy with rfl | rfl | rfl <;> exact ⟨by decide +kernel, by decide +kernel, by decide +kernel, by decide +kernel⟩
    obtain ⟨e1, e2, e3, e4⟩ := @hk true k.h (by cases k; exact .inl rfl; exact .inr (.inl rfl); exact .inr (.inr rfl))
    refine ⟨_, rfl, _, HeadsV, rfl, .inr (T.t_HEADS _), rfl, rfl, _, rfl, ifNo e1 (ifNo rfl ?_)⟩
    refine ⟨_, rfl, rfl, _, rfl, ifNo e2 (ifNo rfl ?_)⟩
    refine ⟨_, rfl, rfl, _, rfl, ifNo e3 (ifNo rfl ?_)⟩
    refine ⟨_, rfl, _, OpnV, rfl, .inr (T.t_OPENERS _), rfl, rfl, _, rfl, ifYes e4 ?_⟩
    refine ⟨_, rfl, r, _, _, _, _, rfl, h.ro, T.cl_Reading, T.nf_Reading_blocks, gf_l, ls, _, rfl, .inl (SqL.of h.lo), _, _, rfl, rfl, _, rfl, ?_⟩
    rw [List.length_map, len]
    have c : R.fr.length < 12 := gd
    exact ifNo (decide_eq_false (by omega)) q1
  | els =>
    obtain ⟨f, x, hf, fk, ft⟩ := gd
    refine ⟨_, rfl, _, HeadsV, rfl, .inr (T.t_HEADS _), rfl, rfl, _, rfl, ifNo (by show inV (.str "else") HeadsV = false; decide +kernel) (ifNo rfl ?_)⟩
    refine ⟨_, rfl, rfl, _, rfl, ifYes (by show decide (V.str "else" = V.str "else") = true; decide +kernel) ?_⟩
    refine ⟨_, rfl, r, _, _, rfl, h.ro, gf_none (by decide +kernel), H0, r, dx, da, ds, lb, ls, zs, R, m, f, x, rfl, h, hf, fk, ft, _, rfl, ?_⟩
    refine ifNo rfl ⟨_, rfl, rfl, _, rfl, ifNo (by show decide (V.str "else" = V.str "end") = false; decide +kernel) (ifNo rfl ?_)⟩
    exact ⟨_, rfl, _, OpnV, rfl, .inr (T.t_OPENERS _), rfl, rfl, _, rfl, ifNo (by show inV (.str "else") OpnV = false; decide +kernel) (ifNo rfl q1)⟩
  | en =>
    refine ⟨_, rfl, _, HeadsV, rfl, .inr (T.t_HEADS _), rfl, rfl, _, rfl, ifNo (by show inV (.str "end") HeadsV = false; decide +kernel) (ifNo rfl ?_)⟩
    refine ⟨_, rfl, rfl, _, rfl, ifNo (by show decide (V.str "end" = V.str "else") = false; decide +kernel) (ifNo rfl ?_)⟩
    refine ⟨_, rfl, rfl, _, rfl, ifYes (by show decide (V.str "end" = V.str "end") = true; decide +kernel) ?_⟩
    refine ⟨_, rfl, r, _, _, _, _, rfl, h.ro, T.cl_Reading, T.nf_Reading_blocks, gf_l, ls, _, rfl, .inl (SqL.of h.lo), rfl, _, rfl, ?_⟩
    rw [List.length_map, len]
    have c : R.fr ≠ [] := gd
    have : R.fr.length ≠ 0 := fun z => c (List.length_eq_zero_iff.mp z)
    refine ifN (fun z => by injection z with z; omega) ?_
    exact ⟨_, rfl, _, OpnV, rfl, .inr (T.t_OPENERS _), rfl, rfl, _, rfl, ifNo (by show inV (.str "end") OpnV = false; decide +kernel) (ifNo rfl q1)⟩
  | pl d =>
    have sd := fok.1
    have hk : ∀ y, y = ("set" : Str) ∨ y = "put" ∨ y = "get" ∨ y = "give" → inV (.str y) HeadsV = false ∧ decide (V.str y = V.str "else") = false ∧ decide (V.str y = V.str "end") = false ∧ inV (.str y) OpnV = false := fun y hy => by rcases hy with rfl | rfl | rfl | rfl <;> exact ⟨by decide +kernel, by decide +kernel, by decide +kernel, by decide +kernel⟩
    obtain ⟨e1, e2, e3, e4⟩ := hk d.word (by cases d with
      | set x a sg b => exact .inl rfl
      | put q x => exact .inr (.inl rfl)
      | get q x => exact .inr (.inr (.inl rfl))
      | give x => exact .inr (.inr (.inr rfl))
      | _ => exact absurd sd (by simp [Smp]))
    refine ⟨_, rfl, _, HeadsV, rfl, .inr (T.t_HEADS _), rfl, rfl, _, rfl, ifNo e1 (ifNo rfl ?_)⟩
    refine ⟨_, rfl, rfl, _, rfl, ifNo e2 (ifNo rfl ?_)⟩
    refine ⟨_, rfl, rfl, _, rfl, ifNo e3 (ifNo rfl ?_)⟩
    exact ⟨_, rfl, _, OpnV, rfl, .inr (T.t_OPENERS _), rfl, rfl, _, rfl, ifNo e4 (ifNo rfl q1)⟩
theorem stK_val {st : List (Str × Int)} {x : Str} : (valV (stK st) (.inr x)).isSome = decide (x ∈ kys st) := by
  cases e : valV (stK st) (.inr x) with
  | none =>
    refine (decide_eq_false fun hx => ?_).symm
    obtain ⟨p, hp, rfl⟩ := List.mem_map.mp hx
    unfold valV at e
    rw [Option.map_eq_none_iff, List.find?_eq_none] at e
    have := e (.inr p.1, .int p.2) (List.mem_map.mpr ⟨p, hp, rfl⟩)
    simp at this
  | some v =>
    refine (decide_eq_true ?_).symm
    have := valV_in e
    unfold stK at this
    rw [List.map_map] at this
    obtain ⟨p, hp, ep⟩ := List.mem_map.mp this
    have ep : (Sum.inr p.1 : Key) = .inr x := ep
    cases ep
    exact List.mem_map.mpr ⟨p, hp, rfl⟩
theorem tab_val' {ks : List Str} {x : Str} {f : Str → V} : (valV (Tr.tabV ks f) (.inr x)).isSome = decide (x ∈ ks) := by
  by_cases h : x ∈ ks
  · rw [Tr.tabV_val h, decide_eq_true h]; rfl
  · rw [Tr.tabV_none h, decide_eq_false h]; rfl
theorem ok_check_twice (T : Tx P w K mg a) : FnOk P w K mg base CX0 3 a.check_twice a.fd_check_twice ["reading", "form", "place"] (sp_check_twice a) := by
  refine T.F_check_twice.ok sc_check_twice (fun vs H Q E h => ?_) (fun cdv A outer s H vs Q E hr h => ?_)
  · obtain ⟨_, _, _, _, _, _, _, _, _, _, _, _, _, rfl, _⟩ := h
    rfl
  obtain ⟨H0, r, dx, da, ds, lb, ls, p, zs, R, m, f, i, rfl, h, hp, hf, gd, q⟩ := h
  refine ⟨_, (pss_cons (ps_set (i := 3) sc_check_twice.nd rfl (Or.inl rfl) (pe_ix ix_tup (pv 1) pe_int (fun _ _ => rfl)))
      (pss_cons (ps_set (i := 4) sc_check_twice.nd rfl (Or.inl rfl) (pe_ifExp (pt_cmpR op_eq (pe_ix ix_tup (pv 1) pe_int (fun _ _ => rfl)) pe_str (nomark _)) (pe_fld (pv 0) rfl) (pe_fld (pv 0) rfl)))
      (pss_one (ps_if (pt_cmpR op_in_dk (pv 3) (pv 4) (by with_unfolding_all rfl)) (pss_one ps_never) pss_nil)))), ?_⟩
  rcases hf with ⟨x, rfl⟩ | ⟨x, n, rfl⟩
  · have hp : H p = some (.tup [.str "ask", .str x]) := hp
    refine ⟨_, rfl, p, _, _, _, rfl, rfl, SqT.of hp, atI1, ?_⟩
    refine ⟨_, rfl, p, _, _, _, rfl, rfl, SqT.of hp, atI0, rfl, _, rfl, ifYes (by decide +kernel) ?_⟩
    refine ⟨_, rfl, r, _, _, _, _, rfl, h.ro, T.cl_Reading, T.nf_Reading_asks, gf_a, ?_⟩
    refine ⟨_, rfl, _, rfl, da, _, .inr x, rfl, h.ao, rfl, _, rfl, ?_⟩
    exact ifNo (by rw [tab_val', decide_eq_false gd.2]) q
  · have hp : H p = some (.tup [.str "store", .str x, .int n]) := hp
    refine ⟨_, rfl, p, _, _, _, rfl, rfl, SqT.of hp, atI1, ?_⟩
    refine ⟨_, rfl, p, _, _, _, rfl, rfl, SqT.of hp, atI0, rfl, _, rfl, ifNo (by decide +kernel) ?_⟩
    refine ⟨_, rfl, r, _, _, _, _, rfl, h.ro, T.cl_Reading, T.nf_Reading_stores, gf_s, ?_⟩
    refine ⟨_, rfl, _, rfl, ds, _, .inr x, rfl, h.so, rfl, _, rfl, ?_⟩
    exact ifNo (by rw [stK_val, decide_eq_false gd.2]) q
theorem ok_check_move (T : Tx P w K mg a) : FnOk P w K mg base CX0 3 a.check_move a.fd_check_move ["reading", "store", "place"] (sp_check_move a) := by
  refine T.F_check_move.ok sc_check_move (fun vs H Q E h => ?_) (fun cdv A outer s H vs Q E hr h => ?_)
  · obtain ⟨_, _, _, _, _, _, _, _, _, _, _, _, rfl, _⟩ := h
    rfl
  obtain ⟨H0, r, dx, da, ds, lb, ls, zs, R, m, st, i, rfl, h, zl, c, hrp, q⟩ := h
  refine ⟨_, (pss_cons (ps_if (pt_cmpR op_notin_dk (pv 1) (pe_fld (pv 0) rfl) (by with_unfolding_all rfl)) (pss_one ps_never) pss_nil)
      (pss_one (ps_if (pt_val (pe_meth0 (pv 0) T.cl_Reading T.mt_Reading_is_hiding (ok_Reading_is_hiding T) (hr.mono (by decide)) T.b_Reading_is_hiding .nil pass0)) (pss_one ps_never) pss_nil))), ?_⟩
  refine ⟨_, rfl, _, rfl, r, _, _, _, _, rfl, h.ro, T.cl_Reading, T.nf_Reading_stores, gf_s, ds, _, .inr st, rfl, h.so, rfl, _, rfl, ?_⟩
  refine ifNo (by rw [stK_val, decide_eq_true c]; rfl) ?_
  exact ⟨_, rfl, r, _, _, rfl, h.ro, gf_none (by decide +kernel), H0, r, dx, da, ds, lb, ls, zs, R, m, rfl, h, zl, hrp, fun H1 s1 => ⟨_, rfl, ifNo rfl (q _ s1)⟩⟩
theorem ok_check (T : Tx P w K mg a) : FnOk P w K mg base CX0 6 a.check a.fd_check ["reading", "form", "place"] (sp_check a) := by
  refine T.F_check.ok sc_check (fun vs H Q E h => ?_) (fun cdv A outer s H vs Q E hr h => ?_)
  · obtain ⟨_, _, _, _, _, _, _, _, _, _, _, _, _, rfl, _⟩ := h
    rfl
  obtain ⟨H0, r, dx, da, ds, lb, ls, p, zs, R, m, f, i, rfl, h, zl, hp, fok, gd, q⟩ := h
  refine ⟨_, (pss_cons (ps_expr (pe_call (ok_check_nest T) (hr.mono (by decide)) rfl T.m_check_nest T.F_check_nest.kp T.b_check_nest .nil pass0 (pa_cons (pv 0) (pa_cons (pe_ix ix_tup (pv 1) pe_int (fun _ _ => rfl)) (pa_cons (pv 2) pa_nil)))))
      (pss_cons (ps_if (pt_cmpR op_in_seq (pe_ix ix_tup (pv 1) pe_int (fun _ _ => rfl)) (pe_glob rfl T.c_HEADS T.r_HEADS) (by with_unfolding_all rfl)) (pss_one (ps_expr (pe_call (ok_check_twice T) (hr.mono (by decide)) rfl T.m_check_twice T.F_check_twice.kp T.b_check_twice .nil pass0 (pa_cons (pv 0) (pa_cons (pv 1) (pa_cons (pv 2) pa_nil)))))) pss_nil)
      (pss_one (ps_if (pt_cmpR op_in_seq (pe_ix ix_tup (pv 1) pe_int (fun _ _ => rfl)) (pe_glob rfl T.c_MOVES T.r_MOVES) (by with_unfolding_all rfl)) (pss_one (ps_expr (pe_call (ok_check_move T) (hr.mono (by decide)) rfl T.m_check_move T.F_check_move.kp T.b_check_move .nil pass0 (pa_cons (pv 0) (pa_cons (pe_ix ix_tup (pv 1) pe_int (fun _ _ => rfl)) (pa_cons (pv 2) pa_nil)))))) pss_nil)))), ?_⟩
  obtain ⟨rs, ev⟩ : ∃ rs, f.v = .str (headOf f) :: rs := by
    cases f with
    | pl d => obtain ⟨rs, ev, _⟩ := smp_head fok.1; exact ⟨rs, ev⟩
    | _ => exact ⟨_, rfl⟩
  have hp' := hp
  rw [ev] at hp'
  refine ⟨_, rfl, _, rfl, p, _, _, _, rfl, rfl, SqT.of hp', atI0, _, rfl, H0, r, dx, da, ds, lb, ls, zs, R, m, f, i, rfl, h, fok, gd, fun H1 s1 => ?_⟩
  have h1 := h.more s1 (Nat.le_refl _)
  have hp1 := s1 _ _ hp
  have hp1' := s1 _ _ hp'
  refine ⟨_, rfl, p, _, _, _, rfl, rfl, SqT.of hp1', atI0, _, HeadsV, rfl, .inr (T.t_HEADS _), rfl, rfl, _, rfl, ?_⟩
  have key : ((∃ x, f = .ask x) ∨ ∃ x n, f = .sto x n) ∧ inV (.str (headOf f)) HeadsV = true ∧ inV (.str (headOf f)) MovV = false ∨ inV (.str (headOf f)) HeadsV = false ∧ (inV (.str (headOf f)) MovV = false ∨ ∃ d q x, f = .pl d ∧ (d = .put q x ∨ d = .get q x) ∧ inV (.str (headOf f)) MovV = true) := by
    cases f with
    | ask x => exact .inl ⟨.inl ⟨_, rfl⟩, by show inV (.str "ask") _ = true; decide +kernel, by show inV (.str "ask") _ = false; decide +kernel⟩
    | sto x n => exact .inl ⟨.inr ⟨_, _, rfl⟩, by show inV (.str "store") _ = true; decide +kernel, by show inV (.str "store") _ = false; decide +kernel⟩
    | opn k => exact .inr (by cases k; exact ⟨by show inV (.str "if") _ = false; decide +kernel, .inl (by show inV (.str "if") _ = false; decide +kernel)⟩; exact ⟨by show inV (.str "while") _ = false; decide +kernel, .inl (by show inV (.str "while") _ = false; decide +kernel)⟩; exact ⟨by show inV (.str "repeat") _ = false; decide +kernel, .inl (by show inV (.str "repeat") _ = false; decide +kernel)⟩)
    | els => exact .inr ⟨by show inV (.str "else") _ = false; decide +kernel, .inl (by show inV (.str "else") _ = false; decide +kernel)⟩
    | en => exact .inr ⟨by show inV (.str "end") _ = false; decide +kernel, .inl (by show inV (.str "end") _ = false; decide +kernel)⟩
    | pl d =>
      cases d with
      | set x a sg b => exact .inr ⟨by show inV (.str "set") _ = false; decide +kernel, .inl (by show inV (.str "set") _ = false; decide +kernel)⟩
      | put q x => exact .inr ⟨by show inV (.str "put") _ = false; decide +kernel, .inr ⟨_, q, x, rfl, .inl rfl, by show inV (.str "put") _ = true; decide +kernel⟩⟩
      | get q x => exact .inr ⟨by show inV (.str "get") _ = false; decide +kernel, .inr ⟨_, q, x, rfl, .inr rfl, by show inV (.str "get") _ = true; decide +kernel⟩⟩
      | give x => exact .inr ⟨by show inV (.str "give") _ = false; decide +kernel, .inl (by show inV (.str "give") _ = false; decide +kernel)⟩
      | _ => exact absurd fok.1 (by simp [Smp])
  rcases key with ⟨hf, e1, e2⟩ | ⟨e1, e2 | ⟨d, sq, x, rfl, hd, e2⟩⟩
  · refine ifYes e1 ⟨_, rfl, _, rfl, _, rfl, H0, r, dx, da, ds, lb, ls, p, zs, R, m, f, i, rfl, h1, hp1, hf, gd, ?_⟩
    exact ⟨_, rfl, p, _, _, _, rfl, rfl, SqT.of hp1', atI0, _, MovV, rfl, .inr (T.t_MOVES _), rfl, rfl, _, rfl, ifNo e2 (q _ s1)⟩
  · refine ifNo e1 ?_
    exact ⟨_, rfl, p, _, _, _, rfl, rfl, SqT.of hp1', atI0, _, MovV, rfl, .inr (T.t_MOVES _), rfl, rfl, _, rfl, ifNo e2 (q _ s1)⟩
  · refine ifNo e1 ?_
    refine ⟨_, rfl, p, _, _, _, rfl, rfl, SqT.of hp1', atI0, _, MovV, rfl, .inr (T.t_MOVES _), rfl, rfl, _, rfl, ifYes e2 ?_⟩
    have ht : ∃ w, H1 p = some (.tup [.str w, .str sq, .str x]) := by rcases hd with rfl | rfl <;> exact ⟨_, hp1⟩
    obtain ⟨w, ht⟩ := ht
    obtain ⟨g1, g2⟩ := gd sq x hd
    exact ⟨_, rfl, _, rfl, p, _, _, _, rfl, rfl, SqT.of ht, atI1, _, rfl, H0, r, dx, da, ds, lb, ls, zs, R, m, sq, i, rfl, h1, zl, g1, g2, fun H2 s2 => q _ (s1.trans s2)⟩
theorem rdA_step {fs : List (Option Fm)} {i : Nat} {o : Option Fm} (ho : fs[i]? = some o) : rdA (fs.take (i + 1)) = rdO (rdA (fs.take i)) o := by
  rw [List.take_add_one, ho, show (some o).toList = [o] from rfl]
  unfold rdA
  rw [List.foldl_append]
  rfl
theorem lay_few {R : RS} {d : Deed} : (R.lay d).fr.length = R.fr.length := by
  unfold RS.lay
  cases e : R.fr.getLast? with
  | none => rfl
  | some f =>
    show (R.fr.dropLast ++ [lay1 f d]).length = _
    rw [List.length_append, List.length_dropLast]
    have : R.fr ≠ [] := fun z => by rw [z] at e; cases e
    have : R.fr.length ≠ 0 := fun z => this (List.length_eq_zero_iff.mp z)
    show _ - 1 + 1 = _
    omega
theorem rd_few {R : RS} {f : Fm} (g : good R f) (h : R.fr.length ≤ 12) : (rd R f).fr.length ≤ 12 := by
  cases f with
  | ask x => exact h
  | sto x n => exact h
  | opn k =>
    have g : R.fr.length < 12 := g
    show (R.fr ++ [_]).length ≤ 12
    rw [List.length_append]
    show _ + 1 ≤ 12
    omega
  | els =>
    obtain ⟨f, x, hf, _, _⟩ := g
    show (match R.fr.getLast? with | none => R | some f => _).fr.length ≤ 12
    rw [hf]
    show (R.fr.dropLast ++ [_]).length ≤ 12
    have : R.fr ≠ [] := fun z => by rw [z] at hf; cases hf
    have : R.fr.length ≠ 0 := fun z => this (List.length_eq_zero_iff.mp z)
    rw [List.length_append, List.length_dropLast]
    show _ - 1 + 1 ≤ 12
    omega
  | en =>
    show (match R.fr.getLast? with | none => R | some f => _).fr.length ≤ 12
    cases hf : R.fr.getLast? with
    | none => exact h
    | some f =>
      show (RS.lay { R with fr := R.fr.dropLast } (f.k.deed f.ds f.os)).fr.length ≤ 12
      rw [lay_few]
      show R.fr.dropLast.length ≤ 12
      rw [List.length_dropLast]
      omega
  | pl d =>
    show (R.lay d).fr.length ≤ 12
    rw [lay_few]
    exact h
theorem fr_few {rows : List Str} {fs : List (Option Fm)} (hrw : Rws rows fs) : ∀ n : Nat, n ≤ fs.length → (rdA (fs.take n)).fr.length ≤ 12
  | 0, _ => Nat.zero_le _
  | n + 1, hn => by
    have ih := fr_few hrw n (Nat.le_of_succ_le hn)
    have ho := List.getElem?_eq_getElem (l := fs) (i := n) hn
    rw [rdA_step ho]
    have hn2 : n < rows.length := by rw [hrw.len]; exact hn
    have hr : rows[n]? = some rows[n] := List.getElem?_eq_getElem hn2
    generalize fs[n] = o at ho
    cases o with
    | none => exact ih
    | some f => exact rd_few (hrw.fm n _ f hr ho).2.2.2 ih
theorem join_len10 : ∀ ps : List Str, ∀ p ∈ ps, p.length ≤ (Str.join ⟨#[10]⟩ ps).length
  | [] => by simp
  | [x] => by intro p hp; cases List.mem_singleton.mp hp; exact Nat.le_refl _
  | x :: y :: r => by
    have ih := join_len10 (y :: r)
    have e : (Str.join ⟨#[10]⟩ (x :: y :: r)).length = x.length + 1 + (Str.join ⟨#[10]⟩ (y :: r)).length := by
      show (x ++ ⟨#[10]⟩ ++ Str.join ⟨#[10]⟩ (y :: r) : Str).length = _
      rw [str_len_append, str_len_append]
      rfl
    intro p hp
    rw [e]
    rcases List.mem_cons.mp hp with rfl | h
    · omega
    · have := ih p h
      omega
theorem RSs_of {H : Hp} : ∀ {ts : List Addr} {st : List (Str × Int)}, ts.length = st.length → (∀ (j : Nat) u p, ts[j]? = some u → st[j]? = some p → H u = some (.tup [.str p.1, .int p.2])) → RSs H (ts.map V.ref) st
  | [], [], _, _ => .nil
  | u :: ts, (q, n) :: st, hl, h => .cons (h 0 u (q, n) rfl rfl) (RSs_of (Nat.succ.inj hl) fun j u p hu hp => h (j + 1) u p hu hp)
theorem ok_read (T : Tx P w K mg a) : FnOk P w K mg base CX0 8 a.read a.fd_read ["text"] sp_read := by
  refine T.F_read.ok sc_read (fun vs H Q E h => ?_) (fun cdv A outer s H vs Q E hr h => ?_)
  · obtain ⟨_, _, _, rfl, _⟩ := h
    rfl
  obtain ⟨x, rows, fs, rfl, hx, hsp, hlen, hrw, hfr, q⟩ := h
  refine ⟨_, (pss_cons (ps_set (i := 1) sc_read.nd rfl (Or.inl rfl) (pe_bm PySem.F.plainAttrs_str PySem.F.slot_str_split PySem.F.type_str_split mt_split (pv 0) (pa_cons pe_str pa_nil)))
      (pss_cons (ps_set (i := 2) sc_read.nd rfl (Or.inl rfl) (pe_make0 T.k_Reading (ok_Reading___init__ T) (hr.mono (by decide)) rfl T.m_Reading T.b_Reading___init__ .nil pass0))
      (pss_cons (ps_for PassesOwn.never rfl (pi_enum1 rfl T.z_enumerate (pa_cons (pv 1) pa_nil) pe_int) (pg_tup rfl (pgs_cons (pg_name (i := 3) sc_read.nd rfl (Or.inl rfl)) (pgs_cons (pg_name (i := 4) sc_read.nd rfl (Or.inl rfl)) pgs_nil)))
      (pss_cons (ps_set (i := 5) sc_read.nd rfl (Or.inl rfl) (pe_call (ok_row_of T) (hr.mono (by decide)) rfl T.m_row_of T.F_row_of.kp T.b_row_of .nil pass0 (pa_cons (pv 4) (pa_cons (pv 3) pa_nil))))
      (pss_one (ps_if (pt_cmpR op_notN (pv 5) pe_non (nomark _)) (pss_cons (ps_expr (pe_call (ok_check T) (hr.mono (by decide)) rfl T.m_check T.F_check.kp T.b_check .nil pass0 (pa_cons (pv 2) (pa_cons (pv 5) (pa_cons (pv 3) pa_nil)))))
      (pss_one (ps_expr (pe_meth (pv 2) T.cl_Reading T.mt_Reading_enter (ok_Reading_enter T) (hr.mono (by decide)) T.b_Reading_enter .nil pass0 (pa_cons (pv 5) pa_nil))))) pss_nil))))
      (pss_cons (ps_if (pt_cmpR oi_gt (pe_callB call_len_seq rfl T.z_len PySem.boot_len (pa_cons (pe_fld (pv 2) rfl) pa_nil)) pe_int (nomark _)) (pss_one ps_never) pss_nil)
      (pss_one (ps_ret (pe_tup (pa_cons (pe_callTy (call_listD rfl) rfl T.z_list PyProof.Rows.Boot.«list» (pa_cons (pe_fld (pv 2) rfl) pa_nil)) (pa_cons (pe_listitems rfl rfl T.z_list (pe_fld (pv 2) rfl)) (pa_cons (pe_fld (pv 2) rfl) pa_nil)))))))))), ?_⟩
  have hzn : (1000000 : Nat) ≤ sizeLine := by decide
  refine ⟨_, rfl, rfl, x, "\n", rfl, rfl, rfl, by omega, fun lr hlr => ?_⟩
  have hsp' : Txt.split x "\n" = rows := hsp
  rw [hsp']
  have e1 := Same.new hlr (.lst (rows.map V.str))
  have r1 : upd H lr (.lst (rows.map V.str)) lr = some (.lst (rows.map V.str)) := upd_same
  generalize upd H lr (.lst (rows.map V.str)) = H1 at e1 r1 ⊢
  refine fun r dx hr0 hdx ne => ⟨r, dx, rfl, upd_same, fun H2 da ds lb ls keep nda nds nlb nls ned nel ho hda hds hlb hls => ⟨rfl, ?_⟩⟩
  have s12 : Same H1 H2 := fun c o hc => keep c o (fun e => by rw [e, hr0] at hc; cases hc) (by
    rw [upd_ne (fun e => by rw [e, hr0] at hc; cases hc), upd_ne (fun e => by rw [e, hdx] at hc; cases hc)]
    exact hc)
  have R2 : RdH a H1 H2 r dx da ds lb ls [] R0 0 := ⟨s12, ho, hda, hds, ⟨[], hlb, .nil, Nat.le_refl _⟩, hls, fun z hz => by simp at hz, rfl, ned, by simp [lsts, nel], by simp, List.nodup_nil, List.nodup_nil, Nat.le_refl _, Nat.le_refl _, hr0, none_upd (none_upd nda), none_upd (none_upd nds), fun c hc => by
    simp only [lsts, List.flatMap_nil, List.mem_cons, List.not_mem_nil, or_false] at hc
    rcases hc with rfl | rfl
    · exact none_upd (none_upd nlb)
    · exact none_upd (none_upd nls), fun z hz => by simp at hz⟩
  refine ⟨_, rfl, lr, _, rfl, SqL.of (s12 _ _ r1), ?_⟩
  refine for_enum1 (K := K) (l := lr) (xs := rows.map V.str) (fun i σ H3 => ∃ v3 v4 v5 zs H0, σ = [some (.str x), some (.ref lr), some (.ref r), v3, v4, v5] ∧ Same H1 H0 ∧ RdH a H0 H3 r dx da ds lb ls zs (rdA (fs.take i)) i) ⟨_, _, _, [], H1, rfl, Same.refl _, R2⟩ ?_ ?_ ?_
  · rintro i σ H3 ⟨_, _, _, zs, H0, _, e0, h⟩
    exact SqL.of (h.sa _ _ (e0 _ _ r1))
  · rintro i xv σ H3 p hxi ⟨v3, v4, v5, zs, H0, rfl, e0, h⟩ hp
    rw [List.getElem?_map] at hxi
    obtain ⟨row, hrow, rfl⟩ := Option.map_eq_some_iff.mp hxi
    have il : i < rows.length := (List.getElem?_eq_some_iff.mp hrow).1
    have il' : i < fs.length := by rw [← hrw.len]; exact il
    have hoi : fs[i]? = some fs[i] := List.getElem?_eq_getElem il'
    have s3 := Same.new hp (.tup [.int ((i + 1 : Nat) : Int), .str row])
    have h3 := h.more s3 (Nat.le_refl _)
    have rl : row.length ≤ 90000 := by
      have j := join_len10 (Txt.split x ⟨#[10]⟩) row (by rw [hsp]; exact List.mem_of_getElem? hrow)
      rw [StrLaws.join_split] at j
      omega
    refine ⟨p, _, rfl, SqT.of upd_same, rfl, _, _, rfl, _, _, rfl, rfl, ?_⟩
    refine ⟨_, rfl, _, rfl, row, _, rfl, rl, ?_⟩
    generalize fs[i] = o at hoi
    cases o with
    | none =>
      refine .inl ⟨hrw.no i row hrow hoi, fun H4 s4 => ?_⟩
      refine ⟨_, rfl, rfl, _, rfl, ifNo rfl ?_⟩
      exact ⟨_, _, _, zs, H0, rfl, e0, by rw [rdA_step hoi]; exact h3.more s4 (Nat.le_succ _)⟩
    | some f =>
      obtain ⟨fok, wn, wf, gd⟩ := hrw.fm i row f hrow hoi
      refine .inr ⟨wn, f.v, wf, fun H4 pf s4 hpf => ?_⟩
      refine ⟨_, rfl, rfl, _, rfl, ifYes rfl ?_⟩
      have h4 := h3.more s4 (Nat.le_refl _)
      have zl : zs.length ≤ 100 := by
        have := fr_few hrw i (Nat.le_of_lt il')
        rw [← h.eb, List.length_map] at this
        omega
      refine ⟨_, rfl, _, rfl, _, rfl, H0, r, dx, da, ds, lb, ls, pf, zs, _, i, f, _, rfl, h4, zl, hpf, fok, gd, fun H5 s5 => ?_⟩
      have h5 := h4.more s5 (Nat.le_refl _)
      have hp5 := s5 _ _ hpf
      have tp : ∀ {c : Addr} {o : HO}, H5 c = some o → kd o ≠ 1 → c ≠ pf := fun hc n => ne_kd hc hp5 n
      obtain ⟨e6, h6⟩ := h5.freeze hp5 (tp h5.ro (show (15 : Nat) ≠ 1 by decide)) (tp h5.ao (show (2 : Nat) ≠ 1 by decide)) (tp h5.so (show (2 : Nat) ≠ 1 by decide)) (fun hc => by
        obtain ⟨xs, hx⟩ := h5.list_in hc
        rw [hp5] at hx
        cases hx) (fun y hy => tp (h5.bs y hy).ob (show (14 : Nat) ≠ 1 by decide))
      exact ⟨_, rfl, r, _, _, rfl, h5.ro, gf_none (by decide +kernel), _, rfl, _, r, dx, da, ds, lb, ls, pf, zs, _, i, f, rfl, h6, by omega, upd_same, fok, gd, fun H7 H07 zs' e7 h7 => ⟨_, _, _, zs', H07, rfl, e0.trans (e6.trans e7), by rw [rdA_step hoi]; exact h7⟩⟩
  · rintro σ H3 ⟨v3, v4, v5, zs, H0, rfl, e0, h⟩
    rw [List.length_map, hrw.len, List.take_length] at h
    generalize rdA fs = R at h hfr q
    have len : zs.length = R.fr.length := by rw [← h.eb, List.length_map]
    refine ⟨_, rfl, r, _, _, _, _, rfl, h.ro, T.cl_Reading, T.nf_Reading_blocks, gf_l, ls, _, rfl, .inl (SqL.of h.lo), _, _, rfl, rfl, _, rfl, ?_⟩
    rw [List.length_map, len]
    refine ifNo (by rw [hfr]; decide) ?_
    have hs := h.so
    obtain ⟨xs, hx', hn, _⟩ := h.bo
    refine ⟨_, rfl, r, _, _, _, _, rfl, h.ro, T.cl_Reading, T.nf_Reading_asks, gf_a, da, _, rfl, h.ao, fun l1 hl1 => ?_⟩
    have t1 := Same.new hl1 (.lst ((Tr.tabV R.ak fun _ => V.bl true).map fun q => kV q.1))
    have h1 := h.more t1 (Nat.le_refl _)
    refine ⟨_, rfl, r, _, _, _, _, rfl, h1.ro, T.cl_Reading, T.nf_Reading_stores, gf_s, ds, _, rfl, t1 _ _ hs, fun H5 l2 ts t2 n2 hl2 lt2 hts => ?_⟩
    have h5 := h1.more t2 (Nat.le_refl _)
    have st := ((e1.trans e0).trans h.sa).trans (t1.trans t2)
    refine ⟨_, rfl, r, _, _, _, _, rfl, h5.ro, T.cl_Reading, T.nf_Reading_body, gf_b, by show 3 ≤ sizeLine; decide, fun t ht => ?_⟩
    have t3 := Same.new ht (.tup [.ref l1, .ref l2, .ref lb])
    refine q _ t l1 l2 lb ts (st.trans t3) upd_same (t3 _ _ (t2 _ _ ?_)) (t3 _ _ hl2) (RSs_of (by rw [lt2]; unfold stK; rw [List.length_map]) fun j u p hj hp => ?_) (.mk (t3 _ _ (t2 _ _ (t1 _ _ hx'))) (RDs.same (h.sa.trans (t1.trans (t2.trans t3))) hn))
    · rw [upd_same]
      unfold Tr.tabV
      rw [List.map_map]
      rfl
    · refine t3 _ _ (hts j u (.inr p.1, .int p.2) hj ?_).1
      unfold stK
      rw [List.getElem?_map, hp]
      rfl
theorem Own.get {H0 H : Hp} {cs : List (Addr × HO)} (h : Own H0 H cs) {c : Addr} {o : HO} (hc : (c, o) ∈ cs) : H c = some o := (h.2.2 _ hc).1
theorem Own.more {H0 H H' : Hp} {cs : List (Addr × HO)} (h : Own H0 H cs) (e : Same H H') : Own H0 H' cs := ⟨h.1.trans e, h.2.1, fun p hp => ⟨e _ _ (h.2.2 p hp).1, (h.2.2 p hp).2⟩⟩
theorem Own.upd {H0 H : Hp} {xs ys : List (Addr × HO)} {c : Addr} {o : HO} (o' : HO) (h : Own H0 H (xs ++ (c, o) :: ys)) : Own H0 (upd H c o') (xs ++ (c, o') :: ys) := by
  obtain ⟨h1, h2, h3⟩ := h
  have nd := h2
  rw [List.map_append, List.map_cons, List.nodup_append, List.nodup_cons] at nd
  obtain ⟨n1, ⟨n2, n3⟩, n4⟩ := nd
  refine ⟨RdH.same_upd h1 (h3 (c, o) (by simp)).2, by rw [List.map_append, List.map_cons] at h2 ⊢; exact h2, fun p hp => ?_⟩
  rcases List.mem_append.mp hp with q | q
  · have k := h3 p (List.mem_append_left _ q)
    have ne : p.1 ≠ c := n4 _ (List.mem_map.mpr ⟨p, q, rfl⟩) _ (by simp)
    exact ⟨by rw [upd_ne ne]; exact k.1, k.2⟩
  · rcases List.mem_cons.mp q with rfl | q
    · exact ⟨upd_same, (h3 (c, o) (by simp)).2⟩
    · have k := h3 p (List.mem_append_right _ (List.mem_cons_of_mem _ q))
      have ne : p.1 ≠ c := fun e => n2 (e ▸ List.mem_map.mpr ⟨p, q, rfl⟩)
      exact ⟨by rw [upd_ne ne]; exact k.1, k.2⟩
theorem Own.new {H0 H : Hp} {cs : List (Addr × HO)} (h : Own H0 H cs) {c : Addr} (o : HO) (hn : H c = none) : Own H0 (L2.upd H c o) (cs ++ [(c, o)]) := by
  obtain ⟨h1, h2, h3⟩ := h
  have e := Same.new hn o
  refine ⟨h1.trans e, ?_, fun p hp => ?_⟩
  · rw [List.map_append, List.nodup_append]
    refine ⟨h2, by simp, fun a ha b hb => ?_⟩
    obtain ⟨p, hp, rfl⟩ := List.mem_map.mp ha
    have hb : b = c := by simpa using hb
    subst hb
    intro z
    have := (h3 p hp).1
    rw [z, hn] at this
    cases this
  · rcases List.mem_append.mp hp with q | q
    · exact ⟨e _ _ (h3 p q).1, (h3 p q).2⟩
    · obtain rfl := List.mem_singleton.mp q
      exact ⟨upd_same, none_back h1 hn⟩
theorem Own.frz {H0 H : Hp} {cs : List (Addr × HO)} (h : Own H0 H cs) {c : Addr} {o : HO} (hc : H c = some o) (n : ∀ p ∈ cs, p.1 ≠ c) : Same H0 (L2.upd H0 c o) ∧ Own (L2.upd H0 c o) H cs := by
  obtain ⟨h1, h2, h3⟩ := h
  have e : Same H0 (L2.upd H0 c o) := fun x y hx => by
    by_cases z : x = c
    · subst z
      have := h1 _ _ hx
      rw [hc] at this
      rw [upd_same]
      exact this
    · rw [upd_ne z]; exact hx
  refine ⟨e, fun x y hx => ?_, h2, fun p hp => ⟨(h3 p hp).1, by rw [upd_ne (n p hp)]; exact (h3 p hp).2⟩⟩
  by_cases z : x = c
  · subst z
    rw [upd_same] at hx
    rw [hc]
    exact hx
  · rw [upd_ne z] at hx
    exact h1 _ _ hx
theorem Own.drop {H0 H : Hp} {xs ys : List (Addr × HO)} {c : Addr} {o : HO} (h : Own H0 H (xs ++ (c, o) :: ys)) : Same H0 (L2.upd H0 c o) ∧ Own (L2.upd H0 c o) H (xs ++ ys) := by
  obtain ⟨h1, h2, h3⟩ := h
  have nd := h2
  rw [List.map_append, List.map_cons, List.nodup_append, List.nodup_cons] at nd
  obtain ⟨n1, ⟨n2, n3⟩, n4⟩ := nd
  have hc := (h3 (c, o) (by simp)).1
  have k : Own H0 H (xs ++ ys) := ⟨h1, by
    rw [List.map_append, List.nodup_append]
    exact ⟨n1, n3, fun a ha b hb => n4 a ha b (List.mem_cons_of_mem _ hb)⟩, fun p hp => h3 p (by
    rcases List.mem_append.mp hp with q | q
    · exact List.mem_append_left _ q
    · exact List.mem_append_right _ (List.mem_cons_of_mem _ q))⟩
  refine k.frz hc fun p hp => ?_
  rcases List.mem_append.mp hp with q | q
  · exact n4 _ (List.mem_map.mpr ⟨p, q, rfl⟩) _ (by simp)
  · exact fun e => n2 (e ▸ List.mem_map.mpr ⟨p, q, rfl⟩)
theorem cells_lst {A : Ad5} {B : BS} : ∀ p ∈ B.cells A, ∃ xs, p.2 = .lst xs := by
  intro p hp
  unfold BS.cells at hp
  rcases List.mem_append.mp hp with q | q
  · simp only [List.mem_cons, List.not_mem_nil, or_false] at q
    rcases q with rfl | rfl | rfl | rfl | rfl <;> exact ⟨_, rfl⟩
  · obtain ⟨z, hz, q⟩ := List.mem_flatMap.mp q
    unfold Fc.cells at q
    rcases List.mem_cons.mp q with rfl | q
    · exact ⟨_, rfl⟩
    · rcases List.mem_cons.mp q with rfl | q
      · exact ⟨_, rfl⟩
      · split at q
        · obtain rfl := List.mem_singleton.mp q
          exact ⟨_, rfl⟩
        · cases q
section
variable {H0 H : Hp} {A : Ad5} {B : BS} {m : Nat}
theorem FcAt.frz {H0' : Hp} {z : Fc} {m' : Nat} (h : FcAt H0 z m) (e : Same H0 H0') (l : m ≤ m') : FcAt H0' z m' := ⟨e _ _ h.ob, RDs.same e h.de, RDs.same e h.ot, h.nt, Nat.le_trans h.ld l, Nat.le_trans h.lo l⟩
theorem BdH.more {H' : Hp} {m' : Nat} (h : BdH H0 H A B m) (e : Same H H') (l : m ≤ m') : BdH H0 H' A B m' := ⟨h.own.more e, h.ss, h.tt, fun z hz => (h.zz z hz).frz (Same.refl _) l, h.eb, Nat.le_trans h.l1 l, Nat.le_trans h.l2 l, Nat.le_trans h.l3 l, Nat.le_trans h.l4 l⟩
theorem BdH.frz {c : Addr} {o : HO} (h : BdH H0 H A B m) (hc : H c = some o) (n : ∀ p ∈ B.cells A, p.1 ≠ c) : Same H0 (upd H0 c o) ∧ BdH (upd H0 c o) H A B m := by
  obtain ⟨e, k⟩ := h.own.frz hc n
  exact ⟨e, k, RSs.same e h.ss, RDs.same e h.tt, fun z hz => (h.zz z hz).frz e (Nat.le_refl _), h.eb, h.l1, h.l2, h.l3, h.l4⟩
theorem BdH.frzT {c : Addr} {xs : List V} (h : BdH H0 H A B m) (hc : H c = some (.tup xs)) : Same H0 (upd H0 c (.tup xs)) ∧ BdH (upd H0 c (.tup xs)) H A B m := h.frz hc fun p hp e => by
  have k := h.own.get hp
  rw [e, hc] at k
  obtain ⟨ys, ey⟩ := cells_lst p hp
  rw [ey] at k
  cases k
theorem BdH.frzN {H' : Hp} {c : Addr} {o : HO} (h : BdH H0 H A B m) (hn : H c = none) (e : Same H H') (hc : H' c = some o) : Same H0 (upd H0 c o) ∧ BdH (upd H0 c o) H' A B m := (h.more e (Nat.le_refl _)).frz hc fun p hp z => by
  have k := h.own.get hp
  rw [z, hn] at k
  cases k
theorem BdH.la (h : BdH H0 H A B m) : H A.la = some (.lst (B.R.ak.map V.str)) := h.own.get (by unfold BS.cells; simp)
theorem BdH.ls (h : BdH H0 H A B m) : H A.ls = some (.lst B.sv) := h.own.get (by unfold BS.cells; simp)
theorem BdH.lt (h : BdH H0 H A B m) : H A.lt = some (.lst B.tv) := h.own.get (by unfold BS.cells; simp)
theorem BdH.lf (h : BdH H0 H A B m) : H A.lf = some (.lst (B.zs.map fun z => V.ref z.b)) := h.own.get (by unfold BS.cells; simp)
theorem BdH.ll (h : BdH H0 H A B m) : H A.ll = some (.lst (B.Ls.map V.ref)) := h.own.get (by unfold BS.cells; simp)
theorem BdH.zc (h : BdH H0 H A B m) {z : Fc} (hz : z ∈ B.zs) {c : Addr} {o : HO} (hc : (c, o) ∈ z.cells) : H c = some o := h.own.get (by unfold BS.cells; exact List.mem_append_right _ (List.mem_flatMap.mpr ⟨z, hz, hc⟩))
theorem BdH.ask {x : Str} (h : BdH H0 H A B m) : BdH H0 (upd H A.la (.lst ((B.R.ak ++ [x]).map V.str))) A { B with R := { B.R with ak := B.R.ak ++ [x] } } (m + 1) :=
  ⟨Own.upd (xs := []) _ h.own, h.ss, h.tt, fun z hz => (h.zz z hz).frz (Same.refl _) (Nat.le_succ _), h.eb, Nat.le_succ_of_le h.l1, Nat.le_succ_of_le h.l2, by show (B.R.ak ++ [x]).length ≤ m + 1; rw [List.length_append]; exact Nat.succ_le_succ h.l3, Nat.le_succ_of_le h.l4⟩
theorem BdH.sto {p : Addr} {x : Str} {n : Int} (h : BdH H0 H A B m) (hp : H0 p = some (.tup [.str x, .int n])) : BdH H0 (upd H A.ls (.lst (B.sv ++ [.ref p]))) A { B with sv := B.sv ++ [.ref p], R := { B.R with st := B.R.st ++ [(x, n)] } } (m + 1) :=
  ⟨Own.upd (xs := [_]) _ h.own, RSs.snoc hp h.ss, h.tt, fun z hz => (h.zz z hz).frz (Same.refl _) (Nat.le_succ _), h.eb, Nat.le_succ_of_le h.l1, by show (B.sv ++ [_]).length ≤ m + 1; rw [List.length_append]; exact Nat.succ_le_succ h.l2, Nat.le_succ_of_le h.l3, Nat.le_succ_of_le h.l4⟩
theorem BdH.line {L : Addr} (h : BdH H0 H A B m) (hl : B.Ls.length < m) : BdH H0 (upd H A.ll (.lst ((B.Ls ++ [L]).map V.ref))) A { B with Ls := B.Ls ++ [L] } m :=
  ⟨Own.upd (xs := [_, _, _, _]) _ h.own, h.ss, h.tt, h.zz, h.eb, h.l1, h.l2, h.l3, by show (B.Ls ++ [L]).length ≤ m; rw [List.length_append]; exact hl⟩
theorem BdH.top {v : V} {d : Deed} (h : BdH H0 H A B m) (hd : RD H0 v d) : BdH H0 (upd H A.lt (.lst (B.tv ++ [v]))) A { B with tv := B.tv ++ [v], R := { B.R with top := B.R.top ++ [d] } } (m + 1) :=
  ⟨Own.upd (xs := [_, _]) _ h.own, h.ss, RDs.app h.tt (.cons hd .nil), fun z hz => (h.zz z hz).frz (Same.refl _) (Nat.le_succ _), h.eb, by show (B.tv ++ [v]).length ≤ m + 1; rw [List.length_append]; exact Nat.succ_le_succ h.l1, Nat.le_succ_of_le h.l2, Nat.le_succ_of_le h.l3, Nat.le_succ_of_le h.l4⟩
end
section
variable {H0 H : Hp} {A : Ad5} {B : BS} {m : Nat}
def BS.five (B : BS) (A : Ad5) (rs : List V) : List (Addr × HO) := [(A.la, .lst (B.R.ak.map V.str)), (A.ls, .lst B.sv), (A.lt, .lst B.tv), (A.lf, .lst rs), (A.ll, .lst (B.Ls.map V.ref))]
theorem cells_snoc {zs : List Fc} {z : Fc} (hz : B.zs = zs ++ [z]) : B.cells A = (B.five A (zs.map (fun z => V.ref z.b) ++ [.ref z.b]) ++ zs.flatMap Fc.cells) ++ z.cells := by
  unfold BS.cells BS.five
  rw [hz, List.flatMap_append, List.map_append, List.append_assoc]
  simp
theorem BdH.inn {zs : List Fc} {z : Fc} {v : V} {d : Deed} (h : BdH H0 H A B m) (hz : B.zs = zs ++ [z]) (hd : RD H0 v d) :
    BdH H0 (upd H (if z.t = true then z.lo else z.ld) (.lst ((if z.t = true then z.ov else z.dv) ++ [v]))) A { B with zs := zs ++ [if z.t = true then { z with ov := z.ov ++ [v], os := z.os ++ [d] } else { z with dv := z.dv ++ [v], ds := z.ds ++ [d] }], R := { B.R with fr := B.R.fr.dropLast ++ [lay1 z.fr d] } } (m + 1) := by
  have hzm : z ∈ B.zs := by rw [hz]; simp
  have fz := h.zz z hzm
  have own := h.own
  rw [cells_snoc hz] at own
  have efr : B.R.fr.dropLast = zs.map Fc.fr := by rw [← h.eb, hz]; simp
  have rest : ∀ y ∈ zs, FcAt H0 y (m + 1) := fun y hy => (h.zz y (by rw [hz]; exact List.mem_append_left _ hy)).frz (Same.refl _) (Nat.le_succ _)
  obtain ⟨b, lp, ld, lo, k, ds, os, dv, ov, t⟩ := z
  cases t with
  | true =>
    refine ⟨?_, h.ss, h.tt, fun y hy => ?_, ?_, Nat.le_succ_of_le h.l1, Nat.le_succ_of_le h.l2, Nat.le_succ_of_le h.l3, Nat.le_succ_of_le h.l4⟩
    · rw [cells_snoc (zs := zs) rfl]
      have := Own.upd (xs := B.five A (zs.map (fun z => V.ref z.b) ++ [.ref b]) ++ zs.flatMap Fc.cells ++ [(ld, .lst dv), (lp, .lst [.ref ld, .ref lo])]) (ys := []) (c := lo) (o := .lst ov) (.lst (ov ++ [v])) (by rw [List.append_assoc]; exact own)
      rw [List.append_assoc] at this
      exact this
    · rcases List.mem_append.mp hy with q | q
      · exact rest y q
      · obtain rfl := List.mem_singleton.mp q
        exact ⟨fz.ob, fz.de, RDs.app fz.ot (.cons hd .nil), nofun, Nat.le_succ_of_le fz.ld, by show (ov ++ [v]).length ≤ m + 1; rw [List.length_append]; exact Nat.succ_le_succ fz.lo⟩
    · show (zs ++ [_]).map Fc.fr = B.R.fr.dropLast ++ [_]
      rw [efr, List.map_append]; rfl
  | false =>
    refine ⟨?_, h.ss, h.tt, fun y hy => ?_, ?_, Nat.le_succ_of_le h.l1, Nat.le_succ_of_le h.l2, Nat.le_succ_of_le h.l3, Nat.le_succ_of_le h.l4⟩
    · rw [cells_snoc (zs := zs) rfl]
      exact Own.upd (xs := B.five A (zs.map (fun z => V.ref z.b) ++ [.ref b]) ++ zs.flatMap Fc.cells) (ys := [(lp, .lst [.ref ld])]) (c := ld) (o := .lst dv) (.lst (dv ++ [v])) own
    · rcases List.mem_append.mp hy with q | q
      · exact rest y q
      · obtain rfl := List.mem_singleton.mp q
        exact ⟨fz.ob, RDs.app fz.de (.cons hd .nil), fz.ot, fz.nt, by show (dv ++ [v]).length ≤ m + 1; rw [List.length_append]; exact Nat.succ_le_succ fz.ld, Nat.le_succ_of_le fz.lo⟩
    · show (zs ++ [_]).map Fc.fr = B.R.fr.dropLast ++ [_]
      rw [efr, List.map_append]; rfl
theorem BdH.push {ld lp b : Addr} {k : Kd} (h : BdH H0 H A B m) (n1 : H ld = none) (n2 : upd H ld (.lst []) lp = none) (n3 : upd (upd H ld (.lst [])) lp (.lst [.ref ld]) b = none) :
    Same H0 (upd H0 b (.lst [.str k.h, k.v, .ref lp])) ∧ BdH (upd H0 b (.lst [.str k.h, k.v, .ref lp])) (upd (upd (upd (upd H ld (.lst [])) lp (.lst [.ref ld])) b (.lst [.str k.h, k.v, .ref lp])) A.lf (.lst (B.zs.map (fun z => V.ref z.b) ++ [.ref b]))) A { B with zs := B.zs ++ [⟨b, lp, ld, 0, k, [], [], [], [], false⟩], R := { B.R with fr := B.R.fr ++ [⟨k, [], [], false⟩] } } (m + 1) := by
  have o1 := (h.own.new (.lst []) n1).new (.lst [.ref ld]) n2
  have o2 := o1.more (Same.new n3 (.lst [.str k.h, k.v, .ref lp]))
  obtain ⟨e, o3⟩ := o2.frz (c := b) upd_same fun p hp z => by
    have := o1.get hp
    rw [z, n3] at this
    cases this
  refine ⟨e, ?_, RSs.same e h.ss, RDs.same e h.tt, fun y hy => ?_, ?_, Nat.le_succ_of_le h.l1, Nat.le_succ_of_le h.l2, Nat.le_succ_of_le h.l3, Nat.le_succ_of_le h.l4⟩
  · rw [cells_snoc (zs := B.zs) rfl]
    have := Own.upd (xs := [(A.la, .lst (B.R.ak.map V.str)), (A.ls, .lst B.sv), (A.lt, .lst B.tv)]) (c := A.lf) (o := .lst (B.zs.map fun z => V.ref z.b)) (ys := [(A.ll, .lst (B.Ls.map V.ref))] ++ B.zs.flatMap Fc.cells ++ [(ld, .lst []), (lp, .lst [.ref ld])]) (.lst (B.zs.map (fun z => V.ref z.b) ++ [.ref b])) (by
      unfold BS.cells at o3
      simpa using o3)
    show Own _ _ ((B.five A (B.zs.map (fun z => V.ref z.b) ++ [.ref b]) ++ B.zs.flatMap Fc.cells) ++ [(ld, .lst []), (lp, .lst [.ref ld])])
    unfold BS.five
    simpa using this
  · rcases List.mem_append.mp hy with q | q
    · exact (h.zz y q).frz e (Nat.le_succ _)
    · obtain rfl := List.mem_singleton.mp q
      exact ⟨upd_same, .nil, .nil, fun _ => rfl, Nat.zero_le _, Nat.zero_le _⟩
  · show (B.zs ++ [_]).map Fc.fr = B.R.fr ++ [_]
    rw [List.map_append, h.eb]; rfl
theorem BdH.turn {zs : List Fc} {z : Fc} {lo : Addr} (h : BdH H0 H A B m) (hz : B.zs = zs ++ [z]) (zt : z.t = false) (n1 : H lo = none) :
    BdH H0 (upd (upd H lo (.lst [])) z.lp (.lst [.ref z.ld, .ref lo])) A { B with zs := zs ++ [{ z with lo := lo, t := true, ov := [], os := [] }], R := { B.R with fr := B.R.fr.dropLast ++ [{ z.fr with t := true }] } } (m + 1) := by
  have hzm : z ∈ B.zs := by rw [hz]; simp
  have fz := h.zz z hzm
  have own := h.own.new (.lst []) n1
  rw [cells_snoc hz] at own
  have efr : B.R.fr.dropLast = zs.map Fc.fr := by rw [← h.eb, hz]; simp
  have rest : ∀ y ∈ zs, FcAt H0 y (m + 1) := fun y hy => (h.zz y (by rw [hz]; exact List.mem_append_left _ hy)).frz (Same.refl _) (Nat.le_succ _)
  have os0 := fz.nt zt
  obtain ⟨b, lp, ld, lo', k, ds, os, dv, ov, t⟩ := z
  obtain rfl : t = false := zt
  obtain rfl : os = [] := os0
  refine ⟨?_, h.ss, h.tt, fun y hy => ?_, ?_, Nat.le_succ_of_le h.l1, Nat.le_succ_of_le h.l2, Nat.le_succ_of_le h.l3, Nat.le_succ_of_le h.l4⟩
  · rw [cells_snoc (zs := zs) rfl]
    have := Own.upd (xs := B.five A (zs.map (fun z => V.ref z.b) ++ [.ref b]) ++ zs.flatMap Fc.cells ++ [(ld, .lst dv)]) (ys := [(lo, .lst [])]) (c := lp) (o := .lst [.ref ld]) (.lst [.ref ld, .ref lo]) (by
      have own : Own H0 _ ((B.five A (zs.map (fun z => V.ref z.b) ++ [.ref b]) ++ zs.flatMap Fc.cells) ++ [(ld, .lst dv), (lp, .lst [.ref ld])] ++ [(lo, .lst [])]) := own
      simpa using own)
    show Own _ _ ((B.five A (zs.map (fun z => V.ref z.b) ++ [.ref b]) ++ zs.flatMap Fc.cells) ++ [(ld, .lst dv), (lp, .lst [.ref ld, .ref lo]), (lo, .lst [])])
    simpa using this
  · rcases List.mem_append.mp hy with q | q
    · exact rest y q
    · obtain rfl := List.mem_singleton.mp q
      exact ⟨fz.ob, fz.de, .nil, fun _ => rfl, Nat.le_succ_of_le fz.ld, Nat.zero_le _⟩
  · show (zs ++ [_]).map Fc.fr = B.R.fr.dropLast ++ [_]
    rw [efr, List.map_append]; rfl
theorem BdH.pop {zs : List Fc} {z : Fc} (h : BdH H0 H A B m) (hz : B.zs = zs ++ [z]) :
    ∃ H0', Same H0 H0' ∧ BdH H0' (upd H A.lf (.lst (zs.map fun z => V.ref z.b))) A { B with zs := zs, R := { B.R with fr := B.R.fr.dropLast } } m ∧ RL H0' z.ld z.ds ∧ (z.t = true → RL H0' z.lo z.os) ∧ H0' z.lp = some (.lst (.ref z.ld :: if z.t = true then [.ref z.lo] else [])) ∧ H0' z.b = some (.lst [.str z.k.h, z.k.v, .ref z.lp]) := by
  have hzm : z ∈ B.zs := by rw [hz]; simp
  have fz := h.zz z hzm
  have own := h.own
  rw [cells_snoc hz] at own
  have efr : B.R.fr.dropLast = zs.map Fc.fr := by rw [← h.eb, hz]; simp
  have own2 : Own H0 (upd H A.lf (.lst (zs.map fun z => V.ref z.b))) ((B.five A (zs.map fun z => V.ref z.b) ++ zs.flatMap Fc.cells) ++ z.cells) := by
    have := Own.upd (xs := [(A.la, .lst (B.R.ak.map V.str)), (A.ls, .lst B.sv), (A.lt, .lst B.tv)]) (c := A.lf) (o := .lst (zs.map (fun z => V.ref z.b) ++ [.ref z.b])) (ys := [(A.ll, .lst (B.Ls.map V.ref))] ++ zs.flatMap Fc.cells ++ z.cells) (.lst (zs.map fun z => V.ref z.b)) (by
      unfold BS.five at own
      simpa using own)
    unfold BS.five
    simpa using this
  generalize upd H A.lf (.lst (zs.map fun z => V.ref z.b)) = H1 at own2 ⊢
  have fin : ∀ {H0' : Hp}, Same H0 H0' → Own H0' H1 (B.five A (zs.map fun z => V.ref z.b) ++ zs.flatMap Fc.cells) → BdH H0' H1 A { B with zs := zs, R := { B.R with fr := B.R.fr.dropLast } } m := fun e o => ⟨o, RSs.same e h.ss, RDs.same e h.tt, fun y hy => (h.zz y (by rw [hz]; exact List.mem_append_left _ hy)).frz e (Nat.le_refl _), efr.symm, h.l1, h.l2, h.l3, h.l4⟩
  obtain ⟨b, lp, ld, lo, k, ds, os, dv, ov, t⟩ := z
  cases t with
  | false =>
    obtain ⟨e1, o1⟩ := Own.drop (xs := B.five A (zs.map fun z => V.ref z.b) ++ zs.flatMap Fc.cells) (c := ld) (o := .lst dv) (ys := [(lp, .lst [.ref ld])]) own2
    obtain ⟨e2, o2⟩ := o1.drop (ys := [])
    rw [List.append_nil] at o2
    have e12 := e1.trans e2
    exact ⟨_, e12, fin e12 o2, .mk (e2 _ _ upd_same) (RDs.same e12 fz.de), nofun, upd_same, e12 _ _ fz.ob⟩
  | true =>
    obtain ⟨e1, o1⟩ := Own.drop (xs := B.five A (zs.map fun z => V.ref z.b) ++ zs.flatMap Fc.cells) (c := ld) (o := .lst dv) (ys := [(lp, .lst [.ref ld, .ref lo]), (lo, .lst ov)]) own2
    obtain ⟨e2, o2⟩ := o1.drop (ys := [(lo, .lst ov)])
    obtain ⟨e3, o3⟩ := o2.drop (ys := [])
    rw [List.append_nil] at o3
    have e13 := e1.trans (e2.trans e3)
    exact ⟨_, e13, fin e13 o3, .mk (e3 _ _ (e2 _ _ upd_same)) (RDs.same e13 fz.de), fun _ => .mk upd_same (RDs.same e13 fz.ot), e3 _ _ upd_same, e13 _ _ fz.ob⟩
theorem Hist.same {H0 H0' : Hp} (e : Same H0 H0') : ∀ {Ls : List Addr} {fs : List Fm} {R : RS}, Hist H0 Ls fs R → Hist H0' Ls fs R
  | _, _, _, .nil => .nil
  | _, _, _, .snoc h g w l => .snoc (h.same e) g w (e _ _ l)
theorem Hist.len {H0 : Hp} : ∀ {Ls : List Addr} {fs : List Fm} {R : RS}, Hist H0 Ls fs R → Ls.length = fs.length
  | _, _, _, .nil => rfl
  | _, _, _, .snoc h _ _ _ => by rw [List.length_append, List.length_append, h.len]; rfl
end
theorem here_snoc {A : Ad5} {zs : List Fc} {z : Fc} : here A (zs ++ [z]) = if z.t = true then z.lo else z.ld := by
  unfold here
  rw [List.getLast?_concat]
theorem last_map {zs : List Fc} {z : Fc} : atI ((zs ++ [z]).map fun z => V.ref z.b) (-1) = some (.ref z.b) := by rw [List.map_append]; exact atI_last _ _
theorem BdH.pz {H0 H : Hp} {A : Ad5} {B : BS} {m : Nat} (h : BdH H0 H A B m) {z : Fc} (hz : z ∈ B.zs) : H z.b = some (.lst [.str z.k.h, z.k.v, .ref z.lp]) ∧ H z.lp = some (.lst (.ref z.ld :: if z.t = true then [.ref z.lo] else [])) := ⟨h.own.1 _ _ (h.zz z hz).ob, h.zc hz (by unfold Fc.cells; simp)⟩
theorem at_lp {ld lo : Addr} {t : Bool} : atI (V.ref ld :: if t = true then [V.ref lo] else []) (-1) = some (.ref (if t = true then lo else ld)) := by
  cases t
  · exact atI_last [] _
  · exact atI_last [_] _
theorem ok__law_here (T : Tx P w K mg a) : FnOk P w K mg base CX0 1 a._law_here a.fd__law_here ["_law_top", "_law_fences"] sp__law_here := by
  refine T.F__law_here.ok sc__law_here (fun vs H Q E h => ?_) (fun cdv A' outer s H vs Q E hr h => ?_)
  · obtain ⟨_, _, _, _, rfl, _⟩ := h
    rfl
  obtain ⟨H0, A, B, m, rfl, h, q⟩ := h
  refine ⟨_, (pss_cons (ps_if (pt_cmpR oi_gt (pe_callB call_len_seq rfl T.z_len PySem.boot_len (pa_cons (pv 1) pa_nil)) pe_int (nomark _)) (pss_one (ps_ret (pe_ix ix_list (pe_ix ix_list (pe_ix ix_list (pv 1) (pe_un un_neg pe_int) (fun _ _ => rfl)) pe_int (fun _ _ => rfl)) (pe_un un_neg pe_int) (fun _ _ => rfl)))) pss_nil)
      (pss_one (ps_ret (pv 0)))), ?_⟩
  refine ⟨_, rfl, A.lf, _, rfl, .inl (SqL.of h.lf), _, _, rfl, rfl, _, rfl, ?_⟩
  rw [List.length_map]
  rcases List.eq_nil_or_concat B.zs with e | ⟨zs, z, e⟩
  · refine ifNo (by rw [e]; decide) ⟨_, rfl, ?_⟩
    rw [e] at q
    exact q
  · rw [List.concat_eq_append] at e
    have hzm : z ∈ B.zs := by rw [e]; simp
    obtain ⟨p1, p2⟩ := h.pz hzm
    rw [e, here_snoc] at q
    refine ifYes (decide_eq_true (by rw [e]; simp)) ⟨_, rfl, _, rfl, A.lf, _, _, _, rfl, rfl, SqL.of h.lf, by rw [e]; exact last_map, z.b, _, _, _, rfl, rfl, SqL.of p1, atI2, _, rfl, z.lp, _, _, _, rfl, rfl, SqL.of p2, at_lp, q⟩
theorem Kd.if_is (k : Kd) : decide (V.str k.h = V.str "if") = decide (k.h = "if") := decide_eq_decide.mpr ⟨fun y => V.str.inj y, fun y => by rw [y]⟩
theorem BdH.lay {H0 H : Hp} {A : Ad5} {B : BS} {m : Nat} {v : V} {d : Deed} (h : BdH H0 H A B m) (hd : RD H0 v d) : ∃ xs, H (here A B.zs) = some (.lst xs) ∧ xs.length ≤ m ∧ ∃ B', BdH H0 (upd H (here A B.zs) (.lst (xs ++ [v]))) A B' (m + 1) ∧ B'.Ls = B.Ls ∧ B'.R = B.R.lay d := by
  rcases List.eq_nil_or_concat B.zs with e | ⟨zs, z, e⟩
  · rw [e]
    refine ⟨B.tv, h.lt, h.l1, _, h.top hd, rfl, ?_⟩
    have : B.R.fr = [] := by rw [← h.eb, e]; rfl
    exact (lay_nil this).symm
  · rw [List.concat_eq_append] at e
    have hzm : z ∈ B.zs := by rw [e]; simp
    have fz := h.zz z hzm
    have lf : B.R.fr.getLast? = some z.fr := by rw [← h.eb, e, List.map_append]; simp
    have k := h.inn e hd
    rw [← here_snoc (A := A) (zs := zs), ← e] at k
    refine ⟨if z.t = true then z.ov else z.dv, ?_, ?_, _, k, rfl, (lay_snoc lf).symm⟩
    · rw [e, here_snoc]
      refine h.zc hzm ?_
      unfold Fc.cells
      split <;> simp
    · split
      · exact fz.lo
      · exact fz.ld
theorem rd_en {R : RS} {f : Fr6} (h : R.fr.getLast? = some f) : rd R .en = { RS.lay { R with fr := R.fr.dropLast } (f.k.deed f.ds f.os) with bg := true } := by
  show (match R.fr.getLast? with | none => R | some f => _) = _
  rw [h]
theorem lay_begun {R : RS} {d : Deed} (h : R.bg = true) : (R.lay d).bg = true := by
  unfold RS.lay
  split <;> exact h
theorem lay_eta {R : RS} {d : Deed} (h : R.bg = true) : ({ R.lay d with bg := true } : RS) = R.lay d := by
  have := lay_begun (d := d) h
  generalize R.lay d = X at this ⊢
  cases X
  cases this
  rfl
theorem fr_begun {H0 : Hp} : ∀ {Ls : List Addr} {fs : List Fm} {R : RS}, Hist H0 Ls fs R → R.fr ≠ [] → R.bg = true
  | _, _, _, .nil, h => absurd rfl h
  | _, _, _, .snoc (R := R) (f := f) hi g _ _, h => by
    cases f with
    | ask x => exact fr_begun (R := R) hi h
    | sto x n => exact fr_begun (R := R) hi h
    | opn k => rfl
    | els =>
      obtain ⟨f, x, hf, _, _⟩ := g
      show (match R.fr.getLast? with | none => R | some f => _).bg = true
      rw [hf]
    | en =>
      show (match R.fr.getLast? with | none => R | some f => _).bg = true
      cases hf : R.fr.getLast? with
      | none => exact absurd (List.getLast?_eq_none_iff.mp hf) g
      | some f => rfl
    | pl d => rfl
theorem ok__law_ended (T : Tx P w K mg a) : FnOk P w K mg base CX0 2 a._law_ended a.fd__law_ended ["_law_top", "_law_fences", "_law_lines"] sp__law_ended := by
  refine T.F__law_ended.ok sc__law_ended (fun vs H Q E h => ?_) (fun cdv A' outer s H vs Q E hr h => ?_)
  · obtain ⟨_, _, _, _, _, rfl, _⟩ := h
    rfl
  obtain ⟨H0, A, B, m, fs, rfl, h, hi, nf, hm, q⟩ := h
  refine ⟨_, (pss_cons (ps_set (i := 3) sc__law_ended.nd rfl (Or.inl rfl) (pe_bm0 PySem.F.plainAttrs_list PySem.F.slot_list_pop PySem.F.type_list_pop mt_pop (pv 1)))
      (pss_cons (ps_set (i := 4) sc__law_ended.nd rfl (Or.inl rfl) (pe_tup (pa_cons (pe_ix ix_list (pv 3) pe_int (fun _ _ => rfl)) (pa_cons (pe_ix ix_list (pv 3) pe_int (fun _ _ => rfl)) (pa_cons (pe_ix ix_list (pe_ix ix_list (pv 3) pe_int (fun _ _ => rfl)) pe_int (fun _ _ => rfl)) pa_nil)))))
      (pss_cons (ps_if (pt_cmpR op_eq (pe_ix ix_list (pv 3) pe_int (fun _ _ => rfl)) pe_str (nomark _)) (pss_one (ps_set (i := 4) sc__law_ended.nd rfl (Or.inl rfl) (pe_op op_catT (pv 4) (pe_tup (pa_cons (pe_ix ix_list (pe_op op_catS (pe_ix ix_list (pv 3) pe_int (fun _ _ => rfl)) (pe_lst (pa_cons (pe_lst pa_nil) pa_nil))) pe_int (fun _ _ => rfl)) pa_nil))))) pss_nil)
      (pss_cons (ps_expr (pe_bm PySem.F.plainAttrs_list PySem.F.slot_list_append PySem.F.type_list_append mt_append (pe_call (ok__law_here T) (hr.mono (by decide)) rfl T.m__law_here T.F__law_here.kp T.b__law_here .nil pass0 (pa_cons (pv 0) (pa_cons (pv 1) pa_nil))) (pa_cons (pv 4) pa_nil)))
      (pss_one (ps_expr (pe_bm PySem.F.plainAttrs_list PySem.F.slot_list_append PySem.F.type_list_append mt_append (pv 2) (pa_cons (pe_lst (pa_cons pe_str pa_nil)) pa_nil)))))))), ?_⟩
  rcases List.eq_nil_or_concat B.zs with e | ⟨zs, z, e⟩
  · exact absurd (by rw [← h.eb, e]; rfl) nf
  rw [List.concat_eq_append] at e
  have hzm : z ∈ B.zs := by rw [e]; simp
  have fz := h.zz z hzm
  have lf : B.R.fr.getLast? = some z.fr := by rw [← h.eb, e, List.map_append]; simp
  have bgn := fr_begun hi nf
  obtain ⟨H0', e0, h1, rl1, rl2, hlp, hb⟩ := h.pop e
  have elf : (B.zs.map fun z => V.ref z.b) = zs.map (fun z => V.ref z.b) ++ [.ref z.b] := by rw [e, List.map_append]; rfl
  have hlf := h.lf
  rw [elf] at hlf
  refine ⟨_, rfl, .inl ⟨rfl, _, SqL.of hlf⟩, A.lf, _, .ref z.b, rfl, rfl, hlf, by simp, ?_⟩
  rw [List.dropLast_concat]
  generalize upd H A.lf (.lst (zs.map fun z => V.ref z.b)) = H1 at h1 ⊢
  have b1 := h1.own.1 _ _ hb
  have p1 := h1.own.1 _ _ hlp
  refine ⟨_, rfl, z.b, _, _, _, rfl, rfl, SqL.of b1, atI0, _, rfl, z.b, _, _, _, rfl, rfl, SqL.of b1, atI1, _, rfl, z.b, _, _, _, rfl, rfl, SqL.of b1, atI2, z.lp, _, _, _, rfl, rfl, SqL.of p1, atI0, by show 3 ≤ sizeLine; decide, fun p hp => ?_⟩
  have s2 := Same.new hp (.tup [.str z.k.h, z.k.v, .ref z.ld])
  have h2 := h1.more s2 (Nat.le_refl _)
  have b2 := s2 _ _ b1
  have p2 := s2 _ _ p1
  refine ⟨_, rfl, z.b, _, _, _, rfl, rfl, SqL.of b2, atI0, rfl, _, rfl, ?_⟩
  rw [z.k.if_is]
  by_cases ki : z.k.h = "if"
  · refine ifYes (decide_eq_true ki) ⟨_, rfl, _, rfl, z.b, _, _, _, rfl, rfl, SqL.of b2, atI2, Nat.zero_le _, fun le hle => ?_⟩
    have s3 := Same.new hle (.lst [])
    have l3 := (upd_same : upd (upd H1 p (.tup [.str z.k.h, z.k.v, .ref z.ld])) le (.lst []) le = some (.lst []))
    have t2 : upd H1 p (.tup [.str z.k.h, z.k.v, .ref z.ld]) p = some (.tup [.str z.k.h, z.k.v, .ref z.ld]) := upd_same
    generalize upd H1 p (.tup [.str z.k.h, z.k.v, .ref z.ld]) = H2 at h2 hle s3 l3 b2 p2 t2 ⊢
    generalize upd H2 le (.lst []) = H3 at s3 l3 ⊢
    refine ⟨by show 1 ≤ sizeLine; decide, fun l4 hl4 => ?_⟩
    have s4 := Same.new hl4 (.lst [.ref le])
    have o4 : upd H3 l4 (.lst [.ref le]) l4 = some (.lst [.ref le]) := upd_same
    generalize upd H3 l4 (.lst [.ref le]) = H4 at s4 o4 ⊢
    refine ⟨z.lp, l4, _, _, rfl, rfl, SqL.of (s4 _ _ (s3 _ _ p2)), SqL.of o4, ?_, fun l5 hl5 => ?_⟩
    · have : (1000 : Nat) ≤ sizeLine := by decide
      split <;> (show _ + 1 ≤ sizeLine) <;> simp <;> omega
    have s5 := Same.new hl5 (.lst ((.ref z.ld :: if z.t = true then [.ref z.lo] else []) ++ [.ref le]))
    have o5 : upd H4 l5 (.lst ((.ref z.ld :: if z.t = true then [.ref z.lo] else []) ++ [.ref le])) l5 = some (.lst ((.ref z.ld :: if z.t = true then [.ref z.lo] else []) ++ [.ref le])) := upd_same
    generalize upd H4 l5 (.lst ((.ref z.ld :: if z.t = true then [.ref z.lo] else []) ++ [.ref le])) = H5 at s5 o5 ⊢
    have at1 : atI ((V.ref z.ld :: if z.t = true then [V.ref z.lo] else []) ++ [.ref le]) 1 = some (.ref (if z.t = true then z.lo else le)) := by
      cases z.t
      · exact atI1
      · exact atI1
    refine ⟨l5, _, _, _, rfl, rfl, SqL.of o5, at1, by show 1 ≤ sizeLine; decide, fun p6 hp6 => ?_⟩
    have s6 := Same.new hp6 (.tup [.ref (if z.t = true then z.lo else le)])
    have o6 : upd H5 p6 (.tup [.ref (if z.t = true then z.lo else le)]) p6 = some (.tup [.ref (if z.t = true then z.lo else le)]) := upd_same
    generalize upd H5 p6 (.tup [.ref (if z.t = true then z.lo else le)]) = H6 at s6 o6 ⊢
    refine ⟨p, p6, _, _, rfl, rfl, SqT.of (s6 _ _ (s5 _ _ (s4 _ _ (s3 _ _ t2)))), SqT.of o6, by simp, by show 4 ≤ sizeLine; decide, nofun, fun _ p7 hp7 => ?_⟩
    have s7 := Same.new hp7 (.tup ([.str z.k.h, z.k.v, .ref z.ld] ++ [.ref (if z.t = true then z.lo else le)]))
    have o7 : upd H6 p7 (.tup ([.str z.k.h, z.k.v, .ref z.ld] ++ [.ref (if z.t = true then z.lo else le)])) p7 = some (.tup ([.str z.k.h, z.k.v, .ref z.ld] ++ [.ref (if z.t = true then z.lo else le)])) := upd_same
    generalize upd H6 p7 (.tup ([.str z.k.h, z.k.v, .ref z.ld] ++ [.ref (if z.t = true then z.lo else le)])) = H7 at s7 o7 ⊢
    have s37 := s3.trans (s4.trans (s5.trans (s6.trans s7)))
    obtain ⟨e8, h8⟩ := h2.frzN hle s37 ((s4.trans (s5.trans (s6.trans s7))) _ _ l3)
    obtain ⟨e9, h9⟩ := h8.frzT o7
    have t9 : upd (upd H0' le (.lst [])) p7 (.tup ([.str z.k.h, z.k.v, .ref z.ld] ++ [.ref (if z.t = true then z.lo else le)])) p7 = some (.tup ([.str z.k.h, z.k.v, .ref z.ld] ++ [.ref (if z.t = true then z.lo else le)])) := upd_same
    have l9 := e9 _ _ (upd_same : upd H0' le (.lst []) le = some (.lst []))
    have e3 := e8.trans e9
    generalize upd (upd H0' le (.lst [])) p7 (.tup ([.str z.k.h, z.k.v, .ref z.ld] ++ [.ref (if z.t = true then z.lo else le)])) = H03 at h9 t9 l9 e3
    have rd9 : RD H03 (.ref p7) (z.k.deed z.ds z.os) := by
      have k9 := RL.same e3 rl1
      have q9 : RL H03 (if z.t = true then z.lo else le) z.os := by
        cases zt : z.t with
        | true => exact RL.same e3 (rl2 zt)
        | false =>
          rw [fz.nt zt]
          exact .mk l9 .nil
      cases ek : z.k with
      | cond x => rw [ek] at t9; exact .cond t9 k9 q9
      | whl x => rw [ek] at ki; exact absurd ki (by show ¬ (("while" : Str) = "if"); decide +kernel)
      | rep n => rw [ek] at ki; exact absurd ki (by show ¬ (("repeat" : Str) = "if"); decide +kernel)
    obtain ⟨xs, hx, hl, B4, h4, eL, eR⟩ := h9.lay rd9
    have big : (10000 : Nat) < sizeLine := by decide
    refine ⟨_, rfl, _, rfl, H03, A, _, m, rfl, h9, .inl ⟨rfl, _, SqL.of hx⟩, _, rfl, _, _, _, rfl, rfl, hx, by omega, ?_⟩
    have eL : B4.Ls = B.Ls := eL
    have lln : B4.Ls.length ≤ m := by rw [eL]; exact h.l4
    refine ⟨_, rfl, .inl ⟨rfl, _, SqL.of h4.ll⟩, by show 1 ≤ sizeLine; decide, fun L hL => ⟨A.ll, _, _, rfl, rfl, (Same.new hL _) _ _ h4.ll, by rw [List.length_map]; omega, ?_⟩⟩
    obtain ⟨e5, h5⟩ := h4.frzN hL (Same.new hL (.lst [.str "end"])) upd_same
    have h6 := h5.line (L := L) (Nat.lt_succ_of_le lln)
    rw [List.map_append] at h6
    have hist : Hist _ (B.Ls ++ [L]) (fs ++ [.en]) (rd B.R .en) := .snoc (hi.same (e0.trans (e3.trans e5))) nf trivial upd_same
    have eR2 : rd B.R .en = B4.R := by rw [rd_en lf, eR]; exact lay_eta bgn
    refine q _ _ _ (e0.trans (e3.trans e5)) h6 ?_ eR2.symm
    show Hist _ (B4.Ls ++ [L]) _ B4.R
    rw [eL, ← eR2]
    exact hist
  · refine ifNo (decide_eq_false ki) ?_
    have t2 : upd H1 p (.tup [.str z.k.h, z.k.v, .ref z.ld]) p = some (.tup [.str z.k.h, z.k.v, .ref z.ld]) := upd_same
    obtain ⟨e3, h9⟩ := h2.frzT t2
    have t9 : upd H0' p (.tup [.str z.k.h, z.k.v, .ref z.ld]) p = some (.tup [.str z.k.h, z.k.v, .ref z.ld]) := upd_same
    generalize upd H0' p (.tup [.str z.k.h, z.k.v, .ref z.ld]) = H03 at h9 t9 e3
    have rd9 : RD H03 (.ref p) (z.k.deed z.ds z.os) := by
      have k9 := RL.same e3 rl1
      cases ek : z.k with
      | cond x => rw [ek] at ki; exact absurd rfl ki
      | whl x => rw [ek] at t9; exact .whl t9 k9
      | rep n => rw [ek] at t9; exact .rep t9 k9
    obtain ⟨xs, hx, hl, B4, h4, eL, eR⟩ := h9.lay rd9
    have big : (10000 : Nat) < sizeLine := by decide
    refine ⟨_, rfl, _, rfl, H03, A, _, m, rfl, h9, .inl ⟨rfl, _, SqL.of hx⟩, _, rfl, _, _, _, rfl, rfl, hx, by omega, ?_⟩
    have eL : B4.Ls = B.Ls := eL
    have lln : B4.Ls.length ≤ m := by rw [eL]; exact h.l4
    refine ⟨_, rfl, .inl ⟨rfl, _, SqL.of h4.ll⟩, by show 1 ≤ sizeLine; decide, fun L hL => ⟨A.ll, _, _, rfl, rfl, (Same.new hL _) _ _ h4.ll, by rw [List.length_map]; omega, ?_⟩⟩
    obtain ⟨e5, h5⟩ := h4.frzN hL (Same.new hL (.lst [.str "end"])) upd_same
    have h6 := h5.line (L := L) (Nat.lt_succ_of_le lln)
    rw [List.map_append] at h6
    have hist : Hist _ (B.Ls ++ [L]) (fs ++ [.en]) (rd B.R .en) := .snoc (hi.same (e0.trans (e3.trans e5))) nf trivial upd_same
    have eR2 : rd B.R .en = B4.R := by rw [rd_en lf, eR]; exact lay_eta bgn
    refine q _ _ _ (e0.trans (e3.trans e5)) h6 ?_ eR2.symm
    show Hist _ (B4.Ls ++ [L]) _ B4.R
    rw [eL, ← eR2]
    exact hist
theorem val_ex {v : V} (h : goodVal v) : ∃ a : Val, a.v = v := by
  rcases h with ⟨w, rfl, _⟩ | ⟨n, rfl, _⟩
  · exact ⟨.nm w, rfl⟩
  · exact ⟨.num n, rfl⟩
theorem ok__law_set_by (T : Tx P w K mg a) : FnOk P w K mg base CX0 4 a._law_set_by a.fd__law_set_by ["_law_cell", "_law_x"] sp__law_set_by := by
  refine T.F__law_set_by.ok sc__law_set_by (fun vs H Q E h => ?_) (fun cdv A' outer s H vs Q E hr h => ?_)
  · obtain ⟨_, _, rfl, _⟩ := h
    rfl
  obtain ⟨c, x, rfl, hc, hx, q⟩ := h
  refine ⟨_, (pss_cons (ps_set (i := 2) sc__law_set_by.nd rfl (Or.inl rfl) (pe_call (ok__law_mixed T) (hr.mono (by decide)) rfl T.m__law_mixed T.F__law_mixed.kp T.b__law_mixed .nil pass0 (pa_cons (pv 0) (pa_cons pe_int pa_nil))))
      (pss_cons (ps_set (i := 3) sc__law_set_by.nd rfl (Or.inl rfl) (pe_call (ok__law_value_by T) (hr.mono (by decide)) rfl T.m__law_value_by T.F__law_value_by.kp T.b__law_value_by .nil pass0 (pa_cons (pe_call (ok__law_mixed T) (hr.mono (by decide)) rfl T.m__law_mixed T.F__law_mixed.kp T.b__law_mixed .nil pass0 (pa_cons (pv 0) (pa_cons pe_int pa_nil))) pa_nil)))
      (pss_cons (ps_set (i := 4) sc__law_set_by.nd rfl (Or.inl rfl) (pe_call (ok__law_value_by T) (hr.mono (by decide)) rfl T.m__law_value_by T.F__law_value_by.kp T.b__law_value_by .nil pass0 (pa_cons (pe_call (ok__law_mixed T) (hr.mono (by decide)) rfl T.m__law_mixed T.F__law_mixed.kp T.b__law_mixed .nil pass0 (pa_cons (pv 0) (pa_cons pe_int pa_nil))) pa_nil)))
      (pss_cons (ps_set (i := 5) sc__law_set_by.nd rfl (Or.inl rfl) (pe_ix ix_str pe_str (pe_op oi_mod (pv 2) pe_int) (fun _ _ => rfl)))
      (pss_cons (ps_if (pt_cmpR op_eq (pe_op oi_mod (pe_op oi_fdiv (pv 2) pe_int) pe_int) pe_int (nomark _)) (pss_cons (ps_set (i := 5) sc__law_set_by.nd rfl (Or.inl rfl) pe_str)
      (pss_one (ps_set (i := 4) sc__law_set_by.nd rfl (Or.inl rfl) pe_int))) pss_nil)
      (pss_one (ps_ret (pe_tup (pa_cons pe_str (pa_cons (pv 1) (pa_cons (pv 3) (pa_cons (pv 5) (pa_cons (pv 4) pa_nil))))))))))))), ?_⟩
  have hc := Nat.le_succ_of_le hc
  refine ⟨_, rfl, c, 3, rfl, hc, by decide, by decide, ?_⟩
  generalize mixed c 3 = n
  refine ⟨_, rfl, c, 4, rfl, hc, by decide, by decide, mixed c 4, rfl, fun v H2 hv s2 => ?_⟩
  refine ⟨_, rfl, c, 5, rfl, hc, by decide, by decide, mixed c 5, rfl, fun u H3 hu s3 => ?_⟩
  obtain ⟨sg, hsg, hsm⟩ := atI_ex (xs := ("+-*/<=&|^" : Str).cps.toList) (i := n % 9) (Int.emod_nonneg _ (by decide)) (by
    show n % 9 < 9
    exact Int.emod_lt_of_pos _ (by decide))
  have sgs : ∀ c ∈ ("+-*/<=&|^" : Str).cps.toList, inV (.str ⟨#[c]⟩) sgV = true := by decide +kernel
  have sgs' := sgs sg hsm
  refine ⟨_, rfl, _, _, rfl, rfl, (by decide), _, _, sg, rfl, rfl, (by decide +kernel), hsg, ?_⟩
  refine ⟨_, rfl, _, _, rfl, rfl, ⟨by decide, by decide⟩, _, _, rfl, rfl, (by decide), rfl, _, rfl, ?_⟩
  obtain ⟨av, rfl⟩ := val_ex hv
  refine ite2 (fun c => ?_) (fun c => ?_)
  · refine ⟨_, rfl, _, rfl, _, rfl, _, rfl, by show 5 ≤ sizeLine; decide, fun p hp => ?_⟩
    exact q _ p (.set x av "+" (.num 0)) (s2.trans (s3.trans (Same.new hp _))) trivial ⟨hx, hv, by decide +kernel, .inr ⟨0, rfl, by decide, by decide⟩⟩ (fun q x h => by rcases h with h | h <;> cases h) upd_same
  · obtain ⟨bv, rfl⟩ := val_ex hu
    refine ⟨_, rfl, _, rfl, _, rfl, _, rfl, by show 5 ≤ sizeLine; decide, fun p hp => ?_⟩
    exact q _ p (.set x av ⟨#[sg]⟩ bv) (s2.trans (s3.trans (Same.new hp _))) trivial ⟨hx, hv, sgs', hu⟩ (fun q x h => by rcases h with h | h <;> cases h) upd_same
theorem kys_in {H : Hp} : ∀ {vs : List V} {st : List (Str × Int)}, RSs H vs st → ∀ (i : Nat) v, vs[i]? = some v → ∃ p q n, v = .ref p ∧ (q, n) ∈ st ∧ H p = some (.tup [.str q, .int n]) := fun h i v hv => by
  obtain ⟨p, q, n, rfl, hs, hp⟩ := h.at i v hv
  exact ⟨p, q, n, rfl, List.mem_of_getElem? hs, hp⟩
theorem ok__law_single_by (T : Tx P w K mg a) : FnOk P w K mg base CX0 5 a._law_single_by a.fd__law_single_by ["_law_way", "_law_cell", "_law_stores", "_law_fences"] sp__law_single_by := by
  refine T.F__law_single_by.ok sc__law_single_by (fun vs H Q E h => ?_) (fun cdv A' outer s H vs Q E hr h => ?_)
  · obtain ⟨_, _, _, _, _, _, rfl, _⟩ := h
    rfl
  obtain ⟨H0, A, B, m, wy, c, rfl, h, hm, hc, hnm, q⟩ := h
  refine ⟨_, (pss_cons (ps_set (i := 4) sc__law_single_by.nd rfl (Or.inl rfl) (pe_op oi_fdiv (pe_call (ok__law_mixed T) (hr.mono (by decide)) rfl T.m__law_mixed T.F__law_mixed.kp T.b__law_mixed .nil pass0 (pa_cons (pv 1) (pa_cons pe_int pa_nil))) pe_int))
      (pss_cons (ps_set (i := 5) sc__law_single_by.nd rfl (Or.inl rfl) (pe_call (ok__law_name_by T) (hr.mono (by decide)) rfl T.m__law_name_by T.F__law_name_by.kp T.b__law_name_by .nil pass0 (pa_cons (pe_call (ok__law_mixed T) (hr.mono (by decide)) rfl T.m__law_mixed T.F__law_mixed.kp T.b__law_mixed .nil pass0 (pa_cons (pv 1) (pa_cons pe_int pa_nil))) pa_nil)))
      (pss_cons (ps_set (i := 6) sc__law_single_by.nd rfl (Or.inl rfl) (pe_cmpR oi_gt (pe_callB call_len_seq rfl T.z_len PySem.boot_len (pa_cons (pv 2) pa_nil)) pe_int (nomark _)))
      (pss_cons (ps_for PassesOwn.never rfl (pi_list (pv 3)) (pg_name (i := 7) sc__law_single_by.nd rfl (Or.inl rfl))
      (pss_one (ps_set (i := 6) sc__law_single_by.nd rfl (Or.inl rfl) (pe_and (pv 6) (pe_one (pe_cmpR op_eq (pe_ix ix_list (pv 7) pe_int (fun _ _ => rfl)) pe_str (nomark _)))))))
      (pss_cons (ps_if (PW.pt (pw_and (pt_cmpR oi_lt (pv 0) pe_int (nomark _)) (pw_and1 (pt_val (pv 6))))) (pss_one (ps_ret (pe_tup (pa_cons (pe_ix ix_list (pe_lst (pa_cons pe_str (pa_cons pe_str pa_nil))) (pe_op oi_mod (pv 4) pe_int) (fun _ _ => rfl)) (pa_cons (pe_ix ix_tup (pe_ix ix_list (pv 2) (pe_op oi_mod (pe_op oi_fdiv (pv 4) pe_int) (pe_callB call_len_seq rfl T.z_len PySem.boot_len (pa_cons (pv 2) pa_nil))) (fun _ _ => rfl)) pe_int (fun _ _ => rfl)) (pa_cons (pv 5) pa_nil)))))) pss_nil)
      (pss_cons (ps_if (pt_cmpR oi_lt (pv 0) pe_int (nomark _)) (pss_one (ps_ret (pe_tup (pa_cons pe_str (pa_cons (pv 5) pa_nil))))) pss_nil)
      (pss_one (ps_ret (pe_call (ok__law_set_by T) (hr.mono (by decide)) rfl T.m__law_set_by T.F__law_set_by.kp T.b__law_set_by .nil pass0 (pa_cons (pv 1) (pa_cons (pv 5) pa_nil))))))))))), ?_⟩
  have hc1 := Nat.le_succ_of_le hc
  refine ⟨_, rfl, c, 1, rfl, hc1, by decide, by decide, _, _, rfl, rfl, ⟨by decide, by decide⟩, ?_⟩
  generalize mixed c 1 / 16 = n
  refine ⟨_, rfl, c, 2, rfl, hc1, by decide, by decide, mixed c 2, rfl, fun x H2 hx s2 => ?_⟩
  have h2 := h.more s2 (Nat.le_refl _)
  refine ⟨_, rfl, A.ls, _, rfl, .inl (SqL.of h2.ls), _, _, rfl, rfl, ?_⟩
  refine ⟨_, rfl, A.lf, rfl, ⟨_, SqL.of h2.lf⟩, ?_⟩
  refine for_list (K := K) (xs := B.zs.map fun z => V.ref z.b) (fun i σ H3 => H3 = H2 ∧ ∃ (fr : Bool) (v : Option V), σ = [some (.int wy), some (.int c), some (.ref A.ls), some (.ref A.lf), some (.int n), some (.str x), some (.bl fr), v] ∧ (fr = true → 0 < B.sv.length ∧ ∀ z ∈ B.zs.take i, ∃ n, z.k = .rep n)) ?_ ?_ ?_ ?_
  · refine ⟨rfl, _, none, rfl, fun e => ⟨?_, fun z hz => by simp at hz⟩⟩
    have := of_decide_eq_true e
    omega
  · rintro i σ H3 _ ⟨rfl, _⟩
    exact SqL.of h2.lf
  · rintro i v σ H3 hv ⟨rfl, fr, v7, rfl, hf⟩
    rw [List.getElem?_map] at hv
    obtain ⟨z, hz, rfl⟩ := Option.map_eq_some_iff.mp hv
    obtain ⟨p1, p2⟩ := h2.pz (List.mem_of_getElem? hz)
    refine ⟨_, rfl, _, rfl, ?_⟩
    cases fr with
    | false => exact ifNo rfl ⟨rfl, false, _, rfl, nofun⟩
    | true =>
      refine ifYes rfl ⟨_, rfl, z.b, _, _, _, rfl, rfl, SqL.of p1, atI0, rfl, rfl, _, _, rfl, fun e => ⟨(hf rfl).1, fun y hy => ?_⟩⟩
      rw [List.take_add_one, hz] at hy
      rcases List.mem_append.mp hy with k | k
      · exact (hf rfl).2 y k
      · obtain rfl : y = z := by simpa using k
        have e : V.str y.k.h = V.str "repeat" := of_decide_eq_true e
        have e := V.str.inj e
        cases ek : y.k with
        | rep n => exact ⟨n, rfl⟩
        | cond x => rw [ek] at e; exact absurd e (by show ¬ (("if" : Str) = "repeat"); decide +kernel)
        | whl x => rw [ek] at e; exact absurd e (by show ¬ (("while" : Str) = "repeat"); decide +kernel)
  · rintro σ H3 ⟨rfl, fr, v7, rfl, hf⟩
    rw [List.length_map, List.take_length] at hf
    refine ⟨_, rfl, _, _, rfl, rfl, _, rfl, ?_⟩
    by_cases c1 : wy < 10
    · refine ifYes (decide_eq_true c1) ⟨_, rfl, _, rfl, ?_⟩
      cases fr with
      | true =>
        obtain ⟨f1, f2⟩ := hf rfl
        refine ifYes rfl ⟨by show 2 ≤ sizeLine; decide, fun l hl => ?_⟩
        have s3 := Same.new hl (.lst [.str "put", .str "get"])
        have o3 : upd H3 l (.lst [.str "put", .str "get"]) l = some (.lst [.str "put", .str "get"]) := upd_same
        generalize upd H3 l (.lst [.str "put", .str "get"]) = H4 at s3 o3 ⊢
        obtain ⟨hd, hhd, hhm⟩ := atI_ex (xs := [V.str "put", .str "get"]) (i := n % 2) (Int.emod_nonneg _ (by decide)) (by show n % 2 < 2; exact Int.emod_lt_of_pos _ (by decide))
        have sp : (0 : Int) < B.sv.length := by omega
        obtain ⟨sv, hsv, hsm⟩ := atI_ex (xs := B.sv) (i := n / 2 % B.sv.length) (Int.emod_nonneg _ (by omega)) (Int.emod_lt_of_pos _ sp)
        obtain ⟨j, hj⟩ := List.getElem?_of_mem hsm
        obtain ⟨ps, sq, sn, rfl, hin, hps⟩ := kys_in h.ss j sv hj
        have ls3 := s3 _ _ h2.ls
        have ps3 := s3 _ _ (h2.own.1 _ _ hps)
        refine ⟨_, rfl, _, _, rfl, rfl, (by decide), l, _, _, hd, rfl, rfl, SqL.of o3, hhd, ?_⟩
        refine ⟨_, rfl, _, rfl, _, _, rfl, rfl, ⟨by decide, by decide⟩, _, rfl, A.ls, _, rfl, .inl (SqL.of ls3), _, _, rfl, rfl, sp, A.ls, _, _, _, rfl, rfl, SqL.of ls3, hsv, ps, _, _, _, rfl, rfl, SqT.of ps3, atI0, _, rfl, by show 3 ≤ sizeLine; decide, fun p hp => ?_⟩
        have s4 := Same.new hp (.tup [hd, .str sq, .str x])
        have ink : sq ∈ kys B.R.st := List.mem_map.mpr ⟨_, hin, rfl⟩
        have frs : ∀ f ∈ B.R.fr, ∃ n, f.k = .rep n := fun f hf => by
          rw [← h.eb] at hf
          obtain ⟨z, hz, rfl⟩ := List.mem_map.mp hf
          exact f2 z hz
        have nq := hnm _ hin
        simp only [List.mem_cons, List.not_mem_nil, or_false] at hhm
        rcases hhm with rfl | rfl
        · exact q _ p (.put sq x) (s2.trans (s3.trans s4)) trivial ⟨nq, hx⟩ (fun q x h => by rcases h with h | h <;> cases h; exact ⟨ink, frs⟩) upd_same
        · exact q _ p (.get sq x) (s2.trans (s3.trans s4)) trivial ⟨nq, hx⟩ (fun q x h => by rcases h with h | h <;> cases h; exact ⟨ink, frs⟩) upd_same
      | false =>
        refine ifNo rfl ?_
        refine ⟨_, rfl, _, _, rfl, rfl, _, rfl, ?_⟩
        refine ite2 (fun c2 => ?_) (fun c2 => ?_)
        · refine ⟨_, rfl, by show 2 ≤ sizeLine; decide, fun p hp => ?_⟩
          exact q _ p (.give x) (s2.trans (Same.new hp _)) trivial hx (fun q x h => by rcases h with h | h <;> cases h) upd_same
        · exact ⟨_, rfl, _, rfl, c, x, rfl, hc, hx, fun H' p d s3 sm dw np hp => q _ p d (s2.trans s3) sm dw (fun q x h => absurd h (np q x)) hp⟩
    · refine ifNo (decide_eq_false c1) (ifNo rfl ?_)
      refine ⟨_, rfl, _, _, rfl, rfl, _, rfl, ?_⟩
      refine ite2 (fun c2 => ?_) (fun c2 => ?_)
      · refine ⟨_, rfl, by show 2 ≤ sizeLine; decide, fun p hp => ?_⟩
        exact q _ p (.give x) (s2.trans (Same.new hp _)) trivial hx (fun q x h => by rcases h with h | h <;> cases h) upd_same
      · exact ⟨_, rfl, _, rfl, c, x, rfl, hc, hx, fun H' p d s3 sm dw np hp => q _ p d (s2.trans s3) sm dw (fun q x h => absurd h (np q x)) hp⟩
theorem comp_tup0 {K : PySem.W.Frag} {a : Addr} {xs : List V} {g : TG} {te : TE} {Fin : List V → Hp → Prop} {σ : St} {H : Hp} (Pv : Nat → List V → St → Hp → Prop) (h0 : Pv 0 [] σ H) (hz : ∀ i ys σ H, i ≤ xs.length → Pv i ys σ H → ys.length ≤ i) (hx : xs.length ≤ sizeLine) (hl : ∀ i ys σ H, Pv i ys σ H → SqT K H a xs)
    (hs : ∀ i x ys σ H, xs[i]? = some x → Pv i ys σ H → g x σ H fun σ2 H2 => te σ2 H2 fun y H4 => Pv (i + 1) (ys ++ [y]) σ2 H4)
    (hd : ∀ ys σ H, Pv xs.length ys σ H → Fin ys H) : ∃ W : Nat → Nat → List V → St → Hp → Prop, (∃ m, W 0 m [] σ H) ∧ CompTurns (Itt K a) g tYes te Fin W :=
  comp_tup Pv h0 hz hx hl (fun i x ys σ H hx p => by
    rw [yes_eq (N' := fun _ _ _ => True)]
    exact hs i x ys σ H hx p) hd
theorem orElse {c A B : Prop} {inst : Decidable c} (n : B) (h : c → B → A) : @ite Prop c inst A B := by
  by_cases hc : c
  · rw [if_pos hc]; exact h hc n
  · rw [if_neg hc]; exact n
theorem ofNo {b : Bool} {A B : Prop} {inst : Decidable (b = true)} (e : b = false) (h : @ite Prop (b = true) inst A B) : B := by
  rw [if_neg (by rw [e]; decide)] at h
  exact h
theorem BdH.bg {H0 H : Hp} {A : Ad5} {B : BS} {m : Nat} {b : Bool} (h : BdH H0 H A B m) : BdH H0 H A { B with R := { B.R with bg := b } } m := ⟨h.own, h.ss, h.tt, h.zz, h.eb, h.l1, h.l2, h.l3, h.l4⟩
theorem wd_val {k : Kd} (h : k.wd) : goodVal k.v := by
  cases k with
  | cond x => exact .inl ⟨x, rfl, h⟩
  | whl x => exact .inl ⟨x, rfl, h⟩
  | rep n => exact .inr ⟨n, rfl, h.1, by have := h.2; omega⟩
theorem rd_els {R : RS} {f : Fr6} (h : R.fr.getLast? = some f) : rd R .els = { R with fr := R.fr.dropLast ++ [{ f with t := true }], bg := true } := by
  show (match R.fr.getLast? with | none => R | some f => _) = _
  rw [h]
theorem lay_st {R : RS} {d : Deed} : (R.lay d).st = R.st := by
  unfold RS.lay
  split <;> rfl
theorem str_any2 {v : V} (h : (∃ z, v = .str z) ∨ goodVal v) {R : VK} {H : Hp} (q : R (.str (valStr v)) H) : rStrAny [v] H R := by
  rcases h with ⟨z, rfl⟩ | h
  · unfold rStrAny
    exact .inl ⟨z, rfl, q⟩
  · exact str_any h q
theorem dv_one {d : Deed} (h : dwd d) : ∀ v ∈ dv d, (∃ z, v = .str z) ∨ goodVal v := by
  cases d with
  | set x a sg b =>
    intro v hv
    have hv : v ∈ [V.str "set", .str x, a.v, .str sg, b.v] := hv
    simp only [List.mem_cons, List.not_mem_nil, or_false] at hv
    rcases hv with rfl | rfl | rfl | rfl | rfl
    · exact .inl ⟨_, rfl⟩
    · exact .inl ⟨_, rfl⟩
    · exact .inr h.2.1
    · exact .inl ⟨_, rfl⟩
    · exact .inr h.2.2.2
  | put q x => intro v hv; have hv : v ∈ [V.str "put", .str q, .str x] := hv; simp only [List.mem_cons, List.not_mem_nil, or_false] at hv; rcases hv with rfl | rfl | rfl <;> exact .inl ⟨_, rfl⟩
  | get q x => intro v hv; have hv : v ∈ [V.str "get", .str q, .str x] := hv; simp only [List.mem_cons, List.not_mem_nil, or_false] at hv; rcases hv with rfl | rfl | rfl <;> exact .inl ⟨_, rfl⟩
  | give x => intro v hv; have hv : v ∈ [V.str "give", .str x] := hv; simp only [List.mem_cons, List.not_mem_nil, or_false] at hv; rcases hv with rfl | rfl <;> exact .inl ⟨_, rfl⟩
  | _ => exact absurd h (by simp [dwd])
theorem en_st {R : RS} : (rd R .en).st = R.st := by
  show (match R.fr.getLast? with | none => R | some f => _).st = _
  cases R.fr.getLast? with
  | none => rfl
  | some f => exact lay_st
theorem en_fr {R : RS} : (rd R .en).fr.length ≤ R.fr.length := by
  show (match R.fr.getLast? with | none => R | some f => _).fr.length ≤ _
  cases R.fr.getLast? with
  | none => exact Nat.le_refl _
  | some f =>
    show (RS.lay { R with fr := R.fr.dropLast } (f.k.deed f.ds f.os)).fr.length ≤ _
    rw [lay_few]
    show R.fr.dropLast.length ≤ _
    rw [List.length_dropLast]
    omega
theorem ok__law_step (T : Tx P w K mg a) : FnOk P w K mg base CX0 6 a._law_step a.fd__law_step ["_law_cell", "_law_deep", "_law_stores", "_law_top", "_law_fences", "_law_lines"] sp__law_step := by
  refine T.F__law_step.ok sc__law_step (fun vs H Q E h => ?_) (fun cdv A' outer s H vs Q E hr h => ?_)
  · obtain ⟨_, _, _, _, _, _, _, rfl, _⟩ := h
    rfl
  obtain ⟨H0, A, B, m, fs, c, dp, rfl, h, hi, hm, hc, hnm, q⟩ := h
  refine ⟨_, (pss_cons (ps_set (i := 6) sc__law_step.nd rfl (Or.inl rfl) (pe_call (ok__law_mixed T) (hr.mono (by decide)) rfl T.m__law_mixed T.F__law_mixed.kp T.b__law_mixed .nil pass0 (pa_cons (pv 0) (pa_cons pe_int pa_nil))))
      (pss_cons (ps_set (i := 7) sc__law_step.nd rfl (Or.inl rfl) (pe_op oi_mod (pv 6) pe_int))
      (pss_cons (ps_if (PW.pt (pw_and (pt_val (pv 1)) (pw_and1 (pt_cmpR oi_gt (pv 7) pe_int (nomark _))))) (pss_one (ps_set (i := 7) sc__law_step.nd rfl (Or.inl rfl) (pe_op oi_mod (pv 7) pe_int))) pss_nil)
      (pss_one (ps_if (PW.pt (pw_and (pt_cmpR oi_lt (pv 7) pe_int (nomark _)) (pw_and1 (pt_cmpR oi_lt (pe_callB call_len_seq rfl T.z_len PySem.boot_len (pa_cons (pv 4) pa_nil)) pe_int (nomark _))))) (pss_cons (ps_set (i := 8) sc__law_step.nd rfl (Or.inl rfl) (pe_call (ok__law_name_by T) (hr.mono (by decide)) rfl T.m__law_name_by T.F__law_name_by.kp T.b__law_name_by .nil pass0 (pa_cons (pe_call (ok__law_mixed T) (hr.mono (by decide)) rfl T.m__law_mixed T.F__law_mixed.kp T.b__law_mixed .nil pass0 (pa_cons (pv 0) (pa_cons pe_int pa_nil))) pa_nil)))
      (pss_cons (ps_if (pt_cmpR op_eq (pv 7) pe_int (nomark _)) (pss_one (ps_set (i := 8) sc__law_step.nd rfl (Or.inl rfl) (pe_call (ok__law_from T) (hr.mono (by decide)) rfl T.m__law_from T.F__law_from.kp T.b__law_from .nil pass0 (pa_cons (pe_op oi_fdiv (pv 6) pe_int) (pa_cons pe_int (pa_cons pe_int pa_nil)))))) pss_nil)
      (pss_cons (ps_expr (pe_bm PySem.F.plainAttrs_list PySem.F.slot_list_append PySem.F.type_list_append mt_append (pv 4) (pa_cons (pe_lst (pa_cons (pe_ix ix_list (pe_lst (pa_const rfl)) (pv 7) (fun _ _ => rfl)) (pa_cons (pv 8) (pa_cons (pe_lst (pa_cons (pe_lst pa_nil) pa_nil)) pa_nil)))) pa_nil)))
      (pss_one (ps_expr (pe_bm PySem.F.plainAttrs_list PySem.F.slot_list_append PySem.F.type_list_append mt_append (pv 5) (pa_cons (pe_lst (pa_cons (pe_ix ix_list (pe_ix ix_list (pv 4) (pe_un un_neg pe_int) (fun _ _ => rfl)) pe_int (fun _ _ => rfl)) (pa_cons (pe_callTy call_str_any rfl T.z_str PyProof.Rows.Boot.«str» (pa_cons (pv 8) pa_nil)) pa_nil))) pa_nil))))))) (pss_one (ps_if (PW.pt (pw_and (pt_cmpR oi_lt (pv 7) pe_int (nomark _)) (pw_and1 (pt_cmpR oi_gt (pe_callB call_len_seq rfl T.z_len PySem.boot_len (pa_cons (pv 4) pa_nil)) pe_int (nomark _))))) (pss_one (ps_expr (pe_call (ok__law_ended T) (hr.mono (by decide)) rfl T.m__law_ended T.F__law_ended.kp T.b__law_ended .nil pass0 (pa_cons (pv 3) (pa_cons (pv 4) (pa_cons (pv 5) pa_nil)))))) (pss_one (ps_if (PW.pt (pw_and (pt_cmpR op_eq (pv 7) pe_int (nomark _)) (pw_and (pt_cmpR oi_gt (pe_callB call_len_seq rfl T.z_len PySem.boot_len (pa_cons (pv 4) pa_nil)) pe_int (nomark _)) (pw_and (pt_cmpR op_eq (pe_ix ix_list (pe_ix ix_list (pv 4) (pe_un un_neg pe_int) (fun _ _ => rfl)) pe_int (fun _ _ => rfl)) pe_str (nomark _)) (pw_and1 (pt_cmpR op_eq (pe_callB call_len_seq rfl T.z_len PySem.boot_len (pa_cons (pe_ix ix_list (pe_ix ix_list (pv 4) (pe_un un_neg pe_int) (fun _ _ => rfl)) pe_int (fun _ _ => rfl)) pa_nil)) pe_int (nomark _))))))) (pss_cons (ps_expr (pe_bm PySem.F.plainAttrs_list PySem.F.slot_list_append PySem.F.type_list_append mt_append (pe_ix ix_list (pe_ix ix_list (pv 4) (pe_un un_neg pe_int) (fun _ _ => rfl)) pe_int (fun _ _ => rfl)) (pa_cons (pe_lst pa_nil) pa_nil)))
      (pss_one (ps_expr (pe_bm PySem.F.plainAttrs_list PySem.F.slot_list_append PySem.F.type_list_append mt_append (pv 5) (pa_cons (pe_lst (pa_cons pe_str pa_nil)) pa_nil))))) (pss_cons (ps_set (i := 9) sc__law_step.nd rfl (Or.inl rfl) (pe_call (ok__law_single_by T) (hr.mono (by decide)) rfl T.m__law_single_by T.F__law_single_by.kp T.b__law_single_by .nil pass0 (pa_cons (pv 7) (pa_cons (pv 0) (pa_cons (pv 2) (pa_cons (pv 4) pa_nil))))))
      (pss_cons (ps_expr (pe_bm PySem.F.plainAttrs_list PySem.F.slot_list_append PySem.F.type_list_append mt_append (pe_call (ok__law_here T) (hr.mono (by decide)) rfl T.m__law_here T.F__law_here.kp T.b__law_here .nil pass0 (pa_cons (pv 3) (pa_cons (pv 4) pa_nil))) (pa_cons (pv 9) pa_nil)))
      (pss_cons (ps_setcomp (i := 10) sc__law_step.nd rfl (Or.inl rfl) (k := 1) (Nc := ["_law_word"]) (js := []) (show CompSc (defScope s__law_step) ["_law_cell", "_law_deep", "_law_stores", "_law_top", "_law_fences", "_law_lines", "_law_n", "_law_way", "_law_it", "_law_deed", "_law_words"] _ 1 ["_law_word"] [] from CompSc.mk rfl (by decide +kernel) (by decide +kernel) (by decide +kernel) rfl (by decide +kernel)) rfl (pi_tup (pv 9)) (fun _ _ _ _ _ => (pg_name (i := 0) (show List.Nodup (["_law_word"] : List Str) from by decide +kernel) rfl (Or.inl rfl))) (fun _ _ _ _ _ => pts_nil) (fun _ _ _ _ _ => (pe_callTy call_str_any rfl T.z_str PyProof.Rows.Boot.«str» (pa_cons (pv 0) pa_nil))))
      (pss_cons (ps_if (pt_cmpR op_eq (pe_ix ix_tup (pv 9) pe_int (fun _ _ => rfl)) pe_str (nomark _)) (pss_one (ps_set (i := 10) sc__law_step.nd rfl (Or.inl rfl) (pe_lst (pa_cons (pe_ix ix_list (pv 10) pe_int (fun _ _ => rfl)) (pa_cons pe_str (pa_cons (pe_ix ix_list (pv 10) pe_int (fun _ _ => rfl)) (pa_cons (pe_ix ix_list (pv 10) pe_int (fun _ _ => rfl)) (pa_cons (pe_ix ix_list (pv 10) pe_int (fun _ _ => rfl)) pa_nil)))))))) pss_nil)
      (pss_one (ps_expr (pe_bm PySem.F.plainAttrs_list PySem.F.slot_list_append PySem.F.type_list_append mt_append (pv 5) (pa_cons (pv 10) pa_nil))))))))))))))))), ?_⟩
  have big : (10000 : Nat) < sizeLine := by decide
  have l4 := h.l4
  have hc1 := Nat.le_succ_of_le hc
  have ezl : B.zs.length = B.R.fr.length := by rw [← h.eb, List.length_map]
  refine ⟨_, rfl, c, 1, rfl, hc1, by decide, by decide, ?_⟩
  generalize mixed c 1 = n
  refine ⟨_, rfl, _, _, rfl, rfl, (by decide), ?_⟩
  have wy0 : 0 ≤ n % 16 := Int.emod_nonneg _ (by decide)
  generalize n % 16 = wy at wy0 ⊢
  refine ⟨_, rfl, _, rfl, ?_⟩
  refine join1' (P := fun w => 0 ≤ w) (w := wy) wy0 (fun wy wy0 => ?_) (fun cc go => ?_)
  rotate_left
  · refine ⟨_, rfl, _, _, rfl, rfl, _, rfl, ite2 (fun c => ⟨_, rfl, _, _, rfl, rfl, (by decide), ?_⟩) (fun c => ?_)⟩
    · have g := ofNo rfl (go (wy % 3) (Int.emod_nonneg _ (by decide)))
      exact g
    · have g := ofNo rfl (go wy wy0)
      exact g
  refine ifNo rfl ⟨_, rfl, _, _, rfl, rfl, _, rfl, ?_⟩
  refine orElse ?_ (fun c1 next => ?_)
  rotate_left
  · have c1 : wy < 3 := of_decide_eq_true c1
    refine ⟨_, rfl, A.lf, _, rfl, .inl (SqL.of h.lf), _, _, rfl, rfl, _, rfl, ?_⟩
    rw [List.length_map]
    refine orElse (ofNo rfl next) (fun c2 _ => ?_)
    have c12 : B.R.fr.length < 12 := by have := of_decide_eq_true c2; omega
    refine ⟨_, rfl, c, 2, rfl, hc1, by decide, by decide, mixed c 2, rfl, fun x H2 hx s2 => ?_⟩
    have h2 := h.more s2 (Nat.le_refl _)
    have w3 : wy = 0 ∨ wy = 1 ∨ wy = 2 := by omega
    rcases w3 with rfl | rfl | rfl
    · refine ⟨_, rfl, rfl, _, rfl, ifNo (by decide +kernel) ?_⟩
      refine ⟨_, rfl, .inl ⟨rfl, _, SqL.of h2.lf⟩, by show 3 ≤ sizeLine; decide, fun t0 ht0 => ?_⟩
      have s3 := Same.new ht0 (.lst [.str "if", .str "while", .str "repeat"])
      have h3 := h2.more s3 (Nat.le_refl _)
      have o3 : upd H2 t0 (.lst [.str "if", .str "while", .str "repeat"]) t0 = some (.lst [.str "if", .str "while", .str "repeat"]) := upd_same
      generalize upd H2 t0 (.lst [.str "if", .str "while", .str "repeat"]) = H3 at s3 h3 o3 ⊢
      refine ⟨_, rfl, t0, _, _, _, rfl, rfl, SqL.of o3, atI0, _, rfl, Nat.zero_le _, fun ld hld => ⟨by show 1 ≤ sizeLine; decide, fun lp hlp => ⟨by show 3 ≤ sizeLine; decide, fun b hb => ?_⟩⟩⟩
      have sb := (Same.new hld (.lst [])).trans ((Same.new hlp (.lst [.ref ld])).trans (Same.new hb (.lst [.str (Kd.cond x).h, (Kd.cond x).v, .ref lp])))
      obtain ⟨e4, h4⟩ := h3.push (k := Kd.cond x) hld hlp hb
      refine ⟨A.lf, _, _, rfl, rfl, sb _ _ h3.lf, Nat.lt_of_lt_of_le (show (B.zs.map fun z => V.ref z.b).length < 10000 by rw [List.length_map, ezl]; omega) (Nat.le_of_lt big), ?_⟩
      have lf4 := h4.lf
      have hb4 := h4.own.1 _ _ (upd_same : upd H0 b (.lst [.str (Kd.cond x).h, (Kd.cond x).v, .ref lp]) b = _)
      refine ⟨_, rfl, .inl ⟨rfl, _, SqL.of h4.ll⟩, _, rfl, _, rfl, A.lf, _, _, _, rfl, rfl, SqL.of lf4, last_map, b, _, _, _, rfl, rfl, SqL.of hb4, atI0, _, rfl, str_any (wd_val (k := .cond x) hx) ⟨by show 2 ≤ sizeLine; decide, fun L hL => ⟨A.ll, _, _, rfl, rfl, (Same.new hL _) _ _ h4.ll, by rw [List.length_map]; show B.Ls.length < sizeLine; omega, ?_⟩⟩⟩
      obtain ⟨e5, h5⟩ := h4.frzN hL (Same.new hL (.lst [.str (Kd.cond x).h, .str (valStr (Kd.cond x).v)])) upd_same
      have h6 := (h5.line (L := L) (Nat.lt_succ_of_le h.l4)).bg (b := true)
      rw [List.map_append] at h6
      refine q _ _ _ (fs ++ [.opn (Kd.cond x)]) (e4.trans e5) h6 (.snoc (f := .opn (Kd.cond x)) (hi.same (e4.trans e5)) c12 hx upd_same) rfl (by rw [List.length_append]; rfl) (by show (B.R.fr ++ [_]).length ≤ _; rw [List.length_append]; exact Nat.le_refl _)
    · refine ⟨_, rfl, rfl, _, rfl, ifNo (by decide +kernel) ?_⟩
      refine ⟨_, rfl, .inl ⟨rfl, _, SqL.of h2.lf⟩, by show 3 ≤ sizeLine; decide, fun t0 ht0 => ?_⟩
      have s3 := Same.new ht0 (.lst [.str "if", .str "while", .str "repeat"])
      have h3 := h2.more s3 (Nat.le_refl _)
      have o3 : upd H2 t0 (.lst [.str "if", .str "while", .str "repeat"]) t0 = some (.lst [.str "if", .str "while", .str "repeat"]) := upd_same
      generalize upd H2 t0 (.lst [.str "if", .str "while", .str "repeat"]) = H3 at s3 h3 o3 ⊢
      refine ⟨_, rfl, t0, _, _, _, rfl, rfl, SqL.of o3, atI1, _, rfl, Nat.zero_le _, fun ld hld => ⟨by show 1 ≤ sizeLine; decide, fun lp hlp => ⟨by show 3 ≤ sizeLine; decide, fun b hb => ?_⟩⟩⟩
      have sb := (Same.new hld (.lst [])).trans ((Same.new hlp (.lst [.ref ld])).trans (Same.new hb (.lst [.str (Kd.whl x).h, (Kd.whl x).v, .ref lp])))
      obtain ⟨e4, h4⟩ := h3.push (k := Kd.whl x) hld hlp hb
      refine ⟨A.lf, _, _, rfl, rfl, sb _ _ h3.lf, Nat.lt_of_lt_of_le (show (B.zs.map fun z => V.ref z.b).length < 10000 by rw [List.length_map, ezl]; omega) (Nat.le_of_lt big), ?_⟩
      have lf4 := h4.lf
      have hb4 := h4.own.1 _ _ (upd_same : upd H0 b (.lst [.str (Kd.whl x).h, (Kd.whl x).v, .ref lp]) b = _)
      refine ⟨_, rfl, .inl ⟨rfl, _, SqL.of h4.ll⟩, _, rfl, _, rfl, A.lf, _, _, _, rfl, rfl, SqL.of lf4, last_map, b, _, _, _, rfl, rfl, SqL.of hb4, atI0, _, rfl, str_any (wd_val (k := .whl x) hx) ⟨by show 2 ≤ sizeLine; decide, fun L hL => ⟨A.ll, _, _, rfl, rfl, (Same.new hL _) _ _ h4.ll, by rw [List.length_map]; show B.Ls.length < sizeLine; omega, ?_⟩⟩⟩
      obtain ⟨e5, h5⟩ := h4.frzN hL (Same.new hL (.lst [.str (Kd.whl x).h, .str (valStr (Kd.whl x).v)])) upd_same
      have h6 := (h5.line (L := L) (Nat.lt_succ_of_le h.l4)).bg (b := true)
      rw [List.map_append] at h6
      refine q _ _ _ (fs ++ [.opn (Kd.whl x)]) (e4.trans e5) h6 (.snoc (f := .opn (Kd.whl x)) (hi.same (e4.trans e5)) c12 hx upd_same) rfl (by rw [List.length_append]; rfl) (by show (B.R.fr ++ [_]).length ≤ _; rw [List.length_append]; exact Nat.le_refl _)
    · refine ⟨_, rfl, rfl, _, rfl, ifYes (by decide +kernel) ⟨_, rfl, _, _, rfl, rfl, ⟨by decide, by decide⟩, _, 0, 99, rfl, by decide, fun r H7 r0 r1 s7 => ?_⟩⟩
      have h7 := h2.more s7 (Nat.le_refl _)
      refine ⟨_, rfl, .inl ⟨rfl, _, SqL.of h7.lf⟩, by show 3 ≤ sizeLine; decide, fun t0 ht0 => ?_⟩
      have s3 := Same.new ht0 (.lst [.str "if", .str "while", .str "repeat"])
      have h3 := h7.more s3 (Nat.le_refl _)
      have o3 : upd H7 t0 (.lst [.str "if", .str "while", .str "repeat"]) t0 = some (.lst [.str "if", .str "while", .str "repeat"]) := upd_same
      generalize upd H7 t0 (.lst [.str "if", .str "while", .str "repeat"]) = H3 at s3 h3 o3 ⊢
      refine ⟨_, rfl, t0, _, _, _, rfl, rfl, SqL.of o3, atI2, _, rfl, Nat.zero_le _, fun ld hld => ⟨by show 1 ≤ sizeLine; decide, fun lp hlp => ⟨by show 3 ≤ sizeLine; decide, fun b hb => ?_⟩⟩⟩
      have sb := (Same.new hld (.lst [])).trans ((Same.new hlp (.lst [.ref ld])).trans (Same.new hb (.lst [.str (Kd.rep r).h, (Kd.rep r).v, .ref lp])))
      obtain ⟨e4, h4⟩ := h3.push (k := Kd.rep r) hld hlp hb
      refine ⟨A.lf, _, _, rfl, rfl, sb _ _ h3.lf, Nat.lt_of_lt_of_le (show (B.zs.map fun z => V.ref z.b).length < 10000 by rw [List.length_map, ezl]; omega) (Nat.le_of_lt big), ?_⟩
      have lf4 := h4.lf
      have hb4 := h4.own.1 _ _ (upd_same : upd H0 b (.lst [.str (Kd.rep r).h, (Kd.rep r).v, .ref lp]) b = _)
      refine ⟨_, rfl, .inl ⟨rfl, _, SqL.of h4.ll⟩, _, rfl, _, rfl, A.lf, _, _, _, rfl, rfl, SqL.of lf4, last_map, b, _, _, _, rfl, rfl, SqL.of hb4, atI0, _, rfl, str_any (wd_val (k := .rep r) ⟨r0, r1⟩) ⟨by show 2 ≤ sizeLine; decide, fun L hL => ⟨A.ll, _, _, rfl, rfl, (Same.new hL _) _ _ h4.ll, by rw [List.length_map]; show B.Ls.length < sizeLine; omega, ?_⟩⟩⟩
      obtain ⟨e5, h5⟩ := h4.frzN hL (Same.new hL (.lst [.str (Kd.rep r).h, .str (valStr (Kd.rep r).v)])) upd_same
      have h6 := (h5.line (L := L) (Nat.lt_succ_of_le h.l4)).bg (b := true)
      rw [List.map_append] at h6
      refine q _ _ _ (fs ++ [.opn (Kd.rep r)]) (e4.trans e5) h6 (.snoc (f := .opn (Kd.rep r)) (hi.same (e4.trans e5)) c12 ⟨r0, r1⟩ upd_same) rfl (by rw [List.length_append]; rfl) (by show (B.R.fr ++ [_]).length ≤ _; rw [List.length_append]; exact Nat.le_refl _)
  refine ifNo rfl ⟨_, rfl, _, _, rfl, rfl, _, rfl, ?_⟩
  refine orElse ?_ (fun c1 next => ?_)
  rotate_left
  · refine ⟨_, rfl, A.lf, _, rfl, .inl (SqL.of h.lf), _, _, rfl, rfl, _, rfl, ?_⟩
    rw [List.length_map]
    refine orElse (ofNo rfl next) (fun c2 _ => ?_)
    have nf : B.R.fr ≠ [] := fun z => by
      have := of_decide_eq_true c2
      rw [ezl, z] at this
      exact absurd this (by decide)
    exact ⟨_, rfl, _, rfl, _, rfl, H0, A, B, m, fs, rfl, h, hi, nf, hm, fun H' H0' B' e0 hb hh eR => q _ _ B' _ e0 hb hh (by rw [eR]; exact en_st) (by rw [List.length_append]; rfl) (by rw [eR]; exact Nat.le_succ_of_le en_fr)⟩
  refine ifNo rfl ⟨_, rfl, rfl, _, rfl, ?_⟩
  refine orElse ?_ (fun c1 next => ?_)
  rotate_left
  · refine ⟨_, rfl, A.lf, _, rfl, .inl (SqL.of h.lf), _, _, rfl, rfl, _, rfl, ?_⟩
    rw [List.length_map]
    refine orElse ?_ (fun c2 next2 => ?_)
    · exact next
    rcases List.eq_nil_or_concat B.zs with e | ⟨zs, z, e⟩
    · rw [e] at c2
      exact absurd c2 (by decide)
    rw [List.concat_eq_append] at e
    have hzm : z ∈ B.zs := by rw [e]; simp
    have fz := h.zz z hzm
    obtain ⟨p1, p2⟩ := h.pz hzm
    have lf : B.R.fr.getLast? = some z.fr := by rw [← h.eb, e, List.map_append]; simp
    have lst : atI (B.zs.map fun z => V.ref z.b) (-1) = some (.ref z.b) := by rw [e]; exact last_map
    refine ⟨_, rfl, _, rfl, A.lf, _, _, _, rfl, rfl, SqL.of h.lf, lst, z.b, _, _, _, rfl, rfl, SqL.of p1, atI0, rfl, _, rfl, ?_⟩
    refine orElse next2 (fun c3 _ => ?_)
    refine ⟨_, rfl, _, rfl, A.lf, _, _, _, rfl, rfl, SqL.of h.lf, lst, z.b, _, _, _, rfl, rfl, SqL.of p1, atI2, z.lp, _, rfl, .inl (SqL.of p2), rfl, _, rfl, ?_⟩
    refine orElse (ofNo rfl next2) (fun c4 _ => ?_)
    have zt : z.t = false := by
      cases zt : z.t with
      | false => rfl
      | true =>
        rw [zt] at c4
        exact absurd c4 (by simp)
    have e3 : V.str z.k.h = V.str "if" := of_decide_eq_true c3
    have e3 := V.str.inj e3
    obtain ⟨x, ek⟩ : ∃ x, z.k = .cond x := by
      cases ek : z.k with
      | cond x => exact ⟨x, rfl⟩
      | whl x => rw [ek] at e3; exact absurd e3 (by show ¬ (("while" : Str) = "if"); decide +kernel)
      | rep n => rw [ek] at e3; exact absurd e3 (by show ¬ (("repeat" : Str) = "if"); decide +kernel)
    rw [if_neg (by rw [zt]; decide)] at p2
    refine ⟨_, rfl, _, rfl, A.lf, _, _, _, rfl, rfl, SqL.of h.lf, lst, z.b, _, _, _, rfl, rfl, SqL.of p1, atI2, .inl ⟨rfl, _, SqL.of p2⟩, Nat.zero_le _, fun lo hlo => ⟨z.lp, _, _, rfl, rfl, (Same.new hlo _) _ _ p2, by show 1 < sizeLine; decide, ?_⟩⟩
    have h4 := h.turn e zt hlo
    refine ⟨_, rfl, .inl ⟨rfl, _, SqL.of h4.ll⟩, by show 1 ≤ sizeLine; decide, fun L hL => ⟨A.ll, _, _, rfl, rfl, (Same.new hL _) _ _ h4.ll, by rw [List.length_map]; show B.Ls.length < sizeLine; omega, ?_⟩⟩
    obtain ⟨e5, h5⟩ := h4.frzN hL (Same.new hL (.lst [.str "else"])) upd_same
    have h6 := (h5.line (L := L) (Nat.lt_succ_of_le h.l4)).bg (b := true)
    rw [List.map_append] at h6
    have hist : Hist _ (B.Ls ++ [L]) (fs ++ [.els]) (rd B.R .els) := .snoc (hi.same e5) ⟨_, x, lf, ek, zt⟩ trivial upd_same
    rw [rd_els lf] at hist
    refine q _ _ _ _ e5 h6 hist rfl (by rw [List.length_append]; rfl) ?_
    show (B.R.fr.dropLast ++ [_]).length ≤ _
    rw [List.length_append, List.length_dropLast]
    show _ - 1 + 1 ≤ _
    omega
  refine ifNo rfl ⟨_, rfl, _, rfl, _, rfl, _, rfl, H0, A, B, m, wy, c, rfl, h, hm, hc, hnm, fun H2 p d s2 sm dw gd hp => ?_⟩
  obtain ⟨e3, h3⟩ := (h.more s2 (Nat.le_refl _)).frzT hp
  have hp03 : upd H0 p (.tup (dv d)) p = some (.tup (dv d)) := upd_same
  generalize upd H0 p (.tup (dv d)) = H03 at e3 h3 hp03
  have rd3 : RD H03 (.ref p) d := smp_rd sm hp03
  obtain ⟨xs, hx, hl, B4, h4, eL, eR⟩ := h3.lay rd3
  refine ⟨_, rfl, _, rfl, H03, A, B, m, rfl, h3, .inl ⟨rfl, _, SqL.of hx⟩, _, rfl, _, _, _, rfl, rfl, hx, by omega, ?_⟩
  generalize upd H2 (here A B.zs) (.lst (xs ++ [.ref p])) = H4 at h4 ⊢
  have hp4 := h4.own.1 _ _ hp03
  have fin : ∀ H5 L, Same H4 H5 → H4 L = none → H5 L = some (.lst ((dln d).map V.str)) → Q .non (upd H5 A.ll (.lst (B4.Ls.map V.ref ++ [.ref L]))) := fun H5 L s5 hn hL => by
    obtain ⟨e5, h5⟩ := h4.frzN hn s5 hL
    have h6 := (h5.line (L := L) (by rw [eL]; exact Nat.lt_succ_of_le h.l4)).bg (b := true)
    rw [List.map_append] at h6
    have hist : Hist _ (B.Ls ++ [L]) (fs ++ [.pl d]) (rd B.R (.pl d)) := .snoc (hi.same (e3.trans e5)) gd dw upd_same
    have hist : Hist _ (B.Ls ++ [L]) (fs ++ [.pl d]) { B.R.lay d with bg := true } := hist
    rw [← eL, ← eR] at hist
    refine q _ _ _ _ (e3.trans e5) h6 hist ?_ (by rw [List.length_append]; rfl) ?_
    · show B4.R.st = _
      rw [eR]
      exact lay_st
    · show B4.R.fr.length ≤ _
      rw [eR, lay_few]
      exact Nat.le_succ _
  have lll : B4.Ls.length < sizeLine := by rw [eL]; omega
  refine ⟨_, rfl, p, rfl, ⟨_, SqT.of hp4⟩, ?_⟩
  refine comp_tup0 (K := K) (a := p) (xs := dv d) (fun i ys σ H5 => (∃ v, σ = [v]) ∧ H5 = H4 ∧ ys = ((dv d).take i).map fun v => V.str (valStr v)) ⟨⟨_, rfl⟩, rfl, rfl⟩ ?_ ?_ ?_ ?_ ?_
  · rintro i ys σ H5 _ ⟨_, _, rfl⟩
    rw [List.length_map, List.length_take]
    exact Nat.min_le_left _ _
  · exact len_le_line (m := 5) (by cases d <;> first | exact (by show 5 ≤ 5; decide) | exact (by show 3 ≤ 5; decide) | exact (by show 2 ≤ 5; decide) | exact (by show 0 ≤ 5; decide))
  · rintro i ys σ H5 ⟨_, rfl, _⟩
    exact SqT.of hp4
  · rintro i v ys σ H5 hv ⟨⟨u, rfl⟩, rfl, rfl⟩
    refine ⟨_, rfl, str_any2 (dv_one dw v (List.mem_of_getElem? hv)) ⟨⟨_, rfl⟩, rfl, ?_⟩⟩
    rw [List.take_add_one, hv, List.map_append]
    rfl
  rintro ys σ H5 ⟨_, rfl, rfl⟩ lw hlw
  rw [List.take_length]
  have s6 := Same.new hlw (.lst ((dv d).map fun v => V.str (valStr v)))
  have o6 : upd H5 lw (.lst ((dv d).map fun v => V.str (valStr v))) lw = some (.lst ((dv d).map fun v => V.str (valStr v))) := upd_same
  have nw : ∀ {l2 : Addr}, upd H5 lw (.lst ((dv d).map fun v => V.str (valStr v))) l2 = none → H5 l2 = none := fun z => none_upd z
  generalize upd H5 lw (.lst ((dv d).map fun v => V.str (valStr v))) = H6 at s6 o6 nw ⊢
  have hp6 := s6 _ _ hp4
  have ll6 := s6 _ _ h4.ll
  cases d with
  | set x av sg bv =>
    refine ⟨_, rfl, p, _, _, _, rfl, rfl, SqT.of hp6, atI0, rfl, _, rfl, ifYes (by decide +kernel) ?_⟩
    have o6 : H6 lw = some (.lst [.str (valStr (.str "set")), .str x, .str (valStr av.v), .str sg, .str (valStr bv.v)]) := o6
    refine ⟨_, rfl, lw, _, _, _, rfl, rfl, SqL.of o6, atI1, _, rfl, lw, _, _, _, rfl, rfl, SqL.of o6, atI2, _, rfl, lw, _, _, _, rfl, rfl, SqL.of o6, atI_nat (j := 3) rfl, _, rfl, lw, _, _, _, rfl, rfl, SqL.of o6, atI_nat (j := 4) rfl, by show 5 ≤ sizeLine; decide, fun L hL => ?_⟩
    have s7 := Same.new hL (.lst [.str x, .str "=", .str (valStr av.v), .str sg, .str (valStr bv.v)])
    exact ⟨_, rfl, .inl ⟨rfl, _, SqL.of (s7 _ _ ll6)⟩, _, rfl, A.ll, _, _, rfl, rfl, s7 _ _ ll6, by rw [List.length_map]; exact lll, fin _ L (s6.trans s7) (nw hL) upd_same⟩
  | put sq x =>
    refine ⟨_, rfl, p, _, _, _, rfl, rfl, SqT.of hp6, atI0, rfl, _, rfl, ifNo (by decide +kernel) ?_⟩
    exact ⟨_, rfl, .inl ⟨rfl, _, SqL.of ll6⟩, _, rfl, A.ll, _, _, rfl, rfl, ll6, by rw [List.length_map]; exact lll, fin _ lw s6 hlw o6⟩
  | get sq x =>
    refine ⟨_, rfl, p, _, _, _, rfl, rfl, SqT.of hp6, atI0, rfl, _, rfl, ifNo (by decide +kernel) ?_⟩
    exact ⟨_, rfl, .inl ⟨rfl, _, SqL.of ll6⟩, _, rfl, A.ll, _, _, rfl, rfl, ll6, by rw [List.length_map]; exact lll, fin _ lw s6 hlw o6⟩
  | give x =>
    refine ⟨_, rfl, p, _, _, _, rfl, rfl, SqT.of hp6, atI0, rfl, _, rfl, ifNo (by decide +kernel) ?_⟩
    exact ⟨_, rfl, .inl ⟨rfl, _, SqL.of ll6⟩, _, rfl, A.ll, _, _, rfl, rfl, ll6, by rw [List.length_map]; exact lll, fin _ lw s6 hlw o6⟩
  | _ => exact absurd sm (by simp [Smp])
theorem hist_few {H : Hp} : ∀ {Ls : List Addr} {fs : List Fm} {R : RS}, Hist H Ls fs R → R.fr.length ≤ 12
  | _, _, _, .nil => Nat.zero_le _
  | _, _, _, .snoc h g _ _ => rd_few g (hist_few h)
theorem en_less {R : RS} (h : R.fr ≠ []) : (rd R .en).fr.length < R.fr.length := by
  have hl : R.fr.length ≠ 0 := fun z => h (List.length_eq_zero_iff.mp z)
  show (match R.fr.getLast? with | none => R | some f => _).fr.length < _
  cases hf : R.fr.getLast? with
  | none => exact absurd (List.getLast?_eq_none_iff.mp hf) h
  | some f =>
    show (RS.lay { R with fr := R.fr.dropLast } (f.k.deed f.ds f.os)).fr.length < _
    rw [lay_few]
    show R.fr.dropLast.length < _
    rw [List.length_dropLast]
    omega
theorem Own.perm {H0 H : Hp} {cs cs' : List (Addr × HO)} (h : Own H0 H cs) (p : cs.Perm cs') : Own H0 H cs' := ⟨h.1, (p.map (·.1)).nodup_iff.mp h.2.1, fun x hx => h.2.2 x (p.mem_iff.mpr hx)⟩
theorem Own.nil {H : Hp} : Own H H [] := ⟨Same.refl _, List.nodup_nil, fun p hp => by cases hp⟩
theorem flat_strs (zs : List Str) : (zs.map V.str).all flatV = true := by
  rw [List.all_eq_true]
  intro v hv
  obtain ⟨z, _, rfl⟩ := List.mem_map.mp hv
  rfl
theorem notin_strs {x : Str} {zs : List Str} (h : (!inV (.str x) (zs.map V.str)) = true) : x ∉ zs := fun hx => by
  rw [inV_strs, decide_eq_true hx] at h
  cases h
theorem ok__law_build (T : Tx P w K mg a) : FnOk P w K mg base CX0 7 a._law_build a.fd__law_build ["_law_script"] (sp__law_build K) := by
  refine T.F__law_build.ok sc__law_build (fun vs H Q E h => ?_) (fun cdv A' outer s H vs Q E hr h => ?_)
  · obtain ⟨_, _, rfl, _⟩ := h
    rfl
  obtain ⟨l, ns, rfl, hS, h63, hb, q⟩ := h
  refine ⟨_, (pss_cons (ps_set (i := 1) sc__law_build.nd rfl (Or.inl rfl) (pe_lst pa_nil))
      (pss_cons (ps_set (i := 2) sc__law_build.nd rfl (Or.inl rfl) (pe_lst pa_nil))
      (pss_cons (ps_set (i := 3) sc__law_build.nd rfl (Or.inl rfl) (pe_lst pa_nil))
      (pss_cons (ps_set (i := 4) sc__law_build.nd rfl (Or.inl rfl) (pe_lst pa_nil))
      (pss_cons (ps_set (i := 5) sc__law_build.nd rfl (Or.inl rfl) (pe_lst pa_nil))
      (pss_cons (ps_set (i := 6) sc__law_build.nd rfl (Or.inl rfl) (pe_call (ok__law_mixed T) (hr.mono (by decide)) rfl T.m__law_mixed T.F__law_mixed.kp T.b__law_mixed .nil pass0 (pa_cons (pe_call (ok__law_cell_at T) (hr.mono (by decide)) rfl T.m__law_cell_at T.F__law_cell_at.kp T.b__law_cell_at .nil pass0 (pa_cons (pv 0) (pa_cons pe_int pa_nil))) (pa_cons pe_int pa_nil))))
      (pss_cons (ps_set (i := 7) sc__law_build.nd rfl (Or.inl rfl) (pe_op oi_mod (pv 6) pe_int))
      (pss_cons (ps_for PassesOwn.never rfl (pi_range1 rfl T.z_range (pa_cons (pv 7) pa_nil)) (pg_name (i := 8) sc__law_build.nd rfl (Or.inl rfl))
      (pss_cons (ps_set (i := 9) sc__law_build.nd rfl (Or.inl rfl) (pe_call (ok__law_mixed T) (hr.mono (by decide)) rfl T.m__law_mixed T.F__law_mixed.kp T.b__law_mixed .nil pass0 (pa_cons (pe_call (ok__law_cell_at T) (hr.mono (by decide)) rfl T.m__law_cell_at T.F__law_cell_at.kp T.b__law_cell_at .nil pass0 (pa_cons (pv 0) (pa_cons (pe_op oi_add pe_int (pv 8)) pa_nil))) (pa_cons pe_int pa_nil))))
      (pss_cons (ps_set (i := 10) sc__law_build.nd rfl (Or.inl rfl) (pe_call (ok__law_name_by T) (hr.mono (by decide)) rfl T.m__law_name_by T.F__law_name_by.kp T.b__law_name_by .nil pass0 (pa_cons (pe_op oi_fdivW (pv 9) pe_int) pa_nil)))
      (pss_cons (ps_if (PW.pt (pw_and (pt_cmpR op_eq (pe_op oi_mod (pv 9) pe_int) pe_int (nomark _)) (pw_and1 (pt_cmpR op_notIn_seq (pv 10) (pv 1) (by with_unfolding_all rfl))))) (pss_cons (ps_expr (pe_bm PySem.F.plainAttrs_list PySem.F.slot_list_append PySem.F.type_list_append mt_append (pv 1) (pa_cons (pv 10) pa_nil)))
      (pss_one (ps_expr (pe_bm PySem.F.plainAttrs_list PySem.F.slot_list_append PySem.F.type_list_append mt_append (pv 3) (pa_cons (pe_lst (pa_cons pe_str (pa_cons (pv 10) pa_nil))) pa_nil))))) pss_nil)
      (pss_one (ps_if (PW.pt (pw_and (pt_cmpR op_eq (pe_op oi_mod (pv 9) pe_int) pe_int (nomark _)) (pw_and1 (pt_cmpR op_notIn_seq (pv 10) (pe_comp (k := 1) (Nc := ["_law_store"]) (js := []) (show CompSc (defScope s__law_build) ["_law_script", "_law_asks", "_law_stores", "_law_lines", "_law_top", "_law_fences", "_law_n", "_law_many", "_law_k", "_law_cell", "_law_x"] _ 1 ["_law_store"] [] from CompSc.mk rfl (by decide +kernel) (by decide +kernel) (by decide +kernel) rfl (by decide +kernel)) rfl (pi_list (pv 2)) (fun _ _ _ _ _ => (pg_name (i := 0) (show List.Nodup (["_law_store"] : List Str) from by decide +kernel) rfl (Or.inl rfl))) (fun _ _ _ _ _ => pts_nil) (fun _ _ _ _ _ => (pe_ix (ix_tupK (K := K) rfl) (pv 0) pe_int (fun _ _ => rfl)))) (by with_unfolding_all rfl))))) (pss_cons (ps_expr (pe_bm PySem.F.plainAttrs_list PySem.F.slot_list_append PySem.F.type_list_append mt_append (pv 2) (pa_cons (pe_tup (pa_cons (pv 10) (pa_cons (pe_call (ok__law_from T) (hr.mono (by decide)) rfl T.m__law_from T.F__law_from.kp T.b__law_from .nil pass0 (pa_cons (pe_op oi_fdivW (pe_op oi_fdivW (pv 9) pe_int) (pe_op oi_pow pe_int pe_int)) (pa_cons pe_int (pa_cons pe_int pa_nil)))) pa_nil))) pa_nil)))
      (pss_one (ps_expr (pe_bm PySem.F.plainAttrs_list PySem.F.slot_list_append PySem.F.type_list_append mt_append (pv 3) (pa_cons (pe_lst (pa_cons pe_str (pa_cons (pv 10) (pa_cons (pe_callTy call_str_any rfl T.z_str PyProof.Rows.Boot.«str» (pa_cons (pe_ix ix_tup (pe_ix ix_list (pv 2) (pe_un un_neg pe_int) (fun _ _ => rfl)) pe_int (fun _ _ => rfl)) pa_nil)) pa_nil)))) pa_nil))))) pss_nil))))))
      (pss_cons (ps_for PassesOwn.never rfl (pi_list (pe_slice sl_list (pv 0) (po_some (pe_op oi_add pe_int (pv 7))) (po_some (pe_op oi_add pe_int (pv 7))))) (pg_name (i := 9) sc__law_build.nd rfl (Or.inl rfl))
      (pss_one (ps_expr (pe_call (ok__law_step T) (hr.mono (by decide)) rfl T.m__law_step T.F__law_step.kp T.b__law_step .nil pass0 (pa_cons (pv 9) (pa_cons (pe_cmpR op_eq (pe_op oi_mod (pe_op oi_fdivW (pv 6) pe_int) pe_int) pe_int (nomark _)) (pa_cons (pv 2) (pa_cons (pv 4) (pa_cons (pv 5) (pa_cons (pv 3) pa_nil))))))))))
      (pss_cons (ps_while PassesOwn.never (pt_cmpR oi_gt (pe_callB call_len_seq rfl T.z_len PySem.boot_len (pa_cons (pv 5) pa_nil)) pe_int (nomark _)) (pss_one (ps_expr (pe_call (ok__law_ended T) (hr.mono (by decide)) rfl T.m__law_ended T.F__law_ended.kp T.b__law_ended .nil pass0 (pa_cons (pv 4) (pa_cons (pv 5) (pa_cons (pv 3) pa_nil)))))))
      (pss_one (ps_ret (pe_tup (pa_cons (pv 1) (pa_cons (pv 2) (pa_cons (pv 4) (pa_cons (pv 3) pa_nil))))))))))))))))), ?_⟩
  have big : (10000 : Nat) < sizeLine := by decide
  refine ⟨Nat.zero_le _, fun la hla => ⟨Nat.zero_le _, fun ls hls => ⟨Nat.zero_le _, fun ll hll => ⟨Nat.zero_le _, fun lt hlt => ⟨Nat.zero_le _, fun lf hlf => ?_⟩⟩⟩⟩⟩
  have own := (((((Own.nil (H := H)).new (.lst []) hla).new (.lst []) hls).new (.lst []) hll).new (.lst []) hlt).new (.lst []) hlf
  have h0 : BdH H _ ⟨la, ls, lt, lf, ll⟩ ⟨[], [], [], [], R0⟩ 0 := ⟨own.perm (List.Perm.cons _ (List.Perm.cons _ (List.perm_append_comm (l₁ := [(ll, HO.lst [])]) (l₂ := [(lt, HO.lst []), (lf, HO.lst [])])))), .nil, .nil, fun z hz => (by cases hz), rfl, Nat.le_refl _, Nat.le_refl _, Nat.le_refl _, Nat.le_refl _⟩
  generalize upd (upd (upd (upd (upd H la (.lst [])) ls (.lst [])) ll (.lst [])) lt (.lst [])) lf (.lst []) = H5 at h0 ⊢
  refine ⟨_, rfl, l, ns, 0, rfl, h0.own.1.seq hS, Int.le_refl _, hb, fun c0 hc0 => ⟨c0, 6, rfl, Nat.le_succ_of_le hc0, by decide, by decide, ?_⟩⟩
  generalize mixed c0 6 = n
  refine ⟨_, rfl, _, _, rfl, rfl, (by decide), ?_⟩
  have m0 := Int.emod_nonneg n (show (7 : Int) ≠ 0 by decide)
  have m1 := Int.emod_lt_of_pos n (show (0 : Int) < 7 by decide)
  generalize n % 7 = mn at m0 m1 ⊢
  refine ⟨_, rfl, _, rfl, by omega, by omega, ?_⟩
  refine for_range (fun i σ H2 => ∃ v8 v9 v10 H0 B fs, σ = [some (.ref l), some (.ref la), some (.ref ls), some (.ref ll), some (.ref lt), some (.ref lf), some (.int n), some (.int mn), v8, v9, v10] ∧ Same H H0 ∧ BdH H0 H2 ⟨la, ls, lt, lf, ll⟩ B i ∧ Hist H0 B.Ls fs B.R ∧ B.R.fr = [] ∧ B.R.bg = false ∧ ∀ p ∈ B.R.st, isName p.1 = true) ⟨_, _, _, H, _, [], rfl, Same.refl _, h0, .nil, rfl, rfl, fun p hp => (by cases hp)⟩ ?_ ?_
  · rintro i σ H2 hi ⟨v8, v9, v10, H0, B, fs, rfl, e0, h, hst, hfr, hbg, hnm⟩
    have hS2 := (e0.trans h.own.1).seq hS
    have i7 : i < 7 := by omega
    refine ⟨_, rfl, _, rfl, _, _, rfl, rfl, l, ns, _, rfl, hS2, by omega, hb, fun c1 hc1 => ⟨c1, 7, rfl, Nat.le_succ_of_le hc1, by decide, by decide, ?_⟩⟩
    generalize mixed c1 7 = cl
    refine ⟨_, rfl, _, _, rfl, rfl, ⟨by decide, by decide⟩, _, rfl, fun x H3 hx s3 => ?_⟩
    have h3 := h.more s3 (Nat.le_refl _)
    have l1 := h.l2
    have l3 := h.l3
    have l4 := h.l4
    have fin : ∀ σ' H4 H04 B' fs', σ' = [some (.ref l), some (.ref la), some (.ref ls), some (.ref ll), some (.ref lt), some (.ref lf), some (.int n), some (.int mn), some (V.int (0 + (i : Int))), some (V.int cl), some (.str x)] → Same H0 H04 → BdH H04 H4 ⟨la, ls, lt, lf, ll⟩ B' (i + 1) → Hist H04 B'.Ls fs' B'.R → B'.R.fr = [] → B'.R.bg = false → (∀ p ∈ B'.R.st, isName p.1 = true) → ∃ v8 v9 v10 H0 B fs, σ' = [some (.ref l), some (.ref la), some (.ref ls), some (.ref ll), some (.ref lt), some (.ref lf), some (.int n), some (.int mn), v8, v9, v10] ∧ Same H H0 ∧ BdH H0 H4 ⟨la, ls, lt, lf, ll⟩ B (i + 1) ∧ Hist H0 B.Ls fs B.R ∧ B.R.fr = [] ∧ B.R.bg = false ∧ ∀ p ∈ B.R.st, isName p.1 = true := fun σ' H4 H04 B' fs' es e4 h4 hh hf hg hn => ⟨_, _, _, H04, B', fs', es, e0.trans e4, h4, hh, hf, hg, hn⟩
    refine ⟨_, rfl, _, _, rfl, rfl, (by decide), rfl, _, rfl, ?_⟩
    have c01 : cl % 2 = 0 ∨ cl % 2 = 1 := by omega
    rcases c01 with c0 | c0
    · refine ifYes (decide_eq_true (by rw [c0])) ⟨_, rfl, _, rfl, la, _, rfl, .inl (SqL.of h3.la), rfl, flat_strs _, _, rfl, ?_⟩
      refine ite2 (fun c1 => ?_) (fun c1 => ?_)
      · have nx := notin_strs c1
        refine ⟨_, rfl, .inl ⟨rfl, _, SqL.of h3.la⟩, _, rfl, la, _, _, rfl, rfl, h3.la, by rw [List.length_map]; omega, ?_⟩
        have h4 := h3.ask (x := x)
        rw [List.map_append] at h4
        refine ⟨_, rfl, .inl ⟨rfl, _, SqL.of h4.ll⟩, _, rfl, by show 2 ≤ sizeLine; decide, fun L hL => ⟨ll, _, _, rfl, rfl, (Same.new hL _) _ _ h4.ll, by rw [List.length_map]; show B.Ls.length < sizeLine; omega, ?_⟩⟩
        obtain ⟨e5, h5⟩ := h4.frzN hL (Same.new hL (.lst [.str "ask", .str x])) upd_same
        have h6 := h5.line (L := L) (Nat.lt_succ_of_le h.l4)
        rw [List.map_append] at h6
        refine ⟨_, rfl, _, _, rfl, rfl, (by decide), rfl, _, rfl, ifNo (decide_eq_false (by rw [c0]; decide)) (ifNo rfl ?_)⟩
        exact fin _ _ _ _ _ rfl e5 h6 (.snoc (f := .ask x) (hst.same e5) ⟨hbg, nx⟩ hx upd_same) hfr hbg hnm
      · refine ⟨_, rfl, _, _, rfl, rfl, (by decide), rfl, _, rfl, ifNo (decide_eq_false (by rw [c0]; decide)) (ifNo rfl ?_)⟩
        exact fin _ _ _ _ _ rfl (Same.refl _) (h3.more (Same.refl _) (Nat.le_succ _)) hst hfr hbg hnm
    · refine ifNo (decide_eq_false (by rw [c0]; decide)) (ifNo rfl ?_)
      refine ⟨_, rfl, _, _, rfl, rfl, (by decide), rfl, _, rfl, ifYes (decide_eq_true (by rw [c0])) ⟨_, rfl, _, rfl, ls, rfl, ⟨_, SqL.of h3.ls⟩, ?_⟩⟩
      refine comp_list0 (K := K) (a := ls) (xs := B.sv) (fun j ys σ H4 => (∃ v, σ = [v]) ∧ H4 = H3 ∧ ys = ((kys B.R.st).take j).map V.str) ⟨⟨_, rfl⟩, rfl, rfl⟩ ?_ (len_le_line (m := 100) (by omega)) ?_ ?_ ?_
      · rintro j ys σ H4 _ ⟨_, _, rfl⟩
        rw [List.length_map, List.length_take]
        exact Nat.min_le_left _ _
      · rintro j ys σ H4 ⟨_, rfl, _⟩
        exact SqL.of h3.ls
      · rintro j v ys σ H4 hv ⟨⟨u, rfl⟩, rfl, rfl⟩
        obtain ⟨p, sq, sn, rfl, hj, hp⟩ := h.ss.at j v hv
        refine ⟨_, rfl, p, _, _, _, rfl, rfl, SqT.of (h3.own.1 _ _ hp), atI0, ⟨_, rfl⟩, rfl, ?_⟩
        rw [List.take_add_one, List.map_append]
        unfold kys
        rw [List.getElem?_map, hj]
        rfl
      rintro ys σ H4 ⟨_, rfl, rfl⟩ lk hlk
      have lnk : (kys B.R.st).length = B.sv.length := by unfold kys; rw [List.length_map, h.ss.len]
      rw [← lnk, List.take_length]
      have s5 := Same.new hlk (.lst ((kys B.R.st).map V.str))
      have o5 : upd H4 lk (.lst ((kys B.R.st).map V.str)) lk = some (.lst ((kys B.R.st).map V.str)) := upd_same
      generalize upd H4 lk (.lst ((kys B.R.st).map V.str)) = H5 at s5 o5 ⊢
      have h5 := h3.more s5 (Nat.le_refl _)
      refine ⟨lk, _, rfl, .inl (SqL.of o5), rfl, flat_strs _, _, rfl, ?_⟩
      refine ite2 (fun c1 => ?_) (fun c1 => ?_)
      · have nx := notin_strs c1
        refine ⟨_, rfl, .inl ⟨rfl, _, SqL.of h5.ls⟩, _, rfl, _, rfl, _, _, rfl, rfl, ⟨by decide, by decide +kernel⟩, _, _, rfl, rfl, ⟨by decide, by decide, by decide⟩, _, _, rfl, rfl, ⟨by decide +kernel, by decide +kernel⟩, _, 1, 2000, rfl, by decide, fun r H6 r1 r2 s6 => ⟨by show 2 ≤ sizeLine; decide, fun p hp => ?_⟩⟩
        have h6 := h5.more s6 (Nat.le_refl _)
        have sp := Same.new hp (.tup [.str x, .int r])
        obtain ⟨e7, h7⟩ := (h6.more sp (Nat.le_refl _)).frzT upd_same
        have h8 := h7.sto (p := p) (x := x) (n := r) upd_same
        have ep8 : upd H0 p (.tup [.str x, .int r]) p = some (.tup [.str x, .int r]) := upd_same
        refine ⟨ls, _, _, rfl, rfl, h7.ls, by omega, ?_⟩
        refine ⟨_, rfl, .inl ⟨rfl, _, SqL.of h8.ll⟩, _, rfl, _, rfl, _, rfl, ls, _, _, _, rfl, rfl, SqL.of h8.ls, atI_last _ _, p, _, _, _, rfl, rfl, SqT.of (h8.own.1 _ _ ep8), atI1, str_any (.inr ⟨r, rfl, by omega, by omega⟩) ⟨by show 3 ≤ sizeLine; decide, fun L hL => ⟨ll, _, _, rfl, rfl, (Same.new hL _) _ _ h8.ll, by rw [List.length_map]; show B.Ls.length < sizeLine; omega, ?_⟩⟩⟩
        obtain ⟨e9, h9⟩ := h8.frzN hL (Same.new hL (.lst [.str "store", .str x, .str (valStr (.int r))])) upd_same
        have h10 := h9.line (L := L) (Nat.lt_succ_of_le h.l4)
        rw [List.map_append] at h10
        exact fin _ _ _ _ _ rfl (e7.trans e9) h10 (.snoc (f := .sto x r) (hst.same (e7.trans e9)) ⟨hbg, nx⟩ ⟨hx, r1, r2⟩ upd_same) hfr hbg (fun y hy => by
          rcases List.mem_append.mp hy with k | k
          · exact hnm y k
          · obtain rfl := List.mem_singleton.mp k
            exact hx)
      · exact fin _ _ _ _ _ rfl (Same.refl _) (h5.more (Same.refl _) (Nat.le_succ _)) hst hfr hbg hnm
  · rintro σ H2 ⟨v8, v9, v10, H0, B, fs, rfl, e0, h, hst, hfr, hbg, hnm⟩
    have mn6 : mn.toNat ≤ 6 := by omega
    have h := h.more (Same.refl _) mn6
    clear mn6
    refine ⟨_, rfl, _, rfl, _, _, rfl, rfl, _, rfl, _, rfl, _, _, rfl, rfl, _, rfl, l, _, rfl, (e0.trans h.own.1).seq hS, fun l2 hl2 => ?_⟩
    obtain ⟨es, ees, esl, esm⟩ : ∃ es : List Int, cutV (ns.map V.int) (some (1 + mn)) (some (161 + mn)) = es.map V.int ∧ es.length ≤ ns.length ∧ ∀ n ∈ es, n ∈ ns := by
      unfold cutV
      refine ⟨(ns.drop _).take _, by rw [← List.map_drop, ← List.map_take], ?_, fun n hn => List.mem_of_mem_drop (List.mem_of_mem_take hn)⟩
      rw [List.length_take, List.length_drop]
      omega
    rw [ees]
    obtain ⟨e1, h1⟩ := h.frzN hl2 (Same.new hl2 (.lst (es.map V.int))) upd_same
    have hl02 : upd H0 l2 (.lst (es.map V.int)) l2 = some (.lst (es.map V.int)) := upd_same
    generalize upd H0 l2 (.lst (es.map V.int)) = H01 at e1 h1 hl02
    generalize upd H2 l2 (.lst (es.map V.int)) = H3 at h1 ⊢
    refine ⟨_, rfl, ⟨_, SqL.of (h1.own.1 _ _ hl02)⟩, ?_⟩
    refine for_list (K := K) (xs := es.map V.int) (fun i σ H4 => ∃ v8 v9 v10 H04 B fs, σ = [some (.ref l), some (.ref la), some (.ref ls), some (.ref ll), some (.ref lt), some (.ref lf), some (.int n), some (.int mn), v8, v9, v10] ∧ Same H01 H04 ∧ BdH H04 H4 ⟨la, ls, lt, lf, ll⟩ B (6 + i) ∧ Hist H04 B.Ls fs B.R ∧ ∀ p ∈ B.R.st, isName p.1 = true) ⟨_, _, _, H01, B, fs, rfl, Same.refl _, h1, hst.same e1, hnm⟩ ?_ ?_ ?_
    · rintro i σ H4 _ ⟨_, _, _, H04, B, fs, _, e4, h4, _, _⟩
      exact SqL.of (h4.own.1 _ _ (e4 _ _ hl02))
    · rintro i v σ H4 hv ⟨w8, w9, w10, H04, B, fs, rfl, e4, h4, hst4, hnm4⟩
      have il : i < 63 := by
        have := (List.getElem?_eq_some_iff.mp hv).1
        rw [List.length_map] at this
        omega
      rw [List.getElem?_map] at hv
      obtain ⟨c, hc, rfl⟩ := Option.map_eq_some_iff.mp hv
      refine ⟨_, rfl, _, rfl, _, _, rfl, rfl, ⟨by decide, by decide +kernel⟩, _, _, rfl, rfl, (by decide), rfl, _, rfl, _, rfl, _, rfl, _, rfl, H04, _, B, 6 + i, fs, c, _, rfl, h4, hst4, by omega, hb _ (esm _ (List.mem_of_getElem? hc)), hnm4, fun H5 H05 B5 fs5 e5 h5 hst5 est _ _ => ?_⟩
      exact ⟨_, _, _, H05, B5, fs5, rfl, e4.trans e5, h5, hst5, by rw [est]; exact hnm4⟩
    · rintro σ H4 ⟨w8, w9, w10, H04, B, fs, rfl, e4, h4, hst4, hnm4⟩
      rw [List.length_map] at h4
      refine ⟨fun k σ H5 => ∃ v8 v9 v10 H05 B fs mm, σ = [some (.ref l), some (.ref la), some (.ref ls), some (.ref ll), some (.ref lt), some (.ref lf), some (.int n), some (.int mn), v8, v9, v10] ∧ Same H H05 ∧ BdH H05 H5 ⟨la, ls, lt, lf, ll⟩ B mm ∧ Hist H05 B.Ls fs B.R ∧ B.R.fr.length = k ∧ mm + k ≤ 100, ⟨_, _, _, _, H04, B, fs, _, rfl, e0.trans (e1.trans e4), h4, hst4, rfl, by have := hist_few hst4; omega⟩, ?_⟩
      rintro k σ H5 ⟨u8, u9, u10, H05, B5, fs5, mm, rfl, e5, h5, hst5, ek, mk⟩
      have len : B5.zs.length = B5.R.fr.length := by rw [← h5.eb, List.length_map]
      refine ⟨_, rfl, lf, _, rfl, .inl (SqL.of h5.lf), _, _, rfl, rfl, _, rfl, ?_⟩
      rw [List.length_map, len]
      refine ite2 (fun c => ?_) (fun c => ?_)
      · have nf : B5.R.fr ≠ [] := fun z => by
          have := of_decide_eq_true c
          rw [z] at this
          exact absurd this (by decide)
        refine ⟨_, fun _ _ h => h, _, rfl, _, rfl, _, rfl, H05, ⟨la, ls, lt, lf, ll⟩, B5, mm, fs5, rfl, h5, hst5, nf, by omega, fun H6 H06 B6 e6 h6 hst6 eR => ?_⟩
        have := en_less nf
        rw [← eR] at this
        exact ⟨B6.R.fr.length, by omega, _, _, _, H06, B6, _, mm + 1, rfl, e5.trans e6, h6, hst6, rfl, by omega⟩
      · have nf : B5.R.fr = [] := by
          cases z : B5.R.fr with
          | nil => rfl
          | cons f r => rw [z] at c; exact absurd (decide_eq_true (by simp)) c
        refine ⟨_, rfl, _, rfl, _, rfl, _, rfl, by show 4 ≤ sizeLine; decide, fun t ht => ?_⟩
        exact q _ H05 ⟨la, ls, lt, lf, ll⟩ B5 mm t fs5 e5 (h5.more (Same.new ht _) (Nat.le_refl _)) hst5 nf (by omega) upd_same
theorem bits_add' {c k : Int} (hc : Builtin.Int.intBits c ≤ 2 ^ 20) (k0 : 0 ≤ k) (k1 : k ≤ 1000) : Builtin.Int.intBits (c + k) ≤ 2 ^ 20 + 1 := by
  have h := PySem.intBits_le_iff.mp hc
  refine PySem.intBits_le_iff.mpr ?_
  have h2 : (1024 : Nat) ≤ 2 ^ (2 ^ 20) := Nat.le_trans (by decide : (1024 : Nat) ≤ 2 ^ 10) (Nat.pow_le_pow_right (by decide) (by decide))
  rw [Nat.pow_succ]
  generalize (2 : Nat) ^ (2 ^ 20) = B at h h2 ⊢
  omega
theorem eqW : goodWord "=" := by
  have : 1 ≤ ("=" : Str).length ∧ ("=" : Str).length ≤ 40 ∧ ∀ c ∈ ("=" : Str).cps.toList, 33 ≤ c ∧ c < 127 := by decide +kernel
  exact this
theorem sgW {sg : Str} (h : inV (.str sg) sgV = true) : goodWord sg := by
  have : ∀ z ∈ (["+", "-", "*", "/", "<", "=", "&", "|", "^"] : List Str), 1 ≤ z.length ∧ z.length ≤ 40 ∧ ∀ c ∈ z.cps.toList, 33 ≤ c ∧ c < 127 := by decide +kernel
  have e : sgV = (["+", "-", "*", "/", "<", "=", "&", "|", "^"] : List Str).map V.str := rfl
  rw [e, inV_strs] at h
  exact this sg (of_decide_eq_true h)
theorem line_good {f : Fm} (h : f.wd) : lineOf f ≠ [] ∧ (lineOf f).length ≤ 5 ∧ (∀ w ∈ lineOf f, goodWord w) ∧ formV (lineOf f) = some f.v := by
  have kw : ∀ {w : Str}, w ∈ kwS → goodWord w := good_kw
  cases f with
  | ask x => exact ⟨List.cons_ne_nil _ _, (by show 2 ≤ 5; decide), all2 (kw (by decide +kernel)) (name_word h), form_one (by decide +kernel) h⟩
  | sto x n => exact ⟨List.cons_ne_nil _ _, (by show 3 ≤ 5; decide), all3 (kw (by decide +kernel)) (name_word h.1) (num_word (by have := h.2.1; omega) (by have := h.2.2; omega)), form_store h.1 h.2.1 h.2.2⟩
  | opn k =>
    cases k with
    | cond x => exact ⟨List.cons_ne_nil _ _, (by show 2 ≤ 5; decide), all2 (kw (w := "if") (by decide +kernel)) (name_word h), form_one (h := "if") (by decide +kernel) h⟩
    | whl x => exact ⟨List.cons_ne_nil _ _, (by show 2 ≤ 5; decide), all2 (kw (w := "while") (by decide +kernel)) (name_word h), form_one (h := "while") (by decide +kernel) h⟩
    | rep n => exact ⟨List.cons_ne_nil _ _, (by show 2 ≤ 5; decide), all2 (kw (w := "repeat") (by decide +kernel)) (num_word h.1 (by have := h.2; omega)), form_repeat h.1 h.2⟩
  | els => exact ⟨List.cons_ne_nil _ _, (by show 1 ≤ 5; decide), all1 (kw (by decide +kernel)), form_none (by decide +kernel)⟩
  | en => exact ⟨List.cons_ne_nil _ _, (by show 1 ≤ 5; decide), all1 (kw (by decide +kernel)), form_none (by decide +kernel)⟩
  | pl d =>
    cases d with
    | set x a sg b => exact ⟨List.cons_ne_nil _ _, (by show 5 ≤ 5; decide), all5 (name_word h.1) eqW (val_word h.2.1) (sgW h.2.2.1) (val_word h.2.2.2), form_set h.1 h.2.1 h.2.2.1 h.2.2.2⟩
    | put q x => exact ⟨List.cons_ne_nil _ _, (by show 3 ≤ 5; decide), all3 (kw (by decide +kernel)) (name_word h.1) (name_word h.2), form_two (by decide +kernel) h.1 h.2⟩
    | get q x => exact ⟨List.cons_ne_nil _ _, (by show 3 ≤ 5; decide), all3 (kw (by decide +kernel)) (name_word h.1) (name_word h.2), form_two (by decide +kernel) h.1 h.2⟩
    | give x => exact ⟨List.cons_ne_nil _ _, (by show 2 ≤ 5; decide), all2 (kw (by decide +kernel)) (name_word h), form_one (by decide +kernel) h⟩
    | _ => exact absurd h (by simp [Fm.wd, dwd])
theorem zero_val {v : V} (h : goodVal v) (e : valStr v = "0") : v = .int 0 := by
  have := val_in h
  rw [e] at this
  rw [← this]
  decide +kernel
theorem line_short {f : Fm} (h : f.wd) (h5 : (lineOf f).length = 5) (h3 : (lineOf f)[3]? = some ("+" : Str)) (h4 : (lineOf f)[4]? = some ("0" : Str)) : formV ((lineOf f).take 3) = some f.v := by
  cases f with
  | ask x => cases h5
  | sto x n => cases h5
  | opn k => cases h5
  | els => cases h5
  | en => cases h5
  | pl d =>
    cases d with
    | set x a sg b =>
      have h3 : (some sg : Option Str) = some ("+" : Str) := h3
      have h4 : (some (valStr b.v) : Option Str) = some ("0" : Str) := h4
      obtain rfl := Option.some.inj h3
      have e := zero_val h.2.2.2 (Option.some.inj h4)
      show formV [x, "=", valStr a.v] = some [.str "set", .str x, a.v, .str "+", b.v]
      rw [e]
      exact form_set1 h.1 h.2.1
    | put q x => cases h5
    | get q x => cases h5
    | give x => cases h5
    | _ => exact absurd h (by simp [Fm.wd, dwd])
theorem Rs.len : ∀ {rows : List Str} {fo : List (Option Fm)}, Rs rows fo → rows.length = fo.length
  | _, _, .nil => rfl
  | _, _, .snoc h _ _ => by rw [List.length_append, List.length_append, h.len]; rfl
theorem Rs.at {rows : List Str} {fo : List (Option Fm)} (h : Rs rows fo) : ∀ (i : Nat) row o, rows[i]? = some row → fo[i]? = some o → RowOk row ∧ WR row o := by
  induction h with
  | nil => intro i row o h; simp at h
  | snoc h a b ih =>
    rename_i rows fo r0 o0
    intro i row o h1 h2
    rcases Nat.lt_trichotomy i rows.length with c | c | c
    · rw [List.getElem?_append_left c] at h1
      rw [List.getElem?_append_left (by rw [← h.len]; exact c)] at h2
      exact ih i row o h1 h2
    · subst c
      rw [List.getElem?_append_right (Nat.le_refl _), Nat.sub_self] at h1
      rw [h.len, List.getElem?_append_right (Nat.le_refl _), Nat.sub_self] at h2
      cases h1
      cases h2
      exact ⟨a, b⟩
    · rw [List.getElem?_eq_none (by rw [List.length_append]; exact c)] at h1
      cases h1
theorem Rs.ok {rows : List Str} {fo : List (Option Fm)} (h : Rs rows fo) : ∀ row ∈ rows, RowOk row := fun row hr => by
  obtain ⟨i, hi⟩ := List.getElem?_of_mem hr
  have il := (List.getElem?_eq_some_iff.mp hi).1
  exact (h.at i row _ hi (List.getElem?_eq_getElem (by rw [← h.len]; exact il))).1
theorem blank_row {k : Int} (k0 : 0 ≤ k) (k3 : k ≤ 10) : RowOk (Txt.mul (" " : Str) k) ∧ wordsIn (Txt.mul (" " : Str) k) = [] := by
  have : ∀ j : Nat, j ≤ 10 → (Txt.mul (" " : Str) (j : Int)).length ≤ 220 ∧ (∀ c ∈ (Txt.mul (" " : Str) (j : Int)).cps.toList, 32 ≤ c) ∧ wordsIn (Txt.mul (" " : Str) (j : Int)) = [] := by decide +kernel
  obtain ⟨j, rfl⟩ := Int.eq_ofNat_of_zero_le k0
  obtain ⟨a, b, c⟩ := this j (by omega)
  exact ⟨⟨a, b⟩, c⟩
theorem ok__law_text_by (T : Tx P w K mg a) : FnOk P w K mg base CX0 2 a._law_text_by a.fd__law_text_by ["_law_lines", "_law_script"] (sp__law_text_by K) := by
  refine T.F__law_text_by.ok sc__law_text_by (fun vs H Q E h => ?_) (fun cdv A' outer s H vs Q E hr h => ?_)
  · obtain ⟨_, _, _, _, _, rfl, _⟩ := h
    rfl
  obtain ⟨ll, l, Ls, fs, ns, rfl, hS, hb, hll, hlen, h100, hln, q⟩ := h
  refine ⟨_, (pss_cons (ps_set (i := 2) sc__law_text_by.nd rfl (Or.inl rfl) (pe_lst pa_nil))
      (pss_cons (ps_for PassesOwn.never rfl (pi_range1 rfl T.z_range (pa_cons (pe_callB call_len_seq rfl T.z_len PySem.boot_len (pa_cons (pv 0) pa_nil)) pa_nil)) (pg_name (i := 3) sc__law_text_by.nd rfl (Or.inl rfl))
      (pss_cons (ps_set (i := 4) sc__law_text_by.nd rfl (Or.inl rfl) (pe_call (ok__law_mixed T) (hr.mono (by decide)) rfl T.m__law_mixed T.F__law_mixed.kp T.b__law_mixed .nil pass0 (pa_cons (pe_op oi_add (pe_call (ok__law_cell_at T) (hr.mono (by decide)) rfl T.m__law_cell_at T.F__law_cell_at.kp T.b__law_cell_at .nil pass0 (pa_cons (pv 1) (pa_cons (pe_op oi_mod (pv 3) pe_int) pa_nil))) (pv 3)) (pa_cons pe_int pa_nil))))
      (pss_cons (ps_set (i := 5) sc__law_text_by.nd rfl (Or.inl rfl) (pe_ix ix_list (pv 0) (pv 3) (fun _ _ => rfl)))
      (pss_cons (ps_if (PW.pt (pw_and (pt_cmpR op_eq (pe_callB call_len_seq rfl T.z_len PySem.boot_len (pa_cons (pv 5) pa_nil)) pe_int (nomark _)) (pw_and (pt_cmpR op_eq (pe_ix ix_list (pv 5) pe_int (fun _ _ => rfl)) pe_str (nomark _)) (pw_and (pt_cmpR op_eq (pe_ix ix_list (pv 5) pe_int (fun _ _ => rfl)) pe_str (nomark _)) (pw_and1 (pt_cmpR op_eq (pe_op oi_mod (pv 4) pe_int) pe_int (nomark _))))))) (pss_one (ps_set (i := 5) sc__law_text_by.nd rfl (Or.inl rfl) (pe_slice sl_list (pv 5) po_none (po_some pe_int)))) pss_nil)
      (pss_cons (ps_for PassesOwn.never rfl (pi_range1 rfl T.z_range (pa_cons (pe_callB (call_max2 rfl) rfl T.z_max PyProof.Rows.Boot.«max» (pa_cons pe_int (pa_cons (pe_op oi_sub (pe_op oi_mod (pe_op oi_fdiv (pv 4) pe_int) pe_int) pe_int) pa_nil))) pa_nil)) (pg_name (i := 6) sc__law_text_by.nd rfl (Or.inl rfl))
      (pss_one (ps_expr (pe_bm PySem.F.plainAttrs_list PySem.F.slot_list_append PySem.F.type_list_append mt_append (pv 2) (pa_cons (pe_op op_mul_str pe_str (pe_op oi_mod (pe_op oi_fdiv (pv 4) pe_int) pe_int)) pa_nil)))))
      (pss_one (ps_expr (pe_bm PySem.F.plainAttrs_list PySem.F.slot_list_append PySem.F.type_list_append mt_append (pv 2) (pa_cons (pe_call (ok__law_spaced T) (hr.mono (by decide)) rfl T.m__law_spaced T.F__law_spaced.kp T.b__law_spaced .nil pass0 (pa_cons (pv 5) (pa_cons (pe_op oi_fdiv (pv 4) pe_int) pa_nil))) pa_nil)))))))))
      (pss_one (ps_ret (pe_bm PySem.F.plainAttrs_str PySem.F.slot_str_join PySem.F.type_str_join mt_join pe_str (pa_cons (pv 2) pa_nil)))))), ?_⟩
  have big : (10000 : Nat) < sizeLine := by decide
  refine ⟨Nat.zero_le _, fun lr hlr => ?_⟩
  have own := (Own.nil (H := H)).new (.lst []) hlr
  generalize upd H lr (.lst []) = H1 at own ⊢
  refine ⟨_, rfl, ll, _, rfl, .inl (SqL.of (own.1 _ _ hll)), _, rfl, by omega, by rw [List.length_map]; omega, ?_⟩
  rw [List.length_map]
  refine for_range (fun i σ H2 => ∃ (v3 v4 v5 v6 : Option V) (rows : List Str) (fo : List (Option Fm)), σ = [some (.ref ll), some (.ref l), some (.ref lr), v3, v4, v5, v6] ∧ Own H H2 [(lr, .lst (rows.map V.str))] ∧ Rs rows fo ∧ fo.filterMap id = fs.take i ∧ rows.length ≤ 3 * i) ⟨_, _, _, _, [], [], rfl, own, .nil, rfl, Nat.le_refl _⟩ ?_ ?_
  · rintro i σ H2 hi ⟨v3, v4, v5, v6, rows, fo, rfl, ow, hrs, hfo, hrl⟩
    have il : i < fs.length := by omega
    have il' : i < Ls.length := by omega
    have hL : Ls[i]? = some Ls[i] := List.getElem?_eq_getElem il'
    have hF : fs[i]? = some fs[i] := List.getElem?_eq_getElem il
    obtain ⟨wd, hw⟩ := hln i _ _ hL hF
    generalize Ls[i] = L at hL hw
    generalize fs[i] = f at hF hw wd
    have hS2 := ow.1.seq hS
    refine ⟨_, rfl, _, rfl, _, _, rfl, rfl, (by decide), l, ns, _, rfl, hS2, Int.emod_nonneg _ (by decide), hb, fun c1 hc1 => ?_⟩
    refine ⟨_, rfl, _, _, rfl, rfl, _, 8, rfl, bits_add' hc1 (by omega) (by omega), by decide, by decide, ?_⟩
    generalize mixed (c1 + (0 + (i : Int))) 8 = n
    refine ⟨_, rfl, _, rfl, ll, _, _, _, rfl, rfl, SqL.of (ow.1 _ _ hll), by rw [Int.zero_add]; exact atI_nat (by rw [List.getElem?_map, hL]; rfl), ?_⟩
    obtain ⟨g1, g2, g3, g4⟩ := line_good wd
    have hw2 := ow.1 _ _ hw
    have neL : L ≠ lr := fun z => by
      have := (ow.2.2 _ (List.mem_singleton.mpr rfl)).2
      rw [show ((lr, HO.lst (rows.map V.str)) : Addr × HO).1 = L from z.symm, hw] at this
      cases this
    refine ⟨_, rfl, L, _, rfl, .inl (SqL.of hw2), rfl, _, rfl, ?_⟩
    refine join2' (P := fun (L : Addr) (G : Hp) => ∃ ws, G L = some (.lst (ws.map V.str)) ∧ ws ≠ [] ∧ ws.length ≤ 5 ∧ (∀ w ∈ ws, goodWord w) ∧ formV ws = some f.v ∧ Own H G [(lr, .lst (rows.map V.str))] ∧ L ≠ lr) (w := L) (z := H2) ⟨_, hw2, g1, g2, g3, g4, ow, neL⟩ (fun L2 G hP => ?_) (fun c1 go => ?_)
    · obtain ⟨ws, hL2, w1, w2, w3, w4, ow2, neL2⟩ := hP
      have m0 := Int.emod_nonneg (n / 2) (show (6 : Int) ≠ 0 by decide)
      have m1 := Int.emod_lt_of_pos (n / 2) (show (0 : Int) < 6 by decide)
      obtain ⟨mx, emx, hm0, hm2⟩ : ∃ mx : Int, (if n / 2 % 6 - 3 > 0 then n / 2 % 6 - 3 else 0) = mx ∧ 0 ≤ mx ∧ mx ≤ 2 := ⟨_, rfl, by split <;> omega, by split <;> omega⟩
      refine ifNo rfl ⟨_, rfl, _, _, rfl, rfl, ⟨by decide, by decide⟩, _, _, rfl, rfl, (by decide), _, _, rfl, rfl, _, _, rfl, ?_⟩
      rw [emx]
      refine ⟨_, rfl, by omega, by omega, ?_⟩
      refine for_range (fun j σ G2 => ∃ (v6 : Option V) (rows' : List Str) (fo' : List (Option Fm)), σ = [some (.ref ll), some (.ref l), some (.ref lr), some (.int (0 + (i : Int))), some (.int n), some (.ref L2), v6] ∧ Own H G2 [(lr, .lst (rows'.map V.str))] ∧ G2 L2 = some (.lst (ws.map V.str)) ∧ Rs rows' fo' ∧ fo'.filterMap id = fs.take i ∧ rows'.length ≤ rows.length + j) ⟨_, rows, fo, rfl, ow2, hL2, hrs, hfo, Nat.le_refl _⟩ ?_ ?_
      · rintro j σ G2 hj ⟨u6, rows', fo', rfl, ow3, hL3, hrs3, hfo3, hrl3⟩
        have hlr := ow3.get (c := lr) (List.mem_singleton.mpr rfl)
        have k0 := Int.emod_nonneg (n / 12) (show (4 : Int) ≠ 0 by decide)
        have k1 := Int.emod_lt_of_pos (n / 12) (show (0 : Int) < 4 by decide)
        obtain ⟨br, bw⟩ := blank_row (k := n / 12 % 4) k0 (by omega)
        refine ⟨_, rfl, .inl ⟨rfl, _, SqL.of hlr⟩, _, rfl, _, _, rfl, rfl, ⟨by decide, by decide⟩, _, _, rfl, rfl, (by decide), _, _, rfl, rfl, mul_ok (by decide) k0 (by omega), lr, _, _, rfl, rfl, hlr, by rw [List.length_map]; omega, ?_⟩
        have ow4 := Own.upd (xs := []) (ys := []) (.lst ((rows' ++ [Txt.mul (" " : Str) (n / 12 % 4)]).map V.str)) ow3
        rw [List.map_append] at ow4
        exact ⟨_, _, fo' ++ [none], rfl, by rw [List.map_append]; exact ow4, by rw [upd_ne neL2]; exact hL3, .snoc hrs3 br bw, by rw [List.filterMap_append, hfo3]; simp, by rw [List.length_append]; show _ + 1 ≤ _; omega⟩
      · rintro σ G2 ⟨u6, rows', fo', rfl, ow3, hL3, hrs3, hfo3, hrl3⟩
        have hlr := ow3.get (c := lr) (List.mem_singleton.mpr rfl)
        refine ⟨_, rfl, .inl ⟨rfl, _, SqL.of hlr⟩, _, rfl, _, rfl, _, _, rfl, rfl, ⟨by decide, by decide⟩, L2, ws, _, rfl, SqL.of hL3, by omega, w3, fun x hx hc hwx => ⟨lr, _, _, rfl, rfl, hlr, by rw [List.length_map]; omega, ?_⟩⟩
        have ow4 := Own.upd (xs := []) (ys := []) (.lst ((rows' ++ [x]).map V.str)) ow3
        rw [List.map_append] at ow4
        refine ⟨_, _, _, _, _, fo' ++ [some f], rfl, by rw [List.map_append]; exact ow4, .snoc hrs3 ⟨by omega, fun c h => (hc c h).1⟩ ⟨by rw [hwx]; exact w1, by rw [hwx]; exact w4⟩, ?_, ?_⟩
        · rw [List.filterMap_append, hfo3, List.take_add_one, hF]
          rfl
        · rw [List.length_append]
          show _ + 1 ≤ _
          omega
    · have c1 : V.int (((lineOf f).map V.str).length : Int) = V.int 5 := of_decide_eq_true c1
      injection c1 with c1
      rw [List.length_map] at c1
      have l5 : (lineOf f).length = 5 := by omega
      have short := line_short wd l5
      have hP : ∃ ws, H2 L = some (.lst (ws.map V.str)) ∧ ws ≠ [] ∧ ws.length ≤ 5 ∧ (∀ w ∈ ws, goodWord w) ∧ formV ws = some f.v ∧ Own H H2 [(lr, .lst (rows.map V.str))] ∧ L ≠ lr := ⟨_, hw2, g1, g2, g3, g4, ow, neL⟩
      generalize lineOf f = z at short l5 hw2 g3
      match z, l5 with
      | [za, zb, zc, zd, ze], _ =>
        have at3 : atI ([za, zb, zc, zd, ze].map V.str) 3 = some (.str zd) := atI_nat (j := 3) rfl
        have at4 : atI ([za, zb, zc, zd, ze].map V.str) 4 = some (.str ze) := atI_nat (j := 4) rfl
        refine ⟨_, rfl, L, _, _, _, rfl, rfl, SqL.of hw2, at3, rfl, _, rfl, ?_⟩
        refine orElse (go _ _ hP) (fun c2 _ => ?_)
        refine ⟨_, rfl, L, _, _, _, rfl, rfl, SqL.of hw2, at4, rfl, _, rfl, ?_⟩
        refine orElse (go _ _ hP) (fun c3 _ => ?_)
        refine ⟨_, rfl, _, _, rfl, rfl, (by decide), rfl, _, rfl, ?_⟩
        refine orElse (ofNo rfl (go _ _ hP)) (fun c4 _ => ?_)
        have e3 : V.str zd = V.str "+" := of_decide_eq_true c2
        have e4 : V.str ze = V.str "0" := of_decide_eq_true c3
        have sh := short (by show some zd = some _; rw [V.str.inj e3]) (by show some ze = some _; rw [V.str.inj e4])
        refine ⟨_, rfl, _, rfl, L, _, rfl, SqL.of hw2, fun p hp => ?_⟩
        have np : p ≠ lr := fun z => by
          have := ow.get (c := lr) (List.mem_singleton.mpr rfl)
          rw [← z, hp] at this
          cases this
        have cut : cutV ([za, zb, zc, zd, ze].map V.str) none (some 3) = [za, zb, zc].map V.str := rfl
        rw [cut]
        have s5 := Same.new hp (.lst ([za, zb, zc].map V.str))
        have o5 : upd H2 p (.lst ([za, zb, zc].map V.str)) p = some (.lst ([za, zb, zc].map V.str)) := upd_same
        generalize upd H2 p (.lst ([za, zb, zc].map V.str)) = G at s5 o5 ⊢
        exact ofNo rfl (go p G ⟨[za, zb, zc], o5, List.cons_ne_nil _ _, by show 3 ≤ 5; decide, fun w hw => g3 w (by simp only [List.mem_cons, List.not_mem_nil, or_false] at hw ⊢; rcases hw with h | h | h <;> simp [h]), sh, ow.more s5, np⟩)
  · rintro σ H2 ⟨v3, v4, v5, v6, rows, fo, rfl, ow, hrs, hfo, hrl⟩
    rw [hlen, Int.toNat_natCast, List.take_length] at hfo
    have hlr := ow.get (c := lr) (List.mem_singleton.mpr rfl)
    have rl : rows.length ≤ 300 := by omega
    refine ⟨rfl, _, rfl, "\n", lr, rows, rfl, rfl, SqL.of hlr, join_ok_of (m := 221) (fun w hw => ?_) (by omega), ?_⟩
    · have := (hrs.ok w hw).1
      have e : ("\n" : Str).length = 1 := by decide +kernel
      rw [e]
      omega
    · exact q _ rows fo ow.1 hrs hfo rl
theorem al_same {H H' : Hp} (e : Same H H') {n : Nat} {x y : V} (h : Al6 H n x y) : Al6 H' n x y := by
  induction h with
  | str n x => exact .str n x
  | int n i => exact .int n i
  | lst h1 h2 hl _ ih => exact .lst (e _ _ h1) (e _ _ h2) hl ih
  | tup h1 h2 hl _ ih => exact .tup (e _ _ h1) (e _ _ h2) hl ih
theorem ok__law_same (T : Tx P w K mg a) : ∀ n : Nat, FnOk P w K mg base CX0 (n + 3) a._law_same a.fd__law_same ["_law_found", "_law_due"] (sp__law_same n) := by
  intro n
  induction n with
  | zero =>
    refine T.F__law_same.ok sc__law_same (fun vs H Q E h => ?_) (fun cdv A outer s H vs Q E hr h => ?_)
    · obtain ⟨_, _, _, rfl, _⟩ := h
      rfl
    obtain ⟨x, y, m, rfl, hm, _⟩ := h
    exact absurd hm (Nat.not_lt_zero _)
  | succ n ih =>
    refine T.F__law_same.ok sc__law_same (fun vs H Q E h => ?_) (fun cdv A outer s H vs Q E hr h => ?_)
    · obtain ⟨_, _, _, rfl, _⟩ := h
      rfl
    obtain ⟨x, y, m, rfl, hm, al, k⟩ := h
    refine ⟨_, (pss_cons (ps_if (PW.pt (pw_or (pt_val (pe_callB call_isT rfl T.z_isinstance PyProof.Rows.Boot.«isinstance» (pa_cons (pv 1) (pa_cons (pe_bltn (v := .ty "list") rfl T.z_list PyProof.Rows.Boot.«list» rfl) pa_nil)))) (pw_or1 (pt_val (pe_callB call_isT rfl T.z_isinstance PyProof.Rows.Boot.«isinstance» (pa_cons (pv 1) (pa_cons (pe_bltn (v := .ty "tuple") rfl T.z_tuple PyProof.Rows.Boot.«tuple» rfl) pa_nil))))))) (pss_cons (ps_if (pt_cmpR op_ne (pe_callB call_isT rfl T.z_isinstance PyProof.Rows.Boot.«isinstance» (pa_cons (pv 1) (pa_cons (pe_bltn (v := .ty "list") rfl T.z_list PyProof.Rows.Boot.«list» rfl) pa_nil))) (pe_callB call_isT rfl T.z_isinstance PyProof.Rows.Boot.«isinstance» (pa_cons (pv 0) (pa_cons (pe_bltn (v := .ty "list") rfl T.z_list PyProof.Rows.Boot.«list» rfl) pa_nil))) (nomark _)) (pss_one (ps_ret pe_bl)) pss_nil)
      (pss_cons (ps_if (pt_cmpR op_ne (pe_callB call_isT rfl T.z_isinstance PyProof.Rows.Boot.«isinstance» (pa_cons (pv 1) (pa_cons (pe_bltn (v := .ty "tuple") rfl T.z_tuple PyProof.Rows.Boot.«tuple» rfl) pa_nil))) (pe_callB call_isT rfl T.z_isinstance PyProof.Rows.Boot.«isinstance» (pa_cons (pv 0) (pa_cons (pe_bltn (v := .ty "tuple") rfl T.z_tuple PyProof.Rows.Boot.«tuple» rfl) pa_nil))) (nomark _)) (pss_one (ps_ret pe_bl)) pss_nil)
      (pss_cons (ps_if (pt_cmpR op_ne (pe_callB call_len_seq rfl T.z_len PySem.boot_len (pa_cons (pv 0) pa_nil)) (pe_callB call_len_seq rfl T.z_len PySem.boot_len (pa_cons (pv 1) pa_nil)) (nomark _)) (pss_one (ps_ret pe_bl)) pss_nil)
      (pss_cons (ps_for PassesOwn.never rfl (pi_zip rfl T.z_zip (pa_cons (pv 0) (pa_cons (pv 1) pa_nil))) (pg_tup rfl (pgs_cons (pg_name (i := 2) sc__law_same.nd rfl (Or.inl rfl)) (pgs_cons (pg_name (i := 3) sc__law_same.nd rfl (Or.inl rfl)) pgs_nil)))
      (pss_one (ps_if (pt_not (pt_val (pe_call ih (hr.mono (by omega)) rfl T.m__law_same T.F__law_same.kp T.b__law_same .nil pass0 (pa_cons (pv 2) (pa_cons (pv 3) pa_nil))))) (pss_one (ps_ret pe_bl)) pss_nil)))
      (pss_one (ps_ret pe_bl)))))) pss_nil)
      (pss_cons (ps_if (pt_val (pe_callB call_isT rfl T.z_isinstance PyProof.Rows.Boot.«isinstance» (pa_cons (pv 1) (pa_cons (pe_bltn (v := .ty "str") rfl T.z_str PyProof.Rows.Boot.«str» rfl) pa_nil)))) (pss_one (ps_ret (pe_and (pe_callB call_isT rfl T.z_isinstance PyProof.Rows.Boot.«isinstance» (pa_cons (pv 0) (pa_cons (pe_bltn (v := .ty "str") rfl T.z_str PyProof.Rows.Boot.«str» rfl) pa_nil))) (pe_one (pe_cmpR op_eq (pv 0) (pv 1) (nomark _)))))) pss_nil)
      (pss_one (ps_ret (pe_and (pe_callB call_isT rfl T.z_isinstance PyProof.Rows.Boot.«isinstance» (pa_cons (pv 0) (pa_cons (pe_bltn (v := .ty "int") rfl T.z_int PyProof.Rows.Boot.«int» rfl) pa_nil))) (pe_and (pe_not (pe_callB call_isT rfl T.z_isinstance PyProof.Rows.Boot.«isinstance» (pa_cons (pv 0) (pa_cons (pe_bltn (v := .ty "bool") rfl T.z_bool PyProof.Rows.Boot.«bool» rfl) pa_nil)))) (pe_one (pe_cmpR op_eq (pv 0) (pv 1) (nomark _))))))))), ?_⟩
    cases al with
    | str _ x =>
      refine ⟨_, rfl, _, _, _, false, rfl, .str x, rfl, _, rfl, ifNo rfl ⟨_, rfl, _, _, _, false, rfl, .str x, rfl, _, rfl, ifNo rfl ?_⟩⟩
      refine ⟨_, rfl, _, _, _, true, rfl, .str x, rfl, _, rfl, ifYes rfl ?_⟩
      refine ⟨_, rfl, _, _, _, true, rfl, .str x, rfl, _, rfl, ifYes rfl ⟨_, rfl, _, rfl, rfl, ?_⟩⟩
      rw [decide_eq_true rfl]
      exact k _ (Same.refl _)
    | int _ i =>
      refine ⟨_, rfl, _, _, _, false, rfl, .int i, rfl, _, rfl, ifNo rfl ⟨_, rfl, _, _, _, false, rfl, .int i, rfl, _, rfl, ifNo rfl ?_⟩⟩
      refine ⟨_, rfl, _, _, _, false, rfl, .int i, rfl, _, rfl, ifNo rfl ?_⟩
      refine ⟨_, rfl, _, _, _, true, rfl, .int i, rfl, _, rfl, ifYes rfl ⟨_, rfl, _, _, _, false, rfl, .int i, rfl, _, rfl, _, rfl, ifYes rfl ⟨_, rfl, _, rfl, rfl, ?_⟩⟩⟩
      rw [decide_eq_true rfl]
      exact k _ (Same.refl _)
    | lst h1 h2 hl hal =>
      rename_i m xa xb xs ys
      refine ⟨_, rfl, _, _, _, true, rfl, .lst h2, rfl, _, rfl, ifYes rfl (ifYes rfl ?_)⟩
      refine ⟨_, rfl, _, _, _, true, rfl, .lst h2, rfl, _, rfl, _, _, _, true, rfl, .lst h1, rfl, rfl, _, rfl, ifNo rfl ?_⟩
      refine ⟨_, rfl, _, _, _, false, rfl, .lst h2, rfl, _, rfl, _, _, _, false, rfl, .lst h1, rfl, rfl, _, rfl, ifNo rfl ?_⟩
      refine ⟨_, rfl, xa, _, rfl, .inl (SqL.of h1), _, rfl, xb, _, rfl, .inl (SqL.of h2), rfl, _, rfl, ?_⟩
      rw [hl]
      refine iteNS rfl ?_
      refine ⟨_, rfl, _, rfl, false, false, xa, xb, xs, ys, rfl, SqL.of h1, SqL.of h2, ?_⟩
      refine for_zip (K := K) (b1 := false) (b2 := false) (l1 := xa) (l2 := xb) (xs := xs) (ys := ys) (fun i σ H2 => Same H H2 ∧ ∃ u v, σ = [some (.ref xa), some (.ref xb), u, v]) ⟨Same.refl _, _, _, rfl⟩ ?_ ?_ ?_
      · rintro i σ H2 ⟨hs, _⟩
        exact ⟨SqL.of (hs _ _ h1), SqL.of (hs _ _ h2)⟩
      · rintro i x y σ H2 r hx hy ⟨hs, u, v, rfl⟩ hr2
        have hs2 := hs.trans (Same.new hr2 (.tup [x, y]))
        refine ⟨r, _, rfl, .inl (.inl upd_same), rfl, _, _, rfl, _, _, rfl, rfl, ?_⟩
        exact ⟨_, rfl, _, rfl, x, y, m, rfl, by omega, al_same hs2 (hal i x y hx hy), fun H4 s4 => ⟨_, rfl, ifNo rfl ⟨hs2.trans s4, _, _, rfl⟩⟩⟩
      · rintro σ H2 ⟨hs, u, v, rfl⟩
        exact k _ hs
    | tup h1 h2 hl hal =>
      rename_i m xa xb xs ys
      refine ⟨_, rfl, _, _, _, false, rfl, .tup h2, rfl, _, rfl, ifNo rfl ⟨_, rfl, _, _, _, true, rfl, .tup h2, rfl, _, rfl, ifYes rfl ?_⟩⟩
      refine ⟨_, rfl, _, _, _, false, rfl, .tup h2, rfl, _, rfl, _, _, _, false, rfl, .tup h1, rfl, rfl, _, rfl, ifNo rfl ?_⟩
      refine ⟨_, rfl, _, _, _, true, rfl, .tup h2, rfl, _, rfl, _, _, _, true, rfl, .tup h1, rfl, rfl, _, rfl, ifNo rfl ?_⟩
      refine ⟨_, rfl, xa, _, rfl, .inr (SqT.of h1), _, rfl, xb, _, rfl, .inr (SqT.of h2), rfl, _, rfl, ?_⟩
      rw [hl]
      refine iteNS rfl ?_
      refine ⟨_, rfl, _, rfl, true, true, xa, xb, xs, ys, rfl, SqT.of h1, SqT.of h2, ?_⟩
      refine for_zip (K := K) (b1 := true) (b2 := true) (l1 := xa) (l2 := xb) (xs := xs) (ys := ys) (fun i σ H2 => Same H H2 ∧ ∃ u v, σ = [some (.ref xa), some (.ref xb), u, v]) ⟨Same.refl _, _, _, rfl⟩ ?_ ?_ ?_
      · rintro i σ H2 ⟨hs, _⟩
        exact ⟨SqT.of (hs _ _ h1), SqT.of (hs _ _ h2)⟩
      · rintro i x y σ H2 r hx hy ⟨hs, u, v, rfl⟩ hr2
        have hs2 := hs.trans (Same.new hr2 (.tup [x, y]))
        refine ⟨r, _, rfl, .inl (.inl upd_same), rfl, _, _, rfl, _, _, rfl, rfl, ?_⟩
        exact ⟨_, rfl, _, rfl, x, y, m, rfl, by omega, al_same hs2 (hal i x y hx hy), fun H4 s4 => ⟨_, rfl, ifNo rfl ⟨hs2.trans s4, _, _, rfl⟩⟩⟩
      · rintro σ H2 ⟨hs, u, v, rfl⟩
        exact k _ hs
theorem al_mono {H : Hp} {n : Nat} {x y : V} (h : Al6 H n x y) : ∀ {m : Nat}, n ≤ m → Al6 H m x y := by
  induction h with
  | str n x => exact fun _ => .str _ x
  | int n i => exact fun _ => .int _ i
  | lst h1 h2 hl _ ih =>
    intro m hm
    obtain ⟨m, rfl⟩ : ∃ k, m = k + 1 := ⟨m - 1, by omega⟩
    exact .lst h1 h2 hl fun i x y hx hy => ih i x y hx hy (by omega)
  | tup h1 h2 hl _ ih =>
    intro m hm
    obtain ⟨m, rfl⟩ : ∃ k, m = k + 1 := ⟨m - 1, by omega⟩
    exact .tup h1 h2 hl fun i x y hx hy => ih i x y hx hy (by omega)
theorem mem_depths {d : Deed} : ∀ {ds : List Deed}, d ∈ ds → d.depth ≤ depths ds
  | _ :: _, .head _ => by simp only [depths]; omega
  | _ :: r, .tail _ h => by have := mem_depths (ds := r) h; simp only [depths]; omega
theorem RDs_at {H : Hp} : ∀ {vs : List V} {ds : List Deed}, RDs H vs ds → ∀ (i : Nat) v, vs[i]? = some v → ∃ d, ds[i]? = some d ∧ RD H v d
  | _, _, .nil, i, v, h => by simp at h
  | _, _, .cons hd _, 0, v, h => by simp at h; subst h; exact ⟨_, rfl, hd⟩
  | _, _, .cons _ r, i + 1, v, h => by
    obtain ⟨d, h1, h2⟩ := RDs_at r i v (by simpa using h)
    exact ⟨d, by simpa using h1, h2⟩
theorem RDs_len {H : Hp} : ∀ {vs : List V} {ds : List Deed}, RDs H vs ds → vs.length = ds.length
  | _, _, .nil => rfl
  | _, _, .cons _ r => by rw [List.length_cons, List.length_cons, RDs_len r]
theorem rl_al {H : Hp} {n : Nat} (ih : ∀ v u d, RD H v d → RD H u d → d.depth ≤ n → Al6 H (2 * n + 1) v u) {l l' : Addr} {ds : List Deed} (h : RL H l ds) (h' : RL H l' ds) (hd : depths ds ≤ n) : Al6 H (2 * n + 2) (.ref l) (.ref l') := by
  cases h with
  | mk h1 r1 =>
    cases h' with
    | mk h2 r2 =>
      refine .lst h1 h2 (by rw [RDs_len r1, RDs_len r2]) fun i x y hx hy => ?_
      obtain ⟨d, e1, k1⟩ := RDs_at r1 i x hx
      obtain ⟨d', e2, k2⟩ := RDs_at r2 i y hy
      rw [e1] at e2
      obtain rfl := Option.some.inj e2
      exact ih x y d k1 k2 (Nat.le_trans (mem_depths (List.mem_of_getElem? e1)) hd)
theorem val_al {H : Hp} {n : Nat} (v : Val) : Al6 H n v.v v.v := by
  cases v with
  | num i => exact .int _ i
  | nm x => exact .str _ x
theorem tup_al {H : Hp} {n : Nat} {a b : Addr} {xs ys : List V} (h1 : H a = some (.tup xs)) (h2 : H b = some (.tup ys)) (h : Paired (Al6 H n) xs ys) : Al6 H (n + 1) (.ref a) (.ref b) := by
  refine .tup h1 h2 (Paired.length h) fun i x y hx hy => ?_
  clear h1 h2
  induction h generalizing i with
  | nil => simp at hx
  | cons p _ ih =>
    cases i with
    | zero => simp at hx hy; subst hx hy; exact p
    | succ i => exact ih i (by simpa using hx) (by simpa using hy)
theorem rd_al {H : Hp} : ∀ (n : Nat) v u d, RD H v d → RD H u d → d.depth ≤ n → Al6 H (2 * n + 1) v u := by
  intro n
  induction n with
  | zero =>
    intro v u d h h' hd
    cases h with
    | set h1 => cases h' with | set h2 => exact tup_al h1 h2 (.cons (.str _ _) (.cons (.str _ _) (.cons (val_al _) (.cons (.str _ _) (.cons (val_al _) .nil)))))
    | put h1 => cases h' with | put h2 => exact tup_al h1 h2 (.cons (.str _ _) (.cons (.str _ _) (.cons (.str _ _) .nil)))
    | get h1 => cases h' with | get h2 => exact tup_al h1 h2 (.cons (.str _ _) (.cons (.str _ _) (.cons (.str _ _) .nil)))
    | give h1 => cases h' with | give h2 => exact tup_al h1 h2 (.cons (.str _ _) (.cons (.str _ _) .nil))
    | cond h1 _ _ => simp only [Deed.depth] at hd; omega
    | whl h1 _ => simp only [Deed.depth] at hd; omega
    | rep h1 _ => simp only [Deed.depth] at hd; omega
  | succ n ih =>
    intro v u d h h' hd
    cases h with
    | set h1 => cases h' with | set h2 => exact tup_al h1 h2 (.cons (.str _ _) (.cons (.str _ _) (.cons (val_al _) (.cons (.str _ _) (.cons (val_al _) .nil)))))
    | put h1 => cases h' with | put h2 => exact tup_al h1 h2 (.cons (.str _ _) (.cons (.str _ _) (.cons (.str _ _) .nil)))
    | get h1 => cases h' with | get h2 => exact tup_al h1 h2 (.cons (.str _ _) (.cons (.str _ _) (.cons (.str _ _) .nil)))
    | give h1 => cases h' with | give h2 => exact tup_al h1 h2 (.cons (.str _ _) (.cons (.str _ _) .nil))
    | cond h1 a1 b1 =>
      cases h' with
      | cond h2 a2 b2 =>
        simp only [Deed.depth] at hd
        exact tup_al h1 h2 (.cons (.str _ _) (.cons (.str _ _) (.cons (rl_al ih a1 a2 (by omega)) (.cons (rl_al ih b1 b2 (by omega)) .nil))))
    | whl h1 a1 =>
      cases h' with
      | whl h2 a2 =>
        simp only [Deed.depth] at hd
        exact tup_al h1 h2 (.cons (.str _ _) (.cons (.str _ _) (.cons (rl_al ih a1 a2 (by omega)) .nil)))
    | rep h1 a1 =>
      cases h' with
      | rep h2 a2 =>
        simp only [Deed.depth] at hd
        exact tup_al h1 h2 (.cons (.str _ _) (.cons (.int _ _) (.cons (rl_al ih a1 a2 (by omega)) .nil)))
theorem depths_app {a b : List Deed} : depths (a ++ b) = max (depths a) (depths b) := by
  induction a with
  | nil => simp [depths]
  | cons d r ih => simp only [List.cons_append, depths, ih]; omega
structure DI (R : RS) : Prop where
  t : depths R.top ≤ 12
  f : ∀ (i : Nat) f, R.fr[i]? = some f → depths f.ds ≤ 11 - i ∧ depths f.os ≤ 11 - i
  l : R.fr.length ≤ 12
theorem DI.lay {R : RS} {d : Deed} (h : DI R) (hd : d.depth ≤ 12 - R.fr.length) : DI (R.lay d) := by
  unfold RS.lay
  cases e : R.fr.getLast? with
  | none => exact ⟨by show depths (R.top ++ [d]) ≤ 12; rw [depths_app]; have := h.t; simp only [depths]; omega, h.f, h.l⟩
  | some f =>
    have ne : R.fr ≠ [] := fun z => by rw [z] at e; cases e
    have nl : R.fr.length ≠ 0 := fun z => ne (List.length_eq_zero_iff.mp z)
    have fl := h.f (R.fr.length - 1) f (by rw [← List.getLast?_eq_getElem?]; exact e)
    have l12 := h.l
    refine ⟨h.t, fun i g hg => ?_, by show (R.fr.dropLast ++ [_]).length ≤ 12; rw [List.length_append, List.length_dropLast]; show _ - 1 + 1 ≤ 12; omega⟩
    have hg : (R.fr.dropLast ++ [lay1 f d])[i]? = some g := hg
    rcases Nat.lt_or_ge i R.fr.dropLast.length with c | c
    · rw [List.getElem?_append_left c, List.getElem?_dropLast] at hg
      split at hg
      · exact h.f i g hg
      · cases hg
    · rw [List.getElem?_append_right c] at hg
      rw [List.length_dropLast] at hg c
      cases k : i - (R.fr.length - 1) with
      | succ k' => rw [k] at hg; simp at hg
      | zero =>
        rw [k] at hg
        have hg : some (lay1 f d) = some g := hg
        obtain rfl := Option.some.inj hg
        have ei : i = R.fr.length - 1 := by omega
        subst ei
        unfold lay1
        split
        · exact ⟨fl.1, by show depths (f.os ++ [d]) ≤ _; rw [depths_app]; simp only [depths]; omega⟩
        · exact ⟨by show depths (f.ds ++ [d]) ≤ _; rw [depths_app]; simp only [depths]; omega, fl.2⟩
theorem DI.bg {R : RS} {b : Bool} (h : DI R) : DI { R with bg := b } := ⟨h.t, h.f, h.l⟩
theorem smp_depth {d : Deed} (s : dwd d) : d.depth = 0 := by
  cases d with
  | set x a sg b => rfl
  | put q x => rfl
  | get q x => rfl
  | give x => rfl
  | _ => exact absurd s (by simp [dwd])
theorem DI.drop {R : RS} (h : DI R) : DI { R with fr := R.fr.dropLast } := by
  refine ⟨h.t, fun i f hf => ?_, by show R.fr.dropLast.length ≤ 12; rw [List.length_dropLast]; have := h.l; omega⟩
  have hf : R.fr.dropLast[i]? = some f := hf
  rw [List.getElem?_dropLast] at hf
  split at hf
  · exact h.f i f hf
  · cases hf
theorem hist_di {H : Hp} : ∀ {Ls : List Addr} {fs : List Fm} {R : RS}, Hist H Ls fs R → DI R
  | _, _, _, .nil => ⟨Nat.zero_le _, fun i f h => by simp [R0] at h, Nat.zero_le _⟩
  | _, _, _, .snoc (R := R) (f := f) hi g w _ => by
    have ih := hist_di hi
    cases f with
    | ask x => exact ⟨ih.t, ih.f, ih.l⟩
    | sto x n => exact ⟨ih.t, ih.f, ih.l⟩
    | opn k =>
      have g : R.fr.length < 12 := g
      refine ⟨ih.t, fun i f hf => ?_, by show (R.fr ++ [_]).length ≤ 12; rw [List.length_append]; show _ + 1 ≤ 12; omega⟩
      have hf : (R.fr ++ [⟨k, [], [], false⟩])[i]? = some f := hf
      rcases Nat.lt_or_ge i R.fr.length with c | c
      · rw [List.getElem?_append_left c] at hf
        exact ih.f i f hf
      · rw [List.getElem?_append_right c] at hf
        cases e : i - R.fr.length with
        | succ j => rw [e] at hf; simp at hf
        | zero =>
          rw [e] at hf
          have hf : some (⟨k, [], [], false⟩ : Fr6) = some f := hf
          obtain rfl := Option.some.inj hf
          exact ⟨Nat.zero_le _, Nat.zero_le _⟩
    | els =>
      obtain ⟨f0, x, hf0, _, _⟩ := g
      rw [rd_els hf0]
      have ne : R.fr ≠ [] := fun z => by rw [z] at hf0; cases hf0
      have nl : R.fr.length ≠ 0 := fun z => ne (List.length_eq_zero_iff.mp z)
      have fl := ih.f (R.fr.length - 1) f0 (by rw [← List.getLast?_eq_getElem?]; exact hf0)
      have l12 := ih.l
      refine ⟨ih.t, fun i f hf => ?_, by show (R.fr.dropLast ++ [_]).length ≤ 12; rw [List.length_append, List.length_dropLast]; show _ - 1 + 1 ≤ 12; omega⟩
      have hf : (R.fr.dropLast ++ [{ f0 with t := true }])[i]? = some f := hf
      rcases Nat.lt_or_ge i R.fr.dropLast.length with c | c
      · rw [List.getElem?_append_left c] at hf
        exact ih.drop.f i f hf
      · rw [List.getElem?_append_right c] at hf
        rw [List.length_dropLast] at hf c
        cases e : i - (R.fr.length - 1) with
        | succ j => rw [e] at hf; simp at hf
        | zero =>
          rw [e] at hf
          have hf : some ({ f0 with t := true } : Fr6) = some f := hf
          obtain rfl := Option.some.inj hf
          have ei : i = R.fr.length - 1 := by omega
          subst ei
          exact fl
    | en =>
      have ne : R.fr ≠ [] := g
      have nl : R.fr.length ≠ 0 := fun z => ne (List.length_eq_zero_iff.mp z)
      cases hf0 : R.fr.getLast? with
      | none => exact absurd (List.getLast?_eq_none_iff.mp hf0) ne
      | some f0 =>
        rw [rd_en hf0]
        have fl := ih.f (R.fr.length - 1) f0 (by rw [← List.getLast?_eq_getElem?]; exact hf0)
        have l12 := ih.l
        refine (ih.drop.lay ?_).bg
        show _ ≤ 12 - R.fr.dropLast.length
        rw [List.length_dropLast]
        cases f0.k <;> simp only [Kd.deed, Deed.depth] <;> omega
    | pl d =>
      have : DI (R.lay d) := ih.lay (by rw [smp_depth w]; exact Nat.zero_le _)
      exact this.bg
theorem rdA_fm (fo : List (Option Fm)) : rdA fo = (fo.filterMap id).foldl rd R0 := by
  unfold rdA
  generalize R0 = R
  induction fo generalizing R with
  | nil => rfl
  | cons o r ih =>
    cases o with
    | none => exact ih R
    | some f => exact ih (rd R f)
theorem hist_fold {H : Hp} {Ls : List Addr} {fs : List Fm} {R : RS} (h : Hist H Ls fs R) : R = fs.foldl rd R0 := by
  induction h with
  | nil => rfl
  | snoc _ _ _ _ ih => rw [List.foldl_append, ← ih]; rfl
theorem hist_at {H : Hp} {Ls : List Addr} {fs : List Fm} {R : RS} (h : Hist H Ls fs R) : ∀ A f C, fs = A ++ f :: C → good (A.foldl rd R0) f ∧ f.wd := by
  induction h with
  | nil => intro A f C e; simp at e
  | snoc hi g w hl0 ih =>
    rename_i Ls fs R f0 L0
    intro A f C e
    rcases List.eq_nil_or_concat C with rfl | ⟨C', c, rfl⟩
    · have := List.append_inj' e rfl
      obtain ⟨rfl, e2⟩ := this
      cases e2
      rw [← hist_fold hi]
      exact ⟨g, w⟩
    · rw [List.concat_eq_append] at e
      have e : fs ++ [f0] = (A ++ f :: C') ++ [c] := by rw [e, List.append_assoc]; rfl
      exact ih A f C' (List.append_inj' e rfl).1
theorem hist_line {H : Hp} {Ls : List Addr} {fs : List Fm} {R : RS} (h : Hist H Ls fs R) : ∀ (i : Nat) L f, Ls[i]? = some L → fs[i]? = some f → f.wd ∧ H L = some (.lst ((lineOf f).map V.str)) := by
  induction h with
  | nil => intro i L f h; simp at h
  | snoc hi g w l ih =>
    rename_i Ls fs R f0 L0
    intro i L f h1 h2
    rcases Nat.lt_trichotomy i Ls.length with c | c | c
    · rw [List.getElem?_append_left c] at h1
      rw [List.getElem?_append_left (by rw [← hi.len]; exact c)] at h2
      exact ih i L f h1 h2
    · subst c
      rw [List.getElem?_append_right (Nat.le_refl _), Nat.sub_self] at h1
      rw [hi.len, List.getElem?_append_right (Nat.le_refl _), Nat.sub_self] at h2
      cases h1
      cases h2
      exact ⟨w, l⟩
    · rw [List.getElem?_eq_none (by rw [List.length_append]; exact c)] at h1
      cases h1
theorem wd_ok {f : Fm} (h : f.wd) : f.ok := by
  have nm : ∀ {x : Str}, isName x = true → x.length ≤ 100 := fun h => Nat.le_trans (name_word h).2.1 (by decide)
  cases f with
  | ask x => exact nm h
  | sto x n => exact nm h.1
  | opn k => trivial
  | els => trivial
  | en => trivial
  | pl d =>
    cases d with
    | set x a sg b => exact ⟨trivial, fun q x h => by rcases h with h | h <;> cases h⟩
    | put q x => exact ⟨trivial, fun q' x' e => by rcases e with e | e <;> cases e; exact nm h.1⟩
    | get q x => exact ⟨trivial, fun q' x' e => by rcases e with e | e <;> cases e; exact nm h.1⟩
    | give x => exact ⟨trivial, fun q x h => by rcases h with h | h <;> cases h⟩
    | _ => exact absurd h (by simp [Fm.wd, dwd])
theorem rws_of {H : Hp} {Ls : List Addr} {fs : List Fm} {R : RS} {rows : List Str} {fo : List (Option Fm)} (h : Hist H Ls fs R) (hr : Rs rows fo) (e : fo.filterMap id = fs) : Rws rows fo := by
  refine ⟨hr.len, fun i row h1 h2 => (hr.at i row _ h1 h2).2, fun i row f h1 h2 => ?_⟩
  have w := (hr.at i row _ h1 h2).2
  have il := (List.getElem?_eq_some_iff.mp h2).1
  have ef : fo = fo.take i ++ some f :: fo.drop (i + 1) := by
    have := (List.getElem?_eq_some_iff.mp h2).2
    rw [← this, ← List.drop_eq_getElem_cons il, List.take_append_drop]
  have e2 : fs = (fo.take i).filterMap id ++ f :: (fo.drop (i + 1)).filterMap id := by
    rw [← e]
    conv => lhs; rw [ef]
    rw [List.filterMap_append]
    rfl
  obtain ⟨g, wd⟩ := hist_at h _ _ _ e2
  exact ⟨wd_ok wd, w.1, w.2, by rw [rdA_fm]; exact g⟩
theorem cut_eq {c : Nat} : ∀ {x y a b : List Nat}, c ∉ x → c ∉ y → x ++ c :: a = y ++ c :: b → x = y ∧ a = b
  | [], [], _, _, _, _, h => by simpa using h
  | [], d :: y, _, _, _, hy, h => by
    have : c = d := (List.cons.inj h).1
    exact absurd (by rw [this]; exact List.mem_cons_self) hy
  | d :: x, [], _, _, hx, _, h => by
    have : d = c := (List.cons.inj h).1
    exact absurd (by rw [this]; exact List.mem_cons_self) hx
  | d :: x, e :: y, _, _, hx, hy, h => by
    obtain ⟨h1, h2⟩ := List.cons.inj h
    obtain ⟨k1, k2⟩ := cut_eq (fun z => hx (List.mem_cons_of_mem _ z)) (fun z => hy (List.mem_cons_of_mem _ z)) h2
    exact ⟨by rw [h1, k1], k2⟩
theorem join2_signs (x y : Str) (r : List Str) : (Str.join ⟨#[10]⟩ (x :: y :: r)).cps.toList = x.cps.toList ++ 10 :: (Str.join ⟨#[10]⟩ (y :: r)).cps.toList := by
  show (x ++ ⟨#[10]⟩ ++ Str.join ⟨#[10]⟩ (y :: r) : Str).cps.toList = _
  rw [app_signs, app_signs, List.append_assoc]
  rfl
theorem join_uniq : ∀ {ps qs : List Str}, ps ≠ [] → qs ≠ [] → (∀ p ∈ ps, 10 ∉ p.cps.toList) → (∀ p ∈ qs, 10 ∉ p.cps.toList) → (Str.join ⟨#[10]⟩ ps).cps.toList = (Str.join ⟨#[10]⟩ qs).cps.toList → ps = qs
  | [], _, h, _, _, _, _ => absurd rfl h
  | _, [], _, h, _, _, _ => absurd rfl h
  | [x], [y], _, _, _, _, e => by
    have e : x.cps.toList = y.cps.toList := e
    rw [PyProof.Rows.ext_toList e]
  | [x], y :: z :: r, _, _, hx, _, e => by
    rw [join2_signs] at e
    have e : x.cps.toList = _ := e
    exact absurd (by rw [e]; simp) (hx x (by simp))
  | x :: z :: r, [y], _, _, _, hy, e => by
    rw [join2_signs] at e
    have e : _ = y.cps.toList := e
    exact absurd (by rw [← e]; simp) (hy y (by simp))
  | x :: z :: r, y :: u :: s, _, _, hx, hy, e => by
    rw [join2_signs, join2_signs] at e
    obtain ⟨h1, h2⟩ := cut_eq (hx x (by simp)) (hy y (by simp)) e
    rw [PyProof.Rows.ext_toList h1, join_uniq (List.cons_ne_nil _ _) (List.cons_ne_nil _ _) (fun p hp => hx p (List.mem_cons_of_mem _ hp)) (fun p hp => hy p (List.mem_cons_of_mem _ hp)) h2]
theorem split_rows {rows : List Str} (hn : rows ≠ []) (h : ∀ row ∈ rows, RowOk row) : Txt.split (Str.join ⟨#[10]⟩ rows) ⟨#[10]⟩ = rows := by
  have fr : ∀ p ∈ rows, 10 ∉ p.cps.toList := fun p hp z => absurd ((h p hp).2 10 z) (by decide)
  by_cases e : Txt.split (Str.join ⟨#[10]⟩ rows) ⟨#[10]⟩ = []
  · have j := StrLaws.join_split (Str.join ⟨#[10]⟩ rows) ⟨#[10]⟩
    rw [e] at j
    have j0 : Str.join ⟨#[10]⟩ rows = "" := j.symm.trans (by decide +kernel)
    rw [j0] at e
    exact absurd e (by decide +kernel)
  · refine join_uniq e hn (StrLaws.split_free _ 10) fr ?_
    rw [StrLaws.join_split]
theorem join_rows_len {rows : List Str} (h : ∀ row ∈ rows, RowOk row) : (Str.join ⟨#[10]⟩ rows).length ≤ 221 * rows.length := by
  induction rows with
  | nil => exact Nat.le_refl _
  | cons x r ih =>
    have hx := (h x (by simp)).1
    have ih := ih fun p hp => h p (by simp [hp])
    cases r with
    | nil => show x.length ≤ 221 * 1; omega
    | cons y r =>
      show (x ++ ⟨#[10]⟩ ++ Str.join ⟨#[10]⟩ (y :: r) : Str).length ≤ _
      rw [str_len_append, str_len_append]
      have e : (⟨#[10]⟩ : Str).length = 1 := rfl
      rw [e]
      simp only [List.length_cons] at ih ⊢
      omega
theorem ok_law (T : Tx P w K mg a) : FnOk P w K mg base CX0 48 a.law a.fd_law ["_law_script"] (sp_law K) := by
  refine T.F_law.ok sc_law (fun vs H Q E h => ?_) (fun cdv A' outer s H vs Q E hr h => ?_)
  · obtain ⟨_, _, rfl, _⟩ := h
    rfl
  obtain ⟨l, ns, rfl, hS, h63, hb, _, k⟩ := h
  refine ⟨_, (pss_cons (ps_set (i := 1) sc_law.nd rfl (Or.inl rfl) (pe_call (ok__law_build T) (hr.mono (by decide)) rfl T.m__law_build T.F__law_build.kp T.b__law_build .nil pass0 (pa_cons (pv 0) pa_nil)))
      (pss_cons (ps_set (i := 2) sc_law.nd rfl (Or.inl rfl) (pe_call (ok_read T) (hr.mono (by decide)) rfl T.m_read T.F_read.kp T.b_read .nil pass0 (pa_cons (pe_call (ok__law_text_by T) (hr.mono (by decide)) rfl T.m__law_text_by T.F__law_text_by.kp T.b__law_text_by .nil pass0 (pa_cons (pe_ix ix_tup (pv 1) pe_int (fun _ _ => rfl)) (pa_cons (pv 0) pa_nil))) pa_nil)))
      (pss_one (ps_ret (pe_call (ok__law_same T 40) (hr.mono (by decide)) rfl T.m__law_same T.F__law_same.kp T.b__law_same .nil pass0 (pa_cons (pv 2) (pa_cons (pe_tup (pa_cons (pe_ix ix_tup (pv 1) pe_int (fun _ _ => rfl)) (pa_cons (pe_ix ix_tup (pv 1) pe_int (fun _ _ => rfl)) (pa_cons (pe_ix ix_tup (pv 1) pe_int (fun _ _ => rfl)) pa_nil)))) pa_nil))))))), ?_⟩
  refine ⟨_, rfl, l, ns, rfl, hS, h63, hb, fun H1 H0 A B m t fs e0 bh hist fr0 m100 ht => ?_⟩
  have hlen := hist.len
  have l4 := bh.l4
  refine ⟨_, rfl, t, _, _, _, rfl, rfl, SqT.of ht, atI_nat (j := 3) rfl, _, rfl, A.ll, l, B.Ls, fs, ns, rfl, (e0.trans bh.own.1).seq hS, hb, bh.ll, hlen, by omega, fun i L f h1 h2 => ⟨(hist_line hist i L f h1 h2).1, bh.own.1 _ _ (hist_line hist i L f h1 h2).2⟩, fun H2 rows fo s2 hrs hfo rl => ?_⟩
  have jl := join_rows_len hrs.ok
  obtain ⟨rows', fo', sp', rl', R', eR⟩ : ∃ rows' fo', Txt.split (Str.join ⟨#[10]⟩ rows) ⟨#[10]⟩ = rows' ∧ rows'.length ≤ 5000 ∧ Rws rows' fo' ∧ rdA fo' = B.R := by
    by_cases e : rows = []
    · have f0 : fo = [] := List.length_eq_zero_iff.mp (by rw [← hrs.len, e]; rfl)
      rw [f0] at hfo
      have r0 := hist_fold hist
      rw [← hfo] at r0
      refine ⟨[""], [none], by rw [e]; decide +kernel, by show 1 ≤ 5000; decide, ⟨rfl, fun i row h1 h2 => ?_, fun i row f h1 h2 => ?_⟩, r0.symm⟩
      · rcases i with _ | i
        · simp at h1
          subst h1
          decide +kernel
        · simp at h1
      · rcases i with _ | i
        · simp at h2
        · simp at h1
    · refine ⟨rows, fo, split_rows e hrs.ok, by omega, rws_of hist hrs hfo, ?_⟩
      rw [rdA_fm, hfo]
      exact (hist_fold hist).symm
  refine ⟨_, rows', fo', rfl, by omega, sp', rl', R', by rw [eR]; exact fr0, fun H3 t3 l1 l2 l3 ts s3 ht3 hl1 hl2 hss hrl => ?_⟩
  rw [eR] at hl1 hss hrl
  have s13 := s2.trans s3
  have ht' := s13 _ _ ht
  refine ⟨_, rfl, _, rfl, t, _, _, _, rfl, rfl, SqT.of ht', atI0, _, rfl, t, _, _, _, rfl, rfl, SqT.of ht', atI1, _, rfl, t, _, _, _, rfl, rfl, SqT.of ht', atI2, by show 3 ≤ sizeLine; decide, fun p hp => ?_⟩
  have s4 := Same.new hp (.tup [.ref A.la, .ref A.ls, .ref A.lt])
  have o4 : upd H3 p (.tup [.ref A.la, .ref A.ls, .ref A.lt]) p = some (.tup [.ref A.la, .ref A.ls, .ref A.lt]) := upd_same
  generalize upd H3 p (.tup [.ref A.la, .ref A.ls, .ref A.lt]) = H4 at s4 o4 ⊢
  have s14 := s13.trans s4
  have s04 := bh.own.1.trans s14
  have di := hist_di hist
  refine ⟨.ref t3, .ref p, 27, rfl, by decide, tup_al (s4 _ _ ht3) o4 (.cons ?_ (.cons ?_ (.cons ?_ .nil))), fun H' _ => k H'⟩
  · refine al_mono (n := 1) (.lst (s4 _ _ hl1) (s14 _ _ bh.la) rfl fun i x y hx hy => ?_) (by decide)
    rw [hx] at hy
    obtain rfl := Option.some.inj hy
    rw [List.getElem?_map] at hx
    obtain ⟨z, _, rfl⟩ := Option.map_eq_some_iff.mp hx
    exact .str _ z
  · refine al_mono (n := 2) (.lst (s4 _ _ hl2) (s14 _ _ bh.ls) (by rw [hss.len, bh.ss.len]) fun i x y hx hy => ?_) (by decide)
    obtain ⟨p1, q1, n1, rfl, h1, o1⟩ := hss.at i x hx
    obtain ⟨p2, q2, n2, rfl, h2, o2⟩ := bh.ss.at i y hy
    rw [h1] at h2
    cases h2
    exact tup_al (s4 _ _ o1) (s04 _ _ o2) (.cons (.str _ _) (.cons (.int _ _) .nil))
  · exact rl_al (n := 12) (rd_al 12) (RL.same s4 hrl) (.mk (s14 _ _ bh.lt) (RDs.same s04 bh.tt)) di.t
end
theorem all_mk {l : PySem.W.OpenLaw} {w : World} {K : PySem.W.Frag} {h : Heap} {mg : Str → Option Value} {fa : Addr} (X : K.In h) (G : h.Ns mainGlobals mg) (hfa : mg "law" = some (.ref fa))
    {c_Block : Addr}
    (ac_Block : PySem.W.nsIn K mainGlobals "Block" = some (some (.ref c_Block)))
    (p1_Block : PySem.W.plainGet K c_Block Str.empty = true)
    (p2_Block : PySem.W.hasDictIn K c_Block = true)
    (p3_Block : PySem.W.plainOver K c_Block = true)
    (p4_Block : PySem.W.findIn K (.ref c_Block) "__setattr__" = some (some (.builtin "object.__setattr__")))
    (p5_Block : PySem.W.makesIn K c_Block = true)
    (p6_Block : PySem.W.keepIn K (.ref c_Block) = true)
    (nf_Block_form : PySem.W.findIn K (.ref c_Block) "form" = some none)
    (nf_Block_deeds : PySem.W.findIn K (.ref c_Block) "deeds" = some none)
    (nf_Block_others : PySem.W.findIn K (.ref c_Block) "others" = some none)
    (nf_Block_turned : PySem.W.findIn K (.ref c_Block) "turned" = some none)
    {c_Reading : Addr}
    (ac_Reading : PySem.W.nsIn K mainGlobals "Reading" = some (some (.ref c_Reading)))
    (p1_Reading : PySem.W.plainGet K c_Reading Str.empty = true)
    (p2_Reading : PySem.W.hasDictIn K c_Reading = true)
    (p3_Reading : PySem.W.plainOver K c_Reading = true)
    (p4_Reading : PySem.W.findIn K (.ref c_Reading) "__setattr__" = some (some (.builtin "object.__setattr__")))
    (p5_Reading : PySem.W.makesIn K c_Reading = true)
    (p6_Reading : PySem.W.keepIn K (.ref c_Reading) = true)
    (nf_Reading_asks : PySem.W.findIn K (.ref c_Reading) "asks" = some none)
    (nf_Reading_stores : PySem.W.findIn K (.ref c_Reading) "stores" = some none)
    (nf_Reading_body : PySem.W.findIn K (.ref c_Reading) "body" = some none)
    (nf_Reading_blocks : PySem.W.findIn K (.ref c_Reading) "blocks" = some none)
    (nf_Reading_begun : PySem.W.findIn K (.ref c_Reading) "begun" = some none)
    {f0 : Addr} {od0 an0 : Option Addr} {sl0 : Array (Option Value)} {oc0 kV0 dc0 pm0 cd0 ct0 : Value}
    (a0 : PySem.W.nsIn K mainGlobals "is_name" = some (some (.ref f0)))
    (l0 : K.lookup f0 = some ⟨oc0, od0, .func (PySem.W.fnOf "is_name" "is_name" (defArgs s_is_name) (defBody s_is_name) (defScope s_is_name) .none kV0 dc0 pm0 an0 cd0 ct0), sl0⟩)
    (c0 : PySem.W.codeIn K cd0 "is_name" = true)
    (k0 : PySem.W.keepIn K (.ref f0) = true)
    {f1 : Addr} {od1 an1 : Option Addr} {sl1 : Array (Option Value)} {oc1 kV1 dc1 pm1 cd1 ct1 : Value}
    (a1 : PySem.W.nsIn K mainGlobals "number_in" = some (some (.ref f1)))
    (l1 : K.lookup f1 = some ⟨oc1, od1, .func (PySem.W.fnOf "number_in" "number_in" (defArgs s_number_in) (defBody s_number_in) (defScope s_number_in) .none kV1 dc1 pm1 an1 cd1 ct1), sl1⟩)
    (c1 : PySem.W.codeIn K cd1 "number_in" = true)
    (k1 : PySem.W.keepIn K (.ref f1) = true)
    {f2 : Addr} {od2 an2 : Option Addr} {sl2 : Array (Option Value)} {oc2 kV2 dc2 pm2 cd2 ct2 : Value}
    (a2 : PySem.W.nsIn K mainGlobals "value_in" = some (some (.ref f2)))
    (l2 : K.lookup f2 = some ⟨oc2, od2, .func (PySem.W.fnOf "value_in" "value_in" (defArgs s_value_in) (defBody s_value_in) (defScope s_value_in) .none kV2 dc2 pm2 an2 cd2 ct2), sl2⟩)
    (c2 : PySem.W.codeIn K cd2 "value_in" = true)
    (k2 : PySem.W.keepIn K (.ref f2) = true)
    {f3 : Addr} {od3 an3 : Option Addr} {sl3 : Array (Option Value)} {oc3 kV3 dc3 pm3 cd3 ct3 : Value}
    (a3 : PySem.W.nsIn K mainGlobals "is_made_of" = some (some (.ref f3)))
    (l3 : K.lookup f3 = some ⟨oc3, od3, .func (PySem.W.fnOf "is_made_of" "is_made_of" (defArgs s_is_made_of) (defBody s_is_made_of) (defScope s_is_made_of) .none kV3 dc3 pm3 an3 cd3 ct3), sl3⟩)
    (c3 : PySem.W.codeIn K cd3 "is_made_of" = true)
    (k3 : PySem.W.keepIn K (.ref f3) = true)
    {f4 : Addr} {od4 an4 : Option Addr} {sl4 : Array (Option Value)} {oc4 kV4 dc4 pm4 cd4 ct4 : Value}
    (a4 : PySem.W.nsIn K mainGlobals "row_of" = some (some (.ref f4)))
    (l4 : K.lookup f4 = some ⟨oc4, od4, .func (PySem.W.fnOf "row_of" "row_of" (defArgs s_row_of) (defBody s_row_of) (defScope s_row_of) .none kV4 dc4 pm4 an4 cd4 ct4), sl4⟩)
    (c4 : PySem.W.codeIn K cd4 "row_of" = true)
    (k4 : PySem.W.keepIn K (.ref f4) = true)
    {f5 : Addr} {od5 an5 : Option Addr} {sl5 : Array (Option Value)} {oc5 kV5 dc5 pm5 cd5 ct5 : Value}
    (a5 : PySem.W.nsIn K mainGlobals "words_of" = some (some (.ref f5)))
    (l5 : K.lookup f5 = some ⟨oc5, od5, .func (PySem.W.fnOf "words_of" "words_of" (defArgs s_words_of) (defBody s_words_of) (defScope s_words_of) .none kV5 dc5 pm5 an5 cd5 ct5), sl5⟩)
    (c5 : PySem.W.codeIn K cd5 "words_of" = true)
    (k5 : PySem.W.keepIn K (.ref f5) = true)
    {f6 : Addr} {od6 an6 : Option Addr} {sl6 : Array (Option Value)} {oc6 kV6 dc6 pm6 cd6 ct6 : Value}
    (a6 : PySem.W.nsIn K mainGlobals "form_of" = some (some (.ref f6)))
    (l6 : K.lookup f6 = some ⟨oc6, od6, .func (PySem.W.fnOf "form_of" "form_of" (defArgs s_form_of) (defBody s_form_of) (defScope s_form_of) .none kV6 dc6 pm6 an6 cd6 ct6), sl6⟩)
    (c6 : PySem.W.codeIn K cd6 "form_of" = true)
    (k6 : PySem.W.keepIn K (.ref f6) = true)
    {f7 : Addr} {od7 an7 : Option Addr} {sl7 : Array (Option Value)} {oc7 kV7 dc7 pm7 cd7 ct7 : Value}
    (a7 : PySem.W.nsIn K mainGlobals "filled" = some (some (.ref f7)))
    (l7 : K.lookup f7 = some ⟨oc7, od7, .func (PySem.W.fnOf "filled" "filled" (defArgs s_filled) (defBody s_filled) (defScope s_filled) .none kV7 dc7 pm7 an7 cd7 ct7), sl7⟩)
    (c7 : PySem.W.codeIn K cd7 "filled" = true)
    (k7 : PySem.W.keepIn K (.ref f7) = true)
    {f8 : Addr} {od8 an8 : Option Addr} {sl8 : Array (Option Value)} {oc8 kV8 dc8 pm8 cd8 ct8 : Value}
    (a8 : PySem.W.nsIn K mainGlobals "thing_in" = some (some (.ref f8)))
    (l8 : K.lookup f8 = some ⟨oc8, od8, .func (PySem.W.fnOf "thing_in" "thing_in" (defArgs s_thing_in) (defBody s_thing_in) (defScope s_thing_in) .none kV8 dc8 pm8 an8 cd8 ct8), sl8⟩)
    (c8 : PySem.W.codeIn K cd8 "thing_in" = true)
    (k8 : PySem.W.keepIn K (.ref f8) = true)
    {f9 : Addr} {od9 an9 : Option Addr} {sl9 : Array (Option Value)} {oc9 kV9 dc9 pm9 cd9 ct9 : Value}
    (a9 : PySem.W.nsIn K mainGlobals "number_within" = some (some (.ref f9)))
    (l9 : K.lookup f9 = some ⟨oc9, od9, .func (PySem.W.fnOf "number_within" "number_within" (defArgs s_number_within) (defBody s_number_within) (defScope s_number_within) .none kV9 dc9 pm9 an9 cd9 ct9), sl9⟩)
    (c9 : PySem.W.codeIn K cd9 "number_within" = true)
    (k9 : PySem.W.keepIn K (.ref f9) = true)
    {f10 : Addr} {od10 an10 : Option Addr} {sl10 : Array (Option Value)} {oc10 kV10 dc10 pm10 cd10 ct10 : Value}
    (q10 : PySem.W.findIn K (.ref c_Block) "__init__" = some (some (.ref f10)))
    (fn10 : PySem.W.isFn K (.ref f10) = true)
    (l10 : K.lookup f10 = some ⟨oc10, od10, .func (PySem.W.fnOf "__init__" "Block.__init__" (defArgs s_Block___init__) (defBody s_Block___init__) (defScope s_Block___init__) .none kV10 dc10 pm10 an10 cd10 ct10), sl10⟩)
    (c10 : PySem.W.codeIn K cd10 "Block.__init__" = true)
    (k10 : PySem.W.keepIn K (.ref f10) = true)
    {f11 : Addr} {od11 an11 : Option Addr} {sl11 : Array (Option Value)} {oc11 kV11 dc11 pm11 cd11 ct11 : Value}
    (q11 : PySem.W.findIn K (.ref c_Block) "lay" = some (some (.ref f11)))
    (fn11 : PySem.W.isFn K (.ref f11) = true)
    (l11 : K.lookup f11 = some ⟨oc11, od11, .func (PySem.W.fnOf "lay" "Block.lay" (defArgs s_Block_lay) (defBody s_Block_lay) (defScope s_Block_lay) .none kV11 dc11 pm11 an11 cd11 ct11), sl11⟩)
    (c11 : PySem.W.codeIn K cd11 "Block.lay" = true)
    (k11 : PySem.W.keepIn K (.ref f11) = true)
    {f12 : Addr} {od12 an12 : Option Addr} {sl12 : Array (Option Value)} {oc12 kV12 dc12 pm12 cd12 ct12 : Value}
    (q12 : PySem.W.findIn K (.ref c_Block) "turn" = some (some (.ref f12)))
    (fn12 : PySem.W.isFn K (.ref f12) = true)
    (l12 : K.lookup f12 = some ⟨oc12, od12, .func (PySem.W.fnOf "turn" "Block.turn" (defArgs s_Block_turn) (defBody s_Block_turn) (defScope s_Block_turn) .none kV12 dc12 pm12 an12 cd12 ct12), sl12⟩)
    (c12 : PySem.W.codeIn K cd12 "Block.turn" = true)
    (k12 : PySem.W.keepIn K (.ref f12) = true)
    {f13 : Addr} {od13 an13 : Option Addr} {sl13 : Array (Option Value)} {oc13 kV13 dc13 pm13 cd13 ct13 : Value}
    (q13 : PySem.W.findIn K (.ref c_Block) "may_turn" = some (some (.ref f13)))
    (fn13 : PySem.W.isFn K (.ref f13) = true)
    (l13 : K.lookup f13 = some ⟨oc13, od13, .func (PySem.W.fnOf "may_turn" "Block.may_turn" (defArgs s_Block_may_turn) (defBody s_Block_may_turn) (defScope s_Block_may_turn) .none kV13 dc13 pm13 an13 cd13 ct13), sl13⟩)
    (c13 : PySem.W.codeIn K cd13 "Block.may_turn" = true)
    (k13 : PySem.W.keepIn K (.ref f13) = true)
    {f14 : Addr} {od14 an14 : Option Addr} {sl14 : Array (Option Value)} {oc14 kV14 dc14 pm14 cd14 ct14 : Value}
    (q14 : PySem.W.findIn K (.ref c_Block) "whole" = some (some (.ref f14)))
    (fn14 : PySem.W.isFn K (.ref f14) = true)
    (l14 : K.lookup f14 = some ⟨oc14, od14, .func (PySem.W.fnOf "whole" "Block.whole" (defArgs s_Block_whole) (defBody s_Block_whole) (defScope s_Block_whole) .none kV14 dc14 pm14 an14 cd14 ct14), sl14⟩)
    (c14 : PySem.W.codeIn K cd14 "Block.whole" = true)
    (k14 : PySem.W.keepIn K (.ref f14) = true)
    {f15 : Addr} {od15 an15 : Option Addr} {sl15 : Array (Option Value)} {oc15 kV15 dc15 pm15 cd15 ct15 : Value}
    (q15 : PySem.W.findIn K (.ref c_Reading) "__init__" = some (some (.ref f15)))
    (fn15 : PySem.W.isFn K (.ref f15) = true)
    (l15 : K.lookup f15 = some ⟨oc15, od15, .func (PySem.W.fnOf "__init__" "Reading.__init__" (defArgs s_Reading___init__) (defBody s_Reading___init__) (defScope s_Reading___init__) .none kV15 dc15 pm15 an15 cd15 ct15), sl15⟩)
    (c15 : PySem.W.codeIn K cd15 "Reading.__init__" = true)
    (k15 : PySem.W.keepIn K (.ref f15) = true)
    {f16 : Addr} {od16 an16 : Option Addr} {sl16 : Array (Option Value)} {oc16 kV16 dc16 pm16 cd16 ct16 : Value}
    (q16 : PySem.W.findIn K (.ref c_Reading) "enter" = some (some (.ref f16)))
    (fn16 : PySem.W.isFn K (.ref f16) = true)
    (l16 : K.lookup f16 = some ⟨oc16, od16, .func (PySem.W.fnOf "enter" "Reading.enter" (defArgs s_Reading_enter) (defBody s_Reading_enter) (defScope s_Reading_enter) .none kV16 dc16 pm16 an16 cd16 ct16), sl16⟩)
    (c16 : PySem.W.codeIn K cd16 "Reading.enter" = true)
    (k16 : PySem.W.keepIn K (.ref f16) = true)
    {f17 : Addr} {od17 an17 : Option Addr} {sl17 : Array (Option Value)} {oc17 kV17 dc17 pm17 cd17 ct17 : Value}
    (q17 : PySem.W.findIn K (.ref c_Reading) "follow" = some (some (.ref f17)))
    (fn17 : PySem.W.isFn K (.ref f17) = true)
    (l17 : K.lookup f17 = some ⟨oc17, od17, .func (PySem.W.fnOf "follow" "Reading.follow" (defArgs s_Reading_follow) (defBody s_Reading_follow) (defScope s_Reading_follow) .none kV17 dc17 pm17 an17 cd17 ct17), sl17⟩)
    (c17 : PySem.W.codeIn K cd17 "Reading.follow" = true)
    (k17 : PySem.W.keepIn K (.ref f17) = true)
    {f18 : Addr} {od18 an18 : Option Addr} {sl18 : Array (Option Value)} {oc18 kV18 dc18 pm18 cd18 ct18 : Value}
    (q18 : PySem.W.findIn K (.ref c_Reading) "lay_down" = some (some (.ref f18)))
    (fn18 : PySem.W.isFn K (.ref f18) = true)
    (l18 : K.lookup f18 = some ⟨oc18, od18, .func (PySem.W.fnOf "lay_down" "Reading.lay_down" (defArgs s_Reading_lay_down) (defBody s_Reading_lay_down) (defScope s_Reading_lay_down) .none kV18 dc18 pm18 an18 cd18 ct18), sl18⟩)
    (c18 : PySem.W.codeIn K cd18 "Reading.lay_down" = true)
    (k18 : PySem.W.keepIn K (.ref f18) = true)
    {f19 : Addr} {od19 an19 : Option Addr} {sl19 : Array (Option Value)} {oc19 kV19 dc19 pm19 cd19 ct19 : Value}
    (q19 : PySem.W.findIn K (.ref c_Reading) "may_turn_innermost" = some (some (.ref f19)))
    (fn19 : PySem.W.isFn K (.ref f19) = true)
    (l19 : K.lookup f19 = some ⟨oc19, od19, .func (PySem.W.fnOf "may_turn_innermost" "Reading.may_turn_innermost" (defArgs s_Reading_may_turn_innermost) (defBody s_Reading_may_turn_innermost) (defScope s_Reading_may_turn_innermost) .none kV19 dc19 pm19 an19 cd19 ct19), sl19⟩)
    (c19 : PySem.W.codeIn K cd19 "Reading.may_turn_innermost" = true)
    (k19 : PySem.W.keepIn K (.ref f19) = true)
    {f20 : Addr} {od20 an20 : Option Addr} {sl20 : Array (Option Value)} {oc20 kV20 dc20 pm20 cd20 ct20 : Value}
    (q20 : PySem.W.findIn K (.ref c_Reading) "is_hiding" = some (some (.ref f20)))
    (fn20 : PySem.W.isFn K (.ref f20) = true)
    (l20 : K.lookup f20 = some ⟨oc20, od20, .func (PySem.W.fnOf "is_hiding" "Reading.is_hiding" (defArgs s_Reading_is_hiding) (defBody s_Reading_is_hiding) (defScope s_Reading_is_hiding) .none kV20 dc20 pm20 an20 cd20 ct20), sl20⟩)
    (c20 : PySem.W.codeIn K cd20 "Reading.is_hiding" = true)
    (k20 : PySem.W.keepIn K (.ref f20) = true)
    {f21 : Addr} {od21 an21 : Option Addr} {sl21 : Array (Option Value)} {oc21 kV21 dc21 pm21 cd21 ct21 : Value}
    (a21 : PySem.W.nsIn K mainGlobals "read" = some (some (.ref f21)))
    (l21 : K.lookup f21 = some ⟨oc21, od21, .func (PySem.W.fnOf "read" "read" (defArgs s_read) (defBody s_read) (defScope s_read) .none kV21 dc21 pm21 an21 cd21 ct21), sl21⟩)
    (c21 : PySem.W.codeIn K cd21 "read" = true)
    (k21 : PySem.W.keepIn K (.ref f21) = true)
    {f22 : Addr} {od22 an22 : Option Addr} {sl22 : Array (Option Value)} {oc22 kV22 dc22 pm22 cd22 ct22 : Value}
    (a22 : PySem.W.nsIn K mainGlobals "check" = some (some (.ref f22)))
    (l22 : K.lookup f22 = some ⟨oc22, od22, .func (PySem.W.fnOf "check" "check" (defArgs s_check) (defBody s_check) (defScope s_check) .none kV22 dc22 pm22 an22 cd22 ct22), sl22⟩)
    (c22 : PySem.W.codeIn K cd22 "check" = true)
    (k22 : PySem.W.keepIn K (.ref f22) = true)
    {f23 : Addr} {od23 an23 : Option Addr} {sl23 : Array (Option Value)} {oc23 kV23 dc23 pm23 cd23 ct23 : Value}
    (a23 : PySem.W.nsIn K mainGlobals "check_nest" = some (some (.ref f23)))
    (l23 : K.lookup f23 = some ⟨oc23, od23, .func (PySem.W.fnOf "check_nest" "check_nest" (defArgs s_check_nest) (defBody s_check_nest) (defScope s_check_nest) .none kV23 dc23 pm23 an23 cd23 ct23), sl23⟩)
    (c23 : PySem.W.codeIn K cd23 "check_nest" = true)
    (k23 : PySem.W.keepIn K (.ref f23) = true)
    {f24 : Addr} {od24 an24 : Option Addr} {sl24 : Array (Option Value)} {oc24 kV24 dc24 pm24 cd24 ct24 : Value}
    (a24 : PySem.W.nsIn K mainGlobals "check_twice" = some (some (.ref f24)))
    (l24 : K.lookup f24 = some ⟨oc24, od24, .func (PySem.W.fnOf "check_twice" "check_twice" (defArgs s_check_twice) (defBody s_check_twice) (defScope s_check_twice) .none kV24 dc24 pm24 an24 cd24 ct24), sl24⟩)
    (c24 : PySem.W.codeIn K cd24 "check_twice" = true)
    (k24 : PySem.W.keepIn K (.ref f24) = true)
    {f25 : Addr} {od25 an25 : Option Addr} {sl25 : Array (Option Value)} {oc25 kV25 dc25 pm25 cd25 ct25 : Value}
    (a25 : PySem.W.nsIn K mainGlobals "check_move" = some (some (.ref f25)))
    (l25 : K.lookup f25 = some ⟨oc25, od25, .func (PySem.W.fnOf "check_move" "check_move" (defArgs s_check_move) (defBody s_check_move) (defScope s_check_move) .none kV25 dc25 pm25 an25 cd25 ct25), sl25⟩)
    (c25 : PySem.W.codeIn K cd25 "check_move" = true)
    (k25 : PySem.W.keepIn K (.ref f25) = true)
    {f26 : Addr} {od26 an26 : Option Addr} {sl26 : Array (Option Value)} {oc26 kV26 dc26 pm26 cd26 ct26 : Value}
    (a26 : PySem.W.nsIn K mainGlobals "_law_cell_at" = some (some (.ref f26)))
    (l26 : K.lookup f26 = some ⟨oc26, od26, .func (PySem.W.fnOf "_law_cell_at" "_law_cell_at" (defArgs s__law_cell_at) (defBody s__law_cell_at) (defScope s__law_cell_at) .none kV26 dc26 pm26 an26 cd26 ct26), sl26⟩)
    (c26 : PySem.W.codeIn K cd26 "_law_cell_at" = true)
    (k26 : PySem.W.keepIn K (.ref f26) = true)
    {f27 : Addr} {od27 an27 : Option Addr} {sl27 : Array (Option Value)} {oc27 kV27 dc27 pm27 cd27 ct27 : Value}
    (a27 : PySem.W.nsIn K mainGlobals "_law_mixed" = some (some (.ref f27)))
    (l27 : K.lookup f27 = some ⟨oc27, od27, .func (PySem.W.fnOf "_law_mixed" "_law_mixed" (defArgs s__law_mixed) (defBody s__law_mixed) (defScope s__law_mixed) .none kV27 dc27 pm27 an27 cd27 ct27), sl27⟩)
    (c27 : PySem.W.codeIn K cd27 "_law_mixed" = true)
    (k27 : PySem.W.keepIn K (.ref f27) = true)
    {f28 : Addr} {od28 an28 : Option Addr} {sl28 : Array (Option Value)} {oc28 kV28 dc28 pm28 cd28 ct28 : Value}
    (a28 : PySem.W.nsIn K mainGlobals "_law_keywords" = some (some (.ref f28)))
    (l28 : K.lookup f28 = some ⟨oc28, od28, .func (PySem.W.fnOf "_law_keywords" "_law_keywords" (defArgs s__law_keywords) (defBody s__law_keywords) (defScope s__law_keywords) .none kV28 dc28 pm28 an28 cd28 ct28), sl28⟩)
    (c28 : PySem.W.codeIn K cd28 "_law_keywords" = true)
    (k28 : PySem.W.keepIn K (.ref f28) = true)
    {f29 : Addr} {od29 an29 : Option Addr} {sl29 : Array (Option Value)} {oc29 kV29 dc29 pm29 cd29 ct29 : Value}
    (a29 : PySem.W.nsIn K mainGlobals "_law_letters" = some (some (.ref f29)))
    (l29 : K.lookup f29 = some ⟨oc29, od29, .func (PySem.W.fnOf "_law_letters" "_law_letters" (defArgs s__law_letters) (defBody s__law_letters) (defScope s__law_letters) .none kV29 dc29 pm29 an29 cd29 ct29), sl29⟩)
    (c29 : PySem.W.codeIn K cd29 "_law_letters" = true)
    (k29 : PySem.W.keepIn K (.ref f29) = true)
    {f30 : Addr} {od30 an30 : Option Addr} {sl30 : Array (Option Value)} {oc30 kV30 dc30 pm30 cd30 ct30 : Value}
    (a30 : PySem.W.nsIn K mainGlobals "_law_name_by" = some (some (.ref f30)))
    (l30 : K.lookup f30 = some ⟨oc30, od30, .func (PySem.W.fnOf "_law_name_by" "_law_name_by" (defArgs s__law_name_by) (defBody s__law_name_by) (defScope s__law_name_by) .none kV30 dc30 pm30 an30 cd30 ct30), sl30⟩)
    (c30 : PySem.W.codeIn K cd30 "_law_name_by" = true)
    (k30 : PySem.W.keepIn K (.ref f30) = true)
    {f31 : Addr} {od31 an31 : Option Addr} {sl31 : Array (Option Value)} {oc31 kV31 dc31 pm31 cd31 ct31 : Value}
    (a31 : PySem.W.nsIn K mainGlobals "_law_value_by" = some (some (.ref f31)))
    (l31 : K.lookup f31 = some ⟨oc31, od31, .func (PySem.W.fnOf "_law_value_by" "_law_value_by" (defArgs s__law_value_by) (defBody s__law_value_by) (defScope s__law_value_by) .none kV31 dc31 pm31 an31 cd31 ct31), sl31⟩)
    (c31 : PySem.W.codeIn K cd31 "_law_value_by" = true)
    (k31 : PySem.W.keepIn K (.ref f31) = true)
    {f32 : Addr} {od32 an32 : Option Addr} {sl32 : Array (Option Value)} {oc32 kV32 dc32 pm32 cd32 ct32 : Value}
    (a32 : PySem.W.nsIn K mainGlobals "_law_from" = some (some (.ref f32)))
    (l32 : K.lookup f32 = some ⟨oc32, od32, .func (PySem.W.fnOf "_law_from" "_law_from" (defArgs s__law_from) (defBody s__law_from) (defScope s__law_from) .none kV32 dc32 pm32 an32 cd32 ct32), sl32⟩)
    (c32 : PySem.W.codeIn K cd32 "_law_from" = true)
    (k32 : PySem.W.keepIn K (.ref f32) = true)
    {f33 : Addr} {od33 an33 : Option Addr} {sl33 : Array (Option Value)} {oc33 kV33 dc33 pm33 cd33 ct33 : Value}
    (a33 : PySem.W.nsIn K mainGlobals "_law_spaced" = some (some (.ref f33)))
    (l33 : K.lookup f33 = some ⟨oc33, od33, .func (PySem.W.fnOf "_law_spaced" "_law_spaced" (defArgs s__law_spaced) (defBody s__law_spaced) (defScope s__law_spaced) .none kV33 dc33 pm33 an33 cd33 ct33), sl33⟩)
    (c33 : PySem.W.codeIn K cd33 "_law_spaced" = true)
    (k33 : PySem.W.keepIn K (.ref f33) = true)
    {f34 : Addr} {od34 an34 : Option Addr} {sl34 : Array (Option Value)} {oc34 kV34 dc34 pm34 cd34 ct34 : Value}
    (a34 : PySem.W.nsIn K mainGlobals "_law_same" = some (some (.ref f34)))
    (l34 : K.lookup f34 = some ⟨oc34, od34, .func (PySem.W.fnOf "_law_same" "_law_same" (defArgs s__law_same) (defBody s__law_same) (defScope s__law_same) .none kV34 dc34 pm34 an34 cd34 ct34), sl34⟩)
    (c34 : PySem.W.codeIn K cd34 "_law_same" = true)
    (k34 : PySem.W.keepIn K (.ref f34) = true)
    {f35 : Addr} {od35 an35 : Option Addr} {sl35 : Array (Option Value)} {oc35 kV35 dc35 pm35 cd35 ct35 : Value}
    (a35 : PySem.W.nsIn K mainGlobals "_law_here" = some (some (.ref f35)))
    (l35 : K.lookup f35 = some ⟨oc35, od35, .func (PySem.W.fnOf "_law_here" "_law_here" (defArgs s__law_here) (defBody s__law_here) (defScope s__law_here) .none kV35 dc35 pm35 an35 cd35 ct35), sl35⟩)
    (c35 : PySem.W.codeIn K cd35 "_law_here" = true)
    (k35 : PySem.W.keepIn K (.ref f35) = true)
    {f36 : Addr} {od36 an36 : Option Addr} {sl36 : Array (Option Value)} {oc36 kV36 dc36 pm36 cd36 ct36 : Value}
    (a36 : PySem.W.nsIn K mainGlobals "_law_ended" = some (some (.ref f36)))
    (l36 : K.lookup f36 = some ⟨oc36, od36, .func (PySem.W.fnOf "_law_ended" "_law_ended" (defArgs s__law_ended) (defBody s__law_ended) (defScope s__law_ended) .none kV36 dc36 pm36 an36 cd36 ct36), sl36⟩)
    (c36 : PySem.W.codeIn K cd36 "_law_ended" = true)
    (k36 : PySem.W.keepIn K (.ref f36) = true)
    {f37 : Addr} {od37 an37 : Option Addr} {sl37 : Array (Option Value)} {oc37 kV37 dc37 pm37 cd37 ct37 : Value}
    (a37 : PySem.W.nsIn K mainGlobals "_law_set_by" = some (some (.ref f37)))
    (l37 : K.lookup f37 = some ⟨oc37, od37, .func (PySem.W.fnOf "_law_set_by" "_law_set_by" (defArgs s__law_set_by) (defBody s__law_set_by) (defScope s__law_set_by) .none kV37 dc37 pm37 an37 cd37 ct37), sl37⟩)
    (c37 : PySem.W.codeIn K cd37 "_law_set_by" = true)
    (k37 : PySem.W.keepIn K (.ref f37) = true)
    {f38 : Addr} {od38 an38 : Option Addr} {sl38 : Array (Option Value)} {oc38 kV38 dc38 pm38 cd38 ct38 : Value}
    (a38 : PySem.W.nsIn K mainGlobals "_law_single_by" = some (some (.ref f38)))
    (l38 : K.lookup f38 = some ⟨oc38, od38, .func (PySem.W.fnOf "_law_single_by" "_law_single_by" (defArgs s__law_single_by) (defBody s__law_single_by) (defScope s__law_single_by) .none kV38 dc38 pm38 an38 cd38 ct38), sl38⟩)
    (c38 : PySem.W.codeIn K cd38 "_law_single_by" = true)
    (k38 : PySem.W.keepIn K (.ref f38) = true)
    {f39 : Addr} {od39 an39 : Option Addr} {sl39 : Array (Option Value)} {oc39 kV39 dc39 pm39 cd39 ct39 : Value}
    (a39 : PySem.W.nsIn K mainGlobals "_law_step" = some (some (.ref f39)))
    (l39 : K.lookup f39 = some ⟨oc39, od39, .func (PySem.W.fnOf "_law_step" "_law_step" (defArgs s__law_step) (defBody s__law_step) (defScope s__law_step) .none kV39 dc39 pm39 an39 cd39 ct39), sl39⟩)
    (c39 : PySem.W.codeIn K cd39 "_law_step" = true)
    (k39 : PySem.W.keepIn K (.ref f39) = true)
    {f40 : Addr} {od40 an40 : Option Addr} {sl40 : Array (Option Value)} {oc40 kV40 dc40 pm40 cd40 ct40 : Value}
    (a40 : PySem.W.nsIn K mainGlobals "_law_build" = some (some (.ref f40)))
    (l40 : K.lookup f40 = some ⟨oc40, od40, .func (PySem.W.fnOf "_law_build" "_law_build" (defArgs s__law_build) (defBody s__law_build) (defScope s__law_build) .none kV40 dc40 pm40 an40 cd40 ct40), sl40⟩)
    (c40 : PySem.W.codeIn K cd40 "_law_build" = true)
    (k40 : PySem.W.keepIn K (.ref f40) = true)
    {f41 : Addr} {od41 an41 : Option Addr} {sl41 : Array (Option Value)} {oc41 kV41 dc41 pm41 cd41 ct41 : Value}
    (a41 : PySem.W.nsIn K mainGlobals "_law_text_by" = some (some (.ref f41)))
    (l41 : K.lookup f41 = some ⟨oc41, od41, .func (PySem.W.fnOf "_law_text_by" "_law_text_by" (defArgs s__law_text_by) (defBody s__law_text_by) (defScope s__law_text_by) .none kV41 dc41 pm41 an41 cd41 ct41), sl41⟩)
    (c41 : PySem.W.codeIn K cd41 "_law_text_by" = true)
    (k41 : PySem.W.keepIn K (.ref f41) = true)
    {f42 : Addr} {od42 an42 : Option Addr} {sl42 : Array (Option Value)} {oc42 kV42 dc42 pm42 cd42 ct42 : Value}
    (a42 : PySem.W.nsIn K mainGlobals "law" = some (some (.ref f42)))
    (l42 : K.lookup f42 = some ⟨oc42, od42, .func (PySem.W.fnOf "law" "law" (defArgs s_law) (defBody s_law) (defScope s_law) .none kV42 dc42 pm42 an42 cd42 ct42), sl42⟩)
    (c42 : PySem.W.codeIn K cd42 "law" = true)
    (k42 : PySem.W.keepIn K (.ref f42) = true)
    (z_all : PySem.W.nsIn K mainGlobals "all" = some none)
    (z_any : PySem.W.nsIn K mainGlobals "any" = some none)
    (z_bool : PySem.W.nsIn K mainGlobals "bool" = some none)
    (z_enumerate : PySem.W.nsIn K mainGlobals "enumerate" = some none)
    (z_int : PySem.W.nsIn K mainGlobals "int" = some none)
    (z_isinstance : PySem.W.nsIn K mainGlobals "isinstance" = some none)
    (z_len : PySem.W.nsIn K mainGlobals "len" = some none)
    (z_list : PySem.W.nsIn K mainGlobals "list" = some none)
    (z_max : PySem.W.nsIn K mainGlobals "max" = some none)
    (z_range : PySem.W.nsIn K mainGlobals "range" = some none)
    (z_str : PySem.W.nsIn K mainGlobals "str" = some none)
    (z_tuple : PySem.W.nsIn K mainGlobals "tuple" = some none)
    (z_zip : PySem.W.nsIn K mainGlobals "zip" = some none)
    {A_KEYWORDS : Addr} {d_KEYWORDS : Option Addr} {i_KEYWORDS : Array Value} {n_KEYWORDS : Nat} {e_KEYWORDS : Array (Option Value)} (c_KEYWORDS : PySem.W.nsIn K mainGlobals "KEYWORDS" = some (some (.ref A_KEYWORDS))) (t_KEYWORDS : K.lookup A_KEYWORDS = some ⟨.type "tuple", d_KEYWORDS, .seq i_KEYWORDS n_KEYWORDS, e_KEYWORDS⟩) (v_KEYWORDS : i_KEYWORDS.size ≤ sizeLine ∧ Vals [.str "ask", .str "store", .str "put", .str "get", .str "give", .str "if", .str "else", .str "while", .str "repeat", .str "end"] i_KEYWORDS.toList)
    {A_SIGNS : Addr} {d_SIGNS : Option Addr} {i_SIGNS : Array Value} {n_SIGNS : Nat} {e_SIGNS : Array (Option Value)} (c_SIGNS : PySem.W.nsIn K mainGlobals "SIGNS" = some (some (.ref A_SIGNS))) (t_SIGNS : K.lookup A_SIGNS = some ⟨.type "tuple", d_SIGNS, .seq i_SIGNS n_SIGNS, e_SIGNS⟩) (v_SIGNS : i_SIGNS.size ≤ sizeLine ∧ Vals [.str "+", .str "-", .str "*", .str "/", .str "<", .str "=", .str "&", .str "|", .str "^"] i_SIGNS.toList)
    {tk_LETTERS : Tok} (c_LETTERS : PySem.W.nsIn K mainGlobals "LETTERS" = some (some (.str "abcdefghijklmnopqrstuvwxyz" tk_LETTERS)))
    {tk_FIGURES : Tok} (c_FIGURES : PySem.W.nsIn K mainGlobals "FIGURES" = some (some (.str "0123456789" tk_FIGURES)))
    {tk_MOST_LETTERS : Tok} (c_MOST_LETTERS : PySem.W.nsIn K mainGlobals "MOST_LETTERS" = some (some (.int 8 tk_MOST_LETTERS)))
    {tk_MOST_FIGURES : Tok} (c_MOST_FIGURES : PySem.W.nsIn K mainGlobals "MOST_FIGURES" = some (some (.int 30 tk_MOST_FIGURES)))
    {A_FORMS : Addr} {i_FORMS : Array DictEntry} {n_FORMS : Nat} {A_FORMS_0 : Addr} {A_FORMS_1 : Addr} {A_FORMS_2 : Addr} {A_FORMS_3 : Addr} {A_FORMS_4 : Addr} {A_FORMS_5 : Addr} {A_FORMS_6 : Addr} {A_FORMS_7 : Addr} {A_FORMS_8 : Addr} {A_FORMS_9 : Addr} {k_FORMS_0 : Tok} {k_FORMS_1 : Tok} {k_FORMS_2 : Tok} {k_FORMS_3 : Tok} {k_FORMS_4 : Tok} {k_FORMS_5 : Tok} {k_FORMS_6 : Tok} {k_FORMS_7 : Tok} {k_FORMS_8 : Tok} {k_FORMS_9 : Tok} (c_FORMS : PySem.W.nsIn K mainGlobals "FORMS" = some (some (.ref A_FORMS))) (t_FORMS : K.lookup A_FORMS = some ⟨.type "dict", none, .dict i_FORMS n_FORMS, #[]⟩) (w_FORMS : (A_FORMS == sysModules) = false) (V_FORMS : i_FORMS.toList = [⟨hashStr w "ask", .str "ask" k_FORMS_0, .ref A_FORMS_0⟩, ⟨hashStr w "store", .str "store" k_FORMS_1, .ref A_FORMS_1⟩, ⟨hashStr w "put", .str "put" k_FORMS_2, .ref A_FORMS_2⟩, ⟨hashStr w "get", .str "get" k_FORMS_3, .ref A_FORMS_3⟩, ⟨hashStr w "give", .str "give" k_FORMS_4, .ref A_FORMS_4⟩, ⟨hashStr w "if", .str "if" k_FORMS_5, .ref A_FORMS_5⟩, ⟨hashStr w "else", .str "else" k_FORMS_6, .ref A_FORMS_6⟩, ⟨hashStr w "while", .str "while" k_FORMS_7, .ref A_FORMS_7⟩, ⟨hashStr w "repeat", .str "repeat" k_FORMS_8, .ref A_FORMS_8⟩, ⟨hashStr w "end", .str "end" k_FORMS_9, .ref A_FORMS_9⟩])
    {d_FORMS_0 : Option Addr} {i_FORMS_0 : Array Value} {n_FORMS_0 : Nat} {e_FORMS_0 : Array (Option Value)} (t_FORMS_0 : K.lookup A_FORMS_0 = some ⟨.type "tuple", d_FORMS_0, .seq i_FORMS_0 n_FORMS_0, e_FORMS_0⟩) (v_FORMS_0 : i_FORMS_0.size ≤ sizeLine ∧ Vals [.str "name"] i_FORMS_0.toList)
    {d_FORMS_1 : Option Addr} {i_FORMS_1 : Array Value} {n_FORMS_1 : Nat} {e_FORMS_1 : Array (Option Value)} (t_FORMS_1 : K.lookup A_FORMS_1 = some ⟨.type "tuple", d_FORMS_1, .seq i_FORMS_1 n_FORMS_1, e_FORMS_1⟩) (v_FORMS_1 : i_FORMS_1.size ≤ sizeLine ∧ Vals [.str "name", .str "length"] i_FORMS_1.toList)
    {d_FORMS_2 : Option Addr} {i_FORMS_2 : Array Value} {n_FORMS_2 : Nat} {e_FORMS_2 : Array (Option Value)} (t_FORMS_2 : K.lookup A_FORMS_2 = some ⟨.type "tuple", d_FORMS_2, .seq i_FORMS_2 n_FORMS_2, e_FORMS_2⟩) (v_FORMS_2 : i_FORMS_2.size ≤ sizeLine ∧ Vals [.str "name", .str "name"] i_FORMS_2.toList)
    {d_FORMS_3 : Option Addr} {i_FORMS_3 : Array Value} {n_FORMS_3 : Nat} {e_FORMS_3 : Array (Option Value)} (t_FORMS_3 : K.lookup A_FORMS_3 = some ⟨.type "tuple", d_FORMS_3, .seq i_FORMS_3 n_FORMS_3, e_FORMS_3⟩) (v_FORMS_3 : i_FORMS_3.size ≤ sizeLine ∧ Vals [.str "name", .str "name"] i_FORMS_3.toList)
    {d_FORMS_4 : Option Addr} {i_FORMS_4 : Array Value} {n_FORMS_4 : Nat} {e_FORMS_4 : Array (Option Value)} (t_FORMS_4 : K.lookup A_FORMS_4 = some ⟨.type "tuple", d_FORMS_4, .seq i_FORMS_4 n_FORMS_4, e_FORMS_4⟩) (v_FORMS_4 : i_FORMS_4.size ≤ sizeLine ∧ Vals [.str "name"] i_FORMS_4.toList)
    {d_FORMS_5 : Option Addr} {i_FORMS_5 : Array Value} {n_FORMS_5 : Nat} {e_FORMS_5 : Array (Option Value)} (t_FORMS_5 : K.lookup A_FORMS_5 = some ⟨.type "tuple", d_FORMS_5, .seq i_FORMS_5 n_FORMS_5, e_FORMS_5⟩) (v_FORMS_5 : i_FORMS_5.size ≤ sizeLine ∧ Vals [.str "name"] i_FORMS_5.toList)
    {d_FORMS_6 : Option Addr} {i_FORMS_6 : Array Value} {n_FORMS_6 : Nat} {e_FORMS_6 : Array (Option Value)} (t_FORMS_6 : K.lookup A_FORMS_6 = some ⟨.type "tuple", d_FORMS_6, .seq i_FORMS_6 n_FORMS_6, e_FORMS_6⟩) (v_FORMS_6 : i_FORMS_6.size ≤ sizeLine ∧ Vals [] i_FORMS_6.toList)
    {d_FORMS_7 : Option Addr} {i_FORMS_7 : Array Value} {n_FORMS_7 : Nat} {e_FORMS_7 : Array (Option Value)} (t_FORMS_7 : K.lookup A_FORMS_7 = some ⟨.type "tuple", d_FORMS_7, .seq i_FORMS_7 n_FORMS_7, e_FORMS_7⟩) (v_FORMS_7 : i_FORMS_7.size ≤ sizeLine ∧ Vals [.str "name"] i_FORMS_7.toList)
    {d_FORMS_8 : Option Addr} {i_FORMS_8 : Array Value} {n_FORMS_8 : Nat} {e_FORMS_8 : Array (Option Value)} (t_FORMS_8 : K.lookup A_FORMS_8 = some ⟨.type "tuple", d_FORMS_8, .seq i_FORMS_8 n_FORMS_8, e_FORMS_8⟩) (v_FORMS_8 : i_FORMS_8.size ≤ sizeLine ∧ Vals [.str "rounds"] i_FORMS_8.toList)
    {d_FORMS_9 : Option Addr} {i_FORMS_9 : Array Value} {n_FORMS_9 : Nat} {e_FORMS_9 : Array (Option Value)} (t_FORMS_9 : K.lookup A_FORMS_9 = some ⟨.type "tuple", d_FORMS_9, .seq i_FORMS_9 n_FORMS_9, e_FORMS_9⟩) (v_FORMS_9 : i_FORMS_9.size ≤ sizeLine ∧ Vals [] i_FORMS_9.toList)
    {A_SET_FORM : Addr} {d_SET_FORM : Option Addr} {i_SET_FORM : Array Value} {n_SET_FORM : Nat} {e_SET_FORM : Array (Option Value)} (c_SET_FORM : PySem.W.nsIn K mainGlobals "SET_FORM" = some (some (.ref A_SET_FORM))) (t_SET_FORM : K.lookup A_SET_FORM = some ⟨.type "tuple", d_SET_FORM, .seq i_SET_FORM n_SET_FORM, e_SET_FORM⟩) (v_SET_FORM : i_SET_FORM.size ≤ sizeLine ∧ Vals [.str "name", .str "value", .str "sign", .str "value"] i_SET_FORM.toList)
    {tk_MOST_LENGTH : Tok} (c_MOST_LENGTH : PySem.W.nsIn K mainGlobals "MOST_LENGTH" = some (some (.int 2000 tk_MOST_LENGTH)))
    {tk_MOST_ROUNDS : Tok} (c_MOST_ROUNDS : PySem.W.nsIn K mainGlobals "MOST_ROUNDS" = some (some (.int 99 tk_MOST_ROUNDS)))
    {A_HEADS : Addr} {d_HEADS : Option Addr} {i_HEADS : Array Value} {n_HEADS : Nat} {e_HEADS : Array (Option Value)} (c_HEADS : PySem.W.nsIn K mainGlobals "HEADS" = some (some (.ref A_HEADS))) (t_HEADS : K.lookup A_HEADS = some ⟨.type "tuple", d_HEADS, .seq i_HEADS n_HEADS, e_HEADS⟩) (v_HEADS : i_HEADS.size ≤ sizeLine ∧ Vals [.str "ask", .str "store"] i_HEADS.toList)
    {A_OPENERS : Addr} {d_OPENERS : Option Addr} {i_OPENERS : Array Value} {n_OPENERS : Nat} {e_OPENERS : Array (Option Value)} (c_OPENERS : PySem.W.nsIn K mainGlobals "OPENERS" = some (some (.ref A_OPENERS))) (t_OPENERS : K.lookup A_OPENERS = some ⟨.type "tuple", d_OPENERS, .seq i_OPENERS n_OPENERS, e_OPENERS⟩) (v_OPENERS : i_OPENERS.size ≤ sizeLine ∧ Vals [.str "if", .str "while", .str "repeat"] i_OPENERS.toList)
    {A_MOVES : Addr} {d_MOVES : Option Addr} {i_MOVES : Array Value} {n_MOVES : Nat} {e_MOVES : Array (Option Value)} (c_MOVES : PySem.W.nsIn K mainGlobals "MOVES" = some (some (.ref A_MOVES))) (t_MOVES : K.lookup A_MOVES = some ⟨.type "tuple", d_MOVES, .seq i_MOVES n_MOVES, e_MOVES⟩) (v_MOVES : i_MOVES.size ≤ sizeLine ∧ Vals [.str "put", .str "get"] i_MOVES.toList)
    {tk_MOST_BLOCKS : Tok} (c_MOST_BLOCKS : PySem.W.nsIn K mainGlobals "MOST_BLOCKS" = some (some (.int 12 tk_MOST_BLOCKS))) :
    ∃ fd : FuncData, (∀ (s : Shared) (v : Value), BindsTo s fd ⟨[v], []⟩ [("_law_script", v)]) ∧ ∀ base : Heap, K.In base → base.Ns mainGlobals mg → FnOk l.prog w K mg base CX0 48 fa fd ["_law_script"] (sp_law K) := by
  have e := hfa.symm.trans (PySem.W.mg_of X G a42)
  cases e
  have F0 := fun_mk (st := s_is_name) l0 c0 k0
  have b0 := F0.binds (ps := ["word"]) fun _ _ _ _ _ _ us hl => match us, hl with | [_], _ => rfl
  have F1 := fun_mk (st := s_number_in) l1 c1 k1
  have b1 := F1.binds (ps := ["word"]) fun _ _ _ _ _ _ us hl => match us, hl with | [_], _ => rfl
  have F2 := fun_mk (st := s_value_in) l2 c2 k2
  have b2 := F2.binds (ps := ["word"]) fun _ _ _ _ _ _ us hl => match us, hl with | [_], _ => rfl
  have F3 := fun_mk (st := s_is_made_of) l3 c3 k3
  have b3 := F3.binds (ps := ["word", "signs"]) fun _ _ _ _ _ _ us hl => match us, hl with | [_, _], _ => rfl
  have F4 := fun_mk (st := s_row_of) l4 c4 k4
  have b4 := F4.binds (ps := ["row", "place"]) fun _ _ _ _ _ _ us hl => match us, hl with | [_, _], _ => rfl
  have F5 := fun_mk (st := s_words_of) l5 c5 k5
  have b5 := F5.binds (ps := ["row"]) fun _ _ _ _ _ _ us hl => match us, hl with | [_], _ => rfl
  have F6 := fun_mk (st := s_form_of) l6 c6 k6
  have b6 := F6.binds (ps := ["words"]) fun _ _ _ _ _ _ us hl => match us, hl with | [_], _ => rfl
  have F7 := fun_mk (st := s_filled) l7 c7 k7
  have b7 := F7.binds (ps := ["head", "words", "kinds"]) fun _ _ _ _ _ _ us hl => match us, hl with | [_, _, _], _ => rfl
  have F8 := fun_mk (st := s_thing_in) l8 c8 k8
  have b8 := F8.binds (ps := ["word", "kind"]) fun _ _ _ _ _ _ us hl => match us, hl with | [_, _], _ => rfl
  have F9 := fun_mk (st := s_number_within) l9 c9 k9
  have b9 := F9.binds (ps := ["word", "least", "most"]) fun _ _ _ _ _ _ us hl => match us, hl with | [_, _, _], _ => rfl
  have F10 := fun_mk (st := s_Block___init__) l10 c10 k10
  have b10 := F10.binds (ps := ["self", "form"]) fun _ _ _ _ _ _ us hl => match us, hl with | [_, _], _ => rfl
  have F11 := fun_mk (st := s_Block_lay) l11 c11 k11
  have b11 := F11.binds (ps := ["self", "deed"]) fun _ _ _ _ _ _ us hl => match us, hl with | [_, _], _ => rfl
  have F12 := fun_mk (st := s_Block_turn) l12 c12 k12
  have b12 := F12.binds (ps := ["self"]) fun _ _ _ _ _ _ us hl => match us, hl with | [_], _ => rfl
  have F13 := fun_mk (st := s_Block_may_turn) l13 c13 k13
  have b13 := F13.binds (ps := ["self"]) fun _ _ _ _ _ _ us hl => match us, hl with | [_], _ => rfl
  have F14 := fun_mk (st := s_Block_whole) l14 c14 k14
  have b14 := F14.binds (ps := ["self"]) fun _ _ _ _ _ _ us hl => match us, hl with | [_], _ => rfl
  have F15 := fun_mk (st := s_Reading___init__) l15 c15 k15
  have b15 := F15.binds (ps := ["self"]) fun _ _ _ _ _ _ us hl => match us, hl with | [_], _ => rfl
  have F16 := fun_mk (st := s_Reading_enter) l16 c16 k16
  have b16 := F16.binds (ps := ["self", "form"]) fun _ _ _ _ _ _ us hl => match us, hl with | [_, _], _ => rfl
  have F17 := fun_mk (st := s_Reading_follow) l17 c17 k17
  have b17 := F17.binds (ps := ["self", "form"]) fun _ _ _ _ _ _ us hl => match us, hl with | [_, _], _ => rfl
  have F18 := fun_mk (st := s_Reading_lay_down) l18 c18 k18
  have b18 := F18.binds (ps := ["self", "deed"]) fun _ _ _ _ _ _ us hl => match us, hl with | [_, _], _ => rfl
  have F19 := fun_mk (st := s_Reading_may_turn_innermost) l19 c19 k19
  have b19 := F19.binds (ps := ["self"]) fun _ _ _ _ _ _ us hl => match us, hl with | [_], _ => rfl
  have F20 := fun_mk (st := s_Reading_is_hiding) l20 c20 k20
  have b20 := F20.binds (ps := ["self"]) fun _ _ _ _ _ _ us hl => match us, hl with | [_], _ => rfl
  have F21 := fun_mk (st := s_read) l21 c21 k21
  have b21 := F21.binds (ps := ["text"]) fun _ _ _ _ _ _ us hl => match us, hl with | [_], _ => rfl
  have F22 := fun_mk (st := s_check) l22 c22 k22
  have b22 := F22.binds (ps := ["reading", "form", "place"]) fun _ _ _ _ _ _ us hl => match us, hl with | [_, _, _], _ => rfl
  have F23 := fun_mk (st := s_check_nest) l23 c23 k23
  have b23 := F23.binds (ps := ["reading", "head", "place"]) fun _ _ _ _ _ _ us hl => match us, hl with | [_, _, _], _ => rfl
  have F24 := fun_mk (st := s_check_twice) l24 c24 k24
  have b24 := F24.binds (ps := ["reading", "form", "place"]) fun _ _ _ _ _ _ us hl => match us, hl with | [_, _, _], _ => rfl
  have F25 := fun_mk (st := s_check_move) l25 c25 k25
  have b25 := F25.binds (ps := ["reading", "store", "place"]) fun _ _ _ _ _ _ us hl => match us, hl with | [_, _, _], _ => rfl
  have F26 := fun_mk (st := s__law_cell_at) l26 c26 k26
  have b26 := F26.binds (ps := ["_law_script", "_law_k"]) fun _ _ _ _ _ _ us hl => match us, hl with | [_, _], _ => rfl
  have F27 := fun_mk (st := s__law_mixed) l27 c27 k27
  have b27 := F27.binds (ps := ["_law_cell", "_law_k"]) fun _ _ _ _ _ _ us hl => match us, hl with | [_, _], _ => rfl
  have F28 := fun_mk (st := s__law_keywords) l28 c28 k28
  have b28 := F28.binds (ps := []) fun _ _ _ _ _ _ us hl => match us, hl with | [], _ => rfl
  have F29 := fun_mk (st := s__law_letters) l29 c29 k29
  have b29 := F29.binds (ps := ["_law_n", "_law_size"]) fun _ _ _ _ _ _ us hl => match us, hl with | [_, _], _ => rfl
  have F30 := fun_mk (st := s__law_name_by) l30 c30 k30
  have b30 := F30.binds (ps := ["_law_n"]) fun _ _ _ _ _ _ us hl => match us, hl with | [_], _ => rfl
  have F31 := fun_mk (st := s__law_value_by) l31 c31 k31
  have b31 := F31.binds (ps := ["_law_n"]) fun _ _ _ _ _ _ us hl => match us, hl with | [_], _ => rfl
  have F32 := fun_mk (st := s__law_from) l32 c32 k32
  have b32 := F32.binds (ps := ["_law_n", "_law_least", "_law_greatest"]) fun _ _ _ _ _ _ us hl => match us, hl with | [_, _, _], _ => rfl
  have F33 := fun_mk (st := s__law_spaced) l33 c33 k33
  have b33 := F33.binds (ps := ["_law_words", "_law_n"]) fun _ _ _ _ _ _ us hl => match us, hl with | [_, _], _ => rfl
  have F34 := fun_mk (st := s__law_same) l34 c34 k34
  have b34 := F34.binds (ps := ["_law_found", "_law_due"]) fun _ _ _ _ _ _ us hl => match us, hl with | [_, _], _ => rfl
  have F35 := fun_mk (st := s__law_here) l35 c35 k35
  have b35 := F35.binds (ps := ["_law_top", "_law_fences"]) fun _ _ _ _ _ _ us hl => match us, hl with | [_, _], _ => rfl
  have F36 := fun_mk (st := s__law_ended) l36 c36 k36
  have b36 := F36.binds (ps := ["_law_top", "_law_fences", "_law_lines"]) fun _ _ _ _ _ _ us hl => match us, hl with | [_, _, _], _ => rfl
  have F37 := fun_mk (st := s__law_set_by) l37 c37 k37
  have b37 := F37.binds (ps := ["_law_cell", "_law_x"]) fun _ _ _ _ _ _ us hl => match us, hl with | [_, _], _ => rfl
  have F38 := fun_mk (st := s__law_single_by) l38 c38 k38
  have b38 := F38.binds (ps := ["_law_way", "_law_cell", "_law_stores", "_law_fences"]) fun _ _ _ _ _ _ us hl => match us, hl with | [_, _, _, _], _ => rfl
  have F39 := fun_mk (st := s__law_step) l39 c39 k39
  have b39 := F39.binds (ps := ["_law_cell", "_law_deep", "_law_stores", "_law_top", "_law_fences", "_law_lines"]) fun _ _ _ _ _ _ us hl => match us, hl with | [_, _, _, _, _, _], _ => rfl
  have F40 := fun_mk (st := s__law_build) l40 c40 k40
  have b40 := F40.binds (ps := ["_law_script"]) fun _ _ _ _ _ _ us hl => match us, hl with | [_], _ => rfl
  have F41 := fun_mk (st := s__law_text_by) l41 c41 k41
  have b41 := F41.binds (ps := ["_law_lines", "_law_script"]) fun _ _ _ _ _ _ us hl => match us, hl with | [_, _], _ => rfl
  have F42 := fun_mk (st := s_law) l42 c42 k42
  have b42 := F42.binds (ps := ["_law_script"]) fun _ _ _ _ _ _ us hl => match us, hl with | [_], _ => rfl
  have T : Tx l.prog w K mg (Adr.mk f0 (PySem.W.fnOf "is_name" "is_name" (defArgs s_is_name) (defBody s_is_name) (defScope s_is_name) .none kV0 dc0 pm0 an0 cd0 ct0) f1 (PySem.W.fnOf "number_in" "number_in" (defArgs s_number_in) (defBody s_number_in) (defScope s_number_in) .none kV1 dc1 pm1 an1 cd1 ct1) f2 (PySem.W.fnOf "value_in" "value_in" (defArgs s_value_in) (defBody s_value_in) (defScope s_value_in) .none kV2 dc2 pm2 an2 cd2 ct2) f3 (PySem.W.fnOf "is_made_of" "is_made_of" (defArgs s_is_made_of) (defBody s_is_made_of) (defScope s_is_made_of) .none kV3 dc3 pm3 an3 cd3 ct3) f4 (PySem.W.fnOf "row_of" "row_of" (defArgs s_row_of) (defBody s_row_of) (defScope s_row_of) .none kV4 dc4 pm4 an4 cd4 ct4) f5 (PySem.W.fnOf "words_of" "words_of" (defArgs s_words_of) (defBody s_words_of) (defScope s_words_of) .none kV5 dc5 pm5 an5 cd5 ct5) f6 (PySem.W.fnOf "form_of" "form_of" (defArgs s_form_of) (defBody s_form_of) (defScope s_form_of) .none kV6 dc6 pm6 an6 cd6 ct6) f7 (PySem.W.fnOf "filled" "filled" (defArgs s_filled) (defBody s_filled) (defScope s_filled) .none kV7 dc7 pm7 an7 cd7 ct7) f8 (PySem.W.fnOf "thing_in" "thing_in" (defArgs s_thing_in) (defBody s_thing_in) (defScope s_thing_in) .none kV8 dc8 pm8 an8 cd8 ct8) f9 (PySem.W.fnOf "number_within" "number_within" (defArgs s_number_within) (defBody s_number_within) (defScope s_number_within) .none kV9 dc9 pm9 an9 cd9 ct9) f10 (PySem.W.fnOf "__init__" "Block.__init__" (defArgs s_Block___init__) (defBody s_Block___init__) (defScope s_Block___init__) .none kV10 dc10 pm10 an10 cd10 ct10) f11 (PySem.W.fnOf "lay" "Block.lay" (defArgs s_Block_lay) (defBody s_Block_lay) (defScope s_Block_lay) .none kV11 dc11 pm11 an11 cd11 ct11) f12 (PySem.W.fnOf "turn" "Block.turn" (defArgs s_Block_turn) (defBody s_Block_turn) (defScope s_Block_turn) .none kV12 dc12 pm12 an12 cd12 ct12) f13 (PySem.W.fnOf "may_turn" "Block.may_turn" (defArgs s_Block_may_turn) (defBody s_Block_may_turn) (defScope s_Block_may_turn) .none kV13 dc13 pm13 an13 cd13 ct13) f14 (PySem.W.fnOf "whole" "Block.whole" (defArgs s_Block_whole) (defBody s_Block_whole) (defScope s_Block_whole) .none kV14 dc14 pm14 an14 cd14 ct14) f15 (PySem.W.fnOf "__init__" "Reading.__init__" (defArgs s_Reading___init__) (defBody s_Reading___init__) (defScope s_Reading___init__) .none kV15 dc15 pm15 an15 cd15 ct15) f16 (PySem.W.fnOf "enter" "Reading.enter" (defArgs s_Reading_enter) (defBody s_Reading_enter) (defScope s_Reading_enter) .none kV16 dc16 pm16 an16 cd16 ct16) f17 (PySem.W.fnOf "follow" "Reading.follow" (defArgs s_Reading_follow) (defBody s_Reading_follow) (defScope s_Reading_follow) .none kV17 dc17 pm17 an17 cd17 ct17) f18 (PySem.W.fnOf "lay_down" "Reading.lay_down" (defArgs s_Reading_lay_down) (defBody s_Reading_lay_down) (defScope s_Reading_lay_down) .none kV18 dc18 pm18 an18 cd18 ct18) f19 (PySem.W.fnOf "may_turn_innermost" "Reading.may_turn_innermost" (defArgs s_Reading_may_turn_innermost) (defBody s_Reading_may_turn_innermost) (defScope s_Reading_may_turn_innermost) .none kV19 dc19 pm19 an19 cd19 ct19) f20 (PySem.W.fnOf "is_hiding" "Reading.is_hiding" (defArgs s_Reading_is_hiding) (defBody s_Reading_is_hiding) (defScope s_Reading_is_hiding) .none kV20 dc20 pm20 an20 cd20 ct20) f21 (PySem.W.fnOf "read" "read" (defArgs s_read) (defBody s_read) (defScope s_read) .none kV21 dc21 pm21 an21 cd21 ct21) f22 (PySem.W.fnOf "check" "check" (defArgs s_check) (defBody s_check) (defScope s_check) .none kV22 dc22 pm22 an22 cd22 ct22) f23 (PySem.W.fnOf "check_nest" "check_nest" (defArgs s_check_nest) (defBody s_check_nest) (defScope s_check_nest) .none kV23 dc23 pm23 an23 cd23 ct23) f24 (PySem.W.fnOf "check_twice" "check_twice" (defArgs s_check_twice) (defBody s_check_twice) (defScope s_check_twice) .none kV24 dc24 pm24 an24 cd24 ct24) f25 (PySem.W.fnOf "check_move" "check_move" (defArgs s_check_move) (defBody s_check_move) (defScope s_check_move) .none kV25 dc25 pm25 an25 cd25 ct25) f26 (PySem.W.fnOf "_law_cell_at" "_law_cell_at" (defArgs s__law_cell_at) (defBody s__law_cell_at) (defScope s__law_cell_at) .none kV26 dc26 pm26 an26 cd26 ct26) f27 (PySem.W.fnOf "_law_mixed" "_law_mixed" (defArgs s__law_mixed) (defBody s__law_mixed) (defScope s__law_mixed) .none kV27 dc27 pm27 an27 cd27 ct27) f28 (PySem.W.fnOf "_law_keywords" "_law_keywords" (defArgs s__law_keywords) (defBody s__law_keywords) (defScope s__law_keywords) .none kV28 dc28 pm28 an28 cd28 ct28) f29 (PySem.W.fnOf "_law_letters" "_law_letters" (defArgs s__law_letters) (defBody s__law_letters) (defScope s__law_letters) .none kV29 dc29 pm29 an29 cd29 ct29) f30 (PySem.W.fnOf "_law_name_by" "_law_name_by" (defArgs s__law_name_by) (defBody s__law_name_by) (defScope s__law_name_by) .none kV30 dc30 pm30 an30 cd30 ct30) f31 (PySem.W.fnOf "_law_value_by" "_law_value_by" (defArgs s__law_value_by) (defBody s__law_value_by) (defScope s__law_value_by) .none kV31 dc31 pm31 an31 cd31 ct31) f32 (PySem.W.fnOf "_law_from" "_law_from" (defArgs s__law_from) (defBody s__law_from) (defScope s__law_from) .none kV32 dc32 pm32 an32 cd32 ct32) f33 (PySem.W.fnOf "_law_spaced" "_law_spaced" (defArgs s__law_spaced) (defBody s__law_spaced) (defScope s__law_spaced) .none kV33 dc33 pm33 an33 cd33 ct33) f34 (PySem.W.fnOf "_law_same" "_law_same" (defArgs s__law_same) (defBody s__law_same) (defScope s__law_same) .none kV34 dc34 pm34 an34 cd34 ct34) f35 (PySem.W.fnOf "_law_here" "_law_here" (defArgs s__law_here) (defBody s__law_here) (defScope s__law_here) .none kV35 dc35 pm35 an35 cd35 ct35) f36 (PySem.W.fnOf "_law_ended" "_law_ended" (defArgs s__law_ended) (defBody s__law_ended) (defScope s__law_ended) .none kV36 dc36 pm36 an36 cd36 ct36) f37 (PySem.W.fnOf "_law_set_by" "_law_set_by" (defArgs s__law_set_by) (defBody s__law_set_by) (defScope s__law_set_by) .none kV37 dc37 pm37 an37 cd37 ct37) f38 (PySem.W.fnOf "_law_single_by" "_law_single_by" (defArgs s__law_single_by) (defBody s__law_single_by) (defScope s__law_single_by) .none kV38 dc38 pm38 an38 cd38 ct38) f39 (PySem.W.fnOf "_law_step" "_law_step" (defArgs s__law_step) (defBody s__law_step) (defScope s__law_step) .none kV39 dc39 pm39 an39 cd39 ct39) f40 (PySem.W.fnOf "_law_build" "_law_build" (defArgs s__law_build) (defBody s__law_build) (defScope s__law_build) .none kV40 dc40 pm40 an40 cd40 ct40) f41 (PySem.W.fnOf "_law_text_by" "_law_text_by" (defArgs s__law_text_by) (defBody s__law_text_by) (defScope s__law_text_by) .none kV41 dc41 pm41 an41 cd41 ct41) fa (PySem.W.fnOf "law" "law" (defArgs s_law) (defBody s_law) (defScope s_law) .none kV42 dc42 pm42 an42 cd42 ct42) A_KEYWORDS A_SIGNS tk_LETTERS tk_FIGURES tk_MOST_LETTERS tk_MOST_FIGURES A_FORMS A_FORMS_0 A_FORMS_1 A_FORMS_2 A_FORMS_3 A_FORMS_4 A_FORMS_5 A_FORMS_6 A_FORMS_7 A_FORMS_8 A_FORMS_9 A_SET_FORM tk_MOST_LENGTH tk_MOST_ROUNDS A_HEADS A_OPENERS A_MOVES tk_MOST_BLOCKS c_Block c_Reading) := Tx.mk F0 b0 (PySem.W.mg_of X G a0) F1 b1 (PySem.W.mg_of X G a1) F2 b2 (PySem.W.mg_of X G a2) F3 b3 (PySem.W.mg_of X G a3) F4 b4 (PySem.W.mg_of X G a4) F5 b5 (PySem.W.mg_of X G a5) F6 b6 (PySem.W.mg_of X G a6) F7 b7 (PySem.W.mg_of X G a7) F8 b8 (PySem.W.mg_of X G a8) F9 b9 (PySem.W.mg_of X G a9) F10 b10 F11 b11 F12 b12 F13 b13 F14 b14 F15 b15 F16 b16 F17 b17 F18 b18 F19 b19 F20 b20 F21 b21 (PySem.W.mg_of X G a21) F22 b22 (PySem.W.mg_of X G a22) F23 b23 (PySem.W.mg_of X G a23) F24 b24 (PySem.W.mg_of X G a24) F25 b25 (PySem.W.mg_of X G a25) F26 b26 (PySem.W.mg_of X G a26) F27 b27 (PySem.W.mg_of X G a27) F28 b28 (PySem.W.mg_of X G a28) F29 b29 (PySem.W.mg_of X G a29) F30 b30 (PySem.W.mg_of X G a30) F31 b31 (PySem.W.mg_of X G a31) F32 b32 (PySem.W.mg_of X G a32) F33 b33 (PySem.W.mg_of X G a33) F34 b34 (PySem.W.mg_of X G a34) F35 b35 (PySem.W.mg_of X G a35) F36 b36 (PySem.W.mg_of X G a36) F37 b37 (PySem.W.mg_of X G a37) F38 b38 (PySem.W.mg_of X G a38) F39 b39 (PySem.W.mg_of X G a39) F40 b40 (PySem.W.mg_of X G a40) F41 b41 (PySem.W.mg_of X G a41) F42 b42 (PySem.W.mg_of X G a42) (PySem.W.mg_none_of X G z_all) (PySem.W.mg_none_of X G z_any) (PySem.W.mg_none_of X G z_bool) (PySem.W.mg_none_of X G z_enumerate) (PySem.W.mg_none_of X G z_int) (PySem.W.mg_none_of X G z_isinstance) (PySem.W.mg_none_of X G z_len) (PySem.W.mg_none_of X G z_list) (PySem.W.mg_none_of X G z_max) (PySem.W.mg_none_of X G z_range) (PySem.W.mg_none_of X G z_str) (PySem.W.mg_none_of X G z_tuple) (PySem.W.mg_none_of X G z_zip) (PySem.W.mg_of X G c_KEYWORDS) (fun _ => .inr ⟨_, _, _, t_KEYWORDS, rfl, rfl, v_KEYWORDS.1, v_KEYWORDS.2⟩) (PySem.W.mg_of X G c_SIGNS) (fun _ => .inr ⟨_, _, _, t_SIGNS, rfl, rfl, v_SIGNS.1, v_SIGNS.2⟩) (PySem.W.mg_of X G c_LETTERS) (PySem.W.mg_of X G c_FIGURES) (PySem.W.mg_of X G c_MOST_LETTERS) (PySem.W.mg_of X G c_MOST_FIGURES) (PySem.W.mg_of X G c_FORMS) (KD.mk [("ask", k_FORMS_0, .ref A_FORMS_0, .ref A_FORMS_0), ("store", k_FORMS_1, .ref A_FORMS_1, .ref A_FORMS_1), ("put", k_FORMS_2, .ref A_FORMS_2, .ref A_FORMS_2), ("get", k_FORMS_3, .ref A_FORMS_3, .ref A_FORMS_3), ("give", k_FORMS_4, .ref A_FORMS_4, .ref A_FORMS_4), ("if", k_FORMS_5, .ref A_FORMS_5, .ref A_FORMS_5), ("else", k_FORMS_6, .ref A_FORMS_6, .ref A_FORMS_6), ("while", k_FORMS_7, .ref A_FORMS_7, .ref A_FORMS_7), ("repeat", k_FORMS_8, .ref A_FORMS_8, .ref A_FORMS_8), ("end", k_FORMS_9, .ref A_FORMS_9, .ref A_FORMS_9)] t_FORMS w_FORMS V_FORMS (by intro r hr; simp only [List.mem_cons, List.not_mem_nil, or_false] at hr; rcases hr with rfl | rfl | rfl | rfl | rfl | rfl | rfl | rfl | rfl | rfl <;> rfl) (show List.Nodup (["ask", "store", "put", "get", "give", "if", "else", "while", "repeat", "end"] : List Str) from by decide +kernel)) (fun _ => .inr ⟨_, _, _, t_FORMS_0, rfl, rfl, v_FORMS_0.1, v_FORMS_0.2⟩) (fun _ => .inr ⟨_, _, _, t_FORMS_1, rfl, rfl, v_FORMS_1.1, v_FORMS_1.2⟩) (fun _ => .inr ⟨_, _, _, t_FORMS_2, rfl, rfl, v_FORMS_2.1, v_FORMS_2.2⟩) (fun _ => .inr ⟨_, _, _, t_FORMS_3, rfl, rfl, v_FORMS_3.1, v_FORMS_3.2⟩) (fun _ => .inr ⟨_, _, _, t_FORMS_4, rfl, rfl, v_FORMS_4.1, v_FORMS_4.2⟩) (fun _ => .inr ⟨_, _, _, t_FORMS_5, rfl, rfl, v_FORMS_5.1, v_FORMS_5.2⟩) (fun _ => .inr ⟨_, _, _, t_FORMS_6, rfl, rfl, v_FORMS_6.1, v_FORMS_6.2⟩) (fun _ => .inr ⟨_, _, _, t_FORMS_7, rfl, rfl, v_FORMS_7.1, v_FORMS_7.2⟩) (fun _ => .inr ⟨_, _, _, t_FORMS_8, rfl, rfl, v_FORMS_8.1, v_FORMS_8.2⟩) (fun _ => .inr ⟨_, _, _, t_FORMS_9, rfl, rfl, v_FORMS_9.1, v_FORMS_9.2⟩) (PySem.W.mg_of X G c_SET_FORM) (fun _ => .inr ⟨_, _, _, t_SET_FORM, rfl, rfl, v_SET_FORM.1, v_SET_FORM.2⟩) (PySem.W.mg_of X G c_MOST_LENGTH) (PySem.W.mg_of X G c_MOST_ROUNDS) (PySem.W.mg_of X G c_HEADS) (fun _ => .inr ⟨_, _, _, t_HEADS, rfl, rfl, v_HEADS.1, v_HEADS.2⟩) (PySem.W.mg_of X G c_OPENERS) (fun _ => .inr ⟨_, _, _, t_OPENERS, rfl, rfl, v_OPENERS.1, v_OPENERS.2⟩) (PySem.W.mg_of X G c_MOVES) (fun _ => .inr ⟨_, _, _, t_MOVES, rfl, rfl, v_MOVES.1, v_MOVES.2⟩) (PySem.W.mg_of X G c_MOST_BLOCKS) (PySem.W.mg_of X G ac_Block) (Cls.mk p1_Block p2_Block p3_Block p4_Block) (Mk.mk p5_Block q10 fn10 p6_Block) (Meth.mk q11 fn11 k11) (Meth.mk q12 fn12 k12) (Meth.mk q13 fn13 k13) (Meth.mk q14 fn14 k14) nf_Block_form nf_Block_deeds nf_Block_others nf_Block_turned (PySem.W.mg_of X G ac_Reading) (Cls.mk p1_Reading p2_Reading p3_Reading p4_Reading) (Mk.mk p5_Reading q15 fn15 p6_Reading) (Meth.mk q16 fn16 k16) (Meth.mk q17 fn17 k17) (Meth.mk q18 fn18 k18) (Meth.mk q19 fn19 k19) (Meth.mk q20 fn20 k20) nf_Reading_asks nf_Reading_stores nf_Reading_body nf_Reading_blocks nf_Reading_begun
  exact ⟨PySem.W.fnOf "law" "law" (defArgs s_law) (defBody s_law) (defScope s_law) .none kV42 dc42 pm42 an42 cd42 ct42, fun s v => .of_eq rfl, fun base _ _ => ok_law T⟩
theorem walk {l : PySem.W.OpenLaw} {q : Program} {loose : List Str} {XP : (Str → Option Value) → Heap → Prop} {YP : World → Heap → Prop} {d : DefRec} {K : Params → PySem.W.Frag} (hn : l.most = some 63) (hdf : d.params.defaults = [])
    (hY : ∀ (w : World) (h : Heap), YP w h → (K w.params).In h)
    (F : ∀ (w : World) (mg : Str → Option Value) (fa : Addr) (h : Heap), (K w.params).In h → h.Ns mainGlobals mg → mg d.name = some (.ref fa) →
      ∃ fd : FuncData, (∀ (s : Shared) (u : Value), BindsTo s fd ⟨[u], []⟩ [("_law_script", u)]) ∧ ∀ base : Heap, (K w.params).In base → base.Ns mainGlobals mg → FnOk l.prog w (K w.params) mg base CX0 48 fa fd ["_law_script"] (sp_law (K w.params))) :
    PySem.W.WalkO q loose XP YP l.row.toRowW d [] (fun f vs => PySem.call f vs) :=
  L2.walk_ofB (n := 63) (k := 48) (x := "_law_script") (CX := fun _ => CX0) (sp := fun w => sp_law (K w.params)) hn (by decide) hdf ⟨rfl, by decide, by decide⟩ hY F (fun _ _ a ns hl hb hO hS => ⟨a, ns, rfl, hS, hl, hb, hO, fun _ => rfl⟩) fun _ _ _ _ _ z => z
noncomputable def dlaw : PySem.DefRec := ⟨"law", defArgs s_law, defBody s_law, defScope s_law, defPos s_law⟩
theorem goT_top {p : Program} {w : World} {A : Option Value} : ∀ {m : Nat} {x x' : PySem.W.SharedT} {y : Thread}, goT p w A m x y = some x' → PySem.W.topRun PySem.treeTable p w 11 A m x.abs y = some x'.abs
  | 0, _, _, _, h => nomatch h
  | m + 1, x, x', y, h => by
    unfold goT at h; unfold PySem.W.topRun
    cases a : PySem.W.through y with
    | true => rw [a] at h; cases h; rfl
    | false =>
      rw [a] at h
      cases b : PySem.W.stepOk 11 A y with
      | false => rw [b] at h; cases h
      | true =>
        rw [b] at h
        cases c : PySem.W.stepT (denote PySem.treeTable) p w x y with
        | none => rw [c] at h; cases h
        | some z => rw [c] at h; rw [PySem.W.stepT_spec c]; exact goT_top h
theorem left_tree {p q : Program} {loose : List Str} {Xt : Shared → Bool} {α : Type} {Yf : Shared → α} {Ya : World → α} {N : Nat} (e : PySem.W.opening p = PySem.W.plainProg p.main.scope.names) (hN : Nat.ble 600 N = true) (f : ∀ s, fenceModules? p s = some s)
    (H : ∀ w, EndsT p q loose Xt Yf Ya N w) : PySem.W.LeftO p q loose Xt Yf Ya N := fun w => by
  obtain ⟨⟨h, gs, d, k, os⟩, u, u'⟩ := Option.map_eq_some_iff.mp (PySem.W.boot_open e hN f w)
  obtain ⟨rfl, rfl, rfl, rfl⟩ : h = PySem.W.boot_heap w.params ∧ gs = #[] ∧ d = PySem.W.boot_drawn ∧ k = PySem.W.boot_toks := by simpa using u'
  obtain ⟨s, r, l⟩ := Option.map_eq_some_iff.mp (H w os)
  have r := goT_top r
  rw [bs_is] at r
  obtain ⟨l1, l2, l3⟩ : _ ∧ _ ∧ _ := by simpa only [Prod.mk.injEq] using l
  have z1 : ((PySem.W.boot_heap w.params).isNs mainGlobals && (#[] : Array GenState).size == 0) = true := by kernel_rfl
  have z2 : (PySem.W.boot_heap w.params).objs.size = 11 := by kernel_rfl
  have t : PySem.W.topFrom PySem.treeTable p w N ⟨PySem.W.boot_heap w.params, #[], PySem.W.boot_drawn, PySem.W.boot_toks, os⟩ = some s.abs := by
    unfold PySem.W.topFrom
    dsimp only
    rw [z1, z2, r]
    show (match PySem.W.staticsOk (PySem.importedModules p.main.body) (PySem.W.boot_heap w.params) s.abs.heap && PySem.W.namesBound p s.abs.heap && PySem.W.gensDone s.abs && PySem.W.laidKept (PySem.W.boot_heap w.params) s.abs.heap with | true => _ | false => _) = _
    rw [l1]
  unfold PySem.W.openEnds
  rw [u]
  show (PySem.W.topFrom PySem.treeTable p w N _).map _ = _
  rw [t]
  exact congrArg some (Prod.ext l2 l3)
theorem ends_split {p q : Program} {loose : List Str} {Xt : Shared → Bool} {α : Type} {Yf : Shared → α} {Ya : World → α} {N : Nat} (row : String) (F : ∀ w : World, EndsT p q loose Xt Yf Ya N (w.withFollow row false)) (T : ∀ w : World, EndsT p q loose Xt Yf Ya N (w.withFollow row true)) (w : World) : EndsT p q loose Xt Yf Ya N w := by
  have e := PySem.World.withFollow_self w row
  cases hb : w.params.followText row <;> rw [hb] at e
  · rw [← e]; exact F w
  · rw [← e]; exact T w
set_option maxHeartbeats 0 in
theorem left : PySem.W.LeftO PySem.Challenge.pw_handflow_k06_read_trees vw [("FORMS" : Str)] xt hkH.obs hkH.val 6880 := left_tree (by kernel_rfl) (by decide) (fun _ => by kernel_rfl) (ends_split "special-get-raises" leftF leftT)
set_option maxHeartbeats 0 in
theorem said : PySem.W.OpenLaw.wellSaid PySem.Challenge.rw_handflow_k06_read_trees = true := by kernel_rfl
end K06
open PySem PySem.W PyProof.Rows
set_option maxRecDepth 100000 in
set_option maxHeartbeats 0 in
theorem PySem.Challenge.cw_handflow_k06_read_trees_holds : PySem.Challenge.rw_handflow_k06_read_trees.Holds := by
  w_on; refine holds_law K06.said fun said => ?_
  refine holds_open (q := K06.vw) (loose := [("FORMS" : Str)]) (Xt := K06.xt) (XP := XL K06.vw []) (Yf := Hook.obs K06.hkH) (Ya := Hook.val K06.hkH) (YP := Hook.says K06.hkH) (d := K06.dlaw) (kwd := []) (N := 6880) K06.left (Hook.of K06.hkH) (Hook.keeps K06.hkH) (fun s e => xl_of s (Bool.and_eq_true_iff.mp e).1) XL.keeps (by kernel_rfl) (by kernel_rfl) (by kernel_rfl) (fun s e => recFacts_of (Bool.and_eq_true_iff.mp e).2) (by rfl) (by first | assumption | decide +kernel) (by decide +kernel) ⟨rfl, rfl, rfl, rfl, rfl, by decide +kernel⟩ ?hw ?hc
  (case hw => w_witness2)
  refine K06.walk (l := PySem.Challenge.rw_handflow_k06_read_trees) rfl (by kernel_rfl) (K := K06.hk) (fun w h Y => PySem.W.kIn_of (K := K06.hk) (as := K06.hks) (e := K06.hk_as) Y) ?F
  case F =>
    k_fill
    intro w mg fa h KX G hmg
    refine' K06.all_mk KX G hmg ?ac_Block ?p1_Block ?p2_Block ?p3_Block ?p4_Block ?p5_Block ?p6_Block ?nf_Block_form ?nf_Block_deeds ?nf_Block_others ?nf_Block_turned ?ac_Reading ?p1_Reading ?p2_Reading ?p3_Reading ?p4_Reading ?p5_Reading ?p6_Reading ?nf_Reading_asks ?nf_Reading_stores ?nf_Reading_body ?nf_Reading_blocks ?nf_Reading_begun ?a0 ?l0 ?c0 ?k0 ?a1 ?l1 ?c1 ?k1 ?a2 ?l2 ?c2 ?k2 ?a3 ?l3 ?c3 ?k3 ?a4 ?l4 ?c4 ?k4 ?a5 ?l5 ?c5 ?k5 ?a6 ?l6 ?c6 ?k6 ?a7 ?l7 ?c7 ?k7 ?a8 ?l8 ?c8 ?k8 ?a9 ?l9 ?c9 ?k9 ?q10 ?fn10 ?l10 ?c10 ?k10 ?q11 ?fn11 ?l11 ?c11 ?k11 ?q12 ?fn12 ?l12 ?c12 ?k12 ?q13 ?fn13 ?l13 ?c13 ?k13 ?q14 ?fn14 ?l14 ?c14 ?k14 ?q15 ?fn15 ?l15 ?c15 ?k15 ?q16 ?fn16 ?l16 ?c16 ?k16 ?q17 ?fn17 ?l17 ?c17 ?k17 ?q18 ?fn18 ?l18 ?c18 ?k18 ?q19 ?fn19 ?l19 ?c19 ?k19 ?q20 ?fn20 ?l20 ?c20 ?k20 ?a21 ?l21 ?c21 ?k21 ?a22 ?l22 ?c22 ?k22 ?a23 ?l23 ?c23 ?k23 ?a24 ?l24 ?c24 ?k24 ?a25 ?l25 ?c25 ?k25 ?a26 ?l26 ?c26 ?k26 ?a27 ?l27 ?c27 ?k27 ?a28 ?l28 ?c28 ?k28 ?a29 ?l29 ?c29 ?k29 ?a30 ?l30 ?c30 ?k30 ?a31 ?l31 ?c31 ?k31 ?a32 ?l32 ?c32 ?k32 ?a33 ?l33 ?c33 ?k33 ?a34 ?l34 ?c34 ?k34 ?a35 ?l35 ?c35 ?k35 ?a36 ?l36 ?c36 ?k36 ?a37 ?l37 ?c37 ?k37 ?a38 ?l38 ?c38 ?k38 ?a39 ?l39 ?c39 ?k39 ?a40 ?l40 ?c40 ?k40 ?a41 ?l41 ?c41 ?k41 ?a42 ?l42 ?c42 ?k42 ?z_all ?z_any ?z_bool ?z_enumerate ?z_int ?z_isinstance ?z_len ?z_list ?z_max ?z_range ?z_str ?z_tuple ?z_zip ?c_KEYWORDS ?t_KEYWORDS ?v_KEYWORDS ?c_SIGNS ?t_SIGNS ?v_SIGNS ?c_LETTERS ?c_FIGURES ?c_MOST_LETTERS ?c_MOST_FIGURES ?c_FORMS ?t_FORMS ?w_FORMS ?V_FORMS ?t_FORMS_0 ?v_FORMS_0 ?t_FORMS_1 ?v_FORMS_1 ?t_FORMS_2 ?v_FORMS_2 ?t_FORMS_3 ?v_FORMS_3 ?t_FORMS_4 ?v_FORMS_4 ?t_FORMS_5 ?v_FORMS_5 ?t_FORMS_6 ?v_FORMS_6 ?t_FORMS_7 ?v_FORMS_7 ?t_FORMS_8 ?v_FORMS_8 ?t_FORMS_9 ?v_FORMS_9 ?c_SET_FORM ?t_SET_FORM ?v_SET_FORM ?c_MOST_LENGTH ?c_MOST_ROUNDS ?c_HEADS ?t_HEADS ?v_HEADS ?c_OPENERS ?t_OPENERS ?v_OPENERS ?c_MOVES ?t_MOVES ?v_MOVES ?c_MOST_BLOCKS
    (case ac_Block => k_is)
    (case p1_Block => k_is)
    (case p2_Block => k_is)
    (case p3_Block => k_is)
    (case p4_Block => k_is)
    (case p5_Block => k_is)
    (case p6_Block => k_is)
    (case nf_Block_form => k_is)
    (case nf_Block_deeds => k_is)
    (case nf_Block_others => k_is)
    (case nf_Block_turned => k_is)
    (case ac_Reading => k_is)
    (case p1_Reading => k_is)
    (case p2_Reading => k_is)
    (case p3_Reading => k_is)
    (case p4_Reading => k_is)
    (case p5_Reading => k_is)
    (case p6_Reading => k_is)
    (case nf_Reading_asks => k_is)
    (case nf_Reading_stores => k_is)
    (case nf_Reading_body => k_is)
    (case nf_Reading_blocks => k_is)
    (case nf_Reading_begun => k_is)
    (case a0 => k_is)
    (case l0 => k_is)
    (case c0 => k_is)
    (case k0 => k_is)
    (case a1 => k_is)
    (case l1 => k_is)
    (case c1 => k_is)
    (case k1 => k_is)
    (case a2 => k_is)
    (case l2 => k_is)
    (case c2 => k_is)
    (case k2 => k_is)
    (case a3 => k_is)
    (case l3 => k_is)
    (case c3 => k_is)
    (case k3 => k_is)
    (case a4 => k_is)
    (case l4 => k_is)
    (case c4 => k_is)
    (case k4 => k_is)
    (case a5 => k_is)
    (case l5 => k_is)
    (case c5 => k_is)
    (case k5 => k_is)
    (case a6 => k_is)
    (case l6 => k_is)
    (case c6 => k_is)
    (case k6 => k_is)
    (case a7 => k_is)
    (case l7 => k_is)
    (case c7 => k_is)
    (case k7 => k_is)
    (case a8 => k_is)
    (case l8 => k_is)
    (case c8 => k_is)
    (case k8 => k_is)
    (case a9 => k_is)
    (case l9 => k_is)
    (case c9 => k_is)
    (case k9 => k_is)
    (case q10 => k_is)
    (case fn10 => k_is)
    (case l10 => k_is)
    (case c10 => k_is)
    (case k10 => k_is)
    (case q11 => k_is)
    (case fn11 => k_is)
    (case l11 => k_is)
    (case c11 => k_is)
    (case k11 => k_is)
    (case q12 => k_is)
    (case fn12 => k_is)
    (case l12 => k_is)
    (case c12 => k_is)
    (case k12 => k_is)
    (case q13 => k_is)
    (case fn13 => k_is)
    (case l13 => k_is)
    (case c13 => k_is)
    (case k13 => k_is)
    (case q14 => k_is)
    (case fn14 => k_is)
    (case l14 => k_is)
    (case c14 => k_is)
    (case k14 => k_is)
    (case q15 => k_is)
    (case fn15 => k_is)
    (case l15 => k_is)
    (case c15 => k_is)
    (case k15 => k_is)
    (case q16 => k_is)
    (case fn16 => k_is)
    (case l16 => k_is)
    (case c16 => k_is)
    (case k16 => k_is)
    (case q17 => k_is)
    (case fn17 => k_is)
    (case l17 => k_is)
    (case c17 => k_is)
    (case k17 => k_is)
    (case q18 => k_is)
    (case fn18 => k_is)
    (case l18 => k_is)
    (case c18 => k_is)
    (case k18 => k_is)
    (case q19 => k_is)
    (case fn19 => k_is)
    (case l19 => k_is)
    (case c19 => k_is)
    (case k19 => k_is)
    (case q20 => k_is)
    (case fn20 => k_is)
    (case l20 => k_is)
    (case c20 => k_is)
    (case k20 => k_is)
    (case a21 => k_is)
    (case l21 => k_is)
    (case c21 => k_is)
    (case k21 => k_is)
    (case a22 => k_is)
    (case l22 => k_is)
    (case c22 => k_is)
    (case k22 => k_is)
    (case a23 => k_is)
    (case l23 => k_is)
    (case c23 => k_is)
    (case k23 => k_is)
    (case a24 => k_is)
    (case l24 => k_is)
    (case c24 => k_is)
    (case k24 => k_is)
    (case a25 => k_is)
    (case l25 => k_is)
    (case c25 => k_is)
    (case k25 => k_is)
    (case a26 => k_is)
    (case l26 => k_is)
    (case c26 => k_is)
    (case k26 => k_is)
    (case a27 => k_is)
    (case l27 => k_is)
    (case c27 => k_is)
    (case k27 => k_is)
    (case a28 => k_is)
    (case l28 => k_is)
    (case c28 => k_is)
    (case k28 => k_is)
    (case a29 => k_is)
    (case l29 => k_is)
    (case c29 => k_is)
    (case k29 => k_is)
    (case a30 => k_is)
    (case l30 => k_is)
    (case c30 => k_is)
    (case k30 => k_is)
    (case a31 => k_is)
    (case l31 => k_is)
    (case c31 => k_is)
    (case k31 => k_is)
    (case a32 => k_is)
    (case l32 => k_is)
    (case c32 => k_is)
    (case k32 => k_is)
    (case a33 => k_is)
    (case l33 => k_is)
    (case c33 => k_is)
    (case k33 => k_is)
    (case a34 => k_is)
    (case l34 => k_is)
    (case c34 => k_is)
    (case k34 => k_is)
    (case a35 => k_is)
    (case l35 => k_is)
    (case c35 => k_is)
    (case k35 => k_is)
    (case a36 => k_is)
    (case l36 => k_is)
    (case c36 => k_is)
    (case k36 => k_is)
    (case a37 => k_is)
    (case l37 => k_is)
    (case c37 => k_is)
    (case k37 => k_is)
    (case a38 => k_is)
    (case l38 => k_is)
    (case c38 => k_is)
    (case k38 => k_is)
    (case a39 => k_is)
    (case l39 => k_is)
    (case c39 => k_is)
    (case k39 => k_is)
    (case a40 => k_is)
    (case l40 => k_is)
    (case c40 => k_is)
    (case k40 => k_is)
    (case a41 => k_is)
    (case l41 => k_is)
    (case c41 => k_is)
    (case k41 => k_is)
    (case a42 => k_is)
    (case l42 => k_is)
    (case c42 => k_is)
    (case k42 => k_is)
    (case z_all => k_is)
    (case z_any => k_is)
    (case z_bool => k_is)
    (case z_enumerate => k_is)
    (case z_int => k_is)
    (case z_isinstance => k_is)
    (case z_len => k_is)
    (case z_list => k_is)
    (case z_max => k_is)
    (case z_range => k_is)
    (case z_str => k_is)
    (case z_tuple => k_is)
    (case z_zip => k_is)
    (case c_KEYWORDS => k_is)
    (case t_KEYWORDS => k_is)
    (case v_KEYWORDS => exact ⟨by decide, .cons ⟨_, rfl⟩ (.cons ⟨_, rfl⟩ (.cons ⟨_, rfl⟩ (.cons ⟨_, rfl⟩ (.cons ⟨_, rfl⟩ (.cons ⟨_, rfl⟩ (.cons ⟨_, rfl⟩ (.cons ⟨_, rfl⟩ (.cons ⟨_, rfl⟩ (.cons ⟨_, rfl⟩ (.nil))))))))))⟩)
    (case c_SIGNS => k_is)
    (case t_SIGNS => k_is)
    (case v_SIGNS => exact ⟨by decide, .cons ⟨_, rfl⟩ (.cons ⟨_, rfl⟩ (.cons ⟨_, rfl⟩ (.cons ⟨_, rfl⟩ (.cons ⟨_, rfl⟩ (.cons ⟨_, rfl⟩ (.cons ⟨_, rfl⟩ (.cons ⟨_, rfl⟩ (.cons ⟨_, rfl⟩ (.nil)))))))))⟩)
    (case c_LETTERS => k_is)
    (case c_FIGURES => k_is)
    (case c_MOST_LETTERS => k_is)
    (case c_MOST_FIGURES => k_is)
    (case c_FORMS => k_is)
    (case t_FORMS => k_is)
    (case w_FORMS => rfl)
    (case V_FORMS => rfl)
    (case t_FORMS_0 => k_is)
    (case v_FORMS_0 => exact ⟨by decide, .cons ⟨_, rfl⟩ (.nil)⟩)
    (case t_FORMS_1 => k_is)
    (case v_FORMS_1 => exact ⟨by decide, .cons ⟨_, rfl⟩ (.cons ⟨_, rfl⟩ (.nil))⟩)
    (case t_FORMS_2 => k_is)
    (case v_FORMS_2 => exact ⟨by decide, .cons ⟨_, rfl⟩ (.cons ⟨_, rfl⟩ (.nil))⟩)
    (case t_FORMS_3 => k_is)
    (case v_FORMS_3 => exact ⟨by decide, .cons ⟨_, rfl⟩ (.cons ⟨_, rfl⟩ (.nil))⟩)
    (case t_FORMS_4 => k_is)
    (case v_FORMS_4 => exact ⟨by decide, .cons ⟨_, rfl⟩ (.nil)⟩)
    (case t_FORMS_5 => k_is)
    (case v_FORMS_5 => exact ⟨by decide, .cons ⟨_, rfl⟩ (.nil)⟩)
    (case t_FORMS_6 => k_is)
    (case v_FORMS_6 => exact ⟨by decide, .nil⟩)
    (case t_FORMS_7 => k_is)
    (case v_FORMS_7 => exact ⟨by decide, .cons ⟨_, rfl⟩ (.nil)⟩)
    (case t_FORMS_8 => k_is)
    (case v_FORMS_8 => exact ⟨by decide, .cons ⟨_, rfl⟩ (.nil)⟩)
    (case t_FORMS_9 => k_is)
    (case v_FORMS_9 => exact ⟨by decide, .nil⟩)
    (case c_SET_FORM => k_is)
    (case t_SET_FORM => k_is)
    (case v_SET_FORM => exact ⟨by decide, .cons ⟨_, rfl⟩ (.cons ⟨_, rfl⟩ (.cons ⟨_, rfl⟩ (.cons ⟨_, rfl⟩ (.nil))))⟩)
    (case c_MOST_LENGTH => k_is)
    (case c_MOST_ROUNDS => k_is)
    (case c_HEADS => k_is)
    (case t_HEADS => k_is)
    (case v_HEADS => exact ⟨by decide, .cons ⟨_, rfl⟩ (.cons ⟨_, rfl⟩ (.nil))⟩)
    (case c_OPENERS => k_is)
    (case t_OPENERS => k_is)
    (case v_OPENERS => exact ⟨by decide, .cons ⟨_, rfl⟩ (.cons ⟨_, rfl⟩ (.cons ⟨_, rfl⟩ (.nil)))⟩)
    (case c_MOVES => k_is)
    (case t_MOVES => k_is)
    (case v_MOVES => exact ⟨by decide, .cons ⟨_, rfl⟩ (.cons ⟨_, rfl⟩ (.nil))⟩)
    (case c_MOST_BLOCKS => k_is)
