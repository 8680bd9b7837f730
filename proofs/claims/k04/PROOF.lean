import PyProof.Rows.All
import Wide.All
import OpenK.AllK
import Wide.FinOn
import Lean
import PyProof.EqAt
import PyProof.EqKinds
import PyProof.TupleCall
import PySem.Challenge.RW_handflow_k04_bad_rows
set_option Elab.async false
set_option linter.all false
set_option maxRecDepth 100000
namespace L2
open PySem PySem.Spec PyProof.Rows PySem.W
def inClass (s : Stmt) (j : Nat) : Stmt := match s with
  | .ClassDef _ _ _ body _ _ _ _ _ _ _ => body.getD j (.Pass ⟨0, 0, 0, 0⟩)
  | _ => .Pass ⟨0, 0, 0, 0⟩
def defArgs (s : Stmt) : Arguments := match s with
  | .FunctionDef _ a _ _ _ _ _ _ _ _ => a
  | _ => { posonlyargs := [], args := [], vararg := none, kwonlyargs := [], kw_defaults := [], kwarg := none, defaults := [] }
def defBody (s : Stmt) : List Stmt := match s with
  | .FunctionDef _ _ b _ _ _ _ _ _ _ => b
  | _ => []
def defScope (s : Stmt) : Scope := match s with
  | .FunctionDef _ _ _ _ _ _ sc _ _ _ => sc
  | _ => { kind := .function, names := [], isGenerator := false, isCoroutine := false }
end L2
namespace K04
open PySem L2
def top (i : Nat) : Stmt := PySem.Challenge.pw_handflow_k04_bad_rows.main.body.getD i (.Pass ⟨0, 0, 0, 0⟩)
noncomputable def defPos (s : Stmt) : Pos := match s with
  | .FunctionDef _ _ _ _ _ _ _ _ _ p => p
  | _ => ⟨0, 0, 0, 0⟩
abbrev vs (x : String) (t : Nat) : Value := .str (Str.ofString x) t
abbrev de (P : Params) (x : String) (t : Nat) (v : Value) : DictEntry := ⟨PyData.keyHash P (Str.ofString x), vs x t, v⟩
noncomputable def hk : Params → PySem.W.Frag := fun P =>
  (nat_lit 2, Obj.mk .none none (Data.dict #[]) #[]) ::
  (nat_lit 3, Obj.mk (.type "dict") none (Data.dict #[de P "__name__" 165 (vs "law_handflow_k04_bad_rows" 479), de P "__doc__" 166 .none, de P "__package__" 167 .none, de P "__loader__" 168 (.builtin "__main__.__loader__#opaque"), de P "__spec__" 169 .none, de P "__annotations__" 170 (.ref 6), de P "__builtins__" 171 (.ref 4), de P "__file__" 173 (vs "/claim/cut.py" 172), de P "__cached__" 174 .none, de P "FlowError" 216 (.ref 31), de P "BadRow" 232 (.ref 44), de P "BadNest" 248 (.ref 56), de P "Twice" 264 (.ref 68), de P "NoStore" 280 (.ref 80), de P "Hidden" 296 (.ref 92), de P "Starved" 312 (.ref 104), de P "TooMuch" 328 (.ref 116), de P "KEYWORDS" 341 (.ref 119), de P "SIGNS" 351 (.ref 120), de P "LETTERS" 353 (vs "abcdefghijklmnopqrstuvwxyz" 352), de P "FIGURES" 355 (vs "0123456789" 354), de P "MOST_LETTERS" 357 (.int 8 356), de P "MOST_FIGURES" 359 (.int 30 358), de P "is_name" 366 (.ref 127), de P "number_in" 373 (.ref 134), de P "value_in" 380 (.ref 141), de P "is_made_of" 386 (.ref 146), de P "FORMS" 420 (.ref 147), de P "SET_FORM" 425 (.ref 158), de P "MOST_LENGTH" 427 (.int 2000 426), de P "MOST_ROUNDS" 429 (.int 99 428), de P "row_of" 439 (.ref 165), de P "words_of" 445 (.ref 170), de P "form_of" 454 (.ref 177), de P "filled" 460 (.ref 182), de P "thing_in" 468 (.ref 189), de P "number_within" 478 (.ref 196), de P "_law_cell_at" 488 (.ref 203), de P "_law_mixed" 497 (.ref 210), de P "_law_sign_by" 505 (.ref 217), de P "_law_keywords" 511 (.ref 224), de P "_law_letters" 521 (.ref 231), de P "_law_is_name" 529 (.ref 238), de P "_law_number" 538 (.ref 245), de P "_law_name_by" 551 (.ref 252), de P "_law_value_by" 560 (.ref 259), de P "_law_from" 569 (.ref 266), de P "_law_row_by" 587 (.ref 273), de P "_law_spaced" 597 (.ref 280), de P "_law_same" 607 (.ref 287), de P "_law_is_refused" 613 (.ref 292), de P "_law_odd_by" 621 (.ref 299), de P "_law_spoilt" 627 (.ref 304), de P "_law_value" 634 (.ref 311), de P "_law_judged_set" 644 (.ref 318), de P "_law_judged" 650 (.ref 323), de P "_law_holds" 663 (.ref 330), de P "law" 679 (.ref 337)] 58) #[]) ::
  (nat_lit 15, Obj.mk (.type "tuple") none (Data.seq #[.type "ValueError"]) #[]) ::
  (nat_lit 27, Obj.mk (.type "code") none (Data.fields #[vs "__init__" 201, vs "FlowError.__init__" 202, vs "/claim/cut.py" 203, .int 4 0, .int 3 0, .int 0 0, .int 0 0, .int 3 0, .ref 22, .bool true, .int 181 0, .ref 23, .none, .ref 24, .ref 25, .ref 26, .int 207 0, .int 4 0, vs "/claim/cut.py" 208]) #[]) ::
  (nat_lit 28, Obj.mk (.type "function") none (.func (PySem.W.fnOf "__init__" "FlowError.__init__" (defArgs (inClass (top 1) 0)) (defBody (inClass (top 1) 0)) (defScope (inClass (top 1) 0)) .none .none .none (vs "handflow.errors" 187) none (.ref 27) .none)) #[]) ::
  (nat_lit 29, Obj.mk (.type "tuple") none (Data.seq #[vs "place" 210]) #[]) ::
  (nat_lit 30, Obj.mk (.type "dict") none (Data.dict #[de P "__module__" 196 (vs "handflow.errors" 187), de P "__firstlineno__" 200 (.int 2 199), de P "__init__" 209 (.ref 28), de P "__static_attributes__" 211 (.ref 29), de P "__weakref__" 213 (.ref 32), de P "__doc__" 214 .none] 3) #[]) ::
  (nat_lit 31, Obj.mk (.type "type") none (Data.cls (ClassData.mk (Str.ofString "FlowError") [.type "ValueError"] [.ref 31, .type "ValueError", .type "Exception", .type "BaseException", .type "object"] 30 (Str.ofString "FlowError") true [] [.ref 44, .ref 56, .ref 68, .ref 80, .ref 92, .ref 104, .ref 116] false none false)) #[some (.ref 15), none, some (vs "FlowError" 189), some (vs "FlowError" 197), some (.builtin "ValueError.__new__"), some (.bool true)]) ::
  (nat_lit 32, Obj.mk (.type "getset_descriptor") none (Data.fields #[vs "__weakref__" 212, .ref 31, .builtin "ExceptionGroup.__weakref__", .none]) #[]) ::
  (nat_lit 35, Obj.mk (.type "tuple") none (Data.seq #[.ref 31]) #[]) ::
  (nat_lit 42, Obj.mk (.type "tuple") none (Data.seq #[]) #[]) ::
  (nat_lit 43, Obj.mk (.type "dict") none (Data.dict #[de P "__module__" 224 (vs "handflow.errors" 187), de P "__firstlineno__" 228 (.int 7 227), de P "__static_attributes__" 229 (.ref 42), de P "__doc__" 230 .none] 2) #[]) ::
  (nat_lit 44, Obj.mk (.type "type") none (Data.cls (ClassData.mk (Str.ofString "BadRow") [.ref 31] [.ref 44, .ref 31, .type "ValueError", .type "Exception", .type "BaseException", .type "object"] 43 (Str.ofString "BadRow") true [] [] false none false)) #[some (.ref 35), none, some (vs "BadRow" 217), some (vs "BadRow" 225), some (.builtin "ValueError.__new__"), some (.bool true)]) ::
  (nat_lit 47, Obj.mk (.type "tuple") none (Data.seq #[.ref 31]) #[]) ::
  (nat_lit 54, Obj.mk (.type "tuple") none (Data.seq #[]) #[]) ::
  (nat_lit 55, Obj.mk (.type "dict") none (Data.dict #[de P "__module__" 240 (vs "handflow.errors" 187), de P "__firstlineno__" 244 (.int 9 243), de P "__static_attributes__" 245 (.ref 54), de P "__doc__" 246 .none] 2) #[]) ::
  (nat_lit 56, Obj.mk (.type "type") none (Data.cls (ClassData.mk (Str.ofString "BadNest") [.ref 31] [.ref 56, .ref 31, .type "ValueError", .type "Exception", .type "BaseException", .type "object"] 55 (Str.ofString "BadNest") true [] [] false none false)) #[some (.ref 47), none, some (vs "BadNest" 233), some (vs "BadNest" 241), some (.builtin "ValueError.__new__"), some (.bool true)]) ::
  (nat_lit 59, Obj.mk (.type "tuple") none (Data.seq #[.ref 31]) #[]) ::
  (nat_lit 66, Obj.mk (.type "tuple") none (Data.seq #[]) #[]) ::
  (nat_lit 67, Obj.mk (.type "dict") none (Data.dict #[de P "__module__" 256 (vs "handflow.errors" 187), de P "__firstlineno__" 260 (.int 11 259), de P "__static_attributes__" 261 (.ref 66), de P "__doc__" 262 .none] 2) #[]) ::
  (nat_lit 68, Obj.mk (.type "type") none (Data.cls (ClassData.mk (Str.ofString "Twice") [.ref 31] [.ref 68, .ref 31, .type "ValueError", .type "Exception", .type "BaseException", .type "object"] 67 (Str.ofString "Twice") true [] [] false none false)) #[some (.ref 59), none, some (vs "Twice" 249), some (vs "Twice" 257), some (.builtin "ValueError.__new__"), some (.bool true)]) ::
  (nat_lit 71, Obj.mk (.type "tuple") none (Data.seq #[.ref 31]) #[]) ::
  (nat_lit 78, Obj.mk (.type "tuple") none (Data.seq #[]) #[]) ::
  (nat_lit 79, Obj.mk (.type "dict") none (Data.dict #[de P "__module__" 272 (vs "handflow.errors" 187), de P "__firstlineno__" 276 (.int 13 275), de P "__static_attributes__" 277 (.ref 78), de P "__doc__" 278 .none] 2) #[]) ::
  (nat_lit 80, Obj.mk (.type "type") none (Data.cls (ClassData.mk (Str.ofString "NoStore") [.ref 31] [.ref 80, .ref 31, .type "ValueError", .type "Exception", .type "BaseException", .type "object"] 79 (Str.ofString "NoStore") true [] [] false none false)) #[some (.ref 71), none, some (vs "NoStore" 265), some (vs "NoStore" 273), some (.builtin "ValueError.__new__"), some (.bool true)]) ::
  (nat_lit 83, Obj.mk (.type "tuple") none (Data.seq #[.ref 31]) #[]) ::
  (nat_lit 90, Obj.mk (.type "tuple") none (Data.seq #[]) #[]) ::
  (nat_lit 91, Obj.mk (.type "dict") none (Data.dict #[de P "__module__" 288 (vs "handflow.errors" 187), de P "__firstlineno__" 292 (.int 15 291), de P "__static_attributes__" 293 (.ref 90), de P "__doc__" 294 .none] 2) #[]) ::
  (nat_lit 92, Obj.mk (.type "type") none (Data.cls (ClassData.mk (Str.ofString "Hidden") [.ref 31] [.ref 92, .ref 31, .type "ValueError", .type "Exception", .type "BaseException", .type "object"] 91 (Str.ofString "Hidden") true [] [] false none false)) #[some (.ref 83), none, some (vs "Hidden" 281), some (vs "Hidden" 289), some (.builtin "ValueError.__new__"), some (.bool true)]) ::
  (nat_lit 95, Obj.mk (.type "tuple") none (Data.seq #[.ref 31]) #[]) ::
  (nat_lit 102, Obj.mk (.type "tuple") none (Data.seq #[]) #[]) ::
  (nat_lit 103, Obj.mk (.type "dict") none (Data.dict #[de P "__module__" 304 (vs "handflow.errors" 187), de P "__firstlineno__" 308 (.int 17 307), de P "__static_attributes__" 309 (.ref 102), de P "__doc__" 310 .none] 2) #[]) ::
  (nat_lit 104, Obj.mk (.type "type") none (Data.cls (ClassData.mk (Str.ofString "Starved") [.ref 31] [.ref 104, .ref 31, .type "ValueError", .type "Exception", .type "BaseException", .type "object"] 103 (Str.ofString "Starved") true [] [] false none false)) #[some (.ref 95), none, some (vs "Starved" 297), some (vs "Starved" 305), some (.builtin "ValueError.__new__"), some (.bool true)]) ::
  (nat_lit 107, Obj.mk (.type "tuple") none (Data.seq #[.ref 31]) #[]) ::
  (nat_lit 114, Obj.mk (.type "tuple") none (Data.seq #[]) #[]) ::
  (nat_lit 115, Obj.mk (.type "dict") none (Data.dict #[de P "__module__" 320 (vs "handflow.errors" 187), de P "__firstlineno__" 324 (.int 19 323), de P "__static_attributes__" 325 (.ref 114), de P "__doc__" 326 .none] 2) #[]) ::
  (nat_lit 116, Obj.mk (.type "type") none (Data.cls (ClassData.mk (Str.ofString "TooMuch") [.ref 31] [.ref 116, .ref 31, .type "ValueError", .type "Exception", .type "BaseException", .type "object"] 115 (Str.ofString "TooMuch") true [] [] false none false)) #[some (.ref 107), none, some (vs "TooMuch" 313), some (vs "TooMuch" 321), some (.builtin "ValueError.__new__"), some (.bool true)]) ::
  (nat_lit 119, Obj.mk (.type "tuple") none (Data.seq #[vs "ask" 331, vs "store" 332, vs "put" 333, vs "get" 334, vs "give" 335, vs "if" 336, vs "else" 337, vs "while" 338, vs "repeat" 339, vs "end" 340]) #[]) ::
  (nat_lit 120, Obj.mk (.type "tuple") none (Data.seq #[vs "+" 342, vs "-" 343, vs "*" 344, vs "/" 345, vs "<" 346, vs "=" 347, vs "&" 348, vs "|" 349, vs "^" 350]) #[]) ::
  (nat_lit 126, Obj.mk (.type "code") none (Data.fields #[vs "is_name" 360, vs "is_name" 361, vs "/claim/cut.py" 362, .int 28 0, .int 1 0, .int 0 0, .int 0 0, .int 3 0, .ref 121, .bool true, .int 181 0, .ref 122, .none, .ref 123, .ref 124, .ref 125, .int 364 0, .int 28 0, vs "/claim/cut.py" 365]) #[]) ::
  (nat_lit 127, Obj.mk (.type "function") none (.func (PySem.W.fnOf "is_name" "is_name" (defArgs (top 16)) (defBody (top 16)) (defScope (top 16)) .none .none .none (vs "handflow.words" 329) none (.ref 126) .none)) #[]) ::
  (nat_lit 133, Obj.mk (.type "code") none (Data.fields #[vs "number_in" 367, vs "number_in" 368, vs "/claim/cut.py" 369, .int 32 0, .int 1 0, .int 0 0, .int 0 0, .int 3 0, .ref 128, .bool true, .int 181 0, .ref 129, .none, .ref 130, .ref 131, .ref 132, .int 371 0, .int 32 0, vs "/claim/cut.py" 372]) #[]) ::
  (nat_lit 134, Obj.mk (.type "function") none (.func (PySem.W.fnOf "number_in" "number_in" (defArgs (top 17)) (defBody (top 17)) (defScope (top 17)) .none .none .none (vs "handflow.words" 329) none (.ref 133) .none)) #[]) ::
  (nat_lit 140, Obj.mk (.type "code") none (Data.fields #[vs "value_in" 374, vs "value_in" 375, vs "/claim/cut.py" 376, .int 40 0, .int 1 0, .int 0 0, .int 0 0, .int 3 0, .ref 135, .bool true, .int 181 0, .ref 136, .none, .ref 137, .ref 138, .ref 139, .int 378 0, .int 40 0, vs "/claim/cut.py" 379]) #[]) ::
  (nat_lit 141, Obj.mk (.type "function") none (.func (PySem.W.fnOf "value_in" "value_in" (defArgs (top 18)) (defBody (top 18)) (defScope (top 18)) .none .none .none (vs "handflow.words" 329) none (.ref 140) .none)) #[]) ::
  (nat_lit 145, Obj.mk (.type "code") none (Data.fields #[vs "is_made_of" 381, vs "is_made_of" 382, vs "/claim/cut.py" 383, .int 42 0, .int 2 0, .int 0 0, .int 0 0, .int 3 0, .ref 142, .bool true, .int 181 0, .ref 143, .none, .none, .none, .ref 144, .int 384 0, .int 42 0, vs "/claim/cut.py" 385]) #[]) ::
  (nat_lit 146, Obj.mk (.type "function") none (.func (PySem.W.fnOf "is_made_of" "is_made_of" (defArgs (top 19)) (defBody (top 19)) (defScope (top 19)) .none .none .none (vs "handflow.words" 329) none (.ref 145) .none)) #[]) ::
  (nat_lit 147, Obj.mk (.type "dict") none (Data.dict #[de P "ask" 389 (.ref 148), de P "store" 391 (.ref 149), de P "put" 394 (.ref 150), de P "get" 397 (.ref 151), de P "give" 400 (.ref 152), de P "if" 402 (.ref 153), de P "else" 404 (.ref 154), de P "while" 405 (.ref 155), de P "repeat" 407 (.ref 156), de P "end" 409 (.ref 157)] 10) #[]) ::
  (nat_lit 148, Obj.mk (.type "tuple") none (Data.seq #[vs "name" 390]) #[]) ::
  (nat_lit 149, Obj.mk (.type "tuple") none (Data.seq #[vs "name" 392, vs "length" 393]) #[]) ::
  (nat_lit 150, Obj.mk (.type "tuple") none (Data.seq #[vs "name" 395, vs "name" 396]) #[]) ::
  (nat_lit 151, Obj.mk (.type "tuple") none (Data.seq #[vs "name" 398, vs "name" 399]) #[]) ::
  (nat_lit 152, Obj.mk (.type "tuple") none (Data.seq #[vs "name" 401]) #[]) ::
  (nat_lit 153, Obj.mk (.type "tuple") none (Data.seq #[vs "name" 403]) #[]) ::
  (nat_lit 154, Obj.mk (.type "tuple") none (Data.seq #[]) #[]) ::
  (nat_lit 155, Obj.mk (.type "tuple") none (Data.seq #[vs "name" 406]) #[]) ::
  (nat_lit 156, Obj.mk (.type "tuple") none (Data.seq #[vs "rounds" 408]) #[]) ::
  (nat_lit 157, Obj.mk (.type "tuple") none (Data.seq #[]) #[]) ::
  (nat_lit 158, Obj.mk (.type "tuple") none (Data.seq #[vs "name" 421, vs "value" 422, vs "sign" 423, vs "value" 424]) #[]) ::
  (nat_lit 164, Obj.mk (.type "code") none (Data.fields #[vs "row_of" 430, vs "row_of" 431, vs "/claim/cut.py" 432, .int 49 0, .int 2 0, .int 0 0, .int 0 0, .int 3 0, .ref 159, .bool true, .int 181 0, .ref 160, .none, .ref 161, .ref 162, .ref 163, .int 437 0, .int 49 0, vs "/claim/cut.py" 438]) #[]) ::
  (nat_lit 165, Obj.mk (.type "function") none (.func (PySem.W.fnOf "row_of" "row_of" (defArgs (top 25)) (defBody (top 25)) (defScope (top 25)) .none .none .none (vs "handflow.rows" 387) none (.ref 164) .none)) #[]) ::
  (nat_lit 169, Obj.mk (.type "code") none (Data.fields #[vs "words_of" 440, vs "words_of" 441, vs "/claim/cut.py" 442, .int 57 0, .int 1 0, .int 0 0, .int 0 0, .int 3 0, .ref 166, .bool true, .int 181 0, .ref 167, .none, .none, .none, .ref 168, .int 443 0, .int 57 0, vs "/claim/cut.py" 444]) #[]) ::
  (nat_lit 170, Obj.mk (.type "function") none (.func (PySem.W.fnOf "words_of" "words_of" (defArgs (top 26)) (defBody (top 26)) (defScope (top 26)) .none .none .none (vs "handflow.rows" 387) none (.ref 169) .none)) #[]) ::
  (nat_lit 176, Obj.mk (.type "code") none (Data.fields #[vs "form_of" 446, vs "form_of" 447, vs "/claim/cut.py" 448, .int 59 0, .int 1 0, .int 0 0, .int 0 0, .int 3 0, .ref 171, .bool true, .int 181 0, .ref 172, .none, .ref 173, .ref 174, .ref 175, .int 452 0, .int 59 0, vs "/claim/cut.py" 453]) #[]) ::
  (nat_lit 177, Obj.mk (.type "function") none (.func (PySem.W.fnOf "form_of" "form_of" (defArgs (top 27)) (defBody (top 27)) (defScope (top 27)) .none .none .none (vs "handflow.rows" 387) none (.ref 176) .none)) #[]) ::
  (nat_lit 181, Obj.mk (.type "code") none (Data.fields #[vs "filled" 455, vs "filled" 456, vs "/claim/cut.py" 457, .int 69 0, .int 3 0, .int 0 0, .int 0 0, .int 3 0, .ref 178, .bool true, .int 181 0, .ref 179, .none, .none, .none, .ref 180, .int 458 0, .int 69 0, vs "/claim/cut.py" 459]) #[]) ::
  (nat_lit 182, Obj.mk (.type "function") none (.func (PySem.W.fnOf "filled" "filled" (defArgs (top 28)) (defBody (top 28)) (defScope (top 28)) .none .none .none (vs "handflow.rows" 387) none (.ref 181) .none)) #[]) ::
  (nat_lit 188, Obj.mk (.type "code") none (Data.fields #[vs "thing_in" 461, vs "thing_in" 462, vs "/claim/cut.py" 463, .int 76 0, .int 2 0, .int 0 0, .int 0 0, .int 3 0, .ref 183, .bool true, .int 181 0, .ref 184, .none, .ref 185, .ref 186, .ref 187, .int 466 0, .int 76 0, vs "/claim/cut.py" 467]) #[]) ::
  (nat_lit 189, Obj.mk (.type "function") none (.func (PySem.W.fnOf "thing_in" "thing_in" (defArgs (top 29)) (defBody (top 29)) (defScope (top 29)) .none .none .none (vs "handflow.rows" 387) none (.ref 188) .none)) #[]) ::
  (nat_lit 195, Obj.mk (.type "code") none (Data.fields #[vs "number_within" 469, vs "number_within" 470, vs "/claim/cut.py" 471, .int 86 0, .int 3 0, .int 0 0, .int 0 0, .int 3 0, .ref 190, .bool true, .int 181 0, .ref 191, .none, .ref 192, .ref 193, .ref 194, .int 476 0, .int 86 0, vs "/claim/cut.py" 477]) #[]) ::
  (nat_lit 196, Obj.mk (.type "function") none (.func (PySem.W.fnOf "number_within" "number_within" (defArgs (top 30)) (defBody (top 30)) (defScope (top 30)) .none .none .none (vs "handflow.rows" 387) none (.ref 195) .none)) #[]) ::
  (nat_lit 202, Obj.mk (.type "code") none (Data.fields #[vs "_law_cell_at" 481, vs "_law_cell_at" 482, vs "/claim/cut.py" 483, .int 92 0, .int 2 0, .int 0 0, .int 0 0, .int 3 0, .ref 197, .bool true, .int 181 0, .ref 198, .none, .ref 199, .ref 200, .ref 201, .int 486 0, .int 92 0, vs "/claim/cut.py" 487]) #[]) ::
  (nat_lit 203, Obj.mk (.type "function") none (.func (PySem.W.fnOf "_law_cell_at" "_law_cell_at" (defArgs (top 32)) (defBody (top 32)) (defScope (top 32)) .none .none .none (vs "law_handflow_k04_bad_rows" 479) none (.ref 202) .none)) #[]) ::
  (nat_lit 209, Obj.mk (.type "code") none (Data.fields #[vs "_law_mixed" 489, vs "_law_mixed" 490, vs "/claim/cut.py" 491, .int 96 0, .int 2 0, .int 0 0, .int 0 0, .int 3 0, .ref 204, .bool true, .int 181 0, .ref 205, .none, .ref 206, .ref 207, .ref 208, .int 495 0, .int 96 0, vs "/claim/cut.py" 496]) #[]) ::
  (nat_lit 210, Obj.mk (.type "function") none (.func (PySem.W.fnOf "_law_mixed" "_law_mixed" (defArgs (top 33)) (defBody (top 33)) (defScope (top 33)) .none .none .none (vs "law_handflow_k04_bad_rows" 479) none (.ref 209) .none)) #[]) ::
  (nat_lit 216, Obj.mk (.type "code") none (Data.fields #[vs "_law_sign_by" 498, vs "_law_sign_by" 499, vs "/claim/cut.py" 500, .int 99 0, .int 1 0, .int 0 0, .int 0 0, .int 3 0, .ref 211, .bool true, .int 181 0, .ref 212, .none, .ref 213, .ref 214, .ref 215, .int 503 0, .int 99 0, vs "/claim/cut.py" 504]) #[]) ::
  (nat_lit 217, Obj.mk (.type "function") none (.func (PySem.W.fnOf "_law_sign_by" "_law_sign_by" (defArgs (top 34)) (defBody (top 34)) (defScope (top 34)) .none .none .none (vs "law_handflow_k04_bad_rows" 479) none (.ref 216) .none)) #[]) ::
  (nat_lit 223, Obj.mk (.type "code") none (Data.fields #[vs "_law_keywords" 506, vs "_law_keywords" 507, vs "/claim/cut.py" 508, .int 103 0, .int 0 0, .int 0 0, .int 0 0, .int 3 0, .ref 218, .bool true, .int 181 0, .ref 219, .none, .ref 220, .ref 221, .ref 222, .int 509 0, .int 103 0, vs "/claim/cut.py" 510]) #[]) ::
  (nat_lit 224, Obj.mk (.type "function") none (.func (PySem.W.fnOf "_law_keywords" "_law_keywords" (defArgs (top 35)) (defBody (top 35)) (defScope (top 35)) .none .none .none (vs "law_handflow_k04_bad_rows" 479) none (.ref 223) .none)) #[]) ::
  (nat_lit 230, Obj.mk (.type "code") none (Data.fields #[vs "_law_letters" 512, vs "_law_letters" 513, vs "/claim/cut.py" 514, .int 105 0, .int 2 0, .int 0 0, .int 0 0, .int 3 0, .ref 225, .bool true, .int 181 0, .ref 226, .none, .ref 227, .ref 228, .ref 229, .int 519 0, .int 105 0, vs "/claim/cut.py" 520]) #[]) ::
  (nat_lit 231, Obj.mk (.type "function") none (.func (PySem.W.fnOf "_law_letters" "_law_letters" (defArgs (top 36)) (defBody (top 36)) (defScope (top 36)) .none .none .none (vs "law_handflow_k04_bad_rows" 479) none (.ref 230) .none)) #[]) ::
  (nat_lit 237, Obj.mk (.type "code") none (Data.fields #[vs "_law_is_name" 522, vs "_law_is_name" 523, vs "/claim/cut.py" 524, .int 111 0, .int 1 0, .int 0 0, .int 0 0, .int 3 0, .ref 232, .bool true, .int 181 0, .ref 233, .none, .ref 234, .ref 235, .ref 236, .int 527 0, .int 111 0, vs "/claim/cut.py" 528]) #[]) ::
  (nat_lit 238, Obj.mk (.type "function") none (.func (PySem.W.fnOf "_law_is_name" "_law_is_name" (defArgs (top 37)) (defBody (top 37)) (defScope (top 37)) .none .none .none (vs "law_handflow_k04_bad_rows" 479) none (.ref 237) .none)) #[]) ::
  (nat_lit 244, Obj.mk (.type "code") none (Data.fields #[vs "_law_number" 530, vs "_law_number" 531, vs "/claim/cut.py" 532, .int 118 0, .int 1 0, .int 0 0, .int 0 0, .int 3 0, .ref 239, .bool true, .int 181 0, .ref 240, .none, .ref 241, .ref 242, .ref 243, .int 536 0, .int 118 0, vs "/claim/cut.py" 537]) #[]) ::
  (nat_lit 245, Obj.mk (.type "function") none (.func (PySem.W.fnOf "_law_number" "_law_number" (defArgs (top 38)) (defBody (top 38)) (defScope (top 38)) .none .none .none (vs "law_handflow_k04_bad_rows" 479) none (.ref 244) .none)) #[]) ::
  (nat_lit 251, Obj.mk (.type "code") none (Data.fields #[vs "_law_name_by" 539, vs "_law_name_by" 540, vs "/claim/cut.py" 541, .int 129 0, .int 1 0, .int 0 0, .int 0 0, .int 3 0, .ref 246, .bool true, .int 181 0, .ref 247, .none, .ref 248, .ref 249, .ref 250, .int 549 0, .int 129 0, vs "/claim/cut.py" 550]) #[]) ::
  (nat_lit 252, Obj.mk (.type "function") none (.func (PySem.W.fnOf "_law_name_by" "_law_name_by" (defArgs (top 39)) (defBody (top 39)) (defScope (top 39)) .none .none .none (vs "law_handflow_k04_bad_rows" 479) none (.ref 251) .none)) #[]) ::
  (nat_lit 258, Obj.mk (.type "code") none (Data.fields #[vs "_law_value_by" 552, vs "_law_value_by" 553, vs "/claim/cut.py" 554, .int 143 0, .int 1 0, .int 0 0, .int 0 0, .int 3 0, .ref 253, .bool true, .int 181 0, .ref 254, .none, .ref 255, .ref 256, .ref 257, .int 558 0, .int 143 0, vs "/claim/cut.py" 559]) #[]) ::
  (nat_lit 259, Obj.mk (.type "function") none (.func (PySem.W.fnOf "_law_value_by" "_law_value_by" (defArgs (top 40)) (defBody (top 40)) (defScope (top 40)) .none .none .none (vs "law_handflow_k04_bad_rows" 479) none (.ref 258) .none)) #[]) ::
  (nat_lit 265, Obj.mk (.type "code") none (Data.fields #[vs "_law_from" 561, vs "_law_from" 562, vs "/claim/cut.py" 563, .int 151 0, .int 3 0, .int 0 0, .int 0 0, .int 3 0, .ref 260, .bool true, .int 181 0, .ref 261, .none, .ref 262, .ref 263, .ref 264, .int 567 0, .int 151 0, vs "/claim/cut.py" 568]) #[]) ::
  (nat_lit 266, Obj.mk (.type "function") none (.func (PySem.W.fnOf "_law_from" "_law_from" (defArgs (top 41)) (defBody (top 41)) (defScope (top 41)) .none .none .none (vs "law_handflow_k04_bad_rows" 479) none (.ref 265) .none)) #[]) ::
  (nat_lit 272, Obj.mk (.type "code") none (Data.fields #[vs "_law_row_by" 570, vs "_law_row_by" 571, vs "/claim/cut.py" 572, .int 155 0, .int 5 0, .int 0 0, .int 0 0, .int 3 0, .ref 267, .bool true, .int 181 0, .ref 268, .none, .ref 269, .ref 270, .ref 271, .int 585 0, .int 155 0, vs "/claim/cut.py" 586]) #[]) ::
  (nat_lit 273, Obj.mk (.type "function") none (.func (PySem.W.fnOf "_law_row_by" "_law_row_by" (defArgs (top 42)) (defBody (top 42)) (defScope (top 42)) .none .none .none (vs "law_handflow_k04_bad_rows" 479) none (.ref 272) .none)) #[]) ::
  (nat_lit 279, Obj.mk (.type "code") none (Data.fields #[vs "_law_spaced" 588, vs "_law_spaced" 589, vs "/claim/cut.py" 590, .int 181 0, .int 2 0, .int 0 0, .int 0 0, .int 3 0, .ref 274, .bool true, .int 181 0, .ref 275, .none, .ref 276, .ref 277, .ref 278, .int 595 0, .int 181 0, vs "/claim/cut.py" 596]) #[]) ::
  (nat_lit 280, Obj.mk (.type "function") none (.func (PySem.W.fnOf "_law_spaced" "_law_spaced" (defArgs (top 43)) (defBody (top 43)) (defScope (top 43)) .none .none .none (vs "law_handflow_k04_bad_rows" 479) none (.ref 279) .none)) #[]) ::
  (nat_lit 286, Obj.mk (.type "code") none (Data.fields #[vs "_law_same" 598, vs "_law_same" 599, vs "/claim/cut.py" 600, .int 189 0, .int 2 0, .int 0 0, .int 0 0, .int 3 0, .ref 281, .bool true, .int 181 0, .ref 282, .none, .ref 283, .ref 284, .ref 285, .int 605 0, .int 189 0, vs "/claim/cut.py" 606]) #[]) ::
  (nat_lit 287, Obj.mk (.type "function") none (.func (PySem.W.fnOf "_law_same" "_law_same" (defArgs (top 44)) (defBody (top 44)) (defScope (top 44)) .none .none .none (vs "law_handflow_k04_bad_rows" 479) none (.ref 286) .none)) #[]) ::
  (nat_lit 291, Obj.mk (.type "code") none (Data.fields #[vs "_law_is_refused" 608, vs "_law_is_refused" 609, vs "/claim/cut.py" 610, .int 200 0, .int 3 0, .int 0 0, .int 0 0, .int 3 0, .ref 288, .bool true, .int 181 0, .ref 289, .none, .none, .none, .ref 290, .int 611 0, .int 200 0, vs "/claim/cut.py" 612]) #[]) ::
  (nat_lit 292, Obj.mk (.type "function") none (.func (PySem.W.fnOf "_law_is_refused" "_law_is_refused" (defArgs (top 45)) (defBody (top 45)) (defScope (top 45)) .none .none .none (vs "law_handflow_k04_bad_rows" 479) none (.ref 291) .none)) #[]) ::
  (nat_lit 298, Obj.mk (.type "code") none (Data.fields #[vs "_law_odd_by" 614, vs "_law_odd_by" 615, vs "/claim/cut.py" 616, .int 211 0, .int 1 0, .int 0 0, .int 0 0, .int 3 0, .ref 293, .bool true, .int 181 0, .ref 294, .none, .ref 295, .ref 296, .ref 297, .int 619 0, .int 211 0, vs "/claim/cut.py" 620]) #[]) ::
  (nat_lit 299, Obj.mk (.type "function") none (.func (PySem.W.fnOf "_law_odd_by" "_law_odd_by" (defArgs (top 46)) (defBody (top 46)) (defScope (top 46)) .none .none .none (vs "law_handflow_k04_bad_rows" 479) none (.ref 298) .none)) #[]) ::
  (nat_lit 303, Obj.mk (.type "code") none (Data.fields #[vs "_law_spoilt" 622, vs "_law_spoilt" 623, vs "/claim/cut.py" 624, .int 217 0, .int 4 0, .int 0 0, .int 0 0, .int 3 0, .ref 300, .bool true, .int 181 0, .ref 301, .none, .none, .none, .ref 302, .int 625 0, .int 217 0, vs "/claim/cut.py" 626]) #[]) ::
  (nat_lit 304, Obj.mk (.type "function") none (.func (PySem.W.fnOf "_law_spoilt" "_law_spoilt" (defArgs (top 47)) (defBody (top 47)) (defScope (top 47)) .none .none .none (vs "law_handflow_k04_bad_rows" 479) none (.ref 303) .none)) #[]) ::
  (nat_lit 310, Obj.mk (.type "code") none (Data.fields #[vs "_law_value" 628, vs "_law_value" 629, vs "/claim/cut.py" 630, .int 242 0, .int 1 0, .int 0 0, .int 0 0, .int 3 0, .ref 305, .bool true, .int 181 0, .ref 306, .none, .ref 307, .ref 308, .ref 309, .int 632 0, .int 242 0, vs "/claim/cut.py" 633]) #[]) ::
  (nat_lit 311, Obj.mk (.type "function") none (.func (PySem.W.fnOf "_law_value" "_law_value" (defArgs (top 48)) (defBody (top 48)) (defScope (top 48)) .none .none .none (vs "law_handflow_k04_bad_rows" 479) none (.ref 310) .none)) #[]) ::
  (nat_lit 317, Obj.mk (.type "code") none (Data.fields #[vs "_law_judged_set" 635, vs "_law_judged_set" 636, vs "/claim/cut.py" 637, .int 246 0, .int 1 0, .int 0 0, .int 0 0, .int 3 0, .ref 312, .bool true, .int 181 0, .ref 313, .none, .ref 314, .ref 315, .ref 316, .int 642 0, .int 246 0, vs "/claim/cut.py" 643]) #[]) ::
  (nat_lit 318, Obj.mk (.type "function") none (.func (PySem.W.fnOf "_law_judged_set" "_law_judged_set" (defArgs (top 49)) (defBody (top 49)) (defScope (top 49)) .none .none .none (vs "law_handflow_k04_bad_rows" 479) none (.ref 317) .none)) #[]) ::
  (nat_lit 322, Obj.mk (.type "code") none (Data.fields #[vs "_law_judged" 645, vs "_law_judged" 646, vs "/claim/cut.py" 647, .int 258 0, .int 1 0, .int 0 0, .int 0 0, .int 3 0, .ref 319, .bool true, .int 181 0, .ref 320, .none, .none, .none, .ref 321, .int 648 0, .int 258 0, vs "/claim/cut.py" 649]) #[]) ::
  (nat_lit 323, Obj.mk (.type "function") none (.func (PySem.W.fnOf "_law_judged" "_law_judged" (defArgs (top 50)) (defBody (top 50)) (defScope (top 50)) .none .none .none (vs "law_handflow_k04_bad_rows" 479) none (.ref 322) .none)) #[]) ::
  (nat_lit 329, Obj.mk (.type "code") none (Data.fields #[vs "_law_holds" 651, vs "_law_holds" 652, vs "/claim/cut.py" 653, .int 277 0, .int 2 0, .int 0 0, .int 0 0, .int 3 0, .ref 324, .bool true, .int 181 0, .ref 325, .none, .ref 326, .ref 327, .ref 328, .int 661 0, .int 277 0, vs "/claim/cut.py" 662]) #[]) ::
  (nat_lit 330, Obj.mk (.type "function") none (.func (PySem.W.fnOf "_law_holds" "_law_holds" (defArgs (top 51)) (defBody (top 51)) (defScope (top 51)) .none .none .none (vs "law_handflow_k04_bad_rows" 479) none (.ref 329) .none)) #[]) ::
  (nat_lit 336, Obj.mk (.type "code") none (Data.fields #[vs "law" 664, vs "law" 665, vs "/claim/cut.py" 666, .int 289 0, .int 1 0, .int 0 0, .int 0 0, .int 3 0, .ref 331, .bool true, .int 181 0, .ref 332, .none, .ref 333, .ref 334, .ref 335, .int 677 0, .int 289 0, vs "/claim/cut.py" 678]) #[]) ::
  (nat_lit 337, Obj.mk (.type "function") none (.func (PySem.W.fnOf "law" "law" (defArgs (top 52)) (defBody (top 52)) (defScope (top 52)) .none .none .none (vs "law_handflow_k04_bad_rows" 479) none (.ref 336) .none)) #[]) ::
  []
noncomputable def hks : List Addr := [2, 3, 15, 27, 28, 29, 30, 31, 32, 35, 42, 43, 44, 47, 54, 55, 56, 59, 66, 67, 68, 71, 78, 79, 80, 83, 90, 91, 92, 95, 102, 103, 104, 107, 114, 115, 116, 119, 120, 126, 127, 133, 134, 140, 141, 145, 146, 147, 148, 149, 150, 151, 152, 153, 154, 155, 156, 157, 158, 164, 165, 169, 170, 176, 177, 181, 182, 188, 189, 195, 196, 202, 203, 209, 210, 216, 217, 223, 224, 230, 231, 237, 238, 244, 245, 251, 252, 258, 259, 265, 266, 272, 273, 279, 280, 286, 287, 291, 292, 298, 299, 303, 304, 310, 311, 317, 318, 322, 323, 329, 330, 336, 337]
theorem hk_as : ∀ P, hks = (hk P).map (·.1) := fun _ => by kernel_rfl
noncomputable def vw : Program := PySem.W.view PySem.Challenge.pw_handflow_k04_bad_rows [1, 2, 3, 4, 5, 6, 7, 8, 10, 11, 12, 13, 14, 15, 16, 17, 18, 19, 21, 22, 23, 24, 25, 26, 27, 28, 29, 30, 32, 33, 34, 35, 36, 37, 38, 39, 40, 41, 42, 43, 44, 45, 46, 47, 48, 49, 50, 51, 52]
noncomputable def hkH : PySem.W.Hook := PySem.W.kHook hk hks hk_as
noncomputable def xt (s : Shared) : Bool := PySem.W.xlAt vw [] s && PySem.W.recOk (PySem.W.RowW.records (PySem.W.OpenRow.toRowW (PySem.W.OpenLaw.row PySem.Challenge.rw_handflow_k04_bad_rows))) s
noncomputable def bt (P : Params) : PySem.W.BT := (.node (PySem.W.boot_o_0 P) (.node (PySem.W.boot_o_1 P) (.node (PySem.W.boot_o_3 P) (.node (PySem.W.boot_o_7 P) .nil .nil) .nil) (.node (PySem.W.boot_o_5 P) (.node (PySem.W.boot_o_9 P) .nil .nil) .nil)) (.node (PySem.W.boot_o_2 P) (.node (PySem.W.boot_o_4 P) (.node (PySem.W.boot_o_8 P) .nil .nil) .nil) (.node (PySem.W.boot_o_6 P) (.node (PySem.W.boot_o_10 P) .nil .nil) .nil)))
theorem bt_is (P : Params) : PySem.W.absHeap (bt P) 11 {} = PySem.W.boot_heap P := by kernel_rfl
noncomputable def bs (P : Params) (os : OsState) : PySem.W.SharedT := ⟨bt P, 11, {}, #[], PySem.W.boot_drawn, PySem.W.boot_toks, os⟩
theorem bs_is (P : Params) (os : OsState) : (bs P os).abs = ⟨PySem.W.boot_heap P, #[], PySem.W.boot_drawn, PySem.W.boot_toks, os⟩ := by
  unfold bs PySem.W.SharedT.abs; rw [bt_is]
def goT (p : Program) (w : World) (A : Option Value) : Nat → PySem.W.SharedT → Thread → Option PySem.W.SharedT
  | 0, _, _ => none
  | m + 1, x, y => match PySem.W.through y with
    | true => some x
    | false => match PySem.W.stepOk 11 A y with
      | false => none
      | true => match PySem.W.stepT (denote PySem.treeTable) p w x y with
        | none => none
        | some (x', y') => goT p w A m x' y'
noncomputable abbrev annB (w : World) : Option Value := (PySem.W.boot_heap w.params).nsMap mainGlobals "__annotations__"
def EndsT (p q : Program) (loose : List Str) (Xt : Shared → Bool) {α : Type} (Yf : Shared → α) (Ya : World → α) (N : Nat) (w : World) : Prop :=
  ∀ os : OsState, (goT p w (annB w) N (bs w.params os) (PySem.W.topStub p)).map (fun s => (PySem.W.staticsOk (PySem.importedModules p.main.body) (PySem.W.boot_heap w.params) s.abs.heap && PySem.W.namesBound p s.abs.heap && PySem.W.gensDone s.abs && PySem.W.laidKept (PySem.W.boot_heap w.params) s.abs.heap, PySem.W.openSeen q loose (PySem.importedModules p.main.body) Xt true s.abs, Yf s.abs)) = some (true, PySem.W.openGood q loose, Ya w)
set_option maxHeartbeats 0 in
theorem leftF : ∀ w : World, EndsT PySem.Challenge.pw_handflow_k04_bad_rows vw [("FORMS" : Str)] xt hkH.obs hkH.val 6084 (w.withFollow "special-get-raises" false) := fun w os => by kernel_rfl
set_option maxHeartbeats 0 in
theorem leftT : ∀ w : World, EndsT PySem.Challenge.pw_handflow_k04_bad_rows vw [("FORMS" : Str)] xt hkH.obs hkH.val 6084 (w.withFollow "special-get-raises" true) := fun w os => by kernel_rfl
end K04
namespace L2
open PySem PySem.Spec PyProof.Rows
abbrev Key := Sum Int Str
def keyIs : Key → Value → Bool
  | .inl k, v => Value.isInt k v
  | .inr x, v => Value.isStrOf x v
def keyH (w : World) : Key → Int
  | .inl k => hashInt k
  | .inr x => hashStr w x
theorem keyIs_shape : ∀ {k : Key} {v : Value}, keyIs k v = true → (∃ i t, k = Sum.inl i ∧ v = Value.int i t) ∨ (∃ x t, k = Sum.inr x ∧ v = Value.str x t)
  | .inl i, v, h => by
    obtain ⟨t, e⟩ := Value.isInt_shape (k := i) (v := v) h
    exact .inl ⟨i, t, rfl, e⟩
  | .inr x, v, h => by
    obtain ⟨t, e⟩ := Value.isStrOf_shape (x := x) (v := v) h
    exact .inr ⟨x, t, rfl, e⟩
theorem keyIs_int (i : Int) (t : Tok) : keyIs (.inl i) (.int i t) = true := by simp [keyIs, Value.isInt]
theorem keyIs_str (x : Str) (t : Tok) : keyIs (.inr x) (.str x t) = true := by simp [keyIs, Value.isStrOf]
theorem key_ll (a b : Int) : decide ((Sum.inl a : Key) = Sum.inl b) = (a == b) := by
  by_cases e : a = b
  · subst e; simp
  · have h : ¬ (Sum.inl a : Key) = Sum.inl b := fun q => e (Sum.inl.inj q)
    rw [decide_eq_false h]
    exact (beq_eq_false_iff_ne.mpr e).symm
theorem key_rr (a b : Str) : decide ((Sum.inr a : Key) = Sum.inr b) = decide (a = b) := by
  by_cases e : a = b
  · subst e; simp
  · have h : ¬ (Sum.inr a : Key) = Sum.inr b := fun q => e (Sum.inr.inj q)
    rw [decide_eq_false h, decide_eq_false e]
theorem key_lr (a : Int) (b : Str) : decide ((Sum.inl a : Key) = Sum.inr b) = false := decide_eq_false (fun q => nomatch q)
theorem key_rl (a : Str) (b : Int) : decide ((Sum.inr a : Key) = Sum.inl b) = false := decide_eq_false (fun q => nomatch q)
def mixKind (prog : Program) (w : World) : PySem.KeyKind prog w Key where
  is := keyIs
  hash := keyH w
  inj := fun v a b ha hb => by
    rcases keyIs_shape ha with ⟨i, t, rfl, rfl⟩ | ⟨x, t, rfl, rfl⟩
    · rcases keyIs_shape hb with ⟨j, u, rfl, e⟩ | ⟨y, u, rfl, e⟩
      · injection e with e1 _; rw [e1]
      · exact nomatch e
    · rcases keyIs_shape hb with ⟨j, u, rfl, e⟩ | ⟨y, u, rfl, e⟩
      · exact nomatch e
      · injection e with e1 _; rw [e1]
  byValue := fun k v h => by
    rcases keyIs_shape h with ⟨i, t, rfl, rfl⟩ | ⟨x, t, rfl, rfl⟩ <;> rfl
  pyHash := fun hv h => by
    rcases keyIs_shape hv with ⟨i, t, rfl, rfl⟩ | ⟨x, t, rfl, rfl⟩
    · exact wpAny_pyHash_int h
    · exact wpAny_pyHash_str h
  eqBool := fun hu hv h => by
    rcases keyIs_shape hu with ⟨i, t, rfl, rfl⟩ | ⟨x, t, rfl, rfl⟩
    · rcases keyIs_shape hv with ⟨j, u, rfl, rfl⟩ | ⟨y, u, rfl, rfl⟩
      · rw [key_ll] at h; exact wpAny_eqBool_int h
      · rw [key_lr] at h; exact SeqAt.EqAt.int_str i t y u _ _ _ _ h
    · rcases keyIs_shape hv with ⟨j, u, rfl, rfl⟩ | ⟨y, u, rfl, rfl⟩
      · rw [key_rl] at h; exact SeqAt.EqAt.str_int x t j u _ _ _ _ h
      · rw [key_rr] at h; exact wpAny_eqBool_str h
  «strs» := fun k x t v h => by
    rcases keyIs_shape h with ⟨i, u, rfl, e⟩ | ⟨y, u, rfl, e⟩
    · exact nomatch e
    · injection e with e1 _
      subst e1
      cases v <;> rfl
theorem mixKind_int (prog : Program) (w : World) (i : Int) (t : Tok) : (mixKind prog w).is (.inl i) (.int i t) = true := keyIs_int i t
theorem mixKind_str (prog : Program) (w : World) (x : Str) (t : Tok) : (mixKind prog w).is (.inr x) (.str x t) = true := keyIs_str x t
end L2
namespace L2
open PySem PySem.Spec PyProof.Rows
inductive V where
  | non | bl (b : Bool) | int (i : Int) | str (x : Str) | byt (b : Array UInt8) | flt (b : UInt64) | ref (a : Addr) | ty (n : String)
  deriving DecidableEq
def RelV : V → Value → Prop
  | .non, u => u = Value.none
  | .bl b, u => u = Value.bool b
  | .int i, u => ∃ t, u = Value.int i t
  | .str x, u => ∃ t, u = Value.str x t
  | .byt b, u => ∃ t, u = Value.bytes b t
  | .flt b, u => ∃ t, u = Value.float b t
  | .ref a, u => u = Value.ref a
  | .ty n, u => u = Value.type n
abbrev Vals : List V → List Value → Prop := Paired RelV
theorem Vals.length {xs : List V} {us : List Value} (r : Vals xs us) : xs.length = us.length := Paired.length r
theorem Vals.get : ∀ {xs : List V} {us : List Value} {i : Nat} {x : V}, Vals xs us → xs[i]? = some x → ∃ u, us[i]? = some u ∧ RelV x u
  | _, _, _, _, .nil, e => by simp at e
  | _, _, 0, _, .cons r _, e => by simp at e; subst e; exact ⟨_, rfl, r⟩
  | _, _, i + 1, x, .cons _ t, e => by
    obtain ⟨u, h1, h2⟩ := Vals.get (i := i) (x := x) t (by simpa using e)
    exact ⟨u, by simpa using h1, h2⟩
theorem Vals.set {x : V} {u : Value} (r : RelV x u) : ∀ {xs : List V} {us : List Value} (i : Nat), Vals xs us → Vals (xs.set i x) (us.set i u)
  | _, _, _, .nil => .nil
  | _, _, 0, .cons _ t => .cons r t
  | _, _, i + 1, .cons q t => .cons q (Vals.set r i t)
theorem Vals.append : ∀ {xs ys : List V} {us ws : List Value}, Vals xs us → Vals ys ws → Vals (xs ++ ys) (us ++ ws)
  | _, _, _, _, .nil, s => s
  | _, _, _, _, .cons r t, s => .cons r (Vals.append t s)
theorem Vals.take : ∀ {xs : List V} {us : List Value} (n : Nat), Vals xs us → Vals (xs.take n) (us.take n)
  | _, _, 0, _ => .nil
  | _, _, _ + 1, .nil => .nil
  | _, _, n + 1, .cons r t => .cons r (Vals.take n t)
theorem Vals.drop : ∀ {xs : List V} {us : List Value} (n : Nat), Vals xs us → Vals (xs.drop n) (us.drop n)
  | _, _, 0, r => r
  | _, _, _ + 1, .nil => .nil
  | _, _, n + 1, .cons _ t => Vals.drop n t
def RelO : Option V → Option Value → Prop
  | some v, some u => RelV v u
  | none, none => True
  | _, _ => False
def KV {κ : Type} : List (κ × V) → List (κ × Value) → Prop := Paired fun (p : κ × V) (q : κ × Value) => p.1 = q.1 ∧ RelV p.2 q.2
def kV : Key → V
  | .inl i => .int i
  | .inr x => .str x
inductive HO where
  | lst (xs : List V)
  | tup (xs : List V)
  | dK (kvs : List (Key × V)) | dT (kvs : List (List Key × V))
  | set (S : Int → Bool) (n : Nat)
  | ins (C dx : Addr) (fs : List (Str × V))
  | own (x : Addr)
  | xd (fs : List (Str × V))
  | met (f x : Addr)
  | rng (lo hi : Int)
  | frz (o : Obj) (u : HO)
  | tbl (ps : Array Value)
  | ext (φ : Heap → Prop)
abbrev Hp := Addr → Option HO
def upd (H : Hp) (a : Addr) (o : HO) : Hp := fun b => if b = a then some o else H b
theorem upd_same {H : Hp} {a : Addr} {o : HO} : upd H a o a = some o := by unfold upd; rw [if_pos rfl]
theorem upd_ne {H : Hp} {a b : Addr} {o : HO} (h : b ≠ a) : upd H a o b = H b := by unfold upd; rw [if_neg h]
theorem ne_of_none {H : Hp} {a b : Addr} {o : HO} (h : H a = some o) (h' : H b = none) : a ≠ b := by
  intro e; subst e; rw [h] at h'; cases h'
section
variable (P : Program) (w : World)
def ObjOk (H : Hp) (h : Heap) (a : Addr) : HO → Prop
  | .lst xs => xs.length ≤ sizeLine ∧ ∃ (its : List Value) (n : Nat), Vals xs its ∧ h.get? a = some { cls := .type "list", data := .seq its.toArray n }
  | .tup xs => xs.length ≤ sizeLine ∧ ∃ its : List Value, Vals xs its ∧ IsTup h a its.toArray
  | .dK kvs => kvs.length ≤ sizeLine ∧ (a == sysModules) = false ∧ ∃ vs, KV kvs vs ∧ h.DictOf (mixKind P w) a vs
  | .dT kvs => kvs.length ≤ sizeLine ∧ (a == sysModules) = false ∧ ∃ xs : List (List Key × Addr × Value),
      Paired (fun (p : List Key × V) (q : List Key × Addr × Value) => p.1 = q.1 ∧ H q.2.1 = some (.tup (p.1.map kV)) ∧ RelV p.2 q.2.2) kvs xs ∧
      ∃ o es ep, h.get? a = some o ∧ o.ExactDict ∧ o.data = .dict es ep ∧ es.toList = xs.map (entryOfKey (tupleKind (mixKind P w))) ∧ (xs.map (·.1)).Nodup
  | .set S n => h.SetOf (intKind P w) a S n
  | .ins C dx fs => H dx = some (.own a) ∧ fs.length ≤ 1000 ∧ dx ≠ a ∧ h.get? a = some (PySem.W.instObj C dx) ∧
      ∃ mA, h.Ns1 dx mA ∧ (∀ f, RelO (fs.lookup f) (mA f)) ∧ PySem.Within mA (fs.map (·.1))
  | .own _ => ∃ o, h.get? a = some o
  | .xd fs => ∃ mA, h.Ns1 a mA ∧ ∀ f, RelO (fs.lookup f) (mA f)
  | .rng lo hi => ∃ t u v, h.get? a = some { cls := .type "range", data := .fields #[.int lo t, .int hi u, .int 1 v] }
  | .frz o u => h.get? a = some o ∧ ObjOk H h a u
  | .tbl ps => h.get? a = some { cls := .none, data := .fields ps }
  | .met f x => h.get? a = some (PySem.W.methodObj (.ref f) (.ref x))
  | .ext φ => φ h ∧ (∃ o, h.get? a = some o) ∧ ∀ h1 h2 : Heap, φ h1 → (∀ o, h1.get? a = some o → h2.get? a = some o) → φ h2
def HOk (H : Hp) (h : Heap) : Prop := ∀ a o, H a = some o → ObjOk P w H h a o
end
section
variable {P : Program} {w : World} {H H' : Hp} {h h' : Heap} {a : Addr} {o : HO}
theorem ObjOk.lt (x : ObjOk P w H h a o) : a < h.objs.size := by
  cases o with
  | lst xs => obtain ⟨_, _, _, _, e⟩ := x; exact Heap.lt_size e
  | tup xs => obtain ⟨_, _, _, p⟩ := x; exact p.lt
  | dK kvs => obtain ⟨_, _, _, _, o, _, _, e, _⟩ := x; exact Heap.lt_size e
  | dT kvs => obtain ⟨_, _, _, _, o, _, _, e, _⟩ := x; exact Heap.lt_size e
  | set S n => obtain ⟨o, _, _, _, e, _⟩ := x; exact Heap.lt_size e
  | ins C dx fs => obtain ⟨_, _, _, e, _⟩ := x; exact Heap.lt_size e
  | own y => obtain ⟨_, e⟩ := x; exact Heap.lt_size e
  | xd fs => obtain ⟨_, ⟨_, _, _, e, _⟩, _⟩ := x; exact Heap.lt_size e
  | rng lo hi => obtain ⟨_, _, _, e⟩ := x; exact Heap.lt_size e
  | frz ob u => obtain ⟨e, _⟩ := x; exact Heap.lt_size e
  | tbl ps => exact Heap.lt_size (show h.get? a = some _ from x)
  | met f y => exact Heap.lt_size (show h.get? a = some _ from x)
  | ext φ => obtain ⟨_, ⟨_, e⟩, _⟩ := x; exact Heap.lt_size e
theorem Paired.mapP {α β : Type} {F G : α → β → Prop} : ∀ {l₁ : List α} {l₂ : List β}, Paired F l₁ l₂ → (∀ a b, F a b → G a b) → Paired G l₁ l₂
  | _, _, .nil, _ => .nil
  | _, _, .cons r t, f => .cons (f _ _ r) (Paired.mapP t f)
theorem ObjOk.stay (x : ObjOk P w H h a o) (k : ∀ b u, (b = a ∨ H b = some (.own a)) → h.get? b = some u → h'.get? b = some u)
    (ho : ∀ b, H b = some (.own a) → H' b = some (.own a)) (ht : ∀ b xs, H b = some (.tup xs) → H' b = some (.tup xs)) : ObjOk P w H' h' a o := by
  induction o with
  | lst xs => obtain ⟨z, its, n, r, e⟩ := x; exact ⟨z, its, n, r, k _ _ (.inl rfl) e⟩
  | tup xs => obtain ⟨z, its, r, ob, e, c⟩ := x; exact ⟨z, its, r, ob, k _ _ (.inl rfl) e, c⟩
  | dK kvs => obtain ⟨z, y, vs, r, ob, es, ep, e, c⟩ := x; exact ⟨z, y, vs, r, ob, es, ep, k _ _ (.inl rfl) e, c⟩
  | dT kvs =>
    obtain ⟨z, y, xs, r, ob, es, ep, e, c⟩ := x
    exact ⟨z, y, xs, Paired.mapP r fun p q z => ⟨z.1, ht _ _ z.2.1, z.2.2⟩, ob, es, ep, k _ _ (.inl rfl) e, c⟩
  | set S n => obtain ⟨ob, es, ep, t, e, c⟩ := x; exact ⟨ob, es, ep, t, k _ _ (.inl rfl) e, c⟩
  | ins C dx fs =>
    obtain ⟨d, z, ne, e, mA, ⟨od, es, ep, e2, c⟩, r⟩ := x
    exact ⟨ho _ d, z, ne, k _ _ (.inl rfl) e, mA, ⟨od, es, ep, k _ _ (.inr d) e2, c⟩, r⟩
  | own y => obtain ⟨ob, e⟩ := x; exact ⟨ob, k _ _ (.inl rfl) e⟩
  | xd fs => obtain ⟨mA, ⟨od, es, ep, e, c⟩, r⟩ := x; exact ⟨mA, ⟨od, es, ep, k _ _ (.inl rfl) e, c⟩, r⟩
  | rng lo hi => obtain ⟨t, u, v, e⟩ := x; exact ⟨t, u, v, k _ _ (.inl rfl) e⟩
  | frz ob u ih => obtain ⟨e, q⟩ := x; exact ⟨k _ _ (.inl rfl) e, ih q⟩
  | tbl ps =>
    have e : h.get? a = some { cls := .none, data := .fields ps } := x
    show h'.get? a = some { cls := .none, data := .fields ps }
    exact k a _ (.inl rfl) e
  | met f y =>
    have e : h.get? a = some (PySem.W.methodObj (.ref f) (.ref y)) := x
    show h'.get? a = some (PySem.W.methodObj (.ref f) (.ref y))
    exact k a _ (.inl rfl) e
  | ext φ => obtain ⟨p, ⟨o, e⟩, st⟩ := x; exact ⟨st _ _ p fun o q => k _ _ (.inl rfl) q, ⟨o, k _ _ (.inl rfl) e⟩, st⟩
theorem HOk.lt (x : HOk P w H h) (e : H a = some o) : a < h.objs.size := (x a o e).lt
theorem HOk.fresh (x : HOk P w H h) (e : h.objs.size ≤ a) : H a = none := by
  cases q : H a with
  | none => rfl
  | some u => exact absurd (Nat.lt_of_lt_of_le (x.lt q) e) (Nat.lt_irrefl _)
theorem HOk.kept (x : HOk P w H h) (k : ∀ b u, h.get? b = some u → h'.get? b = some u) : HOk P w H h' := fun a o e =>
  (x a o e).stay (fun b u _ q => k b u q) (fun _ q => q) fun _ _ q => q
theorem HOk.laid (x : HOk P w H h) (k : ∀ b u, h.get? b = some u → h'.get? b = some u) (hp : h.objs.size ≤ a) (new : ObjOk P w (upd H a o) h' a o) : HOk P w (upd H a o) h' := fun b u e => by
  have hn := x.fresh hp
  by_cases hb : b = a
  · subst hb; rw [upd_same] at e; cases e; exact new
  · rw [upd_ne hb] at e
    exact (x b u e).stay (fun c v _ q => k c v q) (fun c q => by rw [upd_ne (ne_of_none q hn)]; exact q) fun c xs q => by rw [upd_ne (ne_of_none q hn)]; exact q
end
def Rd (H : Hp) (a : Addr) (u : HO) : Prop := H a = some u ∨ ∃ o, H a = some (.frz o u)
theorem Rd.ok {P : Program} {w : World} {H : Hp} {h : Heap} {a : Addr} {u : HO} (r : Rd H a u) (x : HOk P w H h) : ObjOk P w H h a u := by
  rcases r with r | ⟨o, r⟩
  · exact x a u r
  · obtain ⟨_, q⟩ := x a _ r
    exact q
def Mut : Option HO → Prop
  | some (.lst _) => True
  | some (.dK _) => True
  | some (.dT _) => True
  | some (.set _ _) => True
  | some (.ins _ _ _) => True
  | some (.ext _) => True
  | _ => False
section
variable {P : Program} {w : World} {H : Hp} {h h' : Heap} {x e : Addr} {o' : HO}
theorem HOk.write (ok : HOk P w H h) (mu : Mut (H x)) (he : e = x ∨ H e = some (.own x)) (k : ∀ b u, b ≠ e → h.get? b = some u → h'.get? b = some u) (heo : ∃ u, h'.get? e = some u)
    (new : ObjOk P w (upd H x o') h' x o') : HOk P w (upd H x o') h' := fun b u q => by
  have nown : ∀ c y, H c = some (.own y) → c ≠ x := fun c y r z => by subst z; rw [r] at mu; exact mu
  have ntup : ∀ c xs, H c = some (.tup xs) → c ≠ x := fun c xs r z => by subst z; rw [r] at mu; exact mu
  by_cases hb : b = x
  · subst hb; rw [upd_same] at q; cases q; exact new
  · rw [upd_ne hb] at q
    by_cases hbe : b = e
    · have q' : H b = some (.own x) := by
        rcases he with z | z
        · exact absurd (hbe.trans z) hb
        · rw [hbe]; exact z
      rw [q] at q'; cases q'
      obtain ⟨v, hv⟩ := heo
      exact ⟨v, by rw [hbe]; exact hv⟩
    · refine (ok b u q).stay (fun c v hc r => k c v ?_ r) (fun c r => by rw [upd_ne (nown c b r)]; exact r) fun c xs r => by rw [upd_ne (ntup c xs r)]; exact r
      rcases hc with rfl | hc
      · exact hbe
      · rintro rfl
        rcases he with z | z
        · exact nown c b hc z
        · rw [hc] at z; cases z; exact hb rfl
end
structure Un (fs ex : List Addr) (H H' : Hp) (h h' : Heap) : Prop where
  keep : ∀ b o, h.get? b = some o → H b = none → b ∉ fs → b ∉ ex → h'.get? b = some o
  slot : ∀ b o, h.get? b = some o → H b = none → b ∈ fs → b ∉ ex → ∃ sl, h'.get? b = some { o with slots := sl }
  free : ∀ b o, h.get? b = some o → H b = none → b ∉ ex → H' b = none
  there : ∀ b o, h.get? b = some o → b ∉ ex → ∃ o', h'.get? b = some o'
  tups : ∀ b xs, H b = some (.tup xs) → H' b = some (.tup xs)
  frzs : ∀ b o u, H b = some (.frz o u) → H' b = some (.frz o u)
  tbls : ∀ b ps, H b = some (.tbl ps) → ∃ more, H' b = some (.tbl (ps ++ more))
section
variable {fs fs' ex ex' : List Addr} {H H1 H2 : Hp} {h h1 h2 h' : Heap} {a x e : Addr} {o : HO}
theorem Un.any (u : Un fs ex H H1 h h1) {b : Addr} {ob : Obj} (q : h.get? b = some ob) (n : H b = none) (hx : b ∉ ex) : ∃ sl, h1.get? b = some { ob with slots := sl } := by
  by_cases hb : b ∈ fs
  · exact u.slot b ob q n hb hx
  · exact ⟨ob.slots, u.keep b ob q n hb hx⟩
theorem Un.kept (k : ∀ b u, h.get? b = some u → h'.get? b = some u) : Un fs ex H H h h' :=
  ⟨fun b ob q _ _ _ => k b ob q, fun b ob q _ _ _ => ⟨ob.slots, k b ob q⟩, fun _ _ _ n _ => n, fun b ob q _ => ⟨ob, k b ob q⟩, fun _ _ q => q, fun _ _ _ q => q, fun _ ps q => ⟨#[], by rw [q]; simp⟩⟩
theorem Un.refl : Un fs ex H H h h := Un.kept fun _ _ q => q
theorem Un.laid (k : ∀ b u, h.get? b = some u → h'.get? b = some u) (hp : h.objs.size ≤ a) (hn : H a = none) : Un fs ex H (upd H a o) h h' where
  keep := fun b u q _ _ _ => k b u q
  slot := fun b u q _ _ _ => ⟨u.slots, k b u q⟩
  free := fun b u q n _ => by rw [upd_ne (Nat.ne_of_lt (Nat.lt_of_lt_of_le (Heap.lt_size q) hp))]; exact n
  there := fun b u q _ => ⟨u, k b u q⟩
  tups := fun b xs q => by rw [upd_ne (ne_of_none q hn)]; exact q
  frzs := fun b u xs q => by rw [upd_ne (ne_of_none q hn)]; exact q
  tbls := fun b ps q => ⟨#[], by rw [upd_ne (ne_of_none q hn), q]; simp⟩
theorem Un.write (mu : Mut (H x)) (he : e = x ∨ H e = some (.own x)) (k : ∀ b u, b ≠ e → h.get? b = some u → h'.get? b = some u) (heo : ∃ u, h'.get? e = some u) : Un fs ex H (upd H x o) h h' := by
  have hx : ∀ b, H b = none → b ≠ x := fun b n z => by subst z; rw [n] at mu; exact mu
  have hb : ∀ b, H b = none → b ≠ e := fun b n z => by
    subst z
    rcases he with r | r
    · exact hx b n r
    · rw [n] at r; cases r
  have hm : ∀ b u, H b = some u → ¬ Mut (some u) → b ≠ x := fun b u q nm z => by subst z; rw [q] at mu; exact nm mu
  refine ⟨fun b u q n _ _ => k b u (hb b n) q, fun b u q n _ _ => ⟨u.slots, k b u (hb b n) q⟩, fun b u q n _ => by rw [upd_ne (hx b n)]; exact n, fun b u q _ => ?_,
    fun b xs q => by rw [upd_ne (hm b _ q fun z => z)]; exact q, fun b u xs q => by rw [upd_ne (hm b _ q fun z => z)]; exact q, fun b ps q => ⟨#[], by rw [upd_ne (hm b _ q fun z => z), q]; simp⟩⟩
  by_cases hbe : b = e
  · subst hbe; exact heo
  · exact ⟨u, k b u hbe q⟩
end
def trk (h : Heap) (H : Hp) : List Addr := (List.range h.objs.size).filter fun a => (H a).isSome
def hidT (h : Heap) (H : Hp) : Heap := PySem.W.hideAll h (trk h H)
theorem hidT_size (h : Heap) (H : Hp) : (hidT h H).objs.size = h.objs.size := PySem.W.hideAll_size _ _
theorem hidT_get {h : Heap} {H : Hp} {b : Addr} {o : Obj} (e : h.get? b = some o) (n : H b = none) : (hidT h H).get? b = some o :=
  PySem.W.hideAll_get _ e fun hm => by
    have q : (H b).isSome = true := (List.mem_filter.mp hm).2
    rw [n] at q; simp at q
theorem of_hidT {h : Heap} {H : Hp} {b : Addr} {o : Obj} (e : (hidT h H).get? b = some o) : h.get? b = some o ∧ H b = none := by
  have e' : h.get? b = some o := PySem.W.of_hideAll (trk h H) e
  refine ⟨e', ?_⟩
  cases q : H b with
  | none => rfl
  | some x =>
    have hm : b ∈ trk h H := List.mem_filter.mpr ⟨List.mem_range.mpr (Heap.lt_size e'), by simp [q]⟩
    have z : (hidT h H).get? b = none := PySem.W.hideAll_none (trk h H) hm
    rw [z] at e; cases e
def allNews (g h : Heap) (L : Addr) : List (Addr × Obj) := (List.range h.objs.size).filterMap fun a => if a = L ∨ (g.get? a).isSome = true then none else (h.get? a).map fun o => (a, o)
def rest (g h : Heap) (L d : Addr) : List (Addr × Obj) := (allNews g h L).filter fun p => decide (p.1 ≠ d)
end L2
namespace L2
open PySem PySem.Spec PyProof.Rows
structure Mod (K : PySem.W.Frag) (mg : Str → Option Value) (base : Heap) : Prop where
  kin : K.In base
  glob : base.Ns mainGlobals mg
  blt : ∃ mb, base.Ns builtinsNs mb ∧ ∀ x : Str, x ≠ "__name__" → mb x = bootBuiltins x
  nolimit : base.NoLimit
structure Cx where
  prog : Program
  w : World
  K : PySem.W.Frag
  mg : Str → Option Value
  base : Heap
  A : Around
  N : List Str
  s₀ : Shared
  H₀ : Hp
  env : Env
  outer : List Env
  stack : List Env
  ex : List Addr
  fn : Str → Bool
  calm : Bool
  pn : List (Addr × Obj)
  xe : Value → Shared → Prop
def frs (l : List Env) : List Addr := l.filterMap (·.frame)
abbrev Cx.fs (X : Cx) : List Addr := frs X.outer
def Vis (sc : Scope) (x : Str) : Prop := sc.names.lookup x = some .local ∨ sc.names.lookup x = some .cell ∨ sc.names.lookup x = some .free
def Loc (sc : Scope) (x : Str) : Prop := sc.names.lookup x = some .local ∨ sc.names.lookup x = some .cell
def Look (env : Env) (h : Heap) (m : Str → Option Value) (x : Str) (u : Value) : Prop :=
  (env.kindOf x = some .local ∧ m x = some u) ∨ ((env.kindOf x = some .cell ∨ env.kindOf x = some .free) ∧ ∃ c, env.cells.lookup x = some c ∧ h.IsCell c (some u))
structure Cx.Ok (X : Cx) : Prop where
  mod : Mod X.K X.mg X.base
  kind : X.env.scope.kind = .function
  glob : X.env.globals = mainGlobals
  blt : X.env.builtins = builtinsNs
  above : X.s₀.heap.objs.size ≤ X.env.locals
  inj : ∀ x y c, X.env.cells.lookup x = some c → X.env.cells.lookup y = some c → x = y
  has : ∀ x, (X.env.kindOf x = some .cell ∨ X.env.kindOf x = some .free) → ∃ c, X.env.cells.lookup x = some c
  cab : ∀ x c, X.fn x = true → X.env.cells.lookup x = some c → X.s₀.heap.objs.size ≤ c
  hd : X.calm = true → X.A.handled = none
  frames : X.A.frames = some X.stack
  stk : X.stack = X.outer ∨ (X.stack = X.env :: X.outer ∧ X.env.frame = some X.env.locals)
  exf : ∀ b ∈ X.ex, b ≠ X.env.locals ∧ ∀ x c, X.env.cells.lookup x = some c → c ≠ b
  bs : ∀ b o, X.base.get? b = some o → X.s₀.heap.get? b = some o ∧ X.H₀ b = none
  bsz : X.base.objs.size ≤ X.s₀.heap.objs.size
  noex : ∀ b o, X.base.get? b = some o → b ∉ X.ex
  exfs : ∀ b ∈ X.ex, b ∉ X.fs
  funs : X.s₀.heap.FunFrames X.base X.outer
  frf : ∀ b ∈ X.fs, X.H₀ b = none
structure Inv (X : Cx) (pins : List (Addr × Obj)) (σ : List (Option V)) (H : Hp) (s : Shared) : Prop where
  ok : X.Ok
  os : s.os = X.s₀.os
  bare : AllBare s.gens
  base : Un X.fs X.ex X.H₀ H X.s₀.heap s.heap
  loc : ∃ m, s.heap.Ns X.env.locals m ∧ ∀ (i : Nat) (x : Str) (v : V), X.N[i]? = some x → σ[i]? = some (some v) → Vis X.env.scope x → ∃ u, RelV v u ∧ Look X.env s.heap m x u
  cell : ∀ x c, X.env.cells.lookup x = some c → ∃ v, s.heap.IsCell c v
  free : H X.env.locals = none
  freeC : ∀ x c, X.env.cells.lookup x = some c → H c = none
  pin : ∀ p ∈ X.pn ++ pins, s.heap.get? p.1 = some p.2 ∧ H p.1 = none ∧ p.1 ≠ X.env.locals ∧ p.1 ∉ X.fs ∧ ∀ v, p.2.data ≠ .cell v
  hok : HOk X.prog X.w H s.heap
  len : σ.length = X.N.length
section
variable {X : Cx} {pins : List (Addr × Obj)} {σ : List (Option V)} {H H' : Hp} {s : Shared} {h' : Heap}
theorem Cx.Ok.nofr (ok : X.Ok) {b : Addr} {o : Obj} (e : X.base.get? b = some o) : b ∉ X.fs := fun hb => by
  have := (ok.funs.mem hb).1
  rw [e] at this; cases this
theorem Inv.bs (I : Inv X pins σ H s) : ∀ b o, X.base.get? b = some o → s.heap.get? b = some o ∧ H b = none := fun b o e =>
  ⟨I.base.keep b o (I.ok.bs b o e).1 (I.ok.bs b o e).2 (I.ok.nofr e) (I.ok.noex b o e), I.base.free b o (I.ok.bs b o e).1 (I.ok.bs b o e).2 (I.ok.noex b o e)⟩
theorem Inv.bk (I : Inv X pins σ H s) : ∀ b o, X.base.get? b = some o → s.heap.get? b = some o := fun b o e => (I.bs b o e).1
theorem Inv.mod (I : Inv X pins σ H s) : Mod X.K X.mg X.base := I.ok.mod
theorem Inv.kIn (I : Inv X pins σ H s) : X.K.In s.heap := I.ok.mod.kin.keeps I.bk
theorem Inv.fr (I : Inv X pins σ H s) : ∃ m, Fr X.base X.env.locals s.heap m :=
  let ⟨m, hn, _⟩ := I.loc
  ⟨m, hn, I.bk, Nat.le_trans I.ok.bsz I.ok.above⟩
theorem Inv.lt (I : Inv X pins σ H s) : X.env.locals < s.heap.objs.size := let ⟨_, hn, _⟩ := I.loc; hn.lt
theorem Inv.sz (I : Inv X pins σ H s) : X.s₀.heap.objs.size ≤ s.heap.objs.size := Nat.le_trans I.ok.above (Nat.le_of_lt I.lt)
theorem Inv.nofs (I : Inv X pins σ H s) {a : Addr} (h : s.heap.objs.size ≤ a) : a ∉ X.fs := fun hb => by
  obtain ⟨_, o, ho, _⟩ := I.ok.funs.mem hb
  exact absurd (Nat.lt_of_lt_of_le (Heap.lt_size ho) (Nat.le_trans I.sz h)) (Nat.lt_irrefl _)
theorem Inv.cne (I : Inv X pins σ H s) : ∀ x c, X.env.cells.lookup x = some c → c ≠ X.env.locals := fun x c e z => by
  obtain ⟨v, o, ho, hd⟩ := I.cell x c e
  obtain ⟨m, ⟨o', es, ep, ho', hd', _⟩, _⟩ := I.loc
  rw [z, ho'] at ho; cases ho; rw [hd'] at hd; cases hd
theorem Inv.funs (I : Inv X pins σ H s) : s.heap.FunFrames X.base X.outer := by
  have all : ∀ (l : List Env), (∀ b ∈ frs l, b ∈ X.fs) → X.s₀.heap.FunFrames X.base l → s.heap.FunFrames X.base l := by
    intro l
    induction l with
    | nil => intro _ _; trivial
    | cons env r ih =>
      intro hs hl
      obtain ⟨hk, ⟨L, o, hf, hn, ho, hd⟩, hr⟩ := hl
      have hL : L ∈ X.fs := hs L (by unfold frs; rw [List.filterMap_cons, hf]; exact List.mem_cons_self)
      obtain ⟨sl, e⟩ := I.base.slot L o ho (I.ok.frf L hL) hL fun z => I.ok.exfs L z hL
      exact ⟨hk, ⟨L, _, hf, hn, e, hd⟩, ih (fun b hb => hs b (by unfold frs; rw [List.filterMap_cons, hf]; exact List.mem_cons_of_mem _ hb)) hr⟩
  exact all X.outer (fun _ hb => hb) I.ok.funs
theorem Inv.stack (I : Inv X pins σ H s) : s.heap.FunFrames X.base X.stack := by
  rcases I.ok.stk with e | ⟨e, hf⟩
  · rw [e]; exact I.funs
  · rw [e]
    obtain ⟨m, hn, _⟩ := I.loc
    refine .cons (by rw [I.ok.kind]; decide) hf hn ?_ I.funs
    exact Heap.get?_none_of_le (Nat.le_trans I.ok.bsz I.ok.above)
theorem Inv.stkSub (I : Inv X pins σ H s) : ∀ b ∈ frs X.stack, b ∈ X.env.locals :: X.fs := fun b hb => by
  rcases I.ok.stk with e | ⟨e, hf⟩
  · rw [e] at hb; exact List.mem_cons_of_mem _ hb
  · rw [e] at hb
    unfold frs at hb
    rw [List.filterMap_cons, hf] at hb
    exact hb
theorem Inv.stkFree (I : Inv X pins σ H s) : ∀ b ∈ frs X.stack, H b = none := fun b hb => by
  rcases List.mem_cons.mp (I.stkSub b hb) with e | hb
  · rw [e]; exact I.free
  · obtain ⟨_, o, ho, _⟩ := I.ok.funs.mem hb
    exact I.base.free b o ho (I.ok.frf b hb) fun z => I.ok.exfs b z hb
theorem Inv.step {g' : Array GenState} {t' : Nat} {d' : Drawn} {ch : List Addr} (I : Inv X pins σ H s)
    (hch : ∀ b ∈ ch, (b ∈ X.ex ∨ X.s₀.heap.objs.size ≤ b) ∧ b ≠ X.env.locals ∧ (∀ x c, X.env.cells.lookup x = some c → c ≠ b) ∧ ∀ p ∈ X.pn ++ pins, p.1 ≠ b)
    (keep : ∀ b o, b ≠ X.env.locals → b ∉ X.fs → b ∉ ch → s.heap.get? b = some o → H b = none → h'.get? b = some o)
    (slot : ∀ b o, b ≠ X.env.locals → b ∈ X.fs → b ∉ ch → s.heap.get? b = some o → H b = none → ∃ sl, h'.get? b = some { o with slots := sl }) (free : ∀ b o, b ∉ ch → s.heap.get? b = some o → H b = none → H' b = none)
    (there : ∀ b o, b ∉ ch → s.heap.get? b = some o → ∃ o', h'.get? b = some o')
    (tups : ∀ b xs, H b = some (.tup xs) → H' b = some (.tup xs)) (frzs : ∀ b o u, H b = some (.frz o u) → H' b = some (.frz o u)) (tbls : ∀ b ps, H b = some (.tbl ps) → ∃ more, H' b = some (.tbl (ps ++ more)))
    (ns : ∀ m, s.heap.Ns X.env.locals m → h'.Ns X.env.locals m) (hok : HOk X.prog X.w H' h') (hg : AllBare g') :
    Inv X pins σ H' { s with heap := h', gens := g', drawn := d', toks := t' } := by
  have neL : ∀ b o, X.s₀.heap.get? b = some o → b ≠ X.env.locals := fun b o e => Nat.ne_of_lt (Nat.lt_of_lt_of_le (Heap.lt_size e) I.ok.above)
  have neC : ∀ b o, X.s₀.heap.get? b = some o → b ∉ X.ex → b ∉ ch := fun b o e hx hb => by
    rcases (hch b hb).1 with z | z
    · exact hx z
    · exact absurd (Nat.lt_of_lt_of_le (Heap.lt_size e) z) (Nat.lt_irrefl _)
  have cellK : ∀ x c, X.env.cells.lookup x = some c → ∀ v, s.heap.IsCell c v → h'.IsCell c v := fun x c e v ⟨o, ho, hd⟩ => by
    have nch : c ∉ ch := fun z => (hch c z).2.2.1 x c e rfl
    by_cases hc : c ∈ X.fs
    · obtain ⟨sl, q⟩ := slot c o (I.cne x c e) hc nch ho (I.freeC x c e)
      exact ⟨_, q, hd⟩
    · exact ⟨o, keep c o (I.cne x c e) hc nch ho (I.freeC x c e), hd⟩
  refine ⟨I.ok, I.os, hg, ⟨fun b o e n hb hx => ?_, fun b o e n hb hx => ?_, fun b o e n hx => ?_, fun b o e hx => ?_, fun b xs e => tups b xs (I.base.tups b xs e), fun b o xs e => frzs b o xs (I.base.frzs b o xs e), fun b ps e => ?_⟩, ?_, fun x c e => ?_, ?_, fun x c e => ?_, fun p hp => ?_, hok, I.len⟩
  · exact keep b o (neL b o e) hb (neC b o e hx) (I.base.keep b o e n hb hx) (I.base.free b o e n hx)
  · obtain ⟨sl, e1⟩ := I.base.slot b o e n hb hx
    obtain ⟨sl', e2⟩ := slot b _ (neL b o e) hb (neC b o e hx) e1 (I.base.free b o e n hx)
    exact ⟨sl', e2⟩
  · obtain ⟨o', e1⟩ := I.base.there b o e hx
    exact free b o' (neC b o e hx) e1 (I.base.free b o e n hx)
  · obtain ⟨o', e1⟩ := I.base.there b o e hx
    exact there b o' (neC b o e hx) e1
  · obtain ⟨m1, e1⟩ := I.base.tbls b ps e
    obtain ⟨m2, e2⟩ := tbls b _ e1
    exact ⟨m1 ++ m2, by rw [e2, Array.append_assoc]⟩
  · obtain ⟨m, hn, hl⟩ := I.loc
    refine ⟨m, ns m hn, fun i x v e1 e2 e3 => ?_⟩
    obtain ⟨u, r, l⟩ := hl i x v e1 e2 e3
    refine ⟨u, r, ?_⟩
    rcases l with l | ⟨k, c, e, z⟩
    · exact .inl l
    · exact .inr ⟨k, c, e, cellK x c e _ z⟩
  · obtain ⟨v, z⟩ := I.cell x c e
    exact ⟨v, cellK x c e v z⟩
  · obtain ⟨m, ⟨o, _, _, ho, _⟩, _⟩ := I.loc
    exact free _ o (fun z => (hch _ z).2.1 rfl) ho I.free
  · obtain ⟨v, o, ho, hd⟩ := I.cell x c e
    exact free c o (fun z => (hch c z).2.2.1 x c e rfl) ho (I.freeC x c e)
  · obtain ⟨e, n, ne, nf, d⟩ := I.pin p hp
    have nch : p.1 ∉ ch := fun z => (hch p.1 z).2.2.2 p hp rfl
    exact ⟨keep p.1 p.2 ne nf nch e n, free p.1 p.2 nch e n, ne, nf, d⟩
theorem Inv.un {t' : Nat} (I : Inv X pins σ H s) (u : Un X.fs [] H H' s.heap h') (hok : HOk X.prog X.w H' h') : Inv X pins σ H' { s with heap := h', toks := t' } := by
  obtain ⟨m, ⟨o, es, ep, ho, r⟩, _⟩ := id I.loc
  obtain ⟨sl, hL⟩ := u.any ho I.free (by simp)
  exact I.step (g' := s.gens) (d' := s.drawn) (ch := []) (fun _ z => nomatch z) (fun b o _ hb _ e n => u.keep b o e n hb (by simp)) (fun b o _ hb _ e n => u.slot b o e n hb (by simp)) (fun b o _ e n => u.free b o e n (by simp)) (fun b o _ e => u.there b o e (by simp)) u.tups u.frzs u.tbls (fun m' hm => by
    obtain ⟨o', es', ep', ho', r'⟩ := hm
    rw [ho] at ho'; cases ho'
    exact ⟨_, es', ep', hL, r'⟩) hok I.bare
theorem Inv.call {g' : Array GenState} {t' : Nat} {d' : Drawn} {ch : List Addr} (I : Inv X pins σ H s) (u : Un (frs X.stack) ch H H' s.heap h') (hok : HOk X.prog X.w H' h') (hg : AllBare g')
    (hch : ∀ b ∈ ch, (b ∈ X.ex ∨ X.s₀.heap.objs.size ≤ b) ∧ b ≠ X.env.locals ∧ (∀ x c, X.env.cells.lookup x = some c → c ≠ b) ∧ ∀ p ∈ X.pn ++ pins, p.1 ≠ b) :
    Inv X pins σ H' { s with heap := h', gens := g', drawn := d', toks := t' } := by
  obtain ⟨m, ⟨o, es, ep, ho, r⟩, _⟩ := id I.loc
  obtain ⟨sl, hL⟩ := u.any ho I.free fun z => (hch _ z).2.1 rfl
  exact I.step (ch := ch) hch (fun b o hL hb hc e n => u.keep b o e n (fun z => (List.mem_cons.mp (I.stkSub b z)).elim hL hb) hc) (fun b o _ _ hc e n => u.any e n hc) (fun b o hc e n => u.free b o e n hc) (fun b o hc e => u.there b o e hc) u.tups u.frzs u.tbls (fun m' hm => by
    obtain ⟨o', es', ep', ho', r'⟩ := hm
    rw [ho] at ho'; cases ho'
    exact ⟨_, es', ep', hL, r'⟩) hok hg
theorem Inv.turned {t' : Nat} {it : Addr} (I : Inv X pins σ H s) (k : ∀ b o, b ≠ it → s.heap.get? b = some o → h'.get? b = some o) (hn : H it = none) (hL : it ≠ X.env.locals)
    (h1 : it ∈ X.ex ∨ X.s₀.heap.objs.size ≤ it) (h2 : ∀ x c, X.env.cells.lookup x = some c → c ≠ it) (h3 : ∀ p ∈ X.pn ++ pins, p.1 ≠ it) : Inv X pins σ H { s with heap := h', toks := t' } := by
  have nit : ∀ b u, H b = some u → b ≠ it := fun b u e z => by rw [z, hn] at e; cases e
  refine I.step (g' := s.gens) (d' := s.drawn) (ch := [it]) (fun b hb => ?_) (fun b o _ _ hc e _ => k b o (fun z => hc (by simp [z])) e) (fun b o _ _ hc e _ => ⟨o.slots, k b o (fun z => hc (by simp [z])) e⟩) (fun _ _ _ _ n => n)
    (fun b o hc e => ⟨o, k b o (fun z => hc (by simp [z])) e⟩) (fun _ _ e => e) (fun _ _ _ e => e) (fun b ps e => ⟨#[], by rw [e]; simp⟩) (fun m hm => ?_) (fun b u e => ?_) I.bare
  · have e : b = it := by simpa using hb
    subst e
    exact ⟨h1, hL, h2, h3⟩
  · obtain ⟨o, es, ep, ho, r⟩ := hm
    exact ⟨o, es, ep, k _ o (Ne.symm hL) ho, r⟩
  · refine (I.hok b u e).stay (fun c v hc q => k c v ?_ q) (fun _ q => q) fun _ _ q => q
    rcases hc with z | z
    · rw [z]; exact nit b u e
    · exact nit c _ z
theorem Inv.tok (I : Inv X pins σ H s) (t : Nat) : Inv X pins σ H { s with toks := t } := I.un (h' := s.heap) (t' := t) Un.refl I.hok
theorem Inv.kept {t' : Nat} (I : Inv X pins σ H s) (k : ∀ b u, s.heap.get? b = some u → h'.get? b = some u) : Inv X pins σ H { s with heap := h', toks := t' } := I.un (Un.kept k) (I.hok.kept k)
theorem Inv.laid {a : Addr} {o : HO} {t' : Nat} (I : Inv X pins σ H s) (k : ∀ b u, s.heap.get? b = some u → h'.get? b = some u) (hp : s.heap.objs.size ≤ a) (new : ObjOk X.prog X.w (upd H a o) h' a o) :
    Inv X pins σ (upd H a o) { s with heap := h', toks := t' } := I.un (Un.laid k hp (I.hok.fresh hp)) (I.hok.laid k hp new)
theorem Inv.write {x e : Addr} {o : HO} {t' : Nat} (I : Inv X pins σ H s) (mu : Mut (H x)) (he : e = x ∨ H e = some (.own x)) (k : ∀ b u, b ≠ e → s.heap.get? b = some u → h'.get? b = some u) (heo : ∃ u, h'.get? e = some u)
    (new : ObjOk X.prog X.w (upd H x o) h' x o) : Inv X pins σ (upd H x o) { s with heap := h', toks := t' } := I.un (Un.write mu he k heo) (I.hok.write mu he k heo new)
theorem Inv.pins_of {pins' : List (Addr × Obj)} (I : Inv X pins σ H s) (h : ∀ p ∈ pins', s.heap.get? p.1 = some p.2 ∧ H p.1 = none ∧ p.1 ≠ X.env.locals ∧ p.1 ∉ X.fs ∧ ∀ v, p.2.data ≠ .cell v) : Inv X pins' σ H s :=
  ⟨I.ok, I.os, I.bare, I.base, I.loc, I.cell, I.free, I.freeC, fun p hp => (List.mem_append.mp hp).elim (fun z => I.pin p (List.mem_append_left _ z)) (h p), I.hok, I.len⟩
theorem nodup_ix {N : List Str} (hN : N.Nodup) {i j : Nat} {x : Str} (a : N[i]? = some x) (b : N[j]? = some x) : i = j := by
  obtain ⟨h1, e1⟩ := List.getElem?_eq_some_iff.mp a
  obtain ⟨h2, e2⟩ := List.getElem?_eq_some_iff.mp b
  exact (List.getElem_inj hN).mp (e1.trans e2.symm)
theorem store_ok2 {M : Model} {A : Around} {E : Value → Shared → Prop} {i : Nat} {x : Str} {v : V} {u : Value} {Q : Unit → Shared → Prop} (I : Inv X pins σ H s) (hN : X.N.Nodup) (hi : X.N[i]? = some x) (hx : Loc X.env.scope x) (r : RelV v u)
    (h : ∀ s', Inv X pins (σ.set i (some v)) H s' → (∃ a, Heap.SameBut a s.heap s'.heap ∧ (a = X.env.locals ∨ X.env.cells.lookup x = some a)) → Q () s') (hf : X.fn x = true ∨ X.env.scope.names.lookup x = some .local := by first | exact .inl rfl | exact .inr rfl | assumption) : wpAny M A (storeName X.env x u) Q E s := by
  obtain ⟨m, hn, hl⟩ := id I.loc
  have hcls : (X.env.scope.kind == .class || (X.env.scope.kind == .module && X.env.locals != X.env.globals)) = false := by rw [I.ok.kind]; rfl
  have hiσ : i < σ.length := by rw [I.len]; exact (List.getElem?_eq_some_iff.mp hi).1
  have cne := I.cne
  have tracked : ∀ {a : Addr} {h' : Heap}, (∃ o, s.heap.get? a = some o ∧ H a = none) → Heap.SameBut a s.heap h' → HOk X.prog X.w H h' := fun {a h'} ha hs b ob e => by
    obtain ⟨_, _, hfree⟩ := ha
    refine (I.hok b ob e).stay (fun c w' hc q => (hs.2 c ?_).trans q) (fun _ q => q) fun _ _ q => q
    rintro rfl
    rcases hc with rfl | hc
    · rw [hfree] at e; cases e
    · rw [hfree] at hc; cases hc
  rcases hx with hk | hk
  · refine wpAny_storeName_local hk hn (fun h' hn' hs => ?_) hcls
    obtain ⟨oL, _, _, hoL, _⟩ := id hn
    refine h _ ⟨I.ok, I.os, I.bare, ⟨fun b o e n hb hx => ?_, fun b o e n hb hx => ?_, I.base.free, fun b o e hx => ?_, I.base.tups, I.base.frzs, I.base.tbls⟩, ⟨_, hn', fun j y v' e1 e2 e3 => ?_⟩, fun y c e => ?_, I.free, I.freeC, fun p hp => ?_, tracked ⟨oL, hoL, I.free⟩ hs, by simpa using I.len⟩ ⟨_, hs, .inl rfl⟩
    · exact (hs.2 b (Nat.ne_of_lt (Nat.lt_of_lt_of_le (Heap.lt_size e) I.ok.above))).trans (I.base.keep b o e n hb hx)
    · obtain ⟨sl, e1⟩ := I.base.slot b o e n hb hx
      exact ⟨sl, (hs.2 b (Nat.ne_of_lt (Nat.lt_of_lt_of_le (Heap.lt_size e) I.ok.above))).trans e1⟩
    · obtain ⟨o', e1⟩ := I.base.there b o e hx
      exact ⟨o', (hs.2 b (Nat.ne_of_lt (Nat.lt_of_lt_of_le (Heap.lt_size e) I.ok.above))).trans e1⟩
    · by_cases hj : j = i
      · subst hj
        rw [hi] at e1; cases e1
        rw [List.getElem?_set_self hiσ] at e2
        cases e2
        exact ⟨u, r, .inl ⟨hk, by simp⟩⟩
      · rw [List.getElem?_set_ne (Ne.symm hj)] at e2
        obtain ⟨u', r', q⟩ := hl j y v' e1 e2 e3
        refine ⟨u', r', ?_⟩
        rcases q with ⟨k, e⟩ | ⟨k, c, e, z⟩
        · refine .inl ⟨k, ?_⟩
          have : y ≠ x := fun e => hj (nodup_ix hN e1 (e ▸ hi))
          simp [this, e]
        · exact .inr ⟨k, c, e, z.sameBut hs (cne y c e)⟩
    · obtain ⟨w', z⟩ := I.cell y c e
      exact ⟨w', z.sameBut hs (cne y c e)⟩
    · obtain ⟨e, n, ne, nf, d⟩ := I.pin p hp
      exact ⟨(hs.2 p.1 ne).trans e, n, ne, nf, d⟩
  · have hfn : X.fn x = true := by
      rcases hf with z | z
      · exact z
      · rw [z] at hk; cases hk
    obtain ⟨c, hc⟩ := I.ok.has x (.inl hk)
    obtain ⟨w', z⟩ := I.cell x c hc
    refine wpAny_storeName_cell I.ok.kind hk hc z (fun h' hc' hs => ?_)
    obtain ⟨oc, hoc, hocd⟩ := id z
    refine h { s with heap := h' } ⟨I.ok, I.os, I.bare, ⟨fun b o e n hb hx => ?_, fun b o e n hb hx => ?_, I.base.free, fun b o e hx => ?_, I.base.tups, I.base.frzs, I.base.tbls⟩, ⟨m, hn.sameBut hs (Ne.symm (cne x c hc)), fun j y v' e1 e2 e3 => ?_⟩, fun y c' e => ?_, I.free, I.freeC, fun p hp => ?_, tracked ⟨oc, hoc, I.freeC x c hc⟩ hs, by simpa using I.len⟩ ⟨c, hs, .inr hc⟩
    · exact (hs.2 b (Nat.ne_of_lt (Nat.lt_of_lt_of_le (Heap.lt_size e) (I.ok.cab x c hfn hc)))).trans (I.base.keep b o e n hb hx)
    · obtain ⟨sl, e1⟩ := I.base.slot b o e n hb hx
      exact ⟨sl, (hs.2 b (Nat.ne_of_lt (Nat.lt_of_lt_of_le (Heap.lt_size e) (I.ok.cab x c hfn hc)))).trans e1⟩
    · obtain ⟨o', e1⟩ := I.base.there b o e hx
      exact ⟨o', (hs.2 b (Nat.ne_of_lt (Nat.lt_of_lt_of_le (Heap.lt_size e) (I.ok.cab x c hfn hc)))).trans e1⟩
    · by_cases hj : j = i
      · subst hj
        rw [hi] at e1; cases e1
        rw [List.getElem?_set_self hiσ] at e2
        cases e2
        exact ⟨u, r, .inr ⟨.inl hk, c, hc, hc'⟩⟩
      · rw [List.getElem?_set_ne (Ne.symm hj)] at e2
        obtain ⟨u', r', q⟩ := hl j y v' e1 e2 e3
        refine ⟨u', r', ?_⟩
        rcases q with q | ⟨k, c', e, z'⟩
        · exact .inl q
        · refine .inr ⟨k, c', e, z'.sameBut hs ?_⟩
          rintro rfl
          exact hj (nodup_ix hN e1 (I.ok.inj _ _ _ e hc ▸ hi))
    · by_cases hcc : c' = c
      · subst hcc; exact ⟨_, hc'⟩
      · obtain ⟨w2, z2⟩ := I.cell y c' e
        exact ⟨w2, z2.sameBut hs hcc⟩
    · obtain ⟨e, n, ne, nf, d⟩ := I.pin p hp
      refine ⟨(hs.2 p.1 ?_).trans e, n, ne, nf, d⟩
      intro q
      rw [q, hoc] at e
      have q' : oc = p.2 := Option.some.inj e
      exact d w' (by rw [← q']; exact hocd)
theorem store_ok {M : Model} {A : Around} {E : Value → Shared → Prop} {i : Nat} {x : Str} {v : V} {u : Value} {Q : Unit → Shared → Prop} (I : Inv X pins σ H s) (hN : X.N.Nodup) (hi : X.N[i]? = some x) (hx : Loc X.env.scope x) (r : RelV v u)
    (h : ∀ s', Inv X pins (σ.set i (some v)) H s' → Q () s') (hf : X.fn x = true ∨ X.env.scope.names.lookup x = some .local := by first | exact .inl rfl | exact .inr rfl | assumption) : wpAny M A (storeName X.env x u) Q E s :=
  store_ok2 I hN hi hx r (fun s' I' _ => h s' I') hf
theorem Inv.call' {s' : Shared} {ch : List Addr} (I : Inv X pins σ H s) (ho : s'.os = s.os) (u : Un (frs X.stack) ch H H' s.heap s'.heap) (hok : HOk X.prog X.w H' s'.heap) (hg : AllBare s'.gens)
    (hch : ∀ b ∈ ch, (b ∈ X.ex ∨ X.s₀.heap.objs.size ≤ b) ∧ b ≠ X.env.locals ∧ (∀ x c, X.env.cells.lookup x = some c → c ≠ b) ∧ ∀ p ∈ X.pn ++ pins, p.1 ≠ b) : Inv X pins σ H' s' := by
  obtain ⟨h', g', d', t', o'⟩ := s'
  have e : o' = s.os := ho
  subst e
  exact I.call (g' := g') (t' := t') (d' := d') u hok hg hch
end
abbrev XK := Value → Option Addr → Hp → Prop
abbrev St := List (Option V)
abbrev VK := V → Hp → Prop
abbrev TE := St → Hp → VK → Prop
abbrev TT := St → Hp → (Bool → Hp → Prop) → Prop
abbrev TA := St → Hp → (List V → Hp → Prop) → Prop
structure Ends where
  nx : St → Hp → Prop
  rt : VK
  bk : St → Hp → Prop := fun _ _ => False
  ct : St → Hp → Prop := fun _ _ => False
abbrev TS := Ends → St → Hp → Prop
def EP (X : Cx) (pins : List (Addr × Obj)) (σ : St) (Q : VK) (u : Value) (s' : Shared) : Prop := ∃ v H', Inv X pins σ H' s' ∧ RelV v u ∧ Q v H'
def TP (X : Cx) (pins : List (Addr × Obj)) (σ : St) (Q : Bool → Hp → Prop) (b : Bool) (s' : Shared) : Prop := ∃ H', Inv X pins σ H' s' ∧ Q b H'
def AP (X : Cx) (pins : List (Addr × Obj)) (σ : St) (Q : List V → Hp → Prop) (us : List Value) (s' : Shared) : Prop := ∃ vs H', Inv X pins σ H' s' ∧ Vals vs us ∧ Q vs H'
def SP (X : Cx) (pins : List (Addr × Obj)) (D : Ends) (f : Flow) (s' : Shared) : Prop :=
  match f with
  | .next => ∃ σ' H', Inv X pins σ' H' s' ∧ D.nx σ' H'
  | .brk => ∃ σ' H', Inv X pins σ' H' s' ∧ D.bk σ' H'
  | .cont => ∃ σ' H', Inv X pins σ' H' s' ∧ D.ct σ' H'
  | .ret u => ∃ v σ' H', Inv X pins σ' H' s' ∧ RelV v u ∧ D.rt v H'
def PE (X : Cx) (e : Expr) (t : TE) : Prop :=
  ∀ (pins : List (Addr × Obj)) (s : Shared) (σ : St) (H : Hp) (Q : VK), Inv X pins σ H s → t σ H Q → wpAny (model X.prog X.w) X.A (eval e X.env) (EP X pins σ Q) X.xe s
def PT (X : Cx) (e : Expr) (t : TT) : Prop :=
  ∀ (pins : List (Addr × Obj)) (s : Shared) (σ : St) (H : Hp) (Q : Bool → Hp → Prop), Inv X pins σ H s → t σ H Q → wpAny (model X.prog X.w) X.A (isTrue e X.env (eval e X.env)) (TP X pins σ Q) X.xe s
def PW (X : Cx) (e : Expr) (t : TT) : Prop :=
  ∀ (whole : Sem Value) (pins : List (Addr × Obj)) (s : Shared) (σ : St) (H : Hp) (Q : Bool → Hp → Prop), Inv X pins σ H s → t σ H Q → wpAny (model X.prog X.w) X.A (isTrue e X.env whole) (TP X pins σ Q) X.xe s
theorem PW.pt {X : Cx} {e : Expr} {t : TT} (h : PW X e t) : PT X e t := h _
def PA (X : Cx) (es : List Expr) (t : TA) : Prop :=
  ∀ (pos : Pos) (pins : List (Addr × Obj)) (s : Shared) (σ : St) (H : Hp) (Q : List V → Hp → Prop), Inv X pins σ H s → t σ H Q → wpAny (model X.prog X.w) X.A (spliced (backTo pos (starEach es X.env))) (AP X pins σ Q) X.xe s
def PS (X : Cx) (st : Stmt) (t : TS) : Prop :=
  ∀ (pins : List (Addr × Obj)) (s : Shared) (σ : St) (H : Hp) (D : Ends), Inv X pins σ H s → t D σ H → wpAny (model X.prog X.w) X.A (exec st X.env) (SP X pins D) X.xe s
def PSs (X : Cx) (st : List Stmt) (t : TS) : Prop :=
  ∀ (pins : List (Addr × Obj)) (s : Shared) (σ : St) (H : Hp) (D : Ends), Inv X pins σ H s → t D σ H → wpAny (model X.prog X.w) X.A (execs st X.env) (SP X pins D) X.xe s
theorem thn {α : Type} {t : Sem α} {Q Q' : α → Shared → Prop} {M : Model} {A : Around} {E : Value → Shared → Prop} {s : Shared} (h : wpAny M A t Q E s) (hQ : ∀ a s, Q a s → Q' a s) : wpAny M A t Q' E s := wpAny_mono h hQ fun _ _ x => x
end L2
namespace L2
open PySem PySem.Spec PyProof.Rows
section
variable {X : Cx}
theorem bin {a b : Expr} {ta tb : TE} (ha : PE X a ta) (hb : PE X b tb) {pins : List (Addr × Obj)} {s : Shared} {σ : St} {H : Hp} {R : V → V → Hp → Prop} (I : Inv X pins σ H s) (h : ta σ H fun x H1 => tb σ H1 fun y H2 => R x y H2)
    {α : Type} {Q : α → Shared → Prop} {f : Value → Value → Sem α}
    (hf : ∀ v u s2 x y H2, Inv X pins σ H2 s2 → RelV x v → RelV y u → R x y H2 → wpAny (model X.prog X.w) X.A (f v u) Q X.xe s2) :
    wpAny (model X.prog X.w) X.A (eval a X.env) (fun v s₁ => wpAny (model X.prog X.w) X.A (eval b X.env) (fun u s₂ => wpAny (model X.prog X.w) X.A (f v u) Q X.xe s₂) X.xe s₁) X.xe s := by
  refine thn (ha pins s σ H _ I h) fun v s1 ⟨x, H1, I1, r1, q1⟩ => ?_
  refine thn (hb pins s1 σ H1 _ I1 q1) fun u s2 ⟨y, H2, I2, r2, q2⟩ => ?_
  exact hf v u s2 x y H2 I2 r1 r2 q2
def tVar (i : Nat) : TE := fun σ H Q => ∃ v, σ[i]? = some (some v) ∧ Q v H
def tC (v : V) : TE := fun _ H Q => Q v H
theorem pe_var {i : Nat} {x : Str} {pos : Pos} (hN : X.N[i]? = some x) (hv : Vis X.env.scope x) (hd : (x == ("__debug__" : Str)) = false := by decide) (hcd : (x == ("__classdict__" : Str)) = false := by decide) : PE X (.Name x pos) (tVar i) := by
  intro pins s σ H Q I h
  obtain ⟨v, e, h⟩ := h
  obtain ⟨m, hn, hl⟩ := I.loc
  obtain ⟨u, r, l⟩ := hl i x v hN e hv
  have fin : EP X pins σ Q u s := ⟨v, H, I, r, h⟩
  rcases l with ⟨hk, hm⟩ | ⟨hk, c, hc, hcell⟩
  · exact wpAny_Name (wpAny_loadName_local I.ok.kind hk hn hm fin) hd
  · rcases hk with hk | hk
    · exact wpAny_Name (wpAny_loadName_cell I.ok.kind hk hc hcell fin) hd
    · exact wpAny_Name (wpAny_loadName_free I.ok.kind hk hc hcell fin hcd) hd
theorem pe_int {i j pos} : PE X (.Constant (.int i) j pos) (tC (.int i)) := fun _ _ _ H _ I h => wpAny_Constant_int ⟨.int i, H, I.tok _, ⟨_, rfl⟩, h⟩
theorem pe_bl {b j pos} : PE X (.Constant (.bool b) j pos) (tC (.bl b)) := fun _ _ _ H _ I h => Constant_bool ⟨.bl b, H, I, rfl, h⟩
theorem pe_non {j pos} : PE X (.Constant .none j pos) (tC .non) := fun _ _ _ H _ I h => Constant_none ⟨.non, H, I, rfl, h⟩
theorem pe_str {x j pos} : PE X (.Constant (.str x) j pos) (tC (.str x)) := fun _ _ _ H _ I h => Calls.Constant_str ⟨.str x, H, I.tok _, ⟨_, rfl⟩, h⟩
def Gl (X : Cx) (x : Str) : Prop := X.env.kindOf x = some .globalImplicit
theorem ld_glob {E : Value → Shared → Prop} {pins : List (Addr × Obj)} {s : Shared} {σ : St} {H : Hp} {x : Str} {u : Value} {pos : Pos} {Q : Value → Shared → Prop} (I : Inv X pins σ H s) (hg : Gl X x) (hm : X.mg x = some u) (h : Q u s)
    (hd : (x == ("__debug__" : Str)) = false := by decide) : wpAny (model X.prog X.w) X.A (eval (.Name x pos) X.env) Q E s :=
  Calls.Name_function_global I.ok.kind hg (Calls.loadGlobal_global (by rw [I.ok.glob]; exact I.mod.glob.keeps I.bk) hm h) hd
theorem ld_blt {E : Value → Shared → Prop} {pins : List (Addr × Obj)} {s : Shared} {σ : St} {H : Hp} {x : Str} {u : Value} {pos : Pos} {Q : Value → Shared → Prop} (I : Inv X pins σ H s) (hg : Gl X x) (hm : X.mg x = none) (hv : bootBuiltins x = some u) (h : Q u s)
    (hn : x ≠ "__name__" := by decide) (hd : (x == ("__debug__" : Str)) = false := by decide) : wpAny (model X.prog X.w) X.A (eval (.Name x pos) X.env) Q E s := by
  obtain ⟨mb, h1, h2⟩ := I.mod.blt
  exact Calls.Name_function_global I.ok.kind hg (Calls.loadGlobal_builtin (by rw [I.ok.glob]; exact I.mod.glob.keeps I.bk) hm (by rw [I.ok.blt]; exact h1.keeps I.bk) ((h2 x hn).trans hv) h) hd
theorem pe_glob {x : Str} {v : V} {u : Value} {pos : Pos} (hg : Gl X x) (hm : X.mg x = some u) (r : RelV v u) (hd : (x == ("__debug__" : Str)) = false := by decide) : PE X (.Name x pos) (tC v) :=
  fun _ _ _ H _ I h => ld_glob I hg hm ⟨v, H, I, r, h⟩ hd
theorem pe_bltn {x : Str} {v : V} {u : Value} {pos : Pos} (hg : Gl X x) (hm : X.mg x = none) (hv : bootBuiltins x = some u) (r : RelV v u) (hn : x ≠ "__name__" := by decide) (hd : (x == ("__debug__" : Str)) = false := by decide) : PE X (.Name x pos) (tC v) :=
  fun _ _ _ H _ I h => ld_blt I hg hm hv ⟨v, H, I, r, h⟩ hn hd
variable {a b : Expr} {ta tb : TE} {pos : Pos}
def PC (X : Cx) (op : CmpOp) (a b : Expr) (t : TE) : Prop :=
  ∀ (pins : List (Addr × Obj)) (s : Shared) (σ : St) (H : Hp) (Q : VK), Inv X pins σ H s → t σ H Q →
    wpAny (model X.prog X.w) X.A (eval a X.env) (fun v s₁ => wpAny (model X.prog X.w) X.A (eval b X.env) (fun u s₂ => wpAny (model X.prog X.w) X.A (compareOp op v u) (EP X pins σ Q) X.xe s₂) X.xe s₁) X.xe s
def tB (t : TE) : TT := fun σ H Q => t σ H fun x H1 => ∃ c, x = .bl c ∧ Q c H1
theorem pt_cmp {op : CmpOp} {t : TE} (h : PC X op a b t) (h1 : behindInMarks op b = false := by first | exact nobehind _ (by decide) (by decide) | rfl) : PT X (.Compare a [op] [b] pos) (tB t) := by
  intro pins s σ H Q I hw
  refine wpAny_isTrue_Compare1 (thn (h pins s σ H _ I hw) fun v s1 h1 => thn h1 fun u s2 h2 => thn h2 fun c s3 ⟨x, H1, I1, r1, q1⟩ => ?_) h1
  obtain ⟨d, rfl, q⟩ := q1
  cases r1
  exact wpAny_truthy_bool ⟨H1, I1, q⟩
theorem pt_val {e : Expr} {t : TE} (h : PE X e t) (he : ∀ whole, isTrue e X.env whole = (do let v ← whole; standAt e.pos; holding [v] (truthy v)) := by intro _; rfl) : PT X e (tB t) := by
  intro pins s σ H Q I hw
  refine isTrue_plain (thn (h pins s σ H _ I hw) fun v s1 ⟨x, H1, I1, r1, q1⟩ => ?_) (he _)
  obtain ⟨d, rfl, q⟩ := q1
  cases r1
  exact wpAny_truthy_bool ⟨H1, I1, q⟩
variable {tA tB' : TT} {rest : List Expr}
def tAnd (t u : TT) : TT := fun σ H Q => t σ H fun c H1 => if c = true then u σ H1 Q else Q false H1
def tOr (t u : TT) : TT := fun σ H Q => t σ H fun c H1 => if c = true then Q true H1 else u σ H1 Q
def tNot (t : TT) : TT := fun σ H Q => t σ H fun c H1 => Q (!c) H1
theorem pw_and1 (ha : PT X a tA) : PW X (.BoolOp .And [a] pos) tA := by
  intro wh pins s σ H Q I h
  refine isTrue_and (thn (ha pins s σ H Q I h) fun c s1 e => ?_)
  cases c with
  | true => exact isTrue_and_nil e
  | false => exact e
theorem pw_or1 (ha : PT X a tA) : PW X (.BoolOp .Or [a] pos) tA := by
  intro wh pins s σ H Q I h
  refine isTrue_or (thn (ha pins s σ H Q I h) fun c s1 e => ?_)
  cases c with
  | false => exact isTrue_or_nil e
  | true => exact e
theorem pw_and (ha : PT X a tA) (hb : PW X (.BoolOp .And (b :: rest) pos) tB') : PW X (.BoolOp .And (a :: b :: rest) pos) (tAnd tA tB') := by
  intro wh pins s σ H Q I h
  refine isTrue_and (thn (ha pins s σ H _ I h) fun c s1 ⟨H1, I1, q1⟩ => ?_)
  cases c with
  | true => exact hb wh pins s1 σ H1 Q I1 q1
  | false => exact ⟨H1, I1, q1⟩
theorem pw_or (ha : PT X a tA) (hb : PW X (.BoolOp .Or (b :: rest) pos) tB') : PW X (.BoolOp .Or (a :: b :: rest) pos) (tOr tA tB') := by
  intro wh pins s σ H Q I h
  refine isTrue_or (thn (ha pins s σ H _ I h) fun c s1 ⟨H1, I1, q1⟩ => ?_)
  cases c with
  | true => exact ⟨H1, I1, q1⟩
  | false => exact hb wh pins s1 σ H1 Q I1 q1
theorem pt_not (ha : PT X a tA) : PT X (.UnaryOp .Not a pos) (tNot tA) := by
  intro pins s σ H Q I h
  exact isTrue_not (ha pins s σ H (fun c H1 => Q (!c) H1) I h)
def tAndV (ta tb : TE) : TE := fun σ H Q => ta σ H fun x H1 => ∃ c, x = .bl c ∧ if c = true then tb σ H1 Q else Q (.bl false) H1
theorem pe_one {op} {t : TE} (h : PE X a t) : PE X (.BoolOp op [a] pos) t := fun pins s σ H Q I hw => BoolOp_one (h pins s σ H Q I hw)
theorem pe_and (ha : PE X a ta) (hb : PE X (.BoolOp .And (b :: rest) pos) tb) : PE X (.BoolOp .And (a :: b :: rest) pos) (tAndV ta tb) := by
  intro pins s σ H Q I h
  refine BoolOp_and (thn (ha pins s σ H _ I h) fun v s1 ⟨x, H1, I1, r1, q1⟩ => ?_)
  obtain ⟨c, rfl, q1⟩ := q1
  cases r1
  refine wpAny_truthy_bool ?_
  cases c with
  | true => exact hb pins s1 σ H1 Q I1 q1
  | false => exact ⟨.bl false, H1, I1, rfl, q1⟩
def tIf (t : TT) (ta tb : TE) : TE := fun σ H Q => t σ H fun c H1 => if c = true then ta σ H1 Q else tb σ H1 Q
theorem pe_ifExp {c : Expr} (hc : PT X c tA) (ha : PE X a ta) (hb : PE X b tb) : PE X (.IfExp c a b pos) (tIf tA ta tb) := by
  intro pins s σ H Q I h
  refine wpAny_IfExp (thn (hc pins s σ H _ I h) fun d s1 ⟨H1, I1, q1⟩ => ?_)
  cases d with
  | true => exact ha pins s1 σ H1 Q I1 q1
  | false => exact hb pins s1 σ H1 Q I1 q1
end
end L2
namespace L2
open PySem PySem.Spec PyProof.Rows
def SqL (K : PySem.W.Frag) (H : Hp) (a : Addr) (xs : List V) : Prop :=
  Rd H a (.lst xs) ∨
    ∃ (o : Obj) (its : Array Value) (n : Nat), K.lookup a = some o ∧ o.cls = .type "list" ∧ o.dict = none ∧ o.data = .seq its n ∧ its.size ≤ sizeLine ∧ Vals xs its.toList
def SqT (K : PySem.W.Frag) (H : Hp) (a : Addr) (xs : List V) : Prop :=
  Rd H a (.tup xs) ∨
    ∃ (o : Obj) (its : Array Value) (n : Nat), K.lookup a = some o ∧ o.cls = .type "tuple" ∧ o.data = .seq its n ∧ its.size ≤ sizeLine ∧ Vals xs its.toList
def absV : Value → Option V
  | .none => some .non
  | .bool b => some (.bl b)
  | .int i _ => some (.int i)
  | .str x _ => some (.str x)
  | .bytes b _ => some (.byt b)
  | .float b _ => some (.flt b)
  | .ref a => some (.ref a)
  | .type n => some (.ty n)
  | _ => none
theorem RelV.abs {x : V} {u : Value} (r : RelV x u) : absV u = some x := by
  cases x with
  | non => cases r; rfl
  | bl _ => cases r; rfl
  | int _ => obtain ⟨t, rfl⟩ := r; rfl
  | str _ => obtain ⟨t, rfl⟩ := r; rfl
  | byt _ => obtain ⟨t, rfl⟩ := r; rfl
  | flt _ => obtain ⟨t, rfl⟩ := r; rfl
  | ref _ => cases r; rfl
  | ty _ => cases r; rfl
theorem RelV.inj {x y : V} {u : Value} (r : RelV x u) (q : RelV y u) : x = y := Option.some.inj (r.abs.symm.trans q.abs)
theorem Vals.inj : ∀ {xs ys : List V} {us : List Value}, Vals xs us → Vals ys us → xs = ys
  | _, _, _, .nil, .nil => rfl
  | _, _, _, .cons r t, .cons r' t' => by rw [r.inj r', Vals.inj t t']
section
variable {X : Cx} {pins : List (Addr × Obj)} {σ : St} {H : Hp} {s : Shared} {a : Addr} {xs ys : List V}
theorem SqL.of {K : PySem.W.Frag} (h : H a = some (.lst xs)) : SqL K H a xs := .inl (.inl h)
theorem SqT.of {K : PySem.W.Frag} (h : H a = some (.tup xs)) : SqT K H a xs := .inl (.inl h)
theorem Inv.list (I : Inv X pins σ H s) (h : SqL X.K H a xs) : ∃ its : List Value, Vals xs its ∧ PlainL s.heap a its.toArray ∧ xs.length ≤ sizeLine := by
  rcases h with h | ⟨o, its, n, hk, hc, hd, hs, hz, r⟩
  · obtain ⟨z, its, n, r, e⟩ := h.ok I.hok
    exact ⟨its, r, ⟨_, n, e, rfl, rfl, rfl⟩, z⟩
  · refine ⟨its.toList, r, ⟨o, n, I.kIn a o hk, hc, hd, by simpa using hs⟩, ?_⟩
    have e := r.length
    simp only [Array.length_toList] at e
    omega
theorem Inv.tuple (I : Inv X pins σ H s) (h : SqT X.K H a xs) : ∃ its : List Value, Vals xs its ∧ IsTup s.heap a its.toArray ∧ xs.length ≤ sizeLine := by
  rcases h with h | ⟨o, its, n, hk, hc, hs, hz, r⟩
  · obtain ⟨z, its, r, p⟩ := h.ok I.hok
    exact ⟨its, r, p, z⟩
  · refine ⟨its.toList, r, ⟨o, I.kIn a o hk, hc, n, by simpa using hs⟩, ?_⟩
    have e := r.length
    simp only [Array.length_toList] at e
    omega
theorem Inv.list_inj (I : Inv X pins σ H s) (h : SqL X.K H a xs) (h' : SqL X.K H a ys) : xs = ys := by
  obtain ⟨its, r, ⟨o, n, e, _, _, d⟩, _⟩ := I.list h
  obtain ⟨its', r', ⟨o', n', e', _, _, d'⟩, _⟩ := I.list h'
  rw [e] at e'; cases e'
  rw [d] at d'
  injection d' with d1 _
  have : its = its' := by simpa using congrArg Array.toList d1
  subst this
  exact r.inj r'
theorem Inv.tuple_inj (I : Inv X pins σ H s) (h : SqT X.K H a xs) (h' : SqT X.K H a ys) : xs = ys := by
  obtain ⟨its, r, ⟨o, e, _, n, d⟩, _⟩ := I.tuple h
  obtain ⟨its', r', ⟨o', e', _, n', d'⟩, _⟩ := I.tuple h'
  rw [e] at e'; cases e'
  rw [d] at d'
  injection d' with d1 _
  have : its = its' := by simpa using congrArg Array.toList d1
  subst this
  exact r.inj r'
end
abbrev Cx.wish (X : Cx) (E : Value → Shared → Prop) : Cx := { X with xe := E }
abbrev Cx.nox (X : Cx) : Cx := X.wish fun _ _ => False
theorem Cx.Ok.wish {X : Cx} (ok : X.Ok) (E : Value → Shared → Prop) : (X.wish E).Ok :=
  ⟨ok.mod, ok.kind, ok.glob, ok.blt, ok.above, ok.inj, ok.has, ok.cab, ok.hd, ok.frames, ok.stk, ok.exf, ok.bs, ok.bsz, ok.noex, ok.exfs, ok.funs, ok.frf⟩
theorem Cx.Ok.unwish {X : Cx} {E : Value → Shared → Prop} (ok : (X.wish E).Ok) : X.Ok :=
  ⟨ok.mod, ok.kind, ok.glob, ok.blt, ok.above, ok.inj, ok.has, ok.cab, ok.hd, ok.frames, ok.stk, ok.exf, ok.bs, ok.bsz, ok.noex, ok.exfs, ok.funs, ok.frf⟩
section
variable {X : Cx} {pins : List (Addr × Obj)} {σ : St} {H : Hp} {s : Shared} {E : Value → Shared → Prop}
theorem Inv.wish (I : Inv X pins σ H s) (E : Value → Shared → Prop) : Inv (X.wish E) pins σ H s := ⟨I.ok.wish E, I.os, I.bare, I.base, I.loc, I.cell, I.free, I.freeC, I.pin, I.hok, I.len⟩
theorem Inv.unwish (I : Inv (X.wish E) pins σ H s) : Inv X pins σ H s := ⟨I.ok.unwish, I.os, I.bare, I.base, I.loc, I.cell, I.free, I.freeC, I.pin, I.hok, I.len⟩
theorem SP.unwish {D : Ends} {f : Flow} {s' : Shared} (h : SP (X.wish E) pins D f s') : SP X pins D f s' := by
  cases f with
  | next => obtain ⟨σ', H', I, q⟩ := h; exact ⟨σ', H', I.unwish, q⟩
  | brk => obtain ⟨σ', H', I, q⟩ := h; exact ⟨σ', H', I.unwish, q⟩
  | cont => obtain ⟨σ', H', I, q⟩ := h; exact ⟨σ', H', I.unwish, q⟩
  | ret u => obtain ⟨v, σ', H', I, r, q⟩ := h; exact ⟨v, σ', H', I.unwish, r, q⟩
theorem PSs.nox {st : List Stmt} {t : TS} (h : PSs X.nox st t) : PSs X st t := fun pins s σ H D I hw =>
  wpAny_mono (h pins s σ H D (I.wish _) hw) (fun _ _ q => q.unwish) fun _ _ z => False.elim z
end
section
variable {X : Cx} {st : Stmt} {rest : List Stmt} {t u : TS} {e : Expr} {te : TE} {pos : Pos}
def tNext : TS := fun D σ H => D.nx σ H
def tSeq (t u : TS) : TS := fun D σ H => t { D with nx := u D } σ H
theorem pss_nil : PSs X [] tNext := fun _ _ σ H _ I h => wpAny_execs_nil ⟨σ, H, I, h⟩
theorem pss_cons (h1 : PS X st t) (h2 : PSs X rest u) : PSs X (st :: rest) (tSeq t u) := by
  intro pins s σ H D I h
  refine wpAny_execs_cons (thn (h1 pins s σ H { D with nx := u D } I h) fun f s1 q => ?_)
  cases f with
  | next =>
    obtain ⟨σ', H', I', q⟩ := q
    exact h2 pins s1 σ' H' D I' q
  | ret v => exact q
  | brk => exact q
  | cont => exact q
theorem pss_one (h1 : PS X st t) : PSs X [st] t := by
  intro pins s σ H D I h
  refine wpAny_execs_cons (thn (h1 pins s σ H D I h) fun f s1 q => ?_)
  cases f with
  | next => exact wpAny_execs_nil q
  | ret v => exact q
  | brk => exact q
  | cont => exact q
theorem Inv.quiet {pins : List (Addr × Obj)} {σ : St} {H : Hp} {s : Shared} (I : Inv X pins σ H s) : interactive X.env = false := by simp [interactive, I.ok.kind]
def tDrop (te : TE) : TS := fun D σ H => te σ H fun _ H1 => D.nx σ H1
theorem ps_expr (he : PE X e te) (hs : swapsWith e none pos.line X.env = pure false := by rfl) : PS X (.Expr e pos) (tDrop te) := by
  intro pins s σ H D I h
  exact wpAny_Expr_any (thn (he pins s σ H _ I h) fun v s1 ⟨x, H1, I1, r1, q1⟩ => ⟨σ, H1, I1, q1⟩) I.quiet hs
def tRet (te : TE) : TS := fun D σ H => te σ H D.rt
theorem ps_ret (he : PE X e te) : PS X (.Return (some e) pos) (tRet te) := by
  intro pins s σ H D I h
  exact wpAny_Return_some (thn (he pins s σ H _ I h) fun v s1 ⟨x, H1, I1, r1, q1⟩ => ⟨x, σ, H1, I1, r1, q1⟩)
def tIfS (c : TT) (t u : TS) : TS := fun D σ H => c σ H fun b H1 => if b = true then t D σ H1 else u D σ H1
theorem ps_if {c : Expr} {a b : List Stmt} {tc : TT} (hc : PT X c tc) (ha : PSs X a t) (hb : PSs X b u) : PS X (.If c a b pos) (tIfS tc t u) := by
  intro pins s σ H D I h
  refine wpAny_If (thn (hc pins s σ H _ I h) fun d s1 ⟨H1, I1, q1⟩ => ?_)
  cases d with
  | true => exact ha pins s1 σ H1 D I1 q1
  | false => exact hb pins s1 σ H1 D I1 q1
end
abbrev TG := V → St → Hp → (St → Hp → Prop) → Prop
abbrev TGs := List V → St → Hp → (St → Hp → Prop) → Prop
def PG (X : Cx) (target : Expr) (t : TG) : Prop :=
  ∀ (pins : List (Addr × Obj)) (s : Shared) (σ : St) (H : Hp) (v : V) (u : Value) (Q : St → Hp → Prop), Inv X pins σ H s → RelV v u → t v σ H Q →
    wpAny (model X.prog X.w) X.A (assign target X.env u) (fun _ s' => ∃ σ' H', Inv X pins σ' H' s' ∧ Q σ' H') X.xe s
def PGs (X : Cx) (ts : List Expr) (t : TGs) : Prop :=
  ∀ (pins : List (Addr × Obj)) (s : Shared) (σ : St) (H : Hp) (vs : List V) (us : List Value) (Q : St → Hp → Prop), Inv X pins σ H s → Vals vs us → t vs σ H Q →
    wpAny (model X.prog X.w) X.A (assignInOrder ((assignEach ts X.env).map (·.2)) us) (fun _ s' => ∃ σ' H', Inv X pins σ' H' s' ∧ Q σ' H') X.xe s
abbrev TSet := V → V → V → Hp → (Hp → Prop) → Prop
def PSet (X : Cx) (t : TSet) : Prop :=
  ∀ (pins : List (Addr × Obj)) (s : Shared) (σ : St) (H : Hp) (o i v : V) (ov iv u : Value) (Q : Hp → Prop), Inv X pins σ H s → RelV o ov → RelV i iv → RelV v u → t o i v H Q →
    wpAny (model X.prog X.w) X.A (setItem ov iv u) (fun _ s' => ∃ H', Inv X pins σ H' s' ∧ Q H') X.xe s
section
variable {X : Cx} {pos : Pos}
def gName (i : Nat) : TG := fun v σ H Q => Q (σ.set i (some v)) H
theorem pg_name {i : Nat} {x : Str} (hN : X.N.Nodup) (hi : X.N[i]? = some x) (hx : Loc X.env.scope x) (hf : X.fn x = true ∨ X.env.scope.names.lookup x = some .local := by first | exact .inl rfl | exact .inr rfl | assumption) : PG X (.Name x pos) (gName i) := by
  intro pins s σ H v u Q I r h
  exact wpAny_assign_Name (store_ok I hN hi hx r (fun s' I' => ⟨_, H, I', h⟩) hf)
def gNil : TGs := fun vs σ H Q => vs = [] ∧ Q σ H
def gCons (t : TG) (u : TGs) : TGs := fun vs σ H Q => ∃ v r, vs = v :: r ∧ t v σ H fun σ' H' => u r σ' H' Q
theorem pgs_nil : PGs X [] gNil := by
  intro pins s σ H vs us Q I r h
  obtain ⟨e, h⟩ := h
  subst e
  cases r
  exact assignInOrder_nil ⟨σ, H, I, h⟩
theorem pgs_cons {e : Expr} {es : List Expr} {t : TG} {u : TGs} (h1 : PG X e t) (h2 : PGs X es u)
    (hs : (assignEach (e :: es) X.env).map (·.2) = assign e X.env :: (assignEach es X.env).map (·.2) := by rfl) : PGs X (e :: es) (gCons t u) := by
  intro pins s σ H vs us Q I r h
  obtain ⟨v, vr, e1, h⟩ := h
  subst e1
  cases r with
  | cons r rr =>
    rw [hs]
    refine assignInOrder_cons (thn (h1 pins s σ H _ _ _ I r h) fun _ s1 ⟨σ1, H1, I1, q1⟩ => ?_)
    exact h2 pins s1 σ1 H1 _ _ Q I1 rr q1
def gTup (K : PySem.W.Frag) (n : Nat) (t : TGs) : TG := fun v σ H Q => ∃ a xs, v = .ref a ∧ SqT K H a xs ∧ xs.length = n ∧ t xs σ H Q
theorem pg_tup {es : List Expr} {k : Nat} {t : TGs} {n : Nat} (hc : X.calm = true) (h : PGs X es t)
    (hn : (assignEach es X.env).length = n := by rfl) (hst : (assignEach es X.env).findIdx? (·.1) = none := by rfl) : PG X (.Tuple es k pos) (gTup X.K n t) := by
  intro pins s σ H v u Q I r hw
  obtain ⟨a, xs, e1, hq, hl, hw⟩ := hw
  subst e1
  cases r
  obtain ⟨its, rv, ht, hz⟩ := I.tuple hq
  refine assign_Tuple_tuple (I.ok.hd hc) ht (by simp [hn, ← hl, rv.length]) hst fun h' hx => ?_
  have I1 : Inv X pins σ H { s with heap := h' } := I.kept (t' := s.toks) fun b o e => hx b o (Nat.ne_of_lt (Heap.lt_size e)) e
  exact h pins _ σ H xs _ Q I1 (by simpa using rv) hw
def gSub (to ti : TE) (t : TSet) : TG := fun v σ H Q => to σ H fun o H1 => ti σ H1 fun i H2 => t o i v H2 fun H3 => Q σ H3
theorem pg_sub {o i : Expr} {to ti : TE} {t : TSet} (ho : PE X o to) (hi : PE X i ti) (hs : PSet X t)
    (ha : ∀ v, assign (.Subscript o i pos) X.env v = (do
      let ov ← holding [v] (eval o X.env)
      let iv ← holding [v, ov] (eval i X.env)
      standAt pos
      holding [v, ov, iv] (setItem ov iv v)
      release [v, ov, iv] []) := by intro _; rfl) : PG X (.Subscript o i pos) (gSub to ti t) := by
  intro pins s σ H v u Q I r h
  rw [ha]
  refine wpAny_bind (wpAny_holding (thn (ho pins s σ H _ I h) fun ov s1 ⟨x, H1, I1, r1, q1⟩ => ?_))
  refine wpAny_bind (wpAny_holding (thn (hi pins s1 σ H1 _ I1 q1) fun iv s2 ⟨y, H2, I2, r2, q2⟩ => ?_))
  refine wpAny_bind (wpAny_standAt (wpAny_bind (wpAny_holding (thn (hs pins s2 σ H2 x y v ov iv u _ I2 r1 r2 r q2) fun _ s3 ⟨H3, I3, q3⟩ => ?_))))
  exact wpAny_release ⟨σ, H3, I3, q3⟩
def tAsg (te : TE) (g : TG) : TS := fun D σ H => te σ H fun x H1 => g x σ H1 D.nx
theorem ps_asg {tg e : Expr} {te : TE} {g : TG} (he : PE X e te) (hg : PG X tg g) (hs : swapsWithSole [tg] e pos.line X.env = pure false := by rfl) (hw : swappedStores [tg] e X.env = pure none := by rfl)
    (h1 : (assignEach [tg] X.env).map (·.2) = [assign tg X.env] := by rfl) : PS X (.Assign [tg] e pos) (tAsg te g) := by
  intro pins s σ H D I h
  refine wpAny_Assign_stores (thn (he pins s σ H _ I h) fun v s1 ⟨x, H1, I1, r1, q1⟩ => ?_) hs hw
  rw [h1]
  exact thn (hg pins s1 σ H1 x v _ I1 r1 q1) fun _ s2 q => q
theorem ps_set {i : Nat} {x : Str} {e : Expr} {te : TE} {pos' : Pos} (hN : X.N.Nodup) (hi : X.N[i]? = some x) (hx : Loc X.env.scope x) (he : PE X e te) (hs : swapsWith e (some (.Name x pos')) pos.line X.env = pure false := by rfl) (hf : X.fn x = true ∨ X.env.scope.names.lookup x = some .local := by first | exact .inl rfl | exact .inr rfl | assumption) :
    PS X (.Assign [.Name x pos'] e pos) (tAsg te (gName i)) := by
  intro pins s σ H D I h
  refine wpAny_Assign_Name (thn (he pins s σ H _ I h) fun v s1 ⟨y, H1, I1, r1, q1⟩ => ?_) hs
  exact store_ok I1 hN hi hx r1 (fun s2 I2 => ⟨_, H1, I2, q1⟩) hf
end
section
variable {X : Cx} {pos : Pos}
end
structure It where
  go : Nat → Hp → Prop
  yld : Nat → Hp → V → Hp → Prop
  stop : Nat → Hp → Prop
def FpOk (X : Cx) (pins : List (Addr × Obj)) (H : Hp) (b : Addr) : Prop :=
  H b = none ∧ b ≠ X.env.locals ∧ b ∉ X.fs ∧ (b ∈ X.ex ∨ X.s₀.heap.objs.size ≤ b) ∧ (∀ x c, X.env.cells.lookup x = some c → c ≠ b) ∧ ∀ p ∈ X.pn ++ pins, p.1 ≠ b
theorem Inv.fpOk {X : Cx} {pins : List (Addr × Obj)} {σ : St} {H H' : Hp} {s : Shared} {b : Addr} (I : Inv X pins σ H s) (hb : s.heap.objs.size ≤ b) (hn : H' b = none) : FpOk X pins H' b := by
  refine ⟨hn, Nat.ne_of_gt (Nat.lt_of_lt_of_le I.lt hb), I.nofs hb, .inr (Nat.le_trans I.sz hb), fun x c e z => ?_, fun p hp z => ?_⟩
  · obtain ⟨v, q⟩ := I.cell x c e
    exact absurd (Nat.lt_of_lt_of_le q.lt (by rw [z]; exact hb)) (Nat.lt_irrefl _)
  · exact absurd (Nat.lt_of_lt_of_le (Heap.lt_size (I.pin p hp).1) (by rw [z]; exact hb)) (Nat.lt_irrefl _)
structure Turn (P : Program) (w : World) (K : PySem.W.Frag) (tg : Expr) (J : It) (fp : List Addr) (it : Addr) (tn : Nat → Heap → Prop) : Prop where
  mem : it ∈ fp
  obj : ∀ i h, tn i h → ∀ b ∈ fp, ∃ o, h.get? b = some o ∧ ∀ v, o.data ≠ .cell v
  keep : ∀ i h h', tn i h → (∀ b ∈ fp, ∀ o, h.get? b = some o → h'.get? b = some o) → tn i h'
  item : ∀ (X : Cx), X.prog = P → X.w = w → X.K = K → X.calm = true → ∀ (i : Nat) (pins : List (Addr × Obj)) (s : Shared) (σ : St) (H : Hp) (E : Value → Shared → Prop), Inv X pins σ H s → (∀ b ∈ fp, FpOk X pins H b) → tn i s.heap → J.go i H →
    wpAny (model P w) X.A (pyNext (.ref it)) (fun r s1 => ∃ u, r = some u ∧
      wpAny (model P w) X.A (letOwnedTupleGo tg (.ref it) u) (fun _ s2 => ∃ x H', Inv X pins σ H' s2 ∧ RelV x u ∧ J.yld i H x H' ∧ tn (i + 1) s2.heap ∧ ∀ b ∈ fp, H' b = none) E s1) E s
  done : ∀ (X : Cx), X.prog = P → X.w = w → X.K = K → X.calm = true → ∀ (i : Nat) (pins : List (Addr × Obj)) (s : Shared) (σ : St) (H : Hp) (E : Value → Shared → Prop), Inv X pins σ H s → (∀ b ∈ fp, FpOk X pins H b) → tn i s.heap → J.stop i H →
    wpAny (model P w) X.A (pyNext (.ref it)) (fun r s1 => r = none ∧ Inv X pins σ H s1) E s
  self : ∀ (A : Around) (i : Nat) (s : Shared) (Q : Value → Shared → Prop) (E : Value → Shared → Prop), tn i s.heap → Q (.ref it) s → wpAny (model P w) A (pyIter (.ref it)) Q E s
abbrev TI := St → Hp → (It → Hp → Prop) → Prop
def PIE (X : Cx) (pins : List (Addr × Obj)) (σ : St) (tg : Expr) (R : It → Hp → Prop) (itv : Value) (s2 : Shared) : Prop :=
  ∃ (it : Addr) (fp : List Addr) (tn : Nat → Heap → Prop) (J : It) (H' : Hp), itv = .ref it ∧ Inv X pins σ H' s2 ∧ Turn X.prog X.w X.K tg J fp it tn ∧ tn 0 s2.heap ∧ (∀ b ∈ fp, FpOk X pins H' b) ∧ R J H'
def PI (X : Cx) (tg iter : Expr) (wi : TI) : Prop :=
  ∀ (pins : List (Addr × Obj)) (s : Shared) (σ : St) (H : Hp) (R : It → Hp → Prop), Inv X pins σ H s → wi σ H R →
    wpAny (model X.prog X.w) X.A (eval iter X.env) (fun v s1 => wpAny (model X.prog X.w) X.A (pyIter v) (PIE X pins σ tg R) X.xe s1) X.xe s
theorem go_of {M : Model} {A : Around} {E : Value → Shared → Prop} {s : Shared} {tg : Expr} {it : Addr} {u : Value} {o : Obj} {n : String} {vs : Array Value} {Q : Unit → Shared → Prop} (ho : s.heap.get? it = some o) (hc : o.cls = .type n) (hd : o.data = .fields vs)
    (hn : ["enumerate", "zip", "dict_itemiterator", "dict_reverseitemiterator", "odict_iterator", "itertools.zip_longest", "itertools.pairwise"].contains n = false) (hQ : Q () s) : wpAny M A (letOwnedTupleGo tg (.ref it) u) Q E s := by
  unfold letOwnedTupleGo
  cases tg <;> first
    | exact wpAny_pure hQ
    | (cases u <;> first
        | exact wpAny_pure hQ
        | (refine wpAny_bind (wpAny_load ho ?_)
           rw [hc, hd]
           show wpAny M A (if (["enumerate", "zip", "dict_itemiterator", "dict_reverseitemiterator", "odict_iterator", "itertools.zip_longest", "itertools.pairwise"].contains n && vs[0]? == some (rawInt _)) = true then _ else _) Q E s
           rw [if_neg (by intro h; rw [hn, Bool.false_and] at h; cases h)]
           exact wpAny_pure hQ))
def Itl (K : PySem.W.Frag) (a : Addr) : It :=
  ⟨fun i H => ∃ xs x, SqL K H a xs ∧ xs[i]? = some x, fun i H x H' => H' = H ∧ ∀ xs, SqL K H a xs → xs[i]? = some x, fun i H => ∃ xs, SqL K H a xs ∧ xs.length ≤ i⟩
def Itr (lo : Int) (n : Nat) : It := ⟨fun i _ => i < n, fun i H x H' => H' = H ∧ x = .int (lo + i), fun i _ => n ≤ i⟩
theorem turn_list {P : Program} {w : World} {K : PySem.W.Frag} {tg : Expr} (a it : Addr) : Turn P w K tg (Itl K a) [it] it (fun i h => h.IsListIter it a i) where
  mem := by simp
  obj := fun i h st b hb => by
    have e : b = it := by simpa using hb
    subst e
    obtain ⟨o, e, c, d⟩ := st
    exact ⟨o, e, fun v z => by rw [d] at z; cases z⟩
  keep := fun i h h' st k => st.at fun o e => k it (by simp) o e
  item := by
    intro X hP hw hK hc i pins s σ H E I hf st hg
    subst hP hw hK
    obtain ⟨xs, x, hq, hx⟩ := hg
    obtain ⟨its, rv, p, hz⟩ := I.list hq
    obtain ⟨u, hu, ru⟩ := rv.get hx
    obtain ⟨f0, f1, f2, f3, f4, f5⟩ := hf it (by simp)
    refine wpAny_pyNext_list_item st p.isList (x := u) (by simpa using hu) fun h' st' sb => ?_
    have I1 : Inv X pins σ H { s with heap := h' } := I.turned (t' := s.toks) (fun b o hb e => (sb.2 b hb).trans e) f0 f1 f3 f4 f5
    obtain ⟨o, e, c, d⟩ := id st'
    exact ⟨u, rfl, go_of (s := { s with heap := h' }) e c d (by decide) ⟨x, H, I1, ru, ⟨rfl, fun ys hy => by rw [I.list_inj hy hq]; exact hx⟩, st', fun b hb => (hf b hb).1⟩⟩
  done := by
    intro X hP hw hK hc i pins s σ H E I hf st hg
    subst hP hw hK
    obtain ⟨xs, hq, hx⟩ := hg
    obtain ⟨its, rv, p, hz⟩ := I.list hq
    obtain ⟨f0, f1, f2, f3, f4, f5⟩ := hf it (by simp)
    have hl := rv.length
    exact wpAny_pyNext_list_end (I.ok.hd hc) st p.isList (by simp; omega) fun h' eb => ⟨rfl, I.turned (t' := s.toks) (fun b o hb e => eb b o hb e) f0 f1 f3 f4 f5⟩
  self := fun _ _ _ _ _ st h => wpAny_pyIter_listiter st h
theorem turn_range {P : Program} {w : World} {K : PySem.W.Frag} {tg : Expr} (it : Addr) (lo : Int) (n : Nat) : Turn P w K tg (Itr lo n) [it] it (fun i h => IsRangeIter h it (lo + (i : Nat) * 1) ((n : Int) - (i : Nat)) 1) where
  mem := by simp
  obj := fun i h st b hb => by
    have e : b = it := by simpa using hb
    subst e
    exact ⟨_, st, fun v z => by
      have z' : Data.fields _ = Data.cell v := z
      cases z'⟩
  keep := fun i h h' st k => k it (by simp) _ st
  item := by
    intro X hP hw hK hc i pins s σ H E I hf st hg
    subst hP hw hK
    obtain ⟨f0, f1, f2, f3, f4, f5⟩ := hf it (by simp)
    have W := Walks.range (prog := X.prog) (w := X.w) (I.ok.hd hc) it lo 1 n
    refine W.item i s _ _ hg st fun v h' tk hv st' kk => ?_
    obtain ⟨t, rfl⟩ := hv
    have I1 : Inv X pins σ H { s with heap := h', toks := tk } := I.turned (fun b o hb e => kk b o (by simpa using hb) e) f0 f1 f3 f4 f5
    refine ⟨_, rfl, go_of (s := { s with heap := h', toks := tk }) (n := "range_iterator") st' rfl rfl (by decide) ⟨.int (lo + i), H, I1, ⟨t, ?_⟩, ⟨rfl, rfl⟩, st', fun b hb => (hf b hb).1⟩⟩
    rw [Int.mul_one]
  done := by
    intro X hP hw hK hc i pins s σ H E I hf st hg
    subst hP hw hK
    obtain ⟨f0, f1, f2, f3, f4, f5⟩ := hf it (by simp)
    exact wpAny_pyNext_range_end (I.ok.hd hc) st (by have : n ≤ i := hg; omega) fun h' eb => ⟨rfl, I.turned (t' := s.toks) (fun b o hb e => eb b o hb e) f0 f1 f3 f4 f5⟩
  self := fun _ _ _ _ _ st h => wpAny_pyIter_rangeiter st h
end L2
namespace L2
open PySem PySem.Spec PyProof.Rows
section
variable {X : Cx} {tg : Expr}
def iList (K : PySem.W.Frag) (tl : TE) : TI := fun σ H R => tl σ H fun x H1 => ∃ a, x = .ref a ∧ (∃ xs, SqL K H1 a xs) ∧ R (Itl K a) H1
theorem pi_list {l : Expr} {tl : TE} (hl : PE X l tl) : PI X tg l (iList X.K tl) := by
  intro pins s σ H R I h
  refine thn (hl pins s σ H _ I h) fun v s1 ⟨x, H1, I1, r1, q1⟩ => ?_
  obtain ⟨a, e, ⟨xs, hq⟩, q⟩ := q1
  subst e
  cases r1
  obtain ⟨its, rv, p, hz⟩ := I1.list hq
  refine wpAny_pyIter_list p.isList ?_
  refine ⟨s1.heap.objs.size, [s1.heap.objs.size], _, _, H1, rfl, I1.kept (t' := s1.toks) fun b o e => Heap.get?_push_of_some _ e, turn_list a _, ⟨_, Heap.get?_push_size _ rfl, rfl, rfl⟩, fun b hb => ?_, q⟩
  have e : b = s1.heap.objs.size := by simpa using hb
  subst e
  exact I1.fpOk (Nat.le_refl _) (I1.hok.fresh (Nat.le_refl _))
theorem range_it {pins : List (Addr × Obj)} {σ : St} {H : Hp} {s : Shared} {R : It → Hp → Prop} {E : Value → Shared → Prop} {lo hi : Int} {t u v : Tok} {tk : Nat} (I : Inv X pins σ H s) (h1 : -(2 ^ 62) ≤ lo) (h2 : lo < 2 ^ 62) (h3 : -(2 ^ 62) ≤ hi) (h4 : hi < 2 ^ 62)
    (q : R (Itr lo (hi - lo).toNat) H) : wpAny (model X.prog X.w) X.A (pyIter (.ref s.heap.objs.size)) (PIE X pins σ tg R) E { s with heap := s.heap.push { cls := .type "range", data := .fields #[.int lo t, .int hi u, .int 1 v] }, toks := tk } := by
  refine wpAny_pyIter_range (IsRange.new ..) (small_one h1 h2 h3 h4) ?_
  have I1 : Inv X pins σ H { s with heap := s.heap.push { cls := .type "range", data := .fields #[.int lo t, .int hi u, .int 1 v] }, toks := tk } := I.kept fun b o e => Heap.get?_push_of_some _ e
  refine ⟨(s.heap.push { cls := .type "range", data := .fields #[.int lo t, .int hi u, .int 1 v] }).objs.size, [(s.heap.push { cls := .type "range", data := .fields #[.int lo t, .int hi u, .int 1 v] }).objs.size], _, _, H, rfl,
    I1.kept (t' := tk) fun b o e => Heap.get?_push_of_some _ e, turn_range _ lo (hi - lo).toNat, ?_, fun b hb => ?_, q⟩
  · have e1 : lo + ((0 : Nat) : Int) * 1 = lo := by simp
    have e2 : (((hi - lo).toNat : Nat) : Int) - ((0 : Nat) : Int) = Builtin.Range.rangeSize lo hi 1 := by rw [rangeSize_one]; split <;> omega
    show IsRangeIter _ _ (lo + ((0 : Nat) : Int) * 1) ((((hi - lo).toNat : Nat) : Int) - ((0 : Nat) : Int)) 1
    rw [e1, e2]
    exact Heap.get?_push_size _ rfl
  · have e : b = (s.heap.push { cls := .type "range", data := .fields #[.int lo t, .int hi u, .int 1 v] }).objs.size := by simpa using hb
    subst e
    exact I1.fpOk (Nat.le_refl _) (I1.hok.fresh (Nat.le_refl _))
def iRng1 (ta : TA) : TI := fun σ H R => ta σ H fun vs H1 => ∃ j : Int, vs = [.int j] ∧ -(2 ^ 62) ≤ j ∧ j < 2 ^ 62 ∧ R (Itr 0 j.toNat) H1
theorem pi_range1 {a : Expr} {ta : TA} {p pos : Pos} (hg : Gl X "range") (hm : X.mg "range" = none) (ha : PA X [a] ta) (hs : starEach [a] X.env = [(false, eval a X.env)] := by rfl) : PI X tg (.Call (.Name "range" p) [a] [] pos) (iRng1 ta) := by
  intro pins s σ H R I h
  refine Call_ (ld_blt I hg hm boot_range (PyProof.Rows.callWith_type1 (thn (ha pos pins s σ H _ I h) fun us s1 ⟨vs, H1, I1, r1, q1⟩ => ?_) hs rfl))
  obtain ⟨j, e, q1, q2, q⟩ := q1
  subst e
  cases r1 with
  | cons r rr =>
    cases rr
    obtain ⟨t, rfl⟩ := r
    exact call_range_1 (range_it I1 (by omega) (by omega) q1 q2 (by simpa using q))
def tFor (wi : TI) (g : TG) (tb : TS) : TS := fun D σ H => wi σ H fun J H1 => ∃ W : Nat → Nat → St → Hp → Prop, (∃ m, W 0 m σ H1) ∧ ∀ i m σ H, W i m σ H →
  (J.stop i H ∧ D.nx σ H) ∨ (J.go i H ∧ ∃ N : St → Hp → Prop, (∀ σ' H', N σ' H' → ∃ m', m' < m ∧ W (i + 1) m' σ' H') ∧ ∀ x H', J.yld i H x H' → g x σ H' fun σ2 H2 => tb { D with nx := N, ct := N, bk := D.nx } σ2 H2)
def pinsAt (fp : List Addr) (h : Heap) : List (Addr × Obj) := fp.filterMap fun b => (h.get? b).map fun o => (b, o)
theorem mem_pinsAt {fp : List Addr} {h : Heap} {b : Addr} {o : Obj} (hb : b ∈ fp) (e : h.get? b = some o) : (b, o) ∈ pinsAt fp h := List.mem_filterMap.mpr ⟨b, hb, by rw [e]; rfl⟩
theorem of_pinsAt {fp : List Addr} {h : Heap} {p : Addr × Obj} (hp : p ∈ pinsAt fp h) : p.1 ∈ fp ∧ h.get? p.1 = some p.2 := by
  obtain ⟨b, hb, e⟩ := List.mem_filterMap.mp hp
  cases q : h.get? b with
  | none => rw [q] at e; cases e
  | some o =>
    rw [q] at e
    have e' : (b, o) = p := Option.some.inj e
    subst e'
    exact ⟨hb, q⟩
theorem Inv.pinned {pins : List (Addr × Obj)} {σ : St} {H : Hp} {s : Shared} {fp : List Addr} (I : Inv X pins σ H s) (hf : ∀ b ∈ fp, FpOk X pins H b) (ho : ∀ b ∈ fp, ∃ o, s.heap.get? b = some o ∧ ∀ v, o.data ≠ .cell v) : Inv X (pins ++ pinsAt fp s.heap) σ H s :=
  I.pins_of fun p hp => (List.mem_append.mp hp).elim (fun z => I.pin p (List.mem_append_right _ z)) fun z => by
    obtain ⟨hb, e⟩ := of_pinsAt z
    obtain ⟨f0, f1, f2, _⟩ := hf p.1 hb
    obtain ⟨o, e', d⟩ := ho p.1 hb
    rw [e] at e'; cases e'
    exact ⟨e, f0, f1, f2, d⟩
theorem Inv.unpinned {pins pl : List (Addr × Obj)} {σ : St} {H : Hp} {s : Shared} (I : Inv X (pins ++ pl) σ H s) : Inv X pins σ H s := I.pins_of fun p hp => I.pin p (List.mem_append_right _ (List.mem_append_left _ hp))
theorem ps_for {iter : Expr} {body : List Stmt} {wi : TI} {g : TG} {tb : TS} {pos : Pos} (hp : PassesOwn (model X.prog X.w) X.A X.env X.xe) (hc : X.calm = true) (hi : PI X tg iter wi) (hg : PG X tg g) (hb : PSs X body tb)
    (hs : ∀ x, foldedSetIterable iter X.env x = pure x := by intro _; rfl) : PS X (.For tg iter body [] pos) (tFor wi g tb) := by
  intro pins s σ H D I h
  refine wpAny_For (thn (hi pins s σ H _ I h) fun v s1 h1 => thn h1 fun itv s2 h2 => ?_) hs
  obtain ⟨it, fp, tn, J, H2, e, I2, T, st2, f2, W, ⟨m0, w0⟩, turn⟩ := h2
  subst e
  have stat : ∀ {H' : Hp}, (∀ b ∈ fp, H' b = none) → ∀ b ∈ fp, FpOk X pins H' b := fun hn b hb => ⟨hn b hb, (f2 b hb).2⟩
  refine codeAny_forLoop_any (fun n s' => ∃ i σ' H', Inv X pins σ' H' s' ∧ tn i s'.heap ∧ (∀ b ∈ fp, H' b = none) ∧ W i n σ' H') ?_ m0 ⟨0, σ, H2, I2, st2, fun b hb => (f2 b hb).1, w0⟩
  rintro n s3 ⟨i, σ3, H3, I3, st3, fr3, w3⟩
  rcases turn i n σ3 H3 w3 with ⟨stop, qn⟩ | ⟨go, N, hN, step⟩
  · refine wpAny_passesOwn hp (thn (T.done X rfl rfl rfl hc i pins s3 σ3 H3 X.xe I3 (stat fr3) st3 stop) fun r s4 ⟨hr, I4⟩ => ?_)
    subst hr
    exact wpAny_execs_nil ⟨σ3, H3, I4, qn⟩
  · refine wpAny_passesOwn hp (thn (T.item X rfl rfl rfl hc i pins s3 σ3 H3 X.xe I3 (stat fr3) st3 go) fun r s4 ⟨u, hr, h4⟩ => ?_)
    subst hr
    refine wpAny_passesOwn hp (thn h4 fun _ s5 ⟨x, H5, I5, r5, y5, st5, fr5⟩ => ?_)
    have I5' := I5.pinned (stat fr5) (T.obj _ _ st5)
    refine wpAny_passesOwn hp (thn (hg _ s5 σ3 H5 x u _ I5' r5 (step x H5 y5)) fun _ s6 ⟨σ6, H6, I6, q6⟩ => ?_)
    refine wpAny_passesOwn hp (thn (hb _ s6 σ6 H6 _ I6 q6) fun f s7 q7 => ?_)
    have again : ∀ {σ7 : St} {H7 : Hp}, Inv X (pins ++ pinsAt fp s5.heap) σ7 H7 s7 → N σ7 H7 → ∃ m, m < n ∧ ∃ i σ' H', Inv X pins σ' H' s7 ∧ tn i s7.heap ∧ (∀ b ∈ fp, H' b = none) ∧ W i m σ' H' := fun {σ7 H7} I7 n7 => by
      obtain ⟨m', hm, w7⟩ := hN σ7 H7 n7
      refine ⟨m', hm, i + 1, σ7, H7, I7.unpinned, T.keep _ _ _ st5 fun b hb o e => (I7.pin (b, o) (List.mem_append_right _ (List.mem_append_right _ (mem_pinsAt hb e)))).1, fun b hb => ?_, w7⟩
      obtain ⟨o, e, d⟩ := T.obj _ _ st5 b hb
      exact (I7.pin (b, o) (List.mem_append_right _ (List.mem_append_right _ (mem_pinsAt hb e)))).2.1
    cases f with
    | next => obtain ⟨σ7, H7, I7, n7⟩ := q7; exact again I7 n7
    | cont => obtain ⟨σ7, H7, I7, n7⟩ := q7; exact again I7 n7
    | brk => obtain ⟨σ7, H7, I7, q7⟩ := q7; exact ⟨σ7, H7, I7.unpinned, q7⟩
    | ret v => obtain ⟨x7, σ7, H7, I7, r7, q7⟩ := q7; exact ⟨x7, σ7, H7, I7.unpinned, r7, q7⟩
end
theorem for_list {K : PySem.W.Frag} {a : Addr} {xs : List V} {g : TG} {tb : TS} {D : Ends} {σ : St} {H : Hp} (Pv : Nat → St → Hp → Prop) (h0 : Pv 0 σ H) (hl : ∀ i σ H, i ≤ xs.length → Pv i σ H → SqL K H a xs)
    (hs : ∀ i x σ H, xs[i]? = some x → Pv i σ H → g x σ H fun σ2 H2 => tb { D with nx := Pv (i + 1), ct := Pv (i + 1), bk := D.nx } σ2 H2) (hd : ∀ σ H, Pv xs.length σ H → D.nx σ H) :
    ∃ W : Nat → Nat → St → Hp → Prop, (∃ m, W 0 m σ H) ∧ ∀ i m σ H, W i m σ H →
      ((Itl K a).stop i H ∧ D.nx σ H) ∨ ((Itl K a).go i H ∧ ∃ N : St → Hp → Prop, (∀ σ' H', N σ' H' → ∃ m', m' < m ∧ W (i + 1) m' σ' H') ∧ ∀ x H', (Itl K a).yld i H x H' → g x σ H' fun σ2 H2 => tb { D with nx := N, ct := N, bk := D.nx } σ2 H2) := by
  refine ⟨fun i m σ H => m = xs.length - i ∧ i ≤ xs.length ∧ Pv i σ H, ⟨xs.length, by simp, Nat.zero_le _, h0⟩, ?_⟩
  rintro i m σ H ⟨rfl, hi, p⟩
  have q := hl i σ H hi p
  by_cases hlt : i < xs.length
  · refine .inr ⟨⟨xs, xs[i], q, by simp [hlt]⟩, Pv (i + 1), fun σ' H' p' => ⟨xs.length - (i + 1), by omega, rfl, hlt, p'⟩, fun x H' y => ?_⟩
    obtain ⟨e, y⟩ := y
    subst e
    exact hs i x σ _ (y xs q) p
  · have e : i = xs.length := by omega
    subst e
    exact .inl ⟨⟨xs, q, Nat.le_refl _⟩, hd σ H p⟩
theorem for_range {lo : Int} {n : Nat} {g : TG} {tb : TS} {D : Ends} {σ : St} {H : Hp} (Pv : Nat → St → Hp → Prop) (h0 : Pv 0 σ H)
    (hs : ∀ i σ H, i < n → Pv i σ H → g (.int (lo + i)) σ H fun σ2 H2 => tb { D with nx := Pv (i + 1), ct := Pv (i + 1), bk := D.nx } σ2 H2) (hd : ∀ σ H, Pv n σ H → D.nx σ H) :
    ∃ W : Nat → Nat → St → Hp → Prop, (∃ m, W 0 m σ H) ∧ ∀ i m σ H, W i m σ H →
      ((Itr lo n).stop i H ∧ D.nx σ H) ∨ ((Itr lo n).go i H ∧ ∃ N : St → Hp → Prop, (∀ σ' H', N σ' H' → ∃ m', m' < m ∧ W (i + 1) m' σ' H') ∧ ∀ x H', (Itr lo n).yld i H x H' → g x σ H' fun σ2 H2 => tb { D with nx := N, ct := N, bk := D.nx } σ2 H2) := by
  refine ⟨fun i m σ H => m = n - i ∧ i ≤ n ∧ Pv i σ H, ⟨n, by simp, Nat.zero_le _, h0⟩, ?_⟩
  rintro i m σ H ⟨rfl, hi, p⟩
  by_cases hlt : i < n
  · refine .inr ⟨hlt, Pv (i + 1), fun σ' H' p' => ⟨n - (i + 1), by omega, rfl, hlt, p'⟩, fun x H' y => ?_⟩
    obtain ⟨e, y⟩ := y
    subst e y
    exact hs i σ _ hlt p
  · have e : i = n := by omega
    subst e
    exact .inl ⟨Nat.le_refl _, hd σ H p⟩
end L2
namespace L2
open PySem PySem.Spec PyProof.Rows
abbrev R2 := V → V → Hp → VK → Prop
def OpR (X : Cx) (f : Value → Value → Sem Value) (r : R2) : Prop :=
  ∀ (pins : List (Addr × Obj)) (s : Shared) (σ : St) (H : Hp) (x y : V) (v u : Value) (Q : VK), Inv X pins σ H s → RelV x v → RelV y u → r x y H Q →
    wpAny (model X.prog X.w) X.A (f v u) (EP X pins σ Q) X.xe s
def UnR (X : Cx) (f : Value → Sem Value) (r : V → Hp → VK → Prop) : Prop :=
  ∀ (pins : List (Addr × Obj)) (s : Shared) (σ : St) (H : Hp) (x : V) (v : Value) (Q : VK), Inv X pins σ H s → RelV x v → r x H Q →
    wpAny (model X.prog X.w) X.A (f v) (EP X pins σ Q) X.xe s
def CallR (X : Cx) (f : Value) (r : List V → Hp → VK → Prop) : Prop :=
  ∀ (pins : List (Addr × Obj)) (s : Shared) (σ : St) (H : Hp) (xs : List V) (us : List Value) (Q : VK), Inv X pins σ H s → Vals xs us → r xs H Q →
    wpAny (model X.prog X.w) X.A (call f us) (EP X pins σ Q) X.xe s
def TruR (X : Cx) (r : V → Hp → (Bool → Hp → Prop) → Prop) : Prop :=
  ∀ (pins : List (Addr × Obj)) (s : Shared) (σ : St) (H : Hp) (x : V) (v : Value) (Q : Bool → Hp → Prop), Inv X pins σ H s → RelV x v → r x H Q →
    wpAny (model X.prog X.w) X.A (truthy v) (TP X pins σ Q) X.xe s
def tOp (r : R2) (ta tb : TE) : TE := fun σ H Q => ta σ H fun x H1 => tb σ H1 fun y H2 => r x y H2 Q
def tUn (r : V → Hp → VK → Prop) (ta : TE) : TE := fun σ H Q => ta σ H fun x H1 => r x H1 Q
def rI (C : Int → Int → Prop) (g : Int → Int → V) : R2 := fun x y H Q => ∃ i j, x = .int i ∧ y = .int j ∧ C i j ∧ Q (g i j) H
def rI0 (g : Int → Int → V) : R2 := fun x y H Q => ∃ i j, x = .int i ∧ y = .int j ∧ Q (g i j) H
def rU (g : Int → V) : V → Hp → VK → Prop := fun x H Q => ∃ i, x = .int i ∧ Q (g i) H
section
variable {X : Cx} {a b c : Expr} {ta tb tc : TE} {pos : Pos}
theorem binT (ha : PE X a ta) (hb : PE X b tb) {pins : List (Addr × Obj)} {s : Shared} {σ : St} {H : Hp} {R : V → V → Hp → Prop} (I : Inv X pins σ H s)
    (h : ta σ H fun x H1 => tb σ H1 fun y H2 => R x y H2) {Q : Value → Shared → Prop} {f : Value → Value → Sem Value}
    (hf : ∀ v u s2 x y H2, Inv X pins σ H2 s2 → RelV x v → RelV y u → R x y H2 → wpAny (model X.prog X.w) X.A (f v u) Q X.xe s2) :
    wpAny (model X.prog X.w) X.A (eval a X.env) (fun v s₁ => wpAny (model X.prog X.w) X.A (eval b X.env) (fun u s₂ => wpAny (model X.prog X.w) X.A (f v u) Q X.xe s₂) X.xe s₁) X.xe s := by
  refine thn (ha pins s σ H _ I h) fun v s1 ⟨x, H1, I1, r1, q1⟩ => ?_
  refine thn (hb pins s1 σ H1 _ I1 q1) fun u s2 ⟨y, H2, I2, r2, q2⟩ => ?_
  exact hf v u s2 x y H2 I2 r1 r2 q2
theorem pe_op {op : Operator} {r : R2} (ho : OpR X (binaryOp op) r) (ha : PE X a ta) (hb : PE X b tb) : PE X (.BinOp a op b pos) (tOp r ta tb) := by
  intro pins s σ H Q I h
  exact wpAny_BinOp (binT ha hb I h fun v u s2 x y H2 I2 rx ry q => ho pins s2 σ H2 x y v u Q I2 rx ry q)
theorem pe_un {op : UnaryOp} {r : V → Hp → VK → Prop} (ho : UnR X (unaryOp op) r) (ha : PE X a ta) : PE X (.UnaryOp op a pos) (tUn r ta) := by
  intro pins s σ H Q I h
  exact UnaryOp_ (thn (ha pins s σ H _ I h) fun v s1 ⟨x, H1, I1, r1, q1⟩ => ho pins s1 σ H1 x v Q I1 r1 q1)
theorem opI {f : Value → Value → Sem Value} {C : Int → Int → Prop} {g : Int → Int → Int}
    (rule : ∀ (i j : Int) (t u : Tok) (s : Shared) (Q : Value → Shared → Prop) (E : Value → Shared → Prop), C i j → Q (.int (g i j) s.toks) { s with toks := s.toks + 1 } → wpAny (model X.prog X.w) X.A (f (.int i t) (.int j u)) Q E s) :
    OpR X f (rI C fun i j => .int (g i j)) := by
  intro pins s σ H x y v u Q I rx ry h
  obtain ⟨i, j, rfl, rfl, hc, q⟩ := h
  obtain ⟨t, rfl⟩ := rx
  obtain ⟨t', rfl⟩ := ry
  exact rule i j t t' s _ _ hc ⟨.int (g i j), H, I.tok _, ⟨_, rfl⟩, q⟩
theorem opI0 {f : Value → Value → Sem Value} {g : Int → Int → Int}
    (rule : ∀ (i j : Int) (t u : Tok) (s : Shared) (Q : Value → Shared → Prop) (E : Value → Shared → Prop), Q (.int (g i j) s.toks) { s with toks := s.toks + 1 } → wpAny (model X.prog X.w) X.A (f (.int i t) (.int j u)) Q E s) :
    OpR X f (rI0 fun i j => .int (g i j)) := by
  intro pins s σ H x y v u Q I rx ry h
  obtain ⟨i, j, rfl, rfl, q⟩ := h
  obtain ⟨t, rfl⟩ := rx
  obtain ⟨t', rfl⟩ := ry
  exact rule i j t t' s _ _ ⟨.int (g i j), H, I.tok _, ⟨_, rfl⟩, q⟩
theorem opB0 {f : Value → Value → Sem Value} {g : Int → Int → Bool}
    (rule : ∀ (i j : Int) (t u : Tok) (s : Shared) (Q : Value → Shared → Prop) (E : Value → Shared → Prop), Q (.bool (g i j)) s → wpAny (model X.prog X.w) X.A (f (.int i t) (.int j u)) Q E s) :
    OpR X f (rI0 fun i j => .bl (g i j)) := by
  intro pins s σ H x y v u Q I rx ry h
  obtain ⟨i, j, rfl, rfl, q⟩ := h
  obtain ⟨t, rfl⟩ := rx
  obtain ⟨t', rfl⟩ := ry
  exact rule i j t t' s _ _ ⟨.bl (g i j), H, I, rfl, q⟩
def CDiv (i j : Int) : Prop := 0 < j ∧ j < 1073741824
def CPow (i j : Int) : Prop := 0 ≤ j ∧ j ≤ 1000000 ∧ i.natAbs < 2 ^ 64
theorem op_add : OpR X (binaryOp .Add) (rI0 fun i j => .int (i + j)) := opI0 fun _ _ _ _ _ _ _ q => add_int q
theorem op_sub : OpR X (binaryOp .Sub) (rI0 fun i j => .int (i - j)) := opI0 fun _ _ _ _ _ _ _ q => sub_int q
theorem op_fdiv : OpR X (binaryOp .FloorDiv) (rI CDiv fun i j => .int (i / j)) := opI fun i j _ _ _ _ _ hc q => by
  have h1 : (0 : Int) < j := hc.1
  have h2 : j < 1073741824 := hc.2
  exact floordiv_int (by omega) (by rw [Int.fdiv_eq_ediv_of_nonneg i (by omega)]; exact q) (.inl (PyProof.noPylong_small (by omega)))
theorem op_mod : OpR X (binaryOp .Mod) (rI (fun _ j => 0 < j) fun i j => .int (i % j)) := opI fun i j _ _ _ _ _ hc q => by
  have h1 : (0 : Int) < j := hc
  exact mod_int' (by omega) (by rw [Int.fmod_eq_emod_of_nonneg i (by omega)]; exact q)
theorem op_pow : OpR X (binaryOp .Pow) (rI CPow fun i j => .int (i ^ j.toNat)) := opI fun _ _ _ _ _ _ _ hc q => pow_int_small hc.1 hc.2.1 hc.2.2 q
theorem unI {f : Value → Sem Value} {g : Int → Int}
    (rule : ∀ (i : Int) (t : Tok) (s : Shared) (Q : Value → Shared → Prop) (E : Value → Shared → Prop), Q (.int (g i) s.toks) { s with toks := s.toks + 1 } → wpAny (model X.prog X.w) X.A (f (.int i t)) Q E s) :
    UnR X f (rU fun i => .int (g i)) := by
  intro pins s σ H x v Q I rx h
  obtain ⟨i, rfl, q⟩ := h
  obtain ⟨t, rfl⟩ := rx
  exact rule i t s _ _ ⟨.int (g i), H, I.tok _, ⟨_, rfl⟩, q⟩
theorem un_neg : UnR X (unaryOp .USub) (rU fun i => .int (-i)) := unI fun _ _ _ _ _ q => neg_int q
end
def scal : V → V → Bool
  | .non, .non => true | .non, .int _ => true | .int _, .non => true | .non, .bl _ => true | .bl _, .non => true | .non, .str _ => true | .str _, .non => true
  | .int _, .int _ => true | .bl _, .bl _ => true | .str _, .str _ => true | .byt _, .byt _ => true
  | .int _, .str _ => true | .str _, .int _ => true | .bl _, .str _ => true | .str _, .bl _ => true
  | _, _ => false
def rEq : R2 := fun x y H Q => scal x y = true ∧ Q (.bl (decide (x = y))) H
def rNe : R2 := fun x y H Q => scal x y = true ∧ Q (.bl (!decide (x = y))) H
theorem dec_int {i j : Int} : decide (V.int i = V.int j) = (i == j) := by
  rw [Bool.eq_iff_iff]
  simp
theorem dec_bl {i j : Bool} : decide (V.bl i = V.bl j) = (i == j) := by
  rw [Bool.eq_iff_iff]
  simp
theorem dec_str {i j : Str} : decide (V.str i = V.str j) = (i == j) := by
  rw [Bool.eq_iff_iff]
  simp
theorem dec_byt {i j : Array UInt8} : decide (V.byt i = V.byt j) = (i.toList == j.toList) := by
  rw [Bool.eq_iff_iff]
  cases i
  cases j
  simp
section
variable {X : Cx} {a b c : Expr} {ta tb tc : TE} {pos : Pos}
theorem fin_bl {pins : List (Addr × Obj)} {σ : St} {H : Hp} {s : Shared} {Q : VK} {k k' : Bool} (I : Inv X pins σ H s) (q : Q (.bl k) H) (e : k = k') : EP X pins σ Q (.bool k') s := by
  subst e
  exact ⟨.bl k, H, I, rfl, q⟩
theorem op_eq : OpR X (compareOp .Eq) rEq := by
  intro pins s σ H x y v u Q I rx ry h
  obtain ⟨hs, q⟩ := h
  cases x with
  | non =>
    cases rx
    cases y with
    | non => cases ry; exact PySem.EqNone.eq_none_none (fin_bl I q (by simp))
    | bl j => cases ry; exact PySem.EqNone.eq_none_bool (fin_bl I q (by simp))
    | int j => obtain ⟨t', rfl⟩ := ry; exact PySem.EqNone.eq_none_int (fin_bl I q (by simp))
    | str j => obtain ⟨t', rfl⟩ := ry; exact PySem.EqNone.eq_none_str (fin_bl I q (by simp))
    | _ => exact absurd (show false = true from hs) Bool.false_ne_true
  | bl i =>
    cases rx
    cases y with
    | non => cases ry; exact PySem.EqNone.eq_bool_none (fin_bl I q (by simp))
    | bl j => cases ry; exact eq_bool (fin_bl I q dec_bl)
    | str j => obtain ⟨t', rfl⟩ := ry; exact PySem.EqMixed.eq_bool_str (fin_bl I q (by simp))
    | _ => exact absurd (show false = true from hs) Bool.false_ne_true
  | int i =>
    obtain ⟨t, rfl⟩ := rx
    cases y with
    | non => cases ry; exact PySem.EqNone.eq_int_none (fin_bl I q (by simp))
    | int j => obtain ⟨t', rfl⟩ := ry; exact eq_int (fin_bl I q dec_int)
    | str j => obtain ⟨t', rfl⟩ := ry; exact PySem.EqMixed.eq_int_str (fin_bl I q (by simp))
    | _ => exact absurd (show false = true from hs) Bool.false_ne_true
  | str i =>
    obtain ⟨t, rfl⟩ := rx
    cases y with
    | non => cases ry; exact PySem.EqNone.eq_str_none (fin_bl I q (by simp))
    | bl j => cases ry; exact PySem.EqMixed.eq_str_bool (fin_bl I q (by simp))
    | int j => obtain ⟨t', rfl⟩ := ry; exact PySem.EqMixed.eq_str_int (fin_bl I q (by simp))
    | str j => obtain ⟨t', rfl⟩ := ry; exact eq_str (fin_bl I q dec_str)
    | _ => exact absurd (show false = true from hs) Bool.false_ne_true
  | byt i =>
    obtain ⟨t, rfl⟩ := rx
    cases y with
    | byt j => obtain ⟨t', rfl⟩ := ry; exact PySem.W.eq_bytes (fin_bl I q dec_byt)
    | _ => exact absurd (show false = true from hs) Bool.false_ne_true
  | _ => cases y <;> exact absurd (show false = true from hs) Bool.false_ne_true
theorem op_ne : OpR X (compareOp .NotEq) rNe := by
  intro pins s σ H x y v u Q I rx ry h
  obtain ⟨hs, q⟩ := h
  cases x with
  | non =>
    cases rx
    cases y with
    | non => cases ry; exact PySem.EqNone.ne_none_none (fin_bl I q (by simp))
    | bl j => cases ry; exact PySem.EqNone.ne_none_bool (fin_bl I q (by simp))
    | int j => obtain ⟨t', rfl⟩ := ry; exact PySem.EqNone.ne_none_int (fin_bl I q (by simp))
    | str j => obtain ⟨t', rfl⟩ := ry; exact PySem.EqNone.ne_none_str (fin_bl I q (by simp))
    | _ => exact absurd (show false = true from hs) Bool.false_ne_true
  | bl i =>
    cases rx
    cases y with
    | non => cases ry; exact PySem.EqNone.ne_bool_none (fin_bl I q (by simp))
    | bl j => cases ry; exact ne_bool (fin_bl I q (congrArg not dec_bl))
    | str j => obtain ⟨t', rfl⟩ := ry; exact PySem.EqMixed.ne_bool_str (fin_bl I q (by simp))
    | _ => exact absurd (show false = true from hs) Bool.false_ne_true
  | int i =>
    obtain ⟨t, rfl⟩ := rx
    cases y with
    | non => cases ry; exact PySem.EqNone.ne_int_none (fin_bl I q (by simp))
    | int j => obtain ⟨t', rfl⟩ := ry; exact ne_int (fin_bl I q (congrArg not dec_int))
    | str j => obtain ⟨t', rfl⟩ := ry; exact PySem.EqMixed.ne_int_str (fin_bl I q (by simp))
    | _ => exact absurd (show false = true from hs) Bool.false_ne_true
  | str i =>
    obtain ⟨t, rfl⟩ := rx
    cases y with
    | non => cases ry; exact PySem.EqNone.ne_str_none (fin_bl I q (by simp))
    | bl j => cases ry; exact PySem.EqMixed.ne_str_bool (fin_bl I q (by simp))
    | int j => obtain ⟨t', rfl⟩ := ry; exact PySem.EqMixed.ne_str_int (fin_bl I q (by simp))
    | str j => obtain ⟨t', rfl⟩ := ry; exact ne_str (fin_bl I q (congrArg not dec_str))
    | _ => exact absurd (show false = true from hs) Bool.false_ne_true
  | byt i =>
    obtain ⟨t, rfl⟩ := rx
    cases y with
    | byt j => obtain ⟨t', rfl⟩ := ry; exact PySem.W.ne_bytes (fin_bl I q (congrArg not dec_byt))
    | _ => exact absurd (show false = true from hs) Bool.false_ne_true
  | _ => cases y <;> exact absurd (show false = true from hs) Bool.false_ne_true
theorem op_lt : OpR X (compareOp .Lt) (rI0 fun i j => .bl (decide (i < j))) := opB0 fun _ _ _ _ _ _ _ q => lt_int q
theorem op_le : OpR X (compareOp .LtE) (rI0 fun i j => .bl (decide (i ≤ j))) := opB0 fun _ _ _ _ _ _ _ q => le_int q
theorem op_gt : OpR X (compareOp .Gt) (rI0 fun i j => .bl (decide (j < i))) := opB0 fun _ _ _ _ _ _ _ q => gt_int q
theorem op_ge : OpR X (compareOp .GtE) (rI0 fun i j => .bl (decide (j ≤ i))) := opB0 fun _ _ _ _ _ _ _ q => ge_int q
theorem op_in_str : OpR X (compareOp .In) (fun x y H Q => ∃ i j, x = .str i ∧ y = .str j ∧ Q (.bl (!(Builtin.Str.occurrences j i 0 j.length 1).isEmpty)) H) := by
  intro pins s σ H x y v u Q I rx ry h
  obtain ⟨i, j, rfl, rfl, q⟩ := h
  obtain ⟨t, rfl⟩ := rx
  obtain ⟨t', rfl⟩ := ry
  exact in_str (fin_bl I q rfl)
theorem op_isN : OpR X (compareOp .Is) (fun x y H Q => y = .non ∧ Q (.bl (decide (x = .non))) H) := by
  intro pins s σ H x y v u Q I rx ry h
  obtain ⟨rfl, q⟩ := h
  cases ry
  refine is_none_gen (fin_bl I q ?_)
  cases x <;> first
    | (cases rx; rfl)
    | (obtain ⟨t, rfl⟩ := rx; rfl)
theorem op_notin_str : OpR X (compareOp .NotIn) (fun x y H Q => ∃ i j, x = .str i ∧ y = .str j ∧ Q (.bl (!(!(Builtin.Str.occurrences j i 0 j.length 1).isEmpty))) H) := by
  intro pins s σ H x y v u Q I rx ry h
  obtain ⟨i, j, rfl, rfl, q⟩ := h
  obtain ⟨t, rfl⟩ := rx
  obtain ⟨t', rfl⟩ := ry
  exact notIn_str (fin_bl I q rfl)
theorem nomark (b : Expr) {op : CmpOp} (h : op ≠ .In := by decide) (h2 : op ≠ .NotIn := by decide) : behindInMarks op b = false := by
  have e1 : (op == CmpOp.In) = false := by cases op <;> first | rfl | exact absurd rfl h
  have e2 : (op == CmpOp.NotIn) = false := by cases op <;> first | rfl | exact absurd rfl h2
  cases b <;> simp [behindInMarks, e1, e2]
theorem pe_cmpR {op : CmpOp} {r : R2} (ho : OpR X (compareOp op) r) (ha : PE X a ta) (hb : PE X b tb) (hm : behindInMarks op b = false) : PE X (.Compare a [op] [b] pos) (tOp r ta tb) := by
  intro pins s σ H Q I h
  exact wpAny_Compare1 (binT ha hb I h fun v u s2 x y H2 I2 rx ry q => ho pins s2 σ H2 x y v u Q I2 rx ry q) hm
def tTest (t : TE) : TT := fun σ H Q => t σ H fun x H' => ∃ k, x = .bl k ∧ Q k H'
theorem pt_cmpR {op : CmpOp} {r : R2} (ho : OpR X (compareOp op) r) (ha : PE X a ta) (hb : PE X b tb) (hm : behindInMarks op b = false) : PT X (.Compare a [op] [b] pos) (tTest (tOp r ta tb)) := by
  intro pins s σ H Q I h
  refine wpAny_isTrue_Compare1 (thn (ha pins s σ H _ I h) fun v s1 ⟨x, H1, I1, r1, q1⟩ => thn (hb pins s1 σ H1 _ I1 q1) fun u s2 ⟨y, H2, I2, r2, q2⟩ =>
    thn (ho pins s2 σ H2 x y v u _ I2 r1 r2 q2) fun c s3 ⟨z, H3, I3, r3, k, e, q3⟩ => ?_) hm
  subst e
  cases r3
  exact wpAny_truthy_bool ⟨H3, I3, q3⟩
def tChain (r r' : R2) (ta tb tc : TE) : TE := fun σ H Q => ta σ H fun x H1 => tb σ H1 fun y H2 => r x y H2 fun z H3 => ∃ k, z = .bl k ∧
  (if k = true then tc σ H3 fun w' H4 => r' y w' H4 Q else Q (.bl false) H3)
theorem pt_chain {op op' : CmpOp} {r r' : R2} (ho : OpR X (compareOp op) r) (ho' : OpR X (compareOp op') r') (ha : PE X a ta) (hb : PE X b tb) (hc : PE X c tc)
    (hm : lastMarks [op, op'] [b, c] = false := by with_unfolding_all rfl) : PT X (.Compare a [op, op'] [b, c] pos) (tTest (tChain r r' ta tb tc)) := by
  intro pins s σ H Q I h
  refine isTrue_chain (thn (ha pins s σ H _ I h) fun v s1 ⟨x, H1, I1, r1, q1⟩ => test_link (thn (hb pins s1 σ H1 _ I1 q1) fun u s2 ⟨y, H2, I2, r2, q2⟩ =>
    thn (ho pins s2 σ H2 x y v u _ I2 r1 r2 q2) fun d s3 ⟨z, H3, I3, r3, k, e, q3⟩ => ?_)) hm
  subst e
  cases r3
  refine wpAny_truthy_bool ?_
  cases k with
  | false =>
    obtain ⟨k', e', q'⟩ := q3
    cases e'
    exact ite_ff ⟨H3, I3, q'⟩
  | true =>
    refine ite_tt (test_last (thn (hc pins s3 σ H3 _ I3 q3) fun w' s4 ⟨z', H4, I4, r4, q4⟩ => thn (ho' pins s4 σ H4 y z' u w' _ I4 r2 r4 q4) fun d' s5 ⟨z2, H5, I5, r5, k2, e2, q5⟩ => ?_))
    subst e2
    cases r5
    exact wpAny_truthy_bool ⟨H5, I5, q5⟩
theorem line63 : (sizeLine : Nat) < 2 ^ 63 := by rw [sizeLine_eq]; decide
theorem op_add_str : OpR X (binaryOp .Add) (fun x y H Q => ∃ i j, x = .str i ∧ y = .str j ∧ i.length + j.length ≤ sizeLine ∧ Q (.str (i ++ j)) H) := by
  intro pins s σ H x y v u Q I rx ry h
  obtain ⟨i, j, rfl, rfl, hz, q⟩ := h
  obtain ⟨t, rfl⟩ := rx
  obtain ⟨t', rfl⟩ := ry
  exact add_str (fun t' tk => ⟨.str (i ++ j), H, I.tok _, ⟨_, rfl⟩, q⟩) hz
theorem vals1 {x : V} {us : List Value} (r : Vals [x] us) : ∃ u, us = [u] ∧ RelV x u := by
  cases r with
  | cons r1 r2 => cases r2; exact ⟨_, rfl, r1⟩
theorem vals2 {x y : V} {us : List Value} (r : Vals [x, y] us) : ∃ u w', us = [u, w'] ∧ RelV x u ∧ RelV y w' := by
  cases r with
  | cons r1 r2 =>
    cases r2 with
    | cons r3 r4 => cases r4; exact ⟨_, _, rfl, r1, r3⟩
theorem call_max2 (hc : X.calm = true) : CallR X (.builtin "max") (fun xs H Q => ∃ i j, xs = [.int i, .int j] ∧ Q (.int (if j > i then j else i)) H) := by
  intro pins s σ H xs us Q I r h
  obtain ⟨i, j, rfl, q⟩ := h
  obtain ⟨u, w', rfl, ⟨t, rfl⟩, ⟨t', rfl⟩⟩ := vals2 r
  refine max_two_ints (I.ok.hd hc) fun h' tk k => ⟨_, H, I.kept k, ?_, q⟩
  by_cases hj : j > i
  · rw [if_pos hj, if_pos hj]; exact ⟨_, rfl⟩
  · rw [if_neg hj, if_neg hj]; exact ⟨_, rfl⟩
theorem call_int1 : CallR X (.type "int") (fun xs H Q => (∃ i, xs = [.int i] ∧ Q (.int i) H) ∨ ∃ k, xs = [.bl k] ∧ Q (.int (if k then 1 else 0)) H) := by
  intro pins s σ H xs us Q I r h
  rcases h with ⟨i, rfl, q⟩ | ⟨k, rfl, q⟩
  · obtain ⟨u, rfl, t, rfl⟩ := vals1 r
    exact call_int_int ⟨.int i, H, I, ⟨_, rfl⟩, q⟩
  · obtain ⟨u, rfl, r1⟩ := vals1 r
    cases r1
    exact call_int_bool ⟨.int (if k then 1 else 0), H, I.tok _, ⟨_, rfl⟩, q⟩
theorem call_str_int : CallR X (.type "str") (fun xs H Q => ∃ i, xs = [.int i] ∧ i.natAbs.log2 < 1920 ∧ Q (.str (toString i)) H) := by
  intro pins s σ H xs us Q I r h
  obtain ⟨i, rfl, hz, q⟩ := h
  obtain ⟨u, rfl, t, rfl⟩ := vals1 r
  exact PySem.P.str_of_int hz ⟨.str _, H, I.tok _, ⟨_, rfl⟩, q⟩
end
end L2
namespace L2
open PySem PySem.Spec PyProof.Rows
structure ObjM (h : Heap) (x dx C : Addr) (mA : Str → Option Value) : Prop where
  obj : h.get? x = some (PySem.W.instObj C dx)
  ns : h.Ns1 dx mA
  ne : dx ≠ x
theorem lookIn_ns {h : Heap} {dx : Addr} {mA : Str → Option Value} (n : h.Ns1 dx mA) : ∃ od, h.get? dx = some od ∧ ∀ name, PySem.W.lookIn name od = some (mA name) := by
  obtain ⟨o, es, ep, ho, hd, hk, _, hm⟩ := n
  refine ⟨o, ho, fun name => ?_⟩
  have e := hm name
  unfold nsFind findBy at e
  rw [← Array.find?_toList] at e
  unfold PySem.W.lookIn
  rw [hd]
  dsimp only
  split
  · rename_i y q
    rw [q] at e
    exact congrArg some e
  · rename_i q
    rw [q] at e
    have a : es.toList.any (·.refKey) = false := by
      rw [List.any_eq_false]
      intro y hy
      obtain ⟨z, t, hkey⟩ := hk y (Array.mem_toList_iff.mp hy)
      simp [DictEntry.refKey, hkey]
    have a' : ¬ es.toList.any (·.refKey) = true := by rw [a]; exact Bool.false_ne_true
    rw [if_neg a']
    exact congrArg some e
theorem ObjM.look {h : Heap} {x dx C : Addr} {mA : Str → Option Value} (I : ObjM h x dx C mA) : ∃ od, PySem.W.InstAt h x (PySem.W.instObj C dx) C (some od) ∧ ∀ name, PySem.W.lookIn name od = some (mA name) :=
  let ⟨od, ho, hl⟩ := lookIn_ns I.ns
  ⟨od, ⟨I.obj, rfl, rfl, ho⟩, hl⟩
section
variable {prog : Program} {w : World} {A : Around} {E : Value → Shared → Prop} {s : Shared} {K : PySem.W.Frag} {x dx C f : Addr} {mA : Str → Option Value} {name : Str} {v : Value}
end
theorem RelO.some_of {v : V} {o : Option Value} (r : RelO (some v) o) : ∃ u, o = some u ∧ RelV v u := by
  cases o with
  | none => exact (show False from r).elim
  | some u => exact ⟨u, rfl, r⟩
theorem handed_of {v : V} {u : Value} (r : RelV v u) : PySem.W.handedIn u = true := by
  cases v with
  | non => cases (show u = Value.none from r); rfl
  | bl b => cases (show u = Value.bool b from r); rfl
  | int i => obtain ⟨t, e⟩ := (show ∃ t, u = Value.int i t from r); cases e; rfl
  | str x => obtain ⟨t, e⟩ := (show ∃ t, u = Value.str x t from r); cases e; rfl
  | byt b => obtain ⟨t, e⟩ := (show ∃ t, u = Value.bytes b t from r); cases e; rfl
  | flt b => obtain ⟨t, e⟩ := (show ∃ t, u = Value.float b t from r); cases e; rfl
  | ref a => cases (show u = Value.ref a from r); rfl
  | ty n => cases (show u = Value.type n from r); rfl
section
variable {P : Program} {w : World} {H H' : Hp} {h h' : Heap} {a C dx : Addr} {fs fs' : List (Str × V)}
theorem ins_get (hok : HOk P w H h) (e : H a = some (.ins C dx fs)) : ∃ mA, ObjM h a dx C mA ∧ (∀ f, RelO (fs.lookup f) (mA f)) ∧ PySem.Within mA (fs.map (·.1)) ∧ fs.length ≤ 1000 ∧ H dx = some (.own a) := by
  obtain ⟨d, z, ne, ob, mA, n, r, q⟩ := (show ObjOk P w H h a (.ins C dx fs) from hok a _ e)
  exact ⟨mA, ⟨ob, n, ne⟩, r, q, z, d⟩
end
structure Cls (K : PySem.W.Frag) (C : Addr) : Prop where
  pg : PySem.W.plainGet K C Str.empty = true
  hd : PySem.W.hasDictIn K C = true
  po : PySem.W.plainOver K C = true
  sa : PySem.W.findIn K (.ref C) "__setattr__" = some (some (.builtin "object.__setattr__"))
theorem Cls.get {K : PySem.W.Frag} {C : Addr} (c : Cls K C) (f : Str) : PySem.W.plainGet K C f = true := c.pg
section
variable {X : Cx} {pins : List (Addr × Obj)} {σ : St} {H : Hp} {s : Shared} {a C dx : Addr} {fs : List (Str × V)} {f : Str} {v : V} {A : Around} {E : Value → Shared → Prop}
end
section
variable {X : Cx} {o e value : Expr} {f : Str} {pos pos' tpos : Pos} {ta tv : TE}
end
section
variable {X : Cx} {pins : List (Addr × Obj)} {σ : St} {H : Hp} {s : Shared} {A : Around} {E : Value → Shared → Prop} {Q : Value → Shared → Prop} {c : Value} {b : Bool}
inductive TyOf (K : PySem.W.Frag) (H : Hp) : V → Value → Prop where
  | non : TyOf K H .non (.type "NoneType")
  | bl (x : Bool) : TyOf K H (.bl x) (.type "bool")
  | int (i : Int) : TyOf K H (.int i) (.type "int")
  | str (x : Str) : TyOf K H (.str x) (.type "str")
  | flt (x : UInt64) : TyOf K H (.flt x) (.type "float")
  | lst {a : Addr} {xs : List V} (e : H a = some (.lst xs)) : TyOf K H (.ref a) (.type "list")
  | frz {a : Addr} {o : Obj} {xs : List V} (e : H a = some (.frz o (.lst xs))) : TyOf K H (.ref a) (.type "list")
  | tup {a : Addr} {xs : List V} (e : H a = some (.tup xs)) : TyOf K H (.ref a) (.type "tuple")
  | dK {a : Addr} {kvs : List (Key × V)} (e : H a = some (.dK kvs)) : TyOf K H (.ref a) (.type "dict")
  | dT {a : Addr} {kvs : List (List Key × V)} (e : H a = some (.dT kvs)) : TyOf K H (.ref a) (.type "dict")
  | ins {a C dx : Addr} {fs : List (Str × V)} (e : H a = some (.ins C dx fs)) (cl : Cls K C) (ha : PySem.W.findIn K (.ref C) "__class__" = some (some (.builtin "object.__class__")))
      (hn : PySem.W.specialIn K (.builtin "object.__class__") "__get__" = some (some (.builtin "getset_descriptor.__get__"))) (htk : PySem.W.takesIn K (.builtin "object.__class__") = some true)
      (hm : PySem.W.mroIn K C (.type "object") = some true) : TyOf K H (.ref a) (.ref C)
theorem isinst_ok {x : V} {u t : Value} (I : Inv X pins σ H s) (rx : RelV x u) (ty : TyOf X.K H x t) (e : PySem.W.kitOne X.K t c = some b) (h : ∀ tk, Q (.bool b) { s with toks := tk }) :
    wpAny (model X.prog X.w) A (call (.builtin "isinstance") [u, c]) Q E s := by
  cases ty with
  | non => cases (show u = Value.none from rx); exact PySem.W.kia_one PySem.W.kitx_none I.kIn True.intro e (fun z => nomatch z) h
  | bl y => cases (show u = Value.bool y from rx); exact PySem.W.kia_one PySem.W.kitx_bool I.kIn True.intro e (fun z => nomatch z) h
  | int i => obtain ⟨t, q⟩ := (show ∃ t, u = Value.int i t from rx); cases q; exact PySem.W.kia_one PySem.W.kitx_int I.kIn True.intro e (fun z => nomatch z) h
  | str y => obtain ⟨t, q⟩ := (show ∃ t, u = Value.str y t from rx); cases q; exact PySem.W.kia_one PySem.W.kitx_str I.kIn True.intro e (fun z => nomatch z) h
  | flt y => obtain ⟨t, q⟩ := (show ∃ t, u = Value.float y t from rx); cases q; exact PySem.W.kia_one PySem.W.kitx_float I.kIn True.intro e (fun z => nomatch z) h
  | @lst a xs ea =>
    cases (show u = Value.ref a from rx)
    obtain ⟨_, _, n, _, h1⟩ := (show ObjOk X.prog X.w H s.heap a (.lst xs) from I.hok a _ ea)
    exact PySem.W.kia_one PySem.W.kitx_list I.kIn ⟨_, h1, rfl⟩ e (fun z => nomatch z) h
  | @frz a ob xs ea =>
    cases (show u = Value.ref a from rx)
    obtain ⟨_, _, _, n, _, h1⟩ := (show ObjOk X.prog X.w H s.heap a (.frz ob (.lst xs)) from I.hok a _ ea)
    exact PySem.W.kia_one PySem.W.kitx_list I.kIn ⟨_, h1, rfl⟩ e (fun z => nomatch z) h
  | @tup a xs ea =>
    cases (show u = Value.ref a from rx)
    obtain ⟨_, _, _, p⟩ := (show ObjOk X.prog X.w H s.heap a (.tup xs) from I.hok a _ ea)
    obtain ⟨o, h1, h2, _⟩ := p
    exact PySem.W.kia_one PySem.W.kitx_tuple I.kIn ⟨o, h1, h2⟩ e (fun z => nomatch z) h
  | @dK a kvs ea =>
    cases (show u = Value.ref a from rx)
    obtain ⟨_, _, vs, _, p⟩ := (show ObjOk X.prog X.w H s.heap a (.dK kvs) from I.hok a _ ea)
    obtain ⟨o, es, ep, h1, h2, _⟩ := p
    exact PySem.W.kia_one PySem.W.kitx_dict I.kIn ⟨o, h1, h2.1⟩ e (fun z => nomatch z) h
  | @dT a kvs ea =>
    cases (show u = Value.ref a from rx)
    obtain ⟨_, _, xs, _, o, es, ep, h1, h2, _⟩ := (show ObjOk X.prog X.w H s.heap a (.dT kvs) from I.hok a _ ea)
    exact PySem.W.kia_one PySem.W.kitx_dict I.kIn ⟨o, h1, h2.1⟩ e (fun z => nomatch z) h
  | @ins a C dx fs ea cl ha hn htk hm =>
    cases (show u = Value.ref a from rx)
    obtain ⟨mA, O, _⟩ := ins_get I.hok ea
    obtain ⟨od, J, _⟩ := O.look
    exact PySem.W.kia_one (PySem.W.kitx_own (cl.get _) cl.hd ha hn htk hm) I.kIn J e (fun z => nomatch z) h
end
end L2
namespace L2
open PySem PySem.Spec PyProof.Rows
structure Room (k : Nat) (A : Around) : Prop where
  hd : A.handled = none
  dp : A.depth + 3 * k + 5 < recursionLimit
  un : A.units + 16 * k + 200 < cLine
theorem Room.mono {j k : Nat} {A : Around} (r : Room k A) (h : j ≤ k) : Room j A := ⟨r.hd, by have := r.dp; omega, by have := r.un; omega⟩
theorem Room.deeper {k : Nat} {A : Around} (r : Room (k + 1) A) (env : Env) : Room k (A.deeper env) :=
  ⟨r.hd, by have := r.dp; show A.depth + 1 + 3 * k + 5 < _; omega, by have := r.un; show A.units + 3 + 16 * k + 200 < _; omega⟩
theorem make_depth {A : Around} {C : Addr} {us : List Value} {kw : List (Str × Value)} : (A.under (.builtin "type.__call__" ⟨.ref C :: us, kw⟩)).depth = A.depth + 1 := by
  first | rfl | simp [Around.under, Code.weight, Code.isCreation, Code.isGuard, Code.isCaller, Code.frames, Code.isFrame, guardIds]
theorem make_units {A : Around} {C : Addr} {us : List Value} {kw : List (Str × Value)} : (A.under (.builtin "type.__call__" ⟨.ref C :: us, kw⟩)).units = A.units + 1 := by
  first | rfl | simp [Around.under, Code.cUnits, Code.frames, Code.isFrame]
theorem Room.make {k : Nat} {A : Around} (r : Room (k + 1) A) (C : Addr) (us : List Value) (kw : List (Str × Value)) : Room k (A.under (.builtin "type.__call__" ⟨.ref C :: us, kw⟩)) :=
  ⟨r.hd, by have := r.dp; rw [make_depth]; omega, by have := r.un; rw [make_units]; omega⟩
theorem Room.depth {k : Nat} {A : Around} (r : Room k A) : A.depth < recursionLimit := by have := r.dp; omega
theorem Room.units {k : Nat} {A : Around} (r : Room k A) : A.units + 64 < cLine := by have := r.un; omega
def tNil : TA := fun _ H Q => Q [] H
def tCons (ta : TE) (tr : TA) : TA := fun σ H Q => ta σ H fun x H1 => tr σ H1 fun xs H2 => Q (x :: xs) H2
section
variable {X : Cx} {e : Expr} {es : List Expr} {te : TE} {t : TA} {pos : Pos}
theorem pa_nil : PA X [] tNil := fun _ _ _ _ H Q I h => Calls.spliced_nil ⟨[], H, I, .nil, h⟩
theorem pa_cons (ha : PE X e te) (hr : PA X es t) (hs : starEach (e :: es) X.env = (false, eval e X.env) :: starEach es X.env := by rfl) : PA X (e :: es) (tCons te t) := by
  intro pos pins s σ H Q I h
  rw [hs]
  show wpAny _ _ (spliced ((false, eval e X.env) :: backTo pos (starEach es X.env))) _ _ s
  refine Calls.spliced_cons (thn (ha pins s σ H _ I h) fun u s1 ⟨x, H1, I1, r1, q1⟩ => ?_)
  exact thn (hr pos pins s1 σ H1 _ I1 q1) fun us s2 ⟨xs, H2, I2, r2, q2⟩ => ⟨x :: xs, H2, I2, .cons r1 r2, q2⟩
def tTup (t : TA) : TE := fun σ H Q => t σ H fun xs H1 => xs.length ≤ sizeLine ∧ ∀ p, H1 p = none → Q (.ref p) (upd H1 p (.tup xs))
def tLst (t : TA) : TE := fun σ H Q => t σ H fun xs H1 => xs.length ≤ sizeLine ∧ ∀ p, H1 p = none → Q (.ref p) (upd H1 p (.lst xs))
theorem pe_tup {x1} (h : PA X es t) : PE X (.Tuple es x1 pos) (tTup t) := by
  intro pins s σ H Q I hq
  refine wpAny_Tuple_spliced (thn (h pos pins s σ H _ I hq) fun us s1 ⟨xs, H1, I1, r, z, q⟩ => ⟨by rw [← r.length]; exact z, ?_⟩)
  have hf : H1 s1.heap.objs.size = none := I1.hok.fresh (Nat.le_refl _)
  refine ⟨.ref s1.heap.objs.size, upd H1 s1.heap.objs.size (.tup xs), I1.laid (t' := s1.toks) (fun b u e => Heap.get?_push_of_some _ e) (Nat.le_refl _) ?_, rfl, q _ hf⟩
  exact ⟨z, us, r, ⟨_, Heap.get?_push_size _ rfl, rfl, _, rfl⟩⟩
theorem pe_lst (h : PA X es t) : PE X (.List es pos) (tLst t) := by
  intro pins s σ H Q I hq
  refine wpAny_List_spliced (thn (h pos pins s σ H _ I hq) fun us s1 ⟨xs, H1, I1, r, z, q⟩ => ⟨by rw [← r.length]; exact z, ?_⟩)
  have hf : H1 s1.heap.objs.size = none := I1.hok.fresh (Nat.le_refl _)
  refine ⟨.ref s1.heap.objs.size, upd H1 s1.heap.objs.size (.lst xs), I1.laid (t' := s1.toks) (fun b u e => Heap.get?_push_of_some _ e) (Nat.le_refl _) ?_, rfl, q _ hf⟩
  exact ⟨z, us, 0, r, Heap.get?_push_size _ rfl⟩
end
abbrev Sp := List V → Hp → VK → XK → Prop
abbrev CXT := List Env → Hp → Shared → XK → Value → Shared → Prop
structure Env0 (P : Program) (w : World) (K : PySem.W.Frag) (mg : Str → Option Value) (base : Heap) (A : Around) (outer : List Env) (s : Shared) (H : Hp) : Prop where
  frames : A.frames = some outer
  mod : Mod K mg base
  bs : ∀ b o, base.get? b = some o → s.heap.get? b = some o ∧ H b = none
  bsz : base.objs.size ≤ s.heap.objs.size
  funs : s.heap.FunFrames base outer
  frf : ∀ b ∈ frs outer, H b = none
  hok : HOk P w H s.heap
  bare : AllBare s.gens
def CE (outer : List Env) (P : Program) (w : World) (H : Hp) (s : Shared) (Q : VK) (u : Value) (s' : Shared) : Prop :=
  ∃ v H', s'.os = s.os ∧ AllBare s'.gens ∧ Un (frs outer) [] H H' s.heap s'.heap ∧ HOk P w H' s'.heap ∧ RelV v u ∧ Q v H'
def CR (CX : CXT) (outer : List Env) (P : Program) (w : World) (H : Hp) (s : Shared) (Q : VK) (E : XK) (r : Result) (s' : Shared) : Prop :=
  match r with
  | .ok (.ret u) => CE outer P w H s Q u s'
  | .ok _ => False
  | .error e => CX outer H s E e s'
structure FnOk (P : Program) (w : World) (K : PySem.W.Frag) (mg : Str → Option Value) (base : Heap) (CX : CXT) (k : Nat) (f : Addr) (fd : FuncData) (ps : List Str) (sp : Sp) : Prop where
  len : ∀ vs H Q E, sp vs H Q E → vs.length = ps.length
  run : ∀ (A : Around) (outer : List Env) (s : Shared) (H : Hp) (args : Args) (us : List Value) (vs : List V) (Q : VK) (E : XK), Room k A → Env0 P w K mg base A outer s H → BindsTo s fd args (ps.zip us) → Vals vs us → sp vs H Q E →
    codeAny (model P w) A (.call (.ref f) args) (CR CX outer P w H s Q E) s
theorem Env0.make {P : Program} {w : World} {K : PySem.W.Frag} {mg : Str → Option Value} {base : Heap} {A : Around} {outer : List Env} {s : Shared} {H : Hp} (e : Env0 P w K mg base A outer s H) (C : Addr) (us : List Value) (kw : List (Str × Value)) :
    Env0 P w K mg base (A.under (.builtin "type.__call__" ⟨.ref C :: us, kw⟩)) outer s H := ⟨by first | exact e.frames | (simpa [Around.under, Code.envs, Code.isFrame, pushEnvs] using e.frames), e.mod, e.bs, e.bsz, e.funs, e.frf, e.hok, e.bare⟩
section
variable {X : Cx} {pins : List (Addr × Obj)} {σ : St} {H : Hp} {s s' : Shared}
theorem Inv.env0 (I : Inv X pins σ H s) : Env0 X.prog X.w X.K X.mg X.base X.A X.stack s H :=
  ⟨I.ok.frames, I.ok.mod, I.bs, Nat.le_trans I.ok.bsz I.sz, I.stack, I.stkFree, I.hok, I.bare⟩
theorem Inv.after {Q : VK} {u : Value} (I : Inv X pins σ H s) (h : CE X.stack X.prog X.w H s Q u s') : EP X pins σ Q u s' := by
  obtain ⟨v, H', os, bare, un, hok, r, q⟩ := h
  obtain ⟨hh, g, d, t, os'⟩ := s'
  obtain rfl : os' = s.os := os
  exact ⟨v, H', I.call (h' := hh) (g' := g) (d' := d) (t' := t) (ch := []) un hok bare (fun b z => absurd z (by simp)), r, q⟩
end
def tCall (sp : Sp) (dvs : List V) (E : XK) (t : TA) : TE := fun σ H Q => t σ H fun vs H1 => sp (vs ++ dvs) H1 Q E
def Binds (K : PySem.W.Frag) (fd : FuncData) (ps : List Str) (ds : List Value) : Prop :=
  ∀ (s : Shared) (us : List Value), K.In s.heap → (us ++ ds).length = ps.length → BindsTo s fd ⟨us, []⟩ (ps.zip (us ++ ds))
theorem Binds.all {K : PySem.W.Frag} {fd : FuncData} {ps : List Str} (h : ∀ us : List Value, us.length = ps.length → bindArgs fd ⟨us, []⟩ = pure (ps.zip us)) : Binds K fd ps [] := fun s us _ hl => by
  rw [List.append_nil] at hl ⊢
  exact .of_eq (h us hl)
def Passes (CX : CXT) (X : Cx) (E : XK) : Prop := ∀ (pins : List (Addr × Obj)) (σ : St) (H : Hp) (s : Shared) (e : Value) (s' : Shared), Inv X pins σ H s → CX X.stack H s E e s' → X.xe e s'
section
variable {X : Cx} {CX : CXT} {k : Nat} {f C : Addr} {fd : FuncData} {ps : List Str} {sp : Sp} {dvs : List V} {ds : List Value} {E : XK} {x m : Str} {p pos apos : Pos} {e o : Expr} {es : List Expr} {ta : TE} {t : TA}
theorem run_fn {pins : List (Addr × Obj)} {σ : St} {H : Hp} {s : Shared} {Q : VK} {us : List Value} {vs : List V} (F : FnOk X.prog X.w X.K X.mg X.base CX k f fd ps sp) (hr : Room k X.A) (hb : Binds X.K fd ps ds) (hd : Vals dvs ds) (hx : Passes CX X E)
    (I : Inv X pins σ H s) (r : Vals vs us) (h : sp (vs ++ dvs) H Q E) : wpAny (model X.prog X.w) X.A (call (.ref f) us) (EP X pins σ Q) X.xe s := by
  have r2 : Vals (vs ++ dvs) (us ++ ds) := r.append hd
  have hl : (us ++ ds).length = ps.length := by rw [← r2.length]; exact F.len _ _ _ _ h
  refine wpAny_call (codeAny_mono (F.run X.A X.stack s H ⟨us, []⟩ (us ++ ds) (vs ++ dvs) Q E hr I.env0 (hb s us I.kIn hl) r2 h) fun r s' hq => ?_)
  cases r with
  | error e => exact hx pins σ H s e s' I hq
  | ok fl =>
    cases fl with
    | ret u => exact I.after hq
    | next => exact False.elim hq
    | brk => exact False.elim hq
    | cont => exact False.elim hq
theorem pe_call (F : FnOk X.prog X.w X.K X.mg X.base CX k f fd ps sp) (hr : Room k X.A) (hg : Gl X x) (hm : X.mg x = some (.ref f)) (hk : PySem.W.keepIn X.K (.ref f) = true) (hb : Binds X.K fd ps ds) (hd : Vals dvs ds) (hx : Passes CX X E)
    (ha : PA X (e :: es) t) (hdb : (x == ("__debug__" : Str)) = false := by decide) (he : starEach (e :: es) X.env = (false, eval e X.env) :: starEach es X.env := by rfl) (hpl : (backTo pos (starEach es X.env)).any (·.1) = false := by rfl) :
    PE X (.Call (.Name x p) (e :: es) [] pos) (tCall sp dvs E t) := by
  intro pins s σ H Q I h
  refine wpAny_Call_Name_kw (ld_glob I hg hm ?_ hdb)
  refine PySem.W.callWith_K (h₀ := X.base) I.ok.mod.kin hk (thn (ha pos pins s σ H _ I h) fun us s1 ⟨vs, H1, I1, r, q⟩ => ⟨I1.kIn, ?_⟩) he hpl
  exact run_fn F hr hb hd hx I1 r q
theorem pe_call0 (F : FnOk X.prog X.w X.K X.mg X.base CX k f fd ps sp) (hr : Room k X.A) (hg : Gl X x) (hm : X.mg x = some (.ref f)) (hk : PySem.W.keepIn X.K (.ref f) = true) (hb : Binds X.K fd ps ds) (hd : Vals dvs ds) (hx : Passes CX X E)
    (hdb : (x == ("__debug__" : Str)) = false := by decide) : PE X (.Call (.Name x p) [] [] pos) (tCall sp dvs E tNil) := by
  intro pins s σ H Q I h
  refine wpAny_Call_Name_kw (ld_glob I hg hm ?_ hdb)
  exact PySem.W.callWith_K0 I.kIn hk (run_fn (us := []) F hr hb hd hx I .nil h)
end
section
variable {X : Cx} {CX : CXT} {k : Nat} {f C : Addr} {fd : FuncData} {ps ks : List Str} {sp : Sp} {E : XK} {x m : Str} {p pos apos kpos : Pos} {e o : Expr} {es : List Expr} {kws : List Keyword} {te ta : TE} {t tk : TA} {nm : Option Str}
variable {g : List Value → List Value → List Value} {gV : List V → List V → List V}
end
structure FnScope (N P : List Str) (sc : Scope) : Prop where
  kind : sc.kind = .function
  co : sc.isCoroutine = false
  gen : sc.isGenerator = false
  nd : N.Nodup
  pre : N.take P.length = P
  par : ∀ x ∈ P, sc.names.lookup x = some .local ∨ sc.names.lookup x = some .cell
  nofree : ∀ y ∈ sc.names, y.2 ≠ .free
theorem bindL_out {kindOf : Str → Option NameKind} {x : Str} : ∀ {binds : List (Str × Value)} {m : Str → Option Value}, (∀ v, (x, v) ∉ binds) → bindL kindOf binds m x = m x
  | [], _, _ => rfl
  | (n, v) :: r, m, h => by
    unfold bindL
    rw [bindL_out fun w hw => h w (List.mem_cons_of_mem _ hw)]
    split
    · have : x ≠ n := by rintro rfl; exact h v List.mem_cons_self
      simp [this]
    · rfl
theorem bindC_out {kindOf : Str → Option NameKind} {x : Str} : ∀ {binds : List (Str × Value)} {m : Str → Option Value}, (∀ v, (x, v) ∉ binds) → bindC kindOf binds m x = m x
  | [], _, _ => rfl
  | (n, v) :: r, m, h => by
    unfold bindC
    rw [bindC_out fun w hw => h w (List.mem_cons_of_mem _ hw)]
    split
    · rfl
    · have : x ≠ n := by rintro rfl; exact h v List.mem_cons_self
      simp [this]
theorem bindL_get {kindOf : Str → Option NameKind} {x : Str} {v : Value} : ∀ {P : List Str} {vs : List Value} {i : Nat} {m : Str → Option Value}, P.Nodup → P[i]? = some x → vs[i]? = some v → kindOf x = some .local →
    bindL kindOf (P.zip vs) m x = some v
  | [], _, _, _, _, h, _, _ => by simp at h
  | _ :: _, [], _, _, _, _, h, _ => by simp at h
  | p :: P, w :: vs, 0, m, nd, h1, h2, hk => by
    simp at h1 h2; subst h1; subst h2
    show bindL kindOf ((p, w) :: P.zip vs) m p = _
    unfold bindL
    rw [bindL_out fun v hv => (List.nodup_cons.mp nd).1 (List.of_mem_zip hv).1, if_pos hk]
    simp
  | p :: P, w :: vs, i + 1, m, nd, h1, h2, hk => by
    show bindL kindOf ((p, w) :: P.zip vs) m x = _
    unfold bindL
    exact bindL_get (i := i) (List.nodup_cons.mp nd).2 (by simpa using h1) (by simpa using h2) hk
theorem bindC_get {kindOf : Str → Option NameKind} {x : Str} {v : Value} : ∀ {P : List Str} {vs : List Value} {i : Nat} {m : Str → Option Value}, P.Nodup → P[i]? = some x → vs[i]? = some v → kindOf x ≠ some .local →
    bindC kindOf (P.zip vs) m x = some v
  | [], _, _, _, _, h, _, _ => by simp at h
  | _ :: _, [], _, _, _, _, h, _ => by simp at h
  | p :: P, w :: vs, 0, m, nd, h1, h2, hk => by
    simp at h1 h2; subst h1; subst h2
    show bindC kindOf ((p, w) :: P.zip vs) m p = _
    unfold bindC
    rw [bindC_out fun v hv => (List.nodup_cons.mp nd).1 (List.of_mem_zip hv).1, if_neg hk]
    simp
  | p :: P, w :: vs, i + 1, m, nd, h1, h2, hk => by
    show bindC kindOf ((p, w) :: P.zip vs) m x = _
    unfold bindC
    exact bindC_get (i := i) (List.nodup_cons.mp nd).2 (by simpa using h1) (by simpa using h2) hk
def start (N : List Str) (vs : List V) : St := vs.map some ++ List.replicate (N.length - vs.length) none
def cxOf (CX : CXT) (P : Program) (w : World) (K : PySem.W.Frag) (mg : Str → Option Value) (base : Heap) (N : List Str) (qual : Str) (scope : Scope) (f : Addr) (cd : Value) (A : Around) (outer : List Env) (s : Shared) (H : Hp) (E : XK) : Cx where
  prog := P
  w := w
  K := K
  mg := mg
  base := base
  A := A.deeper (envOfC qual scope s.heap.objs.size f cd)
  N := N
  s₀ := s
  H₀ := H
  env := envOfC qual scope s.heap.objs.size f cd
  outer := outer
  stack := envOfC qual scope s.heap.objs.size f cd :: outer
  ex := []
  calm := true
  fn := fun _ => true
  pn := []
  xe := fun e s' => wpAny (model P w) (A.deeper (envOfC qual scope s.heap.objs.size f cd)) (leaving (envOfC qual scope s.heap.objs.size f cd) e) (fun _ s'' => CX outer H s E e s'') (fun e' s'' => CX outer H s E e' s'') s'
theorem cell_has {sc : Scope} {n : Nat} {x : Str} (h : sc.names.lookup x = some .cell) : ∃ c, (cellsFrom n sc.names []).lookup x = some c := by
  have q := PySem.W.cellsFrom_some sc.names n [] (.inl h)
  exact Option.isSome_iff_exists.mp q
theorem inv_start {CX : CXT} {P : Program} {w : World} {K : PySem.W.Frag} {mg : Str → Option Value} {base : Heap} {N ps : List Str} {qual : Str} {scope : Scope} {f : Addr} {cd : Value} {A : Around} {outer : List Env} {s s1 : Shared} {H : Hp} {E : XK} {us : List Value} {vs : List V}
    (S : FnScope N ps scope) (hd : A.handled = none) (e0 : Env0 P w K mg base A outer s H) (hl : vs.length = ps.length) (r : Vals vs us)
    (x : InCallC s s.heap.objs.size (bindL (envOfC qual scope s.heap.objs.size f cd).kindOf (ps.zip us) fun _ => none) (cellsFrom (s.heap.objs.size + 1) scope.names []) (bindC (envOfC qual scope s.heap.objs.size f cd).kindOf (ps.zip us) fun _ => none) s1) :
    Inv (cxOf CX P w K mg base N qual scope f cd A outer s H E) [] (start N vs) H s1 := by
  have hpl : ps.length ≤ N.length := by have := congrArg List.length S.pre; rw [List.length_take] at this; omega
  obtain ⟨h1, tk, rfl, hk⟩ := x.done
  have noA : ∀ b : Addr, b ∉ (cxOf CX P w K mg base N qual scope f cd A outer s H E).ex := fun b z => absurd (show b ∈ ([] : List Addr) from z) (by simp)
  refine ⟨⟨e0.mod, S.kind, rfl, rfl, Nat.le_refl _, fun y z c h1 h2 => ?_, fun y hy => ?_, fun y c _ h => ?_, fun _ => hd, Around.frames_deeper e0.frames, .inr ⟨rfl, rfl⟩, fun b z => absurd z (noA b), e0.bs, e0.bsz, fun b _ _ => noA b, fun b z => absurd z (noA b), e0.funs, e0.frf⟩,
    rfl, e0.bare, Un.kept hk, ⟨_, x.toInCall.ns, fun i y v h1 h2 h3 => ?_⟩, fun y c h => ⟨_, x.cell y c h⟩, e0.hok.fresh (Nat.le_refl _), fun y c h => ?_, fun p hp => absurd (show p ∈ ([] : List (Addr × Obj)) from hp) (by simp), e0.hok.kept hk, ?_⟩
  · exact name_of_addr x.apart (PySem.mem_of_lookup h1) (PySem.mem_of_lookup h2)
  · have hy : scope.names.lookup y = some .cell ∨ scope.names.lookup y = some .free := hy
    rcases hy with hy | hy
    · exact cell_has hy
    · exact absurd rfl (S.nofree _ (PySem.mem_of_lookup hy))
  · exact Nat.le_of_lt (x.above y c (PySem.mem_of_lookup h))
  · have hi : i < vs.length := by
      unfold start at h2
      by_cases hi : i < vs.length
      · exact hi
      · rw [List.getElem?_append_right (by simpa using hi)] at h2
        rw [List.getElem?_replicate] at h2
        split at h2 <;> cases h2
    have ha : vs[i]? = some v := by
      unfold start at h2
      rw [List.getElem?_append_left (by simpa using hi), List.getElem?_map] at h2
      cases e : vs[i]? with
      | none => rw [e] at h2; cases h2
      | some a => rw [e] at h2; cases h2; rfl
    obtain ⟨u, hu, rv⟩ := r.get ha
    have hp : ps[i]? = some y := by
      rw [← S.pre, List.getElem?_take_of_lt (by omega)]; exact h1
    have ndP : ps.Nodup := by rw [← S.pre]; exact S.nd.sublist (List.take_sublist _ _)
    refine ⟨u, rv, ?_⟩
    rcases S.par y (List.mem_of_getElem? hp) with k | k
    · exact .inl ⟨k, bindL_get ndP hp hu k⟩
    · obtain ⟨c, e⟩ := cell_has (n := s.heap.objs.size + 1) k
      refine .inr ⟨.inl k, c, e, ?_⟩
      have q := x.cell y c e
      rw [bindC_get ndP hp hu (by show scope.names.lookup y ≠ _; rw [k]; decide)] at q
      exact q
  · exact e0.hok.fresh (Nat.le_of_lt (x.above y c (PySem.mem_of_lookup h)))
  · unfold start
    show _ = N.length
    rw [List.length_append, List.length_map, List.length_replicate]
    omega
theorem fn_of {CX : CXT} {P : Program} {w : World} {K : PySem.W.Frag} {mg : Str → Option Value} {base : Heap} {k : Nat} {f : Addr} {name qual : Str} {params : Arguments} {body : List Stmt} {scope : Scope} {dV kV doc pm cdv ct oc : Value} {an od : Option Addr}
    {osl : Array (Option Value)} {N ps : List Str} {sp : Sp} (lk : K.lookup f = some ⟨oc, od, .func (PySem.W.fnOf name qual params body scope dV kV doc pm an cdv ct), osl⟩) (hcd : PySem.W.codeIn K cdv qual = true) (S : FnScope N ps scope)
    (len : ∀ vs H Q E, sp vs H Q E → vs.length = ps.length)
    (hbody : ∀ (A : Around) (outer : List Env) (s : Shared) (H : Hp) (vs : List V) (Q : VK) (E : XK), Room k (A.deeper (envOfC qual scope s.heap.objs.size f cdv)) → sp vs H Q E →
      ∃ t, PSs (cxOf CX P w K mg base N qual scope f cdv A outer s H E) body t ∧ t { nx := fun _ H' => Q .non H', rt := Q } (start N vs) H) :
    FnOk P w K mg base CX (k + 1) f (PySem.W.fnOf name qual params body scope dV kV doc pm an cdv ct) ps sp := by
  refine ⟨len, fun A outer s H args us vs Q E hr e0 hb r hsp => ?_⟩
  have hl := len _ _ _ _ hsp
  have KX : K.In s.heap := e0.mod.kin.keeps fun b o e => (e0.bs b o e).1
  have lim : s.heap.NoLimit := e0.mod.nolimit.keeps fun b o e => (e0.bs b o e).1
  have hkind : ∀ y ∈ ps.zip us, scope.names.lookup y.1 = some .local ∨ (scope.names.lookup y.1 = some .cell ∧ ((cellsFrom (s.heap.objs.size + 1) scope.names []).lookup y.1).isSome = true) := fun ⟨n, v⟩ hy => by
    rcases S.par n (List.of_mem_zip hy).1 with q | q
    · exact .inl q
    · exact .inr ⟨q, PySem.W.cellsFrom_some _ _ _ (.inl q)⟩
  refine codeAny_call_function hr.depth (KX _ _ lk) rfl S.co S.gen rfl (PySem.W.codeRec_of KX hcd) (hb _ _ _ _ ?_)
  refine wpAny_newFunctionEnv_cells S.kind hkind fun env he s1 x => ?_
  subst he
  refine ⟨lim.keeps x.toInCall.keep, codeAny_func ?_⟩
  obtain ⟨t, ht, hq⟩ := hbody A outer s H vs Q E (hr.deeper _) hsp
  have I : Inv (cxOf CX P w K mg base N qual scope f cdv A outer s H E) [] (start N vs) H s1 := inv_start S hr.hd e0 hl r x
  refine wpAny_mono (ht [] s1 (start N vs) H _ I hq) (fun fl s' hs => ?_) fun e s' hs => hs
  have fin : ∀ {σ' : St} {H' : Hp} {v : V} {u : Value}, Inv (cxOf CX P w K mg base N qual scope f cdv A outer s H E) [] σ' H' s' → RelV v u → Q v H' → CE outer P w H s Q u s' :=
    fun {σ' H' v u} J rv q => ⟨v, H', J.os, J.bare, J.base, J.hok, rv, q⟩
  cases fl with
  | ret u =>
    obtain ⟨v, σ', H', J, rv, q⟩ := hs
    exact fin J rv q
  | next =>
    obtain ⟨σ', H', J, q⟩ := hs
    exact fin (v := V.non) (u := Value.none) J rfl q
  | brk =>
    obtain ⟨_, _, _, q⟩ := hs
    exact False.elim q
  | cont =>
    obtain ⟨_, _, _, q⟩ := hs
    exact False.elim q
end L2
namespace L2
open PySem PySem.Spec PyProof.Rows
section
variable {X : Cx} {x : Str} {p pos : Pos} {e : Expr} {es : List Expr} {t : TA} {id T : String} {r : List V → Hp → VK → Prop}
def tCB (r : List V → Hp → VK → Prop) (t : TA) : TE := fun σ H Q => t σ H fun vs H1 => r vs H1 Q
theorem pe_callB (hc : CallR X (.builtin id) r) (hg : Gl X x) (hm : X.mg x = none) (hv : bootBuiltins x = some (.builtin id)) (ha : PA X (e :: es) t) (hn : x ≠ "__name__" := by decide) (hdb : (x == ("__debug__" : Str)) = false := by decide)
    (he : starEach (e :: es) X.env = (false, eval e X.env) :: starEach es X.env := by rfl) (hpl : (backTo pos (starEach es X.env)).any (·.1) = false := by rfl) : PE X (.Call (.Name x p) (e :: es) [] pos) (tCB r t) := by
  intro pins s σ H Q I h
  refine wpAny_Call_Name_kw (ld_blt I hg hm hv ?_ hn hdb)
  exact PyProof.Rows.callWith_builtin1 (thn (ha pos pins s σ H _ I h) fun us s1 ⟨vs, H1, I1, r1, q1⟩ => hc pins s1 σ H1 vs us Q I1 r1 q1) he hpl
theorem pe_callTy (hc : CallR X (.type T) r) (hg : Gl X x) (hm : X.mg x = none) (hv : bootBuiltins x = some (.type T)) (ha : PA X (e :: es) t) (hn : x ≠ "__name__" := by decide) (hdb : (x == ("__debug__" : Str)) = false := by decide)
    (he : starEach (e :: es) X.env = (false, eval e X.env) :: starEach es X.env := by rfl) (hpl : (backTo pos (starEach es X.env)).any (·.1) = false := by rfl) : PE X (.Call (.Name x p) (e :: es) [] pos) (tCB r t) := by
  intro pins s σ H Q I h
  refine wpAny_Call_Name_kw (ld_blt I hg hm hv ?_ hn hdb)
  exact PyProof.Rows.callWith_type1 (thn (ha pos pins s σ H _ I h) fun us s1 ⟨vs, H1, I1, r1, q1⟩ => hc pins s1 σ H1 vs us Q I1 r1 q1) he hpl
end
end L2
namespace HT
open PySem PyProof.Rows
section
open PySem.SeqAt
open PySem.AutoSeq1 (wpAny_loadPart')
open PySem.MeetsSeq PySem.MeetsSeq2 PySem.MeetsSeq3
end
section
variable {prog : Program} {w : World} {A : Around} {E : Value → Shared → Prop} {s : Shared}
theorem cat_tup {t b : Addr} {vs ws : List Value} {Q : Value → Shared → Prop} (ht : IsTup s.heap t vs.toArray) (hb : IsTup s.heap b ws.toArray) (hv : vs ≠ [])
    (h1 : ws = [] → Q (.ref t) s) (h2 : ws ≠ [] → Q (.ref s.heap.objs.size) { s with heap := s.heap.push { cls := .type "tuple", data := .seq (vs ++ ws).toArray } })
    (hsz : vs.length + ws.length ≤ sizeLine) : wpAny (model prog w) A (binaryOp .Add (.ref t) (.ref b)) Q E s := by
  obtain ⟨⟨cls, dd, data, sl⟩, ho, hc, n, hd⟩ := id ht
  obtain ⟨⟨cls2, dd2, data2, sl2⟩, ho2, hc2, n2, hd2⟩ := id hb
  simp only at hc hd hc2 hd2
  subst hc hd hc2 hd2
  have e : vs.toArray ++ ws.toArray = (vs ++ ws).toArray := by simp
  by_cases hw : ws = []
  · exact concat_meets ⟨_, ho, rfl⟩ ⟨_, ho2, rfl⟩ noFill_tuple_add seq_tuple_add PySem.F.slot_tuple_add PySem.F.entry_tuple_add (PySem.F.args_tuple_add_2 _ _)
      (tuple_addW1 t b vs.toArray ws.toArray n n2 dd dd2 sl sl2 (by simpa using hv) (by simp [hw])) ⟨ho, ho2, h1 hw⟩
  · refine concat_meets ⟨_, ho, rfl⟩ ⟨_, ho2, rfl⟩ noFill_tuple_add seq_tuple_add PySem.F.slot_tuple_add PySem.F.entry_tuple_add (PySem.F.args_tuple_add_2 _ _)
      (tuple_addW2 t b vs.toArray ws.toArray n n2 dd dd2 sl sl2 (by simpa using hv) (by simpa using hw) (by rw [List.size_toArray, List.size_toArray]; exact hsz)) ⟨ho, ho2, ?_⟩
    rw [e]
    exact h2 hw
def sIx (n d : Nat) : Option Int → Nat
  | none => d
  | some v => if v < 0 then (v + (n : Int)).toNat else min v.toNat n
theorem sIx_none (n d : Nat) : sIx n d none = d := rfl
theorem sIx_nat (n d k : Nat) : sIx n d (some (k : Int)) = min k n := by
  show (if (k : Int) < 0 then ((k : Int) + (n : Int)).toNat else min (k : Int).toNat n) = min k n
  rw [if_neg (by omega), Int.toNat_natCast]
theorem sIx_le (n d : Nat) (hd : d ≤ n) (o : Option Int) : sIx n d o ≤ n := by
  cases o with
  | none => exact hd
  | some v =>
    show (if v < 0 then (v + (n : Int)).toNat else min v.toNat n) ≤ n
    by_cases hv : v < 0
    · rw [if_pos hv]; omega
    · rw [if_neg hv]; exact Nat.min_le_right _ _
end
end HT
namespace L2
open PySem PySem.Spec PyProof.Rows
abbrev TO := St → Hp → (Option Int → Hp → Prop) → Prop
def PO (X : Cx) (e : Option Expr) (t : TO) : Prop :=
  ∀ (pins : List (Addr × Obj)) (s : Shared) (σ : St) (H : Hp) (Q : Option Int → Hp → Prop), Inv X pins σ H s → t σ H Q →
    wpAny (model X.prog X.w) X.A (evalPart e X.env) (fun u s' => ∃ o H', Inv X pins σ H' s' ∧ IsPart u o ∧ Q o H') X.xe s
def tNoPart : TO := fun _ H Q => Q none H
def tPart (t : TE) : TO := fun σ H Q => t σ H fun x H1 => ∃ i, x = .int i ∧ Q (some i) H1
section
variable {X : Cx} {e : Expr} {te : TE} {lo hi : Option Expr} {tl th : TO} {pos p2 : Pos}
theorem po_none : PO X none tNoPart := by
  intro pins s σ H Q I h
  rw [evalPart_none]
  exact wpAny_pure ⟨none, H, I, .none, h⟩
theorem po_some (h : PE X e te) : PO X (some e) (tPart te) := by
  intro pins s σ H Q I hw
  rw [evalPart_some]
  refine thn (h pins s σ H _ I hw) fun u s1 ⟨x, H1, I1, r1, q1⟩ => ?_
  obtain ⟨i, rfl, q⟩ := q1
  obtain ⟨t, rfl⟩ := r1
  exact ⟨some i, H1, I1, .int i t, q⟩
def SlR (X : Cx) (r : V → Option Int → Option Int → Hp → VK → Prop) : Prop :=
  ∀ (pins : List (Addr × Obj)) (s : Shared) (σ : St) (H : Hp) (x : V) (v vl vu : Value) (lo hi : Option Int) (sl : Addr) (Q : VK), Inv X pins σ H s → RelV x v → s.heap.IsSliceOf sl vl vu .none → IsPart vl lo → IsPart vu hi → r x lo hi H Q →
    ∃ T id, typeLookup (.type T) "__getitem__" = pure (some (.builtin id)) ∧ s.TypeIs v T ∧ wpAny (model X.prog X.w) X.A (getItem v (.ref sl)) (EP X pins σ Q) X.xe s
def tSl (r : V → Option Int → Option Int → Hp → VK → Prop) (te : TE) (tl th : TO) : TE := fun σ H Q => te σ H fun x H1 => tl σ H1 fun l H2 => th σ H2 fun u H3 => r x l u H3 Q
theorem pe_slice {r : V → Option Int → Option Int → Hp → VK → Prop} (hr : SlR X r) (he : PE X e te) (hl : PO X lo tl) (hu : PO X hi th) : PE X (.Subscript e (.Slice lo hi none p2) pos) (tSl r te tl th) := by
  intro pins s σ H Q I h
  refine Subscript_ (thn (he pins s σ H _ I h) fun v s1 ⟨x, H1, I1, r1, q1⟩ => ?_)
  refine wpAny_Slice (thn (hl pins s1 σ H1 _ I1 q1) fun vl s2 ⟨l, H2, I2, pl, q2⟩ => thn (hu pins s2 σ H2 _ I2 q2) fun vu s3 ⟨u, H3, I3, pu, q3⟩ => ?_)
  rw [evalPart_none]
  refine wpAny_pure ?_
  have I4 : Inv X pins σ H3 { s3 with heap := s3.heap.push { cls := .type "slice", data := .fields #[vl, vu, .none] } } := I3.kept (t' := s3.toks) fun b ob q => Heap.get?_push_of_some _ q
  obtain ⟨T, id, hT, ht, hg⟩ := hr pins { s3 with heap := s3.heap.push { cls := .type "slice", data := .fields #[vl, vu, .none] } } σ H3 x v vl vu l u s3.heap.objs.size Q I4 r1 (Heap.IsSliceOf.new ..) pl pu q3
  show wpAny (model X.prog X.w) X.A (subscriptTail e (.Slice lo hi none p2) v (.ref s3.heap.objs.size)) (EP X pins σ Q) X.xe { s3 with heap := s3.heap.push { cls := .type "slice", data := .fields #[vl, vu, .none] } }
  exact tail_any (ops := [.ref s3.heap.objs.size, v]) ht hT hg (by with_unfolding_all rfl)
def cutV (xs : List V) (lo hi : Option Int) : List V := (xs.drop (HT.sIx xs.length 0 lo)).take (HT.sIx xs.length xs.length hi - HT.sIx xs.length 0 lo)
theorem cutV_length (xs : List V) (lo hi : Option Int) : (cutV xs lo hi).length ≤ xs.length := by
  unfold cutV
  rw [List.length_take, List.length_drop]
  omega
def rCatT (K : PySem.W.Frag) : R2 := fun x y H Q => ∃ a b xs ys, x = .ref a ∧ y = .ref b ∧ SqT K H a xs ∧ SqT K H b ys ∧ xs ≠ [] ∧ xs.length + ys.length ≤ sizeLine ∧
  (ys = [] → Q (.ref a) H) ∧ (ys ≠ [] → ∀ p, H p = none → Q (.ref p) (upd H p (.tup (xs ++ ys))))
theorem Vals.nil_iff {xs : List V} {us : List Value} (r : Vals xs us) : us = [] ↔ xs = [] := by
  cases r with
  | nil => simp
  | cons _ _ => simp
theorem op_catT : OpR X (binaryOp .Add) (rCatT X.K) := by
  intro pins s σ H x y v u Q I rx ry h
  obtain ⟨a, b, xs, ys, rfl, rfl, ha, hb, hx, hz, q1, q2⟩ := h
  cases rx
  cases ry
  obtain ⟨its, r1, p1, _⟩ := I.tuple ha
  obtain ⟨its2, r2, p2, _⟩ := I.tuple hb
  refine HT.cat_tup p1 p2 (fun z => hx (r1.nil_iff.mp z)) (fun z => ⟨.ref a, H, I, rfl, q1 (r2.nil_iff.mp z)⟩) (fun z => ?_) (by rw [← r1.length, ← r2.length]; exact hz)
  refine ⟨.ref s.heap.objs.size, _, I.laid (t' := s.toks) (o := .tup (xs ++ ys)) (fun b ob q => Heap.get?_push_of_some _ q) (Nat.le_refl _) ?_, rfl, q2 (fun w => z (r2.nil_iff.mpr w)) _ (I.hok.fresh (Nat.le_refl _))⟩
  exact ⟨by rw [List.length_append]; exact hz, _, r1.append r2, IsTup.new _ _⟩
end
end L2
namespace L2
open PySem PySem.Spec PyProof.Rows
def ixN (n : Nat) (i : Int) : Option Nat := if 0 ≤ i then (if i < n then some i.toNat else none) else if -(n : Int) ≤ i then some (i + n).toNat else none
def atI {α : Type} (xs : List α) (i : Int) : Option α := (ixN xs.length i).bind fun j => xs[j]?
theorem ixN_seq {n : Nat} {i : Int} {j : Nat} (h : ixN n i = some j) : seqIndex? i n = some j ∧ j < n ∧ -(n : Int) ≤ i ∧ i < n := by
  unfold ixN at h
  by_cases h0 : 0 ≤ i
  · rw [if_pos h0] at h
    by_cases h1 : i < n
    · rw [if_pos h1] at h
      have e : i.toNat = j := Option.some.inj h
      exact ⟨by rw [seqIndex_of h0 h1, e], by omega, by omega, h1⟩
    · rw [if_neg h1] at h; cases h
  · rw [if_neg h0] at h
    by_cases h1 : -(n : Int) ≤ i
    · rw [if_pos h1] at h
      have e : (i + n).toNat = j := Option.some.inj h
      exact ⟨by rw [seqIndex_neg (by omega) h1, e], by omega, h1, by omega⟩
    · rw [if_neg h1] at h; cases h
theorem atI_get {α : Type} {xs : List α} {i : Int} {v : α} (h : atI xs i = some v) : ∃ j, seqIndex? i xs.length = some j ∧ xs[j]? = some v ∧ j < xs.length ∧ -(xs.length : Int) ≤ i ∧ i < xs.length := by
  unfold atI at h
  cases e : ixN xs.length i with
  | none => rw [e] at h; cases h
  | some j =>
    rw [e] at h
    obtain ⟨h1, h2, h3, h4⟩ := ixN_seq e
    exact ⟨j, h1, h, h2, h3, h4⟩
theorem atI_nat {α : Type} {xs : List α} {j : Nat} {v : α} (h : xs[j]? = some v) : atI xs (j : Int) = some v := by
  have hj : j < xs.length := (List.getElem?_eq_some_iff.mp h).1
  have e : ixN xs.length (j : Int) = some j := by
    unfold ixN
    rw [if_pos (by omega), if_pos (by omega)]; simp
  unfold atI; rw [e]; exact h
theorem atI_last {α : Type} (xs : List α) (v : α) : atI (xs ++ [v]) (-1) = some v := by
  have hl : (xs ++ [v]).length = xs.length + 1 := by simp
  have e : ixN (xs ++ [v]).length (-1) = some xs.length := by
    unfold ixN
    rw [hl, if_neg (by decide), if_pos (by omega)]
    congr 1
    omega
  unfold atI
  rw [e]
  show (xs ++ [v])[xs.length]? = some v
  simp
def PlainIx (b : Expr) : Prop := ∀ o i, subscripted b false o i = operate [o, i] (getItem o i)
def IxR (X : Cx) (r : R2) : Prop :=
  ∀ (value slice : Expr) (pins : List (Addr × Obj)) (s : Shared) (σ : St) (H : Hp) (x y : V) (v u : Value) (Q : VK), Inv X pins σ H s → RelV x v → RelV y u → r x y H Q →
    subscripted slice false v u = operate [v, u] (getItem v u) → wpAny (model X.prog X.w) X.A (subscriptTail value slice v u) (EP X pins σ Q) X.xe s
def MtR (X : Cx) (id : String) (r : V → List V → Hp → VK → Prop) : Prop :=
  ∀ (pins : List (Addr × Obj)) (s : Shared) (σ : St) (H : Hp) (x : V) (xs : List V) (v : Value) (us : List Value) (Q : VK), Inv X pins σ H s → RelV x v → Vals xs us → r x xs H Q →
    wpAny (model X.prog X.w) X.A (call (.builtin id) (v :: us)) (EP X pins σ Q) X.xe s
section
variable {X : Cx} {a b : Expr} {ta tb : TE} {pos : Pos}
theorem pe_ix {r : R2} (hr : IxR X r) (ha : PE X a ta) (hb : PE X b tb) (hs : PlainIx b) : PE X (.Subscript a b pos) (tOp r ta tb) := by
  intro pins s σ H Q I h
  exact Subscript_ (binT ha hb I h fun v u s2 x y H2 I2 rx ry q => hr a b pins s2 σ H2 x y v u Q I2 rx ry q (hs _ _))
def rIxL (K : PySem.W.Frag) : R2 := fun x y H Q => ∃ p xs i v, x = .ref p ∧ y = .int i ∧ SqL K H p xs ∧ atI xs i = some v ∧ Q v H
def rIxT (K : PySem.W.Frag) : R2 := fun x y H Q => ∃ p xs i v, x = .ref p ∧ y = .int i ∧ SqT K H p xs ∧ atI xs i = some v ∧ Q v H
def rIxS : R2 := fun x y H Q => ∃ z i c, x = .str z ∧ y = .int i ∧ z.length ≤ sizeLine ∧ atI z.cps.toList i = some c ∧ Q (.str ⟨#[c]⟩) H
theorem ix_list : IxR X (rIxL X.K) := by
  intro value slice pins s σ H x y v u Q I rx ry h hs
  obtain ⟨p, xs, i, z, rfl, rfl, hq, he, q⟩ := h
  cases rx
  obtain ⟨t, rfl⟩ := ry
  obtain ⟨its, r, pl, hz⟩ := I.list hq
  obtain ⟨j, h1, h2, h3, h4, h5⟩ := atI_get he
  obtain ⟨w, ew, rw'⟩ := r.get h2
  have hl := r.length
  have hn := line63
  have fin : EP X pins σ Q w s := ⟨z, H, I, rw', q⟩
  by_cases h0 : 0 ≤ i
  · have hj : i.toNat = j := by
      rw [seqIndex_of h0 h5] at h1
      exact Option.some.inj h1
    exact item_listR pl.isList h0 (by omega) (by rw [hj]; simpa using ew) fin hs
  · have hj : (i + (its.toArray.size : Int)).toNat = j := by
      rw [seqIndex_neg (by omega) h4] at h1
      rw [List.size_toArray, ← hl]
      exact Option.some.inj h1
    exact subscriptTail_builtinR (x := w) pl.isList.typeIs slot_list_getitem.lookup
      (wpAny_getItem_list_neg (Q := fun r s' => r = w ∧ EP X pins σ Q r s') pl.isList (by omega) (by rw [List.size_toArray] <;> omega) (by omega) (by rw [hj]; simpa using ew) ⟨rfl, fin⟩) hs
theorem ix_tup : IxR X (rIxT X.K) := by
  intro value slice pins s σ H x y v u Q I rx ry h hs
  obtain ⟨p, xs, i, z, rfl, rfl, hq, he, q⟩ := h
  cases rx
  obtain ⟨t, rfl⟩ := ry
  obtain ⟨its, r, pl, hz⟩ := I.tuple hq
  obtain ⟨j, h1, h2, h3, h4, h5⟩ := atI_get he
  obtain ⟨w, ew, rw'⟩ := r.get h2
  have hl := r.length
  have hn := line63
  have fin : EP X pins σ Q w s := ⟨z, H, I, rw', q⟩
  exact subscriptTail_builtinR (x := w) pl.typeIs slot_tuple_getitem.lookup
    (getItem_tuple (j := j) (Q := fun r s' => r = w ∧ EP X pins σ Q r s') pl (by omega) (by omega) (by rw [List.size_toArray, ← hl]; exact h1) (by simpa using ew) ⟨rfl, fin⟩) hs
theorem ix_str : IxR X rIxS := by
  intro value slice pins s σ H x y v u Q I rx ry h hs
  obtain ⟨z, i, c, rfl, rfl, hz, he, q⟩ := h
  obtain ⟨t, rfl⟩ := rx
  obtain ⟨t', rfl⟩ := ry
  obtain ⟨j, h1, h2, h3, h4, h5⟩ := atI_get he
  have hl : z.cps.toList.length = z.length := by simp [Str.length]
  rw [hl] at h1 h4 h5
  have hn := line63
  exact tail_any (typeIs_str s z t) slot_str_getitem.lookup (getItem_str (c := c) (by
    have e1 : decide (i < -(2 ^ 63 : Int)) = false := decide_eq_false (by omega)
    have e2 : decide (i ≥ 2 ^ 63) = false := decide_eq_false (by omega)
    rw [e1, e2, Bool.or_false]) (by rw [h1]; simpa using h2) ⟨.str ⟨#[c]⟩, H, I.tok _, ⟨_, rfl⟩, q⟩) hs
theorem mapSeq_set (its : List Value) (n j : Nat) (u : Value) : Obj.mapSeq (·.setIfInBounds j u) { cls := .type "list", data := .seq its.toArray n } = { cls := .type "list", data := .seq (its.set j u).toArray n } := by
  simp [Obj.mapSeq]
theorem Inv.lst {pins : List (Addr × Obj)} {σ : St} {H : Hp} {s : Shared} {p : Addr} {xs : List V} (I : Inv X pins σ H s) (h : H p = some (.lst xs)) :
    ∃ (its : List Value) (n : Nat), Vals xs its ∧ s.heap.get? p = some { cls := .type "list", data := .seq its.toArray n } ∧ xs.length ≤ sizeLine := by
  obtain ⟨z, its, n, r, e⟩ := I.hok p _ h
  exact ⟨its, n, r, e, z⟩
theorem Inv.lstUpd {pins : List (Addr × Obj)} {σ : St} {H : Hp} {s : Shared} {p : Addr} {xs ys : List V} {its its' : List Value} {n n' : Nat} {f : Obj → Obj} (I : Inv X pins σ H s) (h : H p = some (.lst xs))
    (ho : s.heap.get? p = some { cls := .type "list", data := .seq its.toArray n }) (hf : f { cls := .type "list", data := .seq its.toArray n } = { cls := .type "list", data := .seq its'.toArray n' }) (r : Vals ys its') (hz : ys.length ≤ sizeLine) (t : Nat) :
    Inv X pins σ (upd H p (.lst ys)) { s with heap := s.heap.update p f, toks := t } := by
  have e : (s.heap.update p f).get? p = some { cls := .type "list", data := .seq its'.toArray n' } := by
    rw [Heap.get?_update_self f ho (by rw [hf] <;> rfl), hf]
  refine I.write (x := p) (e := p) (by rw [h]; trivial) (.inl rfl) (fun b u hb q => (Heap.get?_update_other _ _ (Ne.symm hb)).trans q) ⟨_, e⟩ ?_
  exact ⟨hz, its', n', r, e⟩
def rSetL : V → V → V → Hp → (Hp → Prop) → Prop := fun o i v H Q => ∃ p xs k j, o = .ref p ∧ i = .int k ∧ H p = some (.lst xs) ∧ ixN xs.length k = some j ∧ Q (upd H p (.lst (xs.set j v)))
theorem set_list : PSet X rSetL := by
  intro pins s σ H o i v ov iv u Q I ro ri rv h
  obtain ⟨p, xs, k, j, rfl, rfl, hp, hj, q⟩ := h
  cases ro
  obtain ⟨t, rfl⟩ := ri
  obtain ⟨its, n, r, ho, hz⟩ := I.lst hp
  obtain ⟨h1, h2, h3, h4⟩ := ixN_seq hj
  have hl := r.length
  have hn := line63
  have I' : Inv X pins σ (upd H p (.lst (xs.set j v))) { s with heap := s.heap.update p (Obj.mapSeq (·.setIfInBounds j u)) } :=
    I.lstUpd hp ho (mapSeq_set its n j u) (r.set rv j) (by rw [List.length_set]; exact hz) s.toks
  by_cases h0 : 0 ≤ k
  · have hk : k.toNat = j := by
      rw [seqIndex_of h0 h4] at h1
      exact Option.some.inj h1
    exact PySem.W.ki_setAt ho h0 (by omega) (by rw [List.size_toArray, ← hl]; exact h4) (by rw [hk]; exact ⟨_, I', q⟩)
  · have hk : (k + (its.toArray.size : Int)).toNat = j := by
      rw [seqIndex_neg (by omega) h3] at h1
      rw [List.size_toArray, ← hl]
      exact Option.some.inj h1
    exact PySem.W.ki_setBack ho (by omega) (by rw [List.size_toArray, ← hl]; exact h3) (by omega) (by rw [hk]; exact ⟨_, I', q⟩)
theorem slice_bounds (lo hi : Option Int) (n : Nat) : (sliceBounds lo hi none n).1 = ((HT.sIx n 0 lo : Nat) : Int) ∧ (sliceBounds lo hi none n).2.1 = ((HT.sIx n n hi : Nat) : Int) ∧ (sliceBounds lo hi none n).2.2 = 1 := by
  refine ⟨?_, ?_, rfl⟩
  · cases lo with
    | none => simp [sliceBounds, HT.sIx]
    | some i =>
      simp only [sliceBounds, HT.sIx, Option.getD_none, show (1 : Int) > 0 by decide, if_true]
      by_cases h : i < 0
      · simp only [h, if_true] <;> omega
      · simp only [h, if_false] <;> omega
  · cases hi with
    | none => simp [sliceBounds, HT.sIx]
    | some i =>
      simp only [sliceBounds, HT.sIx, Option.getD_none, show (1 : Int) > 0 by decide, if_true]
      by_cases h : i < 0
      · simp only [h, if_true] <;> omega
      · simp only [h, if_false] <;> omega
theorem slicePick_cut (its : List Value) (lo hi : Option Int) : slicePick its.toArray lo hi none = ((its.drop (HT.sIx its.length 0 lo)).take (HT.sIx its.length its.length hi - HT.sIx its.length 0 lo)).toArray := by
  obtain ⟨h1, h2, h3⟩ := slice_bounds lo hi its.toArray.size
  unfold slicePick
  rw [h1, h2, h3]
  simp only [sliceRange_one, pick_run, List.size_toArray] <;> rfl
def rSlL (K : PySem.W.Frag) : V → Option Int → Option Int → Hp → VK → Prop := fun x lo hi H Q => ∃ a xs, x = .ref a ∧ SqL K H a xs ∧ ∀ p, H p = none → Q (.ref p) (upd H p (.lst (cutV xs lo hi)))
theorem sl_list : SlR X (rSlL X.K) := by
  intro pins s σ H x v vl vu lo hi sl Q I rx hs pl pu h
  obtain ⟨a, xs, rfl, hx, q⟩ := h
  cases rx
  obtain ⟨its, r, ht, hz⟩ := I.list hx
  have hlen := r.length
  refine ⟨"list", _, slot_list_getitem.lookup, ht.isList.typeIs, ?_⟩
  refine wpAny_getItem_list_slice ht.isList hs pl pu .none (by simp) ?_ (by rw [List.size_toArray] <;> omega)
  rw [slicePick_cut, ← hlen]
  refine ⟨.ref s.heap.objs.size, _, I.laid (t' := s.toks) (o := .lst (cutV xs lo hi)) (fun b ob q => Heap.get?_push_of_some _ q) (Nat.le_refl _) ?_, rfl, q _ (I.hok.fresh (Nat.le_refl _))⟩
  exact ⟨Nat.le_trans (cutV_length xs lo hi) hz, _, 0, (r.drop (HT.sIx xs.length 0 lo)).take (HT.sIx xs.length xs.length hi - HT.sIx xs.length 0 lo), Heap.get?_push_size _ rfl⟩
def flatV : V → Bool
  | .non => true
  | .bl _ => true
  | .int _ => true
  | .str _ => true
  | _ => false
def eqV : V → V → Bool
  | .non, .non => true
  | .bl a, .bl b => a == b
  | .bl a, .int b => (if a then 1 else 0) == b
  | .int a, .bl b => a == (if b then 1 else 0)
  | .int a, .int b => a == b
  | .str a, .str b => a == b
  | _, _ => false
theorem eqAt_V {A : Around} {s : Shared} {y x : V} {u v : Value} (ry : RelV y u) (rx : RelV x v) (fy : flatV y = true) (fx : flatV x = true) : SeqAt.EqAt A s u v (eqV y x) := by
  cases y with
  | non =>
    cases ry
    cases x with
    | non => cases rx; exact SeqAt.EqAt.same _
    | bl b => cases rx; exact SeqAt.EqAt.none_bool b
    | int b => obtain ⟨t, rfl⟩ := rx; exact SeqAt.EqAt.none_int b t
    | str b => obtain ⟨t, rfl⟩ := rx; exact SeqAt.EqAt.none_str b t
    | _ => exact absurd (show false = true from fx) Bool.false_ne_true
  | bl a =>
    cases ry
    cases x with
    | non => cases rx; exact SeqAt.EqAt.bool_none a
    | bl b => cases rx; exact SeqAt.EqAt.bool_bool a b
    | int b => obtain ⟨t, rfl⟩ := rx; exact SeqAt.EqAt.bool_int a b t
    | str b => obtain ⟨t, rfl⟩ := rx; exact SeqAt.EqAt.bool_str a b t
    | _ => exact absurd (show false = true from fx) Bool.false_ne_true
  | int a =>
    obtain ⟨t', rfl⟩ := ry
    cases x with
    | non => cases rx; exact SeqAt.EqAt.int_none a t'
    | bl b => cases rx; exact SeqAt.EqAt.int_bool a t' b
    | int b => obtain ⟨t, rfl⟩ := rx; exact SeqAt.EqAt.int_int a t' b t
    | str b => obtain ⟨t, rfl⟩ := rx; exact SeqAt.EqAt.int_str a t' b t
    | _ => exact absurd (show false = true from fx) Bool.false_ne_true
  | str a =>
    obtain ⟨t', rfl⟩ := ry
    cases x with
    | non => cases rx; exact SeqAt.EqAt.str_none a t'
    | bl b => cases rx; exact SeqAt.EqAt.str_bool a t' b
    | int b => obtain ⟨t, rfl⟩ := rx; exact SeqAt.EqAt.str_int a t' b t
    | str b => obtain ⟨t, rfl⟩ := rx; exact SeqAt.EqAt.str_str a t' b t
    | _ => exact absurd (show false = true from fx) Bool.false_ne_true
  | _ => exact absurd (show false = true from fy) Bool.false_ne_true
def eqU (x : V) (u : Value) : Bool := match u with
  | .none => eqV .non x
  | .bool b => eqV (.bl b) x
  | .int i _ => eqV (.int i) x
  | .str z _ => eqV (.str z) x
  | _ => false
theorem eqU_of {x y : V} {u : Value} (r : RelV y u) (f : flatV y = true) : eqU x u = eqV y x := by
  cases y with
  | non => cases r; rfl
  | bl b => cases r; rfl
  | int i => obtain ⟨t, rfl⟩ := r; rfl
  | str z => obtain ⟨t, rfl⟩ := r; rfl
  | _ => exact absurd (show false = true from f) Bool.false_ne_true
theorem any_eqU {x : V} : ∀ {xs : List V} {us : List Value}, Vals xs us → xs.all flatV = true → us.any (eqU x) = xs.any fun y => eqV y x
  | _, _, .nil, _ => rfl
  | y :: xs, u :: us, .cons r t, f => by
    rw [List.all_cons, Bool.and_eq_true] at f
    rw [List.any_cons, List.any_cons, eqU_of r f.1, any_eqU t f.2]
theorem mem_eqAt {A : Around} {s : Shared} {x : V} {v : Value} (rx : RelV x v) (fx : flatV x = true) : ∀ {xs : List V} {us : List Value}, Vals xs us → xs.all flatV = true → ∀ u ∈ us, SeqAt.EqAt A s u v (eqU x u)
  | _, _, .nil, _ => fun u hu => by cases hu
  | y :: xs, u :: us, .cons r t, f => fun u' hu => by
    rw [List.all_cons, Bool.and_eq_true] at f
    rcases List.mem_cons.mp hu with rfl | hu
    · rw [eqU_of r f.1]; exact eqAt_V r rx f.1 fx
    · exact mem_eqAt rx fx t f.2 u' hu
def inV (x : V) (xs : List V) : Bool := xs.any fun y => eqV y x
def rIn (K : PySem.W.Frag) (neg : Bool) : R2 := fun x y H Q => ∃ p xs, y = .ref p ∧ (SqL K H p xs ∨ SqT K H p xs) ∧ flatV x = true ∧ xs.all flatV = true ∧ Q (.bl (if neg then !inV x xs else inV x xs)) H
theorem op_in_seq : OpR X (compareOp .In) (rIn X.K false) := by
  intro pins s σ H x y v u Q I rx ry h
  obtain ⟨p, xs, rfl, hq, fx, fs, q⟩ := h
  cases ry
  rcases hq with hq | hq
  · obtain ⟨its, r, pl, hz⟩ := I.list hq
    refine SeqAt.in_listAt (eqU x) pl.isList (fun w hw => mem_eqAt rx fx r fs w (by simpa using hw)) ⟨.bl _, H, I, rfl, ?_⟩
    rw [show its.toArray.any (eqU x) = its.any (eqU x) by simp, any_eqU r fs]
    exact q
  · obtain ⟨its, r, pl, hz⟩ := I.tuple hq
    refine SeqAt.in_tupleAt (eqU x) pl (fun w hw => mem_eqAt rx fx r fs w (by simpa using hw)) ⟨.bl _, H, I, rfl, ?_⟩
    rw [show its.toArray.any (eqU x) = its.any (eqU x) by simp, any_eqU r fs]
    exact q
theorem op_notIn_seq : OpR X (compareOp .NotIn) (rIn X.K true) := by
  intro pins s σ H x y v u Q I rx ry h
  obtain ⟨p, xs, rfl, hq, fx, fs, q⟩ := h
  cases ry
  rcases hq with hq | hq
  · obtain ⟨its, r, pl, hz⟩ := I.list hq
    refine SeqAt.notIn_listAt (eqU x) pl.isList (fun w hw => mem_eqAt rx fx r fs w (by simpa using hw)) ⟨.bl _, H, I, rfl, ?_⟩
    rw [show its.toArray.any (eqU x) = its.any (eqU x) by simp, any_eqU r fs]
    exact q
  · obtain ⟨its, r, pl, hz⟩ := I.tuple hq
    refine SeqAt.notIn_tupleAt (eqU x) pl (fun w hw => mem_eqAt rx fx r fs w (by simpa using hw)) ⟨.bl _, H, I, rfl, ?_⟩
    rw [show its.toArray.any (eqU x) = its.any (eqU x) by simp, any_eqU r fs]
    exact q
theorem call_len_seq : CallR X (.builtin "len") (fun xs H Q => ∃ p ys, xs = [.ref p] ∧ (SqL X.K H p ys ∨ SqT X.K H p ys) ∧ Q (.int ys.length) H) := by
  intro pins s σ H xs us Q I r h
  obtain ⟨p, ys, rfl, hq, q⟩ := h
  obtain ⟨u, rfl, rx⟩ := vals1 r
  cases rx
  have hn := line63
  rcases hq with hq | hq
  · obtain ⟨its, r', pl, hz⟩ := I.list hq
    have hlen := r'.length
    exact Calls.call_len_list pl.isList (by simp only [List.size_toArray] <;> omega) ⟨.int ys.length, H, I.tok _, ⟨s.toks + 1, by rw [List.size_toArray, hlen]⟩, q⟩
  · obtain ⟨its, r', pl, hz⟩ := I.tuple hq
    have hlen := r'.length
    exact len_tuple pl (by simp only [List.size_toArray] <;> omega) ⟨.int ys.length, H, I.tok _, ⟨s.toks + 1, by rw [List.size_toArray, hlen]⟩, q⟩
theorem call_len_str : CallR X (.builtin "len") (fun xs H Q => ∃ z, xs = [.str z] ∧ z.length ≤ sizeLine ∧ Q (.int z.length) H) := by
  intro pins s σ H xs us Q I r h
  obtain ⟨z, rfl, hz, q⟩ := h
  obtain ⟨u, rfl, t, rfl⟩ := vals1 r
  have hn := line63
  exact len_str (by omega) ⟨.int z.length, H, I.tok _, ⟨_, rfl⟩, q⟩
theorem CallR.or {f : Value} {r r' : List V → Hp → VK → Prop} (h : CallR X f r) (h' : CallR X f r') : CallR X f (fun xs H Q => r xs H Q ∨ r' xs H Q) := by
  intro pins s σ H xs us Q I rs q
  rcases q with q | q
  · exact h pins s σ H xs us Q I rs q
  · exact h' pins s σ H xs us Q I rs q
theorem call_list_of : CallR X (.type "list") (fun xs H Q => ∃ p ys, xs = [.ref p] ∧ (SqL X.K H p ys ∨ SqT X.K H p ys) ∧ ∀ l, H l = none → Q (.ref l) (upd H l (.lst ys))) := by
  intro pins s σ H xs us Q I r h
  obtain ⟨p, ys, rfl, hq, q⟩ := h
  obtain ⟨u, rfl, rx⟩ := vals1 r
  cases rx
  have fin : ∀ (its : List Value), Vals ys its → ys.length ≤ sizeLine → ∀ (h' : Heap) (c' : Nat), (∀ b o', s.heap.get? b = some o' → h'.get? b = some o') →
      h'.get? s.heap.objs.size = some { cls := .type "list", dict := none, data := .seq its.toArray c', slots := #[] } → EP X pins σ Q (.ref s.heap.objs.size) { s with heap := h' } := fun its r' hz h' c' kp e =>
    ⟨.ref s.heap.objs.size, _, I.laid (t' := s.toks) kp (Nat.le_refl _) (show ObjOk X.prog X.w _ h' _ (.lst ys) from ⟨hz, its, c', r', e⟩), rfl, q _ (I.hok.fresh (Nat.le_refl _))⟩
  rcases hq with hq | hq
  · obtain ⟨its, r', pl, hz⟩ := I.list hq
    have hlen := r'.length
    obtain ⟨o, ho, hc, n, hd⟩ := pl.isList
    exact call_list_seq p (.inl rfl) ho hc hd (fun h' c' kp e => fin its r' hz h' c' kp e) (by simp only [List.size_toArray] <;> omega)
  · obtain ⟨its, r', pl, hz⟩ := I.tuple hq
    have hlen := r'.length
    obtain ⟨o, ho, hc, n, hd⟩ := pl
    exact call_list_seq p (.inr rfl) ho hc hd (fun h' c' kp e => fin its r' hz h' c' kp e) (by simp only [List.size_toArray] <;> omega)
theorem call_tuple_of : CallR X (.type "tuple") (fun xs H Q => ∃ p ys, xs = [.ref p] ∧ ((SqL X.K H p ys ∧ ∀ l, H l = none → Q (.ref l) (upd H l (.tup ys))) ∨ (SqT X.K H p ys ∧ Q (.ref p) H))) := by
  intro pins s σ H xs us Q I r h
  obtain ⟨p, ys, rfl, h⟩ := h
  obtain ⟨u, rfl, rx⟩ := vals1 r
  cases rx
  rcases h with ⟨hq, q⟩ | ⟨hq, q⟩
  · obtain ⟨its, r', pl, hz⟩ := I.list hq
    have hlen := r'.length
    refine call_tuple_list pl.isList (fun h' kp => ?_) (by simp only [List.size_toArray] <;> omega)
    have I1 : Inv X pins σ H { s with heap := h' } := I.kept (t' := s.toks) kp
    have I2 : Inv X pins σ (upd H h'.objs.size (.tup ys)) { s with heap := h'.push { cls := .type "tuple", data := .seq its.toArray } } :=
      I1.laid (t' := s.toks) (fun b o e => Heap.get?_push_of_some _ e) (Nat.le_refl _) (show ObjOk X.prog X.w _ _ _ (.tup ys) from ⟨hz, its, r', IsTup.new _ _⟩)
    exact ⟨.ref h'.objs.size, _, I2, rfl, q _ (I1.hok.fresh (Nat.le_refl _))⟩
  · obtain ⟨its, r', pl, hz⟩ := I.tuple hq
    exact call_tuple_same pl ⟨.ref p, H, I, rfl, q⟩
def tyV (K : PySem.W.Frag) (T : String) (x : V) (H : Hp) : Prop := match x with
  | .str _ => T = "str"
  | .int _ => T = "int"
  | .ref p => (T = "list" ∧ ∃ xs, SqL K H p xs) ∨ (T = "tuple" ∧ ∃ o, K.lookup p = some o ∧ o.cls = .type "tuple" ∧ o.dict = none) ∨
      (T = "dict" ∧ ((∃ kvs, H p = some (.dK kvs)) ∨ ∃ kvs, H p = some (.dT kvs))) ∨ (T = "set" ∧ ∃ S n, H p = some (.set S n))
  | _ => False
theorem tyV_is {pins : List (Addr × Obj)} {σ : St} {H : Hp} {s : Shared} {T : String} {x : V} {v : Value} (I : Inv X pins σ H s) (r : RelV x v) (ty : tyV X.K T x H) :
    s.TypeIs v T ∧ ∀ a, v = .ref a → ∃ ob, s.heap.get? a = some ob ∧ ob.dict = none := by
  cases x with
  | str z =>
    obtain ⟨t, rfl⟩ := r
    cases (show T = "str" from ty)
    exact ⟨typeIs_str s z t, fun _ e => nomatch e⟩
  | int i =>
    obtain ⟨t, rfl⟩ := r
    cases (show T = "int" from ty)
    exact ⟨typeIs_int s i t, fun _ e => nomatch e⟩
  | ref p =>
    cases r
    rcases ty with ⟨rfl, xs, hq⟩ | ⟨rfl, o, hk, hc, hd⟩ | ⟨rfl, hk⟩ | ⟨rfl, S, n, hk⟩
    · obtain ⟨its, _, pl, _⟩ := I.list hq
      refine ⟨pl.isList.typeIs, fun a e => ?_⟩
      cases e
      obtain ⟨o, n, e, c, hd, _⟩ := pl
      exact ⟨o, e, hd⟩
    · refine ⟨⟨o, I.kIn p o hk, hc⟩, fun a e => ?_⟩
      cases e
      exact ⟨o, I.kIn _ o hk, hd⟩
    · have z : ∃ o, s.heap.get? p = some o ∧ o.ExactDict := by
        rcases hk with ⟨kvs, hk⟩ | ⟨kvs, hk⟩
        · obtain ⟨_, _, _, _, o, _, _, e, ex, _⟩ := I.hok p _ hk
          exact ⟨o, e, ex⟩
        · obtain ⟨_, _, _, _, o, _, _, e, ex, _⟩ := I.hok p _ hk
          exact ⟨o, e, ex⟩
      obtain ⟨o, e, ex⟩ := z
      refine ⟨⟨o, e, ex.1⟩, fun a e2 => ?_⟩
      cases e2
      exact ⟨o, e, ex.2.1⟩
    · obtain ⟨o, _, _, _, e, ex, _⟩ := I.hok p _ hk
      refine ⟨⟨o, e, ex.1⟩, fun a e2 => ?_⟩
      cases e2
      exact ⟨o, e, ex.2.1⟩
  | _ => exact False.elim ty
def tBM0 (K : PySem.W.Frag) (T : String) (r : V → List V → Hp → VK → Prop) (to : TE) : TE := fun σ H Q => to σ H fun x H1 => tyV K T x H1 ∧ r x [] H1 Q
def tBM (K : PySem.W.Frag) (T : String) (r : V → List V → Hp → VK → Prop) (to : TE) (t : TA) : TE := fun σ H Q => to σ H fun x H1 => tyV K T x H1 ∧ t σ H1 fun xs H2 => r x xs H2 Q
variable {o e : Expr} {es : List Expr} {to : TE} {t : TA} {name : Str} {apos cpos : Pos} {T id : String} {r : V → List V → Hp → VK → Prop}
theorem pe_bm0 (pa : PlainAttrs T) (slot : Slot T name id) (hty : typeOf (.builtin id) = pure (.type "method_descriptor")) (hm : MtR X id r) (ho : PE X o to)
    (hbase : attributeBase o name X.env (eval o X.env) = eval o X.env := by rfl) (hline : (apos.endLine == cpos.line) = true := by rfl) : PE X (.Call (.Attribute o name apos) [] [] cpos) (tBM0 X.K T r to) := by
  intro pins s σ H Q I h
  refine wpAny_Call_method0_late hbase hline (thn (ho pins s σ H _ I h) fun v s1 ⟨x, H1, I1, r1, ty, q1⟩ => ?_)
  obtain ⟨h1, h2⟩ := tyV_is I1 r1 ty
  exact ⟨T, id, pa, slot, hty, h1, h2, Calls.callWith_builtin rfl (PySem.evalArgs_none (hm pins s1 σ H1 x [] v [] Q I1 r1 .nil q1))⟩
theorem pe_bm (pa : PlainAttrs T) (slot : Slot T name id) (hty : typeOf (.builtin id) = pure (.type "method_descriptor")) (hm : MtR X id r) (ho : PE X o to) (ha : PA X (e :: es) t)
    (hbase : attributeBase o name X.env (eval o X.env) = eval o X.env := by rfl)
    (hfew : ((backTo cpos (starEach (e :: es) X.env)).all (fun x => !x.1) && (backToKw cpos (keywordEach [] X.env)).all (fun x => x.1.isSome)
      && decide ((e :: es).length + ([] : List Keyword).length + (if ([] : List Keyword).isEmpty then 0 else 1) < 30)) = true := by rfl)
    (hline : (apos.endLine == cpos.line) = true := by rfl) (hs : starEach (e :: es) X.env = (false, eval e X.env) :: starEach es X.env := by rfl) (hplain : (backTo cpos (starEach es X.env)).any (·.1) = false := by rfl) :
    PE X (.Call (.Attribute o name apos) (e :: es) [] cpos) (tBM X.K T r to t) := by
  intro pins s σ H Q I h
  refine wpAny_Call_method_late hbase hfew hline rfl (thn (ho pins s σ H _ I h) fun v s1 ⟨x, H1, I1, r1, ty, q1⟩ => ?_)
  obtain ⟨h1, h2⟩ := tyV_is I1 r1 ty
  refine ⟨T, id, pa, slot, hty, h1, h2, ?_⟩
  have hA := ha cpos pins s1 σ H1 _ I1 q1
  rw [hs] at hA ⊢
  refine Calls.callWith_builtin (by show (false || (backTo cpos (starEach es X.env)).any (·.1)) = false; rw [hplain] <;> rfl) (Calls.evalArgs_plain ?_)
  exact thn hA fun us s2 ⟨vs, H2, I2, r2, q2⟩ => hm pins s2 σ H2 x vs v us Q I2 r1 r2 q2
end
end L2
namespace L2
open PySem PySem.Spec PyProof.Rows
def MtM (X : Cx) (id : String) (r : V → List V → Hp → VK → Prop) : Prop :=
  ∀ (pins : List (Addr × Obj)) (s : Shared) (σ : St) (H : Hp) (x : V) (xs : List V) (v : Value) (us : List Value) (Q : VK), Inv X pins σ H s → RelV x v → Vals xs us → r x xs H Q →
    wpAny (model X.prog X.w) X.A (call (.builtin id) (v :: us)) (EP X pins σ Q) X.xe s
theorem Vals.one : ∀ {x : V} {us : List Value}, Vals [x] us → ∃ u, us = [u] ∧ RelV x u
  | _, _, .cons r .nil => ⟨_, rfl, r⟩
theorem Vals.eraseIdx : ∀ {xs : List V} {us : List Value} (i : Nat), Vals xs us → Vals (xs.eraseIdx i) (us.eraseIdx i)
  | _, _, _, .nil => .nil
  | _, _, 0, .cons _ t => t
  | _, _, i + 1, .cons r t => .cons r (Vals.eraseIdx i t)
theorem Vals.rep {xs : List V} {us : List Value} (h : Vals xs us) : ∀ k : Nat, Vals (List.replicate k xs).flatten (List.replicate k us).flatten
  | 0 => .nil
  | k + 1 => by
    rw [List.replicate_succ, List.replicate_succ, List.flatten_cons, List.flatten_cons]
    exact Vals.append h (Vals.rep h k)
theorem len_erase {α : Type} : ∀ (l : List α) (i : Nat), (l.eraseIdx i).length ≤ l.length
  | [], _ => Nat.le_refl _
  | _ :: _, 0 => Nat.le_succ _
  | _ :: r, i + 1 => Nat.succ_le_succ (len_erase r i)
theorem foldl_rep (its : List Value) : ∀ (k : Nat) (acc : List Value),
    List.foldl (fun x1 x2 => x1 ++ x2) acc.toArray (List.replicate k its.toArray) = (acc ++ (List.replicate k its).flatten).toArray
  | 0, acc => by simp
  | k + 1, acc => by
    have e : acc.toArray ++ its.toArray = (acc ++ its).toArray := by simp
    have e2 : (acc ++ its) ++ (List.replicate k its).flatten = acc ++ (List.replicate (k + 1) its).flatten := by
      rw [List.replicate_succ, List.flatten_cons, List.append_assoc]
    rw [← e2, ← foldl_rep its k (acc ++ its), ← e, List.replicate_succ, List.foldl_cons]
section
variable {X : Cx} {pins : List (Addr × Obj)} {σ : St} {H : Hp} {s : Shared} {l b : Addr} {xs ys zs : List V}
theorem Inv.lset {its its' : List Value} {n : Nat} {f : Array Value → Array Value} {t' : Nat} (I : Inv X pins σ H s) (hH : H l = some (.lst xs))
    (e : s.heap.get? l = some { cls := .type "list", data := .seq its.toArray n }) (hf : f its.toArray = its'.toArray) (hv : Vals ys its') (hz : ys.length ≤ sizeLine) :
    Inv X pins σ (upd H l (.lst ys)) { s with heap := s.heap.update l (Obj.mapSeq f), toks := t' } := by
  have q := PySem.IsL.update e f
  rw [hf] at q
  refine I.write (x := l) (e := l) (by rw [hH]; exact trivial) (.inl rfl) (fun b' u hb hu => (Heap.get?_update_other s.heap (Obj.mapSeq f) (Ne.symm hb)).trans hu) ⟨_, q⟩ ?_
  exact ⟨hz, its', _, hv, q⟩
theorem Inv.lnew {its : List Value} {t' : Nat} (I : Inv X pins σ H s) (hv : Vals ys its) (hz : ys.length ≤ sizeLine) :
    Inv X pins σ (upd H s.heap.objs.size (.lst ys)) { s with heap := s.heap.push { cls := .type "list", data := .seq its.toArray }, toks := t' } :=
  I.laid (fun _ _ q => Heap.get?_push_of_some _ q) (Nat.le_refl _) ⟨hz, its, 0, hv, Heap.get?_push_size _ rfl⟩
theorem Inv.fresh (I : Inv X pins σ H s) : H s.heap.objs.size = none := I.hok.fresh (Nat.le_refl _)
theorem Inv.lstM (I : Inv X pins σ H s) (hH : H l = some (.lst xs)) : xs.length ≤ sizeLine ∧ ∃ (its : List Value) (n : Nat), Vals xs its ∧ xs.length = its.length ∧ s.heap.get? l = some { cls := .type "list", data := .seq its.toArray n } := by
  obtain ⟨z, its, n, r, e⟩ := I.hok l _ hH
  exact ⟨z, its, n, r, r.length, e⟩
theorem notLongL {n : Nat} (h : n ≤ sizeLine) : Builtin.List.listTooLong n = false := by
  unfold Builtin.List.listTooLong
  exact decide_eq_false (by omega)
end
section
variable {X : Cx}
def rPopAt : V → List V → Hp → VK → Prop := fun x vs H Q => ∃ l xs i k y, x = .ref l ∧ vs = [.int i] ∧ H l = some (.lst xs) ∧ -(2 ^ 63) ≤ i ∧ i < 2 ^ 63 ∧ seqIndex? i xs.length = some k ∧ xs[k]? = some y ∧ Q y (upd H l (.lst (xs.eraseIdx k)))
theorem mt_popAt : MtM X "list.pop" rPopAt := by
  intro pins s σ H x vs v us Q I rx rv h
  obtain ⟨l, xs, i, k, y, rfl, rfl, hH, h1, h2, hk, hy, q⟩ := h
  cases rx
  obtain ⟨u, rfl, ru⟩ := rv.one
  obtain ⟨t, rfl⟩ := ru
  obtain ⟨z, its, n, r, hl, e⟩ := I.lstM hH
  obtain ⟨w, hw, rw'⟩ := r.get hy
  refine call_meets F.slot_list_pop ⟨_, e, rfl⟩ F.entry_list_pop (F.args_list_pop_2 _ _)
    (MeetsSeq.list_pop_at l its.toArray n i t k w (fitsIndex_both h1 h2) (by rw [List.size_toArray, ← hl]; exact hk) (by rw [← Array.getElem?_toList]; exact hw) (by rw [List.size_toArray]; omega)) ⟨e, ?_⟩
  refine ⟨y, _, I.lset (its' := its.eraseIdx k) hH e ?_ (r.eraseIdx k) ?_, rw', q⟩
  · show its.toArray.eraseIdxIfInBounds k = (its.eraseIdx k).toArray
    rw [List.eraseIdxIfInBounds_toArray]
  · have := len_erase xs k
    omega
def rRep : R2 := fun x y H Q => ∃ l k xs, x = .ref l ∧ y = .int k ∧ H l = some (.lst xs) ∧ -(2 ^ 63) ≤ k ∧ k < 2 ^ 63 ∧ xs.length * k.toNat ≤ sizeLine ∧
  ∀ p, H p = none → Q (.ref p) (upd H p (.lst (List.replicate k.toNat xs).flatten))
theorem len_rep {α : Type} (xs : List α) (k : Nat) : (List.replicate k xs).flatten.length = k * xs.length := by
  induction k with
  | zero => simp
  | succ k ih => rw [List.replicate_succ, List.flatten_cons, List.length_append, ih, Nat.succ_mul, Nat.add_comm]
theorem op_rep : OpR X (binaryOp .Mult) rRep := by
  intro pins s σ H x y v u Q I rx ry h
  obtain ⟨l, k, xs, rfl, rfl, hH, h1, h2, hz, q⟩ := h
  cases rx
  obtain ⟨t, rfl⟩ := ry
  obtain ⟨z, its, n, r, hl, e⟩ := I.lstM hH
  have hlen : its.toArray.size * k.toNat ≤ sizeLine := by rw [List.size_toArray, ← hl]; exact hz
  have hcap : ¬ its.toArray.size * k.toNat > (2 ^ 63 - 1) / 8 := by
    have : (sizeLine : Nat) ≤ (2 ^ 63 - 1) / 8 := by decide
    omega
  have hfit : ¬ (!Builtin.List.listFitsIndex k) = true := by
    rw [fitsIndex_both h1 h2]
    exact Bool.false_ne_true
  have hlong : ¬ Builtin.List.listTooLong (its.toArray.size * k.toNat) = true := by
    rw [notLongL hlen]
    exact Bool.false_ne_true
  have hnew : List.foldl (fun x1 x2 => x1 ++ x2) #[] (List.replicate (if its.toArray.isEmpty = true then 0 else k.toNat) its.toArray) = (List.replicate k.toNat its).flatten.toArray := by
    have f0 : ∀ m : Nat, List.foldl (fun x1 x2 => x1 ++ x2) #[] (List.replicate m its.toArray) = (List.replicate m its).flatten.toArray := fun m => by
      have := foldl_rep its m []
      rw [List.nil_append] at this
      exact this
    rw [f0]
    cases its with
    | nil => simp
    | cons a r' => rw [if_neg (by simp)]
  refine wpAny_binaryOp_repeat_ref (T := "list") (U := "int") (by decide) ⟨_, e, rfl⟩ (fun s' => typeIs_int s' k t) noFill_list_mul F.fills_int_mul F.slot_int_rmul repeat_list F.slot_int_index.lookup
    (call_meets F.slot_int_rmul (typeIs_int s k t) F.entry_int_rmul (F.args_int_rmul_2 _ _) (int___rmul___int_list k t l its.toArray n)
      ⟨e, rfl, ⟨_, e, rfl⟩, call_meets F.slot_list_mul ⟨_, e, rfl⟩ F.entry_list_mul (F.args_list_mul_2 _ _) (AutoListH.list___mul___list_int_3 l its.toArray n k t hfit hcap hlong) ⟨e, ?_⟩⟩)
  rw [hnew]
  exact ⟨.ref _, _, I.lnew (t' := s.toks) (r.rep k.toNat) (by rw [len_rep, Nat.mul_comm]; exact hz), rfl, q _ I.fresh⟩
end
section
variable {prog : Program} {w : World} {A : Around} {E : Value → Shared → Prop} {s : Shared}
set_option maxRecDepth 100000 in
end
section
variable {X : Cx}
end
end L2
namespace L2
open PySem PySem.Spec PyProof.Rows
section
variable {κ : Type} [DecidableEq κ]
def valV (kvs : List (κ × V)) (k : κ) : Option V := (kvs.find? fun kv => decide (kv.1 = k)).map (·.2)
theorem valV_pos {p : κ × V} {r : List (κ × V)} {k : κ} (e : p.1 = k) : valV (p :: r) k = some p.2 := by simp [valV, List.find?_cons, e]
theorem valV_neg {p : κ × V} {r : List (κ × V)} {k : κ} (e : ¬ p.1 = k) : valV (p :: r) k = valV r k := by simp [valV, List.find?_cons, e]
theorem RelO.isSome_eq {o : Option V} {u : Option Value} (r : RelO o u) : o.isSome = u.isSome := by
  cases o with
  | none => cases u with
    | none => rfl
    | some _ => exact (show False from r).elim
  | some _ => cases u with
    | none => exact (show False from r).elim
    | some _ => rfl
theorem KV.val {kvs : List (κ × V)} {vs : List (κ × Value)} (r : KV kvs vs) (k : κ) : RelO (valV kvs k) (valueAt vs k) := by
  unfold KV at r
  induction r with
  | nil => exact True.intro
  | @cons p q ps qs h t ih =>
    obtain ⟨h1, h2⟩ := h
    by_cases e : p.1 = k
    · have e' : q.1 = k := h1.symm.trans e
      have b : valueAt (q :: qs) k = some q.2 := by simp [valueAt, List.find?_cons, e']
      rw [valV_pos e, b]; exact h2
    · have e' : ¬ q.1 = k := fun z => e (h1.trans z)
      have b : valueAt (q :: qs) k = valueAt qs k := by simp [valueAt, List.find?_cons, e']
      rw [valV_neg e, b]; exact ih
end
theorem kV_is {P : Program} {w : World} {k : Key} {u : Value} (r : RelV (kV k) u) : (mixKind P w).is k u = true := by
  cases k with
  | inl i => obtain ⟨t, e⟩ := (show ∃ t, u = Value.int i t from r); subst e; exact mixKind_int P w i t
  | inr x => obtain ⟨t, e⟩ := (show ∃ t, u = Value.str x t from r); subst e; exact mixKind_str P w x t
section
variable {P : Program} {w : World} {H : Hp} {h : Heap} {a : Addr}
end
section
variable {X : Cx} {pins : List (Addr × Obj)} {σ : St} {H : Hp} {s : Shared} {a : Addr} {y v : V} {u r : Value} {o : Option V} {A : Around} {E : Value → Shared → Prop}
end
section
variable {X : Cx} {pins : List (Addr × Obj)} {σ : St} {H : Hp} {s : Shared} {a : Addr} {kvs : List (Key × V)} {k : Key} {u : Value} {A : Around} {E : Value → Shared → Prop}
end
section
variable {X : Cx} {o i e value : Expr} {pos pos' tpos : Pos} {td ty tv : TE}
end
section
variable {X : Cx} {pos : Pos}
end
section
variable {X : Cx} {pins : List (Addr × Obj)} {σ : St} {H : Hp} {s : Shared} {a : Addr} {y d : V} {u r : Value} {o : Option V} {A : Around} {E : Value → Shared → Prop}
end
section
variable {X : Cx} {o e f : Expr} {apos cpos : Pos} {td ty tx : TE}
end
section
variable {X : Cx} {pins : List (Addr × Obj)} {σ : St} {H : Hp} {s : Shared} {a : Addr} {kvs : List (Key × V)} {A : Around} {E : Value → Shared → Prop}
end
section
variable {X : Cx} {pins : List (Addr × Obj)} {σ : St} {H : Hp} {s : Shared} {a : Addr} {y : V} {u : Value} {A : Around} {E : Value → Shared → Prop}
end
end L2
namespace Att
open PySem PySem.W PySem.Calls PyProof.Rows
theorem ints_of_wellAll {P : Params} {h : Heap} : ∀ (ns : List Int) (vs : List Value), WellAll P h vs (ns.map WData.int) → IntsAre vs ns := by
  intro ns
  induction ns with
  | nil =>
    intro vs w
    rw [List.map_nil] at w
    cases w
    exact .nil
  | cons n ns ih =>
    intro vs w
    rw [List.map_cons] at w
    cases w with
    | cons a b =>
      cases a
      exact .cons _ _ (ih _ b)
theorem script_of {l : OpenLaw} {n : Nat} (hn : l.most = some n) {P : Params} {h : Heap} {args : List WData} {vals : List Value}
    (hpre : l.row.toRowW.claim.pre args = true) (hwl : WellAll P h vals args) :
    ∃ a vs ns, vals = [Value.ref a] ∧ args = [WData.list (ns.map WData.int)] ∧ h.get? a = some { cls := .type "list", data := .seq vs.toArray } ∧ IntsAre vs ns ∧ ns.length ≤ n := by
  have hsh : WShape.hasAll [] args [.list .int] = true := (pre_splitW hpre).1
  have hc : l.pre.holds [] { args := args } = true := (pre_splitW hpre).2
  obtain ⟨d, r, rfl, h1, h2⟩ := hasAllW_cons hsh
  obtain rfl := hasAllW_nil h2
  obtain ⟨xs, rfl, h3⟩ := hasW_list h1
  obtain ⟨ns, rfl⟩ := items_int h3
  have hlen : ns.length ≤ n := by
    unfold OpenLaw.pre at hc
    have h4 : (WTm.not (.lt (.lit (.int (n : Int))) (.len (.arg 0)))).holds [] { args := [.list (ns.map .int)] } = true := by
      have h4 := (holds_andW hc).1
      rw [hn] at h4
      exact h4
    have h5 := condW_of h4 (w_not (w_lt w_lit (w_len_list (w_arg rfl))))
    rw [List.length_map] at h5
    refine Nat.le_of_not_lt fun q => ?_
    have q' : (n : Int) < ((ns.length : Nat) : Int) := by omega
    first
      | (rw [decide_eq_true q'] at h5; exact absurd h5 (by decide))
      | (simp at h5; omega)
  cases hwl with
  | cons w1 w2 =>
    cases w2
    cases w1 with
    | list ho hall => exact ⟨_, _, ns, rfl, rfl, ho, ints_of_wellAll ns _ hall, hlen⟩
theorem post_true (l : OpenLaw) (args : List WData) : l.row.toRowW.claim.post args (.bool true) args = true :=
  postW_of (r := l.row.toRowW) (X := (true == true))
    (show WShape.has [] (.bool true) .bool = true by first | rfl | decide | simp [WShape.has, WShape.arms, WShape.armsAll])
    (show (WTm.eq .res (.lit (.bool true))).value [] { args := args, res := some (.bool true), after := args } = some (.bool (true == true)) from w_eq_bool (w_res rfl) w_lit) rfl
section
variable {prog : Program} {w : World} {A : Around} {E : Value → Shared → Prop} {s : Shared} {K : Frag}
end
end Att
namespace L2
open PySem PySem.Spec PyProof.Rows
theorem vals_ints : ∀ {vs : List Value} {ns : List Int}, IntsAre vs ns → Vals (ns.map V.int) vs
  | _, _, .nil => .nil
  | _, _, .cons n t h => .cons ⟨t, rfl⟩ (vals_ints h)
def Only (H : Hp) : Prop := ∀ b, H b = none ∨ ∃ o xs, H b = some (.frz o (.lst xs))
theorem law_call {P : Program} {w : World} {K : PySem.W.Frag} {mg mb : Str → Option Value} {CX : CXT} {k : Nat} {fa a : Addr} {fd : FuncData} {x : Str} {sp : Sp} {s₁ : Shared} {vs : List Value} {ns : List Int}
    (KX : K.In s₁.heap) (hns : s₁.heap.Ns mainGlobals mg) (hb : s₁.heap.Ns builtinsNs mb) (hbb : ∀ x : Str, x ≠ "__name__" → mb x = bootBuiltins x) (hlim : s₁.heap.NoLimit) (hg : s₁.gens = #[])
    (ha : s₁.heap.get? a = some { cls := .type "list", data := .seq vs.toArray }) (hi : IntsAre vs ns) (hl : ns.length ≤ sizeLine) (hr : Room k callerA)
    (F : ∀ base : Heap, K.In base → base.Ns mainGlobals mg → FnOk P w K mg base CX k fa fd [x] sp) (hbind : ∀ (s : Shared) (u : Value), BindsTo s fd ⟨[u], []⟩ [(x, u)])
    (hsp : ∀ H : Hp, Only H → SqL K H a (ns.map V.int) → sp [.ref a] H (fun v _ => v = .bl true) fun _ _ _ => False)
    (hCX : ∀ H e s', CX [] H s₁ (fun _ _ _ => False) e s' → False) :
    codeAny (model P w) callerA (.call (.ref fa) ⟨[.ref a], []⟩) (fun r s' => r = .ok (.ret (.bool true)) ∧ OldK s₁.heap s'.heap ∧ s'.os = s₁.os ∧ AllBare s'.gens) s₁ := by
  have rv := vals_ints hi
  have lenV := hi.length
  have core : ∀ H : Hp, Only H → SqL K H a (ns.map V.int) → HOk P w H s₁.heap → (∀ b, H b ≠ none → b = a) → (H a ≠ none → K.lookup a = none) →
      codeAny (model P w) callerA (.call (.ref fa) ⟨[.ref a], []⟩) (fun r s' => r = .ok (.ret (.bool true)) ∧ OldK s₁.heap s'.heap ∧ s'.os = s₁.os ∧ AllBare s'.gens) s₁ := by
    intro H hO hS hok hA hK
    have base_of : ∀ {b : Addr} {o : Obj}, s₁.heap.get? b = some o → H b = none → (hidT s₁.heap H).get? b = some o := fun e n => hidT_get e n
    have noA : ∀ {b : Addr} {o : Obj} {es : Array DictEntry} {ep : Nat}, s₁.heap.get? b = some o → o.data = .dict es ep → H b = none := fun {b o es ep} e d => by
      cases q : H b with
      | none => rfl
      | some u =>
        have e' : b = a := hA b (by rw [q]; simp)
        subst e'
        rw [ha] at e; cases e
        have d' : Data.seq vs.toArray _ = Data.dict es ep := d
        cases d'
    have nsK : ∀ {b : Addr} {m : Str → Option Value}, s₁.heap.Ns b m → (hidT s₁.heap H).Ns b m := fun {b m} ⟨o, es, ep, e, d, r⟩ => ⟨o, es, ep, base_of e (noA e d), d, r⟩
    have hKb : K.In (hidT s₁.heap H) := fun b o e => base_of (KX b o e) (by
      cases q : H b with
      | none => rfl
      | some u =>
        have e' : b = a := hA b (by rw [q]; simp)
        subst e'
        rw [hK (by rw [q]; simp)] at e; cases e)
    have hM : Mod K mg (hidT s₁.heap H) := ⟨hKb, nsK hns, ⟨mb, nsK hb, hbb⟩, let ⟨mc, h1, h2⟩ := hlim; ⟨mc, nsK h1, h2⟩⟩
    have e0 : Env0 P w K mg (hidT s₁.heap H) callerA [] s₁ H := ⟨rfl, hM, fun b o e => of_hidT e, Nat.le_of_eq (hidT_size _ _), trivial, fun b hb => absurd (show b ∈ ([] : List Addr) from hb) (by simp), hok, .of_eq hg⟩
    refine codeAny_mono ((F _ hKb (nsK hns)).run callerA [] s₁ H ⟨[.ref a], []⟩ [.ref a] [.ref a] _ _ hr e0 (hbind s₁ (.ref a)) (.cons rfl .nil) (hsp H hO hS)) fun r s' h => ?_
    cases r with
    | error e => exact (hCX H e s' h).elim
    | ok fl =>
      cases fl with
      | next => exact False.elim h
      | brk => exact False.elim h
      | cont => exact False.elim h
      | ret u =>
        obtain ⟨v, H', os, bare, un, hok', r', q⟩ := h
        have q' : v = .bl true := q
        subst q'
        obtain rfl : u = Value.bool true := r'
        refine ⟨rfl, OldK.of_keep fun b o e => ?_, os, bare⟩
        cases q : H b with
        | none => exact un.keep b o e q (by intro z; exact absurd (show b ∈ ([] : List Addr) from z) (by simp)) (by simp)
        | some u =>
          rcases hO b with z | ⟨ob, xs, z⟩
          · rw [q] at z; cases z
          · have z2 := un.frzs b ob _ z
            obtain ⟨e1, _⟩ := hok b _ z
            obtain ⟨e2, _⟩ := hok' b _ z2
            rw [e] at e1; cases e1
            exact e2
  cases hk : K.lookup a with
  | some o =>
    have e := KX a o hk
    rw [ha] at e
    cases e
    refine core (fun _ => none) (fun _ => .inl rfl) (.inr ⟨_, vs.toArray, _, hk, rfl, rfl, rfl, by rw [List.size_toArray, lenV]; exact hl, by simpa using rv⟩) (fun b u z => by have z' : (none : Option HO) = some u := z; cases z') (fun b z => absurd rfl z) fun z => absurd rfl z
  | none =>
    refine core (fun b => if b = a then some (.frz { cls := .type "list", data := .seq vs.toArray } (.lst (ns.map V.int))) else none) (fun b => ?_) (.inl (.inr ⟨{ cls := .type "list", data := .seq vs.toArray }, if_pos rfl⟩)) (fun b u z => ?_) (fun b z => ?_) fun _ => hk
    · by_cases hb : b = a
      · exact .inr ⟨_, _, if_pos hb⟩
      · exact .inl (if_neg hb)
    · by_cases hb : b = a
      · have z' := (if_pos hb).symm.trans z
        cases z'
        subst hb
        exact ⟨ha, by rw [List.length_map]; exact hl, vs, _, rv, ha⟩
      · have z' := (if_neg hb).symm.trans z
        cases z'
    · by_cases hb : b = a
      · exact hb
      · exact absurd (if_neg hb) z
end L2
namespace L2
open PySem PySem.Spec PyProof.Rows
end L2
namespace L2
open PySem PySem.Spec PyProof.Rows
abbrev CX0 : CXT := fun _ _ _ _ _ _ => False
abbrev E0 : XK := fun _ _ _ => False
theorem pass0 {X : Cx} : Passes CX0 X E0 := fun _ _ _ _ _ _ _ h => h.elim
structure Fun (K : PySem.W.Frag) (x qual : Str) (st : Stmt) (f : Addr) (fd : FuncData) : Prop where
  ex : ∃ (oc : Value) (od : Option Addr) (kV doc pm : Value) (an : Option Addr) (cdv ct : Value) (osl : Array (Option Value)),
    fd = PySem.W.fnOf x qual (defArgs st) (defBody st) (defScope st) .none kV doc pm an cdv ct ∧ K.lookup f = some ⟨oc, od, .func fd, osl⟩ ∧ PySem.W.codeIn K cdv qual = true
  kp : PySem.W.keepIn K (.ref f) = true
section
variable {P : Program} {w : World} {K : PySem.W.Frag} {mg : Str → Option Value} {base : Heap}
theorem Fun.ok {x qual : Str} {st : Stmt} {f : Addr} {fd : FuncData} {N ps : List Str} {k : Nat} {sp : Sp} (F : Fun K x qual st f fd) (S : FnScope N ps (defScope st)) (len : ∀ vs H Q E, sp vs H Q E → vs.length = ps.length)
    (hbody : ∀ (cdv : Value) (A : Around) (outer : List Env) (s : Shared) (H : Hp) (vs : List V) (Q : VK) (E : XK), Room k (A.deeper (envOfC qual (defScope st) s.heap.objs.size f cdv)) → sp vs H Q E →
      ∃ t, PSs (cxOf CX0 P w K mg base N qual (defScope st) f cdv A outer s H E).nox (defBody st) t ∧ t { nx := fun _ H' => Q .non H', rt := Q } (start N vs) H) : FnOk P w K mg base CX0 (k + 1) f fd ps sp := by
  obtain ⟨oc, od, kV, doc, pm, an, cdv, ct, osl, rfl, lk, hcd⟩ := F.ex
  refine fn_of lk hcd S len fun A outer s H vs Q E hr hsp => ?_
  obtain ⟨t, h, q⟩ := hbody cdv A outer s H vs Q E hr hsp
  exact ⟨t, h.nox, q⟩
theorem Fun.binds {x qual : Str} {st : Stmt} {f : Addr} {fd : FuncData} {ps : List Str} (F : Fun K x qual st f fd)
    (h : ∀ (kV doc pm : Value) (an : Option Addr) (cdv ct : Value) (us : List Value), us.length = ps.length → bindArgs (PySem.W.fnOf x qual (defArgs st) (defBody st) (defScope st) .none kV doc pm an cdv ct) ⟨us, []⟩ = pure (ps.zip us)) : Binds K fd ps [] := by
  obtain ⟨oc, od, kV, doc, pm, an, cdv, ct, osl, rfl, lk, hcd⟩ := F.ex
  exact .all (h kV doc pm an cdv ct)
theorem fun_mk {x qual : Str} {st : Stmt} {f : Addr} {oc : Value} {od an : Option Addr} {osl : Array (Option Value)} {kV doc pm cdv ct : Value} (l : K.lookup f = some ⟨oc, od, .func (PySem.W.fnOf x qual (defArgs st) (defBody st) (defScope st) .none kV doc pm an cdv ct), osl⟩)
    (c : PySem.W.codeIn K cdv qual = true) (k : PySem.W.keepIn K (.ref f) = true) : Fun K x qual st f (PySem.W.fnOf x qual (defArgs st) (defBody st) (defScope st) .none kV doc pm an cdv ct) := ⟨⟨oc, od, kV, doc, pm, an, cdv, ct, osl, rfl, l, c⟩, k⟩
end
section
variable {X : Cx}
theorem pv (i : Nat) {x : Str} {pos : Pos} (hN : X.N[i]? = some x := by rfl) (hv : Vis X.env.scope x := by first | exact Or.inl rfl | exact Or.inr (Or.inl rfl) | exact Or.inr (Or.inr rfl)) (hd : (x == ("__debug__" : Str)) = false := by decide)
    (hcd : (x == ("__classdict__" : Str)) = false := by decide) : PE X (.Name x pos) (tVar i) := pe_var hN hv hd hcd
end
theorem iteF {A B : Prop} (h : B) : if false = true then A else B := by
  rw [if_neg Bool.false_ne_true]
  exact h
theorem iteT {A B : Prop} (h : A) : if true = true then A else B := by
  rw [if_pos rfl]
  exact h
theorem ite2 {c A B : Prop} [Decidable c] (h1 : c → A) (h2 : ¬ c → B) : if c then A else B := by
  by_cases h : c
  · rw [if_pos h]
    exact h1 h
  · rw [if_neg h]
    exact h2 h
theorem iteNS {c A B : Prop} [Decidable c] (hc : c) (h : B) : if (!decide c) = true then A else B := by
  rw [decide_eq_true hc]
  exact iteF h
def Same (H H' : Hp) : Prop := ∀ b o, H b = some o → H' b = some o
theorem Same.refl (H : Hp) : Same H H := fun _ _ h => h
theorem Same.trans {H H1 H2 : Hp} (a : Same H H1) (b : Same H1 H2) : Same H H2 := fun c o h => b c o (a c o h)
theorem Same.seq {K : PySem.W.Frag} {H H' : Hp} {a : Addr} {xs : List V} (e : Same H H') (h : SqL K H a xs) : SqL K H' a xs := by
  rcases h with (h | ⟨o, h⟩) | h
  · exact .inl (.inl (e _ _ h))
  · exact .inl (.inr ⟨o, e _ _ h⟩)
  · exact .inr h
end L2
namespace L2
open PySem PySem.Spec PyProof.Rows
section
variable {X : Cx}
end
section
variable {κ : Type} [DecidableEq κ]
end
end L2
namespace L2
open PySem PySem.Spec PyProof.Rows
def freeCells (cells : List (Str × Addr)) : List (Str × NameKind) → List (Str × Addr) → List (Str × Addr)
  | [], acc => acc
  | (n, k) :: r, acc => freeCells cells r (if k == .free then (match cells.lookup n with | some c => (n, c) :: acc | none => acc) else acc)
theorem closureFor_eq {scope : Scope} {env : Env} (h : ∀ y ∈ scope.names, y.2 = .free → ∃ c, env.cells.lookup y.1 = some c) : closureFor scope env = pure (freeCells env.cells scope.names []) := by
  simp only [closureFor]
  generalize ([] : List (Str × Addr)) = acc
  revert h
  generalize scope.names = l
  intro h
  induction l generalizing acc with
  | nil => simp [freeCells]
  | cons x r ih =>
    obtain ⟨n, k⟩ := x
    rw [List.forIn_cons]
    have hr : ∀ y ∈ r, y.2 = NameKind.free → ∃ c, env.cells.lookup y.1 = some c := fun y hy => h y (List.mem_cons_of_mem _ hy)
    by_cases hk : k = .free
    · subst hk
      obtain ⟨c, e⟩ := h (n, .free) List.mem_cons_self rfl
      have e' : List.lookup n env.cells = some c := e
      have e2 : cellOf env n = pure c := by unfold cellOf; rw [e']
      simp only [beq_self_eq_true, if_true, e2, pure_bind, freeCells, e']
      exact ih _ hr
    · have hb : (k == NameKind.free) = false := by simpa using hk
      simp only [hb, Bool.false_eq_true, if_false, pure_bind, freeCells]
      exact ih _ hr
theorem freeCells_mem (cells : List (Str × Addr)) : ∀ (l : List (Str × NameKind)) (acc : List (Str × Addr)) (p : Str × Addr), p ∈ freeCells cells l acc → p ∈ acc ∨ (p.1, NameKind.free) ∈ l ∧ cells.lookup p.1 = some p.2
  | [], _, _, h => .inl h
  | (n, k) :: r, acc, p, h => by
    have h' : p ∈ freeCells cells r (if k == .free then (match cells.lookup n with | some c => (n, c) :: acc | none => acc) else acc) := h
    rcases freeCells_mem cells r _ p h' with q | ⟨q1, q2⟩
    · by_cases hk : k = .free
      · subst hk
        simp only [beq_self_eq_true, if_true] at q
        cases e : cells.lookup n with
        | none => rw [e] at q; exact .inl q
        | some c =>
          rw [e] at q
          rcases List.mem_cons.mp q with rfl | q
          · exact .inr ⟨List.mem_cons_self, e⟩
          · exact .inl q
      · have hb : (k == NameKind.free) = false := by simpa using hk
        simp only [hb, Bool.false_eq_true, if_false] at q
        exact .inl q
    · exact .inr ⟨List.mem_cons_of_mem _ q1, q2⟩
theorem lookup_some_of_mem {α β : Type} [BEq α] [LawfulBEq α] {x : α} : ∀ {l : List (α × β)} {c : β}, (x, c) ∈ l → ∃ d, l.lookup x = some d
  | (a, b) :: r, c, h => by
    by_cases e : x = a
    · subst e; exact ⟨b, by simp⟩
    · rcases List.mem_cons.mp h with q | q
      · cases q; exact absurd rfl e
      · obtain ⟨d, hd⟩ := lookup_some_of_mem q
        refine ⟨d, ?_⟩
        have e' : (x == a) = false := by simpa using e
        simp only [List.lookup_cons, e']
        exact hd
theorem freeCells_has (cells : List (Str × Addr)) (x : Str) (c : Addr) (e : cells.lookup x = some c) : ∀ (l : List (Str × NameKind)) (acc : List (Str × Addr)), ((x, NameKind.free) ∈ l ∨ (x, c) ∈ acc) → (x, c) ∈ freeCells cells l acc
  | [], _, h => h.elim (fun q => nomatch q) id
  | (n, k) :: r, acc, h => by
    refine freeCells_has cells x c e r _ ?_
    rcases h with h | h
    · rcases List.mem_cons.mp h with q | q
      · cases q
        refine .inr ?_
        rw [e]
        exact List.mem_cons_self
      · exact .inl q
    · refine .inr ?_
      by_cases hk : (k == NameKind.free) = true
      · rw [if_pos hk]
        cases cells.lookup n with
        | none => exact h
        | some _ => exact List.mem_cons_of_mem _ h
      · rw [if_neg hk]; exact h
theorem freeCells_look {cells : List (Str × Addr)} {names : List (Str × NameKind)} {x : Str} {c : Addr} (h : (freeCells cells names []).lookup x = some c) : cells.lookup x = some c := by
  have hm := PySem.mem_of_lookup h
  rcases freeCells_mem cells names [] _ hm with q | ⟨_, q⟩
  · exact nomatch q
  · exact q
theorem freeCells_ex {cells : List (Str × Addr)} {names : List (Str × NameKind)} {x : Str} {c : Addr} (hm : (x, NameKind.free) ∈ names) (e : cells.lookup x = some c) : (freeCells cells names []).lookup x = some c := by
  obtain ⟨d, hd⟩ := lookup_some_of_mem (freeCells_has cells x c e names [] (.inl hm))
  have := freeCells_look hd
  rw [e] at this
  rw [hd, this]
theorem relabel_look {scope : Scope} {env : Env} {x : Str} {k : NameKind} (h : (relabel scope env).names.lookup x = some k) : ∃ k', scope.names.lookup x = some k' ∧ (k' = k ∨ (k' = .free ∧ k = .cell)) := by
  have go : ∀ (l : List (Str × NameKind)), (l.map fun (n, k) => if (k == NameKind.free && env.scope.kind == .function && env.kindOf n == some .cell) then (n, NameKind.cell) else (n, k)).lookup x = some k → ∃ k', l.lookup x = some k' ∧ (k' = k ∨ (k' = .free ∧ k = .cell)) := by
    intro l
    induction l with
    | nil => intro h; simp at h
    | cons p r ih =>
      obtain ⟨n, kk⟩ := p
      intro h
      simp only [List.map_cons] at h
      by_cases hx : x = n
      · subst hx
        by_cases hc : (kk == NameKind.free && env.scope.kind == .function && env.kindOf x == some .cell) = true
        · rw [if_pos hc] at h
          simp at h
          have : kk = .free := by
            simp only [Bool.and_eq_true, beq_iff_eq] at hc
            exact hc.1.1
          exact ⟨kk, by simp, .inr ⟨this, h.symm⟩⟩
        · rw [if_neg hc] at h
          simp at h
          exact ⟨kk, by simp, .inl h⟩
      · have e' : (x == n) = false := by simpa using hx
        have : ∀ b : Bool, (if b = true then (n, NameKind.cell) else (n, kk)).1 = n := fun b => by cases b <;> rfl
        rw [List.lookup_cons, this, e'] at h
        obtain ⟨k', h1, h2⟩ := ih h
        exact ⟨k', by rw [List.lookup_cons, e']; exact h1, h2⟩
  exact go scope.names h
theorem relabel_free {scope : Scope} {env : Env} {x : Str} (h : scope.names.lookup x = some .free) : (relabel scope env).names.lookup x = some .cell ∨ (relabel scope env).names.lookup x = some .free := by
  have go : ∀ (l : List (Str × NameKind)), l.lookup x = some .free → (l.map fun (n, k) => if (k == NameKind.free && env.scope.kind == .function && env.kindOf n == some .cell) then (n, NameKind.cell) else (n, k)).lookup x = some .cell ∨ (l.map fun (n, k) => if (k == NameKind.free && env.scope.kind == .function && env.kindOf n == some .cell) then (n, NameKind.cell) else (n, k)).lookup x = some .free := by
    intro l
    induction l with
    | nil => intro h; simp at h
    | cons p r ih =>
      obtain ⟨n, kk⟩ := p
      intro h
      simp only [List.map_cons]
      by_cases hx : x = n
      · subst hx
        simp at h
        by_cases hc : (kk == NameKind.free && env.scope.kind == .function && env.kindOf x == some .cell) = true
        · rw [if_pos hc]; simp
        · rw [if_neg hc]; simp [h]
      · have e' : (x == n) = false := by simpa using hx
        have t : ∀ b : Bool, (if b = true then (n, NameKind.cell) else (n, kk)).1 = n := fun b => by cases b <;> rfl
        rw [List.lookup_cons, e'] at h
        rw [List.lookup_cons, t, e']
        exact ih h
  exact go scope.names h
section
variable {prog : Program} {w : World} {A : Around} {R : Result → Shared → Prop} {s : Shared}
theorem compLoop_go {elt target iter : Expr} {ifs : List Expr} {scope : Scope} {pos : Pos} {it acc : Value} {env : Env} (I : Nat → Shared → Prop)
    (turn : ∀ n s, I n s → wpAny (model prog w) A (pyNext it) (fun r s₁ => match r with
      | none => R (.ok .next) s₁
      | some v => wpAny (model prog w) A (letOwnedTupleGo target it v) (fun _ s₁' => wpAny (model prog w) A (assign target env v) (fun _ s₂ =>
          wpAny (model prog w) A (forIn ifs true fun c r => if r = true then do let ok ← isTrue c env (eval c env); pure (ForInStep.yield ok) else pure (ForInStep.yield r)) (fun ok s₃ =>
            if ok = true then wpAny (model prog w) A (eval elt env) (fun x s₄ =>
              wpAny (model prog w) A (call (.builtin "list.append") [acc, x]) (fun _ s₅ => ∃ m, m < n ∧ I m s₅) (fun _ _ => False) s₄) (fun _ _ => False) s₃
            else ∃ m, m < n ∧ I m s₃) (fun _ _ => False) s₂) (fun _ _ => False) s₁') (fun _ _ => False) s₁) (fun _ _ => False) s)
    (n : Nat) (h : I n s) :
    codeAny (model prog w) A (.compLoop (.ListComp elt [⟨target, iter, ifs, 0⟩] scope pos) 0 it acc env) R s := by
  refine codeAny_loop rfl I (fun n s hI => ?_) n h
  show wpAny _ A ((compTurn (.ListComp elt [⟨target, iter, ifs, 0⟩] scope pos) 0 it acc env).onRaise (fun x => do noteFrame x env; theTreesLotGoes x)) _ _ s
  refine wpAny_noted ?_
  rw [compTurn_list]
  refine wpAny_bind (wpAny_standAt (wpAny_bind (wpAny_mono (turn n s hI) (fun r s₁ h₁ => ?_) fun _ _ h' => h'.elim)))
  cases r with
  | none => exact wpAny_pure h₁
  | some v =>
    refine wpAny_bind (wpAny_mono h₁ (fun _ s₁' h₁' => ?_) fun _ _ h' => h'.elim)
    refine wpAny_bind (wpAny_mono h₁' (fun _ s₂ h₂ => wpAny_bind (wpAny_mono h₂ (fun ok s₃ h₃ => ?_) fun _ _ h' => h'.elim)) fun _ _ h' => h'.elim)
    cases ok with
    | false => exact wpAny_pure ⟨rfl, h₃⟩
    | true =>
      exact wpAny_bind (wpAny_bind (wpAny_mono h₃ (fun x s₄ h₄ => wpAny_bind (wpAny_mono h₄ (fun _ s₅ h₅ => wpAny_pure (wpAny_pure ⟨rfl, h₅⟩)) fun _ _ h' => h'.elim)) fun _ _ h' => h'.elim))
end
structure CompSc (esc : Scope) (N : List Str) (scope : Scope) (k : Nat) (Nc : List Str) (js : List Nat) : Prop where
  kind : scope.kind = .function
  cell : ∀ y ∈ scope.names, y.2 ≠ .cell
  names : ∀ y ∈ scope.names, y.2 = .local → scope.names.lookup y.1 = some .local
  free : ∀ y ∈ scope.names, y.2 = .free → esc.names.lookup y.1 = some .cell ∨ esc.names.lookup y.1 = some .free
  len : Nc.length = k + js.length
  out : ∀ p ∈ (Nc.drop k).zip js, N[p.2]? = some p.1 ∧ scope.names.lookup p.1 = some .free
def compSt (k : Nat) (js : List Nat) (σ : St) : St := List.replicate k none ++ js.map fun j => (σ[j]?).join
def Cx.comp (X : Cx) (pins : List (Addr × Obj)) (Nc : List Str) (scope : Scope) (fp : List Addr) (s : Shared) (H : Hp) (C : Addr) : Cx :=
  { X with N := Nc, s₀ := s, H₀ := H, env := compEnvC scope (freeCells X.env.cells scope.names []) C X.env, outer := X.stack, stack := X.stack, ex := fp, fn := fun _ => false, pn := X.pn ++ pins, xe := fun _ _ => False }
section
variable {X : Cx} {pins : List (Addr × Obj)} {σ : St} {H : Hp} {s : Shared} {scope : Scope} {Nc : List Str} {js : List Nat} {k : Nat}
theorem CompSc.some (S : CompSc X.env.scope X.N scope k Nc js) (I : Inv X pins σ H s) : ∀ y ∈ scope.names, y.2 = .free → ∃ c, X.env.cells.lookup y.1 = some c := fun y hy hk => I.ok.has y.1 (S.free y hy hk)
theorem CompSc.clos (S : CompSc X.env.scope X.N scope k Nc js) (I : Inv X pins σ H s) : closureFor scope X.env = pure (freeCells X.env.cells scope.names []) := closureFor_eq (S.some I)
theorem comp_ok (S : CompSc X.env.scope X.N scope k Nc js) (I : Inv X pins σ H s) {fp : List Addr} (hf : ∀ b ∈ fp, FpOk X pins H b) (hlt : ∀ b ∈ fp, b < s.heap.objs.size) {C : Addr} (hC : s.heap.objs.size ≤ C) : (X.comp pins Nc scope fp s H C).Ok := by
  have ltC : ∀ b, b < s.heap.objs.size → b ≠ C := fun b hb => Nat.ne_of_lt (Nat.lt_of_lt_of_le hb hC)
  have notstk : ∀ b ∈ fp, b ∉ frs X.stack := fun b hb z => by
    rcases List.mem_cons.mp (I.stkSub b z) with e | e
    · exact (hf b hb).2.1 e
    · exact (hf b hb).2.2.1 e
  refine ⟨I.ok.mod, S.kind, I.ok.glob, I.ok.blt, hC, fun x y c h1 h2 => I.ok.inj x y c (freeCells_look h1) (freeCells_look h2), fun x hx => ?_, fun x c h => ?_, I.ok.hd, I.ok.frames, .inl rfl, fun b hb => ⟨?_, fun x c e => (hf b hb).2.2.2.2.1 x c (freeCells_look e)⟩,
    fun b o e => ⟨(I.bs b o e).1, (I.bs b o e).2⟩, Nat.le_trans I.ok.bsz I.sz, fun b o e hb => ?_, notstk, I.stack, I.stkFree⟩
  · have hx' : (relabel scope X.env).names.lookup x = some .cell ∨ (relabel scope X.env).names.lookup x = some .free := hx
    have hfree : (x, NameKind.free) ∈ scope.names := by
      rcases hx' with h | h
      · obtain ⟨k', h1, h2⟩ := relabel_look h
        rcases h2 with rfl | ⟨rfl, _⟩
        · exact absurd rfl (S.cell _ (PySem.mem_of_lookup h1))
        · exact PySem.mem_of_lookup h1
      · obtain ⟨k', h1, h2⟩ := relabel_look h
        rcases h2 with rfl | ⟨rfl, _⟩
        · exact PySem.mem_of_lookup h1
        · exact PySem.mem_of_lookup h1
    obtain ⟨c, hc⟩ := S.some I (x, .free) hfree rfl
    exact ⟨c, freeCells_ex hfree hc⟩
  · exact absurd (show false = true from h) Bool.false_ne_true
  · exact ltC b (hlt b hb)
  · rcases (hf b hb).2.2.2.1 with q | q
    · exact I.ok.noex b o e q
    · exact absurd (Nat.lt_of_lt_of_le (Heap.lt_size e) (Nat.le_trans I.ok.bsz q)) (Nat.lt_irrefl _)
theorem comp_inv (S : CompSc X.env.scope X.N scope k Nc js) (I : Inv X pins σ H s) {fp : List Addr} (hf : ∀ b ∈ fp, FpOk X pins H b) (hlt : ∀ b ∈ fp, b < s.heap.objs.size) {C : Addr} (hC : s.heap.objs.size ≤ C) {s1 : Shared}
    (os : s1.os = s.os) (bare : AllBare s1.gens) (kept : ∀ b o, s.heap.get? b = some o → s1.heap.get? b = some o) (ns : ∃ m, s1.heap.Ns C m) : Inv (X.comp pins Nc scope fp s H C) [] (compSt k js σ) H s1 := by
  have ltC : ∀ b, b < s.heap.objs.size → b ≠ C := fun b hb => Nat.ne_of_lt (Nat.lt_of_lt_of_le hb hC)
  refine ⟨comp_ok S I hf hlt hC, os, bare, Un.kept kept, ?_, fun x c e => ?_, I.hok.fresh hC, fun x c e => I.freeC x c (freeCells_look e), fun p hp => ?_, I.hok.kept kept, ?_⟩
  · obtain ⟨mc, hns⟩ := ns
    refine ⟨mc, hns, fun i x v e1 e2 e3 => ?_⟩
    have e1' : Nc[i]? = some x := e1
    by_cases hi : i < k
    · unfold compSt at e2
      rw [List.getElem?_append_left (by simpa using hi), List.getElem?_replicate, if_pos hi] at e2
      cases e2
    · obtain ⟨i', rfl⟩ : ∃ i', i = k + i' := ⟨i - k, by omega⟩
      unfold compSt at e2
      rw [List.getElem?_append_right (by simp), List.length_replicate, Nat.add_sub_cancel_left, List.getElem?_map] at e2
      cases ej : js[i']? with
      | none => rw [ej] at e2; cases e2
      | some j =>
        rw [ej] at e2
        have e2' : (σ[j]?).join = some v := Option.some.inj e2
        have e4 : σ[j]? = some (some v) := by
          cases q : σ[j]? with
          | none => rw [q] at e2'; cases e2'
          | some z => rw [q] at e2'; cases z with
            | none => cases e2'
            | some z => cases e2'; rfl
        have hm : (x, j) ∈ (Nc.drop k).zip js := List.mem_of_getElem? (i := i') (List.getElem?_zip_eq_some.mpr ⟨by rw [List.getElem?_drop]; exact e1', ej⟩)
        obtain ⟨hN, hfr⟩ := S.out _ hm
        have hfm : (x, NameKind.free) ∈ scope.names := PySem.mem_of_lookup hfr
        have hk := S.free _ hfm rfl
        obtain ⟨m, hn, hl⟩ := I.loc
        obtain ⟨u, r, l⟩ := hl j x v hN e4 (.inr hk)
        refine ⟨u, r, ?_⟩
        rcases l with ⟨hk', _⟩ | ⟨_, c, hc, o, ho, hd⟩
        · have hk'' : X.env.scope.names.lookup x = some .local := hk'
          rcases hk with hk | hk
          · rw [hk] at hk''; cases hk''
          · rw [hk] at hk''; cases hk''
        · exact .inr ⟨relabel_free hfr, c, freeCells_ex hfm hc, o, kept _ _ ho, hd⟩
  · obtain ⟨v, o, ho, hd⟩ := I.cell x c (freeCells_look e)
    exact ⟨v, o, kept _ _ ho, hd⟩
  · have hp' : p ∈ X.pn ++ pins := by
      rcases List.mem_append.mp hp with z | z
      · exact z
      · exact nomatch z
    obtain ⟨e, n, ne, nf, d⟩ := I.pin p hp'
    refine ⟨kept _ _ e, n, ltC _ (Heap.lt_size e), fun z => ?_, d⟩
    rcases List.mem_cons.mp (I.stkSub _ z) with q | q
    · exact ne q
    · exact nf q
  · show (compSt k js σ).length = Nc.length
    unfold compSt
    rw [List.length_append, List.length_replicate, List.length_map, S.len]
theorem comp_back (I : Inv X pins σ H s) {fp : List Addr} (hf : ∀ b ∈ fp, FpOk X pins H b) {C D : Addr} (hDs : s.heap.objs.size ≤ D) {pins' : List (Addr × Obj)} {σ' : St} {H' : Hp} {s' : Shared} {ys : List V} {its : List Value} {n : Nat}
    (J : Inv (X.comp pins Nc scope fp s H C) pins' σ' H' s') (hD : H' D = none) (hz : ys.length ≤ sizeLine) (hv : Vals ys its) (ho : s'.heap.get? D = some { cls := .type "list", data := .seq its.toArray n }) :
    Inv X pins σ (upd H' D (.lst ys)) s' := by
  have B : Un (frs X.stack) fp H H' s.heap s'.heap := J.base
  have neD : ∀ b o, s.heap.get? b = some o → b ≠ D := fun b o e => Nat.ne_of_lt (Nat.lt_of_lt_of_le (Heap.lt_size e) hDs)
  refine I.call' (ch := fp) J.os ⟨B.keep, B.slot, fun b o e n hx => ?_, B.there, fun b xs e => ?_, fun b o u e => ?_, fun b ps e => ?_⟩ (fun b o e => ?_) J.bare fun b hb => ⟨(hf b hb).2.2.2.1, (hf b hb).2.1, (hf b hb).2.2.2.2.1, (hf b hb).2.2.2.2.2⟩
  · rw [upd_ne (neD b o e)]; exact B.free b o e n hx
  · rw [upd_ne (ne_of_none (B.tups b xs e) hD)]; exact B.tups b xs e
  · rw [upd_ne (ne_of_none (B.frzs b o u e) hD)]; exact B.frzs b o u e
  · obtain ⟨more, q⟩ := B.tbls b ps e
    exact ⟨more, by rw [upd_ne (ne_of_none q hD)]; exact q⟩
  · by_cases hb : b = D
    · subst hb
      rw [upd_same] at e
      cases e
      exact ⟨hz, its, n, hv, ho⟩
    · rw [upd_ne hb] at e
      exact (J.hok b o e).stay (fun c v _ q => q) (fun c q => by rw [upd_ne (ne_of_none q hD)]; exact q) fun c xs q => by rw [upd_ne (ne_of_none q hD)]; exact q
end
def PTs (Y : Cx) (ifs : List Expr) (t : TT) : Prop :=
  ∀ (pins : List (Addr × Obj)) (s : Shared) (σ : St) (H : Hp) (Q : Bool → Hp → Prop), Inv Y pins σ H s → t σ H Q →
    wpAny (model Y.prog Y.w) Y.A (forIn ifs true fun c r => if r = true then do let ok ← isTrue c Y.env (eval c Y.env); pure (ForInStep.yield ok) else pure (ForInStep.yield r)) (TP Y pins σ Q) Y.xe s
def tYes : TT := fun _ H Q => Q true H
theorem pts_nil {Y : Cx} : PTs Y [] tYes := fun _ _ _ H _ I h => wpAny_tests_nil ⟨H, I, h⟩
theorem pts_one {Y : Cx} {c : Expr} {t : TT} (h : PT Y c t) : PTs Y [c] t := fun pins s σ H Q I hq => wpAny_tests_one (h pins s σ H Q I hq)
def CompTurns (J : It) (g : TG) (tt : TT) (te : TE) (Fin : List V → Hp → Prop) (W : Nat → Nat → List V → St → Hp → Prop) : Prop :=
  ∀ i m ys σ H, W i m ys σ H → (J.stop i H ∧ ys.length ≤ sizeLine ∧ Fin ys H) ∨ (J.go i H ∧ ys.length < sizeLine ∧ ∃ N : List V → St → Hp → Prop, (∀ ys' σ' H', N ys' σ' H' → ∃ m', m' < m ∧ W (i + 1) m' ys' σ' H') ∧
    ∀ x H', J.yld i H x H' → g x σ H' fun σ2 H2 => tt σ2 H2 fun b H3 => if b = true then te σ2 H3 fun y H4 => N (ys ++ [y]) σ2 H4 else N ys σ2 H3)
section
variable {X : Cx} {pins : List (Addr × Obj)} {σ : St} {H : Hp} {s : Shared} {scope : Scope} {Nc : List Str} {js : List Nat} {k : Nat} {tg iter elt : Expr} {ifs : List Expr} {pos : Pos} {g : TG} {tt : TT} {te : TE}
theorem comp_block {J : It} {fp : List Addr} {it : Addr} {tn : Nat → Heap → Prop} {Fin : List V → Hp → Prop} {W : Nat → Nat → List V → St → Hp → Prop} {RR : Value → Addr → Result → Shared → Prop} {E : Value → Shared → Prop} {m0 : Nat}
    (S : CompSc X.env.scope X.N scope k Nc js) (hc : X.calm = true) (I : Inv X pins σ H s) (T : Turn X.prog X.w X.K tg J fp it tn) (st : tn 0 s.heap) (hf : ∀ b ∈ fp, FpOk X pins H b)
    (hg : ∀ pins fp s H C, PG (X.comp pins Nc scope fp s H C) tg g) (ht : ∀ pins fp s H C, PTs (X.comp pins Nc scope fp s H C) ifs tt) (he : ∀ pins fp s H C, PE (X.comp pins Nc scope fp s H C) elt te)
    (w0 : W 0 m0 [] (compSt k js σ) H) (turn : CompTurns J g tt te Fin W)
    (hRR : ∀ D C s' ys H', Inv X pins σ (upd H' D (.lst ys)) s' → FpOk X pins (upd H' D (.lst ys)) C → (∃ m, s'.heap.Ns C m) → H' D = none → Fin ys H' → RR (.ref D) C (.ok .next) s') :
    wpAny (model X.prog X.w) X.A (newList []) (fun acc s₃ => wpAny (model X.prog X.w) X.A (newFunctionEnv scope X.env.globals (freeCells X.env.cells scope.names []) [] X.env.qual none .none (some X.env)) (fun cenv s₄ =>
      codeAny (model X.prog X.w) X.A (.compStart (.ListComp elt [⟨tg, iter, ifs, 0⟩] scope pos) 0 (.ref it) acc { cenv with scope := relabel scope X.env }) (RR acc cenv.locals) s₄) E s₃) E s := by
  refine wpAny_newObj_type (wpAny_newFunctionEnv S.cell (by intro y hy; simp at hy) (fun h₁ hns₁ hsb₁ => ?_) S.kind)
  dsimp only at hns₁ hsb₁ ⊢
  generalize hH2 : s.heap.push { cls := .type "list", dict := none, data := .seq ([] : List Value).toArray } = H2 at hns₁ hsb₁ ⊢
  have hC : H2.objs.size = s.heap.objs.size + 1 := by rw [← hH2, Heap.size_push]
  have hCle : s.heap.objs.size ≤ H2.objs.size := by rw [hC]; exact Nat.le_succ _
  have hDC : s.heap.objs.size ≠ H2.objs.size := by rw [hC]; exact Nat.ne_of_lt (Nat.lt_succ_self _)
  have old : ∀ b o, s.heap.get? b = some o → h₁.get? b = some o := fun b o e =>
    hsb₁.extBut b o (Nat.ne_of_lt (Nat.lt_of_lt_of_le (Heap.lt_size e) hCle)) (Heap.get?_push_of_some _ (hH2 ▸ Heap.get?_push_of_some _ e))
  have hacc : h₁.get? s.heap.objs.size = some { cls := .type "list", data := .seq ([] : List Value).toArray 0 } := hsb₁.extBut _ _ hDC (Heap.get?_push_of_some _ (hH2 ▸ Heap.get?_push_size _ rfl))
  have hob : ∀ b ∈ fp, ∃ o, s.heap.get? b = some o := fun b hb => let ⟨o, e, _⟩ := T.obj 0 _ st b hb; ⟨o, e⟩
  have hlt : ∀ b ∈ fp, b < s.heap.objs.size := fun b hb => let ⟨_, e⟩ := hob b hb; Heap.lt_size e
  have notstk : ∀ b ∈ fp, b ∉ frs X.stack := fun b hb z => by
    rcases List.mem_cons.mp (I.stkSub b z) with e | e
    · exact (hf b hb).2.1 e
    · exact (hf b hb).2.2.1 e
  have hDstk : s.heap.objs.size ∉ frs X.stack := fun z => by
    rcases List.mem_cons.mp (I.stkSub _ z) with e | e
    · have := I.lt
      rw [← e] at this
      exact Nat.lt_irrefl _ this
    · exact I.nofs (Nat.le_refl _) e
  let dpin : List Value → Nat → List (Addr × Obj) := fun its n => [(s.heap.objs.size, { cls := .type "list", data := .seq its.toArray n })]
  have fpok : ∀ {H' : Hp} {its : List Value} {n : Nat}, (∀ b ∈ fp, H' b = none) → ∀ b ∈ fp, FpOk (X.comp pins Nc scope fp s H H2.objs.size) (dpin its n) H' b := fun {H' its n} hn b hb =>
    ⟨hn b hb, Nat.ne_of_lt (Nat.lt_of_lt_of_le (hlt b hb) hCle), notstk b hb, .inl hb, fun x c e => (hf b hb).2.2.2.2.1 x c (freeCells_look e), fun p hp z => by
      rcases List.mem_append.mp hp with q | q
      · exact (hf b hb).2.2.2.2.2 p q z
      · have e : p = (s.heap.objs.size, _) := List.mem_singleton.mp q
        rw [e] at z
        exact absurd (hlt b hb) (by rw [← z]; exact Nat.lt_irrefl _)⟩
  have loop : ∀ s₃ : Shared, s₃ = { s with heap := h₁, toks := s.toks + ([] : List (Str × Value)).length } →
      codeAny (model X.prog X.w) X.A (.compLoop (.ListComp elt [⟨tg, iter, ifs, 0⟩] scope pos) 0 (.ref it) (.ref s.heap.objs.size) (compEnvC scope (freeCells X.env.cells scope.names []) H2.objs.size X.env)) (RR (.ref s.heap.objs.size) H2.objs.size) s₃ := by
    rintro s₃ rfl
    refine compLoop_go (fun n s' => ∃ i ys its nn σc H', Inv (X.comp pins Nc scope fp s H H2.objs.size) [] σc H' s' ∧ tn i s'.heap ∧ (∀ b ∈ fp, H' b = none) ∧ H' s.heap.objs.size = none ∧ Vals ys its ∧
      s'.heap.get? s.heap.objs.size = some { cls := .type "list", data := .seq its.toArray nn } ∧ W i n ys σc H') ?_ m0 ?_
    · rintro n s3 ⟨i, ys, its, nn, σ3, H3, I3, st3, fr3, hD3, hv3, ho3, w3⟩
      have I3' : Inv (X.comp pins Nc scope fp s H H2.objs.size) (dpin its nn) σ3 H3 s3 := I3.pins_of fun p hp => by
        have e : p = (s.heap.objs.size, _) := List.mem_singleton.mp hp
        subst e
        exact ⟨ho3, hD3, hDC, hDstk, fun v z => by cases z⟩
      rcases turn i n ys σ3 H3 w3 with ⟨stop, hz, fin⟩ | ⟨go, hz, N, hN, step⟩
      · refine thn (T.done (X.comp pins Nc scope fp s H H2.objs.size) rfl rfl rfl hc i (dpin its nn) s3 σ3 H3 (fun _ _ => False) I3' (fpok fr3) st3 stop) fun r s4 ⟨hr, I4⟩ => ?_
        subst hr
        have ho4 := (I4.pin _ (List.mem_append_right _ (List.mem_singleton.mpr rfl))).1
        obtain ⟨m4, hn4, _⟩ := I4.loc
        refine hRR _ _ s4 ys H3 (comp_back I hf (Nat.le_refl _) I4 hD3 hz hv3 ho4) (I.fpOk hCle ?_) ⟨m4, hn4⟩ hD3 fin
        rw [upd_ne (Ne.symm hDC)]
        exact I4.free
      · refine thn (T.item (X.comp pins Nc scope fp s H H2.objs.size) rfl rfl rfl hc i (dpin its nn) s3 σ3 H3 (fun _ _ => False) I3' (fpok fr3) st3 go) fun r s4 ⟨u, hr, h4⟩ => ?_
        subst hr
        refine thn h4 fun _ s5 ⟨x, H5, I5, r5, y5, st5, fr5⟩ => ?_
        have I5' := I5.pinned (fpok fr5) (T.obj _ _ st5)
        refine thn (hg pins fp s H H2.objs.size _ s5 σ3 H5 x u _ I5' r5 (step x H5 y5)) fun _ s6 ⟨σ6, H6, I6, q6⟩ => ?_
        refine thn (ht pins fp s H H2.objs.size _ s6 σ6 H6 _ I6 q6) fun ok s7 ⟨H7, I7, q7⟩ => ?_
        have keepIt : ∀ {σ' : St} {H' : Hp} {s' : Shared}, Inv (X.comp pins Nc scope fp s H H2.objs.size) (dpin its nn ++ pinsAt fp s5.heap) σ' H' s' →
            s'.heap.get? s.heap.objs.size = some { cls := .type "list", data := .seq its.toArray nn } ∧ H' s.heap.objs.size = none ∧ (∀ b ∈ fp, H' b = none) ∧ (∀ b ∈ fp, ∀ o, s5.heap.get? b = some o → s'.heap.get? b = some o) := fun {σ' H' s'} J => by
          have p1 := J.pin (s.heap.objs.size, _) (List.mem_append_right _ (List.mem_append_left _ (List.mem_singleton.mpr rfl)))
          refine ⟨p1.1, p1.2.1, fun b hb => ?_, fun b hb o e => (J.pin (b, o) (List.mem_append_right _ (List.mem_append_right _ (mem_pinsAt hb e)))).1⟩
          obtain ⟨o, e, _⟩ := T.obj _ _ st5 b hb
          exact (J.pin (b, o) (List.mem_append_right _ (List.mem_append_right _ (mem_pinsAt hb e)))).2.1
        cases ok with
        | true =>
          rw [if_pos rfl] at q7 ⊢
          refine thn (he pins fp s H H2.objs.size _ s7 σ6 H7 _ I7 q7) fun y s8 ⟨v, H8, I8, r8, q8⟩ => ?_
          obtain ⟨ho8, hD8, fr8, k8⟩ := keepIt I8
          refine append_at (hsz := by have := hv3.length; show its.toArray.size ≤ sizeLine; rw [List.size_toArray, ← this]; exact Nat.le_of_lt hz) ho8 fun h9 hs9 ho9 => ?_
          obtain ⟨m', hm', w9⟩ := hN _ _ _ q8
          have I8u : Inv (X.comp pins Nc scope fp s H H2.objs.size) [] σ6 H8 s8 := I8.pins_of fun p hp => nomatch hp
          have I9 : Inv (X.comp pins Nc scope fp s H H2.objs.size) [] σ6 H8 { s8 with heap := h9 } := I8u.turned (t' := s8.toks) (it := s.heap.objs.size) (fun b o hb e => (hs9.2 b hb).trans e) hD8 hDC (.inr (Nat.le_refl _)) (fun x c e z => by
            obtain ⟨v, q⟩ := I.cell x c (freeCells_look e)
            exact absurd q.lt (by rw [z]; exact Nat.lt_irrefl _)) fun p hp z => by
              have hp' : p ∈ X.pn ++ pins := by
                rcases List.mem_append.mp hp with q | q
                · exact q
                · exact nomatch q
              exact absurd (Heap.lt_size (I.pin p hp').1) (by rw [z]; exact Nat.lt_irrefl _)
          refine ⟨m', hm', i + 1, ys ++ [v], its ++ [y], nn + 1, σ6, H8, I9, T.keep _ _ _ st5 fun b hb o e => (hs9.2 b (Nat.ne_of_lt (hlt b hb))).trans (k8 b hb o e), fr8, hD8, hv3.append (.cons r8 .nil), ?_, w9⟩
          show h9.get? s.heap.objs.size = _
          rw [ho9]
          simp
        | false =>
          rw [if_neg Bool.false_ne_true] at q7 ⊢
          obtain ⟨ho8, hD8, fr8, k8⟩ := keepIt I7
          obtain ⟨m', hm', w9⟩ := hN _ _ _ q7
          exact ⟨m', hm', i + 1, ys, its, nn, σ6, H7, I7.pins_of fun p hp => (nomatch hp), T.keep _ _ _ st5 k8, fr8, hD8, hv3, ho8, w9⟩
    · exact ⟨0, [], [], 0, _, H, comp_inv S I hf hlt hCle rfl I.bare old ⟨_, hns₁⟩, T.keep _ _ _ st fun b _ o e => old b o e, fun b hb => (hf b hb).1, I.hok.fresh (Nat.le_refl _), .nil, hacc, w0⟩
  exact codeAny_compStart_list (loop _ rfl) (T.self X.A 0 _ _ _ (T.keep _ _ _ st fun b _ o e => old b o e) (loop _ rfl))
def tComp (wi : TI) (k : Nat) (js : List Nat) (g : TG) (tt : TT) (te : TE) : TE := fun σ H Q => wi σ H fun J H1 => ∃ W : Nat → Nat → List V → St → Hp → Prop, (∃ m, W 0 m [] (compSt k js σ) H1) ∧
  CompTurns J g tt te (fun ys H => ∀ D, H D = none → Q (.ref D) (upd H D (.lst ys))) W
theorem pe_comp {wi : TI} (S : CompSc X.env.scope X.N scope k Nc js) (hc : X.calm = true) (hi : PI X tg iter wi)
    (hg : ∀ pins fp s H C, PG (X.comp pins Nc scope fp s H C) tg g) (ht : ∀ pins fp s H C, PTs (X.comp pins Nc scope fp s H C) ifs tt) (he : ∀ pins fp s H C, PE (X.comp pins Nc scope fp s H C) elt te)
    (hs : ∀ x, foldedSetIterable iter X.env x = pure x := by intro _; rfl) : PE X (.ListComp elt [⟨tg, iter, ifs, 0⟩] scope pos) (tComp wi k js g tt te) := by
  intro pins s σ H Q I h
  rw [eval_ListComp]
  refine wpAny_comprehension_free (use := none) rfl hs (S.clos I) S.kind S.names (thn (hi pins s σ H _ I h) fun xv s1 h1 => thn h1 fun itv s2 h2 => ?_)
  obtain ⟨it, fp, tn, J, H2, e, I2, T, st2, f2, W, ⟨m0, w0⟩, turn⟩ := h2
  subst e
  refine comp_block (RR := fun acc C => compPost (model X.prog X.w) X.A X.xe none (EP X pins σ Q) acc C) S hc I2 T st2 f2 hg ht he w0 turn fun D C s' ys H' I' fC ns hD fin => ?_
  obtain ⟨m, hn⟩ := ns
  exact ⟨m, hn, fun h' hs' => ⟨.ref D, _, I'.turned (t' := s'.toks) (fun b o hb e => (hs'.2 b hb).trans e) fC.1 fC.2.1 fC.2.2.2.1 fC.2.2.2.2.1 fC.2.2.2.2.2, rfl, fin D hD⟩⟩
theorem ps_setcomp {wi : TI} {i : Nat} {x : Str} {px spos : Pos} (hN : X.N.Nodup) (hi' : X.N[i]? = some x) (hx : Loc X.env.scope x) (S : CompSc X.env.scope X.N scope k Nc js) (hc : X.calm = true) (hi : PI X tg iter wi)
    (hg : ∀ pins fp s H C, PG (X.comp pins Nc scope fp s H C) tg g) (ht : ∀ pins fp s H C, PTs (X.comp pins Nc scope fp s H C) ifs tt) (he : ∀ pins fp s H C, PE (X.comp pins Nc scope fp s H C) elt te)
    (hsw : swapsWith (.ListComp elt [⟨tg, iter, ifs, 0⟩] scope pos) (some (.Name x px)) spos.line X.env = pure true := by rfl)
    (hs : ∀ x, foldedSetIterable iter X.env x = pure x := by intro _; rfl) (hf : X.fn x = true ∨ X.env.scope.names.lookup x = some .local := by first | exact .inl rfl | exact .inr rfl | assumption) :
    PS X (.Assign [.Name x px] (.ListComp elt [⟨tg, iter, ifs, 0⟩] scope pos) spos) (tAsg (tComp wi k js g tt te) (gName i)) := by
  intro pins s σ H D I h
  rw [exec_Assign_Name_used _ _ _ _ hsw]
  refine wpAny_bind (wpAny_standAt (wpAny_bind ?_))
  show wpAny _ X.A (do let _ ← comprehension (.ListComp elt [⟨tg, iter, ifs, 0⟩] scope pos) scope X.env _ (newList []) false (eval iter X.env) (some (assign (.Name x px) X.env))) _ _ s
  refine wpAny_bind (wpAny_mono (wpAny_comprehension_free (use := some (assign (.Name x px) X.env)) (Q := fun _ s' => SP X pins D .next s') rfl hs (S.clos I) S.kind S.names
    (thn (hi pins s σ H _ I h) fun xv s1 h1 => thn h1 fun itv s2 h2 => ?_)) (fun _ s' hq => wpAny_pure (wpAny_pure hq)) fun _ _ e => e)
  obtain ⟨it, fp, tn, J, H2, e, I2, T, st2, f2, W, ⟨m0, w0⟩, turn⟩ := h2
  subst e
  refine comp_block (RR := fun acc C => compPost (model X.prog X.w) X.A X.xe (some (assign (.Name x px) X.env)) (fun _ s' => SP X pins D .next s') acc C) S hc I2 T st2 f2 hg ht he w0 turn fun A C s' ys H' I' fC ns hD fin => ?_
  obtain ⟨m, hn⟩ := ns
  show wpAny _ X.A (assign (.Name x px) X.env (.ref A)) _ _ _
  refine wpAny_assign_Name (store_ok2 I' hN hi' hx (v := .ref A) rfl (fun s'' I'' ⟨a, sb, ha⟩ => ?_) hf)
  have hCa : C ≠ a := by
    rcases ha with ha | ha
    · rw [ha]; exact fC.2.1
    · exact fun z => fC.2.2.2.2.1 x a ha z.symm
  exact ⟨m, hn.sameBut sb hCa, fun h' hs' => ⟨_, _, I''.turned (t' := s''.toks) (fun b o hb e => (hs'.2 b hb).trans e) fC.1 fC.2.1 fC.2.2.2.1 fC.2.2.2.2.1 fC.2.2.2.2.2, fin A hD⟩⟩
end
end L2
namespace L2
open PySem PySem.Spec PyProof.Rows
def Its (x : Str) : It := ⟨fun i _ => i < x.cps.size, fun i H v H' => H' = H ∧ ∃ c, x.cps[i]? = some c ∧ v = .str ⟨#[c]⟩, fun i _ => i = x.cps.size⟩
theorem turn_strA {P : Program} {w : World} {K : PySem.W.Frag} {tg : Expr} (it : Addr) (x : Str) (t : Tok) : Turn P w K tg (Its x) [it] it (fun i h => h.IsStrIter it "str_ascii_iterator" x t i) where
  mem := by simp
  obj := fun i h st b hb => by
    have e : b = it := by simpa using hb
    subst e
    obtain ⟨o, e, c, d⟩ := st
    exact ⟨o, e, fun v z => by rw [d] at z; cases z⟩
  keep := fun i h h' st k => let ⟨o, e, r⟩ := st; ⟨o, k it (by simp) o e, r⟩
  item := by
    intro X hP hw hK hc i pins s σ H E I hf st hg
    subst hP hw hK
    obtain ⟨f0, f1, f2, f3, f4, f5⟩ := hf it (by simp)
    refine (Walks.strAscii (prog := X.prog) (w := X.w) (I.ok.hd hc) it x t).item i s _ _ hg st fun v h' tk hv st' kk => ?_
    obtain ⟨c, u, hx, rfl⟩ := hv
    have I1 : Inv X pins σ H { s with heap := h', toks := tk } := I.turned (fun b o hb e => kk b o (by simpa using hb) e) f0 f1 f3 f4 f5
    obtain ⟨o, e, cl, d⟩ := id st'
    exact ⟨_, rfl, go_of (s := { s with heap := h', toks := tk }) e cl d (by decide) ⟨.str ⟨#[c]⟩, H, I1, ⟨u, rfl⟩, ⟨rfl, c, hx, rfl⟩, st', fun b hb => (hf b hb).1⟩⟩
  done := by
    intro X hP hw hK hc i pins s σ H E I hf st hg
    subst hP hw hK
    obtain ⟨f0, f1, f2, f3, f4, f5⟩ := hf it (by simp)
    have e : i = x.cps.size := hg
    subst e
    exact (Walks.strAscii (prog := X.prog) (w := X.w) (I.ok.hd hc) it x t).done s _ _ st fun h' tk kk => ⟨rfl, I.turned (fun b o hb e => kk b o (by simpa using hb) e) f0 f1 f3 f4 f5⟩
  self := fun _ _ _ _ _ st h => wpAny_pyIter_striter_ascii st h
theorem turn_strW {P : Program} {w : World} {K : PySem.W.Frag} {tg : Expr} (it : Addr) (x : Str) (t : Tok) : Turn P w K tg (Its x) [it] it (fun i h => h.IsStrIter it "str_iterator" x t i) where
  mem := by simp
  obj := fun i h st b hb => by
    have e : b = it := by simpa using hb
    subst e
    obtain ⟨o, e, c, d⟩ := st
    exact ⟨o, e, fun v z => by rw [d] at z; cases z⟩
  keep := fun i h h' st k => let ⟨o, e, r⟩ := st; ⟨o, k it (by simp) o e, r⟩
  item := by
    intro X hP hw hK hc i pins s σ H E I hf st hg
    subst hP hw hK
    obtain ⟨f0, f1, f2, f3, f4, f5⟩ := hf it (by simp)
    refine (Walks.strWide (prog := X.prog) (w := X.w) (I.ok.hd hc) it x t).item i s _ _ hg st fun v h' tk hv st' kk => ?_
    obtain ⟨c, u, hx, rfl⟩ := hv
    have I1 : Inv X pins σ H { s with heap := h', toks := tk } := I.turned (fun b o hb e => kk b o (by simpa using hb) e) f0 f1 f3 f4 f5
    obtain ⟨o, e, cl, d⟩ := id st'
    exact ⟨_, rfl, go_of (s := { s with heap := h', toks := tk }) e cl d (by decide) ⟨.str ⟨#[c]⟩, H, I1, ⟨u, rfl⟩, ⟨rfl, c, hx, rfl⟩, st', fun b hb => (hf b hb).1⟩⟩
  done := by
    intro X hP hw hK hc i pins s σ H E I hf st hg
    subst hP hw hK
    obtain ⟨f0, f1, f2, f3, f4, f5⟩ := hf it (by simp)
    have e : i = x.cps.size := hg
    subst e
    exact (Walks.strWide (prog := X.prog) (w := X.w) (I.ok.hd hc) it x t).done s _ _ st fun h' tk kk => ⟨rfl, I.turned (fun b o hb e => kk b o (by simpa using hb) e) f0 f1 f3 f4 f5⟩
  self := fun _ _ _ _ _ st h => wpAny_pyIter_striter_wide st h
def iStr (te : TE) : TI := fun σ H R => te σ H fun v H1 => ∃ x, v = .str x ∧ R (Its x) H1
section
variable {X : Cx} {tg : Expr}
theorem pi_str {e : Expr} {te : TE} (he : PE X e te) : PI X tg e (iStr te) := by
  intro pins s σ H R I h
  refine thn (he pins s σ H _ I h) fun v s1 ⟨x, H1, I1, r1, q1⟩ => ?_
  obtain ⟨z, rfl, q⟩ := q1
  obtain ⟨t, rfl⟩ := r1
  have fp : ∀ b ∈ [s1.heap.objs.size], FpOk X pins H1 b := fun b hb => by
    have e : b = s1.heap.objs.size := by simpa using hb
    subst e
    exact I1.fpOk (Nat.le_refl _) (I1.hok.fresh (Nat.le_refl _))
  cases ha : z.cps.all (· < 128) with
  | true => exact wpAny_pyIter_ascii ha ⟨s1.heap.objs.size, [s1.heap.objs.size], _, _, H1, rfl, I1.kept (t' := s1.toks) fun b o e => Heap.get?_push_of_some _ e, turn_strA _ z t, ⟨_, Heap.get?_push_size _ rfl, rfl, rfl⟩, fp, q⟩
  | false => exact wpAny_pyIter_wide ha ⟨s1.heap.objs.size, [s1.heap.objs.size], _, _, H1, rfl, I1.kept (t' := s1.toks) fun b o e => Heap.get?_push_of_some _ e, turn_strW _ z t, ⟨_, Heap.get?_push_size _ rfl, rfl, rfl⟩, fp, q⟩
def rSlS : V → Option Int → Option Int → Hp → VK → Prop := fun x lo hi H Q => ∃ z, x = .str z ∧ z.length ≤ sizeLine ∧ Q (.str (Txt.slice z lo hi)) H
theorem sl_str : SlR X rSlS := by
  intro pins s σ H x v vl vu lo hi sl Q I rx hs pl pu h
  obtain ⟨z, rfl, hz, q⟩ := h
  obtain ⟨t, rfl⟩ := rx
  refine ⟨"str", _, PySem.F.slot_str_getitem.lookup, typeIs_str _ _ _, ?_⟩
  have fin : ∀ t' k, EP X pins σ Q (.str (Txt.slice z lo hi) t') { s with toks := k } := fun t' k => ⟨.str _, H, I.tok k, ⟨t', rfl⟩, q⟩
  cases pl with
  | none =>
    cases pu with
    | none => exact wpAny_getItem_str_slice (l := none) (u := none) (st := none) hs rfl (post_val_or_str ⟨Nat.le_trans (Txt.slice_le z _ _) hz, fin⟩)
    | int j tj => exact wpAny_getItem_str_slice (l := none) (u := some (j, tj)) (st := none) hs rfl (post_val_or_str ⟨Nat.le_trans (Txt.slice_le z _ _) hz, fin⟩)
  | int i ti =>
    cases pu with
    | none => exact wpAny_getItem_str_slice (l := some (i, ti)) (u := none) (st := none) hs rfl (post_val_or_str ⟨Nat.le_trans (Txt.slice_le z _ _) hz, fin⟩)
    | int j tj => exact wpAny_getItem_str_slice (l := some (i, ti)) (u := some (j, tj)) (st := none) hs rfl (post_val_or_str ⟨Nat.le_trans (Txt.slice_le z _ _) hz, fin⟩)
theorem op_mul_str : OpR X (binaryOp .Mult) (fun x y H Q => ∃ z n, x = .str z ∧ y = .int n ∧ MulOk z n ∧ Q (.str (Txt.mul z n)) H) := by
  intro pins s σ H x y v u Q I rx ry h
  obtain ⟨z, n, rfl, rfl, hm, q⟩ := h
  obtain ⟨t, rfl⟩ := rx
  obtain ⟨t', rfl⟩ := ry
  exact PySem.SB.mul hm fun t' k => ⟨.str _, H, I.tok k, ⟨t', rfl⟩, q⟩
theorem op_mulB : OpR X (binaryOp .Mult) (rI IntMulOk fun i j => .int (i * j)) := opI fun _ _ _ _ _ _ _ hc q => mul_int q hc
theorem call_all (hc : X.calm = true) : CallR X (.builtin "all") (fun xs H Q => ∃ (p : Addr) (bs : List Bool), xs = [.ref p] ∧ SqL X.K H p (bs.map V.bl) ∧ Q (.bl (bs.all id)) H) := by
  intro pins s σ H xs us Q I r h
  obtain ⟨p, bs, rfl, hq, q⟩ := h
  obtain ⟨u, rfl, rx⟩ := vals1 r
  cases rx
  obtain ⟨its, rv, pl, hz⟩ := I.list hq
  have hl := pl.isList
  have hlt : p < s.heap.objs.size := by obtain ⟨_, e, _⟩ := hl; exact Heap.lt_size e
  have hlen : bs.length = its.length := by have := rv.length; rwa [List.length_map] at this
  refine call_all_walk (wpAny_pyIter_list hl ?_)
  refine ⟨s.heap.objs.size, [s.heap.objs.size, p], [s.heap.objs.size], its.toArray.size, _, _, fun i => (bs[i]?).getD true, rfl, Walks.list (A := X.A.in1) (I.ok.hd hc) _ p (Nat.ne_of_lt hlt) its.toArray,
    ⟨⟨_, Heap.get?_push_size _ rfl, rfl, rfl⟩, hl.push _⟩, fun i v s' Q' E' hP hQ => ?_, fun h' tk hk => ?_⟩
  · have hP' : its[i]? = some v := by simpa using hP
    have hi : i < bs.length := by rw [hlen]; exact (List.getElem?_eq_some_iff.mp hP').1
    obtain ⟨u', hu, ru⟩ := rv.get (i := i) (x := .bl bs[i]) (by rw [List.getElem?_map, List.getElem?_eq_getElem hi]; rfl)
    rw [hP'] at hu
    cases hu
    have e : v = .bool bs[i] := ru
    subst e
    simp only [List.getElem?_eq_getElem hi, Option.getD_some] at hQ
    exact wpAny_truthy_bool hQ
  · have e : ((List.range its.toArray.size).all fun i => (bs[i]?).getD true) = bs.all id := by
      rw [List.size_toArray, ← hlen]; exact PyProof.Rows.LSm.range_all bs
    rw [e]
    exact ⟨.bl _, H, I.kept (h' := h') (t' := tk) (fun b o e => hk b o (fun hm => by rw [List.mem_singleton.mp hm] at e; exact Nat.lt_irrefl _ (Heap.lt_size e)) (Heap.get?_push_of_some _ e)), rfl, q⟩
theorem call_isT : CallR X (.builtin "isinstance") (fun xs H Q => ∃ x t T b, xs = [x, .ty T] ∧ TyOf X.K H x t ∧ PySem.W.kitOne X.K t (.type T) = some b ∧ Q (.bl b) H) := by
  intro pins s σ H xs us Q I r h
  obtain ⟨x, t, T, b, rfl, ty, e, q⟩ := h
  obtain ⟨u, c, rfl, ru, rc⟩ := vals2 r
  have ec : c = .type T := rc
  subst ec
  exact isinst_ok I ru ty e fun tk => ⟨.bl b, H, I.tok tk, rfl, q⟩
def rCatS (K : PySem.W.Frag) : R2 := fun x y H Q => ∃ l b xs zs, x = .ref l ∧ y = .ref b ∧ SqL K H l xs ∧ SqL K H b zs ∧ xs.length + zs.length ≤ sizeLine ∧ ∀ p, H p = none → Q (.ref p) (upd H p (.lst (xs ++ zs)))
theorem op_catS : OpR X (binaryOp .Add) (rCatS X.K) := by
  intro pins s σ H x y v u Q I rx ry h
  obtain ⟨l, b, xs, zs, rfl, rfl, hH, hB, hz, q⟩ := h
  cases rx
  cases ry
  obtain ⟨its, r, pl, z1⟩ := I.list hH
  obtain ⟨its2, r2, pl2, z2⟩ := I.list hB
  have hl1 := r.length
  have hl2 := r2.length
  obtain ⟨⟨cls, dd, data, sl⟩, n, ho, hc, _, hd⟩ := pl
  obtain ⟨⟨cls2, dd2, data2, sl2⟩, n2, ho2, hc2, _, hd2⟩ := pl2
  simp only at hc hd hc2 hd2
  subst hc hd hc2 hd2
  refine concat_meets ⟨_, ho, rfl⟩ ⟨_, ho2, rfl⟩ noFill_list_add seq_list_add PySem.F.slot_list_add PySem.F.entry_list_add (PySem.F.args_list_add_2 _ _) (list_addW l b its.toArray its2.toArray n n2 dd dd2 sl sl2 (by rw [List.size_toArray, List.size_toArray]; omega)) ⟨ho, ho2, ?_⟩
  have ea : its.toArray ++ its2.toArray = (its ++ its2).toArray := by simp
  rw [ea]
  exact ⟨.ref _, _, I.lnew (t' := s.toks) (r.append r2) (by rw [List.length_append]; omega), rfl, q _ I.fresh⟩
end
theorem for_str {x : Str} {g : TG} {tb : TS} {D : Ends} {σ : St} {H : Hp} (Pv : Nat → St → Hp → Prop) (h0 : Pv 0 σ H)
    (hs : ∀ i c σ H, x.cps[i]? = some c → Pv i σ H → g (.str ⟨#[c]⟩) σ H fun σ2 H2 => tb { D with nx := Pv (i + 1), ct := Pv (i + 1), bk := D.nx } σ2 H2) (hd : ∀ σ H, Pv x.cps.size σ H → D.nx σ H) :
    ∃ W : Nat → Nat → St → Hp → Prop, (∃ m, W 0 m σ H) ∧ ∀ i m σ H, W i m σ H →
      ((Its x).stop i H ∧ D.nx σ H) ∨ ((Its x).go i H ∧ ∃ N : St → Hp → Prop, (∀ σ' H', N σ' H' → ∃ m', m' < m ∧ W (i + 1) m' σ' H') ∧ ∀ v H', (Its x).yld i H v H' → g v σ H' fun σ2 H2 => tb { D with nx := N, ct := N, bk := D.nx } σ2 H2) := by
  refine ⟨fun i m σ H => m = x.cps.size - i ∧ i ≤ x.cps.size ∧ Pv i σ H, ⟨x.cps.size, by simp, Nat.zero_le _, h0⟩, ?_⟩
  rintro i m σ H ⟨rfl, hi, p⟩
  by_cases hlt : i < x.cps.size
  · refine .inr ⟨hlt, Pv (i + 1), fun σ' H' p' => ⟨x.cps.size - (i + 1), by omega, rfl, hlt, p'⟩, fun v H' y => ?_⟩
    obtain ⟨e, c, hc, rfl⟩ := y
    subst e
    exact hs i c σ _ hc p
  · have e : i = x.cps.size := by omega
    subst e
    exact .inl ⟨rfl, hd σ H p⟩
theorem comp_str {x : Str} {g : TG} {tt : TT} {te : TE} {Fin : List V → Hp → Prop} {σ : St} {H : Hp} (Pv : Nat → List V → St → Hp → Prop) (h0 : Pv 0 [] σ H) (hz : ∀ i ys σ H, i ≤ x.cps.size → Pv i ys σ H → ys.length ≤ i) (hx : x.cps.size ≤ sizeLine)
    (hs : ∀ i c ys σ H, x.cps[i]? = some c → Pv i ys σ H → g (.str ⟨#[c]⟩) σ H fun σ2 H2 => tt σ2 H2 fun b H3 => if b = true then te σ2 H3 fun y H4 => Pv (i + 1) (ys ++ [y]) σ2 H4 else Pv (i + 1) ys σ2 H3)
    (hd : ∀ ys σ H, Pv x.cps.size ys σ H → Fin ys H) : ∃ W : Nat → Nat → List V → St → Hp → Prop, (∃ m, W 0 m [] σ H) ∧ CompTurns (Its x) g tt te Fin W := by
  refine ⟨fun i m ys σ H => m = x.cps.size - i ∧ i ≤ x.cps.size ∧ Pv i ys σ H, ⟨x.cps.size, by simp, Nat.zero_le _, h0⟩, ?_⟩
  rintro i m ys σ H ⟨rfl, hi, p⟩
  have hl := hz i ys σ H hi p
  by_cases hlt : i < x.cps.size
  · refine .inr ⟨hlt, by omega, Pv (i + 1), fun ys' σ' H' p' => ⟨x.cps.size - (i + 1), by omega, rfl, hlt, p'⟩, fun v H' y => ?_⟩
    obtain ⟨e, c, hc, rfl⟩ := y
    subst e
    exact hs i c ys σ _ hc p
  · have e : i = x.cps.size := by omega
    subst e
    exact .inl ⟨rfl, by omega, hd ys σ H p⟩
end L2
namespace L2
open PySem PySem.Spec PyProof.Rows
section
variable {X : Cx}
theorem call_int_str : CallR X (.type "int") (fun xs H Q => ∃ (z : Str) (n : Int), xs = [.str z] ∧ PySem.intText? z = some n ∧ z.length ≤ 640 ∧ Q (.int n) H) := by
  intro pins s σ H xs us Q I r h
  obtain ⟨z, n, rfl, hn, hl, q⟩ := h
  obtain ⟨u, rfl, t, rfl⟩ := vals1 r
  exact PySem.W.KIN.call_text hn hl ⟨.int n, H, I.tok _, ⟨_, rfl⟩, q⟩
theorem mt_find : MtR X "str.find" (fun x xs H Q => ∃ z y : Str, x = .str z ∧ xs = [.str y] ∧ Q (.int (Txt.find z y)) H) := by
  intro pins s σ H x xs v us Q I rx r h
  obtain ⟨z, y, rfl, rfl, q⟩ := h
  obtain ⟨t, rfl⟩ := rx
  obtain ⟨u, rfl, t', rfl⟩ := vals1 r
  exact PySem.SC.find ⟨.int _, H, I.tok _, ⟨_, rfl⟩, q⟩
end
end L2
namespace L2
open PySem PySem.Spec PyProof.Rows
theorem yes_eq {te : TE} {N N' : V → St → Hp → Prop} {M : St → Hp → Prop} : (fun (σ2 : St) (H2 : Hp) => tYes σ2 H2 fun b H3 => if b = true then te σ2 H3 fun y H4 => N y σ2 H4 else M σ2 H3) = fun σ2 H2 => te σ2 H2 fun y H4 => N y σ2 H4 := by
  funext σ2 H2
  unfold tYes
  dsimp only
  rw [if_pos rfl]
theorem comp_str0 {x : Str} {g : TG} {te : TE} {Fin : List V → Hp → Prop} {σ : St} {H : Hp} (Pv : Nat → List V → St → Hp → Prop) (h0 : Pv 0 [] σ H) (hz : ∀ i ys σ H, i ≤ x.cps.size → Pv i ys σ H → ys.length ≤ i) (hx : x.cps.size ≤ sizeLine)
    (hs : ∀ i c ys σ H, x.cps[i]? = some c → Pv i ys σ H → g (.str ⟨#[c]⟩) σ H fun σ2 H2 => te σ2 H2 fun y H4 => Pv (i + 1) (ys ++ [y]) σ2 H4)
    (hd : ∀ ys σ H, Pv x.cps.size ys σ H → Fin ys H) : ∃ W : Nat → Nat → List V → St → Hp → Prop, (∃ m, W 0 m [] σ H) ∧ CompTurns (Its x) g tYes te Fin W :=
  comp_str Pv h0 hz hx (fun i c ys σ H hc p => by
    rw [yes_eq (N' := fun _ _ _ => True)]
    exact hs i c ys σ H hc p) hd
end L2
namespace L2
open PySem PySem.Spec PyProof.Rows
def constV (e : Expr) : Option V := match e with
  | .Constant (.str x) _ _ => some (.str x)
  | .Constant (.int i) _ _ => some (.int i)
  | .Constant (.bool b) _ _ => some (.bl b)
  | .Constant .none _ _ => some .non
  | _ => none
def constVs : List Expr → Option (List V)
  | [] => some []
  | e :: es => match constV e, constVs es with
    | some v, some vs => some (v :: vs)
    | _, _ => none
def tVals (vs : List V) : TA := fun _ H Q => Q vs H
theorem pe_const {X : Cx} {e : Expr} {v : V} (h : constV e = some v) : PE X e (tC v) ∧ ∀ es, starEach (e :: es) X.env = (false, eval e X.env) :: starEach es X.env := by
  unfold constV at h
  split at h
  · cases h; exact ⟨pe_str, fun _ => rfl⟩
  · cases h; exact ⟨pe_int, fun _ => rfl⟩
  · cases h; exact ⟨pe_bl, fun _ => rfl⟩
  · cases h; exact ⟨pe_non, fun _ => rfl⟩
  · cases h
theorem pa_const {X : Cx} : ∀ {es : List Expr} {vs : List V}, constVs es = some vs → PA X es (tVals vs)
  | [], vs, h => by cases h; exact pa_nil
  | e :: es, vs, h => by
    unfold constVs at h
    split at h
    · rename_i v ws h1 h2
      cases h
      obtain ⟨p, s⟩ := pe_const (X := X) h1
      exact pa_cons p (pa_const h2) (s es)
    · cases h
end L2
namespace L2
open PySem PySem.Spec PyProof.Rows
section
variable {X : Cx}
theorem oi_add : OpR X (binaryOp .Add) (fun x y H Q => ∃ i j, x = .int i ∧ y = .int j ∧ Q (.int (i + j)) H) := op_add
theorem oi_sub : OpR X (binaryOp .Sub) (fun x y H Q => ∃ i j, x = .int i ∧ y = .int j ∧ Q (.int (i - j)) H) := op_sub
theorem oi_mul : OpR X (binaryOp .Mult) (fun x y H Q => ∃ i j, x = .int i ∧ y = .int j ∧ IntMulOk i j ∧ Q (.int (i * j)) H) := op_mulB
theorem oi_fdiv : OpR X (binaryOp .FloorDiv) (fun x y H Q => ∃ i j, x = .int i ∧ y = .int j ∧ (0 < j ∧ j < 1073741824) ∧ Q (.int (i / j)) H) := op_fdiv
theorem oi_mod : OpR X (binaryOp .Mod) (fun x y H Q => ∃ i j, x = .int i ∧ y = .int j ∧ 0 < j ∧ Q (.int (i % j)) H) := op_mod
theorem oi_pow : OpR X (binaryOp .Pow) (fun x y H Q => ∃ i j, x = .int i ∧ y = .int j ∧ (0 ≤ j ∧ j ≤ 1000000 ∧ i.natAbs < 2 ^ 64) ∧ Q (.int (i ^ j.toNat)) H) := op_pow
theorem oi_lt : OpR X (compareOp .Lt) (fun x y H Q => ∃ i j, x = .int i ∧ y = .int j ∧ Q (.bl (decide (i < j))) H) := op_lt
theorem oi_le : OpR X (compareOp .LtE) (fun x y H Q => ∃ i j, x = .int i ∧ y = .int j ∧ Q (.bl (decide (i ≤ j))) H) := op_le
theorem oi_gt : OpR X (compareOp .Gt) (fun x y H Q => ∃ i j, x = .int i ∧ y = .int j ∧ Q (.bl (decide (j < i))) H) := op_gt
theorem oi_ge : OpR X (compareOp .GtE) (fun x y H Q => ∃ i j, x = .int i ∧ y = .int j ∧ Q (.bl (decide (j ≤ i))) H) := op_ge
end
end L2
namespace Att
open PySem PySem.W PySem.Calls PyProof.Rows
theorem script_bits {ns : List Int} (h : WData.layableAll [WData.list (ns.map WData.int)] = true) : ∀ n ∈ ns, Builtin.Int.intBits n ≤ 2 ^ 20 := fun n hn => by
  have h1 := layableW_arg h _ (List.mem_singleton.mpr rfl)
  have h2 := layableW_item h1 (WData.int n) (List.mem_map.mpr ⟨n, hn, rfl⟩)
  exact PyData.bits_of_layable (layable0_of_all (lay0_int h2))
theorem attach_callB {l : OpenLaw} {n : Nat} {q : Program} {loose : List Str} {XP : (Str → Option Value) → Heap → Prop} {YP : World → Heap → Prop} {d : DefRec}
    (hn : l.most = some n) (hdf : d.params.defaults = [])
    (call : ∀ (w : World) (s₀ s₁ : Shared) (mg mb : Str → Option Value) (fa : Addr) (o : Obj) (pm cd doc : Value) (a : Addr) (vs : List Value) (ns : List Int),
      Ground q loose [] XP w s₀ mg mb s₁.heap → YP w s₁.heap →
      s₁.heap.get? fa = some o → o.data = .func (docDef d.name d.params d.body d.scope pm cd doc) → s₁.heap.CodeRec cd d.name → mg d.name = some (.ref fa) →
      s₁.heap.get? a = some { cls := .type "list", data := .seq vs.toArray } → IntsAre vs ns → ns.length ≤ n → (∀ k ∈ ns, Builtin.Int.intBits k ≤ 2 ^ 20) → s₁.gens = #[] →
      codeAny (model l.prog w) callerA (.call (.ref fa) ⟨[.ref a], []⟩) (fun r s' => r = .ok (.ret (.bool true)) ∧ OldK s₁.heap s'.heap ∧ s'.os = s₁.os ∧ AllBare s'.gens) s₁) :
    WalkO q loose XP YP l.row.toRowW d [] (fun f vs => PySem.call f vs) := by
  intro w s₀ s₁ mg mb G Y fa o pm cd doc dV kV ho hd hcd hD hmg hg args vals as hpre hlay hrd hwl hlo
  obtain rfl : dV = .none := Dflts.none hD hdf
  obtain rfl : kV = .none := Dflts.noKw hD
  obtain ⟨a, vs, ns, rfl, rfl, hobj, hints, hlen⟩ := script_of hn hpre hwl
  refine enter_call (codeAny_mono (call w s₀ s₁ mg mb fa o pm cd doc a vs ns G Y ho (fd_plain hd) hcd hmg hobj hints hlen (script_bits hlay) hg) fun r s' hq => ?_)
  obtain ⟨rfl, h2, h3, h4⟩ := hq
  exact ⟨.inl ⟨.bool true, .bool true, [], rfl, fun _ => rfl, .bool true, post_true l _, fun _ => ⟨List.Pairwise.nil, fun _ hm => (nomatch hm)⟩⟩, h2, h3, h4⟩
end Att
namespace L2
open PySem PySem.Spec PyProof.Rows
theorem walk_ofB {l : PySem.W.OpenLaw} {n k : Nat} {q : Program} {loose : List Str} {XP : (Str → Option Value) → Heap → Prop} {YP : World → Heap → Prop} {d : DefRec} {K : Params → PySem.W.Frag} {CX : World → CXT} {sp : World → Sp} {x : Str}
    (hn : l.most = some n) (hn2 : n ≤ sizeLine) (hdf : d.params.defaults = []) (hr : Room k callerA)
    (hY : ∀ (w : World) (h : Heap), YP w h → (K w.params).In h)
    (F : ∀ (w : World) (mg : Str → Option Value) (fa : Addr) (h : Heap), (K w.params).In h → h.Ns mainGlobals mg → mg d.name = some (.ref fa) →
      ∃ fd : FuncData, (∀ (s : Shared) (u : Value), BindsTo s fd ⟨[u], []⟩ [(x, u)]) ∧
        ∀ base : Heap, (K w.params).In base → base.Ns mainGlobals mg → FnOk l.prog w (K w.params) mg base (CX w) k fa fd [x] (sp w))
    (hsp : ∀ (w : World) (H : Hp) (a : Addr) (ns : List Int), ns.length ≤ n → (∀ k ∈ ns, Builtin.Int.intBits k ≤ 2 ^ 20) → Only H → SqL (K w.params) H a (ns.map V.int) → sp w [.ref a] H (fun v _ => v = .bl true) fun _ _ _ => False)
    (hCX : ∀ (w : World) (H : Hp) (s : Shared) (e : Value) (s' : Shared), CX w [] H s (fun _ _ _ => False) e s' → False) :
    PySem.W.WalkO q loose XP YP l.row.toRowW d [] (fun f vs => PySem.call f vs) := by
  refine Att.attach_callB hn hdf fun w s₀ s₁ mg mb fa o pm cd doc a vs ns G Y ho hd hcd hmg hobj hints hlen hbits hg => ?_
  have KX := hY w _ Y
  obtain ⟨fd, hb, hF⟩ := F w mg fa _ KX G.T.g hmg
  exact law_call KX G.T.g G.T.b G.T.builtins G.T.nolimit hg hobj hints (Nat.le_trans hlen hn2) hr hF hb (fun H hO hS => hsp w H a ns hlen hbits hO hS) fun H e s' => hCX w H s₁ e s'
theorem Same.new {H : Hp} {p : Addr} (h : H p = none) (o : HO) : Same H (upd H p o) := fun b u q => by rw [upd_ne (ne_of_none q h)]; exact q
theorem Same.tup {K : PySem.W.Frag} {H H' : Hp} {a : Addr} {xs : List V} (e : Same H H') (h : SqT K H a xs) : SqT K H' a xs := by
  rcases h with (h | ⟨o, h⟩) | h
  · exact .inl (.inl (e _ _ h))
  · exact .inl (.inr ⟨o, e _ _ h⟩)
  · exact .inr h
theorem iteB {b : Bool} {A B : Prop} (h1 : b = true → A) (h2 : b = false → B) : if b = true then A else B := by
  cases b with
  | true => exact iteT (h1 rfl)
  | false => exact iteF (h2 rfl)
theorem atI_ex {α : Type} {xs : List α} {i : Int} (h0 : 0 ≤ i) (h1 : i < (xs.length : Int)) : ∃ v, atI xs i = some v ∧ v ∈ xs := by
  have hj : i.toNat < xs.length := by omega
  have e : ((i.toNat : Nat) : Int) = i := by omega
  have q := atI_nat (xs := xs) (j := i.toNat) (v := xs[i.toNat]) (List.getElem?_eq_getElem hj)
  rw [e] at q
  exact ⟨_, q, List.getElem_mem hj⟩
theorem len_le_line {n m : Nat} (h : n ≤ m) (hm : m ≤ 1000000 := by decide) : n ≤ sizeLine := Nat.le_trans h (Nat.le_trans hm (by rw [sizeLine_eq]; decide))
theorem str_len_append (x y : Str) : (x ++ y).length = x.length + y.length := strLen_append x y
end L2
namespace L2
open PySem PySem.Spec PyProof.Rows
theorem join0' {L Pc c A B : Prop} {inst : Decidable c} (hw : ¬ c → Pc) (rest : Pc → L) (h : c → (Pc → L) → A) (e : B = L := by rfl) : @ite Prop c inst A B := by
  subst e
  by_cases hc : c
  · rw [if_pos hc]; exact h hc rest
  · rw [if_neg hc]; exact rest (hw hc)
theorem iteF_elim {A B : Prop} (h : if false = true then A else B) : B := by rwa [if_neg Bool.false_ne_true] at h
theorem log_lt {i : Int} (h : i.natAbs < 2 ^ 1000) : i.natAbs.log2 < 1920 := by
  by_cases h0 : i.natAbs = 0
  · rw [h0]; decide
  · exact Nat.lt_trans ((Nat.log2_lt h0).mpr h) (by decide)
theorem num_len {i : Int} (h : i.natAbs < 2 ^ 1000) : (Str.ofString (toString i)).length ≤ 1921 := int_text_len_1921 (log_lt h)
theorem fold_size (c : Array Nat) : ∀ (k : Nat) (acc : Array Nat), ((List.replicate k c).foldl (· ++ ·) acc).size = acc.size + k * c.size
  | 0, acc => by simp
  | k + 1, acc => by
    rw [List.replicate_succ, List.foldl_cons, fold_size c k, Array.size_append, Nat.succ_mul]
    omega
theorem mul_len (z : Str) {n : Int} (h0 : 0 ≤ n) : (Txt.mul z n).length = z.length * n.toNat := by
  unfold Txt.mul
  by_cases h1 : n < 1
  · rw [if_pos h1]
    have e : n.toNat = 0 := by omega
    rw [e, Nat.mul_zero]
    rfl
  · rw [if_neg h1]
    by_cases h2 : (n == 1 || z.length == 0) = true
    · rw [if_pos h2]
      simp only [Bool.or_eq_true, beq_iff_eq] at h2
      rcases h2 with rfl | h2
      · simp
      · rw [h2]; simp
    · rw [if_neg h2]
      show ((List.replicate n.toNat z.cps).foldl (· ++ ·) #[]).size = z.cps.size * n.toNat
      rw [fold_size]
      simp [Nat.mul_comm]
theorem mul_ok {z : Str} {n : Int} (hz : z.length ≤ 1000) (h0 : 0 ≤ n) (h1 : n ≤ 1000) : MulOk z n := by
  refine ⟨?_, fun h2 _ => ?_, fun _ _ => ?_⟩
  · rw [decide_eq_false (by omega), decide_eq_false (by omega)]
    rfl
  · have h3 : (1000 : Int) ≤ (2 ^ 63 - 1) / n := by
      rw [Int.le_ediv_iff_mul_le (by omega)]
      omega
    omega
  · have h4 : z.length * n.toNat ≤ 1000 * 1000 := Nat.mul_le_mul hz (by omega)
    unfold Builtin.Str.tooLong
    have := sizeLine_eq
    simp
    omega
end L2
namespace L2
open PySem PySem.Spec PyProof.Rows
def SIt (h : Heap) : Bool → Addr → Addr → Nat → Prop
  | false, it, l, k => h.IsListIter it l k
  | true, it, l, k => h.IsTupleIter it l k
def SSq (h : Heap) : Bool → Addr → Array Value → Prop
  | false, l, xs => h.IsList l xs
  | true, l, xs => h.IsTuple l xs
theorem SIt.obj {h : Heap} : ∀ {b : Bool} {it l : Addr} {k : Nat}, SIt h b it l k → ∃ o, h.get? it = some o ∧ ∃ vs, o.data = .fields vs
  | false, _, _, _, ⟨o, e, _, d⟩ => ⟨o, e, _, d⟩
  | true, _, _, _, ⟨o, e, _, d⟩ => ⟨o, e, _, d⟩
theorem SIt.keep {h h' : Heap} : ∀ {b : Bool} {it l : Addr} {k : Nat}, SIt h b it l k → (∀ o, h.get? it = some o → h'.get? it = some o) → SIt h' b it l k
  | false, _, _, _, ⟨o, e, r⟩, f => ⟨o, f o e, r⟩
  | true, _, _, _, ⟨o, e, r⟩, f => ⟨o, f o e, r⟩
theorem SSq.keep {h h' : Heap} : ∀ {b : Bool} {l : Addr} {xs : Array Value}, SSq h b l xs → (∀ o, h.get? l = some o → h'.get? l = some o) → SSq h' b l xs
  | false, _, _, ⟨o, e, r⟩, f => ⟨o, f o e, r⟩
  | true, _, _, ⟨o, e, r⟩, f => ⟨o, f o e, r⟩
theorem SSq.obj {h : Heap} : ∀ {b : Bool} {l : Addr} {xs : Array Value}, SSq h b l xs → ∃ o, h.get? l = some o ∧ ∃ n, o.data = .seq xs n
  | false, _, _, ⟨o, e, _, n, d⟩ => ⟨o, e, n, d⟩
  | true, _, _, ⟨o, e, _, n, d⟩ => ⟨o, e, n, d⟩
section
variable {prog : Program} {w : World} {A : Around} {E : Value → Shared → Prop} {s : Shared}
theorem nxt_tup_item {it t : Addr} {k : Nat} {xs : Array Value} {x : Value} {Q : Value → Shared → Prop} (hi : s.heap.IsTupleIter it t k) (ht : s.heap.IsTuple t xs) (hx : xs[k]? = some x)
    (q : ∀ g, g.IsTupleIter it t (k + 1) → Heap.SameBut it s.heap g → Q x { s with heap := g }) : wpAny (model prog w) A (Builtin.SmallTypes.nextOf (.ref it)) Q E s := by
  obtain ⟨o, e, c, d⟩ := id hi
  obtain ⟨ot, et, _, nt, dt⟩ := ht
  unfold Builtin.SmallTypes.nextOf
  refine wpAny_bind (wpAny_callSpecial?_slot (name := Str.ofString "__next__") hi.typeIs PySem.F.slot_tuple_iterator_next (wpAny_call_entry PySem.F.slot_tuple_iterator_next hi.typeIs PySem.F.entry_tuple_iterator_next ?_ (PySem.F.args_tuple_iterator_next_1 _)))
  show wpAny _ _ (field (.ref it) 0 >>= _) _ _ _; refine wpAny_bind (wpAny_field e d (x := .ref t) rfl ?_)
  show wpAny _ _ (if (Value.ref t == Value.none) = true then _ else _) _ _ _; rw [if_neg (show ¬ (Value.ref t == Value.none) = true from Bool.false_ne_true)]
  show wpAny _ _ (field (.ref it) 1 >>= _) _ _ _; refine wpAny_bind (wpAny_field e d (x := .int k 0) rfl ?_)
  show wpAny _ _ (seqItems? (.ref t) >>= _) _ _ _; refine wpAny_bind (wpAny_seqItems et dt ?_)
  simp only [Int.toNat_natCast, hx]; refine wpAny_bind (wpAny_setField e d (by simp) (wpAny_pure ⟨x, rfl, wpAny_pure (q _ ?_ (Heap.SameBut.update ..))⟩))
  exact ⟨_, Heap.get?_update_self _ e (Obj.isFreed_of_fields (Obj.data_mapFields d _)), (Obj.cls_mapFields ..).trans c, by rw [Obj.data_mapFields d]; simp [rawInt]⟩
theorem nxt_tup_end {it t : Addr} {k : Nat} {xs : Array Value} {Q : Value → Shared → Prop} (hh : A.handled = none) (hi : s.heap.IsTupleIter it t k) (ht : s.heap.IsTuple t xs) (hx : xs[k]? = none)
    (q : ∀ g x, Heap.ExtBut it s.heap g → (∃ o, g.get? x = some o ∧ o.cls = .type "StopIteration") → E (.ref x) { s with heap := g }) : wpAny (model prog w) A (Builtin.SmallTypes.nextOf (.ref it)) Q E s := by
  obtain ⟨o, e, c, d⟩ := id hi
  obtain ⟨ot, et, _, nt, dt⟩ := ht
  unfold Builtin.SmallTypes.nextOf
  refine wpAny_bind (wpAny_callSpecial?_slot (name := Str.ofString "__next__") hi.typeIs PySem.F.slot_tuple_iterator_next (wpAny_call_entry PySem.F.slot_tuple_iterator_next hi.typeIs PySem.F.entry_tuple_iterator_next ?_ (PySem.F.args_tuple_iterator_next_1 _)))
  show wpAny _ _ (field (.ref it) 0 >>= _) _ _ _; refine wpAny_bind (wpAny_field e d (x := .ref t) rfl ?_)
  show wpAny _ _ (if (Value.ref t == Value.none) = true then _ else _) _ _ _; rw [if_neg (show ¬ (Value.ref t == Value.none) = true from Bool.false_ne_true)]
  show wpAny _ _ (field (.ref it) 1 >>= _) _ _ _; refine wpAny_bind (wpAny_field e d (x := .int k 0) rfl ?_)
  show wpAny _ _ (seqItems? (.ref t) >>= _) _ _ _; refine wpAny_bind (wpAny_seqItems et dt ?_)
  simp only [Int.toNat_natCast, hx]; refine wpAny_bind (wpAny_rule (wpAny_bind (wpAny_setField e d (by simp) ?_)))
  show wpAny _ _ (newExc (.type "StopIteration") [] >>= _) _ _ _; refine wpAny_bind ?_; simp only [newExc, newTuple]; refine wpAny_bind (wpAny_newObj_type ?_ (by size_fits))
  refine wpAny_bind (m := firstArgMember _ _) (wpAny_of_eq (a := Value.none) (by first | rfl | (simp only [firstArgMember]; rfl)) (wpAny_newObj_type ?_ (by size_fits)))
  simp only [raiseNew]; refine wpAny_bind (wpAny_handled ?_); first | rw [show A.in1.handled = none from hh] | rw [hh]
  refine wpAny_bind (wpAny_pure (wpAny_throw (q _ _ (((Heap.SameBut.update ..).extBut.push _).push _) ⟨_, Heap.get?_push_size _ rfl, rfl⟩)))
theorem nxt_item {it l : Addr} {k : Nat} {xs : Array Value} {x : Value} {Q : Value → Shared → Prop} : ∀ {b : Bool}, SIt s.heap b it l k → SSq s.heap b l xs → xs[k]? = some x →
    (∀ g, SIt g b it l (k + 1) → Heap.SameBut it s.heap g → Q x { s with heap := g }) → wpAny (model prog w) A (Builtin.SmallTypes.nextOf (.ref it)) Q E s
  | false, a, c, d, q => wpAny_nextOf_list_item a c d q
  | true, a, c, d, q => nxt_tup_item a c d q
theorem nxt_end {it l : Addr} {k : Nat} {xs : Array Value} {Q : Value → Shared → Prop} (hh : A.handled = none) : ∀ {b : Bool}, SIt s.heap b it l k → SSq s.heap b l xs → xs[k]? = none →
    (∀ g x, Heap.ExtBut it s.heap g → (∃ o, g.get? x = some o ∧ o.cls = .type "StopIteration") → E (.ref x) { s with heap := g }) → wpAny (model prog w) A (Builtin.SmallTypes.nextOf (.ref it)) Q E s
  | false, a, c, d, q => wpAny_nextOf_list_end hh a c d q
  | true, a, c, d, q => nxt_tup_end hh a c d q
structure ZAp (z TI TO i1 i2 l1 l2 : Addr) : Prop where
  a : TI ≠ z ∧ TO ≠ z ∧ i1 ≠ z ∧ i2 ≠ z ∧ TI ≠ TO ∧ TI ≠ i1 ∧ TI ≠ i2 ∧ TO ≠ i1 ∧ TO ≠ i2 ∧ i1 ≠ i2
  l : ∀ c, c = l1 ∨ c = l2 → c ≠ z ∧ c ≠ TO ∧ c ≠ i1 ∧ c ≠ i2 ∧ c ≠ TI
theorem zipN_item {z TI TO i1 i2 l1 l2 : Addr} {b1 b2 : Bool} {k1 k2 : Nat} {xs ys : Array Value} {x y a b : Value} {Q : Value → Shared → Prop} (D : ZAp z TI TO i1 i2 l1 l2)
    (hz : IsZip s.heap z TI TO .none) (hI : IsPair s.heap TI (.ref i1) (.ref i2)) (hO : IsPair s.heap TO a b) (t1 : SIt s.heap b1 i1 l1 k1) (t2 : SIt s.heap b2 i2 l2 k2) (q1 : SSq s.heap b1 l1 xs) (q2 : SSq s.heap b2 l2 ys) (ex : xs[k1]? = some x) (ey : ys[k2]? = some y)
    (q : ∀ g, IsZip g z TI TO (rawInt s.heap.objs.size) → IsPair g TO x y → SIt g b1 i1 l1 (k1 + 1) → SIt g b2 i2 l2 (k2 + 1) → IsPair g s.heap.objs.size x y → (∀ c o, c ≠ z → c ≠ TO → c ≠ i1 → c ≠ i2 → s.heap.get? c = some o → g.get? c = some o) → Q (.ref s.heap.objs.size) { s with heap := g }) :
    wpAny (model prog w) A (Builtin.«zip.__next__» ⟨[.ref z], []⟩) (fun fin s' => ∃ v, fin = .done (.ret v) ∧ Q v s') E s := by
  obtain ⟨⟨nIz, nOz, n1z, n2z, nIO, nI1, nI2, nO1, nO2, n12⟩, lne⟩ := D
  obtain ⟨m1z, m1O, m11, m12, m1I⟩ := lne l1 (.inl rfl)
  obtain ⟨m2z, m2O, m21, m22, m2I⟩ := lne l2 (.inr rfl)
  show wpAny _ _ (field (.ref z) 2 >>= _) _ _ _; refine wpAny_bind (wpAny_field hz rfl (x := .bool false) rfl ?_)
  show wpAny _ _ (field (.ref z) 3 >>= _) _ _ _; refine wpAny_bind (wpAny_field hz rfl (x := .ref TI) rfl (wpAny_bind (wpAny_seqItems hI rfl ?_)))
  show wpAny _ _ (Builtin.SmallTypes.ownedTupleIsFree (.ref z) >>= _) _ _ _; refine wpAny_bind ?_; unfold Builtin.SmallTypes.ownedTupleIsFree
  refine wpAny_bind (wpAny_field hz rfl (x := .none) rfl (wpAny_pure ?_)); simp only [if_true]
  refine wpAny_bind (wpAny_rule (wpAny_bind (wpAny_field hz rfl (x := .ref TO) rfl (wpAny_bind (wpAny_setField_rec hz (by simp) fun g1 z1 s1 => ?_)))))
  replace z1 : IsZip g1 z TI TO .ellipsis := z1
  refine wpAny_bind ?_; simp only [List.zipIdx_cons, List.zipIdx_nil, List.forIn_cons, List.forIn_nil]; refine wpAny_bind (wpAny_bind (wpAny_onRaise ?_))
  show wpAny _ _ (Builtin.SmallTypes.nextOf (.ref i1) >>= _) _ _ _
  refine wpAny_bind (nxt_item (b := b1) (t1.keep fun o e => s1.extBut _ _ n1z e) (q1.keep fun o e => s1.extBut _ _ m1z e) ex fun g2 u1 s2 => wpAny_pure ?_)
  have o2 : IsPair g2 TO a b := s2.extBut _ _ nO1 (s1.extBut _ _ nOz hO)
  refine wpAny_bind (wpAny_seqItems o2 rfl (wpAny_bind (wpAny_updateSeq_pair o2 fun g3 o3 s3 => wpAny_bind (wpAny_letGo (wpAny_pure ?_)))))
  replace o3 : IsPair g3 TO x b := o3
  refine wpAny_bind (wpAny_bind (wpAny_onRaise ?_)); show wpAny _ _ (Builtin.SmallTypes.nextOf (.ref i2) >>= _) _ _ _
  refine wpAny_bind (nxt_item (b := b2) (t2.keep fun o e => s3.extBut _ _ nO2.symm (s2.extBut _ _ n12.symm (s1.extBut _ _ n2z e))) (q2.keep fun o e => s3.extBut _ _ m2O (s2.extBut _ _ m21 (s1.extBut _ _ m2z e))) ey fun g4 u2 s4 => wpAny_pure ?_)
  have o4 : IsPair g4 TO x b := s4.extBut _ _ nO2 o3
  refine wpAny_bind (wpAny_seqItems o4 rfl (wpAny_bind (wpAny_updateSeq_pair o4 fun g5 o5 s5 => wpAny_bind (wpAny_letGo (wpAny_pure (wpAny_pure ?_))))))
  replace o5 : IsPair g5 TO x y := o5
  refine wpAny_bind (wpAny_seqItems o5 rfl (wpAny_bind (wpAny_newTuple ?_)))
  have sz : g5.objs.size = s.heap.objs.size := by rw [s5.1, s4.1, s3.1, s2.1, s1.1]
  have z5 : IsZip g5 z TI TO .ellipsis := s5.extBut _ _ nOz.symm (s4.extBut _ _ n2z.symm (s3.extBut _ _ nOz.symm (s2.extBut _ _ n1z.symm z1)))
  have k5 : ∀ c o, c ≠ z → c ≠ TO → c ≠ i1 → c ≠ i2 → s.heap.get? c = some o → g5.get? c = some o := fun c o h1 h2 h3 h4 e => s5.extBut _ _ h2 (s4.extBut _ _ h4 (s3.extBut _ _ h2 (s2.extBut _ _ h3 (s1.extBut _ _ h1 e))))
  have v1 : SIt g5 b1 i1 l1 (k1 + 1) := u1.keep fun o e => s5.extBut _ _ nO1.symm (s4.extBut _ _ n12 (s3.extBut _ _ nO1.symm e))
  have v2 : SIt g5 b2 i2 l2 (k2 + 1) := u2.keep fun o e => s5.extBut _ _ nO2.symm e
  have zlt : z < g5.objs.size := Heap.lt_size z5
  show wpAny _ _ (Builtin.SmallTypes.ownedTupleHandOut (.ref z) (.ref g5.objs.size) >>= _) _ _ _; refine wpAny_bind ?_; unfold Builtin.SmallTypes.ownedTupleHandOut
  have z6 : IsZip (g5.push { cls := .type "tuple", data := .seq #[x, y] }) z TI TO .ellipsis := Heap.get?_push_of_some _ z5
  refine wpAny_bind (wpAny_setField_rec z6 (by simp) fun g7 z7 s7 => ?_)
  replace z7 : IsZip g7 z TI TO (rawInt g5.objs.size) := z7
  refine wpAny_setField_rec z7 (by simp) fun g8 z8 s8 => ?_
  replace z8 : IsZip g8 z TI TO (rawInt g5.objs.size) := z8
  have up : ∀ c o, c ≠ z → g5.get? c = some o → g8.get? c = some o := fun c o h1 e => s8.extBut _ _ h1 (s7.extBut _ _ h1 (Heap.get?_push_of_some _ e))
  have t8 : IsPair g8 g5.objs.size x y := s8.extBut _ _ (Nat.ne_of_gt zlt) (s7.extBut _ _ (Nat.ne_of_gt zlt) (Heap.get?_push_size _ rfl))
  rw [sz] at z8 t8
  refine wpAny_pure ⟨_, rfl, ?_⟩
  show Q (.ref g5.objs.size) _
  rw [sz]
  exact q g8 z8 (up _ _ nOz o5) (v1.keep fun o e => up _ o n1z e) (v2.keep fun o e => up _ o n2z e) t8 fun c o h1 h2 h3 h4 e => up c o h1 (k5 c o h1 h2 h3 h4 e)
theorem zipN_end {z TI TO i1 i2 l1 l2 : Addr} {b1 b2 : Bool} {k1 k2 : Nat} {xs ys : Array Value} {a b : Value} {Q : Fin → Shared → Prop} (hh : A.handled = none) (D : ZAp z TI TO i1 i2 l1 l2)
    (hz : IsZip s.heap z TI TO .none) (hI : IsPair s.heap TI (.ref i1) (.ref i2)) (hO : IsPair s.heap TO a b) (t1 : SIt s.heap b1 i1 l1 k1) (t2 : SIt s.heap b2 i2 l2 k2) (q1 : SSq s.heap b1 l1 xs) (q2 : SSq s.heap b2 l2 ys) (hend : xs[k1]? = none ∨ ys[k2]? = none)
    (q : ∀ g e, (∀ c o, c ≠ z → c ≠ TO → c ≠ i1 → c ≠ i2 → s.heap.get? c = some o → g.get? c = some o) → (∃ o, g.get? e = some o ∧ o.cls = .type "StopIteration") → E (.ref e) { s with heap := g }) :
    wpAny (model prog w) A (Builtin.«zip.__next__» ⟨[.ref z], []⟩) Q E s := by
  obtain ⟨⟨nIz, nOz, n1z, n2z, nIO, nI1, nI2, nO1, nO2, n12⟩, lne⟩ := D
  obtain ⟨m1z, m1O, m11, m12, m1I⟩ := lne l1 (.inl rfl)
  obtain ⟨m2z, m2O, m21, m22, m2I⟩ := lne l2 (.inr rfl)
  show wpAny _ _ (field (.ref z) 2 >>= _) _ _ _; refine wpAny_bind (wpAny_field hz rfl (x := .bool false) rfl ?_)
  show wpAny _ _ (field (.ref z) 3 >>= _) _ _ _; refine wpAny_bind (wpAny_field hz rfl (x := .ref TI) rfl (wpAny_bind (wpAny_seqItems hI rfl ?_)))
  show wpAny _ _ (Builtin.SmallTypes.ownedTupleIsFree (.ref z) >>= _) _ _ _; refine wpAny_bind ?_; unfold Builtin.SmallTypes.ownedTupleIsFree
  refine wpAny_bind (wpAny_field hz rfl (x := .none) rfl (wpAny_pure ?_)); simp only [if_true]
  refine wpAny_bind (wpAny_rule (wpAny_bind (wpAny_field hz rfl (x := .ref TO) rfl (wpAny_bind (wpAny_setField_rec hz (by simp) fun g1 z1 s1 => ?_)))))
  replace z1 : IsZip g1 z TI TO .ellipsis := z1
  refine wpAny_bind ?_; simp only [List.zipIdx_cons, List.zipIdx_nil, List.forIn_cons, List.forIn_nil]; refine wpAny_bind (wpAny_bind (wpAny_onRaise ?_))
  show wpAny _ _ (Builtin.SmallTypes.nextOf (.ref i1) >>= _) _ _ _
  cases ex : xs[k1]? with
  | none =>
    refine wpAny_bind (nxt_end (b := b1) hh (t1.keep fun o e => s1.extBut _ _ n1z e) (q1.keep fun o e => s1.extBut _ _ m1z e) ex fun g2 v s2 hv => ?_)
    obtain ⟨ov, ev, cv⟩ := hv
    have z2 : IsZip g2 z TI TO .ellipsis := s2 _ _ n1z.symm z1
    have nv : v ≠ z := fun h => by subst h; rw [z2] at ev; cases ev; simp at cv
    exact wpAny_setField_rec z2 (by simp) fun g3 _ s3 => q g3 v (fun c o h1 _ h3 _ e => s3.extBut _ _ h1 (s2 _ _ h3 (s1.extBut _ _ h1 e))) ⟨ov, s3.extBut _ _ nv ev, cv⟩
  | some x =>
    have ey : ys[k2]? = none := by rcases hend with h | h; rw [ex] at h; cases h; exact h
    refine wpAny_bind (nxt_item (b := b1) (t1.keep fun o e => s1.extBut _ _ n1z e) (q1.keep fun o e => s1.extBut _ _ m1z e) ex fun g2 u1 s2 => wpAny_pure ?_)
    have o2 : IsPair g2 TO a b := s2.extBut _ _ nO1 (s1.extBut _ _ nOz hO)
    refine wpAny_bind (wpAny_seqItems o2 rfl (wpAny_bind (wpAny_updateSeq_pair o2 fun g3 o3 s3 => wpAny_bind (wpAny_letGo (wpAny_pure ?_)))))
    refine wpAny_bind (wpAny_bind (wpAny_onRaise ?_)); show wpAny _ _ (Builtin.SmallTypes.nextOf (.ref i2) >>= _) _ _ _
    refine wpAny_bind (nxt_end (b := b2) hh (t2.keep fun o e => s3.extBut _ _ nO2.symm (s2.extBut _ _ n12.symm (s1.extBut _ _ n2z e))) (q2.keep fun o e => s3.extBut _ _ m2O (s2.extBut _ _ m21 (s1.extBut _ _ m2z e))) ey fun g4 v s4 hv => ?_)
    obtain ⟨ov, ev, cv⟩ := hv
    have z4 : IsZip g4 z TI TO .ellipsis := s4 _ _ n2z.symm (s3.extBut _ _ nOz.symm (s2.extBut _ _ n1z.symm z1))
    have nv : v ≠ z := fun h => by subst h; rw [z4] at ev; cases ev; simp at cv
    exact wpAny_setField_rec z4 (by simp) fun g5 _ s5 => q g5 v (fun c o h1 h2 h3 h4 e => s5.extBut _ _ h1 (s4 _ _ h4 (s3.extBut _ _ h2 (s2.extBut _ _ h3 (s1.extBut _ _ h1 e))))) ⟨ov, s5.extBut _ _ nv ev, cv⟩
end
end L2
namespace L2
open PySem PySem.Spec PyProof.Rows
section
variable {X : Cx} {pins : List (Addr × Obj)} {σ : St} {H : Hp} {s : Shared} {h' : Heap}
theorem Inv.turnedL {t' : Nat} {ch : List Addr} (I : Inv X pins σ H s) (k : ∀ b o, b ∉ ch → s.heap.get? b = some o → h'.get? b = some o) (hf : ∀ b ∈ ch, FpOk X pins H b) : Inv X pins σ H { s with heap := h', toks := t' } := by
  have nit : ∀ b u, H b = some u → b ∉ ch := fun b u e z => by rw [(hf b z).1] at e; cases e
  have hL : X.env.locals ∉ ch := fun z => (hf _ z).2.1 rfl
  refine I.step (g' := s.gens) (d' := s.drawn) (ch := ch) (fun b hb => ⟨(hf b hb).2.2.2.1, (hf b hb).2.1, (hf b hb).2.2.2.2.1, (hf b hb).2.2.2.2.2⟩) (fun b o _ _ hc e _ => k b o hc e) (fun b o _ _ hc e _ => ⟨o.slots, k b o hc e⟩) (fun _ _ _ _ n => n)
    (fun b o hc e => ⟨o, k b o hc e⟩) (fun _ _ e => e) (fun _ _ _ e => e) (fun b ps e => ⟨#[], by rw [e]; simp⟩) (fun m hm => ?_) (fun b u e => ?_) I.bare
  · obtain ⟨o, es, ep, ho, r⟩ := hm
    exact ⟨o, es, ep, k _ o hL ho, r⟩
  · refine (I.hok b u e).stay (fun c v hc q => k c v ?_ q) (fun _ q => q) fun _ _ q => q
    rcases hc with z | z
    · rw [z]; exact nit b u e
    · exact nit c _ z
theorem Inv.track {T : Addr} {o : HO} (I : Inv X pins σ H s) (f : FpOk X pins H T) (hs : X.s₀.heap.objs.size ≤ T) (new : ObjOk X.prog X.w (upd H T o) s.heap T o) : Inv X pins σ (upd H T o) s := by
  obtain ⟨f0, f1, f2, _, f4, f5⟩ := f
  have old : ∀ b u, X.s₀.heap.get? b = some u → b ≠ T := fun b u e => Nat.ne_of_lt (Nat.lt_of_lt_of_le (Heap.lt_size e) hs)
  refine ⟨I.ok, I.os, I.bare, ⟨I.base.keep, I.base.slot, fun b u e n hx => ?_, I.base.there, fun b xs e => ?_, fun b u v e => ?_, fun b ps e => ?_⟩, I.loc, I.cell, ?_, fun x c e => ?_, fun p hp => ?_, fun b u e => ?_, I.len⟩
  · rw [upd_ne (old b u e)]; exact I.base.free b u e n hx
  · rw [upd_ne (ne_of_none (I.base.tups b xs e) f0)]; exact I.base.tups b xs e
  · rw [upd_ne (ne_of_none (I.base.frzs b u v e) f0)]; exact I.base.frzs b u v e
  · obtain ⟨more, q⟩ := I.base.tbls b ps e
    exact ⟨more, by rw [upd_ne (ne_of_none q f0)]; exact q⟩
  · rw [upd_ne (Ne.symm f1)]; exact I.free
  · rw [upd_ne (f4 x c e)]; exact I.freeC x c e
  · obtain ⟨e, n, ne, nf, d⟩ := I.pin p hp
    exact ⟨e, by rw [upd_ne (f5 p hp)]; exact n, ne, nf, d⟩
  · by_cases hb : b = T
    · subst hb
      rw [upd_same] at e
      cases e
      exact new
    · rw [upd_ne hb] at e
      exact (I.hok b u e).stay (fun c v _ q => q) (fun c q => by rw [upd_ne (ne_of_none q f0)]; exact q) fun c xs q => by rw [upd_ne (ne_of_none q f0)]; exact q
end
def SqB (K : PySem.W.Frag) (H : Hp) : Bool → Addr → List V → Prop
  | false, a, xs => SqL K H a xs
  | true, a, xs => SqT K H a xs
theorem SqB.at {X : Cx} {pins : List (Addr × Obj)} {σ : St} {H : Hp} {s : Shared} (I : Inv X pins σ H s) : ∀ {b : Bool} {a : Addr} {xs : List V}, SqB X.K H b a xs → ∃ its : List Value, Vals xs its ∧ SSq s.heap b a its.toArray ∧ xs.length ≤ sizeLine
  | false, _, _, h => let ⟨its, r, p, z⟩ := I.list h; ⟨its, r, p.isList, z⟩
  | true, _, _, h => let ⟨its, r, p, z⟩ := I.tuple h; ⟨its, r, p, z⟩
theorem SqB.inj {X : Cx} {pins : List (Addr × Obj)} {σ : St} {H : Hp} {s : Shared} (I : Inv X pins σ H s) : ∀ {b : Bool} {a : Addr} {xs ys : List V}, SqB X.K H b a xs → SqB X.K H b a ys → xs = ys
  | false, _, _, _, h, h' => I.list_inj h h'
  | true, _, _, _, h, h' => I.tuple_inj h h'
def Itz (K : PySem.W.Frag) (b1 b2 : Bool) (l1 l2 : Addr) : It :=
  ⟨fun i H => ∃ xs ys x y, SqB K H b1 l1 xs ∧ SqB K H b2 l2 ys ∧ xs[i]? = some x ∧ ys[i]? = some y,
   fun i H v H' => ∃ p x y, H p = none ∧ v = .ref p ∧ H' = upd H p (.tup [x, y]) ∧ (∀ xs, SqB K H b1 l1 xs → xs[i]? = some x) ∧ ∀ ys, SqB K H b2 l2 ys → ys[i]? = some y,
   fun i H => ∃ xs ys, SqB K H b1 l1 xs ∧ SqB K H b2 l2 ys ∧ (xs.length ≤ i ∨ ys.length ≤ i)⟩
section
variable {prog : Program} {w : World} {A : Around} {E : Value → Shared → Prop} {s : Shared}
theorem zipP_item {z TI TO i1 i2 l1 l2 : Addr} {b1 b2 : Bool} {k1 k2 : Nat} {xs ys : Array Value} {x y a b : Value} {Q : Option Value → Shared → Prop} (D : ZAp z TI TO i1 i2 l1 l2)
    (hz : IsZip s.heap z TI TO .none) (hI : IsPair s.heap TI (.ref i1) (.ref i2)) (hO : IsPair s.heap TO a b) (t1 : SIt s.heap b1 i1 l1 k1) (t2 : SIt s.heap b2 i2 l2 k2) (q1 : SSq s.heap b1 l1 xs) (q2 : SSq s.heap b2 l2 ys) (ex : xs[k1]? = some x) (ey : ys[k2]? = some y)
    (q : ∀ g, IsZip g z TI TO (rawInt s.heap.objs.size) → IsPair g TO x y → SIt g b1 i1 l1 (k1 + 1) → SIt g b2 i2 l2 (k2 + 1) → IsPair g s.heap.objs.size x y → (∀ c o, c ≠ z → c ≠ TO → c ≠ i1 → c ≠ i2 → s.heap.get? c = some o → g.get? c = some o) → Q (some (.ref s.heap.objs.size)) { s with heap := g }) :
    wpAny (model prog w) A (pyNext (.ref z)) Q E s := by
  have ty : s.TypeIs (.ref z) "zip" := ⟨_, hz, rfl⟩
  unfold pyNext
  exact wpAny_bind (wpAny_attempt (wpAny_callSpecial?_slot (name := Str.ofString "__next__") ty PySem.F.slot_zip_next (wpAny_call_entry PySem.F.slot_zip_next ty PySem.F.entry_zip_next (zipN_item D hz hI hO t1 t2 q1 q2 ex ey fun g a1 a2 a3 a4 a5 a6 => wpAny_pure (q g a1 a2 a3 a4 a5 a6)) (PySem.F.args_zip_next_1 _))))
theorem zipP_end {z TI TO i1 i2 l1 l2 : Addr} {b1 b2 : Bool} {k1 k2 : Nat} {xs ys : Array Value} {a b : Value} {Q : Option Value → Shared → Prop} (hh : A.handled = none) (D : ZAp z TI TO i1 i2 l1 l2)
    (hz : IsZip s.heap z TI TO .none) (hI : IsPair s.heap TI (.ref i1) (.ref i2)) (hO : IsPair s.heap TO a b) (t1 : SIt s.heap b1 i1 l1 k1) (t2 : SIt s.heap b2 i2 l2 k2) (q1 : SSq s.heap b1 l1 xs) (q2 : SSq s.heap b2 l2 ys) (hend : xs[k1]? = none ∨ ys[k2]? = none)
    (q : ∀ g, (∀ c o, c ≠ z → c ≠ TO → c ≠ i1 → c ≠ i2 → s.heap.get? c = some o → g.get? c = some o) → Q none { s with heap := g }) : wpAny (model prog w) A (pyNext (.ref z)) Q E s := by
  have ty : s.TypeIs (.ref z) "zip" := ⟨_, hz, rfl⟩
  unfold pyNext
  refine wpAny_bind (wpAny_attempt (wpAny_callSpecial?_slot (name := Str.ofString "__next__") ty PySem.F.slot_zip_next (wpAny_call_entry PySem.F.slot_zip_next ty PySem.F.entry_zip_next (zipN_end hh D hz hI hO t1 t2 q1 q2 hend fun g e hk he => ?_) (PySem.F.args_zip_next_1 _))))
  obtain ⟨o, ho, hc⟩ := he
  exact wpAny_bind (wpAny_isInstance (T := "StopIteration") (b := true) ⟨o, ho, hc⟩ isSubtype_stop (wpAny_pure (q _ hk)))
end
theorem turn_zip {P : Program} {w : World} {K : PySem.W.Frag} {elts : List Expr} {kk : Nat} {tp : Pos} {b1 b2 : Bool} (z TI TO i1 i2 l1 l2 : Addr) (D : ZAp z TI TO i1 i2 l1 l2) :
    Turn P w K (.Tuple elts kk tp) (Itz K b1 b2 l1 l2) [z, TI, TO, i1, i2] z (fun i h => IsZip h z TI TO .none ∧ IsPair h TI (.ref i1) (.ref i2) ∧ (∃ a b, IsPair h TO a b) ∧ SIt h b1 i1 l1 i ∧ SIt h b2 i2 l2 i) where
  mem := by simp
  obj := fun i h st b hb => by
    obtain ⟨hz, hI, ⟨a, c, hO⟩, t1, t2⟩ := st
    simp only [List.mem_cons, List.not_mem_nil, or_false] at hb
    rcases hb with rfl | rfl | rfl | rfl | rfl
    · exact ⟨_, hz, fun v q => by cases q⟩
    · exact ⟨_, hI, fun v q => by cases q⟩
    · exact ⟨_, hO, fun v q => by cases q⟩
    · obtain ⟨o, e, vs, d⟩ := t1.obj
      exact ⟨o, e, fun v q => by rw [d] at q; cases q⟩
    · obtain ⟨o, e, vs, d⟩ := t2.obj
      exact ⟨o, e, fun v q => by rw [d] at q; cases q⟩
  keep := fun i h h' st k => by
    obtain ⟨hz, hI, ⟨a, c, hO⟩, t1, t2⟩ := st
    exact ⟨k z (by simp) _ hz, k TI (by simp) _ hI, ⟨a, c, k TO (by simp) _ hO⟩, t1.keep fun o e => k i1 (by simp) o e, t2.keep fun o e => k i2 (by simp) o e⟩
  item := by
    intro X hP hw hK hc i pins s σ H E I hf st hg
    subst hP hw hK
    obtain ⟨hz, hI, ⟨a, c, hO⟩, t1, t2⟩ := st
    obtain ⟨xs, ys, x, y, hx, hy, ex, ey⟩ := hg
    obtain ⟨its, rv, q1, z1⟩ := SqB.at I hx
    obtain ⟨jts, rw', q2, z2⟩ := SqB.at I hy
    obtain ⟨u, hu, ru⟩ := rv.get ex
    obtain ⟨v, hv, rv'⟩ := rw'.get ey
    refine zipP_item D hz hI hO t1 t2 q1 q2 (x := u) (y := v) (by simpa using hu) (by simpa using hv) fun g a1 a2 a3 a4 a5 a6 => ⟨_, rfl, ?_⟩
    refine wpAny_letOwnedTupleGo_zip a1 fun g' a1' sb => ?_
    obtain ⟨⟨nIz, nOz, n1z, n2z, nIO, nI1, nI2, nO1, nO2, n12⟩, lne⟩ := id D
    have hT : ∀ b ∈ [z, TI, TO, i1, i2], s.heap.objs.size ≠ b := fun b hb => by
      have : ∃ o, s.heap.get? b = some o := by
        simp only [List.mem_cons, List.not_mem_nil, or_false] at hb
        rcases hb with rfl | rfl | rfl | rfl | rfl
        · exact ⟨_, hz⟩
        · exact ⟨_, hI⟩
        · exact ⟨_, hO⟩
        · obtain ⟨o, e, _⟩ := t1.obj; exact ⟨o, e⟩
        · obtain ⟨o, e, _⟩ := t2.obj; exact ⟨o, e⟩
      obtain ⟨o, e⟩ := this
      exact Nat.ne_of_gt (Heap.lt_size e)
    have kk : ∀ b o, b ∉ [z, TI, TO, i1, i2] → s.heap.get? b = some o → g'.get? b = some o := fun b o hb e => by
      simp only [List.mem_cons, List.not_mem_nil, or_false, not_or] at hb
      exact sb.extBut _ _ hb.1 (a6 b o hb.1 hb.2.2.1 hb.2.2.2.1 hb.2.2.2.2 e)
    have I1 : Inv X pins σ H { s with heap := g' } := I.turnedL (t' := s.toks) kk hf
    have pT : IsPair g' s.heap.objs.size u v := sb.extBut _ _ (hT z (by simp)) a5
    have fT : FpOk X pins H s.heap.objs.size := I.fpOk (Nat.le_refl _) (I.hok.fresh (Nat.le_refl _))
    have I2 : Inv X pins σ (upd H s.heap.objs.size (.tup [x, y])) { s with heap := g' } := I1.track fT I.sz ⟨by show 2 ≤ sizeLine; decide, [u, v], .cons ru (.cons rv' .nil), ⟨_, pT, rfl, _, rfl⟩⟩
    refine ⟨.ref s.heap.objs.size, _, I2, rfl, ⟨_, x, y, I.hok.fresh (Nat.le_refl _), rfl, rfl, fun xs' h => by rw [SqB.inj I h hx]; exact ex, fun ys' h => by rw [SqB.inj I h hy]; exact ey⟩, ?_, fun b hb => ?_⟩
    · exact ⟨a1', sb.extBut _ _ nIz (a6 TI _ nIz nIO nI1 nI2 hI), ⟨u, v, sb.extBut _ _ nOz a2⟩, a3.keep fun o e => sb.extBut _ _ n1z e, a4.keep fun o e => sb.extBut _ _ n2z e⟩
    · rw [upd_ne (Ne.symm (hT b hb))]
      exact (hf b hb).1
  done := by
    intro X hP hw hK hc i pins s σ H E I hf st hg
    subst hP hw hK
    obtain ⟨hz, hI, ⟨a, c, hO⟩, t1, t2⟩ := st
    obtain ⟨xs, ys, hx, hy, hend⟩ := hg
    obtain ⟨its, rv, q1, z1⟩ := SqB.at I hx
    obtain ⟨jts, rw', q2, z2⟩ := SqB.at I hy
    have e1 := rv.length
    have e2 := rw'.length
    refine zipP_end (I.ok.hd hc) D hz hI hO t1 t2 q1 q2 (by
      rcases hend with h | h
      · exact .inl (by simp; omega)
      · exact .inr (by simp; omega)) fun g k => ⟨rfl, I.turnedL (t' := s.toks) (ch := [z, TI, TO, i1, i2]) (fun b o hb e => ?_) hf⟩
    simp only [List.mem_cons, List.not_mem_nil, or_false, not_or] at hb
    exact k b o hb.1 hb.2.2.1 hb.2.2.2.1 hb.2.2.2.2 e
  self := fun _ _ _ _ _ st h => wpAny_pyIter_zip st.1 h
end L2
namespace L2
open PySem PySem.Spec PyProof.Rows
def itObj (b : Bool) (l : Addr) : Obj := { cls := .type (if b = true then "tuple_iterator" else "list_iterator"), data := .fields #[.ref l, .int 0 0] }
theorem SIt.new {h : Heap} : ∀ {b : Bool} {it l : Addr}, h.get? it = some (itObj b l) → SIt h b it l 0
  | false, _, _, e => ⟨_, e, rfl, rfl⟩
  | true, _, _, e => ⟨_, e, rfl, rfl⟩
def zg2 (h : Heap) (b1 b2 : Bool) (l1 l2 : Addr) : Heap := (h.push (itObj b1 l1)).push (itObj b2 l2)
def zg3 (h : Heap) (b1 b2 : Bool) (l1 l2 : Addr) : Heap := (zg2 h b1 b2 l1 l2).push { cls := .type "tuple", data := .seq #[.ref h.objs.size, .ref (h.push (itObj b1 l1)).objs.size] }
def zg4 (h : Heap) (b1 b2 : Bool) (l1 l2 : Addr) : Heap := (zg3 h b1 b2 l1 l2).push { cls := .type "tuple", data := .seq #[.none, .none] }
def zg5 (h : Heap) (b1 b2 : Bool) (l1 l2 : Addr) : Heap := (zg4 h b1 b2 l1 l2).push { cls := .type "zip", data := .fields #[.none, .bool false, .bool false, .ref (zg2 h b1 b2 l1 l2).objs.size, .ref (zg3 h b1 b2 l1 l2).objs.size] }
theorem iterB {prog : Program} {w : World} {A : Around} {E : Value → Shared → Prop} {s : Shared} {l : Addr} {xs : Array Value} {Q : Value → Shared → Prop} : ∀ {b : Bool}, SSq s.heap b l xs → Q (.ref s.heap.objs.size) { s with heap := s.heap.push (itObj b l) } → wpAny (model prog w) A (pyIter (.ref l)) Q E s
  | false, h, q => wpAny_pyIter_list h q
  | true, h, q => wpAny_pyIter_tuple h q
theorem SSq.push {h : Heap} {b : Bool} {l : Addr} {xs : Array Value} (x : SSq h b l xs) (o : Obj) : SSq (h.push o) b l xs := x.keep fun _ e => Heap.get?_push_of_some _ e
set_option maxHeartbeats 8000000 in
theorem zip_new (b1 b2 : Bool) (l1 l2 : Addr) (xs ys : Array Value) :
    Meets (Builtin.«zip.__new__» ⟨[.type "zip", .ref l1, .ref l2], []⟩) (fun _ R s => SSq s.heap b1 l1 xs ∧ SSq s.heap b2 l2 ys ∧ R (.ok (.ret (.ref (zg4 s.heap b1 b2 l1 l2).objs.size))) { s with heap := zg5 s.heap b1 b2 l1 l2 }) :=
  .of_wp fun prog w A R s h => by
    obtain ⟨hp, g, d, tk, os⟩ := s
    obtain ⟨h1, h2, h⟩ := h
    have hsub := PySem.sub_zip
    have e1 : SSq (Shared.heap ⟨hp, g, d, tk, os⟩) b1 l1 xs := h1
    have e2 : SSq (Shared.heap ⟨hp.push (itObj b1 l1), g, d, tk, os⟩) b2 l2 ys := SSq.push h2 _
    wp_walk using iterB e1, iterB e2
    exact ⟨_, rfl, h⟩
section
variable {prog : Program} {w : World} {A : Around} {E : Value → Shared → Prop} {s : Shared}
theorem call_zipB {b1 b2 : Bool} {l1 l2 : Addr} {xs ys : Array Value} {Q : Value → Shared → Prop} (h1 : SSq s.heap b1 l1 xs) (h2 : SSq s.heap b2 l2 ys)
    (h : ∀ g n, n = s.heap.objs.size → IsZip g (n + 4) (n + 2) (n + 3) .none → IsPair g (n + 2) (.ref n) (.ref (n + 1)) → IsPair g (n + 3) .none .none → SIt g b1 n l1 0 → SIt g b2 (n + 1) l2 0 →
      (∀ c o, s.heap.get? c = some o → g.get? c = some o) → Q (.ref (n + 4)) { s with heap := g }) : wpAny (model prog w) A (call (.type "zip") [.ref l1, .ref l2]) Q E s := by
  refine callType_new PySem.F.called_zip (by decide) (PySem.F.typeCall_zip_2 _ _) (PySem.F.newCall_zip_2 _ _) (fun obj => PySem.F.args_object_init_3 obj _ _) PySem.F.entry_zip_new (zip_new b1 b2 l1 l2 xs ys) ⟨h1, h2, ?_⟩
  have e1 : (s.heap.push (itObj b1 l1)).objs.size = s.heap.objs.size + 1 := Heap.size_push ..
  have e2 : (zg2 s.heap b1 b2 l1 l2).objs.size = s.heap.objs.size + 2 := by unfold zg2; rw [Heap.size_push, e1]
  have e3 : (zg3 s.heap b1 b2 l1 l2).objs.size = s.heap.objs.size + 3 := by unfold zg3; rw [Heap.size_push, e2]
  have e4 : (zg4 s.heap b1 b2 l1 l2).objs.size = s.heap.objs.size + 4 := by unfold zg4; rw [Heap.size_push, e3]
  have p : ∀ {c : Addr} {o : Obj}, (zg4 s.heap b1 b2 l1 l2).get? c = some o → (zg5 s.heap b1 b2 l1 l2).get? c = some o := fun q => Heap.get?_push_of_some _ q
  have p4 : ∀ {c : Addr} {o : Obj}, (zg3 s.heap b1 b2 l1 l2).get? c = some o → (zg4 s.heap b1 b2 l1 l2).get? c = some o := fun q => Heap.get?_push_of_some _ q
  have p3 : ∀ {c : Addr} {o : Obj}, (zg2 s.heap b1 b2 l1 l2).get? c = some o → (zg3 s.heap b1 b2 l1 l2).get? c = some o := fun q => Heap.get?_push_of_some _ q
  have p2 : ∀ {c : Addr} {o : Obj}, (s.heap.push (itObj b1 l1)).get? c = some o → (zg2 s.heap b1 b2 l1 l2).get? c = some o := fun q => Heap.get?_push_of_some _ q
  have g5 : (zg5 s.heap b1 b2 l1 l2).get? (zg4 s.heap b1 b2 l1 l2).objs.size = some _ := Heap.get?_push_size _ rfl
  have g4 : (zg5 s.heap b1 b2 l1 l2).get? (zg3 s.heap b1 b2 l1 l2).objs.size = some _ := p (Heap.get?_push_size _ rfl)
  have g3 : (zg5 s.heap b1 b2 l1 l2).get? (zg2 s.heap b1 b2 l1 l2).objs.size = some _ := p (p4 (Heap.get?_push_size _ rfl))
  have g2 : (zg5 s.heap b1 b2 l1 l2).get? (s.heap.push (itObj b1 l1)).objs.size = some _ := p (p4 (p3 (Heap.get?_push_size _ rfl)))
  have g1 : (zg5 s.heap b1 b2 l1 l2).get? s.heap.objs.size = some _ := p (p4 (p3 (p2 (Heap.get?_push_size _ rfl))))
  show _ ∧ _
  rw [e2, e3, e4] at g5
  rw [e1, e2] at g3
  rw [e3] at g4
  rw [e1] at g2
  rw [e4]
  exact ⟨⟨_, g5, rfl⟩, h _ _ rfl g5 g3 g4 (SIt.new g1) (SIt.new g2) fun c o x => p (p4 (p3 (p2 (Heap.get?_push_of_some _ x))))⟩
end
section
variable {X : Cx}
def iZip (K : PySem.W.Frag) (ta : TA) : TI := fun σ H R => ta σ H fun vs H1 => ∃ b1 b2 l1 l2 xs ys, vs = [.ref l1, .ref l2] ∧ SqB K H1 b1 l1 xs ∧ SqB K H1 b2 l2 ys ∧ R (Itz K b1 b2 l1 l2) H1
theorem pi_zip {a b : Expr} {ta : TA} {p pos tp : Pos} {elts : List Expr} {kk : Nat} (hg : Gl X "zip") (hm : X.mg "zip" = none) (ha : PA X [a, b] ta) (hs : starEach [a, b] X.env = [(false, eval a X.env), (false, eval b X.env)] := by rfl) (hs2 : starEach [b] X.env = [(false, eval b X.env)] := by rfl) :
    PI X (.Tuple elts kk tp) (.Call (.Name "zip" p) [a, b] [] pos) (iZip X.K ta) := by
  intro pins s σ H R I h
  refine Call_ (ld_blt I hg hm PyProof.Rows.Boot.«zip» (PyProof.Rows.callWith_type1 (thn (ha pos pins s σ H _ I h) fun us s1 ⟨vs, H1, I1, r1, q1⟩ => ?_) (by rw [hs, hs2]) (by rw [hs2]; rfl)))
  obtain ⟨b1, b2, l1, l2, xs, ys, rfl, hx, hy, q⟩ := q1
  obtain ⟨u, u', rfl, ru, ru'⟩ := vals2 r1
  cases ru
  cases ru'
  obtain ⟨its, rv, s1', z1⟩ := SqB.at I1 hx
  obtain ⟨jts, rw', s2', z2⟩ := SqB.at I1 hy
  refine call_zipB s1' s2' fun g n hn a1 a2 a3 a4 a5 k => ?_
  have lt : ∀ c, c = l1 ∨ c = l2 → c < n := fun c hc => by
    rw [hn]
    rcases hc with rfl | rfl
    · obtain ⟨o, e, _⟩ := s1'.obj; exact Heap.lt_size e
    · obtain ⟨o, e, _⟩ := s2'.obj; exact Heap.lt_size e
  refine wpAny_pyIter_zip a1 ⟨n + 4, [n + 4, n + 2, n + 3, n, n + 1], _, _, H1, rfl, I1.kept (t' := s1.toks) k, turn_zip (n + 4) (n + 2) (n + 3) n (n + 1) l1 l2 ⟨?_, fun c hc => ?_⟩, ⟨a1, a2, ⟨_, _, a3⟩, a4, a5⟩, fun b hb => ?_, q⟩
  · have e : ∀ i j : Nat, i ≠ j → n + i ≠ n + j := fun i j h z => h (Nat.add_left_cancel z)
    exact ⟨e 2 4 (by decide), e 3 4 (by decide), e 0 4 (by decide), e 1 4 (by decide), e 2 3 (by decide), e 2 0 (by decide), e 2 1 (by decide), e 3 0 (by decide), e 3 1 (by decide), e 0 1 (by decide)⟩
  · have q := lt c hc
    have e : ∀ i : Nat, c ≠ n + i := fun i => Nat.ne_of_lt (Nat.lt_of_lt_of_le q (Nat.le_add_right _ _))
    exact ⟨e 4, e 3, e 0, e 1, e 2⟩
  · have e : ∀ i : Nat, FpOk X pins H1 (n + i) := fun i => I1.fpOk (by rw [hn]; exact Nat.le_add_right _ _) (I1.hok.fresh (by rw [hn]; exact Nat.le_add_right _ _))
    simp only [List.mem_cons, List.not_mem_nil, or_false] at hb
    rcases hb with rfl | rfl | rfl | rfl | rfl
    · exact e 4
    · exact e 2
    · exact e 3
    · exact e 0
    · exact e 1
end
end L2
namespace L2
open PySem PySem.Spec PyProof.Rows
open PySem.Builtin.Str in
theorem split_push {prog : Program} {w : World} {A : Around} {E : Value → Shared → Prop} {s : Shared} {x y : Str} {t u : Tok} {Q : Value → Shared → Prop} (hy : (y.length == 0) = false) (hz : x.length + 2 ≤ sizeLine)
    (q : ∀ (l : List (Str × Tok)) (k : Nat), l.map (·.1) = Txt.split x y → l.length ≤ sizeLine → Q (.ref s.heap.objs.size) { s with heap := s.heap.push { cls := .type "list", data := .seq (strValues l).toArray }, toks := k }) :
    wpAny (model prog w) A (call (.builtin "str.split") [.str x t, .str y u]) Q E s := by
  have hn : (partsBetween x (occurrences x y 0 x.length (x.length + 1)) y.length).length ≤ sizeLine := by
    have e := StrLaws.occ_length_le x y 0 x.length (x.length + 1)
    rw [length_partsBetween]
    omega
  have one : ([(x, t)] : List (Str × Tok)).length ≤ sizeLine := by show 1 ≤ sizeLine; decide
  cases c1 : (decide (x.length < y.length) || decide (strKind x < strKind y)) with
  | true => exact call_meets PySem.F.slot_str_split (typeIs_str _ _ _) PySem.F.entry_str_split (PySem.F.args_str_split_2 _ _) (meets_str_split_cannot_occur x y t u c1) (q [(x, t)] s.toks (if_pos c1).symm one)
  | false =>
    cases c2 : (occurrences x y 0 x.length (x.length + 1)).isEmpty with
    | true => exact call_meets PySem.F.slot_str_split (typeIs_str _ _ _) PySem.F.entry_str_split (PySem.F.args_str_split_2 _ _) (meets_str_split_not_found x y t u c1 hy c2) (q [(x, t)] s.toks ((if_neg (ne_true_of_eq_false c1)).trans (if_pos c2)).symm one)
    | false =>
      refine call_meets PySem.F.slot_str_split (typeIs_str _ _ _) PySem.F.entry_str_split (PySem.F.args_str_split_2 _ _) (meets_str_split_sep x y t u c1 hy c2 (by omega) hn) ?_
      have e : (numbered s.toks (partsBetween x (occurrences x y 0 x.length (x.length + 1)) y.length)).map (·.1) = Txt.split x y := (numbered_texts _ _).trans ((if_neg (ne_true_of_eq_false c1)).trans (if_neg (ne_true_of_eq_false c2))).symm
      have el : (numbered s.toks (partsBetween x (occurrences x y 0 x.length (x.length + 1)) y.length)).length ≤ sizeLine := by
        have := congrArg List.length (numbered_texts s.toks (partsBetween x (occurrences x y 0 x.length (x.length + 1)) y.length))
        rw [List.length_map] at this
        omega
      have z := q _ (s.toks + (partsBetween x (occurrences x y 0 x.length (x.length + 1)) y.length).length) e el
      rw [← strsFrom_eq] at z
      exact z
theorem vals_strs : ∀ l : List (Str × Tok), Vals ((l.map (·.1)).map V.str) (strValues l)
  | [] => .nil
  | p :: r => .cons ⟨p.2, rfl⟩ (vals_strs r)
section
variable {X : Cx}
theorem mt_split : MtR X "str.split" (fun v xs H Q => ∃ z y : Str, v = .str z ∧ xs = [.str y] ∧ (y.length == 0) = false ∧ z.length + 2 ≤ sizeLine ∧ ∀ p, H p = none → Q (.ref p) (upd H p (.lst ((Txt.split z y).map V.str)))) := by
  intro pins s σ H x xs v us Q I rx r h
  obtain ⟨z, y, rfl, rfl, hy, hz, q⟩ := h
  obtain ⟨t, rfl⟩ := rx
  obtain ⟨u, rfl, t', rfl⟩ := vals1 r
  refine split_push hy hz fun l k e hl => ?_
  have rv := vals_strs l
  rw [e] at rv
  have hlen : ((Txt.split z y).map V.str).length ≤ sizeLine := by rw [← e, List.length_map, List.length_map]; exact hl
  exact ⟨.ref _, _, I.lnew (t' := k) rv hlen, rfl, q _ I.fresh⟩
theorem mt_rstrip : MtR X "str.rstrip" (fun v xs H Q => ∃ z : Str, v = .str z ∧ xs = [] ∧ z.length ≤ sizeLine ∧ Q (.str (Txt.rstrip z)) H) := by
  intro pins s σ H x xs v us Q I rx r h
  obtain ⟨z, rfl, rfl, hz, q⟩ := h
  obtain ⟨t, rfl⟩ := rx
  cases r
  exact PySem.SC.rstrip (hsz := hz) fun t' k => ⟨.str _, H, I.tok k, ⟨t', rfl⟩, q⟩
end
@[irreducible] def rStrAny : List V → Hp → VK → Prop := fun xs H Q => (∃ z : Str, xs = [.str z] ∧ Q (.str z) H) ∨ ∃ i : Int, xs = [.int i] ∧ i.natAbs.log2 < 1920 ∧ Q (.str (toString i)) H
section
variable {X : Cx}
theorem call_str_str : CallR X (.type "str") (fun xs H Q => ∃ z : Str, xs = [.str z] ∧ Q (.str z) H) := by
  intro pins s σ H xs us Q I r h
  obtain ⟨z, rfl, q⟩ := h
  obtain ⟨u, rfl, t, rfl⟩ := vals1 r
  exact PySem.P.str_of_str ⟨.str z, H, I, ⟨t, rfl⟩, q⟩
theorem call_str_any : CallR X (.type "str") rStrAny := by
  unfold rStrAny
  exact CallR.or call_str_str call_str_int
end
mutual
inductive Dt (K : PySem.W.Frag) (H : Hp) : V → PyData → Prop
  | non : Dt K H .non .none
  | bl (b : Bool) : Dt K H (.bl b) (.bool b)
  | int (i : Int) : Dt K H (.int i) (.int i)
  | str (x : Str) : Dt K H (.str x) (.str x)
  | lst {a : Addr} {xs : List V} {ds : List PyData} : SqL K H a xs → DtAll K H xs ds → Dt K H (.ref a) (.list ds)
  | tup {a : Addr} {xs : List V} {ds : List PyData} : SqT K H a xs → DtAll K H xs ds → Dt K H (.ref a) (.tuple ds)
inductive DtAll (K : PySem.W.Frag) (H : Hp) : List V → List PyData → Prop
  | nil : DtAll K H [] []
  | cons {v : V} {vs : List V} {d : PyData} {ds : List PyData} : Dt K H v d → DtAll K H vs ds → DtAll K H (v :: vs) (d :: ds)
end
section
variable {X : Cx} {pins : List (Addr × Obj)} {σ : St} {H : Hp} {s : Shared}
mutual
theorem Dt.reads (I : Inv X pins σ H s) : ∀ {v : V} {d : PyData}, Dt X.K H v d → ∀ {u : Value}, RelV v u → ∃ as, Reads s.heap u d as
  | _, _, .non, _, r => by cases r; exact ⟨_, .none⟩
  | _, _, .bl b, _, r => by cases r; exact ⟨_, .bool b⟩
  | _, _, .int i, _, r => by obtain ⟨t, rfl⟩ := r; exact ⟨_, .int i t⟩
  | _, _, .str x, _, r => by obtain ⟨t, rfl⟩ := r; exact ⟨_, .str x t⟩
  | _, _, .lst hq ha, _, r => by
    cases r
    obtain ⟨its, rv, ⟨o, n, e, c, _, d⟩, _⟩ := I.list hq
    obtain ⟨as, z⟩ := DtAll.reads I ha rv
    exact ⟨_, .list e c d (by simpa using z)⟩
  | _, _, .tup hq ha, _, r => by
    cases r
    obtain ⟨its, rv, ⟨o, e, c, n, d⟩, _⟩ := I.tuple hq
    obtain ⟨as, z⟩ := DtAll.reads I ha rv
    exact ⟨_, .tuple e c d (by simpa using z)⟩
theorem DtAll.reads (I : Inv X pins σ H s) : ∀ {vs : List V} {ds : List PyData}, DtAll X.K H vs ds → ∀ {us : List Value}, Vals vs us → ∃ as, ReadsAll s.heap us ds as
  | _, _, .nil, _, r => by cases r; exact ⟨_, .nil⟩
  | _, _, .cons h t, _, r => by
    cases r with
    | cons r1 r2 =>
      obtain ⟨as, z⟩ := Dt.reads I h r1
      obtain ⟨bs, z'⟩ := DtAll.reads I t r2
      exact ⟨_, .cons z z'⟩
end
end
section
variable {X : Cx}
theorem op_eqD (hu : X.A.units + 64 < cLine) : OpR X (compareOp .Eq) (fun x y H Q => ∃ d e, Dt X.K H x d ∧ Dt X.K H y e ∧ SeqAt.shaped d = true ∧ SeqAt.shaped e = true ∧ Q (.bl (PyData.eqv d e)) H) := by
  intro pins s σ H x y v u Q I rx ry h
  obtain ⟨d, e, h1, h2, s1, s2, q⟩ := h
  obtain ⟨as, r1⟩ := h1.reads I rx
  obtain ⟨bs, r2⟩ := h2.reads I ry
  exact eq_dataH r1 r2 s1 s2 hu ⟨.bl _, H, I, rfl, q⟩
theorem op_neD (hu : X.A.units + 64 < cLine) : OpR X (compareOp .NotEq) (fun x y H Q => ∃ d e, Dt X.K H x d ∧ Dt X.K H y e ∧ SeqAt.shaped d = true ∧ SeqAt.shaped e = true ∧ Q (.bl (!PyData.eqv d e)) H) := by
  intro pins s σ H x y v u Q I rx ry h
  obtain ⟨d, e, h1, h2, s1, s2, q⟩ := h
  obtain ⟨as, r1⟩ := h1.reads I rx
  obtain ⟨bs, r2⟩ := h2.reads I ry
  exact ne_dataH r1 r2 s1 s2 hu ⟨.bl _, H, I, rfl, q⟩
end
theorem for_zip {K : PySem.W.Frag} {b1 b2 : Bool} {l1 l2 : Addr} {xs ys : List V} {g : TG} {tb : TS} {D : Ends} {σ : St} {H : Hp} (Pv : Nat → St → Hp → Prop) (h0 : Pv 0 σ H) (hl : ∀ i σ H, Pv i σ H → SqB K H b1 l1 xs ∧ SqB K H b2 l2 ys)
    (hs : ∀ i x y σ H p, xs[i]? = some x → ys[i]? = some y → Pv i σ H → H p = none → g (.ref p) σ (upd H p (.tup [x, y])) fun σ2 H2 => tb { D with nx := Pv (i + 1), ct := Pv (i + 1), bk := D.nx } σ2 H2) (hd : ∀ σ H, Pv (min xs.length ys.length) σ H → D.nx σ H) :
    ∃ W : Nat → Nat → St → Hp → Prop, (∃ m, W 0 m σ H) ∧ ∀ i m σ H, W i m σ H →
      ((Itz K b1 b2 l1 l2).stop i H ∧ D.nx σ H) ∨ ((Itz K b1 b2 l1 l2).go i H ∧ ∃ N : St → Hp → Prop, (∀ σ' H', N σ' H' → ∃ m', m' < m ∧ W (i + 1) m' σ' H') ∧ ∀ x H', (Itz K b1 b2 l1 l2).yld i H x H' → g x σ H' fun σ2 H2 => tb { D with nx := N, ct := N, bk := D.nx } σ2 H2) := by
  refine ⟨fun i m σ H => m = min xs.length ys.length - i ∧ i ≤ min xs.length ys.length ∧ Pv i σ H, ⟨_, rfl, Nat.zero_le _, h0⟩, ?_⟩
  rintro i m σ H ⟨rfl, hi, p⟩
  obtain ⟨q1, q2⟩ := hl i σ H p
  by_cases hlt : i < min xs.length ys.length
  · have h1 : i < xs.length := by omega
    have h2 : i < ys.length := by omega
    refine .inr ⟨⟨xs, ys, xs[i], ys[i], q1, q2, by simp [h1], by simp [h2]⟩, Pv (i + 1), fun σ' H' p' => ⟨_, by omega, rfl, hlt, p'⟩, fun v H' y => ?_⟩
    obtain ⟨a, x, y, hn, rfl, rfl, e1, e2⟩ := y
    exact hs i x y σ H a (e1 xs q1) (e2 ys q2) p hn
  · have e : i = min xs.length ys.length := by omega
    subst e
    exact .inl ⟨⟨xs, ys, q1, q2, by omega⟩, hd σ H p⟩
theorem comp_list {K : PySem.W.Frag} {a : Addr} {xs : List V} {g : TG} {tt : TT} {te : TE} {Fin : List V → Hp → Prop} {σ : St} {H : Hp} (Pv : Nat → List V → St → Hp → Prop) (h0 : Pv 0 [] σ H) (hz : ∀ i ys σ H, i ≤ xs.length → Pv i ys σ H → ys.length ≤ i) (hx : xs.length ≤ sizeLine) (hl : ∀ i ys σ H, Pv i ys σ H → SqL K H a xs)
    (hs : ∀ i x ys σ H, xs[i]? = some x → Pv i ys σ H → g x σ H fun σ2 H2 => tt σ2 H2 fun b H3 => if b = true then te σ2 H3 fun y H4 => Pv (i + 1) (ys ++ [y]) σ2 H4 else Pv (i + 1) ys σ2 H3)
    (hd : ∀ ys σ H, Pv xs.length ys σ H → Fin ys H) : ∃ W : Nat → Nat → List V → St → Hp → Prop, (∃ m, W 0 m [] σ H) ∧ CompTurns (Itl K a) g tt te Fin W := by
  refine ⟨fun i m ys σ H => m = xs.length - i ∧ i ≤ xs.length ∧ Pv i ys σ H, ⟨_, rfl, Nat.zero_le _, h0⟩, ?_⟩
  rintro i m ys σ H ⟨rfl, hi, p⟩
  have hl' := hz i ys σ H hi p
  have q := hl i ys σ H p
  by_cases hlt : i < xs.length
  · refine .inr ⟨⟨xs, xs[i], q, by simp [hlt]⟩, by omega, Pv (i + 1), fun ys' σ' H' p' => ⟨_, by omega, rfl, hlt, p'⟩, fun v H' y => ?_⟩
    obtain ⟨e, y⟩ := y
    subst e
    exact hs i v ys σ _ (y xs q) p
  · have e : i = xs.length := by omega
    subst e
    exact .inl ⟨⟨xs, q, Nat.le_refl _⟩, by omega, hd ys σ H p⟩
theorem comp_zip {K : PySem.W.Frag} {b1 b2 : Bool} {l1 l2 : Addr} {xs zs : List V} {g : TG} {tt : TT} {te : TE} {Fin : List V → Hp → Prop} {σ : St} {H : Hp} (Pv : Nat → List V → St → Hp → Prop) (h0 : Pv 0 [] σ H) (hz : ∀ i ys σ H, Pv i ys σ H → ys.length ≤ i) (hx : xs.length ≤ sizeLine) (hl : ∀ i ys σ H, Pv i ys σ H → SqB K H b1 l1 xs ∧ SqB K H b2 l2 zs)
    (hs : ∀ i x z ys σ H p, xs[i]? = some x → zs[i]? = some z → Pv i ys σ H → H p = none → g (.ref p) σ (upd H p (.tup [x, z])) fun σ2 H2 => tt σ2 H2 fun b H3 => if b = true then te σ2 H3 fun y H4 => Pv (i + 1) (ys ++ [y]) σ2 H4 else Pv (i + 1) ys σ2 H3)
    (hd : ∀ ys σ H, Pv (min xs.length zs.length) ys σ H → Fin ys H) : ∃ W : Nat → Nat → List V → St → Hp → Prop, (∃ m, W 0 m [] σ H) ∧ CompTurns (Itz K b1 b2 l1 l2) g tt te Fin W := by
  refine ⟨fun i m ys σ H => m = min xs.length zs.length - i ∧ i ≤ min xs.length zs.length ∧ Pv i ys σ H, ⟨_, rfl, Nat.zero_le _, h0⟩, ?_⟩
  rintro i m ys σ H ⟨rfl, hi, p⟩
  have hl' := hz i ys σ H p
  obtain ⟨q1, q2⟩ := hl i ys σ H p
  by_cases hlt : i < min xs.length zs.length
  · have h1 : i < xs.length := by omega
    have h2 : i < zs.length := by omega
    refine .inr ⟨⟨xs, zs, xs[i], zs[i], q1, q2, by simp [h1], by simp [h2]⟩, by omega, Pv (i + 1), fun ys' σ' H' p' => ⟨_, by omega, rfl, hlt, p'⟩, fun v H' y => ?_⟩
    obtain ⟨a, x, y, hn, rfl, rfl, e1, e2⟩ := y
    exact hs i x y ys σ H a (e1 xs q1) (e2 zs q2) p hn
  · have e : i = min xs.length zs.length := by omega
    subst e
    exact .inl ⟨⟨xs, zs, q1, q2, by omega⟩, by omega, hd ys σ H p⟩
end L2
namespace L2
open PySem PySem.Spec PyProof.Rows
def Itq (lo c : Int) (n : Nat) : It := ⟨fun i _ => i < n, fun i H x H' => H' = H ∧ x = .int (lo + i * c), fun i _ => i = n⟩
theorem turn_rangeS {P : Program} {w : World} {K : PySem.W.Frag} {tg : Expr} (it : Addr) (lo c : Int) (n : Nat) : Turn P w K tg (Itq lo c n) [it] it (fun i h => IsRangeIter h it (lo + (i : Nat) * c) ((n : Int) - (i : Nat)) c) where
  mem := by simp
  obj := fun i h st b hb => by
    have e : b = it := by simpa using hb
    subst e
    exact ⟨_, st, fun v z => by
      have z' : Data.fields _ = Data.cell v := z
      cases z'⟩
  keep := fun i h h' st k => k it (by simp) _ st
  item := by
    intro X hP hw hK hc i pins s σ H E I hf st hg
    subst hP hw hK
    obtain ⟨f0, f1, f2, f3, f4, f5⟩ := hf it (by simp)
    refine (Walks.range (prog := X.prog) (w := X.w) (I.ok.hd hc) it lo c n).item i s _ _ hg st fun v h' tk hv st' kk => ?_
    obtain ⟨t, rfl⟩ := hv
    have I1 : Inv X pins σ H { s with heap := h', toks := tk } := I.turned (fun b o hb e => kk b o (by simpa using hb) e) f0 f1 f3 f4 f5
    exact ⟨_, rfl, go_of (s := { s with heap := h', toks := tk }) (n := "range_iterator") st' rfl rfl (by decide) ⟨.int (lo + i * c), H, I1, ⟨t, rfl⟩, ⟨rfl, rfl⟩, st', fun b hb => (hf b hb).1⟩⟩
  done := by
    intro X hP hw hK hc i pins s σ H E I hf st hg
    subst hP hw hK
    obtain ⟨f0, f1, f2, f3, f4, f5⟩ := hf it (by simp)
    have e : i = n := hg
    subst e
    exact (Walks.range (prog := X.prog) (w := X.w) (I.ok.hd hc) it lo c i).done s _ _ st fun h' tk kk => ⟨rfl, I.turned (fun b o hb e => kk b o (by simpa using hb) e) f0 f1 f3 f4 f5⟩
  self := fun _ _ _ _ _ st h => wpAny_pyIter_rangeiter st h
section
variable {X : Cx} {tg : Expr}
def iRng3 (ta : TA) : TI := fun σ H R => ta σ H fun vs H1 => ∃ (a b c : Int) (n : Nat), vs = [.int a, .int b, .int c] ∧ c ≠ 0 ∧ c.natAbs < 1073741824 ∧ Builtin.Range.small a b c = true ∧ Builtin.Range.rangeSize a b c = (n : Int) ∧ R (Itq a c n) H1
theorem pi_range3 {a b c : Expr} {ta : TA} {p pos : Pos} (hg : Gl X "range") (hm : X.mg "range" = none) (ha : PA X [a, b, c] ta) (hs : starEach [a, b, c] X.env = [(false, eval a X.env), (false, eval b X.env), (false, eval c X.env)] := by rfl) (hs2 : starEach [b, c] X.env = [(false, eval b X.env), (false, eval c X.env)] := by rfl) :
    PI X tg (.Call (.Name "range" p) [a, b, c] [] pos) (iRng3 ta) := by
  intro pins s σ H R I h
  refine Call_ (ld_blt I hg hm boot_range (PyProof.Rows.callWith_type1 (thn (ha pos pins s σ H _ I h) fun us s1 ⟨vs, H1, I1, r1, q1⟩ => ?_) (by rw [hs, hs2]) (by rw [hs2]; rfl)))
  obtain ⟨x, y, z, n, rfl, hz, hz', hsm, hn, q⟩ := q1
  cases r1 with
  | cons r rr => cases rr with
    | cons r' rr => cases rr with
      | cons r'' rr =>
        cases rr
        obtain ⟨t, rfl⟩ := r
        obtain ⟨t', rfl⟩ := r'
        obtain ⟨t'', rfl⟩ := r''
        refine PySem.call_range_3 hz ?_ (.inl (PyProof.noPylong_small hz'))
        refine wpAny_pyIter_range (IsRange.new ..) hsm ?_
        have I2 : Inv X pins σ H1 { s1 with heap := s1.heap.push { cls := .type "range", data := .fields #[.int x t, .int y t', .int z t''] } } := I1.kept (t' := s1.toks) fun b o e => Heap.get?_push_of_some _ e
        refine ⟨_, [(s1.heap.push { cls := .type "range", data := .fields #[.int x t, .int y t', .int z t''] }).objs.size], _, _, H1, rfl, I2.kept (t' := s1.toks) fun b o e => Heap.get?_push_of_some _ e, turn_rangeS _ x z n, ?_, fun b hb => ?_, q⟩
        · have e1 : x + ((0 : Nat) : Int) * z = x := by simp
          have e2 : (n : Int) - ((0 : Nat) : Int) = Builtin.Range.rangeSize x y z := by rw [hn]; simp
          show IsRangeIter _ _ (x + ((0 : Nat) : Int) * z) ((n : Int) - ((0 : Nat) : Int)) z
          rw [e1, e2]
          exact Heap.get?_push_size _ rfl
        · have e := List.mem_singleton.mp hb
          subst e
          exact I2.fpOk (Nat.le_refl _) (I2.hok.fresh (Nat.le_refl _))
end
theorem for_rangeS {lo c : Int} {n : Nat} {g : TG} {tb : TS} {D : Ends} {σ : St} {H : Hp} (Pv : Nat → St → Hp → Prop) (h0 : Pv 0 σ H)
    (hs : ∀ i σ H, i < n → Pv i σ H → g (.int (lo + i * c)) σ H fun σ2 H2 => tb { D with nx := Pv (i + 1), ct := Pv (i + 1), bk := D.nx } σ2 H2) (hd : ∀ σ H, Pv n σ H → D.nx σ H) :
    ∃ W : Nat → Nat → St → Hp → Prop, (∃ m, W 0 m σ H) ∧ ∀ i m σ H, W i m σ H →
      ((Itq lo c n).stop i H ∧ D.nx σ H) ∨ ((Itq lo c n).go i H ∧ ∃ N : St → Hp → Prop, (∀ σ' H', N σ' H' → ∃ m', m' < m ∧ W (i + 1) m' σ' H') ∧ ∀ x H', (Itq lo c n).yld i H x H' → g x σ H' fun σ2 H2 => tb { D with nx := N, ct := N, bk := D.nx } σ2 H2) := by
  refine ⟨fun i m σ H => m = n - i ∧ i ≤ n ∧ Pv i σ H, ⟨n, rfl, Nat.zero_le _, h0⟩, ?_⟩
  rintro i m σ H ⟨rfl, hi, p⟩
  by_cases hlt : i < n
  · refine .inr ⟨hlt, Pv (i + 1), fun σ' H' p' => ⟨n - (i + 1), by omega, rfl, hlt, p'⟩, fun x H' y => ?_⟩
    obtain ⟨rfl, rfl⟩ := y
    exact hs i σ _ hlt p
  · have e : i = n := by omega
    subst e
    exact .inl ⟨rfl, hd σ H p⟩
def KD (P : Program) (w : World) (K : PySem.W.Frag) (a : Addr) (kvs : List (Key × V)) : Prop := ∀ h : Heap, K.In h → (a == sysModules) = false ∧ ∃ vs, KV kvs vs ∧ h.DictOf (mixKind P w) a vs
theorem kd_pairs {P : Program} {w : World} : ∀ {rows : List (Str × Tok × V × Value)}, Pairs (mixKind P w) (rows.map fun r => ⟨hashStr w r.1, .str r.1 r.2.1, r.2.2.2⟩) (rows.map fun r => ((Sum.inr r.1 : Key), r.2.2.2))
  | [] => .nil
  | r :: rs => .cons (by show Value.isStrOf r.1 (.str r.1 r.2.1) = true; simp [Value.isStrOf]) rfl kd_pairs
theorem kd_rel : ∀ {rows : List (Str × Tok × V × Value)}, (∀ r ∈ rows, RelV r.2.2.1 r.2.2.2) → KV (rows.map fun r => ((Sum.inr r.1 : Key), r.2.2.1)) (rows.map fun r => ((Sum.inr r.1 : Key), r.2.2.2))
  | [], _ => .nil
  | r :: rs, h => .cons ⟨rfl, h r List.mem_cons_self⟩ (kd_rel fun q hq => h q (List.mem_cons_of_mem _ hq))
theorem KD.mk {P : Program} {w : World} {K : PySem.W.Frag} {a : Addr} {es : Array DictEntry} {n : Nat} (rows : List (Str × Tok × V × Value)) (lk : K.lookup a = some ⟨.type "dict", none, .dict es n, #[]⟩) (hne : (a == sysModules) = false)
    (hes : es.toList = rows.map fun r => ⟨hashStr w r.1, .str r.1 r.2.1, r.2.2.2⟩) (hr : ∀ r ∈ rows, RelV r.2.2.1 r.2.2.2) (nd : (rows.map (·.1)).Nodup) : KD P w K a (rows.map fun r => ((Sum.inr r.1 : Key), r.2.2.1)) := fun h hK => by
  refine ⟨hne, _, kd_rel hr, _, es, n, hK a _ lk, ⟨rfl, rfl, rfl⟩, rfl, fun e he => ?_, by rw [hes]; exact kd_pairs, ?_⟩
  · have he' : e ∈ es.toList := by simpa using he
    rw [hes] at he'
    obtain ⟨r, _, rfl⟩ := List.mem_map.mp he'
    exact ⟨.inr r.1, by show Value.isStrOf r.1 (.str r.1 r.2.1) = true; simp [Value.isStrOf], rfl⟩
  · rw [List.map_map]
    have e : ((fun x : Key × Value => x.1) ∘ fun r : Str × Tok × V × Value => ((Sum.inr r.1 : Key), r.2.2.2)) = (fun x : Str => (Sum.inr x : Key)) ∘ (fun r : Str × Tok × V × Value => r.1) := rfl
    rw [e, ← List.map_map]
    exact List.Pairwise.map _ (fun a b h q => h (Sum.inr.inj q)) nd
section
variable {X : Cx}
theorem op_in_kd : OpR X (compareOp .In) (fun x y H Q => ∃ a kvs k, y = .ref a ∧ KD X.prog X.w X.K a kvs ∧ x = kV k ∧ Q (.bl (valV kvs k).isSome) H) := by
  intro pins s σ H x y v u Q I rx ry h
  obtain ⟨a, kvs, k, rfl, hd, rfl, q⟩ := h
  cases ry
  obtain ⟨ne, vs, rel, dd⟩ := hd s.heap I.kIn
  refine wpAny_in_of (kV_is rx) ne dd.mapOf ⟨.bl _, H, I.tok _, ?_, q⟩
  rw [← (rel.val k).isSome_eq]
  rfl
theorem ix_kd : IxR X (fun x y H Q => ∃ a kvs k v, x = .ref a ∧ KD X.prog X.w X.K a kvs ∧ y = kV k ∧ valV kvs k = some v ∧ Q v H) := by
  intro value slice pins s σ H x y v u Q I rx ry h hs
  obtain ⟨a, kvs, k, z, rfl, hd, rfl, e, q⟩ := h
  cases rx
  obtain ⟨ne, vs, rel, dd⟩ := hd s.heap I.kIn
  obtain ⟨w', hw, rw'⟩ := RelO.some_of (v := z) (o := valueAt vs k) (by rw [← e]; exact rel.val k)
  exact tail_any dd.typeIs PySem.F.slot_dict_getitem.lookup (wpAny_getItem_of (kV_is ry) dd.mapOf hw ⟨z, H, I.tok _, rw', q⟩) hs
end
end L2
namespace L2
open PySem PySem.Spec PyProof.Rows PySem.NumText
def wl : List Nat → List Nat → List (List Nat)
  | [], cur => if cur = [] then [] else [cur]
  | c :: r, cur => if c = 32 then (if cur = [] then wl r [] else cur :: wl r []) else wl r (cur ++ [c])
theorem wl_word : ∀ (p r cur : List Nat), 32 ∉ p → wl (p ++ r) cur = wl r (cur ++ p)
  | [], r, cur, _ => by simp
  | c :: p, r, cur, h => by
    have h1 : c ≠ 32 := fun e => h (by simp [e])
    have h2 : 32 ∉ p := fun e => h (by simp [e])
    show (if c = 32 then (if cur = [] then wl (p ++ r) [] else cur :: wl (p ++ r) []) else wl (p ++ r) (cur ++ [c])) = _
    rw [if_neg h1, wl_word p r _ h2, List.append_assoc]
    rfl
theorem wl_end (p r : List Nat) (h : 32 ∉ p) : wl (p ++ 32 :: r) [] = (if p = [] then [] else [p]) ++ wl r [] := by
  rw [wl_word p _ _ h, List.nil_append]
  show (if (32 : Nat) = 32 then _ else _) = _
  rw [if_pos rfl]
  split <;> simp [*]
theorem wl_last (p : List Nat) (h : 32 ∉ p) : wl p [] = if p = [] then [] else [p] := by
  have := wl_word p [] [] h
  rw [List.append_nil, List.nil_append] at this
  exact this
theorem wl_tail : ∀ (t cur : List Nat), (∀ c ∈ t, c = 32) → wl t cur = if cur = [] then [] else [cur]
  | [], cur, _ => rfl
  | c :: t, cur, h => by
    have e : c = 32 := h c (by simp)
    have ih := wl_tail t [] fun d hd => h d (by simp [hd])
    rw [if_pos rfl] at ih
    show (if c = 32 then _ else _) = _
    rw [if_pos e, ih]
theorem wl_back : ∀ (a t cur : List Nat), (∀ c ∈ t, c = 32) → wl (a ++ t) cur = wl a cur
  | [], t, cur, h => wl_tail t cur h
  | c :: a, t, cur, h => by
    show (if c = 32 then (if cur = [] then wl (a ++ t) [] else cur :: wl (a ++ t) []) else wl (a ++ t) (cur ++ [c])) = (if c = 32 then (if cur = [] then wl a [] else cur :: wl a []) else wl a (cur ++ [c]))
    rw [wl_back a t [] h, wl_back a t _ h]
theorem wl_front : ∀ (t a : List Nat), (∀ c ∈ t, c = 32) → wl (t ++ a) [] = wl a []
  | [], a, _ => rfl
  | c :: t, a, h => by
    have e : c = 32 := h c (by simp)
    show (if c = 32 then _ else _) = _
    rw [if_pos e, if_pos rfl]
    exact wl_front t a fun d hd => h d (by simp [hd])
theorem app_signs (a y : Str) : (a ++ y).cps.toList = a.cps.toList ++ y.cps.toList := by rw [Str.cps_append, Array.toList_append]
theorem empty_iff {p : Str} : p = "" ↔ p.cps.toList = [] := by
  constructor
  · intro h; rw [h]; rfl
  · intro h; exact PyProof.Rows.ext_toList (by rw [h]; rfl)
theorem join_words : ∀ ps : List Str, (∀ p ∈ ps, 32 ∉ p.cps.toList) → wl (Str.join ⟨#[32]⟩ ps).cps.toList [] = (ps.filter fun p : Str => !decide (p = "")).map fun p => p.cps.toList
  | [], _ => rfl
  | [x], h => by
    have hx := h x (by simp)
    show wl x.cps.toList [] = _
    rw [wl_last _ hx]
    by_cases e : x = ""
    · rw [if_pos (empty_iff.mp e)]; simp [e]
    · rw [if_neg fun z => e (empty_iff.mpr z)]; simp [e]
  | x :: y :: r, h => by
    have hx := h x (by simp)
    have ih := join_words (y :: r) fun p hp => h p (by simp [hp])
    show wl ((x ++ ⟨#[32]⟩ ++ Str.join ⟨#[32]⟩ (y :: r) : Str).cps.toList) [] = _
    rw [app_signs, app_signs, List.append_assoc]
    show wl (x.cps.toList ++ 32 :: (Str.join ⟨#[32]⟩ (y :: r)).cps.toList) [] = _
    rw [wl_end _ _ hx, ih]
    generalize y :: r = yr
    by_cases e : x = ""
    · rw [if_pos (empty_iff.mp e), List.filter_cons]; simp [e]
    · rw [if_neg fun z => e (empty_iff.mpr z), List.filter_cons]; simp [e]
def wordsIn (x : Str) : List Str := (Txt.split x ⟨#[32]⟩).filter fun p : Str => !decide (p = "")
theorem wordsIn_signs (x : Str) : (wordsIn x).map (fun p => p.cps.toList) = wl x.cps.toList [] := by
  have j := join_words (Txt.split x ⟨#[32]⟩) (StrLaws.split_free x 32)
  rw [StrLaws.join_split] at j
  exact j.symm
theorem wordsIn_eq {x : Str} {ws : List Str} (h : wl x.cps.toList [] = ws.map fun p => p.cps.toList) : wordsIn x = ws := by
  have e := (wordsIn_signs x).trans h
  have inj : Function.Injective (fun p : Str => p.cps.toList) := fun a b e => PyProof.Rows.ext_toList e
  exact (List.map_inj_right (f := fun p : Str => p.cps.toList) (fun a b e => PyProof.Rows.ext_toList e)).mp e
theorem not_sp : ∀ c : Nat, c < 127 → 33 ≤ c → spS ⟨#[c]⟩ = false := by decide +kernel
theorem wl_rstrip {x : Str} (h : ∀ c ∈ x.cps.toList, 32 ≤ c ∧ c < 127) : wl (Txt.rstrip x).cps.toList [] = wl x.cps.toList [] := by
  obtain ⟨hi, h1, h2, h3, _⟩ := rstrip_cut (x := x) fun c hc => by have := h c hc; omega
  rw [h2, StrLaws.strSub_toList, List.drop_zero, Nat.sub_zero]
  conv => rhs; rw [← List.take_append_drop hi x.cps.toList]
  refine (wl_back _ _ _ fun c hc => ?_).symm
  obtain ⟨k, hk, e⟩ := List.mem_iff_getElem.mp hc
  rw [List.getElem_drop] at e
  have hk' : hi + k < x.length := by
    rw [List.length_drop] at hk
    have hl : x.cps.toList.length = x.length := Array.length_toList
    omega
  have hs := h3 (hi + k) (by omega) hk'
  have hg : x.cps.getD (hi + k) 0 = c := by
    rw [← e]
    have hk2 : hi + k < x.cps.size := hk'
    simp [Array.getD, hk2]
  rw [hg] at hs
  have hb := h c (List.mem_of_mem_drop hc)
  by_cases e32 : c = 32
  · exact e32
  · rw [not_sp c hb.2 (by omega)] at hs
    cases hs
theorem num_head : ∀ m : Nat, 0 < m → ∃ c r, Nat.toDigits 10 m = c :: r ∧ c ≠ '0' := by
  intro m
  induction m using Nat.strongRecOn with
  | _ m ih =>
    intro hm
    by_cases h : m < 10
    · rw [Nat.toDigits_of_lt_base h]
      refine ⟨_, [], rfl, ?_⟩
      have : ∀ d : Nat, d < 10 → 0 < d → Nat.digitChar d ≠ '0' := by decide
      exact this m h hm
    · have hr : m % 10 < 10 := Nat.mod_lt m (by decide)
      have t : Nat.toDigits 10 (m / 10) ++ Nat.toDigits 10 (m % 10) = Nat.toDigits 10 (10 * (m / 10) + m % 10) := Nat.toDigits_append_toDigits (by decide) (by omega) hr
      rw [Nat.div_add_mod] at t
      obtain ⟨c, r, e, hc⟩ := ih (m / 10) (by omega) (by omega)
      rw [← t, e]
      exact ⟨c, _, rfl, hc⟩
theorem num_signs {n : Int} (h0 : 0 ≤ n) (h1 : n < 10 ^ 30) : let x : Str := Str.ofString (toString n)
    1 ≤ x.length ∧ x.length ≤ 30 ∧ AllDigits x.cps.toList ∧ digitsVal x.cps.toList = n.toNat ∧ ¬ (x.cps.toList.head? = some 48 ∧ ¬ x = "0") := by
  have hl : (Str.ofString (toString n)).length ≤ 30 := toString_length_le h0 (by decide) h1
  obtain ⟨m, rfl⟩ := Int.eq_ofNat_of_zero_le h0
  have es := PySem.W.KIN.signs_num m
  have ll : (Str.ofString (toString (m : Int))).cps.toList.length = (Str.ofString (toString (m : Int))).length := Array.length_toList
  refine ⟨?_, hl, ?_, ?_, ?_⟩
  · rw [← ll, es, List.length_map]
    exact toDigits_len_ge 10 m
  · intro c hc
    rw [es] at hc
    obtain ⟨ch, hch, e⟩ := List.mem_map.mp hc
    rw [← e]
    exact PyProof.Rows.digit_range (Nat.isDigit_of_mem_toDigits (by decide) (by decide) hch)
  · rw [es, PySem.W.KIN.val_back]
    rfl
  · rintro ⟨e1, e2⟩
    by_cases hm : m = 0
    · subst hm
      exact e2 (by decide +kernel)
    · obtain ⟨c, r, e, hc⟩ := num_head m (by omega)
      rw [es, e] at e1
      have e3 : c.toNat = 48 := Option.some.inj e1
      apply hc
      have : c = Char.ofNat c.toNat := (Char.ofNat_toNat c).symm
      rw [this, e3]
theorem pg_tupC {X : Cx} {pins : List (Addr × Obj)} {Nc : List Str} {scope : Scope} {fp : List Addr} {s : Shared} {H : Hp} {C : Addr} {es : List Expr} {k : Nat} {t : TGs} {pos : Pos} (n : Nat) (hc : X.calm = true) (h : PGs (X.comp pins Nc scope fp s H C) es t)
    (hn : (assignEach es (X.comp pins Nc scope fp s H C).env).length = n := by rfl) (hst : (assignEach es (X.comp pins Nc scope fp s H C).env).findIdx? (·.1) = none := by rfl) : PG (X.comp pins Nc scope fp s H C) (.Tuple es k pos) (gTup X.K n t) :=
  pg_tup (X := X.comp pins Nc scope fp s H C) hc h hn hst
theorem join2c {α β : Type} {P R : α → β → Prop} {c A B : Prop} {inst : Decidable c} {w : α} {z : β} (hw : ¬ c → P w z) (rest : ∀ w z, P w z → R w z) (h : c → (∀ w z, P w z → R w z) → A) (e : B = R w z := by rfl) : @ite Prop c inst A B := by
  subst e
  by_cases hc : c
  · rw [if_pos hc]; exact h hc rest
  · rw [if_neg hc]; exact rest w z (hw hc)
end L2
namespace L2
open PySem PySem.Spec PyProof.Rows PySem.W
section
variable {prog : Program} {w : World} {A : Around} {R : Result → Shared → Prop} {E : Value → Shared → Prop} {h : Heap} {g : Array GenState} {d : Drawn} {t : Nat} {os : OsState}
variable {nm q : Str} {C N f : Addr} {bs bm : List Value} {hdct : Bool} {sn : List Str} {sub : List Value} {ab : Bool} {col : Option Bool} {dd : Option Addr} {k0 k1 k2 k3 k5 : Option Value}
abbrev excObj0 (C t : Addr) : Obj := { cls := .ref C, data := .fields #[.ref t, .none, .none, .none, .bool false, .none] }
abbrev excHeap (h : Heap) (C : Addr) (rest : List Value) : Heap := (h.push { cls := .type "tuple", data := .seq rest.toArray }).push (excObj0 C h.objs.size)
theorem xc_check {M : Model} {rest : List Value} {Q : Unit → Shared → Prop} (hV : bm.contains (.type "ValueError") = true) (hC : h.get? C = some (excClassObj nm q C N bs bm hdct sn sub ab col dd k0 k1 k2 k3 k5 "ValueError.__new__"))
    (hq : Q () ⟨h, g, d, t, os⟩) : wpAny M A (checkBuiltinCall "ValueError.__new__" ⟨.ref C :: rest, []⟩) Q E ⟨h, g, d, t, os⟩ := by
  have F := PySem.F.excBase_ValueError
  have hc : (Value.ref C :: bm).contains (.type "ValueError") = true := by
    rw [List.contains_cons, hV]
    exact Bool.or_true _
  have st := F.noStar
  simp only [checkBuiltinCall, F.newKind, F.newRow, F.newSplit]
  repeat (first | (refine wpAny_isSubtype_exc hC ?_; rw [hc]) | refine wpAny_loadPart_at hC ?_ | refine wpAny_madeBy_exc hC ?_ | refine wpAny_staticBase_exc hC ?_ | simp only [Bool.false_eq_true, bne_self_eq_false, if_false] | wp_step)
  exact hq
theorem xc_new {rest : List Value} (hV : bm.contains (.type "ValueError") = true) (hA : bm.contains (.type "AttributeError") = false) (hN : bm.contains (.type "NameError") = false)
    (hC : h.get? C = some (excClassObj nm q C N bs bm hdct sn sub ab col dd k0 k1 k2 k3 k5 "ValueError.__new__"))
    (hq : R (.ok (.ret (.ref (h.objs.size + 1)))) ⟨excHeap h C rest, g, d, t, os⟩) (hrest : rest.length ≤ sizeLine) :
    codeAny (model prog w) A (.builtin "ValueError.__new__" ⟨.ref C :: rest, []⟩) R ⟨h, g, d, t, os⟩ := by
  have F := PySem.F.excBase_ValueError
  have he := F.ends
  have c1 : (Value.ref C :: bm).contains (.type "ValueError") = true := by
    rw [List.contains_cons, hV]
    exact Bool.or_true _
  have c2 : (Value.ref C :: bm).contains (.type "AttributeError") = false := by
    rw [List.contains_cons, hA]
    rfl
  have c3 : (Value.ref C :: bm).contains (.type "NameError") = false := by
    rw [List.contains_cons, hN]
    rfl
  refine codeAny_builtinAt F.entry ?_
  unfold Builtin.«BaseException.__new__»
  refine PySem.wpAt_bind ?_
  show PySem.wpAt _ _ _ (stack >>= _) _ _ _
  refine PySem.wpAt_bind (PySem.wpAt_stack fun _ _ => PySem.wpAt_of_wpAny ?_)
  wp_walk
  refine PySem.wpAt_of_wpAny ?_
  rw [F.owner]
  repeat (first | with_reducible refine wpAny_loadPart_at hC ?_ | with_reducible refine wpAny_madeHere_exc F.canon hC ?_ | (with_reducible refine wpAny_isSubtype_exc hC ?_; first | rw [c1] | rw [c2] | rw [c3]) | wp_step)
  show R _ _
  rw [Heap.size_push]
  exact hq
theorem xc_call {rest : List Value} (hV : bm.contains (.type "ValueError") = true) (hA : bm.contains (.type "AttributeError") = false) (hN : bm.contains (.type "NameError") = false)
    (hC : h.get? C = some (excClassObj nm q C N bs bm hdct sn sub ab col dd k0 k1 k2 k3 k5 "ValueError.__new__"))
    (hi : Looks (model prog w) h (typeLookup (.ref C) "__init__") (some (.ref f))) (hb : ∀ self, Looks (model prog w) h (bindSpecial (.ref f) self) (.ref f, [self])) (hrest : rest.length ≤ sizeLine)
    (hq : codeAny (model prog w) (A.under (.builtin "type.__call__" ⟨.ref C :: rest, []⟩)) (.call (.ref f) ⟨.ref (h.objs.size + 1) :: rest, []⟩) (InitBack (h.objs.size + 1) R) ⟨excHeap h C rest, g, d, t, os⟩) :
    codeAny (model prog w) A (.call (.ref C) ⟨rest, []⟩) R ⟨h, g, d, t, os⟩ := by
  have f1 := tc_lookup
  have f2 := tc_bind (.ref C)
  have hT : (⟨h, g, d, t, os⟩ : Shared).TypeIs (.ref C) "type" := ⟨_, hC, rfl⟩
  refine codeAny_of_tree ?_
  show wpAny _ _ (callAny (.ref C) _) _ _ _
  repeat (any_goals (first | assumption | with_reducible refine wpAny_loadPart_at hC ?_ | wp_step))
  refine ⟨rfl, ?_⟩
  refine codeAny_call_builtin_at (Code.quiet_builtin _ (by decide +kernel)) entry_typeCall (wpAny_check_type_call_sub hC ?_)
  repeat (first | with_reducible refine wpAny_madeBy_exc hC ?_ | with_reducible refine wpAny_loadPart_at hC ?_ | wp_step)
  have F := PySem.F.excBase_ValueError
  refine codeAny_call_builtin_code (Code.quiet_builtin _ F.quiet) (xc_check hV hC ?_)
  refine xc_new hV hA hN hC ?_ hrest
  have kp : ∀ b o, h.get? b = some o → (excHeap h C rest).get? b = some o := fun b o e => Heap.get?_push_of_some _ (Heap.get?_push_of_some _ e)
  have hget : (excHeap h C rest).get? (h.objs.size + 1) = some (excObj0 C h.objs.size) := by heap_get
  have c0 : (Value.ref C :: bm).contains (.ref C) = true := by simp
  show wpAny _ _ _ _ _ _
  unfold isInstance
  repeat (first | with_reducible refine wpAny_loadPart_at hget ?_ | wp_step)
  show wpAny _ _ (isSubtype (.ref C) _) _ _ _
  refine wpAny_isSubtype_exc (kp _ _ hC) ?_
  rw [c0]
  unfold callSpecial? specialOf
  repeat (first | with_reducible refine wpAny_loadPart_at hget ?_ | wp_step)
  show wpAny _ _ (typeLookup (.ref C) _) _ _ _
  refine hi.keeps kp _ _ _ _ (fun _ _ e => e) ?_
  refine wpAny_holding (wpAny_bind ((hb (.ref (h.objs.size + 1))).keeps kp _ _ _ _ (fun _ _ e => e) ?_))
  refine wpAny_bind (wpAny_call (codeAny_mono hq fun r s' z => ?_))
  rcases r with e | (v | _ | _ | _) <;> first | exact z | exact z.elim | skip
  obtain ⟨rfl, z⟩ := z
  wp_walk
  exact z
end
end L2
namespace L2
open PySem PySem.Spec PyProof.Rows PySem.W
section
variable {prog : Program} {w : World} {A : Around} {R : Result → Shared → Prop} {E : Value → Shared → Prop} {h : Heap} {g : Array GenState} {d : Drawn} {t : Nat} {os : OsState}
variable {nm q : Str} {C N x : Addr} {bs bm : List Value} {sn : List Str} {sub : List Value} {ab : Bool} {col : Option Bool} {dd : Option Addr} {k0 k1 k2 k3 k5 : Option Value} {newId : String} {name : Str} {v : Value} {o : Obj} {fs : Array Value}
theorem xc_store {Q : Unit → Shared → Prop} (hx : h.get? x = some o) (hc : o.cls = .ref C) (hdn : o.dict = none) (hdt : o.data = .fields fs) (hC : h.get? C = some (excClassObj nm q C N bs bm true sn sub ab col dd k0 k1 k2 k3 k5 newId))
    (hob : bm.contains (.type "object") = true) (hpass : ∀ self, refuseLoop self "__setattr__" bm = pure ()) (L1 : Looks (model prog w) h (typeLookup (.ref C) name) none) (L2 : Looks (model prog w) h (typeLookup (.ref C) "__setattr__") (some (.builtin "object.__setattr__")))
    (hq : ∀ h' tk', h'.Ns1 h.objs.size (fun y => if y = name then some v else none) → h'.get? x = some { o with dict := some h.objs.size } → (∀ b ob, b ≠ x → h.get? b = some ob → h'.get? b = some ob) → Q () ⟨h', g, d, tk', os⟩) :
    wpAny (model prog w) A (setAttr (.ref x) name v) Q E ⟨h, g, d, t, os⟩ := by
  have SF := PySem.F.store_ValueError
  have f3 := SF.slot.bind (.ref x)
  have hxs : x ≠ h.objs.size := Nat.ne_of_lt (Heap.lt_size hx)
  have T0 : Looks (model prog w) h (typeOf (.ref x)) (.ref C) := by
    have : Looks (model prog w) h (typeOf (.ref x)) o.cls := (Looks.ld hx).andThen .now
    rw [hc] at this
    exact this
  have M0 : Looks (model prog w) h (mroOf (.ref C)) (.ref C :: bm) := ((Looks.ld (part := none) hC).andThen .now).andThen .now
  have S0 : Looks (model prog w) h (isInstance (.ref x) (.type "object")) true := by
    refine T0.andThen ?_
    intro A' Q' E' s' kk qq
    obtain ⟨h2, g2, d2, t2, os2⟩ := s'
    refine wpAny_isSubtype_exc (kk _ _ hC) ?_
    rw [List.contains_cons, hob, Bool.or_true]
    exact qq
  unfold setAttr callSpecial? specialOf
  refine wpAny_bind (wpAny_mkText ?_)
  show wpAny _ _ _ _ _ ⟨h, g, d, t + 1, os⟩
  have here : ∀ {α : Type} {A' : Around} {p : Sem α} {r : α} {Q' : α → Shared → Prop} {E' : Value → Shared → Prop}, Looks (model prog w) h p r → Q' r ⟨h, g, d, t + 1, os⟩ → wpAny (model prog w) A' p Q' E' ⟨h, g, d, t + 1, os⟩ := fun L qq => L _ _ _ _ (fun _ _ e => e) qq
  refine wpAny_bind (wpAny_bind (wpAny_bind (here T0 (here L2 ?_))))
  refine wpAny_holding (wpAny_bind (wpAny_of_eq f3 (wpAny_bind (wpAny_call ?_))))
  show codeAny (model prog w) A (.call (.builtin "object.__setattr__") ⟨[.ref x, .str name t, v], []⟩) _ ⟨h, g, d, t + 1, os⟩
  refine codeAny_call_builtin SF.slot.plain SF.entry (@check_slot (model prog w) _ _ ⟨h, g, d, t + 1, os⟩ "object.__setattr__" "object" "__setattr__" (.ref x) [.str name t, v] [] _ SF.kind SF.split S0 (SF.args (.ref x) (.str name t) v) ?_)
  rw [osa_eq, refuse_eq]
  refine wpAny_bind (wpAny_bind (here T0 (wpAny_bind (here M0 ?_))))
  rw [refuseLoop_ref, hpass]
  refine wpAny_pure (wpAny_bind (here T0 (wpAny_bind (here L1 (wpAny_bind (wpAny_pure ?_))))))
  unfold Builtin.ObjectAttr.storeInOwnDict Builtin.ObjectAttr.ownDictForStores instanceDict
  repeat (first | (with_reducible refine wpAny_loadPart_at hx ?_; rw [hc]) | with_reducible refine wpAny_loadPart_at hC ?_ | wp_step)
  rw [hdn, hdt]
  dsimp only
  rw [if_neg (show ¬ (!true || !typeHasDict (Value.ref C)) = true by simp [typeHasDict])]
  refine wpAny_bind (wpAny_alloc' ?_)
  have hx1 : (h.push { cls := .type "dict", data := .dict #[] }).get? x = some o := Heap.get?_push_of_some _ hx
  refine wpAny_bind (wpAny_update' hx1 ?_)
  refine wpAny_pure ?_
  have hx2 : ((h.push { cls := .type "dict", data := .dict #[] }).update x fun o => { cls := o.cls, dict := some h.objs.size, data := o.data, slots := o.slots }).get? x = some { o with dict := some h.objs.size } := by
    refine Heap.get?_update_self _ hx1 ?_
    exact Obj.isFreed_of_fields (vs := fs) hdt
  have hd2 : ((h.push { cls := .type "dict", data := .dict #[] }).update x fun o => { cls := o.cls, dict := some h.objs.size, data := o.data, slots := o.slots }).Ns h.objs.size (fun _ => none) :=
    ⟨_, #[], _, (Heap.get?_update_ne _ _ _ _ hxs.symm).trans (Heap.get?_push_at rfl rfl), rfl, fun e he => absurd he (by simp), fun _ => rfl⟩
  show wpAny _ _ (Builtin.ObjectAttr.storeInDict h.objs.size (.str name t) name v) _ _ _
  unfold Builtin.ObjectAttr.storeInDict Builtin.ObjectAttr.newKeyGuard
  refine wpAny_bind (wpAny_pure (wpAny_bind (wpAny_nsSet1 (Heap.Ns1.of_empty hd2) fun h' hn' hs => ?_)))
  obtain ⟨oD, esD, epD, hoD, hdD, hcD⟩ := hn'.count (Within.cons name v Within.nil)
  refine wpAny_bind (wpAny_lookBehind hoD (by rw [hdD]; exact pastItsLine_dict (Nat.le_trans hcD (by rw [List.length_cons, List.length_nil, sizeLine_eq]; omega))) ?_)
  wp_walk
  refine hq h' _ ?_ ((hs.2 x hxs).trans hx2) (fun b ob hbx hb => ?_)
  · obtain ⟨o', es, ep, e1, e2, e3, eu, e4⟩ := hn'
    exact ⟨o', es, ep, e1, e2, e3, eu, fun y => by rw [e4 y]⟩
  · exact (hs.2 b (Nat.ne_of_lt (Heap.lt_size hb))).trans ((Heap.get?_update_ne _ _ _ _ hbx).trans (Heap.get?_push_of_some _ hb))
end
end L2
namespace L2
open PySem PySem.Spec PyProof.Rows PySem.W
section
variable {prog : Program} {w : World} {A : Around} {R : Result → Shared → Prop} {E : Value → Shared → Prop} {h : Heap} {g : Array GenState} {d : Drawn} {t : Nat} {os : OsState}
variable {nm q : Str} {C N e : Addr} {bs bm : List Value} {hdct : Bool} {sn : List Str} {sub : List Value} {ab : Bool} {col : Option Bool} {dd : Option Addr} {k0 k1 k2 k3 k5 : Option Value} {newId : String} {oe : Obj}
theorem xc_check_init {M : Model} {rest : List Value} {Q : Unit → Shared → Prop} (hV : bm.contains (.type "ValueError") = true) (hC : h.get? C = some (excClassObj nm q C N bs bm hdct sn sub ab col dd k0 k1 k2 k3 k5 newId)) (he : h.get? e = some oe) (hc : oe.cls = .ref C)
    (hq : Q () ⟨h, g, d, t, os⟩) : wpAny M A (checkBuiltinCall "ValueError.__init__" ⟨.ref e :: rest, []⟩) Q E ⟨h, g, d, t, os⟩ := by
  have F := PySem.F.excBase_ValueError
  have c1 : (Value.ref C :: bm).contains (.type "ValueError") = true := by
    rw [List.contains_cons, hV]
    exact Bool.or_true _
  have hs := F.noStar
  simp only [checkBuiltinCall, F.initSplit, F.initKind, F.initRow]
  repeat (first | (with_reducible refine wpAny_isSubtype_exc hC ?_; rw [c1]) | with_reducible refine wpAny_loadPart_at hC ?_ | (with_reducible refine wpAny_loadPart_at he ?_; rw [hc]) | wp_step)
  refine wpAny_onRaise ?_
  have z : ∀ (a b : String) (n : Nat), Bind.check ⟨.positional, "*", "ValueError", .self, [⟨"args", .varPos, false⟩]⟩ a b n (List.map (fun x => x.fst) ({ pos := Value.ref e :: rest } : Args).kw) = pure () := fun a b n => check_star_args _ _ _ _ _ _
  rw [z]
  exact wpAny_pure hq
theorem xc_init {z : Value} {t0 : Addr} {Q : Value → Shared → Prop} (hV : bm.contains (.type "ValueError") = true) (hC : h.get? C = some (excClassObj nm q C N bs bm hdct sn sub ab col dd k0 k1 k2 k3 k5 newId)) (he : h.get? e = some (excObj0 C t0))
    (hq : ∀ h' t1, (∀ b o, b ≠ e → h.get? b = some o → h'.get? b = some o) → h'.get? e = some (excObj0 C t1) → Q .none ⟨h', g, d, t, os⟩) :
    wpAny (model prog w) A (call (.builtin "ValueError.__init__") [.ref e, z]) Q E ⟨h, g, d, t, os⟩ := by
  have F := PySem.F.excBase_ValueError
  refine wpAny_call (codeAny_call_builtin F.init.plain F.initEntry (xc_check_init hV hC he rfl ?_))
  wp_walk
  refine hq _ h.objs.size (fun b o hb e => ?_) ?_
  · rw [Heap.get?_update_other _ _ (Ne.symm hb)]
    exact Heap.get?_push_of_some _ e
  · rw [Heap.get?_update_self _ (Heap.get?_push_of_some _ he) rfl]
    rfl
end
end L2
namespace L2
open PySem PySem.Spec PyProof.Rows PySem.W
def XO0 (C a : Addr) : HO := .ext fun h => ∃ t, h.get? a = some (excObj0 C t)
def XO1 (C a dx : Addr) : HO := .ext fun h => ∃ t, h.get? a = some { excObj0 C t with dict := some dx }
structure XCls (K : PySem.W.Frag) (C f : Addr) : Prop where
  ob : ∃ nm q N bs bm sn sub ab col dd k0 k1 k2 k3 k5, K.lookup C = some (excClassObj nm q C N bs bm true sn sub ab col dd k0 k1 k2 k3 k5 "ValueError.__new__") ∧ bm.contains (.type "ValueError") = true ∧ bm.contains (.type "BaseException") = true ∧
    bm.contains (.type "object") = true ∧ bm.contains (.type "AttributeError") = false ∧ bm.contains (.type "NameError") = false ∧ ∀ self, refuseLoop self "__setattr__" bm = pure ()
  init : findIn K (.ref C) "__init__" = some (some (.ref f))
  fn : isFn K (.ref f) = true
  sa : findIn K (.ref C) "__setattr__" = some (some (.builtin "object.__setattr__"))
  pl : findIn K (.ref C) "place" = some none
  kp : keepIn K (.ref C) = true
theorem ve_stub : Manifest.isStub "ValueError" = false := by decide +kernel
theorem ve_type : typeOf (.type "ValueError") = pure (.type "type") := by kernel_rfl
theorem ve_find {K : PySem.W.Frag} : findCls K (.type "ValueError") (.type "type") "__init__" = some (.val (.builtin "ValueError.__init__")) := by rfl
theorem ve_hand : handedIn (.builtin "ValueError.__init__") = true := by decide +kernel
section
variable {X : Cx} {pins : List (Addr × Obj)} {σ : St} {H : Hp} {s : Shared} {a C f dx : Addr}
theorem upd_id (e : H a = some o) : upd H a o = H := by
  funext b
  by_cases hb : b = a
  · rw [hb, upd_same, e]
  · rw [upd_ne hb]
theorem XO0.ok {P : Program} {w : World} {h : Heap} {t : Addr} (e : h.get? a = some (excObj0 C t)) : ObjOk P w H h a (XO0 C a) :=
  ⟨⟨t, e⟩, ⟨_, e⟩, fun h1 h2 ⟨t, q⟩ k => ⟨t, k _ q⟩⟩
theorem XO1.ok {P : Program} {w : World} {h : Heap} {t : Addr} (e : h.get? a = some { excObj0 C t with dict := some dx }) : ObjOk P w H h a (XO1 C a dx) :=
  ⟨⟨t, e⟩, ⟨_, e⟩, fun h1 h2 ⟨t, q⟩ k => ⟨t, k _ q⟩⟩
def tXInit (K : PySem.W.Frag) (t : TA) : TE := fun σ H Q => t σ H fun vs H1 => ∃ a C f z, vs = [.ref a, z] ∧ H1 a = some (XO0 C a) ∧ XCls K C f ∧ Q .non H1
theorem pe_xinit {pl : Sem Bool} {e1 e2 : Expr} {p ap pos : Pos} {t : TA} (hg : Gl X "ValueError") (hm : X.mg "ValueError" = none) (ha : PA X [e1, e2] t)
    (ht : eval (.Call (.Attribute (.Name "ValueError" p) "__init__" ap) [e1, e2] [] pos) X.env = (do
      let ov ← eval (.Name "ValueError" p) X.env
      standAt ap.atName
      let (f, first) ← holding [ov] (getMethod ov "__init__" pl)
      callWith pos f first (backTo pos (starEach [e1, e2] X.env)) (backToKw pos (keywordEach [] X.env))) := by rfl)
    (hs : starEach [e1, e2] X.env = (false, eval e1 X.env) :: starEach [e2] X.env := by rfl) (hpl : (backTo pos (starEach [e2] X.env)).any (·.1) = false := by rfl) :
    PE X (.Call (.Attribute (.Name "ValueError" p) "__init__" ap) [e1, e2] [] pos) (tXInit X.K t) := by
  intro pins s σ H Q I h
  refine methodCall_KW (pl := pl) (ld_blt I hg hm PyProof.Rows.Boot.«ValueError» ?_) ht
  obtain ⟨m, F⟩ := I.fr
  refine method_type (T := "ValueError") (K := X.K) (name := "__init__") (v := .builtin "ValueError.__init__") (pl := pl) F I.ok.mod.kin ve_type ve_stub ve_find ve_hand ?_
  have hA := ha pos pins { s with toks := s.toks + 1 } σ H _ (I.tok _) h
  rw [hs] at hA ⊢
  refine Calls.callWith_builtin (by show (false || (backTo pos (starEach [e2] X.env)).any (·.1)) = false; rw [hpl] <;> rfl) (Calls.evalArgs_plain ?_)
  refine thn hA fun us s2 ⟨vs, H2, I2, r2, a, C, f, z, ev, ea, c, q2⟩ => ?_
  subst ev
  obtain ⟨u1, u2, rfl, r1, _⟩ := vals2 r2
  obtain rfl : u1 = Value.ref a := r1
  obtain ⟨⟨t0, he⟩, _, _⟩ := I2.hok a _ ea
  obtain ⟨nm, q, N, bs, bm, sn, sub, ab, col, dd, k0, k1, k2, k3, k5, lk, b1, b2, b3, b4, b5, b6⟩ := c.ob
  obtain ⟨hh, g, d, t, os⟩ := s2
  refine xc_init (t0 := t0) b1 (I2.kIn _ _ lk) he fun h' t1 kk he' => ?_
  have I3 := I2.write (x := a) (e := a) (o := XO0 C a) (h' := h') (t' := t) (by rw [ea]; exact True.intro) (.inl rfl) kk ⟨_, he'⟩ (XO0.ok he')
  rw [upd_id ea] at I3
  exact ⟨.non, H2, I3, rfl, q2⟩
end
end L2
namespace L2
open PySem PySem.Spec PyProof.Rows PySem.W
section
variable {X : Cx} {pins : List (Addr × Obj)} {σ : St} {H : Hp} {s : Shared} {a C f dx : Addr} {h' : Heap}
theorem Inv.xset {o1 o2 : HO} {t' : Nat} {φ : Heap → Prop} (I : Inv X pins σ H s) (ea : H a = some (.ext φ)) (hdx : s.heap.objs.size ≤ dx) (k : ∀ b u, b ≠ a → s.heap.get? b = some u → h'.get? b = some u) (ha : ∃ u, h'.get? a = some u)
    (n1 : ObjOk X.prog X.w (upd (upd H dx o1) a o2) h' dx o1) (n2 : ObjOk X.prog X.w (upd (upd H dx o1) a o2) h' a o2) : Inv X pins σ (upd (upd H dx o1) a o2) { s with heap := h', toks := t' } := by
  have hn : H dx = none := I.hok.fresh hdx
  have nea : dx ≠ a := fun e => by rw [e, ea] at hn; cases hn
  have at_ : ∀ b, b ≠ a → b ≠ dx → upd (upd H dx o1) a o2 b = H b := fun b h1 h2 => by rw [upd_ne h1, upd_ne h2]
  have nb : ∀ b, H b = none → b ≠ a := fun b e z => by rw [z, ea] at e; cases e
  have lt : ∀ b o, s.heap.get? b = some o → b ≠ dx := fun b o e => Nat.ne_of_lt (Nat.lt_of_lt_of_le (Heap.lt_size e) hdx)
  have tr : ∀ b (o : HO), H b = some o → (∀ ψ, o ≠ .ext ψ) → upd (upd H dx o1) a o2 b = some o := fun b o e hne => by
    rw [at_ b (fun z => by rw [z, ea] at e; exact hne φ (Option.some.inj e).symm) (ne_of_none e hn)]
    exact e
  refine I.un ⟨fun b u q n _ _ => k b u (nb b n) q, fun b u q n _ _ => ⟨u.slots, k b u (nb b n) q⟩, fun b u q n _ => by rw [at_ b (nb b n) (lt b u q)]; exact n, fun b u q _ => ?_, fun b xs e => tr b _ e (fun _ z => by cases z), fun b o u e => tr b _ e (fun _ z => by cases z),
    fun b ps e => ⟨#[], by rw [tr b _ e (fun _ z => by cases z)]; simp⟩⟩ ?_
  · by_cases hb : b = a
    · rw [hb]; exact ha
    · exact ⟨u, k b u hb q⟩
  · intro c u e
    by_cases h1 : c = a
    · subst h1
      rw [upd_same] at e
      cases e
      exact n2
    · by_cases h2 : c = dx
      · subst h2
        rw [upd_ne h1, upd_same] at e
        cases e
        exact n1
      · rw [at_ c h1 h2] at e
        refine (I.hok c u e).stay (fun b v hb q => k b v ?_ q) (fun b q => tr b _ q (fun _ z => by cases z)) fun b xs q => tr b _ q (fun _ z => by cases z)
        rcases hb with rfl | hb
        · exact h1
        · intro z
          rw [z, ea] at hb
          cases hb
def sXFld (K : PySem.W.Frag) (ta tv : TE) : TS := fun D σ H => tv σ H fun y H1 => ta σ H1 fun x H2 => ∃ a C f, x = .ref a ∧ H2 a = some (XO0 C a) ∧ XCls K C f ∧ ∀ dx, H2 dx = none → D.nx σ (upd (upd H2 dx (.xd [("place", y)])) a (XO1 C a dx))
theorem ps_xfld {o value : Expr} {ta tv : TE} {pos' pos : Pos} (ha : PE X o ta) (hv : PE X value tv) (hs : swapsWith value (some (.Attribute o "place" pos')) pos.line X.env = pure false) : PS X (.Assign [.Attribute o "place" pos'] value pos) (sXFld X.K ta tv) := by
  intro pins s σ H D I h
  refine plainObj_wpAny_Assign_Attribute (thn (hv pins s σ H _ I h) fun u s1 ⟨y, H1, I1, ry, q⟩ => thn (ha pins s1 σ H1 _ I1 q) fun ov s2 ⟨x, H2, I2, rx, a, C, f, ex, ea, c, q2⟩ => ?_) hs
  subst ex
  obtain rfl : ov = Value.ref a := rx
  obtain ⟨⟨t0, he⟩, _, _⟩ := I2.hok a _ ea
  obtain ⟨nm, q, N, bs, bm, sn, sub, ab, col, dd, k0, k1, k2, k3, k5, lk, b1, b2, b3, b4, b5, b6⟩ := c.ob
  obtain ⟨hh, g, d, t, os⟩ := s2
  refine xc_store (fs := #[.ref t0, .none, .none, .none, .bool false, .none]) he rfl rfl rfl (I2.kIn _ _ lk) b3 b6 (looks_findIn I2.kIn c.pl) (looks_findIn I2.kIn c.sa) fun h' tk' ns hx kk => ?_
  have hdx : H2 hh.objs.size = none := I2.hok.fresh (Nat.le_refl _)
  refine ⟨σ, _, Inv.xset (dx := hh.objs.size) (o1 := .xd [("place", y)]) (o2 := XO1 C a hh.objs.size) (t' := tk') I2 ea (Nat.le_refl _) kk ⟨_, hx⟩ ⟨_, ns, fun z => ?_⟩ (XO1.ok hx), q2 _ hdx⟩
  by_cases hz : z = "place"
  · subst hz
    rw [if_pos rfl]
    exact ry
  · rw [if_neg hz]
    have : ([("place", y)] : List (Str × V)).lookup z = none := by
      simp [List.lookup]
      split
      · rename_i hh; exact absurd (by simpa using hh) hz
      · rfl
    rw [this]
    trivial
end
end L2
namespace L2
open PySem PySem.Spec PyProof.Rows PySem.W
section
variable {M : Model} {A : Around} {E : Value → Shared → Prop} {s : Shared} {base : Heap} {env : Env} {outer : List Env} {L e : Addr} {oe : Obj} {vs : Array Value}
structure Lft (l : List Env) (e : Addr) (oe : Obj) (vs : Array Value) (ex : List Addr) (fl : Value) (h h' : Heap) : Prop where
  keep : ∀ b o, h.get? b = some o → b ≠ e → b ∉ ex → b ∉ frs l → h'.get? b = some o
  slot : ∀ b o, h.get? b = some o → b ∈ frs l → ∃ sl, h'.get? b = some { o with slots := sl }
  there : ∃ T oT ts, h.objs.size ≤ T ∧ T ≠ e ∧ h'.get? e = some { oe with data := .fields (vs.setIfInBounds 1 (.ref T)) } ∧ h'.get? T = some oT ∧ oT.data = .fields ts ∧ ts[3]? = some fl
theorem ne_frs (hl : s.heap.FunFrames base (env :: outer)) (he : s.heap.get? e = some oe) (hd : oe.data = .fields vs) : e ∉ frs (env :: outer) := fun hm => by
  obtain ⟨_, o, ho, hnf⟩ := hl.mem hm
  rw [he] at ho
  cases ho
  exact hnf vs hd
theorem lv_entry {head : Value} {hadNext : Bool} {Q : Unit → Shared → Prop} (hfr : A.frames = some (env :: outer)) (hl : s.heap.FunFrames base (env :: outer)) (hf : env.frame = some L) (he : s.heap.get? e = some oe) (hd : oe.data = .fields vs) (hz : 1 < vs.size)
    (hq : ∀ h', Lft (env :: outer) e oe vs [] (rawInt L) s.heap h' → Q () { s with heap := h' }) :
    wpAny M A (do let a ← frameOf env; let pl ← entryPlaceOf L hadNext; let b ← EntryCells.newEntry head a .none (rawInt L) .none pl; setField (.ref e) 1 b) Q E s := by
  have hne := ne_frs hl he hd
  refine wpAny_bind (wpAny_frameOf_fun hfr hl hf fun h1 hs => ?_)
  refine wpAny_bind (wpAny_entryPlaceOf fun pl hp => ?_)
  unfold EntryCells.newEntry newFields
  refine wpAny_bind (wpAny_newObj_type ?_ (hp.sizeOk5 _ _ _ _ _))
  have e1 : h1.get? e = some oe := (hs.2.1 e hne).trans he
  have e2 := Heap.get?_push_of_some (h := h1) { cls := .type "traceback", dict := none, data := .fields ([head, .ref L, .none, rawInt L, .none] ++ (if pl.isEmpty then List.replicate 6 Value.none else pl)).toArray } e1
  refine wpAny_setField e2 hd hz (hq _ ?_)
  have nT : h1.objs.size ≠ e := Nat.ne_of_gt (Heap.lt_size e1)
  have d3 := Obj.data_mapFields hd (·.setIfInBounds 1 (Value.ref h1.objs.size))
  have fresh : s.heap.objs.size ≤ h1.objs.size := by
    first | exact Nat.le_of_eq hs.1 | exact Nat.le_of_eq hs.1.symm
  refine ⟨fun b o hb h2 _ h3 => ?_, fun b o hb hm => ?_, h1.objs.size, { cls := .type "traceback", dict := none, data := .fields ([head, .ref L, .none, rawInt L, .none] ++ (if pl.isEmpty then List.replicate 6 Value.none else pl)).toArray }, ([head, .ref L, .none, rawInt L, .none] ++ (if pl.isEmpty then List.replicate 6 Value.none else pl)).toArray, fresh, nT, ?_, ?_, rfl, ?_⟩
  · rw [Heap.get?_update_other _ _ (Ne.symm h2)]
    exact Heap.get?_push_of_some _ ((hs.2.1 b h3).trans hb)
  · obtain ⟨sl, z⟩ := hs.2.2 b o hb
    refine ⟨sl, ?_⟩
    have h2 : b ≠ e := fun q => hne (q ▸ hm)
    rw [Heap.get?_update_other _ _ (Ne.symm h2)]
    exact Heap.get?_push_of_some _ z
  · refine (Heap.get?_update_self _ e2 (Obj.isFreed_of_fields d3)).trans ?_
    congr 1
    obtain ⟨c1, c2, c3, c4⟩ := oe
    cases hd
    rfl
  · exact (Heap.get?_update_other _ _ (Ne.symm nT)).trans (Heap.get?_push_size h1 rfl)
  · first | (simp; done) | (rcases hp with rfl | ⟨_, _, _, _, _, _, _, rfl⟩ <;> simp)
theorem nt_first {Q : Unit → Shared → Prop} (hfr : A.frames = some (env :: outer)) (hl : s.heap.FunFrames base (env :: outer)) (hf : env.frame = some L) (he : s.heap.get? e = some oe) (hd : oe.data = .fields vs) (h1 : vs[1]? = some .none)
    (hq : ∀ h', Lft (env :: outer) e oe vs [] (rawInt L) s.heap h' → Q () { s with heap := h' }) : wpAny M A (noteFrame (.ref e) env) Q E s := by
  unfold noteFrame
  simp only [hf]
  refine wpAny_bind (wpAny_field he hd h1 ?_)
  rw [if_neg (by decide)]
  exact lv_entry hfr hl hf he hd (Array.getElem?_eq_some_iff.mp h1).1 hq
theorem nt_next {T : Addr} {oT : Obj} {ts : Array Value} {Q : Unit → Shared → Prop} (hfr : A.frames = some (env :: outer)) (hl : s.heap.FunFrames base (env :: outer)) (hf : env.frame = some L) (he : s.heap.get? e = some oe) (hd : oe.data = .fields vs)
    (h1 : vs[1]? = some (.ref T)) (hTe : T ≠ e) (hT : s.heap.get? T = some oT) (hdT : oT.data = .fields ts) (h3 : ts[3]? = some .none)
    (hq : ∀ h', Lft (env :: outer) e oe vs [T] (rawInt L) s.heap h' → Q () { s with heap := h' }) : wpAny M A (noteFrame (.ref e) env) Q E s := by
  unfold noteFrame
  simp only [hf]
  refine wpAny_bind (wpAny_field he hd h1 ?_)
  rw [if_pos (by simp : (Value.ref T != Value.none) = true)]
  refine wpAny_bind (wpAny_field hT hdT h3 ?_)
  rw [if_neg (by simp [rawInt] : ¬ (Value.none == rawInt L) = true)]
  refine wpAny_bind (wpAny_setField hT hdT (Array.getElem?_eq_some_iff.mp h3).1 ?_)
  have oth : ∀ b, b ≠ T → (s.heap.update T (Obj.mapFields (·.setIfInBounds 3 Value.none))).get? b = s.heap.get? b := fun b hb => Heap.get?_update_other _ _ (Ne.symm hb)
  have nf : ∀ b o, s.heap.get? b = some o → (∀ vs, o.data ≠ .fields vs) → b ≠ T := fun b o hb hn z => by
    rw [z, hT] at hb
    cases hb
    exact hn ts hdT
  have hTfr := ne_frs (e := T) hl hT hdT
  refine lv_entry (s := { s with heap := s.heap.update T (Obj.mapFields (·.setIfInBounds 3 Value.none)) }) hfr (hl.of_keeps fun b o hb hn => ⟨o, (oth b (nf b o hb hn)).trans hb, rfl⟩) hf ((oth e (Ne.symm hTe)).trans he) hd (Array.getElem?_eq_some_iff.mp h1).1 fun h' z => hq h' ?_
  obtain ⟨z1, z2, T2, o2, t2, y1, y2, y3, y4, y5, y6⟩ := z
  refine ⟨fun b o hb q1 q2 q3 => z1 b o ((oth b (by simpa using q2)).trans hb) q1 (by simp) q3, fun b o hb hm => z2 b o ((oth b fun q => hTfr (q ▸ hm)).trans hb) hm, T2, o2, t2, ?_, y2, y3, y4, y5, y6⟩
  have y1' : (s.heap.update T (Obj.mapFields (·.setIfInBounds 3 Value.none))).objs.size ≤ T2 := y1
  rw [Heap.size_update] at y1'
  exact y1'
theorem fl_none {h0 : Heap} {ex : List Addr} {fl : Value} {Q : Unit → Shared → Prop} (z : Lft (env :: outer) e oe vs ex fl h0 s.heap) (hl : h0.FunFrames base (env :: outer)) (he0 : h0.get? e = some oe) (hd : oe.data = .fields vs) (hsz : 1 < vs.size)
    (hq : ∀ h', Lft (env :: outer) e oe vs ex .none h0 h' → Q () { s with heap := h' }) : wpAny M A (setFlight (.ref e) none) Q E s := by
  obtain ⟨z1, z2, T, oT, ts, y1, y2, y3, y4, y5, y6⟩ := z
  unfold setFlight
  refine wpAny_bind (wpAny_field y3 rfl (x := .ref T) (by simp [hsz]) ?_)
  rw [if_pos (by simp : (Value.ref T != Value.none) = true)]
  refine wpAny_setField y4 y5 (Array.getElem?_eq_some_iff.mp y6).1 (hq _ ?_)
  have nb : ∀ b o, h0.get? b = some o → b ≠ T := fun b o hb q => absurd (Heap.lt_size hb) (by rw [q]; exact Nat.not_lt.mpr y1)
  refine ⟨fun b o hb q1 q2 q3 => (Heap.get?_update_other _ _ (Ne.symm (nb b o hb))).trans (z1 b o hb q1 q2 q3), fun b o hb hm => ?_, T, _, _, y1, y2, (Heap.get?_update_other _ _ y2).trans y3, Heap.get?_update_self _ y4 (Obj.isFreed_of_fields (Obj.data_mapFields y5 _)), Obj.data_mapFields y5 _, ?_⟩
  · obtain ⟨sl, w⟩ := z2 b o hb hm
    exact ⟨sl, (Heap.get?_update_other _ _ (Ne.symm (nb b o hb))).trans w⟩
  · have := (Array.getElem?_eq_some_iff.mp y6).1
    simp [this]
theorem lv_first {Q : Unit → Shared → Prop} (hfr : A.frames = some (env :: outer)) (hl : s.heap.FunFrames base (env :: outer)) (hf : env.frame = some L) (he : s.heap.get? e = some oe) (hd : oe.data = .fields vs) (h1 : vs[1]? = some .none)
    (hq : ∀ h', Lft (env :: outer) e oe vs [] .none s.heap h' → Q () { s with heap := h' }) : wpAny M A (leaving env (.ref e)) Q E s := by
  unfold leaving
  exact wpAny_bind (nt_first hfr hl hf he hd h1 fun h1' z => fl_none z hl he hd (Array.getElem?_eq_some_iff.mp h1).1 hq)
end
end L2
namespace L2
open PySem PySem.Spec PyProof.Rows PySem.W
def del (H : Hp) (a : Addr) : Hp := fun b => if b = a then none else H b
theorem del_same {H : Hp} {a : Addr} : del H a a = none := by unfold del; rw [if_pos rfl]
theorem del_ne {H : Hp} {a b : Addr} (h : b ≠ a) : del H a b = H b := by unfold del; rw [if_neg h]
theorem del_some {H : Hp} {a b : Addr} {o : HO} (h : del H a b = some o) : b ≠ a ∧ H b = some o := by
  by_cases e : b = a
  · rw [e, del_same] at h; cases h
  · rw [del_ne e] at h; exact ⟨e, h⟩
theorem del_none {H : Hp} {a b : Addr} (h : H b = none) : del H a b = none := by
  by_cases e : b = a
  · rw [e, del_same]
  · rw [del_ne e]; exact h
def XFly (h : Heap) (a C dx T : Addr) : Prop := ∃ oe vs oT ts, h.get? a = some oe ∧ oe.cls = .ref C ∧ oe.dict = some dx ∧ oe.data = .fields vs ∧ vs[1]? = some (.ref T) ∧ T ≠ a ∧ h.get? T = some oT ∧ oT.data = .fields ts ∧ ts[3]? = some .none
def CXX (P : Program) (w : World) : CXT := fun outer H s E e s' => ∃ a C dx T H', e = .ref a ∧ s'.os = s.os ∧ AllBare s'.gens ∧ Un (frs outer) [] H H' s.heap s'.heap ∧ HOk P w H' s'.heap ∧ XFly s'.heap a C dx T ∧
  s.heap.objs.size ≤ a ∧ s.heap.objs.size ≤ T ∧ H' a = none ∧ H' T = none ∧ E (.ref C) (some dx) H'
theorem Lft.fly {l : List Env} {e C dx : Addr} {oe : Obj} {vs : Array Value} {ex : List Addr} {h h' : Heap} (z : Lft l e oe vs ex .none h h') (hc : oe.cls = .ref C) (hd : oe.dict = some dx) (hz : 1 < vs.size) : ∃ T, h.objs.size ≤ T ∧ XFly h' e C dx T := by
  obtain ⟨T, oT, ts, y1, y2, y3, y4, y5, y6⟩ := z.there
  exact ⟨T, y1, _, _, oT, ts, y3, hc, hd, rfl, by simp [hz], y2, y4, y5, y6⟩
section
variable {P : Program} {w : World} {K : PySem.W.Frag} {mg : Str → Option Value} {base : Heap} {N : List Str} {qual : Str} {scope : Scope} {f : Addr} {cdv : Value} {A : Around} {outer : List Env} {s0 : Shared} {H0 : Hp} {E : XK}
theorem left_un {pins : List (Addr × Obj)} {σ : St} {H H' : Hp} {s : Shared} {h' : Heap} {e : Addr} {oe : Obj} {vs : Array Value} {ex : List Addr} (I : Inv (cxOf (CXX P w) P w K mg base N qual scope f cdv A outer s0 H0 E) pins σ H s) (z : Lft (cxOf (CXX P w) P w K mg base N qual scope f cdv A outer s0 H0 E).stack e oe vs ex .none s.heap h')
    (he : s0.heap.get? e = none) (hex : ∀ b ∈ ex, s0.heap.get? b = none ∧ H b = none) (hH : H' = del H e) (hext : H e = none ∨ ∃ φ, H e = some (.ext φ)) :
    Un (frs outer) [] H0 H' s0.heap h' ∧ HOk P w H' h' := by
  subst hH
  have B : Un (frs outer) [] H0 H s0.heap s.heap := I.base
  have nL : ∀ b o, s0.heap.get? b = some o → b ∉ frs outer → b ∉ frs (cxOf (CXX P w) P w K mg base N qual scope f cdv A outer s0 H0 E).stack := fun b o hb hn hm => by
    have hm' : b ∈ s0.heap.objs.size :: frs outer := hm
    rcases List.mem_cons.mp hm' with q | q
    · exact absurd (Heap.lt_size hb) (by rw [q]; exact Nat.lt_irrefl _)
    · exact hn q
  have inL : ∀ b, b ∈ frs outer → b ∈ frs (cxOf (CXX P w) P w K mg base N qual scope f cdv A outer s0 H0 E).stack := fun b hb => List.mem_cons_of_mem (a := b) s0.heap.objs.size hb
  have ne : ∀ b o, s0.heap.get? b = some o → b ≠ e := fun b o hb q => by rw [q, he] at hb; cases hb
  have nex : ∀ b o, s0.heap.get? b = some o → b ∉ ex := fun b o hb q => by rw [(hex b q).1] at hb; cases hb
  have tr : ∀ b (o : HO), H b = some o → (∀ ψ, o ≠ .ext ψ) → del H e b = some o := fun b o hb hne => by
    rw [del_ne]
    · exact hb
    · intro q
      rw [q] at hb
      rcases hext with z | ⟨φ, z⟩
      · rw [z] at hb; cases hb
      · rw [z] at hb; exact hne φ (Option.some.inj hb).symm
  refine ⟨⟨fun b o hb hn h1 h2 => z.keep b o (B.keep b o hb hn h1 h2) (ne b o hb) (nex b o hb) (nL b o hb h1), fun b o hb hn h1 h2 => ?_, fun b o hb hn h2 => del_none (B.free b o hb hn h2), fun b o hb h2 => ?_, fun b xs q => tr b _ (B.tups b xs q) (fun _ y => by cases y),
    fun b o u q => tr b _ (B.frzs b o u q) (fun _ y => by cases y), fun b ps q => ?_⟩, fun c u q => ?_⟩
  · obtain ⟨sl, y⟩ := B.slot b o hb hn h1 h2
    obtain ⟨sl', y'⟩ := z.slot b _ y (inL b h1)
    exact ⟨sl', y'⟩
  · obtain ⟨o', y⟩ := B.there b o hb h2
    by_cases hm : b ∈ frs (cxOf (CXX P w) P w K mg base N qual scope f cdv A outer s0 H0 E).stack
    · obtain ⟨sl, y'⟩ := z.slot b o' y hm
      exact ⟨_, y'⟩
    · exact ⟨o', z.keep b o' y (ne b o hb) (nex b o hb) hm⟩
  · obtain ⟨more, y⟩ := B.tbls b ps q
    exact ⟨more, tr b _ y (fun _ y => by cases y)⟩
  · obtain ⟨ce, q⟩ := del_some q
    refine (I.hok c u q).stay (fun b v hb hv => z.keep b v hv ?_ ?_ ?_) (fun b y => tr b _ y (fun _ y => by cases y)) fun b xs y => tr b _ y (fun _ y => by cases y)
    · rcases hb with rfl | hb
      · exact ce
      · intro y
        rw [y] at hb
        rcases hext with z | ⟨φ, z⟩ <;> · rw [z] at hb; cases hb
    · intro y
      have := (hex b y).2
      rcases hb with rfl | hb
      · rw [q] at this; cases this
      · rw [hb] at this; cases this
    · intro y
      have := I.stkFree b y
      rcases hb with rfl | hb
      · rw [q] at this; cases this
      · rw [hb] at this; cases this
theorem raise_cx {pins : List (Addr × Obj)} {σ : St} {H : Hp} {s : Shared} {a C dx : Addr} (I : Inv (cxOf (CXX P w) P w K mg base N qual scope f cdv A outer s0 H0 E) pins σ H s) (ea : H a = some (XO1 C a dx)) (hnew : s0.heap.objs.size ≤ a) (q : E (.ref C) (some dx) (del H a)) : (cxOf (CXX P w) P w K mg base N qual scope f cdv A outer s0 H0 E).xe (.ref a) s := by
  have sz : s0.heap.objs.size ≤ s.heap.objs.size := I.sz
  obtain ⟨⟨t0, he⟩, _, _⟩ := I.hok a _ ea
  have hl : s.heap.FunFrames base (cxOf (CXX P w) P w K mg base N qual scope f cdv A outer s0 H0 E).stack := I.stack
  have hfr : (cxOf (CXX P w) P w K mg base N qual scope f cdv A outer s0 H0 E).A.frames = some (cxOf (CXX P w) P w K mg base N qual scope f cdv A outer s0 H0 E).stack := I.ok.frames
  show wpAny (model P w) (cxOf (CXX P w) P w K mg base N qual scope f cdv A outer s0 H0 E).A (leaving (cxOf (CXX P w) P w K mg base N qual scope f cdv A outer s0 H0 E).env (.ref a)) _ _ s
  refine lv_first (vs := #[.ref t0, .none, .none, .none, .bool false, .none]) hfr hl rfl he rfl rfl fun h' z => ?_
  obtain ⟨T, hT, fly⟩ := Lft.fly (C := C) (dx := dx) z rfl rfl (show 1 < 6 by decide)
  obtain ⟨un, hok⟩ := left_un I z (Heap.get?_none_of_le hnew) (fun b hb => absurd hb (by simp)) rfl (.inr ⟨_, ea⟩)
  exact ⟨a, C, dx, T, del H a, rfl, I.os, I.bare, un, hok, fly, hnew, Nat.le_trans sz hT, del_same, del_none (I.hok.fresh hT), q⟩
end
end L2
namespace L2
open PySem PySem.Spec PyProof.Rows PySem.W
section
variable {M : Model} {A : Around} {E : Value → Shared → Prop} {env : Env}
variable {nm q : Str} {C N : Addr} {bs bm : List Value} {hdct : Bool} {sn : List Str} {sub : List Value} {ab : Bool} {col : Option Bool} {dd : Option Addr} {k0 k1 k2 k3 k5 : Option Value} {newId : String}
theorem xr_stmt {s : Shared} {x : Sem Value} {Q : Flow → Shared → Prop} (hb : bm.contains (.type "BaseException") = true) (hh : A.handled = none)
    (h : wpAny M A x (fun v s1 => ∃ e t0 dx, v = .ref e ∧ s1.heap.get? C = some (excClassObj nm q C N bs bm hdct sn sub ab col dd k0 k1 k2 k3 k5 newId) ∧ s1.heap.get? e = some { cls := .ref C, dict := some dx, data := .fields #[.ref t0, .none, .none, .none, .bool false, .none] } ∧ E (.ref e) s1) E s) :
    wpAny M A (raiseStmt env (some x) none) Q E s := by
  have c1 : (Value.ref C :: bm).contains (.type "BaseException") = true := by
    rw [List.contains_cons, hb]
    exact Bool.or_true _
  unfold raiseStmt
  refine wpAny_bind (wpAny_mono h (fun v s1 h1 => ?_) fun _ _ y => y)
  obtain ⟨e, t0, dx, rfl, hC, he, hE⟩ := h1
  obtain ⟨hp, g, d, tk, os⟩ := s1
  repeat (first | with_reducible refine wpAny_loadPart_at hC ?_ | with_reducible refine wpAny_loadPart_at he ?_ | (with_reducible refine wpAny_isSubtype_exc hC ?_; rw [c1]) | wp_step)
  exact wpAny_raiseNew_none hh hE
end
section
variable {X : Cx} {CX : CXT} {k : Nat} {f C : Addr} {fd : FuncData} {ps : List Str} {sp : Sp} {x : Str} {p pos cpos : Pos} {e : Expr} {es : List Expr} {t : TA}
theorem run_xmake {pins : List (Addr × Obj)} {σ : St} {H : Hp} {s : Shared} {us : List Value} {vs : List V} {Qx : Addr → Addr → Hp → Prop} (c : XCls X.K C f) (F : FnOk X.prog X.w X.K X.mg X.base CX0 k f fd ps sp) (hr : Room (k + 1) X.A) (hb : Binds X.K fd ps [])
    (I : Inv X pins σ H s) (r : Vals vs us) (hz : vs.length ≤ sizeLine)
    (h : ∀ a, H a = none → sp (.ref a :: vs) (upd H a (XO0 C a)) (fun v H2 => v = .non ∧ ∃ dx, H2 a = some (XO1 C a dx) ∧ Qx a dx H2) E0) :
    wpAny (model X.prog X.w) X.A (call (.ref C) us) (fun v s' => ∃ a dx H2, v = .ref a ∧ s.heap.objs.size ≤ a ∧ Inv X pins σ H2 s' ∧ H2 a = some (XO1 C a dx) ∧ Qx a dx H2) X.xe s := by
  obtain ⟨nm, q, N, bs, bm, sn, sub, ab, col, dd, k0, k1, k2, k3, k5, lk, b1, b2, b3, b4, b5, b6⟩ := c.ob
  have hq := h (s.heap.objs.size + 1) (I.hok.fresh (Nat.le_succ _))
  have kk : ∀ b o, s.heap.get? b = some o → (excHeap s.heap C us).get? b = some o := fun b o e => Heap.get?_push_of_some _ (Heap.get?_push_of_some _ e)
  have hget : (excHeap s.heap C us).get? (s.heap.objs.size + 1) = some (excObj0 C s.heap.objs.size) := by heap_get
  have I2 : Inv X pins σ (upd H (s.heap.objs.size + 1) (XO0 C (s.heap.objs.size + 1))) { s with heap := excHeap s.heap C us } := I.laid (t' := s.toks) kk (Nat.le_succ _) (XO0.ok hget)
  have r2 : Vals (V.ref (s.heap.objs.size + 1) :: vs) (Value.ref (s.heap.objs.size + 1) :: us) := .cons rfl r
  have hl : ((Value.ref (s.heap.objs.size + 1) :: us) ++ []).length = ps.length := by
    rw [List.append_nil, ← r2.length]
    exact F.len _ _ _ _ hq
  have run := F.run _ X.stack _ _ ⟨Value.ref (s.heap.objs.size + 1) :: us, []⟩ (Value.ref (s.heap.objs.size + 1) :: us) _ _ E0 (hr.make C us []) (I2.env0.make C us []) (by have := hb _ (Value.ref (s.heap.objs.size + 1) :: us) I2.kIn hl; rw [List.append_nil] at this; exact this) r2 hq
  refine wpAny_call ?_
  obtain ⟨hh, g, d, t, os⟩ := s
  refine xc_call (f := f) b1 b4 b5 (I.kIn _ _ lk) (looks_findIn I.kIn c.init) (fun self => bind_fn I.kIn self (beq_iff_eq.mp c.fn)) (by rw [← r.length]; exact hz) (codeAny_mono run fun r s' hq' => ?_)
  cases r with
  | error e => exact False.elim hq'
  | ok fl =>
    cases fl with
    | ret u =>
      obtain ⟨v, H', I3, rv, ev, dx, q3, q4⟩ := I2.after hq'
      subst ev
      exact ⟨rv, _, dx, H', rfl, Nat.le_succ _, I3, q3, q4⟩
    | next => exact False.elim hq'
    | brk => exact False.elim hq'
    | cont => exact False.elim hq'
def RaisesX (X : Cx) (E : XK) : Prop := ∀ (pins : List (Addr × Obj)) (σ : St) (H : Hp) (s : Shared) (a C dx : Addr), Inv X pins σ H s → H a = some (XO1 C a dx) → X.s₀.heap.objs.size ≤ a → E (.ref C) (some dx) (del H a) → X.xe (.ref a) s
def tRaise (C : Addr) (sp : Sp) (E : XK) (t : TA) : TS := fun _ σ H => t σ H fun vs H1 => vs.length ≤ sizeLine ∧ ∀ a, H1 a = none → sp (.ref a :: vs) (upd H1 a (XO0 C a)) (fun v H2 => v = .non ∧ ∃ dx, H2 a = some (XO1 C a dx) ∧ E (.ref C) (some dx) (del H2 a)) E0
theorem ps_raise {E : XK} (c : XCls X.K C f) (F : FnOk X.prog X.w X.K X.mg X.base CX0 k f fd ps sp) (hr : Room (k + 1) X.A) (hb : Binds X.K fd ps []) (hg : Gl X x) (hm : X.mg x = some (.ref C)) (hc : X.calm = true) (hE : RaisesX X E) (ha : PA X (e :: es) t)
    (hdb : (x == ("__debug__" : Str)) = false := by decide) (he : starEach (e :: es) X.env = (false, eval e X.env) :: starEach es X.env := by rfl) (hpl : (backTo cpos (starEach es X.env)).any (·.1) = false := by rfl) :
    PS X (.Raise (some (.Call (.Name x p) (e :: es) [] cpos)) none pos) (tRaise C sp E t) := by
  intro pins s σ H D I h
  obtain ⟨nm, q, N, bs, bm, sn, sub, ab, col, dd, k0, k1, k2, k3, k5, lk, b1, b2, b3, b4, b5, b6⟩ := c.ob
  rw [arm_exec_Raise]
  refine wpAny_bind (wpAny_standAt ?_)
  refine xr_stmt (C := C) (nm := nm) (q := q) (N := N) (bs := bs) (bm := bm) (hdct := true) (sn := sn) (sub := sub) (ab := ab) (col := col) (dd := dd) (k0 := k0) (k1 := k1) (k2 := k2) (k3 := k3) (k5 := k5) (newId := "ValueError.__new__") b2 (I.ok.hd hc) ?_
  refine wpAny_bind (wpAny_mono (wpAny_Call_Name_kw (ld_glob I hg hm ?_ hdb)) (fun v s1 hv => wpAny_bind (wpAny_standAt (wpAny_pure hv))) fun _ _ y => y)
  refine callWith_K (h₀ := X.base) I.ok.mod.kin c.kp (thn (ha cpos pins s σ H _ I h) fun us s1 ⟨vs, H1, I1, r, hz, q1⟩ => ⟨I1.kIn, ?_⟩) he hpl
  refine thn (run_xmake c F hr hb I1 r hz q1) fun v s2 ⟨a, dx, H2, ev, hnew, I2, ea, qE⟩ => ?_
  obtain ⟨⟨t0, hx⟩, _, _⟩ := I2.hok a _ ea
  refine ⟨a, t0, dx, ev, I2.kIn _ _ lk, hx, hE pins σ H2 s2 a C dx I2 ea ?_ qE⟩
  exact Nat.le_trans I1.sz hnew
end
end L2
namespace L2
open PySem PySem.Spec PyProof.Rows PySem.W
def XO2 (C a dx : Addr) : HO := .ext fun h => ∃ oe fs, h.get? a = some oe ∧ oe.cls = .ref C ∧ oe.dict = some dx ∧ oe.data = .fields fs
theorem XO2.ok {P : Program} {w : World} {H : Hp} {h : Heap} {a C dx : Addr} {oe : Obj} {fs : Array Value} (e : h.get? a = some oe) (hc : oe.cls = .ref C) (hd : oe.dict = some dx) (hf : oe.data = .fields fs) : ObjOk P w H h a (XO2 C a dx) :=
  ⟨⟨oe, fs, e, hc, hd, hf⟩, ⟨_, e⟩, fun h1 h2 ⟨oe, fs, q, r⟩ k => ⟨oe, fs, k _ q, r⟩⟩
section
variable {M : Model} {A : Around} {E : Value → Shared → Prop} {h : Heap} {g : Array GenState} {d : Drawn} {t : Nat} {os : OsState} {e : Addr} {oe : Obj}
variable {nm q : Str} {C N : Addr} {bs bm : List Value} {hdct : Bool} {sn : List Str} {sub : List Value} {ab : Bool} {col : Option Bool} {dd : Option Addr} {k0 k1 k2 k3 k5 : Option Value} {newId : String}
variable {nm' q' : Str} {C' N' : Addr} {bs' bm' : List Value} {hdct' : Bool} {sn' : List Str} {sub' : List Value} {ab' : Bool} {col' : Option Bool} {dd' : Option Addr} {k0' k1' k2' k3' k5' : Option Value} {newId' : String}
theorem xm_match {Q : Bool → Shared → Prop} (hC : h.get? C = some (excClassObj nm q C N bs bm hdct sn sub ab col dd k0 k1 k2 k3 k5 newId)) (hC' : h.get? C' = some (excClassObj nm' q' C' N' bs' bm' hdct' sn' sub' ab' col' dd' k0' k1' k2' k3' k5' newId'))
    (hb : bm'.contains (.type "BaseException") = true) (hs : (Value.ref C :: bm).contains (.ref C') = true) (he : h.get? e = some oe) (hc : oe.cls = .ref C) (hq : Q true ⟨h, g, d, t, os⟩) : wpAny M A (excMatches (.ref e) (.ref C')) Q E ⟨h, g, d, t, os⟩ := by
  have c1 : (Value.ref C' :: bm').contains (.type "BaseException") = true := by
    rw [List.contains_cons, hb]
    exact Bool.or_true _
  have f := tc_notTuple
  unfold excMatches
  repeat (first | with_reducible refine wpAny_loadPart_at hC' ?_ | (with_reducible refine wpAny_loadPart_at he ?_; rw [hc]) | (with_reducible refine wpAny_isSubtype_exc hC' ?_; rw [c1]) | (with_reducible refine wpAny_isSubtype_exc hC ?_; rw [hs]) | wp_step)
  exact hq
end
section
variable {X : Cx} {pins : List (Addr × Obj)} {σ : St} {H : Hp} {s : Shared} {a : Addr} {oe : Obj} {vs : Array Value} {ex : List Addr} {fl : Value} {h' : Heap}
theorem Inv.lft (I : Inv X pins σ H s) (z : Lft X.stack a oe vs ex fl s.heap h') (hch : ∀ b ∈ a :: ex, H b = none ∧ X.s₀.heap.objs.size ≤ b ∧ FpOk X pins H b) : Inv X pins σ H { s with heap := h' } := by
  have nn : ∀ b, b ∉ a :: ex → b ≠ a ∧ b ∉ ex := fun b hb => ⟨fun q => hb (by rw [q]; exact List.mem_cons_self), fun q => hb (List.mem_cons_of_mem _ q)⟩
  refine I.call' (s' := { s with heap := h' }) (ch := a :: ex) rfl ⟨fun b o q n h1 h2 => z.keep b o q (nn b h2).1 (nn b h2).2 h1, fun b o q n h1 h2 => z.slot b o q h1, fun _ _ _ n _ => n, fun b o q h2 => ?_, fun _ _ q => q, fun _ _ _ q => q, fun b ps q => ⟨#[], by rw [q]; simp⟩⟩ (fun c u e => ?_) I.bare
    fun b hb => ⟨.inr (hch b hb).2.1, (hch b hb).2.2.2.1, (hch b hb).2.2.2.2.2.2.1, (hch b hb).2.2.2.2.2.2.2⟩
  · by_cases hm : b ∈ frs X.stack
    · obtain ⟨sl, y⟩ := z.slot b o q hm
      exact ⟨_, y⟩
    · exact ⟨o, z.keep b o q (nn b h2).1 (nn b h2).2 hm⟩
  · have tracked : ∀ b o', H b = some o' → b ∉ a :: ex := fun b o' q y => by rw [(hch b y).1] at q; cases q
    refine (I.hok c u e).stay (fun b v hb hv => ?_) (fun _ q => q) fun _ _ q => q
    have hbt : ∃ o', H b = some o' := by
      rcases hb with rfl | hb
      · exact ⟨_, e⟩
      · exact ⟨_, hb⟩
    obtain ⟨o', ho'⟩ := hbt
    have h2 := nn b (tracked b o' ho')
    refine z.keep b v hv h2.1 h2.2 fun y => ?_
    rw [I.stkFree b y] at ho'
    cases ho'
theorem name_goes {M : Model} {A : Around} {E : Value → Shared → Prop} {i : Nat} {n : Str} {pos : Pos} {Q : Unit → Shared → Prop} (I : Inv X pins σ H s) (hN : X.N.Nodup) (hi : X.N[i]? = some n) (hk : X.env.kindOf n = some .local)
    (h : ∀ s', Inv X pins (σ.set i none) H s' → Q () s') : wpAny M A (do bindName X.env n .none; unbindBehindTheSuite X.env n pos) Q E s := by
  obtain ⟨m, hn, hl⟩ := id I.loc
  have hcls : (X.env.scope.kind == .class || (X.env.scope.kind == .module && X.env.locals != X.env.globals)) = false := by rw [I.ok.kind]; rfl
  have hiσ : i < σ.length := by rw [I.len]; exact (List.getElem?_eq_some_iff.mp hi).1
  have cne := I.cne
  refine wpAny_nameGoes_keeps hk hn hcls fun h' v hn' hs => ?_
  have lt : ∀ b o, X.s₀.heap.get? b = some o → b ≠ X.env.locals := fun b o e => Nat.ne_of_lt (Nat.lt_of_lt_of_le (Heap.lt_size e) I.ok.above)
  refine h _ ⟨I.ok, I.os, I.bare, ⟨fun b o e n hb hx => (hs.2 b (lt b o e)).trans (I.base.keep b o e n hb hx), fun b o e n hb hx => ?_, I.base.free, fun b o e hx => ?_, I.base.tups, I.base.frzs, I.base.tbls⟩, ⟨_, hn', fun j y v' e1 e2 e3 => ?_⟩, fun y c e => ?_, I.free, I.freeC, fun p hp => ?_, fun b ob e => ?_, by simpa using I.len⟩
  · obtain ⟨sl, e1⟩ := I.base.slot b o e n hb hx
    exact ⟨sl, (hs.2 b (lt b o e)).trans e1⟩
  · obtain ⟨o', e1⟩ := I.base.there b o e hx
    exact ⟨o', (hs.2 b (lt b o e)).trans e1⟩
  · by_cases hj : j = i
    · subst hj
      rw [List.getElem?_set_self hiσ] at e2
      cases e2
    · rw [List.getElem?_set_ne (Ne.symm hj)] at e2
      obtain ⟨u', r', q⟩ := hl j y v' e1 e2 e3
      refine ⟨u', r', ?_⟩
      rcases q with ⟨k, e⟩ | ⟨k, c, e, z⟩
      · refine .inl ⟨k, ?_⟩
        have hne : y ≠ n := fun e => hj (nodup_ix hN e1 (e ▸ hi))
        show (if y = n then v else m y) = some u'
        rw [if_neg hne]
        exact e
      · exact .inr ⟨k, c, e, z.sameBut hs (cne y c e)⟩
  · obtain ⟨w', z⟩ := I.cell y c e
    exact ⟨w', z.sameBut hs (cne y c e)⟩
  · obtain ⟨e, n, ne, nf, d⟩ := I.pin p hp
    exact ⟨(hs.2 p.1 ne).trans e, n, ne, nf, d⟩
  · refine (I.hok b ob e).stay (fun c w' hc q => (hs.2 c ?_).trans q) (fun _ q => q) fun _ _ q => q
    intro z
    subst z
    rcases hc with rfl | hc
    · rw [I.free] at e; cases e
    · rw [I.free] at hc; cases hc
end
end L2
namespace L2
open PySem PySem.Spec PyProof.Rows PySem.W
def SubX (K : PySem.W.Frag) (C C0 : Addr) : Prop := ∃ nm q N bs bm hdct sn sub ab col dd k0 k1 k2 k3 k5 newId, K.lookup C = some (excClassObj nm q C N bs bm hdct sn sub ab col dd k0 k1 k2 k3 k5 newId) ∧ (Value.ref C :: bm).contains (.ref C0) = true
def IsX (K : PySem.W.Frag) (C : Addr) : Prop := ∃ nm q N bs bm hdct sn sub ab col dd k0 k1 k2 k3 k5 newId, K.lookup C = some (excClassObj nm q C N bs bm hdct sn sub ab col dd k0 k1 k2 k3 k5 newId) ∧ bm.contains (.type "BaseException") = true
def tTryCall (K : PySem.W.Frag) (iy im inn : Nat) (C0 : Addr) (sp : Sp) (dvs : List V) (t : TA) : TS := fun D σ H => t σ H fun vs H1 => sp (vs ++ dvs) H1 (fun v H2 => D.nx (σ.set iy (some v)) H2)
  (fun cls od H2 => ∃ C dx, cls = .ref C ∧ od = some dx ∧ SubX K C C0 ∧ ∀ a, H2 a = none → D.nx (((σ.set inn (some (.ref a))).set im (some (.ref a))).set inn none) (upd H2 a (XO2 C a dx)))
section
variable {X : Cx} {k : Nat} {f C0 : Addr} {fd : FuncData} {ps : List Str} {sp : Sp} {dvs : List V} {ds : List Value} {fx cx y m n : Str} {iy im inn : Nat} {p pos apos py cp pm pn pa hpos tpos : Pos} {e : Expr} {es : List Expr} {t : TA}
theorem ps_tryCall (F : FnOk X.prog X.w X.K X.mg X.base (CXX X.prog X.w) k f fd ps sp) (hr : Room k X.A) (hg : Gl X fx) (hm : X.mg fx = some (.ref f)) (hk : keepIn X.K (.ref f) = true) (hb : Binds X.K fd ps ds) (hd : Vals dvs ds)
    (hN : X.N.Nodup) (hiy : X.N[iy]? = some y) (hly : Loc X.env.scope y) (him : X.N[im]? = some m) (hlm : Loc X.env.scope m) (hin : X.N[inn]? = some n) (hln : X.env.scope.names.lookup n = some .local) (hgc : Gl X cx) (hmc : X.mg cx = some (.ref C0)) (hc0 : IsX X.K C0)
    (ha : ∀ EW, PA (X.wish EW) (e :: es) t) (est : X.stack = X.env :: X.outer := by rfl) (efr : X.env.frame = some X.env.locals := by rfl) (hdb : (fx == ("__debug__" : Str)) = false := by decide) (hdc : (cx == ("__debug__" : Str)) = false := by decide) (hdn : (n == ("__debug__" : Str)) = false := by decide) (hcd : (n == ("__classdict__" : Str)) = false := by decide)
    (he : starEach (e :: es) X.env = (false, eval e X.env) :: starEach es X.env := by rfl) (hpl : (backTo pos (starEach es X.env)).any (·.1) = false := by rfl)
    (hs1 : swapsWith (.Call (.Name fx p) (e :: es) [] pos) (some (.Name y py)) apos.line X.env = pure false := by rfl) (hs2 : swapsWith (.Name n pn) (some (.Name m pm)) pa.line X.env = pure false := by rfl)
    (hfy : X.fn y = true ∨ X.env.scope.names.lookup y = some .local := by first | exact .inl rfl | exact .inr rfl | assumption) (hfm : X.fn m = true ∨ X.env.scope.names.lookup m = some .local := by first | exact .inl rfl | exact .inr rfl | assumption) :
    PS X (.Try [.Assign [.Name y py] (.Call (.Name fx p) (e :: es) [] pos) apos] [.ExceptHandler (some (.Name cx cp)) (some n) [.Assign [.Name m pm] (.Name n pn) pa] hpos] [] [] tpos) (tTryCall X.K iy im inn C0 sp dvs t) := by
  intro pins s σ H D I h
  refine wpAny_Try_except ?_
  refine wpAny_execs_cons (wpAny_Assign_Name (wpAny_Call_Name_kw (ld_glob I hg hm ?_ hdb)) hs1)
  have hA := ha (fun e s1 => wpAny (model X.prog X.w) X.A (noteFrame e X.env) (fun _ s2 => wpAny (model X.prog X.w) X.A (setFlight e none) (fun _ s3 => wpAny (model X.prog X.w) X.A (handleBy e X.env [.ExceptHandler (some (.Name cx cp)) (some n) [.Assign [.Name m pm] (.Name n pn) pa] hpos]) (SP X pins D) X.xe s3) X.xe s2) X.xe s1)
    pos pins s σ H _ (I.wish _) h
  refine callWith_K (h₀ := X.base) I.ok.mod.kin hk (thn hA fun us s1 hv => ?_) he hpl
  obtain ⟨vs, H1, I1', r, q⟩ := hv
  have I1 : Inv X pins σ H1 s1 := I1'.unwish
  refine ⟨I1.kIn, ?_⟩
  have r2 : Vals (vs ++ dvs) (us ++ ds) := r.append hd
  have hl : (us ++ ds).length = ps.length := by rw [← r2.length]; exact F.len _ _ _ _ q
  refine wpAny_call (codeAny_mono (F.run X.A X.stack s1 H1 ⟨us, []⟩ (us ++ ds) (vs ++ dvs) _ _ hr I1.env0 (hb s1 us I1.kIn hl) r2 q) fun r s' hq => ?_)
  cases r with
  | ok fl =>
    cases fl with
    | ret u =>
      obtain ⟨v, H', I3, rv, q3⟩ := I1.after hq
      exact store_ok I3 hN hiy hly rv (fun s2 I2 => wpAny_execs_nil (wpAny_execs_nil ⟨_, H', I2, q3⟩)) hfy
    | next => exact False.elim hq
    | brk => exact False.elim hq
    | cont => exact False.elim hq
  | error ev =>
    obtain ⟨a, C, dx, T, H', rfl, os, bare, un, hok, fly, n1, n2, n3, n4, C', dx', ec, ed, hsub, qx⟩ := hq
    cases ec
    cases ed
    have J : Inv X pins σ H' s' := I1.call' (ch := []) os un hok bare fun b hb => absurd hb (by simp)
    obtain ⟨oe, vv, oT, ts, y1, y2, y3, y4, y5, y6, y7, y8, y9⟩ := fly
    have fA : FpOk X pins H' a := I1.fpOk n1 n3
    have fT : FpOk X pins H' T := I1.fpOk n2 n4
    have szA : X.s₀.heap.objs.size ≤ a := Nat.le_trans I1.sz n1
    have szT : X.s₀.heap.objs.size ≤ T := Nat.le_trans I1.sz n2
    have hsz : 1 < vv.size := (Array.getElem?_eq_some_iff.mp y5).1
    have hl2 : s'.heap.FunFrames X.base X.stack := J.stack
    have hfr : X.A.frames = some X.stack := J.ok.frames
    rw [est] at hl2 hfr
    show wpAny (model X.prog X.w) X.A (noteFrame (.ref a) X.env) _ _ s'
    refine nt_next (T := T) hfr hl2 efr y1 y4 y5 y6 y7 y8 y9 fun h1 z1 => ?_
    refine fl_none z1 hl2 y1 y4 hsz fun h2 z2 => ?_
    have z2' : Lft X.stack a oe vv [T] .none s'.heap h2 := by rw [est]; exact z2
    have J2 : Inv X pins σ H' { s' with heap := h2 } := J.lft z2' fun b hb => by
      rcases List.mem_cons.mp hb with rfl | hb
      · exact ⟨n3, szA, fA⟩
      · cases List.mem_singleton.mp hb
        exact ⟨n4, szT, fT⟩
    obtain ⟨T2, hT2, oe2, vv2, oT2, ts2, x1, x2, x3, x4, x5, x6, x7, x8, x9⟩ := Lft.fly (C := C) (dx := dx) z2 y2 y3 hsz
    have fT2 : FpOk X pins H' T2 := J.fpOk hT2 (J.hok.fresh hT2)
    obtain ⟨nm, q, N, bs, bm, hdct, sn, sub, ab, col, dd, k0, k1, k2, k3, k5, newId, lk, ct⟩ := hsub
    obtain ⟨nm', q', N', bs', bm', hdct', sn', sub', ab', col', dd', k0', k1', k2', k3', k5', newId', lk', ct'⟩ := hc0
    refine wpAny_handleBy_cons (codeAny_handlers_test ?_) (by intro q; cases q)
    refine Calls.Name_function_global J2.ok.kind hgc (Calls.loadGlobal_global (by rw [J2.ok.glob]; exact J2.mod.glob.keeps J2.bk) hmc ?_) hdc
    refine xm_match (J2.kIn _ _ lk) (J2.kIn _ _ lk') ct' ct x1 x2 ?_
    refine codeAny_handlers_suite_as ?_
    refine wpAny_setFlight_none x1 x4 x5 x7 x8 (Array.getElem?_eq_some_iff.mp x9).1 ?_
    have J3 : Inv X pins σ H' { s' with heap := h2.update T2 (Obj.mapFields (·.setIfInBounds 3 .none)) } := Inv.turnedL (s := { s' with heap := h2 }) (h' := h2.update T2 (Obj.mapFields (·.setIfInBounds 3 .none))) (t' := s'.toks) (ch := [T2]) J2 (fun b o hb e => (Heap.get?_update_other _ _ (fun z => hb (by rw [← z]; exact List.mem_singleton.mpr rfl))).trans e) fun b hb => by
      cases List.mem_singleton.mp hb
      exact fT2
    have x1' : (h2.update T2 (Obj.mapFields (·.setIfInBounds 3 .none))).get? a = some oe2 := (Heap.get?_update_other _ _ x6).trans x1
    have J4 := J3.track (o := XO2 C a dx) fA szA (XO2.ok x1' x2 x3 x4)
    refine store_ok J4 hN hin (.inl hln) (v := .ref a) rfl (fun s4 I4 => ?_) (.inr hln)
    have hiσ : inn < σ.length := by rw [J4.len]; exact (List.getElem?_eq_some_iff.mp hin).1
    refine wpAny_execs_cons (wpAny_Assign_Name ?_ hs2)
    obtain ⟨mm, hn4, hl4⟩ := I4.loc
    obtain ⟨u4, ru4, lk4⟩ := hl4 inn n (.ref a) hin (List.getElem?_set_self hiσ) (.inl hln)
    cases ru4
    rcases lk4 with ⟨_, hu4⟩ | ⟨hk4, _⟩
    rotate_left
    · rcases hk4 with z | z
      · rw [show X.env.kindOf n = X.env.scope.names.lookup n from rfl, hln] at z; cases z
      · rw [show X.env.kindOf n = X.env.scope.names.lookup n from rfl, hln] at z; cases z
    refine wpAny_Name (wpAny_loadName_local I4.ok.kind hln hn4 hu4 ?_) hdn
    refine store_ok I4 hN him hlm (v := .ref a) rfl (fun s5 I5 => wpAny_execs_nil ?_) hfm
    refine name_goes I5 hN hin hln fun s6 I6 => ?_
    exact ⟨_, _, I6, qx a n3⟩
end
end L2
namespace L2
open PySem PySem.Spec PyProof.Rows PySem.W
section
variable {prog : Program} {w : World} {A : Around} {E : Value → Shared → Prop} {h : Heap} {g : Array GenState} {d : Drawn} {t : Nat} {os : OsState} {a dx : Addr} {o : Obj} {vs : Array Value}
  {nm q : Str} {C N : Addr} {bs bm : List Value} {sn : List Str} {sub : List Value} {ab : Bool} {col : Option Bool} {dd : Option Addr} {k0 k1 k2 k3 k5 : Option Value} {newId : String} {mA : Str → Option Value} {name : Str} {v : Value}
theorem lkAt {α : Type} {M : Model} {p : Sem α} {r : α} {Q : α → Shared → Prop} (x : Looks M h p r) (z : Q r ⟨h, g, d, t, os⟩) : wpAny M A p Q E ⟨h, g, d, t, os⟩ := x _ _ _ _ (fun _ _ e => e) z
theorem xc_check_ga {M : Model} {nv : Value} {Q : Unit → Shared → Prop} (hC : h.get? C = some (excClassObj nm q C N bs bm true sn sub ab col dd k0 k1 k2 k3 k5 newId)) (hB : bm.contains (.type "BaseException") = true) (hx : h.get? a = some o) (hc : o.cls = .ref C)
    (hq : Q () ⟨h, g, d, t, os⟩) : wpAny M A (checkBuiltinCall "BaseException.__getattribute__" ⟨[.ref a, nv], []⟩) Q E ⟨h, g, d, t, os⟩ := by
  have c1 : (Value.ref C :: bm).contains (.type "BaseException") = true := by
    rw [List.contains_cons, hB]
    exact Bool.or_true _
  have e1 : builtinKind "BaseException.__getattribute__" = some .slot := by decide +kernel
  have e2 : splitId "BaseException.__getattribute__" = some ("BaseException", "__getattribute__") := by decide +kernel
  have ha := PySem.F.args_bexc_ga (.ref a) nv
  have S0 : Looks M h (isInstance (.ref a) (.type "BaseException")) true := by
    have T0 : Looks M h (typeOf (.ref a)) (.ref C) := by
      have : Looks M h (typeOf (.ref a)) o.cls := (Looks.ld hx).andThen .now
      rw [hc] at this
      exact this
    refine T0.andThen ?_
    intro A' Q' E' s' kk qq
    obtain ⟨h2, g2, d2, t2, os2⟩ := s'
    refine wpAny_isSubtype_exc (kk _ _ hC) ?_
    rw [c1]
    exact qq
  exact @check_slot M _ _ ⟨h, g, d, t, os⟩ "BaseException.__getattribute__" "BaseException" "__getattribute__" (.ref a) [nv] [] _ e1 e2 S0 ha hq
theorem xc_entry {tk : Tok} {Q : PySem.Fin → Shared → Prop} (hC : h.get? C = some (excClassObj nm q C N bs bm true sn sub ab col dd k0 k1 k2 k3 k5 newId)) (hx : h.get? a = some o) (hc : o.cls = .ref C) (hd : o.data = .fields vs) (hdx : o.dict = some dx) (hns : h.Ns1 dx mA) (hv : mA name = some v)
    (L1 : Looks (model prog w) h (typeLookup (.ref C) name) none) (hq : Q (.done (.ret v)) ⟨h, g, d, t, os⟩) : wpAny (model prog w) A (Builtin.«object.__getattribute__» ⟨[.ref a, .str name tk], []⟩) Q E ⟨h, g, d, t, os⟩ := by
  unfold Builtin.«object.__getattribute__»
  repeat (first | (with_reducible refine wpAny_loadPart_at hx ?_; rw [hc]) | with_reducible refine lkAt L1 ?_ | wp_step)
  rw [hd]
  dsimp only
  unfold instanceDict
  repeat (first | with_reducible refine wpAny_loadPart_at hC ?_ | (with_reducible refine wpAny_loadPart_at hx ?_; rw [hc]) | wp_step)
  rw [hdx]
  repeat (first | (with_reducible refine wpAny_nsGet hns.ns ?_; rw [hv]) | wp_step)
  exact hq
theorem xc_load {expr : Bool} {Q : Value → Shared → Prop} (hC : h.get? C = some (excClassObj nm q C N bs bm true sn sub ab col dd k0 k1 k2 k3 k5 newId)) (hB : bm.contains (.type "BaseException") = true) (hx : h.get? a = some o) (hc : o.cls = .ref C) (hd : o.data = .fields vs) (hdx : o.dict = some dx)
    (hns : h.Ns1 dx mA) (hv : mA name = some v) (L1 : Looks (model prog w) h (typeLookup (.ref C) name) none) (L2 : Looks (model prog w) h (typeLookup (.ref C) "__getattribute__") (some (.builtin "BaseException.__getattribute__"))) (L3 : Looks (model prog w) h (typeLookup (.ref C) "__getattr__") none) (hh : handedOut v = pure v)
    (hq : Q v ⟨h, g, d, t + 1, os⟩) : wpAny (model prog w) A (getAttr (.ref a) name expr) Q E ⟨h, g, d, t, os⟩ := by
  have FB := PySem.F.attr_ValueError
  have f3 := FB.ga.bind (.ref a)
  have x0 : (expr && onTheHeap (Value.builtin "BaseException.__getattribute__")) = false := by cases expr <;> rfl
  have x2 : (Value.builtin "BaseException.__getattribute__" == Value.builtin "object.__getattribute__") = false := by decide +kernel
  have x1 : (onTheHeap (Value.ref C) && Value.builtin "BaseException.__getattribute__" == Value.builtin "object.__getattribute__") = false := by
    rw [x2]
    rfl
  unfold getAttr getAttrBy
  repeat (any_goals (first | assumption | (with_reducible refine wpAny_loadPart_at hx ?_; rw [hc]) | with_reducible refine lkAt L2 ?_ | with_reducible refine lkAt L3 ?_ | wp_step))
  refine codeAny_call_builtin FB.ga.plain PySem.F.entry_bexc_ga (xc_check_ga hC hB hx hc (xc_entry hC hx hc hd hdx hns hv L1 ?_))
  show wpAny _ _ (handedOut v) _ _ _
  rw [hh]
  exact wpAny_pure hq
end
structure XGet (K : PySem.W.Frag) (C : Addr) : Prop where
  ob : ∃ nm q N bs bm sn sub ab col dd k0 k1 k2 k3 k5 newId, K.lookup C = some (excClassObj nm q C N bs bm true sn sub ab col dd k0 k1 k2 k3 k5 newId) ∧ bm.contains (.type "BaseException") = true
  ga : findIn K (.ref C) "__getattribute__" = some (some (.builtin "BaseException.__getattribute__"))
  gh : findIn K (.ref C) "__getattr__" = some none
  pl : findIn K (.ref C) "place" = some none
section
variable {X : Cx} {e : Expr} {te : TE} {pos : Pos}
def tXPlace (K : PySem.W.Frag) (te : TE) : TE := fun σ H Q => te σ H fun x H1 => ∃ a C dx v, x = .ref a ∧ H1 a = some (XO2 C a dx) ∧ H1 dx = some (.xd [("place", v)]) ∧ XGet K C ∧ Q v H1
theorem x_place {pins : List (Addr × Obj)} {σ : St} {H : Hp} {s : Shared} {a C dx : Addr} {v : V} {b : Bool} {E : Value → Shared → Prop} {A : Around} {Q : Value → Shared → Prop} (I : Inv X pins σ H s) (ea : H a = some (XO2 C a dx)) (ed : H dx = some (.xd [("place", v)])) (c : XGet X.K C)
    (h : ∀ u s', Inv X pins σ H s' → RelV v u → Q u s') : wpAny (model X.prog X.w) A (getAttr (.ref a) "place" b) Q E s := by
  obtain ⟨⟨oe, fs, y1, y2, y3, y4⟩, _, _⟩ := I.hok a _ ea
  obtain ⟨mA, ns, rel⟩ := I.hok dx _ ed
  obtain ⟨u, hu, ru⟩ := RelO.some_of (v := v) (o := mA "place") (rel "place")
  obtain ⟨nm, q, N, bs, bm, sn, sub, ab, col, dd, k0, k1, k2, k3, k5, newId, lk, b2⟩ := c.ob
  obtain ⟨hh, g, d, t, os⟩ := s
  exact xc_load (I.kIn _ _ lk) b2 y1 y2 y4 y3 ns hu (looks_findIn I.kIn c.pl) (looks_findIn I.kIn c.ga) (looks_findIn I.kIn c.gh) (handedOut_of (handed_of ru)) (h u _ (I.tok _) ru)
theorem pe_place {n : Str} {np : Pos} (he : PE X (.Name n np) te) : PE X (.Attribute (.Name n np) "place" pos) (tXPlace X.K te) := by
  intro pins s σ H Q I h
  refine PyProof.Rows.Attribute_name (thn (he pins s σ H _ I h) fun u s1 ⟨x, H1, I1, rx, a, C, dx, v, ex, ea, ed, c, q⟩ => ?_)
  subst ex
  obtain rfl : u = Value.ref a := rx
  exact x_place I1 ea ed c fun u s2 I2 ru => ⟨v, H1, I2, ru, q⟩
end
end L2
namespace L2
open PySem PySem.Spec PyProof.Rows PySem.W
section
variable {P : Program} {w : World} {K : PySem.W.Frag} {mg : Str → Option Value} {base : Heap}
theorem Fun.okX {x qual : Str} {st : Stmt} {f : Addr} {fd : FuncData} {N ps : List Str} {k : Nat} {sp : Sp} (F : Fun K x qual st f fd) (S : FnScope N ps (defScope st)) (len : ∀ vs H Q E, sp vs H Q E → vs.length = ps.length)
    (hbody : ∀ (cdv : Value) (A : Around) (outer : List Env) (s : Shared) (H : Hp) (vs : List V) (Q : VK) (E : XK), Room k (A.deeper (envOfC qual (defScope st) s.heap.objs.size f cdv)) → sp vs H Q E →
      ∃ t, PSs (cxOf (CXX P w) P w K mg base N qual (defScope st) f cdv A outer s H E) (defBody st) t ∧ t { nx := fun _ H' => Q .non H', rt := Q } (start N vs) H) : FnOk P w K mg base (CXX P w) (k + 1) f fd ps sp := by
  obtain ⟨oc, od, kV, doc, pm, an, cdv, ct, osl, rfl, lk, hcd⟩ := F.ex
  exact fn_of lk hcd S len fun A outer s H vs Q E hr hsp => hbody cdv A outer s H vs Q E hr hsp
theorem raisesX {N : List Str} {qual : Str} {scope : Scope} {f : Addr} {cdv : Value} {A : Around} {outer : List Env} {s : Shared} {H : Hp} {E : XK} : RaisesX (cxOf (CXX P w) P w K mg base N qual scope f cdv A outer s H E) E :=
  fun _ _ _ _ _ _ _ I ea hn q => raise_cx I ea hn q
end
end L2
namespace L2
open PySem PySem.Spec PyProof.Rows PySem.W
section
variable {prog : Program} {w : World} {A : Around} {E : Value → Shared → Prop} {h : Heap} {g : Array GenState} {d : Drawn} {t : Nat} {os : OsState} {a : Addr} {o : Obj} {vs : Array Value}
  {nm q : Str} {C N : Addr} {bs bm : List Value} {sn : List Str} {sub : List Value} {ab : Bool} {col : Option Bool} {dd : Option Addr} {k0 k1 k2 k3 k5 : Option Value} {newId : String}
theorem xk_get {R : Result → Shared → Prop} (hC : h.get? C = some (excClassObj nm q C N bs bm true sn sub ab col dd k0 k1 k2 k3 k5 newId)) (hO : bm.contains (.type "object") = true) (hx : h.get? a = some o) (hc : o.cls = .ref C) (hd : o.data = .fields vs)
    (hq : R (.ok (.ret (.ref C))) ⟨h, g, d, t, os⟩) : codeAny (model prog w) A (.call (.builtin "getset_descriptor.__get__") ⟨[.builtin "object.__class__", .ref a, .ref C], []⟩) R ⟨h, g, d, t, os⟩ := by
  have T5 : (⟨h, g, d, t, os⟩ : Shared).TypeIs (.builtin "object.__class__") "getset_descriptor" := PySem.F.typeOf_object_class
  have c1 : (Value.ref C :: bm).contains (.type (".".intercalate ("object.__class__".cutAt '.').dropLast)) = true := by
    rw [PySem.F.owner_object_class, List.contains_cons, hO]
    exact Bool.or_true _
  refine codeAny_call_builtin PySem.F.slot_gs_get.plain PySem.F.entry_gs_get (PySem.F.slot_gs_get.check _ _ _ _ _ _ _ _ T5 (PySem.F.args_gs_get _ _ _) ?_)
  repeat (any_goals (first | assumption | (with_reducible refine wpAny_loadPart_at hx ?_; rw [hc]) | (with_reducible refine wpAny_isSubtype_exc hC ?_; rw [c1]) | wp_step))
  refine ⟨Code.quiet_builtin _ (by decide +kernel), codeAny_builtin PySem.F.entry_object_class ?_⟩
  repeat (any_goals (first | assumption | (with_reducible refine wpAny_loadPart_at hx ?_; rw [hc]) | wp_step))
theorem xk_entry {tk : Tok} {Q : PySem.Fin → Shared → Prop} (hC : h.get? C = some (excClassObj nm q C N bs bm true sn sub ab col dd k0 k1 k2 k3 k5 newId)) (hO : bm.contains (.type "object") = true) (hx : h.get? a = some o) (hc : o.cls = .ref C) (hd : o.data = .fields vs)
    (L1 : Looks (model prog w) h (typeLookup (.ref C) "__class__") (some (.builtin "object.__class__"))) (hq : Q (.done (.ret (.ref C))) ⟨h, g, d, t, os⟩) : wpAny (model prog w) A (Builtin.«object.__getattribute__» ⟨[.ref a, .str "__class__" tk], []⟩) Q E ⟨h, g, d, t, os⟩ := by
  have T5 : (⟨h, g, d, t, os⟩ : Shared).TypeIs (.builtin "object.__class__") "getset_descriptor" := PySem.F.typeOf_object_class
  have f5 := PySem.F.typeOf_object_class
  have f6 := PySem.F.slot_gs_get.lookup
  have f7 := PySem.F.slot_gs_set.lookup
  repeat (any_goals (first | assumption | (with_reducible refine wpAny_loadPart_at hx ?_; rw [hc]) | with_reducible refine lkAt L1 ?_ | wp_step))
  refine xk_get hC hO hx hc hd ?_
  repeat (any_goals (first | assumption | wp_step))
theorem xk_attr {Q : Option Value → Shared → Prop} (hC : h.get? C = some (excClassObj nm q C N bs bm true sn sub ab col dd k0 k1 k2 k3 k5 newId)) (hB : bm.contains (.type "BaseException") = true) (hO : bm.contains (.type "object") = true) (hx : h.get? a = some o) (hc : o.cls = .ref C) (hd : o.data = .fields vs)
    (L1 : Looks (model prog w) h (typeLookup (.ref C) "__class__") (some (.builtin "object.__class__"))) (L2 : Looks (model prog w) h (typeLookup (.ref C) "__getattribute__") (some (.builtin "BaseException.__getattribute__"))) (L3 : Looks (model prog w) h (typeLookup (.ref C) "__getattr__") none)
    (hq : Q (some (.ref C)) ⟨h, g, d, t + 1, os⟩) : wpAny (model prog w) A (getAttr? (.ref a) "__class__") Q E ⟨h, g, d, t, os⟩ := by
  have FB := PySem.F.attr_ValueError
  have f3 := FB.ga.bind (.ref a)
  have x2 : (Value.builtin "BaseException.__getattribute__" == Value.builtin "object.__getattribute__") = false := by decide +kernel
  have x1 : (onTheHeap (Value.ref C) && Value.builtin "BaseException.__getattribute__" == Value.builtin "object.__getattribute__") = false := by
    rw [x2]
    rfl
  unfold getAttr? getAttrBy? getAttrBy
  repeat (any_goals (first | assumption | (with_reducible refine wpAny_loadPart_at hx ?_; rw [hc]) | with_reducible refine lkAt L2 ?_ | with_reducible refine lkAt L3 ?_ | wp_step))
  refine codeAny_call_builtin FB.ga.plain PySem.F.entry_bexc_ga (xc_check_ga hC hB hx hc (xk_entry hC hO hx hc hd L1 ?_))
  repeat (any_goals (first | assumption | wp_step))
end
end L2
namespace L2
open PySem PySem.Spec PyProof.Rows PySem.W
structure XIs (K : PySem.W.Frag) (C : Addr) : Prop where
  ob : ∃ nm q N bs bm sn sub ab col dd k0 k1 k2 k3 k5 newId, K.lookup C = some (excClassObj nm q C N bs bm true sn sub ab col dd k0 k1 k2 k3 k5 newId) ∧ bm.contains (.type "BaseException") = true ∧ bm.contains (.type "object") = true
  cl : findIn K (.ref C) "__class__" = some (some (.builtin "object.__class__"))
  ga : findIn K (.ref C) "__getattribute__" = some (some (.builtin "BaseException.__getattribute__"))
  gh : findIn K (.ref C) "__getattr__" = some none
def XAt (a C : Addr) (h : Heap) : Prop := ∃ o fs, h.get? a = some o ∧ o.cls = .ref C ∧ o.data = .fields fs
theorem kitx_exc {K : PySem.W.Frag} {a C : Addr} (c : XIs K C) : KitX K (.ref a) (.ref C) (XAt a C) where
  ty := fun M h _ z => by
    obtain ⟨o, fs, e1, e2, _⟩ := z
    have y : Looks M h (typeOf (.ref a)) o.cls := (Looks.ld e1).andThen .now
    rw [e2] at y
    exact y
  it := fun M h X _ => by
    obtain ⟨nm, q, N, bs, bm, sn, sub, ab, col, dd, k0, k1, k2, k3, k5, newId, lk, _⟩ := c.ob
    intro A' Q' E' s' kk qq
    unfold isType loadHead
    exact wpAny_bind (wpAny_loadPart (kk _ _ (X _ _ lk)) (wpAny_pure qq))
  ne := fun h tp dd its n sl X htp => by
    obtain ⟨nm, q, N, bs, bm, sn, sub, ab, col, dd', k0, k1, k2, k3, k5, newId, lk, _⟩ := c.ob
    refine Bool.eq_false_iff.mpr fun z => ?_
    have e : C = tp := Value.ref.inj (beq_iff_eq.mp z)
    rw [← e] at htp
    have y := Option.some.inj ((X _ _ lk).symm.trans htp)
    have y2 := congrArg Obj.cls y
    injection y2 with y3
    exact absurd y3 (by decide)
  ca := fun {prog w A E Q s} X z k => by
    obtain ⟨nm, q, N, bs, bm, sn, sub, ab, col, dd, k0, k1, k2, k3, k5, newId, lk, b1, b2⟩ := c.ob
    obtain ⟨o, fs, e1, e2, e3⟩ := z
    obtain ⟨hh, g, d, t, os⟩ := s
    exact xk_attr (X _ _ lk) b1 b2 e1 e2 e3 (looks_findIn X c.cl) (looks_findIn X c.ga) (looks_findIn X c.gh) k
section
variable {X : Cx}
theorem call_isX : CallR X (.builtin "isinstance") (fun xs H Q => ∃ a C dx cv tv b, xs = [.ref a, cv] ∧ H a = some (XO2 C a dx) ∧ XIs X.K C ∧ (∀ u, RelV cv u → u = tv) ∧ kitOne X.K (.ref C) tv = some b ∧ Q (.bl b) H) := by
  intro pins s σ H xs us Q I r h
  obtain ⟨a, C, dx, cv, tv, b, rfl, ea, c, hv, e, q⟩ := h
  obtain ⟨u, u', rfl, ru, rc⟩ := vals2 r
  obtain rfl : u = Value.ref a := ru
  obtain rfl := hv u' rc
  obtain ⟨⟨oe, fs, y1, y2, y3, y4⟩, _, _⟩ := I.hok a _ ea
  exact kia_one (kitx_exc c) I.kIn ⟨oe, fs, y1, y2, y4⟩ e (fun z => nomatch z) fun tk => ⟨.bl b, H, I.tok _, rfl, q⟩
end
end L2
namespace L2
open PySem PySem.Spec PyProof.Rows
section
variable {X : Cx}
end
end L2
namespace L2
open PySem PySem.Spec PyProof.Rows
theorem str_yes {x y : Str} (c : decide (V.str x = V.str y) = true) : x = y := by injection (of_decide_eq_true c)
theorem str_no {x y : Str} (c : ¬ decide (V.str x = V.str y) = true) : ¬ x = y := fun e => c (decide_eq_true (by rw [e]))
end L2
namespace L2
open PySem
section
variable {P : Program} {w : World} {A : Around} {E : Value → Shared → Prop} {s : Shared}
end
end L2
namespace L2
open PySem
section
variable {P : Program} {w : World} {A : Around} {E : Value → Shared → Prop} {s : Shared}
end
end L2
namespace L2
open PySem
section
variable {P : Program} {w : World} {A : Around} {E : Value → Shared → Prop} {s : Shared}
end
end L2
namespace L2
open PySem
section
variable {P : Program} {w : World} {A : Around} {E : Value → Shared → Prop} {s : Shared}
end
end L2
namespace L2
open PySem
section
variable {P : Program} {w : World} {A : Around} {E : Value → Shared → Prop} {s : Shared}
end
end L2
namespace L2
open PySem
section
variable {P : Program} {w : World} {A : Around} {E : Value → Shared → Prop} {s : Shared}
set_option maxHeartbeats 3200000 in
end
end L2
namespace L2
open PySem PySem.Spec PyProof.Rows
section
variable {X : Cx}
end
end L2
namespace L2
open PySem
section
variable {P : Program} {w : World} {A : Around} {E : Value → Shared → Prop} {s : Shared}
end
end L2
namespace L2
open PySem PySem.Spec PyProof.Rows
section
variable {X : Cx}
end
end L2
namespace L2
open PySem PySem.Spec PyProof.Rows
theorem ifYes {b : Bool} {A B : Prop} (h : b = true) (x : A) : if b = true then A else B := by rw [if_pos h]; exact x
theorem ifNo {b : Bool} {A B : Prop} (h : b = false) (x : B) : if b = true then A else B := by rw [if_neg (by rw [h]; decide)]; exact x
end L2
namespace L2
open PySem PySem.Spec PyProof.Rows
end L2
namespace Tr
open PySem PySem.Spec PyProof.Rows L2
set_option linter.all false
inductive Val
  | num (n : Int)
  | nm (x : Str)
inductive Deed
  | set (x : Str) (a : Val) (sg : Str) (b : Val)
  | put (q x : Str)
  | get (q x : Str)
  | give (x : Str)
  | cond (x : Str) (t o : List Deed)
  | whl (x : Str) (b : List Deed)
  | rep (n : Int) (b : List Deed)
def Val.names : Val → List Str
  | .num _ => []
  | .nm x => [x]
def Deed.names : Deed → List Str
  | .set x a _ b => x :: (a.names ++ b.names)
  | .put _ x | .get _ x | .give x | .cond x _ _ | .whl x _ => [x]
  | .rep _ _ => []
mutual
def Deed.depth : Deed → Nat
  | .cond _ t o => max (depths t) (depths o) + 1
  | .whl _ b => depths b + 1
  | .rep _ b => depths b + 1
  | _ => 0
def depths : List Deed → Nat
  | [] => 0
  | d :: r => max d.depth (depths r)
end
inductive Op
  | root
  | ifT (x : Str)
  | ifO (x : Str) (t : List Deed)
  | whl (x : Str)
  | rep (n : Int)
structure Fr where
  op : Op
  ds : List Deed
  shut : Bool
  times : Int
def Fr.deed (f : Fr) : Deed := match f.op with
  | .root => .rep 0 f.ds
  | .ifT x => .cond x f.ds []
  | .ifO x t => .cond x t f.ds
  | .whl x => .whl x f.ds
  | .rep n => .rep n f.ds
def Op.one : Op → Nat
  | .root => 0
  | _ => 1
def mixed (c k : Int) : Int := (c % 2147483647 * (48271 + 1103 * k * k) % 2147483629 + k) * (c % 2147483647 * (48271 + 1103 * k * k) % 2147483629 + 3 * k) % 2147483587
def letters : Str := "abcdefghijklmnopqrstuvwxyz"
def kws : List Str := ["ask", "store", "put", "get", "give", "if", "else", "while", "repeat", "end"]
def Val.v : Val → V
  | .num n => .int n
  | .nm x => .str x
mutual
def Deed.data : Deed → PyData
  | .set x a sg b => .tuple [.str "set", .str x, (match a with | .num n => .int n | .nm y => .str y), .str sg, (match b with | .num n => .int n | .nm y => .str y)]
  | .put q x => .tuple [.str "put", .str q, .str x]
  | .get q x => .tuple [.str "get", .str q, .str x]
  | .give x => .tuple [.str "give", .str x]
  | .cond x t o => .tuple [.str "if", .str x, .list (datas t), .list (datas o)]
  | .whl x b => .tuple [.str "while", .str x, .list (datas b)]
  | .rep n b => .tuple [.str "repeat", .int n, .list (datas b)]
def datas : List Deed → List PyData
  | [] => []
  | d :: r => d.data :: datas r
end
end Tr
namespace Tr
open PySem PySem.Spec PyProof.Rows L2
set_option linter.all false
theorem Same.over {H0 H : Hp} {f : Addr} {o : HO} (h : Same H0 H) (hf : H0 f = none) : Same H0 (upd H f o) := fun b u q => by
  rw [upd_ne (ne_of_none q hf)]
  exact h b u q
structure Fz where
  f : Fr
  c : Addr
  p : Addr
  e : Addr
def Fz.o (x : Fz) : V := match x.f.op with
  | .ifT _ => .ref x.e
  | _ => .non
def wh : List Fr → List Deed → List Deed
  | [], _ => []
  | [f], dt => f.ds ++ dt
  | f :: g :: r, dt => wh (g :: r) [({ f with ds := f.ds ++ dt } : Fr).deed]
section
variable {Hb H0 H H1 : Hp} {S s0 s1 s2 s3 : Addr} {z : List Fz}
end
end Tr
namespace Tr
open PySem PySem.Spec PyProof.Rows L2
set_option linter.all false
section
variable {Hb H0 H H1 : Hp} {S s0 s1 s2 s3 : Addr} {z : List Fz}
end
end Tr
namespace Tr
open PySem PySem.Spec PyProof.Rows L2
set_option linter.all false
section
variable {Hb H0 H H' : Hp} {S s0 s1 s2 s3 : Addr} {z : List Fz}
end
end Tr
namespace Tr
open PySem PySem.Spec PyProof.Rows L2
set_option linter.all false
section
variable {Hb H0 H H4 : Hp} {S s0 s1 s2 s3 : Addr}
end
end Tr
namespace Tr
open PySem PySem.Spec PyProof.Rows L2
set_option linter.all false
end Tr
namespace Tr
open L2
end Tr
namespace Tr
end Tr
namespace Tr
open PySem PySem.Spec PyProof.Rows L2
set_option linter.all false
def Deed.strs : Deed → List Str
  | .set x a sg b => x :: sg :: (a.names ++ b.names)
  | .put q x | .get q x => [q, x]
  | .give x | .cond x _ _ | .whl x _ => [x]
  | .rep _ _ => []
end Tr
namespace Tr
open PySem PySem.Spec PyProof.Rows L2
set_option linter.all false
end Tr
namespace L2
open PySem PySem.Spec PyProof.Rows
theorem comp_range {n : Nat} {g : TG} {tt : TT} {te : TE} {Fin : List V → Hp → Prop} {σ : St} {H : Hp} (Pv : Nat → List V → St → Hp → Prop) (h0 : Pv 0 [] σ H) (hz : ∀ i ys σ H, i ≤ n → Pv i ys σ H → ys.length ≤ i) (hx : n ≤ sizeLine)
    (hs : ∀ i ys σ H, i < n → Pv i ys σ H → g (.int i) σ H fun σ2 H2 => tt σ2 H2 fun b H3 => if b = true then te σ2 H3 fun y H4 => Pv (i + 1) (ys ++ [y]) σ2 H4 else Pv (i + 1) ys σ2 H3)
    (hd : ∀ ys σ H, Pv n ys σ H → Fin ys H) : ∃ W : Nat → Nat → List V → St → Hp → Prop, (∃ m, W 0 m [] σ H) ∧ CompTurns (Itr 0 n) g tt te Fin W := by
  refine ⟨fun i m ys σ H => m = n - i ∧ i ≤ n ∧ Pv i ys σ H, ⟨_, rfl, Nat.zero_le _, h0⟩, ?_⟩
  rintro i m ys σ H ⟨rfl, hi, p⟩
  have few := hz i ys σ H hi p
  by_cases lt : i < n
  · refine .inr ⟨lt, by omega, Pv (i + 1), fun ys' σ' H' p' => ⟨_, by omega, rfl, lt, p'⟩, fun v H' y => ?_⟩
    obtain ⟨e, y⟩ := y
    rw [Int.zero_add] at y
    subst e y
    exact hs i ys σ _ lt p
  · obtain rfl : i = n := by omega
    exact .inl ⟨Nat.le_refl _, by omega, hd ys σ H p⟩
theorem comp_range0 {n : Nat} {g : TG} {te : TE} {Fin : List V → Hp → Prop} {σ : St} {H : Hp} (Pv : Nat → List V → St → Hp → Prop) (h0 : Pv 0 [] σ H) (hz : ∀ i ys σ H, i ≤ n → Pv i ys σ H → ys.length ≤ i) (hx : n ≤ sizeLine)
    (hs : ∀ i ys σ H, i < n → Pv i ys σ H → g (.int i) σ H fun σ2 H2 => te σ2 H2 fun y H4 => Pv (i + 1) (ys ++ [y]) σ2 H4)
    (hd : ∀ ys σ H, Pv n ys σ H → Fin ys H) : ∃ W : Nat → Nat → List V → St → Hp → Prop, (∃ m, W 0 m [] σ H) ∧ CompTurns (Itr 0 n) g tYes te Fin W :=
  comp_range Pv h0 hz hx (fun i ys σ H lt p => by
    rw [yes_eq (N' := fun _ _ _ => True)]
    exact hs i ys σ H lt p) hd
theorem comp_list0 {K : PySem.W.Frag} {a : Addr} {xs : List V} {g : TG} {te : TE} {Fin : List V → Hp → Prop} {σ : St} {H : Hp} (Pv : Nat → List V → St → Hp → Prop) (h0 : Pv 0 [] σ H) (hz : ∀ i ys σ H, i ≤ xs.length → Pv i ys σ H → ys.length ≤ i) (hx : xs.length ≤ sizeLine) (hl : ∀ i ys σ H, Pv i ys σ H → SqL K H a xs)
    (hs : ∀ i x ys σ H, xs[i]? = some x → Pv i ys σ H → g x σ H fun σ2 H2 => te σ2 H2 fun y H4 => Pv (i + 1) (ys ++ [y]) σ2 H4)
    (hd : ∀ ys σ H, Pv xs.length ys σ H → Fin ys H) : ∃ W : Nat → Nat → List V → St → Hp → Prop, (∃ m, W 0 m [] σ H) ∧ CompTurns (Itl K a) g tYes te Fin W :=
  comp_list Pv h0 hz hx hl (fun i x ys σ H hx p => by
    rw [yes_eq (N' := fun _ _ _ => True)]
    exact hs i x ys σ H hx p) hd
end L2
namespace Tr
open PySem PySem.Spec PyProof.Rows L2
end Tr
namespace L2
open PySem
section
variable {P : Program} {w : World} {A : Around} {E : Value → Shared → Prop} {s : Shared}
end
end L2
namespace L2
open PySem
section
variable {P : Program} {w : World} {A : Around} {E : Value → Shared → Prop} {s : Shared}
set_option maxHeartbeats 3200000 in
end
end L2
namespace L2
open PySem PySem.Spec PyProof.Rows
section
variable {X : Cx}
end
end L2
namespace L2
open PySem PySem.Spec PyProof.Rows
section
variable {X : Cx}
end
end L2
namespace L2
open PySem PySem.Spec PyProof.Rows
section
variable {X : Cx}
end
end L2
namespace L2
end L2
namespace Tr
open PySem PySem.Spec PyProof.Rows L2
def optV : Option Str → V
  | none => .non
  | some q => .str q
end Tr
namespace Tr
open PySem PySem.Spec PyProof.Rows L2
end Tr
namespace Tr
open PySem PySem.Spec PyProof.Rows L2
def Deed.word : Deed → Str
  | .set .. => "set"
  | .put .. => "put"
  | .get .. => "get"
  | .give .. => "give"
  | .cond .. => "if"
  | .whl .. => "while"
  | .rep .. => "repeat"
end Tr
namespace Tr
open PySem PySem.Spec PyProof.Rows L2
end Tr
namespace L2
open PySem PySem.Spec PyProof.Rows
end L2
namespace Tr
open PySem PySem.Spec PyProof.Rows L2
end Tr
namespace Tr
open PySem PySem.Spec PyProof.Rows L2
end Tr
namespace Tr
open PySem PySem.Spec PyProof.Rows L2
end Tr
namespace Tr
open PySem PySem.Spec PyProof.Rows L2
end Tr
namespace Tr
open PySem PySem.Spec PyProof.Rows L2
end Tr
namespace Tr
open PySem PySem.Spec PyProof.Rows L2
end Tr
namespace Tr
open PySem PySem.Spec PyProof.Rows L2
end Tr
namespace Tr
open PySem PySem.Spec PyProof.Rows L2
end Tr
namespace Tr
open PySem
end Tr
namespace Tr
open PySem
structure Wt where
  g : Int
  e : Deed → Int
mutual
def Wt.d (w : Wt) : Deed → Int
  | .rep n b => w.g + n * (Wt.l w b + w.g)
  | .cond _ _ _ => w.g
  | .whl _ _ => w.g
  | .set x a sg b => w.e (.set x a sg b)
  | .put q x => w.e (.put q x)
  | .get q x => w.e (.get q x)
  | .give x => w.e (.give x)
def Wt.l (w : Wt) : List Deed → Int
  | [] => 0
  | d :: r => Wt.d w d + Wt.l w r
end
def Wt.m (w : Wt) : List Fr → Int
  | [] => 0
  | [f] => f.times * w.l f.ds
  | f :: g :: r => f.times * w.l f.ds + (g.times * w.g + match f.op with | .rep _ => f.times * w.g | _ => 0) + Wt.m w (g :: r)
end Tr
namespace Tr
open PySem PySem.Spec PyProof.Rows L2
end Tr
namespace L2
open PySem PySem.Spec PyProof.Rows
section
variable {X : Cx} {CX : CXT} {k : Nat} {f C : Addr} {fd : FuncData} {ps : List Str} {sp : Sp} {E : XK} {x m : Str} {p pos apos : Pos} {e o : Expr} {es : List Expr} {t : TA} {te ta : TE} {ds : List Value} {dvs : List V}
end
theorem upd_twice {H : Hp} {p : Addr} {o o' : HO} : upd (upd H p o) p o' = upd H p o' := by
  funext b
  by_cases e : b = p
  · subst e
    rw [upd_same, upd_same]
  · rw [upd_ne e, upd_ne e, upd_ne e]
end L2
namespace L2
open PySem PySem.Spec PyProof.Rows
theorem atI_pos {α : Type} {xs : List α} {i : Int} {v : α} (h : 0 ≤ i) (e : xs[i.toNat]? = some v) : atI xs i = some v := by
  have := atI_nat (xs := xs) (j := i.toNat) (v := v) e
  rwa [Int.toNat_of_nonneg h] at this
end L2
namespace L2
open PySem PySem.Spec PyProof.Rows
end L2
namespace L2
open PySem PySem.Spec PyProof.Rows
section
variable {X : Cx}
end
end L2
namespace L2
open PySem PySem.Spec PyProof.Rows
section
variable {prog : Program} {w : World} {A : Around} {E : Value → Shared → Prop} {s : Shared}
end
end L2
namespace L2
open PySem PySem.Spec PyProof.Rows
section
variable {X : Cx} {pins : List (Addr × Obj)} {σ : St}
end
end L2
namespace L2
open PySem PySem.Spec PyProof.Rows
end L2
namespace L2
open PySem PySem.Spec PyProof.Rows
section
variable {X : Cx} {pins : List (Addr × Obj)} {σ : St} {H : Hp} {s : Shared} {a : Addr} {kvs : List (Key × V)} {k : Key} {z : V} {u r : Value} {A : Around} {E : Value → Shared → Prop}
end
section
variable {X : Cx} {o e f : Expr} {apos cpos : Pos} {td ty tx : TE}
end
end L2
namespace L2
open PySem PySem.Spec PyProof.Rows
section
variable {prog : Program} {w : World} {A : Around} {E : Value → Shared → Prop} {s : Shared}
end
end L2
namespace L2
open PySem PySem.Spec PyProof.Rows
section
variable {prog : Program} {w : World} {A : Around} {R : Result → Shared → Prop} {K : Type} [DecidableEq K] {knd : KeyKind prog w K}
end
end L2
namespace L2
open PySem PySem.Spec PyProof.Rows
section
variable {prog : Program} {w : World} {A : Around} {E : Value → Shared → Prop} {K : Type} [DecidableEq K] {knd : KeyKind prog w K} {s : Shared}
end
end L2
namespace L2
open PySem PySem.Spec PyProof.Rows
section
variable {X : Cx} {pins : List (Addr × Obj)} {σ : St} {H : Hp} {s : Shared}
end
end L2
namespace Tr
open PySem PySem.Spec PyProof.Rows L2
abbrev sl (x : Str) : List Nat := x.cps.toList
theorem sl_inj {x y : Str} (h : sl x = sl y) : x = y := by
  obtain ⟨⟨a⟩⟩ := x
  obtain ⟨⟨b⟩⟩ := y
  exact congrArg (fun l => Str.mk (Array.mk l)) h
theorem sl_app (x y : Str) : sl (x ++ y) = sl x ++ sl y := by
  show (x.cps ++ y.cps).toList = _
  simp
theorem sl_len (x : Str) : x.length = (sl x).length := rfl
theorem sl_slice (x : Str) (l u : Option Int) : sl (Txt.slice x l u) = ((sl x).drop (HT.sIx x.length 0 l)).take (HT.sIx x.length x.length u - HT.sIx x.length 0 l) := by
  have e : Builtin.Str.strSliceIndices l u 1 x.length = (List.range (HT.sIx x.length x.length u - HT.sIx x.length 0 l)).map (HT.sIx x.length 0 l + ·) := by
    rw [← sliceRange_one]
    unfold Builtin.Str.strSliceIndices
    simp only [show (1 : Int) > 0 by decide, if_true]
    congr 1
    · cases l with
      | none => rfl
      | some i =>
        simp only [HT.sIx]
        split <;> omega
    · cases u with
      | none => rfl
      | some i =>
        simp only [HT.sIx]
        split <;> omega
  unfold Txt.slice
  rw [e]
  split
  · rename_i h
    simp only [List.length_map, List.length_range, Bool.and_eq_true, beq_iff_eq] at h
    have h1 := HT.sIx_le x.length 0 (Nat.zero_le _) l
    have h2 := HT.sIx_le x.length x.length (Nat.le_refl _) u
    by_cases z : x.length = 0
    · have : sl x = [] := List.length_eq_zero_iff.mp z
      rw [this]
      simp
    · have a0 : HT.sIx x.length 0 l = 0 := by omega
      have b0 : HT.sIx x.length x.length u = x.length := by omega
      rw [a0, b0]
      simp only [List.drop_zero, Nat.sub_zero]
      exact (List.take_length).symm
  · show (((List.range _).map _).filterMap (x.cps[·]?)).toArray.toList = _
    rw [pick_run]
theorem sl_take {x : Str} {k : Int} (h : 0 ≤ k) : sl (Txt.slice x none (some k)) = (sl x).take k.toNat := by
  obtain ⟨n, rfl⟩ := Int.eq_ofNat_of_zero_le h
  rw [sl_slice]
  simp only [HT.sIx_none, List.drop_zero, Nat.sub_zero]
  rw [show (some (n : Int)) = some ((n : Nat) : Int) from rfl, HT.sIx_nat]
  show _ = (sl x).take n
  rw [List.take_eq_take_iff]
  show min (min n (sl x).length) _ = _
  omega
end Tr
namespace L2
open PySem PySem.Spec PyProof.Rows
section
variable {X : Cx}
end
end L2
namespace Tr
open PySem PySem.Spec PyProof.Rows L2
end Tr
namespace Tr
open PySem PySem.Spec PyProof.Rows L2
end Tr
namespace Tr
open PySem PySem.Spec PyProof.Rows L2
end Tr
namespace Tr
open PySem PySem.Spec PyProof.Rows L2
end Tr
namespace Tr
open PySem PySem.Spec PyProof.Rows L2
end Tr
namespace Tr
open PySem PySem.Spec PyProof.Rows L2
end Tr
namespace Tr
open PySem PySem.Spec PyProof.Rows L2
end Tr
namespace Tr
open PySem PySem.Spec PyProof.Rows L2
end Tr
namespace Tr
open PySem PySem.Spec PyProof.Rows L2
end Tr
namespace Tr
open PySem PySem.Spec PyProof.Rows L2
end Tr
namespace Tr
open PySem PySem.Spec PyProof.Rows L2
end Tr
namespace Tr
open PySem PySem.Spec PyProof.Rows L2
end Tr
namespace L2
open PySem
end L2
namespace L2
open PySem
section
variable {P : Program} {w : World} {A : Around} {E : Value → Shared → Prop} {s : Shared}
end
end L2
namespace L2
open PySem PySem.Spec PyProof.Rows
section
variable {X : Cx}
end
end L2
namespace L2
open PySem PySem.Spec PyProof.Rows
section
variable {P : Program} {w : World} {A : Around} {E : Value → Shared → Prop} {s : Shared}
end
section
variable {X : Cx}
end
section
variable {P : Program} {w : World} {K : PySem.W.Frag} {mg : Str → Option Value} {base : Heap}
end
end L2
namespace Tr
open PySem PySem.Spec PyProof.Rows L2
set_option linter.all false
end Tr
namespace L2
open PySem PySem.Spec PyProof.Rows
section
variable {X : Cx}
def tFstr (te : TE) : TE := fun σ H Q => te σ H fun v H1 => ∃ i : Int, v = .int i ∧ i.natAbs < 2 ^ 1000 ∧ ∀ z : Str, Q (.str z) H1
theorem pe_fstr {e1 e2 e3 : Expr} {c1 c2 : Str} {te : TE} {p2 pos : Pos} (h1 : PE X e1 (tC (.str c1))) (h2 : PE X e2 te) (h3 : PE X e3 (tC (.str c2))) (l1 : c1.length ≤ 1000 := by decide +kernel) (l2 : c2.length ≤ 1000 := by decide +kernel) : PE X (.JoinedStr [e1, .FormattedValue e2 (-1) none p2, e3] pos) (tFstr te) := by
  intro pins s σ H Q I h
  refine wpAny_JoinedStr ?_
  show Joins (model X.prog X.w) X.A X.xe [eval e1 X.env, eval (.FormattedValue e2 (-1) none p2) X.env, eval e3 X.env] Str.empty _ s
  refine thn (h1 pins s σ H (fun v H1 => v = .str c1 ∧ H1 = H) I ⟨rfl, rfl⟩) fun u1 s1 ⟨v1, H1, I1, r1, e1, e2⟩ => ?_
  subst e1 e2
  obtain ⟨t1, rfl⟩ := r1
  refine ⟨c1, t1, rfl, ?_, ?_⟩
  · exact len_le_line (m := 1000) (by rw [str_len_append]; show 0 + _ ≤ 1000; omega)
  refine wpAny_FormattedValue_plain (thn (h2 pins s1 σ _ _ I1 h) fun u2 s2 ⟨v2, H2, I2, r2, i, ev, hi, q⟩ => ?_)
  subst ev
  obtain ⟨t2, rfl⟩ := r2
  have nl := num_len hi
  refine wpAny_formatField_int (log_lt hi) ⟨_, _, rfl, ?_, ?_⟩
  · exact len_le_line (m := 3000) (by rw [str_len_append, str_len_append]; show 0 + _ + _ ≤ 3000; omega)
  refine thn (h3 pins { s2 with toks := s2.toks + 1 + 1 } σ H2 (fun v H1 => v = .str c2 ∧ H1 = H2) (I2.tok _) ⟨rfl, rfl⟩) fun u3 s3 ⟨v3, H3, I3, r3, e3, e4⟩ => ?_
  subst e3 e4
  obtain ⟨t3, rfl⟩ := r3
  refine ⟨c2, t3, rfl, ?_, ?_, ?_⟩
  · exact len_le_line (m := 4000) (by rw [str_len_append, str_len_append, str_len_append]; show 0 + _ + _ + _ ≤ 4000; omega)
  · exact len_le_line (m := 4000) (by rw [str_len_append, str_len_append, str_len_append]; show 0 + _ + _ + _ ≤ 4000; omega)
  · exact ⟨.str _, _, I3.tok _, ⟨_, rfl⟩, q _⟩
end
end L2
namespace L2
open PySem PySem.Spec PyProof.Rows
theorem vals_cut : ∀ {xs : List V} {us : List Value} (k : Nat), Vals xs us → Vals (xs.take k) (us.take k) ∧ Vals (xs.drop k) (us.drop k)
  | _, _, 0, r => ⟨.nil, r⟩
  | _, _, _ + 1, .nil => ⟨.nil, .nil⟩
  | _, _, k + 1, .cons h r => ⟨.cons h (vals_cut k r).1, (vals_cut k r).2⟩
section
variable {X : Cx}
def rInsert : V → List V → Hp → VK → Prop := fun x vs H Q => ∃ l xs i y, x = .ref l ∧ vs = [.int i, y] ∧ H l = some (.lst xs) ∧ 0 ≤ i ∧ i ≤ xs.length ∧ xs.length < 1000000 ∧ Q .non (upd H l (.lst (xs.take i.toNat ++ y :: xs.drop i.toNat)))
theorem mt_insert : MtM X "list.insert" rInsert := by
  intro pins s σ H x vs v us Q I rx rv h
  obtain ⟨l, xs, i, y, rfl, rfl, hH, h0, h1, hz, q⟩ := h
  cases rx
  obtain ⟨u1, u, rfl, ⟨t, rfl⟩, ru⟩ := vals2 rv
  obtain ⟨z, its, n, r, hl, e⟩ := I.lstM hH
  have hil : i.toNat ≤ its.length := by omega
  have sl : (1000000 : Nat) < sizeLine := by decide
  refine call_meets F.slot_list_insert ⟨_, e, rfl⟩ F.entry_list_insert (F.args_list_insert_3 _ _ _) (PySem.AutoListH.list_insert_list_int_val_1 l its.toArray n i t u (by rw [fitsIndex_both (by omega) (by omega)]; decide) (by rw [List.size_toArray]; omega)) ⟨e, ?_⟩
  refine ⟨.non, _, I.lset (its' := its.take i.toNat ++ u :: its.drop i.toNat) hH e ?_ ((vals_cut _ r).1.append (.cons ru (vals_cut _ r).2)) ?_, rfl, q⟩
  · show ((its.toArray.extract 0 (if i < 0 then (i + ((its.toArray.size : Nat) : Int)).toNat else min i.toNat its.toArray.size)).push u ++ its.toArray.extract (if i < 0 then (i + ((its.toArray.size : Nat) : Int)).toNat else min i.toNat its.toArray.size)) = _
    rw [if_neg (by omega), List.size_toArray, Nat.min_eq_left hil]
    apply Array.ext'
    simp
    exact List.take_of_length_le (by rw [List.length_drop]; exact Nat.le_refl _)
  · rw [List.length_append, List.length_cons, List.length_take, List.length_drop]
    omega
end
end L2
set_option Elab.async false
set_option maxRecDepth 100000
set_option maxHeartbeats 4000000
namespace K04
open PySem L2
seal PE PT PW PA PS PSs PG PGs PI PTs PO OpR UnR CallR TruR IxR SlR
local macro_rules | `(tactic| walk_at "rds") => `(tactic| first | assumption | decide | omega)
local macro_rules | `(tactic| walk_at "rd") => `(tactic| repeat (first | refine ⟨_, rfl, ?_⟩ | refine ⟨_, _, rfl, rfl, ?_⟩ | refine ⟨rfl, _, rfl, ?_⟩ | refine ⟨_, _, rfl, rfl, by walk_at "rds", ?_⟩ | refine And.intro (by walk_at "rds") ?_))
local macro_rules | `(tactic| walk_at "yes") => `(tactic| refine ifYes (by decide +kernel) ?_)
local macro_rules | `(tactic| walk_at "no") => `(tactic| refine ifNo (by decide +kernel) ?_)
abbrev s_FlowError___init__ : Stmt := inClass (top 1) 0
abbrev s_is_name : Stmt := top 16
abbrev s_number_in : Stmt := top 17
abbrev s_value_in : Stmt := top 18
abbrev s_is_made_of : Stmt := top 19
abbrev s_row_of : Stmt := top 25
abbrev s_words_of : Stmt := top 26
abbrev s_form_of : Stmt := top 27
abbrev s_filled : Stmt := top 28
abbrev s_thing_in : Stmt := top 29
abbrev s_number_within : Stmt := top 30
abbrev s__law_cell_at : Stmt := top 32
abbrev s__law_mixed : Stmt := top 33
abbrev s__law_sign_by : Stmt := top 34
abbrev s__law_keywords : Stmt := top 35
abbrev s__law_letters : Stmt := top 36
abbrev s__law_is_name : Stmt := top 37
abbrev s__law_number : Stmt := top 38
abbrev s__law_name_by : Stmt := top 39
abbrev s__law_value_by : Stmt := top 40
abbrev s__law_from : Stmt := top 41
abbrev s__law_row_by : Stmt := top 42
abbrev s__law_spaced : Stmt := top 43
abbrev s__law_same : Stmt := top 44
abbrev s__law_is_refused : Stmt := top 45
abbrev s__law_odd_by : Stmt := top 46
abbrev s__law_spoilt : Stmt := top 47
abbrev s__law_value : Stmt := top 48
abbrev s__law_judged_set : Stmt := top 49
abbrev s__law_judged : Stmt := top 50
abbrev s__law_holds : Stmt := top 51
abbrev s_law : Stmt := top 52
theorem sc_FlowError___init__ : FnScope ["self", "words", "place"] ["self", "words", "place"] (defScope s_FlowError___init__) := ⟨rfl, rfl, rfl, by decide +kernel, rfl, by decide +kernel, by decide +kernel⟩
theorem sc_is_name : FnScope ["word"] ["word"] (defScope s_is_name) := ⟨rfl, rfl, rfl, by decide +kernel, rfl, by decide +kernel, by decide +kernel⟩
theorem sc_number_in : FnScope ["word"] ["word"] (defScope s_number_in) := ⟨rfl, rfl, rfl, by decide +kernel, rfl, by decide +kernel, by decide +kernel⟩
theorem sc_value_in : FnScope ["word"] ["word"] (defScope s_value_in) := ⟨rfl, rfl, rfl, by decide +kernel, rfl, by decide +kernel, by decide +kernel⟩
theorem sc_is_made_of : FnScope ["word", "signs"] ["word", "signs"] (defScope s_is_made_of) := ⟨rfl, rfl, rfl, by decide +kernel, rfl, by decide +kernel, by decide +kernel⟩
theorem sc_row_of : FnScope ["row", "place", "words", "form"] ["row", "place"] (defScope s_row_of) := ⟨rfl, rfl, rfl, by decide +kernel, rfl, by decide +kernel, by decide +kernel⟩
theorem sc_words_of : FnScope ["row"] ["row"] (defScope s_words_of) := ⟨rfl, rfl, rfl, by decide +kernel, rfl, by decide +kernel, by decide +kernel⟩
theorem sc_form_of : FnScope ["words", "head", "right"] ["words"] (defScope s_form_of) := ⟨rfl, rfl, rfl, by decide +kernel, rfl, by decide +kernel, by decide +kernel⟩
theorem sc_filled : FnScope ["head", "words", "kinds", "things"] ["head", "words", "kinds"] (defScope s_filled) := ⟨rfl, rfl, rfl, by decide +kernel, rfl, by decide +kernel, by decide +kernel⟩
theorem sc_thing_in : FnScope ["word", "kind"] ["word", "kind"] (defScope s_thing_in) := ⟨rfl, rfl, rfl, by decide +kernel, rfl, by decide +kernel, by decide +kernel⟩
theorem sc_number_within : FnScope ["word", "least", "most", "number"] ["word", "least", "most"] (defScope s_number_within) := ⟨rfl, rfl, rfl, by decide +kernel, rfl, by decide +kernel, by decide +kernel⟩
theorem sc__law_cell_at : FnScope ["_law_script", "_law_k"] ["_law_script", "_law_k"] (defScope s__law_cell_at) := ⟨rfl, rfl, rfl, by decide +kernel, rfl, by decide +kernel, by decide +kernel⟩
theorem sc__law_mixed : FnScope ["_law_cell", "_law_k", "_law_factor"] ["_law_cell", "_law_k"] (defScope s__law_mixed) := ⟨rfl, rfl, rfl, by decide +kernel, rfl, by decide +kernel, by decide +kernel⟩
theorem sc__law_sign_by : FnScope ["_law_n", "_law_some"] ["_law_n"] (defScope s__law_sign_by) := ⟨rfl, rfl, rfl, by decide +kernel, rfl, by decide +kernel, by decide +kernel⟩
theorem sc__law_keywords : FnScope [] [] (defScope s__law_keywords) := ⟨rfl, rfl, rfl, by decide +kernel, rfl, by decide +kernel, by decide +kernel⟩
theorem sc__law_letters : FnScope ["_law_n", "_law_size", "_law_word", "_law_k"] ["_law_n", "_law_size"] (defScope s__law_letters) := ⟨rfl, rfl, rfl, by decide +kernel, rfl, by decide +kernel, by decide +kernel⟩
theorem sc__law_is_name : FnScope ["_law_word", "_law_sign"] ["_law_word"] (defScope s__law_is_name) := ⟨rfl, rfl, rfl, by decide +kernel, rfl, by decide +kernel, by decide +kernel⟩
theorem sc__law_number : FnScope ["_law_word", "_law_value_here", "_law_sign"] ["_law_word"] (defScope s__law_number) := ⟨rfl, rfl, rfl, by decide +kernel, rfl, by decide +kernel, by decide +kernel⟩
theorem sc__law_name_by : FnScope ["_law_n", "_law_size", "_law_way", "_law_rest", "_law_word", "_law_some", "_law_at"] ["_law_n"] (defScope s__law_name_by) := ⟨rfl, rfl, rfl, by decide +kernel, rfl, by decide +kernel, by decide +kernel⟩
theorem sc__law_value_by : FnScope ["_law_n", "_law_way", "_law_some"] ["_law_n"] (defScope s__law_value_by) := ⟨rfl, rfl, rfl, by decide +kernel, rfl, by decide +kernel, by decide +kernel⟩
theorem sc__law_from : FnScope ["_law_n", "_law_least", "_law_greatest"] ["_law_n", "_law_least", "_law_greatest"] (defScope s__law_from) := ⟨rfl, rfl, rfl, by decide +kernel, rfl, by decide +kernel, by decide +kernel⟩
theorem sc__law_row_by : FnScope ["_law_way", "_law_n", "_law_one", "_law_two", "_law_three", "_law_x", "_law_head", "_law_many", "_law_y", "_law_left", "_law_sign", "_law_right"] ["_law_way", "_law_n", "_law_one", "_law_two", "_law_three"] (defScope s__law_row_by) := ⟨rfl, rfl, rfl, by decide +kernel, rfl, by decide +kernel, by decide +kernel⟩
theorem sc__law_spaced : FnScope ["_law_words", "_law_n", "_law_row", "_law_word"] ["_law_words", "_law_n"] (defScope s__law_spaced) := ⟨rfl, rfl, rfl, by decide +kernel, rfl, by decide +kernel, by decide +kernel⟩
theorem sc__law_same : FnScope ["_law_found", "_law_due", "_law_one", "_law_two"] ["_law_found", "_law_due"] (defScope s__law_same) := ⟨rfl, rfl, rfl, by decide +kernel, rfl, by decide +kernel, by decide +kernel⟩
theorem sc__law_is_refused : FnScope ["_law_caught", "_law_which", "_law_place", "_law_kinds"] ["_law_caught", "_law_which", "_law_place"] (defScope s__law_is_refused) := ⟨rfl, rfl, rfl, by decide +kernel, rfl, by decide +kernel, by decide +kernel⟩
theorem sc__law_odd_by : FnScope ["_law_n", "_law_some"] ["_law_n"] (defScope s__law_odd_by) := ⟨rfl, rfl, rfl, by decide +kernel, rfl, by decide +kernel, by decide +kernel⟩
theorem sc__law_spoilt : FnScope ["_law_words", "_law_way", "_law_at", "_law_n", "_law_some", "_law_word", "_law_spot"] ["_law_words", "_law_way", "_law_at", "_law_n"] (defScope s__law_spoilt) := ⟨rfl, rfl, rfl, by decide +kernel, rfl, by decide +kernel, by decide +kernel⟩
theorem sc__law_value : FnScope ["_law_word"] ["_law_word"] (defScope s__law_value) := ⟨rfl, rfl, rfl, by decide +kernel, rfl, by decide +kernel, by decide +kernel⟩
theorem sc__law_judged_set : FnScope ["_law_words", "_law_left", "_law_sign", "_law_right"] ["_law_words"] (defScope s__law_judged_set) := ⟨rfl, rfl, rfl, by decide +kernel, rfl, by decide +kernel, by decide +kernel⟩
theorem sc__law_judged : FnScope ["_law_words", "_law_size", "_law_head", "_law_names", "_law_many", "_law_good"] ["_law_words"] (defScope s__law_judged) := ⟨rfl, rfl, rfl, by decide +kernel, rfl, by decide +kernel, by decide +kernel⟩
theorem sc__law_holds : FnScope ["_law_words", "_law_gaps", "_law_place", "_law_due", "_law_caught", "_law_found", "e"] ["_law_words", "_law_gaps"] (defScope s__law_holds) := ⟨rfl, rfl, rfl, by decide +kernel, rfl, by decide +kernel, by decide +kernel⟩
theorem sc_law : FnScope ["_law_script", "_law_k", "_law_n", "_law_one", "_law_two", "_law_three", "_law_gaps", "_law_way", "_law_words", "_law_bad"] ["_law_script"] (defScope s_law) := ⟨rfl, rfl, rfl, by decide +kernel, rfl, by decide +kernel, by decide +kernel⟩
structure Adr where
  FlowError___init__ : Addr
  fd_FlowError___init__ : FuncData
  is_name : Addr
  fd_is_name : FuncData
  number_in : Addr
  fd_number_in : FuncData
  value_in : Addr
  fd_value_in : FuncData
  is_made_of : Addr
  fd_is_made_of : FuncData
  row_of : Addr
  fd_row_of : FuncData
  words_of : Addr
  fd_words_of : FuncData
  form_of : Addr
  fd_form_of : FuncData
  filled : Addr
  fd_filled : FuncData
  thing_in : Addr
  fd_thing_in : FuncData
  number_within : Addr
  fd_number_within : FuncData
  _law_cell_at : Addr
  fd__law_cell_at : FuncData
  _law_mixed : Addr
  fd__law_mixed : FuncData
  _law_sign_by : Addr
  fd__law_sign_by : FuncData
  _law_keywords : Addr
  fd__law_keywords : FuncData
  _law_letters : Addr
  fd__law_letters : FuncData
  _law_is_name : Addr
  fd__law_is_name : FuncData
  _law_number : Addr
  fd__law_number : FuncData
  _law_name_by : Addr
  fd__law_name_by : FuncData
  _law_value_by : Addr
  fd__law_value_by : FuncData
  _law_from : Addr
  fd__law_from : FuncData
  _law_row_by : Addr
  fd__law_row_by : FuncData
  _law_spaced : Addr
  fd__law_spaced : FuncData
  _law_same : Addr
  fd__law_same : FuncData
  _law_is_refused : Addr
  fd__law_is_refused : FuncData
  _law_odd_by : Addr
  fd__law_odd_by : FuncData
  _law_spoilt : Addr
  fd__law_spoilt : FuncData
  _law_value : Addr
  fd__law_value : FuncData
  _law_judged_set : Addr
  fd__law_judged_set : FuncData
  _law_judged : Addr
  fd__law_judged : FuncData
  _law_holds : Addr
  fd__law_holds : FuncData
  law : Addr
  fd_law : FuncData
  KEYWORDS : Addr
  SIGNS : Addr
  tk_LETTERS : Tok
  tk_FIGURES : Tok
  tk_MOST_LETTERS : Tok
  tk_MOST_FIGURES : Tok
  FORMS : Addr
  FORMS_0 : Addr
  FORMS_1 : Addr
  FORMS_2 : Addr
  FORMS_3 : Addr
  FORMS_4 : Addr
  FORMS_5 : Addr
  FORMS_6 : Addr
  FORMS_7 : Addr
  FORMS_8 : Addr
  FORMS_9 : Addr
  SET_FORM : Addr
  tk_MOST_LENGTH : Tok
  tk_MOST_ROUNDS : Tok
  C_FlowError : Addr
  C_BadRow : Addr
  C_BadNest : Addr
  C_Twice : Addr
  C_NoStore : Addr
  C_Hidden : Addr
  C_Starved : Addr
  C_TooMuch : Addr
structure Tx (P : Program) (w : World) (K : PySem.W.Frag) (mg : Str → Option Value) (a : Adr) : Prop where
  F_FlowError___init__ : Fun K "__init__" "FlowError.__init__" s_FlowError___init__ a.FlowError___init__ a.fd_FlowError___init__
  b_FlowError___init__ : Binds K a.fd_FlowError___init__ ["self", "words", "place"] []
  F_is_name : Fun K "is_name" "is_name" s_is_name a.is_name a.fd_is_name
  b_is_name : Binds K a.fd_is_name ["word"] []
  m_is_name : mg "is_name" = some (.ref a.is_name)
  F_number_in : Fun K "number_in" "number_in" s_number_in a.number_in a.fd_number_in
  b_number_in : Binds K a.fd_number_in ["word"] []
  m_number_in : mg "number_in" = some (.ref a.number_in)
  F_value_in : Fun K "value_in" "value_in" s_value_in a.value_in a.fd_value_in
  b_value_in : Binds K a.fd_value_in ["word"] []
  m_value_in : mg "value_in" = some (.ref a.value_in)
  F_is_made_of : Fun K "is_made_of" "is_made_of" s_is_made_of a.is_made_of a.fd_is_made_of
  b_is_made_of : Binds K a.fd_is_made_of ["word", "signs"] []
  m_is_made_of : mg "is_made_of" = some (.ref a.is_made_of)
  F_row_of : Fun K "row_of" "row_of" s_row_of a.row_of a.fd_row_of
  b_row_of : Binds K a.fd_row_of ["row", "place"] []
  m_row_of : mg "row_of" = some (.ref a.row_of)
  F_words_of : Fun K "words_of" "words_of" s_words_of a.words_of a.fd_words_of
  b_words_of : Binds K a.fd_words_of ["row"] []
  m_words_of : mg "words_of" = some (.ref a.words_of)
  F_form_of : Fun K "form_of" "form_of" s_form_of a.form_of a.fd_form_of
  b_form_of : Binds K a.fd_form_of ["words"] []
  m_form_of : mg "form_of" = some (.ref a.form_of)
  F_filled : Fun K "filled" "filled" s_filled a.filled a.fd_filled
  b_filled : Binds K a.fd_filled ["head", "words", "kinds"] []
  m_filled : mg "filled" = some (.ref a.filled)
  F_thing_in : Fun K "thing_in" "thing_in" s_thing_in a.thing_in a.fd_thing_in
  b_thing_in : Binds K a.fd_thing_in ["word", "kind"] []
  m_thing_in : mg "thing_in" = some (.ref a.thing_in)
  F_number_within : Fun K "number_within" "number_within" s_number_within a.number_within a.fd_number_within
  b_number_within : Binds K a.fd_number_within ["word", "least", "most"] []
  m_number_within : mg "number_within" = some (.ref a.number_within)
  F__law_cell_at : Fun K "_law_cell_at" "_law_cell_at" s__law_cell_at a._law_cell_at a.fd__law_cell_at
  b__law_cell_at : Binds K a.fd__law_cell_at ["_law_script", "_law_k"] []
  m__law_cell_at : mg "_law_cell_at" = some (.ref a._law_cell_at)
  F__law_mixed : Fun K "_law_mixed" "_law_mixed" s__law_mixed a._law_mixed a.fd__law_mixed
  b__law_mixed : Binds K a.fd__law_mixed ["_law_cell", "_law_k"] []
  m__law_mixed : mg "_law_mixed" = some (.ref a._law_mixed)
  F__law_sign_by : Fun K "_law_sign_by" "_law_sign_by" s__law_sign_by a._law_sign_by a.fd__law_sign_by
  b__law_sign_by : Binds K a.fd__law_sign_by ["_law_n"] []
  m__law_sign_by : mg "_law_sign_by" = some (.ref a._law_sign_by)
  F__law_keywords : Fun K "_law_keywords" "_law_keywords" s__law_keywords a._law_keywords a.fd__law_keywords
  b__law_keywords : Binds K a.fd__law_keywords [] []
  m__law_keywords : mg "_law_keywords" = some (.ref a._law_keywords)
  F__law_letters : Fun K "_law_letters" "_law_letters" s__law_letters a._law_letters a.fd__law_letters
  b__law_letters : Binds K a.fd__law_letters ["_law_n", "_law_size"] []
  m__law_letters : mg "_law_letters" = some (.ref a._law_letters)
  F__law_is_name : Fun K "_law_is_name" "_law_is_name" s__law_is_name a._law_is_name a.fd__law_is_name
  b__law_is_name : Binds K a.fd__law_is_name ["_law_word"] []
  m__law_is_name : mg "_law_is_name" = some (.ref a._law_is_name)
  F__law_number : Fun K "_law_number" "_law_number" s__law_number a._law_number a.fd__law_number
  b__law_number : Binds K a.fd__law_number ["_law_word"] []
  m__law_number : mg "_law_number" = some (.ref a._law_number)
  F__law_name_by : Fun K "_law_name_by" "_law_name_by" s__law_name_by a._law_name_by a.fd__law_name_by
  b__law_name_by : Binds K a.fd__law_name_by ["_law_n"] []
  m__law_name_by : mg "_law_name_by" = some (.ref a._law_name_by)
  F__law_value_by : Fun K "_law_value_by" "_law_value_by" s__law_value_by a._law_value_by a.fd__law_value_by
  b__law_value_by : Binds K a.fd__law_value_by ["_law_n"] []
  m__law_value_by : mg "_law_value_by" = some (.ref a._law_value_by)
  F__law_from : Fun K "_law_from" "_law_from" s__law_from a._law_from a.fd__law_from
  b__law_from : Binds K a.fd__law_from ["_law_n", "_law_least", "_law_greatest"] []
  m__law_from : mg "_law_from" = some (.ref a._law_from)
  F__law_row_by : Fun K "_law_row_by" "_law_row_by" s__law_row_by a._law_row_by a.fd__law_row_by
  b__law_row_by : Binds K a.fd__law_row_by ["_law_way", "_law_n", "_law_one", "_law_two", "_law_three"] []
  m__law_row_by : mg "_law_row_by" = some (.ref a._law_row_by)
  F__law_spaced : Fun K "_law_spaced" "_law_spaced" s__law_spaced a._law_spaced a.fd__law_spaced
  b__law_spaced : Binds K a.fd__law_spaced ["_law_words", "_law_n"] []
  m__law_spaced : mg "_law_spaced" = some (.ref a._law_spaced)
  F__law_same : Fun K "_law_same" "_law_same" s__law_same a._law_same a.fd__law_same
  b__law_same : Binds K a.fd__law_same ["_law_found", "_law_due"] []
  m__law_same : mg "_law_same" = some (.ref a._law_same)
  F__law_is_refused : Fun K "_law_is_refused" "_law_is_refused" s__law_is_refused a._law_is_refused a.fd__law_is_refused
  b__law_is_refused : Binds K a.fd__law_is_refused ["_law_caught", "_law_which", "_law_place"] []
  m__law_is_refused : mg "_law_is_refused" = some (.ref a._law_is_refused)
  F__law_odd_by : Fun K "_law_odd_by" "_law_odd_by" s__law_odd_by a._law_odd_by a.fd__law_odd_by
  b__law_odd_by : Binds K a.fd__law_odd_by ["_law_n"] []
  m__law_odd_by : mg "_law_odd_by" = some (.ref a._law_odd_by)
  F__law_spoilt : Fun K "_law_spoilt" "_law_spoilt" s__law_spoilt a._law_spoilt a.fd__law_spoilt
  b__law_spoilt : Binds K a.fd__law_spoilt ["_law_words", "_law_way", "_law_at", "_law_n"] []
  m__law_spoilt : mg "_law_spoilt" = some (.ref a._law_spoilt)
  F__law_value : Fun K "_law_value" "_law_value" s__law_value a._law_value a.fd__law_value
  b__law_value : Binds K a.fd__law_value ["_law_word"] []
  m__law_value : mg "_law_value" = some (.ref a._law_value)
  F__law_judged_set : Fun K "_law_judged_set" "_law_judged_set" s__law_judged_set a._law_judged_set a.fd__law_judged_set
  b__law_judged_set : Binds K a.fd__law_judged_set ["_law_words"] []
  m__law_judged_set : mg "_law_judged_set" = some (.ref a._law_judged_set)
  F__law_judged : Fun K "_law_judged" "_law_judged" s__law_judged a._law_judged a.fd__law_judged
  b__law_judged : Binds K a.fd__law_judged ["_law_words"] []
  m__law_judged : mg "_law_judged" = some (.ref a._law_judged)
  F__law_holds : Fun K "_law_holds" "_law_holds" s__law_holds a._law_holds a.fd__law_holds
  b__law_holds : Binds K a.fd__law_holds ["_law_words", "_law_gaps"] []
  m__law_holds : mg "_law_holds" = some (.ref a._law_holds)
  F_law : Fun K "law" "law" s_law a.law a.fd_law
  b_law : Binds K a.fd_law ["_law_script"] []
  m_law : mg "law" = some (.ref a.law)
  z_ValueError : mg "ValueError" = none
  z_all : mg "all" = none
  z_bool : mg "bool" = none
  z_int : mg "int" = none
  z_isinstance : mg "isinstance" = none
  z_len : mg "len" = none
  z_list : mg "list" = none
  z_max : mg "max" = none
  z_range : mg "range" = none
  z_str : mg "str" = none
  z_tuple : mg "tuple" = none
  z_zip : mg "zip" = none
  c_KEYWORDS : mg "KEYWORDS" = some (.ref a.KEYWORDS)
  t_KEYWORDS : ∀ H : Hp, SqT K H a.KEYWORDS [.str "ask", .str "store", .str "put", .str "get", .str "give", .str "if", .str "else", .str "while", .str "repeat", .str "end"]
  c_SIGNS : mg "SIGNS" = some (.ref a.SIGNS)
  t_SIGNS : ∀ H : Hp, SqT K H a.SIGNS [.str "+", .str "-", .str "*", .str "/", .str "<", .str "=", .str "&", .str "|", .str "^"]
  c_LETTERS : mg "LETTERS" = some (.str "abcdefghijklmnopqrstuvwxyz" a.tk_LETTERS)
  c_FIGURES : mg "FIGURES" = some (.str "0123456789" a.tk_FIGURES)
  c_MOST_LETTERS : mg "MOST_LETTERS" = some (.int 8 a.tk_MOST_LETTERS)
  c_MOST_FIGURES : mg "MOST_FIGURES" = some (.int 30 a.tk_MOST_FIGURES)
  c_FORMS : mg "FORMS" = some (.ref a.FORMS)
  d_FORMS : KD P w K a.FORMS [(.inr "ask", .ref a.FORMS_0), (.inr "store", .ref a.FORMS_1), (.inr "put", .ref a.FORMS_2), (.inr "get", .ref a.FORMS_3), (.inr "give", .ref a.FORMS_4), (.inr "if", .ref a.FORMS_5), (.inr "else", .ref a.FORMS_6), (.inr "while", .ref a.FORMS_7), (.inr "repeat", .ref a.FORMS_8), (.inr "end", .ref a.FORMS_9)]
  t_FORMS_0 : ∀ H : Hp, SqT K H a.FORMS_0 [.str "name"]
  t_FORMS_1 : ∀ H : Hp, SqT K H a.FORMS_1 [.str "name", .str "length"]
  t_FORMS_2 : ∀ H : Hp, SqT K H a.FORMS_2 [.str "name", .str "name"]
  t_FORMS_3 : ∀ H : Hp, SqT K H a.FORMS_3 [.str "name", .str "name"]
  t_FORMS_4 : ∀ H : Hp, SqT K H a.FORMS_4 [.str "name"]
  t_FORMS_5 : ∀ H : Hp, SqT K H a.FORMS_5 [.str "name"]
  t_FORMS_6 : ∀ H : Hp, SqT K H a.FORMS_6 []
  t_FORMS_7 : ∀ H : Hp, SqT K H a.FORMS_7 [.str "name"]
  t_FORMS_8 : ∀ H : Hp, SqT K H a.FORMS_8 [.str "rounds"]
  t_FORMS_9 : ∀ H : Hp, SqT K H a.FORMS_9 []
  c_SET_FORM : mg "SET_FORM" = some (.ref a.SET_FORM)
  t_SET_FORM : ∀ H : Hp, SqT K H a.SET_FORM [.str "name", .str "value", .str "sign", .str "value"]
  c_MOST_LENGTH : mg "MOST_LENGTH" = some (.int 2000 a.tk_MOST_LENGTH)
  c_MOST_ROUNDS : mg "MOST_ROUNDS" = some (.int 99 a.tk_MOST_ROUNDS)
  m_FlowError : mg "FlowError" = some (.ref a.C_FlowError)
  m_BadRow : mg "BadRow" = some (.ref a.C_BadRow)
  m_BadNest : mg "BadNest" = some (.ref a.C_BadNest)
  m_Twice : mg "Twice" = some (.ref a.C_Twice)
  m_NoStore : mg "NoStore" = some (.ref a.C_NoStore)
  m_Hidden : mg "Hidden" = some (.ref a.C_Hidden)
  m_Starved : mg "Starved" = some (.ref a.C_Starved)
  m_TooMuch : mg "TooMuch" = some (.ref a.C_TooMuch)
  x_BadRow : XCls K a.C_BadRow a.FlowError___init__
  g_BadRow : XGet K a.C_BadRow
  i_BadRow : XIs K a.C_BadRow
  s_BadRow_FlowError : SubX K a.C_BadRow a.C_FlowError
  ki_BadRow_FlowError : PySem.W.kitOne K (.ref a.C_BadRow) (.ref a.C_FlowError) = some true
  ki_BadRow_BadRow : PySem.W.kitOne K (.ref a.C_BadRow) (.ref a.C_BadRow) = some true
  ki_BadRow_BadNest : PySem.W.kitOne K (.ref a.C_BadRow) (.ref a.C_BadNest) = some false
  ki_BadRow_Twice : PySem.W.kitOne K (.ref a.C_BadRow) (.ref a.C_Twice) = some false
  ki_BadRow_NoStore : PySem.W.kitOne K (.ref a.C_BadRow) (.ref a.C_NoStore) = some false
  ki_BadRow_Hidden : PySem.W.kitOne K (.ref a.C_BadRow) (.ref a.C_Hidden) = some false
  ki_BadRow_Starved : PySem.W.kitOne K (.ref a.C_BadRow) (.ref a.C_Starved) = some false
  ki_BadRow_TooMuch : PySem.W.kitOne K (.ref a.C_BadRow) (.ref a.C_TooMuch) = some false
  ki_BadRow_ValueError : PySem.W.kitOne K (.ref a.C_BadRow) (.type "ValueError") = some true
  ix_FlowError : IsX K a.C_FlowError
theorem Tx.r_KEYWORDS {P : Program} {w : World} {K : PySem.W.Frag} {mg : Str → Option Value} {a : Adr} (_ : Tx P w K mg a) : RelV (.ref a.KEYWORDS) (.ref a.KEYWORDS) := rfl
theorem Tx.r_SIGNS {P : Program} {w : World} {K : PySem.W.Frag} {mg : Str → Option Value} {a : Adr} (_ : Tx P w K mg a) : RelV (.ref a.SIGNS) (.ref a.SIGNS) := rfl
theorem Tx.r_LETTERS {P : Program} {w : World} {K : PySem.W.Frag} {mg : Str → Option Value} {a : Adr} (_ : Tx P w K mg a) : RelV (.str "abcdefghijklmnopqrstuvwxyz") (.str "abcdefghijklmnopqrstuvwxyz" a.tk_LETTERS) := ⟨_, rfl⟩
theorem Tx.r_FIGURES {P : Program} {w : World} {K : PySem.W.Frag} {mg : Str → Option Value} {a : Adr} (_ : Tx P w K mg a) : RelV (.str "0123456789") (.str "0123456789" a.tk_FIGURES) := ⟨_, rfl⟩
theorem Tx.r_MOST_LETTERS {P : Program} {w : World} {K : PySem.W.Frag} {mg : Str → Option Value} {a : Adr} (_ : Tx P w K mg a) : RelV (.int 8) (.int 8 a.tk_MOST_LETTERS) := ⟨_, rfl⟩
theorem Tx.r_MOST_FIGURES {P : Program} {w : World} {K : PySem.W.Frag} {mg : Str → Option Value} {a : Adr} (_ : Tx P w K mg a) : RelV (.int 30) (.int 30 a.tk_MOST_FIGURES) := ⟨_, rfl⟩
theorem Tx.r_FORMS {P : Program} {w : World} {K : PySem.W.Frag} {mg : Str → Option Value} {a : Adr} (_ : Tx P w K mg a) : RelV (.ref a.FORMS) (.ref a.FORMS) := rfl
theorem Tx.r_SET_FORM {P : Program} {w : World} {K : PySem.W.Frag} {mg : Str → Option Value} {a : Adr} (_ : Tx P w K mg a) : RelV (.ref a.SET_FORM) (.ref a.SET_FORM) := rfl
theorem Tx.r_MOST_LENGTH {P : Program} {w : World} {K : PySem.W.Frag} {mg : Str → Option Value} {a : Adr} (_ : Tx P w K mg a) : RelV (.int 2000) (.int 2000 a.tk_MOST_LENGTH) := ⟨_, rfl⟩
theorem Tx.r_MOST_ROUNDS {P : Program} {w : World} {K : PySem.W.Frag} {mg : Str → Option Value} {a : Adr} (_ : Tx P w K mg a) : RelV (.int 99) (.int 99 a.tk_MOST_ROUNDS) := ⟨_, rfl⟩
open PySem.NumText
def letters : Str := "abcdefghijklmnopqrstuvwxyz"
def kwV : List V := [.str "ask", .str "store", .str "put", .str "get", .str "give", .str "if", .str "else", .str "while", .str "repeat", .str "end"]
def isMade (w s : Str) : Bool := w.cps.toList.all fun c => decide (c ∈ s.cps.toList)
def isName (w : Str) : Bool := if 1 ≤ (w.length : Int) then (if (w.length : Int) ≤ 8 then (!inV (.str w) kwV && isMade w letters) else false) else false
def mixed (c k : Int) : Int := c * (91343852333181432387730302044767688731 + 7919000003 * k * k) % 170141183460469231731687303715884105727
def sp__law_mixed : Sp := fun vs H Q _ => ∃ c k : Int, vs = [.int c, .int k] ∧ Builtin.Int.intBits c ≤ 2 ^ 20 ∧ 0 ≤ k ∧ k ≤ 100 ∧ Q (.int (mixed c k)) H
def figures : Str := "0123456789"
def numIn (x : Str) : Option Int := if 1 ≤ (x.length : Int) then (if (x.length : Int) ≤ 30 then (if isMade x figures = true then (if x.cps.toList.head? = some 48 ∧ ¬ x = "0" then none else some ((digitsVal x.cps.toList : Nat) : Int)) else none) else none) else none
def optV : Option Int → V
  | none => .non
  | some n => .int n
def sp_number_in : Sp := fun vs H Q _ => ∃ w : Str, vs = [.str w] ∧ w.length ≤ 100000 ∧ ∀ H', Same H H' → Q (optV (numIn w)) H'
def sp_is_made_of : Sp := fun vs H Q _ => ∃ w s : Str, vs = [.str w, .str s] ∧ w.length ≤ 100000 ∧ ∀ H', Same H H' → Q (.bl (isMade w s)) H'
def sp_is_name : Sp := fun vs H Q _ => ∃ w : Str, vs = [.str w] ∧ w.length ≤ 100000 ∧ ∀ H', Same H H' → Q (.bl (isName w)) H'
def sgV : List V := [.str "+", .str "-", .str "*", .str "/", .str "<", .str "=", .str "&", .str "|", .str "^"]
def valIn (w : Str) : V := if isName w = true then .str w else optV (numIn w)
def withinV (o : Option Int) (lo hi : Int) : V := match o with
  | none => .non
  | some n => if n < lo then .non else if hi < n then .non else .int n
def thingIn (w k : Str) : V := if k = "name" then (if isName w = true then .str w else .non) else if k = "value" then valIn w else if k = "sign" then (if inV (.str w) sgV = true then .str w else .non) else if k = "length" then withinV (numIn w) 1 2000 else withinV (numIn w) 0 99
def thingsIn : List Str → List Str → List V
  | w :: ws, k :: ks => thingIn w k :: thingsIn ws ks
  | _, _ => []
def filledV (h : Str) (ws ks : List Str) : Option (List V) := if ws.length = ks.length then (if inV .non (thingsIn ws ks) = true then none else some (.str h :: thingsIn ws ks)) else none
def kinds (h : Str) : Option (List Str) :=
  if h = "ask" then some ["name"] else if h = "store" then some ["name", "length"] else if h = "put" then some ["name", "name"] else if h = "get" then some ["name", "name"]
  else if h = "give" then some ["name"] else if h = "if" then some ["name"] else if h = "else" then some [] else if h = "while" then some ["name"] else if h = "repeat" then some ["rounds"] else if h = "end" then some [] else none
def setKinds : List Str := ["name", "value", "sign", "value"]
def setWords (h : Str) (right : List Str) : List Str := h :: (if right.length = 1 then right ++ (["+", "0"] : List Str) else right)
def formV : List Str → Option (List V)
  | [] => none
  | h :: r => match kinds h with
    | some ks => filledV h r ks
    | none => if (h :: r).length < 3 then none else if r.head? = some ("=" : Str) then filledV "set" (setWords h r.tail) setKinds else none
theorem formV_kw {h : Str} {r ks : List Str} (e : kinds h = some ks) : formV (h :: r) = filledV h r ks := by
  show (match kinds h with | some ks => filledV h r ks | none => _) = _
  rw [e]
theorem formV_set {h : Str} {r : List Str} (e : kinds h = none) : formV (h :: r) = if (h :: r).length < 3 then none else if r.head? = some ("=" : Str) then filledV "set" (setWords h r.tail) setKinds else none := by
  show (match kinds h with | some ks => filledV h r ks | none => _) = _
  rw [e]
def ToldF (H : Hp) (Q : VK) : Option (List V) → Prop
  | none => ∀ H', Same H H' → Q .non H'
  | some xs => ∀ H' p, Same H H' → H' p = some (.tup xs) → Q (.ref p) H'
def sp_value_in : Sp := fun vs H Q _ => ∃ w : Str, vs = [.str w] ∧ w.length ≤ 100000 ∧ ∀ H', Same H H' → Q (valIn w) H'
def sp_number_within : Sp := fun vs H Q _ => ∃ (w : Str) (lo hi : Int), vs = [.str w, .int lo, .int hi] ∧ w.length ≤ 100000 ∧ ∀ H', Same H H' → Q (withinV (numIn w) lo hi) H'
def sp_thing_in : Sp := fun vs H Q _ => ∃ w k : Str, vs = [.str w, .str k] ∧ w.length ≤ 100000 ∧ ∀ H', Same H H' → Q (thingIn w k) H'
def sp_filled (K : PySem.W.Frag) : Sp := fun vs H Q _ => ∃ (h : Str) (l t : Addr) (ws ks : List Str), vs = [.str h, .ref l, .ref t] ∧ SqL K H l (ws.map V.str) ∧ SqT K H t (ks.map V.str) ∧ (∀ w ∈ ws, w.length ≤ 100000) ∧ ws.length ≤ 200000 ∧ ToldF H Q (filledV h ws ks)
def sp_form_of (K : PySem.W.Frag) : Sp := fun vs H Q _ => ∃ (l : Addr) (ws : List Str), vs = [.ref l] ∧ SqL K H l (ws.map V.str) ∧ ws ≠ [] ∧ (∀ w ∈ ws, w.length ≤ 100000) ∧ ws.length ≤ 100000 ∧ ToldF H Q (formV ws)
def sp_words_of : Sp := fun vs H Q _ => ∃ x : Str, vs = [.str x] ∧ x.length ≤ 90000 ∧ ∀ H' p, Same H H' → H' p = some (.lst ((wordsIn x).map V.str)) → Q (.ref p) H'
def kwS : List Str := ["ask", "store", "put", "get", "give", "if", "else", "while", "repeat", "end"]
def preName (w : Str) : Prop := isMade w letters = true ∧ 1 ≤ w.length ∧ w.length ≤ 8
theorem made_app {x y s : Str} (h1 : isMade x s = true) (h2 : isMade y s = true) : isMade (x ++ y) s = true := by
  unfold isMade at *
  rw [app_signs, List.all_append, h1, h2]
  rfl
theorem made_mul {c : Nat} {n : Int} {s : Str} (h : c ∈ s.cps.toList) : isMade (Txt.mul ⟨#[c]⟩ n) s = true := by
  unfold isMade
  rw [PyProof.Rows.mul_one_list, List.all_eq_true]
  intro d hd
  rw [(List.mem_replicate.mp hd).2]
  exact decide_eq_true h
theorem in_str {w : Str} : ∀ {ks : List Str}, inV (.str w) (ks.map V.str) = decide (w ∈ ks)
  | [] => rfl
  | k :: ks => by
    have ih := in_str (w := w) (ks := ks)
    show (eqV (.str k) (.str w) || inV (.str w) (ks.map V.str)) = _
    rw [ih, Bool.eq_iff_iff]
    show ((k == w) || decide (w ∈ ks)) = true ↔ _
    simp
    constructor
    · rintro (h | h)
      · exact .inl h.symm
      · exact .inr h
    · rintro (h | h)
      · exact .inl h.symm
      · exact .inr h
theorem kw_map : kwV = kwS.map V.str := rfl
theorem name_mk {w : Str} (h : preName w) (hk : ¬ inV (.str w) kwV = true) : isName w = true := by
  unfold isName
  rw [if_pos (by have := h.2.1; omega), if_pos (by have := h.2.2; omega), h.1, Bool.eq_false_iff.mpr hk]
  rfl
theorem name_kw {w : Str} (hk : inV (.str w) kwV = true) : isName (w ++ "q") = true := by
  rw [kw_map, in_str] at hk
  have : ∀ w ∈ kwS, isName (w ++ "q") = true := by decide +kernel
  exact this w (of_decide_eq_true hk)
theorem kw_len {w : Str} (hk : inV (.str w) kwV = true) : w.length ≤ 6 := by
  rw [kw_map, in_str] at hk
  have : ∀ w ∈ kwS, w.length ≤ 6 := by decide +kernel
  exact this w (of_decide_eq_true hk)
theorem name_is {w : Str} (h : isName w = true) : isMade w letters = true ∧ 1 ≤ w.length ∧ w.length ≤ 8 ∧ w ∉ kwS := by
  unfold isName at h
  split at h
  · split at h
    · rw [Bool.and_eq_true, kw_map, in_str] at h
      refine ⟨h.2, by omega, by omega, ?_⟩
      simpa using h.1
    · cases h
  · cases h
theorem made_signs {w s : Str} (h : isMade w s = true) : ∀ c ∈ w.cps.toList, c ∈ s.cps.toList := fun c hc => by
  unfold isMade at h
  rw [List.all_eq_true] at h
  exact of_decide_eq_true (h c hc)
def sp__law_keywords : Sp := fun vs H Q _ => vs = [] ∧ ∀ p H', Same H H' → H' p = some (.lst kwV) → Q (.ref p) H'
def sp__law_letters : Sp := fun vs H Q _ => ∃ n k : Int, vs = [.int n, .int k] ∧ 0 ≤ k ∧ k ≤ 1000 ∧ ∀ w : Str, w.length = k.toNat → isMade w letters = true → Q (.str w) H
def sp__law_name_by : Sp := fun vs H Q _ => ∃ n : Int, vs = [.int n] ∧ ∀ (w : Str) H', isName w = true → Same H H' → Q (.str w) H'
def goodVal (v : V) : Prop := (∃ w, v = .str w ∧ isName w = true) ∨ ∃ n : Int, v = .int n ∧ 0 ≤ n ∧ n < 10 ^ 30
def valStr : V → Str
  | .str w => w
  | .int n => toString n
  | _ => ""
def goodWord (w : Str) : Prop := 1 ≤ w.length ∧ w.length ≤ 40 ∧ ∀ c ∈ w.cps.toList, 33 ≤ c ∧ c < 127
def sp__law_cell_at (K : PySem.W.Frag) : Sp := fun vs H Q _ => ∃ (l : Addr) (ns : List Int) (k : Int), vs = [.ref l, .int k] ∧ SqL K H l (ns.map V.int) ∧ 0 ≤ k ∧ (∀ n ∈ ns, Builtin.Int.intBits n ≤ 2 ^ 20) ∧ ∀ c : Int, Builtin.Int.intBits c ≤ 2 ^ 20 → Q (.int c) H
def sp__law_value_by : Sp := fun vs H Q _ => ∃ n : Int, vs = [.int n] ∧ ∀ v H', goodVal v → Same H H' → Q v H'
def sp__law_from : Sp := fun vs H Q _ => ∃ n lo hi : Int, vs = [.int n, .int lo, .int hi] ∧ lo ≤ hi ∧ ∀ (r : Int) H', lo ≤ r → r ≤ hi → Same H H' → Q (.int r) H'
def sp__law_spaced (K : PySem.W.Frag) : Sp := fun vs H Q _ => ∃ (l : Addr) (ws : List Str) (n : Int), vs = [.ref l, .int n] ∧ SqL K H l (ws.map V.str) ∧ ws.length ≤ 100 ∧ (∀ w ∈ ws, 1 ≤ w.length ∧ w.length ≤ 41 ∧ ∀ c ∈ w.cps.toList, 33 ≤ c ∧ c < 127) ∧ ∀ x : Str, x.length ≤ 5000 → wordsIn x = ws → Q (.str x) H
def flatOne (v : V) : Prop := (∃ x, v = .str x ∧ PyData.strOk x = true) ∨ ∃ n, v = .int n
def sp__law_same : Sp := fun vs H Q _ => (vs = [.non, .non] ∧ Q (.bl true) H) ∨ ∃ (p d : Addr) (xs : List V), vs = [.ref p, .ref d] ∧ H p = some (.tup xs) ∧ H d = some (.tup xs) ∧ xs.length ≤ 1000 ∧ (∀ v ∈ xs, flatOne v) ∧ ∀ H', Same H H' → Q (.bl true) H'
def ToldR (a : Adr) (H : Hp) (Q : VK) (E : XK) (i : Int) (ws : List Str) : Prop := (ws = [] ∧ ∀ H', Same H H' → Q .non H') ∨ (ws ≠ [] ∧ ((∃ xs, formV ws = some xs ∧ ∀ H' p, Same H H' → H' p = some (.tup xs) → Q (.ref p) H') ∨
  (formV ws = none ∧ ∀ H' dx, Same H H' → H' dx = some (.xd [("place", .int i)]) → E (.ref a.C_BadRow) (some dx) H')))
def sp_row_of (a : Adr) : Sp := fun vs H Q E => ∃ (x : Str) (i : Int), vs = [.str x, .int i] ∧ x.length ≤ 90000 ∧ i.natAbs < 2 ^ 100 ∧ ToldR a H Q E i (wordsIn x)
def sp_FlowError___init__ (K : PySem.W.Frag) (a : Adr) : Sp := fun vs H Q _ => ∃ (e C : Addr) (z y : V), vs = [.ref e, z, y] ∧ H e = some (XO0 C e) ∧ XCls K C a.FlowError___init__ ∧ ∀ dx, H dx = none → Q .non (upd (upd H dx (.xd [("place", y)])) e (XO1 C e dx))
def Due (H : Hp) (ws : List Str) (due : V) : Prop := (ws = [] ∧ due = .non) ∨ ∃ d xs, due = .ref d ∧ H d = some (.tup xs) ∧ ws ≠ [] ∧ formV ws = some xs ∧ xs.length ≤ 1000 ∧ ∀ v ∈ xs, flatOne v
def sp__law_row_by : Sp := fun vs H Q _ => ∃ way n one two three : Int, vs = [.int way, .int n, .int one, .int two, .int three] ∧ 0 ≤ way ∧
  ∀ H' t l ws due, Same H H' → H' t = some (.tup [.ref l, due]) → H' l = some (.lst (ws.map V.str)) → ws.length ≤ 50 → (∀ w ∈ ws, goodWord w) → Due H' ws due → Q (.ref t) H'
theorem num_in {n : Int} (h0 : 0 ≤ n) (h1 : n < 10 ^ 30) : numIn (toString n) = some n := by
  obtain ⟨a1, a2, a3, a4, a5⟩ := num_signs h0 h1
  unfold numIn
  have hm : isMade (Str.ofString (toString n)) figures = true := by
    unfold isMade
    rw [List.all_eq_true]
    intro c hc
    have hr := a3 c hc
    have : ∀ c : Nat, c < 58 → 48 ≤ c → c ∈ figures.cps.toList := by decide +kernel
    exact decide_eq_true (this c (by have := hr.2; omega) hr.1)
  rw [if_pos (by exact_mod_cast a1), if_pos (by exact_mod_cast a2), if_pos hm, if_neg a5]
  show some ((digitsVal (Str.ofString (toString n)).cps.toList : Nat) : Int) = some n
  rw [a4]
  congr 1
  omega
theorem num_word {n : Int} (h0 : 0 ≤ n) (h1 : n < 10 ^ 30) : goodWord (toString n) := by
  obtain ⟨a1, a2, a3, _, _⟩ := num_signs h0 h1
  refine ⟨a1, Nat.le_trans a2 (by decide), fun c hc => ?_⟩
  have := a3 c hc
  omega
theorem num_no_name {n : Int} (h0 : 0 ≤ n) (h1 : n < 10 ^ 30) : isName (toString n) = false := by
  obtain ⟨a1, a2, a3, _, _⟩ := num_signs h0 h1
  rw [Bool.eq_false_iff]
  intro h
  have hm := made_signs (name_is h).1
  have hl : (Str.ofString (toString n)).cps.toList.length = (Str.ofString (toString n)).length := Array.length_toList
  cases e : (Str.ofString (toString n)).cps.toList with
  | nil => rw [e] at hl; rw [← hl] at a1; exact absurd a1 (by decide)
  | cons c r =>
    have hc : c ∈ (Str.ofString (toString n)).cps.toList := by rw [e]; exact List.mem_cons_self
    have h1 := a3 c hc
    have h2 := hm c hc
    have : ∀ c ∈ letters.cps.toList, 97 ≤ c := by decide +kernel
    have := this c h2
    omega
theorem name_word {w : Str} (h : isName w = true) : goodWord w := by
  obtain ⟨a1, a2, a3, _⟩ := name_is h
  refine ⟨a2, by omega, fun c hc => ?_⟩
  have : ∀ c ∈ letters.cps.toList, 33 ≤ c ∧ c < 127 := by decide +kernel
  exact this c (made_signs a1 c hc)
theorem val_in {v : V} (h : goodVal v) : valIn (valStr v) = v := by
  rcases h with ⟨w, rfl, hw⟩ | ⟨n, rfl, h0, h1⟩
  · unfold valIn valStr
    rw [if_pos hw]
  · unfold valIn
    rw [if_neg (by show ¬ isName (toString n) = true; rw [num_no_name h0 h1]; decide)]
    show optV (numIn (toString n)) = _
    rw [num_in h0 h1]
    rfl
theorem val_word {v : V} (h : goodVal v) : goodWord (valStr v) := by
  rcases h with ⟨w, rfl, hw⟩ | ⟨n, rfl, h0, h1⟩
  · exact name_word hw
  · exact num_word h0 h1
theorem good_ok {w : Str} (h : goodWord w) : PyData.strOk w = true := by
  unfold PyData.strOk
  rw [Array.all_eq_true']
  intro c hc
  have := h.2.2 c (Array.mem_toList_iff.mpr hc)
  exact decide_eq_true (by omega)
theorem val_flat {v : V} (h : goodVal v) : flatOne v ∧ eqV v .non = false := by
  rcases h with ⟨w, rfl, hw⟩ | ⟨n, rfl, h0, h1⟩
  · exact ⟨.inl ⟨_, rfl, good_ok (name_word hw)⟩, rfl⟩
  · exact ⟨.inr ⟨_, rfl⟩, rfl⟩
theorem name_kinds {w : Str} (h : isName w = true) : kinds w = none := by
  have := (name_is h).2.2.2
  have k : ∀ z ∈ kwS, ¬ w = z := fun z hz e => this (e ▸ hz)
  unfold kinds
  rw [if_neg (k _ (by decide)), if_neg (k _ (by decide)), if_neg (k _ (by decide)), if_neg (k _ (by decide)), if_neg (k _ (by decide)), if_neg (k _ (by decide)), if_neg (k _ (by decide)), if_neg (k _ (by decide)), if_neg (k _ (by decide)), if_neg (k _ (by decide))]
theorem thing_name {w : Str} (h : isName w = true) : thingIn w "name" = .str w := by
  unfold thingIn
  rw [if_pos rfl, if_pos h]
theorem thing_value {w : Str} : thingIn w "value" = valIn w := by
  unfold thingIn
  rw [if_neg (by decide), if_pos rfl]
theorem thing_sign {w : Str} (h : inV (.str w) sgV = true) : thingIn w "sign" = .str w := by
  unfold thingIn
  rw [if_neg (by decide), if_neg (by decide), if_pos rfl, if_pos h]
theorem thing_length {n : Int} (h0 : 1 ≤ n) (h1 : n ≤ 2000) : thingIn (toString n) "length" = .int n := by
  unfold thingIn
  rw [if_neg (by decide), if_neg (by decide), if_neg (by decide), if_pos rfl, num_in (by omega) (by omega)]
  unfold withinV
  show (if n < 1 then V.non else if 2000 < n then V.non else V.int n) = _
  rw [if_neg (by omega), if_neg (by omega)]
theorem thing_rounds {n : Int} (h0 : 0 ≤ n) (h1 : n ≤ 99) : thingIn (toString n) "rounds" = .int n := by
  unfold thingIn
  rw [if_neg (by decide), if_neg (by decide), if_neg (by decide), if_neg (by decide), num_in (by omega) (by omega)]
  unfold withinV
  show (if n < 0 then V.non else if 99 < n then V.non else V.int n) = _
  rw [if_neg (by omega), if_neg (by omega)]
theorem filled_mk {h : Str} {ws ks : List Str} {xs : List V} (hl : ws.length = ks.length) (e : thingsIn ws ks = xs) (hn : inV .non xs = false) : filledV h ws ks = some (.str h :: xs) := by
  unfold filledV
  rw [if_pos hl, e, hn]
  rfl
theorem form_one {h x : Str} (hk : kinds h = some (["name"] : List Str)) (hx : isName x = true) : formV [h, x] = some [.str h, .str x] := by
  rw [formV_kw hk]
  refine filled_mk rfl ?_ rfl
  show [thingIn x "name"] = _
  rw [thing_name hx]
theorem form_two {h x y : Str} (hk : kinds h = some (["name", "name"] : List Str)) (hx : isName x = true) (hy : isName y = true) : formV [h, x, y] = some [.str h, .str x, .str y] := by
  rw [formV_kw hk]
  refine filled_mk rfl ?_ rfl
  show [thingIn x "name", thingIn y "name"] = _
  rw [thing_name hx, thing_name hy]
theorem form_none {h : Str} (hk : kinds h = some []) : formV [h] = some [.str h] := by
  rw [formV_kw hk]
  exact filled_mk rfl rfl rfl
theorem form_store {x : Str} {n : Int} (hx : isName x = true) (h0 : 1 ≤ n) (h1 : n ≤ 2000) : formV ["store", x, toString n] = some [.str "store", .str x, .int n] := by
  rw [formV_kw (show kinds "store" = some (["name", "length"] : List Str) from by decide +kernel)]
  refine filled_mk rfl ?_ rfl
  show [thingIn x "name", thingIn (toString n) "length"] = _
  rw [thing_name hx, thing_length h0 h1]
theorem form_repeat {n : Int} (h0 : 0 ≤ n) (h1 : n ≤ 99) : formV ["repeat", toString n] = some [.str "repeat", .int n] := by
  rw [formV_kw (show kinds "repeat" = some (["rounds"] : List Str) from by decide +kernel)]
  refine filled_mk rfl ?_ rfl
  show [thingIn (toString n) "rounds"] = _
  rw [thing_rounds h0 h1]
theorem form_set {x : Str} {v u : V} {sg : Str} (hx : isName x = true) (hv : goodVal v) (hs : inV (.str sg) sgV = true) (hu : goodVal u) : formV [x, "=", valStr v, sg, valStr u] = some [.str "set", .str x, v, .str sg, u] := by
  rw [formV_set (name_kinds hx), if_neg (by simp), if_pos (show (["=", valStr v, sg, valStr u] : List Str).head? = some ("=" : Str) from rfl)]
  refine filled_mk rfl ?_ ?_
  · show [thingIn x "name", thingIn (valStr v) "value", thingIn sg "sign", thingIn (valStr u) "value"] = _
    rw [thing_name hx, thing_value, thing_value, thing_sign hs, val_in hv, val_in hu]
  · show (eqV (.str x) .non || (eqV v .non || (eqV (.str sg) .non || (eqV u .non || false)))) = false
    rw [(val_flat hv).2, (val_flat hu).2]
    rfl
theorem form_set1 {x : Str} {v : V} (hx : isName x = true) (hv : goodVal v) : formV [x, "=", valStr v] = some [.str "set", .str x, v, .str "+", .int 0] := by
  rw [formV_set (name_kinds hx), if_neg (by simp), if_pos (show (["=", valStr v] : List Str).head? = some ("=" : Str) from rfl)]
  refine filled_mk rfl ?_ ?_
  · show [thingIn x "name", thingIn (valStr v) "value", thingIn "+" "sign", thingIn "0" "value"] = _
    rw [thing_name hx, thing_value, thing_value, thing_sign (by decide +kernel), val_in hv]
    have : valIn "0" = .int 0 := by decide +kernel
    rw [this]
  · show (eqV (.str x) .non || (eqV v .non || (eqV (.str "+") .non || (eqV (.int 0) .non || false)))) = false
    rw [(val_flat hv).2]
    rfl
def lawNum (x : Str) : Int := (numIn x).getD (-1)
def sp__law_number : Sp := fun vs H Q _ => ∃ w : Str, vs = [.str w] ∧ w.length ≤ 100000 ∧ Q (.int (lawNum w)) H
def sp__law_is_name : Sp := fun vs H Q _ => ∃ w : Str, vs = [.str w] ∧ w.length ≤ 100000 ∧ ∀ H', Same H H' → Q (.bl (isName w)) H'
def wordOk (w : Str) : Prop := 1 ≤ w.length ∧ w.length ≤ 41 ∧ ∀ c ∈ w.cps.toList, 33 ≤ c ∧ c < 127
def sp__law_sign_by : Sp := fun vs H Q _ => ∃ n : Int, vs = [.int n] ∧ 1 ≤ n ∧ n ≤ 93 ∧ ∀ c : Nat, 33 ≤ c → c < 127 → Q (.str ⟨#[c]⟩) H
def sp__law_odd_by : Sp := fun vs H Q _ => ∃ n : Int, vs = [.int n] ∧ ∀ H' (w : Str), Same H H' → goodWord w → Q (.str w) H'
def sp__law_spoilt : Sp := fun vs H Q _ => ∃ (l : Addr) (ws : List Str) (way at_ n : Int), vs = [.ref l, .int way, .int at_, .int n] ∧ H l = some (.lst (ws.map V.str)) ∧ ws.length ≤ 50 ∧ (∀ w ∈ ws, goodWord w) ∧ 0 ≤ way ∧ way < 8 ∧ 0 ≤ at_ ∧ 0 ≤ n ∧
  ∀ H' p (ws' : List Str), Same H H' → H' p = some (.lst (ws'.map V.str)) → ws'.length ≤ 100 → (∀ w ∈ ws', wordOk w) → Q (.ref p) H'
def lawVal (w : Str) : V := if isName w = true then .str w else .int (lawNum w)
def sp__law_value : Sp := fun vs H Q _ => ∃ w : Str, vs = [.str w] ∧ w.length ≤ 100000 ∧ ∀ H', Same H H' → Q (lawVal w) H'
def ToldJ (H : Hp) (Q : VK) (o : Option (List V)) : Prop := match o with
  | none => ∀ H' p, Same H H' → H' p = some (.lst []) → Q (.ref p) H'
  | some xs => ∀ H' p d, Same H H' → H' p = some (.lst [.ref d]) → H' d = some (.tup xs) → Q (.ref p) H'
def sp__law_judged_set : Sp := fun vs H Q _ => ∃ (l : Addr) (h : Str) (r : List Str), vs = [.ref l] ∧ H l = some (.lst ((h :: r).map V.str)) ∧ r.length ≤ 100 ∧ (∀ w ∈ h :: r, wordOk w) ∧ kinds h = none ∧ ToldJ H Q (formV (h :: r))
def sp__law_judged : Sp := fun vs H Q _ => ∃ (l : Addr) (ws : List Str), vs = [.ref l] ∧ H l = some (.lst (ws.map V.str)) ∧ ws.length ≤ 100 ∧ (∀ w ∈ ws, wordOk w) ∧ ((ws = [] ∧ ∀ H' p, Same H H' → H' p = some (.lst [.non]) → Q (.ref p) H') ∨ (ws ≠ [] ∧ ToldJ H Q (formV ws)))
def sp__law_is_refused (a : Adr) : Sp := fun vs H Q _ => ∃ (e dx : Addr) (i : Int), vs = [.ref e, .int 0, .int i] ∧ H e = some (XO2 a.C_BadRow e dx) ∧ H dx = some (.xd [("place", .int i)]) ∧ ∀ H', Same H H' → Q (.bl true) H'
def sp__law_holds : Sp := fun vs H Q _ => ∃ (l : Addr) (ws : List Str) (n : Int), vs = [.ref l, .int n] ∧ H l = some (.lst (ws.map V.str)) ∧ ws.length ≤ 100 ∧ (∀ w ∈ ws, wordOk w) ∧ 0 ≤ n ∧ ∀ H', Same H H' → Q (.bl true) H'
def sp_law (K : PySem.W.Frag) : Sp := fun vs H Q _ => ∃ (a : Addr) (ns : List Int), vs = [.ref a] ∧ SqL K H a (ns.map V.int) ∧ ns.length ≤ 63 ∧ (∀ n ∈ ns, Builtin.Int.intBits n ≤ 2 ^ 20) ∧ Only H ∧ ∀ H', Q (.bl true) H'
section
variable {P : Program} {w : World} {K : PySem.W.Frag} {mg : Str → Option Value} {base : Heap} {a : Adr}
theorem ok_is_made_of (T : Tx P w K mg a) : FnOk P w K mg base CX0 1 a.is_made_of a.fd_is_made_of ["word", "signs"] sp_is_made_of := by
  refine T.F_is_made_of.ok sc_is_made_of (fun vs H Q E h => ?_) (fun cdv A outer s H vs Q E hr h => ?_)
  · obtain ⟨_, _, rfl, _⟩ := h
    rfl
  obtain ⟨x, z, rfl, hx, k⟩ := h
  refine ⟨_, (pss_one (ps_ret (pe_callB (call_all rfl) rfl T.z_all PyProof.Rows.Boot.«all» (pa_cons (pe_comp (k := 1) (Nc := ["sign", "signs"]) (js := [1]) (show CompSc (defScope s_is_made_of) ["word", "signs"] _ 1 ["sign", "signs"] [1] from CompSc.mk rfl (by decide +kernel) (by decide +kernel) (by decide +kernel) rfl (by decide +kernel)) rfl (pi_str (pv 0)) (fun _ _ _ _ _ => (pg_name (i := 0) (show List.Nodup (["sign", "signs"] : List Str) from by decide +kernel) rfl (Or.inl rfl))) (fun _ _ _ _ _ => pts_nil) (fun _ _ _ _ _ => (pe_cmpR op_in_str (pv 0) (pv 1) (by with_unfolding_all rfl)))) pa_nil)))), ?_⟩
  refine ⟨_, rfl, x, rfl, comp_str0 (fun i ys σ H2 => H2 = H ∧ (∃ v, σ = [v, some (.str z)]) ∧ ys = (x.cps.toList.take i).map fun c => V.bl (decide (c ∈ z.cps.toList))) ⟨rfl, ⟨none, rfl⟩, rfl⟩ ?_ (len_le_line (m := 100000) hx) ?_ ?_⟩
  · rintro i ys σ H2 hi ⟨_, _, rfl⟩
    rw [List.length_map, List.length_take]
    exact Nat.min_le_left _ _
  · rintro i c ys σ H2 hc ⟨rfl, ⟨v, rfl⟩, rfl⟩
    refine ⟨_, rfl, _, rfl, _, _, rfl, rfl, rfl, ⟨_, rfl⟩, ?_⟩
    have hc' : x.cps.toList[i]? = some c := by simpa using hc
    rw [PySem.StrLaws.found_one, List.take_add_one, hc', List.map_append]
    rfl
  · rintro ys σ H2 ⟨rfl, _, rfl⟩ D hD
    refine ⟨D, x.cps.toList.map fun c => decide (c ∈ z.cps.toList), rfl, SqL.of ?_, ?_⟩
    · rw [upd_same, List.take_of_length_le (by simp), List.map_map]
      rfl
    · have e : (x.cps.toList.map fun c => decide (c ∈ z.cps.toList)).all id = isMade x z := by
        unfold isMade
        rw [List.all_map]
        rfl
      rw [e]
      exact k _ (Same.new hD _)
theorem ok_is_name (T : Tx P w K mg a) : FnOk P w K mg base CX0 2 a.is_name a.fd_is_name ["word"] sp_is_name := by
  refine T.F_is_name.ok sc_is_name (fun vs H Q E h => ?_) (fun cdv A outer s H vs Q E hr h => ?_)
  · obtain ⟨_, rfl, _⟩ := h
    rfl
  obtain ⟨x, rfl, hx, k⟩ := h
  refine ⟨_, (pss_cons (ps_if (pt_not (pt_chain oi_le oi_le pe_int (pe_callB call_len_str rfl T.z_len PySem.boot_len (pa_cons (pv 0) pa_nil)) (pe_glob rfl T.c_MOST_LETTERS T.r_MOST_LETTERS))) (pss_one (ps_ret pe_bl)) pss_nil)
      (pss_one (ps_ret (pe_and (pe_cmpR op_notIn_seq (pv 0) (pe_glob rfl T.c_KEYWORDS T.r_KEYWORDS) (by with_unfolding_all rfl)) (pe_one (pe_call (ok_is_made_of T) (hr.mono (by decide)) rfl T.m_is_made_of T.F_is_made_of.kp T.b_is_made_of .nil pass0 (pa_cons (pv 0) (pa_cons (pe_glob rfl T.c_LETTERS T.r_LETTERS) pa_nil)))))))), ?_⟩
  refine ⟨_, rfl, x, rfl, len_le_line (m := 100000) hx, _, _, rfl, rfl, _, rfl, ?_⟩
  refine ite2 (fun c => ?_) (fun c => ?_)
  · have c1 : 1 ≤ (x.length : Int) := of_decide_eq_true c
    refine ⟨_, _, rfl, rfl, _, rfl, ?_⟩
    refine ite2 (fun c' => ?_) (fun c' => ?_)
    · have c2 : ¬ (x.length : Int) ≤ 8 := by simpa using c'
      have e : isName x = false := by unfold isName; rw [if_pos c1, if_neg c2]
      have q := k H (Same.refl H)
      rw [e] at q
      exact q
    · have c2 : (x.length : Int) ≤ 8 := by simpa using c'
      refine ⟨_, rfl, _, kwV, rfl, .inr (T.t_KEYWORDS H), rfl, rfl, _, rfl, ?_⟩
      have e : isName x = (!inV (.str x) kwV && isMade x letters) := by unfold isName; rw [if_pos c1, if_pos c2]
      refine iteB (fun c3 => ?_) (fun c3 => ?_)
      · refine ⟨_, rfl, x, letters, rfl, hx, fun H' hs => ?_⟩
        have q := k H' hs
        have c4 : (!inV (.str x) kwV) = true := c3
        rw [e, c4, Bool.true_and] at q
        exact q
      · have q := k H (Same.refl H)
        have c4 : (!inV (.str x) kwV) = false := c3
        rw [e, c4, Bool.false_and] at q
        exact q
  · have c1 : ¬ 1 ≤ (x.length : Int) := of_decide_eq_false (Bool.eq_false_iff.mpr c)
    have e : isName x = false := by unfold isName; rw [if_neg c1]
    have q := k H (Same.refl H)
    rw [e] at q
    exact ⟨_, rfl, iteT q⟩
theorem made_digits {x : Str} (h : isMade x figures = true) : AllDigits x.cps.toList := by
  intro c hc
  unfold isMade at h
  rw [List.all_eq_true] at h
  have hm : c ∈ figures.cps.toList := of_decide_eq_true (h c hc)
  have hf : ∀ d ∈ figures.cps.toList, 48 ≤ d ∧ d ≤ 57 := by decide +kernel
  exact hf c hm
theorem head_ex {x : Str} (h : 1 ≤ (x.length : Int)) : ∃ c, x.cps.toList.head? = some c ∧ atI x.cps.toList (0 : Int) = some c := by
  have hl : x.cps.toList.length = x.length := Array.length_toList
  cases e : x.cps.toList with
  | nil => rw [e] at hl; simp at hl; omega
  | cons c r => exact ⟨c, rfl, atI_nat (xs := c :: r) (j := 0) rfl⟩
theorem ok_number_in (T : Tx P w K mg a) : FnOk P w K mg base CX0 2 a.number_in a.fd_number_in ["word"] sp_number_in := by
  refine T.F_number_in.ok sc_number_in (fun vs H Q E h => ?_) (fun cdv A outer s H vs Q E hr h => ?_)
  · obtain ⟨_, rfl, _⟩ := h
    rfl
  obtain ⟨x, rfl, hx, k⟩ := h
  refine ⟨_, (pss_cons (ps_if (pt_not (pt_chain oi_le oi_le pe_int (pe_callB call_len_str rfl T.z_len PySem.boot_len (pa_cons (pv 0) pa_nil)) (pe_glob rfl T.c_MOST_FIGURES T.r_MOST_FIGURES))) (pss_one (ps_ret pe_non)) pss_nil)
      (pss_cons (ps_if (pt_not (pt_val (pe_call (ok_is_made_of T) (hr.mono (by decide)) rfl T.m_is_made_of T.F_is_made_of.kp T.b_is_made_of .nil pass0 (pa_cons (pv 0) (pa_cons (pe_glob rfl T.c_FIGURES T.r_FIGURES) pa_nil))))) (pss_one (ps_ret pe_non)) pss_nil)
      (pss_cons (ps_if (PW.pt (pw_and (pt_cmpR op_eq (pe_ix ix_str (pv 0) pe_int (fun _ _ => rfl)) pe_str (nomark _)) (pw_and1 (pt_cmpR op_ne (pv 0) pe_str (nomark _))))) (pss_one (ps_ret pe_non)) pss_nil)
      (pss_one (ps_ret (pe_callTy call_int_str rfl T.z_int PyProof.Rows.Boot.«int» (pa_cons (pv 0) pa_nil))))))), ?_⟩
  have hz := len_le_line (m := 100000) hx
  refine ⟨_, rfl, x, rfl, hz, _, _, rfl, rfl, _, rfl, ?_⟩
  refine ite2 (fun c => ?_) (fun c => ?_)
  rotate_left
  · have c1 : ¬ 1 ≤ (x.length : Int) := of_decide_eq_false (Bool.eq_false_iff.mpr c)
    have e : numIn x = none := by unfold numIn; rw [if_neg c1]
    have q := k H (Same.refl H)
    rw [e] at q
    exact ⟨_, rfl, iteT q⟩
  have c1 : 1 ≤ (x.length : Int) := of_decide_eq_true c
  refine ⟨_, _, rfl, rfl, _, rfl, ?_⟩
  refine ite2 (fun c' => ?_) (fun c' => ?_)
  · have c2 : ¬ (x.length : Int) ≤ 30 := by simpa using c'
    have e : numIn x = none := by unfold numIn; rw [if_pos c1, if_neg c2]
    have q := k H (Same.refl H)
    rw [e] at q
    exact q
  have c2 : (x.length : Int) ≤ 30 := by simpa using c'
  have e0 : numIn x = (if isMade x figures = true then (if x.cps.toList.head? = some 48 ∧ ¬ x = "0" then none else some ((digitsVal x.cps.toList : Nat) : Int)) else none) := by unfold numIn; rw [if_pos c1, if_pos c2]
  refine ⟨_, rfl, x, figures, rfl, hx, fun H1 hs => ⟨_, rfl, ?_⟩⟩
  refine ite2 (fun c => ?_) (fun c => ?_)
  · have c3 : ¬ isMade x figures = true := by simpa using c
    have q := k H1 hs
    rw [e0, if_neg c3] at q
    exact q
  have c3 : isMade x figures = true := by simpa using c
  rw [if_pos c3] at e0
  obtain ⟨d, hd1, hd2⟩ := head_ex c1
  have fin : ¬ (x.cps.toList.head? = some 48 ∧ ¬ x = "0") → Q (.int ((digitsVal x.cps.toList : Nat) : Int)) H1 := fun hn => by
    have q := k H1 hs
    rw [e0, if_neg hn] at q
    exact q
  have ret : ¬ (x.cps.toList.head? = some 48 ∧ ¬ x = "0") → (∃ v, (start ["word"] [V.str x])[0]? = some (some v) ∧ ∃ (z : Str) (n : Int), [v] = [.str z] ∧ PySem.intText? z = some n ∧ z.length ≤ 640 ∧ Q (.int n) H1) := fun hn =>
    ⟨_, rfl, x, _, rfl, intText_digits (made_digits c3) (by intro e; rw [e] at hd1; cases hd1) (by omega), by omega, fin hn⟩
  refine ⟨_, rfl, x, _, d, rfl, rfl, hz, hd2, rfl, _, rfl, ?_⟩
  refine ite2 (fun c => ?_) (fun c => ?_)
  · have hd : d = 48 := by
      have := of_decide_eq_true c
      injection this with e
      have e' : (⟨#[d]⟩ : Str) = ⟨#[48]⟩ := e
      injection e' with e'
      simpa using e'
    subst hd
    refine ⟨_, rfl, rfl, _, rfl, ?_⟩
    refine ite2 (fun c' => ?_) (fun c' => ?_)
    · have hn : ¬ x = "0" := by
        intro z
        rw [z] at c'
        simp at c'
      have q := k H1 hs
      rw [e0, if_pos ⟨hd1, hn⟩] at q
      exact q
    · have hn : x = "0" := by
        have z : (!decide (V.str x = V.str "0")) = false := by simpa using c'
        have z' : V.str x = V.str "0" := by simpa using z
        injection z'
      exact ret fun hh => hh.2 hn
  · refine iteF ?_
    refine ret fun hh => c ?_
    rw [hd1] at hh
    have : d = 48 := Option.some.inj hh.1
    subst this
    exact decide_eq_true rfl
theorem ok_value_in (T : Tx P w K mg a) : FnOk P w K mg base CX0 3 a.value_in a.fd_value_in ["word"] sp_value_in := by
  refine T.F_value_in.ok sc_value_in (fun vs H Q E h => ?_) (fun cdv A outer s H vs Q E hr h => ?_)
  · obtain ⟨_, rfl, _⟩ := h
    rfl
  obtain ⟨x, rfl, hx, k⟩ := h
  refine ⟨_, (pss_one (ps_ret (pe_ifExp (pt_val (pe_call (ok_is_name T) (hr.mono (by decide)) rfl T.m_is_name T.F_is_name.kp T.b_is_name .nil pass0 (pa_cons (pv 0) pa_nil))) (pv 0) (pe_call (ok_number_in T) (hr.mono (by decide)) rfl T.m_number_in T.F_number_in.kp T.b_number_in .nil pass0 (pa_cons (pv 0) pa_nil))))), ?_⟩
  refine ⟨_, rfl, x, rfl, hx, fun H1 hs => ⟨_, rfl, ?_⟩⟩
  refine ite2 (fun c => ?_) (fun c => ?_)
  · have q := k H1 hs
    unfold valIn at q
    rw [if_pos c] at q
    exact ⟨_, rfl, q⟩
  · refine ⟨_, rfl, x, rfl, hx, fun H2 hs2 => ?_⟩
    have q := k H2 (hs.trans hs2)
    unfold valIn at q
    rw [if_neg c] at q
    exact q
theorem ok_number_within (T : Tx P w K mg a) : FnOk P w K mg base CX0 3 a.number_within a.fd_number_within ["word", "least", "most"] sp_number_within := by
  refine T.F_number_within.ok sc_number_within (fun vs H Q E h => ?_) (fun cdv A outer s H vs Q E hr h => ?_)
  · obtain ⟨_, _, _, rfl, _⟩ := h
    rfl
  obtain ⟨x, lo, hi, rfl, hx, k⟩ := h
  refine ⟨_, (pss_cons (ps_set (i := 3) sc_number_within.nd rfl (Or.inl rfl) (pe_call (ok_number_in T) (hr.mono (by decide)) rfl T.m_number_in T.F_number_in.kp T.b_number_in .nil pass0 (pa_cons (pv 0) pa_nil)))
      (pss_cons (ps_if (PW.pt (pw_or (pt_cmpR op_isN (pv 3) pe_non (nomark _)) (pw_or (pt_cmpR oi_lt (pv 3) (pv 1) (nomark _)) (pw_or1 (pt_cmpR oi_gt (pv 3) (pv 2) (nomark _)))))) (pss_one (ps_ret pe_non)) pss_nil)
      (pss_one (ps_ret (pv 3))))), ?_⟩
  refine ⟨_, rfl, x, rfl, hx, fun H1 hs => ?_⟩
  have q := k H1 hs
  cases e : numIn x with
  | none =>
    rw [e] at q
    exact ⟨_, rfl, rfl, _, rfl, iteT (iteT q)⟩
  | some n =>
    rw [e] at q
    refine ⟨_, rfl, rfl, _, rfl, iteF ?_⟩
    refine ⟨_, rfl, _, rfl, _, _, rfl, rfl, _, rfl, ?_⟩
    have q' : Q (if n < lo then .non else if hi < n then .non else .int n) H1 := q
    refine ite2 (fun c => ?_) (fun c => ?_)
    · rw [if_pos (of_decide_eq_true c)] at q'
      exact iteT q'
    · rw [if_neg (of_decide_eq_false (Bool.eq_false_iff.mpr c))] at q'
      refine ⟨_, rfl, _, rfl, _, _, rfl, rfl, _, rfl, ?_⟩
      refine ite2 (fun c' => ?_) (fun c' => ?_)
      · rw [if_pos (of_decide_eq_true c')] at q'
        exact q'
      · rw [if_neg (of_decide_eq_false (Bool.eq_false_iff.mpr c'))] at q'
        exact ⟨_, rfl, q'⟩
theorem str_dec {x y : Str} : decide (V.str x = V.str y) = decide (x = y) := by
  rw [Bool.eq_iff_iff]
  simp
theorem ok_thing_in (T : Tx P w K mg a) : FnOk P w K mg base CX0 4 a.thing_in a.fd_thing_in ["word", "kind"] sp_thing_in := by
  refine T.F_thing_in.ok sc_thing_in (fun vs H Q E h => ?_) (fun cdv A outer s H vs Q E hr h => ?_)
  · obtain ⟨_, _, rfl, _⟩ := h
    rfl
  obtain ⟨x, z, rfl, hx, k⟩ := h
  refine ⟨_, (pss_cons (ps_if (pt_cmpR op_eq (pv 1) pe_str (nomark _)) (pss_one (ps_ret (pe_ifExp (pt_val (pe_call (ok_is_name T) (hr.mono (by decide)) rfl T.m_is_name T.F_is_name.kp T.b_is_name .nil pass0 (pa_cons (pv 0) pa_nil))) (pv 0) pe_non))) pss_nil)
      (pss_cons (ps_if (pt_cmpR op_eq (pv 1) pe_str (nomark _)) (pss_one (ps_ret (pe_call (ok_value_in T) (hr.mono (by decide)) rfl T.m_value_in T.F_value_in.kp T.b_value_in .nil pass0 (pa_cons (pv 0) pa_nil)))) pss_nil)
      (pss_cons (ps_if (pt_cmpR op_eq (pv 1) pe_str (nomark _)) (pss_one (ps_ret (pe_ifExp (pt_cmpR op_in_seq (pv 0) (pe_glob rfl T.c_SIGNS T.r_SIGNS) (by with_unfolding_all rfl)) (pv 0) pe_non))) pss_nil)
      (pss_cons (ps_if (pt_cmpR op_eq (pv 1) pe_str (nomark _)) (pss_one (ps_ret (pe_call (ok_number_within T) (hr.mono (by decide)) rfl T.m_number_within T.F_number_within.kp T.b_number_within .nil pass0 (pa_cons (pv 0) (pa_cons pe_int (pa_cons (pe_glob rfl T.c_MOST_LENGTH T.r_MOST_LENGTH) pa_nil)))))) pss_nil)
      (pss_one (ps_ret (pe_call (ok_number_within T) (hr.mono (by decide)) rfl T.m_number_within T.F_number_within.kp T.b_number_within .nil pass0 (pa_cons (pv 0) (pa_cons pe_int (pa_cons (pe_glob rfl T.c_MOST_ROUNDS T.r_MOST_ROUNDS) pa_nil)))))))))), ?_⟩
  unfold thingIn at k
  refine ⟨_, rfl, rfl, _, rfl, ?_⟩
  rw [str_dec]
  refine ite2 (fun c => ?_) (fun c => ?_)
  · rw [if_pos (of_decide_eq_true c)] at k
    refine ⟨_, rfl, x, rfl, hx, fun H1 hs => ⟨_, rfl, ?_⟩⟩
    have q := k H1 hs
    refine ite2 (fun c => ?_) (fun c => ?_)
    · rw [if_pos c] at q
      exact ⟨_, rfl, q⟩
    · rw [if_neg c] at q
      exact q
  rw [if_neg (of_decide_eq_false (Bool.eq_false_iff.mpr c))] at k
  refine ⟨_, rfl, rfl, _, rfl, ?_⟩
  rw [str_dec]
  refine ite2 (fun c => ?_) (fun c => ?_)
  · rw [if_pos (of_decide_eq_true c)] at k
    exact ⟨_, rfl, x, rfl, hx, k⟩
  rw [if_neg (of_decide_eq_false (Bool.eq_false_iff.mpr c))] at k
  refine ⟨_, rfl, rfl, _, rfl, ?_⟩
  rw [str_dec]
  refine ite2 (fun c => ?_) (fun c => ?_)
  · rw [if_pos (of_decide_eq_true c)] at k
    have q := k H (Same.refl H)
    refine ⟨_, rfl, _, sgV, rfl, .inr (T.t_SIGNS H), rfl, rfl, _, rfl, ?_⟩
    refine ite2 (fun c => ?_) (fun c => ?_)
    · have c' : inV (.str x) sgV = true := c
      rw [if_pos c'] at q
      exact ⟨_, rfl, q⟩
    · have c' : ¬ inV (.str x) sgV = true := c
      rw [if_neg c'] at q
      exact q
  rw [if_neg (of_decide_eq_false (Bool.eq_false_iff.mpr c))] at k
  refine ⟨_, rfl, rfl, _, rfl, ?_⟩
  rw [str_dec]
  refine ite2 (fun c => ?_) (fun c => ?_)
  · rw [if_pos (of_decide_eq_true c)] at k
    exact ⟨_, rfl, x, 1, 2000, rfl, hx, k⟩
  rw [if_neg (of_decide_eq_false (Bool.eq_false_iff.mpr c))] at k
  exact ⟨_, rfl, x, 0, 99, rfl, hx, k⟩
theorem cutV_drop (xs : List V) (k : Nat) : cutV xs (some (k : Int)) none = xs.drop k := by
  unfold cutV
  rw [HT.sIx_nat, HT.sIx_none]
  by_cases h : k ≤ xs.length
  · rw [Nat.min_eq_left h]
    exact List.take_of_length_le (by rw [List.length_drop]; omega)
  · rw [Nat.min_eq_right (by omega), List.drop_of_length_le (Nat.le_refl _), List.drop_of_length_le (by omega)]
    exact List.take_nil
theorem things_snoc : ∀ (ws ks : List Str) (i : Nat) (x z : Str), ws[i]? = some x → ks[i]? = some z → thingsIn (ws.take (i + 1)) (ks.take (i + 1)) = thingsIn (ws.take i) (ks.take i) ++ [thingIn x z]
  | [], _, _, _, _, h, _ => by simp at h
  | _ :: _, [], _, _, _, _, h => by simp at h
  | _ :: _, _ :: _, 0, _, _, h1, h2 => by simp at h1 h2; subst h1 h2; simp [thingsIn]
  | u :: ws, v :: ks, i + 1, x, z, h1, h2 => by
    have ih := things_snoc ws ks i x z (by simpa using h1) (by simpa using h2)
    show thingIn u v :: thingsIn (ws.take (i + 1)) (ks.take (i + 1)) = (thingIn u v :: thingsIn (ws.take i) (ks.take i)) ++ [thingIn x z]
    rw [ih]
    rfl
theorem things_len : ∀ (ws ks : List Str), (thingsIn ws ks).length = min ws.length ks.length
  | [], _ => by simp [thingsIn]
  | _ :: _, [] => by simp [thingsIn]
  | _ :: ws, _ :: ks => by
    show (thingsIn ws ks).length + 1 = min (ws.length + 1) (ks.length + 1)
    rw [things_len ws ks]
    omega
theorem thing_flat (w k : Str) : flatV (thingIn w k) = true := by
  unfold thingIn valIn withinV optV
  repeat' split
  all_goals rfl
theorem things_flat : ∀ (ws ks : List Str), (thingsIn ws ks).all flatV = true
  | [], _ => by simp [thingsIn]
  | _ :: _, [] => by simp [thingsIn]
  | w :: ws, k :: ks => by
    show (flatV (thingIn w k) && (thingsIn ws ks).all flatV) = true
    rw [thing_flat, things_flat ws ks]
    rfl
theorem ok_filled (T : Tx P w K mg a) : FnOk P w K mg base CX0 5 a.filled a.fd_filled ["head", "words", "kinds"] (sp_filled K) := by
  refine T.F_filled.ok sc_filled (fun vs H Q E h => ?_) (fun cdv A outer s H vs Q E hr h => ?_)
  · obtain ⟨_, _, _, _, _, rfl, _⟩ := h
    rfl
  obtain ⟨hd, l, t, ws, ks, rfl, hl, ht, hw, hn, k⟩ := h
  refine ⟨_, (pss_cons (ps_if (pt_cmpR op_ne (pe_callB call_len_seq rfl T.z_len PySem.boot_len (pa_cons (pv 1) pa_nil)) (pe_callB call_len_seq rfl T.z_len PySem.boot_len (pa_cons (pv 2) pa_nil)) (nomark _)) (pss_one (ps_ret pe_non)) pss_nil)
      (pss_cons (ps_setcomp (i := 3) sc_filled.nd rfl (Or.inl rfl) (k := 2) (Nc := ["word", "kind"]) (js := []) (show CompSc (defScope s_filled) ["head", "words", "kinds", "things"] _ 2 ["word", "kind"] [] from CompSc.mk rfl (by decide +kernel) (by decide +kernel) (by decide +kernel) rfl (by decide +kernel)) rfl (pi_zip rfl T.z_zip (pa_cons (pv 1) (pa_cons (pv 2) pa_nil))) (fun _ _ _ _ _ => (pg_tupC 2 rfl (pgs_cons (pg_name (i := 0) (show List.Nodup (["word", "kind"] : List Str) from by decide +kernel) rfl (Or.inl rfl)) (pgs_cons (pg_name (i := 1) (show List.Nodup (["word", "kind"] : List Str) from by decide +kernel) rfl (Or.inl rfl)) pgs_nil)))) (fun _ _ _ _ _ => pts_nil) (fun _ _ _ _ _ => (pe_call (ok_thing_in T) (hr.mono (by decide)) rfl T.m_thing_in T.F_thing_in.kp T.b_thing_in .nil pass0 (pa_cons (pv 0) (pa_cons (pv 1) pa_nil)))))
      (pss_cons (ps_if (pt_cmpR op_in_seq pe_non (pv 3) (by with_unfolding_all rfl)) (pss_one (ps_ret pe_non)) pss_nil)
      (pss_one (ps_ret (pe_op op_catT (pe_tup (pa_cons (pv 0) pa_nil)) (pe_callTy call_tuple_of rfl T.z_tuple PyProof.Rows.Boot.«tuple» (pa_cons (pv 3) pa_nil)))))))), ?_⟩
  have hzn : (200000 : Nat) ≤ sizeLine := by decide
  refine ⟨_, rfl, l, _, rfl, .inl hl, _, rfl, t, _, rfl, .inr ht, rfl, _, rfl, ?_⟩
  unfold filledV at k
  rw [List.length_map, List.length_map]
  refine ite2 (fun c => ?_) (fun c => ?_)
  · have c' : ¬ ws.length = ks.length := by
      intro e
      rw [e] at c
      simp at c
    rw [if_neg c'] at k
    exact k H (Same.refl H)
  have c' : ws.length = ks.length := by
    have : V.int (ws.length : Int) = V.int (ks.length : Int) := by simpa using c
    injection this with e
    omega
  rw [if_pos c'] at k
  refine ⟨_, rfl, _, rfl, false, true, l, t, _, _, rfl, hl, ht, ?_⟩
  refine comp_zip (b1 := false) (b2 := true) (xs := ws.map V.str) (zs := ks.map V.str) (fun i ys σ H2 => Same H H2 ∧ (∃ u v, σ = [u, v]) ∧ i ≤ ws.length ∧ ys = thingsIn (ws.take i) (ks.take i)) ⟨Same.refl H, ⟨none, none, rfl⟩, Nat.zero_le _, rfl⟩ ?_ (by rw [List.length_map]; omega) ?_ ?_ ?_
  · rintro i ys σ H2 ⟨_, _, _, rfl⟩
    rw [things_len, List.length_take]
    omega
  · rintro i ys σ H2 ⟨hs, _⟩
    exact ⟨hs.seq hl, hs.tup ht⟩
  · rintro i x z ys σ H2 p hx hz ⟨hs, ⟨u, v, rfl⟩, hi, rfl⟩ hp
    rw [List.getElem?_map] at hx hz
    obtain ⟨x, hx1, rfl⟩ := Option.map_eq_some_iff.mp hx
    obtain ⟨z, hz1, rfl⟩ := Option.map_eq_some_iff.mp hz
    clear hx hz
    have hx := hx1
    have hz := hz1
    have hi' : i < ws.length := by
      rcases Nat.lt_or_ge i ws.length with h | h
      · exact h
      · rw [List.getElem?_eq_none h] at hx; cases hx
    refine ⟨p, _, rfl, .inl (.inl upd_same), rfl, _, _, rfl, _, _, rfl, rfl, ?_⟩
    rw [yes_eq (N' := fun _ _ _ => True)]
    refine ⟨_, rfl, _, rfl, x, z, rfl, hw x (List.mem_of_getElem? hx), fun H3 hs3 => ?_⟩
    exact ⟨hs.trans ((Same.new hp _).trans hs3), ⟨_, _, rfl⟩, hi', (things_snoc ws ks i x z hx hz).symm⟩
  · rintro ys σ H2 ⟨hs, _, _, rfl⟩
    have e1 : ws.take (min (ws.map V.str).length (ks.map V.str).length) = ws := List.take_of_length_le (by rw [List.length_map, List.length_map]; omega)
    have e2 : ks.take (min (ws.map V.str).length (ks.map V.str).length) = ks := List.take_of_length_le (by rw [List.length_map, List.length_map]; omega)
    rw [e1, e2]
    refine fun D hD => ?_
    have hs2 := hs.trans (Same.new hD (.lst (thingsIn ws ks)))
    refine ⟨_, rfl, D, thingsIn ws ks, rfl, .inl (.inl (.inl upd_same)), rfl, things_flat ws ks, _, rfl, ?_⟩
    refine ite2 (fun c => ?_) (fun c => ?_)
    · have c2 : inV .non (thingsIn ws ks) = true := c
      rw [if_pos c2] at k
      exact k _ hs2
    · have c2 : ¬ inV .non (thingsIn ws ks) = true := c
      rw [if_neg c2] at k
      refine ⟨_, rfl, (by show 1 ≤ sizeLine; decide), fun p hp => ?_⟩
      refine ⟨_, rfl, D, _, rfl, .inl ⟨.inl (.inl ((Same.new hp _) _ _ upd_same)), fun r hr2 => ?_⟩⟩
      have hpr : upd (upd (upd H2 D (.lst (thingsIn ws ks))) p (.tup [.str hd])) r (.tup (thingsIn ws ks)) p = some (.tup [.str hd]) := (Same.new hr2 _) _ _ upd_same
      have hs3 := (hs2.trans (Same.new hp (.tup [.str hd]))).trans (Same.new hr2 (.tup (thingsIn ws ks)))
      refine ⟨p, r, _, _, rfl, rfl, .inl (.inl hpr), .inl (.inl upd_same), (by simp), ?_, fun e => ?_, fun e q hq => ?_⟩
      · rw [things_len]
        show 1 + _ ≤ _
        have : (200001 : Nat) ≤ sizeLine := by decide
        omega
      · rw [e] at k
        exact k _ p hs3 hpr
      · exact k _ q (hs3.trans (Same.new hq _)) upd_same
theorem join_len : ∀ ps : List Str, ps.length ≤ (Str.join ⟨#[32]⟩ ps).length + 1 ∧ ∀ p ∈ ps, p.length ≤ (Str.join ⟨#[32]⟩ ps).length
  | [] => ⟨by simp, by simp⟩
  | [x] => ⟨by simp, by intro p hp; cases List.mem_singleton.mp hp; exact Nat.le_refl _⟩
  | x :: y :: r => by
    have ih := join_len (y :: r)
    have e : (Str.join ⟨#[32]⟩ (x :: y :: r)).length = x.length + 1 + (Str.join ⟨#[32]⟩ (y :: r)).length := by
      show (x ++ ⟨#[32]⟩ ++ Str.join ⟨#[32]⟩ (y :: r) : Str).length = _
      rw [str_len_append, str_len_append]
      rfl
    refine ⟨by rw [e, List.length_cons]; omega, fun p hp => ?_⟩
    rw [e]
    rcases List.mem_cons.mp hp with rfl | h
    · omega
    · have := ih.2 p h
      omega
theorem split_sizes (x : Str) : (Txt.split x ⟨#[32]⟩).length ≤ x.length + 1 ∧ ∀ p ∈ Txt.split x ⟨#[32]⟩, p.length ≤ x.length := by
  have j := join_len (Txt.split x ⟨#[32]⟩)
  rw [StrLaws.join_split] at j
  exact j
theorem words_sizes (x : Str) : (wordsIn x).length ≤ x.length + 1 ∧ ∀ p ∈ wordsIn x, p.length ≤ x.length := by
  have j := split_sizes x
  refine ⟨Nat.le_trans (List.length_filter_le _ _) j.1, fun p hp => j.2 p (List.mem_filter.mp hp).1⟩
theorem ok_words_of (T : Tx P w K mg a) : FnOk P w K mg base CX0 1 a.words_of a.fd_words_of ["row"] sp_words_of := by
  refine T.F_words_of.ok sc_words_of (fun vs H Q E h => ?_) (fun cdv A outer s H vs Q E hr h => ?_)
  · obtain ⟨_, rfl, _⟩ := h
    rfl
  obtain ⟨x, rfl, hx, k⟩ := h
  refine ⟨_, (pss_one (ps_ret (pe_comp (k := 1) (Nc := ["word"]) (js := []) (show CompSc (defScope s_words_of) ["row"] _ 1 ["word"] [] from CompSc.mk rfl (by decide +kernel) (by decide +kernel) (by decide +kernel) rfl (by decide +kernel)) rfl (pi_list (pe_bm PySem.F.plainAttrs_str PySem.F.slot_str_split PySem.F.type_str_split mt_split (pv 0) (pa_cons pe_str pa_nil))) (fun _ _ _ _ _ => (pg_name (i := 0) (show List.Nodup (["word"] : List Str) from by decide +kernel) rfl (Or.inl rfl))) (fun _ _ _ _ _ => (pts_one (pt_cmpR op_ne (pv 0) pe_str (nomark _)))) (fun _ _ _ _ _ => (pv 0))))), ?_⟩
  have hzn : (100000 : Nat) ≤ sizeLine := by decide
  have sz := split_sizes x
  refine ⟨_, rfl, rfl, x, " ", rfl, rfl, rfl, by omega, fun p hp => ⟨p, rfl, ⟨_, .inl (.inl upd_same)⟩, ?_⟩⟩
  have hs0 := Same.new hp (.lst ((Txt.split x " ").map V.str))
  refine comp_list (xs := (Txt.split x " ").map V.str) (fun i ys σ H2 => H2 = upd H p (.lst ((Txt.split x " ").map V.str)) ∧ (∃ u, σ = [u]) ∧ ys = (((Txt.split x " ").take i).filter fun q : Str => !decide (q = "")).map V.str) ⟨rfl, ⟨none, rfl⟩, rfl⟩ ?_ ?_ ?_ ?_ ?_
  · rintro i ys σ H2 hi ⟨_, _, rfl⟩
    rw [List.length_map]
    refine Nat.le_trans (List.length_filter_le _ _) ?_
    rw [List.length_take]
    omega
  · rw [List.length_map]
    have := sz.1
    show (Txt.split x ⟨#[32]⟩).length ≤ _
    omega
  · rintro i ys σ H2 ⟨rfl, _⟩
    exact .inl (.inl upd_same)
  · rintro i v ys σ H2 hv ⟨rfl, ⟨u, rfl⟩, rfl⟩
    rw [List.getElem?_map] at hv
    obtain ⟨q, hq, rfl⟩ := Option.map_eq_some_iff.mp hv
    refine ⟨_, rfl, rfl, _, rfl, ?_⟩
    rw [str_dec]
    refine ite2 (fun c => ?_) (fun c => ?_)
    · refine ⟨_, rfl, rfl, ⟨_, rfl⟩, ?_⟩
      rw [List.take_add_one, hq, List.filter_append, List.map_append]
      show _ = _ ++ ([q].filter fun q : Str => !decide (q = "")).map V.str
      rw [List.filter_cons, if_pos c]
      rfl
    · refine ⟨rfl, ⟨_, rfl⟩, ?_⟩
      rw [List.take_add_one, hq, List.filter_append, List.map_append]
      show _ = _ ++ ([q].filter fun q : Str => !decide (q = "")).map V.str
      rw [List.filter_cons, if_neg c]
      simp
  · rintro ys σ H2 ⟨rfl, _, rfl⟩ D hD
    rw [List.length_map, List.take_of_length_le (Nat.le_refl _)]
    exact k _ D (hs0.trans (Same.new hD _)) upd_same
def formsAt (a : Adr) : List (Key × V) := [(.inr "ask", .ref a.FORMS_0), (.inr "store", .ref a.FORMS_1), (.inr "put", .ref a.FORMS_2), (.inr "get", .ref a.FORMS_3), (.inr "give", .ref a.FORMS_4), (.inr "if", .ref a.FORMS_5), (.inr "else", .ref a.FORMS_6), (.inr "while", .ref a.FORMS_7), (.inr "repeat", .ref a.FORMS_8), (.inr "end", .ref a.FORMS_9)]
theorem val_hit {k : Str} {v : V} {r : List (Key × V)} : valV ((.inr k, v) :: r) (.inr k) = some v := by simp [valV]
theorem val_miss {k h : Str} {v : V} {r : List (Key × V)} (e : ¬ h = k) : valV ((.inr k, v) :: r) (.inr h) = valV r (.inr h) := by
  unfold valV
  rw [List.find?_cons_of_neg]
  simp
  exact fun z => e z.symm
theorem kinds_at (T : Tx P w K mg a) (h : Str) : (kinds h = none ∧ valV (formsAt a) (.inr h) = none) ∨ ∃ ks t, kinds h = some ks ∧ valV (formsAt a) (.inr h) = some (.ref t) ∧ ∀ H, SqT K H t (ks.map V.str) := by
  unfold kinds formsAt
  by_cases e : h = "ask"
  · rw [if_pos e, e, val_hit]; exact .inr ⟨_, _, rfl, rfl, T.t_FORMS_0⟩
  rw [if_neg e, val_miss e]; clear e
  by_cases e : h = "store"
  · rw [if_pos e, e, val_hit]; exact .inr ⟨_, _, rfl, rfl, T.t_FORMS_1⟩
  rw [if_neg e, val_miss e]; clear e
  by_cases e : h = "put"
  · rw [if_pos e, e, val_hit]; exact .inr ⟨_, _, rfl, rfl, T.t_FORMS_2⟩
  rw [if_neg e, val_miss e]; clear e
  by_cases e : h = "get"
  · rw [if_pos e, e, val_hit]; exact .inr ⟨_, _, rfl, rfl, T.t_FORMS_3⟩
  rw [if_neg e, val_miss e]; clear e
  by_cases e : h = "give"
  · rw [if_pos e, e, val_hit]; exact .inr ⟨_, _, rfl, rfl, T.t_FORMS_4⟩
  rw [if_neg e, val_miss e]; clear e
  by_cases e : h = "if"
  · rw [if_pos e, e, val_hit]; exact .inr ⟨_, _, rfl, rfl, T.t_FORMS_5⟩
  rw [if_neg e, val_miss e]; clear e
  by_cases e : h = "else"
  · rw [if_pos e, e, val_hit]; exact .inr ⟨_, _, rfl, rfl, T.t_FORMS_6⟩
  rw [if_neg e, val_miss e]; clear e
  by_cases e : h = "while"
  · rw [if_pos e, e, val_hit]; exact .inr ⟨_, _, rfl, rfl, T.t_FORMS_7⟩
  rw [if_neg e, val_miss e]; clear e
  by_cases e : h = "repeat"
  · rw [if_pos e, e, val_hit]; exact .inr ⟨_, _, rfl, rfl, T.t_FORMS_8⟩
  rw [if_neg e, val_miss e]; clear e
  by_cases e : h = "end"
  · rw [if_pos e, e, val_hit]; exact .inr ⟨_, _, rfl, rfl, T.t_FORMS_9⟩
  rw [if_neg e, val_miss e]
  exact .inl ⟨rfl, rfl⟩
theorem ToldF.mono {H H1 : Hp} {Q : VK} {o : Option (List V)} (hs : Same H H1) (h : ToldF H Q o) : ToldF H1 Q o := by
  cases o with
  | none => exact fun H' e => h H' (hs.trans e)
  | some xs => exact fun H' p e => h H' p (hs.trans e)
theorem ok_form_of (T : Tx P w K mg a) : FnOk P w K mg base CX0 6 a.form_of a.fd_form_of ["words"] (sp_form_of K) := by
  refine T.F_form_of.ok sc_form_of (fun vs H Q E h => ?_) (fun cdv A outer s H vs Q E hr h => ?_)
  · obtain ⟨_, _, rfl, _⟩ := h
    rfl
  obtain ⟨l, ws, rfl, hl, hne, hw, hn, k⟩ := h
  refine ⟨_, (pss_cons (ps_set (i := 1) sc_form_of.nd rfl (Or.inl rfl) (pe_ix ix_list (pv 0) pe_int (fun _ _ => rfl)))
      (pss_cons (ps_if (pt_cmpR op_in_kd (pv 1) (pe_glob rfl T.c_FORMS T.r_FORMS) (by with_unfolding_all rfl)) (pss_one (ps_ret (pe_call (ok_filled T) (hr.mono (by decide)) rfl T.m_filled T.F_filled.kp T.b_filled .nil pass0 (pa_cons (pv 1) (pa_cons (pe_slice sl_list (pv 0) (po_some pe_int) po_none) (pa_cons (pe_ix ix_kd (pe_glob rfl T.c_FORMS T.r_FORMS) (pv 1) (fun _ _ => rfl)) pa_nil)))))) pss_nil)
      (pss_cons (ps_if (PW.pt (pw_or (pt_cmpR oi_lt (pe_callB call_len_seq rfl T.z_len PySem.boot_len (pa_cons (pv 0) pa_nil)) pe_int (nomark _)) (pw_or1 (pt_cmpR op_ne (pe_ix ix_list (pv 0) pe_int (fun _ _ => rfl)) pe_str (nomark _))))) (pss_one (ps_ret pe_non)) pss_nil)
      (pss_cons (ps_set (i := 2) sc_form_of.nd rfl (Or.inl rfl) (pe_slice sl_list (pv 0) (po_some pe_int) po_none))
      (pss_cons (ps_if (pt_cmpR op_eq (pe_callB call_len_seq rfl T.z_len PySem.boot_len (pa_cons (pv 2) pa_nil)) pe_int (nomark _)) (pss_one (ps_set (i := 2) sc_form_of.nd rfl (Or.inl rfl) (pe_op op_catS (pv 2) (pe_lst (pa_cons pe_str (pa_cons pe_str pa_nil)))))) pss_nil)
      (pss_one (ps_ret (pe_call (ok_filled T) (hr.mono (by decide)) rfl T.m_filled T.F_filled.kp T.b_filled .nil pass0 (pa_cons pe_str (pa_cons (pe_op op_catS (pe_lst (pa_cons (pv 1) pa_nil)) (pv 2)) (pa_cons (pe_glob rfl T.c_SET_FORM T.r_SET_FORM) pa_nil))))))))))), ?_⟩
  cases ws with
  | nil => exact absurd rfl hne
  | cons h r =>
  have hz : (300000 : Nat) ≤ sizeLine := by decide
  have hwr : ∀ w ∈ r, w.length ≤ 100000 := fun w hw' => hw w (List.mem_cons_of_mem _ hw')
  have hnr : r.length + 1 ≤ 100000 := by simpa using hn
  have e1 : cutV ((h :: r).map V.str) (some 1) none = r.map V.str := cutV_drop _ 1
  have e2 : cutV ((h :: r).map V.str) (some 2) none = r.tail.map V.str := by
    refine (cutV_drop _ 2).trans ?_
    cases r <;> simp
  refine ⟨_, rfl, l, _, 0, .str h, rfl, rfl, hl, atI_nat (j := 0) rfl, ?_⟩
  rcases kinds_at T h with ⟨ek, ev⟩ | ⟨ks, t, ek, ev, ht⟩
  rotate_left
  · rw [formV_kw ek] at k
    refine ⟨_, rfl, a.FORMS, formsAt a, .inr h, rfl, T.d_FORMS, rfl, _, rfl, ?_⟩
    rw [ev]
    refine iteT ?_
    refine ⟨_, rfl, _, rfl, _, rfl, l, _, rfl, hl, fun p hp => ?_⟩
    rw [e1]
    have hs := Same.new hp (.lst (r.map V.str))
    refine ⟨_, rfl, a.FORMS, formsAt a, .inr h, _, rfl, T.d_FORMS, rfl, ev, ?_⟩
    exact ⟨h, p, t, r, ks, rfl, .inl (.inl upd_same), ht _, hwr, by omega, k.mono hs⟩
  rw [formV_set ek] at k
  refine ⟨_, rfl, a.FORMS, formsAt a, .inr h, rfl, T.d_FORMS, rfl, _, rfl, ?_⟩
  rw [ev]
  refine iteF ?_
  refine ⟨_, rfl, l, _, rfl, .inl hl, _, _, rfl, rfl, _, rfl, ?_⟩
  rw [List.length_map]
  refine ite2 (fun c => ?_) (fun c => ?_)
  · have c' : (h :: r).length < 3 := by have := of_decide_eq_true c; omega
    rw [if_pos c'] at k
    exact iteT (k H (Same.refl H))
  have c' : ¬ (h :: r).length < 3 := by have := of_decide_eq_false (Bool.eq_false_iff.mpr c); omega
  rw [if_neg c'] at k
  cases r with
  | nil => simp at c'
  | cons g right =>
  refine ⟨_, rfl, l, _, 1, .str g, rfl, rfl, hl, atI_nat (j := 1) rfl, rfl, _, rfl, ?_⟩
  rw [str_dec]
  refine ite2 (fun c => ?_) (fun c => ?_)
  · have c2 : ¬ g = "=" := by simpa using c
    rw [if_neg (show ¬ (g :: right).head? = some ("=" : Str) from fun z => c2 (Option.some.inj z))] at k
    exact k H (Same.refl H)
  have c2 : g = "=" := by simpa using c
  subst c2
  rw [if_pos (show ("=" :: right : List Str).head? = some ("=" : Str) from rfl)] at k
  refine ⟨_, rfl, _, rfl, l, _, rfl, hl, fun p hp => ?_⟩
  rw [e2]
  have hs := Same.new hp (.lst ((("=" : Str) :: right).tail.map V.str))
  have e3 : ("=" :: right : List Str).tail = right := rfl
  rw [e3] at hs k ⊢
  have hlr : right.length + 2 ≤ 100000 := by simpa using hnr
  have hwr2 : ∀ w ∈ right, w.length ≤ 100000 := fun w hw' => hwr w (List.mem_cons_of_mem _ hw')
  have hh : h.length ≤ 100000 := hw h List.mem_cons_self
  refine ⟨_, rfl, p, _, rfl, .inl (.inl (.inl upd_same)), rfl, _, rfl, ?_⟩
  rw [List.length_map]
  refine join2c (P := fun (q : Addr) (H2 : Hp) => ∃ right2 : List Str, Same H H2 ∧ H2 q = some (.lst (right2.map V.str)) ∧ right2.length ≤ 100002 ∧ (∀ w ∈ right2, w.length ≤ 100000) ∧ ToldF H Q (filledV "set" (h :: right2) setKinds)) (w := p) (z := upd H p (.lst (right.map V.str))) (fun c => ?_) ?_ (fun c go => ?_)
  · refine ⟨right, hs, upd_same, by omega, hwr2, ?_⟩
    have c3 : ¬ right.length = 1 := by
      intro e
      rw [e] at c
      exact c (by decide)
    unfold setWords at k
    rw [if_neg c3] at k
    exact k
  · rintro q H2 ⟨right2, hs2, hq, hl2, hw2, k2⟩
    refine ⟨_, rfl, (by show 1 ≤ sizeLine; decide), fun b hb => ?_⟩
    refine ⟨_, rfl, b, q, [.str h], right2.map V.str, rfl, rfl, .inl (.inl upd_same), .inl (.inl ((Same.new hb _) _ _ hq)), ?_, fun d hd => ?_⟩
    · rw [List.length_map]
      show 1 + _ ≤ _
      omega
    · refine ⟨"set", d, a.SET_FORM, h :: right2, setKinds, rfl, .inl (.inl upd_same), T.t_SET_FORM _, ?_, by simp only [List.length_cons]; omega, k2.mono (hs2.trans ((Same.new hb _).trans (Same.new hd _)))⟩
      intro w hw'
      rcases List.mem_cons.mp hw' with rfl | h'
      · exact hh
      · exact hw2 w h'
  · have c3 : right.length = 1 := by
      have : V.int (right.length : Int) = V.int 1 := of_decide_eq_true c
      injection this with e
      omega
    refine ⟨_, rfl, (by show 2 ≤ sizeLine; decide), fun b hb => ?_⟩
    refine ⟨p, b, _, _, rfl, rfl, .inl (.inl ((Same.new hb _) _ _ upd_same)), .inl (.inl upd_same), ?_, fun d hd => ?_⟩
    · rw [List.length_map]
      show _ + 2 ≤ _
      omega
    refine go d _ ⟨right ++ (["+", "0"] : List Str), hs.trans ((Same.new hb _).trans (Same.new hd _)), ?_, ?_, ?_, ?_⟩
    · rw [List.map_append]
      exact upd_same
    · rw [List.length_append]
      show _ + 2 ≤ _
      omega
    · intro w hw'
      rcases List.mem_append.mp hw' with h' | h'
      · exact hwr2 w h'
      · have : ∀ w ∈ (["+", "0"] : List Str), w.length ≤ 100000 := by decide
        exact this w h'
    · unfold setWords at k
      rw [if_pos c3] at k
      exact k
theorem mixed_bits {k : Int} (h0 : 0 ≤ k) (h1 : k ≤ 100) : Builtin.Int.intBits (91343852333181432387730302044767688731 + 7919000003 * k * k) ≤ 2 ^ 20 := by
  have h2 : 0 ≤ k * k := Int.mul_nonneg h0 h0
  have h3 : k * k ≤ 100 * 100 := Int.mul_le_mul h1 h1 h0 (by decide)
  rw [Int.mul_assoc]
  generalize k * k = y at h2 h3
  exact Nat.le_trans ((PySem.intBits_le_iff (m := 128)).mpr (by omega)) (by decide)
theorem ok__law_mixed (T : Tx P w K mg a) : FnOk P w K mg base CX0 1 a._law_mixed a.fd__law_mixed ["_law_cell", "_law_k"] sp__law_mixed := by
  refine T.F__law_mixed.ok sc__law_mixed (fun vs H Q E h => ?_) (fun cdv A outer s H vs Q E hr h => ?_)
  · obtain ⟨_, _, rfl, _⟩ := h
    rfl
  obtain ⟨c, k, rfl, hc, h0, h1, q⟩ := h
  refine ⟨_, (pss_cons (ps_set (i := 2) sc__law_mixed.nd rfl (Or.inl rfl) (pe_op oi_add pe_int (pe_op oi_mul (pe_op oi_mul pe_int (pv 1)) (pv 1))))
      (pss_one (ps_ret (pe_op oi_mod (pe_op oi_mul (pv 0) (pv 2)) pe_int)))), ?_⟩
  refine ⟨_, rfl, _, _, rfl, rfl, IntMulOk.of_left (intBits_le_64 (by decide) (by decide)), _, rfl, _, _, rfl, rfl, IntMulOk.of_right (intBits_le_64 (by omega) (by omega)), _, _, rfl, rfl, ?_⟩
  exact ⟨_, rfl, _, rfl, _, _, rfl, rfl, IntMulOk.of_bits hc (mixed_bits h0 h1), _, _, rfl, rfl, (by show (0 : Int) < 170141183460469231731687303715884105727; decide), q⟩
theorem ok__law_keywords (T : Tx P w K mg a) : FnOk P w K mg base CX0 1 a._law_keywords a.fd__law_keywords [] sp__law_keywords := by
  refine T.F__law_keywords.ok sc__law_keywords (fun vs H Q E h => ?_) (fun cdv A outer s H vs Q E hr h => ?_)
  · obtain ⟨rfl, _⟩ := h
    rfl
  obtain ⟨rfl, q⟩ := h
  refine ⟨_, (pss_one (ps_ret (pe_lst (pa_const rfl)))), ?_⟩
  exact ⟨(by show 10 ≤ sizeLine; decide), fun p hp => q p _ (Same.new hp _) upd_same⟩
theorem ok__law_letters (T : Tx P w K mg a) : FnOk P w K mg base CX0 1 a._law_letters a.fd__law_letters ["_law_n", "_law_size"] sp__law_letters := by
  refine T.F__law_letters.ok sc__law_letters (fun vs H Q E h => ?_) (fun cdv A outer s H vs Q E hr h => ?_)
  · obtain ⟨_, _, rfl, _⟩ := h
    rfl
  obtain ⟨n, k, rfl, h0, h1, q⟩ := h
  refine ⟨_, (pss_cons (ps_set (i := 2) sc__law_letters.nd rfl (Or.inl rfl) pe_str)
      (pss_cons (ps_for PassesOwn.never rfl (pi_range1 rfl T.z_range (pa_cons (pv 1) pa_nil)) (pg_name (i := 3) sc__law_letters.nd rfl (Or.inl rfl))
      (pss_cons (ps_set (i := 2) sc__law_letters.nd rfl (Or.inl rfl) (pe_op op_add_str (pv 2) (pe_ix ix_str pe_str (pe_op oi_mod (pv 0) pe_int) (fun _ _ => rfl))))
      (pss_one (ps_set (i := 0) sc__law_letters.nd rfl (Or.inl rfl) (pe_op oi_fdiv (pv 0) pe_int)))))
      (pss_one (ps_ret (pv 2))))), ?_⟩
  refine ⟨_, rfl, k, rfl, by omega, by omega, for_range (fun i σ H2 => H2 = H ∧ ∃ (n' : Int) (z : Str) (v : Option V), σ = [some (.int n'), some (.int k), some (.str z), v] ∧ z.length = i ∧ isMade z letters = true) ⟨rfl, n, "", none, rfl, rfl, rfl⟩ ?_ ?_⟩
  · rintro i σ H2 hi ⟨rfl, n', z, v, rfl, hz, hm⟩
    obtain ⟨c, hc, hcm⟩ := atI_ex (xs := letters.cps.toList) (i := n' % 26) (Int.emod_nonneg _ (by decide)) (by
      have e : letters.cps.toList.length = 26 := by decide +kernel
      rw [e]
      exact Int.emod_lt_of_pos _ (by decide))
    refine ⟨_, rfl, _, rfl, _, _, rfl, rfl, (by show (0 : Int) < 26; decide), letters, _, c, rfl, rfl, (by decide +kernel), hc, _, _, rfl, rfl, ?_, ?_⟩
    · rw [hz]
      exact len_le_line (m := 2000) (by show i + 1 ≤ 2000; omega)
    · refine ⟨_, rfl, _, _, rfl, rfl, ⟨by decide, by decide⟩, rfl, _, _, _, rfl, ?_, ?_⟩
      · rw [str_len_append, hz]
        rfl
      · refine made_app hm ?_
        show (decide (c ∈ letters.cps.toList) && true) = true
        rw [decide_eq_true hcm]
        rfl
  · rintro σ H2 ⟨rfl, n', z, v, rfl, hz, hm⟩
    exact ⟨_, rfl, q z hz hm⟩
def someN : List Str := ["x", "xx", "xy", "yx", "ends", "iff", "a", "z", "aaaaaaaa", "aaaaaaab", "baaaaaaa", "aaaabaaa"]
theorem someN_pre : ∀ w ∈ someN, isMade w letters = true ∧ 1 ≤ w.length ∧ w.length ≤ 8 := by decide +kernel
theorem ok__law_name_by (T : Tx P w K mg a) : FnOk P w K mg base CX0 2 a._law_name_by a.fd__law_name_by ["_law_n"] sp__law_name_by := by
  refine T.F__law_name_by.ok sc__law_name_by (fun vs H Q E h => ?_) (fun cdv A outer s H vs Q E hr h => ?_)
  · obtain ⟨_, rfl, _⟩ := h
    rfl
  obtain ⟨n, rfl, q⟩ := h
  refine ⟨_, (pss_cons (ps_set (i := 1) sc__law_name_by.nd rfl (Or.inl rfl) (pe_op oi_add pe_int (pe_op oi_mod (pv 0) pe_int)))
      (pss_cons (ps_set (i := 2) sc__law_name_by.nd rfl (Or.inl rfl) (pe_op oi_mod (pe_op oi_fdiv (pv 0) pe_int) pe_int))
      (pss_cons (ps_set (i := 3) sc__law_name_by.nd rfl (Or.inl rfl) (pe_op oi_fdiv (pv 0) pe_int))
      (pss_cons (ps_set (i := 4) sc__law_name_by.nd rfl (Or.inl rfl) (pe_call (ok__law_letters T) (hr.mono (by decide)) rfl T.m__law_letters T.F__law_letters.kp T.b__law_letters .nil pass0 (pa_cons (pv 3) (pa_cons (pv 1) pa_nil))))
      (pss_cons (ps_if (pt_cmpR op_eq (pv 2) pe_int (nomark _)) (pss_cons (ps_set (i := 5) sc__law_name_by.nd rfl (Or.inl rfl) (pe_lst (pa_const rfl)))
      (pss_one (ps_set (i := 4) sc__law_name_by.nd rfl (Or.inl rfl) (pe_ix ix_list (pv 5) (pe_op oi_mod (pv 3) pe_int) (fun _ _ => rfl))))) pss_nil)
      (pss_cons (ps_if (pt_cmpR op_eq (pv 2) pe_int (nomark _)) (pss_cons (ps_set (i := 6) sc__law_name_by.nd rfl (Or.inl rfl) (pe_op oi_mod (pe_op oi_fdiv (pv 3) pe_int) (pv 1)))
      (pss_one (ps_set (i := 4) sc__law_name_by.nd rfl (Or.inl rfl) (pe_op op_add_str (pe_op op_add_str (pe_op op_mul_str pe_str (pv 6)) (pe_call (ok__law_letters T) (hr.mono (by decide)) rfl T.m__law_letters T.F__law_letters.kp T.b__law_letters .nil pass0 (pa_cons (pv 3) (pa_cons pe_int pa_nil)))) (pe_op op_mul_str pe_str (pe_op oi_sub (pe_op oi_sub (pv 1) pe_int) (pv 6))))))) pss_nil)
      (pss_cons (ps_if (pt_cmpR op_in_seq (pv 4) (pe_call0 (ok__law_keywords T) (hr.mono (by decide)) rfl T.m__law_keywords T.F__law_keywords.kp T.b__law_keywords .nil pass0) (by with_unfolding_all rfl)) (pss_one (ps_set (i := 4) sc__law_name_by.nd rfl (Or.inl rfl) (pe_op op_add_str (pv 4) pe_str))) pss_nil)
      (pss_one (ps_ret (pv 4)))))))))), ?_⟩
  refine ⟨_, rfl, _, _, rfl, rfl, (by decide), _, _, rfl, rfl, ?_⟩
  refine ⟨_, rfl, _, _, rfl, rfl, ⟨by decide, by decide⟩, _, _, rfl, rfl, (by decide), ?_⟩
  refine ⟨_, rfl, _, _, rfl, rfl, ⟨by decide, by decide⟩, ?_⟩
  have hs0 : 0 ≤ n % 8 := Int.emod_nonneg _ (by decide)
  have hs1 : n % 8 < 8 := Int.emod_lt_of_pos _ (by decide)
  generalize hsz : (1 + n % 8 : Int) = size
  generalize n / 8 % 4 = way
  generalize n / 32 = rest
  refine ⟨_, rfl, _, rfl, rest, size, rfl, by omega, by omega, fun word hw1 hw2 => ?_⟩
  refine ⟨_, rfl, rfl, _, rfl, ?_⟩
  refine join2c (P := fun (σ : St) (H2 : Hp) => Same H H2 ∧ ∃ (w2 : Str) (o5 o6 : Option V), σ = [some (.int n), some (.int size), some (.int way), some (.int rest), some (.str w2), o5, o6] ∧ preName w2) (fun c => ⟨Same.refl H, word, none, none, rfl, hw2, by omega, by omega⟩) ?_ (fun c go => ?_)
  rotate_left
  · refine ⟨(by show 12 ≤ sizeLine; decide), fun p hp => ?_⟩
    obtain ⟨v, hv, hm⟩ := atI_ex (xs := someN.map V.str) (i := rest % 12) (Int.emod_nonneg _ (by decide)) (by show rest % 12 < 12; exact Int.emod_lt_of_pos _ (by decide))
    obtain ⟨w2, hw2, rfl⟩ := List.mem_map.mp hm
    refine ⟨_, rfl, _, rfl, _, _, rfl, rfl, (by decide), p, someN.map V.str, _, _, rfl, rfl, .inl (.inl upd_same), hv, ?_⟩
    exact go _ _ ⟨Same.new hp _, w2, _, none, rfl, someN_pre w2 hw2⟩
  rintro σ H2 ⟨hs2, w2, o5, o6, rfl, hp2⟩
  clear hw1 hw2 word
  refine ⟨_, rfl, rfl, _, rfl, ?_⟩
  refine join2c (P := fun (σ : St) (H3 : Hp) => Same H H3 ∧ ∃ (w3 : Str) (o5 o6 : Option V), σ = [some (.int n), some (.int size), some (.int way), some (.int rest), some (.str w3), o5, o6] ∧ preName w3) (fun c => ⟨hs2, w2, o5, o6, rfl, hp2⟩) ?_ (fun c go => ?_)
  rotate_left
  · have a1 := Int.emod_nonneg (rest / 26) (show size ≠ 0 by omega)
    have a2 := Int.emod_lt_of_pos (rest / 26) (show 0 < size by omega)
    refine ⟨_, rfl, _, _, rfl, rfl, ⟨by decide, by decide⟩, _, rfl, _, _, rfl, rfl, (show 0 < size by omega), ?_⟩
    generalize rest / 26 % size = at1 at a1 a2
    have lm : ∀ k : Int, 0 ≤ k → k ≤ 8 → (Txt.mul ("m" : Str) k).length = k.toNat := fun k h0 h1 => by
      rw [mul_len _ h0]
      show 1 * _ = _
      omega
    refine ⟨_, rfl, _, _, rfl, rfl, mul_ok (by decide) a1 (by omega), _, rfl, rest, 1, rfl, by decide, by decide, fun z hz1 hz2 => ?_⟩
    have hz3 : z.length = 1 := hz1
    refine ⟨_, _, rfl, rfl, (by rw [lm _ a1 (by omega), hz3]; exact len_le_line (m := 100) (by omega)), ?_⟩
    refine ⟨_, rfl, _, _, rfl, rfl, _, rfl, _, _, rfl, rfl, _, _, rfl, rfl, mul_ok (by decide) (by omega) (by omega), ?_⟩
    have hlen : (Txt.mul ("m" : Str) at1 ++ z).length = at1.toNat + 1 := by rw [str_len_append, lm _ a1 (by omega), hz3]
    have hlen2 : (Txt.mul ("m" : Str) at1 ++ z ++ Txt.mul ("m" : Str) (size - 1 - at1)).length = at1.toNat + 1 + (size - 1 - at1).toNat := by rw [str_len_append, hlen, lm _ (by omega) (by omega)]
    refine ⟨_, _, rfl, rfl, (by rw [hlen, lm _ (by omega) (by omega)]; exact len_le_line (m := 100) (by omega)), ?_⟩
    refine go _ _ ⟨hs2, _, _, _, rfl, ?_, ?_, ?_⟩
    · exact made_app (made_app (made_mul (c := 109) (by decide +kernel)) hz2) (made_mul (c := 109) (by decide +kernel))
    · rw [hlen2]; omega
    · rw [hlen2]; omega
  rintro σ H3 ⟨hs3, w3, o5, o6, rfl, hp3⟩
  refine ⟨_, rfl, rfl, fun p H4 hs4 hp4 => ?_⟩
  refine ⟨p, kwV, rfl, .inl (.inl (.inl hp4)), rfl, rfl, _, rfl, ?_⟩
  refine ite2 (fun c => ?_) (fun c => ?_)
  · have c' : inV (.str w3) kwV = true := c
    exact ⟨_, rfl, _, _, rfl, rfl, (by have := kw_len c'; exact len_le_line (m := 100) (by show _ + 1 ≤ _; omega)), _, rfl, q _ _ (name_kw c') (hs3.trans hs4)⟩
  · have c' : ¬ inV (.str w3) kwV = true := c
    exact ⟨_, rfl, q _ _ (name_mk hp3 c') (hs3.trans hs4)⟩
theorem ok_FlowError___init__ (T : Tx P w K mg a) : FnOk P w K mg base CX0 1 a.FlowError___init__ a.fd_FlowError___init__ ["self", "words", "place"] (sp_FlowError___init__ K a) := by
  refine T.F_FlowError___init__.ok sc_FlowError___init__ (fun vs H Q E h => ?_) (fun cdv A outer s H vs Q E hr h => ?_)
  · obtain ⟨_, _, _, _, rfl, _⟩ := h
    rfl
  obtain ⟨e, C, z, y, rfl, he, hC, k⟩ := h
  refine ⟨_, (pss_cons (ps_expr (pe_xinit rfl T.z_ValueError (pa_cons (pv 0) (pa_cons (pv 1) pa_nil))))
      (pss_one (ps_xfld (pv 0) (pv 2) rfl))), ?_⟩
  refine ⟨_, rfl, _, rfl, e, C, _, z, rfl, he, hC, ?_⟩
  exact ⟨_, rfl, _, rfl, e, C, _, rfl, he, hC, k⟩
theorem ok_row_of (T : Tx P w K mg a) : FnOk P w K mg base (CXX P w) 7 a.row_of a.fd_row_of ["row", "place"] (sp_row_of a) := by
  refine T.F_row_of.okX sc_row_of (fun vs H Q E h => ?_) (fun cdv A outer s H vs Q E hr h => ?_)
  · obtain ⟨_, _, rfl, _⟩ := h
    rfl
  obtain ⟨x, i, rfl, hx, hi, hd⟩ := h
  refine ⟨_, (pss_cons (ps_set (i := 2) sc_row_of.nd rfl (Or.inl rfl) (pe_call (ok_words_of T) (hr.mono (by decide)) rfl T.m_words_of T.F_words_of.kp T.b_words_of .nil pass0 (pa_cons (pv 0) pa_nil)))
      (pss_cons (ps_if (pt_cmpR op_eq (pe_callB call_len_seq rfl T.z_len PySem.boot_len (pa_cons (pv 2) pa_nil)) pe_int (nomark _)) (pss_one (ps_ret pe_non)) pss_nil)
      (pss_cons (ps_set (i := 3) sc_row_of.nd rfl (Or.inl rfl) (pe_call (ok_form_of T) (hr.mono (by decide)) rfl T.m_form_of T.F_form_of.kp T.b_form_of .nil pass0 (pa_cons (pv 2) pa_nil)))
      (pss_cons (ps_if (pt_cmpR op_isN (pv 3) pe_non (nomark _)) (pss_one (ps_raise T.x_BadRow (ok_FlowError___init__ T) (hr.mono (by decide)) T.b_FlowError___init__ rfl T.m_BadRow rfl raisesX (pa_cons (pe_fstr pe_str (pv 1) pe_str) (pa_cons (pv 1) pa_nil)))) pss_nil)
      (pss_one (ps_ret (pv 3))))))), ?_⟩
  have sz := words_sizes x
  refine ⟨_, rfl, x, rfl, hx, fun H1 p hs hp => ?_⟩
  refine ⟨_, rfl, p, _, rfl, .inl (.inl (.inl hp)), rfl, _, rfl, ?_⟩
  rcases hd with ⟨e, k⟩ | ⟨e, k⟩
  · rw [e]
    exact iteT (k H1 hs)
  · rw [List.length_map]
    refine ite2 (fun c => ?_) (fun c => ?_)
    · have : V.int ((wordsIn x).length : Int) = V.int 0 := of_decide_eq_true c
      injection this with z
      exact absurd (List.length_eq_zero_iff.mp (by omega)) e
    · refine ⟨_, rfl, p, wordsIn x, rfl, .inl (.inl hp), e, fun w hw => Nat.le_trans (sz.2 w hw) (by omega), by omega, ?_⟩
      rcases k with ⟨xs, ef, k⟩ | ⟨ef, k⟩
      · rw [ef]
        refine fun H2 d hs2 hd => ?_
        exact ⟨_, rfl, rfl, _, rfl, iteF ⟨_, rfl, k H2 d (hs.trans hs2) hd⟩⟩
      · rw [ef]
        refine fun H2 hs2 => ?_
        refine ⟨_, rfl, rfl, _, rfl, iteT ?_⟩
        refine ⟨_, rfl, i, rfl, Nat.lt_trans hi (by decide), fun z => ⟨_, rfl, by show 2 ≤ sizeLine; decide, fun b hb => ?_⟩⟩
        refine ⟨b, a.C_BadRow, _, _, rfl, upd_same, T.x_BadRow, fun dx hdx => ⟨rfl, dx, upd_same, ?_⟩⟩
        have nb : dx ≠ b := fun z => by rw [z, upd_same] at hdx; cases hdx
        have nd : H2 dx = none := by rw [upd_ne nb] at hdx; exact hdx
        refine k _ dx (fun c o hc => ?_) (by rw [del_ne nb, upd_ne nb]; exact upd_same)
        have h2 := hs2 _ _ (hs _ _ hc)
        have n1 : c ≠ b := fun z => by rw [z, hb] at h2; cases h2
        have n2 : c ≠ dx := fun z => by rw [z, nd] at h2; cases h2
        rw [del_ne n1, upd_ne n1, upd_ne n2, upd_ne n1]
        exact h2
theorem ok__law_cell_at (T : Tx P w K mg a) : FnOk P w K mg base CX0 1 a._law_cell_at a.fd__law_cell_at ["_law_script", "_law_k"] (sp__law_cell_at K) := by
  refine T.F__law_cell_at.ok sc__law_cell_at (fun vs H Q E h => ?_) (fun cdv A outer s H vs Q E hr h => ?_)
  · obtain ⟨_, _, _, rfl, _⟩ := h
    rfl
  obtain ⟨l, ns, k, rfl, hl, h0, hb, q⟩ := h
  refine ⟨_, (pss_cons (ps_if (pt_cmpR oi_lt (pv 1) (pe_callB call_len_seq rfl T.z_len PySem.boot_len (pa_cons (pv 0) pa_nil)) (nomark _)) (pss_one (ps_ret (pe_ix ix_list (pv 0) (pv 1) (fun _ _ => rfl)))) pss_nil)
      (pss_one (ps_ret pe_int))), ?_⟩
  refine ⟨_, rfl, _, rfl, l, _, rfl, .inl hl, _, _, rfl, rfl, _, rfl, ?_⟩
  rw [List.length_map]
  refine ite2 (fun c => ?_) (fun c => ?_)
  · have c' : k < (ns.length : Int) := of_decide_eq_true c
    obtain ⟨v, hv, hm⟩ := atI_ex (xs := ns.map V.int) h0 (by rw [List.length_map]; exact c')
    obtain ⟨n, hn, rfl⟩ := List.mem_map.mp hm
    exact ⟨_, rfl, _, rfl, l, _, _, _, rfl, rfl, hl, hv, q n (hb n hn)⟩
  · exact q 0 (by decide)
theorem p30' : (10 : Int) ^ (30 : Int).toNat = 1000000000000000000000000000000 := by decide +kernel
theorem p29' : (10 : Int) ^ (29 : Int).toNat = 100000000000000000000000000000 := by decide +kernel
theorem p18' : (10 : Int) ^ (18 : Int).toNat = 1000000000000000000 := by decide +kernel
theorem ok__law_value_by (T : Tx P w K mg a) : FnOk P w K mg base CX0 3 a._law_value_by a.fd__law_value_by ["_law_n"] sp__law_value_by := by
  refine T.F__law_value_by.ok sc__law_value_by (fun vs H Q E h => ?_) (fun cdv A outer s H vs Q E hr h => ?_)
  · obtain ⟨_, rfl, _⟩ := h
    rfl
  obtain ⟨n, rfl, q⟩ := h
  refine ⟨_, (pss_cons (ps_set (i := 1) sc__law_value_by.nd rfl (Or.inl rfl) (pe_op oi_mod (pv 0) pe_int))
      (pss_cons (ps_if (pt_cmpR oi_lt (pv 1) pe_int (nomark _)) (pss_one (ps_ret (pe_call (ok__law_name_by T) (hr.mono (by decide)) rfl T.m__law_name_by T.F__law_name_by.kp T.b__law_name_by .nil pass0 (pa_cons (pe_op oi_fdiv (pv 0) pe_int) pa_nil)))) pss_nil)
      (pss_cons (ps_if (pt_cmpR op_eq (pv 1) pe_int (nomark _)) (pss_cons (ps_set (i := 2) sc__law_value_by.nd rfl (Or.inl rfl) (pe_lst (pa_cons pe_int (pa_cons pe_int (pa_cons pe_int (pa_cons pe_int (pa_cons pe_int (pa_cons pe_int (pa_cons pe_int (pa_cons pe_int (pa_cons (pe_op oi_pow pe_int pe_int) (pa_cons (pe_op oi_sub (pe_op oi_pow pe_int pe_int) pe_int) (pa_cons (pe_op oi_sub (pe_op oi_pow pe_int pe_int) pe_int) (pa_cons (pe_op oi_pow pe_int pe_int) pa_nil))))))))))))))
      (pss_one (ps_ret (pe_ix ix_list (pv 2) (pe_op oi_mod (pe_op oi_fdiv (pv 0) pe_int) pe_int) (fun _ _ => rfl))))) pss_nil)
      (pss_one (ps_ret (pe_op oi_mod (pe_op oi_fdiv (pv 0) pe_int) (pe_op oi_pow pe_int pe_int))))))), ?_⟩
  refine ⟨_, rfl, _, _, rfl, rfl, (by decide), ?_⟩
  refine ⟨_, rfl, _, _, rfl, rfl, _, rfl, ?_⟩
  refine ite2 (fun c => ?_) (fun c => ?_)
  · exact ⟨_, rfl, _, _, rfl, rfl, ⟨by decide, by decide⟩, _, rfl, fun z H1 hz hs => q _ _ (.inl ⟨z, rfl, hz⟩) hs⟩
  refine ⟨_, rfl, rfl, _, rfl, ?_⟩
  have pw : ∀ k : Int, 0 ≤ k → k ≤ 100 → (0 ≤ k ∧ k ≤ 1000000 ∧ (10 : Int).natAbs < 2 ^ 64) := fun k h0 h1 => ⟨h0, by omega, by decide⟩
  refine ite2 (fun c => ?_) (fun c => ?_)
  · refine ⟨_, _, rfl, rfl, pw 29 (by decide) (by decide), _, _, rfl, rfl, pw 30 (by decide) (by decide), _, _, rfl, rfl, _, _, rfl, rfl, pw 30 (by decide) (by decide), _, _, rfl, rfl, _, _, rfl, rfl, pw 18 (by decide) (by decide), (by show 12 ≤ sizeLine; decide), fun p hp => ?_⟩
    refine ⟨_, rfl, _, rfl, _, _, rfl, rfl, ⟨by decide, by decide⟩, _, _, rfl, rfl, (by decide), ?_⟩
    obtain ⟨v, hv, hm⟩ := atI_ex (xs := [V.int 0, .int 1, .int 2, .int 9, .int 10, .int 11, .int 99, .int 100, .int (10 ^ (29 : Int).toNat), .int (10 ^ (30 : Int).toNat - 1), .int (10 ^ (30 : Int).toNat - 2), .int (10 ^ (18 : Int).toNat)]) (i := n / 4 % 12) (Int.emod_nonneg _ (by decide)) (by show n / 4 % 12 < 12; exact Int.emod_lt_of_pos _ (by decide))
    refine ⟨p, _, _, v, rfl, rfl, .inl (.inl upd_same), hv, q v _ ?_ (Same.new hp _)⟩
    rw [p29', p30', p18'] at hm
    have all : ∀ i ∈ [(0 : Int), 1, 2, 9, 10, 11, 99, 100, 100000000000000000000000000000, 1000000000000000000000000000000 - 1, 1000000000000000000000000000000 - 2, 1000000000000000000], 0 ≤ i ∧ i < 10 ^ 30 := by decide
    have hm' : v ∈ [(0 : Int), 1, 2, 9, 10, 11, 99, 100, 100000000000000000000000000000, 1000000000000000000000000000000 - 1, 1000000000000000000000000000000 - 2, 1000000000000000000].map V.int := hm
    obtain ⟨i, hi, rfl⟩ := List.mem_map.mp hm'
    exact .inr ⟨i, rfl, all i hi⟩
  · refine ⟨_, rfl, _, _, rfl, rfl, ⟨by decide, by decide⟩, _, _, rfl, rfl, pw 30 (by decide) (by decide), _, _, rfl, rfl, (by rw [p30']; decide), ?_⟩
    rw [p30']
    exact q _ _ (.inr ⟨_, rfl, Int.emod_nonneg _ (by decide), by have := Int.emod_lt_of_pos (n / 4) (show (0 : Int) < 1000000000000000000000000000000 by decide); omega⟩) (Same.refl H)
theorem ok__law_from (T : Tx P w K mg a) : FnOk P w K mg base CX0 1 a._law_from a.fd__law_from ["_law_n", "_law_least", "_law_greatest"] sp__law_from := by
  refine T.F__law_from.ok sc__law_from (fun vs H Q E h => ?_) (fun cdv A outer s H vs Q E hr h => ?_)
  · obtain ⟨_, _, _, rfl, _⟩ := h
    rfl
  obtain ⟨n, lo, hi, rfl, hle, q⟩ := h
  refine ⟨_, (pss_cons (ps_if (pt_cmpR op_eq (pe_op oi_mod (pv 0) pe_int) pe_int (nomark _)) (pss_one (ps_ret (pe_ix ix_list (pe_lst (pa_cons (pv 1) (pa_cons (pv 2) pa_nil))) (pe_op oi_mod (pe_op oi_fdiv (pv 0) pe_int) pe_int) (fun _ _ => rfl)))) pss_nil)
      (pss_one (ps_ret (pe_op oi_add (pv 1) (pe_op oi_mod (pe_op oi_fdiv (pv 0) pe_int) (pe_op oi_add (pe_op oi_sub (pv 2) (pv 1)) pe_int)))))), ?_⟩
  refine ⟨_, rfl, _, _, rfl, rfl, (by decide), rfl, _, rfl, ?_⟩
  refine ite2 (fun c => ?_) (fun c => ?_)
  · refine ⟨_, rfl, _, rfl, (by show 2 ≤ sizeLine; decide), fun p hp => ?_⟩
    obtain ⟨v, hv, hm⟩ := atI_ex (xs := [V.int lo, .int hi]) (i := n / 3 % 2) (Int.emod_nonneg _ (by decide)) (by show n / 3 % 2 < 2; exact Int.emod_lt_of_pos _ (by decide))
    refine ⟨_, rfl, _, _, rfl, rfl, ⟨by decide, by decide⟩, _, _, rfl, rfl, (by decide), p, _, _, v, rfl, rfl, .inl (.inl upd_same), hv, ?_⟩
    simp only [List.mem_cons, List.not_mem_nil, or_false] at hm
    rcases hm with rfl | rfl
    · exact q _ _ (Int.le_refl _) hle (Same.new hp _)
    · exact q _ _ hle (Int.le_refl _) (Same.new hp _)
  · have h1 := Int.emod_nonneg (n / 3) (show hi - lo + 1 ≠ 0 by omega)
    have h2 := Int.emod_lt_of_pos (n / 3) (show 0 < hi - lo + 1 by omega)
    exact ⟨_, rfl, _, rfl, _, _, rfl, rfl, ⟨by decide, by decide⟩, _, rfl, _, rfl, _, _, rfl, rfl, _, _, rfl, rfl, _, _, rfl, rfl, (show 0 < hi - lo + 1 by omega), _, _, rfl, rfl, q _ _ (by omega) (by omega) (Same.refl H)⟩
theorem str_any {v : V} (h : goodVal v) {R : VK} {H : Hp} (q : R (.str (valStr v)) H) : rStrAny [v] H R := by
  unfold rStrAny
  rcases h with ⟨w, rfl, hw⟩ | ⟨n, rfl, h0, h1⟩
  · exact .inl ⟨w, rfl, q⟩
  · refine .inr ⟨n, rfl, log_lt ?_, q⟩
    have e : (2 : Nat) ^ 100 ≤ 2 ^ 1000 := Nat.pow_le_pow_right (by decide) (by decide)
    omega
theorem good_kw {w : Str} (h : w ∈ kwS) : goodWord w := by
  have : ∀ w ∈ kwS, 1 ≤ w.length ∧ w.length ≤ 40 ∧ ∀ c ∈ w.cps.toList, 33 ≤ c ∧ c < 127 := by decide +kernel
  exact this w h
theorem all1 {α : Type} {p : α → Prop} {a : α} (h1 : p a) : ∀ x ∈ [a], p x := by simpa using h1
theorem all2 {α : Type} {p : α → Prop} {a b : α} (h1 : p a) (h2 : p b) : ∀ x ∈ [a, b], p x := by simpa using ⟨h1, h2⟩
theorem all3 {α : Type} {p : α → Prop} {a b c : α} (h1 : p a) (h2 : p b) (h3 : p c) : ∀ x ∈ [a, b, c], p x := by simpa using ⟨h1, h2, h3⟩
theorem all5 {α : Type} {p : α → Prop} {a b c d e : α} (h1 : p a) (h2 : p b) (h3 : p c) (h4 : p d) (h5 : p e) : ∀ x ∈ [a, b, c, d, e], p x := by simpa using ⟨h1, h2, h3, h4, h5⟩
theorem fW {x : Str} (h : goodWord x) : flatOne (.str x) := .inl ⟨_, rfl, good_ok h⟩
theorem fC {x : Str} (h : PyData.strOk x = true) : flatOne (.str x) := .inl ⟨_, rfl, h⟩
theorem fI {n : Int} : flatOne (.int n) := .inr ⟨_, rfl⟩
theorem ok__law_row_by (T : Tx P w K mg a) : FnOk P w K mg base CX0 4 a._law_row_by a.fd__law_row_by ["_law_way", "_law_n", "_law_one", "_law_two", "_law_three"] sp__law_row_by := by
  refine T.F__law_row_by.ok sc__law_row_by (fun vs H Q E h => ?_) (fun cdv A outer s H vs Q E hr h => ?_)
  · obtain ⟨_, _, _, _, _, rfl, _⟩ := h
    rfl
  obtain ⟨way, n, one, two, three, rfl, h0, k⟩ := h
  refine ⟨_, (pss_cons (ps_set (i := 5) sc__law_row_by.nd rfl (Or.inl rfl) (pe_call (ok__law_name_by T) (hr.mono (by decide)) rfl T.m__law_name_by T.F__law_name_by.kp T.b__law_name_by .nil pass0 (pa_cons (pv 2) pa_nil)))
      (pss_cons (ps_if (pt_cmpR op_eq (pv 0) pe_int (nomark _)) (pss_one (ps_ret (pe_tup (pa_cons (pe_lst pa_nil) (pa_cons pe_non pa_nil))))) pss_nil)
      (pss_cons (ps_if (pt_cmpR oi_lt (pv 0) pe_int (nomark _)) (pss_cons (ps_set (i := 6) sc__law_row_by.nd rfl (Or.inl rfl) (pe_ix ix_list (pe_lst (pa_const rfl)) (pe_op oi_sub (pv 0) pe_int) (fun _ _ => rfl)))
      (pss_one (ps_ret (pe_tup (pa_cons (pe_lst (pa_cons (pv 6) (pa_cons (pv 5) pa_nil))) (pa_cons (pe_tup (pa_cons (pv 6) (pa_cons (pv 5) pa_nil))) pa_nil)))))) pss_nil)
      (pss_cons (ps_if (pt_cmpR op_eq (pv 0) pe_int (nomark _)) (pss_cons (ps_set (i := 7) sc__law_row_by.nd rfl (Or.inl rfl) (pe_call (ok__law_from T) (hr.mono (by decide)) rfl T.m__law_from T.F__law_from.kp T.b__law_from .nil pass0 (pa_cons (pv 3) (pa_cons pe_int (pa_cons pe_int pa_nil)))))
      (pss_one (ps_ret (pe_tup (pa_cons (pe_lst (pa_cons pe_str (pa_cons (pv 5) (pa_cons (pe_callTy call_str_int rfl T.z_str PyProof.Rows.Boot.«str» (pa_cons (pv 7) pa_nil)) pa_nil)))) (pa_cons (pe_tup (pa_cons pe_str (pa_cons (pv 5) (pa_cons (pv 7) pa_nil)))) pa_nil)))))) pss_nil)
      (pss_cons (ps_if (pt_cmpR op_eq (pv 0) pe_int (nomark _)) (pss_cons (ps_set (i := 7) sc__law_row_by.nd rfl (Or.inl rfl) (pe_call (ok__law_from T) (hr.mono (by decide)) rfl T.m__law_from T.F__law_from.kp T.b__law_from .nil pass0 (pa_cons (pv 3) (pa_cons pe_int (pa_cons pe_int pa_nil)))))
      (pss_one (ps_ret (pe_tup (pa_cons (pe_lst (pa_cons pe_str (pa_cons (pe_callTy call_str_int rfl T.z_str PyProof.Rows.Boot.«str» (pa_cons (pv 7) pa_nil)) pa_nil))) (pa_cons (pe_tup (pa_cons pe_str (pa_cons (pv 7) pa_nil))) pa_nil)))))) pss_nil)
      (pss_cons (ps_if (pt_cmpR oi_lt (pv 0) pe_int (nomark _)) (pss_cons (ps_set (i := 6) sc__law_row_by.nd rfl (Or.inl rfl) (pe_ix ix_list (pe_lst (pa_cons pe_str (pa_cons pe_str pa_nil))) (pe_op oi_sub (pv 0) pe_int) (fun _ _ => rfl)))
      (pss_cons (ps_set (i := 8) sc__law_row_by.nd rfl (Or.inl rfl) (pe_call (ok__law_name_by T) (hr.mono (by decide)) rfl T.m__law_name_by T.F__law_name_by.kp T.b__law_name_by .nil pass0 (pa_cons (pv 3) pa_nil)))
      (pss_one (ps_ret (pe_tup (pa_cons (pe_lst (pa_cons (pv 6) (pa_cons (pv 5) (pa_cons (pv 8) pa_nil)))) (pa_cons (pe_tup (pa_cons (pv 6) (pa_cons (pv 5) (pa_cons (pv 8) pa_nil)))) pa_nil))))))) pss_nil)
      (pss_cons (ps_if (pt_cmpR oi_lt (pv 0) pe_int (nomark _)) (pss_cons (ps_set (i := 6) sc__law_row_by.nd rfl (Or.inl rfl) (pe_ix ix_list (pe_lst (pa_cons pe_str (pa_cons pe_str pa_nil))) (pe_op oi_sub (pv 0) pe_int) (fun _ _ => rfl)))
      (pss_one (ps_ret (pe_tup (pa_cons (pe_lst (pa_cons (pv 6) pa_nil)) (pa_cons (pe_tup (pa_cons (pv 6) pa_nil)) pa_nil)))))) pss_nil)
      (pss_cons (ps_set (i := 9) sc__law_row_by.nd rfl (Or.inl rfl) (pe_call (ok__law_value_by T) (hr.mono (by decide)) rfl T.m__law_value_by T.F__law_value_by.kp T.b__law_value_by .nil pass0 (pa_cons (pv 3) pa_nil)))
      (pss_cons (ps_if (pt_cmpR op_eq (pv 0) pe_int (nomark _)) (pss_one (ps_ret (pe_tup (pa_cons (pe_lst (pa_cons (pv 5) (pa_cons pe_str (pa_cons (pe_callTy call_str_any rfl T.z_str PyProof.Rows.Boot.«str» (pa_cons (pv 9) pa_nil)) pa_nil)))) (pa_cons (pe_tup (pa_cons pe_str (pa_cons (pv 5) (pa_cons (pv 9) (pa_cons pe_str (pa_cons pe_int pa_nil)))))) pa_nil))))) pss_nil)
      (pss_cons (ps_set (i := 10) sc__law_row_by.nd rfl (Or.inl rfl) (pe_ix ix_str pe_str (pe_op oi_mod (pv 1) pe_int) (fun _ _ => rfl)))
      (pss_cons (ps_set (i := 11) sc__law_row_by.nd rfl (Or.inl rfl) (pe_call (ok__law_value_by T) (hr.mono (by decide)) rfl T.m__law_value_by T.F__law_value_by.kp T.b__law_value_by .nil pass0 (pa_cons (pv 4) pa_nil)))
      (pss_one (ps_ret (pe_tup (pa_cons (pe_lst (pa_cons (pv 5) (pa_cons pe_str (pa_cons (pe_callTy call_str_any rfl T.z_str PyProof.Rows.Boot.«str» (pa_cons (pv 9) pa_nil)) (pa_cons (pv 10) (pa_cons (pe_callTy call_str_any rfl T.z_str PyProof.Rows.Boot.«str» (pa_cons (pv 11) pa_nil)) pa_nil)))))) (pa_cons (pe_tup (pa_cons pe_str (pa_cons (pv 5) (pa_cons (pv 9) (pa_cons (pv 10) (pa_cons (pv 11) pa_nil)))))) pa_nil)))))))))))))))), ?_⟩
  have fin : ∀ (H1 : Hp) (ws : List Str) (xs : List V) (l d t : Addr), Same H H1 → H1 l = none → (upd H1 l (.lst (ws.map V.str))) d = none → (upd (upd H1 l (.lst (ws.map V.str))) d (.tup xs)) t = none → ws.length ≤ 50 → (∀ w ∈ ws, goodWord w) → ws ≠ [] → formV ws = some xs → xs.length ≤ 1000 → (∀ v ∈ xs, flatOne v) →
      Q (.ref t) (upd (upd (upd H1 l (.lst (ws.map V.str))) d (.tup xs)) t (.tup [.ref l, .ref d])) := fun H1 ws xs l d t hs hl hd ht h1 h2 h3 h4 h5 h6 =>
    k _ t l ws (.ref d) (hs.trans ((Same.new hl _).trans ((Same.new hd _).trans (Same.new ht _)))) upd_same (((Same.new hd _).trans (Same.new ht _)) _ _ upd_same) h1 h2 (.inr ⟨d, xs, rfl, (Same.new ht _) _ _ upd_same, h3, h4, h5, h6⟩)
  have s1 : (1 : Nat) ≤ sizeLine := by decide
  have s2 : (2 : Nat) ≤ sizeLine := by decide
  have s3 : (3 : Nat) ≤ sizeLine := by decide
  have s4 : (4 : Nat) ≤ sizeLine := by decide
  have s5 : (5 : Nat) ≤ sizeLine := by decide
  refine ⟨_, rfl, one, rfl, fun x H1 hx hs1 => ?_⟩
  refine ⟨_, rfl, rfl, _, rfl, ?_⟩
  refine ite2 (fun c => ?_) (fun c => ?_)
  · refine ⟨Nat.zero_le _, fun l hl => ⟨s2, fun t ht => ?_⟩⟩
    exact k _ t l [] .non (hs1.trans ((Same.new hl _).trans (Same.new ht _))) upd_same ((Same.new ht _) _ _ upd_same) (by simp) (by simp) (.inl ⟨rfl, rfl⟩)
  have w0 : way ≠ 0 := by
    intro e
    rw [e] at c
    exact c rfl
  refine ⟨_, rfl, _, _, rfl, rfl, _, rfl, ?_⟩
  refine ite2 (fun c1 => ?_) (fun c1 => ?_)
  · have c1' : way < 5 := of_decide_eq_true c1
    obtain ⟨v, hv, hm⟩ := atI_ex (xs := (["ask", "give", "if", "while"] : List Str).map V.str) (i := way - 1) (by omega) (by show way - 1 < 4; omega)
    obtain ⟨hd, hh, rfl⟩ := List.mem_map.mp hm
    refine ⟨s4, fun p hp => ⟨_, rfl, _, _, rfl, rfl, p, _, _, _, rfl, rfl, .inl (.inl upd_same), hv, ?_⟩⟩
    refine ⟨_, rfl, _, rfl, s2, fun l hl => ⟨_, rfl, _, rfl, s2, fun d hd2 => ⟨s2, fun t ht => ?_⟩⟩⟩
    have hk : ∀ z ∈ (["ask", "give", "if", "while"] : List Str), kinds z = some (["name"] : List Str) ∧ z ∈ kwS := by decide +kernel
    have hk' := hk hd hh
    exact fin _ [hd, x] _ l d t (hs1.trans (Same.new hp _)) hl hd2 ht (by simp) (all2 (good_kw hk'.2) (name_word hx)) (by simp) (form_one hk'.1 hx) (by simp) (all2 (fW (good_kw hk'.2)) (fW (name_word hx)))
  have w5 : ¬ way < 5 := of_decide_eq_false (Bool.eq_false_iff.mpr c1)
  refine ⟨_, rfl, rfl, _, rfl, ?_⟩
  refine ite2 (fun c2 => ?_) (fun c2 => ?_)
  · refine ⟨_, rfl, two, 1, 2000, rfl, by decide, fun r H2 hr1 hr2 hs2 => ?_⟩
    have hlog : r.natAbs.log2 < 1920 := log_lt (Nat.lt_of_lt_of_le (show r.natAbs < 2 ^ 100 by omega) (Nat.pow_le_pow_right (by decide) (by decide)))
    refine ⟨_, rfl, _, rfl, r, rfl, hlog, s3, fun l hl => ⟨_, rfl, _, rfl, s3, fun d hd2 => ⟨s2, fun t ht => ?_⟩⟩⟩
    exact fin _ ["store", x, toString r] _ l d t (hs1.trans hs2) hl hd2 ht (by simp) (all3 (good_kw (by decide)) (name_word hx) (num_word (by omega) (by omega))) (by simp) (form_store hx hr1 hr2) (by simp) (all3 (fW (good_kw (by decide))) (fW (name_word hx)) fI)
  refine ⟨_, rfl, rfl, _, rfl, ?_⟩
  refine ite2 (fun c3 => ?_) (fun c3 => ?_)
  · refine ⟨_, rfl, two, 0, 99, rfl, by decide, fun r H2 hr1 hr2 hs2 => ?_⟩
    have hlog : r.natAbs.log2 < 1920 := log_lt (Nat.lt_of_lt_of_le (show r.natAbs < 2 ^ 100 by omega) (Nat.pow_le_pow_right (by decide) (by decide)))
    refine ⟨_, rfl, r, rfl, hlog, s2, fun l hl => ⟨_, rfl, s2, fun d hd2 => ⟨s2, fun t ht => ?_⟩⟩⟩
    exact fin _ ["repeat", toString r] _ l d t (hs1.trans hs2) hl hd2 ht (by simp) (all2 (good_kw (by decide)) (num_word (by omega) (by omega))) (by simp) (form_repeat hr1 hr2) (by simp) (all2 (fW (good_kw (by decide))) fI)
  have w6 : way ≠ 5 ∧ way ≠ 6 := by
    constructor
    · intro e
      rw [e] at c2
      exact c2 rfl
    · intro e
      rw [e] at c3
      exact c3 rfl
  refine ⟨_, rfl, _, _, rfl, rfl, _, rfl, ?_⟩
  refine ite2 (fun c4 => ?_) (fun c4 => ?_)
  · have c4' : way < 9 := of_decide_eq_true c4
    obtain ⟨v, hv, hm⟩ := atI_ex (xs := (["put", "get"] : List Str).map V.str) (i := way - 7) (by omega) (by show way - 7 < 2; omega)
    obtain ⟨hd, hh, rfl⟩ := List.mem_map.mp hm
    refine ⟨s2, fun p hp => ⟨_, rfl, _, _, rfl, rfl, p, _, _, _, rfl, rfl, .inl (.inl upd_same), hv, ?_⟩⟩
    refine ⟨_, rfl, two, rfl, fun y H2 hy hs2 => ?_⟩
    refine ⟨_, rfl, _, rfl, _, rfl, s3, fun l hl => ⟨_, rfl, _, rfl, _, rfl, s3, fun d hd2 => ⟨s2, fun t ht => ?_⟩⟩⟩
    have hk : ∀ z ∈ (["put", "get"] : List Str), kinds z = some (["name", "name"] : List Str) ∧ z ∈ kwS := by decide +kernel
    have hk' := hk hd hh
    exact fin _ [hd, x, y] _ l d t (hs1.trans ((Same.new hp _).trans hs2)) hl hd2 ht (by simp) (all3 (good_kw hk'.2) (name_word hx) (name_word hy)) (by simp) (form_two hk'.1 hx hy) (by simp) (all3 (fW (good_kw hk'.2)) (fW (name_word hx)) (fW (name_word hy)))
  have w9 : ¬ way < 9 := of_decide_eq_false (Bool.eq_false_iff.mpr c4)
  refine ⟨_, rfl, _, _, rfl, rfl, _, rfl, ?_⟩
  refine ite2 (fun c5 => ?_) (fun c5 => ?_)
  · have c5' : way < 11 := of_decide_eq_true c5
    obtain ⟨v, hv, hm⟩ := atI_ex (xs := (["else", "end"] : List Str).map V.str) (i := way - 9) (by omega) (by show way - 9 < 2; omega)
    obtain ⟨hd, hh, rfl⟩ := List.mem_map.mp hm
    refine ⟨s2, fun p hp => ⟨_, rfl, _, _, rfl, rfl, p, _, _, _, rfl, rfl, .inl (.inl upd_same), hv, ?_⟩⟩
    refine ⟨_, rfl, s1, fun l hl => ⟨_, rfl, s1, fun d hd2 => ⟨s2, fun t ht => ?_⟩⟩⟩
    have hk : ∀ z ∈ (["else", "end"] : List Str), kinds z = some [] ∧ z ∈ kwS := by decide +kernel
    have hk' := hk hd hh
    exact fin _ [hd] _ l d t (hs1.trans (Same.new hp _)) hl hd2 ht (by simp) (all1 (good_kw hk'.2)) (by simp) (form_none hk'.1) (by simp) (all1 (fW (good_kw hk'.2)))
  have eqW : goodWord "=" := by
    have : 1 ≤ ("=" : Str).length ∧ ("=" : Str).length ≤ 40 ∧ ∀ c ∈ ("=" : Str).cps.toList, 33 ≤ c ∧ c < 127 := by decide +kernel
    exact this
  refine ⟨_, rfl, two, rfl, fun v H2 hv hs2 => ?_⟩
  refine ⟨_, rfl, rfl, _, rfl, ?_⟩
  refine ite2 (fun c6 => ?_) (fun c6 => ?_)
  · refine ⟨_, rfl, _, rfl, str_any hv ⟨s3, fun l hl => ⟨_, rfl, _, rfl, s5, fun d hd2 => ⟨s2, fun t ht => ?_⟩⟩⟩⟩
    exact fin _ [x, "=", valStr v] _ l d t (hs1.trans hs2) hl hd2 ht (by simp) (all3 (name_word hx) eqW (val_word hv)) (by simp) (form_set1 hx hv) (by simp) (all5 (fC (by decide +kernel)) (fW (name_word hx)) (val_flat hv).1 (fC (by decide +kernel)) fI)
  obtain ⟨sg, hsg, hsm⟩ := atI_ex (xs := ("+-*/<=&|^" : Str).cps.toList) (i := n % 9) (Int.emod_nonneg _ (by decide)) (by
    show n % 9 < 9
    exact Int.emod_lt_of_pos _ (by decide))
  have sgs : ∀ c ∈ ("+-*/<=&|^" : Str).cps.toList, inV (.str ⟨#[c]⟩) sgV = true ∧ 33 ≤ c ∧ c < 127 := by decide +kernel
  have sgs' := sgs sg hsm
  refine ⟨_, rfl, _, _, rfl, rfl, (by decide), _, _, sg, rfl, rfl, (by decide +kernel), hsg, ?_⟩
  refine ⟨_, rfl, three, rfl, fun u H3 hu hs3 => ?_⟩
  refine ⟨_, rfl, _, rfl, str_any hv ⟨_, rfl, _, rfl, str_any hu ⟨s5, fun l hl => ⟨_, rfl, _, rfl, _, rfl, _, rfl, s5, fun d hd2 => ⟨s2, fun t ht => ?_⟩⟩⟩⟩⟩
  exact fin _ [x, "=", valStr v, ⟨#[sg]⟩, valStr u] _ l d t (hs1.trans (hs2.trans hs3)) hl hd2 ht (by simp) (all5 (name_word hx) eqW (val_word hv) ⟨Nat.le_refl 1, (show (1 : Nat) ≤ 40 by decide), all1 sgs'.2⟩ (val_word hu)) (by simp) (form_set hx hv sgs'.1 hu) (by simp) (all5 (fC (by decide +kernel)) (fW (name_word hx)) (val_flat hv).1 (fW ⟨Nat.le_refl 1, (show (1 : Nat) ≤ 40 by decide), all1 sgs'.2⟩) (val_flat hu).1)
def Bnd (s : List Nat) (L : List (List Nat)) : Prop := ∀ b, wl (s ++ b) [] = L ++ wl b []
theorem blanks {k : Int} : ∀ c ∈ (Txt.mul (" " : Str) k).cps.toList, c = 32 := fun c hc => by
  have e : (Txt.mul (" " : Str) k).cps.toList = List.replicate k.toNat 32 := PyProof.Rows.mul_one_list 32 k
  rw [e] at hc
  exact (List.mem_replicate.mp hc).2
theorem bnd_step {s w t : List Nat} {L : List (List Nat)} (h : Bnd s L) (hw : 32 ∉ w) (hn : w ≠ []) (ht : ∀ c ∈ t, c = 32) (hl : t ≠ []) : Bnd (s ++ w ++ t) (L ++ [w]) := fun b => by
  cases t with
  | nil => exact absurd rfl hl
  | cons c t =>
    have e : c = 32 := ht c List.mem_cons_self
    subst e
    rw [List.append_assoc, List.append_assoc, h]
    show L ++ wl (w ++ 32 :: (t ++ b)) [] = _
    rw [wl_end _ _ hw, if_neg hn, wl_front t b fun d hd => ht d (List.mem_cons_of_mem _ hd), List.append_assoc]
theorem ok__law_spaced (T : Tx P w K mg a) : FnOk P w K mg base CX0 1 a._law_spaced a.fd__law_spaced ["_law_words", "_law_n"] (sp__law_spaced K) := by
  refine T.F__law_spaced.ok sc__law_spaced (fun vs H Q E h => ?_) (fun cdv A outer s H vs Q E hr h => ?_)
  · obtain ⟨_, _, _, rfl, _⟩ := h
    rfl
  obtain ⟨l, ws, n, rfl, hl, hn, hw, q⟩ := h
  refine ⟨_, (pss_cons (ps_set (i := 2) sc__law_spaced.nd rfl (Or.inl rfl) (pe_op op_mul_str pe_str (pe_op oi_mod (pv 1) pe_int)))
      (pss_cons (ps_for PassesOwn.never rfl (pi_list (pv 0)) (pg_name (i := 3) sc__law_spaced.nd rfl (Or.inl rfl))
      (pss_cons (ps_set (i := 1) sc__law_spaced.nd rfl (Or.inl rfl) (pe_op oi_fdiv (pv 1) pe_int))
      (pss_one (ps_set (i := 2) sc__law_spaced.nd rfl (Or.inl rfl) (pe_op op_add_str (pe_op op_add_str (pv 2) (pv 3)) (pe_op op_mul_str pe_str (pe_op oi_add pe_int (pe_op oi_mod (pv 1) pe_int))))))))
      (pss_cons (ps_if (pt_cmpR op_eq (pe_op oi_mod (pe_op oi_fdiv (pv 1) pe_int) pe_int) pe_int (nomark _)) (pss_one (ps_set (i := 2) sc__law_spaced.nd rfl (Or.inl rfl) (pe_bm0 PySem.F.plainAttrs_str PySem.F.slot_str_rstrip PySem.F.type_str_rstrip mt_rstrip (pv 2)))) pss_nil)
      (pss_one (ps_ret (pv 2)))))), ?_⟩
  have m0 : ∀ n : Int, 0 ≤ n % 3 ∧ n % 3 < 3 := fun n => ⟨Int.emod_nonneg _ (by decide), Int.emod_lt_of_pos _ (by decide)⟩
  have lm : ∀ k : Int, 0 ≤ k → (Txt.mul (" " : Str) k).length = k.toNat := fun k h0 => by
    rw [mul_len _ h0]
    show 1 * _ = _
    omega
  refine ⟨_, rfl, _, _, rfl, rfl, (by decide), _, _, rfl, rfl, mul_ok (by decide) (m0 n).1 (by have := (m0 n).2; omega), ?_⟩
  refine ⟨_, rfl, l, rfl, ⟨_, hl⟩, ?_⟩
  refine for_list (K := K) (xs := ws.map V.str) (fun i σ H2 => H2 = H ∧ ∃ (n' : Int) (x : Str) (v : Option V), σ = [some (.ref l), some (.int n'), some (.str x), v] ∧ x.length ≤ 2 + 44 * i ∧ Bnd x.cps.toList ((ws.take i).map fun p => p.cps.toList) ∧ ∀ c ∈ x.cps.toList, 32 ≤ c ∧ c < 127) ?_ ?_ ?_ ?_
  · refine ⟨rfl, n, _, none, rfl, ?_, ?_, ?_⟩
    · rw [lm _ (m0 n).1]
      have := (m0 n).2
      omega
    · exact fun b => wl_front _ b blanks
    · intro c hc
      have := blanks c hc
      omega
  · rintro i σ H2 _ ⟨rfl, _⟩
    exact hl
  · rintro i z σ H2 hz ⟨rfl, n', x, v, rfl, hx, hB, hc⟩
    have hi : i < 100 := by
      rcases Nat.lt_or_ge i (ws.map V.str).length with h | h
      · rw [List.length_map] at h; omega
      · rw [List.getElem?_eq_none h] at hz; cases hz
    rw [List.getElem?_map] at hz
    obtain ⟨g, hg, rfl⟩ := Option.map_eq_some_iff.mp hz
    have gw := hw g (List.mem_of_getElem? hg)
    have md := m0 (n' / 3)
    have ll : (Txt.mul (" " : Str) (1 + n' / 3 % 3)).length = (1 + n' / 3 % 3).toNat := lm _ (by omega)
    refine ⟨_, rfl, _, _, rfl, rfl, ⟨by decide, by decide⟩, ?_⟩
    refine ⟨_, rfl, _, rfl, _, _, rfl, rfl, len_le_line (m := 10000) (by have := gw.2.1; omega), ?_⟩
    refine ⟨_, rfl, _, _, rfl, rfl, (by decide), _, _, rfl, rfl, _, _, rfl, rfl, mul_ok (by decide) (by omega) (by omega), ?_⟩
    refine ⟨_, _, rfl, rfl, len_le_line (m := 10000) (by rw [str_len_append]; have := gw.2.1; omega), ?_⟩
    refine ⟨rfl, _, _, _, rfl, ?_, ?_, ?_⟩
    · rw [str_len_append, str_len_append]
      have := gw.2.1
      omega
    · rw [app_signs, app_signs, List.take_add_one, hg, List.map_append]
      refine bnd_step hB (fun z => ?_) (fun z => ?_) blanks (fun z => ?_)
      · have := gw.2.2 32 z
        omega
      · have h1 : g.cps.toList.length = g.length := Array.length_toList
        have := gw.1
        rw [z] at h1
        simp at h1
        omega
      · have h1 : (Txt.mul (" " : Str) (1 + n' / 3 % 3)).cps.toList.length = (Txt.mul (" " : Str) (1 + n' / 3 % 3)).length := Array.length_toList
        rw [z, ll] at h1
        simp at h1
        omega
    · intro c hcc
      rw [app_signs, app_signs] at hcc
      rcases List.mem_append.mp hcc with h | h
      · rcases List.mem_append.mp h with h | h
        · exact hc c h
        · have := gw.2.2 c h
          omega
      · have := blanks c h
        omega
  · rintro σ H2 ⟨rfl, n', x, v, rfl, hx, hB, hc⟩
    rw [List.length_map] at hx hB
    rw [List.take_of_length_le (Nat.le_refl _)] at hB
    have hwl : wl x.cps.toList [] = ws.map fun p => p.cps.toList := by
      have := hB []
      rw [List.append_nil] at this
      rw [this]
      show _ ++ [] = _
      rw [List.append_nil]
    refine ⟨_, rfl, _, _, rfl, rfl, ⟨by decide, by decide⟩, _, _, rfl, rfl, (by decide), rfl, _, rfl, ?_⟩
    refine ite2 (fun c => ?_) (fun c => ?_)
    · refine ⟨_, rfl, rfl, x, rfl, rfl, len_le_line (m := 10000) (by omega), _, rfl, q _ ?_ ?_⟩
      · obtain ⟨j, hj, e⟩ := PyProof.Rows.rstrip_is_prefix x
        have h1 : (Txt.rstrip x).cps.toList.length = (Txt.rstrip x).length := Array.length_toList
        rw [e, StrLaws.strSub_toList, List.length_take, List.length_drop] at h1
        rw [e]
        have h2 : x.cps.toList.length = x.length := Array.length_toList
        omega
      · exact wordsIn_eq ((wl_rstrip hc).trans hwl)
    · exact ⟨_, rfl, q _ (by omega) (wordsIn_eq hwl)⟩
theorem dt_one {K : PySem.W.Frag} {H : Hp} {v : V} (h : flatOne v) : ∃ d : PyData, Dt K H v d ∧ d.canLay0 = true ∧ d.depth ≤ 1 := by
  rcases h with ⟨x, rfl, hx⟩ | ⟨n, rfl⟩
  · exact ⟨_, .str x, hx, Nat.zero_le _⟩
  · exact ⟨_, .int n, rfl, Nat.zero_le _⟩
theorem dt_flat {K : PySem.W.Frag} {H : Hp} : ∀ {xs : List V}, (∀ v ∈ xs, flatOne v) → ∃ ds : List PyData, DtAll K H xs ds ∧ PyData.canLayAll0 ds = true ∧ PyData.depthAll ds ≤ 1
  | [], _ => ⟨[], .nil, rfl, Nat.zero_le _⟩
  | x :: xs, h => by
    obtain ⟨d, h1, h2, h3⟩ := dt_one (K := K) (H := H) (h x List.mem_cons_self)
    obtain ⟨ds, g1, g2, g3⟩ := dt_flat (K := K) (H := H) fun v hv => h v (List.mem_cons_of_mem _ hv)
    refine ⟨d :: ds, .cons h1 g1, ?_, ?_⟩
    · show (d.canLay0 && PyData.canLayAll0 ds) = true
      rw [h2, g2]
      rfl
    · show max d.depth (PyData.depthAll ds) ≤ 1
      omega
theorem ok__law_same (T : Tx P w K mg a) : FnOk P w K mg base CX0 1 a._law_same a.fd__law_same ["_law_found", "_law_due"] sp__law_same := by
  refine T.F__law_same.ok sc__law_same (fun vs H Q E h => ?_) (fun cdv A outer s H vs Q E hr h => ?_)
  · rcases h with ⟨rfl, _⟩ | ⟨_, _, _, rfl, _⟩ <;> rfl
  refine ⟨_, (pss_cons (ps_if (pt_cmpR op_isN (pv 1) pe_non (nomark _)) (pss_one (ps_ret (pe_cmpR op_isN (pv 0) pe_non (nomark _)))) pss_nil)
      (pss_cons (ps_if (PW.pt (pw_or (pt_not (pt_val (pe_callB call_isT rfl T.z_isinstance PyProof.Rows.Boot.«isinstance» (pa_cons (pv 0) (pa_cons (pe_bltn (v := .ty "tuple") rfl T.z_tuple PyProof.Rows.Boot.«tuple» rfl) pa_nil))))) (pw_or1 (pt_cmpR op_ne (pe_callB call_len_seq rfl T.z_len PySem.boot_len (pa_cons (pv 0) pa_nil)) (pe_callB call_len_seq rfl T.z_len PySem.boot_len (pa_cons (pv 1) pa_nil)) (nomark _))))) (pss_one (ps_ret pe_bl)) pss_nil)
      (pss_cons (ps_for PassesOwn.never rfl (pi_zip rfl T.z_zip (pa_cons (pv 0) (pa_cons (pv 1) pa_nil))) (pg_tup rfl (pgs_cons (pg_name (i := 2) sc__law_same.nd rfl (Or.inl rfl)) (pgs_cons (pg_name (i := 3) sc__law_same.nd rfl (Or.inl rfl)) pgs_nil)))
      (pss_cons (ps_if (pt_cmpR op_ne (pe_callB call_isT rfl T.z_isinstance PyProof.Rows.Boot.«isinstance» (pa_cons (pv 3) (pa_cons (pe_bltn (v := .ty "str") rfl T.z_str PyProof.Rows.Boot.«str» rfl) pa_nil))) (pe_callB call_isT rfl T.z_isinstance PyProof.Rows.Boot.«isinstance» (pa_cons (pv 2) (pa_cons (pe_bltn (v := .ty "str") rfl T.z_str PyProof.Rows.Boot.«str» rfl) pa_nil))) (nomark _)) (pss_one (ps_ret pe_bl)) pss_nil)
      (pss_one (ps_if (PW.pt (pw_and (pt_not (pt_val (pe_callB call_isT rfl T.z_isinstance PyProof.Rows.Boot.«isinstance» (pa_cons (pv 3) (pa_cons (pe_bltn (v := .ty "str") rfl T.z_str PyProof.Rows.Boot.«str» rfl) pa_nil))))) (pw_and1 (PW.pt (pw_or (pt_not (pt_val (pe_callB call_isT rfl T.z_isinstance PyProof.Rows.Boot.«isinstance» (pa_cons (pv 2) (pa_cons (pe_bltn (v := .ty "int") rfl T.z_int PyProof.Rows.Boot.«int» rfl) pa_nil))))) (pw_or1 (pt_val (pe_callB call_isT rfl T.z_isinstance PyProof.Rows.Boot.«isinstance» (pa_cons (pv 2) (pa_cons (pe_bltn (v := .ty "bool") rfl T.z_bool PyProof.Rows.Boot.«bool» rfl) pa_nil)))))))))) (pss_one (ps_ret pe_bl)) pss_nil))))
      (pss_one (ps_ret (pe_cmpR (op_eqD hr.units) (pv 0) (pv 1) (nomark _))))))), ?_⟩
  rcases h with ⟨rfl, q⟩ | ⟨p, d, xs, rfl, hp, hd, hn, hf, q⟩
  · exact ⟨_, rfl, rfl, _, rfl, iteT ⟨_, rfl, rfl, q⟩⟩
  refine ⟨_, rfl, rfl, _, rfl, iteF ?_⟩
  have sp : SqT K H p xs := .inl (.inl hp)
  have sd : SqT K H d xs := .inl (.inl hd)
  refine ⟨_, rfl, _, _, _, true, rfl, .tup hp, rfl, _, rfl, iteF ?_⟩
  refine ⟨_, rfl, p, xs, rfl, .inr sp, _, rfl, d, xs, rfl, .inr sd, rfl, _, rfl, iteNS rfl ?_⟩
  refine ⟨_, rfl, _, rfl, true, true, p, d, xs, xs, rfl, sp, sd, ?_⟩
  refine for_zip (b1 := true) (b2 := true) (xs := xs) (ys := xs) (fun i σ H2 => Same H H2 ∧ ∃ u v, σ = [some (.ref p), some (.ref d), u, v]) ⟨Same.refl H, none, none, rfl⟩ ?_ ?_ ?_
  · rintro i σ H2 ⟨hs, _⟩
    exact ⟨hs.tup sp, hs.tup sd⟩
  · rintro i x y σ H2 r hx hy ⟨hs, u, v, rfl⟩ hr2
    rw [hx] at hy
    cases hy
    have hs2 := hs.trans (Same.new hr2 (.tup [x, x]))
    refine ⟨r, _, rfl, .inl (.inl upd_same), rfl, _, _, rfl, _, _, rfl, rfl, ?_⟩
    rcases hf x (List.mem_of_getElem? hx) with ⟨z, rfl, _⟩ | ⟨n, rfl⟩
    · refine ⟨_, rfl, _, _, _, true, rfl, .str z, rfl, _, rfl, _, _, _, true, rfl, .str z, rfl, rfl, _, rfl, iteNS rfl ?_⟩
      refine ⟨_, rfl, _, _, _, true, rfl, .str z, rfl, _, rfl, iteF ?_⟩
      exact iteF ⟨hs2, _, _, rfl⟩
    · refine ⟨_, rfl, _, _, _, false, rfl, .int n, rfl, _, rfl, _, _, _, false, rfl, .int n, rfl, rfl, _, rfl, iteNS rfl ?_⟩
      refine ⟨_, rfl, _, _, _, false, rfl, .int n, rfl, _, rfl, iteT ?_⟩
      refine ⟨_, rfl, _, _, _, true, rfl, .int n, rfl, _, rfl, iteF ?_⟩
      refine ⟨_, rfl, _, _, _, false, rfl, .int n, rfl, _, rfl, ?_⟩
      exact iteF ⟨hs2, _, _, rfl⟩
  · rintro σ H2 ⟨hs, u, v, rfl⟩
    obtain ⟨ds, g1, g2, g3⟩ := dt_flat (K := K) (H := H2) hf
    have hsh : SeqAt.shaped (PyData.tuple ds) = true := by
      show (PyData.canLayAll0 ds && decide ((PyData.tuple ds).depth ≤ 64)) = true
      rw [g2]
      have : (PyData.tuple ds).depth = PyData.depthAll ds + 1 := rfl
      rw [this]
      simp
      omega
    refine ⟨_, rfl, _, rfl, .tuple ds, .tuple ds, .tup (hs.tup sp) g1, .tup (hs.tup sd) g1, hsh, hsh, ?_⟩
    rw [SeqAt.eqv_refl _ (SeqAt.canLay_of_shaped hsh)]
    exact q H2 hs
theorem ok__law_is_name (T : Tx P w K mg a) : FnOk P w K mg base CX0 2 a._law_is_name a.fd__law_is_name ["_law_word"] sp__law_is_name := by
  refine T.F__law_is_name.ok sc__law_is_name (fun vs H Q E h => ?_) (fun cdv A outer s H vs Q E hr h => ?_)
  · obtain ⟨_, rfl, _⟩ := h
    rfl
  obtain ⟨x, rfl, hx, k⟩ := h
  refine ⟨_, (pss_cons (ps_if (PW.pt (pw_or (pt_cmpR oi_lt (pe_callB call_len_str rfl T.z_len PySem.boot_len (pa_cons (pv 0) pa_nil)) pe_int (nomark _)) (pw_or (pt_cmpR oi_gt (pe_callB call_len_str rfl T.z_len PySem.boot_len (pa_cons (pv 0) pa_nil)) pe_int (nomark _)) (pw_or1 (pt_cmpR op_in_seq (pv 0) (pe_call0 (ok__law_keywords T) (hr.mono (by decide)) rfl T.m__law_keywords T.F__law_keywords.kp T.b__law_keywords .nil pass0) (by with_unfolding_all rfl)))))) (pss_one (ps_ret pe_bl)) pss_nil)
      (pss_cons (ps_for PassesOwn.never rfl (pi_str (pv 0)) (pg_name (i := 1) sc__law_is_name.nd rfl (Or.inl rfl))
      (pss_one (ps_if (pt_cmpR op_notin_str (pv 1) pe_str (by with_unfolding_all rfl)) (pss_one (ps_ret pe_bl)) pss_nil)))
      (pss_one (ps_ret pe_bl)))), ?_⟩
  have hz := len_le_line (m := 100000) hx
  refine ⟨_, rfl, x, rfl, hz, _, _, rfl, rfl, _, rfl, ?_⟩
  refine ite2 (fun c => ?_) (fun c => ?_)
  · have c1 : ¬ 1 ≤ (x.length : Int) := by have := of_decide_eq_true c; omega
    have e : isName x = false := by unfold isName; rw [if_neg c1]
    have q := k H (Same.refl H)
    rw [e] at q
    exact iteT q
  have c1 : 1 ≤ (x.length : Int) := by have := of_decide_eq_false (Bool.eq_false_iff.mpr c); omega
  refine ⟨_, rfl, x, rfl, hz, _, _, rfl, rfl, _, rfl, ?_⟩
  refine ite2 (fun c => ?_) (fun c => ?_)
  · have c2 : ¬ (x.length : Int) ≤ 8 := by have := of_decide_eq_true c; omega
    have e : isName x = false := by unfold isName; rw [if_pos c1, if_neg c2]
    have q := k H (Same.refl H)
    rw [e] at q
    exact iteT q
  have c2 : (x.length : Int) ≤ 8 := by have := of_decide_eq_false (Bool.eq_false_iff.mpr c); omega
  have e : isName x = (!inV (.str x) kwV && isMade x letters) := by unfold isName; rw [if_pos c1, if_pos c2]
  refine ⟨_, rfl, rfl, fun p H1 hs1 hp => ⟨p, kwV, rfl, .inl (SqL.of hp), rfl, rfl, _, rfl, ?_⟩⟩
  refine iteB (fun c3 => ?_) (fun c3 => ?_)
  · have c4 : inV (.str x) kwV = true := c3
    have q := k H1 hs1
    rw [e, c4, Bool.not_true, Bool.false_and] at q
    exact q
  have c4 : inV (.str x) kwV = false := c3
  rw [c4, Bool.not_false, Bool.true_and] at e
  refine ⟨_, rfl, x, rfl, for_str (fun i σ H2 => H2 = H1 ∧ (∃ v, σ = [some (.str x), v]) ∧ ((x.cps.toList.take i).all fun c => decide (c ∈ letters.cps.toList)) = true) ⟨rfl, ⟨none, rfl⟩, rfl⟩ ?_ ?_⟩
  · rintro i c σ H2 hc ⟨rfl, ⟨v, rfl⟩, ha⟩
    have hc' : x.cps.toList[i]? = some c := by simpa using hc
    refine ⟨_, rfl, _, _, rfl, rfl, _, rfl, iteB (fun h => ?_) (fun h => ?_)⟩
    · have h' : (!(!(Builtin.Str.occurrences letters ⟨#[c]⟩ 0 letters.length 1).isEmpty)) = true := h
      rw [PySem.StrLaws.found_one] at h'
      have q := k H2 hs1
      have z : isMade x letters = false := by
        unfold isMade
        rw [List.all_eq_false]
        exact ⟨c, List.mem_of_getElem? hc', by simpa using h'⟩
      rw [e, z] at q
      exact q
    · have h' : (!(!(Builtin.Str.occurrences letters ⟨#[c]⟩ 0 letters.length 1).isEmpty)) = false := h
      rw [PySem.StrLaws.found_one] at h'
      refine ⟨rfl, ⟨_, rfl⟩, ?_⟩
      rw [List.take_add_one, hc', List.all_append, ha]
      simpa using h'
  · rintro σ H2 ⟨rfl, _, ha⟩
    have q := k H2 hs1
    have z : isMade x letters = true := by
      unfold isMade
      rw [List.take_of_length_le (by simp)] at ha
      exact ha
    rw [e, z] at q
    exact q
theorem fig_find : ∀ c ∈ figures.cps.toList, Txt.find figures ⟨#[c]⟩ = ((c - 48 : Nat) : Int) := by decide +kernel
theorem ok__law_number (T : Tx P w K mg a) : FnOk P w K mg base CX0 1 a._law_number a.fd__law_number ["_law_word"] sp__law_number := by
  refine T.F__law_number.ok sc__law_number (fun vs H Q E h => ?_) (fun cdv A outer s H vs Q E hr h => ?_)
  · obtain ⟨_, rfl, _⟩ := h
    rfl
  obtain ⟨x, rfl, hx, k⟩ := h
  refine ⟨_, (pss_cons (ps_if (PW.pt (pw_or (pt_cmpR oi_lt (pe_callB call_len_str rfl T.z_len PySem.boot_len (pa_cons (pv 0) pa_nil)) pe_int (nomark _)) (pw_or1 (pt_cmpR oi_gt (pe_callB call_len_str rfl T.z_len PySem.boot_len (pa_cons (pv 0) pa_nil)) pe_int (nomark _))))) (pss_one (ps_ret (pe_un un_neg pe_int))) pss_nil)
      (pss_cons (ps_if (PW.pt (pw_and (pt_cmpR oi_gt (pe_callB call_len_str rfl T.z_len PySem.boot_len (pa_cons (pv 0) pa_nil)) pe_int (nomark _)) (pw_and1 (pt_cmpR op_eq (pe_ix ix_str (pv 0) pe_int (fun _ _ => rfl)) pe_str (nomark _))))) (pss_one (ps_ret (pe_un un_neg pe_int))) pss_nil)
      (pss_cons (ps_set (i := 1) sc__law_number.nd rfl (Or.inl rfl) pe_int)
      (pss_cons (ps_for PassesOwn.never rfl (pi_str (pv 0)) (pg_name (i := 2) sc__law_number.nd rfl (Or.inl rfl))
      (pss_cons (ps_if (pt_cmpR op_notin_str (pv 2) pe_str (by with_unfolding_all rfl)) (pss_one (ps_ret (pe_un un_neg pe_int))) pss_nil)
      (pss_one (ps_set (i := 1) sc__law_number.nd rfl (Or.inl rfl) (pe_op oi_add (pe_op oi_mul (pv 1) pe_int) (pe_bm PySem.F.plainAttrs_str PySem.F.slot_str_find PySem.F.type_str_find mt_find pe_str (pa_cons (pv 2) pa_nil)))))))
      (pss_one (ps_ret (pv 1))))))), ?_⟩
  have hz := len_le_line (m := 100000) hx
  have bad : numIn x = none → Q (.int (-1)) H := fun e => by
    have q := k
    unfold lawNum at q
    rw [e] at q
    exact q
  refine ⟨_, rfl, x, rfl, hz, _, _, rfl, rfl, _, rfl, ?_⟩
  refine ite2 (fun c => ?_) (fun c => ?_)
  · have c1 : ¬ 1 ≤ (x.length : Int) := by have := of_decide_eq_true c; omega
    exact iteT ⟨_, rfl, bad (by unfold numIn; rw [if_neg c1])⟩
  have c1 : 1 ≤ (x.length : Int) := by have := of_decide_eq_false (Bool.eq_false_iff.mpr c); omega
  refine ⟨_, rfl, x, rfl, hz, _, _, rfl, rfl, _, rfl, ?_⟩
  refine ite2 (fun c => ?_) (fun c => ?_)
  · have c2 : ¬ (x.length : Int) ≤ 30 := by have := of_decide_eq_true c; omega
    exact ⟨_, rfl, bad (by unfold numIn; rw [if_pos c1, if_neg c2])⟩
  have c2 : (x.length : Int) ≤ 30 := by have := of_decide_eq_false (Bool.eq_false_iff.mpr c); omega
  have e0 : numIn x = (if isMade x figures = true then (if x.cps.toList.head? = some 48 ∧ ¬ x = "0" then none else some ((digitsVal x.cps.toList : Nat) : Int)) else none) := by unfold numIn; rw [if_pos c1, if_pos c2]
  obtain ⟨d, hd1, hd2⟩ := head_ex c1
  have hl : x.cps.toList.length = x.length := Array.length_toList
  refine ⟨_, rfl, x, rfl, hz, _, _, rfl, rfl, _, rfl, ?_⟩
  refine join0' (Pc := ¬ (x.cps.toList.head? = some 48 ∧ ¬ x = "0")) (fun c => ?_) ?_ fun c go => ?_
  · have c3 : ¬ 1 < (x.length : Int) := of_decide_eq_false (Bool.eq_false_iff.mpr c)
    rintro ⟨h1, h2⟩
    refine h2 (PyProof.Rows.ext_toList ?_)
    cases e : x.cps.toList with
    | nil => rw [e] at h1; cases h1
    | cons y r =>
      rw [e] at h1 hl
      cases h1
      cases r with
      | nil => rfl
      | cons _ _ => simp only [List.length_cons] at hl; omega
  rotate_left
  · refine ⟨_, rfl, x, _, d, rfl, rfl, hz, hd2, rfl, _, rfl, ?_⟩
    refine ite2 (fun c' => ?_) (fun c' => ?_)
    · have hd : d = 48 := by
        have := of_decide_eq_true c'
        injection this with e
        have e' : (⟨#[d]⟩ : Str) = ⟨#[48]⟩ := e
        injection e' with e'
        simpa using e'
      subst hd
      have c3 : 1 < (x.length : Int) := of_decide_eq_true c
      have hn : ¬ x = "0" := by
        intro z
        rw [z] at c3
        exact absurd c3 (by decide)
      refine ⟨_, rfl, bad ?_⟩
      rw [e0]
      split
      · rw [if_pos ⟨hd1, hn⟩]
      · rfl
    · refine iteF_elim (go fun hh => c' ?_)
      rw [hd1] at hh
      have : d = 48 := Option.some.inj hh.1
      subst this
      exact decide_eq_true rfl
  intro hc
  refine iteF ?_
  refine ⟨_, rfl, x, rfl, for_str (fun i σ H2 => H2 = H ∧ (∃ v, σ = [some (.str x), some (.int ((digitsVal (x.cps.toList.take i) : Nat) : Int)), v]) ∧ ((x.cps.toList.take i).all fun c => decide (c ∈ figures.cps.toList)) = true) ⟨rfl, ⟨none, rfl⟩, rfl⟩ ?_ ?_⟩
  · rintro i c σ H2 hi ⟨rfl, ⟨v, rfl⟩, ha⟩
    have hc' : x.cps.toList[i]? = some c := by simpa using hi
    refine ⟨_, rfl, _, _, rfl, rfl, _, rfl, iteB (fun h => ?_) (fun h => ?_)⟩
    · have h' : (!(!(Builtin.Str.occurrences figures ⟨#[c]⟩ 0 figures.length 1).isEmpty)) = true := h
      rw [PySem.StrLaws.found_one] at h'
      refine ⟨_, rfl, bad ?_⟩
      rw [e0, if_neg]
      unfold isMade
      rw [List.all_eq_true]
      intro z
      have z' := z c (List.mem_of_getElem? hc')
      rw [z'] at h'
      cases h'
    · have h' : (!(!(Builtin.Str.occurrences figures ⟨#[c]⟩ 0 figures.length 1).isEmpty)) = false := h
      rw [PySem.StrLaws.found_one] at h'
      have hm : c ∈ figures.cps.toList := by simpa using h'
      have hf : ∀ d ∈ figures.cps.toList, 48 ≤ d ∧ d ≤ 57 := by decide +kernel
      refine ⟨_, rfl, _, _, rfl, rfl, IntMulOk.of_right (by decide), rfl, _, rfl, figures, ⟨#[c]⟩, rfl, rfl, _, _, rfl, rfl, rfl, ⟨some (.str ⟨#[c]⟩), ?_⟩, ?_⟩
      · rw [List.take_add_one, hc']
        show [some (V.str x), some (V.int ((digitsVal (List.take i x.cps.toList) : Int) * 10 + Txt.find figures ⟨#[c]⟩)), some (V.str ⟨#[c]⟩)] = [some (V.str x), some (V.int ((digitsVal (List.take i x.cps.toList ++ [c]) : Nat) : Int)), some (V.str ⟨#[c]⟩)]
        rw [digitsVal_snoc, fig_find c hm]
        have := hf c hm
        congr 4
      · rw [List.take_add_one, hc', List.all_append, ha]
        simpa using hm
  · rintro σ H2 ⟨rfl, ⟨v, rfl⟩, ha⟩
    rw [List.take_of_length_le (by simp)] at ha
    refine ⟨_, rfl, ?_⟩
    rw [List.take_of_length_le (by simp)]
    unfold lawNum at k
    have hm : isMade x figures = true := ha
    rw [e0, if_pos hm, if_neg hc] at k
    exact k
theorem num_pos {w : Str} {n : Int} (h : numIn w = some n) : 0 ≤ n := by
  unfold numIn at h
  repeat (split at h <;> try cases h)
  exact Int.natCast_nonneg _
theorem val_law (w : Str) : (valIn w = .non ∧ lawVal w = .int (-1)) ∨ (valIn w = lawVal w ∧ ¬ lawVal w = .int (-1) ∧ ¬ lawVal w = .non) := by
  unfold valIn lawVal lawNum
  by_cases h : isName w = true
  · rw [if_pos h, if_pos h]
    exact .inr ⟨rfl, fun z => (by cases z), fun z => (by cases z)⟩
  · rw [if_neg h, if_neg h]
    cases e : numIn w with
    | none => exact .inl ⟨rfl, rfl⟩
    | some n =>
      have := num_pos e
      refine .inr ⟨rfl, fun z => ?_, fun z => (by cases z)⟩
      have z' : n = -1 := by injection z
      omega
theorem filled4 (h v s u : Str) : filledV "set" [h, v, s, u] setKinds = if isName h = true ∧ inV (.str s) sgV = true ∧ ¬ lawVal v = .int (-1) ∧ ¬ lawVal u = .int (-1) then some [.str "set", .str h, lawVal v, .str s, lawVal u] else none := by
  have e : thingsIn [h, v, s, u] setKinds = [if isName h = true then .str h else .non, valIn v, if inV (.str s) sgV = true then .str s else .non, valIn u] := by
    show [thingIn h "name", thingIn v "value", thingIn s "sign", thingIn u "value"] = _
    rw [thing_value, thing_value]
    rfl
  have nn : ∀ w, eqV (valIn w) .non = decide (lawVal w = .int (-1)) := fun w => by
    rcases val_law w with ⟨a, b⟩ | ⟨a, b, c⟩
    · rw [a, b]
      decide
    · rw [a, decide_eq_false b]
      cases hx : lawVal w <;> first | rfl | exact absurd hx c
  unfold filledV
  rw [if_pos (show [h, v, s, u].length = setKinds.length from rfl), e]
  show (if (eqV (if isName h = true then V.str h else V.non) .non || (eqV (valIn v) .non || (eqV (if inV (.str s) sgV = true then V.str s else V.non) .non || (eqV (valIn u) .non || false)))) = true then none else some (V.str "set" :: _)) = _
  rw [nn, nn]
  by_cases h1 : isName h = true
  · rw [if_pos h1]
    by_cases h2 : inV (.str s) sgV = true
    · rw [if_pos h2]
      by_cases h3 : lawVal v = .int (-1)
      · rw [if_pos (by rw [decide_eq_true h3]; rfl), if_neg (fun z => z.2.2.1 h3)]
      · by_cases h4 : lawVal u = .int (-1)
        · rw [if_pos (by rw [decide_eq_true h4, Bool.true_or, Bool.or_true, Bool.or_true, Bool.or_true]), if_neg (fun z => z.2.2.2 h4)]
        · rw [decide_eq_false h3, decide_eq_false h4, if_neg (show ¬ (eqV (V.str h) V.non || (false || (eqV (V.str s) V.non || (false || false)))) = true from fun z => by cases z), if_pos ⟨h1, h2, h3, h4⟩]
          have f : ∀ w, ¬ lawVal w = .int (-1) → valIn w = lawVal w := fun w hw => by
            rcases val_law w with ⟨_, b⟩ | ⟨b, _⟩
            · exact absurd b hw
            · exact b
          rw [f v h3, f u h4]
    · rw [if_neg h2, if_pos (by show (_ || (_ || (true || _))) = true; simp), if_neg (fun z => h2 z.2.1)]
  · rw [if_neg h1, if_pos (by rfl), if_neg (fun z => h1 z.1)]
theorem form3 {h e v : Str} (hk : kinds h = none) : formV [h, e, v] = if e = "=" then filledV "set" [h, v, "+", "0"] setKinds else none := by
  rw [formV_set hk, if_neg (by simp)]
  by_cases he : e = "="
  · rw [if_pos he, if_pos (by rw [he]; rfl)]
    rfl
  · rw [if_neg he, if_neg (fun z => he (by simpa using z))]
theorem form5 {h e v s u : Str} (hk : kinds h = none) : formV [h, e, v, s, u] = if e = "=" then filledV "set" [h, v, s, u] setKinds else none := by
  rw [formV_set hk, if_neg (by simp)]
  by_cases he : e = "="
  · rw [if_pos he, if_pos (by rw [he]; rfl)]
    rfl
  · rw [if_neg he, if_neg (fun z => he (by simpa using z))]
theorem form_no {h : Str} {r : List Str} (hk : kinds h = none) (hr : ¬ (r.length = 2 ∨ r.length = 4)) : formV (h :: r) = none := by
  rw [formV_set hk]
  split
  · rfl
  · rename_i h3
    split
    · unfold filledV
      rw [if_neg]
      show ¬ (setWords h r.tail).length = 4
      unfold setWords
      have tl := List.length_tail (l := r)
      rw [List.length_cons] at h3 ⊢
      split
      · rw [List.length_append]
        show ¬ r.tail.length + 2 + 1 = 4
        omega
      · omega
    · rfl
theorem in35 (n : Int) : inV (.int n) [.int 3, .int 5] = decide (n = 3 ∨ n = 5) := by
  show ((3 : Int) == n || ((5 : Int) == n || false)) = _
  rw [Bool.eq_iff_iff]
  simp
  omega
theorem law_scal (w : Str) (n : Int) : scal (lawVal w) (.int n) = true := by
  unfold lawVal
  split <;> rfl
theorem ok__law_value (T : Tx P w K mg a) : FnOk P w K mg base CX0 3 a._law_value a.fd__law_value ["_law_word"] sp__law_value := by
  refine T.F__law_value.ok sc__law_value (fun vs H Q E h => ?_) (fun cdv A outer s H vs Q E hr h => ?_)
  · obtain ⟨_, rfl, _⟩ := h
    rfl
  obtain ⟨x, rfl, hx, k⟩ := h
  refine ⟨_, (pss_cons (ps_if (pt_val (pe_call (ok__law_is_name T) (hr.mono (by decide)) rfl T.m__law_is_name T.F__law_is_name.kp T.b__law_is_name .nil pass0 (pa_cons (pv 0) pa_nil))) (pss_one (ps_ret (pv 0))) pss_nil)
      (pss_one (ps_ret (pe_call (ok__law_number T) (hr.mono (by decide)) rfl T.m__law_number T.F__law_number.kp T.b__law_number .nil pass0 (pa_cons (pv 0) pa_nil))))), ?_⟩
  unfold lawVal at k
  refine ⟨_, rfl, x, rfl, hx, fun H1 s1 => ⟨_, rfl, ite2 (fun c => ?_) (fun c => ?_)⟩⟩
  · rw [if_pos c] at k
    exact ⟨_, rfl, k H1 s1⟩
  · rw [if_neg c] at k
    exact ⟨_, rfl, x, rfl, hx, k H1 s1⟩
theorem ok__law_judged_set (T : Tx P w K mg a) : FnOk P w K mg base CX0 4 a._law_judged_set a.fd__law_judged_set ["_law_words"] sp__law_judged_set := by
  refine T.F__law_judged_set.ok sc__law_judged_set (fun vs H Q E h => ?_) (fun cdv A outer s H vs Q E hr h => ?_)
  · obtain ⟨_, _, _, rfl, _⟩ := h
    rfl
  obtain ⟨l, h, r, rfl, hl, hlen, hw, hk, k⟩ := h
  refine ⟨_, (pss_cons (ps_if (PW.pt (pw_or (pt_cmpR op_notIn_seq (pe_callB call_len_seq rfl T.z_len PySem.boot_len (pa_cons (pv 0) pa_nil)) (pe_lst (pa_cons pe_int (pa_cons pe_int pa_nil))) (by with_unfolding_all rfl)) (pw_or (pt_not (pt_val (pe_call (ok__law_is_name T) (hr.mono (by decide)) rfl T.m__law_is_name T.F__law_is_name.kp T.b__law_is_name .nil pass0 (pa_cons (pe_ix ix_list (pv 0) pe_int (fun _ _ => rfl)) pa_nil)))) (pw_or1 (pt_cmpR op_ne (pe_ix ix_list (pv 0) pe_int (fun _ _ => rfl)) pe_str (nomark _)))))) (pss_one (ps_ret (pe_lst pa_nil))) pss_nil)
      (pss_cons (ps_set (i := 1) sc__law_judged_set.nd rfl (Or.inl rfl) (pe_call (ok__law_value T) (hr.mono (by decide)) rfl T.m__law_value T.F__law_value.kp T.b__law_value .nil pass0 (pa_cons (pe_ix ix_list (pv 0) pe_int (fun _ _ => rfl)) pa_nil)))
      (pss_cons (ps_set (i := 2) sc__law_judged_set.nd rfl (Or.inl rfl) pe_str)
      (pss_cons (ps_set (i := 3) sc__law_judged_set.nd rfl (Or.inl rfl) pe_int)
      (pss_cons (ps_if (pt_cmpR op_eq (pe_callB call_len_seq rfl T.z_len PySem.boot_len (pa_cons (pv 0) pa_nil)) pe_int (nomark _)) (pss_cons (ps_set (i := 2) sc__law_judged_set.nd rfl (Or.inl rfl) (pe_ix ix_list (pv 0) pe_int (fun _ _ => rfl)))
      (pss_one (ps_set (i := 3) sc__law_judged_set.nd rfl (Or.inl rfl) (pe_call (ok__law_value T) (hr.mono (by decide)) rfl T.m__law_value T.F__law_value.kp T.b__law_value .nil pass0 (pa_cons (pe_ix ix_list (pv 0) pe_int (fun _ _ => rfl)) pa_nil))))) pss_nil)
      (pss_cons (ps_if (PW.pt (pw_or (pt_cmpR op_notIn_seq (pv 2) (pe_lst (pa_const rfl)) (by with_unfolding_all rfl)) (pw_or (pt_cmpR op_eq (pv 1) (pe_un un_neg pe_int) (nomark _)) (pw_or1 (pt_cmpR op_eq (pv 3) (pe_un un_neg pe_int) (nomark _)))))) (pss_one (ps_ret (pe_lst pa_nil))) pss_nil)
      (pss_one (ps_ret (pe_lst (pa_cons (pe_tup (pa_cons pe_str (pa_cons (pe_ix ix_list (pv 0) pe_int (fun _ _ => rfl)) (pa_cons (pv 1) (pa_cons (pv 2) (pa_cons (pv 3) pa_nil)))))) pa_nil)))))))))), ?_⟩
  have wl : ∀ w ∈ h :: r, w.length ≤ 100000 := fun w hm => Nat.le_trans (hw w hm).2.1 (by decide)
  have no : ∀ H1, Same H H1 → formV (h :: r) = none → ∀ p, H1 p = none → Q (.ref p) (upd H1 p (.lst [])) := fun H1 s1 e p hp => by
    rw [e] at k
    exact k _ p (s1.trans (Same.new hp _)) upd_same
  refine ⟨_, rfl, l, _, rfl, .inl (SqL.of hl), by show 2 ≤ sizeLine; decide, fun l1 h1 => ?_⟩
  have s1 := Same.new h1 (.lst [.int 3, .int 5])
  refine ⟨l1, _, rfl, .inl (SqL.of upd_same), rfl, rfl, _, rfl, ?_⟩
  have ll : ((List.map V.str (h :: r)).length : Int) = r.length + 1 := by simp
  rw [ll, in35]
  by_cases hn : r.length = 2 ∨ r.length = 4
  rotate_left
  · rw [decide_eq_false (by omega)]
    exact iteT (iteT ⟨Nat.zero_le _, fun p hp => no _ s1 (form_no hk hn) p hp⟩)
  rw [decide_eq_true (by omega)]
  refine iteF ?_
  obtain ⟨e1, v, rest, rfl⟩ : ∃ e1 v rest, r = e1 :: v :: rest := by
    rcases r with _ | ⟨e1, _ | ⟨v, rest⟩⟩
    · simp at hn
    · simp at hn
    · exact ⟨e1, v, rest, rfl⟩
  have hl1 := s1 _ _ hl
  refine ⟨_, rfl, l, _, 0, _, rfl, rfl, SqL.of hl1, atI_nat (j := 0) rfl, h, rfl, wl h (by simp), fun H2 s2 => ⟨_, rfl, ?_⟩⟩
  obtain ⟨sg, u, hsu, ef⟩ : ∃ sg u : Str, ((rest = [] ∧ sg = "+" ∧ u = "0") ∨ rest = [sg, u]) ∧ formV (h :: e1 :: v :: rest) = if e1 = "=" then filledV "set" [h, v, sg, u] setKinds else none := by
    rcases rest with _ | ⟨sg, _ | ⟨u, _ | ⟨z, r'⟩⟩⟩
    · exact ⟨"+", "0", .inl ⟨rfl, rfl, rfl⟩, form3 hk⟩
    · simp at hn
    · exact ⟨sg, u, .inr rfl, form5 hk⟩
    · simp at hn
  rw [filled4] at ef
  have q2 := s1.trans s2
  have hl2 := s2 _ _ hl1
  by_cases c1 : isName h = true
  rotate_left
  · rw [Bool.eq_false_iff.mpr c1]
    refine iteT (iteT ⟨Nat.zero_le _, fun p hp => no _ q2 ?_ p hp⟩)
    rw [ef]
    split
    · rw [if_neg (fun z => c1 z.1)]
    · rfl
  rw [c1]
  refine iteF ⟨_, rfl, l, _, 1, _, rfl, rfl, SqL.of hl2, atI_nat (j := 1) rfl, rfl, _, rfl, ?_⟩
  by_cases c2 : e1 = "="
  rotate_left
  · rw [decide_eq_false (show ¬ V.str e1 = V.str "=" from fun z => c2 (by injection z))]
    refine iteT ⟨Nat.zero_le _, fun p hp => no _ q2 ?_ p hp⟩
    rw [ef, if_neg c2]
  rw [decide_eq_true (show V.str e1 = V.str "=" by rw [c2])]
  rw [if_pos c2] at ef
  refine iteF ⟨_, rfl, l, _, 2, _, rfl, rfl, SqL.of hl2, atI_nat (j := 2) rfl, v, rfl, wl v (by simp), fun H3 s3 => ?_⟩
  have q3 := q2.trans s3
  have hl3 := s3 _ _ hl2
  refine ⟨_, rfl, l, _, rfl, .inl (SqL.of hl3), rfl, _, rfl, ?_⟩
  have l0 : lawVal "0" = .int 0 := by decide +kernel
  rcases hsu with ⟨rfl, rfl, rfl⟩ | rfl
  · refine ifNo rfl ?_
    refine ⟨_, rfl, by decide, fun l2 h2 => ?_⟩
    have s5 := Same.new h2 (.lst [.str "+", .str "-", .str "*", .str "/", .str "<", .str "=", .str "&", .str "|", .str "^"])
    have q5 := q3.trans s5
    refine ⟨l2, _, rfl, .inl (SqL.of upd_same), rfl, rfl, _, rfl, ?_⟩
    by_cases c3 : inV (.str "+") sgV = true
    rotate_left
    · rw [show inV (.str "+") [.str "+", .str "-", .str "*", .str "/", .str "<", .str "=", .str "&", .str "|", .str "^"] = false from Bool.eq_false_iff.mpr c3]
      exact iteT (iteT ⟨Nat.zero_le _, fun p hp => no _ q5 (ef.trans (if_neg fun z => c3 z.2.1)) p hp⟩)
    rw [show inV (.str "+") [.str "+", .str "-", .str "*", .str "/", .str "<", .str "=", .str "&", .str "|", .str "^"] = true from c3]
    refine iteF ⟨_, rfl, _, rfl, law_scal v _, _, rfl, ?_⟩
    by_cases c4 : lawVal v = .int (-1)
    · rw [decide_eq_true c4]
      exact iteT (iteT ⟨Nat.zero_le _, fun p hp => no _ q5 (ef.trans (if_neg fun z => z.2.2.1 c4)) p hp⟩)
    rw [decide_eq_false c4]
    refine iteF ⟨_, rfl, _, rfl, rfl, _, rfl, ?_⟩
    by_cases c5 : lawVal "0" = .int (-1)
    · exact absurd (l0.symm.trans c5) (by decide)
    refine iteF ?_
    have hl5 := s5 _ _ hl3
    refine ⟨_, rfl, l, _, 0, _, rfl, rfl, SqL.of hl5, atI_nat (j := 0) rfl, _, rfl, _, rfl, _, rfl, by show 5 ≤ sizeLine; decide, fun d hd => ⟨by show 1 ≤ sizeLine; decide, fun p hp => ?_⟩⟩
    rw [ef, if_pos ⟨c1, c3, c4, c5⟩] at k
    exact k _ p d (q5.trans ((Same.new hd _).trans (Same.new hp _))) upd_same (Same.new hp _ _ _ upd_same)
  · refine ifYes rfl ?_
    refine ⟨_, rfl, l, _, 3, _, rfl, rfl, SqL.of hl3, atI_nat (j := 3) rfl, ?_⟩
    refine ⟨_, rfl, l, _, 4, _, rfl, rfl, SqL.of hl3, atI_nat (j := 4) rfl, u, rfl, wl u (by simp), fun H4 s4 => ?_⟩
    have q4 := q3.trans s4
    have hl4 := s4 _ _ hl3
    refine ⟨_, rfl, by decide, fun l2 h2 => ?_⟩
    have s5 := Same.new h2 (.lst [.str "+", .str "-", .str "*", .str "/", .str "<", .str "=", .str "&", .str "|", .str "^"])
    have q5 := q4.trans s5
    refine ⟨l2, _, rfl, .inl (SqL.of upd_same), rfl, rfl, _, rfl, ?_⟩
    by_cases c3 : inV (.str sg) sgV = true
    rotate_left
    · rw [show inV (.str sg) [.str "+", .str "-", .str "*", .str "/", .str "<", .str "=", .str "&", .str "|", .str "^"] = false from Bool.eq_false_iff.mpr c3]
      exact iteT (iteT ⟨Nat.zero_le _, fun p hp => no _ q5 (ef.trans (if_neg fun z => c3 z.2.1)) p hp⟩)
    rw [show inV (.str sg) [.str "+", .str "-", .str "*", .str "/", .str "<", .str "=", .str "&", .str "|", .str "^"] = true from c3]
    refine iteF ⟨_, rfl, _, rfl, law_scal v _, _, rfl, ?_⟩
    by_cases c4 : lawVal v = .int (-1)
    · rw [decide_eq_true c4]
      exact iteT (iteT ⟨Nat.zero_le _, fun p hp => no _ q5 (ef.trans (if_neg fun z => z.2.2.1 c4)) p hp⟩)
    rw [decide_eq_false c4]
    refine iteF ⟨_, rfl, _, rfl, law_scal u _, _, rfl, ?_⟩
    by_cases c5 : lawVal u = .int (-1)
    · rw [decide_eq_true c5]
      exact iteT ⟨Nat.zero_le _, fun p hp => no _ q5 (ef.trans (if_neg fun z => z.2.2.2 c5)) p hp⟩
    rw [decide_eq_false c5]
    refine iteF ?_
    have hl5 := s5 _ _ hl4
    refine ⟨_, rfl, l, _, 0, _, rfl, rfl, SqL.of hl5, atI_nat (j := 0) rfl, _, rfl, _, rfl, _, rfl, by show 5 ≤ sizeLine; decide, fun d hd => ⟨by show 1 ≤ sizeLine; decide, fun p hp => ?_⟩⟩
    rw [ef, if_pos ⟨c1, c3, c4, c5⟩] at k
    exact k _ p d (q5.trans ((Same.new hd _).trans (Same.new hp _))) upd_same (Same.new hp _ _ _ upd_same)
theorem told_rep {H Hf : Hp} {Q : VK} {o : Option (List V)} {xs : List V} {b : Bool} {d p : Addr} (k : ToldJ H Q o) (e : o = if b = true then some xs else none) (s : Same H Hf) (hd : Hf d = some (.tup xs)) (hp : Hf p = none) : Q (.ref p) (upd Hf p (.lst (List.replicate (if b = true then (1 : Int) else 0).toNat [V.ref d]).flatten)) := by
  subst e
  cases b with
  | true => exact k _ p d (s.trans (Same.new hp _)) upd_same (Same.new hp _ _ _ hd)
  | false => exact k _ p (s.trans (Same.new hp _)) upd_same
theorem rep_small {b : Bool} {xs : List V} (h : xs.length = 1) : -(2 ^ 63) ≤ (if b = true then (1 : Int) else 0) ∧ (if b = true then (1 : Int) else 0) < 2 ^ 63 ∧ xs.length * (if b = true then (1 : Int) else 0).toNat ≤ sizeLine := by
  rw [h]
  cases b <;> exact ⟨by decide, by decide, by decide⟩
theorem form_k0 {h : Str} {r : List Str} (hk : kinds h = some []) : formV (h :: r) = if decide (V.int ((h :: r).length : Int) = V.int 1) = true then some [.str h] else none := by
  rw [formV_kw hk]
  cases r with
  | nil => rfl
  | cons x r =>
    rw [if_neg]
    · rfl
    · intro z
      have := of_decide_eq_true z
      injection this with z
      simp at z
      omega
theorem form_k1 {h : Str} {r : List Str} (hk : kinds h = some (["name"] : List Str)) : (¬ r.length = 1 ∧ formV (h :: r) = none) ∨ ∃ x, r = [x] ∧ formV (h :: r) = if isName x = true then some ((h :: r).map V.str) else none := by
  rw [formV_kw hk]
  rcases r with _ | ⟨x, _ | ⟨y, r⟩⟩
  · exact .inl ⟨by decide, rfl⟩
  · refine .inr ⟨x, rfl, ?_⟩
    show (if inV .non [if isName x = true then V.str x else .non] = true then none else some (V.str h :: [if isName x = true then V.str x else .non])) = _
    by_cases c : isName x = true
    · rw [if_pos c, if_pos c]
      rfl
    · rw [if_neg c, if_neg c]
      rfl
  · exact .inl ⟨by simp, by unfold filledV; rw [if_neg (by simp)]⟩
theorem form_k2 {h : Str} {r : List Str} (hk : kinds h = some (["name", "name"] : List Str)) : (¬ r.length = 2 ∧ formV (h :: r) = none) ∨ ∃ x y, r = [x, y] ∧ formV (h :: r) = if isName x = true ∧ isName y = true then some ((h :: r).map V.str) else none := by
  rw [formV_kw hk]
  rcases r with _ | ⟨x, _ | ⟨y, _ | ⟨z, r⟩⟩⟩
  · exact .inl ⟨by decide, rfl⟩
  · exact .inl ⟨by simp, rfl⟩
  · refine .inr ⟨x, y, rfl, ?_⟩
    show (if inV .non [if isName x = true then V.str x else .non, if isName y = true then V.str y else .non] = true then none else some (V.str h :: [if isName x = true then V.str x else .non, if isName y = true then V.str y else .non])) = _
    by_cases c : isName x = true
    · by_cases c' : isName y = true
      · rw [if_pos c, if_pos c', if_neg (show ¬ inV .non [V.str x, V.str y] = true from fun z => by cases z), if_pos ⟨c, c'⟩]
        rfl
      · rw [if_pos c, if_neg c', if_pos (show inV .non [V.str x, .non] = true from rfl), if_neg (fun z => c' z.2)]
    · rw [if_neg c, if_pos (show inV .non [V.non, if isName y = true then V.str y else V.non] = true from rfl), if_neg (fun z => c z.1)]
  · exact .inl ⟨by simp, by unfold filledV; rw [if_neg (by simp)]⟩
theorem within_law (w : Str) (lo hi : Int) (h0 : 0 ≤ lo) : withinV (numIn w) lo hi = if lo ≤ lawNum w ∧ lawNum w ≤ hi then .int (lawNum w) else .non := by
  unfold withinV lawNum
  cases e : numIn w with
  | none =>
    show V.non = if lo ≤ (-1 : Int) ∧ (-1 : Int) ≤ hi then V.int (-1) else V.non
    rw [if_neg (show ¬ (lo ≤ (-1 : Int) ∧ (-1 : Int) ≤ hi) by omega)]
  | some n =>
    show (if n < lo then V.non else if hi < n then V.non else V.int n) = if lo ≤ n ∧ n ≤ hi then V.int n else V.non
    by_cases c : n < lo
    · rw [if_pos c, if_neg (by omega)]
    · rw [if_neg c]
      by_cases c' : hi < n
      · rw [if_pos c', if_neg (by omega)]
      · rw [if_neg c', if_pos (by omega)]
theorem form_kr {r : List Str} : (¬ r.length = 1 ∧ formV ("repeat" :: r) = none) ∨ ∃ x, r = [x] ∧ formV ("repeat" :: r) = if 0 ≤ lawNum x ∧ lawNum x ≤ 99 then some [.str "repeat", .int (lawNum x)] else none := by
  rw [formV_kw (show kinds "repeat" = some (["rounds"] : List Str) by decide +kernel)]
  rcases r with _ | ⟨x, _ | ⟨y, r⟩⟩
  · exact .inl ⟨by decide, rfl⟩
  · refine .inr ⟨x, rfl, ?_⟩
    have e : thingIn x "rounds" = withinV (numIn x) 0 99 := by
      unfold thingIn
      rw [if_neg (by decide), if_neg (by decide), if_neg (by decide), if_neg (by decide)]
    show (if inV .non [thingIn x "rounds"] = true then none else some (V.str "repeat" :: [thingIn x "rounds"])) = _
    rw [e, within_law _ _ _ (by decide)]
    by_cases c : 0 ≤ lawNum x ∧ lawNum x ≤ 99
    · rw [if_pos c, if_pos c]
      rfl
    · rw [if_neg c, if_neg c]
      rfl
  · exact .inl ⟨by simp, by unfold filledV; rw [if_neg (by simp)]⟩
theorem form_ks {r : List Str} : (¬ r.length = 2 ∧ formV ("store" :: r) = none) ∨ ∃ x y, r = [x, y] ∧ formV ("store" :: r) = if isName x = true ∧ 1 ≤ lawNum y ∧ lawNum y ≤ 2000 then some [.str "store", .str x, .int (lawNum y)] else none := by
  rw [formV_kw (show kinds "store" = some (["name", "length"] : List Str) by decide +kernel)]
  rcases r with _ | ⟨x, _ | ⟨y, _ | ⟨z, r⟩⟩⟩
  · exact .inl ⟨by decide, rfl⟩
  · exact .inl ⟨by simp, rfl⟩
  · refine .inr ⟨x, y, rfl, ?_⟩
    have e : thingIn y "length" = withinV (numIn y) 1 2000 := by
      unfold thingIn
      rw [if_neg (by decide), if_neg (by decide), if_neg (by decide), if_pos rfl]
    show (if inV .non [if isName x = true then V.str x else .non, thingIn y "length"] = true then none else some (V.str "store" :: [if isName x = true then V.str x else .non, thingIn y "length"])) = _
    rw [e, within_law _ _ _ (by decide)]
    by_cases c : isName x = true
    · by_cases c' : 1 ≤ lawNum y ∧ lawNum y ≤ 2000
      · rw [if_pos c, if_pos c', if_neg (show ¬ inV .non [V.str x, V.int (lawNum y)] = true from fun z => by cases z), if_pos ⟨c, c'⟩]
      · rw [if_pos c, if_neg c', if_pos (show inV .non [V.str x, .non] = true from rfl), if_neg (fun z => c' z.2)]
    · rw [if_neg c, if_pos (show inV .non [V.non, if 1 ≤ lawNum y ∧ lawNum y ≤ 2000 then V.int (lawNum y) else V.non] = true from rfl), if_neg (fun z => c z.1)]
  · exact .inl ⟨by simp, by unfold filledV; rw [if_neg (by simp)]⟩
theorem cut_two (h : Str) (r : List Str) : cutV ((h :: r).map V.str) none (some 2) = (h :: r.take 1).map V.str := by
  have e : cutV ((h :: r).map V.str) none (some 2) = ((h :: r).map V.str).take (min 2 ((h :: r).map V.str).length) := rfl
  rw [e, ← List.map_take]
  congr 1
  rcases r with _ | ⟨x, r⟩
  · rfl
  · rw [List.length_map, List.length_cons, List.length_cons, Nat.min_eq_left (by omega)]
    rfl
theorem at_last (h : Str) (r : List Str) : ∃ wl ∈ h :: r, atI ((h :: r).map V.str) (-1) = some (.str wl) ∧ (∀ x, r = [x] → wl = x) ∧ ∀ x y, r = [x, y] → wl = y := by
  refine ⟨(h :: r).getLast (by simp), List.getLast_mem _, ?_, fun x e => by subst e; rfl, fun x y e => by subst e; rfl⟩
  have e := List.dropLast_concat_getLast (l := h :: r) (by simp)
  have e2 : (h :: r).map V.str = (h :: r).dropLast.map V.str ++ [V.str ((h :: r).getLast (by simp))] := by
    rw [← List.map_singleton, ← List.map_append, e]
  rw [e2]
  exact atI_last _ _
theorem ok__law_judged (T : Tx P w K mg a) : FnOk P w K mg base CX0 5 a._law_judged a.fd__law_judged ["_law_words"] sp__law_judged := by
  refine T.F__law_judged.ok sc__law_judged (fun vs H Q E h => ?_) (fun cdv A outer s H vs Q E hr h => ?_)
  · obtain ⟨_, _, rfl, _⟩ := h
    rfl
  obtain ⟨l, ws, rfl, hl, hlen, hw, k⟩ := h
  refine ⟨_, (pss_cons (ps_set (i := 1) sc__law_judged.nd rfl (Or.inl rfl) (pe_callB call_len_seq rfl T.z_len PySem.boot_len (pa_cons (pv 0) pa_nil)))
      (pss_cons (ps_if (pt_cmpR op_eq (pv 1) pe_int (nomark _)) (pss_one (ps_ret (pe_lst (pa_cons pe_non pa_nil)))) pss_nil)
      (pss_cons (ps_set (i := 2) sc__law_judged.nd rfl (Or.inl rfl) (pe_ix ix_list (pv 0) pe_int (fun _ _ => rfl)))
      (pss_cons (ps_setcomp (i := 3) sc__law_judged.nd rfl (Or.inl rfl) (k := 1) (Nc := ["_law_word"]) (js := []) (show CompSc (defScope s__law_judged) ["_law_words", "_law_size", "_law_head", "_law_names", "_law_many", "_law_good"] _ 1 ["_law_word"] [] from CompSc.mk rfl (by decide +kernel) (by decide +kernel) (by decide +kernel) rfl (by decide +kernel)) rfl (pi_list (pv 0)) (fun _ _ _ _ _ => (pg_name (i := 0) (show List.Nodup (["_law_word"] : List Str) from by decide +kernel) rfl (Or.inl rfl))) (fun _ _ _ _ _ => pts_nil) (fun _ _ _ _ _ => (pe_call (ok__law_is_name T) (hr.mono (by decide)) rfl T.m__law_is_name T.F__law_is_name.kp T.b__law_is_name .nil pass0 (pa_cons (pv 0) pa_nil))))
      (pss_cons (ps_if (pt_cmpR op_in_seq (pv 2) (pe_lst (pa_cons pe_str (pa_cons pe_str pa_nil))) (by with_unfolding_all rfl)) (pss_one (ps_ret (pe_op op_rep (pe_lst (pa_cons (pe_tup (pa_cons (pv 2) pa_nil)) pa_nil)) (pe_callTy call_int1 rfl T.z_int PyProof.Rows.Boot.«int» (pa_cons (pe_cmpR op_eq (pv 1) pe_int (nomark _)) pa_nil))))) pss_nil)
      (pss_cons (ps_if (pt_cmpR op_in_seq (pv 2) (pe_lst (pa_const rfl)) (by with_unfolding_all rfl)) (pss_one (ps_ret (pe_op op_rep (pe_lst (pa_cons (pe_callTy call_tuple_of rfl T.z_tuple PyProof.Rows.Boot.«tuple» (pa_cons (pv 0) pa_nil)) pa_nil)) (pe_callTy call_int1 rfl T.z_int PyProof.Rows.Boot.«int» (pa_cons (pe_and (pe_cmpR op_eq (pv 1) pe_int (nomark _)) (pe_one (pe_ix ix_list (pv 3) pe_int (fun _ _ => rfl)))) pa_nil))))) pss_nil)
      (pss_cons (ps_if (pt_cmpR op_in_seq (pv 2) (pe_lst (pa_cons pe_str (pa_cons pe_str pa_nil))) (by with_unfolding_all rfl)) (pss_one (ps_ret (pe_op op_rep (pe_lst (pa_cons (pe_callTy call_tuple_of rfl T.z_tuple PyProof.Rows.Boot.«tuple» (pa_cons (pv 0) pa_nil)) pa_nil)) (pe_callTy call_int1 rfl T.z_int PyProof.Rows.Boot.«int» (pa_cons (pe_and (pe_cmpR op_eq (pv 1) pe_int (nomark _)) (pe_and (pe_ix ix_list (pv 3) pe_int (fun _ _ => rfl)) (pe_one (pe_ix ix_list (pv 3) pe_int (fun _ _ => rfl))))) pa_nil))))) pss_nil)
      (pss_cons (ps_set (i := 4) sc__law_judged.nd rfl (Or.inl rfl) (pe_call (ok__law_number T) (hr.mono (by decide)) rfl T.m__law_number T.F__law_number.kp T.b__law_number .nil pass0 (pa_cons (pe_ix ix_list (pv 0) (pe_un un_neg pe_int) (fun _ _ => rfl)) pa_nil)))
      (pss_cons (ps_if (pt_cmpR op_eq (pv 2) pe_str (nomark _)) (pss_one (ps_ret (pe_op op_rep (pe_lst (pa_cons (pe_tup (pa_cons (pv 2) (pa_cons (pv 4) pa_nil))) pa_nil)) (pe_callTy call_int1 rfl T.z_int PyProof.Rows.Boot.«int» (pa_cons (pe_and (pe_cmpR op_eq (pv 1) pe_int (nomark _)) (pe_and (pe_cmpR oi_le pe_int (pv 4) (nomark _)) (pe_one (pe_cmpR oi_le (pv 4) pe_int (nomark _))))) pa_nil))))) pss_nil)
      (pss_cons (ps_if (pt_cmpR op_eq (pv 2) pe_str (nomark _)) (pss_cons (ps_set (i := 5) sc__law_judged.nd rfl (Or.inl rfl) (pe_and (pe_cmpR op_eq (pv 1) pe_int (nomark _)) (pe_and (pe_ix ix_list (pv 3) pe_int (fun _ _ => rfl)) (pe_and (pe_cmpR oi_le pe_int (pv 4) (nomark _)) (pe_one (pe_cmpR oi_le (pv 4) pe_int (nomark _)))))))
      (pss_one (ps_ret (pe_op op_rep (pe_lst (pa_cons (pe_op op_catT (pe_callTy call_tuple_of rfl T.z_tuple PyProof.Rows.Boot.«tuple» (pa_cons (pe_slice sl_list (pv 0) po_none (po_some pe_int)) pa_nil)) (pe_tup (pa_cons (pv 4) pa_nil))) pa_nil)) (pe_callTy call_int1 rfl T.z_int PyProof.Rows.Boot.«int» (pa_cons (pv 5) pa_nil)))))) pss_nil)
      (pss_one (ps_ret (pe_call (ok__law_judged_set T) (hr.mono (by decide)) rfl T.m__law_judged_set T.F__law_judged_set.kp T.b__law_judged_set .nil pass0 (pa_cons (pv 0) pa_nil)))))))))))))), ?_⟩
  refine ⟨_, rfl, l, _, rfl, .inl (SqL.of hl), ?_⟩
  refine ⟨_, rfl, rfl, _, rfl, ?_⟩
  rcases ws with _ | ⟨h, r⟩
  · refine ifYes rfl ⟨by show 1 ≤ sizeLine; decide, fun p hp => ?_⟩
    rcases k with ⟨_, k⟩ | ⟨z, _⟩
    · exact k _ p (Same.new hp _) upd_same
    · exact absurd rfl z
  have k : ToldJ H Q (formV (h :: r)) := by
    rcases k with ⟨z, _⟩ | ⟨_, k⟩
    · cases z
    · exact k
  refine ifNo (decide_eq_false fun z => by injection z with z; simp at z; omega) ?_
  have wl : ∀ w ∈ h :: r, w.length ≤ 100000 := fun w hm => Nat.le_trans (hw w hm).2.1 (by decide)
  refine ⟨_, rfl, l, _, 0, _, rfl, rfl, SqL.of hl, atI_nat (j := 0) rfl, ?_⟩
  refine ⟨_, rfl, l, rfl, ⟨_, SqL.of hl⟩, ?_⟩
  refine comp_list0 (K := K) (a := l) (xs := (h :: r).map V.str) (fun i ys σ H2 => (∃ v, σ = [v]) ∧ Same H H2 ∧ ys = ((h :: r).take i).map fun w => V.bl (isName w)) ⟨⟨_, rfl⟩, Same.refl _, rfl⟩ ?_ (len_le_line (m := 1000) (by rw [List.length_map]; omega)) ?_ ?_ ?_
  · rintro i ys σ H2 _ ⟨_, _, rfl⟩
    rw [List.length_map, List.length_take]
    omega
  · rintro i ys σ H2 ⟨_, s2, _⟩
    exact SqL.of (s2 _ _ hl)
  · rintro i x ys σ H2 hx ⟨⟨v, rfl⟩, s2, rfl⟩
    rw [List.getElem?_map] at hx
    obtain ⟨z, hz, rfl⟩ := Option.map_eq_some_iff.mp hx
    refine ⟨_, rfl, z, rfl, wl z (List.mem_of_getElem? hz), fun H3 s3 => ⟨⟨_, rfl⟩, s2.trans s3, ?_⟩⟩
    rw [List.take_add_one, hz, List.map_append]
    rfl
  rintro ys σ2 H2 ⟨_, s2, rfl⟩ ln hln
  rw [List.length_map, List.take_length]
  have e3 := Same.new hln (.lst ((h :: r).map fun w => V.bl (isName w)))
  have q3 := s2.trans e3
  have n3 : upd H2 ln (.lst ((h :: r).map fun w => V.bl (isName w))) ln = some (.lst ((h :: r).map fun w => V.bl (isName w))) := upd_same
  generalize upd H2 ln (.lst ((h :: r).map fun w => V.bl (isName w))) = H3 at e3 q3 n3 ⊢
  refine ⟨_, rfl, by show 2 ≤ sizeLine; decide, fun la ha => ⟨la, _, rfl, .inl (SqL.of upd_same), rfl, rfl, _, rfl, ?_⟩⟩
  have s4 := Same.new ha (.lst [.str "else", .str "end"])
  have q4 := q3.trans s4
  have n4 := s4 _ _ n3
  generalize upd H3 la (.lst [.str "else", .str "end"]) = H4 at s4 q4 n4 ⊢
  rw [show inV (V.str h) [V.str "else", V.str "end"] = decide (h ∈ (["else", "end"] : List Str)) from in_str (ks := ["else", "end"])]
  refine ite2 (fun c => ?_) (fun c => ?_)
  · have hk : kinds h = some [] := by
      have : ∀ h ∈ (["else", "end"] : List Str), kinds h = some [] := by decide +kernel
      exact this h (of_decide_eq_true c)
    refine ⟨_, rfl, by show 1 ≤ sizeLine; decide, fun d hd => ⟨by show 1 ≤ sizeLine; decide, fun lp hlp => ?_⟩⟩
    have s5 := (Same.new hd (.tup [.str h])).trans (Same.new hlp (.lst [.ref d]))
    obtain ⟨r1, r2, r3⟩ := rep_small (b := decide (V.int ((h :: r).length : Int) = V.int 1)) (xs := [V.ref d]) rfl
    exact ⟨_, rfl, rfl, .inr ⟨_, rfl, lp, _, _, rfl, rfl, upd_same, r1, r2, r3, fun p hp => told_rep k (form_k0 hk) (q4.trans s5) (Same.new hlp _ _ _ upd_same) hp⟩⟩
  refine ⟨_, rfl, by decide, fun lb hb => ⟨lb, _, rfl, .inl (SqL.of upd_same), rfl, rfl, _, rfl, ?_⟩⟩
  have s5 := Same.new hb (.lst [.str "ask", .str "give", .str "if", .str "while"])
  have q5 := q4.trans s5
  have n5 := s5 _ _ n4
  generalize upd H4 lb (.lst [.str "ask", .str "give", .str "if", .str "while"]) = H5 at s5 q5 n5 ⊢
  rw [show inV (V.str h) [V.str "ask", V.str "give", V.str "if", V.str "while"] = decide (h ∈ (["ask", "give", "if", "while"] : List Str)) from in_str (ks := ["ask", "give", "if", "while"])]
  refine ite2 (fun c1 => ?_) (fun c1 => ?_)
  · have hk : kinds h = some (["name"] : List Str) := by
      have : ∀ h ∈ (["ask", "give", "if", "while"] : List Str), kinds h = some (["name"] : List Str) := by decide +kernel
      exact this h (of_decide_eq_true c1)
    refine ⟨_, rfl, l, _, rfl, .inl ⟨SqL.of (q5 _ _ hl), fun d hd => ⟨by show 1 ≤ sizeLine; decide, fun lp hlp => ?_⟩⟩⟩
    have s6 := (Same.new hd (.tup ((h :: r).map V.str))).trans (Same.new hlp (.lst [.ref d]))
    refine ⟨_, rfl, rfl, _, rfl, ?_⟩
    rcases form_k1 (r := r) hk with ⟨hn, ef⟩ | ⟨x, rfl, ef⟩
    · rw [decide_eq_false (show ¬ V.int ((h :: r).length : Int) = V.int 2 from fun z => by injection z with z; rw [List.length_cons] at z; omega)]
      obtain ⟨r1, r2, r3⟩ := rep_small (b := false) (xs := [V.ref d]) rfl
      exact iteF (.inr ⟨false, rfl, lp, _, _, rfl, rfl, upd_same, r1, r2, r3, fun p hp => told_rep (b := false) k ef (q5.trans s6) (Same.new hlp _ _ _ upd_same) hp⟩)
    · obtain ⟨r1, r2, r3⟩ := rep_small (b := isName x) (xs := [V.ref d]) rfl
      exact ifYes rfl ⟨_, rfl, ln, _, 1, _, rfl, rfl, SqL.of (s6 _ _ n5), atI_nat (j := 1) rfl, .inr ⟨isName x, rfl, lp, _, _, rfl, rfl, upd_same, r1, r2, r3, fun p hp => told_rep (b := isName x) k ef (q5.trans s6) (Same.new hlp _ _ _ upd_same) hp⟩⟩
  refine ⟨_, rfl, by show 2 ≤ sizeLine; decide, fun lc hc => ⟨lc, _, rfl, .inl (SqL.of upd_same), rfl, rfl, _, rfl, ?_⟩⟩
  have s6 := Same.new hc (.lst [.str "put", .str "get"])
  have q6 := q5.trans s6
  have n6 := s6 _ _ n5
  generalize upd H5 lc (.lst [.str "put", .str "get"]) = H6 at s6 q6 n6 ⊢
  rw [show inV (V.str h) [V.str "put", V.str "get"] = decide (h ∈ (["put", "get"] : List Str)) from in_str (ks := ["put", "get"])]
  refine ite2 (fun c2 => ?_) (fun c2 => ?_)
  · have hk : kinds h = some (["name", "name"] : List Str) := by
      have : ∀ h ∈ (["put", "get"] : List Str), kinds h = some (["name", "name"] : List Str) := by decide +kernel
      exact this h (of_decide_eq_true c2)
    refine ⟨_, rfl, l, _, rfl, .inl ⟨SqL.of (q6 _ _ hl), fun d hd => ⟨by show 1 ≤ sizeLine; decide, fun lp hlp => ?_⟩⟩⟩
    have s7 := (Same.new hd (.tup ((h :: r).map V.str))).trans (Same.new hlp (.lst [.ref d]))
    refine ⟨_, rfl, rfl, _, rfl, ?_⟩
    obtain ⟨r1, r2, r3⟩ := rep_small (b := false) (xs := [V.ref d]) rfl
    rcases form_k2 (r := r) hk with ⟨hn, ef⟩ | ⟨x, y, rfl, ef⟩
    · rw [decide_eq_false (show ¬ V.int ((h :: r).length : Int) = V.int 3 from fun z => by injection z with z; rw [List.length_cons] at z; omega)]
      exact iteF (.inr ⟨false, rfl, lp, _, _, rfl, rfl, upd_same, r1, r2, r3, fun p hp => told_rep (b := false) k ef (q6.trans s7) (Same.new hlp _ _ _ upd_same) hp⟩)
    · refine ifYes rfl ⟨_, rfl, ln, _, 1, _, rfl, rfl, SqL.of (s7 _ _ n6), atI_nat (j := 1) rfl, _, rfl, ?_⟩
      by_cases c3 : isName x = true
      · obtain ⟨r1, r2, r3⟩ := rep_small (b := isName y) (xs := [V.ref d]) rfl
        rw [c3]
        refine iteT ⟨_, rfl, ln, _, 2, _, rfl, rfl, SqL.of (s7 _ _ n6), atI_nat (j := 2) rfl, .inr ⟨isName y, rfl, lp, _, _, rfl, rfl, upd_same, r1, r2, r3, fun p hp => told_rep (b := isName y) k ?_ (q6.trans s7) (Same.new hlp _ _ _ upd_same) hp⟩⟩
        rw [ef]
        simp only [c3, true_and]
      · rw [Bool.eq_false_iff.mpr c3]
        exact iteF (.inr ⟨false, rfl, lp, _, _, rfl, rfl, upd_same, r1, r2, r3, fun p hp => told_rep (b := false) k (ef.trans (if_neg fun z => c3 z.1)) (q6.trans s7) (Same.new hlp _ _ _ upd_same) hp⟩)
  obtain ⟨wz, wm, ea, w1, w2⟩ := at_last h r
  refine ⟨_, rfl, _, rfl, l, _, _, _, rfl, rfl, SqL.of (q6 _ _ hl), ea, wz, rfl, wl wz wm, ?_⟩
  refine ⟨_, rfl, rfl, _, rfl, ite2 (fun c3 => ?_) (fun c3 => ?_)⟩
  · cases str_yes c3
    refine ⟨_, rfl, _, rfl, by show 2 ≤ sizeLine; decide, fun d hd => ⟨by show 1 ≤ sizeLine; decide, fun lp hlp => ?_⟩⟩
    have s7 := (Same.new hd (.tup [.str "repeat", .int (lawNum wz)])).trans (Same.new hlp (.lst [.ref d]))
    refine ⟨_, rfl, rfl, _, rfl, ?_⟩
    obtain ⟨r1, r2, r3⟩ := rep_small (b := false) (xs := [V.ref d]) rfl
    rcases form_kr (r := r) with ⟨hn, ef⟩ | ⟨x, rfl, ef⟩
    · rw [decide_eq_false (show ¬ V.int (((("repeat" : Str) :: r).length : Nat) : Int) = V.int 2 from fun z => by injection z with z; rw [List.length_cons] at z; omega)]
      exact iteF (.inr ⟨false, rfl, lp, _, _, rfl, rfl, upd_same, r1, r2, r3, fun p hp => told_rep (b := false) k ef (q6.trans s7) (Same.new hlp _ _ _ upd_same) hp⟩)
    · have ez := w1 x rfl
      subst ez
      refine ifYes rfl ⟨_, rfl, _, _, rfl, rfl, _, rfl, ?_⟩
      by_cases c4 : 0 ≤ lawNum wz
      · obtain ⟨r1, r2, r3⟩ := rep_small (b := decide (lawNum wz ≤ 99)) (xs := [V.ref d]) rfl
        rw [decide_eq_true c4]
        refine iteT ⟨_, rfl, _, _, rfl, rfl, .inr ⟨decide (lawNum wz ≤ 99), rfl, lp, _, _, rfl, rfl, upd_same, r1, r2, r3, fun p hp => told_rep (b := decide (lawNum wz ≤ 99)) k ?_ (q6.trans s7) (Same.new hlp _ _ _ upd_same) hp⟩⟩
        rw [ef]
        simp only [c4, true_and, decide_eq_true_eq]
      · rw [decide_eq_false c4]
        exact iteF (.inr ⟨false, rfl, lp, _, _, rfl, rfl, upd_same, r1, r2, r3, fun p hp => told_rep (b := false) k (ef.trans (if_neg fun z => c4 z.1)) (q6.trans s7) (Same.new hlp _ _ _ upd_same) hp⟩)
  refine ⟨_, rfl, rfl, _, rfl, ite2 (fun c4 => ?_) (fun c4 => ?_)⟩
  · cases str_yes c4
    refine ⟨_, rfl, rfl, _, rfl, ?_⟩
    rcases form_ks (r := r) with ⟨hn, ef⟩ | ⟨x, y, er, ef⟩
    · rw [decide_eq_false (show ¬ V.int (((("store" : Str) :: r).length : Nat) : Int) = V.int 3 from fun z => by injection z with z; rw [List.length_cons] at z; omega)]
      refine iteF ?_
      refine ⟨_, rfl, _, rfl, l, _, rfl, SqL.of (q6 _ _ hl), fun ls hls => ⟨ls, _, rfl, .inl ⟨SqL.of upd_same, fun d1 hd1 => ?_⟩⟩⟩
      rw [cut_two] at hd1 ⊢
      refine ⟨_, rfl, by show 1 ≤ sizeLine; decide, fun d2 hd2 => ?_⟩
      refine ⟨d1, d2, _, _, rfl, rfl, SqT.of (Same.new hd2 _ _ _ upd_same), SqT.of upd_same, by simp, len_le_line (m := 1000) (by rw [List.length_map, List.length_cons, List.length_take]; show _ + 1 + 1 ≤ 1000; omega), (fun z => by cases z), fun _ d hd => ⟨by show 1 ≤ sizeLine; decide, fun lp hlp => ?_⟩⟩
      have s7 := (((Same.new hls (.lst ((("store" : Str) :: r.take 1).map V.str))).trans (Same.new hd1 (.tup ((("store" : Str) :: r.take 1).map V.str)))).trans (Same.new hd2 (.tup [.int (lawNum wz)]))).trans ((Same.new hd (.tup ((("store" : Str) :: r.take 1).map V.str ++ [.int (lawNum wz)]))).trans (Same.new hlp (.lst [.ref d])))
      obtain ⟨r1, r2, r3⟩ := rep_small (b := false) (xs := [V.ref d]) rfl
      exact ⟨_, rfl, .inr ⟨false, rfl, lp, _, _, rfl, rfl, upd_same, r1, r2, r3, fun p hp => told_rep (b := false) k (ef) (q6.trans s7) (Same.new hlp _ _ _ upd_same) hp⟩⟩
    have ez := w2 x y er
    have l3 : ((("store" : Str) :: r).length : Int) = 3 := by rw [er]; rfl
    rw [decide_eq_true (show V.int (((("store" : Str) :: r).length : Nat) : Int) = V.int 3 by rw [l3])]
    have nx : ((("store" : Str) :: r).map fun w => V.bl (isName w))[1]? = some (.bl (isName x)) := by rw [er]; rfl
    have ef : formV ("store" :: r) = if isName x = true ∧ 1 ≤ lawNum wz ∧ lawNum wz ≤ 2000 then some ((("store" : Str) :: r.take 1).map V.str ++ [.int (lawNum wz)]) else none := by
      rw [ef, ez, er]
      rfl
    refine iteT ⟨_, rfl, ln, _, 1, _, rfl, rfl, SqL.of n6, atI_nat (j := 1) nx, _, rfl, ?_⟩
    by_cases c5 : isName x = true
    rotate_left
    · rw [Bool.eq_false_iff.mpr c5]
      refine iteF ?_
      refine ⟨_, rfl, _, rfl, l, _, rfl, SqL.of (q6 _ _ hl), fun ls hls => ⟨ls, _, rfl, .inl ⟨SqL.of upd_same, fun d1 hd1 => ?_⟩⟩⟩
      rw [cut_two] at hd1 ⊢
      refine ⟨_, rfl, by show 1 ≤ sizeLine; decide, fun d2 hd2 => ?_⟩
      refine ⟨d1, d2, _, _, rfl, rfl, SqT.of (Same.new hd2 _ _ _ upd_same), SqT.of upd_same, by simp, len_le_line (m := 1000) (by rw [List.length_map, List.length_cons, List.length_take]; show _ + 1 + 1 ≤ 1000; omega), (fun z => by cases z), fun _ d hd => ⟨by show 1 ≤ sizeLine; decide, fun lp hlp => ?_⟩⟩
      have s7 := (((Same.new hls (.lst ((("store" : Str) :: r.take 1).map V.str))).trans (Same.new hd1 (.tup ((("store" : Str) :: r.take 1).map V.str)))).trans (Same.new hd2 (.tup [.int (lawNum wz)]))).trans ((Same.new hd (.tup ((("store" : Str) :: r.take 1).map V.str ++ [.int (lawNum wz)]))).trans (Same.new hlp (.lst [.ref d])))
      obtain ⟨r1, r2, r3⟩ := rep_small (b := false) (xs := [V.ref d]) rfl
      exact ⟨_, rfl, .inr ⟨false, rfl, lp, _, _, rfl, rfl, upd_same, r1, r2, r3, fun p hp => told_rep (b := false) k (ef.trans (if_neg fun z => c5 z.1)) (q6.trans s7) (Same.new hlp _ _ _ upd_same) hp⟩⟩
    rw [c5]
    refine iteT ⟨_, rfl, _, _, rfl, rfl, _, rfl, ?_⟩
    by_cases c6 : 1 ≤ lawNum wz
    rotate_left
    · rw [decide_eq_false c6]
      refine iteF ?_
      refine ⟨_, rfl, _, rfl, l, _, rfl, SqL.of (q6 _ _ hl), fun ls hls => ⟨ls, _, rfl, .inl ⟨SqL.of upd_same, fun d1 hd1 => ?_⟩⟩⟩
      rw [cut_two] at hd1 ⊢
      refine ⟨_, rfl, by show 1 ≤ sizeLine; decide, fun d2 hd2 => ?_⟩
      refine ⟨d1, d2, _, _, rfl, rfl, SqT.of (Same.new hd2 _ _ _ upd_same), SqT.of upd_same, by simp, len_le_line (m := 1000) (by rw [List.length_map, List.length_cons, List.length_take]; show _ + 1 + 1 ≤ 1000; omega), (fun z => by cases z), fun _ d hd => ⟨by show 1 ≤ sizeLine; decide, fun lp hlp => ?_⟩⟩
      have s7 := (((Same.new hls (.lst ((("store" : Str) :: r.take 1).map V.str))).trans (Same.new hd1 (.tup ((("store" : Str) :: r.take 1).map V.str)))).trans (Same.new hd2 (.tup [.int (lawNum wz)]))).trans ((Same.new hd (.tup ((("store" : Str) :: r.take 1).map V.str ++ [.int (lawNum wz)]))).trans (Same.new hlp (.lst [.ref d])))
      obtain ⟨r1, r2, r3⟩ := rep_small (b := false) (xs := [V.ref d]) rfl
      exact ⟨_, rfl, .inr ⟨false, rfl, lp, _, _, rfl, rfl, upd_same, r1, r2, r3, fun p hp => told_rep (b := false) k (ef.trans (if_neg fun z => c6 z.2.1)) (q6.trans s7) (Same.new hlp _ _ _ upd_same) hp⟩⟩
    rw [decide_eq_true c6]
    refine iteT ⟨_, rfl, _, _, rfl, rfl, ?_⟩
    have ef : formV ("store" :: r) = if decide (lawNum wz ≤ 2000) = true then some ((("store" : Str) :: r.take 1).map V.str ++ [.int (lawNum wz)]) else none := by
      rw [ef]
      simp only [c5, c6, true_and, decide_eq_true_eq]
    refine ⟨_, rfl, _, rfl, l, _, rfl, SqL.of (q6 _ _ hl), fun ls hls => ⟨ls, _, rfl, .inl ⟨SqL.of upd_same, fun d1 hd1 => ?_⟩⟩⟩
    rw [cut_two] at hd1 ⊢
    refine ⟨_, rfl, by show 1 ≤ sizeLine; decide, fun d2 hd2 => ?_⟩
    refine ⟨d1, d2, _, _, rfl, rfl, SqT.of (Same.new hd2 _ _ _ upd_same), SqT.of upd_same, by simp, len_le_line (m := 1000) (by rw [List.length_map, List.length_cons, List.length_take]; show _ + 1 + 1 ≤ 1000; omega), (fun z => by cases z), fun _ d hd => ⟨by show 1 ≤ sizeLine; decide, fun lp hlp => ?_⟩⟩
    have s7 := (((Same.new hls (.lst ((("store" : Str) :: r.take 1).map V.str))).trans (Same.new hd1 (.tup ((("store" : Str) :: r.take 1).map V.str)))).trans (Same.new hd2 (.tup [.int (lawNum wz)]))).trans ((Same.new hd (.tup ((("store" : Str) :: r.take 1).map V.str ++ [.int (lawNum wz)]))).trans (Same.new hlp (.lst [.ref d])))
    obtain ⟨r1, r2, r3⟩ := rep_small (b := decide (lawNum wz ≤ 2000)) (xs := [V.ref d]) rfl
    exact ⟨_, rfl, .inr ⟨decide (lawNum wz ≤ 2000), rfl, lp, _, _, rfl, rfl, upd_same, r1, r2, r3, fun p hp => told_rep (b := decide (lawNum wz ≤ 2000)) k (ef) (q6.trans s7) (Same.new hlp _ _ _ upd_same) hp⟩⟩
  have hk : kinds h = none := by
    have m : ∀ z ∈ kwS, ¬ h = z := fun z hz e => by
      subst e
      have : ∀ z ∈ kwS, z ∈ (["else", "end"] : List Str) ∨ z ∈ (["ask", "give", "if", "while"] : List Str) ∨ z ∈ (["put", "get"] : List Str) ∨ z = "repeat" ∨ z = "store" := by decide +kernel
      rcases this _ hz with q | q | q | q | q
      · exact c (decide_eq_true q)
      · exact c1 (decide_eq_true q)
      · exact c2 (decide_eq_true q)
      · exact str_no c3 q
      · exact str_no c4 q
    unfold kinds
    rw [if_neg (m _ (by decide)), if_neg (m _ (by decide)), if_neg (m _ (by decide)), if_neg (m _ (by decide)), if_neg (m _ (by decide)), if_neg (m _ (by decide)), if_neg (m _ (by decide)), if_neg (m _ (by decide)), if_neg (m _ (by decide)), if_neg (m _ (by decide))]
  rw [List.length_cons] at hlen
  refine ⟨_, rfl, l, h, r, rfl, q6 _ _ hl, by omega, hw, hk, ?_⟩
  unfold ToldJ at k ⊢
  cases e : formV (h :: r) with
  | none =>
    rw [e] at k
    exact fun H' p s hp => k H' p (q6.trans s) hp
  | some xs =>
    rw [e] at k
    exact fun H' p d s hp hd => k H' p d (q6.trans s) hp hd
theorem ok__law_sign_by (T : Tx P w K mg a) : FnOk P w K mg base CX0 1 a._law_sign_by a.fd__law_sign_by ["_law_n"] sp__law_sign_by := by
  refine T.F__law_sign_by.ok sc__law_sign_by (fun vs H Q E h => ?_) (fun cdv A outer s H vs Q E hr h => ?_)
  · obtain ⟨_, rfl, _⟩ := h
    rfl
  obtain ⟨n, rfl, n1, n2, q⟩ := h
  refine ⟨_, (pss_cons (ps_set (i := 1) sc__law_sign_by.nd rfl (Or.inl rfl) pe_str)
      (pss_cons (ps_set (i := 1) sc__law_sign_by.nd rfl (Or.inl rfl) (pe_op op_add_str (pv 1) pe_str))
      (pss_one (ps_ret (pe_ix ix_str (pv 1) (pe_op oi_mod (pv 0) pe_int) (fun _ _ => rfl)))))), ?_⟩
  refine ⟨_, rfl, _, _, rfl, rfl, (by decide +kernel), _, rfl, _, rfl, _, _, rfl, rfl, (by show (0 : Int) < 94; decide), ?_⟩
  have all : ∀ j : Fin 93, ∃ c : Fin 127, 33 ≤ c.val ∧ ((" !\"#$&'()*+,-./0123456789:;<=>?@ABCDEFGHIJKLMNOPQRSTUVWXYZ[\\]^_`" : Str) ++ ("abcdefghijklmnopqrstuvwxyz{|}~" : Str)).cps.toList[j.val + 1]? = some c.val := by decide +kernel
  obtain ⟨c, c1, c2⟩ := all ⟨n.toNat - 1, by omega⟩
  have en : n % 94 = ((n.toNat - 1 + 1 : Nat) : Int) := by omega
  rw [en]
  exact ⟨_, _, c.val, rfl, rfl, (by decide +kernel), atI_nat c2, q _ c1 c.2⟩
def od1 : List Str := ["=", "else", "end", "ask", "if", "while", "repeat", "give", "put", "get", "store", "x", "_"]
def od2 : List Str := ["0", "00", "01", "1", "99", "100", "2000", "2001", "0007", "-1", "+3", "1x", "x1"]
def od3 : List Str := ["a", "Ab", "a_b", "abcdefgh", "abcdefghi", "+", "+-", "==", "<=", "<", "|", "^^", "x="]
def od4 : List Str := [Txt.mul "9" 30, Txt.mul "9" 31, "1" ++ Txt.mul "0" 30]
def odds : List Str := od1 ++ od2 ++ od3 ++ od4
instance goodDec (w : Str) : Decidable (goodWord w) := by unfold goodWord; exact inferInstance
theorem odds_good : ∀ w ∈ odds, goodWord w := by decide +kernel
theorem ok__law_odd_by (T : Tx P w K mg a) : FnOk P w K mg base CX0 1 a._law_odd_by a.fd__law_odd_by ["_law_n"] sp__law_odd_by := by
  refine T.F__law_odd_by.ok sc__law_odd_by (fun vs H Q E h => ?_) (fun cdv A outer s H vs Q E hr h => ?_)
  · obtain ⟨_, rfl, _⟩ := h
    rfl
  obtain ⟨n, rfl, q⟩ := h
  refine ⟨_, (pss_cons (ps_set (i := 1) sc__law_odd_by.nd rfl (Or.inl rfl) (pe_lst (pa_const rfl)))
      (pss_cons (ps_set (i := 1) sc__law_odd_by.nd rfl (Or.inl rfl) (pe_op op_catS (pv 1) (pe_lst (pa_const rfl))))
      (pss_cons (ps_set (i := 1) sc__law_odd_by.nd rfl (Or.inl rfl) (pe_op op_catS (pv 1) (pe_lst (pa_const rfl))))
      (pss_cons (ps_set (i := 1) sc__law_odd_by.nd rfl (Or.inl rfl) (pe_op op_catS (pv 1) (pe_lst (pa_cons (pe_op op_mul_str pe_str pe_int) (pa_cons (pe_op op_mul_str pe_str pe_int) (pa_cons (pe_op op_add_str pe_str (pe_op op_mul_str pe_str pe_int)) pa_nil))))))
      (pss_one (ps_ret (pe_ix ix_list (pv 1) (pe_op oi_mod (pv 0) pe_int) (fun _ _ => rfl)))))))), ?_⟩
  refine ⟨by decide, fun l1 h1 => ⟨_, rfl, by decide, fun l2 h2 => ?_⟩⟩
  have s2 := (Same.new h1 (.lst (od1.map V.str))).trans (Same.new h2 (.lst (od2.map V.str)))
  refine ⟨l1, l2, od1.map V.str, od2.map V.str, rfl, rfl, SqL.of (Same.new h2 _ _ _ upd_same), SqL.of upd_same, by decide, fun l3 h3 => ?_⟩
  have s3 := s2.trans (Same.new h3 (.lst (od1.map V.str ++ od2.map V.str)))
  refine ⟨_, rfl, by decide, fun l4 h4 => ⟨l3, l4, od1.map V.str ++ od2.map V.str, od3.map V.str, rfl, rfl, SqL.of (Same.new h4 _ _ _ upd_same), SqL.of upd_same, by decide, fun l5 h5 => ?_⟩⟩
  have s5 := (s3.trans (Same.new h4 (.lst (od3.map V.str)))).trans (Same.new h5 (.lst ((od1.map V.str ++ od2.map V.str) ++ od3.map V.str)))
  refine ⟨_, rfl, _, _, rfl, rfl, mul_ok (by decide) (by decide) (by decide), _, _, rfl, rfl, mul_ok (by decide) (by decide) (by decide), _, _, rfl, rfl, mul_ok (by decide) (by decide) (by decide), _, _, rfl, rfl, by decide +kernel, by show 3 ≤ sizeLine; decide, fun l6 h6 => ⟨l5, l6, (od1.map V.str ++ od2.map V.str) ++ od3.map V.str, od4.map V.str, rfl, rfl, SqL.of (Same.new h6 _ _ _ upd_same), SqL.of upd_same, by decide, fun l7 h7 => ?_⟩⟩
  have s7 := (s5.trans (Same.new h6 (.lst (od4.map V.str)))).trans (Same.new h7 (.lst (((od1.map V.str ++ od2.map V.str) ++ od3.map V.str) ++ od4.map V.str)))
  have el : ((od1.map V.str ++ od2.map V.str) ++ od3.map V.str) ++ od4.map V.str = odds.map V.str := by
    unfold odds
    rw [List.map_append, List.map_append, List.map_append]
  obtain ⟨v, ev, mv⟩ := atI_ex (xs := odds.map V.str) (i := n % 42) (Int.emod_nonneg _ (by decide)) (by
    rw [List.length_map]
    exact Int.emod_lt_of_pos _ (by decide))
  obtain ⟨g, hg, rfl⟩ := List.mem_map.mp mv
  refine ⟨_, rfl, _, rfl, _, _, rfl, rfl, by decide, l7, _, _, _, rfl, rfl, SqL.of upd_same, by rw [el]; exact ev, ?_⟩
  exact q _ g s7 (odds_good g hg)
theorem comp_full {K : PySem.W.Frag} {a : Addr} {ws : List Str} {v : Option V} {H : Hp} {Fin : List V → Hp → Prop} (h : H a = some (.lst (ws.map V.str))) (hl : ws.length ≤ 1000) (k : Fin ((ws.filter fun w : Str => !decide (w = "")).map V.str) H) :
    ∃ W : Nat → Nat → List V → St → Hp → Prop, (∃ m, W 0 m [] [v] H) ∧ CompTurns (Itl K a) (gName 0) (tTest (tOp rNe (tVar 0) (tC (V.str "")))) (tVar 0) Fin W := by
  refine comp_list (K := K) (a := a) (xs := ws.map V.str) (fun i ys σ H2 => (∃ v, σ = [v]) ∧ H2 = H ∧ ys = ((ws.take i).filter fun w : Str => !decide (w = "")).map V.str) ⟨⟨_, rfl⟩, rfl, rfl⟩ ?_ (len_le_line (m := 1000) (by rw [List.length_map]; omega)) ?_ ?_ ?_
  · rintro i ys σ H2 _ ⟨_, _, rfl⟩
    rw [List.length_map]
    refine Nat.le_trans (List.length_filter_le _ _) ?_
    rw [List.length_take]
    exact Nat.min_le_left _ _
  · rintro i ys σ H2 ⟨_, rfl, _⟩
    exact SqL.of h
  · rintro i x ys σ H2 hx ⟨⟨v, rfl⟩, rfl, rfl⟩
    rw [List.getElem?_map] at hx
    obtain ⟨z, hz, rfl⟩ := Option.map_eq_some_iff.mp hx
    refine ⟨_, rfl, rfl, _, rfl, ?_⟩
    by_cases c : z = ""
    · rw [decide_eq_true (show V.str z = V.str "" by rw [c])]
      refine iteF ⟨⟨_, rfl⟩, rfl, ?_⟩
      rw [List.take_add_one, hz, List.filter_append]
      simp [c]
    · rw [decide_eq_false (show ¬ V.str z = V.str "" from fun e => c (by injection e))]
      refine iteT ⟨_, rfl, ⟨_, rfl⟩, rfl, ?_⟩
      rw [List.take_add_one, hz, List.filter_append]
      simp [c]
  · rintro ys σ H2 ⟨_, rfl, rfl⟩
    rw [List.length_map, List.take_length]
    exact k
theorem erase_map : ∀ (l : List Str) (k : Nat), (l.map V.str).eraseIdx k = (l.eraseIdx k).map V.str
  | [], _ => rfl
  | x :: l, 0 => rfl
  | x :: l, k + 1 => congrArg (V.str x :: ·) (erase_map l k)
theorem sl_from {x : Str} {k : Int} (h : 0 ≤ k) : Tr.sl (Txt.slice x (some k) none) = (Tr.sl x).drop k.toNat := by
  obtain ⟨n, rfl⟩ := Int.eq_ofNat_of_zero_le h
  rw [Tr.sl_slice]
  simp only [HT.sIx_none]
  rw [show (some (n : Int)) = some ((n : Nat) : Int) from rfl, HT.sIx_nat]
  show _ = (Tr.sl x).drop n
  have hl : x.length = (Tr.sl x).length := rfl
  rw [hl]
  rcases Nat.le_total n (Tr.sl x).length with c | c
  · rw [Nat.min_eq_left c]
    exact List.take_of_length_le (by rw [List.length_drop]; exact Nat.le_refl _)
  · rw [Nat.min_eq_right c, List.drop_of_length_le (Nat.le_refl _), List.drop_of_length_le c]
    exact List.take_nil
def EOk (w : Str) : Prop := w = "" ∨ wordOk w
theorem new4 {wd : Str} {c : Nat} {sp : Int} (h : goodWord wd) (c1 : 33 ≤ c) (c2 : c < 127) (s0 : 0 ≤ sp) : wordOk (Txt.slice wd none (some sp) ++ (⟨#[c]⟩ : Str) ++ Txt.slice wd (some sp) none) := by
  have e : Tr.sl (Txt.slice wd none (some sp) ++ (⟨#[c]⟩ : Str) ++ Txt.slice wd (some sp) none) = (Tr.sl wd).take sp.toNat ++ [c] ++ (Tr.sl wd).drop sp.toNat := by
    rw [Tr.sl_app, Tr.sl_app, Tr.sl_take s0, sl_from s0]
  have hl : wd.length = (Tr.sl wd).length := rfl
  have h2 := h.2.1
  rw [hl] at h2
  refine ⟨?_, ?_, fun d hd => ?_⟩
  · rw [Tr.sl_len, e]
    simp only [List.length_append, List.length_singleton]
    omega
  · rw [Tr.sl_len, e]
    simp only [List.length_append, List.length_singleton, List.length_take, List.length_drop]
    omega
  · change d ∈ Tr.sl _ at hd
    rw [e] at hd
    rcases List.mem_append.mp hd with z | z
    · rcases List.mem_append.mp z with z | z
      · exact h.2.2 d (List.mem_of_mem_take z)
      · rw [List.mem_singleton.mp z]
        exact ⟨c1, c2⟩
    · exact h.2.2 d (List.mem_of_mem_drop z)
theorem new5 {wd : Str} {sp : Int} (h : goodWord wd) (s0 : 0 ≤ sp) : EOk (Txt.slice wd none (some sp) ++ Txt.slice wd (some (sp + 1)) none) := by
  have e : Tr.sl (Txt.slice wd none (some sp) ++ Txt.slice wd (some (sp + 1)) none) = (Tr.sl wd).take sp.toNat ++ (Tr.sl wd).drop (sp + 1).toNat := by
    rw [Tr.sl_app, Tr.sl_take s0, sl_from (by omega)]
  have hl : wd.length = (Tr.sl wd).length := rfl
  have h2 := h.2.1
  rw [hl] at h2
  have len : (Txt.slice wd none (some sp) ++ Txt.slice wd (some (sp + 1)) none).length ≤ 41 := by
    rw [Tr.sl_len, e]
    simp only [List.length_append, List.length_take, List.length_drop]
    omega
  rcases Nat.eq_zero_or_pos (Txt.slice wd none (some sp) ++ Txt.slice wd (some (sp + 1)) none).length with z | z
  · refine .inl (Tr.sl_inj ?_)
    rw [Tr.sl_len] at z
    exact List.length_eq_zero_iff.mp z
  · refine .inr ⟨z, len, fun d hd => ?_⟩
    change d ∈ Tr.sl _ at hd
    rw [e] at hd
    rcases List.mem_append.mp hd with q | q
    · exact h.2.2 d (List.mem_of_mem_take q)
    · exact h.2.2 d (List.mem_of_mem_drop q)
def six : List Str := ["0", "1", "99", "100", "2000", "2001"]
theorem six_good : ∀ w ∈ six, goodWord w := by decide +kernel
theorem ok__law_spoilt (T : Tx P w K mg a) : FnOk P w K mg base CX0 2 a._law_spoilt a.fd__law_spoilt ["_law_words", "_law_way", "_law_at", "_law_n"] sp__law_spoilt := by
  refine T.F__law_spoilt.ok sc__law_spoilt (fun vs H Q E h => ?_) (fun cdv A outer s H vs Q E hr h => ?_)
  · obtain ⟨_, _, _, _, _, rfl, _⟩ := h
    rfl
  obtain ⟨l, ws, way, at_, n, rfl, hl, hlen, hw, w0, w8, a0, n0, k⟩ := h
  refine ⟨_, (pss_cons (ps_set (i := 4) sc__law_spoilt.nd rfl (Or.inl rfl) (pe_callTy call_list_of rfl T.z_list PyProof.Rows.Boot.«list» (pa_cons (pv 0) pa_nil)))
      (pss_cons (ps_if (PW.pt (pw_and (pt_cmpR op_eq (pv 1) pe_int (nomark _)) (pw_and (pt_cmpR oi_gt (pe_callB call_len_seq rfl T.z_len PySem.boot_len (pa_cons (pv 4) pa_nil)) pe_int (nomark _)) (pw_and1 (pt_cmpR oi_ge (pe_call (ok__law_number T) (hr.mono (by decide)) rfl T.m__law_number T.F__law_number.kp T.b__law_number .nil pass0 (pa_cons (pe_ix ix_list (pv 4) (pe_un un_neg pe_int) (fun _ _ => rfl)) pa_nil)) pe_int (nomark _)))))) (pss_one (ps_asg (pe_ix ix_list (pe_lst (pa_const rfl)) (pe_op oi_mod (pv 3) pe_int) (fun _ _ => rfl)) (pg_sub (pv 4) (pe_un un_neg pe_int) set_list))) pss_nil)
      (pss_cons (ps_if (pt_cmpR op_eq (pv 1) pe_int (nomark _)) (pss_one (ps_expr (pe_bm PySem.F.plainAttrs_list PySem.F.slot_list_insert PySem.F.type_list_insert mt_insert (pv 4) (pa_cons (pe_op oi_mod (pv 2) (pe_op oi_add (pe_callB call_len_seq rfl T.z_len PySem.boot_len (pa_cons (pv 4) pa_nil)) pe_int)) (pa_cons (pe_call (ok__law_odd_by T) (hr.mono (by decide)) rfl T.m__law_odd_by T.F__law_odd_by.kp T.b__law_odd_by .nil pass0 (pa_cons (pv 3) pa_nil)) pa_nil))))) pss_nil)
      (pss_cons (ps_if (PW.pt (pw_or (pt_cmpR oi_lt (pv 1) pe_int (nomark _)) (pw_or1 (pt_cmpR op_eq (pe_callB call_len_seq rfl T.z_len PySem.boot_len (pa_cons (pv 4) pa_nil)) pe_int (nomark _))))) (pss_one (ps_ret (pv 4))) pss_nil)
      (pss_cons (ps_set (i := 2) sc__law_spoilt.nd rfl (Or.inl rfl) (pe_op oi_mod (pv 2) (pe_callB call_len_seq rfl T.z_len PySem.boot_len (pa_cons (pv 4) pa_nil))))
      (pss_cons (ps_set (i := 5) sc__law_spoilt.nd rfl (Or.inl rfl) (pe_ix ix_list (pv 4) (pv 2) (fun _ _ => rfl)))
      (pss_cons (ps_set (i := 6) sc__law_spoilt.nd rfl (Or.inl rfl) (pe_op oi_mod (pv 3) (pe_op oi_add (pe_callB call_len_str rfl T.z_len PySem.boot_len (pa_cons (pv 5) pa_nil)) pe_int)))
      (pss_cons (ps_if (pt_cmpR op_eq (pv 1) pe_int (nomark _)) (pss_one (ps_asg (pe_call (ok__law_odd_by T) (hr.mono (by decide)) rfl T.m__law_odd_by T.F__law_odd_by.kp T.b__law_odd_by .nil pass0 (pa_cons (pv 3) pa_nil)) (pg_sub (pv 4) (pv 2) set_list))) pss_nil)
      (pss_cons (ps_if (pt_cmpR op_eq (pv 1) pe_int (nomark _)) (pss_one (ps_expr (pe_bm PySem.F.plainAttrs_list PySem.F.slot_list_pop PySem.F.type_list_pop mt_popAt (pv 4) (pa_cons (pv 2) pa_nil)))) pss_nil)
      (pss_cons (ps_if (pt_cmpR op_eq (pv 1) pe_int (nomark _)) (pss_one (ps_asg (pe_op op_add_str (pe_op op_add_str (pe_slice sl_str (pv 5) po_none (po_some (pv 6))) (pe_call (ok__law_sign_by T) (hr.mono (by decide)) rfl T.m__law_sign_by T.F__law_sign_by.kp T.b__law_sign_by .nil pass0 (pa_cons (pe_op oi_add pe_int (pe_op oi_mod (pe_op oi_fdiv (pv 3) pe_int) pe_int)) pa_nil))) (pe_slice sl_str (pv 5) (po_some (pv 6)) po_none)) (pg_sub (pv 4) (pv 2) set_list))) pss_nil)
      (pss_cons (ps_if (pt_cmpR op_eq (pv 1) pe_int (nomark _)) (pss_one (ps_asg (pe_op op_add_str (pe_slice sl_str (pv 5) po_none (po_some (pv 6))) (pe_slice sl_str (pv 5) (po_some (pe_op oi_add (pv 6) pe_int)) po_none)) (pg_sub (pv 4) (pv 2) set_list))) pss_nil)
      (pss_cons (ps_if (pt_cmpR op_eq (pv 1) pe_int (nomark _)) (pss_cons (ps_asg (pe_ix ix_list (pv 4) (pe_op oi_sub (pv 2) pe_int) (fun _ _ => rfl)) (pg_sub (pv 4) (pv 2) set_list))
      (pss_one (ps_asg (pv 5) (pg_sub (pv 4) (pe_op oi_sub (pv 2) pe_int) set_list)))) pss_nil)
      (pss_cons (ps_if (pt_cmpR op_eq (pv 1) pe_int (nomark _)) (pss_one (ps_expr (pe_bm PySem.F.plainAttrs_list PySem.F.slot_list_insert PySem.F.type_list_insert mt_insert (pv 4) (pa_cons (pv 2) (pa_cons (pv 5) pa_nil))))) pss_nil)
      (pss_one (ps_ret (pe_comp (k := 1) (Nc := ["_law_part"]) (js := []) (show CompSc (defScope s__law_spoilt) ["_law_words", "_law_way", "_law_at", "_law_n", "_law_some", "_law_word", "_law_spot"] _ 1 ["_law_part"] [] from CompSc.mk rfl (by decide +kernel) (by decide +kernel) (by decide +kernel) rfl (by decide +kernel)) rfl (pi_list (pv 4)) (fun _ _ _ _ _ => (pg_name (i := 0) (show List.Nodup (["_law_part"] : List Str) from by decide +kernel) rfl (Or.inl rfl))) (fun _ _ _ _ _ => (pts_one (pt_cmpR op_ne (pv 0) pe_str (nomark _)))) (fun _ _ _ _ _ => (pv 0)))))))))))))))))), ?_⟩
  refine ⟨_, rfl, l, _, rfl, .inl (SqL.of hl), fun so hso => ?_⟩
  have s1 := Same.new hso (.lst (ws.map V.str))
  have n1 : upd H so (.lst (ws.map V.str)) so = some (.lst (ws.map V.str)) := upd_same
  generalize upd H so (.lst (ws.map V.str)) = H1 at s1 n1 ⊢
  have eok : ∀ w, goodWord w → wordOk w := fun w h => ⟨h.1, Nat.le_trans h.2.1 (by decide), h.2.2⟩
  have hwo : ∀ w ∈ ws, wordOk w := fun w h => eok w (hw w h)
  have wl : ∀ w ∈ ws, w.length ≤ 100000 := fun w h => Nat.le_trans (hw w h).2.1 (by decide)
  have ln : (ws.map V.str).length = ws.length := List.length_map _
  have fin : ∀ (H' : Hp) (ws2 : List Str), Same H H' → (∀ w ∈ ws2, EOk w) → ws2.length ≤ 100 → ∀ D, H' D = none → Q (.ref D) (upd H' D (.lst ((ws2.filter fun w : Str => !decide (w = "")).map V.str))) := fun H' ws2 s' h' l' D hD => by
    refine k _ D _ (s'.trans (Same.new hD _)) upd_same (Nat.le_trans (List.length_filter_le _ _) l') fun w hm => ?_
    obtain ⟨hm, hne⟩ := List.mem_filter.mp hm
    rcases h' w hm with z | z
    · simp [z] at hne
    · exact z
  have setw : ∀ (g : Str) (j : Nat), EOk g → ∀ w ∈ ws.set j g, EOk w := fun g j hg w hm => by
    rcases List.mem_or_eq_of_mem_set hm with z | z
    · exact .inr (hwo w z)
    · rw [z]
      exact hg
  obtain hway | hway | hway : way = 0 ∨ way = 1 ∨ 2 ≤ way := by omega
  · subst hway
    refine ⟨_, rfl, rfl, _, rfl, ifYes rfl ?_⟩
    refine ⟨_, rfl, so, _, rfl, .inl (SqL.of n1), _, _, rfl, rfl, _, rfl, ?_⟩
    have done : ∀ (H' : Hp) (ws2 : List Str), Same H H' → H' so = some (.lst (ws2.map V.str)) → ws2.length ≤ 100 → (∀ w ∈ ws2, wordOk w) → Q (.ref so) H' := fun H' ws2 s' h' l' w' => k H' so ws2 s' h' l' w'
    refine ite2 (fun c => ?_) (fun c => ?_)
    · obtain ⟨h0, r0, e0⟩ : ∃ h0 r0, ws = h0 :: r0 := by
        cases ws with
        | nil => exact absurd (of_decide_eq_true c) (by simp)
        | cons h0 r0 => exact ⟨h0, r0, rfl⟩
      obtain ⟨wz, wm, ea, _⟩ := at_last h0 r0
      rw [← e0] at ea wm
      have ix : ixN (ws.map V.str).length (-1) = some (ws.length - 1) := by
        have l0 : 0 < ws.length := by rw [e0]; simp
        unfold ixN
        rw [ln, if_neg (by decide), if_pos (by omega)]
        congr 1
        omega
      refine ⟨_, rfl, _, rfl, so, _, _, _, rfl, rfl, SqL.of n1, ea, wz, rfl, wl wz wm, _, _, rfl, rfl, _, rfl, ite2 (fun _ => ?_) (fun _ => ?_)⟩
      · refine ⟨by decide, fun l1 h1 => ?_⟩
        have lst : ∃ g : Str, atI (six.map V.str) (n % 6) = some (.str g) ∧ wordOk g := by
          obtain ⟨v, ev, mv⟩ := atI_ex (xs := six.map V.str) (i := n % 6) (Int.emod_nonneg _ (by decide)) (by
            rw [List.length_map]
            exact Int.emod_lt_of_pos _ (by decide))
          obtain ⟨g, hg, rfl⟩ := List.mem_map.mp mv
          exact ⟨g, ev, eok g (six_good g hg)⟩
        obtain ⟨g, eg, og⟩ := lst
        refine ⟨_, rfl, _, _, rfl, rfl, by decide, l1, _, _, _, rfl, rfl, SqL.of upd_same, eg, _, rfl, _, rfl, so, _, _, _, rfl, rfl, Same.new h1 _ _ _ n1, ix, ?_⟩
        rw [← List.map_set]
        refine ⟨_, rfl, rfl, _, rfl, ifNo rfl ⟨_, rfl, _, _, rfl, rfl, _, rfl, ifYes rfl ⟨_, rfl, ?_⟩⟩⟩
        refine done _ _ (Tr.Same.over (s1.trans (Same.new h1 _)) hso) upd_same (by rw [List.length_set]; omega) fun w hm => ?_
        rcases List.mem_or_eq_of_mem_set hm with z | z
        · exact hwo w z
        · rw [z]
          exact og
      · exact ⟨_, rfl, rfl, _, rfl, ifNo rfl ⟨_, rfl, _, _, rfl, rfl, _, rfl, ifYes rfl ⟨_, rfl, done _ _ s1 n1 (by omega) hwo⟩⟩⟩
    · exact ⟨_, rfl, rfl, _, rfl, ifNo rfl ⟨_, rfl, _, _, rfl, rfl, _, rfl, ifYes rfl ⟨_, rfl, done _ _ s1 n1 (by omega) hwo⟩⟩⟩
  · subst hway
    refine ⟨_, rfl, rfl, _, rfl, ifNo rfl ?_⟩
    refine ⟨_, rfl, rfl, _, rfl, ifYes rfl ?_⟩
    refine ⟨_, rfl, .inl ⟨rfl, _, SqL.of n1⟩, _, rfl, _, rfl, so, _, rfl, .inl (SqL.of n1), _, _, rfl, rfl, _, _, rfl, rfl, by rw [ln]; omega, ?_⟩
    rw [ln]
    obtain ⟨b0, b1⟩ : 0 ≤ at_ % ((ws.length : Int) + 1) ∧ at_ % ((ws.length : Int) + 1) < ws.length + 1 := ⟨Int.emod_nonneg _ (by omega), Int.emod_lt_of_pos _ (by omega)⟩
    generalize at_ % ((ws.length : Int) + 1) = ai at b0 b1 ⊢
    refine ⟨_, rfl, n, rfl, fun H2 g s2 gg => ⟨so, _, ai, .str g, rfl, rfl, s2 _ _ n1, b0, by omega, by omega, ?_⟩⟩
    have el : (ws.map V.str).take ai.toNat ++ V.str g :: (ws.map V.str).drop ai.toNat = (ws.take ai.toNat ++ g :: ws.drop ai.toNat).map V.str := by
      rw [List.map_append, List.map_cons, List.map_take, List.map_drop]
    rw [el]
    have ll : (ws.take ai.toNat ++ g :: ws.drop ai.toNat).length ≤ 100 := by
      rw [List.length_append, List.length_cons, List.length_take, List.length_drop]
      omega
    refine ⟨_, rfl, _, _, rfl, rfl, _, rfl, ifYes (by decide) ⟨_, rfl, k _ so _ (Tr.Same.over (s1.trans s2) hso) upd_same ll fun w hm => ?_⟩⟩
    rcases List.mem_append.mp hm with q | q
    · exact hwo w (List.mem_of_mem_take q)
    · rcases List.mem_cons.mp q with q | q
      · rw [q]
        exact eok g gg
      · exact hwo w (List.mem_of_mem_drop q)
  have wne : ∀ c : Int, c < 2 → decide (V.int way = V.int c) = false := fun c hc => decide_eq_false fun z => by injection z with z; omega
  refine ⟨_, rfl, rfl, _, rfl, ifNo (wne 0 (by decide)) ?_⟩
  refine ⟨_, rfl, rfl, _, rfl, ifNo (wne 1 (by decide)) ?_⟩
  refine ⟨_, rfl, _, _, rfl, rfl, _, rfl, ifNo (decide_eq_false (by omega)) ?_⟩
  refine ⟨_, rfl, so, _, rfl, .inl (SqL.of n1), rfl, _, rfl, ?_⟩
  rw [ln]
  refine ite2 (fun c => ?_) (fun c => ?_)
  · exact ⟨_, rfl, k _ so ws s1 n1 (by omega) hwo⟩
  have l0 : 0 < ws.length := by
    rcases Nat.eq_zero_or_pos ws.length with z | z
    · exact absurd (decide_eq_true (by rw [z]; rfl)) c
    · exact z
  refine ⟨_, rfl, _, rfl, so, _, rfl, .inl (SqL.of n1), _, _, rfl, rfl, by rw [ln]; omega, ?_⟩
  rw [ln]
  obtain ⟨b0, b1⟩ : 0 ≤ at_ % (ws.length : Int) ∧ at_ % (ws.length : Int) < ws.length := ⟨Int.emod_nonneg _ (by omega), Int.emod_lt_of_pos _ (by omega)⟩
  generalize at_ % (ws.length : Int) = ai at b0 b1 ⊢
  have lt : ai.toNat < ws.length := by omega
  have aw : (ws.map V.str)[ai.toNat]? = some (.str ws[ai.toNat]) := by rw [List.getElem?_map, List.getElem?_eq_getElem lt]; rfl
  have ix : ixN (ws.map V.str).length ai = some ai.toNat := by
    unfold ixN
    rw [if_pos b0, if_pos (by rw [ln]; exact b1)]
  refine ⟨_, rfl, _, rfl, so, _, _, _, rfl, rfl, SqL.of n1, atI_pos b0 aw, ?_⟩
  have gw := hw ws[ai.toNat] (List.getElem_mem lt)
  generalize ws[ai.toNat] = wd at aw gw ⊢
  refine ⟨_, rfl, _, rfl, wd, rfl, len_le_line (m := 1000) (Nat.le_trans gw.2.1 (by decide)), _, _, rfl, rfl, _, _, rfl, rfl, by omega, ?_⟩
  obtain ⟨p0, p1⟩ : 0 ≤ n % ((wd.length : Int) + 1) ∧ n % ((wd.length : Int) + 1) < wd.length + 1 := ⟨Int.emod_nonneg _ (by omega), Int.emod_lt_of_pos _ (by omega)⟩
  generalize n % ((wd.length : Int) + 1) = sp at p0 p1 ⊢
  have gl := gw.2.1
  have wdl : wd.length ≤ sizeLine := len_le_line (m := 1000) (by omega)
  obtain hway' | hway' | hway' | hway' | hway' | hway' : way = 2 ∨ way = 3 ∨ way = 4 ∨ way = 5 ∨ way = 6 ∨ way = 7 := by omega
  · subst hway'
    refine ⟨_, rfl, rfl, _, rfl, ifYes rfl ?_⟩
    refine ⟨_, rfl, n, rfl, fun H2 g s2 gg => ⟨_, rfl, _, rfl, so, _, _, _, rfl, rfl, s2 _ _ n1, ix, ?_⟩⟩
    refine ⟨_, rfl, rfl, _, rfl, ifNo rfl ⟨_, rfl, rfl, _, rfl, ifNo rfl ⟨_, rfl, rfl, _, rfl, ifNo rfl ⟨_, rfl, rfl, _, rfl, ifNo rfl ⟨_, rfl, rfl, _, rfl, ifNo rfl ?_⟩⟩⟩⟩⟩
    rw [← List.map_set]
    exact ⟨_, rfl, so, rfl, ⟨_, SqL.of upd_same⟩, comp_full upd_same (by rw [List.length_set]; omega) (fin _ _ (Tr.Same.over (s1.trans s2) hso) (setw g _ (.inr (eok g gg))) (by rw [List.length_set]; omega))⟩
  · subst hway'
    refine ⟨_, rfl, rfl, _, rfl, ifNo rfl ?_⟩
    refine ⟨_, rfl, rfl, _, rfl, ifYes rfl ?_⟩
    refine ⟨_, rfl, .inl ⟨rfl, _, SqL.of n1⟩, _, rfl, so, _, ai, ai.toNat, .str wd, rfl, rfl, n1, by omega, by omega, (ixN_seq ix).1, aw, ?_⟩
    refine ⟨_, rfl, rfl, _, rfl, ifNo rfl ⟨_, rfl, rfl, _, rfl, ifNo rfl ⟨_, rfl, rfl, _, rfl, ifNo rfl ⟨_, rfl, rfl, _, rfl, ifNo rfl ?_⟩⟩⟩⟩
    have el := erase_map ws ai.toNat
    rw [el]
    have ll := List.length_eraseIdx_le ws ai.toNat
    exact ⟨_, rfl, so, rfl, ⟨_, SqL.of upd_same⟩, comp_full upd_same (by omega) (fin _ _ (Tr.Same.over s1 hso) (fun w hm => .inr (hwo w (List.mem_of_mem_eraseIdx hm))) (by omega))⟩
  · subst hway'
    refine ⟨_, rfl, rfl, _, rfl, ifNo rfl ⟨_, rfl, rfl, _, rfl, ifNo rfl ⟨_, rfl, rfl, _, rfl, ifYes rfl ?_⟩⟩⟩
    have sll := fun lo hi => Txt.slice_le wd lo hi
    have s_1 := sll none (some sp)
    have s_2 := sll (some sp) none
    refine ⟨_, rfl, _, rfl, sp, rfl, wd, rfl, wdl, _, rfl, _, _, rfl, rfl, ⟨by decide, by decide⟩, _, _, rfl, rfl, by decide, _, _, rfl, rfl, _, rfl, by omega, by omega, fun c c1 c2 => ?_⟩
    refine ⟨_, _, rfl, rfl, len_le_line (m := 1000) (by show _ + 1 ≤ 1000; omega), _, rfl, _, rfl, sp, rfl, wd, rfl, wdl, _, _, rfl, rfl, len_le_line (m := 1000) (by rw [str_len_append]; show _ + 1 + _ ≤ 1000; omega), ?_⟩
    refine ⟨_, rfl, _, rfl, so, _, _, _, rfl, rfl, n1, ix, ?_⟩
    refine ⟨_, rfl, rfl, _, rfl, ifNo rfl ⟨_, rfl, rfl, _, rfl, ifNo rfl ⟨_, rfl, rfl, _, rfl, ifNo rfl ?_⟩⟩⟩
    rw [← List.map_set]
    exact ⟨_, rfl, so, rfl, ⟨_, SqL.of upd_same⟩, comp_full upd_same (by rw [List.length_set]; omega) (fin _ _ (Tr.Same.over s1 hso) (setw _ _ (.inr (new4 gw c1 c2 p0))) (by rw [List.length_set]; omega))⟩
  · subst hway'
    refine ⟨_, rfl, rfl, _, rfl, ifNo rfl ⟨_, rfl, rfl, _, rfl, ifNo rfl ⟨_, rfl, rfl, _, rfl, ifNo rfl ⟨_, rfl, rfl, _, rfl, ifYes rfl ?_⟩⟩⟩⟩
    have sll := fun lo hi => Txt.slice_le wd lo hi
    have s_1 := sll none (some sp)
    have s_2 := sll (some (sp + 1)) none
    refine ⟨_, rfl, _, rfl, sp, rfl, wd, rfl, wdl, _, rfl, _, rfl, _, _, rfl, rfl, sp + 1, rfl, wd, rfl, wdl, _, _, rfl, rfl, len_le_line (m := 1000) (by omega), ?_⟩
    refine ⟨_, rfl, _, rfl, so, _, _, _, rfl, rfl, n1, ix, ?_⟩
    refine ⟨_, rfl, rfl, _, rfl, ifNo rfl ⟨_, rfl, rfl, _, rfl, ifNo rfl ?_⟩⟩
    rw [← List.map_set]
    exact ⟨_, rfl, so, rfl, ⟨_, SqL.of upd_same⟩, comp_full upd_same (by rw [List.length_set]; omega) (fin _ _ (Tr.Same.over s1 hso) (setw _ _ (new5 gw p0)) (by rw [List.length_set]; omega))⟩
  · subst hway'
    refine ⟨_, rfl, rfl, _, rfl, ifNo rfl ⟨_, rfl, rfl, _, rfl, ifNo rfl ⟨_, rfl, rfl, _, rfl, ifNo rfl ⟨_, rfl, rfl, _, rfl, ifNo rfl ⟨_, rfl, rfl, _, rfl, ifYes rfl ?_⟩⟩⟩⟩⟩
    obtain ⟨z, ez, mz, j2, ej2⟩ : ∃ z, atI (ws.map V.str) (ai - 1) = some (.str z) ∧ z ∈ ws ∧ ∃ j2, ixN (ws.map V.str).length (ai - 1) = some j2 := by
      rcases Int.lt_or_le (ai - 1) 0 with c | c
      · obtain ⟨h0, r0, e0⟩ : ∃ h0 r0, ws = h0 :: r0 := by
          cases ws with
          | nil => simp at l0
          | cons h0 r0 => exact ⟨h0, r0, rfl⟩
        obtain ⟨wz, wm, ea, _⟩ := at_last h0 r0
        have em : ai - 1 = -1 := by omega
        rw [em]
        rw [← e0] at ea wm
        refine ⟨wz, ea, wm, ws.length - 1, ?_⟩
        unfold ixN
        rw [ln, if_neg (by decide), if_pos (by omega)]
        congr 1
        omega
      · have l2 : (ai - 1).toNat < ws.length := by omega
        refine ⟨ws[(ai - 1).toNat], atI_pos c (by rw [List.getElem?_map, List.getElem?_eq_getElem l2]; rfl), List.getElem_mem l2, (ai - 1).toNat, ?_⟩
        unfold ixN
        rw [if_pos c, if_pos (by rw [ln]; omega)]
    refine ⟨_, rfl, _, rfl, _, _, rfl, rfl, so, _, _, _, rfl, rfl, SqL.of n1, ez, _, rfl, _, rfl, so, _, _, _, rfl, rfl, n1, ix, ?_⟩
    rw [← List.map_set]
    refine ⟨_, rfl, _, rfl, _, rfl, _, _, rfl, rfl, so, _, _, _, rfl, rfl, upd_same, by rw [List.length_map, List.length_set, ← ln]; exact ej2, ?_⟩
    rw [← List.map_set, upd_twice]
    refine ⟨_, rfl, rfl, _, rfl, ifNo rfl ?_⟩
    refine ⟨_, rfl, so, rfl, ⟨_, SqL.of upd_same⟩, comp_full upd_same (by rw [List.length_set, List.length_set]; omega) (fin _ _ (Tr.Same.over s1 hso) (fun w hm => ?_) (by rw [List.length_set, List.length_set]; omega))⟩
    rcases List.mem_or_eq_of_mem_set hm with q | q
    · exact setw z _ (.inr (hwo z mz)) w q
    · rw [q]
      exact .inr (eok wd gw)
  · subst hway'
    refine ⟨_, rfl, rfl, _, rfl, ifNo rfl ⟨_, rfl, rfl, _, rfl, ifNo rfl ⟨_, rfl, rfl, _, rfl, ifNo rfl ⟨_, rfl, rfl, _, rfl, ifNo rfl ⟨_, rfl, rfl, _, rfl, ifNo rfl ⟨_, rfl, rfl, _, rfl, ifYes rfl ?_⟩⟩⟩⟩⟩⟩
    refine ⟨_, rfl, .inl ⟨rfl, _, SqL.of n1⟩, _, rfl, _, rfl, so, _, ai, .str wd, rfl, rfl, n1, b0, by omega, by omega, ?_⟩
    have el : (ws.map V.str).take ai.toNat ++ V.str wd :: (ws.map V.str).drop ai.toNat = (ws.take ai.toNat ++ wd :: ws.drop ai.toNat).map V.str := by
      rw [List.map_append, List.map_cons, List.map_take, List.map_drop]
    rw [el]
    have ll : (ws.take ai.toNat ++ wd :: ws.drop ai.toNat).length ≤ 100 := by
      rw [List.length_append, List.length_cons, List.length_take, List.length_drop]
      omega
    refine ⟨_, rfl, so, rfl, ⟨_, SqL.of upd_same⟩, comp_full upd_same (by omega) (fin _ _ (Tr.Same.over s1 hso) (fun w hm => ?_) ll)⟩
    rcases List.mem_append.mp hm with q | q
    · exact .inr (hwo w (List.mem_of_mem_take q))
    · rcases List.mem_cons.mp q with q | q
      · rw [q]
        exact .inr (eok wd gw)
      · exact .inr (hwo w (List.mem_of_mem_drop q))
theorem ok__law_is_refused (T : Tx P w K mg a) : FnOk P w K mg base CX0 1 a._law_is_refused a.fd__law_is_refused ["_law_caught", "_law_which", "_law_place"] (sp__law_is_refused a) := by
  refine T.F__law_is_refused.ok sc__law_is_refused (fun vs H Q E h => ?_) (fun cdv A outer s H vs Q E hr h => ?_)
  · obtain ⟨_, _, _, rfl, _⟩ := h
    rfl
  obtain ⟨e, dx, i, rfl, he, hd, k⟩ := h
  refine ⟨_, (pss_cons (ps_if (PW.pt (pw_or (pt_cmpR op_isN (pv 0) pe_non (nomark _)) (pw_or1 (pt_not (pt_val (pe_callB call_isX rfl T.z_isinstance PyProof.Rows.Boot.«isinstance» (pa_cons (pv 0) (pa_cons (pe_bltn (v := .ty "ValueError") rfl T.z_ValueError PyProof.Rows.Boot.«ValueError» rfl) pa_nil)))))))) (pss_one (ps_ret pe_bl)) pss_nil)
      (pss_cons (ps_set (i := 3) sc__law_is_refused.nd rfl (Or.inl rfl) (pe_lst (pa_cons (pe_callB call_isX rfl T.z_isinstance PyProof.Rows.Boot.«isinstance» (pa_cons (pv 0) (pa_cons (pe_glob (v := .ref a.C_BadRow) rfl T.m_BadRow rfl) pa_nil))) (pa_cons (pe_callB call_isX rfl T.z_isinstance PyProof.Rows.Boot.«isinstance» (pa_cons (pv 0) (pa_cons (pe_glob (v := .ref a.C_BadNest) rfl T.m_BadNest rfl) pa_nil))) (pa_cons (pe_callB call_isX rfl T.z_isinstance PyProof.Rows.Boot.«isinstance» (pa_cons (pv 0) (pa_cons (pe_glob (v := .ref a.C_Twice) rfl T.m_Twice rfl) pa_nil))) pa_nil)))))
      (pss_cons (ps_set (i := 3) sc__law_is_refused.nd rfl (Or.inl rfl) (pe_op op_catS (pv 3) (pe_lst (pa_cons (pe_callB call_isX rfl T.z_isinstance PyProof.Rows.Boot.«isinstance» (pa_cons (pv 0) (pa_cons (pe_glob (v := .ref a.C_NoStore) rfl T.m_NoStore rfl) pa_nil))) (pa_cons (pe_callB call_isX rfl T.z_isinstance PyProof.Rows.Boot.«isinstance» (pa_cons (pv 0) (pa_cons (pe_glob (v := .ref a.C_Hidden) rfl T.m_Hidden rfl) pa_nil))) pa_nil)))))
      (pss_cons (ps_set (i := 3) sc__law_is_refused.nd rfl (Or.inl rfl) (pe_op op_catS (pv 3) (pe_lst (pa_cons (pe_callB call_isX rfl T.z_isinstance PyProof.Rows.Boot.«isinstance» (pa_cons (pv 0) (pa_cons (pe_glob (v := .ref a.C_Starved) rfl T.m_Starved rfl) pa_nil))) (pa_cons (pe_callB call_isX rfl T.z_isinstance PyProof.Rows.Boot.«isinstance» (pa_cons (pv 0) (pa_cons (pe_glob (v := .ref a.C_TooMuch) rfl T.m_TooMuch rfl) pa_nil))) pa_nil)))))
      (pss_cons (ps_if (pt_cmpR (op_neD hr.units) (pv 3) (pe_comp (k := 1) (Nc := ["_law_k", "_law_which"]) (js := [1]) (show CompSc (defScope s__law_is_refused) ["_law_caught", "_law_which", "_law_place", "_law_kinds"] _ 1 ["_law_k", "_law_which"] [1] from CompSc.mk rfl (by decide +kernel) (by decide +kernel) (by decide +kernel) rfl (by decide +kernel)) rfl (pi_range1 rfl T.z_range (pa_cons pe_int pa_nil)) (fun _ _ _ _ _ => (pg_name (i := 0) (show List.Nodup (["_law_k", "_law_which"] : List Str) from by decide +kernel) rfl (Or.inl rfl))) (fun _ _ _ _ _ => pts_nil) (fun _ _ _ _ _ => (pe_cmpR op_eq (pv 0) (pv 1) (nomark _)))) (nomark _)) (pss_one (ps_ret pe_bl)) pss_nil)
      (pss_cons (ps_if (PW.pt (pw_or (pt_not (pt_val (pe_callB call_isT rfl T.z_isinstance PyProof.Rows.Boot.«isinstance» (pa_cons (pe_place (pv 0)) (pa_cons (pe_bltn (v := .ty "int") rfl T.z_int PyProof.Rows.Boot.«int» rfl) pa_nil))))) (pw_or1 (pt_val (pe_callB call_isT rfl T.z_isinstance PyProof.Rows.Boot.«isinstance» (pa_cons (pe_place (pv 0)) (pa_cons (pe_bltn (v := .ty "bool") rfl T.z_bool PyProof.Rows.Boot.«bool» rfl) pa_nil))))))) (pss_one (ps_ret pe_bl)) pss_nil)
      (pss_one (ps_ret (pe_cmpR op_eq (pe_place (pv 0)) (pv 2) (nomark _)))))))))), ?_⟩
  refine ⟨_, rfl, rfl, _, rfl, ifNo rfl ?_⟩
  refine ⟨_, rfl, e, _, dx, _, _, true, rfl, he, T.i_BadRow, fun u h => h, T.ki_BadRow_ValueError, _, rfl, ifNo rfl ?_⟩
  refine ⟨_, rfl, e, _, dx, _, _, true, rfl, he, T.i_BadRow, fun u h => h, T.ki_BadRow_BadRow, _, rfl, e, _, dx, _, _, false, rfl, he, T.i_BadRow, fun u h => h, T.ki_BadRow_BadNest, _, rfl, e, _, dx, _, _, false, rfl, he, T.i_BadRow, fun u h => h, T.ki_BadRow_Twice, by show 3 ≤ sizeLine; decide, fun l1 h1 => ?_⟩
  have s1 := Same.new h1 (.lst [.bl true, .bl false, .bl false])
  have he1 := s1 _ _ he
  refine ⟨_, rfl, _, rfl, e, _, dx, _, _, false, rfl, he1, T.i_BadRow, fun u h => h, T.ki_BadRow_NoStore, _, rfl, e, _, dx, _, _, false, rfl, he1, T.i_BadRow, fun u h => h, T.ki_BadRow_Hidden, by show 2 ≤ sizeLine; decide, fun l2 h2 => ?_⟩
  have s2 := Same.new h2 (.lst [.bl false, .bl false])
  refine ⟨l1, l2, [.bl true, .bl false, .bl false], [.bl false, .bl false], rfl, rfl, SqL.of (s2 _ _ upd_same), SqL.of upd_same, by show 5 ≤ sizeLine; decide, fun l3 h3 => ?_⟩
  have s3 := Same.new h3 (.lst ([.bl true, .bl false, .bl false] ++ [.bl false, .bl false]))
  have he3 := s3 _ _ (s2 _ _ he1)
  refine ⟨_, rfl, _, rfl, e, _, dx, _, _, false, rfl, he3, T.i_BadRow, fun u h => h, T.ki_BadRow_Starved, _, rfl, e, _, dx, _, _, false, rfl, he3, T.i_BadRow, fun u h => h, T.ki_BadRow_TooMuch, by show 2 ≤ sizeLine; decide, fun l4 h4 => ?_⟩
  have s4 := Same.new h4 (.lst [.bl false, .bl false])
  refine ⟨l3, l4, [.bl true, .bl false, .bl false, .bl false, .bl false], [.bl false, .bl false], rfl, rfl, SqL.of (s4 _ _ upd_same), SqL.of upd_same, by show 7 ≤ sizeLine; decide, fun l5 h5 => ?_⟩
  have s5 := Same.new h5 (.lst ([.bl true, .bl false, .bl false, .bl false, .bl false] ++ [.bl false, .bl false]))
  have q5 := (s1.trans s2).trans ((s3.trans s4).trans s5)
  have g5 : upd (upd (upd (upd (upd H l1 (.lst [.bl true, .bl false, .bl false])) l2 (.lst [.bl false, .bl false])) l3 (.lst ([.bl true, .bl false, .bl false] ++ [.bl false, .bl false]))) l4 (.lst [.bl false, .bl false])) l5 (.lst ([.bl true, .bl false, .bl false, .bl false, .bl false] ++ [.bl false, .bl false])) l5 = some (.lst [.bl true, .bl false, .bl false, .bl false, .bl false, .bl false, .bl false]) := upd_same
  generalize upd (upd (upd (upd (upd H l1 (.lst [.bl true, .bl false, .bl false])) l2 (.lst [.bl false, .bl false])) l3 (.lst ([.bl true, .bl false, .bl false] ++ [.bl false, .bl false]))) l4 (.lst [.bl false, .bl false])) l5 (.lst ([.bl true, .bl false, .bl false, .bl false, .bl false] ++ [.bl false, .bl false])) = H5 at q5 g5 ⊢
  refine ⟨_, rfl, 7, rfl, by decide, by decide, ?_⟩
  refine comp_range0 (n := 7) (fun j ys σ H6 => (∃ v, σ = [v, some (.int 0)]) ∧ H6 = H5 ∧ ys = (List.range j).map fun k : Nat => V.bl (decide (V.int (k : Int) = V.int 0))) ⟨⟨none, rfl⟩, rfl, rfl⟩ ?_ (by decide) ?_ ?_
  · rintro j ys σ H6 _ ⟨_, _, rfl⟩
    rw [List.length_map, List.length_range]
    exact Nat.le_refl _
  · rintro j ys σ H6 hj ⟨⟨v, rfl⟩, rfl, rfl⟩
    exact ⟨_, rfl, _, rfl, rfl, ⟨_, rfl⟩, rfl, by rw [List.range_succ, List.map_append]; rfl⟩
  rintro ys σ H6 ⟨_, rfl, rfl⟩ l6 h6
  have s6 := Same.new h6 (.lst ((List.range 7).map fun k : Nat => V.bl (decide (V.int (k : Int) = V.int 0))))
  have he6 := s6 _ _ (q5 _ _ he)
  have hd6 := s6 _ _ (q5 _ _ hd)
  have d7 : ∀ {l : Addr} {G : Hp}, G l = some (.lst [.bl true, .bl false, .bl false, .bl false, .bl false, .bl false, .bl false]) → Dt K G (.ref l) (.list [.bool true, .bool false, .bool false, .bool false, .bool false, .bool false, .bool false]) := fun h => .lst (SqL.of h) (.cons (.bl _) (.cons (.bl _) (.cons (.bl _) (.cons (.bl _) (.cons (.bl _) (.cons (.bl _) (.cons (.bl _) .nil)))))))
  refine ⟨_, _, d7 (s6 _ _ g5), d7 upd_same, by decide +kernel, by decide +kernel, _, rfl, ifNo (by decide +kernel) ?_⟩
  refine ⟨_, rfl, e, _, dx, _, rfl, he6, hd6, T.g_BadRow, _, _, _, true, rfl, .int i, rfl, _, rfl, ifNo rfl ?_⟩
  refine ⟨_, rfl, e, _, dx, _, rfl, he6, hd6, T.g_BadRow, _, _, _, false, rfl, .int i, rfl, _, rfl, ifNo rfl ?_⟩
  refine ⟨_, rfl, e, _, dx, _, rfl, he6, hd6, T.g_BadRow, _, rfl, rfl, ?_⟩
  rw [decide_eq_true rfl]
  exact k _ (q5.trans s6)
theorem ok_low {w : Str} (h : wordOk w) : PyData.strOk w = true := by
  unfold PyData.strOk
  rw [Array.all_eq_true']
  intro c hc
  have := h.2.2 c (Array.mem_toList_iff.mpr hc)
  exact decide_eq_true (by omega)
theorem thing4_flat {w k : Str} (h : PyData.strOk w = true) : thingIn w k = .non ∨ flatOne (thingIn w k) := by
  have num : ∀ o : Option Int, optV o = .non ∨ flatOne (optV o) := fun o => by
    cases o with
    | none => exact .inl rfl
    | some n => exact .inr (.inr ⟨n, rfl⟩)
  have wit : ∀ (o : Option Int) (lo hi : Int), withinV o lo hi = .non ∨ flatOne (withinV o lo hi) := fun o lo hi => by
    unfold withinV
    cases o with
    | none => exact .inl rfl
    | some n =>
      dsimp only
      split
      · exact .inl rfl
      · split
        · exact .inl rfl
        · exact .inr (.inr ⟨n, rfl⟩)
  unfold thingIn
  split
  · split
    · exact .inr (.inl ⟨w, rfl, h⟩)
    · exact .inl rfl
  · split
    · unfold valIn
      split
      · exact .inr (.inl ⟨w, rfl, h⟩)
      · exact num _
    · split
      · split
        · exact .inr (.inl ⟨w, rfl, h⟩)
        · exact .inl rfl
      · split
        · exact wit _ _ _
        · exact wit _ _ _
theorem things4_flat : ∀ (ws ks : List Str), (∀ w ∈ ws, PyData.strOk w = true) → inV .non (thingsIn ws ks) = false → (thingsIn ws ks).length ≤ ws.length ∧ ∀ v ∈ thingsIn ws ks, flatOne v
  | [], ks, _, _ => by cases ks <;> exact ⟨Nat.le_refl _, fun v hv => by simp [thingsIn] at hv⟩
  | w :: ws, [], _, _ => ⟨Nat.zero_le _, fun v hv => by simp [thingsIn] at hv⟩
  | w :: ws, k :: ks, h, hn => by
    have hn : (eqV (thingIn w k) .non || inV .non (thingsIn ws ks)) = false := hn
    rw [Bool.or_eq_false_iff] at hn
    obtain ⟨h1, h2⟩ := things4_flat ws ks (fun w hw => h w (List.mem_cons_of_mem _ hw)) hn.2
    refine ⟨by simp only [thingsIn, List.length_cons]; omega, fun v hv => ?_⟩
    rcases List.mem_cons.mp hv with rfl | hv
    · rcases thing4_flat (k := k) (h w List.mem_cons_self) with z | z
      · rw [z] at hn
        exact absurd hn.1 (by decide)
      · exact z
    · exact h2 v hv
theorem filled_flat {h : Str} {ws ks : List Str} {xs : List V} (hh : PyData.strOk h = true) (hw : ∀ w ∈ ws, PyData.strOk w = true) (hl : ws.length ≤ 200) (e : filledV h ws ks = some xs) : xs.length ≤ 1000 ∧ ∀ v ∈ xs, flatOne v := by
  unfold filledV at e
  split at e
  · split at e
    · cases e
    · rename_i hn
      cases e
      obtain ⟨h1, h2⟩ := things4_flat ws ks hw (Bool.eq_false_iff.mpr hn)
      refine ⟨by rw [List.length_cons]; omega, fun v hv => ?_⟩
      rcases List.mem_cons.mp hv with rfl | hv
      · exact .inl ⟨h, rfl, hh⟩
      · exact h2 v hv
  · cases e
theorem form_flat {ws : List Str} {xs : List V} (hw : ∀ w ∈ ws, wordOk w) (hl : ws.length ≤ 100) (e : formV ws = some xs) : xs.length ≤ 1000 ∧ ∀ v ∈ xs, flatOne v := by
  cases ws with
  | nil => cases e
  | cons h r =>
    have ok : ∀ w ∈ h :: r, PyData.strOk w = true := fun w hh => ok_low (hw w hh)
    rw [List.length_cons] at hl
    cases ek : kinds h with
    | some ks =>
      rw [formV_kw ek] at e
      exact filled_flat (ok h List.mem_cons_self) (fun w hw => ok w (List.mem_cons_of_mem _ hw)) (by omega) e
    | none =>
      rw [formV_set ek] at e
      split at e
      · cases e
      · split at e
        · refine filled_flat (by decide +kernel) (fun w hw => ?_) ?_ e
          · unfold setWords at hw
            rcases List.mem_cons.mp hw with rfl | hw
            · exact ok _ List.mem_cons_self
            · have tl : ∀ w ∈ r.tail, PyData.strOk w = true := fun w hw => ok w (List.mem_cons_of_mem _ (List.mem_of_mem_tail hw))
              split at hw
              · rcases List.mem_append.mp hw with z | z
                · exact tl w z
                · have : ∀ w ∈ (["+", "0"] : List Str), PyData.strOk w = true := by decide +kernel
                  exact this w z
              · exact tl w hw
          · unfold setWords
            rw [List.length_cons]
            have := List.length_tail (l := r)
            split
            · rw [List.length_append]
              show _ + 2 + 1 ≤ 200
              omega
            · omega
        · cases e
theorem ok__law_holds (T : Tx P w K mg a) : FnOk P w K mg base CX0 9 a._law_holds a.fd__law_holds ["_law_words", "_law_gaps"] sp__law_holds := by
  refine T.F__law_holds.ok sc__law_holds (fun vs H Q E h => ?_) (fun cdv A outer s H vs Q E hr h => ?_)
  · obtain ⟨_, _, _, rfl, _⟩ := h
    rfl
  obtain ⟨l, ws, n, rfl, hl, hlen, hw, n0, k⟩ := h
  refine ⟨_, (pss_cons (ps_set (i := 2) sc__law_holds.nd rfl (Or.inl rfl) (pe_op oi_add pe_int (pe_op oi_mod (pe_op oi_fdiv (pv 1) (pe_op oi_pow pe_int pe_int)) pe_int)))
      (pss_cons (ps_set (i := 3) sc__law_holds.nd rfl (Or.inl rfl) (pe_call (ok__law_judged T) (hr.mono (by decide)) rfl T.m__law_judged T.F__law_judged.kp T.b__law_judged .nil pass0 (pa_cons (pv 0) pa_nil)))
      (pss_cons (ps_set (i := 4) sc__law_holds.nd rfl (Or.inl rfl) pe_non)
      (pss_cons (ps_set (i := 5) sc__law_holds.nd rfl (Or.inl rfl) pe_non)
      (pss_cons (ps_tryCall (iy := 5) (im := 4) (inn := 6) (ok_row_of T) (hr.mono (by decide)) rfl T.m_row_of T.F_row_of.kp T.b_row_of .nil sc__law_holds.nd rfl (Or.inl rfl) rfl (Or.inl rfl) rfl rfl rfl T.m_FlowError T.ix_FlowError (fun _ => (pa_cons (pe_call (ok__law_spaced T) (hr.mono (by decide)) rfl T.m__law_spaced T.F__law_spaced.kp T.b__law_spaced .nil pass0 (pa_cons (pv 0) (pa_cons (pv 1) pa_nil))) (pa_cons (pv 2) pa_nil))))
      (pss_cons (ps_if (pt_cmpR op_eq (pe_callB call_len_seq rfl T.z_len PySem.boot_len (pa_cons (pv 3) pa_nil)) pe_int (nomark _)) (pss_one (ps_ret (pe_and (pe_cmpR op_isN (pv 4) pe_non (nomark _)) (pe_one (pe_call (ok__law_same T) (hr.mono (by decide)) rfl T.m__law_same T.F__law_same.kp T.b__law_same .nil pass0 (pa_cons (pv 5) (pa_cons (pe_ix ix_list (pv 3) pe_int (fun _ _ => rfl)) pa_nil))))))) pss_nil)
      (pss_one (ps_ret (pe_call (ok__law_is_refused T) (hr.mono (by decide)) rfl T.m__law_is_refused T.F__law_is_refused.kp T.b__law_is_refused .nil pass0 (pa_cons (pv 4) (pa_cons pe_int (pa_cons (pv 2) pa_nil)))))))))))), ?_⟩
  have pw : (0 ≤ (9 : Int) ∧ (9 : Int) ≤ 1000000 ∧ (10 : Int).natAbs < 2 ^ 64) := ⟨by decide, by decide, by decide⟩
  refine ⟨_, rfl, _, _, rfl, rfl, pw, _, _, rfl, rfl, ⟨by decide, by decide⟩, _, _, rfl, rfl, (by decide), _, _, rfl, rfl, ?_⟩
  obtain ⟨p0, p1⟩ : 1 ≤ 1 + n / (10 : Int) ^ (9 : Int).toNat % 1000 ∧ 1 + n / (10 : Int) ^ (9 : Int).toNat % 1000 ≤ 1000 := by omega
  generalize 1 + n / (10 : Int) ^ (9 : Int).toNat % 1000 = pl at p0 p1 ⊢
  refine ⟨_, rfl, l, ws, rfl, hl, hlen, hw, ?_⟩
  by_cases e0 : ws = []
  · refine .inl ⟨e0, fun H1 p s1 hp => ?_⟩
    refine ⟨_, rfl, _, rfl, l, ws, n, rfl, SqL.of (s1 _ _ hl), hlen, hw, fun x hx hwx => ⟨_, rfl, x, pl, rfl, by omega, by omega, ?_⟩⟩
    rw [hwx]
    refine .inl ⟨e0, fun H2 s2 => ?_⟩
    refine ⟨_, rfl, p, _, rfl, .inl (SqL.of (s2 _ _ hp)), rfl, _, rfl, ifYes rfl ?_⟩
    exact ⟨_, rfl, rfl, _, rfl, iteT ⟨_, rfl, _, rfl, p, _, _, _, rfl, rfl, SqL.of (s2 _ _ hp), rfl, .inl ⟨rfl, k _ (s1.trans s2)⟩⟩⟩
  refine .inr ⟨e0, ?_⟩
  unfold ToldJ
  cases ef : formV ws with
  | some xs =>
    refine fun H1 p d s1 hp hd => ?_
    refine ⟨_, rfl, _, rfl, l, ws, n, rfl, SqL.of (s1 _ _ hl), hlen, hw, fun x hx hwx => ⟨_, rfl, x, pl, rfl, by omega, by omega, ?_⟩⟩
    rw [hwx]
    refine .inr ⟨e0, .inl ⟨xs, ef, fun H2 q s2 hq => ?_⟩⟩
    refine ⟨_, rfl, p, _, rfl, .inl (SqL.of (s2 _ _ hp)), rfl, _, rfl, ifYes rfl ?_⟩
    obtain ⟨xl, xf⟩ := form_flat hw hlen ef
    exact ⟨_, rfl, rfl, _, rfl, iteT ⟨_, rfl, _, rfl, p, _, _, _, rfl, rfl, SqL.of (s2 _ _ hp), rfl, .inr ⟨q, d, xs, rfl, hq, s2 _ _ hd, xl, xf, fun H3 s3 => k _ ((s1.trans s2).trans s3)⟩⟩⟩
  | none =>
    refine fun H1 p s1 hp => ?_
    refine ⟨_, rfl, _, rfl, l, ws, n, rfl, SqL.of (s1 _ _ hl), hlen, hw, fun x hx hwx => ⟨_, rfl, x, pl, rfl, by omega, by omega, ?_⟩⟩
    rw [hwx]
    refine .inr ⟨e0, .inr ⟨ef, fun H2 dx s2 hdx => ⟨a.C_BadRow, dx, rfl, rfl, T.s_BadRow_FlowError, fun e he => ?_⟩⟩⟩
    have s3 := Same.new he (XO2 a.C_BadRow e dx)
    refine ⟨_, rfl, p, _, rfl, .inl (SqL.of (s3 _ _ (s2 _ _ hp))), rfl, _, rfl, ifNo rfl ?_⟩
    exact ⟨_, rfl, _, rfl, e, dx, pl, rfl, upd_same, s3 _ _ hdx, fun H4 s4 => k _ (((s1.trans s2).trans s3).trans s4)⟩
theorem mixed_nn (c k : Int) : 0 ≤ mixed c k := Int.emod_nonneg _ (by decide)
theorem ok_law (T : Tx P w K mg a) : FnOk P w K mg base CX0 10 a.law a.fd_law ["_law_script"] (sp_law K) := by
  refine T.F_law.ok sc_law (fun vs H Q E h => ?_) (fun cdv A outer s H vs Q E hr h => ?_)
  · obtain ⟨_, _, rfl, _⟩ := h
    rfl
  obtain ⟨l, ns, rfl, hS, h63, hb, _, k⟩ := h
  refine ⟨_, (pss_cons (ps_for PassesOwn.never rfl (pi_range3 rfl T.z_range (pa_cons pe_int (pa_cons (pe_callB (call_max2 rfl) rfl T.z_max PyProof.Rows.Boot.«max» (pa_cons pe_int (pa_cons (pe_callB call_len_seq rfl T.z_len PySem.boot_len (pa_cons (pv 0) pa_nil)) pa_nil))) (pa_cons pe_int pa_nil)))) (pg_name (i := 1) sc_law.nd rfl (Or.inl rfl))
      (pss_cons (ps_set (i := 2) sc_law.nd rfl (Or.inl rfl) (pe_call (ok__law_mixed T) (hr.mono (by decide)) rfl T.m__law_mixed T.F__law_mixed.kp T.b__law_mixed .nil pass0 (pa_cons (pe_call (ok__law_cell_at T) (hr.mono (by decide)) rfl T.m__law_cell_at T.F__law_cell_at.kp T.b__law_cell_at .nil pass0 (pa_cons (pv 0) (pa_cons (pv 1) pa_nil))) (pa_cons pe_int pa_nil))))
      (pss_cons (ps_set (i := 3) sc_law.nd rfl (Or.inl rfl) (pe_call (ok__law_mixed T) (hr.mono (by decide)) rfl T.m__law_mixed T.F__law_mixed.kp T.b__law_mixed .nil pass0 (pa_cons (pe_call (ok__law_cell_at T) (hr.mono (by decide)) rfl T.m__law_cell_at T.F__law_cell_at.kp T.b__law_cell_at .nil pass0 (pa_cons (pv 0) (pa_cons (pe_op oi_add (pv 1) pe_int) pa_nil))) (pa_cons pe_int pa_nil))))
      (pss_cons (ps_set (i := 4) sc_law.nd rfl (Or.inl rfl) (pe_call (ok__law_mixed T) (hr.mono (by decide)) rfl T.m__law_mixed T.F__law_mixed.kp T.b__law_mixed .nil pass0 (pa_cons (pe_call (ok__law_cell_at T) (hr.mono (by decide)) rfl T.m__law_cell_at T.F__law_cell_at.kp T.b__law_cell_at .nil pass0 (pa_cons (pv 0) (pa_cons (pe_op oi_add (pv 1) pe_int) pa_nil))) (pa_cons pe_int pa_nil))))
      (pss_cons (ps_set (i := 5) sc_law.nd rfl (Or.inl rfl) (pe_call (ok__law_mixed T) (hr.mono (by decide)) rfl T.m__law_mixed T.F__law_mixed.kp T.b__law_mixed .nil pass0 (pa_cons (pe_call (ok__law_cell_at T) (hr.mono (by decide)) rfl T.m__law_cell_at T.F__law_cell_at.kp T.b__law_cell_at .nil pass0 (pa_cons (pv 0) (pa_cons (pe_op oi_add (pv 1) pe_int) pa_nil))) (pa_cons pe_int pa_nil))))
      (pss_cons (ps_set (i := 6) sc_law.nd rfl (Or.inl rfl) (pe_call (ok__law_mixed T) (hr.mono (by decide)) rfl T.m__law_mixed T.F__law_mixed.kp T.b__law_mixed .nil pass0 (pa_cons (pe_call (ok__law_cell_at T) (hr.mono (by decide)) rfl T.m__law_cell_at T.F__law_cell_at.kp T.b__law_cell_at .nil pass0 (pa_cons (pv 0) (pa_cons (pe_op oi_add (pv 1) pe_int) pa_nil))) (pa_cons pe_int pa_nil))))
      (pss_cons (ps_set (i := 7) sc_law.nd rfl (Or.inl rfl) (pe_op oi_mod (pv 2) pe_int))
      (pss_cons (ps_if (pt_cmpR oi_gt (pv 7) pe_int (nomark _)) (pss_one (ps_set (i := 7) sc_law.nd rfl (Or.inl rfl) (pe_op oi_add pe_int (pe_op oi_mod (pv 7) pe_int)))) pss_nil)
      (pss_cons (ps_set (i := 8) sc_law.nd rfl (Or.inl rfl) (pe_ix ix_tup (pe_call (ok__law_row_by T) (hr.mono (by decide)) rfl T.m__law_row_by T.F__law_row_by.kp T.b__law_row_by .nil pass0 (pa_cons (pv 7) (pa_cons (pe_op oi_fdiv (pv 2) pe_int) (pa_cons (pv 3) (pa_cons (pv 4) (pa_cons (pv 5) pa_nil)))))) pe_int (fun _ _ => rfl)))
      (pss_cons (ps_set (i := 9) sc_law.nd rfl (Or.inl rfl) (pe_call (ok__law_mixed T) (hr.mono (by decide)) rfl T.m__law_mixed T.F__law_mixed.kp T.b__law_mixed .nil pass0 (pa_cons (pe_call (ok__law_cell_at T) (hr.mono (by decide)) rfl T.m__law_cell_at T.F__law_cell_at.kp T.b__law_cell_at .nil pass0 (pa_cons (pv 0) (pa_cons (pe_op oi_add (pv 1) pe_int) pa_nil))) (pa_cons pe_int pa_nil))))
      (pss_cons (ps_set (i := 8) sc_law.nd rfl (Or.inl rfl) (pe_call (ok__law_spoilt T) (hr.mono (by decide)) rfl T.m__law_spoilt T.F__law_spoilt.kp T.b__law_spoilt .nil pass0 (pa_cons (pv 8) (pa_cons (pe_op oi_mod (pv 9) pe_int) (pa_cons (pe_op oi_mod (pe_op oi_fdiv (pv 9) pe_int) pe_int) (pa_cons (pe_call (ok__law_mixed T) (hr.mono (by decide)) rfl T.m__law_mixed T.F__law_mixed.kp T.b__law_mixed .nil pass0 (pa_cons (pe_call (ok__law_cell_at T) (hr.mono (by decide)) rfl T.m__law_cell_at T.F__law_cell_at.kp T.b__law_cell_at .nil pass0 (pa_cons (pv 0) (pa_cons (pe_op oi_add (pv 1) pe_int) pa_nil))) (pa_cons pe_int pa_nil))) pa_nil))))))
      (pss_one (ps_if (pt_not (pt_val (pe_call (ok__law_holds T) (hr.mono (by decide)) rfl T.m__law_holds T.F__law_holds.kp T.b__law_holds .nil pass0 (pa_cons (pv 8) (pa_cons (pv 6) pa_nil))))) (pss_one (ps_ret pe_bl)) pss_nil)))))))))))))
      (pss_one (ps_ret pe_bl))), ?_⟩
  refine ⟨_, rfl, l, _, rfl, .inl hS, _, _, rfl, ?_⟩
  rw [List.length_map]
  have hm : ∃ m : Nat, (if (ns.length : Int) > 1 then (ns.length : Int) else 1) = (m : Int) ∧ 1 ≤ m ∧ m ≤ 63 := by
    split
    · exact ⟨ns.length, rfl, by omega, by omega⟩
    · exact ⟨1, rfl, by omega, by omega⟩
  obtain ⟨m, em, m1, m2⟩ := hm
  rw [em]
  refine ⟨0, m, 5, (m + 4) / 5, rfl, by decide, by decide, ?_, ?_, ?_⟩
  · have : ∀ m : Nat, m ≤ 63 → Builtin.Range.small 0 (m : Int) 5 = true := by decide +kernel
    exact this m m2
  · have : ∀ m : Nat, m ≤ 63 → Builtin.Range.rangeSize 0 (m : Int) 5 = (((m + 4) / 5 : Nat) : Int) := by decide +kernel
    exact this m m2
  refine for_rangeS (fun i σ H2 => Same H H2 ∧ ∃ v1 v2 v3 v4 v5 v6 v7 v8 v9, σ = [some (.ref l), v1, v2, v3, v4, v5, v6, v7, v8, v9]) ⟨Same.refl H, none, none, none, none, none, none, none, none, none, rfl⟩ ?_ ?_
  · rintro i σ H2 hi ⟨hs, v1, v2, v3, v4, v5, v6, v7, v8, v9, rfl⟩
    have hS2 := hs.seq hS
    have hk0 : (0 : Int) ≤ 0 + i * 5 := by omega
    generalize hk : (0 + (i : Int) * 5) = kk at hk0
    refine ⟨_, rfl, _, rfl, l, ns, kk, rfl, hS2, hk0, hb, fun c1 hc1 => ⟨c1, 1, rfl, hc1, by decide, by decide, ?_⟩⟩
    refine ⟨_, rfl, _, rfl, _, _, rfl, rfl, l, ns, kk + 1, rfl, hS2, by omega, hb, fun c2 hc2 => ⟨c2, 2, rfl, hc2, by decide, by decide, ?_⟩⟩
    refine ⟨_, rfl, _, rfl, _, _, rfl, rfl, l, ns, kk + 2, rfl, hS2, by omega, hb, fun c3 hc3 => ⟨c3, 3, rfl, hc3, by decide, by decide, ?_⟩⟩
    refine ⟨_, rfl, _, rfl, _, _, rfl, rfl, l, ns, kk + 3, rfl, hS2, by omega, hb, fun c4 hc4 => ⟨c4, 4, rfl, hc4, by decide, by decide, ?_⟩⟩
    refine ⟨_, rfl, _, rfl, _, _, rfl, rfl, l, ns, kk + 4, rfl, hS2, by omega, hb, fun c5 hc5 => ⟨c5, 5, rfl, hc5, by decide, by decide, ?_⟩⟩
    generalize mixed c1 1 = m1
    generalize mixed c2 2 = m2
    generalize mixed c3 3 = m3
    generalize mixed c4 4 = m4
    have g0 := mixed_nn c5 5
    generalize mixed c5 5 = m5 at g0 ⊢
    refine ⟨_, rfl, _, _, rfl, rfl, (by decide), ?_⟩
    have way0 : 0 ≤ m1 % 24 := Int.emod_nonneg _ (by decide)
    have way1 : 0 ≤ 5 + m1 % 24 % 2 := by omega
    refine ⟨_, rfl, _, _, rfl, rfl, _, rfl, ite2 (fun _ => ⟨_, rfl, _, _, rfl, rfl, by decide, _, _, rfl, rfl, ?_⟩) (fun _ => ?_)⟩
    generalize 5 + m1 % 24 % 2 = way at way1 ⊢
    have wayN := way1
    rotate_left
    clear way1
    generalize m1 % 24 = way at way0 ⊢
    have wayN := way0
    all_goals
      refine ⟨_, rfl, _, rfl, _, _, rfl, rfl, ⟨by decide, by decide⟩, _, rfl, _, rfl, _, rfl, _, _, _, _, _, rfl, wayN, fun H3 t lw ws due hs3 ht hlw hwn hw hdue => ?_⟩
      refine ⟨t, _, 0, _, rfl, rfl, .inl (.inl ht), atI_nat (j := 0) rfl, ?_⟩
      have hS3 := hs3.seq hS2
      refine ⟨_, rfl, _, rfl, _, _, rfl, rfl, l, ns, kk + 4, rfl, hS3, by omega, hb, fun c6 hc6 => ⟨c6, 6, rfl, hc6, by decide, by decide, ?_⟩⟩
      have b0 := mixed_nn c6 6
      generalize mixed c6 6 = m6 at b0 ⊢
      refine ⟨_, rfl, _, rfl, _, _, rfl, rfl, by decide, _, rfl, _, _, rfl, rfl, ⟨by decide, by decide⟩, _, _, rfl, rfl, by decide, _, rfl, _, rfl, _, _, rfl, rfl, l, ns, kk + 3, rfl, hS3, by omega, hb, fun c7 hc7 => ⟨c7, 7, rfl, hc7, by decide, by decide, ?_⟩⟩
      refine ⟨lw, ws, _, _, _, rfl, hlw, hwn, hw, Int.emod_nonneg _ (by decide), Int.emod_lt_of_pos _ (by decide), Int.emod_nonneg _ (by decide), mixed_nn _ _, fun H4 p ws' hs4 hp hl' hw' => ?_⟩
      refine ⟨_, rfl, _, rfl, p, ws', m5, rfl, hp, hl', hw', g0, fun H5 hs5 => ⟨_, rfl, iteF ?_⟩⟩
      exact ⟨hs.trans (hs3.trans (hs4.trans hs5)), _, _, _, _, _, _, _, _, _, rfl⟩
  · rintro σ H2 _
    exact k H2
end
theorem all_mk {l : PySem.W.OpenLaw} {w : World} {K : PySem.W.Frag} {h : Heap} {mg : Str → Option Value} {fa : Addr} (X : K.In h) (G : h.Ns mainGlobals mg) (hfa : mg "law" = some (.ref fa))
    {c_FlowError : Addr}
    (ac_FlowError : PySem.W.nsIn K mainGlobals "FlowError" = some (some (.ref c_FlowError)))
    {c_BadRow : Addr}
    (ac_BadRow : PySem.W.nsIn K mainGlobals "BadRow" = some (some (.ref c_BadRow)))
    {c_BadNest : Addr}
    (ac_BadNest : PySem.W.nsIn K mainGlobals "BadNest" = some (some (.ref c_BadNest)))
    {c_Twice : Addr}
    (ac_Twice : PySem.W.nsIn K mainGlobals "Twice" = some (some (.ref c_Twice)))
    {c_NoStore : Addr}
    (ac_NoStore : PySem.W.nsIn K mainGlobals "NoStore" = some (some (.ref c_NoStore)))
    {c_Hidden : Addr}
    (ac_Hidden : PySem.W.nsIn K mainGlobals "Hidden" = some (some (.ref c_Hidden)))
    {c_Starved : Addr}
    (ac_Starved : PySem.W.nsIn K mainGlobals "Starved" = some (some (.ref c_Starved)))
    {c_TooMuch : Addr}
    (ac_TooMuch : PySem.W.nsIn K mainGlobals "TooMuch" = some (some (.ref c_TooMuch)))
    {f0 : Addr} {od0 an0 : Option Addr} {sl0 : Array (Option Value)} {oc0 kV0 dc0 pm0 cd0 ct0 : Value}
    (xi_BadRow : PySem.W.findIn K (.ref c_BadRow) "__init__" = some (some (.ref f0)))
    (xf_BadRow : PySem.W.isFn K (.ref f0) = true)
    (l0 : K.lookup f0 = some ⟨oc0, od0, .func (PySem.W.fnOf "__init__" "FlowError.__init__" (defArgs s_FlowError___init__) (defBody s_FlowError___init__) (defScope s_FlowError___init__) .none kV0 dc0 pm0 an0 cd0 ct0), sl0⟩)
    (c0 : PySem.W.codeIn K cd0 "FlowError.__init__" = true)
    (k0 : PySem.W.keepIn K (.ref f0) = true)
    {f1 : Addr} {od1 an1 : Option Addr} {sl1 : Array (Option Value)} {oc1 kV1 dc1 pm1 cd1 ct1 : Value}
    (a1 : PySem.W.nsIn K mainGlobals "is_name" = some (some (.ref f1)))
    (l1 : K.lookup f1 = some ⟨oc1, od1, .func (PySem.W.fnOf "is_name" "is_name" (defArgs s_is_name) (defBody s_is_name) (defScope s_is_name) .none kV1 dc1 pm1 an1 cd1 ct1), sl1⟩)
    (c1 : PySem.W.codeIn K cd1 "is_name" = true)
    (k1 : PySem.W.keepIn K (.ref f1) = true)
    {f2 : Addr} {od2 an2 : Option Addr} {sl2 : Array (Option Value)} {oc2 kV2 dc2 pm2 cd2 ct2 : Value}
    (a2 : PySem.W.nsIn K mainGlobals "number_in" = some (some (.ref f2)))
    (l2 : K.lookup f2 = some ⟨oc2, od2, .func (PySem.W.fnOf "number_in" "number_in" (defArgs s_number_in) (defBody s_number_in) (defScope s_number_in) .none kV2 dc2 pm2 an2 cd2 ct2), sl2⟩)
    (c2 : PySem.W.codeIn K cd2 "number_in" = true)
    (k2 : PySem.W.keepIn K (.ref f2) = true)
    {f3 : Addr} {od3 an3 : Option Addr} {sl3 : Array (Option Value)} {oc3 kV3 dc3 pm3 cd3 ct3 : Value}
    (a3 : PySem.W.nsIn K mainGlobals "value_in" = some (some (.ref f3)))
    (l3 : K.lookup f3 = some ⟨oc3, od3, .func (PySem.W.fnOf "value_in" "value_in" (defArgs s_value_in) (defBody s_value_in) (defScope s_value_in) .none kV3 dc3 pm3 an3 cd3 ct3), sl3⟩)
    (c3 : PySem.W.codeIn K cd3 "value_in" = true)
    (k3 : PySem.W.keepIn K (.ref f3) = true)
    {f4 : Addr} {od4 an4 : Option Addr} {sl4 : Array (Option Value)} {oc4 kV4 dc4 pm4 cd4 ct4 : Value}
    (a4 : PySem.W.nsIn K mainGlobals "is_made_of" = some (some (.ref f4)))
    (l4 : K.lookup f4 = some ⟨oc4, od4, .func (PySem.W.fnOf "is_made_of" "is_made_of" (defArgs s_is_made_of) (defBody s_is_made_of) (defScope s_is_made_of) .none kV4 dc4 pm4 an4 cd4 ct4), sl4⟩)
    (c4 : PySem.W.codeIn K cd4 "is_made_of" = true)
    (k4 : PySem.W.keepIn K (.ref f4) = true)
    {f5 : Addr} {od5 an5 : Option Addr} {sl5 : Array (Option Value)} {oc5 kV5 dc5 pm5 cd5 ct5 : Value}
    (a5 : PySem.W.nsIn K mainGlobals "row_of" = some (some (.ref f5)))
    (l5 : K.lookup f5 = some ⟨oc5, od5, .func (PySem.W.fnOf "row_of" "row_of" (defArgs s_row_of) (defBody s_row_of) (defScope s_row_of) .none kV5 dc5 pm5 an5 cd5 ct5), sl5⟩)
    (c5 : PySem.W.codeIn K cd5 "row_of" = true)
    (k5 : PySem.W.keepIn K (.ref f5) = true)
    {f6 : Addr} {od6 an6 : Option Addr} {sl6 : Array (Option Value)} {oc6 kV6 dc6 pm6 cd6 ct6 : Value}
    (a6 : PySem.W.nsIn K mainGlobals "words_of" = some (some (.ref f6)))
    (l6 : K.lookup f6 = some ⟨oc6, od6, .func (PySem.W.fnOf "words_of" "words_of" (defArgs s_words_of) (defBody s_words_of) (defScope s_words_of) .none kV6 dc6 pm6 an6 cd6 ct6), sl6⟩)
    (c6 : PySem.W.codeIn K cd6 "words_of" = true)
    (k6 : PySem.W.keepIn K (.ref f6) = true)
    {f7 : Addr} {od7 an7 : Option Addr} {sl7 : Array (Option Value)} {oc7 kV7 dc7 pm7 cd7 ct7 : Value}
    (a7 : PySem.W.nsIn K mainGlobals "form_of" = some (some (.ref f7)))
    (l7 : K.lookup f7 = some ⟨oc7, od7, .func (PySem.W.fnOf "form_of" "form_of" (defArgs s_form_of) (defBody s_form_of) (defScope s_form_of) .none kV7 dc7 pm7 an7 cd7 ct7), sl7⟩)
    (c7 : PySem.W.codeIn K cd7 "form_of" = true)
    (k7 : PySem.W.keepIn K (.ref f7) = true)
    {f8 : Addr} {od8 an8 : Option Addr} {sl8 : Array (Option Value)} {oc8 kV8 dc8 pm8 cd8 ct8 : Value}
    (a8 : PySem.W.nsIn K mainGlobals "filled" = some (some (.ref f8)))
    (l8 : K.lookup f8 = some ⟨oc8, od8, .func (PySem.W.fnOf "filled" "filled" (defArgs s_filled) (defBody s_filled) (defScope s_filled) .none kV8 dc8 pm8 an8 cd8 ct8), sl8⟩)
    (c8 : PySem.W.codeIn K cd8 "filled" = true)
    (k8 : PySem.W.keepIn K (.ref f8) = true)
    {f9 : Addr} {od9 an9 : Option Addr} {sl9 : Array (Option Value)} {oc9 kV9 dc9 pm9 cd9 ct9 : Value}
    (a9 : PySem.W.nsIn K mainGlobals "thing_in" = some (some (.ref f9)))
    (l9 : K.lookup f9 = some ⟨oc9, od9, .func (PySem.W.fnOf "thing_in" "thing_in" (defArgs s_thing_in) (defBody s_thing_in) (defScope s_thing_in) .none kV9 dc9 pm9 an9 cd9 ct9), sl9⟩)
    (c9 : PySem.W.codeIn K cd9 "thing_in" = true)
    (k9 : PySem.W.keepIn K (.ref f9) = true)
    {f10 : Addr} {od10 an10 : Option Addr} {sl10 : Array (Option Value)} {oc10 kV10 dc10 pm10 cd10 ct10 : Value}
    (a10 : PySem.W.nsIn K mainGlobals "number_within" = some (some (.ref f10)))
    (l10 : K.lookup f10 = some ⟨oc10, od10, .func (PySem.W.fnOf "number_within" "number_within" (defArgs s_number_within) (defBody s_number_within) (defScope s_number_within) .none kV10 dc10 pm10 an10 cd10 ct10), sl10⟩)
    (c10 : PySem.W.codeIn K cd10 "number_within" = true)
    (k10 : PySem.W.keepIn K (.ref f10) = true)
    {f11 : Addr} {od11 an11 : Option Addr} {sl11 : Array (Option Value)} {oc11 kV11 dc11 pm11 cd11 ct11 : Value}
    (a11 : PySem.W.nsIn K mainGlobals "_law_cell_at" = some (some (.ref f11)))
    (l11 : K.lookup f11 = some ⟨oc11, od11, .func (PySem.W.fnOf "_law_cell_at" "_law_cell_at" (defArgs s__law_cell_at) (defBody s__law_cell_at) (defScope s__law_cell_at) .none kV11 dc11 pm11 an11 cd11 ct11), sl11⟩)
    (c11 : PySem.W.codeIn K cd11 "_law_cell_at" = true)
    (k11 : PySem.W.keepIn K (.ref f11) = true)
    {f12 : Addr} {od12 an12 : Option Addr} {sl12 : Array (Option Value)} {oc12 kV12 dc12 pm12 cd12 ct12 : Value}
    (a12 : PySem.W.nsIn K mainGlobals "_law_mixed" = some (some (.ref f12)))
    (l12 : K.lookup f12 = some ⟨oc12, od12, .func (PySem.W.fnOf "_law_mixed" "_law_mixed" (defArgs s__law_mixed) (defBody s__law_mixed) (defScope s__law_mixed) .none kV12 dc12 pm12 an12 cd12 ct12), sl12⟩)
    (c12 : PySem.W.codeIn K cd12 "_law_mixed" = true)
    (k12 : PySem.W.keepIn K (.ref f12) = true)
    {f13 : Addr} {od13 an13 : Option Addr} {sl13 : Array (Option Value)} {oc13 kV13 dc13 pm13 cd13 ct13 : Value}
    (a13 : PySem.W.nsIn K mainGlobals "_law_sign_by" = some (some (.ref f13)))
    (l13 : K.lookup f13 = some ⟨oc13, od13, .func (PySem.W.fnOf "_law_sign_by" "_law_sign_by" (defArgs s__law_sign_by) (defBody s__law_sign_by) (defScope s__law_sign_by) .none kV13 dc13 pm13 an13 cd13 ct13), sl13⟩)
    (c13 : PySem.W.codeIn K cd13 "_law_sign_by" = true)
    (k13 : PySem.W.keepIn K (.ref f13) = true)
    {f14 : Addr} {od14 an14 : Option Addr} {sl14 : Array (Option Value)} {oc14 kV14 dc14 pm14 cd14 ct14 : Value}
    (a14 : PySem.W.nsIn K mainGlobals "_law_keywords" = some (some (.ref f14)))
    (l14 : K.lookup f14 = some ⟨oc14, od14, .func (PySem.W.fnOf "_law_keywords" "_law_keywords" (defArgs s__law_keywords) (defBody s__law_keywords) (defScope s__law_keywords) .none kV14 dc14 pm14 an14 cd14 ct14), sl14⟩)
    (c14 : PySem.W.codeIn K cd14 "_law_keywords" = true)
    (k14 : PySem.W.keepIn K (.ref f14) = true)
    {f15 : Addr} {od15 an15 : Option Addr} {sl15 : Array (Option Value)} {oc15 kV15 dc15 pm15 cd15 ct15 : Value}
    (a15 : PySem.W.nsIn K mainGlobals "_law_letters" = some (some (.ref f15)))
    (l15 : K.lookup f15 = some ⟨oc15, od15, .func (PySem.W.fnOf "_law_letters" "_law_letters" (defArgs s__law_letters) (defBody s__law_letters) (defScope s__law_letters) .none kV15 dc15 pm15 an15 cd15 ct15), sl15⟩)
    (c15 : PySem.W.codeIn K cd15 "_law_letters" = true)
    (k15 : PySem.W.keepIn K (.ref f15) = true)
    {f16 : Addr} {od16 an16 : Option Addr} {sl16 : Array (Option Value)} {oc16 kV16 dc16 pm16 cd16 ct16 : Value}
    (a16 : PySem.W.nsIn K mainGlobals "_law_is_name" = some (some (.ref f16)))
    (l16 : K.lookup f16 = some ⟨oc16, od16, .func (PySem.W.fnOf "_law_is_name" "_law_is_name" (defArgs s__law_is_name) (defBody s__law_is_name) (defScope s__law_is_name) .none kV16 dc16 pm16 an16 cd16 ct16), sl16⟩)
    (c16 : PySem.W.codeIn K cd16 "_law_is_name" = true)
    (k16 : PySem.W.keepIn K (.ref f16) = true)
    {f17 : Addr} {od17 an17 : Option Addr} {sl17 : Array (Option Value)} {oc17 kV17 dc17 pm17 cd17 ct17 : Value}
    (a17 : PySem.W.nsIn K mainGlobals "_law_number" = some (some (.ref f17)))
    (l17 : K.lookup f17 = some ⟨oc17, od17, .func (PySem.W.fnOf "_law_number" "_law_number" (defArgs s__law_number) (defBody s__law_number) (defScope s__law_number) .none kV17 dc17 pm17 an17 cd17 ct17), sl17⟩)
    (c17 : PySem.W.codeIn K cd17 "_law_number" = true)
    (k17 : PySem.W.keepIn K (.ref f17) = true)
    {f18 : Addr} {od18 an18 : Option Addr} {sl18 : Array (Option Value)} {oc18 kV18 dc18 pm18 cd18 ct18 : Value}
    (a18 : PySem.W.nsIn K mainGlobals "_law_name_by" = some (some (.ref f18)))
    (l18 : K.lookup f18 = some ⟨oc18, od18, .func (PySem.W.fnOf "_law_name_by" "_law_name_by" (defArgs s__law_name_by) (defBody s__law_name_by) (defScope s__law_name_by) .none kV18 dc18 pm18 an18 cd18 ct18), sl18⟩)
    (c18 : PySem.W.codeIn K cd18 "_law_name_by" = true)
    (k18 : PySem.W.keepIn K (.ref f18) = true)
    {f19 : Addr} {od19 an19 : Option Addr} {sl19 : Array (Option Value)} {oc19 kV19 dc19 pm19 cd19 ct19 : Value}
    (a19 : PySem.W.nsIn K mainGlobals "_law_value_by" = some (some (.ref f19)))
    (l19 : K.lookup f19 = some ⟨oc19, od19, .func (PySem.W.fnOf "_law_value_by" "_law_value_by" (defArgs s__law_value_by) (defBody s__law_value_by) (defScope s__law_value_by) .none kV19 dc19 pm19 an19 cd19 ct19), sl19⟩)
    (c19 : PySem.W.codeIn K cd19 "_law_value_by" = true)
    (k19 : PySem.W.keepIn K (.ref f19) = true)
    {f20 : Addr} {od20 an20 : Option Addr} {sl20 : Array (Option Value)} {oc20 kV20 dc20 pm20 cd20 ct20 : Value}
    (a20 : PySem.W.nsIn K mainGlobals "_law_from" = some (some (.ref f20)))
    (l20 : K.lookup f20 = some ⟨oc20, od20, .func (PySem.W.fnOf "_law_from" "_law_from" (defArgs s__law_from) (defBody s__law_from) (defScope s__law_from) .none kV20 dc20 pm20 an20 cd20 ct20), sl20⟩)
    (c20 : PySem.W.codeIn K cd20 "_law_from" = true)
    (k20 : PySem.W.keepIn K (.ref f20) = true)
    {f21 : Addr} {od21 an21 : Option Addr} {sl21 : Array (Option Value)} {oc21 kV21 dc21 pm21 cd21 ct21 : Value}
    (a21 : PySem.W.nsIn K mainGlobals "_law_row_by" = some (some (.ref f21)))
    (l21 : K.lookup f21 = some ⟨oc21, od21, .func (PySem.W.fnOf "_law_row_by" "_law_row_by" (defArgs s__law_row_by) (defBody s__law_row_by) (defScope s__law_row_by) .none kV21 dc21 pm21 an21 cd21 ct21), sl21⟩)
    (c21 : PySem.W.codeIn K cd21 "_law_row_by" = true)
    (k21 : PySem.W.keepIn K (.ref f21) = true)
    {f22 : Addr} {od22 an22 : Option Addr} {sl22 : Array (Option Value)} {oc22 kV22 dc22 pm22 cd22 ct22 : Value}
    (a22 : PySem.W.nsIn K mainGlobals "_law_spaced" = some (some (.ref f22)))
    (l22 : K.lookup f22 = some ⟨oc22, od22, .func (PySem.W.fnOf "_law_spaced" "_law_spaced" (defArgs s__law_spaced) (defBody s__law_spaced) (defScope s__law_spaced) .none kV22 dc22 pm22 an22 cd22 ct22), sl22⟩)
    (c22 : PySem.W.codeIn K cd22 "_law_spaced" = true)
    (k22 : PySem.W.keepIn K (.ref f22) = true)
    {f23 : Addr} {od23 an23 : Option Addr} {sl23 : Array (Option Value)} {oc23 kV23 dc23 pm23 cd23 ct23 : Value}
    (a23 : PySem.W.nsIn K mainGlobals "_law_same" = some (some (.ref f23)))
    (l23 : K.lookup f23 = some ⟨oc23, od23, .func (PySem.W.fnOf "_law_same" "_law_same" (defArgs s__law_same) (defBody s__law_same) (defScope s__law_same) .none kV23 dc23 pm23 an23 cd23 ct23), sl23⟩)
    (c23 : PySem.W.codeIn K cd23 "_law_same" = true)
    (k23 : PySem.W.keepIn K (.ref f23) = true)
    {f24 : Addr} {od24 an24 : Option Addr} {sl24 : Array (Option Value)} {oc24 kV24 dc24 pm24 cd24 ct24 : Value}
    (a24 : PySem.W.nsIn K mainGlobals "_law_is_refused" = some (some (.ref f24)))
    (l24 : K.lookup f24 = some ⟨oc24, od24, .func (PySem.W.fnOf "_law_is_refused" "_law_is_refused" (defArgs s__law_is_refused) (defBody s__law_is_refused) (defScope s__law_is_refused) .none kV24 dc24 pm24 an24 cd24 ct24), sl24⟩)
    (c24 : PySem.W.codeIn K cd24 "_law_is_refused" = true)
    (k24 : PySem.W.keepIn K (.ref f24) = true)
    {f25 : Addr} {od25 an25 : Option Addr} {sl25 : Array (Option Value)} {oc25 kV25 dc25 pm25 cd25 ct25 : Value}
    (a25 : PySem.W.nsIn K mainGlobals "_law_odd_by" = some (some (.ref f25)))
    (l25 : K.lookup f25 = some ⟨oc25, od25, .func (PySem.W.fnOf "_law_odd_by" "_law_odd_by" (defArgs s__law_odd_by) (defBody s__law_odd_by) (defScope s__law_odd_by) .none kV25 dc25 pm25 an25 cd25 ct25), sl25⟩)
    (c25 : PySem.W.codeIn K cd25 "_law_odd_by" = true)
    (k25 : PySem.W.keepIn K (.ref f25) = true)
    {f26 : Addr} {od26 an26 : Option Addr} {sl26 : Array (Option Value)} {oc26 kV26 dc26 pm26 cd26 ct26 : Value}
    (a26 : PySem.W.nsIn K mainGlobals "_law_spoilt" = some (some (.ref f26)))
    (l26 : K.lookup f26 = some ⟨oc26, od26, .func (PySem.W.fnOf "_law_spoilt" "_law_spoilt" (defArgs s__law_spoilt) (defBody s__law_spoilt) (defScope s__law_spoilt) .none kV26 dc26 pm26 an26 cd26 ct26), sl26⟩)
    (c26 : PySem.W.codeIn K cd26 "_law_spoilt" = true)
    (k26 : PySem.W.keepIn K (.ref f26) = true)
    {f27 : Addr} {od27 an27 : Option Addr} {sl27 : Array (Option Value)} {oc27 kV27 dc27 pm27 cd27 ct27 : Value}
    (a27 : PySem.W.nsIn K mainGlobals "_law_value" = some (some (.ref f27)))
    (l27 : K.lookup f27 = some ⟨oc27, od27, .func (PySem.W.fnOf "_law_value" "_law_value" (defArgs s__law_value) (defBody s__law_value) (defScope s__law_value) .none kV27 dc27 pm27 an27 cd27 ct27), sl27⟩)
    (c27 : PySem.W.codeIn K cd27 "_law_value" = true)
    (k27 : PySem.W.keepIn K (.ref f27) = true)
    {f28 : Addr} {od28 an28 : Option Addr} {sl28 : Array (Option Value)} {oc28 kV28 dc28 pm28 cd28 ct28 : Value}
    (a28 : PySem.W.nsIn K mainGlobals "_law_judged_set" = some (some (.ref f28)))
    (l28 : K.lookup f28 = some ⟨oc28, od28, .func (PySem.W.fnOf "_law_judged_set" "_law_judged_set" (defArgs s__law_judged_set) (defBody s__law_judged_set) (defScope s__law_judged_set) .none kV28 dc28 pm28 an28 cd28 ct28), sl28⟩)
    (c28 : PySem.W.codeIn K cd28 "_law_judged_set" = true)
    (k28 : PySem.W.keepIn K (.ref f28) = true)
    {f29 : Addr} {od29 an29 : Option Addr} {sl29 : Array (Option Value)} {oc29 kV29 dc29 pm29 cd29 ct29 : Value}
    (a29 : PySem.W.nsIn K mainGlobals "_law_judged" = some (some (.ref f29)))
    (l29 : K.lookup f29 = some ⟨oc29, od29, .func (PySem.W.fnOf "_law_judged" "_law_judged" (defArgs s__law_judged) (defBody s__law_judged) (defScope s__law_judged) .none kV29 dc29 pm29 an29 cd29 ct29), sl29⟩)
    (c29 : PySem.W.codeIn K cd29 "_law_judged" = true)
    (k29 : PySem.W.keepIn K (.ref f29) = true)
    {f30 : Addr} {od30 an30 : Option Addr} {sl30 : Array (Option Value)} {oc30 kV30 dc30 pm30 cd30 ct30 : Value}
    (a30 : PySem.W.nsIn K mainGlobals "_law_holds" = some (some (.ref f30)))
    (l30 : K.lookup f30 = some ⟨oc30, od30, .func (PySem.W.fnOf "_law_holds" "_law_holds" (defArgs s__law_holds) (defBody s__law_holds) (defScope s__law_holds) .none kV30 dc30 pm30 an30 cd30 ct30), sl30⟩)
    (c30 : PySem.W.codeIn K cd30 "_law_holds" = true)
    (k30 : PySem.W.keepIn K (.ref f30) = true)
    {f31 : Addr} {od31 an31 : Option Addr} {sl31 : Array (Option Value)} {oc31 kV31 dc31 pm31 cd31 ct31 : Value}
    (a31 : PySem.W.nsIn K mainGlobals "law" = some (some (.ref f31)))
    (l31 : K.lookup f31 = some ⟨oc31, od31, .func (PySem.W.fnOf "law" "law" (defArgs s_law) (defBody s_law) (defScope s_law) .none kV31 dc31 pm31 an31 cd31 ct31), sl31⟩)
    (c31 : PySem.W.codeIn K cd31 "law" = true)
    (k31 : PySem.W.keepIn K (.ref f31) = true)
    {nm_BadRow q_BadRow : Str} {N_BadRow : Addr} {bs_BadRow bm_BadRow : List Value} {sn_BadRow : List Str} {su_BadRow : List Value} {ab_BadRow : Bool} {col_BadRow : Option Bool} {dd_BadRow : Option Addr} {k0_BadRow k1_BadRow k2_BadRow k3_BadRow k5_BadRow : Option Value}
    (xo_BadRow : K.lookup c_BadRow = some (excClassObj nm_BadRow q_BadRow c_BadRow N_BadRow bs_BadRow bm_BadRow true sn_BadRow su_BadRow ab_BadRow col_BadRow dd_BadRow k0_BadRow k1_BadRow k2_BadRow k3_BadRow k5_BadRow "ValueError.__new__"))
    (X0_BadRow : bm_BadRow.contains (.type "ValueError") = true)
    (X1_BadRow : bm_BadRow.contains (.type "BaseException") = true)
    (X2_BadRow : bm_BadRow.contains (.type "object") = true)
    (X3_BadRow : bm_BadRow.contains (.type "AttributeError") = false)
    (X4_BadRow : bm_BadRow.contains (.type "NameError") = false)
    (Y_BadRow : ∀ self, refuseLoop self "__setattr__" bm_BadRow = pure ())
    (xs_BadRow : PySem.W.findIn K (.ref c_BadRow) "__setattr__" = some (some (.builtin "object.__setattr__")))
    (xp_BadRow : PySem.W.findIn K (.ref c_BadRow) "place" = some none)
    (xk_BadRow : PySem.W.keepIn K (.ref c_BadRow) = true)
    (xg_BadRow : PySem.W.findIn K (.ref c_BadRow) "__getattribute__" = some (some (.builtin "BaseException.__getattribute__")))
    (xh_BadRow : PySem.W.findIn K (.ref c_BadRow) "__getattr__" = some none)
    (xc_BadRow : PySem.W.findIn K (.ref c_BadRow) "__class__" = some (some (.builtin "object.__class__")))
    (X9_BadRow_FlowError : (Value.ref c_BadRow :: bm_BadRow).contains (.ref c_FlowError) = true)
    (ki_BadRow_FlowError : PySem.W.kitOne K (.ref c_BadRow) (.ref c_FlowError) = some true)
    (ki_BadRow_BadRow : PySem.W.kitOne K (.ref c_BadRow) (.ref c_BadRow) = some true)
    (ki_BadRow_BadNest : PySem.W.kitOne K (.ref c_BadRow) (.ref c_BadNest) = some false)
    (ki_BadRow_Twice : PySem.W.kitOne K (.ref c_BadRow) (.ref c_Twice) = some false)
    (ki_BadRow_NoStore : PySem.W.kitOne K (.ref c_BadRow) (.ref c_NoStore) = some false)
    (ki_BadRow_Hidden : PySem.W.kitOne K (.ref c_BadRow) (.ref c_Hidden) = some false)
    (ki_BadRow_Starved : PySem.W.kitOne K (.ref c_BadRow) (.ref c_Starved) = some false)
    (ki_BadRow_TooMuch : PySem.W.kitOne K (.ref c_BadRow) (.ref c_TooMuch) = some false)
    (ki_BadRow_ValueError : PySem.W.kitOne K (.ref c_BadRow) (.type "ValueError") = some true)
    {nm_FlowError q_FlowError : Str} {N_FlowError : Addr} {bs_FlowError bm_FlowError : List Value} {sn_FlowError : List Str} {su_FlowError : List Value} {ab_FlowError : Bool} {col_FlowError : Option Bool} {dd_FlowError : Option Addr} {k0_FlowError k1_FlowError k2_FlowError k3_FlowError k5_FlowError : Option Value} {hd_FlowError : Bool} {ni_FlowError : String}
    (xo_FlowError : K.lookup c_FlowError = some (excClassObj nm_FlowError q_FlowError c_FlowError N_FlowError bs_FlowError bm_FlowError hd_FlowError sn_FlowError su_FlowError ab_FlowError col_FlowError dd_FlowError k0_FlowError k1_FlowError k2_FlowError k3_FlowError k5_FlowError ni_FlowError))
    (X1_FlowError : bm_FlowError.contains (.type "BaseException") = true)
    (z_ValueError : PySem.W.nsIn K mainGlobals "ValueError" = some none)
    (z_all : PySem.W.nsIn K mainGlobals "all" = some none)
    (z_bool : PySem.W.nsIn K mainGlobals "bool" = some none)
    (z_int : PySem.W.nsIn K mainGlobals "int" = some none)
    (z_isinstance : PySem.W.nsIn K mainGlobals "isinstance" = some none)
    (z_len : PySem.W.nsIn K mainGlobals "len" = some none)
    (z_list : PySem.W.nsIn K mainGlobals "list" = some none)
    (z_max : PySem.W.nsIn K mainGlobals "max" = some none)
    (z_range : PySem.W.nsIn K mainGlobals "range" = some none)
    (z_str : PySem.W.nsIn K mainGlobals "str" = some none)
    (z_tuple : PySem.W.nsIn K mainGlobals "tuple" = some none)
    (z_zip : PySem.W.nsIn K mainGlobals "zip" = some none)
    {A_KEYWORDS : Addr} {d_KEYWORDS : Option Addr} {i_KEYWORDS : Array Value} {n_KEYWORDS : Nat} {e_KEYWORDS : Array (Option Value)} (c_KEYWORDS : PySem.W.nsIn K mainGlobals "KEYWORDS" = some (some (.ref A_KEYWORDS))) (t_KEYWORDS : K.lookup A_KEYWORDS = some ⟨.type "tuple", d_KEYWORDS, .seq i_KEYWORDS n_KEYWORDS, e_KEYWORDS⟩) (v_KEYWORDS : i_KEYWORDS.size ≤ sizeLine ∧ Vals [.str "ask", .str "store", .str "put", .str "get", .str "give", .str "if", .str "else", .str "while", .str "repeat", .str "end"] i_KEYWORDS.toList)
    {A_SIGNS : Addr} {d_SIGNS : Option Addr} {i_SIGNS : Array Value} {n_SIGNS : Nat} {e_SIGNS : Array (Option Value)} (c_SIGNS : PySem.W.nsIn K mainGlobals "SIGNS" = some (some (.ref A_SIGNS))) (t_SIGNS : K.lookup A_SIGNS = some ⟨.type "tuple", d_SIGNS, .seq i_SIGNS n_SIGNS, e_SIGNS⟩) (v_SIGNS : i_SIGNS.size ≤ sizeLine ∧ Vals [.str "+", .str "-", .str "*", .str "/", .str "<", .str "=", .str "&", .str "|", .str "^"] i_SIGNS.toList)
    {tk_LETTERS : Tok} (c_LETTERS : PySem.W.nsIn K mainGlobals "LETTERS" = some (some (.str "abcdefghijklmnopqrstuvwxyz" tk_LETTERS)))
    {tk_FIGURES : Tok} (c_FIGURES : PySem.W.nsIn K mainGlobals "FIGURES" = some (some (.str "0123456789" tk_FIGURES)))
    {tk_MOST_LETTERS : Tok} (c_MOST_LETTERS : PySem.W.nsIn K mainGlobals "MOST_LETTERS" = some (some (.int 8 tk_MOST_LETTERS)))
    {tk_MOST_FIGURES : Tok} (c_MOST_FIGURES : PySem.W.nsIn K mainGlobals "MOST_FIGURES" = some (some (.int 30 tk_MOST_FIGURES)))
    {A_FORMS : Addr} {i_FORMS : Array DictEntry} {n_FORMS : Nat} {A_FORMS_0 : Addr} {A_FORMS_1 : Addr} {A_FORMS_2 : Addr} {A_FORMS_3 : Addr} {A_FORMS_4 : Addr} {A_FORMS_5 : Addr} {A_FORMS_6 : Addr} {A_FORMS_7 : Addr} {A_FORMS_8 : Addr} {A_FORMS_9 : Addr} {k_FORMS_0 : Tok} {k_FORMS_1 : Tok} {k_FORMS_2 : Tok} {k_FORMS_3 : Tok} {k_FORMS_4 : Tok} {k_FORMS_5 : Tok} {k_FORMS_6 : Tok} {k_FORMS_7 : Tok} {k_FORMS_8 : Tok} {k_FORMS_9 : Tok} (c_FORMS : PySem.W.nsIn K mainGlobals "FORMS" = some (some (.ref A_FORMS))) (t_FORMS : K.lookup A_FORMS = some ⟨.type "dict", none, .dict i_FORMS n_FORMS, #[]⟩) (w_FORMS : (A_FORMS == sysModules) = false) (V_FORMS : i_FORMS.toList = [⟨hashStr w "ask", .str "ask" k_FORMS_0, .ref A_FORMS_0⟩, ⟨hashStr w "store", .str "store" k_FORMS_1, .ref A_FORMS_1⟩, ⟨hashStr w "put", .str "put" k_FORMS_2, .ref A_FORMS_2⟩, ⟨hashStr w "get", .str "get" k_FORMS_3, .ref A_FORMS_3⟩, ⟨hashStr w "give", .str "give" k_FORMS_4, .ref A_FORMS_4⟩, ⟨hashStr w "if", .str "if" k_FORMS_5, .ref A_FORMS_5⟩, ⟨hashStr w "else", .str "else" k_FORMS_6, .ref A_FORMS_6⟩, ⟨hashStr w "while", .str "while" k_FORMS_7, .ref A_FORMS_7⟩, ⟨hashStr w "repeat", .str "repeat" k_FORMS_8, .ref A_FORMS_8⟩, ⟨hashStr w "end", .str "end" k_FORMS_9, .ref A_FORMS_9⟩])
    {d_FORMS_0 : Option Addr} {i_FORMS_0 : Array Value} {n_FORMS_0 : Nat} {e_FORMS_0 : Array (Option Value)} (t_FORMS_0 : K.lookup A_FORMS_0 = some ⟨.type "tuple", d_FORMS_0, .seq i_FORMS_0 n_FORMS_0, e_FORMS_0⟩) (v_FORMS_0 : i_FORMS_0.size ≤ sizeLine ∧ Vals [.str "name"] i_FORMS_0.toList)
    {d_FORMS_1 : Option Addr} {i_FORMS_1 : Array Value} {n_FORMS_1 : Nat} {e_FORMS_1 : Array (Option Value)} (t_FORMS_1 : K.lookup A_FORMS_1 = some ⟨.type "tuple", d_FORMS_1, .seq i_FORMS_1 n_FORMS_1, e_FORMS_1⟩) (v_FORMS_1 : i_FORMS_1.size ≤ sizeLine ∧ Vals [.str "name", .str "length"] i_FORMS_1.toList)
    {d_FORMS_2 : Option Addr} {i_FORMS_2 : Array Value} {n_FORMS_2 : Nat} {e_FORMS_2 : Array (Option Value)} (t_FORMS_2 : K.lookup A_FORMS_2 = some ⟨.type "tuple", d_FORMS_2, .seq i_FORMS_2 n_FORMS_2, e_FORMS_2⟩) (v_FORMS_2 : i_FORMS_2.size ≤ sizeLine ∧ Vals [.str "name", .str "name"] i_FORMS_2.toList)
    {d_FORMS_3 : Option Addr} {i_FORMS_3 : Array Value} {n_FORMS_3 : Nat} {e_FORMS_3 : Array (Option Value)} (t_FORMS_3 : K.lookup A_FORMS_3 = some ⟨.type "tuple", d_FORMS_3, .seq i_FORMS_3 n_FORMS_3, e_FORMS_3⟩) (v_FORMS_3 : i_FORMS_3.size ≤ sizeLine ∧ Vals [.str "name", .str "name"] i_FORMS_3.toList)
    {d_FORMS_4 : Option Addr} {i_FORMS_4 : Array Value} {n_FORMS_4 : Nat} {e_FORMS_4 : Array (Option Value)} (t_FORMS_4 : K.lookup A_FORMS_4 = some ⟨.type "tuple", d_FORMS_4, .seq i_FORMS_4 n_FORMS_4, e_FORMS_4⟩) (v_FORMS_4 : i_FORMS_4.size ≤ sizeLine ∧ Vals [.str "name"] i_FORMS_4.toList)
    {d_FORMS_5 : Option Addr} {i_FORMS_5 : Array Value} {n_FORMS_5 : Nat} {e_FORMS_5 : Array (Option Value)} (t_FORMS_5 : K.lookup A_FORMS_5 = some ⟨.type "tuple", d_FORMS_5, .seq i_FORMS_5 n_FORMS_5, e_FORMS_5⟩) (v_FORMS_5 : i_FORMS_5.size ≤ sizeLine ∧ Vals [.str "name"] i_FORMS_5.toList)
    {d_FORMS_6 : Option Addr} {i_FORMS_6 : Array Value} {n_FORMS_6 : Nat} {e_FORMS_6 : Array (Option Value)} (t_FORMS_6 : K.lookup A_FORMS_6 = some ⟨.type "tuple", d_FORMS_6, .seq i_FORMS_6 n_FORMS_6, e_FORMS_6⟩) (v_FORMS_6 : i_FORMS_6.size ≤ sizeLine ∧ Vals [] i_FORMS_6.toList)
    {d_FORMS_7 : Option Addr} {i_FORMS_7 : Array Value} {n_FORMS_7 : Nat} {e_FORMS_7 : Array (Option Value)} (t_FORMS_7 : K.lookup A_FORMS_7 = some ⟨.type "tuple", d_FORMS_7, .seq i_FORMS_7 n_FORMS_7, e_FORMS_7⟩) (v_FORMS_7 : i_FORMS_7.size ≤ sizeLine ∧ Vals [.str "name"] i_FORMS_7.toList)
    {d_FORMS_8 : Option Addr} {i_FORMS_8 : Array Value} {n_FORMS_8 : Nat} {e_FORMS_8 : Array (Option Value)} (t_FORMS_8 : K.lookup A_FORMS_8 = some ⟨.type "tuple", d_FORMS_8, .seq i_FORMS_8 n_FORMS_8, e_FORMS_8⟩) (v_FORMS_8 : i_FORMS_8.size ≤ sizeLine ∧ Vals [.str "rounds"] i_FORMS_8.toList)
    {d_FORMS_9 : Option Addr} {i_FORMS_9 : Array Value} {n_FORMS_9 : Nat} {e_FORMS_9 : Array (Option Value)} (t_FORMS_9 : K.lookup A_FORMS_9 = some ⟨.type "tuple", d_FORMS_9, .seq i_FORMS_9 n_FORMS_9, e_FORMS_9⟩) (v_FORMS_9 : i_FORMS_9.size ≤ sizeLine ∧ Vals [] i_FORMS_9.toList)
    {A_SET_FORM : Addr} {d_SET_FORM : Option Addr} {i_SET_FORM : Array Value} {n_SET_FORM : Nat} {e_SET_FORM : Array (Option Value)} (c_SET_FORM : PySem.W.nsIn K mainGlobals "SET_FORM" = some (some (.ref A_SET_FORM))) (t_SET_FORM : K.lookup A_SET_FORM = some ⟨.type "tuple", d_SET_FORM, .seq i_SET_FORM n_SET_FORM, e_SET_FORM⟩) (v_SET_FORM : i_SET_FORM.size ≤ sizeLine ∧ Vals [.str "name", .str "value", .str "sign", .str "value"] i_SET_FORM.toList)
    {tk_MOST_LENGTH : Tok} (c_MOST_LENGTH : PySem.W.nsIn K mainGlobals "MOST_LENGTH" = some (some (.int 2000 tk_MOST_LENGTH)))
    {tk_MOST_ROUNDS : Tok} (c_MOST_ROUNDS : PySem.W.nsIn K mainGlobals "MOST_ROUNDS" = some (some (.int 99 tk_MOST_ROUNDS))) :
    ∃ fd : FuncData, (∀ (s : Shared) (v : Value), BindsTo s fd ⟨[v], []⟩ [("_law_script", v)]) ∧ ∀ base : Heap, K.In base → base.Ns mainGlobals mg → FnOk l.prog w K mg base CX0 10 fa fd ["_law_script"] (sp_law K) := by
  have e := hfa.symm.trans (PySem.W.mg_of X G a31)
  cases e
  have F0 := fun_mk (st := s_FlowError___init__) l0 c0 k0
  have b0 := F0.binds (ps := ["self", "words", "place"]) fun _ _ _ _ _ _ us hl => match us, hl with | [_, _, _], _ => rfl
  have F1 := fun_mk (st := s_is_name) l1 c1 k1
  have b1 := F1.binds (ps := ["word"]) fun _ _ _ _ _ _ us hl => match us, hl with | [_], _ => rfl
  have F2 := fun_mk (st := s_number_in) l2 c2 k2
  have b2 := F2.binds (ps := ["word"]) fun _ _ _ _ _ _ us hl => match us, hl with | [_], _ => rfl
  have F3 := fun_mk (st := s_value_in) l3 c3 k3
  have b3 := F3.binds (ps := ["word"]) fun _ _ _ _ _ _ us hl => match us, hl with | [_], _ => rfl
  have F4 := fun_mk (st := s_is_made_of) l4 c4 k4
  have b4 := F4.binds (ps := ["word", "signs"]) fun _ _ _ _ _ _ us hl => match us, hl with | [_, _], _ => rfl
  have F5 := fun_mk (st := s_row_of) l5 c5 k5
  have b5 := F5.binds (ps := ["row", "place"]) fun _ _ _ _ _ _ us hl => match us, hl with | [_, _], _ => rfl
  have F6 := fun_mk (st := s_words_of) l6 c6 k6
  have b6 := F6.binds (ps := ["row"]) fun _ _ _ _ _ _ us hl => match us, hl with | [_], _ => rfl
  have F7 := fun_mk (st := s_form_of) l7 c7 k7
  have b7 := F7.binds (ps := ["words"]) fun _ _ _ _ _ _ us hl => match us, hl with | [_], _ => rfl
  have F8 := fun_mk (st := s_filled) l8 c8 k8
  have b8 := F8.binds (ps := ["head", "words", "kinds"]) fun _ _ _ _ _ _ us hl => match us, hl with | [_, _, _], _ => rfl
  have F9 := fun_mk (st := s_thing_in) l9 c9 k9
  have b9 := F9.binds (ps := ["word", "kind"]) fun _ _ _ _ _ _ us hl => match us, hl with | [_, _], _ => rfl
  have F10 := fun_mk (st := s_number_within) l10 c10 k10
  have b10 := F10.binds (ps := ["word", "least", "most"]) fun _ _ _ _ _ _ us hl => match us, hl with | [_, _, _], _ => rfl
  have F11 := fun_mk (st := s__law_cell_at) l11 c11 k11
  have b11 := F11.binds (ps := ["_law_script", "_law_k"]) fun _ _ _ _ _ _ us hl => match us, hl with | [_, _], _ => rfl
  have F12 := fun_mk (st := s__law_mixed) l12 c12 k12
  have b12 := F12.binds (ps := ["_law_cell", "_law_k"]) fun _ _ _ _ _ _ us hl => match us, hl with | [_, _], _ => rfl
  have F13 := fun_mk (st := s__law_sign_by) l13 c13 k13
  have b13 := F13.binds (ps := ["_law_n"]) fun _ _ _ _ _ _ us hl => match us, hl with | [_], _ => rfl
  have F14 := fun_mk (st := s__law_keywords) l14 c14 k14
  have b14 := F14.binds (ps := []) fun _ _ _ _ _ _ us hl => match us, hl with | [], _ => rfl
  have F15 := fun_mk (st := s__law_letters) l15 c15 k15
  have b15 := F15.binds (ps := ["_law_n", "_law_size"]) fun _ _ _ _ _ _ us hl => match us, hl with | [_, _], _ => rfl
  have F16 := fun_mk (st := s__law_is_name) l16 c16 k16
  have b16 := F16.binds (ps := ["_law_word"]) fun _ _ _ _ _ _ us hl => match us, hl with | [_], _ => rfl
  have F17 := fun_mk (st := s__law_number) l17 c17 k17
  have b17 := F17.binds (ps := ["_law_word"]) fun _ _ _ _ _ _ us hl => match us, hl with | [_], _ => rfl
  have F18 := fun_mk (st := s__law_name_by) l18 c18 k18
  have b18 := F18.binds (ps := ["_law_n"]) fun _ _ _ _ _ _ us hl => match us, hl with | [_], _ => rfl
  have F19 := fun_mk (st := s__law_value_by) l19 c19 k19
  have b19 := F19.binds (ps := ["_law_n"]) fun _ _ _ _ _ _ us hl => match us, hl with | [_], _ => rfl
  have F20 := fun_mk (st := s__law_from) l20 c20 k20
  have b20 := F20.binds (ps := ["_law_n", "_law_least", "_law_greatest"]) fun _ _ _ _ _ _ us hl => match us, hl with | [_, _, _], _ => rfl
  have F21 := fun_mk (st := s__law_row_by) l21 c21 k21
  have b21 := F21.binds (ps := ["_law_way", "_law_n", "_law_one", "_law_two", "_law_three"]) fun _ _ _ _ _ _ us hl => match us, hl with | [_, _, _, _, _], _ => rfl
  have F22 := fun_mk (st := s__law_spaced) l22 c22 k22
  have b22 := F22.binds (ps := ["_law_words", "_law_n"]) fun _ _ _ _ _ _ us hl => match us, hl with | [_, _], _ => rfl
  have F23 := fun_mk (st := s__law_same) l23 c23 k23
  have b23 := F23.binds (ps := ["_law_found", "_law_due"]) fun _ _ _ _ _ _ us hl => match us, hl with | [_, _], _ => rfl
  have F24 := fun_mk (st := s__law_is_refused) l24 c24 k24
  have b24 := F24.binds (ps := ["_law_caught", "_law_which", "_law_place"]) fun _ _ _ _ _ _ us hl => match us, hl with | [_, _, _], _ => rfl
  have F25 := fun_mk (st := s__law_odd_by) l25 c25 k25
  have b25 := F25.binds (ps := ["_law_n"]) fun _ _ _ _ _ _ us hl => match us, hl with | [_], _ => rfl
  have F26 := fun_mk (st := s__law_spoilt) l26 c26 k26
  have b26 := F26.binds (ps := ["_law_words", "_law_way", "_law_at", "_law_n"]) fun _ _ _ _ _ _ us hl => match us, hl with | [_, _, _, _], _ => rfl
  have F27 := fun_mk (st := s__law_value) l27 c27 k27
  have b27 := F27.binds (ps := ["_law_word"]) fun _ _ _ _ _ _ us hl => match us, hl with | [_], _ => rfl
  have F28 := fun_mk (st := s__law_judged_set) l28 c28 k28
  have b28 := F28.binds (ps := ["_law_words"]) fun _ _ _ _ _ _ us hl => match us, hl with | [_], _ => rfl
  have F29 := fun_mk (st := s__law_judged) l29 c29 k29
  have b29 := F29.binds (ps := ["_law_words"]) fun _ _ _ _ _ _ us hl => match us, hl with | [_], _ => rfl
  have F30 := fun_mk (st := s__law_holds) l30 c30 k30
  have b30 := F30.binds (ps := ["_law_words", "_law_gaps"]) fun _ _ _ _ _ _ us hl => match us, hl with | [_, _], _ => rfl
  have F31 := fun_mk (st := s_law) l31 c31 k31
  have b31 := F31.binds (ps := ["_law_script"]) fun _ _ _ _ _ _ us hl => match us, hl with | [_], _ => rfl
  have T : Tx l.prog w K mg (Adr.mk f0 (PySem.W.fnOf "__init__" "FlowError.__init__" (defArgs s_FlowError___init__) (defBody s_FlowError___init__) (defScope s_FlowError___init__) .none kV0 dc0 pm0 an0 cd0 ct0) f1 (PySem.W.fnOf "is_name" "is_name" (defArgs s_is_name) (defBody s_is_name) (defScope s_is_name) .none kV1 dc1 pm1 an1 cd1 ct1) f2 (PySem.W.fnOf "number_in" "number_in" (defArgs s_number_in) (defBody s_number_in) (defScope s_number_in) .none kV2 dc2 pm2 an2 cd2 ct2) f3 (PySem.W.fnOf "value_in" "value_in" (defArgs s_value_in) (defBody s_value_in) (defScope s_value_in) .none kV3 dc3 pm3 an3 cd3 ct3) f4 (PySem.W.fnOf "is_made_of" "is_made_of" (defArgs s_is_made_of) (defBody s_is_made_of) (defScope s_is_made_of) .none kV4 dc4 pm4 an4 cd4 ct4) f5 (PySem.W.fnOf "row_of" "row_of" (defArgs s_row_of) (defBody s_row_of) (defScope s_row_of) .none kV5 dc5 pm5 an5 cd5 ct5) f6 (PySem.W.fnOf "words_of" "words_of" (defArgs s_words_of) (defBody s_words_of) (defScope s_words_of) .none kV6 dc6 pm6 an6 cd6 ct6) f7 (PySem.W.fnOf "form_of" "form_of" (defArgs s_form_of) (defBody s_form_of) (defScope s_form_of) .none kV7 dc7 pm7 an7 cd7 ct7) f8 (PySem.W.fnOf "filled" "filled" (defArgs s_filled) (defBody s_filled) (defScope s_filled) .none kV8 dc8 pm8 an8 cd8 ct8) f9 (PySem.W.fnOf "thing_in" "thing_in" (defArgs s_thing_in) (defBody s_thing_in) (defScope s_thing_in) .none kV9 dc9 pm9 an9 cd9 ct9) f10 (PySem.W.fnOf "number_within" "number_within" (defArgs s_number_within) (defBody s_number_within) (defScope s_number_within) .none kV10 dc10 pm10 an10 cd10 ct10) f11 (PySem.W.fnOf "_law_cell_at" "_law_cell_at" (defArgs s__law_cell_at) (defBody s__law_cell_at) (defScope s__law_cell_at) .none kV11 dc11 pm11 an11 cd11 ct11) f12 (PySem.W.fnOf "_law_mixed" "_law_mixed" (defArgs s__law_mixed) (defBody s__law_mixed) (defScope s__law_mixed) .none kV12 dc12 pm12 an12 cd12 ct12) f13 (PySem.W.fnOf "_law_sign_by" "_law_sign_by" (defArgs s__law_sign_by) (defBody s__law_sign_by) (defScope s__law_sign_by) .none kV13 dc13 pm13 an13 cd13 ct13) f14 (PySem.W.fnOf "_law_keywords" "_law_keywords" (defArgs s__law_keywords) (defBody s__law_keywords) (defScope s__law_keywords) .none kV14 dc14 pm14 an14 cd14 ct14) f15 (PySem.W.fnOf "_law_letters" "_law_letters" (defArgs s__law_letters) (defBody s__law_letters) (defScope s__law_letters) .none kV15 dc15 pm15 an15 cd15 ct15) f16 (PySem.W.fnOf "_law_is_name" "_law_is_name" (defArgs s__law_is_name) (defBody s__law_is_name) (defScope s__law_is_name) .none kV16 dc16 pm16 an16 cd16 ct16) f17 (PySem.W.fnOf "_law_number" "_law_number" (defArgs s__law_number) (defBody s__law_number) (defScope s__law_number) .none kV17 dc17 pm17 an17 cd17 ct17) f18 (PySem.W.fnOf "_law_name_by" "_law_name_by" (defArgs s__law_name_by) (defBody s__law_name_by) (defScope s__law_name_by) .none kV18 dc18 pm18 an18 cd18 ct18) f19 (PySem.W.fnOf "_law_value_by" "_law_value_by" (defArgs s__law_value_by) (defBody s__law_value_by) (defScope s__law_value_by) .none kV19 dc19 pm19 an19 cd19 ct19) f20 (PySem.W.fnOf "_law_from" "_law_from" (defArgs s__law_from) (defBody s__law_from) (defScope s__law_from) .none kV20 dc20 pm20 an20 cd20 ct20) f21 (PySem.W.fnOf "_law_row_by" "_law_row_by" (defArgs s__law_row_by) (defBody s__law_row_by) (defScope s__law_row_by) .none kV21 dc21 pm21 an21 cd21 ct21) f22 (PySem.W.fnOf "_law_spaced" "_law_spaced" (defArgs s__law_spaced) (defBody s__law_spaced) (defScope s__law_spaced) .none kV22 dc22 pm22 an22 cd22 ct22) f23 (PySem.W.fnOf "_law_same" "_law_same" (defArgs s__law_same) (defBody s__law_same) (defScope s__law_same) .none kV23 dc23 pm23 an23 cd23 ct23) f24 (PySem.W.fnOf "_law_is_refused" "_law_is_refused" (defArgs s__law_is_refused) (defBody s__law_is_refused) (defScope s__law_is_refused) .none kV24 dc24 pm24 an24 cd24 ct24) f25 (PySem.W.fnOf "_law_odd_by" "_law_odd_by" (defArgs s__law_odd_by) (defBody s__law_odd_by) (defScope s__law_odd_by) .none kV25 dc25 pm25 an25 cd25 ct25) f26 (PySem.W.fnOf "_law_spoilt" "_law_spoilt" (defArgs s__law_spoilt) (defBody s__law_spoilt) (defScope s__law_spoilt) .none kV26 dc26 pm26 an26 cd26 ct26) f27 (PySem.W.fnOf "_law_value" "_law_value" (defArgs s__law_value) (defBody s__law_value) (defScope s__law_value) .none kV27 dc27 pm27 an27 cd27 ct27) f28 (PySem.W.fnOf "_law_judged_set" "_law_judged_set" (defArgs s__law_judged_set) (defBody s__law_judged_set) (defScope s__law_judged_set) .none kV28 dc28 pm28 an28 cd28 ct28) f29 (PySem.W.fnOf "_law_judged" "_law_judged" (defArgs s__law_judged) (defBody s__law_judged) (defScope s__law_judged) .none kV29 dc29 pm29 an29 cd29 ct29) f30 (PySem.W.fnOf "_law_holds" "_law_holds" (defArgs s__law_holds) (defBody s__law_holds) (defScope s__law_holds) .none kV30 dc30 pm30 an30 cd30 ct30) fa (PySem.W.fnOf "law" "law" (defArgs s_law) (defBody s_law) (defScope s_law) .none kV31 dc31 pm31 an31 cd31 ct31) A_KEYWORDS A_SIGNS tk_LETTERS tk_FIGURES tk_MOST_LETTERS tk_MOST_FIGURES A_FORMS A_FORMS_0 A_FORMS_1 A_FORMS_2 A_FORMS_3 A_FORMS_4 A_FORMS_5 A_FORMS_6 A_FORMS_7 A_FORMS_8 A_FORMS_9 A_SET_FORM tk_MOST_LENGTH tk_MOST_ROUNDS c_FlowError c_BadRow c_BadNest c_Twice c_NoStore c_Hidden c_Starved c_TooMuch) := Tx.mk F0 b0 F1 b1 (PySem.W.mg_of X G a1) F2 b2 (PySem.W.mg_of X G a2) F3 b3 (PySem.W.mg_of X G a3) F4 b4 (PySem.W.mg_of X G a4) F5 b5 (PySem.W.mg_of X G a5) F6 b6 (PySem.W.mg_of X G a6) F7 b7 (PySem.W.mg_of X G a7) F8 b8 (PySem.W.mg_of X G a8) F9 b9 (PySem.W.mg_of X G a9) F10 b10 (PySem.W.mg_of X G a10) F11 b11 (PySem.W.mg_of X G a11) F12 b12 (PySem.W.mg_of X G a12) F13 b13 (PySem.W.mg_of X G a13) F14 b14 (PySem.W.mg_of X G a14) F15 b15 (PySem.W.mg_of X G a15) F16 b16 (PySem.W.mg_of X G a16) F17 b17 (PySem.W.mg_of X G a17) F18 b18 (PySem.W.mg_of X G a18) F19 b19 (PySem.W.mg_of X G a19) F20 b20 (PySem.W.mg_of X G a20) F21 b21 (PySem.W.mg_of X G a21) F22 b22 (PySem.W.mg_of X G a22) F23 b23 (PySem.W.mg_of X G a23) F24 b24 (PySem.W.mg_of X G a24) F25 b25 (PySem.W.mg_of X G a25) F26 b26 (PySem.W.mg_of X G a26) F27 b27 (PySem.W.mg_of X G a27) F28 b28 (PySem.W.mg_of X G a28) F29 b29 (PySem.W.mg_of X G a29) F30 b30 (PySem.W.mg_of X G a30) F31 b31 (PySem.W.mg_of X G a31) (PySem.W.mg_none_of X G z_ValueError) (PySem.W.mg_none_of X G z_all) (PySem.W.mg_none_of X G z_bool) (PySem.W.mg_none_of X G z_int) (PySem.W.mg_none_of X G z_isinstance) (PySem.W.mg_none_of X G z_len) (PySem.W.mg_none_of X G z_list) (PySem.W.mg_none_of X G z_max) (PySem.W.mg_none_of X G z_range) (PySem.W.mg_none_of X G z_str) (PySem.W.mg_none_of X G z_tuple) (PySem.W.mg_none_of X G z_zip) (PySem.W.mg_of X G c_KEYWORDS) (fun _ => .inr ⟨_, _, _, t_KEYWORDS, rfl, rfl, v_KEYWORDS.1, v_KEYWORDS.2⟩) (PySem.W.mg_of X G c_SIGNS) (fun _ => .inr ⟨_, _, _, t_SIGNS, rfl, rfl, v_SIGNS.1, v_SIGNS.2⟩) (PySem.W.mg_of X G c_LETTERS) (PySem.W.mg_of X G c_FIGURES) (PySem.W.mg_of X G c_MOST_LETTERS) (PySem.W.mg_of X G c_MOST_FIGURES) (PySem.W.mg_of X G c_FORMS) (KD.mk [("ask", k_FORMS_0, .ref A_FORMS_0, .ref A_FORMS_0), ("store", k_FORMS_1, .ref A_FORMS_1, .ref A_FORMS_1), ("put", k_FORMS_2, .ref A_FORMS_2, .ref A_FORMS_2), ("get", k_FORMS_3, .ref A_FORMS_3, .ref A_FORMS_3), ("give", k_FORMS_4, .ref A_FORMS_4, .ref A_FORMS_4), ("if", k_FORMS_5, .ref A_FORMS_5, .ref A_FORMS_5), ("else", k_FORMS_6, .ref A_FORMS_6, .ref A_FORMS_6), ("while", k_FORMS_7, .ref A_FORMS_7, .ref A_FORMS_7), ("repeat", k_FORMS_8, .ref A_FORMS_8, .ref A_FORMS_8), ("end", k_FORMS_9, .ref A_FORMS_9, .ref A_FORMS_9)] t_FORMS w_FORMS V_FORMS (by intro r hr; simp only [List.mem_cons, List.not_mem_nil, or_false] at hr; rcases hr with rfl | rfl | rfl | rfl | rfl | rfl | rfl | rfl | rfl | rfl <;> rfl) (show List.Nodup (["ask", "store", "put", "get", "give", "if", "else", "while", "repeat", "end"] : List Str) from by decide +kernel)) (fun _ => .inr ⟨_, _, _, t_FORMS_0, rfl, rfl, v_FORMS_0.1, v_FORMS_0.2⟩) (fun _ => .inr ⟨_, _, _, t_FORMS_1, rfl, rfl, v_FORMS_1.1, v_FORMS_1.2⟩) (fun _ => .inr ⟨_, _, _, t_FORMS_2, rfl, rfl, v_FORMS_2.1, v_FORMS_2.2⟩) (fun _ => .inr ⟨_, _, _, t_FORMS_3, rfl, rfl, v_FORMS_3.1, v_FORMS_3.2⟩) (fun _ => .inr ⟨_, _, _, t_FORMS_4, rfl, rfl, v_FORMS_4.1, v_FORMS_4.2⟩) (fun _ => .inr ⟨_, _, _, t_FORMS_5, rfl, rfl, v_FORMS_5.1, v_FORMS_5.2⟩) (fun _ => .inr ⟨_, _, _, t_FORMS_6, rfl, rfl, v_FORMS_6.1, v_FORMS_6.2⟩) (fun _ => .inr ⟨_, _, _, t_FORMS_7, rfl, rfl, v_FORMS_7.1, v_FORMS_7.2⟩) (fun _ => .inr ⟨_, _, _, t_FORMS_8, rfl, rfl, v_FORMS_8.1, v_FORMS_8.2⟩) (fun _ => .inr ⟨_, _, _, t_FORMS_9, rfl, rfl, v_FORMS_9.1, v_FORMS_9.2⟩) (PySem.W.mg_of X G c_SET_FORM) (fun _ => .inr ⟨_, _, _, t_SET_FORM, rfl, rfl, v_SET_FORM.1, v_SET_FORM.2⟩) (PySem.W.mg_of X G c_MOST_LENGTH) (PySem.W.mg_of X G c_MOST_ROUNDS) (PySem.W.mg_of X G ac_FlowError) (PySem.W.mg_of X G ac_BadRow) (PySem.W.mg_of X G ac_BadNest) (PySem.W.mg_of X G ac_Twice) (PySem.W.mg_of X G ac_NoStore) (PySem.W.mg_of X G ac_Hidden) (PySem.W.mg_of X G ac_Starved) (PySem.W.mg_of X G ac_TooMuch) (XCls.mk ⟨_, _, _, _, _, _, _, _, _, _, _, _, _, _, _, xo_BadRow, X0_BadRow, X1_BadRow, X2_BadRow, X3_BadRow, X4_BadRow, Y_BadRow⟩ xi_BadRow xf_BadRow xs_BadRow xp_BadRow xk_BadRow) (XGet.mk ⟨_, _, _, _, _, _, _, _, _, _, _, _, _, _, _, _, xo_BadRow, X1_BadRow⟩ xg_BadRow xh_BadRow xp_BadRow) (XIs.mk ⟨_, _, _, _, _, _, _, _, _, _, _, _, _, _, _, _, xo_BadRow, X1_BadRow, X2_BadRow⟩ xc_BadRow xg_BadRow xh_BadRow) ((⟨_, _, _, _, _, _, _, _, _, _, _, _, _, _, _, _, _, xo_BadRow, X9_BadRow_FlowError⟩ : SubX _ _ _)) ki_BadRow_FlowError ki_BadRow_BadRow ki_BadRow_BadNest ki_BadRow_Twice ki_BadRow_NoStore ki_BadRow_Hidden ki_BadRow_Starved ki_BadRow_TooMuch ki_BadRow_ValueError ((⟨_, _, _, _, _, _, _, _, _, _, _, _, _, _, _, _, _, xo_FlowError, X1_FlowError⟩ : IsX _ _))
  exact ⟨PySem.W.fnOf "law" "law" (defArgs s_law) (defBody s_law) (defScope s_law) .none kV31 dc31 pm31 an31 cd31 ct31, fun s v => .of_eq rfl, fun base _ _ => ok_law T⟩
theorem walk {l : PySem.W.OpenLaw} {q : Program} {loose : List Str} {XP : (Str → Option Value) → Heap → Prop} {YP : World → Heap → Prop} {d : DefRec} {K : Params → PySem.W.Frag} (hn : l.most = some 63) (hdf : d.params.defaults = [])
    (hY : ∀ (w : World) (h : Heap), YP w h → (K w.params).In h)
    (F : ∀ (w : World) (mg : Str → Option Value) (fa : Addr) (h : Heap), (K w.params).In h → h.Ns mainGlobals mg → mg d.name = some (.ref fa) →
      ∃ fd : FuncData, (∀ (s : Shared) (u : Value), BindsTo s fd ⟨[u], []⟩ [("_law_script", u)]) ∧ ∀ base : Heap, (K w.params).In base → base.Ns mainGlobals mg → FnOk l.prog w (K w.params) mg base CX0 10 fa fd ["_law_script"] (sp_law (K w.params))) :
    PySem.W.WalkO q loose XP YP l.row.toRowW d [] (fun f vs => PySem.call f vs) :=
  L2.walk_ofB (n := 63) (k := 10) (x := "_law_script") (CX := fun _ => CX0) (sp := fun w => sp_law (K w.params)) hn (by decide) hdf ⟨rfl, by decide, by decide⟩ hY F (fun _ _ a ns hl hb hO hS => ⟨a, ns, rfl, hS, hl, hb, hO, fun _ => rfl⟩) fun _ _ _ _ _ z => z
noncomputable def dlaw : PySem.DefRec := ⟨"law", defArgs s_law, defBody s_law, defScope s_law, defPos s_law⟩
theorem goT_top {p : Program} {w : World} {A : Option Value} : ∀ {m : Nat} {x x' : PySem.W.SharedT} {y : Thread}, goT p w A m x y = some x' → PySem.W.topRun PySem.treeTable p w 11 A m x.abs y = some x'.abs
  | 0, _, _, _, h => nomatch h
  | m + 1, x, x', y, h => by
    unfold goT at h; unfold PySem.W.topRun
    cases a : PySem.W.through y with
    | true => rw [a] at h; cases h; rfl
    | false =>
      rw [a] at h
      cases b : PySem.W.stepOk 11 A y with
      | false => rw [b] at h; cases h
      | true =>
        rw [b] at h
        cases c : PySem.W.stepT (denote PySem.treeTable) p w x y with
        | none => rw [c] at h; cases h
        | some z => rw [c] at h; rw [PySem.W.stepT_spec c]; exact goT_top h
theorem left_tree {p q : Program} {loose : List Str} {Xt : Shared → Bool} {α : Type} {Yf : Shared → α} {Ya : World → α} {N : Nat} (e : PySem.W.opening p = PySem.W.plainProg p.main.scope.names) (hN : Nat.ble 600 N = true) (f : ∀ s, fenceModules? p s = some s)
    (H : ∀ w, EndsT p q loose Xt Yf Ya N w) : PySem.W.LeftO p q loose Xt Yf Ya N := fun w => by
  obtain ⟨⟨h, gs, d, k, os⟩, u, u'⟩ := Option.map_eq_some_iff.mp (PySem.W.boot_open e hN f w)
  obtain ⟨rfl, rfl, rfl, rfl⟩ : h = PySem.W.boot_heap w.params ∧ gs = #[] ∧ d = PySem.W.boot_drawn ∧ k = PySem.W.boot_toks := by simpa using u'
  obtain ⟨s, r, l⟩ := Option.map_eq_some_iff.mp (H w os)
  have r := goT_top r
  rw [bs_is] at r
  obtain ⟨l1, l2, l3⟩ : _ ∧ _ ∧ _ := by simpa only [Prod.mk.injEq] using l
  have z1 : ((PySem.W.boot_heap w.params).isNs mainGlobals && (#[] : Array GenState).size == 0) = true := by kernel_rfl
  have z2 : (PySem.W.boot_heap w.params).objs.size = 11 := by kernel_rfl
  have t : PySem.W.topFrom PySem.treeTable p w N ⟨PySem.W.boot_heap w.params, #[], PySem.W.boot_drawn, PySem.W.boot_toks, os⟩ = some s.abs := by
    unfold PySem.W.topFrom
    dsimp only
    rw [z1, z2, r]
    show (match PySem.W.staticsOk (PySem.importedModules p.main.body) (PySem.W.boot_heap w.params) s.abs.heap && PySem.W.namesBound p s.abs.heap && PySem.W.gensDone s.abs && PySem.W.laidKept (PySem.W.boot_heap w.params) s.abs.heap with | true => _ | false => _) = _
    rw [l1]
  unfold PySem.W.openEnds
  rw [u]
  show (PySem.W.topFrom PySem.treeTable p w N _).map _ = _
  rw [t]
  exact congrArg some (Prod.ext l2 l3)
theorem ends_split {p q : Program} {loose : List Str} {Xt : Shared → Bool} {α : Type} {Yf : Shared → α} {Ya : World → α} {N : Nat} (row : String) (F : ∀ w : World, EndsT p q loose Xt Yf Ya N (w.withFollow row false)) (T : ∀ w : World, EndsT p q loose Xt Yf Ya N (w.withFollow row true)) (w : World) : EndsT p q loose Xt Yf Ya N w := by
  have e := PySem.World.withFollow_self w row
  cases hb : w.params.followText row <;> rw [hb] at e
  · rw [← e]; exact F w
  · rw [← e]; exact T w
set_option maxHeartbeats 0 in
theorem left : PySem.W.LeftO PySem.Challenge.pw_handflow_k04_bad_rows vw [("FORMS" : Str)] xt hkH.obs hkH.val 6084 := left_tree (by kernel_rfl) (by decide) (fun _ => by kernel_rfl) (ends_split "special-get-raises" leftF leftT)
set_option maxHeartbeats 0 in
theorem said : PySem.W.OpenLaw.wellSaid PySem.Challenge.rw_handflow_k04_bad_rows = true := by kernel_rfl
end K04
open PySem PySem.W PyProof.Rows
set_option maxRecDepth 100000 in
set_option maxHeartbeats 0 in
theorem PySem.Challenge.cw_handflow_k04_bad_rows_holds : PySem.Challenge.rw_handflow_k04_bad_rows.Holds := by
  w_on; refine holds_law K04.said fun said => ?_
  refine holds_open (q := K04.vw) (loose := [("FORMS" : Str)]) (Xt := K04.xt) (XP := XL K04.vw []) (Yf := Hook.obs K04.hkH) (Ya := Hook.val K04.hkH) (YP := Hook.says K04.hkH) (d := K04.dlaw) (kwd := []) (N := 6084) K04.left (Hook.of K04.hkH) (Hook.keeps K04.hkH) (fun s e => xl_of s (Bool.and_eq_true_iff.mp e).1) XL.keeps (by kernel_rfl) (by kernel_rfl) (by kernel_rfl) (fun s e => recFacts_of (Bool.and_eq_true_iff.mp e).2) (by rfl) (by first | assumption | decide +kernel) (by decide +kernel) ⟨rfl, rfl, rfl, rfl, rfl, by decide +kernel⟩ ?hw ?hc
  (case hw => w_witness2)
  refine K04.walk (l := PySem.Challenge.rw_handflow_k04_bad_rows) rfl (by kernel_rfl) (K := K04.hk) (fun w h Y => PySem.W.kIn_of (K := K04.hk) (as := K04.hks) (e := K04.hk_as) Y) ?F
  case F =>
    k_fill
    intro w mg fa h KX G hmg
    refine' K04.all_mk KX G hmg ?ac_FlowError ?ac_BadRow ?ac_BadNest ?ac_Twice ?ac_NoStore ?ac_Hidden ?ac_Starved ?ac_TooMuch ?xi_BadRow ?xf_BadRow ?l0 ?c0 ?k0 ?a1 ?l1 ?c1 ?k1 ?a2 ?l2 ?c2 ?k2 ?a3 ?l3 ?c3 ?k3 ?a4 ?l4 ?c4 ?k4 ?a5 ?l5 ?c5 ?k5 ?a6 ?l6 ?c6 ?k6 ?a7 ?l7 ?c7 ?k7 ?a8 ?l8 ?c8 ?k8 ?a9 ?l9 ?c9 ?k9 ?a10 ?l10 ?c10 ?k10 ?a11 ?l11 ?c11 ?k11 ?a12 ?l12 ?c12 ?k12 ?a13 ?l13 ?c13 ?k13 ?a14 ?l14 ?c14 ?k14 ?a15 ?l15 ?c15 ?k15 ?a16 ?l16 ?c16 ?k16 ?a17 ?l17 ?c17 ?k17 ?a18 ?l18 ?c18 ?k18 ?a19 ?l19 ?c19 ?k19 ?a20 ?l20 ?c20 ?k20 ?a21 ?l21 ?c21 ?k21 ?a22 ?l22 ?c22 ?k22 ?a23 ?l23 ?c23 ?k23 ?a24 ?l24 ?c24 ?k24 ?a25 ?l25 ?c25 ?k25 ?a26 ?l26 ?c26 ?k26 ?a27 ?l27 ?c27 ?k27 ?a28 ?l28 ?c28 ?k28 ?a29 ?l29 ?c29 ?k29 ?a30 ?l30 ?c30 ?k30 ?a31 ?l31 ?c31 ?k31 ?xo_BadRow ?X0_BadRow ?X1_BadRow ?X2_BadRow ?X3_BadRow ?X4_BadRow ?Y_BadRow ?xs_BadRow ?xp_BadRow ?xk_BadRow ?xg_BadRow ?xh_BadRow ?xc_BadRow ?X9_BadRow_FlowError ?ki_BadRow_FlowError ?ki_BadRow_BadRow ?ki_BadRow_BadNest ?ki_BadRow_Twice ?ki_BadRow_NoStore ?ki_BadRow_Hidden ?ki_BadRow_Starved ?ki_BadRow_TooMuch ?ki_BadRow_ValueError ?xo_FlowError ?X1_FlowError ?z_ValueError ?z_all ?z_bool ?z_int ?z_isinstance ?z_len ?z_list ?z_max ?z_range ?z_str ?z_tuple ?z_zip ?c_KEYWORDS ?t_KEYWORDS ?v_KEYWORDS ?c_SIGNS ?t_SIGNS ?v_SIGNS ?c_LETTERS ?c_FIGURES ?c_MOST_LETTERS ?c_MOST_FIGURES ?c_FORMS ?t_FORMS ?w_FORMS ?V_FORMS ?t_FORMS_0 ?v_FORMS_0 ?t_FORMS_1 ?v_FORMS_1 ?t_FORMS_2 ?v_FORMS_2 ?t_FORMS_3 ?v_FORMS_3 ?t_FORMS_4 ?v_FORMS_4 ?t_FORMS_5 ?v_FORMS_5 ?t_FORMS_6 ?v_FORMS_6 ?t_FORMS_7 ?v_FORMS_7 ?t_FORMS_8 ?v_FORMS_8 ?t_FORMS_9 ?v_FORMS_9 ?c_SET_FORM ?t_SET_FORM ?v_SET_FORM ?c_MOST_LENGTH ?c_MOST_ROUNDS
    (case ac_FlowError => k_is)
    (case ac_BadRow => k_is)
    (case ac_BadNest => k_is)
    (case ac_Twice => k_is)
    (case ac_NoStore => k_is)
    (case ac_Hidden => k_is)
    (case ac_Starved => k_is)
    (case ac_TooMuch => k_is)
    (case xi_BadRow => k_is)
    (case xf_BadRow => k_is)
    (case l0 => k_is)
    (case c0 => k_is)
    (case k0 => k_is)
    (case a1 => k_is)
    (case l1 => k_is)
    (case c1 => k_is)
    (case k1 => k_is)
    (case a2 => k_is)
    (case l2 => k_is)
    (case c2 => k_is)
    (case k2 => k_is)
    (case a3 => k_is)
    (case l3 => k_is)
    (case c3 => k_is)
    (case k3 => k_is)
    (case a4 => k_is)
    (case l4 => k_is)
    (case c4 => k_is)
    (case k4 => k_is)
    (case a5 => k_is)
    (case l5 => k_is)
    (case c5 => k_is)
    (case k5 => k_is)
    (case a6 => k_is)
    (case l6 => k_is)
    (case c6 => k_is)
    (case k6 => k_is)
    (case a7 => k_is)
    (case l7 => k_is)
    (case c7 => k_is)
    (case k7 => k_is)
    (case a8 => k_is)
    (case l8 => k_is)
    (case c8 => k_is)
    (case k8 => k_is)
    (case a9 => k_is)
    (case l9 => k_is)
    (case c9 => k_is)
    (case k9 => k_is)
    (case a10 => k_is)
    (case l10 => k_is)
    (case c10 => k_is)
    (case k10 => k_is)
    (case a11 => k_is)
    (case l11 => k_is)
    (case c11 => k_is)
    (case k11 => k_is)
    (case a12 => k_is)
    (case l12 => k_is)
    (case c12 => k_is)
    (case k12 => k_is)
    (case a13 => k_is)
    (case l13 => k_is)
    (case c13 => k_is)
    (case k13 => k_is)
    (case a14 => k_is)
    (case l14 => k_is)
    (case c14 => k_is)
    (case k14 => k_is)
    (case a15 => k_is)
    (case l15 => k_is)
    (case c15 => k_is)
    (case k15 => k_is)
    (case a16 => k_is)
    (case l16 => k_is)
    (case c16 => k_is)
    (case k16 => k_is)
    (case a17 => k_is)
    (case l17 => k_is)
    (case c17 => k_is)
    (case k17 => k_is)
    (case a18 => k_is)
    (case l18 => k_is)
    (case c18 => k_is)
    (case k18 => k_is)
    (case a19 => k_is)
    (case l19 => k_is)
    (case c19 => k_is)
    (case k19 => k_is)
    (case a20 => k_is)
    (case l20 => k_is)
    (case c20 => k_is)
    (case k20 => k_is)
    (case a21 => k_is)
    (case l21 => k_is)
    (case c21 => k_is)
    (case k21 => k_is)
    (case a22 => k_is)
    (case l22 => k_is)
    (case c22 => k_is)
    (case k22 => k_is)
    (case a23 => k_is)
    (case l23 => k_is)
    (case c23 => k_is)
    (case k23 => k_is)
    (case a24 => k_is)
    (case l24 => k_is)
    (case c24 => k_is)
    (case k24 => k_is)
    (case a25 => k_is)
    (case l25 => k_is)
    (case c25 => k_is)
    (case k25 => k_is)
    (case a26 => k_is)
    (case l26 => k_is)
    (case c26 => k_is)
    (case k26 => k_is)
    (case a27 => k_is)
    (case l27 => k_is)
    (case c27 => k_is)
    (case k27 => k_is)
    (case a28 => k_is)
    (case l28 => k_is)
    (case c28 => k_is)
    (case k28 => k_is)
    (case a29 => k_is)
    (case l29 => k_is)
    (case c29 => k_is)
    (case k29 => k_is)
    (case a30 => k_is)
    (case l30 => k_is)
    (case c30 => k_is)
    (case k30 => k_is)
    (case a31 => k_is)
    (case l31 => k_is)
    (case c31 => k_is)
    (case k31 => k_is)
    (case xo_BadRow => k_is)
    (case X0_BadRow => rfl)
    (case X1_BadRow => rfl)
    (case X2_BadRow => rfl)
    (case X3_BadRow => rfl)
    (case X4_BadRow => rfl)
    (case Y_BadRow => exact fun _ => rfl)
    (case xs_BadRow => k_is)
    (case xp_BadRow => k_is)
    (case xk_BadRow => k_is)
    (case xg_BadRow => k_is)
    (case xh_BadRow => k_is)
    (case xc_BadRow => k_is)
    (case X9_BadRow_FlowError => rfl)
    (case ki_BadRow_FlowError => kit_is)
    (case ki_BadRow_BadRow => kit_is)
    (case ki_BadRow_BadNest => kit_is)
    (case ki_BadRow_Twice => kit_is)
    (case ki_BadRow_NoStore => kit_is)
    (case ki_BadRow_Hidden => kit_is)
    (case ki_BadRow_Starved => kit_is)
    (case ki_BadRow_TooMuch => kit_is)
    (case ki_BadRow_ValueError => kit_is)
    (case xo_FlowError => k_is)
    (case X1_FlowError => rfl)
    (case z_ValueError => k_is)
    (case z_all => k_is)
    (case z_bool => k_is)
    (case z_int => k_is)
    (case z_isinstance => k_is)
    (case z_len => k_is)
    (case z_list => k_is)
    (case z_max => k_is)
    (case z_range => k_is)
    (case z_str => k_is)
    (case z_tuple => k_is)
    (case z_zip => k_is)
    (case c_KEYWORDS => k_is)
    (case t_KEYWORDS => k_is)
    (case v_KEYWORDS => exact ⟨by decide, .cons ⟨_, rfl⟩ (.cons ⟨_, rfl⟩ (.cons ⟨_, rfl⟩ (.cons ⟨_, rfl⟩ (.cons ⟨_, rfl⟩ (.cons ⟨_, rfl⟩ (.cons ⟨_, rfl⟩ (.cons ⟨_, rfl⟩ (.cons ⟨_, rfl⟩ (.cons ⟨_, rfl⟩ (.nil))))))))))⟩)
    (case c_SIGNS => k_is)
    (case t_SIGNS => k_is)
    (case v_SIGNS => exact ⟨by decide, .cons ⟨_, rfl⟩ (.cons ⟨_, rfl⟩ (.cons ⟨_, rfl⟩ (.cons ⟨_, rfl⟩ (.cons ⟨_, rfl⟩ (.cons ⟨_, rfl⟩ (.cons ⟨_, rfl⟩ (.cons ⟨_, rfl⟩ (.cons ⟨_, rfl⟩ (.nil)))))))))⟩)
    (case c_LETTERS => k_is)
    (case c_FIGURES => k_is)
    (case c_MOST_LETTERS => k_is)
    (case c_MOST_FIGURES => k_is)
    (case c_FORMS => k_is)
    (case t_FORMS => k_is)
    (case w_FORMS => rfl)
    (case V_FORMS => rfl)
    (case t_FORMS_0 => k_is)
    (case v_FORMS_0 => exact ⟨by decide, .cons ⟨_, rfl⟩ (.nil)⟩)
    (case t_FORMS_1 => k_is)
    (case v_FORMS_1 => exact ⟨by decide, .cons ⟨_, rfl⟩ (.cons ⟨_, rfl⟩ (.nil))⟩)
    (case t_FORMS_2 => k_is)
    (case v_FORMS_2 => exact ⟨by decide, .cons ⟨_, rfl⟩ (.cons ⟨_, rfl⟩ (.nil))⟩)
    (case t_FORMS_3 => k_is)
    (case v_FORMS_3 => exact ⟨by decide, .cons ⟨_, rfl⟩ (.cons ⟨_, rfl⟩ (.nil))⟩)
    (case t_FORMS_4 => k_is)
    (case v_FORMS_4 => exact ⟨by decide, .cons ⟨_, rfl⟩ (.nil)⟩)
    (case t_FORMS_5 => k_is)
    (case v_FORMS_5 => exact ⟨by decide, .cons ⟨_, rfl⟩ (.nil)⟩)
    (case t_FORMS_6 => k_is)
    (case v_FORMS_6 => exact ⟨by decide, .nil⟩)
    (case t_FORMS_7 => k_is)
    (case v_FORMS_7 => exact ⟨by decide, .cons ⟨_, rfl⟩ (.nil)⟩)
    (case t_FORMS_8 => k_is)
    (case v_FORMS_8 => exact ⟨by decide, .cons ⟨_, rfl⟩ (.nil)⟩)
    (case t_FORMS_9 => k_is)
    (case v_FORMS_9 => exact ⟨by decide, .nil⟩)
    (case c_SET_FORM => k_is)
    (case t_SET_FORM => k_is)
    (case v_SET_FORM => exact ⟨by decide, .cons ⟨_, rfl⟩ (.cons ⟨_, rfl⟩ (.cons ⟨_, rfl⟩ (.cons ⟨_, rfl⟩ (.nil))))⟩)
    (case c_MOST_LENGTH => k_is)
    (case c_MOST_ROUNDS => k_is)
