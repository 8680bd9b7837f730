import PyProof.Rows.All
import Wide.All
import OpenK.AllK
import Wide.FinOn
import Lean
import PyProof.EqAt
import PyProof.EqKinds
import PyProof.TupleCall
import PySem.Challenge.RW_handflow_k15_numbers_asked
set_option Elab.async false
set_option linter.all false
set_option maxRecDepth 100000
namespace L2
open PySem PySem.Spec PyProof.Rows PySem.W
def inClass (s : Stmt) (j : Nat) : Stmt := match s with
  | .ClassDef _ _ _ body _ _ _ _ _ _ _ => body.getD j (.Pass ⟨0, 0, 0, 0⟩)
  | _ => .Pass ⟨0, 0, 0, 0⟩
def defArgs (s : Stmt) : Arguments := match s with
  | .FunctionDef _ a _ _ _ _ _ _ _ _ => a
  | _ => { posonlyargs := [], args := [], vararg := none, kwonlyargs := [], kw_defaults := [], kwarg := none, defaults := [] }
def defBody (s : Stmt) : List Stmt := match s with
  | .FunctionDef _ _ b _ _ _ _ _ _ _ => b
  | _ => []
def defScope (s : Stmt) : Scope := match s with
  | .FunctionDef _ _ _ _ _ _ sc _ _ _ => sc
  | _ => { kind := .function, names := [], isGenerator := false, isCoroutine := false }
end L2
namespace K15
open PySem L2
def top (i : Nat) : Stmt := PySem.Challenge.pw_handflow_k15_numbers_asked.main.body.getD i (.Pass ⟨0, 0, 0, 0⟩)
noncomputable def defPos (s : Stmt) : Pos := match s with
  | .FunctionDef _ _ _ _ _ _ _ _ _ p => p
  | _ => ⟨0, 0, 0, 0⟩
abbrev vs (x : String) (t : Nat) : Value := .str (Str.ofString x) t
abbrev de (P : Params) (x : String) (t : Nat) (v : Value) : DictEntry := ⟨PyData.keyHash P (Str.ofString x), vs x t, v⟩
noncomputable def hk : Params → PySem.W.Frag := fun P =>
  (nat_lit 2, Obj.mk .none none (Data.dict #[]) #[]) ::
  (nat_lit 3, Obj.mk (.type "dict") none (Data.dict #[de P "__name__" 165 (vs "law_handflow_k15_numbers_asked" 510), de P "__doc__" 166 .none, de P "__package__" 167 .none, de P "__loader__" 168 (.builtin "__main__.__loader__#opaque"), de P "__spec__" 169 .none, de P "__annotations__" 170 (.ref 6), de P "__builtins__" 171 (.ref 4), de P "__file__" 173 (vs "/claim/cut.py" 172), de P "__cached__" 174 .none, de P "_wall" 193 (.ref 21), de P "FlowError" 223 (.ref 38), de P "Starved" 239 (.ref 51), de P "Queue" 308 (.ref 105), de P "LOOPS" 313 (.ref 110), de P "LOOKERS" 316 (.ref 111), de P "named" 325 (.ref 118), de P "variables_of" 332 (.ref 125), de P "all_deeds" 342 (.ref 132), de P "blocks_within" 349 (.ref 139), de P "names_in" 355 (.ref 144), de P "WHEEL" 359 (.int 1000000000000000000000000000000 358), de P "done" 368 (.ref 151), de P "reckoned" 377 (.ref 158), de P "beginnings" 383 (.ref 163), de P "Run" 502 (.ref 248), de P "run" 509 (.ref 258), de P "_law_cell" 519 (.ref 265), de P "_law_mixed" 528 (.ref 272), de P "_law_alike" 537 (.ref 279), de P "_law_many" 552 (.ref 286), de P "_law_body" 565 (.ref 293), de P "law" 571 (.ref 298)] 32) #[]) ::
  (nat_lit 20, Obj.mk (.type "code") none (Data.fields #[vs "_wall" 187, vs "_wall" 188, vs "/claim/cut.py" 189, .int 1 0, .int 1 0, .int 0 0, .int 0 0, .int 3 0, .ref 15, .bool true, .int 181 0, .ref 16, .none, .ref 17, .ref 18, .ref 19, .int 191 0, .int 1 0, vs "/claim/cut.py" 192]) #[]) ::
  (nat_lit 21, Obj.mk (.type "function") none (.func (PySem.W.fnOf "_wall" "_wall" (defArgs (top 0)) (defBody (top 0)) (defScope (top 0)) .none .none .none (vs "__main__" 164) none (.ref 20) .none)) #[]) ::
  (nat_lit 22, Obj.mk (.type "tuple") none (Data.seq #[.type "ValueError"]) #[]) ::
  (nat_lit 34, Obj.mk (.type "code") none (Data.fields #[vs "__init__" 208, vs "FlowError.__init__" 209, vs "/claim/cut.py" 210, .int 7 0, .int 3 0, .int 0 0, .int 0 0, .int 3 0, .ref 29, .bool true, .int 181 0, .ref 30, .none, .ref 31, .ref 32, .ref 33, .int 214 0, .int 7 0, vs "/claim/cut.py" 215]) #[]) ::
  (nat_lit 35, Obj.mk (.type "function") none (.func (PySem.W.fnOf "__init__" "FlowError.__init__" (defArgs (inClass (top 2) 0)) (defBody (inClass (top 2) 0)) (defScope (inClass (top 2) 0)) .none .none .none (vs "handflow.errors" 194) none (.ref 34) .none)) #[]) ::
  (nat_lit 36, Obj.mk (.type "tuple") none (Data.seq #[vs "place" 217]) #[]) ::
  (nat_lit 37, Obj.mk (.type "dict") none (Data.dict #[de P "__module__" 203 (vs "handflow.errors" 194), de P "__firstlineno__" 207 (.int 5 206), de P "__init__" 216 (.ref 35), de P "__static_attributes__" 218 (.ref 36), de P "__weakref__" 220 (.ref 39), de P "__doc__" 221 .none] 3) #[]) ::
  (nat_lit 38, Obj.mk (.type "type") none (Data.cls (ClassData.mk (Str.ofString "FlowError") [.type "ValueError"] [.ref 38, .type "ValueError", .type "Exception", .type "BaseException", .type "object"] 37 (Str.ofString "FlowError") true [] [.ref 51] false none false)) #[some (.ref 22), none, some (vs "FlowError" 196), some (vs "FlowError" 204), some (.builtin "ValueError.__new__"), some (.bool true)]) ::
  (nat_lit 39, Obj.mk (.type "getset_descriptor") none (Data.fields #[vs "__weakref__" 219, .ref 38, .builtin "ExceptionGroup.__weakref__", .none]) #[]) ::
  (nat_lit 42, Obj.mk (.type "tuple") none (Data.seq #[.ref 38]) #[]) ::
  (nat_lit 49, Obj.mk (.type "tuple") none (Data.seq #[]) #[]) ::
  (nat_lit 50, Obj.mk (.type "dict") none (Data.dict #[de P "__module__" 231 (vs "handflow.errors" 194), de P "__firstlineno__" 235 (.int 10 234), de P "__static_attributes__" 236 (.ref 49), de P "__doc__" 237 .none] 2) #[]) ::
  (nat_lit 51, Obj.mk (.type "type") none (Data.cls (ClassData.mk (Str.ofString "Starved") [.ref 38] [.ref 51, .ref 38, .type "ValueError", .type "Exception", .type "BaseException", .type "object"] 50 (Str.ofString "Starved") true [] [] false none false)) #[some (.ref 42), none, some (vs "Starved" 224), some (vs "Starved" 232), some (.builtin "ValueError.__new__"), some (.bool true)]) ::
  (nat_lit 66, Obj.mk (.type "code") none (Data.fields #[vs "__init__" 254, vs "Queue.__init__" 255, vs "/claim/cut.py" 256, .int 15 0, .int 2 0, .int 0 0, .int 0 0, .int 3 0, .ref 61, .bool true, .int 181 0, .ref 62, .none, .ref 63, .ref 64, .ref 65, .int 259 0, .int 15 0, vs "/claim/cut.py" 260]) #[]) ::
  (nat_lit 67, Obj.mk (.type "function") none (.func (PySem.W.fnOf "__init__" "Queue.__init__" (defArgs (inClass (top 5) 0)) (defBody (inClass (top 5) 0)) (defScope (inClass (top 5) 0)) .none .none .none (vs "handflow.queues" 240) none (.ref 66) .none)) #[]) ::
  (nat_lit 73, Obj.mk (.type "code") none (Data.fields #[vs "standing" 262, vs "Queue.standing" 263, vs "/claim/cut.py" 264, .int 19 0, .int 1 0, .int 0 0, .int 0 0, .int 3 0, .ref 68, .bool true, .int 181 0, .ref 69, .none, .ref 70, .ref 71, .ref 72, .int 266 0, .int 19 0, vs "/claim/cut.py" 267]) #[]) ::
  (nat_lit 74, Obj.mk (.type "function") none (.func (PySem.W.fnOf "standing" "Queue.standing" (defArgs (inClass (top 5) 1)) (defBody (inClass (top 5) 1)) (defScope (inClass (top 5) 1)) .none .none .none (vs "handflow.queues" 240) none (.ref 73) .none)) #[]) ::
  (nat_lit 80, Obj.mk (.type "code") none (Data.fields #[vs "head" 269, vs "Queue.head" 270, vs "/claim/cut.py" 271, .int 22 0, .int 1 0, .int 0 0, .int 0 0, .int 3 0, .ref 75, .bool true, .int 181 0, .ref 76, .none, .ref 77, .ref 78, .ref 79, .int 273 0, .int 22 0, vs "/claim/cut.py" 274]) #[]) ::
  (nat_lit 81, Obj.mk (.type "function") none (.func (PySem.W.fnOf "head" "Queue.head" (defArgs (inClass (top 5) 2)) (defBody (inClass (top 5) 2)) (defScope (inClass (top 5) 2)) .none .none .none (vs "handflow.queues" 240) none (.ref 80) .none)) #[]) ::
  (nat_lit 87, Obj.mk (.type "code") none (Data.fields #[vs "lay" 276, vs "Queue.lay" 277, vs "/claim/cut.py" 278, .int 25 0, .int 2 0, .int 0 0, .int 0 0, .int 3 0, .ref 82, .bool true, .int 181 0, .ref 83, .none, .ref 84, .ref 85, .ref 86, .int 281 0, .int 25 0, vs "/claim/cut.py" 282]) #[]) ::
  (nat_lit 88, Obj.mk (.type "function") none (.func (PySem.W.fnOf "lay" "Queue.lay" (defArgs (inClass (top 5) 3)) (defBody (inClass (top 5) 3)) (defScope (inClass (top 5) 3)) .none .none .none (vs "handflow.queues" 240) none (.ref 87) .none)) #[]) ::
  (nat_lit 94, Obj.mk (.type "code") none (Data.fields #[vs "take" 284, vs "Queue.take" 285, vs "/claim/cut.py" 286, .int 28 0, .int 1 0, .int 0 0, .int 0 0, .int 3 0, .ref 89, .bool true, .int 181 0, .ref 90, .none, .ref 91, .ref 92, .ref 93, .int 289 0, .int 28 0, vs "/claim/cut.py" 290]) #[]) ::
  (nat_lit 95, Obj.mk (.type "function") none (.func (PySem.W.fnOf "take" "Queue.take" (defArgs (inClass (top 5) 4)) (defBody (inClass (top 5) 4)) (defScope (inClass (top 5) 4)) .none .none .none (vs "handflow.queues" 240) none (.ref 94) .none)) #[]) ::
  (nat_lit 101, Obj.mk (.type "code") none (Data.fields #[vs "rest" 292, vs "Queue.rest" 293, vs "/claim/cut.py" 294, .int 33 0, .int 1 0, .int 0 0, .int 0 0, .int 3 0, .ref 96, .bool true, .int 181 0, .ref 97, .none, .ref 98, .ref 99, .ref 100, .int 296 0, .int 33 0, vs "/claim/cut.py" 297]) #[]) ::
  (nat_lit 102, Obj.mk (.type "function") none (.func (PySem.W.fnOf "rest" "Queue.rest" (defArgs (inClass (top 5) 5)) (defBody (inClass (top 5) 5)) (defScope (inClass (top 5) 5)) .none .none .none (vs "handflow.queues" 240) none (.ref 101) .none)) #[]) ::
  (nat_lit 103, Obj.mk (.type "tuple") none (Data.seq #[vs "gone" 299, vs "laid" 300]) #[]) ::
  (nat_lit 104, Obj.mk (.type "dict") none (Data.dict #[de P "__module__" 249 (vs "handflow.queues" 240), de P "__firstlineno__" 253 (.int 13 252), de P "__init__" 261 (.ref 67), de P "standing" 268 (.ref 74), de P "head" 275 (.ref 81), de P "lay" 283 (.ref 88), de P "take" 291 (.ref 95), de P "rest" 298 (.ref 102), de P "__static_attributes__" 301 (.ref 103), de P "__dict__" 303 (.ref 106), de P "__weakref__" 305 (.ref 107), de P "__doc__" 306 .none] 4) #[]) ::
  (nat_lit 105, Obj.mk (.type "type") none (Data.cls (ClassData.mk (Str.ofString "Queue") [.type "object"] [.ref 105, .type "object"] 104 (Str.ofString "Queue") true [] [] false none false)) #[none, none, some (vs "Queue" 242), some (vs "Queue" 250), some (.builtin "object.__new__"), some (.bool true)]) ::
  (nat_lit 106, Obj.mk (.type "getset_descriptor") none (Data.fields #[vs "__dict__" 302, .ref 105, .builtin "function.__dict__", .builtin "function.__dict__#set"]) #[]) ::
  (nat_lit 107, Obj.mk (.type "getset_descriptor") none (Data.fields #[vs "__weakref__" 304, .ref 105, .builtin "ExceptionGroup.__weakref__", .none]) #[]) ::
  (nat_lit 110, Obj.mk (.type "tuple") none (Data.seq #[vs "while" 311, vs "repeat" 312]) #[]) ::
  (nat_lit 111, Obj.mk (.type "tuple") none (Data.seq #[vs "if" 314, vs "while" 315]) #[]) ::
  (nat_lit 117, Obj.mk (.type "code") none (Data.fields #[vs "named" 317, vs "named" 318, vs "/claim/cut.py" 319, .int 38 0, .int 1 0, .int 0 0, .int 0 0, .int 3 0, .ref 112, .bool true, .int 181 0, .ref 113, .none, .ref 114, .ref 115, .ref 116, .int 323 0, .int 38 0, vs "/claim/cut.py" 324]) #[]) ::
  (nat_lit 118, Obj.mk (.type "function") none (.func (PySem.W.fnOf "named" "named" (defArgs (top 9)) (defBody (top 9)) (defScope (top 9)) .none .none .none (vs "handflow.tree" 309) none (.ref 117) .none)) #[]) ::
  (nat_lit 124, Obj.mk (.type "code") none (Data.fields #[vs "variables_of" 326, vs "variables_of" 327, vs "/claim/cut.py" 328, .int 43 0, .int 1 0, .int 0 0, .int 0 0, .int 3 0, .ref 119, .bool true, .int 181 0, .ref 120, .none, .ref 121, .ref 122, .ref 123, .int 330 0, .int 43 0, vs "/claim/cut.py" 331]) #[]) ::
  (nat_lit 125, Obj.mk (.type "function") none (.func (PySem.W.fnOf "variables_of" "variables_of" (defArgs (top 10)) (defBody (top 10)) (defScope (top 10)) .none .none .none (vs "handflow.tree" 309) none (.ref 124) .none)) #[]) ::
  (nat_lit 131, Obj.mk (.type "code") none (Data.fields #[vs "all_deeds" 333, vs "all_deeds" 334, vs "/claim/cut.py" 335, .int 45 0, .int 1 0, .int 0 0, .int 0 0, .int 3 0, .ref 126, .bool true, .int 181 0, .ref 127, .none, .ref 128, .ref 129, .ref 130, .int 340 0, .int 45 0, vs "/claim/cut.py" 341]) #[]) ::
  (nat_lit 132, Obj.mk (.type "function") none (.func (PySem.W.fnOf "all_deeds" "all_deeds" (defArgs (top 11)) (defBody (top 11)) (defScope (top 11)) .none .none .none (vs "handflow.tree" 309) none (.ref 131) .none)) #[]) ::
  (nat_lit 138, Obj.mk (.type "code") none (Data.fields #[vs "blocks_within" 343, vs "blocks_within" 344, vs "/claim/cut.py" 345, .int 52 0, .int 1 0, .int 0 0, .int 0 0, .int 3 0, .ref 133, .bool true, .int 181 0, .ref 134, .none, .ref 135, .ref 136, .ref 137, .int 347 0, .int 52 0, vs "/claim/cut.py" 348]) #[]) ::
  (nat_lit 139, Obj.mk (.type "function") none (.func (PySem.W.fnOf "blocks_within" "blocks_within" (defArgs (top 12)) (defBody (top 12)) (defScope (top 12)) .none .none .none (vs "handflow.tree" 309) none (.ref 138) .none)) #[]) ::
  (nat_lit 143, Obj.mk (.type "code") none (Data.fields #[vs "names_in" 350, vs "names_in" 351, vs "/claim/cut.py" 352, .int 58 0, .int 1 0, .int 0 0, .int 0 0, .int 3 0, .ref 140, .bool true, .int 181 0, .ref 141, .none, .none, .none, .ref 142, .int 353 0, .int 58 0, vs "/claim/cut.py" 354]) #[]) ::
  (nat_lit 144, Obj.mk (.type "function") none (.func (PySem.W.fnOf "names_in" "names_in" (defArgs (top 13)) (defBody (top 13)) (defScope (top 13)) .none .none .none (vs "handflow.tree" 309) none (.ref 143) .none)) #[]) ::
  (nat_lit 150, Obj.mk (.type "code") none (Data.fields #[vs "done" 360, vs "done" 361, vs "/claim/cut.py" 362, .int 67 0, .int 3 0, .int 0 0, .int 0 0, .int 3 0, .ref 145, .bool true, .int 181 0, .ref 146, .none, .ref 147, .ref 148, .ref 149, .int 366 0, .int 67 0, vs "/claim/cut.py" 367]) #[]) ::
  (nat_lit 151, Obj.mk (.type "function") none (.func (PySem.W.fnOf "done" "done" (defArgs (top 16)) (defBody (top 16)) (defScope (top 16)) .none .none .none (vs "handflow.wheel" 356) none (.ref 150) .none)) #[]) ::
  (nat_lit 157, Obj.mk (.type "code") none (Data.fields #[vs "reckoned" 369, vs "reckoned" 370, vs "/claim/cut.py" 371, .int 75 0, .int 3 0, .int 0 0, .int 0 0, .int 3 0, .ref 152, .bool true, .int 181 0, .ref 153, .none, .ref 154, .ref 155, .ref 156, .int 375 0, .int 75 0, vs "/claim/cut.py" 376]) #[]) ::
  (nat_lit 158, Obj.mk (.type "function") none (.func (PySem.W.fnOf "reckoned" "reckoned" (defArgs (top 17)) (defBody (top 17)) (defScope (top 17)) .none .none .none (vs "handflow.wheel" 356) none (.ref 157) .none)) #[]) ::
  (nat_lit 162, Obj.mk (.type "code") none (Data.fields #[vs "beginnings" 378, vs "beginnings" 379, vs "/claim/cut.py" 380, .int 87 0, .int 2 0, .int 0 0, .int 0 0, .int 3 0, .ref 159, .bool true, .int 181 0, .ref 160, .none, .none, .none, .ref 161, .int 381 0, .int 87 0, vs "/claim/cut.py" 382]) #[]) ::
  (nat_lit 163, Obj.mk (.type "function") none (.func (PySem.W.fnOf "beginnings" "beginnings" (defArgs (top 18)) (defBody (top 18)) (defScope (top 18)) .none .none .none (vs "handflow.wheel" 356) none (.ref 162) .none)) #[]) ::
  (nat_lit 174, Obj.mk (.type "code") none (Data.fields #[vs "__init__" 398, vs "Run.__init__" 399, vs "/claim/cut.py" 400, .int 95 0, .int 4 0, .int 0 0, .int 0 0, .int 3 0, .ref 171, .bool true, .int 181 0, .ref 172, .none, .none, .none, .ref 173, .int 401 0, .int 95 0, vs "/claim/cut.py" 402]) #[]) ::
  (nat_lit 175, Obj.mk (.type "function") none (.func (PySem.W.fnOf "__init__" "Run.__init__" (defArgs (inClass (top 20) 0)) (defBody (inClass (top 20) 0)) (defScope (inClass (top 20) 0)) .none .none .none (vs "handflow.plain" 384) none (.ref 174) .none)) #[]) ::
  (nat_lit 181, Obj.mk (.type "code") none (Data.fields #[vs "do_block" 404, vs "Run.do_block" 405, vs "/claim/cut.py" 406, .int 102 0, .int 2 0, .int 0 0, .int 0 0, .int 3 0, .ref 176, .bool true, .int 181 0, .ref 177, .none, .ref 178, .ref 179, .ref 180, .int 410 0, .int 102 0, vs "/claim/cut.py" 411]) #[]) ::
  (nat_lit 182, Obj.mk (.type "function") none (.func (PySem.W.fnOf "do_block" "Run.do_block" (defArgs (inClass (top 20) 1)) (defBody (inClass (top 20) 1)) (defScope (inClass (top 20) 1)) .none .none .none (vs "handflow.plain" 384) none (.ref 181) .none)) #[]) ::
  (nat_lit 188, Obj.mk (.type "code") none (Data.fields #[vs "do_deed" 413, vs "Run.do_deed" 414, vs "/claim/cut.py" 415, .int 108 0, .int 2 0, .int 0 0, .int 0 0, .int 3 0, .ref 183, .bool true, .int 181 0, .ref 184, .none, .ref 185, .ref 186, .ref 187, .int 419 0, .int 108 0, vs "/claim/cut.py" 420]) #[]) ::
  (nat_lit 189, Obj.mk (.type "function") none (.func (PySem.W.fnOf "do_deed" "Run.do_deed" (defArgs (inClass (top 20) 2)) (defBody (inClass (top 20) 2)) (defScope (inClass (top 20) 2)) .none .none .none (vs "handflow.plain" 384) none (.ref 188) .none)) #[]) ::
  (nat_lit 195, Obj.mk (.type "code") none (Data.fields #[vs "do_if" 422, vs "Run.do_if" 423, vs "/claim/cut.py" 424, .int 121 0, .int 4 0, .int 0 0, .int 0 0, .int 3 0, .ref 190, .bool true, .int 181 0, .ref 191, .none, .ref 192, .ref 193, .ref 194, .int 429 0, .int 121 0, vs "/claim/cut.py" 430]) #[]) ::
  (nat_lit 196, Obj.mk (.type "function") none (.func (PySem.W.fnOf "do_if" "Run.do_if" (defArgs (inClass (top 20) 3)) (defBody (inClass (top 20) 3)) (defScope (inClass (top 20) 3)) .none .none .none (vs "handflow.plain" 384) none (.ref 195) .none)) #[]) ::
  (nat_lit 202, Obj.mk (.type "code") none (Data.fields #[vs "do_while" 432, vs "Run.do_while" 433, vs "/claim/cut.py" 434, .int 126 0, .int 3 0, .int 0 0, .int 0 0, .int 3 0, .ref 197, .bool true, .int 181 0, .ref 198, .none, .ref 199, .ref 200, .ref 201, .int 438 0, .int 126 0, vs "/claim/cut.py" 439]) #[]) ::
  (nat_lit 203, Obj.mk (.type "function") none (.func (PySem.W.fnOf "do_while" "Run.do_while" (defArgs (inClass (top 20) 4)) (defBody (inClass (top 20) 4)) (defScope (inClass (top 20) 4)) .none .none .none (vs "handflow.plain" 384) none (.ref 202) .none)) #[]) ::
  (nat_lit 209, Obj.mk (.type "code") none (Data.fields #[vs "do_repeat" 441, vs "Run.do_repeat" 442, vs "/claim/cut.py" 443, .int 134 0, .int 3 0, .int 0 0, .int 0 0, .int 3 0, .ref 204, .bool true, .int 181 0, .ref 205, .none, .ref 206, .ref 207, .ref 208, .int 448 0, .int 134 0, vs "/claim/cut.py" 449]) #[]) ::
  (nat_lit 210, Obj.mk (.type "function") none (.func (PySem.W.fnOf "do_repeat" "Run.do_repeat" (defArgs (inClass (top 20) 5)) (defBody (inClass (top 20) 5)) (defScope (inClass (top 20) 5)) .none .none .none (vs "handflow.plain" 384) none (.ref 209) .none)) #[]) ::
  (nat_lit 216, Obj.mk (.type "code") none (Data.fields #[vs "do_step" 451, vs "Run.do_step" 452, vs "/claim/cut.py" 453, .int 140 0, .int 1 0, .int 0 0, .int 0 0, .int 3 0, .ref 211, .bool true, .int 181 0, .ref 212, .none, .ref 213, .ref 214, .ref 215, .int 455 0, .int 140 0, vs "/claim/cut.py" 456]) #[]) ::
  (nat_lit 217, Obj.mk (.type "function") none (.func (PySem.W.fnOf "do_step" "Run.do_step" (defArgs (inClass (top 20) 6)) (defBody (inClass (top 20) 6)) (defScope (inClass (top 20) 6)) .none .none .none (vs "handflow.plain" 384) none (.ref 216) .none)) #[]) ::
  (nat_lit 223, Obj.mk (.type "code") none (Data.fields #[vs "is_spent" 458, vs "Run.is_spent" 459, vs "/claim/cut.py" 460, .int 146 0, .int 1 0, .int 0 0, .int 0 0, .int 3 0, .ref 218, .bool true, .int 181 0, .ref 219, .none, .ref 220, .ref 221, .ref 222, .int 462 0, .int 146 0, vs "/claim/cut.py" 463]) #[]) ::
  (nat_lit 224, Obj.mk (.type "function") none (.func (PySem.W.fnOf "is_spent" "Run.is_spent" (defArgs (inClass (top 20) 7)) (defBody (inClass (top 20) 7)) (defScope (inClass (top 20) 7)) .none .none .none (vs "handflow.plain" 384) none (.ref 223) .none)) #[]) ::
  (nat_lit 230, Obj.mk (.type "code") none (Data.fields #[vs "do_plain" 465, vs "Run.do_plain" 466, vs "/claim/cut.py" 467, .int 149 0, .int 2 0, .int 0 0, .int 0 0, .int 3 0, .ref 225, .bool true, .int 181 0, .ref 226, .none, .ref 227, .ref 228, .ref 229, .int 471 0, .int 149 0, vs "/claim/cut.py" 472]) #[]) ::
  (nat_lit 231, Obj.mk (.type "function") none (.func (PySem.W.fnOf "do_plain" "Run.do_plain" (defArgs (inClass (top 20) 8)) (defBody (inClass (top 20) 8)) (defScope (inClass (top 20) 8)) .none .none .none (vs "handflow.plain" 384) none (.ref 230) .none)) #[]) ::
  (nat_lit 237, Obj.mk (.type "code") none (Data.fields #[vs "number_of" 474, vs "Run.number_of" 475, vs "/claim/cut.py" 476, .int 160 0, .int 2 0, .int 0 0, .int 0 0, .int 3 0, .ref 232, .bool true, .int 181 0, .ref 233, .none, .ref 234, .ref 235, .ref 236, .int 479 0, .int 160 0, vs "/claim/cut.py" 480]) #[]) ::
  (nat_lit 238, Obj.mk (.type "function") none (.func (PySem.W.fnOf "number_of" "Run.number_of" (defArgs (inClass (top 20) 9)) (defBody (inClass (top 20) 9)) (defScope (inClass (top 20) 9)) .none .none .none (vs "handflow.plain" 384) none (.ref 237) .none)) #[]) ::
  (nat_lit 244, Obj.mk (.type "code") none (Data.fields #[vs "got_from" 482, vs "Run.got_from" 483, vs "/claim/cut.py" 484, .int 163 0, .int 2 0, .int 0 0, .int 0 0, .int 3 0, .ref 239, .bool true, .int 181 0, .ref 240, .none, .ref 241, .ref 242, .ref 243, .int 487 0, .int 163 0, vs "/claim/cut.py" 488]) #[]) ::
  (nat_lit 245, Obj.mk (.type "function") none (.func (PySem.W.fnOf "got_from" "Run.got_from" (defArgs (inClass (top 20) 10)) (defBody (inClass (top 20) 10)) (defScope (inClass (top 20) 10)) .none .none .none (vs "handflow.plain" 384) none (.ref 244) .none)) #[]) ::
  (nat_lit 246, Obj.mk (.type "tuple") none (Data.seq #[vs "most" 490, vs "numbers" 491, vs "outs" 492, vs "queues" 493, vs "steps" 494]) #[]) ::
  (nat_lit 247, Obj.mk (.type "dict") none (Data.dict #[de P "__module__" 393 (vs "handflow.plain" 384), de P "__firstlineno__" 397 (.int 93 396), de P "__init__" 403 (.ref 175), de P "do_block" 412 (.ref 182), de P "do_deed" 421 (.ref 189), de P "do_if" 431 (.ref 196), de P "do_while" 440 (.ref 203), de P "do_repeat" 450 (.ref 210), de P "do_step" 457 (.ref 217), de P "is_spent" 464 (.ref 224), de P "do_plain" 473 (.ref 231), de P "number_of" 481 (.ref 238), de P "got_from" 489 (.ref 245), de P "__static_attributes__" 495 (.ref 246), de P "__dict__" 497 (.ref 249), de P "__weakref__" 499 (.ref 250), de P "__doc__" 500 .none] 4) #[]) ::
  (nat_lit 248, Obj.mk (.type "type") none (Data.cls (ClassData.mk (Str.ofString "Run") [.type "object"] [.ref 248, .type "object"] 247 (Str.ofString "Run") true [] [] false none false)) #[none, none, some (vs "Run" 386), some (vs "Run" 394), some (.builtin "object.__new__"), some (.bool true)]) ::
  (nat_lit 249, Obj.mk (.type "getset_descriptor") none (Data.fields #[vs "__dict__" 496, .ref 248, .builtin "function.__dict__", .builtin "function.__dict__#set"]) #[]) ::
  (nat_lit 250, Obj.mk (.type "getset_descriptor") none (Data.fields #[vs "__weakref__" 498, .ref 248, .builtin "ExceptionGroup.__weakref__", .none]) #[]) ::
  (nat_lit 253, Obj.mk (.type "tuple") none (Data.seq #[.int 5000 503]) #[]) ::
  (nat_lit 257, Obj.mk (.type "code") none (Data.fields #[vs "run" 504, vs "run" 505, vs "/claim/cut.py" 506, .int 167 0, .int 3 0, .int 0 0, .int 0 0, .int 3 0, .ref 254, .bool true, .int 181 0, .ref 255, .none, .none, .none, .ref 256, .int 507 0, .int 167 0, vs "/claim/cut.py" 508]) #[]) ::
  (nat_lit 258, Obj.mk (.type "function") none (.func (PySem.W.fnOf "run" "run" (defArgs (top 21)) (defBody (top 21)) (defScope (top 21)) (.ref 253) .none .none (vs "handflow.plain" 384) none (.ref 257) .none)) #[]) ::
  (nat_lit 264, Obj.mk (.type "code") none (Data.fields #[vs "_law_cell" 512, vs "_law_cell" 513, vs "/claim/cut.py" 514, .int 175 0, .int 2 0, .int 0 0, .int 0 0, .int 3 0, .ref 259, .bool true, .int 181 0, .ref 260, .none, .ref 261, .ref 262, .ref 263, .int 517 0, .int 175 0, vs "/claim/cut.py" 518]) #[]) ::
  (nat_lit 265, Obj.mk (.type "function") none (.func (PySem.W.fnOf "_law_cell" "_law_cell" (defArgs (top 23)) (defBody (top 23)) (defScope (top 23)) .none .none .none (vs "law_handflow_k15_numbers_asked" 510) none (.ref 264) .none)) #[]) ::
  (nat_lit 271, Obj.mk (.type "code") none (Data.fields #[vs "_law_mixed" 520, vs "_law_mixed" 521, vs "/claim/cut.py" 522, .int 179 0, .int 2 0, .int 0 0, .int 0 0, .int 3 0, .ref 266, .bool true, .int 181 0, .ref 267, .none, .ref 268, .ref 269, .ref 270, .int 526 0, .int 179 0, vs "/claim/cut.py" 527]) #[]) ::
  (nat_lit 272, Obj.mk (.type "function") none (.func (PySem.W.fnOf "_law_mixed" "_law_mixed" (defArgs (top 24)) (defBody (top 24)) (defScope (top 24)) .none .none .none (vs "law_handflow_k15_numbers_asked" 510) none (.ref 271) .none)) #[]) ::
  (nat_lit 278, Obj.mk (.type "code") none (Data.fields #[vs "_law_alike" 529, vs "_law_alike" 530, vs "/claim/cut.py" 531, .int 182 0, .int 2 0, .int 0 0, .int 0 0, .int 3 0, .ref 273, .bool true, .int 181 0, .ref 274, .none, .ref 275, .ref 276, .ref 277, .int 535 0, .int 182 0, vs "/claim/cut.py" 536]) #[]) ::
  (nat_lit 279, Obj.mk (.type "function") none (.func (PySem.W.fnOf "_law_alike" "_law_alike" (defArgs (top 25)) (defBody (top 25)) (defScope (top 25)) .none .none .none (vs "law_handflow_k15_numbers_asked" 510) none (.ref 278) .none)) #[]) ::
  (nat_lit 285, Obj.mk (.type "code") none (Data.fields #[vs "_law_many" 538, vs "_law_many" 539, vs "/claim/cut.py" 540, .int 201 0, .int 2 0, .int 0 0, .int 0 0, .int 3 0, .ref 280, .bool true, .int 181 0, .ref 281, .none, .ref 282, .ref 283, .ref 284, .int 550 0, .int 201 0, vs "/claim/cut.py" 551]) #[]) ::
  (nat_lit 286, Obj.mk (.type "function") none (.func (PySem.W.fnOf "_law_many" "_law_many" (defArgs (top 26)) (defBody (top 26)) (defScope (top 26)) .none .none .none (vs "law_handflow_k15_numbers_asked" 510) none (.ref 285) .none)) #[]) ::
  (nat_lit 292, Obj.mk (.type "code") none (Data.fields #[vs "_law_body" 553, vs "_law_body" 554, vs "/claim/cut.py" 555, .int 214 0, .int 4 0, .int 0 0, .int 0 0, .int 3 0, .ref 287, .bool true, .int 181 0, .ref 288, .none, .ref 289, .ref 290, .ref 291, .int 563 0, .int 214 0, vs "/claim/cut.py" 564]) #[]) ::
  (nat_lit 293, Obj.mk (.type "function") none (.func (PySem.W.fnOf "_law_body" "_law_body" (defArgs (top 27)) (defBody (top 27)) (defScope (top 27)) .none .none .none (vs "law_handflow_k15_numbers_asked" 510) none (.ref 292) .none)) #[]) ::
  (nat_lit 297, Obj.mk (.type "code") none (Data.fields #[vs "law" 566, vs "law" 567, vs "/claim/cut.py" 568, .int 222 0, .int 1 0, .int 0 0, .int 0 0, .int 3 0, .ref 294, .bool true, .int 181 0, .ref 295, .none, .none, .none, .ref 296, .int 569 0, .int 222 0, vs "/claim/cut.py" 570]) #[]) ::
  (nat_lit 298, Obj.mk (.type "function") none (.func (PySem.W.fnOf "law" "law" (defArgs (top 28)) (defBody (top 28)) (defScope (top 28)) .none .none .none (vs "law_handflow_k15_numbers_asked" 510) none (.ref 297) .none)) #[]) ::
  []
noncomputable def hks : List Addr := [2, 3, 20, 21, 22, 34, 35, 36, 37, 38, 39, 42, 49, 50, 51, 66, 67, 73, 74, 80, 81, 87, 88, 94, 95, 101, 102, 103, 104, 105, 106, 107, 110, 111, 117, 118, 124, 125, 131, 132, 138, 139, 143, 144, 150, 151, 157, 158, 162, 163, 174, 175, 181, 182, 188, 189, 195, 196, 202, 203, 209, 210, 216, 217, 223, 224, 230, 231, 237, 238, 244, 245, 246, 247, 248, 249, 250, 253, 257, 258, 264, 265, 271, 272, 278, 279, 285, 286, 292, 293, 297, 298]
theorem hk_as : ∀ P, hks = (hk P).map (·.1) := fun _ => by kernel_rfl
noncomputable def vw : Program := PySem.W.view PySem.Challenge.pw_handflow_k15_numbers_asked [0, 2, 3, 5, 7, 8, 9, 10, 11, 12, 13, 15, 16, 17, 18, 20, 23, 24, 25, 26, 27, 28]
noncomputable def hkH : PySem.W.Hook := PySem.W.kHook hk hks hk_as
noncomputable def xt (s : Shared) : Bool := PySem.W.xlAt vw [] s && PySem.W.recOk (PySem.W.RowW.records (PySem.W.OpenRow.toRowW (PySem.W.OpenLaw.row PySem.Challenge.rw_handflow_k15_numbers_asked))) s
noncomputable def bt (P : Params) : PySem.W.BT := (.node (PySem.W.boot_o_0 P) (.node (PySem.W.boot_o_1 P) (.node (PySem.W.boot_o_3 P) (.node (PySem.W.boot_o_7 P) .nil .nil) .nil) (.node (PySem.W.boot_o_5 P) (.node (PySem.W.boot_o_9 P) .nil .nil) .nil)) (.node (PySem.W.boot_o_2 P) (.node (PySem.W.boot_o_4 P) (.node (PySem.W.boot_o_8 P) .nil .nil) .nil) (.node (PySem.W.boot_o_6 P) (.node (PySem.W.boot_o_10 P) .nil .nil) .nil)))
theorem bt_is (P : Params) : PySem.W.absHeap (bt P) 11 {} = PySem.W.boot_heap P := by kernel_rfl
noncomputable def bs (P : Params) (os : OsState) : PySem.W.SharedT := ⟨bt P, 11, {}, #[], PySem.W.boot_drawn, PySem.W.boot_toks, os⟩
theorem bs_is (P : Params) (os : OsState) : (bs P os).abs = ⟨PySem.W.boot_heap P, #[], PySem.W.boot_drawn, PySem.W.boot_toks, os⟩ := by
  unfold bs PySem.W.SharedT.abs; rw [bt_is]
def goT (p : Program) (w : World) (A : Option Value) : Nat → PySem.W.SharedT → Thread → Option PySem.W.SharedT
  | 0, _, _ => none
  | m + 1, x, y => match PySem.W.through y with
    | true => some x
    | false => match PySem.W.stepOk 11 A y with
      | false => none
      | true => match PySem.W.stepT (denote PySem.treeTable) p w x y with
        | none => none
        | some (x', y') => goT p w A m x' y'
noncomputable abbrev annB (w : World) : Option Value := (PySem.W.boot_heap w.params).nsMap mainGlobals "__annotations__"
def EndsT (p q : Program) (loose : List Str) (Xt : Shared → Bool) {α : Type} (Yf : Shared → α) (Ya : World → α) (N : Nat) (w : World) : Prop :=
  ∀ os : OsState, (goT p w (annB w) N (bs w.params os) (PySem.W.topStub p)).map (fun s => (PySem.W.staticsOk (PySem.importedModules p.main.body) (PySem.W.boot_heap w.params) s.abs.heap && PySem.W.namesBound p s.abs.heap && PySem.W.gensDone s.abs && PySem.W.laidKept (PySem.W.boot_heap w.params) s.abs.heap, PySem.W.openSeen q loose (PySem.importedModules p.main.body) Xt true s.abs, Yf s.abs)) = some (true, PySem.W.openGood q loose, Ya w)
set_option maxHeartbeats 0 in
theorem leftF : ∀ w : World, EndsT PySem.Challenge.pw_handflow_k15_numbers_asked vw [("run" : Str)] xt hkH.obs hkH.val 3984 w := fun w os => by kernel_rfl
end K15
namespace L2
open PySem PySem.Spec PyProof.Rows
abbrev Key := Sum Int Str
def keyIs : Key → Value → Bool
  | .inl k, v => Value.isInt k v
  | .inr x, v => Value.isStrOf x v
def keyH (w : World) : Key → Int
  | .inl k => hashInt k
  | .inr x => hashStr w x
theorem keyIs_shape : ∀ {k : Key} {v : Value}, keyIs k v = true → (∃ i t, k = Sum.inl i ∧ v = Value.int i t) ∨ (∃ x t, k = Sum.inr x ∧ v = Value.str x t)
  | .inl i, v, h => by
    obtain ⟨t, e⟩ := Value.isInt_shape (k := i) (v := v) h
    exact .inl ⟨i, t, rfl, e⟩
  | .inr x, v, h => by
    obtain ⟨t, e⟩ := Value.isStrOf_shape (x := x) (v := v) h
    exact .inr ⟨x, t, rfl, e⟩
theorem keyIs_int (i : Int) (t : Tok) : keyIs (.inl i) (.int i t) = true := by simp [keyIs, Value.isInt]
theorem keyIs_str (x : Str) (t : Tok) : keyIs (.inr x) (.str x t) = true := by simp [keyIs, Value.isStrOf]
theorem key_ll (a b : Int) : decide ((Sum.inl a : Key) = Sum.inl b) = (a == b) := by
  by_cases e : a = b
  · subst e; simp
  · have h : ¬ (Sum.inl a : Key) = Sum.inl b := fun q => e (Sum.inl.inj q)
    rw [decide_eq_false h]
    exact (beq_eq_false_iff_ne.mpr e).symm
theorem key_rr (a b : Str) : decide ((Sum.inr a : Key) = Sum.inr b) = decide (a = b) := by
  by_cases e : a = b
  · subst e; simp
  · have h : ¬ (Sum.inr a : Key) = Sum.inr b := fun q => e (Sum.inr.inj q)
    rw [decide_eq_false h, decide_eq_false e]
theorem key_lr (a : Int) (b : Str) : decide ((Sum.inl a : Key) = Sum.inr b) = false := decide_eq_false (fun q => nomatch q)
theorem key_rl (a : Str) (b : Int) : decide ((Sum.inr a : Key) = Sum.inl b) = false := decide_eq_false (fun q => nomatch q)
def mixKind (prog : Program) (w : World) : PySem.KeyKind prog w Key where
  is := keyIs
  hash := keyH w
  inj := fun v a b ha hb => by
    rcases keyIs_shape ha with ⟨i, t, rfl, rfl⟩ | ⟨x, t, rfl, rfl⟩
    · rcases keyIs_shape hb with ⟨j, u, rfl, e⟩ | ⟨y, u, rfl, e⟩
      · injection e with e1 _; rw [e1]
      · exact nomatch e
    · rcases keyIs_shape hb with ⟨j, u, rfl, e⟩ | ⟨y, u, rfl, e⟩
      · exact nomatch e
      · injection e with e1 _; rw [e1]
  byValue := fun k v h => by
    rcases keyIs_shape h with ⟨i, t, rfl, rfl⟩ | ⟨x, t, rfl, rfl⟩ <;> rfl
  pyHash := fun hv h => by
    rcases keyIs_shape hv with ⟨i, t, rfl, rfl⟩ | ⟨x, t, rfl, rfl⟩
    · exact wpAny_pyHash_int h
    · exact wpAny_pyHash_str h
  eqBool := fun hu hv h => by
    rcases keyIs_shape hu with ⟨i, t, rfl, rfl⟩ | ⟨x, t, rfl, rfl⟩
    · rcases keyIs_shape hv with ⟨j, u, rfl, rfl⟩ | ⟨y, u, rfl, rfl⟩
      · rw [key_ll] at h; exact wpAny_eqBool_int h
      · rw [key_lr] at h; exact SeqAt.EqAt.int_str i t y u _ _ _ _ h
    · rcases keyIs_shape hv with ⟨j, u, rfl, rfl⟩ | ⟨y, u, rfl, rfl⟩
      · rw [key_rl] at h; exact SeqAt.EqAt.str_int x t j u _ _ _ _ h
      · rw [key_rr] at h; exact wpAny_eqBool_str h
  «strs» := fun k x t v h => by
    rcases keyIs_shape h with ⟨i, u, rfl, e⟩ | ⟨y, u, rfl, e⟩
    · exact nomatch e
    · injection e with e1 _
      subst e1
      cases v <;> rfl
theorem mixKind_int (prog : Program) (w : World) (i : Int) (t : Tok) : (mixKind prog w).is (.inl i) (.int i t) = true := keyIs_int i t
theorem mixKind_str (prog : Program) (w : World) (x : Str) (t : Tok) : (mixKind prog w).is (.inr x) (.str x t) = true := keyIs_str x t
end L2
namespace L2
open PySem PySem.Spec PyProof.Rows
inductive V where
  | non | bl (b : Bool) | int (i : Int) | str (x : Str) | byt (b : Array UInt8) | flt (b : UInt64) | ref (a : Addr) | ty (n : String)
  deriving DecidableEq
def RelV : V → Value → Prop
  | .non, u => u = Value.none
  | .bl b, u => u = Value.bool b
  | .int i, u => ∃ t, u = Value.int i t
  | .str x, u => ∃ t, u = Value.str x t
  | .byt b, u => ∃ t, u = Value.bytes b t
  | .flt b, u => ∃ t, u = Value.float b t
  | .ref a, u => u = Value.ref a
  | .ty n, u => u = Value.type n
abbrev Vals : List V → List Value → Prop := Paired RelV
theorem Vals.length {xs : List V} {us : List Value} (r : Vals xs us) : xs.length = us.length := Paired.length r
theorem Vals.get : ∀ {xs : List V} {us : List Value} {i : Nat} {x : V}, Vals xs us → xs[i]? = some x → ∃ u, us[i]? = some u ∧ RelV x u
  | _, _, _, _, .nil, e => by simp at e
  | _, _, 0, _, .cons r _, e => by simp at e; subst e; exact ⟨_, rfl, r⟩
  | _, _, i + 1, x, .cons _ t, e => by
    obtain ⟨u, h1, h2⟩ := Vals.get (i := i) (x := x) t (by simpa using e)
    exact ⟨u, by simpa using h1, h2⟩
theorem Vals.append : ∀ {xs ys : List V} {us ws : List Value}, Vals xs us → Vals ys ws → Vals (xs ++ ys) (us ++ ws)
  | _, _, _, _, .nil, s => s
  | _, _, _, _, .cons r t, s => .cons r (Vals.append t s)
theorem Vals.take : ∀ {xs : List V} {us : List Value} (n : Nat), Vals xs us → Vals (xs.take n) (us.take n)
  | _, _, 0, _ => .nil
  | _, _, _ + 1, .nil => .nil
  | _, _, n + 1, .cons r t => .cons r (Vals.take n t)
theorem Vals.drop : ∀ {xs : List V} {us : List Value} (n : Nat), Vals xs us → Vals (xs.drop n) (us.drop n)
  | _, _, 0, r => r
  | _, _, _ + 1, .nil => .nil
  | _, _, n + 1, .cons _ t => Vals.drop n t
def RelO : Option V → Option Value → Prop
  | some v, some u => RelV v u
  | none, none => True
  | _, _ => False
def KV {κ : Type} : List (κ × V) → List (κ × Value) → Prop := Paired fun (p : κ × V) (q : κ × Value) => p.1 = q.1 ∧ RelV p.2 q.2
def kV : Key → V
  | .inl i => .int i
  | .inr x => .str x
inductive HO where
  | lst (xs : List V)
  | tup (xs : List V)
  | dK (kvs : List (Key × V)) | dT (kvs : List (List Key × V))
  | set (S : Int → Bool) (n : Nat)
  | ins (C dx : Addr) (fs : List (Str × V))
  | own (x : Addr)
  | xd (fs : List (Str × V))
  | met (f x : Addr)
  | rng (lo hi : Int)
  | frz (o : Obj) (u : HO)
  | tbl (ps : Array Value)
  | ext (φ : Heap → Prop)
abbrev Hp := Addr → Option HO
def upd (H : Hp) (a : Addr) (o : HO) : Hp := fun b => if b = a then some o else H b
theorem upd_same {H : Hp} {a : Addr} {o : HO} : upd H a o a = some o := by unfold upd; rw [if_pos rfl]
theorem upd_ne {H : Hp} {a b : Addr} {o : HO} (h : b ≠ a) : upd H a o b = H b := by unfold upd; rw [if_neg h]
theorem ne_of {H : Hp} {a b : Addr} {o u : HO} (h : H a = some o) (h' : H b = some u) (d : o ≠ u) : a ≠ b := by
  intro e; subst e; rw [h] at h'; exact d (Option.some.inj h')
theorem ne_of_none {H : Hp} {a b : Addr} {o : HO} (h : H a = some o) (h' : H b = none) : a ≠ b := by
  intro e; subst e; rw [h] at h'; cases h'
section
variable (P : Program) (w : World)
def ObjOk (H : Hp) (h : Heap) (a : Addr) : HO → Prop
  | .lst xs => xs.length ≤ sizeLine ∧ ∃ (its : List Value) (n : Nat), Vals xs its ∧ h.get? a = some { cls := .type "list", data := .seq its.toArray n }
  | .tup xs => xs.length ≤ sizeLine ∧ ∃ its : List Value, Vals xs its ∧ IsTup h a its.toArray
  | .dK kvs => kvs.length ≤ sizeLine ∧ (a == sysModules) = false ∧ ∃ vs, KV kvs vs ∧ h.DictOf (mixKind P w) a vs
  | .dT kvs => kvs.length ≤ sizeLine ∧ (a == sysModules) = false ∧ ∃ xs : List (List Key × Addr × Value),
      Paired (fun (p : List Key × V) (q : List Key × Addr × Value) => p.1 = q.1 ∧ H q.2.1 = some (.tup (p.1.map kV)) ∧ RelV p.2 q.2.2) kvs xs ∧
      ∃ o es ep, h.get? a = some o ∧ o.ExactDict ∧ o.data = .dict es ep ∧ es.toList = xs.map (entryOfKey (tupleKind (mixKind P w))) ∧ (xs.map (·.1)).Nodup
  | .set S n => h.SetOf (intKind P w) a S n
  | .ins C dx fs => H dx = some (.own a) ∧ fs.length ≤ 1000 ∧ dx ≠ a ∧ h.get? a = some (PySem.W.instObj C dx) ∧
      ∃ mA, h.Ns1 dx mA ∧ (∀ f, RelO (fs.lookup f) (mA f)) ∧ PySem.Within mA (fs.map (·.1))
  | .own _ => ∃ o, h.get? a = some o
  | .xd fs => ∃ mA, h.Ns1 a mA ∧ ∀ f, RelO (fs.lookup f) (mA f)
  | .rng lo hi => ∃ t u v, h.get? a = some { cls := .type "range", data := .fields #[.int lo t, .int hi u, .int 1 v] }
  | .frz o u => h.get? a = some o ∧ ObjOk H h a u
  | .tbl ps => h.get? a = some { cls := .none, data := .fields ps }
  | .met f x => h.get? a = some (PySem.W.methodObj (.ref f) (.ref x))
  | .ext φ => φ h ∧ (∃ o, h.get? a = some o) ∧ ∀ h1 h2 : Heap, φ h1 → (∀ o, h1.get? a = some o → h2.get? a = some o) → φ h2
def HOk (H : Hp) (h : Heap) : Prop := ∀ a o, H a = some o → ObjOk P w H h a o
end
section
variable {P : Program} {w : World} {H H' : Hp} {h h' : Heap} {a : Addr} {o : HO}
theorem ObjOk.lt (x : ObjOk P w H h a o) : a < h.objs.size := by
  cases o with
  | lst xs => obtain ⟨_, _, _, _, e⟩ := x; exact Heap.lt_size e
  | tup xs => obtain ⟨_, _, _, p⟩ := x; exact p.lt
  | dK kvs => obtain ⟨_, _, _, _, o, _, _, e, _⟩ := x; exact Heap.lt_size e
  | dT kvs => obtain ⟨_, _, _, _, o, _, _, e, _⟩ := x; exact Heap.lt_size e
  | set S n => obtain ⟨o, _, _, _, e, _⟩ := x; exact Heap.lt_size e
  | ins C dx fs => obtain ⟨_, _, _, e, _⟩ := x; exact Heap.lt_size e
  | own y => obtain ⟨_, e⟩ := x; exact Heap.lt_size e
  | xd fs => obtain ⟨_, ⟨_, _, _, e, _⟩, _⟩ := x; exact Heap.lt_size e
  | rng lo hi => obtain ⟨_, _, _, e⟩ := x; exact Heap.lt_size e
  | frz ob u => obtain ⟨e, _⟩ := x; exact Heap.lt_size e
  | tbl ps => exact Heap.lt_size (show h.get? a = some _ from x)
  | met f y => exact Heap.lt_size (show h.get? a = some _ from x)
  | ext φ => obtain ⟨_, ⟨_, e⟩, _⟩ := x; exact Heap.lt_size e
theorem Paired.mapP {α β : Type} {F G : α → β → Prop} : ∀ {l₁ : List α} {l₂ : List β}, Paired F l₁ l₂ → (∀ a b, F a b → G a b) → Paired G l₁ l₂
  | _, _, .nil, _ => .nil
  | _, _, .cons r t, f => .cons (f _ _ r) (Paired.mapP t f)
theorem ObjOk.stay (x : ObjOk P w H h a o) (k : ∀ b u, (b = a ∨ H b = some (.own a)) → h.get? b = some u → h'.get? b = some u)
    (ho : ∀ b, H b = some (.own a) → H' b = some (.own a)) (ht : ∀ b xs, H b = some (.tup xs) → H' b = some (.tup xs)) : ObjOk P w H' h' a o := by
  induction o with
  | lst xs => obtain ⟨z, its, n, r, e⟩ := x; exact ⟨z, its, n, r, k _ _ (.inl rfl) e⟩
  | tup xs => obtain ⟨z, its, r, ob, e, c⟩ := x; exact ⟨z, its, r, ob, k _ _ (.inl rfl) e, c⟩
  | dK kvs => obtain ⟨z, y, vs, r, ob, es, ep, e, c⟩ := x; exact ⟨z, y, vs, r, ob, es, ep, k _ _ (.inl rfl) e, c⟩
  | dT kvs =>
    obtain ⟨z, y, xs, r, ob, es, ep, e, c⟩ := x
    exact ⟨z, y, xs, Paired.mapP r fun p q z => ⟨z.1, ht _ _ z.2.1, z.2.2⟩, ob, es, ep, k _ _ (.inl rfl) e, c⟩
  | set S n => obtain ⟨ob, es, ep, t, e, c⟩ := x; exact ⟨ob, es, ep, t, k _ _ (.inl rfl) e, c⟩
  | ins C dx fs =>
    obtain ⟨d, z, ne, e, mA, ⟨od, es, ep, e2, c⟩, r⟩ := x
    exact ⟨ho _ d, z, ne, k _ _ (.inl rfl) e, mA, ⟨od, es, ep, k _ _ (.inr d) e2, c⟩, r⟩
  | own y => obtain ⟨ob, e⟩ := x; exact ⟨ob, k _ _ (.inl rfl) e⟩
  | xd fs => obtain ⟨mA, ⟨od, es, ep, e, c⟩, r⟩ := x; exact ⟨mA, ⟨od, es, ep, k _ _ (.inl rfl) e, c⟩, r⟩
  | rng lo hi => obtain ⟨t, u, v, e⟩ := x; exact ⟨t, u, v, k _ _ (.inl rfl) e⟩
  | frz ob u ih => obtain ⟨e, q⟩ := x; exact ⟨k _ _ (.inl rfl) e, ih q⟩
  | tbl ps =>
    have e : h.get? a = some { cls := .none, data := .fields ps } := x
    show h'.get? a = some { cls := .none, data := .fields ps }
    exact k a _ (.inl rfl) e
  | met f y =>
    have e : h.get? a = some (PySem.W.methodObj (.ref f) (.ref y)) := x
    show h'.get? a = some (PySem.W.methodObj (.ref f) (.ref y))
    exact k a _ (.inl rfl) e
  | ext φ => obtain ⟨p, ⟨o, e⟩, st⟩ := x; exact ⟨st _ _ p fun o q => k _ _ (.inl rfl) q, ⟨o, k _ _ (.inl rfl) e⟩, st⟩
theorem HOk.lt (x : HOk P w H h) (e : H a = some o) : a < h.objs.size := (x a o e).lt
theorem HOk.fresh (x : HOk P w H h) (e : h.objs.size ≤ a) : H a = none := by
  cases q : H a with
  | none => rfl
  | some u => exact absurd (Nat.lt_of_lt_of_le (x.lt q) e) (Nat.lt_irrefl _)
theorem HOk.kept (x : HOk P w H h) (k : ∀ b u, h.get? b = some u → h'.get? b = some u) : HOk P w H h' := fun a o e =>
  (x a o e).stay (fun b u _ q => k b u q) (fun _ q => q) fun _ _ q => q
theorem HOk.laid (x : HOk P w H h) (k : ∀ b u, h.get? b = some u → h'.get? b = some u) (hp : h.objs.size ≤ a) (new : ObjOk P w (upd H a o) h' a o) : HOk P w (upd H a o) h' := fun b u e => by
  have hn := x.fresh hp
  by_cases hb : b = a
  · subst hb; rw [upd_same] at e; cases e; exact new
  · rw [upd_ne hb] at e
    exact (x b u e).stay (fun c v _ q => k c v q) (fun c q => by rw [upd_ne (ne_of_none q hn)]; exact q) fun c xs q => by rw [upd_ne (ne_of_none q hn)]; exact q
end
def Rd (H : Hp) (a : Addr) (u : HO) : Prop := H a = some u ∨ ∃ o, H a = some (.frz o u)
theorem Rd.ok {P : Program} {w : World} {H : Hp} {h : Heap} {a : Addr} {u : HO} (r : Rd H a u) (x : HOk P w H h) : ObjOk P w H h a u := by
  rcases r with r | ⟨o, r⟩
  · exact x a u r
  · obtain ⟨_, q⟩ := x a _ r
    exact q
def Mut : Option HO → Prop
  | some (.lst _) => True
  | some (.dK _) => True
  | some (.dT _) => True
  | some (.set _ _) => True
  | some (.ins _ _ _) => True
  | some (.ext _) => True
  | _ => False
section
variable {P : Program} {w : World} {H : Hp} {h h' : Heap} {x e : Addr} {o' : HO}
theorem HOk.write (ok : HOk P w H h) (mu : Mut (H x)) (he : e = x ∨ H e = some (.own x)) (k : ∀ b u, b ≠ e → h.get? b = some u → h'.get? b = some u) (heo : ∃ u, h'.get? e = some u)
    (new : ObjOk P w (upd H x o') h' x o') : HOk P w (upd H x o') h' := fun b u q => by
  have nown : ∀ c y, H c = some (.own y) → c ≠ x := fun c y r z => by subst z; rw [r] at mu; exact mu
  have ntup : ∀ c xs, H c = some (.tup xs) → c ≠ x := fun c xs r z => by subst z; rw [r] at mu; exact mu
  by_cases hb : b = x
  · subst hb; rw [upd_same] at q; cases q; exact new
  · rw [upd_ne hb] at q
    by_cases hbe : b = e
    · have q' : H b = some (.own x) := by
        rcases he with z | z
        · exact absurd (hbe.trans z) hb
        · rw [hbe]; exact z
      rw [q] at q'; cases q'
      obtain ⟨v, hv⟩ := heo
      exact ⟨v, by rw [hbe]; exact hv⟩
    · refine (ok b u q).stay (fun c v hc r => k c v ?_ r) (fun c r => by rw [upd_ne (nown c b r)]; exact r) fun c xs r => by rw [upd_ne (ntup c xs r)]; exact r
      rcases hc with rfl | hc
      · exact hbe
      · rintro rfl
        rcases he with z | z
        · exact nown c b hc z
        · rw [hc] at z; cases z; exact hb rfl
end
structure Un (fs ex : List Addr) (H H' : Hp) (h h' : Heap) : Prop where
  keep : ∀ b o, h.get? b = some o → H b = none → b ∉ fs → b ∉ ex → h'.get? b = some o
  slot : ∀ b o, h.get? b = some o → H b = none → b ∈ fs → b ∉ ex → ∃ sl, h'.get? b = some { o with slots := sl }
  free : ∀ b o, h.get? b = some o → H b = none → b ∉ ex → H' b = none
  there : ∀ b o, h.get? b = some o → b ∉ ex → ∃ o', h'.get? b = some o'
  tups : ∀ b xs, H b = some (.tup xs) → H' b = some (.tup xs)
  frzs : ∀ b o u, H b = some (.frz o u) → H' b = some (.frz o u)
  tbls : ∀ b ps, H b = some (.tbl ps) → ∃ more, H' b = some (.tbl (ps ++ more))
section
variable {fs fs' ex ex' : List Addr} {H H1 H2 : Hp} {h h1 h2 h' : Heap} {a x e : Addr} {o : HO}
theorem Un.any (u : Un fs ex H H1 h h1) {b : Addr} {ob : Obj} (q : h.get? b = some ob) (n : H b = none) (hx : b ∉ ex) : ∃ sl, h1.get? b = some { ob with slots := sl } := by
  by_cases hb : b ∈ fs
  · exact u.slot b ob q n hb hx
  · exact ⟨ob.slots, u.keep b ob q n hb hx⟩
theorem Un.kept (k : ∀ b u, h.get? b = some u → h'.get? b = some u) : Un fs ex H H h h' :=
  ⟨fun b ob q _ _ _ => k b ob q, fun b ob q _ _ _ => ⟨ob.slots, k b ob q⟩, fun _ _ _ n _ => n, fun b ob q _ => ⟨ob, k b ob q⟩, fun _ _ q => q, fun _ _ _ q => q, fun _ ps q => ⟨#[], by rw [q]; simp⟩⟩
theorem Un.refl : Un fs ex H H h h := Un.kept fun _ _ q => q
theorem Un.laid (k : ∀ b u, h.get? b = some u → h'.get? b = some u) (hp : h.objs.size ≤ a) (hn : H a = none) : Un fs ex H (upd H a o) h h' where
  keep := fun b u q _ _ _ => k b u q
  slot := fun b u q _ _ _ => ⟨u.slots, k b u q⟩
  free := fun b u q n _ => by rw [upd_ne (Nat.ne_of_lt (Nat.lt_of_lt_of_le (Heap.lt_size q) hp))]; exact n
  there := fun b u q _ => ⟨u, k b u q⟩
  tups := fun b xs q => by rw [upd_ne (ne_of_none q hn)]; exact q
  frzs := fun b u xs q => by rw [upd_ne (ne_of_none q hn)]; exact q
  tbls := fun b ps q => ⟨#[], by rw [upd_ne (ne_of_none q hn), q]; simp⟩
theorem Un.write (mu : Mut (H x)) (he : e = x ∨ H e = some (.own x)) (k : ∀ b u, b ≠ e → h.get? b = some u → h'.get? b = some u) (heo : ∃ u, h'.get? e = some u) : Un fs ex H (upd H x o) h h' := by
  have hx : ∀ b, H b = none → b ≠ x := fun b n z => by subst z; rw [n] at mu; exact mu
  have hb : ∀ b, H b = none → b ≠ e := fun b n z => by
    subst z
    rcases he with r | r
    · exact hx b n r
    · rw [n] at r; cases r
  have hm : ∀ b u, H b = some u → ¬ Mut (some u) → b ≠ x := fun b u q nm z => by subst z; rw [q] at mu; exact nm mu
  refine ⟨fun b u q n _ _ => k b u (hb b n) q, fun b u q n _ _ => ⟨u.slots, k b u (hb b n) q⟩, fun b u q n _ => by rw [upd_ne (hx b n)]; exact n, fun b u q _ => ?_,
    fun b xs q => by rw [upd_ne (hm b _ q fun z => z)]; exact q, fun b u xs q => by rw [upd_ne (hm b _ q fun z => z)]; exact q, fun b ps q => ⟨#[], by rw [upd_ne (hm b _ q fun z => z), q]; simp⟩⟩
  by_cases hbe : b = e
  · subst hbe; exact heo
  · exact ⟨u, k b u hbe q⟩
end
def trk (h : Heap) (H : Hp) : List Addr := (List.range h.objs.size).filter fun a => (H a).isSome
def hidT (h : Heap) (H : Hp) : Heap := PySem.W.hideAll h (trk h H)
theorem hidT_size (h : Heap) (H : Hp) : (hidT h H).objs.size = h.objs.size := PySem.W.hideAll_size _ _
theorem hidT_get {h : Heap} {H : Hp} {b : Addr} {o : Obj} (e : h.get? b = some o) (n : H b = none) : (hidT h H).get? b = some o :=
  PySem.W.hideAll_get _ e fun hm => by
    have q : (H b).isSome = true := (List.mem_filter.mp hm).2
    rw [n] at q; simp at q
theorem of_hidT {h : Heap} {H : Hp} {b : Addr} {o : Obj} (e : (hidT h H).get? b = some o) : h.get? b = some o ∧ H b = none := by
  have e' : h.get? b = some o := PySem.W.of_hideAll (trk h H) e
  refine ⟨e', ?_⟩
  cases q : H b with
  | none => rfl
  | some x =>
    have hm : b ∈ trk h H := List.mem_filter.mpr ⟨List.mem_range.mpr (Heap.lt_size e'), by simp [q]⟩
    have z : (hidT h H).get? b = none := PySem.W.hideAll_none (trk h H) hm
    rw [z] at e; cases e
def allNews (g h : Heap) (L : Addr) : List (Addr × Obj) := (List.range h.objs.size).filterMap fun a => if a = L ∨ (g.get? a).isSome = true then none else (h.get? a).map fun o => (a, o)
def rest (g h : Heap) (L d : Addr) : List (Addr × Obj) := (allNews g h L).filter fun p => decide (p.1 ≠ d)
end L2
namespace L2
open PySem PySem.Spec PyProof.Rows
structure Mod (K : PySem.W.Frag) (mg : Str → Option Value) (base : Heap) : Prop where
  kin : K.In base
  glob : base.Ns mainGlobals mg
  blt : ∃ mb, base.Ns builtinsNs mb ∧ ∀ x : Str, x ≠ "__name__" → mb x = bootBuiltins x
  nolimit : base.NoLimit
structure Cx where
  prog : Program
  w : World
  K : PySem.W.Frag
  mg : Str → Option Value
  base : Heap
  A : Around
  N : List Str
  s₀ : Shared
  H₀ : Hp
  env : Env
  outer : List Env
  stack : List Env
  ex : List Addr
  fn : Str → Bool
  calm : Bool
  pn : List (Addr × Obj)
  xe : Value → Shared → Prop
def frs (l : List Env) : List Addr := l.filterMap (·.frame)
abbrev Cx.fs (X : Cx) : List Addr := frs X.outer
def Vis (sc : Scope) (x : Str) : Prop := sc.names.lookup x = some .local ∨ sc.names.lookup x = some .cell ∨ sc.names.lookup x = some .free
def Loc (sc : Scope) (x : Str) : Prop := sc.names.lookup x = some .local ∨ sc.names.lookup x = some .cell
def Look (env : Env) (h : Heap) (m : Str → Option Value) (x : Str) (u : Value) : Prop :=
  (env.kindOf x = some .local ∧ m x = some u) ∨ ((env.kindOf x = some .cell ∨ env.kindOf x = some .free) ∧ ∃ c, env.cells.lookup x = some c ∧ h.IsCell c (some u))
structure Cx.Ok (X : Cx) : Prop where
  mod : Mod X.K X.mg X.base
  kind : X.env.scope.kind = .function
  glob : X.env.globals = mainGlobals
  blt : X.env.builtins = builtinsNs
  above : X.s₀.heap.objs.size ≤ X.env.locals
  inj : ∀ x y c, X.env.cells.lookup x = some c → X.env.cells.lookup y = some c → x = y
  has : ∀ x, (X.env.kindOf x = some .cell ∨ X.env.kindOf x = some .free) → ∃ c, X.env.cells.lookup x = some c
  cab : ∀ x c, X.fn x = true → X.env.cells.lookup x = some c → X.s₀.heap.objs.size ≤ c
  hd : X.calm = true → X.A.handled = none
  frames : X.A.frames = some X.stack
  stk : X.stack = X.outer ∨ (X.stack = X.env :: X.outer ∧ X.env.frame = some X.env.locals)
  exf : ∀ b ∈ X.ex, b ≠ X.env.locals ∧ ∀ x c, X.env.cells.lookup x = some c → c ≠ b
  bs : ∀ b o, X.base.get? b = some o → X.s₀.heap.get? b = some o ∧ X.H₀ b = none
  bsz : X.base.objs.size ≤ X.s₀.heap.objs.size
  noex : ∀ b o, X.base.get? b = some o → b ∉ X.ex
  exfs : ∀ b ∈ X.ex, b ∉ X.fs
  funs : X.s₀.heap.FunFrames X.base X.outer
  frf : ∀ b ∈ X.fs, X.H₀ b = none
structure Inv (X : Cx) (pins : List (Addr × Obj)) (σ : List (Option V)) (H : Hp) (s : Shared) : Prop where
  ok : X.Ok
  os : s.os = X.s₀.os
  bare : AllBare s.gens
  base : Un X.fs X.ex X.H₀ H X.s₀.heap s.heap
  loc : ∃ m, s.heap.Ns X.env.locals m ∧ ∀ (i : Nat) (x : Str) (v : V), X.N[i]? = some x → σ[i]? = some (some v) → Vis X.env.scope x → ∃ u, RelV v u ∧ Look X.env s.heap m x u
  cell : ∀ x c, X.env.cells.lookup x = some c → ∃ v, s.heap.IsCell c v
  free : H X.env.locals = none
  freeC : ∀ x c, X.env.cells.lookup x = some c → H c = none
  pin : ∀ p ∈ X.pn ++ pins, s.heap.get? p.1 = some p.2 ∧ H p.1 = none ∧ p.1 ≠ X.env.locals ∧ p.1 ∉ X.fs ∧ ∀ v, p.2.data ≠ .cell v
  hok : HOk X.prog X.w H s.heap
  len : σ.length = X.N.length
section
variable {X : Cx} {pins : List (Addr × Obj)} {σ : List (Option V)} {H H' : Hp} {s : Shared} {h' : Heap}
theorem Cx.Ok.nofr (ok : X.Ok) {b : Addr} {o : Obj} (e : X.base.get? b = some o) : b ∉ X.fs := fun hb => by
  have := (ok.funs.mem hb).1
  rw [e] at this; cases this
theorem Inv.bs (I : Inv X pins σ H s) : ∀ b o, X.base.get? b = some o → s.heap.get? b = some o ∧ H b = none := fun b o e =>
  ⟨I.base.keep b o (I.ok.bs b o e).1 (I.ok.bs b o e).2 (I.ok.nofr e) (I.ok.noex b o e), I.base.free b o (I.ok.bs b o e).1 (I.ok.bs b o e).2 (I.ok.noex b o e)⟩
theorem Inv.bk (I : Inv X pins σ H s) : ∀ b o, X.base.get? b = some o → s.heap.get? b = some o := fun b o e => (I.bs b o e).1
theorem Inv.mod (I : Inv X pins σ H s) : Mod X.K X.mg X.base := I.ok.mod
theorem Inv.kIn (I : Inv X pins σ H s) : X.K.In s.heap := I.ok.mod.kin.keeps I.bk
theorem Inv.lt (I : Inv X pins σ H s) : X.env.locals < s.heap.objs.size := let ⟨_, hn, _⟩ := I.loc; hn.lt
theorem Inv.sz (I : Inv X pins σ H s) : X.s₀.heap.objs.size ≤ s.heap.objs.size := Nat.le_trans I.ok.above (Nat.le_of_lt I.lt)
theorem Inv.nofs (I : Inv X pins σ H s) {a : Addr} (h : s.heap.objs.size ≤ a) : a ∉ X.fs := fun hb => by
  obtain ⟨_, o, ho, _⟩ := I.ok.funs.mem hb
  exact absurd (Nat.lt_of_lt_of_le (Heap.lt_size ho) (Nat.le_trans I.sz h)) (Nat.lt_irrefl _)
theorem Inv.cne (I : Inv X pins σ H s) : ∀ x c, X.env.cells.lookup x = some c → c ≠ X.env.locals := fun x c e z => by
  obtain ⟨v, o, ho, hd⟩ := I.cell x c e
  obtain ⟨m, ⟨o', es, ep, ho', hd', _⟩, _⟩ := I.loc
  rw [z, ho'] at ho; cases ho; rw [hd'] at hd; cases hd
theorem Inv.funs (I : Inv X pins σ H s) : s.heap.FunFrames X.base X.outer := by
  have all : ∀ (l : List Env), (∀ b ∈ frs l, b ∈ X.fs) → X.s₀.heap.FunFrames X.base l → s.heap.FunFrames X.base l := by
    intro l
    induction l with
    | nil => intro _ _; trivial
    | cons env r ih =>
      intro hs hl
      obtain ⟨hk, ⟨L, o, hf, hn, ho, hd⟩, hr⟩ := hl
      have hL : L ∈ X.fs := hs L (by unfold frs; rw [List.filterMap_cons, hf]; exact List.mem_cons_self)
      obtain ⟨sl, e⟩ := I.base.slot L o ho (I.ok.frf L hL) hL fun z => I.ok.exfs L z hL
      exact ⟨hk, ⟨L, _, hf, hn, e, hd⟩, ih (fun b hb => hs b (by unfold frs; rw [List.filterMap_cons, hf]; exact List.mem_cons_of_mem _ hb)) hr⟩
  exact all X.outer (fun _ hb => hb) I.ok.funs
theorem Inv.stack (I : Inv X pins σ H s) : s.heap.FunFrames X.base X.stack := by
  rcases I.ok.stk with e | ⟨e, hf⟩
  · rw [e]; exact I.funs
  · rw [e]
    obtain ⟨m, hn, _⟩ := I.loc
    refine .cons (by rw [I.ok.kind]; decide) hf hn ?_ I.funs
    exact Heap.get?_none_of_le (Nat.le_trans I.ok.bsz I.ok.above)
theorem Inv.stkSub (I : Inv X pins σ H s) : ∀ b ∈ frs X.stack, b ∈ X.env.locals :: X.fs := fun b hb => by
  rcases I.ok.stk with e | ⟨e, hf⟩
  · rw [e] at hb; exact List.mem_cons_of_mem _ hb
  · rw [e] at hb
    unfold frs at hb
    rw [List.filterMap_cons, hf] at hb
    exact hb
theorem Inv.stkFree (I : Inv X pins σ H s) : ∀ b ∈ frs X.stack, H b = none := fun b hb => by
  rcases List.mem_cons.mp (I.stkSub b hb) with e | hb
  · rw [e]; exact I.free
  · obtain ⟨_, o, ho, _⟩ := I.ok.funs.mem hb
    exact I.base.free b o ho (I.ok.frf b hb) fun z => I.ok.exfs b z hb
theorem Inv.step {g' : Array GenState} {t' : Nat} {d' : Drawn} {ch : List Addr} (I : Inv X pins σ H s)
    (hch : ∀ b ∈ ch, (b ∈ X.ex ∨ X.s₀.heap.objs.size ≤ b) ∧ b ≠ X.env.locals ∧ (∀ x c, X.env.cells.lookup x = some c → c ≠ b) ∧ ∀ p ∈ X.pn ++ pins, p.1 ≠ b)
    (keep : ∀ b o, b ≠ X.env.locals → b ∉ X.fs → b ∉ ch → s.heap.get? b = some o → H b = none → h'.get? b = some o)
    (slot : ∀ b o, b ≠ X.env.locals → b ∈ X.fs → b ∉ ch → s.heap.get? b = some o → H b = none → ∃ sl, h'.get? b = some { o with slots := sl }) (free : ∀ b o, b ∉ ch → s.heap.get? b = some o → H b = none → H' b = none)
    (there : ∀ b o, b ∉ ch → s.heap.get? b = some o → ∃ o', h'.get? b = some o')
    (tups : ∀ b xs, H b = some (.tup xs) → H' b = some (.tup xs)) (frzs : ∀ b o u, H b = some (.frz o u) → H' b = some (.frz o u)) (tbls : ∀ b ps, H b = some (.tbl ps) → ∃ more, H' b = some (.tbl (ps ++ more)))
    (ns : ∀ m, s.heap.Ns X.env.locals m → h'.Ns X.env.locals m) (hok : HOk X.prog X.w H' h') (hg : AllBare g') :
    Inv X pins σ H' { s with heap := h', gens := g', drawn := d', toks := t' } := by
  have neL : ∀ b o, X.s₀.heap.get? b = some o → b ≠ X.env.locals := fun b o e => Nat.ne_of_lt (Nat.lt_of_lt_of_le (Heap.lt_size e) I.ok.above)
  have neC : ∀ b o, X.s₀.heap.get? b = some o → b ∉ X.ex → b ∉ ch := fun b o e hx hb => by
    rcases (hch b hb).1 with z | z
    · exact hx z
    · exact absurd (Nat.lt_of_lt_of_le (Heap.lt_size e) z) (Nat.lt_irrefl _)
  have cellK : ∀ x c, X.env.cells.lookup x = some c → ∀ v, s.heap.IsCell c v → h'.IsCell c v := fun x c e v ⟨o, ho, hd⟩ => by
    have nch : c ∉ ch := fun z => (hch c z).2.2.1 x c e rfl
    by_cases hc : c ∈ X.fs
    · obtain ⟨sl, q⟩ := slot c o (I.cne x c e) hc nch ho (I.freeC x c e)
      exact ⟨_, q, hd⟩
    · exact ⟨o, keep c o (I.cne x c e) hc nch ho (I.freeC x c e), hd⟩
  refine ⟨I.ok, I.os, hg, ⟨fun b o e n hb hx => ?_, fun b o e n hb hx => ?_, fun b o e n hx => ?_, fun b o e hx => ?_, fun b xs e => tups b xs (I.base.tups b xs e), fun b o xs e => frzs b o xs (I.base.frzs b o xs e), fun b ps e => ?_⟩, ?_, fun x c e => ?_, ?_, fun x c e => ?_, fun p hp => ?_, hok, I.len⟩
  · exact keep b o (neL b o e) hb (neC b o e hx) (I.base.keep b o e n hb hx) (I.base.free b o e n hx)
  · obtain ⟨sl, e1⟩ := I.base.slot b o e n hb hx
    obtain ⟨sl', e2⟩ := slot b _ (neL b o e) hb (neC b o e hx) e1 (I.base.free b o e n hx)
    exact ⟨sl', e2⟩
  · obtain ⟨o', e1⟩ := I.base.there b o e hx
    exact free b o' (neC b o e hx) e1 (I.base.free b o e n hx)
  · obtain ⟨o', e1⟩ := I.base.there b o e hx
    exact there b o' (neC b o e hx) e1
  · obtain ⟨m1, e1⟩ := I.base.tbls b ps e
    obtain ⟨m2, e2⟩ := tbls b _ e1
    exact ⟨m1 ++ m2, by rw [e2, Array.append_assoc]⟩
  · obtain ⟨m, hn, hl⟩ := I.loc
    refine ⟨m, ns m hn, fun i x v e1 e2 e3 => ?_⟩
    obtain ⟨u, r, l⟩ := hl i x v e1 e2 e3
    refine ⟨u, r, ?_⟩
    rcases l with l | ⟨k, c, e, z⟩
    · exact .inl l
    · exact .inr ⟨k, c, e, cellK x c e _ z⟩
  · obtain ⟨v, z⟩ := I.cell x c e
    exact ⟨v, cellK x c e v z⟩
  · obtain ⟨m, ⟨o, _, _, ho, _⟩, _⟩ := I.loc
    exact free _ o (fun z => (hch _ z).2.1 rfl) ho I.free
  · obtain ⟨v, o, ho, hd⟩ := I.cell x c e
    exact free c o (fun z => (hch c z).2.2.1 x c e rfl) ho (I.freeC x c e)
  · obtain ⟨e, n, ne, nf, d⟩ := I.pin p hp
    have nch : p.1 ∉ ch := fun z => (hch p.1 z).2.2.2 p hp rfl
    exact ⟨keep p.1 p.2 ne nf nch e n, free p.1 p.2 nch e n, ne, nf, d⟩
theorem Inv.un {t' : Nat} (I : Inv X pins σ H s) (u : Un X.fs [] H H' s.heap h') (hok : HOk X.prog X.w H' h') : Inv X pins σ H' { s with heap := h', toks := t' } := by
  obtain ⟨m, ⟨o, es, ep, ho, r⟩, _⟩ := id I.loc
  obtain ⟨sl, hL⟩ := u.any ho I.free (by simp)
  exact I.step (g' := s.gens) (d' := s.drawn) (ch := []) (fun _ z => nomatch z) (fun b o _ hb _ e n => u.keep b o e n hb (by simp)) (fun b o _ hb _ e n => u.slot b o e n hb (by simp)) (fun b o _ e n => u.free b o e n (by simp)) (fun b o _ e => u.there b o e (by simp)) u.tups u.frzs u.tbls (fun m' hm => by
    obtain ⟨o', es', ep', ho', r'⟩ := hm
    rw [ho] at ho'; cases ho'
    exact ⟨_, es', ep', hL, r'⟩) hok I.bare
theorem Inv.call {g' : Array GenState} {t' : Nat} {d' : Drawn} {ch : List Addr} (I : Inv X pins σ H s) (u : Un (frs X.stack) ch H H' s.heap h') (hok : HOk X.prog X.w H' h') (hg : AllBare g')
    (hch : ∀ b ∈ ch, (b ∈ X.ex ∨ X.s₀.heap.objs.size ≤ b) ∧ b ≠ X.env.locals ∧ (∀ x c, X.env.cells.lookup x = some c → c ≠ b) ∧ ∀ p ∈ X.pn ++ pins, p.1 ≠ b) :
    Inv X pins σ H' { s with heap := h', gens := g', drawn := d', toks := t' } := by
  obtain ⟨m, ⟨o, es, ep, ho, r⟩, _⟩ := id I.loc
  obtain ⟨sl, hL⟩ := u.any ho I.free fun z => (hch _ z).2.1 rfl
  exact I.step (ch := ch) hch (fun b o hL hb hc e n => u.keep b o e n (fun z => (List.mem_cons.mp (I.stkSub b z)).elim hL hb) hc) (fun b o _ _ hc e n => u.any e n hc) (fun b o hc e n => u.free b o e n hc) (fun b o hc e => u.there b o e hc) u.tups u.frzs u.tbls (fun m' hm => by
    obtain ⟨o', es', ep', ho', r'⟩ := hm
    rw [ho] at ho'; cases ho'
    exact ⟨_, es', ep', hL, r'⟩) hok hg
theorem Inv.turned {t' : Nat} {it : Addr} (I : Inv X pins σ H s) (k : ∀ b o, b ≠ it → s.heap.get? b = some o → h'.get? b = some o) (hn : H it = none) (hL : it ≠ X.env.locals)
    (h1 : it ∈ X.ex ∨ X.s₀.heap.objs.size ≤ it) (h2 : ∀ x c, X.env.cells.lookup x = some c → c ≠ it) (h3 : ∀ p ∈ X.pn ++ pins, p.1 ≠ it) : Inv X pins σ H { s with heap := h', toks := t' } := by
  have nit : ∀ b u, H b = some u → b ≠ it := fun b u e z => by rw [z, hn] at e; cases e
  refine I.step (g' := s.gens) (d' := s.drawn) (ch := [it]) (fun b hb => ?_) (fun b o _ _ hc e _ => k b o (fun z => hc (by simp [z])) e) (fun b o _ _ hc e _ => ⟨o.slots, k b o (fun z => hc (by simp [z])) e⟩) (fun _ _ _ _ n => n)
    (fun b o hc e => ⟨o, k b o (fun z => hc (by simp [z])) e⟩) (fun _ _ e => e) (fun _ _ _ e => e) (fun b ps e => ⟨#[], by rw [e]; simp⟩) (fun m hm => ?_) (fun b u e => ?_) I.bare
  · have e : b = it := by simpa using hb
    subst e
    exact ⟨h1, hL, h2, h3⟩
  · obtain ⟨o, es, ep, ho, r⟩ := hm
    exact ⟨o, es, ep, k _ o (Ne.symm hL) ho, r⟩
  · refine (I.hok b u e).stay (fun c v hc q => k c v ?_ q) (fun _ q => q) fun _ _ q => q
    rcases hc with z | z
    · rw [z]; exact nit b u e
    · exact nit c _ z
theorem Inv.tok (I : Inv X pins σ H s) (t : Nat) : Inv X pins σ H { s with toks := t } := I.un (h' := s.heap) (t' := t) Un.refl I.hok
theorem Inv.kept {t' : Nat} (I : Inv X pins σ H s) (k : ∀ b u, s.heap.get? b = some u → h'.get? b = some u) : Inv X pins σ H { s with heap := h', toks := t' } := I.un (Un.kept k) (I.hok.kept k)
theorem Inv.laid {a : Addr} {o : HO} {t' : Nat} (I : Inv X pins σ H s) (k : ∀ b u, s.heap.get? b = some u → h'.get? b = some u) (hp : s.heap.objs.size ≤ a) (new : ObjOk X.prog X.w (upd H a o) h' a o) :
    Inv X pins σ (upd H a o) { s with heap := h', toks := t' } := I.un (Un.laid k hp (I.hok.fresh hp)) (I.hok.laid k hp new)
theorem Inv.write {x e : Addr} {o : HO} {t' : Nat} (I : Inv X pins σ H s) (mu : Mut (H x)) (he : e = x ∨ H e = some (.own x)) (k : ∀ b u, b ≠ e → s.heap.get? b = some u → h'.get? b = some u) (heo : ∃ u, h'.get? e = some u)
    (new : ObjOk X.prog X.w (upd H x o) h' x o) : Inv X pins σ (upd H x o) { s with heap := h', toks := t' } := I.un (Un.write mu he k heo) (I.hok.write mu he k heo new)
theorem Inv.pins_of {pins' : List (Addr × Obj)} (I : Inv X pins σ H s) (h : ∀ p ∈ pins', s.heap.get? p.1 = some p.2 ∧ H p.1 = none ∧ p.1 ≠ X.env.locals ∧ p.1 ∉ X.fs ∧ ∀ v, p.2.data ≠ .cell v) : Inv X pins' σ H s :=
  ⟨I.ok, I.os, I.bare, I.base, I.loc, I.cell, I.free, I.freeC, fun p hp => (List.mem_append.mp hp).elim (fun z => I.pin p (List.mem_append_left _ z)) (h p), I.hok, I.len⟩
theorem nodup_ix {N : List Str} (hN : N.Nodup) {i j : Nat} {x : Str} (a : N[i]? = some x) (b : N[j]? = some x) : i = j := by
  obtain ⟨h1, e1⟩ := List.getElem?_eq_some_iff.mp a
  obtain ⟨h2, e2⟩ := List.getElem?_eq_some_iff.mp b
  exact (List.getElem_inj hN).mp (e1.trans e2.symm)
theorem store_ok2 {M : Model} {A : Around} {E : Value → Shared → Prop} {i : Nat} {x : Str} {v : V} {u : Value} {Q : Unit → Shared → Prop} (I : Inv X pins σ H s) (hN : X.N.Nodup) (hi : X.N[i]? = some x) (hx : Loc X.env.scope x) (r : RelV v u)
    (h : ∀ s', Inv X pins (σ.set i (some v)) H s' → (∃ a, Heap.SameBut a s.heap s'.heap ∧ (a = X.env.locals ∨ X.env.cells.lookup x = some a)) → Q () s') (hf : X.fn x = true ∨ X.env.scope.names.lookup x = some .local := by first | exact .inl rfl | exact .inr rfl | assumption) : wpAny M A (storeName X.env x u) Q E s := by
  obtain ⟨m, hn, hl⟩ := id I.loc
  have hcls : (X.env.scope.kind == .class || (X.env.scope.kind == .module && X.env.locals != X.env.globals)) = false := by rw [I.ok.kind]; rfl
  have hiσ : i < σ.length := by rw [I.len]; exact (List.getElem?_eq_some_iff.mp hi).1
  have cne := I.cne
  have tracked : ∀ {a : Addr} {h' : Heap}, (∃ o, s.heap.get? a = some o ∧ H a = none) → Heap.SameBut a s.heap h' → HOk X.prog X.w H h' := fun {a h'} ha hs b ob e => by
    obtain ⟨_, _, hfree⟩ := ha
    refine (I.hok b ob e).stay (fun c w' hc q => (hs.2 c ?_).trans q) (fun _ q => q) fun _ _ q => q
    rintro rfl
    rcases hc with rfl | hc
    · rw [hfree] at e; cases e
    · rw [hfree] at hc; cases hc
  rcases hx with hk | hk
  · refine wpAny_storeName_local hk hn (fun h' hn' hs => ?_) hcls
    obtain ⟨oL, _, _, hoL, _⟩ := id hn
    refine h _ ⟨I.ok, I.os, I.bare, ⟨fun b o e n hb hx => ?_, fun b o e n hb hx => ?_, I.base.free, fun b o e hx => ?_, I.base.tups, I.base.frzs, I.base.tbls⟩, ⟨_, hn', fun j y v' e1 e2 e3 => ?_⟩, fun y c e => ?_, I.free, I.freeC, fun p hp => ?_, tracked ⟨oL, hoL, I.free⟩ hs, by simpa using I.len⟩ ⟨_, hs, .inl rfl⟩
    · exact (hs.2 b (Nat.ne_of_lt (Nat.lt_of_lt_of_le (Heap.lt_size e) I.ok.above))).trans (I.base.keep b o e n hb hx)
    · obtain ⟨sl, e1⟩ := I.base.slot b o e n hb hx
      exact ⟨sl, (hs.2 b (Nat.ne_of_lt (Nat.lt_of_lt_of_le (Heap.lt_size e) I.ok.above))).trans e1⟩
    · obtain ⟨o', e1⟩ := I.base.there b o e hx
      exact ⟨o', (hs.2 b (Nat.ne_of_lt (Nat.lt_of_lt_of_le (Heap.lt_size e) I.ok.above))).trans e1⟩
    · by_cases hj : j = i
      · subst hj
        rw [hi] at e1; cases e1
        rw [List.getElem?_set_self hiσ] at e2
        cases e2
        exact ⟨u, r, .inl ⟨hk, by simp⟩⟩
      · rw [List.getElem?_set_ne (Ne.symm hj)] at e2
        obtain ⟨u', r', q⟩ := hl j y v' e1 e2 e3
        refine ⟨u', r', ?_⟩
        rcases q with ⟨k, e⟩ | ⟨k, c, e, z⟩
        · refine .inl ⟨k, ?_⟩
          have : y ≠ x := fun e => hj (nodup_ix hN e1 (e ▸ hi))
          simp [this, e]
        · exact .inr ⟨k, c, e, z.sameBut hs (cne y c e)⟩
    · obtain ⟨w', z⟩ := I.cell y c e
      exact ⟨w', z.sameBut hs (cne y c e)⟩
    · obtain ⟨e, n, ne, nf, d⟩ := I.pin p hp
      exact ⟨(hs.2 p.1 ne).trans e, n, ne, nf, d⟩
  · have hfn : X.fn x = true := by
      rcases hf with z | z
      · exact z
      · rw [z] at hk; cases hk
    obtain ⟨c, hc⟩ := I.ok.has x (.inl hk)
    obtain ⟨w', z⟩ := I.cell x c hc
    refine wpAny_storeName_cell I.ok.kind hk hc z (fun h' hc' hs => ?_)
    obtain ⟨oc, hoc, hocd⟩ := id z
    refine h { s with heap := h' } ⟨I.ok, I.os, I.bare, ⟨fun b o e n hb hx => ?_, fun b o e n hb hx => ?_, I.base.free, fun b o e hx => ?_, I.base.tups, I.base.frzs, I.base.tbls⟩, ⟨m, hn.sameBut hs (Ne.symm (cne x c hc)), fun j y v' e1 e2 e3 => ?_⟩, fun y c' e => ?_, I.free, I.freeC, fun p hp => ?_, tracked ⟨oc, hoc, I.freeC x c hc⟩ hs, by simpa using I.len⟩ ⟨c, hs, .inr hc⟩
    · exact (hs.2 b (Nat.ne_of_lt (Nat.lt_of_lt_of_le (Heap.lt_size e) (I.ok.cab x c hfn hc)))).trans (I.base.keep b o e n hb hx)
    · obtain ⟨sl, e1⟩ := I.base.slot b o e n hb hx
      exact ⟨sl, (hs.2 b (Nat.ne_of_lt (Nat.lt_of_lt_of_le (Heap.lt_size e) (I.ok.cab x c hfn hc)))).trans e1⟩
    · obtain ⟨o', e1⟩ := I.base.there b o e hx
      exact ⟨o', (hs.2 b (Nat.ne_of_lt (Nat.lt_of_lt_of_le (Heap.lt_size e) (I.ok.cab x c hfn hc)))).trans e1⟩
    · by_cases hj : j = i
      · subst hj
        rw [hi] at e1; cases e1
        rw [List.getElem?_set_self hiσ] at e2
        cases e2
        exact ⟨u, r, .inr ⟨.inl hk, c, hc, hc'⟩⟩
      · rw [List.getElem?_set_ne (Ne.symm hj)] at e2
        obtain ⟨u', r', q⟩ := hl j y v' e1 e2 e3
        refine ⟨u', r', ?_⟩
        rcases q with q | ⟨k, c', e, z'⟩
        · exact .inl q
        · refine .inr ⟨k, c', e, z'.sameBut hs ?_⟩
          rintro rfl
          exact hj (nodup_ix hN e1 (I.ok.inj _ _ _ e hc ▸ hi))
    · by_cases hcc : c' = c
      · subst hcc; exact ⟨_, hc'⟩
      · obtain ⟨w2, z2⟩ := I.cell y c' e
        exact ⟨w2, z2.sameBut hs hcc⟩
    · obtain ⟨e, n, ne, nf, d⟩ := I.pin p hp
      refine ⟨(hs.2 p.1 ?_).trans e, n, ne, nf, d⟩
      intro q
      rw [q, hoc] at e
      have q' : oc = p.2 := Option.some.inj e
      exact d w' (by rw [← q']; exact hocd)
theorem store_ok {M : Model} {A : Around} {E : Value → Shared → Prop} {i : Nat} {x : Str} {v : V} {u : Value} {Q : Unit → Shared → Prop} (I : Inv X pins σ H s) (hN : X.N.Nodup) (hi : X.N[i]? = some x) (hx : Loc X.env.scope x) (r : RelV v u)
    (h : ∀ s', Inv X pins (σ.set i (some v)) H s' → Q () s') (hf : X.fn x = true ∨ X.env.scope.names.lookup x = some .local := by first | exact .inl rfl | exact .inr rfl | assumption) : wpAny M A (storeName X.env x u) Q E s :=
  store_ok2 I hN hi hx r (fun s' I' _ => h s' I') hf
theorem Inv.call' {s' : Shared} {ch : List Addr} (I : Inv X pins σ H s) (ho : s'.os = s.os) (u : Un (frs X.stack) ch H H' s.heap s'.heap) (hok : HOk X.prog X.w H' s'.heap) (hg : AllBare s'.gens)
    (hch : ∀ b ∈ ch, (b ∈ X.ex ∨ X.s₀.heap.objs.size ≤ b) ∧ b ≠ X.env.locals ∧ (∀ x c, X.env.cells.lookup x = some c → c ≠ b) ∧ ∀ p ∈ X.pn ++ pins, p.1 ≠ b) : Inv X pins σ H' s' := by
  obtain ⟨h', g', d', t', o'⟩ := s'
  have e : o' = s.os := ho
  subst e
  exact I.call (g' := g') (t' := t') (d' := d') u hok hg hch
end
abbrev XK := Value → Option Addr → Hp → Prop
abbrev St := List (Option V)
abbrev VK := V → Hp → Prop
abbrev TE := St → Hp → VK → Prop
abbrev TT := St → Hp → (Bool → Hp → Prop) → Prop
abbrev TA := St → Hp → (List V → Hp → Prop) → Prop
structure Ends where
  nx : St → Hp → Prop
  rt : VK
  bk : St → Hp → Prop := fun _ _ => False
  ct : St → Hp → Prop := fun _ _ => False
abbrev TS := Ends → St → Hp → Prop
def EP (X : Cx) (pins : List (Addr × Obj)) (σ : St) (Q : VK) (u : Value) (s' : Shared) : Prop := ∃ v H', Inv X pins σ H' s' ∧ RelV v u ∧ Q v H'
def TP (X : Cx) (pins : List (Addr × Obj)) (σ : St) (Q : Bool → Hp → Prop) (b : Bool) (s' : Shared) : Prop := ∃ H', Inv X pins σ H' s' ∧ Q b H'
def AP (X : Cx) (pins : List (Addr × Obj)) (σ : St) (Q : List V → Hp → Prop) (us : List Value) (s' : Shared) : Prop := ∃ vs H', Inv X pins σ H' s' ∧ Vals vs us ∧ Q vs H'
def SP (X : Cx) (pins : List (Addr × Obj)) (D : Ends) (f : Flow) (s' : Shared) : Prop :=
  match f with
  | .next => ∃ σ' H', Inv X pins σ' H' s' ∧ D.nx σ' H'
  | .brk => ∃ σ' H', Inv X pins σ' H' s' ∧ D.bk σ' H'
  | .cont => ∃ σ' H', Inv X pins σ' H' s' ∧ D.ct σ' H'
  | .ret u => ∃ v σ' H', Inv X pins σ' H' s' ∧ RelV v u ∧ D.rt v H'
def PE (X : Cx) (e : Expr) (t : TE) : Prop :=
  ∀ (pins : List (Addr × Obj)) (s : Shared) (σ : St) (H : Hp) (Q : VK), Inv X pins σ H s → t σ H Q → wpAny (model X.prog X.w) X.A (eval e X.env) (EP X pins σ Q) X.xe s
def PT (X : Cx) (e : Expr) (t : TT) : Prop :=
  ∀ (pins : List (Addr × Obj)) (s : Shared) (σ : St) (H : Hp) (Q : Bool → Hp → Prop), Inv X pins σ H s → t σ H Q → wpAny (model X.prog X.w) X.A (isTrue e X.env (eval e X.env)) (TP X pins σ Q) X.xe s
def PW (X : Cx) (e : Expr) (t : TT) : Prop :=
  ∀ (whole : Sem Value) (pins : List (Addr × Obj)) (s : Shared) (σ : St) (H : Hp) (Q : Bool → Hp → Prop), Inv X pins σ H s → t σ H Q → wpAny (model X.prog X.w) X.A (isTrue e X.env whole) (TP X pins σ Q) X.xe s
theorem PW.pt {X : Cx} {e : Expr} {t : TT} (h : PW X e t) : PT X e t := h _
def PA (X : Cx) (es : List Expr) (t : TA) : Prop :=
  ∀ (pos : Pos) (pins : List (Addr × Obj)) (s : Shared) (σ : St) (H : Hp) (Q : List V → Hp → Prop), Inv X pins σ H s → t σ H Q → wpAny (model X.prog X.w) X.A (spliced (backTo pos (starEach es X.env))) (AP X pins σ Q) X.xe s
def PS (X : Cx) (st : Stmt) (t : TS) : Prop :=
  ∀ (pins : List (Addr × Obj)) (s : Shared) (σ : St) (H : Hp) (D : Ends), Inv X pins σ H s → t D σ H → wpAny (model X.prog X.w) X.A (exec st X.env) (SP X pins D) X.xe s
def PSs (X : Cx) (st : List Stmt) (t : TS) : Prop :=
  ∀ (pins : List (Addr × Obj)) (s : Shared) (σ : St) (H : Hp) (D : Ends), Inv X pins σ H s → t D σ H → wpAny (model X.prog X.w) X.A (execs st X.env) (SP X pins D) X.xe s
theorem thn {α : Type} {t : Sem α} {Q Q' : α → Shared → Prop} {M : Model} {A : Around} {E : Value → Shared → Prop} {s : Shared} (h : wpAny M A t Q E s) (hQ : ∀ a s, Q a s → Q' a s) : wpAny M A t Q' E s := wpAny_mono h hQ fun _ _ x => x
end L2
namespace L2
open PySem PySem.Spec PyProof.Rows
section
variable {X : Cx}
theorem bin {a b : Expr} {ta tb : TE} (ha : PE X a ta) (hb : PE X b tb) {pins : List (Addr × Obj)} {s : Shared} {σ : St} {H : Hp} {R : V → V → Hp → Prop} (I : Inv X pins σ H s) (h : ta σ H fun x H1 => tb σ H1 fun y H2 => R x y H2)
    {α : Type} {Q : α → Shared → Prop} {f : Value → Value → Sem α}
    (hf : ∀ v u s2 x y H2, Inv X pins σ H2 s2 → RelV x v → RelV y u → R x y H2 → wpAny (model X.prog X.w) X.A (f v u) Q X.xe s2) :
    wpAny (model X.prog X.w) X.A (eval a X.env) (fun v s₁ => wpAny (model X.prog X.w) X.A (eval b X.env) (fun u s₂ => wpAny (model X.prog X.w) X.A (f v u) Q X.xe s₂) X.xe s₁) X.xe s := by
  refine thn (ha pins s σ H _ I h) fun v s1 ⟨x, H1, I1, r1, q1⟩ => ?_
  refine thn (hb pins s1 σ H1 _ I1 q1) fun u s2 ⟨y, H2, I2, r2, q2⟩ => ?_
  exact hf v u s2 x y H2 I2 r1 r2 q2
def tVar (i : Nat) : TE := fun σ H Q => ∃ v, σ[i]? = some (some v) ∧ Q v H
def tC (v : V) : TE := fun _ H Q => Q v H
theorem pe_var {i : Nat} {x : Str} {pos : Pos} (hN : X.N[i]? = some x) (hv : Vis X.env.scope x) (hd : (x == ("__debug__" : Str)) = false := by decide) (hcd : (x == ("__classdict__" : Str)) = false := by decide) : PE X (.Name x pos) (tVar i) := by
  intro pins s σ H Q I h
  obtain ⟨v, e, h⟩ := h
  obtain ⟨m, hn, hl⟩ := I.loc
  obtain ⟨u, r, l⟩ := hl i x v hN e hv
  have fin : EP X pins σ Q u s := ⟨v, H, I, r, h⟩
  rcases l with ⟨hk, hm⟩ | ⟨hk, c, hc, hcell⟩
  · exact wpAny_Name (wpAny_loadName_local I.ok.kind hk hn hm fin) hd
  · rcases hk with hk | hk
    · exact wpAny_Name (wpAny_loadName_cell I.ok.kind hk hc hcell fin) hd
    · exact wpAny_Name (wpAny_loadName_free I.ok.kind hk hc hcell fin hcd) hd
theorem pe_int {i j pos} : PE X (.Constant (.int i) j pos) (tC (.int i)) := fun _ _ _ H _ I h => wpAny_Constant_int ⟨.int i, H, I.tok _, ⟨_, rfl⟩, h⟩
theorem pe_bl {b j pos} : PE X (.Constant (.bool b) j pos) (tC (.bl b)) := fun _ _ _ H _ I h => Constant_bool ⟨.bl b, H, I, rfl, h⟩
theorem pe_non {j pos} : PE X (.Constant .none j pos) (tC .non) := fun _ _ _ H _ I h => Constant_none ⟨.non, H, I, rfl, h⟩
theorem pe_str {x j pos} : PE X (.Constant (.str x) j pos) (tC (.str x)) := fun _ _ _ H _ I h => Calls.Constant_str ⟨.str x, H, I.tok _, ⟨_, rfl⟩, h⟩
def Gl (X : Cx) (x : Str) : Prop := X.env.kindOf x = some .globalImplicit
theorem ld_glob {E : Value → Shared → Prop} {pins : List (Addr × Obj)} {s : Shared} {σ : St} {H : Hp} {x : Str} {u : Value} {pos : Pos} {Q : Value → Shared → Prop} (I : Inv X pins σ H s) (hg : Gl X x) (hm : X.mg x = some u) (h : Q u s)
    (hd : (x == ("__debug__" : Str)) = false := by decide) : wpAny (model X.prog X.w) X.A (eval (.Name x pos) X.env) Q E s :=
  Calls.Name_function_global I.ok.kind hg (Calls.loadGlobal_global (by rw [I.ok.glob]; exact I.mod.glob.keeps I.bk) hm h) hd
theorem ld_blt {E : Value → Shared → Prop} {pins : List (Addr × Obj)} {s : Shared} {σ : St} {H : Hp} {x : Str} {u : Value} {pos : Pos} {Q : Value → Shared → Prop} (I : Inv X pins σ H s) (hg : Gl X x) (hm : X.mg x = none) (hv : bootBuiltins x = some u) (h : Q u s)
    (hn : x ≠ "__name__" := by decide) (hd : (x == ("__debug__" : Str)) = false := by decide) : wpAny (model X.prog X.w) X.A (eval (.Name x pos) X.env) Q E s := by
  obtain ⟨mb, h1, h2⟩ := I.mod.blt
  exact Calls.Name_function_global I.ok.kind hg (Calls.loadGlobal_builtin (by rw [I.ok.glob]; exact I.mod.glob.keeps I.bk) hm (by rw [I.ok.blt]; exact h1.keeps I.bk) ((h2 x hn).trans hv) h) hd
theorem pe_glob {x : Str} {v : V} {u : Value} {pos : Pos} (hg : Gl X x) (hm : X.mg x = some u) (r : RelV v u) (hd : (x == ("__debug__" : Str)) = false := by decide) : PE X (.Name x pos) (tC v) :=
  fun _ _ _ H _ I h => ld_glob I hg hm ⟨v, H, I, r, h⟩ hd
theorem pe_bltn {x : Str} {v : V} {u : Value} {pos : Pos} (hg : Gl X x) (hm : X.mg x = none) (hv : bootBuiltins x = some u) (r : RelV v u) (hn : x ≠ "__name__" := by decide) (hd : (x == ("__debug__" : Str)) = false := by decide) : PE X (.Name x pos) (tC v) :=
  fun _ _ _ H _ I h => ld_blt I hg hm hv ⟨v, H, I, r, h⟩ hn hd
variable {a b : Expr} {ta tb : TE} {pos : Pos}
def PC (X : Cx) (op : CmpOp) (a b : Expr) (t : TE) : Prop :=
  ∀ (pins : List (Addr × Obj)) (s : Shared) (σ : St) (H : Hp) (Q : VK), Inv X pins σ H s → t σ H Q →
    wpAny (model X.prog X.w) X.A (eval a X.env) (fun v s₁ => wpAny (model X.prog X.w) X.A (eval b X.env) (fun u s₂ => wpAny (model X.prog X.w) X.A (compareOp op v u) (EP X pins σ Q) X.xe s₂) X.xe s₁) X.xe s
def tB (t : TE) : TT := fun σ H Q => t σ H fun x H1 => ∃ c, x = .bl c ∧ Q c H1
theorem pt_cmp {op : CmpOp} {t : TE} (h : PC X op a b t) (h1 : behindInMarks op b = false := by first | exact nobehind _ (by decide) (by decide) | rfl) : PT X (.Compare a [op] [b] pos) (tB t) := by
  intro pins s σ H Q I hw
  refine wpAny_isTrue_Compare1 (thn (h pins s σ H _ I hw) fun v s1 h1 => thn h1 fun u s2 h2 => thn h2 fun c s3 ⟨x, H1, I1, r1, q1⟩ => ?_) h1
  obtain ⟨d, rfl, q⟩ := q1
  cases r1
  exact wpAny_truthy_bool ⟨H1, I1, q⟩
theorem pt_val {e : Expr} {t : TE} (h : PE X e t) (he : ∀ whole, isTrue e X.env whole = (do let v ← whole; standAt e.pos; holding [v] (truthy v)) := by intro _; rfl) : PT X e (tB t) := by
  intro pins s σ H Q I hw
  refine isTrue_plain (thn (h pins s σ H _ I hw) fun v s1 ⟨x, H1, I1, r1, q1⟩ => ?_) (he _)
  obtain ⟨d, rfl, q⟩ := q1
  cases r1
  exact wpAny_truthy_bool ⟨H1, I1, q⟩
variable {tA tB' : TT} {rest : List Expr}
def tAnd (t u : TT) : TT := fun σ H Q => t σ H fun c H1 => if c = true then u σ H1 Q else Q false H1
def tNot (t : TT) : TT := fun σ H Q => t σ H fun c H1 => Q (!c) H1
theorem pw_and1 (ha : PT X a tA) : PW X (.BoolOp .And [a] pos) tA := by
  intro wh pins s σ H Q I h
  refine isTrue_and (thn (ha pins s σ H Q I h) fun c s1 e => ?_)
  cases c with
  | true => exact isTrue_and_nil e
  | false => exact e
theorem pw_and (ha : PT X a tA) (hb : PW X (.BoolOp .And (b :: rest) pos) tB') : PW X (.BoolOp .And (a :: b :: rest) pos) (tAnd tA tB') := by
  intro wh pins s σ H Q I h
  refine isTrue_and (thn (ha pins s σ H _ I h) fun c s1 ⟨H1, I1, q1⟩ => ?_)
  cases c with
  | true => exact hb wh pins s1 σ H1 Q I1 q1
  | false => exact ⟨H1, I1, q1⟩
theorem pt_not (ha : PT X a tA) : PT X (.UnaryOp .Not a pos) (tNot tA) := by
  intro pins s σ H Q I h
  exact isTrue_not (ha pins s σ H (fun c H1 => Q (!c) H1) I h)
def tAndV (ta tb : TE) : TE := fun σ H Q => ta σ H fun x H1 => ∃ c, x = .bl c ∧ if c = true then tb σ H1 Q else Q (.bl false) H1
def tNotV (ta : TE) : TE := fun σ H Q => ta σ H fun x H1 => ∃ c, x = .bl c ∧ Q (.bl (!c)) H1
theorem pe_one {op} {t : TE} (h : PE X a t) : PE X (.BoolOp op [a] pos) t := fun pins s σ H Q I hw => BoolOp_one (h pins s σ H Q I hw)
theorem pe_and (ha : PE X a ta) (hb : PE X (.BoolOp .And (b :: rest) pos) tb) : PE X (.BoolOp .And (a :: b :: rest) pos) (tAndV ta tb) := by
  intro pins s σ H Q I h
  refine BoolOp_and (thn (ha pins s σ H _ I h) fun v s1 ⟨x, H1, I1, r1, q1⟩ => ?_)
  obtain ⟨c, rfl, q1⟩ := q1
  cases r1
  refine wpAny_truthy_bool ?_
  cases c with
  | true => exact hb pins s1 σ H1 Q I1 q1
  | false => exact ⟨.bl false, H1, I1, rfl, q1⟩
theorem pe_not (ha : PE X a ta) : PE X (.UnaryOp .Not a pos) (tNotV ta) := by
  intro pins s σ H Q I h
  refine UnaryOp_ (thn (ha pins s σ H _ I h) fun v s1 ⟨x, H1, I1, r1, q1⟩ => ?_)
  obtain ⟨c, rfl, q1⟩ := q1
  cases r1
  exact not_of (wpAny_truthy_bool ⟨.bl (!c), H1, I1, rfl, q1⟩)
def tIf (t : TT) (ta tb : TE) : TE := fun σ H Q => t σ H fun c H1 => if c = true then ta σ H1 Q else tb σ H1 Q
theorem pe_ifExp {c : Expr} (hc : PT X c tA) (ha : PE X a ta) (hb : PE X b tb) : PE X (.IfExp c a b pos) (tIf tA ta tb) := by
  intro pins s σ H Q I h
  refine wpAny_IfExp (thn (hc pins s σ H _ I h) fun d s1 ⟨H1, I1, q1⟩ => ?_)
  cases d with
  | true => exact ha pins s1 σ H1 Q I1 q1
  | false => exact hb pins s1 σ H1 Q I1 q1
end
end L2
namespace L2
open PySem PySem.Spec PyProof.Rows
def SqL (K : PySem.W.Frag) (H : Hp) (a : Addr) (xs : List V) : Prop :=
  Rd H a (.lst xs) ∨
    ∃ (o : Obj) (its : Array Value) (n : Nat), K.lookup a = some o ∧ o.cls = .type "list" ∧ o.dict = none ∧ o.data = .seq its n ∧ its.size ≤ sizeLine ∧ Vals xs its.toList
def SqT (K : PySem.W.Frag) (H : Hp) (a : Addr) (xs : List V) : Prop :=
  Rd H a (.tup xs) ∨
    ∃ (o : Obj) (its : Array Value) (n : Nat), K.lookup a = some o ∧ o.cls = .type "tuple" ∧ o.data = .seq its n ∧ its.size ≤ sizeLine ∧ Vals xs its.toList
def absV : Value → Option V
  | .none => some .non
  | .bool b => some (.bl b)
  | .int i _ => some (.int i)
  | .str x _ => some (.str x)
  | .bytes b _ => some (.byt b)
  | .float b _ => some (.flt b)
  | .ref a => some (.ref a)
  | .type n => some (.ty n)
  | _ => none
theorem RelV.abs {x : V} {u : Value} (r : RelV x u) : absV u = some x := by
  cases x with
  | non => cases r; rfl
  | bl _ => cases r; rfl
  | int _ => obtain ⟨t, rfl⟩ := r; rfl
  | str _ => obtain ⟨t, rfl⟩ := r; rfl
  | byt _ => obtain ⟨t, rfl⟩ := r; rfl
  | flt _ => obtain ⟨t, rfl⟩ := r; rfl
  | ref _ => cases r; rfl
  | ty _ => cases r; rfl
theorem RelV.inj {x y : V} {u : Value} (r : RelV x u) (q : RelV y u) : x = y := Option.some.inj (r.abs.symm.trans q.abs)
theorem Vals.inj : ∀ {xs ys : List V} {us : List Value}, Vals xs us → Vals ys us → xs = ys
  | _, _, _, .nil, .nil => rfl
  | _, _, _, .cons r t, .cons r' t' => by rw [r.inj r', Vals.inj t t']
section
variable {X : Cx} {pins : List (Addr × Obj)} {σ : St} {H : Hp} {s : Shared} {a : Addr} {xs ys : List V}
theorem SqL.of {K : PySem.W.Frag} (h : H a = some (.lst xs)) : SqL K H a xs := .inl (.inl h)
theorem SqT.of {K : PySem.W.Frag} (h : H a = some (.tup xs)) : SqT K H a xs := .inl (.inl h)
theorem Inv.list (I : Inv X pins σ H s) (h : SqL X.K H a xs) : ∃ its : List Value, Vals xs its ∧ PlainL s.heap a its.toArray ∧ xs.length ≤ sizeLine := by
  rcases h with h | ⟨o, its, n, hk, hc, hd, hs, hz, r⟩
  · obtain ⟨z, its, n, r, e⟩ := h.ok I.hok
    exact ⟨its, r, ⟨_, n, e, rfl, rfl, rfl⟩, z⟩
  · refine ⟨its.toList, r, ⟨o, n, I.kIn a o hk, hc, hd, by simpa using hs⟩, ?_⟩
    have e := r.length
    simp only [Array.length_toList] at e
    omega
theorem Inv.tuple (I : Inv X pins σ H s) (h : SqT X.K H a xs) : ∃ its : List Value, Vals xs its ∧ IsTup s.heap a its.toArray ∧ xs.length ≤ sizeLine := by
  rcases h with h | ⟨o, its, n, hk, hc, hs, hz, r⟩
  · obtain ⟨z, its, r, p⟩ := h.ok I.hok
    exact ⟨its, r, p, z⟩
  · refine ⟨its.toList, r, ⟨o, I.kIn a o hk, hc, n, by simpa using hs⟩, ?_⟩
    have e := r.length
    simp only [Array.length_toList] at e
    omega
theorem Inv.list_inj (I : Inv X pins σ H s) (h : SqL X.K H a xs) (h' : SqL X.K H a ys) : xs = ys := by
  obtain ⟨its, r, ⟨o, n, e, _, _, d⟩, _⟩ := I.list h
  obtain ⟨its', r', ⟨o', n', e', _, _, d'⟩, _⟩ := I.list h'
  rw [e] at e'; cases e'
  rw [d] at d'
  injection d' with d1 _
  have : its = its' := by simpa using congrArg Array.toList d1
  subst this
  exact r.inj r'
theorem Inv.tuple_inj (I : Inv X pins σ H s) (h : SqT X.K H a xs) (h' : SqT X.K H a ys) : xs = ys := by
  obtain ⟨its, r, ⟨o, e, _, n, d⟩, _⟩ := I.tuple h
  obtain ⟨its', r', ⟨o', e', _, n', d'⟩, _⟩ := I.tuple h'
  rw [e] at e'; cases e'
  rw [d] at d'
  injection d' with d1 _
  have : its = its' := by simpa using congrArg Array.toList d1
  subst this
  exact r.inj r'
end
abbrev Cx.wish (X : Cx) (E : Value → Shared → Prop) : Cx := { X with xe := E }
abbrev Cx.nox (X : Cx) : Cx := X.wish fun _ _ => False
theorem Cx.Ok.wish {X : Cx} (ok : X.Ok) (E : Value → Shared → Prop) : (X.wish E).Ok :=
  ⟨ok.mod, ok.kind, ok.glob, ok.blt, ok.above, ok.inj, ok.has, ok.cab, ok.hd, ok.frames, ok.stk, ok.exf, ok.bs, ok.bsz, ok.noex, ok.exfs, ok.funs, ok.frf⟩
theorem Cx.Ok.unwish {X : Cx} {E : Value → Shared → Prop} (ok : (X.wish E).Ok) : X.Ok :=
  ⟨ok.mod, ok.kind, ok.glob, ok.blt, ok.above, ok.inj, ok.has, ok.cab, ok.hd, ok.frames, ok.stk, ok.exf, ok.bs, ok.bsz, ok.noex, ok.exfs, ok.funs, ok.frf⟩
section
variable {X : Cx} {pins : List (Addr × Obj)} {σ : St} {H : Hp} {s : Shared} {E : Value → Shared → Prop}
theorem Inv.wish (I : Inv X pins σ H s) (E : Value → Shared → Prop) : Inv (X.wish E) pins σ H s := ⟨I.ok.wish E, I.os, I.bare, I.base, I.loc, I.cell, I.free, I.freeC, I.pin, I.hok, I.len⟩
theorem Inv.unwish (I : Inv (X.wish E) pins σ H s) : Inv X pins σ H s := ⟨I.ok.unwish, I.os, I.bare, I.base, I.loc, I.cell, I.free, I.freeC, I.pin, I.hok, I.len⟩
theorem SP.unwish {D : Ends} {f : Flow} {s' : Shared} (h : SP (X.wish E) pins D f s') : SP X pins D f s' := by
  cases f with
  | next => obtain ⟨σ', H', I, q⟩ := h; exact ⟨σ', H', I.unwish, q⟩
  | brk => obtain ⟨σ', H', I, q⟩ := h; exact ⟨σ', H', I.unwish, q⟩
  | cont => obtain ⟨σ', H', I, q⟩ := h; exact ⟨σ', H', I.unwish, q⟩
  | ret u => obtain ⟨v, σ', H', I, r, q⟩ := h; exact ⟨v, σ', H', I.unwish, r, q⟩
theorem PSs.nox {st : List Stmt} {t : TS} (h : PSs X.nox st t) : PSs X st t := fun pins s σ H D I hw =>
  wpAny_mono (h pins s σ H D (I.wish _) hw) (fun _ _ q => q.unwish) fun _ _ z => False.elim z
end
section
variable {X : Cx} {st : Stmt} {rest : List Stmt} {t u : TS} {e : Expr} {te : TE} {pos : Pos}
def tNext : TS := fun D σ H => D.nx σ H
def tSeq (t u : TS) : TS := fun D σ H => t { D with nx := u D } σ H
theorem pss_nil : PSs X [] tNext := fun _ _ σ H _ I h => wpAny_execs_nil ⟨σ, H, I, h⟩
theorem pss_cons (h1 : PS X st t) (h2 : PSs X rest u) : PSs X (st :: rest) (tSeq t u) := by
  intro pins s σ H D I h
  refine wpAny_execs_cons (thn (h1 pins s σ H { D with nx := u D } I h) fun f s1 q => ?_)
  cases f with
  | next =>
    obtain ⟨σ', H', I', q⟩ := q
    exact h2 pins s1 σ' H' D I' q
  | ret v => exact q
  | brk => exact q
  | cont => exact q
theorem pss_one (h1 : PS X st t) : PSs X [st] t := by
  intro pins s σ H D I h
  refine wpAny_execs_cons (thn (h1 pins s σ H D I h) fun f s1 q => ?_)
  cases f with
  | next => exact wpAny_execs_nil q
  | ret v => exact q
  | brk => exact q
  | cont => exact q
theorem Inv.quiet {pins : List (Addr × Obj)} {σ : St} {H : Hp} {s : Shared} (I : Inv X pins σ H s) : interactive X.env = false := by simp [interactive, I.ok.kind]
def tDrop (te : TE) : TS := fun D σ H => te σ H fun _ H1 => D.nx σ H1
theorem ps_expr (he : PE X e te) (hs : swapsWith e none pos.line X.env = pure false := by rfl) : PS X (.Expr e pos) (tDrop te) := by
  intro pins s σ H D I h
  exact wpAny_Expr_any (thn (he pins s σ H _ I h) fun v s1 ⟨x, H1, I1, r1, q1⟩ => ⟨σ, H1, I1, q1⟩) I.quiet hs
def tRet (te : TE) : TS := fun D σ H => te σ H D.rt
theorem ps_ret (he : PE X e te) : PS X (.Return (some e) pos) (tRet te) := by
  intro pins s σ H D I h
  exact wpAny_Return_some (thn (he pins s σ H _ I h) fun v s1 ⟨x, H1, I1, r1, q1⟩ => ⟨x, σ, H1, I1, r1, q1⟩)
def tIfS (c : TT) (t u : TS) : TS := fun D σ H => c σ H fun b H1 => if b = true then t D σ H1 else u D σ H1
theorem ps_if {c : Expr} {a b : List Stmt} {tc : TT} (hc : PT X c tc) (ha : PSs X a t) (hb : PSs X b u) : PS X (.If c a b pos) (tIfS tc t u) := by
  intro pins s σ H D I h
  refine wpAny_If (thn (hc pins s σ H _ I h) fun d s1 ⟨H1, I1, q1⟩ => ?_)
  cases d with
  | true => exact ha pins s1 σ H1 D I1 q1
  | false => exact hb pins s1 σ H1 D I1 q1
def tNever : TS := fun _ _ _ => False
theorem ps_never : PS X st tNever := fun _ _ _ _ _ _ h => h.elim
end
abbrev TG := V → St → Hp → (St → Hp → Prop) → Prop
abbrev TGs := List V → St → Hp → (St → Hp → Prop) → Prop
def PG (X : Cx) (target : Expr) (t : TG) : Prop :=
  ∀ (pins : List (Addr × Obj)) (s : Shared) (σ : St) (H : Hp) (v : V) (u : Value) (Q : St → Hp → Prop), Inv X pins σ H s → RelV v u → t v σ H Q →
    wpAny (model X.prog X.w) X.A (assign target X.env u) (fun _ s' => ∃ σ' H', Inv X pins σ' H' s' ∧ Q σ' H') X.xe s
def PGs (X : Cx) (ts : List Expr) (t : TGs) : Prop :=
  ∀ (pins : List (Addr × Obj)) (s : Shared) (σ : St) (H : Hp) (vs : List V) (us : List Value) (Q : St → Hp → Prop), Inv X pins σ H s → Vals vs us → t vs σ H Q →
    wpAny (model X.prog X.w) X.A (assignInOrder ((assignEach ts X.env).map (·.2)) us) (fun _ s' => ∃ σ' H', Inv X pins σ' H' s' ∧ Q σ' H') X.xe s
section
variable {X : Cx} {pos : Pos}
def gName (i : Nat) : TG := fun v σ H Q => Q (σ.set i (some v)) H
theorem pg_name {i : Nat} {x : Str} (hN : X.N.Nodup) (hi : X.N[i]? = some x) (hx : Loc X.env.scope x) (hf : X.fn x = true ∨ X.env.scope.names.lookup x = some .local := by first | exact .inl rfl | exact .inr rfl | assumption) : PG X (.Name x pos) (gName i) := by
  intro pins s σ H v u Q I r h
  exact wpAny_assign_Name (store_ok I hN hi hx r (fun s' I' => ⟨_, H, I', h⟩) hf)
def gNil : TGs := fun vs σ H Q => vs = [] ∧ Q σ H
def gCons (t : TG) (u : TGs) : TGs := fun vs σ H Q => ∃ v r, vs = v :: r ∧ t v σ H fun σ' H' => u r σ' H' Q
theorem pgs_nil : PGs X [] gNil := by
  intro pins s σ H vs us Q I r h
  obtain ⟨e, h⟩ := h
  subst e
  cases r
  exact assignInOrder_nil ⟨σ, H, I, h⟩
theorem pgs_cons {e : Expr} {es : List Expr} {t : TG} {u : TGs} (h1 : PG X e t) (h2 : PGs X es u)
    (hs : (assignEach (e :: es) X.env).map (·.2) = assign e X.env :: (assignEach es X.env).map (·.2) := by rfl) : PGs X (e :: es) (gCons t u) := by
  intro pins s σ H vs us Q I r h
  obtain ⟨v, vr, e1, h⟩ := h
  subst e1
  cases r with
  | cons r rr =>
    rw [hs]
    refine assignInOrder_cons (thn (h1 pins s σ H _ _ _ I r h) fun _ s1 ⟨σ1, H1, I1, q1⟩ => ?_)
    exact h2 pins s1 σ1 H1 _ _ Q I1 rr q1
def gTup (K : PySem.W.Frag) (n : Nat) (t : TGs) : TG := fun v σ H Q => ∃ a xs, v = .ref a ∧ SqT K H a xs ∧ xs.length = n ∧ t xs σ H Q
theorem pg_tup {es : List Expr} {k : Nat} {t : TGs} {n : Nat} (hc : X.calm = true) (h : PGs X es t)
    (hn : (assignEach es X.env).length = n := by rfl) (hst : (assignEach es X.env).findIdx? (·.1) = none := by rfl) : PG X (.Tuple es k pos) (gTup X.K n t) := by
  intro pins s σ H v u Q I r hw
  obtain ⟨a, xs, e1, hq, hl, hw⟩ := hw
  subst e1
  cases r
  obtain ⟨its, rv, ht, hz⟩ := I.tuple hq
  refine assign_Tuple_tuple (I.ok.hd hc) ht (by simp [hn, ← hl, rv.length]) hst fun h' hx => ?_
  have I1 : Inv X pins σ H { s with heap := h' } := I.kept (t' := s.toks) fun b o e => hx b o (Nat.ne_of_lt (Heap.lt_size e)) e
  exact h pins _ σ H xs _ Q I1 (by simpa using rv) hw
def tAsg (te : TE) (g : TG) : TS := fun D σ H => te σ H fun x H1 => g x σ H1 D.nx
theorem ps_set {i : Nat} {x : Str} {e : Expr} {te : TE} {pos' : Pos} (hN : X.N.Nodup) (hi : X.N[i]? = some x) (hx : Loc X.env.scope x) (he : PE X e te) (hs : swapsWith e (some (.Name x pos')) pos.line X.env = pure false := by rfl) (hf : X.fn x = true ∨ X.env.scope.names.lookup x = some .local := by first | exact .inl rfl | exact .inr rfl | assumption) :
    PS X (.Assign [.Name x pos'] e pos) (tAsg te (gName i)) := by
  intro pins s σ H D I h
  refine wpAny_Assign_Name (thn (he pins s σ H _ I h) fun v s1 ⟨y, H1, I1, r1, q1⟩ => ?_) hs
  exact store_ok I1 hN hi hx r1 (fun s2 I2 => ⟨_, H1, I2, q1⟩) hf
end
section
variable {X : Cx} {pos : Pos}
end
structure It where
  go : Nat → Hp → Prop
  yld : Nat → Hp → V → Hp → Prop
  stop : Nat → Hp → Prop
def FpOk (X : Cx) (pins : List (Addr × Obj)) (H : Hp) (b : Addr) : Prop :=
  H b = none ∧ b ≠ X.env.locals ∧ b ∉ X.fs ∧ (b ∈ X.ex ∨ X.s₀.heap.objs.size ≤ b) ∧ (∀ x c, X.env.cells.lookup x = some c → c ≠ b) ∧ ∀ p ∈ X.pn ++ pins, p.1 ≠ b
theorem Inv.fpOk {X : Cx} {pins : List (Addr × Obj)} {σ : St} {H H' : Hp} {s : Shared} {b : Addr} (I : Inv X pins σ H s) (hb : s.heap.objs.size ≤ b) (hn : H' b = none) : FpOk X pins H' b := by
  refine ⟨hn, Nat.ne_of_gt (Nat.lt_of_lt_of_le I.lt hb), I.nofs hb, .inr (Nat.le_trans I.sz hb), fun x c e z => ?_, fun p hp z => ?_⟩
  · obtain ⟨v, q⟩ := I.cell x c e
    exact absurd (Nat.lt_of_lt_of_le q.lt (by rw [z]; exact hb)) (Nat.lt_irrefl _)
  · exact absurd (Nat.lt_of_lt_of_le (Heap.lt_size (I.pin p hp).1) (by rw [z]; exact hb)) (Nat.lt_irrefl _)
structure Turn (P : Program) (w : World) (K : PySem.W.Frag) (tg : Expr) (J : It) (fp : List Addr) (it : Addr) (tn : Nat → Heap → Prop) : Prop where
  mem : it ∈ fp
  obj : ∀ i h, tn i h → ∀ b ∈ fp, ∃ o, h.get? b = some o ∧ ∀ v, o.data ≠ .cell v
  keep : ∀ i h h', tn i h → (∀ b ∈ fp, ∀ o, h.get? b = some o → h'.get? b = some o) → tn i h'
  item : ∀ (X : Cx), X.prog = P → X.w = w → X.K = K → X.calm = true → ∀ (i : Nat) (pins : List (Addr × Obj)) (s : Shared) (σ : St) (H : Hp) (E : Value → Shared → Prop), Inv X pins σ H s → (∀ b ∈ fp, FpOk X pins H b) → tn i s.heap → J.go i H →
    wpAny (model P w) X.A (pyNext (.ref it)) (fun r s1 => ∃ u, r = some u ∧
      wpAny (model P w) X.A (letOwnedTupleGo tg (.ref it) u) (fun _ s2 => ∃ x H', Inv X pins σ H' s2 ∧ RelV x u ∧ J.yld i H x H' ∧ tn (i + 1) s2.heap ∧ ∀ b ∈ fp, H' b = none) E s1) E s
  done : ∀ (X : Cx), X.prog = P → X.w = w → X.K = K → X.calm = true → ∀ (i : Nat) (pins : List (Addr × Obj)) (s : Shared) (σ : St) (H : Hp) (E : Value → Shared → Prop), Inv X pins σ H s → (∀ b ∈ fp, FpOk X pins H b) → tn i s.heap → J.stop i H →
    wpAny (model P w) X.A (pyNext (.ref it)) (fun r s1 => r = none ∧ Inv X pins σ H s1) E s
  self : ∀ (A : Around) (i : Nat) (s : Shared) (Q : Value → Shared → Prop) (E : Value → Shared → Prop), tn i s.heap → Q (.ref it) s → wpAny (model P w) A (pyIter (.ref it)) Q E s
abbrev TI := St → Hp → (It → Hp → Prop) → Prop
def PIE (X : Cx) (pins : List (Addr × Obj)) (σ : St) (tg : Expr) (R : It → Hp → Prop) (itv : Value) (s2 : Shared) : Prop :=
  ∃ (it : Addr) (fp : List Addr) (tn : Nat → Heap → Prop) (J : It) (H' : Hp), itv = .ref it ∧ Inv X pins σ H' s2 ∧ Turn X.prog X.w X.K tg J fp it tn ∧ tn 0 s2.heap ∧ (∀ b ∈ fp, FpOk X pins H' b) ∧ R J H'
def PI (X : Cx) (tg iter : Expr) (wi : TI) : Prop :=
  ∀ (pins : List (Addr × Obj)) (s : Shared) (σ : St) (H : Hp) (R : It → Hp → Prop), Inv X pins σ H s → wi σ H R →
    wpAny (model X.prog X.w) X.A (eval iter X.env) (fun v s1 => wpAny (model X.prog X.w) X.A (pyIter v) (PIE X pins σ tg R) X.xe s1) X.xe s
theorem go_of {M : Model} {A : Around} {E : Value → Shared → Prop} {s : Shared} {tg : Expr} {it : Addr} {u : Value} {o : Obj} {n : String} {vs : Array Value} {Q : Unit → Shared → Prop} (ho : s.heap.get? it = some o) (hc : o.cls = .type n) (hd : o.data = .fields vs)
    (hn : ["enumerate", "zip", "dict_itemiterator", "dict_reverseitemiterator", "odict_iterator", "itertools.zip_longest", "itertools.pairwise"].contains n = false) (hQ : Q () s) : wpAny M A (letOwnedTupleGo tg (.ref it) u) Q E s := by
  unfold letOwnedTupleGo
  cases tg <;> first
    | exact wpAny_pure hQ
    | (cases u <;> first
        | exact wpAny_pure hQ
        | (refine wpAny_bind (wpAny_load ho ?_)
           rw [hc, hd]
           show wpAny M A (if (["enumerate", "zip", "dict_itemiterator", "dict_reverseitemiterator", "odict_iterator", "itertools.zip_longest", "itertools.pairwise"].contains n && vs[0]? == some (rawInt _)) = true then _ else _) Q E s
           rw [if_neg (by intro h; rw [hn, Bool.false_and] at h; cases h)]
           exact wpAny_pure hQ))
def Itl (K : PySem.W.Frag) (a : Addr) : It :=
  ⟨fun i H => ∃ xs x, SqL K H a xs ∧ xs[i]? = some x, fun i H x H' => H' = H ∧ ∀ xs, SqL K H a xs → xs[i]? = some x, fun i H => ∃ xs, SqL K H a xs ∧ xs.length ≤ i⟩
def Itt (K : PySem.W.Frag) (a : Addr) : It :=
  ⟨fun i H => ∃ xs x, SqT K H a xs ∧ xs[i]? = some x, fun i H x H' => H' = H ∧ ∀ xs, SqT K H a xs → xs[i]? = some x, fun i H => ∃ xs, SqT K H a xs ∧ xs.length ≤ i⟩
def Itr (lo : Int) (n : Nat) : It := ⟨fun i _ => i < n, fun i H x H' => H' = H ∧ x = .int (lo + i), fun i _ => n ≤ i⟩
theorem turn_list {P : Program} {w : World} {K : PySem.W.Frag} {tg : Expr} (a it : Addr) : Turn P w K tg (Itl K a) [it] it (fun i h => h.IsListIter it a i) where
  mem := by simp
  obj := fun i h st b hb => by
    have e : b = it := by simpa using hb
    subst e
    obtain ⟨o, e, c, d⟩ := st
    exact ⟨o, e, fun v z => by rw [d] at z; cases z⟩
  keep := fun i h h' st k => st.at fun o e => k it (by simp) o e
  item := by
    intro X hP hw hK hc i pins s σ H E I hf st hg
    subst hP hw hK
    obtain ⟨xs, x, hq, hx⟩ := hg
    obtain ⟨its, rv, p, hz⟩ := I.list hq
    obtain ⟨u, hu, ru⟩ := rv.get hx
    obtain ⟨f0, f1, f2, f3, f4, f5⟩ := hf it (by simp)
    refine wpAny_pyNext_list_item st p.isList (x := u) (by simpa using hu) fun h' st' sb => ?_
    have I1 : Inv X pins σ H { s with heap := h' } := I.turned (t' := s.toks) (fun b o hb e => (sb.2 b hb).trans e) f0 f1 f3 f4 f5
    obtain ⟨o, e, c, d⟩ := id st'
    exact ⟨u, rfl, go_of (s := { s with heap := h' }) e c d (by decide) ⟨x, H, I1, ru, ⟨rfl, fun ys hy => by rw [I.list_inj hy hq]; exact hx⟩, st', fun b hb => (hf b hb).1⟩⟩
  done := by
    intro X hP hw hK hc i pins s σ H E I hf st hg
    subst hP hw hK
    obtain ⟨xs, hq, hx⟩ := hg
    obtain ⟨its, rv, p, hz⟩ := I.list hq
    obtain ⟨f0, f1, f2, f3, f4, f5⟩ := hf it (by simp)
    have hl := rv.length
    exact wpAny_pyNext_list_end (I.ok.hd hc) st p.isList (by simp; omega) fun h' eb => ⟨rfl, I.turned (t' := s.toks) (fun b o hb e => eb b o hb e) f0 f1 f3 f4 f5⟩
  self := fun _ _ _ _ _ st h => wpAny_pyIter_listiter st h
theorem turn_tuple {P : Program} {w : World} {K : PySem.W.Frag} {tg : Expr} (a it : Addr) : Turn P w K tg (Itt K a) [it] it (fun i h => h.IsTupleIter it a i) where
  mem := by simp
  obj := fun i h st b hb => by
    have e : b = it := by simpa using hb
    subst e
    obtain ⟨o, e, c, d⟩ := st
    exact ⟨o, e, fun v z => by rw [d] at z; cases z⟩
  keep := fun i h h' st k => st.at fun o e => k it (by simp) o e
  item := by
    intro X hP hw hK hc i pins s σ H E I hf st hg
    subst hP hw hK
    obtain ⟨xs, x, hq, hx⟩ := hg
    obtain ⟨its, rv, p, hz⟩ := I.tuple hq
    obtain ⟨u, hu, ru⟩ := rv.get hx
    obtain ⟨f0, f1, f2, f3, f4, f5⟩ := hf it (by simp)
    refine wpAny_pyNext_tuple_item st (show s.heap.IsTuple a its.toArray from p) (x := u) (by simpa using hu) fun h' st' sb => ?_
    have I1 : Inv X pins σ H { s with heap := h' } := I.turned (t' := s.toks) (fun b o hb e => (sb.2 b hb).trans e) f0 f1 f3 f4 f5
    obtain ⟨o, e, c, d⟩ := id st'
    exact ⟨u, rfl, go_of (s := { s with heap := h' }) e c d (by decide) ⟨x, H, I1, ru, ⟨rfl, fun ys hy => by rw [I.tuple_inj hy hq]; exact hx⟩, st', fun b hb => (hf b hb).1⟩⟩
  done := by
    intro X hP hw hK hc i pins s σ H E I hf st hg
    subst hP hw hK
    obtain ⟨xs, hq, hx⟩ := hg
    obtain ⟨its, rv, p, hz⟩ := I.tuple hq
    obtain ⟨f0, f1, f2, f3, f4, f5⟩ := hf it (by simp)
    have hl := rv.length
    exact wpAny_pyNext_tuple_end (I.ok.hd hc) st (show s.heap.IsTuple a its.toArray from p) (by simp; omega) fun h' eb => ⟨rfl, I.turned (t' := s.toks) (fun b o hb e => eb b o hb e) f0 f1 f3 f4 f5⟩
  self := fun _ _ _ _ _ st h => wpAny_pyIter_tupleiter st h
theorem turn_range {P : Program} {w : World} {K : PySem.W.Frag} {tg : Expr} (it : Addr) (lo : Int) (n : Nat) : Turn P w K tg (Itr lo n) [it] it (fun i h => IsRangeIter h it (lo + (i : Nat) * 1) ((n : Int) - (i : Nat)) 1) where
  mem := by simp
  obj := fun i h st b hb => by
    have e : b = it := by simpa using hb
    subst e
    exact ⟨_, st, fun v z => by
      have z' : Data.fields _ = Data.cell v := z
      cases z'⟩
  keep := fun i h h' st k => k it (by simp) _ st
  item := by
    intro X hP hw hK hc i pins s σ H E I hf st hg
    subst hP hw hK
    obtain ⟨f0, f1, f2, f3, f4, f5⟩ := hf it (by simp)
    have W := Walks.range (prog := X.prog) (w := X.w) (I.ok.hd hc) it lo 1 n
    refine W.item i s _ _ hg st fun v h' tk hv st' kk => ?_
    obtain ⟨t, rfl⟩ := hv
    have I1 : Inv X pins σ H { s with heap := h', toks := tk } := I.turned (fun b o hb e => kk b o (by simpa using hb) e) f0 f1 f3 f4 f5
    refine ⟨_, rfl, go_of (s := { s with heap := h', toks := tk }) (n := "range_iterator") st' rfl rfl (by decide) ⟨.int (lo + i), H, I1, ⟨t, ?_⟩, ⟨rfl, rfl⟩, st', fun b hb => (hf b hb).1⟩⟩
    rw [Int.mul_one]
  done := by
    intro X hP hw hK hc i pins s σ H E I hf st hg
    subst hP hw hK
    obtain ⟨f0, f1, f2, f3, f4, f5⟩ := hf it (by simp)
    exact wpAny_pyNext_range_end (I.ok.hd hc) st (by have : n ≤ i := hg; omega) fun h' eb => ⟨rfl, I.turned (t' := s.toks) (fun b o hb e => eb b o hb e) f0 f1 f3 f4 f5⟩
  self := fun _ _ _ _ _ st h => wpAny_pyIter_rangeiter st h
end L2
namespace L2
open PySem PySem.Spec PyProof.Rows
section
variable {X : Cx} {tg : Expr}
def iList (K : PySem.W.Frag) (tl : TE) : TI := fun σ H R => tl σ H fun x H1 => ∃ a, x = .ref a ∧ (∃ xs, SqL K H1 a xs) ∧ R (Itl K a) H1
def iTup (K : PySem.W.Frag) (tl : TE) : TI := fun σ H R => tl σ H fun x H1 => ∃ a, x = .ref a ∧ (∃ xs, SqT K H1 a xs) ∧ R (Itt K a) H1
theorem pi_list {l : Expr} {tl : TE} (hl : PE X l tl) : PI X tg l (iList X.K tl) := by
  intro pins s σ H R I h
  refine thn (hl pins s σ H _ I h) fun v s1 ⟨x, H1, I1, r1, q1⟩ => ?_
  obtain ⟨a, e, ⟨xs, hq⟩, q⟩ := q1
  subst e
  cases r1
  obtain ⟨its, rv, p, hz⟩ := I1.list hq
  refine wpAny_pyIter_list p.isList ?_
  refine ⟨s1.heap.objs.size, [s1.heap.objs.size], _, _, H1, rfl, I1.kept (t' := s1.toks) fun b o e => Heap.get?_push_of_some _ e, turn_list a _, ⟨_, Heap.get?_push_size _ rfl, rfl, rfl⟩, fun b hb => ?_, q⟩
  have e : b = s1.heap.objs.size := by simpa using hb
  subst e
  exact I1.fpOk (Nat.le_refl _) (I1.hok.fresh (Nat.le_refl _))
theorem pi_tup {l : Expr} {tl : TE} (hl : PE X l tl) : PI X tg l (iTup X.K tl) := by
  intro pins s σ H R I h
  refine thn (hl pins s σ H _ I h) fun v s1 ⟨x, H1, I1, r1, q1⟩ => ?_
  obtain ⟨a, e, ⟨xs, hq⟩, q⟩ := q1
  subst e
  cases r1
  obtain ⟨its, rv, p, hz⟩ := I1.tuple hq
  refine wpAny_pyIter_tuple (show s1.heap.IsTuple a its.toArray from p) ?_
  refine ⟨s1.heap.objs.size, [s1.heap.objs.size], _, _, H1, rfl, I1.kept (t' := s1.toks) fun b o e => Heap.get?_push_of_some _ e, turn_tuple a _, ⟨_, Heap.get?_push_size _ rfl, rfl, rfl⟩, fun b hb => ?_, q⟩
  have e : b = s1.heap.objs.size := by simpa using hb
  subst e
  exact I1.fpOk (Nat.le_refl _) (I1.hok.fresh (Nat.le_refl _))
theorem range_it {pins : List (Addr × Obj)} {σ : St} {H : Hp} {s : Shared} {R : It → Hp → Prop} {E : Value → Shared → Prop} {lo hi : Int} {t u v : Tok} {tk : Nat} (I : Inv X pins σ H s) (h1 : -(2 ^ 62) ≤ lo) (h2 : lo < 2 ^ 62) (h3 : -(2 ^ 62) ≤ hi) (h4 : hi < 2 ^ 62)
    (q : R (Itr lo (hi - lo).toNat) H) : wpAny (model X.prog X.w) X.A (pyIter (.ref s.heap.objs.size)) (PIE X pins σ tg R) E { s with heap := s.heap.push { cls := .type "range", data := .fields #[.int lo t, .int hi u, .int 1 v] }, toks := tk } := by
  refine wpAny_pyIter_range (IsRange.new ..) (small_one h1 h2 h3 h4) ?_
  have I1 : Inv X pins σ H { s with heap := s.heap.push { cls := .type "range", data := .fields #[.int lo t, .int hi u, .int 1 v] }, toks := tk } := I.kept fun b o e => Heap.get?_push_of_some _ e
  refine ⟨(s.heap.push { cls := .type "range", data := .fields #[.int lo t, .int hi u, .int 1 v] }).objs.size, [(s.heap.push { cls := .type "range", data := .fields #[.int lo t, .int hi u, .int 1 v] }).objs.size], _, _, H, rfl,
    I1.kept (t' := tk) fun b o e => Heap.get?_push_of_some _ e, turn_range _ lo (hi - lo).toNat, ?_, fun b hb => ?_, q⟩
  · have e1 : lo + ((0 : Nat) : Int) * 1 = lo := by simp
    have e2 : (((hi - lo).toNat : Nat) : Int) - ((0 : Nat) : Int) = Builtin.Range.rangeSize lo hi 1 := by rw [rangeSize_one]; split <;> omega
    show IsRangeIter _ _ (lo + ((0 : Nat) : Int) * 1) ((((hi - lo).toNat : Nat) : Int) - ((0 : Nat) : Int)) 1
    rw [e1, e2]
    exact Heap.get?_push_size _ rfl
  · have e : b = (s.heap.push { cls := .type "range", data := .fields #[.int lo t, .int hi u, .int 1 v] }).objs.size := by simpa using hb
    subst e
    exact I1.fpOk (Nat.le_refl _) (I1.hok.fresh (Nat.le_refl _))
def iRng1 (ta : TA) : TI := fun σ H R => ta σ H fun vs H1 => ∃ j : Int, vs = [.int j] ∧ -(2 ^ 62) ≤ j ∧ j < 2 ^ 62 ∧ R (Itr 0 j.toNat) H1
theorem pi_range1 {a : Expr} {ta : TA} {p pos : Pos} (hg : Gl X "range") (hm : X.mg "range" = none) (ha : PA X [a] ta) (hs : starEach [a] X.env = [(false, eval a X.env)] := by rfl) : PI X tg (.Call (.Name "range" p) [a] [] pos) (iRng1 ta) := by
  intro pins s σ H R I h
  refine Call_ (ld_blt I hg hm boot_range (PyProof.Rows.callWith_type1 (thn (ha pos pins s σ H _ I h) fun us s1 ⟨vs, H1, I1, r1, q1⟩ => ?_) hs rfl))
  obtain ⟨j, e, q1, q2, q⟩ := q1
  subst e
  cases r1 with
  | cons r rr =>
    cases rr
    obtain ⟨t, rfl⟩ := r
    exact call_range_1 (range_it I1 (by omega) (by omega) q1 q2 (by simpa using q))
def tFor (wi : TI) (g : TG) (tb : TS) : TS := fun D σ H => wi σ H fun J H1 => ∃ W : Nat → Nat → St → Hp → Prop, (∃ m, W 0 m σ H1) ∧ ∀ i m σ H, W i m σ H →
  (J.stop i H ∧ D.nx σ H) ∨ (J.go i H ∧ ∃ N : St → Hp → Prop, (∀ σ' H', N σ' H' → ∃ m', m' < m ∧ W (i + 1) m' σ' H') ∧ ∀ x H', J.yld i H x H' → g x σ H' fun σ2 H2 => tb { D with nx := N, ct := N, bk := D.nx } σ2 H2)
def pinsAt (fp : List Addr) (h : Heap) : List (Addr × Obj) := fp.filterMap fun b => (h.get? b).map fun o => (b, o)
theorem mem_pinsAt {fp : List Addr} {h : Heap} {b : Addr} {o : Obj} (hb : b ∈ fp) (e : h.get? b = some o) : (b, o) ∈ pinsAt fp h := List.mem_filterMap.mpr ⟨b, hb, by rw [e]; rfl⟩
theorem of_pinsAt {fp : List Addr} {h : Heap} {p : Addr × Obj} (hp : p ∈ pinsAt fp h) : p.1 ∈ fp ∧ h.get? p.1 = some p.2 := by
  obtain ⟨b, hb, e⟩ := List.mem_filterMap.mp hp
  cases q : h.get? b with
  | none => rw [q] at e; cases e
  | some o =>
    rw [q] at e
    have e' : (b, o) = p := Option.some.inj e
    subst e'
    exact ⟨hb, q⟩
theorem Inv.pinned {pins : List (Addr × Obj)} {σ : St} {H : Hp} {s : Shared} {fp : List Addr} (I : Inv X pins σ H s) (hf : ∀ b ∈ fp, FpOk X pins H b) (ho : ∀ b ∈ fp, ∃ o, s.heap.get? b = some o ∧ ∀ v, o.data ≠ .cell v) : Inv X (pins ++ pinsAt fp s.heap) σ H s :=
  I.pins_of fun p hp => (List.mem_append.mp hp).elim (fun z => I.pin p (List.mem_append_right _ z)) fun z => by
    obtain ⟨hb, e⟩ := of_pinsAt z
    obtain ⟨f0, f1, f2, _⟩ := hf p.1 hb
    obtain ⟨o, e', d⟩ := ho p.1 hb
    rw [e] at e'; cases e'
    exact ⟨e, f0, f1, f2, d⟩
theorem Inv.unpinned {pins pl : List (Addr × Obj)} {σ : St} {H : Hp} {s : Shared} (I : Inv X (pins ++ pl) σ H s) : Inv X pins σ H s := I.pins_of fun p hp => I.pin p (List.mem_append_right _ (List.mem_append_left _ hp))
theorem ps_for {iter : Expr} {body : List Stmt} {wi : TI} {g : TG} {tb : TS} {pos : Pos} (hp : PassesOwn (model X.prog X.w) X.A X.env X.xe) (hc : X.calm = true) (hi : PI X tg iter wi) (hg : PG X tg g) (hb : PSs X body tb)
    (hs : ∀ x, foldedSetIterable iter X.env x = pure x := by intro _; rfl) : PS X (.For tg iter body [] pos) (tFor wi g tb) := by
  intro pins s σ H D I h
  refine wpAny_For (thn (hi pins s σ H _ I h) fun v s1 h1 => thn h1 fun itv s2 h2 => ?_) hs
  obtain ⟨it, fp, tn, J, H2, e, I2, T, st2, f2, W, ⟨m0, w0⟩, turn⟩ := h2
  subst e
  have stat : ∀ {H' : Hp}, (∀ b ∈ fp, H' b = none) → ∀ b ∈ fp, FpOk X pins H' b := fun hn b hb => ⟨hn b hb, (f2 b hb).2⟩
  refine codeAny_forLoop_any (fun n s' => ∃ i σ' H', Inv X pins σ' H' s' ∧ tn i s'.heap ∧ (∀ b ∈ fp, H' b = none) ∧ W i n σ' H') ?_ m0 ⟨0, σ, H2, I2, st2, fun b hb => (f2 b hb).1, w0⟩
  rintro n s3 ⟨i, σ3, H3, I3, st3, fr3, w3⟩
  rcases turn i n σ3 H3 w3 with ⟨stop, qn⟩ | ⟨go, N, hN, step⟩
  · refine wpAny_passesOwn hp (thn (T.done X rfl rfl rfl hc i pins s3 σ3 H3 X.xe I3 (stat fr3) st3 stop) fun r s4 ⟨hr, I4⟩ => ?_)
    subst hr
    exact wpAny_execs_nil ⟨σ3, H3, I4, qn⟩
  · refine wpAny_passesOwn hp (thn (T.item X rfl rfl rfl hc i pins s3 σ3 H3 X.xe I3 (stat fr3) st3 go) fun r s4 ⟨u, hr, h4⟩ => ?_)
    subst hr
    refine wpAny_passesOwn hp (thn h4 fun _ s5 ⟨x, H5, I5, r5, y5, st5, fr5⟩ => ?_)
    have I5' := I5.pinned (stat fr5) (T.obj _ _ st5)
    refine wpAny_passesOwn hp (thn (hg _ s5 σ3 H5 x u _ I5' r5 (step x H5 y5)) fun _ s6 ⟨σ6, H6, I6, q6⟩ => ?_)
    refine wpAny_passesOwn hp (thn (hb _ s6 σ6 H6 _ I6 q6) fun f s7 q7 => ?_)
    have again : ∀ {σ7 : St} {H7 : Hp}, Inv X (pins ++ pinsAt fp s5.heap) σ7 H7 s7 → N σ7 H7 → ∃ m, m < n ∧ ∃ i σ' H', Inv X pins σ' H' s7 ∧ tn i s7.heap ∧ (∀ b ∈ fp, H' b = none) ∧ W i m σ' H' := fun {σ7 H7} I7 n7 => by
      obtain ⟨m', hm, w7⟩ := hN σ7 H7 n7
      refine ⟨m', hm, i + 1, σ7, H7, I7.unpinned, T.keep _ _ _ st5 fun b hb o e => (I7.pin (b, o) (List.mem_append_right _ (List.mem_append_right _ (mem_pinsAt hb e)))).1, fun b hb => ?_, w7⟩
      obtain ⟨o, e, d⟩ := T.obj _ _ st5 b hb
      exact (I7.pin (b, o) (List.mem_append_right _ (List.mem_append_right _ (mem_pinsAt hb e)))).2.1
    cases f with
    | next => obtain ⟨σ7, H7, I7, n7⟩ := q7; exact again I7 n7
    | cont => obtain ⟨σ7, H7, I7, n7⟩ := q7; exact again I7 n7
    | brk => obtain ⟨σ7, H7, I7, q7⟩ := q7; exact ⟨σ7, H7, I7.unpinned, q7⟩
    | ret v => obtain ⟨x7, σ7, H7, I7, r7, q7⟩ := q7; exact ⟨x7, σ7, H7, I7.unpinned, r7, q7⟩
end
theorem for_list {K : PySem.W.Frag} {a : Addr} {xs : List V} {g : TG} {tb : TS} {D : Ends} {σ : St} {H : Hp} (Pv : Nat → St → Hp → Prop) (h0 : Pv 0 σ H) (hl : ∀ i σ H, i ≤ xs.length → Pv i σ H → SqL K H a xs)
    (hs : ∀ i x σ H, xs[i]? = some x → Pv i σ H → g x σ H fun σ2 H2 => tb { D with nx := Pv (i + 1), ct := Pv (i + 1), bk := D.nx } σ2 H2) (hd : ∀ σ H, Pv xs.length σ H → D.nx σ H) :
    ∃ W : Nat → Nat → St → Hp → Prop, (∃ m, W 0 m σ H) ∧ ∀ i m σ H, W i m σ H →
      ((Itl K a).stop i H ∧ D.nx σ H) ∨ ((Itl K a).go i H ∧ ∃ N : St → Hp → Prop, (∀ σ' H', N σ' H' → ∃ m', m' < m ∧ W (i + 1) m' σ' H') ∧ ∀ x H', (Itl K a).yld i H x H' → g x σ H' fun σ2 H2 => tb { D with nx := N, ct := N, bk := D.nx } σ2 H2) := by
  refine ⟨fun i m σ H => m = xs.length - i ∧ i ≤ xs.length ∧ Pv i σ H, ⟨xs.length, by simp, Nat.zero_le _, h0⟩, ?_⟩
  rintro i m σ H ⟨rfl, hi, p⟩
  have q := hl i σ H hi p
  by_cases hlt : i < xs.length
  · refine .inr ⟨⟨xs, xs[i], q, by simp [hlt]⟩, Pv (i + 1), fun σ' H' p' => ⟨xs.length - (i + 1), by omega, rfl, hlt, p'⟩, fun x H' y => ?_⟩
    obtain ⟨e, y⟩ := y
    subst e
    exact hs i x σ _ (y xs q) p
  · have e : i = xs.length := by omega
    subst e
    exact .inl ⟨⟨xs, q, Nat.le_refl _⟩, hd σ H p⟩
theorem for_range {lo : Int} {n : Nat} {g : TG} {tb : TS} {D : Ends} {σ : St} {H : Hp} (Pv : Nat → St → Hp → Prop) (h0 : Pv 0 σ H)
    (hs : ∀ i σ H, i < n → Pv i σ H → g (.int (lo + i)) σ H fun σ2 H2 => tb { D with nx := Pv (i + 1), ct := Pv (i + 1), bk := D.nx } σ2 H2) (hd : ∀ σ H, Pv n σ H → D.nx σ H) :
    ∃ W : Nat → Nat → St → Hp → Prop, (∃ m, W 0 m σ H) ∧ ∀ i m σ H, W i m σ H →
      ((Itr lo n).stop i H ∧ D.nx σ H) ∨ ((Itr lo n).go i H ∧ ∃ N : St → Hp → Prop, (∀ σ' H', N σ' H' → ∃ m', m' < m ∧ W (i + 1) m' σ' H') ∧ ∀ x H', (Itr lo n).yld i H x H' → g x σ H' fun σ2 H2 => tb { D with nx := N, ct := N, bk := D.nx } σ2 H2) := by
  refine ⟨fun i m σ H => m = n - i ∧ i ≤ n ∧ Pv i σ H, ⟨n, by simp, Nat.zero_le _, h0⟩, ?_⟩
  rintro i m σ H ⟨rfl, hi, p⟩
  by_cases hlt : i < n
  · refine .inr ⟨hlt, Pv (i + 1), fun σ' H' p' => ⟨n - (i + 1), by omega, rfl, hlt, p'⟩, fun x H' y => ?_⟩
    obtain ⟨e, y⟩ := y
    subst e y
    exact hs i σ _ hlt p
  · have e : i = n := by omega
    subst e
    exact .inl ⟨Nat.le_refl _, hd σ H p⟩
end L2
namespace L2
open PySem PySem.Spec PyProof.Rows
abbrev R2 := V → V → Hp → VK → Prop
def OpR (X : Cx) (f : Value → Value → Sem Value) (r : R2) : Prop :=
  ∀ (pins : List (Addr × Obj)) (s : Shared) (σ : St) (H : Hp) (x y : V) (v u : Value) (Q : VK), Inv X pins σ H s → RelV x v → RelV y u → r x y H Q →
    wpAny (model X.prog X.w) X.A (f v u) (EP X pins σ Q) X.xe s
def UnR (X : Cx) (f : Value → Sem Value) (r : V → Hp → VK → Prop) : Prop :=
  ∀ (pins : List (Addr × Obj)) (s : Shared) (σ : St) (H : Hp) (x : V) (v : Value) (Q : VK), Inv X pins σ H s → RelV x v → r x H Q →
    wpAny (model X.prog X.w) X.A (f v) (EP X pins σ Q) X.xe s
def CallR (X : Cx) (f : Value) (r : List V → Hp → VK → Prop) : Prop :=
  ∀ (pins : List (Addr × Obj)) (s : Shared) (σ : St) (H : Hp) (xs : List V) (us : List Value) (Q : VK), Inv X pins σ H s → Vals xs us → r xs H Q →
    wpAny (model X.prog X.w) X.A (call f us) (EP X pins σ Q) X.xe s
def TruR (X : Cx) (r : V → Hp → (Bool → Hp → Prop) → Prop) : Prop :=
  ∀ (pins : List (Addr × Obj)) (s : Shared) (σ : St) (H : Hp) (x : V) (v : Value) (Q : Bool → Hp → Prop), Inv X pins σ H s → RelV x v → r x H Q →
    wpAny (model X.prog X.w) X.A (truthy v) (TP X pins σ Q) X.xe s
def tOp (r : R2) (ta tb : TE) : TE := fun σ H Q => ta σ H fun x H1 => tb σ H1 fun y H2 => r x y H2 Q
def tUn (r : V → Hp → VK → Prop) (ta : TE) : TE := fun σ H Q => ta σ H fun x H1 => r x H1 Q
def rI (C : Int → Int → Prop) (g : Int → Int → V) : R2 := fun x y H Q => ∃ i j, x = .int i ∧ y = .int j ∧ C i j ∧ Q (g i j) H
def rI0 (g : Int → Int → V) : R2 := fun x y H Q => ∃ i j, x = .int i ∧ y = .int j ∧ Q (g i j) H
def rU (g : Int → V) : V → Hp → VK → Prop := fun x H Q => ∃ i, x = .int i ∧ Q (g i) H
section
variable {X : Cx} {a b c : Expr} {ta tb tc : TE} {pos : Pos}
theorem binT (ha : PE X a ta) (hb : PE X b tb) {pins : List (Addr × Obj)} {s : Shared} {σ : St} {H : Hp} {R : V → V → Hp → Prop} (I : Inv X pins σ H s)
    (h : ta σ H fun x H1 => tb σ H1 fun y H2 => R x y H2) {Q : Value → Shared → Prop} {f : Value → Value → Sem Value}
    (hf : ∀ v u s2 x y H2, Inv X pins σ H2 s2 → RelV x v → RelV y u → R x y H2 → wpAny (model X.prog X.w) X.A (f v u) Q X.xe s2) :
    wpAny (model X.prog X.w) X.A (eval a X.env) (fun v s₁ => wpAny (model X.prog X.w) X.A (eval b X.env) (fun u s₂ => wpAny (model X.prog X.w) X.A (f v u) Q X.xe s₂) X.xe s₁) X.xe s := by
  refine thn (ha pins s σ H _ I h) fun v s1 ⟨x, H1, I1, r1, q1⟩ => ?_
  refine thn (hb pins s1 σ H1 _ I1 q1) fun u s2 ⟨y, H2, I2, r2, q2⟩ => ?_
  exact hf v u s2 x y H2 I2 r1 r2 q2
theorem pe_op {op : Operator} {r : R2} (ho : OpR X (binaryOp op) r) (ha : PE X a ta) (hb : PE X b tb) : PE X (.BinOp a op b pos) (tOp r ta tb) := by
  intro pins s σ H Q I h
  exact wpAny_BinOp (binT ha hb I h fun v u s2 x y H2 I2 rx ry q => ho pins s2 σ H2 x y v u Q I2 rx ry q)
theorem pe_un {op : UnaryOp} {r : V → Hp → VK → Prop} (ho : UnR X (unaryOp op) r) (ha : PE X a ta) : PE X (.UnaryOp op a pos) (tUn r ta) := by
  intro pins s σ H Q I h
  exact UnaryOp_ (thn (ha pins s σ H _ I h) fun v s1 ⟨x, H1, I1, r1, q1⟩ => ho pins s1 σ H1 x v Q I1 r1 q1)
theorem opI {f : Value → Value → Sem Value} {C : Int → Int → Prop} {g : Int → Int → Int}
    (rule : ∀ (i j : Int) (t u : Tok) (s : Shared) (Q : Value → Shared → Prop) (E : Value → Shared → Prop), C i j → Q (.int (g i j) s.toks) { s with toks := s.toks + 1 } → wpAny (model X.prog X.w) X.A (f (.int i t) (.int j u)) Q E s) :
    OpR X f (rI C fun i j => .int (g i j)) := by
  intro pins s σ H x y v u Q I rx ry h
  obtain ⟨i, j, rfl, rfl, hc, q⟩ := h
  obtain ⟨t, rfl⟩ := rx
  obtain ⟨t', rfl⟩ := ry
  exact rule i j t t' s _ _ hc ⟨.int (g i j), H, I.tok _, ⟨_, rfl⟩, q⟩
theorem opI0 {f : Value → Value → Sem Value} {g : Int → Int → Int}
    (rule : ∀ (i j : Int) (t u : Tok) (s : Shared) (Q : Value → Shared → Prop) (E : Value → Shared → Prop), Q (.int (g i j) s.toks) { s with toks := s.toks + 1 } → wpAny (model X.prog X.w) X.A (f (.int i t) (.int j u)) Q E s) :
    OpR X f (rI0 fun i j => .int (g i j)) := by
  intro pins s σ H x y v u Q I rx ry h
  obtain ⟨i, j, rfl, rfl, q⟩ := h
  obtain ⟨t, rfl⟩ := rx
  obtain ⟨t', rfl⟩ := ry
  exact rule i j t t' s _ _ ⟨.int (g i j), H, I.tok _, ⟨_, rfl⟩, q⟩
theorem opB0 {f : Value → Value → Sem Value} {g : Int → Int → Bool}
    (rule : ∀ (i j : Int) (t u : Tok) (s : Shared) (Q : Value → Shared → Prop) (E : Value → Shared → Prop), Q (.bool (g i j)) s → wpAny (model X.prog X.w) X.A (f (.int i t) (.int j u)) Q E s) :
    OpR X f (rI0 fun i j => .bl (g i j)) := by
  intro pins s σ H x y v u Q I rx ry h
  obtain ⟨i, j, rfl, rfl, q⟩ := h
  obtain ⟨t, rfl⟩ := rx
  obtain ⟨t', rfl⟩ := ry
  exact rule i j t t' s _ _ ⟨.bl (g i j), H, I, rfl, q⟩
def CDiv (i j : Int) : Prop := 0 < j ∧ j < 1073741824
def CPow (i j : Int) : Prop := 0 ≤ j ∧ j ≤ 1000000 ∧ i.natAbs < 2 ^ 64
theorem op_add : OpR X (binaryOp .Add) (rI0 fun i j => .int (i + j)) := opI0 fun _ _ _ _ _ _ _ q => add_int q
theorem op_sub : OpR X (binaryOp .Sub) (rI0 fun i j => .int (i - j)) := opI0 fun _ _ _ _ _ _ _ q => sub_int q
theorem op_fdiv : OpR X (binaryOp .FloorDiv) (rI CDiv fun i j => .int (i / j)) := opI fun i j _ _ _ _ _ hc q => by
  have h1 : (0 : Int) < j := hc.1
  have h2 : j < 1073741824 := hc.2
  exact floordiv_int (by omega) (by rw [Int.fdiv_eq_ediv_of_nonneg i (by omega)]; exact q) (.inl (PyProof.noPylong_small (by omega)))
theorem op_mod : OpR X (binaryOp .Mod) (rI (fun _ j => 0 < j) fun i j => .int (i % j)) := opI fun i j _ _ _ _ _ hc q => by
  have h1 : (0 : Int) < j := hc
  exact mod_int' (by omega) (by rw [Int.fmod_eq_emod_of_nonneg i (by omega)]; exact q)
theorem op_pow : OpR X (binaryOp .Pow) (rI CPow fun i j => .int (i ^ j.toNat)) := opI fun _ _ _ _ _ _ _ hc q => pow_int_small hc.1 hc.2.1 hc.2.2 q
theorem unI {f : Value → Sem Value} {g : Int → Int}
    (rule : ∀ (i : Int) (t : Tok) (s : Shared) (Q : Value → Shared → Prop) (E : Value → Shared → Prop), Q (.int (g i) s.toks) { s with toks := s.toks + 1 } → wpAny (model X.prog X.w) X.A (f (.int i t)) Q E s) :
    UnR X f (rU fun i => .int (g i)) := by
  intro pins s σ H x v Q I rx h
  obtain ⟨i, rfl, q⟩ := h
  obtain ⟨t, rfl⟩ := rx
  exact rule i t s _ _ ⟨.int (g i), H, I.tok _, ⟨_, rfl⟩, q⟩
theorem un_neg : UnR X (unaryOp .USub) (rU fun i => .int (-i)) := unI fun _ _ _ _ _ q => neg_int q
end
def scal : V → V → Bool
  | .non, .non => true | .non, .int _ => true | .int _, .non => true | .non, .bl _ => true | .bl _, .non => true | .non, .str _ => true | .str _, .non => true
  | .int _, .int _ => true | .bl _, .bl _ => true | .str _, .str _ => true | .byt _, .byt _ => true
  | .int _, .str _ => true | .str _, .int _ => true | .bl _, .str _ => true | .str _, .bl _ => true
  | _, _ => false
def rEq : R2 := fun x y H Q => scal x y = true ∧ Q (.bl (decide (x = y))) H
def rNe : R2 := fun x y H Q => scal x y = true ∧ Q (.bl (!decide (x = y))) H
theorem dec_int {i j : Int} : decide (V.int i = V.int j) = (i == j) := by
  rw [Bool.eq_iff_iff]
  simp
theorem dec_bl {i j : Bool} : decide (V.bl i = V.bl j) = (i == j) := by
  rw [Bool.eq_iff_iff]
  simp
theorem dec_str {i j : Str} : decide (V.str i = V.str j) = (i == j) := by
  rw [Bool.eq_iff_iff]
  simp
theorem dec_byt {i j : Array UInt8} : decide (V.byt i = V.byt j) = (i.toList == j.toList) := by
  rw [Bool.eq_iff_iff]
  cases i
  cases j
  simp
section
variable {X : Cx} {a b c : Expr} {ta tb tc : TE} {pos : Pos}
theorem fin_bl {pins : List (Addr × Obj)} {σ : St} {H : Hp} {s : Shared} {Q : VK} {k k' : Bool} (I : Inv X pins σ H s) (q : Q (.bl k) H) (e : k = k') : EP X pins σ Q (.bool k') s := by
  subst e
  exact ⟨.bl k, H, I, rfl, q⟩
theorem op_eq : OpR X (compareOp .Eq) rEq := by
  intro pins s σ H x y v u Q I rx ry h
  obtain ⟨hs, q⟩ := h
  cases x with
  | non =>
    cases rx
    cases y with
    | non => cases ry; exact PySem.EqNone.eq_none_none (fin_bl I q (by simp))
    | bl j => cases ry; exact PySem.EqNone.eq_none_bool (fin_bl I q (by simp))
    | int j => obtain ⟨t', rfl⟩ := ry; exact PySem.EqNone.eq_none_int (fin_bl I q (by simp))
    | str j => obtain ⟨t', rfl⟩ := ry; exact PySem.EqNone.eq_none_str (fin_bl I q (by simp))
    | _ => exact absurd (show false = true from hs) Bool.false_ne_true
  | bl i =>
    cases rx
    cases y with
    | non => cases ry; exact PySem.EqNone.eq_bool_none (fin_bl I q (by simp))
    | bl j => cases ry; exact eq_bool (fin_bl I q dec_bl)
    | str j => obtain ⟨t', rfl⟩ := ry; exact PySem.EqMixed.eq_bool_str (fin_bl I q (by simp))
    | _ => exact absurd (show false = true from hs) Bool.false_ne_true
  | int i =>
    obtain ⟨t, rfl⟩ := rx
    cases y with
    | non => cases ry; exact PySem.EqNone.eq_int_none (fin_bl I q (by simp))
    | int j => obtain ⟨t', rfl⟩ := ry; exact eq_int (fin_bl I q dec_int)
    | str j => obtain ⟨t', rfl⟩ := ry; exact PySem.EqMixed.eq_int_str (fin_bl I q (by simp))
    | _ => exact absurd (show false = true from hs) Bool.false_ne_true
  | str i =>
    obtain ⟨t, rfl⟩ := rx
    cases y with
    | non => cases ry; exact PySem.EqNone.eq_str_none (fin_bl I q (by simp))
    | bl j => cases ry; exact PySem.EqMixed.eq_str_bool (fin_bl I q (by simp))
    | int j => obtain ⟨t', rfl⟩ := ry; exact PySem.EqMixed.eq_str_int (fin_bl I q (by simp))
    | str j => obtain ⟨t', rfl⟩ := ry; exact eq_str (fin_bl I q dec_str)
    | _ => exact absurd (show false = true from hs) Bool.false_ne_true
  | byt i =>
    obtain ⟨t, rfl⟩ := rx
    cases y with
    | byt j => obtain ⟨t', rfl⟩ := ry; exact PySem.W.eq_bytes (fin_bl I q dec_byt)
    | _ => exact absurd (show false = true from hs) Bool.false_ne_true
  | _ => cases y <;> exact absurd (show false = true from hs) Bool.false_ne_true
theorem op_ne : OpR X (compareOp .NotEq) rNe := by
  intro pins s σ H x y v u Q I rx ry h
  obtain ⟨hs, q⟩ := h
  cases x with
  | non =>
    cases rx
    cases y with
    | non => cases ry; exact PySem.EqNone.ne_none_none (fin_bl I q (by simp))
    | bl j => cases ry; exact PySem.EqNone.ne_none_bool (fin_bl I q (by simp))
    | int j => obtain ⟨t', rfl⟩ := ry; exact PySem.EqNone.ne_none_int (fin_bl I q (by simp))
    | str j => obtain ⟨t', rfl⟩ := ry; exact PySem.EqNone.ne_none_str (fin_bl I q (by simp))
    | _ => exact absurd (show false = true from hs) Bool.false_ne_true
  | bl i =>
    cases rx
    cases y with
    | non => cases ry; exact PySem.EqNone.ne_bool_none (fin_bl I q (by simp))
    | bl j => cases ry; exact ne_bool (fin_bl I q (congrArg not dec_bl))
    | str j => obtain ⟨t', rfl⟩ := ry; exact PySem.EqMixed.ne_bool_str (fin_bl I q (by simp))
    | _ => exact absurd (show false = true from hs) Bool.false_ne_true
  | int i =>
    obtain ⟨t, rfl⟩ := rx
    cases y with
    | non => cases ry; exact PySem.EqNone.ne_int_none (fin_bl I q (by simp))
    | int j => obtain ⟨t', rfl⟩ := ry; exact ne_int (fin_bl I q (congrArg not dec_int))
    | str j => obtain ⟨t', rfl⟩ := ry; exact PySem.EqMixed.ne_int_str (fin_bl I q (by simp))
    | _ => exact absurd (show false = true from hs) Bool.false_ne_true
  | str i =>
    obtain ⟨t, rfl⟩ := rx
    cases y with
    | non => cases ry; exact PySem.EqNone.ne_str_none (fin_bl I q (by simp))
    | bl j => cases ry; exact PySem.EqMixed.ne_str_bool (fin_bl I q (by simp))
    | int j => obtain ⟨t', rfl⟩ := ry; exact PySem.EqMixed.ne_str_int (fin_bl I q (by simp))
    | str j => obtain ⟨t', rfl⟩ := ry; exact ne_str (fin_bl I q (congrArg not dec_str))
    | _ => exact absurd (show false = true from hs) Bool.false_ne_true
  | byt i =>
    obtain ⟨t, rfl⟩ := rx
    cases y with
    | byt j => obtain ⟨t', rfl⟩ := ry; exact PySem.W.ne_bytes (fin_bl I q (congrArg not dec_byt))
    | _ => exact absurd (show false = true from hs) Bool.false_ne_true
  | _ => cases y <;> exact absurd (show false = true from hs) Bool.false_ne_true
theorem op_lt : OpR X (compareOp .Lt) (rI0 fun i j => .bl (decide (i < j))) := opB0 fun _ _ _ _ _ _ _ q => lt_int q
theorem op_ge : OpR X (compareOp .GtE) (rI0 fun i j => .bl (decide (j ≤ i))) := opB0 fun _ _ _ _ _ _ _ q => ge_int q
theorem op_isN : OpR X (compareOp .Is) (fun x y H Q => y = .non ∧ Q (.bl (decide (x = .non))) H) := by
  intro pins s σ H x y v u Q I rx ry h
  obtain ⟨rfl, q⟩ := h
  cases ry
  refine is_none_gen (fin_bl I q ?_)
  cases x <;> first
    | (cases rx; rfl)
    | (obtain ⟨t, rfl⟩ := rx; rfl)
theorem nomark (b : Expr) {op : CmpOp} (h : op ≠ .In := by decide) (h2 : op ≠ .NotIn := by decide) : behindInMarks op b = false := by
  have e1 : (op == CmpOp.In) = false := by cases op <;> first | rfl | exact absurd rfl h
  have e2 : (op == CmpOp.NotIn) = false := by cases op <;> first | rfl | exact absurd rfl h2
  cases b <;> simp [behindInMarks, e1, e2]
theorem pe_cmpR {op : CmpOp} {r : R2} (ho : OpR X (compareOp op) r) (ha : PE X a ta) (hb : PE X b tb) (hm : behindInMarks op b = false) : PE X (.Compare a [op] [b] pos) (tOp r ta tb) := by
  intro pins s σ H Q I h
  exact wpAny_Compare1 (binT ha hb I h fun v u s2 x y H2 I2 rx ry q => ho pins s2 σ H2 x y v u Q I2 rx ry q) hm
def tTest (t : TE) : TT := fun σ H Q => t σ H fun x H' => ∃ k, x = .bl k ∧ Q k H'
theorem pt_cmpR {op : CmpOp} {r : R2} (ho : OpR X (compareOp op) r) (ha : PE X a ta) (hb : PE X b tb) (hm : behindInMarks op b = false) : PT X (.Compare a [op] [b] pos) (tTest (tOp r ta tb)) := by
  intro pins s σ H Q I h
  refine wpAny_isTrue_Compare1 (thn (ha pins s σ H _ I h) fun v s1 ⟨x, H1, I1, r1, q1⟩ => thn (hb pins s1 σ H1 _ I1 q1) fun u s2 ⟨y, H2, I2, r2, q2⟩ =>
    thn (ho pins s2 σ H2 x y v u _ I2 r1 r2 q2) fun c s3 ⟨z, H3, I3, r3, k, e, q3⟩ => ?_) hm
  subst e
  cases r3
  exact wpAny_truthy_bool ⟨H3, I3, q3⟩
theorem line63 : (sizeLine : Nat) < 2 ^ 63 := by rw [sizeLine_eq]; decide
theorem op_add_str : OpR X (binaryOp .Add) (fun x y H Q => ∃ i j, x = .str i ∧ y = .str j ∧ i.length + j.length ≤ sizeLine ∧ Q (.str (i ++ j)) H) := by
  intro pins s σ H x y v u Q I rx ry h
  obtain ⟨i, j, rfl, rfl, hz, q⟩ := h
  obtain ⟨t, rfl⟩ := rx
  obtain ⟨t', rfl⟩ := ry
  exact add_str (fun t' tk => ⟨.str (i ++ j), H, I.tok _, ⟨_, rfl⟩, q⟩) hz
theorem vals1 {x : V} {us : List Value} (r : Vals [x] us) : ∃ u, us = [u] ∧ RelV x u := by
  cases r with
  | cons r1 r2 => cases r2; exact ⟨_, rfl, r1⟩
theorem vals2 {x y : V} {us : List Value} (r : Vals [x, y] us) : ∃ u w', us = [u, w'] ∧ RelV x u ∧ RelV y w' := by
  cases r with
  | cons r1 r2 =>
    cases r2 with
    | cons r3 r4 => cases r4; exact ⟨_, _, rfl, r1, r3⟩
theorem call_max2 (hc : X.calm = true) : CallR X (.builtin "max") (fun xs H Q => ∃ i j, xs = [.int i, .int j] ∧ Q (.int (if j > i then j else i)) H) := by
  intro pins s σ H xs us Q I r h
  obtain ⟨i, j, rfl, q⟩ := h
  obtain ⟨u, w', rfl, ⟨t, rfl⟩, ⟨t', rfl⟩⟩ := vals2 r
  refine max_two_ints (I.ok.hd hc) fun h' tk k => ⟨_, H, I.kept k, ?_, q⟩
  by_cases hj : j > i
  · rw [if_pos hj, if_pos hj]; exact ⟨_, rfl⟩
  · rw [if_neg hj, if_neg hj]; exact ⟨_, rfl⟩
end
end L2
namespace L2
open PySem PySem.Spec PyProof.Rows
structure ObjM (h : Heap) (x dx C : Addr) (mA : Str → Option Value) : Prop where
  obj : h.get? x = some (PySem.W.instObj C dx)
  ns : h.Ns1 dx mA
  ne : dx ≠ x
theorem lookIn_ns {h : Heap} {dx : Addr} {mA : Str → Option Value} (n : h.Ns1 dx mA) : ∃ od, h.get? dx = some od ∧ ∀ name, PySem.W.lookIn name od = some (mA name) := by
  obtain ⟨o, es, ep, ho, hd, hk, _, hm⟩ := n
  refine ⟨o, ho, fun name => ?_⟩
  have e := hm name
  unfold nsFind findBy at e
  rw [← Array.find?_toList] at e
  unfold PySem.W.lookIn
  rw [hd]
  dsimp only
  split
  · rename_i y q
    rw [q] at e
    exact congrArg some e
  · rename_i q
    rw [q] at e
    have a : es.toList.any (·.refKey) = false := by
      rw [List.any_eq_false]
      intro y hy
      obtain ⟨z, t, hkey⟩ := hk y (Array.mem_toList_iff.mp hy)
      simp [DictEntry.refKey, hkey]
    have a' : ¬ es.toList.any (·.refKey) = true := by rw [a]; exact Bool.false_ne_true
    rw [if_neg a']
    exact congrArg some e
theorem ObjM.look {h : Heap} {x dx C : Addr} {mA : Str → Option Value} (I : ObjM h x dx C mA) : ∃ od, PySem.W.InstAt h x (PySem.W.instObj C dx) C (some od) ∧ ∀ name, PySem.W.lookIn name od = some (mA name) :=
  let ⟨od, ho, hl⟩ := lookIn_ns I.ns
  ⟨od, ⟨I.obj, rfl, rfl, ho⟩, hl⟩
section
variable {prog : Program} {w : World} {A : Around} {E : Value → Shared → Prop} {s : Shared} {K : PySem.W.Frag} {x dx C f : Addr} {mA : Str → Option Value} {name : Str} {v : Value}
theorem get_map {expr : Bool} {Q : Value → Shared → Prop} (X : K.In s.heap) (I : ObjM s.heap x dx C mA) (hg : PySem.W.plainGet K C name = true) (hh : PySem.W.hasDictIn K C = true)
    (ha : PySem.W.findIn K (.ref C) name = some none) (hv : mA name = some v) (hv' : PySem.W.handedIn v = true) (h : Q v { s with toks := s.toks + 1 }) :
    wpAny (model prog w) A (getAttr (.ref x) name expr) Q E s := by
  obtain ⟨od, J, hl⟩ := I.look
  exact PySem.W.get_value X J (PySem.W.plainGet_of hg).1 (PySem.W.findObj_own hh ha rfl (by rw [hl, hv])) hv' h
theorem get_meth {pl : Sem Bool} {Q : Value × List Value → Shared → Prop} (X : K.In s.heap) (I : ObjM s.heap x dx C mA) (hg : PySem.W.plainGet K C name = true)
    (hf : PySem.W.findIn K (.ref C) name = some (some (.ref f))) (ht : PySem.W.isFn K (.ref f) = true) (hv : mA name = none) (h : Q (.ref f, [.ref x]) s) :
    wpAny (model prog w) A (getMethod (.ref x) name pl) Q E s := by
  obtain ⟨od, J, hl⟩ := I.look
  exact PySem.W.method_fn X J (PySem.W.plainGet_of hg).1 (PySem.W.plainGet_of hg).2 hf (beq_iff_eq.mp ht) (by show (PySem.W.lookIn name od).map (·.isSome) = some false; rw [hl, hv]; rfl) h
theorem set_map {ns : List Str} {Q : Unit → Shared → Prop} (X : K.In s.heap) (I : ObjM s.heap x dx C mA)
    (hs : PySem.W.findIn K (.ref C) "__setattr__" = some (some (.builtin "object.__setattr__"))) (hp : PySem.W.plainOver K C = true) (ht : PySem.W.takerIn K C name = some none) (hh : PySem.W.hasDictIn K C = true)
    (hw : PySem.Within mA ns) (hsz : ns.length ≤ sizeLine)
    (h : ∀ h', ObjM h' x dx C (fun y => if y = name then some v else mA y) → Heap.SameBut dx s.heap h' → Q () { s with heap := h', toks := s.toks + 2 }) :
    wpAny (model prog w) A (setAttr (.ref x) name v) Q E s := by
  obtain ⟨od, J, hl⟩ := I.look
  refine PySem.W.set_plain X J hs (PySem.W.osa_open (s := { s with toks := s.toks + 1 }) (r := none) X J hp ht fun b => ?_)
  obtain ⟨cd, hc, hd'⟩ := PySem.W.any_some hh
  have hx : s.heap.get? x = some ⟨.ref C, some dx, .plain, #[]⟩ := I.obj
  refine wpAny_bind (wpAny_pure (wpAny_bind (wpAny_bind (wpAny_loadPart hx (wpAny_bind (PySem.W.Looks.here (s := { s with toks := s.toks + 1 }) (PySem.W.looks_clsIn X hc) ?_))))))
  rw [hd']
  refine wpAny_pure (a := some dx) (wpAny_bind (wpAny_pure (wpAny_bind ?_)))
  refine wpAny_nsSet1 (s := { s with toks := s.toks + 1 }) I.ns fun h' hn2 hs2 => ?_
  obtain ⟨oD, esD, epD, hoD, hdD, hcD⟩ := hn2.count (PySem.Within.cons name v hw)
  refine wpAny_bind (wpAny_lookBehind hoD (by rw [hdD]; exact pastItsLine_dict (Nat.le_trans hcD (by rw [List.length_cons]; omega))) ?_)
  exact wpAny_pure (h _ ⟨(hs2.2 _ (Ne.symm I.ne)).trans I.obj, hn2, I.ne⟩ hs2)
theorem make_map {R : Result → Shared → Prop} {vs : List Value} {kw : List (Str × Value)} (X : K.In s.heap) (hm : PySem.W.makesIn K C = true)
    (hi : PySem.W.findIn K (.ref C) "__init__" = some (some (.ref f))) (hf : PySem.W.typeIn K (.ref f) = some (.type "function"))
    (h : codeAny (model prog w) (A.under (.builtin "type.__call__" ⟨.ref C :: vs, kw⟩)) (.call (.ref f) ⟨.ref (s.heap.objs.size + 1) :: vs, kw⟩) (PySem.W.InitBack (s.heap.objs.size + 1) R)
      { s with heap := (s.heap.push PySem.W.emptyDict).push (PySem.W.instObj C s.heap.objs.size) }) :
    codeAny (model prog w) A (.call (.ref C) ⟨vs, kw⟩) R s := by
  obtain ⟨hh, g, d, t, os⟩ := s
  exact PySem.W.make_core (PySem.W.makes_of X hm) (PySem.W.looks_findIn X hi) (fun self => PySem.W.bind_fn X self hf) (.inl rfl) h
end
def putF (f : Str) (v : V) : List (Str × V) → List (Str × V)
  | [] => [(f, v)]
  | (g, x) :: r => if g = f then (g, v) :: r else (g, x) :: putF f v r
theorem lookup_putF (f g : Str) (v : V) : ∀ fs : List (Str × V), (putF f v fs).lookup g = if g = f then some v else fs.lookup g
  | [] => by
    show List.lookup g [(f, v)] = _
    by_cases h : g = f
    · have hb : (g == f) = true := beq_iff_eq.mpr h
      simp only [List.lookup, hb, if_pos h]
    · have hb : (g == f) = false := beq_eq_false_iff_ne.mpr h
      simp only [List.lookup, hb, if_neg h]
  | (k, x) :: r => by
    have ih := lookup_putF f g v r
    rw [show putF f v ((k, x) :: r) = (if k = f then (k, v) :: r else (k, x) :: putF f v r) from rfl]
    by_cases hk : k = f
    · rw [if_pos hk]
      by_cases h : g = k
      · have hb : (g == k) = true := beq_iff_eq.mpr h
        simp only [List.lookup, hb, if_pos (h.trans hk)]
      · have hb : (g == k) = false := beq_eq_false_iff_ne.mpr h
        simp only [List.lookup, hb, if_neg (fun e : g = f => h (e.trans hk.symm))]
    · rw [if_neg hk]
      by_cases h : g = k
      · have hb : (g == k) = true := beq_iff_eq.mpr h
        simp only [List.lookup, hb, if_neg (fun e : g = f => hk (h.symm.trans e))]
      · have hb : (g == k) = false := beq_eq_false_iff_ne.mpr h
        simp only [List.lookup, hb]
        exact ih
theorem keys_putF (f : Str) (v : V) : ∀ fs : List (Str × V), f ∈ (putF f v fs).map (·.1) ∧ ∀ g, g ∈ fs.map (·.1) → g ∈ (putF f v fs).map (·.1)
  | [] => ⟨by simp [putF], fun g h => by simp at h⟩
  | (k, x) :: r => by
    obtain ⟨i1, i2⟩ := keys_putF f v r
    rw [show putF f v ((k, x) :: r) = (if k = f then (k, v) :: r else (k, x) :: putF f v r) from rfl]
    by_cases hk : k = f
    · rw [if_pos hk]
      subst hk
      exact ⟨by simp, fun g h => by simpa using h⟩
    · rw [if_neg hk]
      refine ⟨?_, fun g h => ?_⟩
      · rw [List.map_cons]
        exact List.mem_cons_of_mem _ i1
      · rw [List.map_cons] at h ⊢
        rcases List.mem_cons.mp h with e | e
        · exact List.mem_cons.mpr (.inl e)
        · exact List.mem_cons_of_mem _ (i2 g e)
theorem length_putF (f : Str) (v : V) : ∀ fs : List (Str × V), (putF f v fs).length ≤ fs.length + 1
  | [] => by simp [putF]
  | (k, x) :: r => by
    have ih := length_putF f v r
    rw [show putF f v ((k, x) :: r) = (if k = f then (k, v) :: r else (k, x) :: putF f v r) from rfl]
    by_cases hk : k = f
    · rw [if_pos hk, List.length_cons, List.length_cons]; omega
    · rw [if_neg hk, List.length_cons, List.length_cons]; omega
theorem RelO.some_of {v : V} {o : Option Value} (r : RelO (some v) o) : ∃ u, o = some u ∧ RelV v u := by
  cases o with
  | none => exact (show False from r).elim
  | some u => exact ⟨u, rfl, r⟩
theorem RelO.none_of {o : Option Value} (r : RelO none o) : o = none := by
  cases o with
  | none => rfl
  | some u => exact (show False from r).elim
theorem handed_of {v : V} {u : Value} (r : RelV v u) : PySem.W.handedIn u = true := by
  cases v with
  | non => cases (show u = Value.none from r); rfl
  | bl b => cases (show u = Value.bool b from r); rfl
  | int i => obtain ⟨t, e⟩ := (show ∃ t, u = Value.int i t from r); cases e; rfl
  | str x => obtain ⟨t, e⟩ := (show ∃ t, u = Value.str x t from r); cases e; rfl
  | byt b => obtain ⟨t, e⟩ := (show ∃ t, u = Value.bytes b t from r); cases e; rfl
  | flt b => obtain ⟨t, e⟩ := (show ∃ t, u = Value.float b t from r); cases e; rfl
  | ref a => cases (show u = Value.ref a from r); rfl
  | ty n => cases (show u = Value.type n from r); rfl
section
variable {P : Program} {w : World} {H H' : Hp} {h h' : Heap} {a C dx : Addr} {fs fs' : List (Str × V)}
theorem ins_get (hok : HOk P w H h) (e : H a = some (.ins C dx fs)) : ∃ mA, ObjM h a dx C mA ∧ (∀ f, RelO (fs.lookup f) (mA f)) ∧ PySem.Within mA (fs.map (·.1)) ∧ fs.length ≤ 1000 ∧ H dx = some (.own a) := by
  obtain ⟨d, z, ne, ob, mA, n, r, q⟩ := (show ObjOk P w H h a (.ins C dx fs) from hok a _ e)
  exact ⟨mA, ⟨ob, n, ne⟩, r, q, z, d⟩
end
structure Cls (K : PySem.W.Frag) (C : Addr) : Prop where
  pg : PySem.W.plainGet K C Str.empty = true
  hd : PySem.W.hasDictIn K C = true
  po : PySem.W.plainOver K C = true
  sa : PySem.W.findIn K (.ref C) "__setattr__" = some (some (.builtin "object.__setattr__"))
theorem Cls.get {K : PySem.W.Frag} {C : Addr} (c : Cls K C) (f : Str) : PySem.W.plainGet K C f = true := c.pg
def NoAttr (K : PySem.W.Frag) (C : Addr) (f : Str) : Prop := PySem.W.findIn K (.ref C) f = some none
theorem NoAttr.taker {K : PySem.W.Frag} {C : Addr} {f : Str} (n : NoAttr K C f) : PySem.W.takerIn K C f = some none := by
  unfold PySem.W.takerIn
  rw [show PySem.W.findIn K (.ref C) f = some none from n]
  rfl
structure Meth (K : PySem.W.Frag) (C : Addr) (m : Str) (f : Addr) : Prop where
  at_ : PySem.W.findIn K (.ref C) m = some (some (.ref f))
  fn : PySem.W.isFn K (.ref f) = true
  kp : PySem.W.keepIn K (.ref f) = true
section
variable {X : Cx} {pins : List (Addr × Obj)} {σ : St} {H : Hp} {s : Shared} {a C dx : Addr} {fs : List (Str × V)} {f : Str} {v : V} {A : Around} {E : Value → Shared → Prop}
theorem getattr_ok {b : Bool} {Q : Value → Shared → Prop} (I : Inv X pins σ H s) (e : H a = some (.ins C dx fs)) (c : Cls X.K C) (n : NoAttr X.K C f) (l : fs.lookup f = some v)
    (h : ∀ u s', Inv X pins σ H s' → RelV v u → Q u s') : wpAny (model X.prog X.w) A (getAttr (.ref a) f b) Q E s := by
  obtain ⟨mA, O, r, _, _, _⟩ := ins_get I.hok e
  obtain ⟨u, hu, ru⟩ := RelO.some_of (v := v) (o := mA f) (by rw [← l]; exact r f)
  exact get_map I.kIn O (c.get f) c.hd n hu (handed_of ru) (h u _ (I.tok _) ru)
theorem getmeth_ok {m : Str} {g : Addr} {pl : Sem Bool} {Q : Value × List Value → Shared → Prop} (I : Inv X pins σ H s) (e : H a = some (.ins C dx fs)) (c : Cls X.K C) (k : Meth X.K C m g) (l : fs.lookup m = none)
    (h : Q (.ref g, [.ref a]) s) : wpAny (model X.prog X.w) A (getMethod (.ref a) m pl) Q E s := by
  obtain ⟨mA, O, r, _, _, _⟩ := ins_get I.hok e
  have hn : mA m = none := RelO.none_of (by rw [← l]; exact r m)
  exact get_meth I.kIn O (c.get m) k.at_ k.fn hn h
theorem setattr_ok {y : V} {u : Value} {Q : Unit → Shared → Prop} (I : Inv X pins σ H s) (e : H a = some (.ins C dx fs)) (c : Cls X.K C) (n : NoAttr X.K C f) (hl : fs.length < 1000) (ry : RelV y u)
    (h : ∀ s', Inv X pins σ (upd H a (.ins C dx (putF f y fs))) s' → Q () s') : wpAny (model X.prog X.w) A (setAttr (.ref a) f u) Q E s := by
  obtain ⟨mA, O, r, wi, _, ho⟩ := ins_get I.hok e
  have hz : (fs.map (·.1)).length ≤ sizeLine := by rw [List.length_map, sizeLine_eq]; omega
  refine set_map I.kIn O c.sa c.po n.taker c.hd wi hz fun h' O' sb => h _ ?_
  have hd : ∃ o, h'.get? dx = some o := let ⟨o, _, _, e', _⟩ := O'.ns; ⟨o, e'⟩
  refine I.write (x := a) (e := dx) (by rw [e]; exact True.intro) (.inr ho) (fun b q hb z => (sb.2 b hb).trans z) hd ?_
  refine ⟨by rw [upd_ne O.ne]; exact ho, ?_, O.ne, O'.obj, _, O'.ns, fun g => ?_, fun g hg => ?_⟩
  · have := length_putF f y fs; omega
  · show RelO ((putF f y fs).lookup g) (if g = f then some u else mA g)
    rw [lookup_putF]
    by_cases q : g = f
    · rw [if_pos q, if_pos q]; exact ry
    · rw [if_neg q, if_neg q]; exact r g
  · by_cases q : g = f
    · rw [q]; exact (keys_putF f y fs).1
    · refine (keys_putF f y fs).2 g (wi g fun z => hg ?_)
      show (if g = f then some u else mA g) = none
      rw [if_neg q]; exact z
theorem Inv.made (I : Inv X pins σ H s) : Inv X pins σ (upd (upd H s.heap.objs.size (.own (s.heap.objs.size + 1))) (s.heap.objs.size + 1) (.ins C s.heap.objs.size []))
    { s with heap := (s.heap.push PySem.W.emptyDict).push (PySem.W.instObj C s.heap.objs.size) } := by
  have e1 : (s.heap.push PySem.W.emptyDict).get? s.heap.objs.size = some PySem.W.emptyDict := Heap.get?_push_size s.heap rfl
  have e2 : ((s.heap.push PySem.W.emptyDict).push (PySem.W.instObj C s.heap.objs.size)).get? (s.heap.objs.size + 1) = some (PySem.W.instObj C s.heap.objs.size) := by
    have := Heap.get?_push_size (s.heap.push PySem.W.emptyDict) (o := PySem.W.instObj C s.heap.objs.size) rfl
    rwa [Heap.size_push] at this
  have e3 : (s.heap.push PySem.W.emptyDict).Ns s.heap.objs.size (fun _ => none) := ⟨PySem.W.emptyDict, #[], _, e1, rfl, (fun e he => absurd he (by simp)), fun _ => rfl⟩
  have I1 := I.laid (a := s.heap.objs.size) (o := .own (s.heap.objs.size + 1)) (h' := s.heap.push PySem.W.emptyDict) (t' := s.toks) (fun b u q => Heap.get?_push_of_some _ q) (Nat.le_refl _) ⟨_, e1⟩
  refine I1.laid (a := s.heap.objs.size + 1) (o := .ins C s.heap.objs.size []) (t' := s.toks) (fun b u q => Heap.get?_push_of_some _ q) (Nat.le_of_eq (Heap.size_push _ _)) ?_
  have ne : s.heap.objs.size ≠ s.heap.objs.size + 1 := Nat.ne_of_lt (Nat.lt_succ_self _)
  refine ⟨by rw [upd_ne ne, upd_same], Nat.zero_le _, ne, e2, fun _ => none, (Heap.Ns1.of_empty e3).at fun o q => Heap.get?_push_of_some _ q, fun _ => True.intro, fun y hy => absurd rfl hy⟩
theorem attr_of {prog : Program} {w : World} {env : Env} {e : Expr} {f : Str} {pos : Pos} {s : Shared} {Q : Value → Shared → Prop} (hb : attributeBase e f env (eval e env) = eval e env)
    (h : wpAny (model prog w) A (eval e env) (fun o s₁ => wpAny (model prog w) A (getAttr o f true) Q E s₁) E s) : wpAny (model prog w) A (eval (.Attribute e f pos) env) Q E s :=
  Attribute_any_ h (by rw [arm_eval_Attribute, hb])
end
def tFld (K : PySem.W.Frag) (ta : TE) (f : Str) : TE := fun σ H Q => ta σ H fun x H1 => ∃ a C dx fs v, x = .ref a ∧ H1 a = some (.ins C dx fs) ∧ Cls K C ∧ NoAttr K C f ∧ fs.lookup f = some v ∧ Q v H1
def sFld (K : PySem.W.Frag) (ta tv : TE) (f : Str) : TS := fun D σ H => tv σ H fun y H1 => ta σ H1 fun x H2 => ∃ a C dx fs, x = .ref a ∧ H2 a = some (.ins C dx fs) ∧ Cls K C ∧ NoAttr K C f ∧ fs.length < 1000 ∧
  D.nx σ (upd H2 a (.ins C dx (putF f y fs)))
section
variable {X : Cx} {o e value : Expr} {f : Str} {pos pos' tpos : Pos} {ta tv : TE}
theorem pe_fld (he : PE X e ta) (hb : attributeBase e f X.env (eval e X.env) = eval e X.env) : PE X (.Attribute e f pos) (tFld X.K ta f) := by
  intro pins s σ H Q I h
  refine attr_of hb (thn (he pins s σ H _ I h) fun u s1 ⟨x, H1, I1, rx, a, C, dx, fs, v, ex, ea, c, n, l, q⟩ => ?_)
  subst ex
  obtain rfl : u = Value.ref a := rx
  exact getattr_ok I1 ea c n l fun u' s2 I2 ru => ⟨v, H1, I2, ru, q⟩
theorem ps_fld (ha : PE X o ta) (hv : PE X value tv) (hs : swapsWith value (some (.Attribute o f pos')) pos.line X.env = pure false) : PS X (.Assign [.Attribute o f pos'] value pos) (sFld X.K ta tv f) := by
  intro pins s σ H D I h
  refine plainObj_wpAny_Assign_Attribute (thn (hv pins s σ H _ I h) fun u s1 ⟨y, H1, I1, ry, q⟩ => thn (ha pins s1 σ H1 _ I1 q) fun ov s2 ⟨x, H2, I2, rx, a, C, dx, fs, ex, ea, c, n, l, q2⟩ => ?_) hs
  subst ex
  obtain rfl : ov = Value.ref a := rx
  exact setattr_ok I2 ea c n l ry fun s3 I3 => ⟨σ, _, I3, q2⟩
theorem methcall_of {pl : Sem Bool} {m : Str} {apos : Pos} {args : List Expr} {pins : List (Addr × Obj)} {s : Shared} {σ : St} {H : Hp} {Q : Value → Shared → Prop} {te : TE} (he : PE X e te) (I : Inv X pins σ H s)
    (h : te σ H fun x H1 => ∃ a C dx fs g, x = .ref a ∧ H1 a = some (.ins C dx fs) ∧ Cls X.K C ∧ Meth X.K C m g ∧ fs.lookup m = none ∧
      ∀ s1, Inv X pins σ H1 s1 → wpAny (model X.prog X.w) X.A (callWith pos (.ref g) [.ref a] (backTo pos (starEach args X.env)) (backToKw pos (keywordEach [] X.env))) Q X.xe s1)
    (ht : eval (.Call (.Attribute e m apos) args [] pos) X.env = (do
      let ov ← eval e X.env
      standAt apos.atName
      let (f, first) ← holding [ov] (getMethod ov m pl)
      callWith pos f first (backTo pos (starEach args X.env)) (backToKw pos (keywordEach [] X.env)))) :
    wpAny (model X.prog X.w) X.A (eval (.Call (.Attribute e m apos) args [] pos) X.env) Q X.xe s := by
  refine PySem.W.methodCall_KW (pl := pl) (thn (he pins s σ H _ I h) fun u s1 ⟨x, H1, I1, rx, a, C, dx, fs, g, ex, ea, c, k, l, q⟩ => ?_) ht
  subst ex
  obtain rfl : u = Value.ref a := rx
  exact getmeth_ok I1 ea c k l (q s1 I1)
end
section
variable {X : Cx} {pins : List (Addr × Obj)} {σ : St} {H : Hp} {s : Shared} {A : Around} {E : Value → Shared → Prop} {Q : Value → Shared → Prop} {c : Value} {b : Bool}
inductive TyOf (K : PySem.W.Frag) (H : Hp) : V → Value → Prop where
  | non : TyOf K H .non (.type "NoneType")
  | bl (x : Bool) : TyOf K H (.bl x) (.type "bool")
  | int (i : Int) : TyOf K H (.int i) (.type "int")
  | str (x : Str) : TyOf K H (.str x) (.type "str")
  | flt (x : UInt64) : TyOf K H (.flt x) (.type "float")
  | lst {a : Addr} {xs : List V} (e : H a = some (.lst xs)) : TyOf K H (.ref a) (.type "list")
  | frz {a : Addr} {o : Obj} {xs : List V} (e : H a = some (.frz o (.lst xs))) : TyOf K H (.ref a) (.type "list")
  | tup {a : Addr} {xs : List V} (e : H a = some (.tup xs)) : TyOf K H (.ref a) (.type "tuple")
  | dK {a : Addr} {kvs : List (Key × V)} (e : H a = some (.dK kvs)) : TyOf K H (.ref a) (.type "dict")
  | dT {a : Addr} {kvs : List (List Key × V)} (e : H a = some (.dT kvs)) : TyOf K H (.ref a) (.type "dict")
  | ins {a C dx : Addr} {fs : List (Str × V)} (e : H a = some (.ins C dx fs)) (cl : Cls K C) (ha : PySem.W.findIn K (.ref C) "__class__" = some (some (.builtin "object.__class__")))
      (hn : PySem.W.specialIn K (.builtin "object.__class__") "__get__" = some (some (.builtin "getset_descriptor.__get__"))) (htk : PySem.W.takesIn K (.builtin "object.__class__") = some true)
      (hm : PySem.W.mroIn K C (.type "object") = some true) : TyOf K H (.ref a) (.ref C)
theorem isinst_ok {x : V} {u t : Value} (I : Inv X pins σ H s) (rx : RelV x u) (ty : TyOf X.K H x t) (e : PySem.W.kitOne X.K t c = some b) (h : ∀ tk, Q (.bool b) { s with toks := tk }) :
    wpAny (model X.prog X.w) A (call (.builtin "isinstance") [u, c]) Q E s := by
  cases ty with
  | non => cases (show u = Value.none from rx); exact PySem.W.kia_one PySem.W.kitx_none I.kIn True.intro e (fun z => nomatch z) h
  | bl y => cases (show u = Value.bool y from rx); exact PySem.W.kia_one PySem.W.kitx_bool I.kIn True.intro e (fun z => nomatch z) h
  | int i => obtain ⟨t, q⟩ := (show ∃ t, u = Value.int i t from rx); cases q; exact PySem.W.kia_one PySem.W.kitx_int I.kIn True.intro e (fun z => nomatch z) h
  | str y => obtain ⟨t, q⟩ := (show ∃ t, u = Value.str y t from rx); cases q; exact PySem.W.kia_one PySem.W.kitx_str I.kIn True.intro e (fun z => nomatch z) h
  | flt y => obtain ⟨t, q⟩ := (show ∃ t, u = Value.float y t from rx); cases q; exact PySem.W.kia_one PySem.W.kitx_float I.kIn True.intro e (fun z => nomatch z) h
  | @lst a xs ea =>
    cases (show u = Value.ref a from rx)
    obtain ⟨_, _, n, _, h1⟩ := (show ObjOk X.prog X.w H s.heap a (.lst xs) from I.hok a _ ea)
    exact PySem.W.kia_one PySem.W.kitx_list I.kIn ⟨_, h1, rfl⟩ e (fun z => nomatch z) h
  | @frz a ob xs ea =>
    cases (show u = Value.ref a from rx)
    obtain ⟨_, _, _, n, _, h1⟩ := (show ObjOk X.prog X.w H s.heap a (.frz ob (.lst xs)) from I.hok a _ ea)
    exact PySem.W.kia_one PySem.W.kitx_list I.kIn ⟨_, h1, rfl⟩ e (fun z => nomatch z) h
  | @tup a xs ea =>
    cases (show u = Value.ref a from rx)
    obtain ⟨_, _, _, p⟩ := (show ObjOk X.prog X.w H s.heap a (.tup xs) from I.hok a _ ea)
    obtain ⟨o, h1, h2, _⟩ := p
    exact PySem.W.kia_one PySem.W.kitx_tuple I.kIn ⟨o, h1, h2⟩ e (fun z => nomatch z) h
  | @dK a kvs ea =>
    cases (show u = Value.ref a from rx)
    obtain ⟨_, _, vs, _, p⟩ := (show ObjOk X.prog X.w H s.heap a (.dK kvs) from I.hok a _ ea)
    obtain ⟨o, es, ep, h1, h2, _⟩ := p
    exact PySem.W.kia_one PySem.W.kitx_dict I.kIn ⟨o, h1, h2.1⟩ e (fun z => nomatch z) h
  | @dT a kvs ea =>
    cases (show u = Value.ref a from rx)
    obtain ⟨_, _, xs, _, o, es, ep, h1, h2, _⟩ := (show ObjOk X.prog X.w H s.heap a (.dT kvs) from I.hok a _ ea)
    exact PySem.W.kia_one PySem.W.kitx_dict I.kIn ⟨o, h1, h2.1⟩ e (fun z => nomatch z) h
  | @ins a C dx fs ea cl ha hn htk hm =>
    cases (show u = Value.ref a from rx)
    obtain ⟨mA, O, _⟩ := ins_get I.hok ea
    obtain ⟨od, J, _⟩ := O.look
    exact PySem.W.kia_one (PySem.W.kitx_own (cl.get _) cl.hd ha hn htk hm) I.kIn J e (fun z => nomatch z) h
end
end L2
namespace L2
open PySem PySem.Spec PyProof.Rows
structure Room (k : Nat) (A : Around) : Prop where
  hd : A.handled = none
  dp : A.depth + 3 * k + 5 < recursionLimit
  un : A.units + 16 * k + 200 < cLine
theorem Room.mono {j k : Nat} {A : Around} (r : Room k A) (h : j ≤ k) : Room j A := ⟨r.hd, by have := r.dp; omega, by have := r.un; omega⟩
theorem Room.deeper {k : Nat} {A : Around} (r : Room (k + 1) A) (env : Env) : Room k (A.deeper env) :=
  ⟨r.hd, by have := r.dp; show A.depth + 1 + 3 * k + 5 < _; omega, by have := r.un; show A.units + 3 + 16 * k + 200 < _; omega⟩
theorem make_depth {A : Around} {C : Addr} {us : List Value} {kw : List (Str × Value)} : (A.under (.builtin "type.__call__" ⟨.ref C :: us, kw⟩)).depth = A.depth + 1 := by
  first | rfl | simp [Around.under, Code.weight, Code.isCreation, Code.isGuard, Code.isCaller, Code.frames, Code.isFrame, guardIds]
theorem make_units {A : Around} {C : Addr} {us : List Value} {kw : List (Str × Value)} : (A.under (.builtin "type.__call__" ⟨.ref C :: us, kw⟩)).units = A.units + 1 := by
  first | rfl | simp [Around.under, Code.cUnits, Code.frames, Code.isFrame]
theorem Room.make {k : Nat} {A : Around} (r : Room (k + 1) A) (C : Addr) (us : List Value) (kw : List (Str × Value)) : Room k (A.under (.builtin "type.__call__" ⟨.ref C :: us, kw⟩)) :=
  ⟨r.hd, by have := r.dp; rw [make_depth]; omega, by have := r.un; rw [make_units]; omega⟩
theorem Room.depth {k : Nat} {A : Around} (r : Room k A) : A.depth < recursionLimit := by have := r.dp; omega
theorem Room.units {k : Nat} {A : Around} (r : Room k A) : A.units + 64 < cLine := by have := r.un; omega
def tNil : TA := fun _ H Q => Q [] H
def tCons (ta : TE) (tr : TA) : TA := fun σ H Q => ta σ H fun x H1 => tr σ H1 fun xs H2 => Q (x :: xs) H2
section
variable {X : Cx} {e : Expr} {es : List Expr} {te : TE} {t : TA} {pos : Pos}
theorem pa_nil : PA X [] tNil := fun _ _ _ _ H Q I h => Calls.spliced_nil ⟨[], H, I, .nil, h⟩
theorem pa_cons (ha : PE X e te) (hr : PA X es t) (hs : starEach (e :: es) X.env = (false, eval e X.env) :: starEach es X.env := by rfl) : PA X (e :: es) (tCons te t) := by
  intro pos pins s σ H Q I h
  rw [hs]
  show wpAny _ _ (spliced ((false, eval e X.env) :: backTo pos (starEach es X.env))) _ _ s
  refine Calls.spliced_cons (thn (ha pins s σ H _ I h) fun u s1 ⟨x, H1, I1, r1, q1⟩ => ?_)
  exact thn (hr pos pins s1 σ H1 _ I1 q1) fun us s2 ⟨xs, H2, I2, r2, q2⟩ => ⟨x :: xs, H2, I2, .cons r1 r2, q2⟩
def tTup (t : TA) : TE := fun σ H Q => t σ H fun xs H1 => xs.length ≤ sizeLine ∧ ∀ p, H1 p = none → Q (.ref p) (upd H1 p (.tup xs))
def tLst (t : TA) : TE := fun σ H Q => t σ H fun xs H1 => xs.length ≤ sizeLine ∧ ∀ p, H1 p = none → Q (.ref p) (upd H1 p (.lst xs))
theorem pe_tup {x1} (h : PA X es t) : PE X (.Tuple es x1 pos) (tTup t) := by
  intro pins s σ H Q I hq
  refine wpAny_Tuple_spliced (thn (h pos pins s σ H _ I hq) fun us s1 ⟨xs, H1, I1, r, z, q⟩ => ⟨by rw [← r.length]; exact z, ?_⟩)
  have hf : H1 s1.heap.objs.size = none := I1.hok.fresh (Nat.le_refl _)
  refine ⟨.ref s1.heap.objs.size, upd H1 s1.heap.objs.size (.tup xs), I1.laid (t' := s1.toks) (fun b u e => Heap.get?_push_of_some _ e) (Nat.le_refl _) ?_, rfl, q _ hf⟩
  exact ⟨z, us, r, ⟨_, Heap.get?_push_size _ rfl, rfl, _, rfl⟩⟩
theorem pe_lst (h : PA X es t) : PE X (.List es pos) (tLst t) := by
  intro pins s σ H Q I hq
  refine wpAny_List_spliced (thn (h pos pins s σ H _ I hq) fun us s1 ⟨xs, H1, I1, r, z, q⟩ => ⟨by rw [← r.length]; exact z, ?_⟩)
  have hf : H1 s1.heap.objs.size = none := I1.hok.fresh (Nat.le_refl _)
  refine ⟨.ref s1.heap.objs.size, upd H1 s1.heap.objs.size (.lst xs), I1.laid (t' := s1.toks) (fun b u e => Heap.get?_push_of_some _ e) (Nat.le_refl _) ?_, rfl, q _ hf⟩
  exact ⟨z, us, 0, r, Heap.get?_push_size _ rfl⟩
end
abbrev Sp := List V → Hp → VK → XK → Prop
abbrev CXT := List Env → Hp → Shared → XK → Value → Shared → Prop
structure Env0 (P : Program) (w : World) (K : PySem.W.Frag) (mg : Str → Option Value) (base : Heap) (A : Around) (outer : List Env) (s : Shared) (H : Hp) : Prop where
  frames : A.frames = some outer
  mod : Mod K mg base
  bs : ∀ b o, base.get? b = some o → s.heap.get? b = some o ∧ H b = none
  bsz : base.objs.size ≤ s.heap.objs.size
  funs : s.heap.FunFrames base outer
  frf : ∀ b ∈ frs outer, H b = none
  hok : HOk P w H s.heap
  bare : AllBare s.gens
def CE (outer : List Env) (P : Program) (w : World) (H : Hp) (s : Shared) (Q : VK) (u : Value) (s' : Shared) : Prop :=
  ∃ v H', s'.os = s.os ∧ AllBare s'.gens ∧ Un (frs outer) [] H H' s.heap s'.heap ∧ HOk P w H' s'.heap ∧ RelV v u ∧ Q v H'
def CR (CX : CXT) (outer : List Env) (P : Program) (w : World) (H : Hp) (s : Shared) (Q : VK) (E : XK) (r : Result) (s' : Shared) : Prop :=
  match r with
  | .ok (.ret u) => CE outer P w H s Q u s'
  | .ok _ => False
  | .error e => CX outer H s E e s'
structure FnOk (P : Program) (w : World) (K : PySem.W.Frag) (mg : Str → Option Value) (base : Heap) (CX : CXT) (k : Nat) (f : Addr) (fd : FuncData) (ps : List Str) (sp : Sp) : Prop where
  len : ∀ vs H Q E, sp vs H Q E → vs.length = ps.length
  run : ∀ (A : Around) (outer : List Env) (s : Shared) (H : Hp) (args : Args) (us : List Value) (vs : List V) (Q : VK) (E : XK), Room k A → Env0 P w K mg base A outer s H → BindsTo s fd args (ps.zip us) → Vals vs us → sp vs H Q E →
    codeAny (model P w) A (.call (.ref f) args) (CR CX outer P w H s Q E) s
theorem Env0.make {P : Program} {w : World} {K : PySem.W.Frag} {mg : Str → Option Value} {base : Heap} {A : Around} {outer : List Env} {s : Shared} {H : Hp} (e : Env0 P w K mg base A outer s H) (C : Addr) (us : List Value) (kw : List (Str × Value)) :
    Env0 P w K mg base (A.under (.builtin "type.__call__" ⟨.ref C :: us, kw⟩)) outer s H := ⟨by first | exact e.frames | (simpa [Around.under, Code.envs, Code.isFrame, pushEnvs] using e.frames), e.mod, e.bs, e.bsz, e.funs, e.frf, e.hok, e.bare⟩
section
variable {X : Cx} {pins : List (Addr × Obj)} {σ : St} {H : Hp} {s s' : Shared}
theorem Inv.env0 (I : Inv X pins σ H s) : Env0 X.prog X.w X.K X.mg X.base X.A X.stack s H :=
  ⟨I.ok.frames, I.ok.mod, I.bs, Nat.le_trans I.ok.bsz I.sz, I.stack, I.stkFree, I.hok, I.bare⟩
theorem Inv.after {Q : VK} {u : Value} (I : Inv X pins σ H s) (h : CE X.stack X.prog X.w H s Q u s') : EP X pins σ Q u s' := by
  obtain ⟨v, H', os, bare, un, hok, r, q⟩ := h
  obtain ⟨hh, g, d, t, os'⟩ := s'
  obtain rfl : os' = s.os := os
  exact ⟨v, H', I.call (h' := hh) (g' := g) (d' := d) (t' := t) (ch := []) un hok bare (fun b z => absurd z (by simp)), r, q⟩
end
def tCall (sp : Sp) (dvs : List V) (E : XK) (t : TA) : TE := fun σ H Q => t σ H fun vs H1 => sp (vs ++ dvs) H1 Q E
def tMeth (C : Addr) (m : Str) (sp : Sp) (dvs : List V) (E : XK) (ta : TE) (t : TA) : TE := fun σ H Q => ta σ H fun x H1 => ∃ a dx fs, x = .ref a ∧ H1 a = some (.ins C dx fs) ∧ fs.lookup m = none ∧
  t σ H1 fun vs H2 => sp (x :: (vs ++ dvs)) H2 Q E
def tMake (C : Addr) (sp : Sp) (dvs : List V) (E : XK) (t : TA) : TE := fun σ H Q => t σ H fun vs H1 => ∀ x dx, H1 x = none → H1 dx = none → dx ≠ x →
  sp (.ref x :: (vs ++ dvs)) (upd (upd H1 dx (.own x)) x (.ins C dx [])) (fun v H2 => v = .non ∧ Q (.ref x) H2) E
def Binds (K : PySem.W.Frag) (fd : FuncData) (ps : List Str) (ds : List Value) : Prop :=
  ∀ (s : Shared) (us : List Value), K.In s.heap → (us ++ ds).length = ps.length → BindsTo s fd ⟨us, []⟩ (ps.zip (us ++ ds))
theorem Binds.all {K : PySem.W.Frag} {fd : FuncData} {ps : List Str} (h : ∀ us : List Value, us.length = ps.length → bindArgs fd ⟨us, []⟩ = pure (ps.zip us)) : Binds K fd ps [] := fun s us _ hl => by
  rw [List.append_nil] at hl ⊢
  exact .of_eq (h us hl)
def Passes (CX : CXT) (X : Cx) (E : XK) : Prop := ∀ (pins : List (Addr × Obj)) (σ : St) (H : Hp) (s : Shared) (e : Value) (s' : Shared), Inv X pins σ H s → CX X.stack H s E e s' → X.xe e s'
section
variable {X : Cx} {CX : CXT} {k : Nat} {f C : Addr} {fd : FuncData} {ps : List Str} {sp : Sp} {dvs : List V} {ds : List Value} {E : XK} {x m : Str} {p pos apos : Pos} {e o : Expr} {es : List Expr} {ta : TE} {t : TA}
theorem run_fn {pins : List (Addr × Obj)} {σ : St} {H : Hp} {s : Shared} {Q : VK} {us : List Value} {vs : List V} (F : FnOk X.prog X.w X.K X.mg X.base CX k f fd ps sp) (hr : Room k X.A) (hb : Binds X.K fd ps ds) (hd : Vals dvs ds) (hx : Passes CX X E)
    (I : Inv X pins σ H s) (r : Vals vs us) (h : sp (vs ++ dvs) H Q E) : wpAny (model X.prog X.w) X.A (call (.ref f) us) (EP X pins σ Q) X.xe s := by
  have r2 : Vals (vs ++ dvs) (us ++ ds) := r.append hd
  have hl : (us ++ ds).length = ps.length := by rw [← r2.length]; exact F.len _ _ _ _ h
  refine wpAny_call (codeAny_mono (F.run X.A X.stack s H ⟨us, []⟩ (us ++ ds) (vs ++ dvs) Q E hr I.env0 (hb s us I.kIn hl) r2 h) fun r s' hq => ?_)
  cases r with
  | error e => exact hx pins σ H s e s' I hq
  | ok fl =>
    cases fl with
    | ret u => exact I.after hq
    | next => exact False.elim hq
    | brk => exact False.elim hq
    | cont => exact False.elim hq
theorem pe_call (F : FnOk X.prog X.w X.K X.mg X.base CX k f fd ps sp) (hr : Room k X.A) (hg : Gl X x) (hm : X.mg x = some (.ref f)) (hk : PySem.W.keepIn X.K (.ref f) = true) (hb : Binds X.K fd ps ds) (hd : Vals dvs ds) (hx : Passes CX X E)
    (ha : PA X (e :: es) t) (hdb : (x == ("__debug__" : Str)) = false := by decide) (he : starEach (e :: es) X.env = (false, eval e X.env) :: starEach es X.env := by rfl) (hpl : (backTo pos (starEach es X.env)).any (·.1) = false := by rfl) :
    PE X (.Call (.Name x p) (e :: es) [] pos) (tCall sp dvs E t) := by
  intro pins s σ H Q I h
  refine wpAny_Call_Name_kw (ld_glob I hg hm ?_ hdb)
  refine PySem.W.callWith_K (h₀ := X.base) I.ok.mod.kin hk (thn (ha pos pins s σ H _ I h) fun us s1 ⟨vs, H1, I1, r, q⟩ => ⟨I1.kIn, ?_⟩) he hpl
  exact run_fn F hr hb hd hx I1 r q
theorem pe_meth {pl : Sem Bool} (he : PE X o ta) (c : Cls X.K C) (hm : Meth X.K C m f) (F : FnOk X.prog X.w X.K X.mg X.base CX k f fd ps sp) (hr : Room k X.A) (hb : Binds X.K fd ps ds) (hd : Vals dvs ds) (hx : Passes CX X E) (ha : PA X (e :: es) t)
    (hst : starEach (e :: es) X.env = (false, eval e X.env) :: starEach es X.env := by rfl) (hpl : (backTo pos (starEach es X.env)).any (·.1) = false := by rfl)
    (ht : eval (.Call (.Attribute o m apos) (e :: es) [] pos) X.env = (do
      let ov ← eval o X.env
      standAt apos.atName
      let (f, first) ← holding [ov] (getMethod ov m pl)
      callWith pos f first (backTo pos (starEach (e :: es) X.env)) (backToKw pos (keywordEach [] X.env))) := by rfl) :
    PE X (.Call (.Attribute o m apos) (e :: es) [] pos) (tMeth C m sp dvs E ta t) := by
  intro pins s σ H Q I h
  refine PySem.W.methodCall_KW (pl := pl) (thn (he pins s σ H _ I h) fun u s1 ⟨x, H1, I1, rx, a, dx, fs, ex, ea, l, q⟩ => ?_) ht
  subst ex
  obtain rfl : u = Value.ref a := rx
  refine getmeth_ok I1 ea c hm l ?_
  refine PySem.W.callWith_K (first := [.ref a]) (h₀ := X.base) I.ok.mod.kin hm.kp (thn (ha pos pins s1 σ H1 _ I1 q) fun us s2 ⟨vs, H2, I2, r, q2⟩ => ⟨I2.kIn, ?_⟩) hst hpl
  exact run_fn (us := .ref a :: us) (vs := .ref a :: vs) F hr hb hd hx I2 (.cons rfl r) q2
theorem pe_meth0 {pl : Sem Bool} (he : PE X o ta) (c : Cls X.K C) (hm : Meth X.K C m f) (F : FnOk X.prog X.w X.K X.mg X.base CX k f fd ps sp) (hr : Room k X.A) (hb : Binds X.K fd ps ds) (hd : Vals dvs ds) (hx : Passes CX X E)
    (ht : eval (.Call (.Attribute o m apos) [] [] pos) X.env = (do
      let ov ← eval o X.env
      standAt apos.atName
      let (f, first) ← holding [ov] (getMethod ov m pl)
      callWith pos f first (backTo pos (starEach [] X.env)) (backToKw pos (keywordEach [] X.env))) := by rfl) :
    PE X (.Call (.Attribute o m apos) [] [] pos) (tMeth C m sp dvs E ta tNil) := by
  intro pins s σ H Q I h
  refine PySem.W.methodCall_KW (pl := pl) (thn (he pins s σ H _ I h) fun u s1 ⟨x, H1, I1, rx, a, dx, fs, ex, ea, l, q⟩ => ?_) ht
  subst ex
  obtain rfl : u = Value.ref a := rx
  refine getmeth_ok I1 ea c hm l ?_
  exact PySem.W.callWith_K0 (first := [.ref a]) I1.kIn hm.kp (run_fn (us := [.ref a]) (vs := [.ref a]) F hr hb hd hx I1 (.cons rfl .nil) q)
structure Mk (K : PySem.W.Frag) (C f : Addr) : Prop where
  makes : PySem.W.makesIn K C = true
  init : PySem.W.findIn K (.ref C) "__init__" = some (some (.ref f))
  fn : PySem.W.isFn K (.ref f) = true
  kp : PySem.W.keepIn K (.ref C) = true
theorem run_make {pins : List (Addr × Obj)} {σ : St} {H : Hp} {s : Shared} {Q : VK} {us : List Value} {vs : List V} (M : Mk X.K C f) (F : FnOk X.prog X.w X.K X.mg X.base CX k f fd ps sp) (hr : Room (k + 1) X.A) (hb : Binds X.K fd ps ds) (hd : Vals dvs ds)
    (hx : Passes CX X E) (I : Inv X pins σ H s) (r : Vals vs us)
    (h : ∀ x dx, H x = none → H dx = none → dx ≠ x → sp (.ref x :: (vs ++ dvs)) (upd (upd H dx (.own x)) x (.ins C dx [])) (fun v H2 => v = .non ∧ Q (.ref x) H2) E) :
    wpAny (model X.prog X.w) X.A (call (.ref C) us) (EP X pins σ Q) X.xe s := by
  have hq := h (s.heap.objs.size + 1) s.heap.objs.size (I.hok.fresh (Nat.le_succ _)) (I.hok.fresh (Nat.le_refl _)) (Nat.ne_of_lt (Nat.lt_succ_self _))
  have I2 := Inv.made (C := C) I
  have r2 : Vals (V.ref (s.heap.objs.size + 1) :: (vs ++ dvs)) (Value.ref (s.heap.objs.size + 1) :: (us ++ ds)) := .cons rfl (r.append hd)
  have hl : (Value.ref (s.heap.objs.size + 1) :: us ++ ds).length = ps.length := by
    have e := r2.length
    rw [F.len _ _ _ _ hq] at e
    exact e.symm
  refine wpAny_call (make_map (f := f) I.kIn M.makes M.init (beq_iff_eq.mp M.fn) (codeAny_mono (F.run _ X.stack _ _ ⟨Value.ref (s.heap.objs.size + 1) :: us, []⟩ (Value.ref (s.heap.objs.size + 1) :: (us ++ ds)) _ _ E (hr.make C us [])
    (I2.env0.make C us []) (hb _ (Value.ref (s.heap.objs.size + 1) :: us) I2.kIn hl) r2 hq) fun r s' hq' => ?_))
  cases r with
  | error e => exact hx pins σ _ _ e s' I2 hq'
  | ok fl =>
    cases fl with
    | ret u =>
      obtain ⟨v, H', I3, rv, ev, q3⟩ := I2.after hq'
      subst ev
      exact ⟨rv, ⟨V.ref (s.heap.objs.size + 1), H', I3, rfl, q3⟩⟩
    | next => exact False.elim hq'
    | brk => exact False.elim hq'
    | cont => exact False.elim hq'
theorem pe_make (M : Mk X.K C f) (F : FnOk X.prog X.w X.K X.mg X.base CX k f fd ps sp) (hr : Room (k + 1) X.A) (hg : Gl X x) (hm : X.mg x = some (.ref C)) (hb : Binds X.K fd ps ds) (hd : Vals dvs ds) (hx : Passes CX X E)
    (ha : PA X (e :: es) t) (hdb : (x == ("__debug__" : Str)) = false := by decide) (he : starEach (e :: es) X.env = (false, eval e X.env) :: starEach es X.env := by rfl) (hpl : (backTo pos (starEach es X.env)).any (·.1) = false := by rfl) :
    PE X (.Call (.Name x p) (e :: es) [] pos) (tMake C sp dvs E t) := by
  intro pins s σ H Q I h
  refine wpAny_Call_Name_kw (ld_glob I hg hm ?_ hdb)
  refine PySem.W.callWith_K (h₀ := X.base) I.ok.mod.kin M.kp (thn (ha pos pins s σ H _ I h) fun us s1 ⟨vs, H1, I1, r, q⟩ => ⟨I1.kIn, ?_⟩) he hpl
  exact run_make M F hr hb hd hx I1 r q
end
section
variable {X : Cx} {CX : CXT} {k : Nat} {f C : Addr} {fd : FuncData} {ps ks : List Str} {sp : Sp} {E : XK} {x m : Str} {p pos apos kpos : Pos} {e o : Expr} {es : List Expr} {kws : List Keyword} {te ta : TE} {t tk : TA} {nm : Option Str}
variable {g : List Value → List Value → List Value} {gV : List V → List V → List V}
end
structure FnScope (N P : List Str) (sc : Scope) : Prop where
  kind : sc.kind = .function
  co : sc.isCoroutine = false
  gen : sc.isGenerator = false
  nd : N.Nodup
  pre : N.take P.length = P
  par : ∀ x ∈ P, sc.names.lookup x = some .local ∨ sc.names.lookup x = some .cell
  nofree : ∀ y ∈ sc.names, y.2 ≠ .free
theorem bindL_out {kindOf : Str → Option NameKind} {x : Str} : ∀ {binds : List (Str × Value)} {m : Str → Option Value}, (∀ v, (x, v) ∉ binds) → bindL kindOf binds m x = m x
  | [], _, _ => rfl
  | (n, v) :: r, m, h => by
    unfold bindL
    rw [bindL_out fun w hw => h w (List.mem_cons_of_mem _ hw)]
    split
    · have : x ≠ n := by rintro rfl; exact h v List.mem_cons_self
      simp [this]
    · rfl
theorem bindC_out {kindOf : Str → Option NameKind} {x : Str} : ∀ {binds : List (Str × Value)} {m : Str → Option Value}, (∀ v, (x, v) ∉ binds) → bindC kindOf binds m x = m x
  | [], _, _ => rfl
  | (n, v) :: r, m, h => by
    unfold bindC
    rw [bindC_out fun w hw => h w (List.mem_cons_of_mem _ hw)]
    split
    · rfl
    · have : x ≠ n := by rintro rfl; exact h v List.mem_cons_self
      simp [this]
theorem bindL_get {kindOf : Str → Option NameKind} {x : Str} {v : Value} : ∀ {P : List Str} {vs : List Value} {i : Nat} {m : Str → Option Value}, P.Nodup → P[i]? = some x → vs[i]? = some v → kindOf x = some .local →
    bindL kindOf (P.zip vs) m x = some v
  | [], _, _, _, _, h, _, _ => by simp at h
  | _ :: _, [], _, _, _, _, h, _ => by simp at h
  | p :: P, w :: vs, 0, m, nd, h1, h2, hk => by
    simp at h1 h2; subst h1; subst h2
    show bindL kindOf ((p, w) :: P.zip vs) m p = _
    unfold bindL
    rw [bindL_out fun v hv => (List.nodup_cons.mp nd).1 (List.of_mem_zip hv).1, if_pos hk]
    simp
  | p :: P, w :: vs, i + 1, m, nd, h1, h2, hk => by
    show bindL kindOf ((p, w) :: P.zip vs) m x = _
    unfold bindL
    exact bindL_get (i := i) (List.nodup_cons.mp nd).2 (by simpa using h1) (by simpa using h2) hk
theorem bindC_get {kindOf : Str → Option NameKind} {x : Str} {v : Value} : ∀ {P : List Str} {vs : List Value} {i : Nat} {m : Str → Option Value}, P.Nodup → P[i]? = some x → vs[i]? = some v → kindOf x ≠ some .local →
    bindC kindOf (P.zip vs) m x = some v
  | [], _, _, _, _, h, _, _ => by simp at h
  | _ :: _, [], _, _, _, _, h, _ => by simp at h
  | p :: P, w :: vs, 0, m, nd, h1, h2, hk => by
    simp at h1 h2; subst h1; subst h2
    show bindC kindOf ((p, w) :: P.zip vs) m p = _
    unfold bindC
    rw [bindC_out fun v hv => (List.nodup_cons.mp nd).1 (List.of_mem_zip hv).1, if_neg hk]
    simp
  | p :: P, w :: vs, i + 1, m, nd, h1, h2, hk => by
    show bindC kindOf ((p, w) :: P.zip vs) m x = _
    unfold bindC
    exact bindC_get (i := i) (List.nodup_cons.mp nd).2 (by simpa using h1) (by simpa using h2) hk
def start (N : List Str) (vs : List V) : St := vs.map some ++ List.replicate (N.length - vs.length) none
def cxOf (CX : CXT) (P : Program) (w : World) (K : PySem.W.Frag) (mg : Str → Option Value) (base : Heap) (N : List Str) (qual : Str) (scope : Scope) (f : Addr) (cd : Value) (A : Around) (outer : List Env) (s : Shared) (H : Hp) (E : XK) : Cx where
  prog := P
  w := w
  K := K
  mg := mg
  base := base
  A := A.deeper (envOfC qual scope s.heap.objs.size f cd)
  N := N
  s₀ := s
  H₀ := H
  env := envOfC qual scope s.heap.objs.size f cd
  outer := outer
  stack := envOfC qual scope s.heap.objs.size f cd :: outer
  ex := []
  calm := true
  fn := fun _ => true
  pn := []
  xe := fun e s' => wpAny (model P w) (A.deeper (envOfC qual scope s.heap.objs.size f cd)) (leaving (envOfC qual scope s.heap.objs.size f cd) e) (fun _ s'' => CX outer H s E e s'') (fun e' s'' => CX outer H s E e' s'') s'
theorem cell_has {sc : Scope} {n : Nat} {x : Str} (h : sc.names.lookup x = some .cell) : ∃ c, (cellsFrom n sc.names []).lookup x = some c := by
  have q := PySem.W.cellsFrom_some sc.names n [] (.inl h)
  exact Option.isSome_iff_exists.mp q
theorem inv_start {CX : CXT} {P : Program} {w : World} {K : PySem.W.Frag} {mg : Str → Option Value} {base : Heap} {N ps : List Str} {qual : Str} {scope : Scope} {f : Addr} {cd : Value} {A : Around} {outer : List Env} {s s1 : Shared} {H : Hp} {E : XK} {us : List Value} {vs : List V}
    (S : FnScope N ps scope) (hd : A.handled = none) (e0 : Env0 P w K mg base A outer s H) (hl : vs.length = ps.length) (r : Vals vs us)
    (x : InCallC s s.heap.objs.size (bindL (envOfC qual scope s.heap.objs.size f cd).kindOf (ps.zip us) fun _ => none) (cellsFrom (s.heap.objs.size + 1) scope.names []) (bindC (envOfC qual scope s.heap.objs.size f cd).kindOf (ps.zip us) fun _ => none) s1) :
    Inv (cxOf CX P w K mg base N qual scope f cd A outer s H E) [] (start N vs) H s1 := by
  have hpl : ps.length ≤ N.length := by have := congrArg List.length S.pre; rw [List.length_take] at this; omega
  obtain ⟨h1, tk, rfl, hk⟩ := x.done
  have noA : ∀ b : Addr, b ∉ (cxOf CX P w K mg base N qual scope f cd A outer s H E).ex := fun b z => absurd (show b ∈ ([] : List Addr) from z) (by simp)
  refine ⟨⟨e0.mod, S.kind, rfl, rfl, Nat.le_refl _, fun y z c h1 h2 => ?_, fun y hy => ?_, fun y c _ h => ?_, fun _ => hd, Around.frames_deeper e0.frames, .inr ⟨rfl, rfl⟩, fun b z => absurd z (noA b), e0.bs, e0.bsz, fun b _ _ => noA b, fun b z => absurd z (noA b), e0.funs, e0.frf⟩,
    rfl, e0.bare, Un.kept hk, ⟨_, x.toInCall.ns, fun i y v h1 h2 h3 => ?_⟩, fun y c h => ⟨_, x.cell y c h⟩, e0.hok.fresh (Nat.le_refl _), fun y c h => ?_, fun p hp => absurd (show p ∈ ([] : List (Addr × Obj)) from hp) (by simp), e0.hok.kept hk, ?_⟩
  · exact name_of_addr x.apart (PySem.mem_of_lookup h1) (PySem.mem_of_lookup h2)
  · have hy : scope.names.lookup y = some .cell ∨ scope.names.lookup y = some .free := hy
    rcases hy with hy | hy
    · exact cell_has hy
    · exact absurd rfl (S.nofree _ (PySem.mem_of_lookup hy))
  · exact Nat.le_of_lt (x.above y c (PySem.mem_of_lookup h))
  · have hi : i < vs.length := by
      unfold start at h2
      by_cases hi : i < vs.length
      · exact hi
      · rw [List.getElem?_append_right (by simpa using hi)] at h2
        rw [List.getElem?_replicate] at h2
        split at h2 <;> cases h2
    have ha : vs[i]? = some v := by
      unfold start at h2
      rw [List.getElem?_append_left (by simpa using hi), List.getElem?_map] at h2
      cases e : vs[i]? with
      | none => rw [e] at h2; cases h2
      | some a => rw [e] at h2; cases h2; rfl
    obtain ⟨u, hu, rv⟩ := r.get ha
    have hp : ps[i]? = some y := by
      rw [← S.pre, List.getElem?_take_of_lt (by omega)]; exact h1
    have ndP : ps.Nodup := by rw [← S.pre]; exact S.nd.sublist (List.take_sublist _ _)
    refine ⟨u, rv, ?_⟩
    rcases S.par y (List.mem_of_getElem? hp) with k | k
    · exact .inl ⟨k, bindL_get ndP hp hu k⟩
    · obtain ⟨c, e⟩ := cell_has (n := s.heap.objs.size + 1) k
      refine .inr ⟨.inl k, c, e, ?_⟩
      have q := x.cell y c e
      rw [bindC_get ndP hp hu (by show scope.names.lookup y ≠ _; rw [k]; decide)] at q
      exact q
  · exact e0.hok.fresh (Nat.le_of_lt (x.above y c (PySem.mem_of_lookup h)))
  · unfold start
    show _ = N.length
    rw [List.length_append, List.length_map, List.length_replicate]
    omega
theorem fn_of {CX : CXT} {P : Program} {w : World} {K : PySem.W.Frag} {mg : Str → Option Value} {base : Heap} {k : Nat} {f : Addr} {name qual : Str} {params : Arguments} {body : List Stmt} {scope : Scope} {dV kV doc pm cdv ct oc : Value} {an od : Option Addr}
    {osl : Array (Option Value)} {N ps : List Str} {sp : Sp} (lk : K.lookup f = some ⟨oc, od, .func (PySem.W.fnOf name qual params body scope dV kV doc pm an cdv ct), osl⟩) (hcd : PySem.W.codeIn K cdv qual = true) (S : FnScope N ps scope)
    (len : ∀ vs H Q E, sp vs H Q E → vs.length = ps.length)
    (hbody : ∀ (A : Around) (outer : List Env) (s : Shared) (H : Hp) (vs : List V) (Q : VK) (E : XK), Room k (A.deeper (envOfC qual scope s.heap.objs.size f cdv)) → sp vs H Q E →
      ∃ t, PSs (cxOf CX P w K mg base N qual scope f cdv A outer s H E) body t ∧ t { nx := fun _ H' => Q .non H', rt := Q } (start N vs) H) :
    FnOk P w K mg base CX (k + 1) f (PySem.W.fnOf name qual params body scope dV kV doc pm an cdv ct) ps sp := by
  refine ⟨len, fun A outer s H args us vs Q E hr e0 hb r hsp => ?_⟩
  have hl := len _ _ _ _ hsp
  have KX : K.In s.heap := e0.mod.kin.keeps fun b o e => (e0.bs b o e).1
  have lim : s.heap.NoLimit := e0.mod.nolimit.keeps fun b o e => (e0.bs b o e).1
  have hkind : ∀ y ∈ ps.zip us, scope.names.lookup y.1 = some .local ∨ (scope.names.lookup y.1 = some .cell ∧ ((cellsFrom (s.heap.objs.size + 1) scope.names []).lookup y.1).isSome = true) := fun ⟨n, v⟩ hy => by
    rcases S.par n (List.of_mem_zip hy).1 with q | q
    · exact .inl q
    · exact .inr ⟨q, PySem.W.cellsFrom_some _ _ _ (.inl q)⟩
  refine codeAny_call_function hr.depth (KX _ _ lk) rfl S.co S.gen rfl (PySem.W.codeRec_of KX hcd) (hb _ _ _ _ ?_)
  refine wpAny_newFunctionEnv_cells S.kind hkind fun env he s1 x => ?_
  subst he
  refine ⟨lim.keeps x.toInCall.keep, codeAny_func ?_⟩
  obtain ⟨t, ht, hq⟩ := hbody A outer s H vs Q E (hr.deeper _) hsp
  have I : Inv (cxOf CX P w K mg base N qual scope f cdv A outer s H E) [] (start N vs) H s1 := inv_start S hr.hd e0 hl r x
  refine wpAny_mono (ht [] s1 (start N vs) H _ I hq) (fun fl s' hs => ?_) fun e s' hs => hs
  have fin : ∀ {σ' : St} {H' : Hp} {v : V} {u : Value}, Inv (cxOf CX P w K mg base N qual scope f cdv A outer s H E) [] σ' H' s' → RelV v u → Q v H' → CE outer P w H s Q u s' :=
    fun {σ' H' v u} J rv q => ⟨v, H', J.os, J.bare, J.base, J.hok, rv, q⟩
  cases fl with
  | ret u =>
    obtain ⟨v, σ', H', J, rv, q⟩ := hs
    exact fin J rv q
  | next =>
    obtain ⟨σ', H', J, q⟩ := hs
    exact fin (v := V.non) (u := Value.none) J rfl q
  | brk =>
    obtain ⟨_, _, _, q⟩ := hs
    exact False.elim q
  | cont =>
    obtain ⟨_, _, _, q⟩ := hs
    exact False.elim q
end L2
namespace L2
open PySem PySem.Spec PyProof.Rows
section
variable {X : Cx} {x : Str} {p pos : Pos} {e : Expr} {es : List Expr} {t : TA} {id T : String} {r : List V → Hp → VK → Prop}
def tCB (r : List V → Hp → VK → Prop) (t : TA) : TE := fun σ H Q => t σ H fun vs H1 => r vs H1 Q
theorem pe_callB (hc : CallR X (.builtin id) r) (hg : Gl X x) (hm : X.mg x = none) (hv : bootBuiltins x = some (.builtin id)) (ha : PA X (e :: es) t) (hn : x ≠ "__name__" := by decide) (hdb : (x == ("__debug__" : Str)) = false := by decide)
    (he : starEach (e :: es) X.env = (false, eval e X.env) :: starEach es X.env := by rfl) (hpl : (backTo pos (starEach es X.env)).any (·.1) = false := by rfl) : PE X (.Call (.Name x p) (e :: es) [] pos) (tCB r t) := by
  intro pins s σ H Q I h
  refine wpAny_Call_Name_kw (ld_blt I hg hm hv ?_ hn hdb)
  exact PyProof.Rows.callWith_builtin1 (thn (ha pos pins s σ H _ I h) fun us s1 ⟨vs, H1, I1, r1, q1⟩ => hc pins s1 σ H1 vs us Q I1 r1 q1) he hpl
theorem pe_callTy (hc : CallR X (.type T) r) (hg : Gl X x) (hm : X.mg x = none) (hv : bootBuiltins x = some (.type T)) (ha : PA X (e :: es) t) (hn : x ≠ "__name__" := by decide) (hdb : (x == ("__debug__" : Str)) = false := by decide)
    (he : starEach (e :: es) X.env = (false, eval e X.env) :: starEach es X.env := by rfl) (hpl : (backTo pos (starEach es X.env)).any (·.1) = false := by rfl) : PE X (.Call (.Name x p) (e :: es) [] pos) (tCB r t) := by
  intro pins s σ H Q I h
  refine wpAny_Call_Name_kw (ld_blt I hg hm hv ?_ hn hdb)
  exact PyProof.Rows.callWith_type1 (thn (ha pos pins s σ H _ I h) fun us s1 ⟨vs, H1, I1, r1, q1⟩ => hc pins s1 σ H1 vs us Q I1 r1 q1) he hpl
end
end L2
namespace HT
open PySem PyProof.Rows
section
open PySem.SeqAt
open PySem.AutoSeq1 (wpAny_loadPart')
open PySem.MeetsSeq PySem.MeetsSeq2 PySem.MeetsSeq3
end
section
variable {prog : Program} {w : World} {A : Around} {E : Value → Shared → Prop} {s : Shared}
def sIx (n d : Nat) : Option Int → Nat
  | none => d
  | some v => if v < 0 then (v + (n : Int)).toNat else min v.toNat n
end
end HT
namespace L2
open PySem PySem.Spec PyProof.Rows
abbrev TO := St → Hp → (Option Int → Hp → Prop) → Prop
def PO (X : Cx) (e : Option Expr) (t : TO) : Prop :=
  ∀ (pins : List (Addr × Obj)) (s : Shared) (σ : St) (H : Hp) (Q : Option Int → Hp → Prop), Inv X pins σ H s → t σ H Q →
    wpAny (model X.prog X.w) X.A (evalPart e X.env) (fun u s' => ∃ o H', Inv X pins σ H' s' ∧ IsPart u o ∧ Q o H') X.xe s
def tPart (t : TE) : TO := fun σ H Q => t σ H fun x H1 => ∃ i, x = .int i ∧ Q (some i) H1
section
variable {X : Cx} {e : Expr} {te : TE} {lo hi : Option Expr} {tl th : TO} {pos p2 : Pos}
theorem po_some (h : PE X e te) : PO X (some e) (tPart te) := by
  intro pins s σ H Q I hw
  rw [evalPart_some]
  refine thn (h pins s σ H _ I hw) fun u s1 ⟨x, H1, I1, r1, q1⟩ => ?_
  obtain ⟨i, rfl, q⟩ := q1
  obtain ⟨t, rfl⟩ := r1
  exact ⟨some i, H1, I1, .int i t, q⟩
def SlR (X : Cx) (r : V → Option Int → Option Int → Hp → VK → Prop) : Prop :=
  ∀ (pins : List (Addr × Obj)) (s : Shared) (σ : St) (H : Hp) (x : V) (v vl vu : Value) (lo hi : Option Int) (sl : Addr) (Q : VK), Inv X pins σ H s → RelV x v → s.heap.IsSliceOf sl vl vu .none → IsPart vl lo → IsPart vu hi → r x lo hi H Q →
    ∃ T id, typeLookup (.type T) "__getitem__" = pure (some (.builtin id)) ∧ s.TypeIs v T ∧ wpAny (model X.prog X.w) X.A (getItem v (.ref sl)) (EP X pins σ Q) X.xe s
def tSl (r : V → Option Int → Option Int → Hp → VK → Prop) (te : TE) (tl th : TO) : TE := fun σ H Q => te σ H fun x H1 => tl σ H1 fun l H2 => th σ H2 fun u H3 => r x l u H3 Q
theorem pe_slice {r : V → Option Int → Option Int → Hp → VK → Prop} (hr : SlR X r) (he : PE X e te) (hl : PO X lo tl) (hu : PO X hi th) : PE X (.Subscript e (.Slice lo hi none p2) pos) (tSl r te tl th) := by
  intro pins s σ H Q I h
  refine Subscript_ (thn (he pins s σ H _ I h) fun v s1 ⟨x, H1, I1, r1, q1⟩ => ?_)
  refine wpAny_Slice (thn (hl pins s1 σ H1 _ I1 q1) fun vl s2 ⟨l, H2, I2, pl, q2⟩ => thn (hu pins s2 σ H2 _ I2 q2) fun vu s3 ⟨u, H3, I3, pu, q3⟩ => ?_)
  rw [evalPart_none]
  refine wpAny_pure ?_
  have I4 : Inv X pins σ H3 { s3 with heap := s3.heap.push { cls := .type "slice", data := .fields #[vl, vu, .none] } } := I3.kept (t' := s3.toks) fun b ob q => Heap.get?_push_of_some _ q
  obtain ⟨T, id, hT, ht, hg⟩ := hr pins { s3 with heap := s3.heap.push { cls := .type "slice", data := .fields #[vl, vu, .none] } } σ H3 x v vl vu l u s3.heap.objs.size Q I4 r1 (Heap.IsSliceOf.new ..) pl pu q3
  show wpAny (model X.prog X.w) X.A (subscriptTail e (.Slice lo hi none p2) v (.ref s3.heap.objs.size)) (EP X pins σ Q) X.xe { s3 with heap := s3.heap.push { cls := .type "slice", data := .fields #[vl, vu, .none] } }
  exact tail_any (ops := [.ref s3.heap.objs.size, v]) ht hT hg (by with_unfolding_all rfl)
def cutV (xs : List V) (lo hi : Option Int) : List V := (xs.drop (HT.sIx xs.length 0 lo)).take (HT.sIx xs.length xs.length hi - HT.sIx xs.length 0 lo)
theorem cutV_length (xs : List V) (lo hi : Option Int) : (cutV xs lo hi).length ≤ xs.length := by
  unfold cutV
  rw [List.length_take, List.length_drop]
  omega
end
end L2
namespace L2
open PySem PySem.Spec PyProof.Rows
def ixN (n : Nat) (i : Int) : Option Nat := if 0 ≤ i then (if i < n then some i.toNat else none) else if -(n : Int) ≤ i then some (i + n).toNat else none
def atI {α : Type} (xs : List α) (i : Int) : Option α := (ixN xs.length i).bind fun j => xs[j]?
theorem ixN_seq {n : Nat} {i : Int} {j : Nat} (h : ixN n i = some j) : seqIndex? i n = some j ∧ j < n ∧ -(n : Int) ≤ i ∧ i < n := by
  unfold ixN at h
  by_cases h0 : 0 ≤ i
  · rw [if_pos h0] at h
    by_cases h1 : i < n
    · rw [if_pos h1] at h
      have e : i.toNat = j := Option.some.inj h
      exact ⟨by rw [seqIndex_of h0 h1, e], by omega, by omega, h1⟩
    · rw [if_neg h1] at h; cases h
  · rw [if_neg h0] at h
    by_cases h1 : -(n : Int) ≤ i
    · rw [if_pos h1] at h
      have e : (i + n).toNat = j := Option.some.inj h
      exact ⟨by rw [seqIndex_neg (by omega) h1, e], by omega, h1, by omega⟩
    · rw [if_neg h1] at h; cases h
theorem atI_get {α : Type} {xs : List α} {i : Int} {v : α} (h : atI xs i = some v) : ∃ j, seqIndex? i xs.length = some j ∧ xs[j]? = some v ∧ j < xs.length ∧ -(xs.length : Int) ≤ i ∧ i < xs.length := by
  unfold atI at h
  cases e : ixN xs.length i with
  | none => rw [e] at h; cases h
  | some j =>
    rw [e] at h
    obtain ⟨h1, h2, h3, h4⟩ := ixN_seq e
    exact ⟨j, h1, h, h2, h3, h4⟩
theorem atI_nat {α : Type} {xs : List α} {j : Nat} {v : α} (h : xs[j]? = some v) : atI xs (j : Int) = some v := by
  have hj : j < xs.length := (List.getElem?_eq_some_iff.mp h).1
  have e : ixN xs.length (j : Int) = some j := by
    unfold ixN
    rw [if_pos (by omega), if_pos (by omega)]; simp
  unfold atI; rw [e]; exact h
def PlainIx (b : Expr) : Prop := ∀ o i, subscripted b false o i = operate [o, i] (getItem o i)
def IxR (X : Cx) (r : R2) : Prop :=
  ∀ (value slice : Expr) (pins : List (Addr × Obj)) (s : Shared) (σ : St) (H : Hp) (x y : V) (v u : Value) (Q : VK), Inv X pins σ H s → RelV x v → RelV y u → r x y H Q →
    subscripted slice false v u = operate [v, u] (getItem v u) → wpAny (model X.prog X.w) X.A (subscriptTail value slice v u) (EP X pins σ Q) X.xe s
def MtR (X : Cx) (id : String) (r : V → List V → Hp → VK → Prop) : Prop :=
  ∀ (pins : List (Addr × Obj)) (s : Shared) (σ : St) (H : Hp) (x : V) (xs : List V) (v : Value) (us : List Value) (Q : VK), Inv X pins σ H s → RelV x v → Vals xs us → r x xs H Q →
    wpAny (model X.prog X.w) X.A (call (.builtin id) (v :: us)) (EP X pins σ Q) X.xe s
section
variable {X : Cx} {a b : Expr} {ta tb : TE} {pos : Pos}
theorem pe_ix {r : R2} (hr : IxR X r) (ha : PE X a ta) (hb : PE X b tb) (hs : PlainIx b) : PE X (.Subscript a b pos) (tOp r ta tb) := by
  intro pins s σ H Q I h
  exact Subscript_ (binT ha hb I h fun v u s2 x y H2 I2 rx ry q => hr a b pins s2 σ H2 x y v u Q I2 rx ry q (hs _ _))
def rIxL (K : PySem.W.Frag) : R2 := fun x y H Q => ∃ p xs i v, x = .ref p ∧ y = .int i ∧ SqL K H p xs ∧ atI xs i = some v ∧ Q v H
def rIxT (K : PySem.W.Frag) : R2 := fun x y H Q => ∃ p xs i v, x = .ref p ∧ y = .int i ∧ SqT K H p xs ∧ atI xs i = some v ∧ Q v H
def rIxS : R2 := fun x y H Q => ∃ z i c, x = .str z ∧ y = .int i ∧ z.length ≤ sizeLine ∧ atI z.cps.toList i = some c ∧ Q (.str ⟨#[c]⟩) H
theorem ix_list : IxR X (rIxL X.K) := by
  intro value slice pins s σ H x y v u Q I rx ry h hs
  obtain ⟨p, xs, i, z, rfl, rfl, hq, he, q⟩ := h
  cases rx
  obtain ⟨t, rfl⟩ := ry
  obtain ⟨its, r, pl, hz⟩ := I.list hq
  obtain ⟨j, h1, h2, h3, h4, h5⟩ := atI_get he
  obtain ⟨w, ew, rw'⟩ := r.get h2
  have hl := r.length
  have hn := line63
  have fin : EP X pins σ Q w s := ⟨z, H, I, rw', q⟩
  by_cases h0 : 0 ≤ i
  · have hj : i.toNat = j := by
      rw [seqIndex_of h0 h5] at h1
      exact Option.some.inj h1
    exact item_listR pl.isList h0 (by omega) (by rw [hj]; simpa using ew) fin hs
  · have hj : (i + (its.toArray.size : Int)).toNat = j := by
      rw [seqIndex_neg (by omega) h4] at h1
      rw [List.size_toArray, ← hl]
      exact Option.some.inj h1
    exact subscriptTail_builtinR (x := w) pl.isList.typeIs slot_list_getitem.lookup
      (wpAny_getItem_list_neg (Q := fun r s' => r = w ∧ EP X pins σ Q r s') pl.isList (by omega) (by rw [List.size_toArray] <;> omega) (by omega) (by rw [hj]; simpa using ew) ⟨rfl, fin⟩) hs
theorem ix_tup : IxR X (rIxT X.K) := by
  intro value slice pins s σ H x y v u Q I rx ry h hs
  obtain ⟨p, xs, i, z, rfl, rfl, hq, he, q⟩ := h
  cases rx
  obtain ⟨t, rfl⟩ := ry
  obtain ⟨its, r, pl, hz⟩ := I.tuple hq
  obtain ⟨j, h1, h2, h3, h4, h5⟩ := atI_get he
  obtain ⟨w, ew, rw'⟩ := r.get h2
  have hl := r.length
  have hn := line63
  have fin : EP X pins σ Q w s := ⟨z, H, I, rw', q⟩
  exact subscriptTail_builtinR (x := w) pl.typeIs slot_tuple_getitem.lookup
    (getItem_tuple (j := j) (Q := fun r s' => r = w ∧ EP X pins σ Q r s') pl (by omega) (by omega) (by rw [List.size_toArray, ← hl]; exact h1) (by simpa using ew) ⟨rfl, fin⟩) hs
theorem ix_str : IxR X rIxS := by
  intro value slice pins s σ H x y v u Q I rx ry h hs
  obtain ⟨z, i, c, rfl, rfl, hz, he, q⟩ := h
  obtain ⟨t, rfl⟩ := rx
  obtain ⟨t', rfl⟩ := ry
  obtain ⟨j, h1, h2, h3, h4, h5⟩ := atI_get he
  have hl : z.cps.toList.length = z.length := by simp [Str.length]
  rw [hl] at h1 h4 h5
  have hn := line63
  exact tail_any (typeIs_str s z t) slot_str_getitem.lookup (getItem_str (c := c) (by
    have e1 : decide (i < -(2 ^ 63 : Int)) = false := decide_eq_false (by omega)
    have e2 : decide (i ≥ 2 ^ 63) = false := decide_eq_false (by omega)
    rw [e1, e2, Bool.or_false]) (by rw [h1]; simpa using h2) ⟨.str ⟨#[c]⟩, H, I.tok _, ⟨_, rfl⟩, q⟩) hs
theorem slice_bounds (lo hi : Option Int) (n : Nat) : (sliceBounds lo hi none n).1 = ((HT.sIx n 0 lo : Nat) : Int) ∧ (sliceBounds lo hi none n).2.1 = ((HT.sIx n n hi : Nat) : Int) ∧ (sliceBounds lo hi none n).2.2 = 1 := by
  refine ⟨?_, ?_, rfl⟩
  · cases lo with
    | none => simp [sliceBounds, HT.sIx]
    | some i =>
      simp only [sliceBounds, HT.sIx, Option.getD_none, show (1 : Int) > 0 by decide, if_true]
      by_cases h : i < 0
      · simp only [h, if_true] <;> omega
      · simp only [h, if_false] <;> omega
  · cases hi with
    | none => simp [sliceBounds, HT.sIx]
    | some i =>
      simp only [sliceBounds, HT.sIx, Option.getD_none, show (1 : Int) > 0 by decide, if_true]
      by_cases h : i < 0
      · simp only [h, if_true] <;> omega
      · simp only [h, if_false] <;> omega
theorem slicePick_cut (its : List Value) (lo hi : Option Int) : slicePick its.toArray lo hi none = ((its.drop (HT.sIx its.length 0 lo)).take (HT.sIx its.length its.length hi - HT.sIx its.length 0 lo)).toArray := by
  obtain ⟨h1, h2, h3⟩ := slice_bounds lo hi its.toArray.size
  unfold slicePick
  rw [h1, h2, h3]
  simp only [sliceRange_one, pick_run, List.size_toArray] <;> rfl
def rSlL (K : PySem.W.Frag) : V → Option Int → Option Int → Hp → VK → Prop := fun x lo hi H Q => ∃ a xs, x = .ref a ∧ SqL K H a xs ∧ ∀ p, H p = none → Q (.ref p) (upd H p (.lst (cutV xs lo hi)))
theorem sl_list : SlR X (rSlL X.K) := by
  intro pins s σ H x v vl vu lo hi sl Q I rx hs pl pu h
  obtain ⟨a, xs, rfl, hx, q⟩ := h
  cases rx
  obtain ⟨its, r, ht, hz⟩ := I.list hx
  have hlen := r.length
  refine ⟨"list", _, slot_list_getitem.lookup, ht.isList.typeIs, ?_⟩
  refine wpAny_getItem_list_slice ht.isList hs pl pu .none (by simp) ?_ (by rw [List.size_toArray] <;> omega)
  rw [slicePick_cut, ← hlen]
  refine ⟨.ref s.heap.objs.size, _, I.laid (t' := s.toks) (o := .lst (cutV xs lo hi)) (fun b ob q => Heap.get?_push_of_some _ q) (Nat.le_refl _) ?_, rfl, q _ (I.hok.fresh (Nat.le_refl _))⟩
  exact ⟨Nat.le_trans (cutV_length xs lo hi) hz, _, 0, (r.drop (HT.sIx xs.length 0 lo)).take (HT.sIx xs.length xs.length hi - HT.sIx xs.length 0 lo), Heap.get?_push_size _ rfl⟩
def flatV : V → Bool
  | .non => true
  | .bl _ => true
  | .int _ => true
  | .str _ => true
  | _ => false
def eqV : V → V → Bool
  | .non, .non => true
  | .bl a, .bl b => a == b
  | .bl a, .int b => (if a then 1 else 0) == b
  | .int a, .bl b => a == (if b then 1 else 0)
  | .int a, .int b => a == b
  | .str a, .str b => a == b
  | _, _ => false
theorem eqAt_V {A : Around} {s : Shared} {y x : V} {u v : Value} (ry : RelV y u) (rx : RelV x v) (fy : flatV y = true) (fx : flatV x = true) : SeqAt.EqAt A s u v (eqV y x) := by
  cases y with
  | non =>
    cases ry
    cases x with
    | non => cases rx; exact SeqAt.EqAt.same _
    | bl b => cases rx; exact SeqAt.EqAt.none_bool b
    | int b => obtain ⟨t, rfl⟩ := rx; exact SeqAt.EqAt.none_int b t
    | str b => obtain ⟨t, rfl⟩ := rx; exact SeqAt.EqAt.none_str b t
    | _ => exact absurd (show false = true from fx) Bool.false_ne_true
  | bl a =>
    cases ry
    cases x with
    | non => cases rx; exact SeqAt.EqAt.bool_none a
    | bl b => cases rx; exact SeqAt.EqAt.bool_bool a b
    | int b => obtain ⟨t, rfl⟩ := rx; exact SeqAt.EqAt.bool_int a b t
    | str b => obtain ⟨t, rfl⟩ := rx; exact SeqAt.EqAt.bool_str a b t
    | _ => exact absurd (show false = true from fx) Bool.false_ne_true
  | int a =>
    obtain ⟨t', rfl⟩ := ry
    cases x with
    | non => cases rx; exact SeqAt.EqAt.int_none a t'
    | bl b => cases rx; exact SeqAt.EqAt.int_bool a t' b
    | int b => obtain ⟨t, rfl⟩ := rx; exact SeqAt.EqAt.int_int a t' b t
    | str b => obtain ⟨t, rfl⟩ := rx; exact SeqAt.EqAt.int_str a t' b t
    | _ => exact absurd (show false = true from fx) Bool.false_ne_true
  | str a =>
    obtain ⟨t', rfl⟩ := ry
    cases x with
    | non => cases rx; exact SeqAt.EqAt.str_none a t'
    | bl b => cases rx; exact SeqAt.EqAt.str_bool a t' b
    | int b => obtain ⟨t, rfl⟩ := rx; exact SeqAt.EqAt.str_int a t' b t
    | str b => obtain ⟨t, rfl⟩ := rx; exact SeqAt.EqAt.str_str a t' b t
    | _ => exact absurd (show false = true from fx) Bool.false_ne_true
  | _ => exact absurd (show false = true from fy) Bool.false_ne_true
def eqU (x : V) (u : Value) : Bool := match u with
  | .none => eqV .non x
  | .bool b => eqV (.bl b) x
  | .int i _ => eqV (.int i) x
  | .str z _ => eqV (.str z) x
  | _ => false
theorem eqU_of {x y : V} {u : Value} (r : RelV y u) (f : flatV y = true) : eqU x u = eqV y x := by
  cases y with
  | non => cases r; rfl
  | bl b => cases r; rfl
  | int i => obtain ⟨t, rfl⟩ := r; rfl
  | str z => obtain ⟨t, rfl⟩ := r; rfl
  | _ => exact absurd (show false = true from f) Bool.false_ne_true
theorem any_eqU {x : V} : ∀ {xs : List V} {us : List Value}, Vals xs us → xs.all flatV = true → us.any (eqU x) = xs.any fun y => eqV y x
  | _, _, .nil, _ => rfl
  | y :: xs, u :: us, .cons r t, f => by
    rw [List.all_cons, Bool.and_eq_true] at f
    rw [List.any_cons, List.any_cons, eqU_of r f.1, any_eqU t f.2]
theorem mem_eqAt {A : Around} {s : Shared} {x : V} {v : Value} (rx : RelV x v) (fx : flatV x = true) : ∀ {xs : List V} {us : List Value}, Vals xs us → xs.all flatV = true → ∀ u ∈ us, SeqAt.EqAt A s u v (eqU x u)
  | _, _, .nil, _ => fun u hu => by cases hu
  | y :: xs, u :: us, .cons r t, f => fun u' hu => by
    rw [List.all_cons, Bool.and_eq_true] at f
    rcases List.mem_cons.mp hu with rfl | hu
    · rw [eqU_of r f.1]; exact eqAt_V r rx f.1 fx
    · exact mem_eqAt rx fx t f.2 u' hu
def inV (x : V) (xs : List V) : Bool := xs.any fun y => eqV y x
def rIn (K : PySem.W.Frag) (neg : Bool) : R2 := fun x y H Q => ∃ p xs, y = .ref p ∧ (SqL K H p xs ∨ SqT K H p xs) ∧ flatV x = true ∧ xs.all flatV = true ∧ Q (.bl (if neg then !inV x xs else inV x xs)) H
theorem op_in_seq : OpR X (compareOp .In) (rIn X.K false) := by
  intro pins s σ H x y v u Q I rx ry h
  obtain ⟨p, xs, rfl, hq, fx, fs, q⟩ := h
  cases ry
  rcases hq with hq | hq
  · obtain ⟨its, r, pl, hz⟩ := I.list hq
    refine SeqAt.in_listAt (eqU x) pl.isList (fun w hw => mem_eqAt rx fx r fs w (by simpa using hw)) ⟨.bl _, H, I, rfl, ?_⟩
    rw [show its.toArray.any (eqU x) = its.any (eqU x) by simp, any_eqU r fs]
    exact q
  · obtain ⟨its, r, pl, hz⟩ := I.tuple hq
    refine SeqAt.in_tupleAt (eqU x) pl (fun w hw => mem_eqAt rx fx r fs w (by simpa using hw)) ⟨.bl _, H, I, rfl, ?_⟩
    rw [show its.toArray.any (eqU x) = its.any (eqU x) by simp, any_eqU r fs]
    exact q
theorem call_len_seq : CallR X (.builtin "len") (fun xs H Q => ∃ p ys, xs = [.ref p] ∧ (SqL X.K H p ys ∨ SqT X.K H p ys) ∧ Q (.int ys.length) H) := by
  intro pins s σ H xs us Q I r h
  obtain ⟨p, ys, rfl, hq, q⟩ := h
  obtain ⟨u, rfl, rx⟩ := vals1 r
  cases rx
  have hn := line63
  rcases hq with hq | hq
  · obtain ⟨its, r', pl, hz⟩ := I.list hq
    have hlen := r'.length
    exact Calls.call_len_list pl.isList (by simp only [List.size_toArray] <;> omega) ⟨.int ys.length, H, I.tok _, ⟨s.toks + 1, by rw [List.size_toArray, hlen]⟩, q⟩
  · obtain ⟨its, r', pl, hz⟩ := I.tuple hq
    have hlen := r'.length
    exact len_tuple pl (by simp only [List.size_toArray] <;> omega) ⟨.int ys.length, H, I.tok _, ⟨s.toks + 1, by rw [List.size_toArray, hlen]⟩, q⟩
theorem call_list_of : CallR X (.type "list") (fun xs H Q => ∃ p ys, xs = [.ref p] ∧ (SqL X.K H p ys ∨ SqT X.K H p ys) ∧ ∀ l, H l = none → Q (.ref l) (upd H l (.lst ys))) := by
  intro pins s σ H xs us Q I r h
  obtain ⟨p, ys, rfl, hq, q⟩ := h
  obtain ⟨u, rfl, rx⟩ := vals1 r
  cases rx
  have fin : ∀ (its : List Value), Vals ys its → ys.length ≤ sizeLine → ∀ (h' : Heap) (c' : Nat), (∀ b o', s.heap.get? b = some o' → h'.get? b = some o') →
      h'.get? s.heap.objs.size = some { cls := .type "list", dict := none, data := .seq its.toArray c', slots := #[] } → EP X pins σ Q (.ref s.heap.objs.size) { s with heap := h' } := fun its r' hz h' c' kp e =>
    ⟨.ref s.heap.objs.size, _, I.laid (t' := s.toks) kp (Nat.le_refl _) (show ObjOk X.prog X.w _ h' _ (.lst ys) from ⟨hz, its, c', r', e⟩), rfl, q _ (I.hok.fresh (Nat.le_refl _))⟩
  rcases hq with hq | hq
  · obtain ⟨its, r', pl, hz⟩ := I.list hq
    have hlen := r'.length
    obtain ⟨o, ho, hc, n, hd⟩ := pl.isList
    exact call_list_seq p (.inl rfl) ho hc hd (fun h' c' kp e => fin its r' hz h' c' kp e) (by simp only [List.size_toArray] <;> omega)
  · obtain ⟨its, r', pl, hz⟩ := I.tuple hq
    have hlen := r'.length
    obtain ⟨o, ho, hc, n, hd⟩ := pl
    exact call_list_seq p (.inr rfl) ho hc hd (fun h' c' kp e => fin its r' hz h' c' kp e) (by simp only [List.size_toArray] <;> omega)
def tyV (K : PySem.W.Frag) (T : String) (x : V) (H : Hp) : Prop := match x with
  | .str _ => T = "str"
  | .int _ => T = "int"
  | .ref p => (T = "list" ∧ ∃ xs, SqL K H p xs) ∨ (T = "tuple" ∧ ∃ o, K.lookup p = some o ∧ o.cls = .type "tuple" ∧ o.dict = none) ∨
      (T = "dict" ∧ ((∃ kvs, H p = some (.dK kvs)) ∨ ∃ kvs, H p = some (.dT kvs))) ∨ (T = "set" ∧ ∃ S n, H p = some (.set S n))
  | _ => False
theorem tyV_is {pins : List (Addr × Obj)} {σ : St} {H : Hp} {s : Shared} {T : String} {x : V} {v : Value} (I : Inv X pins σ H s) (r : RelV x v) (ty : tyV X.K T x H) :
    s.TypeIs v T ∧ ∀ a, v = .ref a → ∃ ob, s.heap.get? a = some ob ∧ ob.dict = none := by
  cases x with
  | str z =>
    obtain ⟨t, rfl⟩ := r
    cases (show T = "str" from ty)
    exact ⟨typeIs_str s z t, fun _ e => nomatch e⟩
  | int i =>
    obtain ⟨t, rfl⟩ := r
    cases (show T = "int" from ty)
    exact ⟨typeIs_int s i t, fun _ e => nomatch e⟩
  | ref p =>
    cases r
    rcases ty with ⟨rfl, xs, hq⟩ | ⟨rfl, o, hk, hc, hd⟩ | ⟨rfl, hk⟩ | ⟨rfl, S, n, hk⟩
    · obtain ⟨its, _, pl, _⟩ := I.list hq
      refine ⟨pl.isList.typeIs, fun a e => ?_⟩
      cases e
      obtain ⟨o, n, e, c, hd, _⟩ := pl
      exact ⟨o, e, hd⟩
    · refine ⟨⟨o, I.kIn p o hk, hc⟩, fun a e => ?_⟩
      cases e
      exact ⟨o, I.kIn _ o hk, hd⟩
    · have z : ∃ o, s.heap.get? p = some o ∧ o.ExactDict := by
        rcases hk with ⟨kvs, hk⟩ | ⟨kvs, hk⟩
        · obtain ⟨_, _, _, _, o, _, _, e, ex, _⟩ := I.hok p _ hk
          exact ⟨o, e, ex⟩
        · obtain ⟨_, _, _, _, o, _, _, e, ex, _⟩ := I.hok p _ hk
          exact ⟨o, e, ex⟩
      obtain ⟨o, e, ex⟩ := z
      refine ⟨⟨o, e, ex.1⟩, fun a e2 => ?_⟩
      cases e2
      exact ⟨o, e, ex.2.1⟩
    · obtain ⟨o, _, _, _, e, ex, _⟩ := I.hok p _ hk
      refine ⟨⟨o, e, ex.1⟩, fun a e2 => ?_⟩
      cases e2
      exact ⟨o, e, ex.2.1⟩
  | _ => exact False.elim ty
def tBM (K : PySem.W.Frag) (T : String) (r : V → List V → Hp → VK → Prop) (to : TE) (t : TA) : TE := fun σ H Q => to σ H fun x H1 => tyV K T x H1 ∧ t σ H1 fun xs H2 => r x xs H2 Q
variable {o e : Expr} {es : List Expr} {to : TE} {t : TA} {name : Str} {apos cpos : Pos} {T id : String} {r : V → List V → Hp → VK → Prop}
theorem pe_bm (pa : PlainAttrs T) (slot : Slot T name id) (hty : typeOf (.builtin id) = pure (.type "method_descriptor")) (hm : MtR X id r) (ho : PE X o to) (ha : PA X (e :: es) t)
    (hbase : attributeBase o name X.env (eval o X.env) = eval o X.env := by rfl)
    (hfew : ((backTo cpos (starEach (e :: es) X.env)).all (fun x => !x.1) && (backToKw cpos (keywordEach [] X.env)).all (fun x => x.1.isSome)
      && decide ((e :: es).length + ([] : List Keyword).length + (if ([] : List Keyword).isEmpty then 0 else 1) < 30)) = true := by rfl)
    (hline : (apos.endLine == cpos.line) = true := by rfl) (hs : starEach (e :: es) X.env = (false, eval e X.env) :: starEach es X.env := by rfl) (hplain : (backTo cpos (starEach es X.env)).any (·.1) = false := by rfl) :
    PE X (.Call (.Attribute o name apos) (e :: es) [] cpos) (tBM X.K T r to t) := by
  intro pins s σ H Q I h
  refine wpAny_Call_method_late hbase hfew hline rfl (thn (ho pins s σ H _ I h) fun v s1 ⟨x, H1, I1, r1, ty, q1⟩ => ?_)
  obtain ⟨h1, h2⟩ := tyV_is I1 r1 ty
  refine ⟨T, id, pa, slot, hty, h1, h2, ?_⟩
  have hA := ha cpos pins s1 σ H1 _ I1 q1
  rw [hs] at hA ⊢
  refine Calls.callWith_builtin (by show (false || (backTo cpos (starEach es X.env)).any (·.1)) = false; rw [hplain] <;> rfl) (Calls.evalArgs_plain ?_)
  exact thn hA fun us s2 ⟨vs, H2, I2, r2, q2⟩ => hm pins s2 σ H2 x vs v us Q I2 r1 r2 q2
end
end L2
namespace L2
open PySem PySem.Spec PyProof.Rows
def MtM (X : Cx) (id : String) (r : V → List V → Hp → VK → Prop) : Prop :=
  ∀ (pins : List (Addr × Obj)) (s : Shared) (σ : St) (H : Hp) (x : V) (xs : List V) (v : Value) (us : List Value) (Q : VK), Inv X pins σ H s → RelV x v → Vals xs us → r x xs H Q →
    wpAny (model X.prog X.w) X.A (call (.builtin id) (v :: us)) (EP X pins σ Q) X.xe s
theorem Vals.one : ∀ {x : V} {us : List Value}, Vals [x] us → ∃ u, us = [u] ∧ RelV x u
  | _, _, .cons r .nil => ⟨_, rfl, r⟩
section
variable {X : Cx} {pins : List (Addr × Obj)} {σ : St} {H : Hp} {s : Shared} {l b : Addr} {xs ys zs : List V}
theorem Inv.lset {its its' : List Value} {n : Nat} {f : Array Value → Array Value} {t' : Nat} (I : Inv X pins σ H s) (hH : H l = some (.lst xs))
    (e : s.heap.get? l = some { cls := .type "list", data := .seq its.toArray n }) (hf : f its.toArray = its'.toArray) (hv : Vals ys its') (hz : ys.length ≤ sizeLine) :
    Inv X pins σ (upd H l (.lst ys)) { s with heap := s.heap.update l (Obj.mapSeq f), toks := t' } := by
  have q := PySem.IsL.update e f
  rw [hf] at q
  refine I.write (x := l) (e := l) (by rw [hH]; exact trivial) (.inl rfl) (fun b' u hb hu => (Heap.get?_update_other s.heap (Obj.mapSeq f) (Ne.symm hb)).trans hu) ⟨_, q⟩ ?_
  exact ⟨hz, its', _, hv, q⟩
theorem Inv.lstM (I : Inv X pins σ H s) (hH : H l = some (.lst xs)) : xs.length ≤ sizeLine ∧ ∃ (its : List Value) (n : Nat), Vals xs its ∧ xs.length = its.length ∧ s.heap.get? l = some { cls := .type "list", data := .seq its.toArray n } := by
  obtain ⟨z, its, n, r, e⟩ := I.hok l _ hH
  exact ⟨z, its, n, r, r.length, e⟩
theorem notLongL {n : Nat} (h : n ≤ sizeLine) : Builtin.List.listTooLong n = false := by
  unfold Builtin.List.listTooLong
  exact decide_eq_false (by omega)
end
section
variable {X : Cx}
def rAppend : V → List V → Hp → VK → Prop := fun x vs H Q => ∃ l xs y, x = .ref l ∧ vs = [y] ∧ H l = some (.lst xs) ∧ xs.length < sizeLine ∧ Q .non (upd H l (.lst (xs ++ [y])))
theorem mt_append : MtM X "list.append" rAppend := by
  intro pins s σ H x vs v us Q I rx rv h
  obtain ⟨l, xs, y, rfl, rfl, hH, hz, q⟩ := h
  cases rx
  obtain ⟨u, rfl, ru⟩ := rv.one
  obtain ⟨z, its, n, r, hl, e⟩ := I.lstM hH
  refine call_meets F.slot_list_append ⟨_, e, rfl⟩ F.entry_list_append (F.args_list_append_2 _ _) (PySem.list_append l its.toArray n u (by rw [List.size_toArray]; omega)) ⟨e, ?_⟩
  refine ⟨.non, _, I.lset (its' := its ++ [u]) hH e (by simp) (r.append (.cons ru .nil)) ?_, rfl, q⟩
  rw [List.length_append, List.length_singleton]
  omega
def rExtend : V → List V → Hp → VK → Prop := fun x vs H Q => ∃ l b xs zs, x = .ref l ∧ vs = [.ref b] ∧ H l = some (.lst xs) ∧ H b = some (.lst zs) ∧ xs.length + zs.length ≤ sizeLine ∧ Q .non (upd H l (.lst (xs ++ zs)))
theorem mt_extend : MtM X "list.extend" rExtend := by
  intro pins s σ H x vs v us Q I rx rv h
  obtain ⟨l, b, xs, zs, rfl, rfl, hH, hB, hz, q⟩ := h
  cases rx
  obtain ⟨u, rfl, ru⟩ := rv.one
  cases ru
  obtain ⟨z, its, n, r, hl, e⟩ := I.lstM hH
  obtain ⟨z2, its2, n2, r2, hl2, e2⟩ := I.lstM hB
  have hsz : its.toArray.size + its2.toArray.size ≤ sizeLine := by rw [List.size_toArray, List.size_toArray]; omega
  have hlong : ¬ (!its.toArray.isEmpty && Builtin.List.listTooLong (its.toArray.size + its2.toArray.size)) = true := by
    rw [notLongL hsz, Bool.and_false]
    exact Bool.false_ne_true
  refine call_meets F.slot_list_extend ⟨_, e, rfl⟩ F.entry_list_extend (F.args_list_extend_2 _ _)
    (AutoSeq1.list_extend_list_list_0 l its.toArray n b its2.toArray n2 hlong (by rw [List.size_toArray]; omega) (by omega)) ⟨e, e2, ?_⟩
  refine ⟨.non, _, I.lset (its' := its ++ its2) hH e (by simp) (r.append r2) ?_, rfl, q⟩
  rw [List.length_append]
  omega
end
section
variable {prog : Program} {w : World} {A : Around} {E : Value → Shared → Prop} {s : Shared}
set_option maxRecDepth 100000 in
end
section
variable {X : Cx}
end
end L2
namespace L2
open PySem PySem.Spec PyProof.Rows
section
variable {κ : Type} [DecidableEq κ]
def valV (kvs : List (κ × V)) (k : κ) : Option V := (kvs.find? fun kv => decide (kv.1 = k)).map (·.2)
def putK (kvs : List (κ × V)) (k : κ) (v : V) : List (κ × V) :=
  if (kvs.any fun kv => decide (kv.1 = k)) = true then kvs.map (fun kv => if kv.1 = k then (kv.1, v) else kv) else kvs ++ [(k, v)]
theorem valV_pos {p : κ × V} {r : List (κ × V)} {k : κ} (e : p.1 = k) : valV (p :: r) k = some p.2 := by simp [valV, List.find?_cons, e]
theorem valV_neg {p : κ × V} {r : List (κ × V)} {k : κ} (e : ¬ p.1 = k) : valV (p :: r) k = valV r k := by simp [valV, List.find?_cons, e]
theorem valV_any (k : κ) : ∀ kvs : List (κ × V), (kvs.any fun kv => decide (kv.1 = k)) = (valV kvs k).isSome
  | [] => rfl
  | p :: r => by
    rw [List.any_cons]
    by_cases e : p.1 = k
    · simp only [valV_pos e, decide_eq_true e, Bool.true_or, Option.isSome_some]
    · rw [valV_neg e, decide_eq_false e, Bool.false_or]; exact valV_any k r
theorem length_putK (kvs : List (κ × V)) (k : κ) (v : V) : (putK kvs k v).length ≤ kvs.length + 1 := by
  unfold putK
  split
  · rw [List.length_map]; omega
  · rw [List.length_append, List.length_cons, List.length_nil]; omega
theorem putK_new {kvs : List (κ × V)} {k : κ} (v : V) (h : valV kvs k = none) : putK kvs k v = kvs ++ [(k, v)] := by
  unfold putK
  rw [valV_any, h]
  exact if_neg (by decide)
theorem RelO.isSome_eq {o : Option V} {u : Option Value} (r : RelO o u) : o.isSome = u.isSome := by
  cases o with
  | none => cases u with
    | none => rfl
    | some _ => exact (show False from r).elim
  | some _ => cases u with
    | none => exact (show False from r).elim
    | some _ => rfl
theorem KV.val {kvs : List (κ × V)} {vs : List (κ × Value)} (r : KV kvs vs) (k : κ) : RelO (valV kvs k) (valueAt vs k) := by
  unfold KV at r
  induction r with
  | nil => exact True.intro
  | @cons p q ps qs h t ih =>
    obtain ⟨h1, h2⟩ := h
    by_cases e : p.1 = k
    · have e' : q.1 = k := h1.symm.trans e
      have b : valueAt (q :: qs) k = some q.2 := by simp [valueAt, List.find?_cons, e']
      rw [valV_pos e, b]; exact h2
    · have e' : ¬ q.1 = k := fun z => e (h1.trans z)
      have b : valueAt (q :: qs) k = valueAt qs k := by simp [valueAt, List.find?_cons, e']
      rw [valV_neg e, b]; exact ih
theorem KV.any {kvs : List (κ × V)} {vs : List (κ × Value)} (r : KV kvs vs) (k : κ) : (kvs.any fun kv => decide (kv.1 = k)) = vs.any fun kv => decide (kv.1 = k) := by
  unfold KV at r
  induction r with
  | nil => rfl
  | cons h t ih => rw [List.any_cons, List.any_cons, ih, h.1]
theorem KV.repl {kvs : List (κ × V)} {vs : List (κ × Value)} (r : KV kvs vs) (k : κ) {y : V} {u : Value} (ry : RelV y u) :
    KV (kvs.map fun kv => if kv.1 = k then (kv.1, y) else kv) (vs.map fun kv => if kv.1 = k then (kv.1, u) else kv) := by
  unfold KV at r ⊢
  induction r with
  | nil => exact .nil
  | @cons p q ps qs h t ih =>
    rw [List.map_cons, List.map_cons]
    refine .cons ?_ ih
    obtain ⟨h1, h2⟩ := h
    by_cases e : p.1 = k
    · rw [if_pos e, if_pos (h1.symm.trans e)]; exact ⟨h1, ry⟩
    · rw [if_neg e, if_neg (fun z => e (h1.trans z))]; exact ⟨h1, h2⟩
theorem KV.put {kvs : List (κ × V)} {vs : List (κ × Value)} (r : KV kvs vs) (k : κ) {y : V} {u : Value} (ry : RelV y u) : KV (putK kvs k y) (stored vs k u) := by
  unfold putK stored
  rw [r.any k]
  by_cases e : (vs.any fun kv => decide (kv.1 = k)) = true
  · rw [if_pos e, if_pos e]; exact r.repl k ry
  · rw [if_neg e, if_neg e]; exact Paired.snoc r ⟨rfl, ry⟩
theorem KV.keys {kvs : List (κ × V)} {vs : List (κ × Value)} (r : KV kvs vs) : kvs.map (·.1) = vs.map (·.1) := by
  unfold KV at r
  induction r with
  | nil => rfl
  | cons h t ih => rw [List.map_cons, List.map_cons, ih, h.1]
theorem KV.length {kvs : List (κ × V)} {vs : List (κ × Value)} (r : KV kvs vs) : kvs.length = vs.length := Paired.length r
end
theorem kV_is {P : Program} {w : World} {k : Key} {u : Value} (r : RelV (kV k) u) : (mixKind P w).is k u = true := by
  cases k with
  | inl i => obtain ⟨t, e⟩ := (show ∃ t, u = Value.int i t from r); subst e; exact mixKind_int P w i t
  | inr x => obtain ⟨t, e⟩ := (show ∃ t, u = Value.str x t from r); subst e; exact mixKind_str P w x t
theorem items_are {P : Program} {w : World} : ∀ {ks : List Key} {us : List Value}, Vals (ks.map kV) us → ItemsAre (mixKind P w) ks us
  | [], _, r => by rw [List.map_nil] at r; cases r; exact .nil
  | k :: ks, _, r => by
    rw [List.map_cons] at r
    cases r with
    | cons h t => exact .cons (kV_is h) (items_are t)
abbrev KT (H : Hp) : List (List Key × V) → List (List Key × Addr × Value) → Prop := Paired fun p q => p.1 = q.1 ∧ H q.2.1 = some (.tup (p.1.map kV)) ∧ RelV p.2 q.2.2
theorem KT.val {H : Hp} {kvs : List (List Key × V)} {xs : List (List Key × Addr × Value)} (r : KT H kvs xs) (k : List Key) : RelO (valV kvs k) ((atKey xs k).map (·.2)) := by
  induction r with
  | nil => exact True.intro
  | @cons p q ps qs h t ih =>
    obtain ⟨h1, _, h2⟩ := h
    by_cases e : p.1 = k
    · have e' : q.1 = k := h1.symm.trans e
      have b : atKey (q :: qs) k = some q.2 := by simp [atKey, List.find?_cons, e']
      rw [valV_pos e, b]; exact h2
    · have e' : ¬ q.1 = k := fun z => e (h1.trans z)
      have b : atKey (q :: qs) k = atKey qs k := by simp [atKey, List.find?_cons, e']
      rw [valV_neg e, b]; exact ih
theorem KT.repl {H : Hp} {kvs : List (List Key × V)} {xs : List (List Key × Addr × Value)} (r : KT H kvs xs) (k : List Key) {y : V} {u : Value} (ry : RelV y u) :
    KT H (kvs.map fun kv => if kv.1 = k then (kv.1, y) else kv) (xs.map (putAt k u)) := by
  induction r with
  | nil => exact .nil
  | @cons p q ps qs h t ih =>
    rw [List.map_cons, List.map_cons]
    refine .cons ?_ ih
    obtain ⟨h1, h2, h3⟩ := h
    unfold putAt
    by_cases e : p.1 = k
    · rw [if_pos e, if_pos (h1.symm.trans e)]; exact ⟨h1, h2, ry⟩
    · rw [if_neg e, if_neg (fun z => e (h1.trans z))]; exact ⟨h1, h2, h3⟩
theorem KT.put {H : Hp} {kvs : List (List Key × V)} {xs : List (List Key × Addr × Value)} (r : KT H kvs xs) (k : List Key) {b : Addr} {y : V} {u : Value} (hb : H b = some (.tup (k.map kV))) (ry : RelV y u) :
    KT H (putK kvs k y) (storedH xs k b u) := by
  have e : (kvs.any fun kv => decide (kv.1 = k)) = (atKey xs k).isSome := by
    rw [valV_any, (r.val k).isSome_eq, Option.isSome_map]
  unfold putK storedH
  rw [e]
  by_cases q : (atKey xs k).isSome = true
  · rw [if_pos q, if_pos q]; exact r.repl k ry
  · rw [if_neg q, if_neg q]; exact Paired.snoc r ⟨rfl, hb, ry⟩
theorem KT.keeps {H H' : Hp} {kvs : List (List Key × V)} {xs : List (List Key × Addr × Value)} (r : KT H kvs xs) (ht : ∀ b ys, H b = some (.tup ys) → H' b = some (.tup ys)) : KT H' kvs xs :=
  Paired.mapP r fun _ _ z => ⟨z.1, ht _ _ z.2.1, z.2.2⟩
section
variable {P : Program} {w : World} {H : Hp} {h : Heap} {a : Addr}
theorem rd_of {u : HO} (ok : HOk P w H h) (e : Rd H a u) : ObjOk P w H h a u := e.ok ok
theorem dk_rd {kvs : List (Key × V)} (ok : HOk P w H h) (e : Rd H a (.dK kvs)) : kvs.length ≤ sizeLine ∧ (a == sysModules) = false ∧ ∃ vs, KV kvs vs ∧ h.DictOf (mixKind P w) a vs :=
  show ObjOk P w H h a (.dK kvs) from rd_of ok e
theorem dk_of {kvs : List (Key × V)} (ok : HOk P w H h) (e : H a = some (.dK kvs)) : kvs.length ≤ sizeLine ∧ (a == sysModules) = false ∧ ∃ vs, KV kvs vs ∧ h.DictOf (mixKind P w) a vs := dk_rd ok (.inl e)
theorem key_of {ks : List Key} (ok : HOk P w H h) (e : H a = some (.tup (ks.map kV))) : (tupleKind (mixKind P w)).is h ks a := by
  obtain ⟨_, its, r, o, h1, h2, n, h3⟩ := (show ObjOk P w H h a (.tup (ks.map kV)) from ok a _ e)
  exact ⟨o, its.toArray, n, h1, h2, h3, by simpa using items_are r⟩
theorem dt_rd {kvs : List (List Key × V)} (ok : HOk P w H h) (e : Rd H a (.dT kvs)) : kvs.length ≤ sizeLine ∧ (a == sysModules) = false ∧
    ∃ xs, KT H kvs xs ∧ h.DictOfH (tupleKind (mixKind P w)) a xs := by
  obtain ⟨z, y, xs, r, o, es, ep, h1, h2, h3, h4, h5⟩ := (show ObjOk P w H h a (.dT kvs) from rd_of ok e)
  refine ⟨z, y, xs, r, o, es, ep, h1, h2, h3, h4, fun x hx => ?_, h5⟩
  have all : ∀ {l : List (List Key × V)} {m : List (List Key × Addr × Value)}, KT H l m → ∀ x ∈ m, (tupleKind (mixKind P w)).is h x.1 x.2.1 := by
    intro l m q
    induction q with
    | nil => intro x hx; exact nomatch hx
    | @cons p q ps qs hq t ih =>
      intro x hx
      rcases List.mem_cons.mp hx with e | hx
      · subst e
        exact key_of ok (by rw [← hq.1]; exact hq.2.1)
      · exact ih x hx
  exact all r x hx
theorem dt_of {kvs : List (List Key × V)} (ok : HOk P w H h) (e : H a = some (.dT kvs)) : kvs.length ≤ sizeLine ∧ (a == sysModules) = false ∧
    ∃ xs, KT H kvs xs ∧ h.DictOfH (tupleKind (mixKind P w)) a xs := dt_rd ok (.inl e)
end
def DGet (H : Hp) (a : Addr) (y : V) (r : Option V) : Prop :=
  (∃ kvs k, Rd H a (.dK kvs) ∧ y = kV k ∧ r = valV kvs k) ∨ ∃ kvs k b, Rd H a (.dT kvs) ∧ y = .ref b ∧ H b = some (.tup (k.map kV)) ∧ r = valV kvs k
def DPut (H : Hp) (a : Addr) (y v : V) (H' : Hp) : Prop :=
  (∃ kvs k, H a = some (.dK kvs) ∧ y = kV k ∧ kvs.length < sizeLine ∧ H' = upd H a (.dK (putK kvs k v))) ∨
  ∃ kvs k b, H a = some (.dT kvs) ∧ y = .ref b ∧ H b = some (.tup (k.map kV)) ∧ kvs.length < sizeLine ∧ H' = upd H a (.dT (putK kvs k v))
theorem DGet.k {H : Hp} {a : Addr} {kvs : List (Key × V)} {k : Key} (e : H a = some (.dK kvs)) : DGet H a (kV k) (valV kvs k) := .inl ⟨kvs, k, .inl e, rfl, rfl⟩
section
variable {X : Cx} {pins : List (Addr × Obj)} {σ : St} {H : Hp} {s : Shared} {a : Addr} {y v : V} {u r : Value} {o : Option V} {A : Around} {E : Value → Shared → Prop}
theorem Inv.big (I : Inv X pins σ H s) : sysModules < s.heap.objs.size := by
  have h : mainGlobals < s.heap.objs.size := (I.mod.glob.keeps I.bk).lt
  exact Nat.lt_trans (by decide) h
theorem d_getItem {Q : Value → Shared → Prop} (hu : A.units + 1 < cLine) (I : Inv X pins σ H s) (g : DGet H a y (some v)) (ry : RelV y u) (h : ∀ w' s', Inv X pins σ H s' → RelV v w' → Q w' s') :
    wpAny (model X.prog X.w) A (getItem (.ref a) u) Q E s := by
  rcases g with ⟨kvs, k, e, ey, l⟩ | ⟨kvs, k, b, e, ey, eb, l⟩
  · subst ey
    obtain ⟨z, hd, vs, rel, dd⟩ := dk_rd I.hok e
    obtain ⟨w', hw, rw'⟩ := RelO.some_of (v := v) (o := valueAt vs k) (by rw [l]; exact rel.val k)
    exact wpAny_getItem_of (kV_is ry) dd.mapOf hw (h w' _ (I.tok _) rw')
  · subst ey
    cases (show u = Value.ref b from ry)
    obtain ⟨z, hd, xs, rel, dd⟩ := dt_rd I.hok e
    obtain ⟨w', hw, rw'⟩ := RelO.some_of (v := v) (o := (atKey xs k).map (·.2)) (by rw [l]; exact rel.val k)
    obtain ⟨p, hp, hp2⟩ := Option.map_eq_some_iff.mp hw
    refine wpAny_getItem_heap (tupleKind_room_in1 hu) (key_of I.hok eb) dd hp ?_
    rw [hp2]
    exact h w' _ (I.tok _) rw'
theorem d_write {h' : Heap} {t' : Nat} {ob : HO} (I : Inv X pins σ H s) (mu : Mut (H a)) (hs : Heap.SameBut a s.heap h') (he : ∃ q, h'.get? a = some q) (new : ObjOk X.prog X.w (upd H a ob) h' a ob) :
    Inv X pins σ (upd H a ob) { s with heap := h', toks := t' } :=
  I.write (x := a) (e := a) mu (.inl rfl) (fun b q hb z => (hs.2 b hb).trans z) he new
theorem dk_new {P : Program} {w : World} {H' : Hp} {h' : Heap} {kvs : List (Key × V)} {vs : List (Key × Value)} (z : kvs.length ≤ sizeLine) (hd : (a == sysModules) = false) (rel : KV kvs vs) (dd : h'.DictOf (mixKind P w) a vs) :
    ObjOk P w H' h' a (.dK kvs) := ⟨z, hd, vs, rel, dd⟩
theorem d_setItem {H' : Hp} {Q : Unit → Shared → Prop} (hu : A.units + 1 < cLine) (I : Inv X pins σ H s) (g : DPut H a y v H') (ry : RelV y u) (rv : RelV v r) (h : ∀ s', Inv X pins σ H' s' → Q () s') :
    wpAny (model X.prog X.w) A (setItem (.ref a) u r) Q E s := by
  rcases g with ⟨kvs, k, e, ey, l, eH⟩ | ⟨kvs, k, b, e, ey, eb, l, eH⟩
  · subst ey eH
    obtain ⟨z, hd, vs, rel, dd⟩ := dk_of I.hok e
    have hz : vs.length ≤ sizeLine := by rw [← rel.length]; exact z
    have hl : (putK kvs k v).length ≤ sizeLine := by have := length_putK kvs k v; omega
    refine wpAny_setItem_pairs (hsz := hz) (kV_is ry) dd fun h' dd' hs => h _ ?_
    have he : ∃ q, h'.get? a = some q := let ⟨q, _, _, hq, _⟩ := dd'; ⟨q, hq⟩
    exact d_write I (by rw [e]; exact True.intro) hs he (dk_new hl hd (rel.put k rv) dd')
  · subst ey eH
    cases (show u = Value.ref b from ry)
    obtain ⟨z, hd, xs, rel, dd⟩ := dt_of I.hok e
    have hz : xs.length ≤ sizeLine := by rw [← Paired.length rel]; exact z
    have hl : (putK kvs k v).length ≤ sizeLine := by have := length_putK kvs k v; omega
    refine wpAny_setItem_heap (hsz := hz) (tupleKind_room_in1 hu) (key_of I.hok eb) dd fun h' dd' hs => h _ ?_
    obtain ⟨q, es, ep, hq, h2, h3, h4, _, h5⟩ := dd'
    refine d_write I (by rw [e]; exact True.intro) hs ⟨q, hq⟩ ⟨hl, hd, _, (rel.put k eb rv).keeps fun c ys ec => ?_, q, es, ep, hq, h2, h3, h4, h5⟩
    rw [upd_ne (ne_of ec e (fun z => nomatch z))]
    exact ec
end
section
variable {X : Cx} {pins : List (Addr × Obj)} {σ : St} {H : Hp} {s : Shared} {a : Addr} {kvs : List (Key × V)} {k : Key} {u : Value} {A : Around} {E : Value → Shared → Prop}
end
def NoSl (i : Expr) : Prop := ∀ ov iv, subscripted i false ov iv = operate [ov, iv] (getItem ov iv)
theorem subD_of {prog : Program} {w : World} {A : Around} {E : Value → Shared → Prop} {s : Shared} {env : Env} {value slice : Expr} {pos : Pos} {T id : String} {Q : Value → Shared → Prop}
    (hl : typeLookup (.type T) "__getitem__" = pure (some (.builtin id))) (hs : NoSl slice)
    (h : wpAny (model prog w) A (eval value env) (fun o s₁ => wpAny (model prog w) A (eval slice env) (fun i s₂ => s₂.TypeIs o T ∧ wpAny (model prog w) A (getItem o i) Q E s₂) E s₁) E s) :
    wpAny (model prog w) A (eval (.Subscript value slice pos) env) Q E s := by
  refine Subscript_ (wpAny_mono h (fun o s₁ h₁ => wpAny_mono h₁ (fun i s₂ h₂ => ?_) fun _ _ x => x) fun _ _ x => x)
  obtain ⟨hT, h₂⟩ := h₂
  unfold subscriptTail
  refine wpAny_bind ?_
  rw [getitemInPython_of_ne hT.not_modules]
  refine wpAny_bind (wpAny_specialOf hT hl ?_)
  have fin : wpAny (model prog w) A (subscripted slice false o i) (fun r s₃ => wpAny (model prog w) A (letTemporaryGo value o r >>= fun _ => pure r) Q E s₃) E s₂ := by
    rw [hs o i]
    exact wpAny_operating (wpAny_mono h₂ (fun r s₃ h₃ => wpAny_bind (wpAny_letTemporaryGo (wpAny_pure h₃))) fun _ _ x => x)
  first
    | exact wpAny_pure (wpAny_bind fin)
    | exact wpAny_bind (wpAny_pure (wpAny_bind fin))
    | exact wpAny_bind fin
theorem dict_typeIs {X : Cx} {pins : List (Addr × Obj)} {σ : St} {H : Hp} {s : Shared} {a : Addr} {y : V} {o : Option V} (I : Inv X pins σ H s) (g : DGet H a y o) : s.TypeIs (.ref a) "dict" := by
  rcases g with ⟨kvs, k, e, _, _⟩ | ⟨kvs, k, b, e, _, _, _⟩
  · obtain ⟨_, _, vs, _, dd⟩ := dk_rd I.hok e
    exact dd.typeIs
  · obtain ⟨_, _, xs, _, dd⟩ := dt_rd I.hok e
    exact dd.typeIs
def tDGet (td ty : TE) : TE := fun σ H Q => td σ H fun x H1 => ty σ H1 fun y H2 => ∃ a v, x = .ref a ∧ DGet H2 a y (some v) ∧ Q v H2
def sDPut (td ty tv : TE) : TS := fun D σ H => tv σ H fun v H1 => td σ H1 fun x H2 => ty σ H2 fun y H3 => ∃ a H4, x = .ref a ∧ DPut H3 a y v H4 ∧ D.nx σ H4
section
variable {X : Cx} {o i e value : Expr} {pos pos' tpos : Pos} {td ty tv : TE}
theorem pe_dget (hu : X.A.units + 1 < cLine) (ho : PE X o td) (hi : PE X i ty) (hs : NoSl i) : PE X (.Subscript o i pos) (tDGet td ty) := by
  intro pins s σ H Q I h
  refine subD_of PySem.F.slot_dict_getitem.lookup hs (thn (ho pins s σ H _ I h) fun u s1 ⟨x, H1, I1, rx, q1⟩ => thn (hi pins s1 σ H1 _ I1 q1) fun iv s2 ⟨y, H2, I2, ry, a, v, ex, g, q2⟩ => ?_)
  subst ex
  obtain rfl : u = Value.ref a := rx
  exact ⟨dict_typeIs I2 g, d_getItem hu I2 g ry fun w' s3 I3 rw' => ⟨v, H2, I3, rw', q2⟩⟩
theorem ps_dput (hu : X.A.units + 1 < cLine) (ho : PE X o td) (hi : PE X i ty) (hv : PE X value tv) (hs : swapsWith value (some (.Subscript o i pos')) pos.line X.env = pure false) :
    PS X (.Assign [.Subscript o i pos'] value pos) (sDPut td ty tv) := by
  intro pins s σ H D I h
  refine wpAny_Assign_Subscript (thn (hv pins s σ H _ I h) fun r s1 ⟨v, H1, I1, rv, q1⟩ => thn (ho pins s1 σ H1 _ I1 q1) fun u s2 ⟨x, H2, I2, rx, q2⟩ => thn (hi pins s2 σ H2 _ I2 q2) fun iv s3 ⟨y, H3, I3, ry, a, H4, ex, g, q3⟩ => ?_) hs
  subst ex
  obtain rfl : u = Value.ref a := rx
  exact d_setItem hu I3 g ry rv fun s4 I4 => ⟨σ, H4, I4, q3⟩
end
theorem dk_empty {P : Program} {w : World} {H : Hp} (h : Heap) (hb : sysModules < h.objs.size) : ObjOk P w H (h.push { cls := .type "dict", data := .dict #[] }) h.objs.size (.dK []) :=
  ⟨Nat.zero_le _, beq_eq_false_iff_ne.mpr (Ne.symm (Nat.ne_of_lt hb)), [], .nil, Heap.DictOf.new h⟩
section
variable {X : Cx} {pos : Pos}
end
def tPairs : List (TE × TE) → St → Hp → (List (V × V) → Hp → Prop) → Prop
  | [], _, H, Q => Q [] H
  | (tk, tv) :: r, σ, H, Q => tk σ H fun x H1 => tv σ H1 fun y H2 => tPairs r σ H2 fun ps H3 => Q ((x, y) :: ps) H3
abbrev VV : List (V × V) → List (Value × Value) → Prop := Paired fun p q => RelV p.1 q.1 ∧ RelV p.2 q.2
def PPs (X : Cx) (pos : Pos) (keys : List (Option Expr)) (values : List Expr) (trs : List (TE × TE)) : Prop :=
  ∀ (pins : List (Addr × Obj)) (s : Shared) (σ : St) (H : Hp) (Q : List (V × V) → Hp → Prop), Inv X pins σ H s → tPairs trs σ H Q →
    wpAny (model X.prog X.w) X.A (evalPairs (pairTrees keys values X.env pos)) (fun vs s' => ∃ ps H', Inv X pins σ H' s' ∧ VV ps vs ∧ Q ps H') X.xe s
theorem pps_nil {X : Cx} {pos : Pos} : PPs X pos [] [] [] := fun pins s σ H Q I h => pairTrees_nil_walk ⟨[], H, I, .nil, h⟩
theorem pps_cons {X : Cx} {pos : Pos} {k v : Expr} {ks : List (Option Expr)} {vs : List Expr} {tk tv : TE} {trs : List (TE × TE)} (hk : PE X k tk) (hv : PE X v tv) (hr : PPs X pos ks vs trs) :
    PPs X pos (some k :: ks) (v :: vs) ((tk, tv) :: trs) := fun pins s σ H Q I h =>
  pairTrees_cons_walk (thn (hk pins s σ H _ I h) fun u s1 ⟨x, H1, I1, rx, q1⟩ => thn (hv pins s1 σ H1 _ I1 q1) fun w2 s2 ⟨y, H2, I2, ry, q2⟩ =>
    thn (hr pins s2 σ H2 _ I2 q2) fun ws s3 ⟨ps, H3, I3, rel, q3⟩ => ⟨(x, y) :: ps, H3, I3, .cons ⟨rx, ry⟩ rel, q3⟩)
def mergeK (kvs more : List (Key × V)) : List (Key × V) := more.foldl (fun acc kv => putK acc kv.1 kv.2) kvs
theorem KV.merge : ∀ {more : List (Key × V)} {rs : List (Key × Value)} {kvs : List (Key × V)} {vs : List (Key × Value)}, KV more rs → KV kvs vs → KV (mergeK kvs more) (merged vs rs) := by
  intro more rs kvs vs r
  unfold KV at r
  induction r generalizing kvs vs with
  | nil => intro q; exact q
  | @cons p q ps qs h t ih =>
    intro r0
    have e : KV (putK kvs p.1 p.2) (stored vs q.1 q.2) := by
      have := r0.put p.1 h.2
      rw [← h.1]; exact this
    exact ih e
theorem length_mergeK : ∀ (more kvs : List (Key × V)), (mergeK kvs more).length ≤ kvs.length + more.length
  | [], kvs => by show kvs.length ≤ kvs.length + 0; omega
  | p :: r, kvs => by
    have h1 := length_mergeK r (putK kvs p.1 p.2)
    have h2 := length_putK kvs p.1 p.2
    show (mergeK (putK kvs p.1 p.2) r).length ≤ _
    rw [List.length_cons]; omega
theorem carries_of {P : Program} {w : World} : ∀ {kvs : List (Key × V)} {ws : List (Value × Value)}, VV (kvs.map fun kv => (kV kv.1, kv.2)) ws → ∃ rs, Carries (mixKind P w) ws rs ∧ KV kvs rs
  | [], _, r => by rw [List.map_nil] at r; cases r; exact ⟨[], True.intro, .nil⟩
  | p :: kvs, _, r => by
    rw [List.map_cons] at r
    cases r with
    | @cons a b as bs h t =>
      obtain ⟨rs, c, q⟩ := carries_of (P := P) (w := w) t
      obtain ⟨b1, b2⟩ := b
      exact ⟨(p.1, b2) :: rs, ⟨kV_is h.1, rfl, c⟩, .cons ⟨rfl, h.2⟩ q⟩
def tDisp (trs : List (TE × TE)) : TE := fun σ H Q => ∀ p, H p = none → tPairs trs σ (upd H p (.dK [])) fun ps H2 => H2 p = some (.dK []) ∧ ∃ kvs : List (Key × V), ps = kvs.map (fun kv => (kV kv.1, kv.2)) ∧ kvs.length ≤ 15 ∧ Q (.ref p) (upd H2 p (.dK (mergeK [] kvs)))
theorem pe_disp {X : Cx} {pos : Pos} {keys : List (Option Expr)} {values : List Expr} {trs : List (TE × TE)} (h : PPs X pos keys values trs) (hall : keys.all (·.isSome) = true) (hl : keys.length = values.length) (h0 : keys ≠ [])
    (h15 : keys.length ≤ 15) : PE X (.Dict keys values pos) (tDisp trs) := by
  intro pins s σ H Q I q
  have hn := I.hok.fresh (Nat.le_refl s.heap.objs.size)
  have I1 := I.laid (a := s.heap.objs.size) (o := .dK []) (h' := s.heap.push { cls := .type "dict", data := .dict #[] }) (t' := s.toks) (fun _ _ q => Heap.get?_push_of_some _ q) (Nat.le_refl _) (dk_empty s.heap I.big)
  refine wpAny_Dict_walk (knd := mixKind X.prog X.w) hall hl h0 h15 (thn (h pins _ σ _ _ I1 (q _ hn)) fun ws s2 ⟨ps, H2, I2, rel, e, kvs, ep, lk, q2⟩ => ?_)
  subst ep
  obtain ⟨rs, c, rk⟩ := carries_of (P := X.prog) (w := X.w) rel
  obtain ⟨z, hd, vs0, r0, dd⟩ := dk_of I2.hok e
  cases r0
  refine ⟨rs, c, dd, fun h' dd' hs => ⟨.ref s.heap.objs.size, _, ?_, rfl, q2⟩⟩
  have hz : (mergeK [] kvs).length ≤ sizeLine := by
    have h1 := length_mergeK kvs []
    rw [List.length_nil] at h1
    rw [sizeLine_eq]; omega
  have he : ∃ q, h'.get? s.heap.objs.size = some q := let ⟨q, _, _, hq, _⟩ := dd'; ⟨q, hq⟩
  exact d_write I2 (by rw [e]; exact True.intro) hs he (dk_new hz hd (rk.merge .nil) dd')
def IsD (H : Hp) (a : Addr) : Prop := (∃ kvs, Rd H a (.dK kvs)) ∨ ∃ kvs, Rd H a (.dT kvs)
theorem isD_at {X : Cx} {pins : List (Addr × Obj)} {σ : St} {H : Hp} {s : Shared} {a : Addr} (I : Inv X pins σ H s) (d : IsD H a) :
    s.TypeIs (.ref a) "dict" ∧ (∀ b, Value.ref a = .ref b → ∃ ob, s.heap.get? b = some ob ∧ ob.dict = none) ∧ (a == sysModules) = false := by
  rcases d with ⟨kvs, e⟩ | ⟨kvs, e⟩
  · obtain ⟨_, hd, vs, _, dd⟩ := dk_rd I.hok e
    refine ⟨dd.typeIs, fun b q => ?_, hd⟩
    cases q
    obtain ⟨ob, _, _, h1, h2, _⟩ := dd
    exact ⟨ob, h1, h2.2.1⟩
  · obtain ⟨_, hd, xs, _, dd⟩ := dt_rd I.hok e
    refine ⟨dd.typeIs, fun b q => ?_, hd⟩
    cases q
    obtain ⟨ob, _, _, h1, h2, _⟩ := dd
    exact ⟨ob, h1, h2.2.1⟩
section
variable {X : Cx} {pins : List (Addr × Obj)} {σ : St} {H : Hp} {s : Shared} {a : Addr} {y d : V} {u r : Value} {o : Option V} {A : Around} {E : Value → Shared → Prop}
end
section
variable {X : Cx} {o e f : Expr} {apos cpos : Pos} {td ty tx : TE}
end
section
variable {X : Cx} {pins : List (Addr × Obj)} {σ : St} {H : Hp} {s : Shared} {a : Addr} {kvs : List (Key × V)} {A : Around} {E : Value → Shared → Prop}
end
section
variable {X : Cx} {pins : List (Addr × Obj)} {σ : St} {H : Hp} {s : Shared} {a : Addr} {y : V} {u : Value} {A : Around} {E : Value → Shared → Prop}
end
end L2
namespace Att
open PySem PySem.W PySem.Calls PyProof.Rows
theorem ints_of_wellAll {P : Params} {h : Heap} : ∀ (ns : List Int) (vs : List Value), WellAll P h vs (ns.map WData.int) → IntsAre vs ns := by
  intro ns
  induction ns with
  | nil =>
    intro vs w
    rw [List.map_nil] at w
    cases w
    exact .nil
  | cons n ns ih =>
    intro vs w
    rw [List.map_cons] at w
    cases w with
    | cons a b =>
      cases a
      exact .cons _ _ (ih _ b)
theorem script_of {l : OpenLaw} {n : Nat} (hn : l.most = some n) {P : Params} {h : Heap} {args : List WData} {vals : List Value}
    (hpre : l.row.toRowW.claim.pre args = true) (hwl : WellAll P h vals args) :
    ∃ a vs ns, vals = [Value.ref a] ∧ args = [WData.list (ns.map WData.int)] ∧ h.get? a = some { cls := .type "list", data := .seq vs.toArray } ∧ IntsAre vs ns ∧ ns.length ≤ n := by
  have hsh : WShape.hasAll [] args [.list .int] = true := (pre_splitW hpre).1
  have hc : l.pre.holds [] { args := args } = true := (pre_splitW hpre).2
  obtain ⟨d, r, rfl, h1, h2⟩ := hasAllW_cons hsh
  obtain rfl := hasAllW_nil h2
  obtain ⟨xs, rfl, h3⟩ := hasW_list h1
  obtain ⟨ns, rfl⟩ := items_int h3
  have hlen : ns.length ≤ n := by
    unfold OpenLaw.pre at hc
    have h4 : (WTm.not (.lt (.lit (.int (n : Int))) (.len (.arg 0)))).holds [] { args := [.list (ns.map .int)] } = true := by
      have h4 := (holds_andW hc).1
      rw [hn] at h4
      exact h4
    have h5 := condW_of h4 (w_not (w_lt w_lit (w_len_list (w_arg rfl))))
    rw [List.length_map] at h5
    refine Nat.le_of_not_lt fun q => ?_
    have q' : (n : Int) < ((ns.length : Nat) : Int) := by omega
    first
      | (rw [decide_eq_true q'] at h5; exact absurd h5 (by decide))
      | (simp at h5; omega)
  cases hwl with
  | cons w1 w2 =>
    cases w2
    cases w1 with
    | list ho hall => exact ⟨_, _, ns, rfl, rfl, ho, ints_of_wellAll ns _ hall, hlen⟩
theorem post_true (l : OpenLaw) (args : List WData) : l.row.toRowW.claim.post args (.bool true) args = true :=
  postW_of (r := l.row.toRowW) (X := (true == true))
    (show WShape.has [] (.bool true) .bool = true by first | rfl | decide | simp [WShape.has, WShape.arms, WShape.armsAll])
    (show (WTm.eq .res (.lit (.bool true))).value [] { args := args, res := some (.bool true), after := args } = some (.bool (true == true)) from w_eq_bool (w_res rfl) w_lit) rfl
section
variable {prog : Program} {w : World} {A : Around} {E : Value → Shared → Prop} {s : Shared} {K : Frag}
end
end Att
namespace L2
open PySem PySem.Spec PyProof.Rows
theorem vals_ints : ∀ {vs : List Value} {ns : List Int}, IntsAre vs ns → Vals (ns.map V.int) vs
  | _, _, .nil => .nil
  | _, _, .cons n t h => .cons ⟨t, rfl⟩ (vals_ints h)
def Only (H : Hp) : Prop := ∀ b, H b = none ∨ ∃ o xs, H b = some (.frz o (.lst xs))
theorem law_call {P : Program} {w : World} {K : PySem.W.Frag} {mg mb : Str → Option Value} {CX : CXT} {k : Nat} {fa a : Addr} {fd : FuncData} {x : Str} {sp : Sp} {s₁ : Shared} {vs : List Value} {ns : List Int}
    (KX : K.In s₁.heap) (hns : s₁.heap.Ns mainGlobals mg) (hb : s₁.heap.Ns builtinsNs mb) (hbb : ∀ x : Str, x ≠ "__name__" → mb x = bootBuiltins x) (hlim : s₁.heap.NoLimit) (hg : s₁.gens = #[])
    (ha : s₁.heap.get? a = some { cls := .type "list", data := .seq vs.toArray }) (hi : IntsAre vs ns) (hl : ns.length ≤ sizeLine) (hr : Room k callerA)
    (F : ∀ base : Heap, K.In base → base.Ns mainGlobals mg → FnOk P w K mg base CX k fa fd [x] sp) (hbind : ∀ (s : Shared) (u : Value), BindsTo s fd ⟨[u], []⟩ [(x, u)])
    (hsp : ∀ H : Hp, Only H → SqL K H a (ns.map V.int) → sp [.ref a] H (fun v _ => v = .bl true) fun _ _ _ => False)
    (hCX : ∀ H e s', CX [] H s₁ (fun _ _ _ => False) e s' → False) :
    codeAny (model P w) callerA (.call (.ref fa) ⟨[.ref a], []⟩) (fun r s' => r = .ok (.ret (.bool true)) ∧ OldK s₁.heap s'.heap ∧ s'.os = s₁.os ∧ AllBare s'.gens) s₁ := by
  have rv := vals_ints hi
  have lenV := hi.length
  have core : ∀ H : Hp, Only H → SqL K H a (ns.map V.int) → HOk P w H s₁.heap → (∀ b, H b ≠ none → b = a) → (H a ≠ none → K.lookup a = none) →
      codeAny (model P w) callerA (.call (.ref fa) ⟨[.ref a], []⟩) (fun r s' => r = .ok (.ret (.bool true)) ∧ OldK s₁.heap s'.heap ∧ s'.os = s₁.os ∧ AllBare s'.gens) s₁ := by
    intro H hO hS hok hA hK
    have base_of : ∀ {b : Addr} {o : Obj}, s₁.heap.get? b = some o → H b = none → (hidT s₁.heap H).get? b = some o := fun e n => hidT_get e n
    have noA : ∀ {b : Addr} {o : Obj} {es : Array DictEntry} {ep : Nat}, s₁.heap.get? b = some o → o.data = .dict es ep → H b = none := fun {b o es ep} e d => by
      cases q : H b with
      | none => rfl
      | some u =>
        have e' : b = a := hA b (by rw [q]; simp)
        subst e'
        rw [ha] at e; cases e
        have d' : Data.seq vs.toArray _ = Data.dict es ep := d
        cases d'
    have nsK : ∀ {b : Addr} {m : Str → Option Value}, s₁.heap.Ns b m → (hidT s₁.heap H).Ns b m := fun {b m} ⟨o, es, ep, e, d, r⟩ => ⟨o, es, ep, base_of e (noA e d), d, r⟩
    have hKb : K.In (hidT s₁.heap H) := fun b o e => base_of (KX b o e) (by
      cases q : H b with
      | none => rfl
      | some u =>
        have e' : b = a := hA b (by rw [q]; simp)
        subst e'
        rw [hK (by rw [q]; simp)] at e; cases e)
    have hM : Mod K mg (hidT s₁.heap H) := ⟨hKb, nsK hns, ⟨mb, nsK hb, hbb⟩, let ⟨mc, h1, h2⟩ := hlim; ⟨mc, nsK h1, h2⟩⟩
    have e0 : Env0 P w K mg (hidT s₁.heap H) callerA [] s₁ H := ⟨rfl, hM, fun b o e => of_hidT e, Nat.le_of_eq (hidT_size _ _), trivial, fun b hb => absurd (show b ∈ ([] : List Addr) from hb) (by simp), hok, .of_eq hg⟩
    refine codeAny_mono ((F _ hKb (nsK hns)).run callerA [] s₁ H ⟨[.ref a], []⟩ [.ref a] [.ref a] _ _ hr e0 (hbind s₁ (.ref a)) (.cons rfl .nil) (hsp H hO hS)) fun r s' h => ?_
    cases r with
    | error e => exact (hCX H e s' h).elim
    | ok fl =>
      cases fl with
      | next => exact False.elim h
      | brk => exact False.elim h
      | cont => exact False.elim h
      | ret u =>
        obtain ⟨v, H', os, bare, un, hok', r', q⟩ := h
        have q' : v = .bl true := q
        subst q'
        obtain rfl : u = Value.bool true := r'
        refine ⟨rfl, OldK.of_keep fun b o e => ?_, os, bare⟩
        cases q : H b with
        | none => exact un.keep b o e q (by intro z; exact absurd (show b ∈ ([] : List Addr) from z) (by simp)) (by simp)
        | some u =>
          rcases hO b with z | ⟨ob, xs, z⟩
          · rw [q] at z; cases z
          · have z2 := un.frzs b ob _ z
            obtain ⟨e1, _⟩ := hok b _ z
            obtain ⟨e2, _⟩ := hok' b _ z2
            rw [e] at e1; cases e1
            exact e2
  cases hk : K.lookup a with
  | some o =>
    have e := KX a o hk
    rw [ha] at e
    cases e
    refine core (fun _ => none) (fun _ => .inl rfl) (.inr ⟨_, vs.toArray, _, hk, rfl, rfl, rfl, by rw [List.size_toArray, lenV]; exact hl, by simpa using rv⟩) (fun b u z => by have z' : (none : Option HO) = some u := z; cases z') (fun b z => absurd rfl z) fun z => absurd rfl z
  | none =>
    refine core (fun b => if b = a then some (.frz { cls := .type "list", data := .seq vs.toArray } (.lst (ns.map V.int))) else none) (fun b => ?_) (.inl (.inr ⟨{ cls := .type "list", data := .seq vs.toArray }, if_pos rfl⟩)) (fun b u z => ?_) (fun b z => ?_) fun _ => hk
    · by_cases hb : b = a
      · exact .inr ⟨_, _, if_pos hb⟩
      · exact .inl (if_neg hb)
    · by_cases hb : b = a
      · have z' := (if_pos hb).symm.trans z
        cases z'
        subst hb
        exact ⟨ha, by rw [List.length_map]; exact hl, vs, _, rv, ha⟩
      · have z' := (if_neg hb).symm.trans z
        cases z'
    · by_cases hb : b = a
      · exact hb
      · exact absurd (if_neg hb) z
end L2
namespace L2
open PySem PySem.Spec PyProof.Rows
end L2
namespace L2
open PySem PySem.Spec PyProof.Rows
abbrev CX0 : CXT := fun _ _ _ _ _ _ => False
abbrev E0 : XK := fun _ _ _ => False
theorem pass0 {X : Cx} : Passes CX0 X E0 := fun _ _ _ _ _ _ _ h => h.elim
structure Fun (K : PySem.W.Frag) (x qual : Str) (st : Stmt) (f : Addr) (fd : FuncData) : Prop where
  ex : ∃ (oc : Value) (od : Option Addr) (kV doc pm : Value) (an : Option Addr) (cdv ct : Value) (osl : Array (Option Value)),
    fd = PySem.W.fnOf x qual (defArgs st) (defBody st) (defScope st) .none kV doc pm an cdv ct ∧ K.lookup f = some ⟨oc, od, .func fd, osl⟩ ∧ PySem.W.codeIn K cdv qual = true
  kp : PySem.W.keepIn K (.ref f) = true
section
variable {P : Program} {w : World} {K : PySem.W.Frag} {mg : Str → Option Value} {base : Heap}
theorem Fun.ok {x qual : Str} {st : Stmt} {f : Addr} {fd : FuncData} {N ps : List Str} {k : Nat} {sp : Sp} (F : Fun K x qual st f fd) (S : FnScope N ps (defScope st)) (len : ∀ vs H Q E, sp vs H Q E → vs.length = ps.length)
    (hbody : ∀ (cdv : Value) (A : Around) (outer : List Env) (s : Shared) (H : Hp) (vs : List V) (Q : VK) (E : XK), Room k (A.deeper (envOfC qual (defScope st) s.heap.objs.size f cdv)) → sp vs H Q E →
      ∃ t, PSs (cxOf CX0 P w K mg base N qual (defScope st) f cdv A outer s H E).nox (defBody st) t ∧ t { nx := fun _ H' => Q .non H', rt := Q } (start N vs) H) : FnOk P w K mg base CX0 (k + 1) f fd ps sp := by
  obtain ⟨oc, od, kV, doc, pm, an, cdv, ct, osl, rfl, lk, hcd⟩ := F.ex
  refine fn_of lk hcd S len fun A outer s H vs Q E hr hsp => ?_
  obtain ⟨t, h, q⟩ := hbody cdv A outer s H vs Q E hr hsp
  exact ⟨t, h.nox, q⟩
theorem Fun.binds {x qual : Str} {st : Stmt} {f : Addr} {fd : FuncData} {ps : List Str} (F : Fun K x qual st f fd)
    (h : ∀ (kV doc pm : Value) (an : Option Addr) (cdv ct : Value) (us : List Value), us.length = ps.length → bindArgs (PySem.W.fnOf x qual (defArgs st) (defBody st) (defScope st) .none kV doc pm an cdv ct) ⟨us, []⟩ = pure (ps.zip us)) : Binds K fd ps [] := by
  obtain ⟨oc, od, kV, doc, pm, an, cdv, ct, osl, rfl, lk, hcd⟩ := F.ex
  exact .all (h kV doc pm an cdv ct)
theorem fun_mk {x qual : Str} {st : Stmt} {f : Addr} {oc : Value} {od an : Option Addr} {osl : Array (Option Value)} {kV doc pm cdv ct : Value} (l : K.lookup f = some ⟨oc, od, .func (PySem.W.fnOf x qual (defArgs st) (defBody st) (defScope st) .none kV doc pm an cdv ct), osl⟩)
    (c : PySem.W.codeIn K cdv qual = true) (k : PySem.W.keepIn K (.ref f) = true) : Fun K x qual st f (PySem.W.fnOf x qual (defArgs st) (defBody st) (defScope st) .none kV doc pm an cdv ct) := ⟨⟨oc, od, kV, doc, pm, an, cdv, ct, osl, rfl, l, c⟩, k⟩
end
theorem small1000 {n : Nat} (h : n ≤ 1000) : n < sizeLine := Nat.lt_of_le_of_lt h (by decide)
section
variable {X : Cx}
theorem pv (i : Nat) {x : Str} {pos : Pos} (hN : X.N[i]? = some x := by rfl) (hv : Vis X.env.scope x := by first | exact Or.inl rfl | exact Or.inr (Or.inl rfl) | exact Or.inr (Or.inr rfl)) (hd : (x == ("__debug__" : Str)) = false := by decide)
    (hcd : (x == ("__classdict__" : Str)) = false := by decide) : PE X (.Name x pos) (tVar i) := pe_var hN hv hd hcd
end
theorem iteF {A B : Prop} (h : B) : if false = true then A else B := by
  rw [if_neg Bool.false_ne_true]
  exact h
theorem iteT {A B : Prop} (h : A) : if true = true then A else B := by
  rw [if_pos rfl]
  exact h
theorem ite2 {c A B : Prop} [Decidable c] (h1 : c → A) (h2 : ¬ c → B) : if c then A else B := by
  by_cases h : c
  · rw [if_pos h]
    exact h1 h
  · rw [if_neg h]
    exact h2 h
theorem iteNS {c A B : Prop} [Decidable c] (hc : c) (h : B) : if (!decide c) = true then A else B := by
  rw [decide_eq_true hc]
  exact iteF h
def Same (H H' : Hp) : Prop := ∀ b o, H b = some o → H' b = some o
theorem Same.refl (H : Hp) : Same H H := fun _ _ h => h
theorem Same.trans {H H1 H2 : Hp} (a : Same H H1) (b : Same H1 H2) : Same H H2 := fun c o h => b c o (a c o h)
theorem Same.seq {K : PySem.W.Frag} {H H' : Hp} {a : Addr} {xs : List V} (e : Same H H') (h : SqL K H a xs) : SqL K H' a xs := by
  rcases h with (h | ⟨o, h⟩) | h
  · exact .inl (.inl (e _ _ h))
  · exact .inl (.inr ⟨o, e _ _ h⟩)
  · exact .inr h
end L2
namespace L2
open PySem PySem.Spec PyProof.Rows
section
variable {X : Cx}
end
section
variable {κ : Type} [DecidableEq κ]
theorem valV_in {kvs : List (κ × V)} {k : κ} {v : V} (h : valV kvs k = some v) : k ∈ kvs.map (·.1) := by
  have q : (kvs.any fun kv => decide (kv.1 = k)) = true := by
    rw [valV_any, h]
    all_goals rfl
  obtain ⟨p, hp, e⟩ := List.any_eq_true.mp q
  exact List.mem_map.mpr ⟨p, hp, of_decide_eq_true e⟩
theorem nd_snoc : ∀ {l : List κ} {k : κ}, l.Nodup → ¬ k ∈ l → (l ++ [k]).Nodup
  | [], k, _, _ => by simp
  | a :: r, k, h, hk => by
    obtain ⟨h1, h2⟩ := List.nodup_cons.mp h
    show (a :: (r ++ [k])).Nodup
    refine List.nodup_cons.mpr ⟨fun m => ?_, nd_snoc h2 fun m => hk (List.mem_cons.mpr (Or.inr m))⟩
    rcases List.mem_append.mp m with q | q
    · exact h1 q
    · exact hk (List.mem_cons.mpr (Or.inl (List.mem_singleton.mp q).symm))
end
end L2
namespace L2
open PySem PySem.Spec PyProof.Rows
def freeCells (cells : List (Str × Addr)) : List (Str × NameKind) → List (Str × Addr) → List (Str × Addr)
  | [], acc => acc
  | (n, k) :: r, acc => freeCells cells r (if k == .free then (match cells.lookup n with | some c => (n, c) :: acc | none => acc) else acc)
theorem closureFor_eq {scope : Scope} {env : Env} (h : ∀ y ∈ scope.names, y.2 = .free → ∃ c, env.cells.lookup y.1 = some c) : closureFor scope env = pure (freeCells env.cells scope.names []) := by
  simp only [closureFor]
  generalize ([] : List (Str × Addr)) = acc
  revert h
  generalize scope.names = l
  intro h
  induction l generalizing acc with
  | nil => simp [freeCells]
  | cons x r ih =>
    obtain ⟨n, k⟩ := x
    rw [List.forIn_cons]
    have hr : ∀ y ∈ r, y.2 = NameKind.free → ∃ c, env.cells.lookup y.1 = some c := fun y hy => h y (List.mem_cons_of_mem _ hy)
    by_cases hk : k = .free
    · subst hk
      obtain ⟨c, e⟩ := h (n, .free) List.mem_cons_self rfl
      have e' : List.lookup n env.cells = some c := e
      have e2 : cellOf env n = pure c := by unfold cellOf; rw [e']
      simp only [beq_self_eq_true, if_true, e2, pure_bind, freeCells, e']
      exact ih _ hr
    · have hb : (k == NameKind.free) = false := by simpa using hk
      simp only [hb, Bool.false_eq_true, if_false, pure_bind, freeCells]
      exact ih _ hr
theorem freeCells_mem (cells : List (Str × Addr)) : ∀ (l : List (Str × NameKind)) (acc : List (Str × Addr)) (p : Str × Addr), p ∈ freeCells cells l acc → p ∈ acc ∨ (p.1, NameKind.free) ∈ l ∧ cells.lookup p.1 = some p.2
  | [], _, _, h => .inl h
  | (n, k) :: r, acc, p, h => by
    have h' : p ∈ freeCells cells r (if k == .free then (match cells.lookup n with | some c => (n, c) :: acc | none => acc) else acc) := h
    rcases freeCells_mem cells r _ p h' with q | ⟨q1, q2⟩
    · by_cases hk : k = .free
      · subst hk
        simp only [beq_self_eq_true, if_true] at q
        cases e : cells.lookup n with
        | none => rw [e] at q; exact .inl q
        | some c =>
          rw [e] at q
          rcases List.mem_cons.mp q with rfl | q
          · exact .inr ⟨List.mem_cons_self, e⟩
          · exact .inl q
      · have hb : (k == NameKind.free) = false := by simpa using hk
        simp only [hb, Bool.false_eq_true, if_false] at q
        exact .inl q
    · exact .inr ⟨List.mem_cons_of_mem _ q1, q2⟩
theorem lookup_some_of_mem {α β : Type} [BEq α] [LawfulBEq α] {x : α} : ∀ {l : List (α × β)} {c : β}, (x, c) ∈ l → ∃ d, l.lookup x = some d
  | (a, b) :: r, c, h => by
    by_cases e : x = a
    · subst e; exact ⟨b, by simp⟩
    · rcases List.mem_cons.mp h with q | q
      · cases q; exact absurd rfl e
      · obtain ⟨d, hd⟩ := lookup_some_of_mem q
        refine ⟨d, ?_⟩
        have e' : (x == a) = false := by simpa using e
        simp only [List.lookup_cons, e']
        exact hd
theorem freeCells_has (cells : List (Str × Addr)) (x : Str) (c : Addr) (e : cells.lookup x = some c) : ∀ (l : List (Str × NameKind)) (acc : List (Str × Addr)), ((x, NameKind.free) ∈ l ∨ (x, c) ∈ acc) → (x, c) ∈ freeCells cells l acc
  | [], _, h => h.elim (fun q => nomatch q) id
  | (n, k) :: r, acc, h => by
    refine freeCells_has cells x c e r _ ?_
    rcases h with h | h
    · rcases List.mem_cons.mp h with q | q
      · cases q
        refine .inr ?_
        rw [e]
        exact List.mem_cons_self
      · exact .inl q
    · refine .inr ?_
      by_cases hk : (k == NameKind.free) = true
      · rw [if_pos hk]
        cases cells.lookup n with
        | none => exact h
        | some _ => exact List.mem_cons_of_mem _ h
      · rw [if_neg hk]; exact h
theorem freeCells_look {cells : List (Str × Addr)} {names : List (Str × NameKind)} {x : Str} {c : Addr} (h : (freeCells cells names []).lookup x = some c) : cells.lookup x = some c := by
  have hm := PySem.mem_of_lookup h
  rcases freeCells_mem cells names [] _ hm with q | ⟨_, q⟩
  · exact nomatch q
  · exact q
theorem freeCells_ex {cells : List (Str × Addr)} {names : List (Str × NameKind)} {x : Str} {c : Addr} (hm : (x, NameKind.free) ∈ names) (e : cells.lookup x = some c) : (freeCells cells names []).lookup x = some c := by
  obtain ⟨d, hd⟩ := lookup_some_of_mem (freeCells_has cells x c e names [] (.inl hm))
  have := freeCells_look hd
  rw [e] at this
  rw [hd, this]
theorem relabel_look {scope : Scope} {env : Env} {x : Str} {k : NameKind} (h : (relabel scope env).names.lookup x = some k) : ∃ k', scope.names.lookup x = some k' ∧ (k' = k ∨ (k' = .free ∧ k = .cell)) := by
  have go : ∀ (l : List (Str × NameKind)), (l.map fun (n, k) => if (k == NameKind.free && env.scope.kind == .function && env.kindOf n == some .cell) then (n, NameKind.cell) else (n, k)).lookup x = some k → ∃ k', l.lookup x = some k' ∧ (k' = k ∨ (k' = .free ∧ k = .cell)) := by
    intro l
    induction l with
    | nil => intro h; simp at h
    | cons p r ih =>
      obtain ⟨n, kk⟩ := p
      intro h
      simp only [List.map_cons] at h
      by_cases hx : x = n
      · subst hx
        by_cases hc : (kk == NameKind.free && env.scope.kind == .function && env.kindOf x == some .cell) = true
        · rw [if_pos hc] at h
          simp at h
          have : kk = .free := by
            simp only [Bool.and_eq_true, beq_iff_eq] at hc
            exact hc.1.1
          exact ⟨kk, by simp, .inr ⟨this, h.symm⟩⟩
        · rw [if_neg hc] at h
          simp at h
          exact ⟨kk, by simp, .inl h⟩
      · have e' : (x == n) = false := by simpa using hx
        have : ∀ b : Bool, (if b = true then (n, NameKind.cell) else (n, kk)).1 = n := fun b => by cases b <;> rfl
        rw [List.lookup_cons, this, e'] at h
        obtain ⟨k', h1, h2⟩ := ih h
        exact ⟨k', by rw [List.lookup_cons, e']; exact h1, h2⟩
  exact go scope.names h
theorem relabel_free {scope : Scope} {env : Env} {x : Str} (h : scope.names.lookup x = some .free) : (relabel scope env).names.lookup x = some .cell ∨ (relabel scope env).names.lookup x = some .free := by
  have go : ∀ (l : List (Str × NameKind)), l.lookup x = some .free → (l.map fun (n, k) => if (k == NameKind.free && env.scope.kind == .function && env.kindOf n == some .cell) then (n, NameKind.cell) else (n, k)).lookup x = some .cell ∨ (l.map fun (n, k) => if (k == NameKind.free && env.scope.kind == .function && env.kindOf n == some .cell) then (n, NameKind.cell) else (n, k)).lookup x = some .free := by
    intro l
    induction l with
    | nil => intro h; simp at h
    | cons p r ih =>
      obtain ⟨n, kk⟩ := p
      intro h
      simp only [List.map_cons]
      by_cases hx : x = n
      · subst hx
        simp at h
        by_cases hc : (kk == NameKind.free && env.scope.kind == .function && env.kindOf x == some .cell) = true
        · rw [if_pos hc]; simp
        · rw [if_neg hc]; simp [h]
      · have e' : (x == n) = false := by simpa using hx
        have t : ∀ b : Bool, (if b = true then (n, NameKind.cell) else (n, kk)).1 = n := fun b => by cases b <;> rfl
        rw [List.lookup_cons, e'] at h
        rw [List.lookup_cons, t, e']
        exact ih h
  exact go scope.names h
section
variable {prog : Program} {w : World} {A : Around} {R : Result → Shared → Prop} {s : Shared}
theorem compLoop_go {elt target iter : Expr} {ifs : List Expr} {scope : Scope} {pos : Pos} {it acc : Value} {env : Env} (I : Nat → Shared → Prop)
    (turn : ∀ n s, I n s → wpAny (model prog w) A (pyNext it) (fun r s₁ => match r with
      | none => R (.ok .next) s₁
      | some v => wpAny (model prog w) A (letOwnedTupleGo target it v) (fun _ s₁' => wpAny (model prog w) A (assign target env v) (fun _ s₂ =>
          wpAny (model prog w) A (forIn ifs true fun c r => if r = true then do let ok ← isTrue c env (eval c env); pure (ForInStep.yield ok) else pure (ForInStep.yield r)) (fun ok s₃ =>
            if ok = true then wpAny (model prog w) A (eval elt env) (fun x s₄ =>
              wpAny (model prog w) A (call (.builtin "list.append") [acc, x]) (fun _ s₅ => ∃ m, m < n ∧ I m s₅) (fun _ _ => False) s₄) (fun _ _ => False) s₃
            else ∃ m, m < n ∧ I m s₃) (fun _ _ => False) s₂) (fun _ _ => False) s₁') (fun _ _ => False) s₁) (fun _ _ => False) s)
    (n : Nat) (h : I n s) :
    codeAny (model prog w) A (.compLoop (.ListComp elt [⟨target, iter, ifs, 0⟩] scope pos) 0 it acc env) R s := by
  refine codeAny_loop rfl I (fun n s hI => ?_) n h
  show wpAny _ A ((compTurn (.ListComp elt [⟨target, iter, ifs, 0⟩] scope pos) 0 it acc env).onRaise (fun x => do noteFrame x env; theTreesLotGoes x)) _ _ s
  refine wpAny_noted ?_
  rw [compTurn_list]
  refine wpAny_bind (wpAny_standAt (wpAny_bind (wpAny_mono (turn n s hI) (fun r s₁ h₁ => ?_) fun _ _ h' => h'.elim)))
  cases r with
  | none => exact wpAny_pure h₁
  | some v =>
    refine wpAny_bind (wpAny_mono h₁ (fun _ s₁' h₁' => ?_) fun _ _ h' => h'.elim)
    refine wpAny_bind (wpAny_mono h₁' (fun _ s₂ h₂ => wpAny_bind (wpAny_mono h₂ (fun ok s₃ h₃ => ?_) fun _ _ h' => h'.elim)) fun _ _ h' => h'.elim)
    cases ok with
    | false => exact wpAny_pure ⟨rfl, h₃⟩
    | true =>
      exact wpAny_bind (wpAny_bind (wpAny_mono h₃ (fun x s₄ h₄ => wpAny_bind (wpAny_mono h₄ (fun _ s₅ h₅ => wpAny_pure (wpAny_pure ⟨rfl, h₅⟩)) fun _ _ h' => h'.elim)) fun _ _ h' => h'.elim))
end
structure CompSc (esc : Scope) (N : List Str) (scope : Scope) (k : Nat) (Nc : List Str) (js : List Nat) : Prop where
  kind : scope.kind = .function
  cell : ∀ y ∈ scope.names, y.2 ≠ .cell
  names : ∀ y ∈ scope.names, y.2 = .local → scope.names.lookup y.1 = some .local
  free : ∀ y ∈ scope.names, y.2 = .free → esc.names.lookup y.1 = some .cell ∨ esc.names.lookup y.1 = some .free
  len : Nc.length = k + js.length
  out : ∀ p ∈ (Nc.drop k).zip js, N[p.2]? = some p.1 ∧ scope.names.lookup p.1 = some .free
def compSt (k : Nat) (js : List Nat) (σ : St) : St := List.replicate k none ++ js.map fun j => (σ[j]?).join
def Cx.comp (X : Cx) (pins : List (Addr × Obj)) (Nc : List Str) (scope : Scope) (fp : List Addr) (s : Shared) (H : Hp) (C : Addr) : Cx :=
  { X with N := Nc, s₀ := s, H₀ := H, env := compEnvC scope (freeCells X.env.cells scope.names []) C X.env, outer := X.stack, stack := X.stack, ex := fp, fn := fun _ => false, pn := X.pn ++ pins, xe := fun _ _ => False }
section
variable {X : Cx} {pins : List (Addr × Obj)} {σ : St} {H : Hp} {s : Shared} {scope : Scope} {Nc : List Str} {js : List Nat} {k : Nat}
theorem CompSc.some (S : CompSc X.env.scope X.N scope k Nc js) (I : Inv X pins σ H s) : ∀ y ∈ scope.names, y.2 = .free → ∃ c, X.env.cells.lookup y.1 = some c := fun y hy hk => I.ok.has y.1 (S.free y hy hk)
theorem CompSc.clos (S : CompSc X.env.scope X.N scope k Nc js) (I : Inv X pins σ H s) : closureFor scope X.env = pure (freeCells X.env.cells scope.names []) := closureFor_eq (S.some I)
theorem comp_ok (S : CompSc X.env.scope X.N scope k Nc js) (I : Inv X pins σ H s) {fp : List Addr} (hf : ∀ b ∈ fp, FpOk X pins H b) (hlt : ∀ b ∈ fp, b < s.heap.objs.size) {C : Addr} (hC : s.heap.objs.size ≤ C) : (X.comp pins Nc scope fp s H C).Ok := by
  have ltC : ∀ b, b < s.heap.objs.size → b ≠ C := fun b hb => Nat.ne_of_lt (Nat.lt_of_lt_of_le hb hC)
  have notstk : ∀ b ∈ fp, b ∉ frs X.stack := fun b hb z => by
    rcases List.mem_cons.mp (I.stkSub b z) with e | e
    · exact (hf b hb).2.1 e
    · exact (hf b hb).2.2.1 e
  refine ⟨I.ok.mod, S.kind, I.ok.glob, I.ok.blt, hC, fun x y c h1 h2 => I.ok.inj x y c (freeCells_look h1) (freeCells_look h2), fun x hx => ?_, fun x c h => ?_, I.ok.hd, I.ok.frames, .inl rfl, fun b hb => ⟨?_, fun x c e => (hf b hb).2.2.2.2.1 x c (freeCells_look e)⟩,
    fun b o e => ⟨(I.bs b o e).1, (I.bs b o e).2⟩, Nat.le_trans I.ok.bsz I.sz, fun b o e hb => ?_, notstk, I.stack, I.stkFree⟩
  · have hx' : (relabel scope X.env).names.lookup x = some .cell ∨ (relabel scope X.env).names.lookup x = some .free := hx
    have hfree : (x, NameKind.free) ∈ scope.names := by
      rcases hx' with h | h
      · obtain ⟨k', h1, h2⟩ := relabel_look h
        rcases h2 with rfl | ⟨rfl, _⟩
        · exact absurd rfl (S.cell _ (PySem.mem_of_lookup h1))
        · exact PySem.mem_of_lookup h1
      · obtain ⟨k', h1, h2⟩ := relabel_look h
        rcases h2 with rfl | ⟨rfl, _⟩
        · exact PySem.mem_of_lookup h1
        · exact PySem.mem_of_lookup h1
    obtain ⟨c, hc⟩ := S.some I (x, .free) hfree rfl
    exact ⟨c, freeCells_ex hfree hc⟩
  · exact absurd (show false = true from h) Bool.false_ne_true
  · exact ltC b (hlt b hb)
  · rcases (hf b hb).2.2.2.1 with q | q
    · exact I.ok.noex b o e q
    · exact absurd (Nat.lt_of_lt_of_le (Heap.lt_size e) (Nat.le_trans I.ok.bsz q)) (Nat.lt_irrefl _)
theorem comp_inv (S : CompSc X.env.scope X.N scope k Nc js) (I : Inv X pins σ H s) {fp : List Addr} (hf : ∀ b ∈ fp, FpOk X pins H b) (hlt : ∀ b ∈ fp, b < s.heap.objs.size) {C : Addr} (hC : s.heap.objs.size ≤ C) {s1 : Shared}
    (os : s1.os = s.os) (bare : AllBare s1.gens) (kept : ∀ b o, s.heap.get? b = some o → s1.heap.get? b = some o) (ns : ∃ m, s1.heap.Ns C m) : Inv (X.comp pins Nc scope fp s H C) [] (compSt k js σ) H s1 := by
  have ltC : ∀ b, b < s.heap.objs.size → b ≠ C := fun b hb => Nat.ne_of_lt (Nat.lt_of_lt_of_le hb hC)
  refine ⟨comp_ok S I hf hlt hC, os, bare, Un.kept kept, ?_, fun x c e => ?_, I.hok.fresh hC, fun x c e => I.freeC x c (freeCells_look e), fun p hp => ?_, I.hok.kept kept, ?_⟩
  · obtain ⟨mc, hns⟩ := ns
    refine ⟨mc, hns, fun i x v e1 e2 e3 => ?_⟩
    have e1' : Nc[i]? = some x := e1
    by_cases hi : i < k
    · unfold compSt at e2
      rw [List.getElem?_append_left (by simpa using hi), List.getElem?_replicate, if_pos hi] at e2
      cases e2
    · obtain ⟨i', rfl⟩ : ∃ i', i = k + i' := ⟨i - k, by omega⟩
      unfold compSt at e2
      rw [List.getElem?_append_right (by simp), List.length_replicate, Nat.add_sub_cancel_left, List.getElem?_map] at e2
      cases ej : js[i']? with
      | none => rw [ej] at e2; cases e2
      | some j =>
        rw [ej] at e2
        have e2' : (σ[j]?).join = some v := Option.some.inj e2
        have e4 : σ[j]? = some (some v) := by
          cases q : σ[j]? with
          | none => rw [q] at e2'; cases e2'
          | some z => rw [q] at e2'; cases z with
            | none => cases e2'
            | some z => cases e2'; rfl
        have hm : (x, j) ∈ (Nc.drop k).zip js := List.mem_of_getElem? (i := i') (List.getElem?_zip_eq_some.mpr ⟨by rw [List.getElem?_drop]; exact e1', ej⟩)
        obtain ⟨hN, hfr⟩ := S.out _ hm
        have hfm : (x, NameKind.free) ∈ scope.names := PySem.mem_of_lookup hfr
        have hk := S.free _ hfm rfl
        obtain ⟨m, hn, hl⟩ := I.loc
        obtain ⟨u, r, l⟩ := hl j x v hN e4 (.inr hk)
        refine ⟨u, r, ?_⟩
        rcases l with ⟨hk', _⟩ | ⟨_, c, hc, o, ho, hd⟩
        · have hk'' : X.env.scope.names.lookup x = some .local := hk'
          rcases hk with hk | hk
          · rw [hk] at hk''; cases hk''
          · rw [hk] at hk''; cases hk''
        · exact .inr ⟨relabel_free hfr, c, freeCells_ex hfm hc, o, kept _ _ ho, hd⟩
  · obtain ⟨v, o, ho, hd⟩ := I.cell x c (freeCells_look e)
    exact ⟨v, o, kept _ _ ho, hd⟩
  · have hp' : p ∈ X.pn ++ pins := by
      rcases List.mem_append.mp hp with z | z
      · exact z
      · exact nomatch z
    obtain ⟨e, n, ne, nf, d⟩ := I.pin p hp'
    refine ⟨kept _ _ e, n, ltC _ (Heap.lt_size e), fun z => ?_, d⟩
    rcases List.mem_cons.mp (I.stkSub _ z) with q | q
    · exact ne q
    · exact nf q
  · show (compSt k js σ).length = Nc.length
    unfold compSt
    rw [List.length_append, List.length_replicate, List.length_map, S.len]
theorem comp_back (I : Inv X pins σ H s) {fp : List Addr} (hf : ∀ b ∈ fp, FpOk X pins H b) {C D : Addr} (hDs : s.heap.objs.size ≤ D) {pins' : List (Addr × Obj)} {σ' : St} {H' : Hp} {s' : Shared} {ys : List V} {its : List Value} {n : Nat}
    (J : Inv (X.comp pins Nc scope fp s H C) pins' σ' H' s') (hD : H' D = none) (hz : ys.length ≤ sizeLine) (hv : Vals ys its) (ho : s'.heap.get? D = some { cls := .type "list", data := .seq its.toArray n }) :
    Inv X pins σ (upd H' D (.lst ys)) s' := by
  have B : Un (frs X.stack) fp H H' s.heap s'.heap := J.base
  have neD : ∀ b o, s.heap.get? b = some o → b ≠ D := fun b o e => Nat.ne_of_lt (Nat.lt_of_lt_of_le (Heap.lt_size e) hDs)
  refine I.call' (ch := fp) J.os ⟨B.keep, B.slot, fun b o e n hx => ?_, B.there, fun b xs e => ?_, fun b o u e => ?_, fun b ps e => ?_⟩ (fun b o e => ?_) J.bare fun b hb => ⟨(hf b hb).2.2.2.1, (hf b hb).2.1, (hf b hb).2.2.2.2.1, (hf b hb).2.2.2.2.2⟩
  · rw [upd_ne (neD b o e)]; exact B.free b o e n hx
  · rw [upd_ne (ne_of_none (B.tups b xs e) hD)]; exact B.tups b xs e
  · rw [upd_ne (ne_of_none (B.frzs b o u e) hD)]; exact B.frzs b o u e
  · obtain ⟨more, q⟩ := B.tbls b ps e
    exact ⟨more, by rw [upd_ne (ne_of_none q hD)]; exact q⟩
  · by_cases hb : b = D
    · subst hb
      rw [upd_same] at e
      cases e
      exact ⟨hz, its, n, hv, ho⟩
    · rw [upd_ne hb] at e
      exact (J.hok b o e).stay (fun c v _ q => q) (fun c q => by rw [upd_ne (ne_of_none q hD)]; exact q) fun c xs q => by rw [upd_ne (ne_of_none q hD)]; exact q
end
def PTs (Y : Cx) (ifs : List Expr) (t : TT) : Prop :=
  ∀ (pins : List (Addr × Obj)) (s : Shared) (σ : St) (H : Hp) (Q : Bool → Hp → Prop), Inv Y pins σ H s → t σ H Q →
    wpAny (model Y.prog Y.w) Y.A (forIn ifs true fun c r => if r = true then do let ok ← isTrue c Y.env (eval c Y.env); pure (ForInStep.yield ok) else pure (ForInStep.yield r)) (TP Y pins σ Q) Y.xe s
def tYes : TT := fun _ H Q => Q true H
theorem pts_nil {Y : Cx} : PTs Y [] tYes := fun _ _ _ H _ I h => wpAny_tests_nil ⟨H, I, h⟩
theorem pts_one {Y : Cx} {c : Expr} {t : TT} (h : PT Y c t) : PTs Y [c] t := fun pins s σ H Q I hq => wpAny_tests_one (h pins s σ H Q I hq)
def CompTurns (J : It) (g : TG) (tt : TT) (te : TE) (Fin : List V → Hp → Prop) (W : Nat → Nat → List V → St → Hp → Prop) : Prop :=
  ∀ i m ys σ H, W i m ys σ H → (J.stop i H ∧ ys.length ≤ sizeLine ∧ Fin ys H) ∨ (J.go i H ∧ ys.length < sizeLine ∧ ∃ N : List V → St → Hp → Prop, (∀ ys' σ' H', N ys' σ' H' → ∃ m', m' < m ∧ W (i + 1) m' ys' σ' H') ∧
    ∀ x H', J.yld i H x H' → g x σ H' fun σ2 H2 => tt σ2 H2 fun b H3 => if b = true then te σ2 H3 fun y H4 => N (ys ++ [y]) σ2 H4 else N ys σ2 H3)
section
variable {X : Cx} {pins : List (Addr × Obj)} {σ : St} {H : Hp} {s : Shared} {scope : Scope} {Nc : List Str} {js : List Nat} {k : Nat} {tg iter elt : Expr} {ifs : List Expr} {pos : Pos} {g : TG} {tt : TT} {te : TE}
theorem comp_block {J : It} {fp : List Addr} {it : Addr} {tn : Nat → Heap → Prop} {Fin : List V → Hp → Prop} {W : Nat → Nat → List V → St → Hp → Prop} {RR : Value → Addr → Result → Shared → Prop} {E : Value → Shared → Prop} {m0 : Nat}
    (S : CompSc X.env.scope X.N scope k Nc js) (hc : X.calm = true) (I : Inv X pins σ H s) (T : Turn X.prog X.w X.K tg J fp it tn) (st : tn 0 s.heap) (hf : ∀ b ∈ fp, FpOk X pins H b)
    (hg : ∀ pins fp s H C, PG (X.comp pins Nc scope fp s H C) tg g) (ht : ∀ pins fp s H C, PTs (X.comp pins Nc scope fp s H C) ifs tt) (he : ∀ pins fp s H C, PE (X.comp pins Nc scope fp s H C) elt te)
    (w0 : W 0 m0 [] (compSt k js σ) H) (turn : CompTurns J g tt te Fin W)
    (hRR : ∀ D C s' ys H', Inv X pins σ (upd H' D (.lst ys)) s' → FpOk X pins (upd H' D (.lst ys)) C → (∃ m, s'.heap.Ns C m) → H' D = none → Fin ys H' → RR (.ref D) C (.ok .next) s') :
    wpAny (model X.prog X.w) X.A (newList []) (fun acc s₃ => wpAny (model X.prog X.w) X.A (newFunctionEnv scope X.env.globals (freeCells X.env.cells scope.names []) [] X.env.qual none .none (some X.env)) (fun cenv s₄ =>
      codeAny (model X.prog X.w) X.A (.compStart (.ListComp elt [⟨tg, iter, ifs, 0⟩] scope pos) 0 (.ref it) acc { cenv with scope := relabel scope X.env }) (RR acc cenv.locals) s₄) E s₃) E s := by
  refine wpAny_newObj_type (wpAny_newFunctionEnv S.cell (by intro y hy; simp at hy) (fun h₁ hns₁ hsb₁ => ?_) S.kind)
  dsimp only at hns₁ hsb₁ ⊢
  generalize hH2 : s.heap.push { cls := .type "list", dict := none, data := .seq ([] : List Value).toArray } = H2 at hns₁ hsb₁ ⊢
  have hC : H2.objs.size = s.heap.objs.size + 1 := by rw [← hH2, Heap.size_push]
  have hCle : s.heap.objs.size ≤ H2.objs.size := by rw [hC]; exact Nat.le_succ _
  have hDC : s.heap.objs.size ≠ H2.objs.size := by rw [hC]; exact Nat.ne_of_lt (Nat.lt_succ_self _)
  have old : ∀ b o, s.heap.get? b = some o → h₁.get? b = some o := fun b o e =>
    hsb₁.extBut b o (Nat.ne_of_lt (Nat.lt_of_lt_of_le (Heap.lt_size e) hCle)) (Heap.get?_push_of_some _ (hH2 ▸ Heap.get?_push_of_some _ e))
  have hacc : h₁.get? s.heap.objs.size = some { cls := .type "list", data := .seq ([] : List Value).toArray 0 } := hsb₁.extBut _ _ hDC (Heap.get?_push_of_some _ (hH2 ▸ Heap.get?_push_size _ rfl))
  have hob : ∀ b ∈ fp, ∃ o, s.heap.get? b = some o := fun b hb => let ⟨o, e, _⟩ := T.obj 0 _ st b hb; ⟨o, e⟩
  have hlt : ∀ b ∈ fp, b < s.heap.objs.size := fun b hb => let ⟨_, e⟩ := hob b hb; Heap.lt_size e
  have notstk : ∀ b ∈ fp, b ∉ frs X.stack := fun b hb z => by
    rcases List.mem_cons.mp (I.stkSub b z) with e | e
    · exact (hf b hb).2.1 e
    · exact (hf b hb).2.2.1 e
  have hDstk : s.heap.objs.size ∉ frs X.stack := fun z => by
    rcases List.mem_cons.mp (I.stkSub _ z) with e | e
    · have := I.lt
      rw [← e] at this
      exact Nat.lt_irrefl _ this
    · exact I.nofs (Nat.le_refl _) e
  let dpin : List Value → Nat → List (Addr × Obj) := fun its n => [(s.heap.objs.size, { cls := .type "list", data := .seq its.toArray n })]
  have fpok : ∀ {H' : Hp} {its : List Value} {n : Nat}, (∀ b ∈ fp, H' b = none) → ∀ b ∈ fp, FpOk (X.comp pins Nc scope fp s H H2.objs.size) (dpin its n) H' b := fun {H' its n} hn b hb =>
    ⟨hn b hb, Nat.ne_of_lt (Nat.lt_of_lt_of_le (hlt b hb) hCle), notstk b hb, .inl hb, fun x c e => (hf b hb).2.2.2.2.1 x c (freeCells_look e), fun p hp z => by
      rcases List.mem_append.mp hp with q | q
      · exact (hf b hb).2.2.2.2.2 p q z
      · have e : p = (s.heap.objs.size, _) := List.mem_singleton.mp q
        rw [e] at z
        exact absurd (hlt b hb) (by rw [← z]; exact Nat.lt_irrefl _)⟩
  have loop : ∀ s₃ : Shared, s₃ = { s with heap := h₁, toks := s.toks + ([] : List (Str × Value)).length } →
      codeAny (model X.prog X.w) X.A (.compLoop (.ListComp elt [⟨tg, iter, ifs, 0⟩] scope pos) 0 (.ref it) (.ref s.heap.objs.size) (compEnvC scope (freeCells X.env.cells scope.names []) H2.objs.size X.env)) (RR (.ref s.heap.objs.size) H2.objs.size) s₃ := by
    rintro s₃ rfl
    refine compLoop_go (fun n s' => ∃ i ys its nn σc H', Inv (X.comp pins Nc scope fp s H H2.objs.size) [] σc H' s' ∧ tn i s'.heap ∧ (∀ b ∈ fp, H' b = none) ∧ H' s.heap.objs.size = none ∧ Vals ys its ∧
      s'.heap.get? s.heap.objs.size = some { cls := .type "list", data := .seq its.toArray nn } ∧ W i n ys σc H') ?_ m0 ?_
    · rintro n s3 ⟨i, ys, its, nn, σ3, H3, I3, st3, fr3, hD3, hv3, ho3, w3⟩
      have I3' : Inv (X.comp pins Nc scope fp s H H2.objs.size) (dpin its nn) σ3 H3 s3 := I3.pins_of fun p hp => by
        have e : p = (s.heap.objs.size, _) := List.mem_singleton.mp hp
        subst e
        exact ⟨ho3, hD3, hDC, hDstk, fun v z => by cases z⟩
      rcases turn i n ys σ3 H3 w3 with ⟨stop, hz, fin⟩ | ⟨go, hz, N, hN, step⟩
      · refine thn (T.done (X.comp pins Nc scope fp s H H2.objs.size) rfl rfl rfl hc i (dpin its nn) s3 σ3 H3 (fun _ _ => False) I3' (fpok fr3) st3 stop) fun r s4 ⟨hr, I4⟩ => ?_
        subst hr
        have ho4 := (I4.pin _ (List.mem_append_right _ (List.mem_singleton.mpr rfl))).1
        obtain ⟨m4, hn4, _⟩ := I4.loc
        refine hRR _ _ s4 ys H3 (comp_back I hf (Nat.le_refl _) I4 hD3 hz hv3 ho4) (I.fpOk hCle ?_) ⟨m4, hn4⟩ hD3 fin
        rw [upd_ne (Ne.symm hDC)]
        exact I4.free
      · refine thn (T.item (X.comp pins Nc scope fp s H H2.objs.size) rfl rfl rfl hc i (dpin its nn) s3 σ3 H3 (fun _ _ => False) I3' (fpok fr3) st3 go) fun r s4 ⟨u, hr, h4⟩ => ?_
        subst hr
        refine thn h4 fun _ s5 ⟨x, H5, I5, r5, y5, st5, fr5⟩ => ?_
        have I5' := I5.pinned (fpok fr5) (T.obj _ _ st5)
        refine thn (hg pins fp s H H2.objs.size _ s5 σ3 H5 x u _ I5' r5 (step x H5 y5)) fun _ s6 ⟨σ6, H6, I6, q6⟩ => ?_
        refine thn (ht pins fp s H H2.objs.size _ s6 σ6 H6 _ I6 q6) fun ok s7 ⟨H7, I7, q7⟩ => ?_
        have keepIt : ∀ {σ' : St} {H' : Hp} {s' : Shared}, Inv (X.comp pins Nc scope fp s H H2.objs.size) (dpin its nn ++ pinsAt fp s5.heap) σ' H' s' →
            s'.heap.get? s.heap.objs.size = some { cls := .type "list", data := .seq its.toArray nn } ∧ H' s.heap.objs.size = none ∧ (∀ b ∈ fp, H' b = none) ∧ (∀ b ∈ fp, ∀ o, s5.heap.get? b = some o → s'.heap.get? b = some o) := fun {σ' H' s'} J => by
          have p1 := J.pin (s.heap.objs.size, _) (List.mem_append_right _ (List.mem_append_left _ (List.mem_singleton.mpr rfl)))
          refine ⟨p1.1, p1.2.1, fun b hb => ?_, fun b hb o e => (J.pin (b, o) (List.mem_append_right _ (List.mem_append_right _ (mem_pinsAt hb e)))).1⟩
          obtain ⟨o, e, _⟩ := T.obj _ _ st5 b hb
          exact (J.pin (b, o) (List.mem_append_right _ (List.mem_append_right _ (mem_pinsAt hb e)))).2.1
        cases ok with
        | true =>
          rw [if_pos rfl] at q7 ⊢
          refine thn (he pins fp s H H2.objs.size _ s7 σ6 H7 _ I7 q7) fun y s8 ⟨v, H8, I8, r8, q8⟩ => ?_
          obtain ⟨ho8, hD8, fr8, k8⟩ := keepIt I8
          refine append_at (hsz := by have := hv3.length; show its.toArray.size ≤ sizeLine; rw [List.size_toArray, ← this]; exact Nat.le_of_lt hz) ho8 fun h9 hs9 ho9 => ?_
          obtain ⟨m', hm', w9⟩ := hN _ _ _ q8
          have I8u : Inv (X.comp pins Nc scope fp s H H2.objs.size) [] σ6 H8 s8 := I8.pins_of fun p hp => nomatch hp
          have I9 : Inv (X.comp pins Nc scope fp s H H2.objs.size) [] σ6 H8 { s8 with heap := h9 } := I8u.turned (t' := s8.toks) (it := s.heap.objs.size) (fun b o hb e => (hs9.2 b hb).trans e) hD8 hDC (.inr (Nat.le_refl _)) (fun x c e z => by
            obtain ⟨v, q⟩ := I.cell x c (freeCells_look e)
            exact absurd q.lt (by rw [z]; exact Nat.lt_irrefl _)) fun p hp z => by
              have hp' : p ∈ X.pn ++ pins := by
                rcases List.mem_append.mp hp with q | q
                · exact q
                · exact nomatch q
              exact absurd (Heap.lt_size (I.pin p hp').1) (by rw [z]; exact Nat.lt_irrefl _)
          refine ⟨m', hm', i + 1, ys ++ [v], its ++ [y], nn + 1, σ6, H8, I9, T.keep _ _ _ st5 fun b hb o e => (hs9.2 b (Nat.ne_of_lt (hlt b hb))).trans (k8 b hb o e), fr8, hD8, hv3.append (.cons r8 .nil), ?_, w9⟩
          show h9.get? s.heap.objs.size = _
          rw [ho9]
          simp
        | false =>
          rw [if_neg Bool.false_ne_true] at q7 ⊢
          obtain ⟨ho8, hD8, fr8, k8⟩ := keepIt I7
          obtain ⟨m', hm', w9⟩ := hN _ _ _ q7
          exact ⟨m', hm', i + 1, ys, its, nn, σ6, H7, I7.pins_of fun p hp => (nomatch hp), T.keep _ _ _ st5 k8, fr8, hD8, hv3, ho8, w9⟩
    · exact ⟨0, [], [], 0, _, H, comp_inv S I hf hlt hCle rfl I.bare old ⟨_, hns₁⟩, T.keep _ _ _ st fun b _ o e => old b o e, fun b hb => (hf b hb).1, I.hok.fresh (Nat.le_refl _), .nil, hacc, w0⟩
  exact codeAny_compStart_list (loop _ rfl) (T.self X.A 0 _ _ _ (T.keep _ _ _ st fun b _ o e => old b o e) (loop _ rfl))
def tComp (wi : TI) (k : Nat) (js : List Nat) (g : TG) (tt : TT) (te : TE) : TE := fun σ H Q => wi σ H fun J H1 => ∃ W : Nat → Nat → List V → St → Hp → Prop, (∃ m, W 0 m [] (compSt k js σ) H1) ∧
  CompTurns J g tt te (fun ys H => ∀ D, H D = none → Q (.ref D) (upd H D (.lst ys))) W
theorem pe_comp {wi : TI} (S : CompSc X.env.scope X.N scope k Nc js) (hc : X.calm = true) (hi : PI X tg iter wi)
    (hg : ∀ pins fp s H C, PG (X.comp pins Nc scope fp s H C) tg g) (ht : ∀ pins fp s H C, PTs (X.comp pins Nc scope fp s H C) ifs tt) (he : ∀ pins fp s H C, PE (X.comp pins Nc scope fp s H C) elt te)
    (hs : ∀ x, foldedSetIterable iter X.env x = pure x := by intro _; rfl) : PE X (.ListComp elt [⟨tg, iter, ifs, 0⟩] scope pos) (tComp wi k js g tt te) := by
  intro pins s σ H Q I h
  rw [eval_ListComp]
  refine wpAny_comprehension_free (use := none) rfl hs (S.clos I) S.kind S.names (thn (hi pins s σ H _ I h) fun xv s1 h1 => thn h1 fun itv s2 h2 => ?_)
  obtain ⟨it, fp, tn, J, H2, e, I2, T, st2, f2, W, ⟨m0, w0⟩, turn⟩ := h2
  subst e
  refine comp_block (RR := fun acc C => compPost (model X.prog X.w) X.A X.xe none (EP X pins σ Q) acc C) S hc I2 T st2 f2 hg ht he w0 turn fun D C s' ys H' I' fC ns hD fin => ?_
  obtain ⟨m, hn⟩ := ns
  exact ⟨m, hn, fun h' hs' => ⟨.ref D, _, I'.turned (t' := s'.toks) (fun b o hb e => (hs'.2 b hb).trans e) fC.1 fC.2.1 fC.2.2.2.1 fC.2.2.2.2.1 fC.2.2.2.2.2, rfl, fin D hD⟩⟩
theorem ps_setcomp {wi : TI} {i : Nat} {x : Str} {px spos : Pos} (hN : X.N.Nodup) (hi' : X.N[i]? = some x) (hx : Loc X.env.scope x) (S : CompSc X.env.scope X.N scope k Nc js) (hc : X.calm = true) (hi : PI X tg iter wi)
    (hg : ∀ pins fp s H C, PG (X.comp pins Nc scope fp s H C) tg g) (ht : ∀ pins fp s H C, PTs (X.comp pins Nc scope fp s H C) ifs tt) (he : ∀ pins fp s H C, PE (X.comp pins Nc scope fp s H C) elt te)
    (hsw : swapsWith (.ListComp elt [⟨tg, iter, ifs, 0⟩] scope pos) (some (.Name x px)) spos.line X.env = pure true := by rfl)
    (hs : ∀ x, foldedSetIterable iter X.env x = pure x := by intro _; rfl) (hf : X.fn x = true ∨ X.env.scope.names.lookup x = some .local := by first | exact .inl rfl | exact .inr rfl | assumption) :
    PS X (.Assign [.Name x px] (.ListComp elt [⟨tg, iter, ifs, 0⟩] scope pos) spos) (tAsg (tComp wi k js g tt te) (gName i)) := by
  intro pins s σ H D I h
  rw [exec_Assign_Name_used _ _ _ _ hsw]
  refine wpAny_bind (wpAny_standAt (wpAny_bind ?_))
  show wpAny _ X.A (do let _ ← comprehension (.ListComp elt [⟨tg, iter, ifs, 0⟩] scope pos) scope X.env _ (newList []) false (eval iter X.env) (some (assign (.Name x px) X.env))) _ _ s
  refine wpAny_bind (wpAny_mono (wpAny_comprehension_free (use := some (assign (.Name x px) X.env)) (Q := fun _ s' => SP X pins D .next s') rfl hs (S.clos I) S.kind S.names
    (thn (hi pins s σ H _ I h) fun xv s1 h1 => thn h1 fun itv s2 h2 => ?_)) (fun _ s' hq => wpAny_pure (wpAny_pure hq)) fun _ _ e => e)
  obtain ⟨it, fp, tn, J, H2, e, I2, T, st2, f2, W, ⟨m0, w0⟩, turn⟩ := h2
  subst e
  refine comp_block (RR := fun acc C => compPost (model X.prog X.w) X.A X.xe (some (assign (.Name x px) X.env)) (fun _ s' => SP X pins D .next s') acc C) S hc I2 T st2 f2 hg ht he w0 turn fun A C s' ys H' I' fC ns hD fin => ?_
  obtain ⟨m, hn⟩ := ns
  show wpAny _ X.A (assign (.Name x px) X.env (.ref A)) _ _ _
  refine wpAny_assign_Name (store_ok2 I' hN hi' hx (v := .ref A) rfl (fun s'' I'' ⟨a, sb, ha⟩ => ?_) hf)
  have hCa : C ≠ a := by
    rcases ha with ha | ha
    · rw [ha]; exact fC.2.1
    · exact fun z => fC.2.2.2.2.1 x a ha z.symm
  exact ⟨m, hn.sameBut sb hCa, fun h' hs' => ⟨_, _, I''.turned (t' := s''.toks) (fun b o hb e => (hs'.2 b hb).trans e) fC.1 fC.2.1 fC.2.2.2.1 fC.2.2.2.2.1 fC.2.2.2.2.2, fin A hD⟩⟩
end
end L2
namespace L2
open PySem PySem.Spec PyProof.Rows
section
variable {X : Cx} {tg : Expr}
theorem op_mul_str : OpR X (binaryOp .Mult) (fun x y H Q => ∃ z n, x = .str z ∧ y = .int n ∧ MulOk z n ∧ Q (.str (Txt.mul z n)) H) := by
  intro pins s σ H x y v u Q I rx ry h
  obtain ⟨z, n, rfl, rfl, hm, q⟩ := h
  obtain ⟨t, rfl⟩ := rx
  obtain ⟨t', rfl⟩ := ry
  exact PySem.SB.mul hm fun t' k => ⟨.str _, H, I.tok k, ⟨t', rfl⟩, q⟩
theorem op_mulB : OpR X (binaryOp .Mult) (rI IntMulOk fun i j => .int (i * j)) := opI fun _ _ _ _ _ _ _ hc q => mul_int q hc
theorem call_isT : CallR X (.builtin "isinstance") (fun xs H Q => ∃ x t T b, xs = [x, .ty T] ∧ TyOf X.K H x t ∧ PySem.W.kitOne X.K t (.type T) = some b ∧ Q (.bl b) H) := by
  intro pins s σ H xs us Q I r h
  obtain ⟨x, t, T, b, rfl, ty, e, q⟩ := h
  obtain ⟨u, c, rfl, ru, rc⟩ := vals2 r
  have ec : c = .type T := rc
  subst ec
  exact isinst_ok I ru ty e fun tk => ⟨.bl b, H, I.tok tk, rfl, q⟩
end
end L2
namespace L2
open PySem PySem.Spec PyProof.Rows
section
variable {X : Cx}
end
end L2
namespace L2
open PySem PySem.Spec PyProof.Rows
theorem yes_eq {te : TE} {N N' : V → St → Hp → Prop} {M : St → Hp → Prop} : (fun (σ2 : St) (H2 : Hp) => tYes σ2 H2 fun b H3 => if b = true then te σ2 H3 fun y H4 => N y σ2 H4 else M σ2 H3) = fun σ2 H2 => te σ2 H2 fun y H4 => N y σ2 H4 := by
  funext σ2 H2
  unfold tYes
  dsimp only
  rw [if_pos rfl]
end L2
namespace L2
open PySem PySem.Spec PyProof.Rows
end L2
namespace L2
open PySem PySem.Spec PyProof.Rows
section
variable {X : Cx}
theorem oi_add : OpR X (binaryOp .Add) (fun x y H Q => ∃ i j, x = .int i ∧ y = .int j ∧ Q (.int (i + j)) H) := op_add
theorem oi_sub : OpR X (binaryOp .Sub) (fun x y H Q => ∃ i j, x = .int i ∧ y = .int j ∧ Q (.int (i - j)) H) := op_sub
theorem oi_mul : OpR X (binaryOp .Mult) (fun x y H Q => ∃ i j, x = .int i ∧ y = .int j ∧ IntMulOk i j ∧ Q (.int (i * j)) H) := op_mulB
theorem oi_fdiv : OpR X (binaryOp .FloorDiv) (fun x y H Q => ∃ i j, x = .int i ∧ y = .int j ∧ (0 < j ∧ j < 1073741824) ∧ Q (.int (i / j)) H) := op_fdiv
theorem oi_mod : OpR X (binaryOp .Mod) (fun x y H Q => ∃ i j, x = .int i ∧ y = .int j ∧ 0 < j ∧ Q (.int (i % j)) H) := op_mod
theorem oi_pow : OpR X (binaryOp .Pow) (fun x y H Q => ∃ i j, x = .int i ∧ y = .int j ∧ (0 ≤ j ∧ j ≤ 1000000 ∧ i.natAbs < 2 ^ 64) ∧ Q (.int (i ^ j.toNat)) H) := op_pow
theorem oi_lt : OpR X (compareOp .Lt) (fun x y H Q => ∃ i j, x = .int i ∧ y = .int j ∧ Q (.bl (decide (i < j))) H) := op_lt
theorem oi_ge : OpR X (compareOp .GtE) (fun x y H Q => ∃ i j, x = .int i ∧ y = .int j ∧ Q (.bl (decide (j ≤ i))) H) := op_ge
end
end L2
namespace Att
open PySem PySem.W PySem.Calls PyProof.Rows
theorem script_bits {ns : List Int} (h : WData.layableAll [WData.list (ns.map WData.int)] = true) : ∀ n ∈ ns, Builtin.Int.intBits n ≤ 2 ^ 20 := fun n hn => by
  have h1 := layableW_arg h _ (List.mem_singleton.mpr rfl)
  have h2 := layableW_item h1 (WData.int n) (List.mem_map.mpr ⟨n, hn, rfl⟩)
  exact PyData.bits_of_layable (layable0_of_all (lay0_int h2))
theorem attach_callB {l : OpenLaw} {n : Nat} {q : Program} {loose : List Str} {XP : (Str → Option Value) → Heap → Prop} {YP : World → Heap → Prop} {d : DefRec}
    (hn : l.most = some n) (hdf : d.params.defaults = [])
    (call : ∀ (w : World) (s₀ s₁ : Shared) (mg mb : Str → Option Value) (fa : Addr) (o : Obj) (pm cd doc : Value) (a : Addr) (vs : List Value) (ns : List Int),
      Ground q loose [] XP w s₀ mg mb s₁.heap → YP w s₁.heap →
      s₁.heap.get? fa = some o → o.data = .func (docDef d.name d.params d.body d.scope pm cd doc) → s₁.heap.CodeRec cd d.name → mg d.name = some (.ref fa) →
      s₁.heap.get? a = some { cls := .type "list", data := .seq vs.toArray } → IntsAre vs ns → ns.length ≤ n → (∀ k ∈ ns, Builtin.Int.intBits k ≤ 2 ^ 20) → s₁.gens = #[] →
      codeAny (model l.prog w) callerA (.call (.ref fa) ⟨[.ref a], []⟩) (fun r s' => r = .ok (.ret (.bool true)) ∧ OldK s₁.heap s'.heap ∧ s'.os = s₁.os ∧ AllBare s'.gens) s₁) :
    WalkO q loose XP YP l.row.toRowW d [] (fun f vs => PySem.call f vs) := by
  intro w s₀ s₁ mg mb G Y fa o pm cd doc dV kV ho hd hcd hD hmg hg args vals as hpre hlay hrd hwl hlo
  obtain rfl : dV = .none := Dflts.none hD hdf
  obtain rfl : kV = .none := Dflts.noKw hD
  obtain ⟨a, vs, ns, rfl, rfl, hobj, hints, hlen⟩ := script_of hn hpre hwl
  refine enter_call (codeAny_mono (call w s₀ s₁ mg mb fa o pm cd doc a vs ns G Y ho (fd_plain hd) hcd hmg hobj hints hlen (script_bits hlay) hg) fun r s' hq => ?_)
  obtain ⟨rfl, h2, h3, h4⟩ := hq
  exact ⟨.inl ⟨.bool true, .bool true, [], rfl, fun _ => rfl, .bool true, post_true l _, fun _ => ⟨List.Pairwise.nil, fun _ hm => (nomatch hm)⟩⟩, h2, h3, h4⟩
end Att
namespace L2
open PySem PySem.Spec PyProof.Rows
theorem walk_ofB {l : PySem.W.OpenLaw} {n k : Nat} {q : Program} {loose : List Str} {XP : (Str → Option Value) → Heap → Prop} {YP : World → Heap → Prop} {d : DefRec} {K : Params → PySem.W.Frag} {CX : World → CXT} {sp : World → Sp} {x : Str}
    (hn : l.most = some n) (hn2 : n ≤ sizeLine) (hdf : d.params.defaults = []) (hr : Room k callerA)
    (hY : ∀ (w : World) (h : Heap), YP w h → (K w.params).In h)
    (F : ∀ (w : World) (mg : Str → Option Value) (fa : Addr) (h : Heap), (K w.params).In h → h.Ns mainGlobals mg → mg d.name = some (.ref fa) →
      ∃ fd : FuncData, (∀ (s : Shared) (u : Value), BindsTo s fd ⟨[u], []⟩ [(x, u)]) ∧
        ∀ base : Heap, (K w.params).In base → base.Ns mainGlobals mg → FnOk l.prog w (K w.params) mg base (CX w) k fa fd [x] (sp w))
    (hsp : ∀ (w : World) (H : Hp) (a : Addr) (ns : List Int), ns.length ≤ n → (∀ k ∈ ns, Builtin.Int.intBits k ≤ 2 ^ 20) → Only H → SqL (K w.params) H a (ns.map V.int) → sp w [.ref a] H (fun v _ => v = .bl true) fun _ _ _ => False)
    (hCX : ∀ (w : World) (H : Hp) (s : Shared) (e : Value) (s' : Shared), CX w [] H s (fun _ _ _ => False) e s' → False) :
    PySem.W.WalkO q loose XP YP l.row.toRowW d [] (fun f vs => PySem.call f vs) := by
  refine Att.attach_callB hn hdf fun w s₀ s₁ mg mb fa o pm cd doc a vs ns G Y ho hd hcd hmg hobj hints hlen hbits hg => ?_
  have KX := hY w _ Y
  obtain ⟨fd, hb, hF⟩ := F w mg fa _ KX G.T.g hmg
  exact law_call KX G.T.g G.T.b G.T.builtins G.T.nolimit hg hobj hints (Nat.le_trans hlen hn2) hr hF hb (fun H hO hS => hsp w H a ns hlen hbits hO hS) fun H e s' => hCX w H s₁ e s'
theorem Same.new {H : Hp} {p : Addr} (h : H p = none) (o : HO) : Same H (upd H p o) := fun b u q => by rw [upd_ne (ne_of_none q h)]; exact q
theorem atI_ex {α : Type} {xs : List α} {i : Int} (h0 : 0 ≤ i) (h1 : i < (xs.length : Int)) : ∃ v, atI xs i = some v ∧ v ∈ xs := by
  have hj : i.toNat < xs.length := by omega
  have e : ((i.toNat : Nat) : Int) = i := by omega
  have q := atI_nat (xs := xs) (j := i.toNat) (v := xs[i.toNat]) (List.getElem?_eq_getElem hj)
  rw [e] at q
  exact ⟨_, q, List.getElem_mem hj⟩
theorem len_le_line {n m : Nat} (h : n ≤ m) (hm : m ≤ 1000000 := by decide) : n ≤ sizeLine := Nat.le_trans h (Nat.le_trans hm (by rw [sizeLine_eq]; decide))
theorem str_len_append (x y : Str) : (x ++ y).length = x.length + y.length := strLen_append x y
end L2
namespace L2
open PySem PySem.Spec PyProof.Rows
theorem fold_size (c : Array Nat) : ∀ (k : Nat) (acc : Array Nat), ((List.replicate k c).foldl (· ++ ·) acc).size = acc.size + k * c.size
  | 0, acc => by simp
  | k + 1, acc => by
    rw [List.replicate_succ, List.foldl_cons, fold_size c k, Array.size_append, Nat.succ_mul]
    omega
theorem mul_len (z : Str) {n : Int} (h0 : 0 ≤ n) : (Txt.mul z n).length = z.length * n.toNat := by
  unfold Txt.mul
  by_cases h1 : n < 1
  · rw [if_pos h1]
    have e : n.toNat = 0 := by omega
    rw [e, Nat.mul_zero]
    rfl
  · rw [if_neg h1]
    by_cases h2 : (n == 1 || z.length == 0) = true
    · rw [if_pos h2]
      simp only [Bool.or_eq_true, beq_iff_eq] at h2
      rcases h2 with rfl | h2
      · simp
      · rw [h2]; simp
    · rw [if_neg h2]
      show ((List.replicate n.toNat z.cps).foldl (· ++ ·) #[]).size = z.cps.size * n.toNat
      rw [fold_size]
      simp [Nat.mul_comm]
theorem mul_ok {z : Str} {n : Int} (hz : z.length ≤ 1000) (h0 : 0 ≤ n) (h1 : n ≤ 1000) : MulOk z n := by
  refine ⟨?_, fun h2 _ => ?_, fun _ _ => ?_⟩
  · rw [decide_eq_false (by omega), decide_eq_false (by omega)]
    rfl
  · have h3 : (1000 : Int) ≤ (2 ^ 63 - 1) / n := by
      rw [Int.le_ediv_iff_mul_le (by omega)]
      omega
    omega
  · have h4 : z.length * n.toNat ≤ 1000 * 1000 := Nat.mul_le_mul hz (by omega)
    unfold Builtin.Str.tooLong
    have := sizeLine_eq
    simp
    omega
end L2
namespace L2
open PySem PySem.Spec PyProof.Rows
def SIt (h : Heap) : Bool → Addr → Addr → Nat → Prop
  | false, it, l, k => h.IsListIter it l k
  | true, it, l, k => h.IsTupleIter it l k
def SSq (h : Heap) : Bool → Addr → Array Value → Prop
  | false, l, xs => h.IsList l xs
  | true, l, xs => h.IsTuple l xs
theorem SIt.obj {h : Heap} : ∀ {b : Bool} {it l : Addr} {k : Nat}, SIt h b it l k → ∃ o, h.get? it = some o ∧ ∃ vs, o.data = .fields vs
  | false, _, _, _, ⟨o, e, _, d⟩ => ⟨o, e, _, d⟩
  | true, _, _, _, ⟨o, e, _, d⟩ => ⟨o, e, _, d⟩
theorem SIt.keep {h h' : Heap} : ∀ {b : Bool} {it l : Addr} {k : Nat}, SIt h b it l k → (∀ o, h.get? it = some o → h'.get? it = some o) → SIt h' b it l k
  | false, _, _, _, ⟨o, e, r⟩, f => ⟨o, f o e, r⟩
  | true, _, _, _, ⟨o, e, r⟩, f => ⟨o, f o e, r⟩
theorem SSq.keep {h h' : Heap} : ∀ {b : Bool} {l : Addr} {xs : Array Value}, SSq h b l xs → (∀ o, h.get? l = some o → h'.get? l = some o) → SSq h' b l xs
  | false, _, _, ⟨o, e, r⟩, f => ⟨o, f o e, r⟩
  | true, _, _, ⟨o, e, r⟩, f => ⟨o, f o e, r⟩
theorem SSq.obj {h : Heap} : ∀ {b : Bool} {l : Addr} {xs : Array Value}, SSq h b l xs → ∃ o, h.get? l = some o ∧ ∃ n, o.data = .seq xs n
  | false, _, _, ⟨o, e, _, n, d⟩ => ⟨o, e, n, d⟩
  | true, _, _, ⟨o, e, _, n, d⟩ => ⟨o, e, n, d⟩
section
variable {prog : Program} {w : World} {A : Around} {E : Value → Shared → Prop} {s : Shared}
theorem nxt_tup_item {it t : Addr} {k : Nat} {xs : Array Value} {x : Value} {Q : Value → Shared → Prop} (hi : s.heap.IsTupleIter it t k) (ht : s.heap.IsTuple t xs) (hx : xs[k]? = some x)
    (q : ∀ g, g.IsTupleIter it t (k + 1) → Heap.SameBut it s.heap g → Q x { s with heap := g }) : wpAny (model prog w) A (Builtin.SmallTypes.nextOf (.ref it)) Q E s := by
  obtain ⟨o, e, c, d⟩ := id hi
  obtain ⟨ot, et, _, nt, dt⟩ := ht
  unfold Builtin.SmallTypes.nextOf
  refine wpAny_bind (wpAny_callSpecial?_slot (name := Str.ofString "__next__") hi.typeIs PySem.F.slot_tuple_iterator_next (wpAny_call_entry PySem.F.slot_tuple_iterator_next hi.typeIs PySem.F.entry_tuple_iterator_next ?_ (PySem.F.args_tuple_iterator_next_1 _)))
  show wpAny _ _ (field (.ref it) 0 >>= _) _ _ _; refine wpAny_bind (wpAny_field e d (x := .ref t) rfl ?_)
  show wpAny _ _ (if (Value.ref t == Value.none) = true then _ else _) _ _ _; rw [if_neg (show ¬ (Value.ref t == Value.none) = true from Bool.false_ne_true)]
  show wpAny _ _ (field (.ref it) 1 >>= _) _ _ _; refine wpAny_bind (wpAny_field e d (x := .int k 0) rfl ?_)
  show wpAny _ _ (seqItems? (.ref t) >>= _) _ _ _; refine wpAny_bind (wpAny_seqItems et dt ?_)
  simp only [Int.toNat_natCast, hx]; refine wpAny_bind (wpAny_setField e d (by simp) (wpAny_pure ⟨x, rfl, wpAny_pure (q _ ?_ (Heap.SameBut.update ..))⟩))
  exact ⟨_, Heap.get?_update_self _ e (Obj.isFreed_of_fields (Obj.data_mapFields d _)), (Obj.cls_mapFields ..).trans c, by rw [Obj.data_mapFields d]; simp [rawInt]⟩
theorem nxt_tup_end {it t : Addr} {k : Nat} {xs : Array Value} {Q : Value → Shared → Prop} (hh : A.handled = none) (hi : s.heap.IsTupleIter it t k) (ht : s.heap.IsTuple t xs) (hx : xs[k]? = none)
    (q : ∀ g x, Heap.ExtBut it s.heap g → (∃ o, g.get? x = some o ∧ o.cls = .type "StopIteration") → E (.ref x) { s with heap := g }) : wpAny (model prog w) A (Builtin.SmallTypes.nextOf (.ref it)) Q E s := by
  obtain ⟨o, e, c, d⟩ := id hi
  obtain ⟨ot, et, _, nt, dt⟩ := ht
  unfold Builtin.SmallTypes.nextOf
  refine wpAny_bind (wpAny_callSpecial?_slot (name := Str.ofString "__next__") hi.typeIs PySem.F.slot_tuple_iterator_next (wpAny_call_entry PySem.F.slot_tuple_iterator_next hi.typeIs PySem.F.entry_tuple_iterator_next ?_ (PySem.F.args_tuple_iterator_next_1 _)))
  show wpAny _ _ (field (.ref it) 0 >>= _) _ _ _; refine wpAny_bind (wpAny_field e d (x := .ref t) rfl ?_)
  show wpAny _ _ (if (Value.ref t == Value.none) = true then _ else _) _ _ _; rw [if_neg (show ¬ (Value.ref t == Value.none) = true from Bool.false_ne_true)]
  show wpAny _ _ (field (.ref it) 1 >>= _) _ _ _; refine wpAny_bind (wpAny_field e d (x := .int k 0) rfl ?_)
  show wpAny _ _ (seqItems? (.ref t) >>= _) _ _ _; refine wpAny_bind (wpAny_seqItems et dt ?_)
  simp only [Int.toNat_natCast, hx]; refine wpAny_bind (wpAny_rule (wpAny_bind (wpAny_setField e d (by simp) ?_)))
  show wpAny _ _ (newExc (.type "StopIteration") [] >>= _) _ _ _; refine wpAny_bind ?_; simp only [newExc, newTuple]; refine wpAny_bind (wpAny_newObj_type ?_ (by size_fits))
  refine wpAny_bind (m := firstArgMember _ _) (wpAny_of_eq (a := Value.none) (by first | rfl | (simp only [firstArgMember]; rfl)) (wpAny_newObj_type ?_ (by size_fits)))
  simp only [raiseNew]; refine wpAny_bind (wpAny_handled ?_); first | rw [show A.in1.handled = none from hh] | rw [hh]
  refine wpAny_bind (wpAny_pure (wpAny_throw (q _ _ (((Heap.SameBut.update ..).extBut.push _).push _) ⟨_, Heap.get?_push_size _ rfl, rfl⟩)))
theorem nxt_item {it l : Addr} {k : Nat} {xs : Array Value} {x : Value} {Q : Value → Shared → Prop} : ∀ {b : Bool}, SIt s.heap b it l k → SSq s.heap b l xs → xs[k]? = some x →
    (∀ g, SIt g b it l (k + 1) → Heap.SameBut it s.heap g → Q x { s with heap := g }) → wpAny (model prog w) A (Builtin.SmallTypes.nextOf (.ref it)) Q E s
  | false, a, c, d, q => wpAny_nextOf_list_item a c d q
  | true, a, c, d, q => nxt_tup_item a c d q
theorem nxt_end {it l : Addr} {k : Nat} {xs : Array Value} {Q : Value → Shared → Prop} (hh : A.handled = none) : ∀ {b : Bool}, SIt s.heap b it l k → SSq s.heap b l xs → xs[k]? = none →
    (∀ g x, Heap.ExtBut it s.heap g → (∃ o, g.get? x = some o ∧ o.cls = .type "StopIteration") → E (.ref x) { s with heap := g }) → wpAny (model prog w) A (Builtin.SmallTypes.nextOf (.ref it)) Q E s
  | false, a, c, d, q => wpAny_nextOf_list_end hh a c d q
  | true, a, c, d, q => nxt_tup_end hh a c d q
structure ZAp (z TI TO i1 i2 l1 l2 : Addr) : Prop where
  a : TI ≠ z ∧ TO ≠ z ∧ i1 ≠ z ∧ i2 ≠ z ∧ TI ≠ TO ∧ TI ≠ i1 ∧ TI ≠ i2 ∧ TO ≠ i1 ∧ TO ≠ i2 ∧ i1 ≠ i2
  l : ∀ c, c = l1 ∨ c = l2 → c ≠ z ∧ c ≠ TO ∧ c ≠ i1 ∧ c ≠ i2 ∧ c ≠ TI
theorem zipN_item {z TI TO i1 i2 l1 l2 : Addr} {b1 b2 : Bool} {k1 k2 : Nat} {xs ys : Array Value} {x y a b : Value} {Q : Value → Shared → Prop} (D : ZAp z TI TO i1 i2 l1 l2)
    (hz : IsZip s.heap z TI TO .none) (hI : IsPair s.heap TI (.ref i1) (.ref i2)) (hO : IsPair s.heap TO a b) (t1 : SIt s.heap b1 i1 l1 k1) (t2 : SIt s.heap b2 i2 l2 k2) (q1 : SSq s.heap b1 l1 xs) (q2 : SSq s.heap b2 l2 ys) (ex : xs[k1]? = some x) (ey : ys[k2]? = some y)
    (q : ∀ g, IsZip g z TI TO (rawInt s.heap.objs.size) → IsPair g TO x y → SIt g b1 i1 l1 (k1 + 1) → SIt g b2 i2 l2 (k2 + 1) → IsPair g s.heap.objs.size x y → (∀ c o, c ≠ z → c ≠ TO → c ≠ i1 → c ≠ i2 → s.heap.get? c = some o → g.get? c = some o) → Q (.ref s.heap.objs.size) { s with heap := g }) :
    wpAny (model prog w) A (Builtin.«zip.__next__» ⟨[.ref z], []⟩) (fun fin s' => ∃ v, fin = .done (.ret v) ∧ Q v s') E s := by
  obtain ⟨⟨nIz, nOz, n1z, n2z, nIO, nI1, nI2, nO1, nO2, n12⟩, lne⟩ := D
  obtain ⟨m1z, m1O, m11, m12, m1I⟩ := lne l1 (.inl rfl)
  obtain ⟨m2z, m2O, m21, m22, m2I⟩ := lne l2 (.inr rfl)
  show wpAny _ _ (field (.ref z) 2 >>= _) _ _ _; refine wpAny_bind (wpAny_field hz rfl (x := .bool false) rfl ?_)
  show wpAny _ _ (field (.ref z) 3 >>= _) _ _ _; refine wpAny_bind (wpAny_field hz rfl (x := .ref TI) rfl (wpAny_bind (wpAny_seqItems hI rfl ?_)))
  show wpAny _ _ (Builtin.SmallTypes.ownedTupleIsFree (.ref z) >>= _) _ _ _; refine wpAny_bind ?_; unfold Builtin.SmallTypes.ownedTupleIsFree
  refine wpAny_bind (wpAny_field hz rfl (x := .none) rfl (wpAny_pure ?_)); simp only [if_true]
  refine wpAny_bind (wpAny_rule (wpAny_bind (wpAny_field hz rfl (x := .ref TO) rfl (wpAny_bind (wpAny_setField_rec hz (by simp) fun g1 z1 s1 => ?_)))))
  replace z1 : IsZip g1 z TI TO .ellipsis := z1
  refine wpAny_bind ?_; simp only [List.zipIdx_cons, List.zipIdx_nil, List.forIn_cons, List.forIn_nil]; refine wpAny_bind (wpAny_bind (wpAny_onRaise ?_))
  show wpAny _ _ (Builtin.SmallTypes.nextOf (.ref i1) >>= _) _ _ _
  refine wpAny_bind (nxt_item (b := b1) (t1.keep fun o e => s1.extBut _ _ n1z e) (q1.keep fun o e => s1.extBut _ _ m1z e) ex fun g2 u1 s2 => wpAny_pure ?_)
  have o2 : IsPair g2 TO a b := s2.extBut _ _ nO1 (s1.extBut _ _ nOz hO)
  refine wpAny_bind (wpAny_seqItems o2 rfl (wpAny_bind (wpAny_updateSeq_pair o2 fun g3 o3 s3 => wpAny_bind (wpAny_letGo (wpAny_pure ?_)))))
  replace o3 : IsPair g3 TO x b := o3
  refine wpAny_bind (wpAny_bind (wpAny_onRaise ?_)); show wpAny _ _ (Builtin.SmallTypes.nextOf (.ref i2) >>= _) _ _ _
  refine wpAny_bind (nxt_item (b := b2) (t2.keep fun o e => s3.extBut _ _ nO2.symm (s2.extBut _ _ n12.symm (s1.extBut _ _ n2z e))) (q2.keep fun o e => s3.extBut _ _ m2O (s2.extBut _ _ m21 (s1.extBut _ _ m2z e))) ey fun g4 u2 s4 => wpAny_pure ?_)
  have o4 : IsPair g4 TO x b := s4.extBut _ _ nO2 o3
  refine wpAny_bind (wpAny_seqItems o4 rfl (wpAny_bind (wpAny_updateSeq_pair o4 fun g5 o5 s5 => wpAny_bind (wpAny_letGo (wpAny_pure (wpAny_pure ?_))))))
  replace o5 : IsPair g5 TO x y := o5
  refine wpAny_bind (wpAny_seqItems o5 rfl (wpAny_bind (wpAny_newTuple ?_)))
  have sz : g5.objs.size = s.heap.objs.size := by rw [s5.1, s4.1, s3.1, s2.1, s1.1]
  have z5 : IsZip g5 z TI TO .ellipsis := s5.extBut _ _ nOz.symm (s4.extBut _ _ n2z.symm (s3.extBut _ _ nOz.symm (s2.extBut _ _ n1z.symm z1)))
  have k5 : ∀ c o, c ≠ z → c ≠ TO → c ≠ i1 → c ≠ i2 → s.heap.get? c = some o → g5.get? c = some o := fun c o h1 h2 h3 h4 e => s5.extBut _ _ h2 (s4.extBut _ _ h4 (s3.extBut _ _ h2 (s2.extBut _ _ h3 (s1.extBut _ _ h1 e))))
  have v1 : SIt g5 b1 i1 l1 (k1 + 1) := u1.keep fun o e => s5.extBut _ _ nO1.symm (s4.extBut _ _ n12 (s3.extBut _ _ nO1.symm e))
  have v2 : SIt g5 b2 i2 l2 (k2 + 1) := u2.keep fun o e => s5.extBut _ _ nO2.symm e
  have zlt : z < g5.objs.size := Heap.lt_size z5
  show wpAny _ _ (Builtin.SmallTypes.ownedTupleHandOut (.ref z) (.ref g5.objs.size) >>= _) _ _ _; refine wpAny_bind ?_; unfold Builtin.SmallTypes.ownedTupleHandOut
  have z6 : IsZip (g5.push { cls := .type "tuple", data := .seq #[x, y] }) z TI TO .ellipsis := Heap.get?_push_of_some _ z5
  refine wpAny_bind (wpAny_setField_rec z6 (by simp) fun g7 z7 s7 => ?_)
  replace z7 : IsZip g7 z TI TO (rawInt g5.objs.size) := z7
  refine wpAny_setField_rec z7 (by simp) fun g8 z8 s8 => ?_
  replace z8 : IsZip g8 z TI TO (rawInt g5.objs.size) := z8
  have up : ∀ c o, c ≠ z → g5.get? c = some o → g8.get? c = some o := fun c o h1 e => s8.extBut _ _ h1 (s7.extBut _ _ h1 (Heap.get?_push_of_some _ e))
  have t8 : IsPair g8 g5.objs.size x y := s8.extBut _ _ (Nat.ne_of_gt zlt) (s7.extBut _ _ (Nat.ne_of_gt zlt) (Heap.get?_push_size _ rfl))
  rw [sz] at z8 t8
  refine wpAny_pure ⟨_, rfl, ?_⟩
  show Q (.ref g5.objs.size) _
  rw [sz]
  exact q g8 z8 (up _ _ nOz o5) (v1.keep fun o e => up _ o n1z e) (v2.keep fun o e => up _ o n2z e) t8 fun c o h1 h2 h3 h4 e => up c o h1 (k5 c o h1 h2 h3 h4 e)
theorem zipN_end {z TI TO i1 i2 l1 l2 : Addr} {b1 b2 : Bool} {k1 k2 : Nat} {xs ys : Array Value} {a b : Value} {Q : Fin → Shared → Prop} (hh : A.handled = none) (D : ZAp z TI TO i1 i2 l1 l2)
    (hz : IsZip s.heap z TI TO .none) (hI : IsPair s.heap TI (.ref i1) (.ref i2)) (hO : IsPair s.heap TO a b) (t1 : SIt s.heap b1 i1 l1 k1) (t2 : SIt s.heap b2 i2 l2 k2) (q1 : SSq s.heap b1 l1 xs) (q2 : SSq s.heap b2 l2 ys) (hend : xs[k1]? = none ∨ ys[k2]? = none)
    (q : ∀ g e, (∀ c o, c ≠ z → c ≠ TO → c ≠ i1 → c ≠ i2 → s.heap.get? c = some o → g.get? c = some o) → (∃ o, g.get? e = some o ∧ o.cls = .type "StopIteration") → E (.ref e) { s with heap := g }) :
    wpAny (model prog w) A (Builtin.«zip.__next__» ⟨[.ref z], []⟩) Q E s := by
  obtain ⟨⟨nIz, nOz, n1z, n2z, nIO, nI1, nI2, nO1, nO2, n12⟩, lne⟩ := D
  obtain ⟨m1z, m1O, m11, m12, m1I⟩ := lne l1 (.inl rfl)
  obtain ⟨m2z, m2O, m21, m22, m2I⟩ := lne l2 (.inr rfl)
  show wpAny _ _ (field (.ref z) 2 >>= _) _ _ _; refine wpAny_bind (wpAny_field hz rfl (x := .bool false) rfl ?_)
  show wpAny _ _ (field (.ref z) 3 >>= _) _ _ _; refine wpAny_bind (wpAny_field hz rfl (x := .ref TI) rfl (wpAny_bind (wpAny_seqItems hI rfl ?_)))
  show wpAny _ _ (Builtin.SmallTypes.ownedTupleIsFree (.ref z) >>= _) _ _ _; refine wpAny_bind ?_; unfold Builtin.SmallTypes.ownedTupleIsFree
  refine wpAny_bind (wpAny_field hz rfl (x := .none) rfl (wpAny_pure ?_)); simp only [if_true]
  refine wpAny_bind (wpAny_rule (wpAny_bind (wpAny_field hz rfl (x := .ref TO) rfl (wpAny_bind (wpAny_setField_rec hz (by simp) fun g1 z1 s1 => ?_)))))
  replace z1 : IsZip g1 z TI TO .ellipsis := z1
  refine wpAny_bind ?_; simp only [List.zipIdx_cons, List.zipIdx_nil, List.forIn_cons, List.forIn_nil]; refine wpAny_bind (wpAny_bind (wpAny_onRaise ?_))
  show wpAny _ _ (Builtin.SmallTypes.nextOf (.ref i1) >>= _) _ _ _
  cases ex : xs[k1]? with
  | none =>
    refine wpAny_bind (nxt_end (b := b1) hh (t1.keep fun o e => s1.extBut _ _ n1z e) (q1.keep fun o e => s1.extBut _ _ m1z e) ex fun g2 v s2 hv => ?_)
    obtain ⟨ov, ev, cv⟩ := hv
    have z2 : IsZip g2 z TI TO .ellipsis := s2 _ _ n1z.symm z1
    have nv : v ≠ z := fun h => by subst h; rw [z2] at ev; cases ev; simp at cv
    exact wpAny_setField_rec z2 (by simp) fun g3 _ s3 => q g3 v (fun c o h1 _ h3 _ e => s3.extBut _ _ h1 (s2 _ _ h3 (s1.extBut _ _ h1 e))) ⟨ov, s3.extBut _ _ nv ev, cv⟩
  | some x =>
    have ey : ys[k2]? = none := by rcases hend with h | h; rw [ex] at h; cases h; exact h
    refine wpAny_bind (nxt_item (b := b1) (t1.keep fun o e => s1.extBut _ _ n1z e) (q1.keep fun o e => s1.extBut _ _ m1z e) ex fun g2 u1 s2 => wpAny_pure ?_)
    have o2 : IsPair g2 TO a b := s2.extBut _ _ nO1 (s1.extBut _ _ nOz hO)
    refine wpAny_bind (wpAny_seqItems o2 rfl (wpAny_bind (wpAny_updateSeq_pair o2 fun g3 o3 s3 => wpAny_bind (wpAny_letGo (wpAny_pure ?_)))))
    refine wpAny_bind (wpAny_bind (wpAny_onRaise ?_)); show wpAny _ _ (Builtin.SmallTypes.nextOf (.ref i2) >>= _) _ _ _
    refine wpAny_bind (nxt_end (b := b2) hh (t2.keep fun o e => s3.extBut _ _ nO2.symm (s2.extBut _ _ n12.symm (s1.extBut _ _ n2z e))) (q2.keep fun o e => s3.extBut _ _ m2O (s2.extBut _ _ m21 (s1.extBut _ _ m2z e))) ey fun g4 v s4 hv => ?_)
    obtain ⟨ov, ev, cv⟩ := hv
    have z4 : IsZip g4 z TI TO .ellipsis := s4 _ _ n2z.symm (s3.extBut _ _ nOz.symm (s2.extBut _ _ n1z.symm z1))
    have nv : v ≠ z := fun h => by subst h; rw [z4] at ev; cases ev; simp at cv
    exact wpAny_setField_rec z4 (by simp) fun g5 _ s5 => q g5 v (fun c o h1 h2 h3 h4 e => s5.extBut _ _ h1 (s4 _ _ h4 (s3.extBut _ _ h2 (s2.extBut _ _ h3 (s1.extBut _ _ h1 e))))) ⟨ov, s5.extBut _ _ nv ev, cv⟩
end
end L2
namespace L2
open PySem PySem.Spec PyProof.Rows
section
variable {X : Cx} {pins : List (Addr × Obj)} {σ : St} {H : Hp} {s : Shared} {h' : Heap}
theorem Inv.turnedL {t' : Nat} {ch : List Addr} (I : Inv X pins σ H s) (k : ∀ b o, b ∉ ch → s.heap.get? b = some o → h'.get? b = some o) (hf : ∀ b ∈ ch, FpOk X pins H b) : Inv X pins σ H { s with heap := h', toks := t' } := by
  have nit : ∀ b u, H b = some u → b ∉ ch := fun b u e z => by rw [(hf b z).1] at e; cases e
  have hL : X.env.locals ∉ ch := fun z => (hf _ z).2.1 rfl
  refine I.step (g' := s.gens) (d' := s.drawn) (ch := ch) (fun b hb => ⟨(hf b hb).2.2.2.1, (hf b hb).2.1, (hf b hb).2.2.2.2.1, (hf b hb).2.2.2.2.2⟩) (fun b o _ _ hc e _ => k b o hc e) (fun b o _ _ hc e _ => ⟨o.slots, k b o hc e⟩) (fun _ _ _ _ n => n)
    (fun b o hc e => ⟨o, k b o hc e⟩) (fun _ _ e => e) (fun _ _ _ e => e) (fun b ps e => ⟨#[], by rw [e]; simp⟩) (fun m hm => ?_) (fun b u e => ?_) I.bare
  · obtain ⟨o, es, ep, ho, r⟩ := hm
    exact ⟨o, es, ep, k _ o hL ho, r⟩
  · refine (I.hok b u e).stay (fun c v hc q => k c v ?_ q) (fun _ q => q) fun _ _ q => q
    rcases hc with z | z
    · rw [z]; exact nit b u e
    · exact nit c _ z
theorem Inv.track {T : Addr} {o : HO} (I : Inv X pins σ H s) (f : FpOk X pins H T) (hs : X.s₀.heap.objs.size ≤ T) (new : ObjOk X.prog X.w (upd H T o) s.heap T o) : Inv X pins σ (upd H T o) s := by
  obtain ⟨f0, f1, f2, _, f4, f5⟩ := f
  have old : ∀ b u, X.s₀.heap.get? b = some u → b ≠ T := fun b u e => Nat.ne_of_lt (Nat.lt_of_lt_of_le (Heap.lt_size e) hs)
  refine ⟨I.ok, I.os, I.bare, ⟨I.base.keep, I.base.slot, fun b u e n hx => ?_, I.base.there, fun b xs e => ?_, fun b u v e => ?_, fun b ps e => ?_⟩, I.loc, I.cell, ?_, fun x c e => ?_, fun p hp => ?_, fun b u e => ?_, I.len⟩
  · rw [upd_ne (old b u e)]; exact I.base.free b u e n hx
  · rw [upd_ne (ne_of_none (I.base.tups b xs e) f0)]; exact I.base.tups b xs e
  · rw [upd_ne (ne_of_none (I.base.frzs b u v e) f0)]; exact I.base.frzs b u v e
  · obtain ⟨more, q⟩ := I.base.tbls b ps e
    exact ⟨more, by rw [upd_ne (ne_of_none q f0)]; exact q⟩
  · rw [upd_ne (Ne.symm f1)]; exact I.free
  · rw [upd_ne (f4 x c e)]; exact I.freeC x c e
  · obtain ⟨e, n, ne, nf, d⟩ := I.pin p hp
    exact ⟨e, by rw [upd_ne (f5 p hp)]; exact n, ne, nf, d⟩
  · by_cases hb : b = T
    · subst hb
      rw [upd_same] at e
      cases e
      exact new
    · rw [upd_ne hb] at e
      exact (I.hok b u e).stay (fun c v _ q => q) (fun c q => by rw [upd_ne (ne_of_none q f0)]; exact q) fun c xs q => by rw [upd_ne (ne_of_none q f0)]; exact q
end
def SqB (K : PySem.W.Frag) (H : Hp) : Bool → Addr → List V → Prop
  | false, a, xs => SqL K H a xs
  | true, a, xs => SqT K H a xs
theorem SqB.at {X : Cx} {pins : List (Addr × Obj)} {σ : St} {H : Hp} {s : Shared} (I : Inv X pins σ H s) : ∀ {b : Bool} {a : Addr} {xs : List V}, SqB X.K H b a xs → ∃ its : List Value, Vals xs its ∧ SSq s.heap b a its.toArray ∧ xs.length ≤ sizeLine
  | false, _, _, h => let ⟨its, r, p, z⟩ := I.list h; ⟨its, r, p.isList, z⟩
  | true, _, _, h => let ⟨its, r, p, z⟩ := I.tuple h; ⟨its, r, p, z⟩
theorem SqB.inj {X : Cx} {pins : List (Addr × Obj)} {σ : St} {H : Hp} {s : Shared} (I : Inv X pins σ H s) : ∀ {b : Bool} {a : Addr} {xs ys : List V}, SqB X.K H b a xs → SqB X.K H b a ys → xs = ys
  | false, _, _, _, h, h' => I.list_inj h h'
  | true, _, _, _, h, h' => I.tuple_inj h h'
def Itz (K : PySem.W.Frag) (b1 b2 : Bool) (l1 l2 : Addr) : It :=
  ⟨fun i H => ∃ xs ys x y, SqB K H b1 l1 xs ∧ SqB K H b2 l2 ys ∧ xs[i]? = some x ∧ ys[i]? = some y,
   fun i H v H' => ∃ p x y, H p = none ∧ v = .ref p ∧ H' = upd H p (.tup [x, y]) ∧ (∀ xs, SqB K H b1 l1 xs → xs[i]? = some x) ∧ ∀ ys, SqB K H b2 l2 ys → ys[i]? = some y,
   fun i H => ∃ xs ys, SqB K H b1 l1 xs ∧ SqB K H b2 l2 ys ∧ (xs.length ≤ i ∨ ys.length ≤ i)⟩
section
variable {prog : Program} {w : World} {A : Around} {E : Value → Shared → Prop} {s : Shared}
theorem zipP_item {z TI TO i1 i2 l1 l2 : Addr} {b1 b2 : Bool} {k1 k2 : Nat} {xs ys : Array Value} {x y a b : Value} {Q : Option Value → Shared → Prop} (D : ZAp z TI TO i1 i2 l1 l2)
    (hz : IsZip s.heap z TI TO .none) (hI : IsPair s.heap TI (.ref i1) (.ref i2)) (hO : IsPair s.heap TO a b) (t1 : SIt s.heap b1 i1 l1 k1) (t2 : SIt s.heap b2 i2 l2 k2) (q1 : SSq s.heap b1 l1 xs) (q2 : SSq s.heap b2 l2 ys) (ex : xs[k1]? = some x) (ey : ys[k2]? = some y)
    (q : ∀ g, IsZip g z TI TO (rawInt s.heap.objs.size) → IsPair g TO x y → SIt g b1 i1 l1 (k1 + 1) → SIt g b2 i2 l2 (k2 + 1) → IsPair g s.heap.objs.size x y → (∀ c o, c ≠ z → c ≠ TO → c ≠ i1 → c ≠ i2 → s.heap.get? c = some o → g.get? c = some o) → Q (some (.ref s.heap.objs.size)) { s with heap := g }) :
    wpAny (model prog w) A (pyNext (.ref z)) Q E s := by
  have ty : s.TypeIs (.ref z) "zip" := ⟨_, hz, rfl⟩
  unfold pyNext
  exact wpAny_bind (wpAny_attempt (wpAny_callSpecial?_slot (name := Str.ofString "__next__") ty PySem.F.slot_zip_next (wpAny_call_entry PySem.F.slot_zip_next ty PySem.F.entry_zip_next (zipN_item D hz hI hO t1 t2 q1 q2 ex ey fun g a1 a2 a3 a4 a5 a6 => wpAny_pure (q g a1 a2 a3 a4 a5 a6)) (PySem.F.args_zip_next_1 _))))
theorem zipP_end {z TI TO i1 i2 l1 l2 : Addr} {b1 b2 : Bool} {k1 k2 : Nat} {xs ys : Array Value} {a b : Value} {Q : Option Value → Shared → Prop} (hh : A.handled = none) (D : ZAp z TI TO i1 i2 l1 l2)
    (hz : IsZip s.heap z TI TO .none) (hI : IsPair s.heap TI (.ref i1) (.ref i2)) (hO : IsPair s.heap TO a b) (t1 : SIt s.heap b1 i1 l1 k1) (t2 : SIt s.heap b2 i2 l2 k2) (q1 : SSq s.heap b1 l1 xs) (q2 : SSq s.heap b2 l2 ys) (hend : xs[k1]? = none ∨ ys[k2]? = none)
    (q : ∀ g, (∀ c o, c ≠ z → c ≠ TO → c ≠ i1 → c ≠ i2 → s.heap.get? c = some o → g.get? c = some o) → Q none { s with heap := g }) : wpAny (model prog w) A (pyNext (.ref z)) Q E s := by
  have ty : s.TypeIs (.ref z) "zip" := ⟨_, hz, rfl⟩
  unfold pyNext
  refine wpAny_bind (wpAny_attempt (wpAny_callSpecial?_slot (name := Str.ofString "__next__") ty PySem.F.slot_zip_next (wpAny_call_entry PySem.F.slot_zip_next ty PySem.F.entry_zip_next (zipN_end hh D hz hI hO t1 t2 q1 q2 hend fun g e hk he => ?_) (PySem.F.args_zip_next_1 _))))
  obtain ⟨o, ho, hc⟩ := he
  exact wpAny_bind (wpAny_isInstance (T := "StopIteration") (b := true) ⟨o, ho, hc⟩ isSubtype_stop (wpAny_pure (q _ hk)))
end
theorem turn_zip {P : Program} {w : World} {K : PySem.W.Frag} {elts : List Expr} {kk : Nat} {tp : Pos} {b1 b2 : Bool} (z TI TO i1 i2 l1 l2 : Addr) (D : ZAp z TI TO i1 i2 l1 l2) :
    Turn P w K (.Tuple elts kk tp) (Itz K b1 b2 l1 l2) [z, TI, TO, i1, i2] z (fun i h => IsZip h z TI TO .none ∧ IsPair h TI (.ref i1) (.ref i2) ∧ (∃ a b, IsPair h TO a b) ∧ SIt h b1 i1 l1 i ∧ SIt h b2 i2 l2 i) where
  mem := by simp
  obj := fun i h st b hb => by
    obtain ⟨hz, hI, ⟨a, c, hO⟩, t1, t2⟩ := st
    simp only [List.mem_cons, List.not_mem_nil, or_false] at hb
    rcases hb with rfl | rfl | rfl | rfl | rfl
    · exact ⟨_, hz, fun v q => by cases q⟩
    · exact ⟨_, hI, fun v q => by cases q⟩
    · exact ⟨_, hO, fun v q => by cases q⟩
    · obtain ⟨o, e, vs, d⟩ := t1.obj
      exact ⟨o, e, fun v q => by rw [d] at q; cases q⟩
    · obtain ⟨o, e, vs, d⟩ := t2.obj
      exact ⟨o, e, fun v q => by rw [d] at q; cases q⟩
  keep := fun i h h' st k => by
    obtain ⟨hz, hI, ⟨a, c, hO⟩, t1, t2⟩ := st
    exact ⟨k z (by simp) _ hz, k TI (by simp) _ hI, ⟨a, c, k TO (by simp) _ hO⟩, t1.keep fun o e => k i1 (by simp) o e, t2.keep fun o e => k i2 (by simp) o e⟩
  item := by
    intro X hP hw hK hc i pins s σ H E I hf st hg
    subst hP hw hK
    obtain ⟨hz, hI, ⟨a, c, hO⟩, t1, t2⟩ := st
    obtain ⟨xs, ys, x, y, hx, hy, ex, ey⟩ := hg
    obtain ⟨its, rv, q1, z1⟩ := SqB.at I hx
    obtain ⟨jts, rw', q2, z2⟩ := SqB.at I hy
    obtain ⟨u, hu, ru⟩ := rv.get ex
    obtain ⟨v, hv, rv'⟩ := rw'.get ey
    refine zipP_item D hz hI hO t1 t2 q1 q2 (x := u) (y := v) (by simpa using hu) (by simpa using hv) fun g a1 a2 a3 a4 a5 a6 => ⟨_, rfl, ?_⟩
    refine wpAny_letOwnedTupleGo_zip a1 fun g' a1' sb => ?_
    obtain ⟨⟨nIz, nOz, n1z, n2z, nIO, nI1, nI2, nO1, nO2, n12⟩, lne⟩ := id D
    have hT : ∀ b ∈ [z, TI, TO, i1, i2], s.heap.objs.size ≠ b := fun b hb => by
      have : ∃ o, s.heap.get? b = some o := by
        simp only [List.mem_cons, List.not_mem_nil, or_false] at hb
        rcases hb with rfl | rfl | rfl | rfl | rfl
        · exact ⟨_, hz⟩
        · exact ⟨_, hI⟩
        · exact ⟨_, hO⟩
        · obtain ⟨o, e, _⟩ := t1.obj; exact ⟨o, e⟩
        · obtain ⟨o, e, _⟩ := t2.obj; exact ⟨o, e⟩
      obtain ⟨o, e⟩ := this
      exact Nat.ne_of_gt (Heap.lt_size e)
    have kk : ∀ b o, b ∉ [z, TI, TO, i1, i2] → s.heap.get? b = some o → g'.get? b = some o := fun b o hb e => by
      simp only [List.mem_cons, List.not_mem_nil, or_false, not_or] at hb
      exact sb.extBut _ _ hb.1 (a6 b o hb.1 hb.2.2.1 hb.2.2.2.1 hb.2.2.2.2 e)
    have I1 : Inv X pins σ H { s with heap := g' } := I.turnedL (t' := s.toks) kk hf
    have pT : IsPair g' s.heap.objs.size u v := sb.extBut _ _ (hT z (by simp)) a5
    have fT : FpOk X pins H s.heap.objs.size := I.fpOk (Nat.le_refl _) (I.hok.fresh (Nat.le_refl _))
    have I2 : Inv X pins σ (upd H s.heap.objs.size (.tup [x, y])) { s with heap := g' } := I1.track fT I.sz ⟨by show 2 ≤ sizeLine; decide, [u, v], .cons ru (.cons rv' .nil), ⟨_, pT, rfl, _, rfl⟩⟩
    refine ⟨.ref s.heap.objs.size, _, I2, rfl, ⟨_, x, y, I.hok.fresh (Nat.le_refl _), rfl, rfl, fun xs' h => by rw [SqB.inj I h hx]; exact ex, fun ys' h => by rw [SqB.inj I h hy]; exact ey⟩, ?_, fun b hb => ?_⟩
    · exact ⟨a1', sb.extBut _ _ nIz (a6 TI _ nIz nIO nI1 nI2 hI), ⟨u, v, sb.extBut _ _ nOz a2⟩, a3.keep fun o e => sb.extBut _ _ n1z e, a4.keep fun o e => sb.extBut _ _ n2z e⟩
    · rw [upd_ne (Ne.symm (hT b hb))]
      exact (hf b hb).1
  done := by
    intro X hP hw hK hc i pins s σ H E I hf st hg
    subst hP hw hK
    obtain ⟨hz, hI, ⟨a, c, hO⟩, t1, t2⟩ := st
    obtain ⟨xs, ys, hx, hy, hend⟩ := hg
    obtain ⟨its, rv, q1, z1⟩ := SqB.at I hx
    obtain ⟨jts, rw', q2, z2⟩ := SqB.at I hy
    have e1 := rv.length
    have e2 := rw'.length
    refine zipP_end (I.ok.hd hc) D hz hI hO t1 t2 q1 q2 (by
      rcases hend with h | h
      · exact .inl (by simp; omega)
      · exact .inr (by simp; omega)) fun g k => ⟨rfl, I.turnedL (t' := s.toks) (ch := [z, TI, TO, i1, i2]) (fun b o hb e => ?_) hf⟩
    simp only [List.mem_cons, List.not_mem_nil, or_false, not_or] at hb
    exact k b o hb.1 hb.2.2.1 hb.2.2.2.1 hb.2.2.2.2 e
  self := fun _ _ _ _ _ st h => wpAny_pyIter_zip st.1 h
end L2
namespace L2
open PySem PySem.Spec PyProof.Rows
def itObj (b : Bool) (l : Addr) : Obj := { cls := .type (if b = true then "tuple_iterator" else "list_iterator"), data := .fields #[.ref l, .int 0 0] }
theorem SIt.new {h : Heap} : ∀ {b : Bool} {it l : Addr}, h.get? it = some (itObj b l) → SIt h b it l 0
  | false, _, _, e => ⟨_, e, rfl, rfl⟩
  | true, _, _, e => ⟨_, e, rfl, rfl⟩
def zg2 (h : Heap) (b1 b2 : Bool) (l1 l2 : Addr) : Heap := (h.push (itObj b1 l1)).push (itObj b2 l2)
def zg3 (h : Heap) (b1 b2 : Bool) (l1 l2 : Addr) : Heap := (zg2 h b1 b2 l1 l2).push { cls := .type "tuple", data := .seq #[.ref h.objs.size, .ref (h.push (itObj b1 l1)).objs.size] }
def zg4 (h : Heap) (b1 b2 : Bool) (l1 l2 : Addr) : Heap := (zg3 h b1 b2 l1 l2).push { cls := .type "tuple", data := .seq #[.none, .none] }
def zg5 (h : Heap) (b1 b2 : Bool) (l1 l2 : Addr) : Heap := (zg4 h b1 b2 l1 l2).push { cls := .type "zip", data := .fields #[.none, .bool false, .bool false, .ref (zg2 h b1 b2 l1 l2).objs.size, .ref (zg3 h b1 b2 l1 l2).objs.size] }
theorem iterB {prog : Program} {w : World} {A : Around} {E : Value → Shared → Prop} {s : Shared} {l : Addr} {xs : Array Value} {Q : Value → Shared → Prop} : ∀ {b : Bool}, SSq s.heap b l xs → Q (.ref s.heap.objs.size) { s with heap := s.heap.push (itObj b l) } → wpAny (model prog w) A (pyIter (.ref l)) Q E s
  | false, h, q => wpAny_pyIter_list h q
  | true, h, q => wpAny_pyIter_tuple h q
theorem SSq.push {h : Heap} {b : Bool} {l : Addr} {xs : Array Value} (x : SSq h b l xs) (o : Obj) : SSq (h.push o) b l xs := x.keep fun _ e => Heap.get?_push_of_some _ e
set_option maxHeartbeats 8000000 in
theorem zip_new (b1 b2 : Bool) (l1 l2 : Addr) (xs ys : Array Value) :
    Meets (Builtin.«zip.__new__» ⟨[.type "zip", .ref l1, .ref l2], []⟩) (fun _ R s => SSq s.heap b1 l1 xs ∧ SSq s.heap b2 l2 ys ∧ R (.ok (.ret (.ref (zg4 s.heap b1 b2 l1 l2).objs.size))) { s with heap := zg5 s.heap b1 b2 l1 l2 }) :=
  .of_wp fun prog w A R s h => by
    obtain ⟨hp, g, d, tk, os⟩ := s
    obtain ⟨h1, h2, h⟩ := h
    have hsub := PySem.sub_zip
    have e1 : SSq (Shared.heap ⟨hp, g, d, tk, os⟩) b1 l1 xs := h1
    have e2 : SSq (Shared.heap ⟨hp.push (itObj b1 l1), g, d, tk, os⟩) b2 l2 ys := SSq.push h2 _
    wp_walk using iterB e1, iterB e2
    exact ⟨_, rfl, h⟩
section
variable {prog : Program} {w : World} {A : Around} {E : Value → Shared → Prop} {s : Shared}
theorem call_zipB {b1 b2 : Bool} {l1 l2 : Addr} {xs ys : Array Value} {Q : Value → Shared → Prop} (h1 : SSq s.heap b1 l1 xs) (h2 : SSq s.heap b2 l2 ys)
    (h : ∀ g n, n = s.heap.objs.size → IsZip g (n + 4) (n + 2) (n + 3) .none → IsPair g (n + 2) (.ref n) (.ref (n + 1)) → IsPair g (n + 3) .none .none → SIt g b1 n l1 0 → SIt g b2 (n + 1) l2 0 →
      (∀ c o, s.heap.get? c = some o → g.get? c = some o) → Q (.ref (n + 4)) { s with heap := g }) : wpAny (model prog w) A (call (.type "zip") [.ref l1, .ref l2]) Q E s := by
  refine callType_new PySem.F.called_zip (by decide) (PySem.F.typeCall_zip_2 _ _) (PySem.F.newCall_zip_2 _ _) (fun obj => PySem.F.args_object_init_3 obj _ _) PySem.F.entry_zip_new (zip_new b1 b2 l1 l2 xs ys) ⟨h1, h2, ?_⟩
  have e1 : (s.heap.push (itObj b1 l1)).objs.size = s.heap.objs.size + 1 := Heap.size_push ..
  have e2 : (zg2 s.heap b1 b2 l1 l2).objs.size = s.heap.objs.size + 2 := by unfold zg2; rw [Heap.size_push, e1]
  have e3 : (zg3 s.heap b1 b2 l1 l2).objs.size = s.heap.objs.size + 3 := by unfold zg3; rw [Heap.size_push, e2]
  have e4 : (zg4 s.heap b1 b2 l1 l2).objs.size = s.heap.objs.size + 4 := by unfold zg4; rw [Heap.size_push, e3]
  have p : ∀ {c : Addr} {o : Obj}, (zg4 s.heap b1 b2 l1 l2).get? c = some o → (zg5 s.heap b1 b2 l1 l2).get? c = some o := fun q => Heap.get?_push_of_some _ q
  have p4 : ∀ {c : Addr} {o : Obj}, (zg3 s.heap b1 b2 l1 l2).get? c = some o → (zg4 s.heap b1 b2 l1 l2).get? c = some o := fun q => Heap.get?_push_of_some _ q
  have p3 : ∀ {c : Addr} {o : Obj}, (zg2 s.heap b1 b2 l1 l2).get? c = some o → (zg3 s.heap b1 b2 l1 l2).get? c = some o := fun q => Heap.get?_push_of_some _ q
  have p2 : ∀ {c : Addr} {o : Obj}, (s.heap.push (itObj b1 l1)).get? c = some o → (zg2 s.heap b1 b2 l1 l2).get? c = some o := fun q => Heap.get?_push_of_some _ q
  have g5 : (zg5 s.heap b1 b2 l1 l2).get? (zg4 s.heap b1 b2 l1 l2).objs.size = some _ := Heap.get?_push_size _ rfl
  have g4 : (zg5 s.heap b1 b2 l1 l2).get? (zg3 s.heap b1 b2 l1 l2).objs.size = some _ := p (Heap.get?_push_size _ rfl)
  have g3 : (zg5 s.heap b1 b2 l1 l2).get? (zg2 s.heap b1 b2 l1 l2).objs.size = some _ := p (p4 (Heap.get?_push_size _ rfl))
  have g2 : (zg5 s.heap b1 b2 l1 l2).get? (s.heap.push (itObj b1 l1)).objs.size = some _ := p (p4 (p3 (Heap.get?_push_size _ rfl)))
  have g1 : (zg5 s.heap b1 b2 l1 l2).get? s.heap.objs.size = some _ := p (p4 (p3 (p2 (Heap.get?_push_size _ rfl))))
  show _ ∧ _
  rw [e2, e3, e4] at g5
  rw [e1, e2] at g3
  rw [e3] at g4
  rw [e1] at g2
  rw [e4]
  exact ⟨⟨_, g5, rfl⟩, h _ _ rfl g5 g3 g4 (SIt.new g1) (SIt.new g2) fun c o x => p (p4 (p3 (p2 (Heap.get?_push_of_some _ x))))⟩
end
section
variable {X : Cx}
def iZip (K : PySem.W.Frag) (ta : TA) : TI := fun σ H R => ta σ H fun vs H1 => ∃ b1 b2 l1 l2 xs ys, vs = [.ref l1, .ref l2] ∧ SqB K H1 b1 l1 xs ∧ SqB K H1 b2 l2 ys ∧ R (Itz K b1 b2 l1 l2) H1
theorem pi_zip {a b : Expr} {ta : TA} {p pos tp : Pos} {elts : List Expr} {kk : Nat} (hg : Gl X "zip") (hm : X.mg "zip" = none) (ha : PA X [a, b] ta) (hs : starEach [a, b] X.env = [(false, eval a X.env), (false, eval b X.env)] := by rfl) (hs2 : starEach [b] X.env = [(false, eval b X.env)] := by rfl) :
    PI X (.Tuple elts kk tp) (.Call (.Name "zip" p) [a, b] [] pos) (iZip X.K ta) := by
  intro pins s σ H R I h
  refine Call_ (ld_blt I hg hm PyProof.Rows.Boot.«zip» (PyProof.Rows.callWith_type1 (thn (ha pos pins s σ H _ I h) fun us s1 ⟨vs, H1, I1, r1, q1⟩ => ?_) (by rw [hs, hs2]) (by rw [hs2]; rfl)))
  obtain ⟨b1, b2, l1, l2, xs, ys, rfl, hx, hy, q⟩ := q1
  obtain ⟨u, u', rfl, ru, ru'⟩ := vals2 r1
  cases ru
  cases ru'
  obtain ⟨its, rv, s1', z1⟩ := SqB.at I1 hx
  obtain ⟨jts, rw', s2', z2⟩ := SqB.at I1 hy
  refine call_zipB s1' s2' fun g n hn a1 a2 a3 a4 a5 k => ?_
  have lt : ∀ c, c = l1 ∨ c = l2 → c < n := fun c hc => by
    rw [hn]
    rcases hc with rfl | rfl
    · obtain ⟨o, e, _⟩ := s1'.obj; exact Heap.lt_size e
    · obtain ⟨o, e, _⟩ := s2'.obj; exact Heap.lt_size e
  refine wpAny_pyIter_zip a1 ⟨n + 4, [n + 4, n + 2, n + 3, n, n + 1], _, _, H1, rfl, I1.kept (t' := s1.toks) k, turn_zip (n + 4) (n + 2) (n + 3) n (n + 1) l1 l2 ⟨?_, fun c hc => ?_⟩, ⟨a1, a2, ⟨_, _, a3⟩, a4, a5⟩, fun b hb => ?_, q⟩
  · have e : ∀ i j : Nat, i ≠ j → n + i ≠ n + j := fun i j h z => h (Nat.add_left_cancel z)
    exact ⟨e 2 4 (by decide), e 3 4 (by decide), e 0 4 (by decide), e 1 4 (by decide), e 2 3 (by decide), e 2 0 (by decide), e 2 1 (by decide), e 3 0 (by decide), e 3 1 (by decide), e 0 1 (by decide)⟩
  · have q := lt c hc
    have e : ∀ i : Nat, c ≠ n + i := fun i => Nat.ne_of_lt (Nat.lt_of_lt_of_le q (Nat.le_add_right _ _))
    exact ⟨e 4, e 3, e 0, e 1, e 2⟩
  · have e : ∀ i : Nat, FpOk X pins H1 (n + i) := fun i => I1.fpOk (by rw [hn]; exact Nat.le_add_right _ _) (I1.hok.fresh (by rw [hn]; exact Nat.le_add_right _ _))
    simp only [List.mem_cons, List.not_mem_nil, or_false] at hb
    rcases hb with rfl | rfl | rfl | rfl | rfl
    · exact e 4
    · exact e 2
    · exact e 3
    · exact e 0
    · exact e 1
end
end L2
namespace L2
open PySem PySem.Spec PyProof.Rows
open PySem.Builtin.Str in
section
variable {X : Cx}
end
@[irreducible] def rStrAny : List V → Hp → VK → Prop := fun xs H Q => (∃ z : Str, xs = [.str z] ∧ Q (.str z) H) ∨ ∃ i : Int, xs = [.int i] ∧ i.natAbs.log2 < 1920 ∧ Q (.str (toString i)) H
section
variable {X : Cx}
end
mutual
inductive Dt (K : PySem.W.Frag) (H : Hp) : V → PyData → Prop
  | non : Dt K H .non .none
  | bl (b : Bool) : Dt K H (.bl b) (.bool b)
  | int (i : Int) : Dt K H (.int i) (.int i)
  | str (x : Str) : Dt K H (.str x) (.str x)
  | lst {a : Addr} {xs : List V} {ds : List PyData} : SqL K H a xs → DtAll K H xs ds → Dt K H (.ref a) (.list ds)
  | tup {a : Addr} {xs : List V} {ds : List PyData} : SqT K H a xs → DtAll K H xs ds → Dt K H (.ref a) (.tuple ds)
inductive DtAll (K : PySem.W.Frag) (H : Hp) : List V → List PyData → Prop
  | nil : DtAll K H [] []
  | cons {v : V} {vs : List V} {d : PyData} {ds : List PyData} : Dt K H v d → DtAll K H vs ds → DtAll K H (v :: vs) (d :: ds)
end
section
variable {X : Cx} {pins : List (Addr × Obj)} {σ : St} {H : Hp} {s : Shared}
mutual
theorem Dt.reads (I : Inv X pins σ H s) : ∀ {v : V} {d : PyData}, Dt X.K H v d → ∀ {u : Value}, RelV v u → ∃ as, Reads s.heap u d as
  | _, _, .non, _, r => by cases r; exact ⟨_, .none⟩
  | _, _, .bl b, _, r => by cases r; exact ⟨_, .bool b⟩
  | _, _, .int i, _, r => by obtain ⟨t, rfl⟩ := r; exact ⟨_, .int i t⟩
  | _, _, .str x, _, r => by obtain ⟨t, rfl⟩ := r; exact ⟨_, .str x t⟩
  | _, _, .lst hq ha, _, r => by
    cases r
    obtain ⟨its, rv, ⟨o, n, e, c, _, d⟩, _⟩ := I.list hq
    obtain ⟨as, z⟩ := DtAll.reads I ha rv
    exact ⟨_, .list e c d (by simpa using z)⟩
  | _, _, .tup hq ha, _, r => by
    cases r
    obtain ⟨its, rv, ⟨o, e, c, n, d⟩, _⟩ := I.tuple hq
    obtain ⟨as, z⟩ := DtAll.reads I ha rv
    exact ⟨_, .tuple e c d (by simpa using z)⟩
theorem DtAll.reads (I : Inv X pins σ H s) : ∀ {vs : List V} {ds : List PyData}, DtAll X.K H vs ds → ∀ {us : List Value}, Vals vs us → ∃ as, ReadsAll s.heap us ds as
  | _, _, .nil, _, r => by cases r; exact ⟨_, .nil⟩
  | _, _, .cons h t, _, r => by
    cases r with
    | cons r1 r2 =>
      obtain ⟨as, z⟩ := Dt.reads I h r1
      obtain ⟨bs, z'⟩ := DtAll.reads I t r2
      exact ⟨_, .cons z z'⟩
end
end
section
variable {X : Cx}
theorem op_neD (hu : X.A.units + 64 < cLine) : OpR X (compareOp .NotEq) (fun x y H Q => ∃ d e, Dt X.K H x d ∧ Dt X.K H y e ∧ SeqAt.shaped d = true ∧ SeqAt.shaped e = true ∧ Q (.bl (!PyData.eqv d e)) H) := by
  intro pins s σ H x y v u Q I rx ry h
  obtain ⟨d, e, h1, h2, s1, s2, q⟩ := h
  obtain ⟨as, r1⟩ := h1.reads I rx
  obtain ⟨bs, r2⟩ := h2.reads I ry
  exact ne_dataH r1 r2 s1 s2 hu ⟨.bl _, H, I, rfl, q⟩
end
theorem for_zip {K : PySem.W.Frag} {b1 b2 : Bool} {l1 l2 : Addr} {xs ys : List V} {g : TG} {tb : TS} {D : Ends} {σ : St} {H : Hp} (Pv : Nat → St → Hp → Prop) (h0 : Pv 0 σ H) (hl : ∀ i σ H, Pv i σ H → SqB K H b1 l1 xs ∧ SqB K H b2 l2 ys)
    (hs : ∀ i x y σ H p, xs[i]? = some x → ys[i]? = some y → Pv i σ H → H p = none → g (.ref p) σ (upd H p (.tup [x, y])) fun σ2 H2 => tb { D with nx := Pv (i + 1), ct := Pv (i + 1), bk := D.nx } σ2 H2) (hd : ∀ σ H, Pv (min xs.length ys.length) σ H → D.nx σ H) :
    ∃ W : Nat → Nat → St → Hp → Prop, (∃ m, W 0 m σ H) ∧ ∀ i m σ H, W i m σ H →
      ((Itz K b1 b2 l1 l2).stop i H ∧ D.nx σ H) ∨ ((Itz K b1 b2 l1 l2).go i H ∧ ∃ N : St → Hp → Prop, (∀ σ' H', N σ' H' → ∃ m', m' < m ∧ W (i + 1) m' σ' H') ∧ ∀ x H', (Itz K b1 b2 l1 l2).yld i H x H' → g x σ H' fun σ2 H2 => tb { D with nx := N, ct := N, bk := D.nx } σ2 H2) := by
  refine ⟨fun i m σ H => m = min xs.length ys.length - i ∧ i ≤ min xs.length ys.length ∧ Pv i σ H, ⟨_, rfl, Nat.zero_le _, h0⟩, ?_⟩
  rintro i m σ H ⟨rfl, hi, p⟩
  obtain ⟨q1, q2⟩ := hl i σ H p
  by_cases hlt : i < min xs.length ys.length
  · have h1 : i < xs.length := by omega
    have h2 : i < ys.length := by omega
    refine .inr ⟨⟨xs, ys, xs[i], ys[i], q1, q2, by simp [h1], by simp [h2]⟩, Pv (i + 1), fun σ' H' p' => ⟨_, by omega, rfl, hlt, p'⟩, fun v H' y => ?_⟩
    obtain ⟨a, x, y, hn, rfl, rfl, e1, e2⟩ := y
    exact hs i x y σ H a (e1 xs q1) (e2 ys q2) p hn
  · have e : i = min xs.length ys.length := by omega
    subst e
    exact .inl ⟨⟨xs, ys, q1, q2, by omega⟩, hd σ H p⟩
theorem comp_list {K : PySem.W.Frag} {a : Addr} {xs : List V} {g : TG} {tt : TT} {te : TE} {Fin : List V → Hp → Prop} {σ : St} {H : Hp} (Pv : Nat → List V → St → Hp → Prop) (h0 : Pv 0 [] σ H) (hz : ∀ i ys σ H, i ≤ xs.length → Pv i ys σ H → ys.length ≤ i) (hx : xs.length ≤ sizeLine) (hl : ∀ i ys σ H, Pv i ys σ H → SqL K H a xs)
    (hs : ∀ i x ys σ H, xs[i]? = some x → Pv i ys σ H → g x σ H fun σ2 H2 => tt σ2 H2 fun b H3 => if b = true then te σ2 H3 fun y H4 => Pv (i + 1) (ys ++ [y]) σ2 H4 else Pv (i + 1) ys σ2 H3)
    (hd : ∀ ys σ H, Pv xs.length ys σ H → Fin ys H) : ∃ W : Nat → Nat → List V → St → Hp → Prop, (∃ m, W 0 m [] σ H) ∧ CompTurns (Itl K a) g tt te Fin W := by
  refine ⟨fun i m ys σ H => m = xs.length - i ∧ i ≤ xs.length ∧ Pv i ys σ H, ⟨_, rfl, Nat.zero_le _, h0⟩, ?_⟩
  rintro i m ys σ H ⟨rfl, hi, p⟩
  have hl' := hz i ys σ H hi p
  have q := hl i ys σ H p
  by_cases hlt : i < xs.length
  · refine .inr ⟨⟨xs, xs[i], q, by simp [hlt]⟩, by omega, Pv (i + 1), fun ys' σ' H' p' => ⟨_, by omega, rfl, hlt, p'⟩, fun v H' y => ?_⟩
    obtain ⟨e, y⟩ := y
    subst e
    exact hs i v ys σ _ (y xs q) p
  · have e : i = xs.length := by omega
    subst e
    exact .inl ⟨⟨xs, q, Nat.le_refl _⟩, by omega, hd ys σ H p⟩
end L2
namespace L2
open PySem PySem.Spec PyProof.Rows
section
variable {X : Cx} {tg : Expr}
end
section
variable {X : Cx}
end
end L2
namespace L2
open PySem PySem.Spec PyProof.Rows PySem.NumText
def wl : List Nat → List Nat → List (List Nat)
  | [], cur => if cur = [] then [] else [cur]
  | c :: r, cur => if c = 32 then (if cur = [] then wl r [] else cur :: wl r []) else wl r (cur ++ [c])
theorem pg_tupC {X : Cx} {pins : List (Addr × Obj)} {Nc : List Str} {scope : Scope} {fp : List Addr} {s : Shared} {H : Hp} {C : Addr} {es : List Expr} {k : Nat} {t : TGs} {pos : Pos} (n : Nat) (hc : X.calm = true) (h : PGs (X.comp pins Nc scope fp s H C) es t)
    (hn : (assignEach es (X.comp pins Nc scope fp s H C).env).length = n := by rfl) (hst : (assignEach es (X.comp pins Nc scope fp s H C).env).findIdx? (·.1) = none := by rfl) : PG (X.comp pins Nc scope fp s H C) (.Tuple es k pos) (gTup X.K n t) :=
  pg_tup (X := X.comp pins Nc scope fp s H C) hc h hn hst
theorem join2c {α β : Type} {P R : α → β → Prop} {c A B : Prop} {inst : Decidable c} {w : α} {z : β} (hw : ¬ c → P w z) (rest : ∀ w z, P w z → R w z) (h : c → (∀ w z, P w z → R w z) → A) (e : B = R w z := by rfl) : @ite Prop c inst A B := by
  subst e
  by_cases hc : c
  · rw [if_pos hc]; exact h hc rest
  · rw [if_neg hc]; exact rest w z (hw hc)
end L2
namespace L2
open PySem PySem.Spec PyProof.Rows PySem.W
section
variable {prog : Program} {w : World} {A : Around} {R : Result → Shared → Prop} {E : Value → Shared → Prop} {h : Heap} {g : Array GenState} {d : Drawn} {t : Nat} {os : OsState}
variable {nm q : Str} {C N f : Addr} {bs bm : List Value} {hdct : Bool} {sn : List Str} {sub : List Value} {ab : Bool} {col : Option Bool} {dd : Option Addr} {k0 k1 k2 k3 k5 : Option Value}
end
end L2
namespace L2
open PySem PySem.Spec PyProof.Rows PySem.W
section
variable {prog : Program} {w : World} {A : Around} {R : Result → Shared → Prop} {E : Value → Shared → Prop} {h : Heap} {g : Array GenState} {d : Drawn} {t : Nat} {os : OsState}
variable {nm q : Str} {C N x : Addr} {bs bm : List Value} {sn : List Str} {sub : List Value} {ab : Bool} {col : Option Bool} {dd : Option Addr} {k0 k1 k2 k3 k5 : Option Value} {newId : String} {name : Str} {v : Value} {o : Obj} {fs : Array Value}
end
end L2
namespace L2
open PySem PySem.Spec PyProof.Rows PySem.W
section
variable {prog : Program} {w : World} {A : Around} {R : Result → Shared → Prop} {E : Value → Shared → Prop} {h : Heap} {g : Array GenState} {d : Drawn} {t : Nat} {os : OsState}
variable {nm q : Str} {C N e : Addr} {bs bm : List Value} {hdct : Bool} {sn : List Str} {sub : List Value} {ab : Bool} {col : Option Bool} {dd : Option Addr} {k0 k1 k2 k3 k5 : Option Value} {newId : String} {oe : Obj}
end
end L2
namespace L2
open PySem PySem.Spec PyProof.Rows PySem.W
section
variable {X : Cx} {pins : List (Addr × Obj)} {σ : St} {H : Hp} {s : Shared} {a C f dx : Addr}
end
end L2
namespace L2
open PySem PySem.Spec PyProof.Rows PySem.W
section
variable {X : Cx} {pins : List (Addr × Obj)} {σ : St} {H : Hp} {s : Shared} {a C f dx : Addr} {h' : Heap}
end
end L2
namespace L2
open PySem PySem.Spec PyProof.Rows PySem.W
section
variable {M : Model} {A : Around} {E : Value → Shared → Prop} {s : Shared} {base : Heap} {env : Env} {outer : List Env} {L e : Addr} {oe : Obj} {vs : Array Value}
end
end L2
namespace L2
open PySem PySem.Spec PyProof.Rows PySem.W
section
variable {P : Program} {w : World} {K : PySem.W.Frag} {mg : Str → Option Value} {base : Heap} {N : List Str} {qual : Str} {scope : Scope} {f : Addr} {cdv : Value} {A : Around} {outer : List Env} {s0 : Shared} {H0 : Hp} {E : XK}
end
end L2
namespace L2
open PySem PySem.Spec PyProof.Rows PySem.W
section
variable {M : Model} {A : Around} {E : Value → Shared → Prop} {env : Env}
variable {nm q : Str} {C N : Addr} {bs bm : List Value} {hdct : Bool} {sn : List Str} {sub : List Value} {ab : Bool} {col : Option Bool} {dd : Option Addr} {k0 k1 k2 k3 k5 : Option Value} {newId : String}
end
section
variable {X : Cx} {CX : CXT} {k : Nat} {f C : Addr} {fd : FuncData} {ps : List Str} {sp : Sp} {x : Str} {p pos cpos : Pos} {e : Expr} {es : List Expr} {t : TA}
end
end L2
namespace L2
open PySem PySem.Spec PyProof.Rows PySem.W
section
variable {M : Model} {A : Around} {E : Value → Shared → Prop} {h : Heap} {g : Array GenState} {d : Drawn} {t : Nat} {os : OsState} {e : Addr} {oe : Obj}
variable {nm q : Str} {C N : Addr} {bs bm : List Value} {hdct : Bool} {sn : List Str} {sub : List Value} {ab : Bool} {col : Option Bool} {dd : Option Addr} {k0 k1 k2 k3 k5 : Option Value} {newId : String}
variable {nm' q' : Str} {C' N' : Addr} {bs' bm' : List Value} {hdct' : Bool} {sn' : List Str} {sub' : List Value} {ab' : Bool} {col' : Option Bool} {dd' : Option Addr} {k0' k1' k2' k3' k5' : Option Value} {newId' : String}
end
section
variable {X : Cx} {pins : List (Addr × Obj)} {σ : St} {H : Hp} {s : Shared} {a : Addr} {oe : Obj} {vs : Array Value} {ex : List Addr} {fl : Value} {h' : Heap}
end
end L2
namespace L2
open PySem PySem.Spec PyProof.Rows PySem.W
section
variable {X : Cx} {k : Nat} {f C0 : Addr} {fd : FuncData} {ps : List Str} {sp : Sp} {dvs : List V} {ds : List Value} {fx cx y m n : Str} {iy im inn : Nat} {p pos apos py cp pm pn pa hpos tpos : Pos} {e : Expr} {es : List Expr} {t : TA}
end
end L2
namespace L2
open PySem PySem.Spec PyProof.Rows PySem.W
section
variable {prog : Program} {w : World} {A : Around} {E : Value → Shared → Prop} {h : Heap} {g : Array GenState} {d : Drawn} {t : Nat} {os : OsState} {a dx : Addr} {o : Obj} {vs : Array Value}
  {nm q : Str} {C N : Addr} {bs bm : List Value} {sn : List Str} {sub : List Value} {ab : Bool} {col : Option Bool} {dd : Option Addr} {k0 k1 k2 k3 k5 : Option Value} {newId : String} {mA : Str → Option Value} {name : Str} {v : Value}
end
section
variable {X : Cx} {e : Expr} {te : TE} {pos : Pos}
end
end L2
namespace L2
open PySem PySem.Spec PyProof.Rows PySem.W
section
variable {P : Program} {w : World} {K : PySem.W.Frag} {mg : Str → Option Value} {base : Heap}
end
end L2
namespace L2
open PySem PySem.Spec PyProof.Rows PySem.W
section
variable {prog : Program} {w : World} {A : Around} {E : Value → Shared → Prop} {h : Heap} {g : Array GenState} {d : Drawn} {t : Nat} {os : OsState} {a : Addr} {o : Obj} {vs : Array Value}
  {nm q : Str} {C N : Addr} {bs bm : List Value} {sn : List Str} {sub : List Value} {ab : Bool} {col : Option Bool} {dd : Option Addr} {k0 k1 k2 k3 k5 : Option Value} {newId : String}
end
end L2
namespace L2
open PySem PySem.Spec PyProof.Rows PySem.W
section
variable {X : Cx}
end
end L2
namespace L2
open PySem PySem.Spec PyProof.Rows
section
variable {X : Cx}
end
end L2
namespace L2
open PySem PySem.Spec PyProof.Rows
end L2
namespace L2
open PySem
def txt (v : Value) : Str := match v with | .str x _ => x | _ => ""
structure TxtTab (P : Program) (w : World) (es : Array (Int × Value)) (t : SetTable) (ys : List Str) : Prop where
  el : ElemsOf (strKind P w) es.toList
  nd : (es.toList.map fun e => txt e.2).Nodup
  mem : ∀ k, k ∈ (es.toList.map fun e => txt e.2) ↔ k ∈ ys
  few : es.size < scanBound
  fit : t.fits es.size = true
  led : t.led = !w.params.followText "set-order"
  pl : 0 < es.size → t.plain = false
theorem is_txt {P : Program} {w : World} {k : Str} {v : Value} (h : (strKind P w).is k v = true) : txt v = k := by
  obtain ⟨t, rfl⟩ := Value.isStrOf_shape h
  rfl
theorem stand_led (t : SetTable) (n : Nat) : (t.orStandIn n).led = t.led ∧ (t.plain = false → (t.orStandIn n).plain = false) := by
  unfold SetTable.orStandIn
  split
  · exact ⟨rfl, fun z => z⟩
  · exact ⟨rfl, fun _ => rfl⟩
theorem layNew_led (t : SetTable) (es : Array (Int × Value)) (h : Int) (x : Value) : (layNew t es h x).2.1.led = t.led ∧ (t.plain = false → (layNew t es h x).2.1.plain = false) := by
  unfold layNew
  split
  · exact stand_led (t.put _).1 _
  · exact ⟨rfl, fun _ => rfl⟩
theorem relayAll_led (t : SetTable) (es : Array (Int × Value)) (n : Nat) : (relayAll t es n).2.1.led = t.led ∧ (t.plain = false → (relayAll t es n).2.1.plain = false) := by
  unfold relayAll SetTable.standIn
  split
  · rename_i t' order he
    unfold SetTable.relaid SetTable.laid at he
    have : t'.led = t.led ∧ t'.plain = t.plain := by
      simp only [Option.bind_eq_bind, Option.bind_eq_some_iff] at he
      obtain ⟨ow, _, he⟩ := he
      injection he with he
      injection he with h1 h2
      rw [← h1]
      exact ⟨rfl, rfl⟩
    dsimp only
    split
    · exact ⟨this.1, fun z => this.2.trans z⟩
    · exact ⟨rfl, fun _ => rfl⟩
  · exact ⟨rfl, fun _ => rfl⟩
def setObj (es : Array (Int × Value)) (ep : Nat) (t : SetTable) : Obj := { cls := .type "set", dict := none, data := .set es ep t }
section
variable {P : Program} {w : World} {A : Around} {E : Value → Shared → Prop} {s : Shared}
theorem store_set {a : Addr} {es es' : Array (Int × Value)} {ep : Nat} {t t' : SetTable} (ho : s.heap.get? a = some (setObj es ep t)) :
    (s.heap.update a (Obj.putSet es' t')).get? a = some (setObj es' (ep + 1) t') := by
  have hd : (setObj es ep t).data = .set es ep t := rfl
  have := Heap.get?_update_self (Obj.putSet es' t') ho (by rw [putSet_of es' t' hd]; rfl)
  rw [putSet_of es' t' hd] at this
  exact this
theorem add_txt {a : Addr} {es : Array (Int × Value)} {ep : Nat} {t : SetTable} {ys : List Str} {k : Str} {tk : Tok} {Q : Bool → Shared → Prop}
    (ho : s.heap.get? a = some (setObj es ep t)) (T : TxtTab P w es t ys) (room : es.size + 1 < scanBound)
    (h : ∀ (b : Bool) h' es' ep' t', Heap.SameBut a s.heap h' → h'.get? a = some (setObj es' ep' t') → TxtTab P w es' t' (ys ++ [k]) → es'.size ≤ es.size + 1 → Q b { s with heap := h' }) :
    wpAny (model P w) A (setAddHashed a (.str k tk) (hashStr w k)) Q E s := by
  have hkey : (strKind P w).is k (.str k tk) = true := by
    show Value.isStrOf k (.str k tk) = true
    simp [Value.isStrOf]
  have hsc : (Value.str k tk).scannable = true := rfl
  have hd : (setObj es ep t).data = .set es ep t := rfl
  unfold setAddHashed setAddHashedIn
  refine wpAny_holding (wpAny_bind (wpAny_setState_of ho hd T.fit ?_))
  dsimp only
  rw [byScan_of hsc T.few T.el]
  simp only [↓reduceIte]
  unfold setAddByScan
  refine wpAny_bind ?_
  refine wpAny_bind (wpAny_rule ?_)
  refine wpAny_bind (wpAny_setScan_of (knd := strKind P w) (k := k) hkey ho hd T.fit T.el ?_)
  cases hr : List.findIdx? (fun e => (strKind P w).is k e.2) es.toList with
  | some j =>
    dsimp only
    obtain ⟨hj, hpj, _⟩ := List.findIdx?_eq_some_iff_getElem.mp hr
    refine wpAny_pure (wpAny_pure ?_)
    have := h false s.heap es ep t (Heap.SameBut.refl a s.heap) ho ⟨T.el, T.nd, fun k' => ?_, T.few, T.fit, T.led, T.pl⟩ (by omega)
    · exact this
    · rw [T.mem k', List.mem_append, List.mem_singleton]
      refine ⟨.inl, fun z => z.elim id fun e => ?_⟩
      rw [← T.mem, e, ← is_txt hpj]
      exact List.mem_map.mpr ⟨_, List.getElem_mem hj, rfl⟩
  | none =>
    dsimp only
    have hnew : k ∉ es.toList.map fun e => txt e.2 := by
      intro hm
      obtain ⟨e, he, hk⟩ := List.mem_map.mp hm
      have hn := List.findIdx?_eq_none_iff.mp hr e he
      obtain ⟨⟨k', hk', _⟩, _⟩ := T.el e he
      rw [is_txt hk'] at hk
      subst hk
      rw [hk'] at hn
      cases hn
    have hgw : ∀ (b : Bool) {s₁ : Shared} {Q' : Unit → Shared → Prop}, Q' () s₁ → wpAny (model P w) A (match b with | true => rule "set.scan.the-table-gave-way" | false => pure ()) Q' E s₁ := by
      intro b s₁ Q' hq
      cases b
      · exact wpAny_pure hq
      · exact wpAny_rule hq
    have hperm := layNew_perm t es (hashStr w k) (.str k tk)
    have hfits := layNew_fits t es (hashStr w k) (.str k tk)
    have hled := layNew_led t es (hashStr w k) (.str k tk)
    show wpAny _ _ (match layNew t es (hashStr w k) (.str k tk) with | (es, t, wasDummy, gave) => _) _ _ _
    generalize layNew t es (hashStr w k) (.str k tk) = Ln at hperm hfits hled ⊢
    obtain ⟨es1, t1, wd, gv⟩ := Ln
    dsimp only at hperm hfits hled ⊢
    rw [Array.toList_push] at hperm
    have hsz1 : es1.size = es.size + 1 := by rw [← Array.length_toList, hperm.length_eq, List.length_append, Array.length_toList]; rfl
    have tab : ∀ (es2 : Array (Int × Value)) (t2 : SetTable), es2.toList.Perm es1.toList → t2.fits es2.size = true → t2.led = t.led → t2.plain = false → TxtTab P w es2 t2 (ys ++ [k]) := fun es2 t2 hp hf hl hpl => by
      have hp' := hp.trans hperm
      refine ⟨(T.el.push hkey hsc).perm hp', ?_, fun k' => ?_, ?_, hf, hl.trans T.led, fun _ => hpl⟩
      · refine (hp'.map _).nodup_iff.mpr ?_
        rw [List.map_append, List.nodup_append]
        refine ⟨T.nd, by simp, fun x hx y hy => ?_⟩
        simp only [List.map_cons, List.map_nil, List.mem_singleton] at hy
        rintro rfl
        rw [hy] at hx
        exact hnew hx
      · rw [(hp'.map _).mem_iff, List.map_append, List.mem_append, T.mem k', List.mem_append]
        rfl
      · rw [← Array.length_toList, hp'.length_eq, List.length_append, Array.length_toList]
        exact room
    refine wpAny_bind (hgw _ ?_)
    have tail : ∀ t2 : SetTable, t2.fits es1.size = true → t2.led = t.led → t2.plain = false → ∀ R : Option Bool → Shared → Prop, (∀ h' es' ep' t', Heap.SameBut a s.heap h' → h'.get? a = some (setObj es' ep' t') → TxtTab P w es' t' (ys ++ [k]) → es'.size ≤ es.size + 1 → R (some true) { s with heap := h' }) →
        wpAny (model P w) A (do
          storeSet a es1 t2
          if (!wd && t2.tooFull) = true then do
            (match (relayAll t2 es1 (SetTable.grown es1.size)).2.2 with | true => rule "set.scan.the-table-gave-way" | false => pure ())
            storeSet a (relayAll t2 es1 (SetTable.grown es1.size)).1 (relayAll t2 es1 (SetTable.grown es1.size)).2.1
            pure (some true)
          else pure (some true)) R E s := fun t2 hf hl hpl R hR => by
      have room1 : es1.size ≤ sizeLine := fits_of_scanBound (by rw [hsz1]; exact room)
      refine wpAny_bind (wpAny_storeSet_of ho hd ?_ room1)
      have ho1 := store_set (s := s) (es' := es1) (t' := t2) ho
      have sb1 := Heap.SameBut.update s.heap a (Obj.putSet es1 t2)
      split
      · have hp := relayAll_perm t2 es1 (SetTable.grown es1.size)
        have hfr := relayAll_fits t2 es1 (SetTable.grown es1.size)
        have hlr := relayAll_led t2 es1 (SetTable.grown es1.size)
        generalize relayAll t2 es1 (SetTable.grown es1.size) = Rl at hp hfr hlr ⊢
        obtain ⟨es2, t3, g2⟩ := Rl
        dsimp only at hp hfr hlr ⊢
        have hsz2 : es2.size = es1.size := by rw [← Array.length_toList, hp.length_eq, Array.length_toList]
        refine wpAny_bind (hgw _ ?_)
        refine wpAny_bind (wpAny_storeSet_of (s := { s with heap := s.heap.update a (Obj.putSet es1 t2) }) ho1 rfl ?_ (by rw [hsz2]; exact room1))
        exact wpAny_pure (hR _ es2 _ t3 (sb1.trans (Heap.SameBut.update _ a _)) (store_set (s := { s with heap := s.heap.update a (Obj.putSet es1 t2) }) ho1) (tab es2 t3 hp hfr (hlr.1.trans hl) (hlr.2 hpl)) (by omega))
      · exact wpAny_pure (hR _ es1 _ t2 sb1 ho1 (tab es1 t2 (.refl _) hf hl hpl) (by omega))
    split
    · refine wpAny_bind ?_
      rw [hashByValue_scannable 8 hsc]
      refine wpAny_pure ?_
      refine tail _ (SetTable.fits_plain_off hfits) hled.1 rfl _ fun h' es' ep' t' a1 a2 a3 a4 => ?_
      exact wpAny_pure (h true h' es' ep' t' a1 a2 a3 a4)
    · rename_i hpl
      refine wpAny_bind (wpAny_pure ?_)
      simp only [↓reduceIte]
      refine tail _ hfits hled.1 (by simpa using hpl) _ fun h' es' ep' t' a1 a2 a3 a4 => ?_
      exact wpAny_pure (h true h' es' ep' t' a1 a2 a3 a4)
end
end L2
namespace L2
open PySem
section
variable {P : Program} {w : World} {A : Around} {E : Value → Shared → Prop} {s : Shared}
theorem fill_txt {R : Result → Shared → Prop} {I : Addr} {fp wr : List Addr} {G : Array GenState → Array GenState → Prop} {n : Nat} {PI : Nat → Value → Prop} {St : Nat → Shared → Prop}
    (W : WalksS P w A.in1 I fp wr G n PI St) (S : Addr) (hSf : S ∉ fp) (zs : List Str) (hz : ∀ i v, PI i v → ∃ k t, zs[i]? = some k ∧ v = .str k t) (hb : n + 1 < scanBound) :
    ∀ (k i : Nat) (s : Shared), n - i = k → i ≤ n → St i s →
      (∃ es ep t, s.heap.get? S = some (setObj es ep t) ∧ TxtTab P w es t (zs.take i) ∧ es.size ≤ i) →
      (∀ s', Moved (S :: wr) G s s' → (∃ es ep t, s'.heap.get? S = some (setObj es ep t) ∧ TxtTab P w es t (zs.take n) ∧ es.size ≤ n) → R (.ok (.ret .none)) s') →
      codeAny (model P w) A (.builtin "set.update.loop" ⟨[.ref S, .ref I], []⟩) R s := by
  have hSw : S ∉ wr := fun z => hSf (W.sub _ z)
  have up : ∀ b ∈ wr, b ∈ S :: wr := fun b z => List.mem_cons_of_mem _ z
  intro k
  induction k with
  | zero =>
    intro i s hk hi hst hS hR
    obtain rfl : i = n := by omega
    refine codeAny_builtin PyProof.Rows.F.entry_set_update_loop ?_
    rw [Around.under_plainId PyProof.Rows.F.plain_set_update_loop _]
    show wpAny _ A.in1 (pyNext (.ref I) >>= _) _ _ s
    refine wpAny_bind (W.done s _ _ hst fun s' hm => ?_)
    show wpAny _ A.in1 (ret Value.none) _ _ s'
    obtain ⟨es, ep, t, h1, h2, h3⟩ := hS
    exact wpAny_pure (hR s' (hm.mono up) ⟨es, ep, t, hm.heap S _ hSw h1, h2, h3⟩)
  | succ k ih =>
    intro i s hk hi hst hS hR
    have lt : i < n := by omega
    refine codeAny_builtin PyProof.Rows.F.entry_set_update_loop ?_
    rw [Around.under_plainId PyProof.Rows.F.plain_set_update_loop _]
    show wpAny _ A.in1 (pyNext (.ref I) >>= _) _ _ s
    refine wpAny_bind (W.item i s _ _ lt hst fun v s' hP hst' hm => ?_)
    obtain ⟨z, t, hzi, rfl⟩ := hz i v hP
    obtain ⟨es, ep, tb, h1, h2, h3⟩ := hS
    have h1' := hm.heap S _ hSw h1
    show wpAny _ A.in1 (holding [Value.str z t] (setAdd S (.str z t)) >>= _) _ _ s'
    refine wpAny_bind (wpAny_holding ?_)
    unfold setAdd
    refine wpAny_holding ?_
    refine wpAny_bind (wpAny_pyHash_str ?_)
    refine add_txt (s := { s' with toks := s'.toks + 1 }) h1' h2 (by omega) fun b h' es' ep' t' sb g1 g2 g3 => ?_
    have e : zs.take (i + 1) = zs.take i ++ [z] := by rw [List.take_add_one, hzi]; rfl
    refine wpAny_pure ⟨plainId_quiet PyProof.Rows.F.plain_set_update_loop _, ih (i + 1) _ (by omega) lt (W.frame _ s' _ _ hst' (Nat.le_succ _) fun b hb o q => ?_) ⟨es', ep', t', g1, by rw [e]; exact g2, by omega⟩ fun s2 m2 S2 => ?_⟩
    · rw [sb.2 b fun z : b = S => hSf (by rw [← z]; exact hb)]
      exact q
    · refine hR s2 (Moved.trans W.gtrans ((hm.mono up).then_heap (Nat.le_succ _) fun b o hb q => ?_) m2) S2
      rw [sb.2 b fun z : b = S => hb (by rw [z]; exact List.mem_cons_self)]
      exact q
end
end L2
namespace L2
open PySem
theorem sit_next : Slot "set_iterator" "__next__" "set_iterator.__next__" :=
  .of (owner := "set_iterator") (n := "__next__") (by rw [typeLookup_type, builtinLookup_eq_fast]; kernel_rfl) (by decide +kernel) (by decide +kernel) (by decide +kernel) (.inl (by decide +kernel)) (by rw [isSubtype_type]; kernel_rfl)
theorem sit_next_e : entryFor table "set_iterator.__next__" = some Builtin.«set_iterator.__next__» := entryFor_of_tree (by kernel_rfl)
theorem sit_next_a (a : Value) : argsOk "set_iterator.__next__" ⟨[a], []⟩ := by unfold argsOk; kernel_rfl
theorem sit_iter : Slot "set_iterator" "__iter__" "set_iterator.__iter__" :=
  .of (owner := "set_iterator") (n := "__iter__") (by rw [typeLookup_type, builtinLookup_eq_fast]; kernel_rfl) (by decide +kernel) (by decide +kernel) (by decide +kernel) (by first | exact .inl (by decide +kernel) | exact .inr (by decide +kernel)) (by rw [isSubtype_type]; kernel_rfl)
theorem sit_iter_e : entryFor table "set_iterator.__iter__" = some Builtin.«dict_keyiterator.__iter__» := entryFor_alias (id' := "dict_keyiterator.__iter__") (by kernel_rfl) rfl (by decide +kernel) (by kernel_rfl)
theorem sit_iter_a (a : Value) : argsOk "set_iterator.__iter__" ⟨[a], []⟩ := by unfold argsOk; kernel_rfl
theorem set_iter_e : entryFor table "set.__iter__" = some Builtin.«frozenset.__iter__» := entryFor_alias (id' := "frozenset.__iter__") (by kernel_rfl) rfl (by decide +kernel) (by kernel_rfl)
def sitObj (fst : Value) (i : Nat) (a : Addr) (n ep : Nat) : Obj := { cls := .type "set_iterator", data := .fields #[fst, .int i 0, .ref a, .int n 0, .int ep 0] }
section
variable {P : Program} {w : World} {A : Around} {E : Value → Shared → Prop} {s : Shared}
theorem set_entries {a : Addr} {es : Array (Int × Value)} {ep : Nat} {t : SetTable} {Q : Array (Int × Value) → Shared → Prop} (ho : s.heap.get? a = some (setObj es ep t)) (hf : t.fits es.size = true) (h : Q es s) :
    wpAny (model P w) A (setEntries a) Q E s := by
  unfold setEntries
  exact wpAny_bind (wpAny_setState_of ho rfl hf (wpAny_pure h))
theorem sit_drawn {I a tp : Addr} {i p n ep : Nat} {es : Array (Int × Value)} {t : SetTable} {its : Array Value} {x : Int × Value} {nn : Nat} {ot : Obj} {tk : Tok} {Q : Option Value → Shared → Prop}
    (hi : s.heap.get? I = some (sitObj (.ref tp) i a n ep)) (hs : s.heap.get? a = some (setObj es ep t)) (hf : t.fits es.size = true) (hn : es.size = n)
    (ht : s.heap.get? tp = some ot) (htd : ot.data = .seq its nn) (hp : its[i]? = some (.int (p : Int) tk)) (hx : es[p]? = some x)
    (h : ∀ h', h'.get? I = some (sitObj (.ref tp) (i + 1) a n ep) → Heap.SameBut I s.heap h' → Q (some x.2) { s with heap := h' }) :
    wpAny (model P w) A (pyNext (.ref I)) Q E s := by
  have ty : s.TypeIs (.ref I) "set_iterator" := ⟨_, hi, rfl⟩
  unfold pyNext
  refine wpAny_bind (wpAny_attempt (wpAny_callSpecial?_slot (name := Str.ofString "__next__") ty sit_next (wpAny_call_entry sit_next ty sit_next_e ?_ (sit_next_a _))))
  unfold Builtin.«set_iterator.__next__»
  refine wpAny_bind (wpAny_pure ?_)
  refine wpAny_bind (wpAny_fieldsOf hi rfl ?_)
  dsimp only
  refine wpAny_bind (set_entries hs hf ?_)
  have ne : ((es.size : Int) != (n : Int)) = false := by rw [hn]; simp
  rw [ne, if_neg Bool.false_ne_true]
  refine wpAny_bind (wpAny_seqItems ht htd ?_)
  dsimp only
  rw [Int.toNat_natCast, hp]
  dsimp only
  refine wpAny_bind ?_
  unfold setNextDrawn
  refine wpAny_bind (wpAny_setState_of hs rfl hf ?_)
  dsimp only
  have ne2 : (ep != (ep : Int).toNat) = false := by rw [Int.toNat_natCast]; simp
  rw [ne2, if_neg Bool.false_ne_true, Int.toNat_natCast, hx]
  dsimp only
  refine wpAny_pure ?_
  refine wpAny_bind (wpAny_setField hi rfl (by simp) (wpAny_pure ⟨_, rfl, wpAny_pure (h _ ?_ (Heap.SameBut.update ..))⟩))
  have := Heap.get?_update_self (Obj.mapFields (·.setIfInBounds 1 (rawInt ((i : Int) + 1)))) hi rfl
  exact this
theorem stop_it {Q : Option Value → Shared → Prop} (hh : A.handled = none) (h : ∀ h', (∀ b o, s.heap.get? b = some o → h'.get? b = some o) → Q none { s with heap := h' }) :
    wpAny (model P w) A.in1 (newExc (.type "StopIteration") [] >>= fun x => (raiseNew x : Sem Fin)) (fun fin s' => ∃ v, fin = Fin.done (Flow.ret v) ∧ wpAny (model P w) A (pure (some v)) Q E s')
      (fun e s' => wpAny (model P w) A (do if ← isInstance e (Value.type "StopIteration") then pure none else throw e) Q E s') s := by
  refine wpAny_bind ?_
  simp only [newExc, newTuple]
  refine wpAny_bind (wpAny_newObj_type ?_ (by size_fits))
  refine wpAny_bind (m := firstArgMember _ _) (wpAny_of_eq (a := Value.none) (by first | rfl | (simp only [firstArgMember]; rfl)) ?_)
  refine wpAny_newObj_type ?_ (by size_fits)
  simp only [raiseNew]
  refine wpAny_bind (wpAny_handled ?_)
  have hh' : A.in1.handled = none := hh
  rw [hh']
  refine wpAny_bind (wpAny_pure (wpAny_throw ?_))
  refine wpAny_bind (wpAny_isInstance (T := "StopIteration") (b := true) ⟨_, Heap.get?_push_size _ rfl, rfl⟩ isSubtype_stop ?_)
  exact wpAny_pure (h _ fun b o e => Heap.get?_push_of_some _ (Heap.get?_push_of_some _ e))
theorem sit_drawn_end {I a tp : Addr} {i n ep : Nat} {es : Array (Int × Value)} {t : SetTable} {its : Array Value} {nn : Nat} {ot : Obj} {Q : Option Value → Shared → Prop} (hh : A.handled = none)
    (hi : s.heap.get? I = some (sitObj (.ref tp) i a n ep)) (hs : s.heap.get? a = some (setObj es ep t)) (hf : t.fits es.size = true) (hn : es.size = n)
    (ht : s.heap.get? tp = some ot) (htd : ot.data = .seq its nn) (hp : its[i]? = none)
    (h : ∀ h', (∀ b o, b ≠ I → s.heap.get? b = some o → h'.get? b = some o) → Q none { s with heap := h' }) :
    wpAny (model P w) A (pyNext (.ref I)) Q E s := by
  have ty : s.TypeIs (.ref I) "set_iterator" := ⟨_, hi, rfl⟩
  unfold pyNext
  refine wpAny_bind (wpAny_attempt (wpAny_callSpecial?_slot (name := Str.ofString "__next__") ty sit_next (wpAny_call_entry sit_next ty sit_next_e ?_ (sit_next_a _))))
  unfold Builtin.«set_iterator.__next__»
  refine wpAny_bind (wpAny_pure ?_)
  refine wpAny_bind (wpAny_fieldsOf hi rfl ?_)
  dsimp only
  refine wpAny_bind (set_entries hs hf ?_)
  have ne : ((es.size : Int) != (n : Int)) = false := by rw [hn]; simp
  rw [ne, if_neg Bool.false_ne_true]
  refine wpAny_bind (wpAny_seqItems ht htd ?_)
  dsimp only
  rw [Int.toNat_natCast, hp]
  dsimp only
  refine wpAny_bind (wpAny_setField hi rfl (by simp) ?_)
  have g1 := Heap.get?_update_self (Obj.mapFields (·.setIfInBounds 0 (rawInt 0))) hi rfl
  refine wpAny_bind (wpAny_setField g1 rfl (by simp) ?_)
  refine stop_it hh fun h' k => h h' fun b o hb e => k b o ?_
  exact (Heap.get?_update_other _ _ (Ne.symm hb)).trans ((Heap.get?_update_other _ _ (Ne.symm hb)).trans e)
theorem sit_slot {I a : Addr} {i n ep sl sl' : Nat} {es : Array (Int × Value)} {t : SetTable} {x : Value} {Q : Option Value → Shared → Prop}
    (hi : s.heap.get? I = some (sitObj (.int (sl : Int) 0) i a n ep)) (hs : s.heap.get? a = some (setObj es ep t)) (hf : t.fits es.size = true) (hn : es.size = n)
    (hx : ∀ Q' : Option (Value × Nat) → Shared → Prop, ∀ E', Q' (some (x, sl')) s → wpAny (model P w) A.in1 (setNext a sl i ep) Q' E' s)
    (h : ∀ h', h'.get? I = some (sitObj (.int (sl' : Int) 0) (i + 1) a n ep) → Heap.SameBut I s.heap h' → Q (some x) { s with heap := h' }) :
    wpAny (model P w) A (pyNext (.ref I)) Q E s := by
  have ty : s.TypeIs (.ref I) "set_iterator" := ⟨_, hi, rfl⟩
  unfold pyNext
  refine wpAny_bind (wpAny_attempt (wpAny_callSpecial?_slot (name := Str.ofString "__next__") ty sit_next (wpAny_call_entry sit_next ty sit_next_e ?_ (sit_next_a _))))
  unfold Builtin.«set_iterator.__next__»
  refine wpAny_bind (wpAny_pure ?_)
  refine wpAny_bind (wpAny_fieldsOf hi rfl ?_)
  dsimp only
  refine wpAny_bind (set_entries hs hf ?_)
  have ne : ((es.size : Int) != (n : Int)) = false := by rw [hn]; simp
  rw [ne, if_neg Bool.false_ne_true, Int.toNat_natCast, Int.toNat_natCast, Int.toNat_natCast]
  refine wpAny_bind (hx _ _ ?_)
  dsimp only
  refine wpAny_bind (wpAny_setField hi rfl (by simp) ?_)
  have g1 := Heap.get?_update_self (Obj.mapFields (·.setIfInBounds 0 (rawInt (sl' : Int)))) hi rfl
  refine wpAny_bind (wpAny_setField g1 rfl (by simp) (wpAny_pure ⟨_, rfl, wpAny_pure (h _ ?_ ((Heap.SameBut.update ..).trans (Heap.SameBut.update ..)))⟩))
  exact Heap.get?_update_self (Obj.mapFields (·.setIfInBounds 1 (rawInt ((i : Int) + 1)))) g1 rfl
theorem sit_slot_end {I a : Addr} {i n ep sl : Nat} {es : Array (Int × Value)} {t : SetTable} {Q : Option Value → Shared → Prop} (hh : A.handled = none)
    (hi : s.heap.get? I = some (sitObj (.int (sl : Int) 0) i a n ep)) (hs : s.heap.get? a = some (setObj es ep t)) (hf : t.fits es.size = true) (hn : es.size = n)
    (hx : ∀ Q' : Option (Value × Nat) → Shared → Prop, ∀ E', Q' none s → wpAny (model P w) A.in1 (setNext a sl i ep) Q' E' s)
    (h : ∀ h', (∀ b o, b ≠ I → s.heap.get? b = some o → h'.get? b = some o) → Q none { s with heap := h' }) :
    wpAny (model P w) A (pyNext (.ref I)) Q E s := by
  have ty : s.TypeIs (.ref I) "set_iterator" := ⟨_, hi, rfl⟩
  unfold pyNext
  refine wpAny_bind (wpAny_attempt (wpAny_callSpecial?_slot (name := Str.ofString "__next__") ty sit_next (wpAny_call_entry sit_next ty sit_next_e ?_ (sit_next_a _))))
  unfold Builtin.«set_iterator.__next__»
  refine wpAny_bind (wpAny_pure ?_)
  refine wpAny_bind (wpAny_fieldsOf hi rfl ?_)
  dsimp only
  refine wpAny_bind (set_entries hs hf ?_)
  have ne : ((es.size : Int) != (n : Int)) = false := by rw [hn]; simp
  rw [ne, if_neg Bool.false_ne_true, Int.toNat_natCast, Int.toNat_natCast, Int.toNat_natCast]
  refine wpAny_bind (hx _ _ ?_)
  dsimp only
  refine wpAny_bind (wpAny_setField hi rfl (by simp) ?_)
  refine stop_it hh fun h' k => h h' fun b o hb e => k b o ?_
  exact (Heap.get?_update_other _ _ (Ne.symm hb)).trans e
theorem sit_self {I a : Addr} {fst : Value} {i n ep : Nat} {Q : Value → Shared → Prop} (hi : s.heap.get? I = some (sitObj fst i a n ep)) (h : Q (.ref I) s) : wpAny (model P w) A (pyIter (.ref I)) Q E s := by
  have ty : s.TypeIs (.ref I) "set_iterator" := ⟨_, hi, rfl⟩
  refine wpAny_pyIter_slot ty sit_iter (wpAny_call_entry sit_iter ty sit_iter_e ?_ (sit_iter_a _))
  show wpAny _ _ (ret (.ref I)) _ _ s
  exact wpAny_pure ⟨_, rfl, "set_iterator", _, ty, sit_next.lookup, h⟩
end
end L2
namespace L2
open PySem
section
variable {P : Program} {w : World} {A : Around} {E : Value → Shared → Prop} {s : Shared}
theorem wp_pick {src : Source} {n : Nat} {Q : Nat → Shared → Prop} (hn : n ≠ 0) (h : ∀ i d, i < n → Q i { s with drawn := d }) : wpAny (model P w) A (choose src n) Q E s := fun Γ p _ => by
  show Sem.wp _ _ (.choose src n .pure) _ _ _ _
  rw [Sem.wp_choose]
  refine ⟨hn, ?_⟩
  have := h ((model P w).w.draws src (s.drawn.get src) % n) (s.drawn.bump src) (Nat.mod_lt _ (Nat.pos_of_ne_zero hn))
  simpa using this
theorem perm_out {α : Type} {xs : List α} {i : Nat} {x : α} (h : xs[i]? = some x) : (x :: xs.eraseIdx i).Perm xs := by
  induction xs generalizing i with
  | nil => simp at h
  | cons y r ih =>
    cases i with
    | zero => simp at h; subst h; exact .refl _
    | succ j =>
      simp only [List.getElem?_cons_succ] at h
      exact (List.Perm.swap y x _).trans ((ih h).cons y)
theorem draw_all {α : Type} : ∀ (n : Nat) (xs : List α) (s : Shared) (Q : List α → Shared → Prop), xs.length = n → (∀ ys d, ys.Perm xs → Q ys { s with drawn := d }) → wpAny (model P w) A (drawOrder n xs) Q E s
  | 0, xs, s, Q, hn, h => by
    obtain rfl := List.length_eq_zero_iff.mp hn
    exact wpAny_pure (h [] s.drawn (.refl _))
  | n + 1, [], s, Q, hn, h => by cases hn
  | n + 1, x :: r, s, Q, hn, h => by
    unfold drawOrder
    refine wpAny_bind (wp_pick (by simp) fun i d hi => ?_)
    have e : (x :: r)[i]? = some (x :: r)[i] := List.getElem?_eq_getElem hi
    rw [e]
    dsimp only
    refine wpAny_bind (draw_all n _ _ _ (by rw [List.length_eraseIdx_of_lt hi]; omega) fun ys d' hp => wpAny_pure ?_)
    exact h _ d' ((hp.cons _).trans (perm_out e))
theorem pick_go {α : Type} (next : Nat → Nat) : ∀ (fuel k : Nat) (left : List α) (out : Array α), left.length = fuel → (pickOrder.go next fuel k left out).toList.Perm (out.toList ++ left)
  | 0, k, left, out, h => by
    obtain rfl := List.length_eq_zero_iff.mp h
    unfold pickOrder.go
    rw [List.append_nil]
  | fuel + 1, k, left, out, h => by
    unfold pickOrder.go
    have hi : next k % left.length < left.length := Nat.mod_lt _ (by omega)
    have e := List.getElem?_eq_getElem hi
    rw [e]
    dsimp only
    refine (pick_go next fuel (k + 1) _ _ (by rw [List.length_eraseIdx_of_lt hi]; omega)).trans ?_
    rw [Array.toList_push, List.append_assoc]
    exact (List.Perm.refl _).append (perm_out e)
theorem pick_perm {α : Type} (next : Nat → Nat) (xs : Array α) : (pickOrder next xs).toList.Perm xs.toList := by
  have := pick_go next xs.size 0 xs.toList #[] Array.length_toList
  simpa [pickOrder] using this
theorem by_text {Q : Bool → Shared → Prop} (h : Q (w.params.followText "set-order") s) : wpAny (model P w) A setsByText Q E s := by
  unfold setsByText
  exact wpAny_bind (wpAny_askSetting (wpAny_pure h))
structure SetWalk (P : Program) (w : World) (es : Array (Int × Value)) (a : Addr) (s s' : Shared) (I : Addr) : Prop where
  ex : ∃ (fp : List Addr) (vs : List Value) (St : Nat → Heap → Prop), vs.Perm (es.toList.map (·.2)) ∧ (∀ A : Around, A.handled = none → Walks P w A I fp [I] vs.length (fun i v => vs[i]? = some v) St) ∧ St 0 s'.heap ∧ (∀ b ∈ fp, b < s'.heap.objs.size ∧ (b = a ∨ s.heap.get? b = none)) ∧ I ∈ fp
  old : ∀ b o, s.heap.get? b = some o → s'.heap.get? b = some o
  new : s.heap.get? I = none
  gens : s'.gens = s.gens
  os : s'.os = s.os
  toks : s'.toks = s.toks
theorem fits_iff {t : SetTable} {n : Nat} (h : t.fits n = true) : t.place.size = n := by
  simp only [SetTable.fits, Bool.and_eq_true, beq_iff_eq] at h
  exact h.1
theorem no_obj {h : Heap} {b : Addr} (k : h.objs.size ≤ b) : h.get? b = none := by
  cases q : h.get? b with
  | none => rfl
  | some o => exact absurd (Nat.lt_of_lt_of_le (Heap.lt_size q) k) (Nat.lt_irrefl _)
theorem iter_set {a : Addr} {es : Array (Int × Value)} {ep : Nat} {t : SetTable} {ys : List Str} {Q : Value → Shared → Prop} (hs : s.heap.get? a = some (setObj es ep t)) (T : TxtTab P w es t ys)
    (h : ∀ s' I, SetWalk P w es a s s' I → Q (.ref I) s') : wpAny (model P w) A (pyIter (.ref a)) Q E s := by
  have ty : s.TypeIs (.ref a) "set" := ⟨_, hs, rfl⟩
  have alt : a < s.heap.objs.size := Heap.lt_size hs
  refine wpAny_pyIter_slot ty F.slot_set_iter (wpAny_call_entry F.slot_set_iter ty set_iter_e ?_ (F.args_set_iter_1 _))
  unfold Builtin.«frozenset.__iter__»
  refine wpAny_bind (wpAny_pure ?_)
  refine wpAny_bind ?_
  unfold Builtin.Frozenset.sizeOf
  refine wpAny_bind (set_entries hs T.fit (wpAny_pure ?_))
  refine wpAny_bind ?_
  unfold setDrawn
  refine wpAny_bind (wpAny_setState_of hs rfl T.fit ?_)
  dsimp only
  refine wpAny_bind (by_text (wpAny_pure ?_))
  have two : ∀ (fst : Value) (s1 : Shared), s1.heap.get? a = some (setObj es ep t) → (∀ it s', it = .ref s1.heap.objs.size → s' = { s1 with heap := s1.heap.push (sitObj fst 0 a es.size ep) } → Q it s') →
      wpAny (model P w) A.in1 (do
        let e ← setEpoch a
        let x ← newFields "set_iterator" [fst, rawInt 0, .ref a, rawInt (es.size : Int), rawInt (e : Int)]
        ret x) (fun fin s' => ∃ v, fin = Fin.done (Flow.ret v) ∧ ∃ T' r, s'.TypeIs v T' ∧ typeLookup (Value.type T') (Str.ofString "__next__") = pure (some r) ∧ Q v s') E s1 := fun fst s1 h1 hq => by
    refine wpAny_bind (wpAny_setEpoch_of h1 rfl T.fit ?_)
    unfold newFields
    refine wpAny_bind (wpAny_newObj_type ?_)
    refine wpAny_pure ⟨_, rfl, "set_iterator", _, ⟨_, Heap.get?_push_size _ rfl, rfl⟩, sit_next.lookup, hq _ _ rfl rfl⟩
  show wpAny _ _ (if (!w.params.followText "set-order" && (!t.plain && decide (es.size > 1))) = true then _ else _) _ _ _
  have hpl := fits_iff T.fit
  by_cases hb : w.params.followText "set-order" = true
  · rw [hb]
    simp only [Bool.not_true, Bool.false_and, Bool.false_eq_true, if_false]
    refine wpAny_bind (wpAny_pure ?_)
    refine two _ s hs fun it s' e1 e2 => ?_
    subst e1 e2
    have pp := pick_perm (w.params.setOrder a ep) es
    have pl : ((pickOrder (w.params.setOrder a ep) es).toList.map (·.2)).length = es.size := by rw [List.length_map, pp.length_eq, Array.length_toList]
    have nx : ∀ (A' : Around) (i : Nat) (s1 : Shared) (Q' : Option (Value × Nat) → Shared → Prop) E', s1.heap.get? a = some (setObj es ep t) → Q' (((pickOrder (w.params.setOrder a ep) es)[i]?).map fun e => (e.2, 0)) s1 → wpAny (model P w) A' (setNext a 0 i ep) Q' E' s1 := fun A' i s1 Q' E' h1 q => by
      unfold setNext
      refine wpAny_bind (wpAny_setState_of h1 rfl T.fit ?_)
      dsimp only
      refine wpAny_bind (by_text ?_)
      rw [hb, if_pos rfl]
      have ne : (ep != ep) = false := by simp
      rw [ne, if_neg Bool.false_ne_true]
      refine wpAny_bind ?_
      unfold setWalk
      refine wpAny_bind (wpAny_setState_of h1 rfl T.fit ?_)
      dsimp only
      refine wpAny_bind (by_text ?_)
      rw [hb, if_pos rfl]
      refine wpAny_bind (wpAny_askSetting (wpAny_pure ?_))
      exact wpAny_pure q
    have nI : a ≠ s.heap.objs.size := Nat.ne_of_lt alt
    refine h _ _ ⟨⟨[s.heap.objs.size, a], (pickOrder (w.params.setOrder a ep) es).toList.map (·.2), fun i h' => h'.get? s.heap.objs.size = some (sitObj (.int 0 0) i a es.size ep) ∧ h'.get? a = some (setObj es ep t), pp.map _, fun A' hh => ?_, ⟨Heap.get?_push_size _ rfl, Heap.get?_push_of_some _ hs⟩, ?_, by simp⟩, fun b o e => Heap.get?_push_of_some _ e, ?_, rfl, rfl, rfl⟩
    · refine ⟨fun b hb => by simp at hb; simp [hb], fun i h1 h2 st k => ⟨k _ (by simp) _ st.1, k _ (by simp) _ st.2⟩, fun i s1 Q' E' hi st q => ?_, fun s1 Q' E' st q => ?_, fun i s1 Q' E' st q => sit_self st.1 q⟩
      · have hi' : i < (pickOrder (w.params.setOrder a ep) es).size := by rw [List.length_map, Array.length_toList] at hi; exact hi
        refine sit_slot (sl := 0) (sl' := 0) (x := (pickOrder (w.params.setOrder a ep) es)[i].2) st.1 st.2 T.fit rfl (fun Q2 E2 q2 => nx _ _ _ _ _ st.2 (by rw [Array.getElem?_eq_getElem hi']; exact q2)) fun h' g1 g2 => q _ h' s1.toks ?_ ⟨g1, ?_⟩ fun b o hb e => ?_
        · simp [hi']
        · rw [g2.2 _ nI]; exact st.2
        · rw [g2.2 _ (by simpa using hb)]; exact e
      · have hi' : (pickOrder (w.params.setOrder a ep) es)[((pickOrder (w.params.setOrder a ep) es).toList.map (·.2)).length]? = none := by simp
        exact sit_slot_end (sl := 0) hh st.1 st.2 T.fit rfl (fun Q2 E2 q2 => nx _ _ _ _ _ st.2 (by rw [hi']; exact q2)) fun h' g => q h' s1.toks fun b o hb e => g b o (by simpa using hb) e
    · intro b hb
      simp only [List.mem_cons, List.not_mem_nil, or_false] at hb
      rw [Heap.size_push]
      rcases hb with rfl | rfl
      · exact ⟨Nat.lt_succ_self _, .inr (no_obj (Nat.le_refl _))⟩
      · exact ⟨Nat.lt_succ_of_lt alt, .inl rfl⟩
    · exact no_obj (Nat.le_refl _)
  · have hb' : w.params.followText "set-order" = false := by simpa using hb
    rw [hb']
    have led : t.led = true := by rw [T.led, hb']; rfl
    by_cases hz : es.size > 1
    · have hp := T.pl (by omega)
      rw [hp]
      simp only [Bool.not_false, Bool.true_and, hz, decide_true, if_true]
      refine wpAny_bind (draw_all _ _ _ _ (by simp) fun ps d hps => ?_)
      refine wpAny_bind (wpAny_newTuple ?_ (by rw [List.length_map, hps.length_eq, List.length_range]; exact fits_of_scanBound T.few))
      refine two _ _ (Heap.get?_push_of_some _ hs) fun it s' e1 e2 => ?_
      subst e1 e2
      dsimp only
      have lt : ∀ p ∈ ps, p < es.size := fun p hm => List.mem_range.mp (hps.mem_iff.mp hm)
      have sz : (s.heap.push { cls := .type "tuple", data := .seq (ps.map fun i : Nat => rawInt i).toArray }).objs.size = s.heap.objs.size + 1 := Heap.size_push ..
      have vp : (ps.map fun p => (es.toList.map (·.2)).getD p .none).Perm (es.toList.map (·.2)) := by
        refine (hps.map _).trans ?_
        have e : (List.range es.size).map (fun p => (es.toList.map (·.2)).getD p .none) = es.toList.map (·.2) := by
          refine List.ext_getElem (by simp) fun i h1 h2 => ?_
          simp only [List.getElem_map, List.getElem_range]
          rw [List.getD_eq_getElem?_getD, List.getElem?_eq_getElem h2]
          simp
        rw [e]
      have nI : a ≠ (s.heap.push { cls := .type "tuple", data := .seq (ps.map fun i : Nat => rawInt i).toArray }).objs.size := by rw [sz]; exact Nat.ne_of_lt (Nat.lt_succ_of_lt alt)
      have nT : s.heap.objs.size ≠ (s.heap.push { cls := .type "tuple", data := .seq (ps.map fun i : Nat => rawInt i).toArray }).objs.size := by rw [sz]; exact Nat.ne_of_lt (Nat.lt_succ_self _)
      refine h _ _ ⟨⟨[(s.heap.push { cls := .type "tuple", data := .seq (ps.map fun i : Nat => rawInt i).toArray }).objs.size, a, s.heap.objs.size], ps.map fun p => (es.toList.map (·.2)).getD p .none,
        fun i h' => h'.get? (s.heap.push { cls := .type "tuple", data := .seq (ps.map fun i : Nat => rawInt i).toArray }).objs.size = some (sitObj (.ref s.heap.objs.size) i a es.size ep) ∧ h'.get? a = some (setObj es ep t) ∧ h'.get? s.heap.objs.size = some { cls := .type "tuple", data := .seq (ps.map fun i : Nat => rawInt i).toArray },
        vp, fun A' hh => ?_, ⟨Heap.get?_push_size _ rfl, Heap.get?_push_of_some _ (Heap.get?_push_of_some _ hs), Heap.get?_push_of_some _ (Heap.get?_push_size _ rfl)⟩, ?_, by simp⟩, fun b o e => Heap.get?_push_of_some _ (Heap.get?_push_of_some _ e), ?_, rfl, rfl, rfl⟩
      · refine ⟨fun b hb => by simp at hb; simp [hb], fun i h1 h2 st k => ⟨k _ (by simp) _ st.1, k _ (by simp) _ st.2.1, k _ (by simp) _ st.2.2⟩, fun i s1 Q' E' hi st q => ?_, fun s1 Q' E' st q => ?_, fun i s1 Q' E' st q => sit_self st.1 q⟩
        · have hi' : i < ps.length := by rw [List.length_map] at hi; exact hi
          have pl := lt _ (List.getElem_mem hi')
          refine sit_drawn (p := ps[i]) (tk := 0) (x := es[ps[i]]) st.1 st.2.1 T.fit rfl st.2.2 rfl (by simp [hi', rawInt]) (Array.getElem?_eq_getElem pl) fun h' g1 g2 => q _ h' s1.toks ?_ ⟨g1, ?_, ?_⟩ fun b o hb e => ?_
          · simp [hi', pl]
          · rw [g2.2 _ nI]; exact st.2.1
          · rw [g2.2 _ nT]; exact st.2.2
          · rw [g2.2 _ (by simpa using hb)]; exact e
        · exact sit_drawn_end hh st.1 st.2.1 T.fit rfl st.2.2 rfl (by simp) fun h' g => q h' s1.toks fun b o hb e => g b o (by simpa using hb) e
      · intro b hb
        simp only [List.mem_cons, List.not_mem_nil, or_false] at hb
        rw [Heap.size_push, sz]
        rcases hb with rfl | rfl | rfl
        · rw [sz]; exact ⟨Nat.lt_succ_self _, .inr (no_obj (Nat.le_succ _))⟩
        · exact ⟨Nat.lt_succ_of_lt (Nat.lt_succ_of_lt alt), .inl rfl⟩
        · exact ⟨Nat.lt_succ_of_lt (Nat.lt_succ_self _), .inr (no_obj (Nat.le_refl _))⟩
      · rw [sz]; exact no_obj (Nat.le_succ _)
    · have hz' : decide (es.size > 1) = false := decide_eq_false hz
      rw [hz', Bool.and_false, Bool.and_false, if_neg Bool.false_ne_true]
      refine wpAny_bind (wpAny_pure ?_)
      refine two _ s hs fun it s' e1 e2 => ?_
      subst e1 e2
      have nI : a ≠ s.heap.objs.size := Nat.ne_of_lt alt
      have nx : ∀ (A' : Around) (i sl : Nat) (s1 : Shared) (Q' : Option (Value × Nat) → Shared → Prop) E', s1.heap.get? a = some (setObj es ep t) → Q' (match es[SetTable.below t.place sl]?, t.place[SetTable.below t.place sl]? with | some (_, x), some j => some (x, j + 1) | _, _ => none) s1 → wpAny (model P w) A' (setNext a sl i ep) Q' E' s1 := fun A' i sl s1 Q' E' h1 q => by
        unfold setNext
        refine wpAny_bind (wpAny_setState_of h1 rfl T.fit ?_)
        dsimp only
        refine wpAny_bind (by_text ?_)
        rw [hb', if_neg Bool.false_ne_true]
        show wpAny _ _ (if (!t.plain && decide (es.size > 1)) = true then _ else _) _ _ _
        rw [hz', Bool.and_false, if_neg Bool.false_ne_true]
        refine wpAny_bind ?_
        show wpAny _ _ (if (!t.led && !es.isEmpty) = true then _ else _) _ _ _
        rw [led, Bool.not_true, Bool.false_and, if_neg Bool.false_ne_true]
        exact wpAny_pure (wpAny_pure q)
      have gofar : ∀ sl : Nat, es.size = 0 → SetTable.below t.place sl = 0 := fun sl h0 => by
        unfold SetTable.below
        rw [hpl, h0]
        rfl
      have gone : ∀ j sl : Nat, t.place = #[j] → SetTable.below t.place sl = if j < sl then 1 else 0 := fun j sl e => by
        rw [e]
        simp [SetTable.below, SetTable.below.go]
      have old : ∀ b o, s.heap.get? b = some o → (s.heap.push (sitObj (rawInt 0) 0 a es.size ep)).get? b = some o := fun b o e => Heap.get?_push_of_some _ e
      have inn : ∀ b ∈ [s.heap.objs.size, a], b < (s.heap.push (sitObj (rawInt 0) 0 a es.size ep)).objs.size ∧ (b = a ∨ s.heap.get? b = none) := by
        intro b hb
        simp only [List.mem_cons, List.not_mem_nil, or_false] at hb
        rw [Heap.size_push]
        rcases hb with rfl | rfl
        · exact ⟨Nat.lt_succ_self _, .inr (no_obj (Nat.le_refl _))⟩
        · exact ⟨Nat.lt_succ_of_lt alt, .inl rfl⟩
      by_cases h0 : es.size = 0
      · have e0 : es = #[] := Array.eq_empty_of_size_eq_zero h0
        refine h _ _ ⟨⟨[s.heap.objs.size, a], [], fun i h' => h'.get? s.heap.objs.size = some (sitObj (.int ((0 : Nat) : Int) 0) i a es.size ep) ∧ h'.get? a = some (setObj es ep t), by rw [e0]; exact .refl _, fun A' hh => ?_, ⟨Heap.get?_push_size _ rfl, old _ _ hs⟩, inn, by simp⟩, old, no_obj (Nat.le_refl _), rfl, rfl, rfl⟩
        refine ⟨fun b hb => by simp at hb; simp [hb], fun i h1 h2 st k => ⟨k _ (by simp) _ st.1, k _ (by simp) _ st.2⟩, fun i s1 Q' E' hi st q => absurd hi (Nat.not_lt_zero _), fun s1 Q' E' st q => ?_, fun i s1 Q' E' st q => sit_self st.1 q⟩
        exact sit_slot_end (sl := 0) hh st.1 st.2 T.fit rfl (fun Q2 E2 q2 => nx _ _ _ _ _ _ st.2 (by rw [gofar 0 h0, e0]; exact q2)) fun h' g => q h' s1.toks fun b o hb e => g b o (by simpa using hb) e
      · have h1 : es.size = 1 := by omega
        obtain ⟨x, ex⟩ : ∃ x, es = #[x] := ⟨es[0], by
          refine Array.ext (by simpa using h1) fun i hi hj => ?_
          have : i = 0 := by simp at hj; exact hj
          subst this
          rfl⟩
        obtain ⟨j, ej⟩ : ∃ j, t.place = #[j] := ⟨t.place[0]'(by rw [hpl, h1]; decide), by
          refine Array.ext (by simp [hpl, h1]) fun i hi hj => ?_
          have : i = 0 := by simp at hj; exact hj
          subst this
          rfl⟩
        refine h _ _ ⟨⟨[s.heap.objs.size, a], [x.2], fun i h' => h'.get? s.heap.objs.size = some (sitObj (.int ((if i = 0 then 0 else j + 1 : Nat) : Int) 0) i a es.size ep) ∧ h'.get? a = some (setObj es ep t), by rw [ex]; exact .refl _, fun A' hh => ?_, ⟨Heap.get?_push_size _ rfl, old _ _ hs⟩, inn, by simp⟩, old, no_obj (Nat.le_refl _), rfl, rfl, rfl⟩
        refine ⟨fun b hb => by simp at hb; simp [hb], fun i h1 h2 st k => ⟨k _ (by simp) _ st.1, k _ (by simp) _ st.2⟩, fun i s1 Q' E' hi st q => ?_, fun s1 Q' E' st q => ?_, fun i s1 Q' E' st q => sit_self st.1 q⟩
        · obtain rfl : i = 0 := by simp at hi; exact hi
          refine sit_slot (sl := 0) (sl' := j + 1) (x := x.2) st.1 st.2 T.fit rfl (fun Q2 E2 q2 => nx _ _ _ _ _ _ st.2 ?_) fun h' g1 g2 => q _ h' s1.toks rfl ⟨g1, ?_⟩ fun b o hb e => ?_
          · rw [gone j 0 ej, ej, ex]
            exact q2
          · rw [g2.2 _ nI]; exact st.2
          · rw [g2.2 _ (by simpa using hb)]; exact e
        · refine sit_slot_end (sl := j + 1) hh st.1 st.2 T.fit rfl (fun Q2 E2 q2 => nx _ _ _ _ _ _ st.2 ?_) fun h' g => q h' s1.toks fun b o hb e => g b o (by simpa using hb) e
          rw [gone j (j + 1) ej, if_pos (Nat.lt_succ_self j), ej, ex]
          exact q2
end
end L2
namespace L2
open PySem
section
variable {P : Program} {w : World} {A : Around} {E : Value → Shared → Prop} {s : Shared}
theorem set_len_lk : typeLookup (.type "set") "__len__" = pure (some (.builtin "set.__len__")) := by rw [typeLookup_type, builtinLookup_eq_fast]; kernel_rfl
theorem set_sub_self : isSubtype (.type "set") (.type "set") = pure true := by rw [isSubtype_type]; kernel_rfl
theorem collect_set {a : Addr} {es : Array (Int × Value)} {ep : Nat} {t : SetTable} {ys : List Str} {Q : List Value → Shared → Prop} (hh : A.handled = none) (hs : s.heap.get? a = some (setObj es ep t)) (T : TxtTab P w es t ys)
    (h : ∀ s' vs, vs.Perm (es.toList.map (·.2)) → (∀ b o, s.heap.get? b = some o → s'.heap.get? b = some o) → s'.gens = s.gens → s'.os = s.os → s.heap.objs.size < s'.heap.objs.size → Q vs s') : wpAny (model P w) A (collect (.ref a)) Q E s := by
  unfold collect
  refine wpAny_bind (wpAny_runValue (codeAny_builtin F.entry_proto_collect ?_))
  rw [Around.under_plainId F.plain_proto_collect _]
  show wpAny _ A.in1 (newList [] >>= fun l => again (.builtin "list.__iadd__" ⟨[l, .ref a], []⟩)) _ _ s
  refine wpAny_bind (wpAny_newObj_type ?_)
  refine wpAny_pure ⟨plainId_quiet F.plain_list_iadd _, codeAny_builtin F.entry_list_iadd ?_⟩
  rw [Around.under_plainId F.plain_list_iadd _]
  have alt : a < s.heap.objs.size := Heap.lt_size hs
  have hs1 : (s.heap.push { cls := .type "list", data := .seq ([] : List Value).toArray }).get? a = some (setObj es ep t) := Heap.get?_push_of_some _ hs
  show wpAny _ A.in1 (Builtin.List.listExtendWith (.ref s.heap.objs.size) (.ref a) (.ref s.heap.objs.size)) _ _ _
  unfold Builtin.List.listExtendWith
  refine wpAny_bind (wpAny_typeOf (T := "set") ⟨_, hs1, rfl⟩ ?_)
  have h1 : Builtin.List.listSameRef (.ref s.heap.objs.size) (.ref a) = false := by
    simp only [Builtin.List.listSameRef, beq_eq_false_iff_ne]
    exact Nat.ne_of_gt alt
  rw [if_neg (by rw [h1]; decide)]
  refine wpAny_bind (iter_set (A := A.in1) (s := { s with heap := s.heap.push { cls := .type "list", data := .seq ([] : List Value).toArray } }) hs1 T fun s2 I W => ?_)
  obtain ⟨⟨fp, vs, St, hp, wk, st0, hfp, hI⟩, old, new, eg, eo, et⟩ := W
  have hs2 := old _ _ hs1
  have l2 := old _ _ (show (s.heap.push { cls := .type "list", data := .seq ([] : List Value).toArray }).get? s.heap.objs.size = some { cls := .type "list", data := .seq ([] : List Value).toArray } from Heap.get?_push_size _ rfl)
  refine wpAny_bind (wpAny_holding ?_)
  unfold Builtin.List.listLengthHint
  refine wpAny_bind (wpAny_specialOf (T := "set") ⟨_, hs2, rfl⟩ set_len_lk ?_)
  have ty2 : s2.TypeIs (.ref a) "set" := ⟨_, hs2, rfl⟩
  (generalize hid : ("set.__len__" : String) = id0; (fail_if_success (clear hid id0)); wp_delta; rw [show splitId id0 = some ("set", "__len__") from by subst hid; decide +kernel]; subst hid)
  refine wpAny_bind (wpAny_isInstance (b := true) ty2 set_sub_self ?_)
  rw [if_neg (by decide)]
  show wpAny _ _ (if _ = true then _ else _) _ _ _
  rw [if_pos (by decide)]
  refine wpAny_bind (wpAny_typeOf ty2 ?_)
  refine wpAny_pure ?_
  rw [if_pos (by decide)]
  refine wpAny_bind (wpAny_rule ?_)
  refine wpAny_bind ?_
  show wpAny _ A.in1 (updateSeq s.heap.objs.size (·.push .none) >>= fun _ => updateSeq s.heap.objs.size (·.pop)) _ _ _
  refine wpAny_bind (wpAny_updateSeq l2 rfl ?_)
  have l3 := Heap.get?_update_self (Obj.mapSeq (·.push Value.none)) l2 rfl
  refine wpAny_updateSeq l3 rfl ?_
  have l4 := Heap.get?_update_self (Obj.mapSeq (·.pop)) l3 rfl
  have oth : ∀ b o, b ≠ s.heap.objs.size → s2.heap.get? b = some o → ((s2.heap.update s.heap.objs.size (Obj.mapSeq (·.push Value.none))).update s.heap.objs.size (Obj.mapSeq (·.pop))).get? b = some o := fun b o hb e =>
    (Heap.get?_update_other _ _ (Ne.symm hb)).trans ((Heap.get?_update_other _ _ (Ne.symm hb)).trans e)
  have notin : s.heap.objs.size ∉ fp := fun hm => by
    rcases (hfp _ hm).2 with z | z
    · exact Nat.lt_irrefl _ (z ▸ alt)
    · rw [show ({ s with heap := s.heap.push { cls := .type "list", data := .seq ([] : List Value).toArray } } : Shared).heap.get? s.heap.objs.size = some { cls := .type "list", data := .seq ([] : List Value).toArray } from Heap.get?_push_size _ rfl] at z
      cases z
  have hn : vs.length ≤ sizeLine := by rw [hp.length_eq, List.length_map, Array.length_toList]; exact fits_of_scanBound T.few
  have W := (wk A.in1 (by simp [hh])).toS
  refine wpAny_pure ⟨plainId_quiet F.plain_extend_loop _, codeAny_extend_loopS W hn _ notin _ vs.length 0 _ _ _ rfl (Nat.zero_le _)
    (W.frame 0 s2 _ s2.toks st0 (Nat.le_refl _) fun b hb o e => oth b o (fun z => notin (z ▸ hb)) e) l4 (ItemsOf.nil _) fun s' acc c' hm hS' hacc => ?_⟩
  show wpAny _ A (load s.heap.objs.size >>= _) _ _ s'
  refine wpAny_bind (wpAny_load hS' (wpAny_pure ?_))
  have ea : acc.toList = vs := by
    refine List.ext_getElem? fun i => ?_
    rw [Array.getElem?_toList]
    by_cases hi : i < acc.size
    · rw [Array.getElem?_eq_getElem hi]
      exact (hacc.2 i _ (Array.getElem?_eq_getElem hi)).symm
    · rw [Array.getElem?_eq_none (Nat.not_lt.mp hi), List.getElem?_eq_none (by have := hacc.1; omega)]
  rw [ea]
  refine h s' vs hp (fun b o e => ?_) (hm.gens.trans eg) (hm.os.trans eo) (Heap.lt_size hS')
  have lb : b ≠ s.heap.objs.size := fun z => by rw [z] at e; exact Nat.lt_irrefl _ (Heap.lt_size e)
  have bI : b ≠ I := fun z => by
    rw [z] at e
    have e2 : (s.heap.push { cls := .type "list", data := .seq ([] : List Value).toArray }).get? I = some o := Heap.get?_push_of_some _ e
    exact absurd (e2.symm.trans new) (by simp)
  exact hm.heap b o (by simp [lb, bI]) (oth b o lb (old b o (Heap.get?_push_of_some _ e)))
end
end L2
namespace L2
open PySem
section
variable {P : Program} {w : World} {A : Around} {E : Value → Shared → Prop} {s : Shared}
def set0 (w : World) : Obj := setObj #[] 0 (.fresh 0 0 (!w.params.followText "set-order"))
theorem new_set (v : Value) {Q1 : Value → Shared → Prop} (h : Q1 (.ref s.heap.objs.size) { s with heap := s.heap.push (set0 w) }) :
    codeAny (model P w) A (.call (.builtin "set.__new__") ⟨[.type "set", v], []⟩) (wants Q1 E) s := by
  refine codeAny_of_tree ?_
  show wpAny _ A.in1 (do checkBuiltinCall "set.__new__" ⟨[.type "set", v], []⟩; again (.builtin "set.__new__" ⟨[.type "set", v], []⟩)) _ _ s
  have en := F.entry_set_new
  have pl := F.plain_set_new
  refine wpAny_bind (wpAny_of_eq (F.newCall_set_1 v) (wpAny_pure ⟨plainId_quiet pl _, codeAny_builtin en ?_⟩))
  rw [Around.under_plainId pl _]
  unfold Builtin.«set.__new__» Builtin.Frozenset.newClass
  have sub := sub_set_self
  obtain ⟨hp, g, d, tk, os⟩ := s
  dsimp only
  wp_walk
  refine wpAny_askSetting (wpAny_pure ?_)
  dsimp only
  simp only [newObj]
  refine wpAny_bind (wpAny_alloc (wpAny_pure ?_))
  exact wpAny_pure h
theorem strs_len : ∀ {vs : List Value} {zs : List Str}, PyProof.Rows.StrsAre vs zs → zs.length = vs.length
  | _, _, .nil => rfl
  | _, _, .cons _ _ r => by rw [List.length_cons, List.length_cons, strs_len r]
theorem strs_at : ∀ {vs : List Value} {zs : List Str}, PyProof.Rows.StrsAre vs zs → ∀ (i : Nat) (v : Value), vs[i]? = some v → ∃ k t, zs[i]? = some k ∧ v = .str k t
  | _, _, .nil, i, v, h => by simp at h
  | _, _, .cons x t r, 0, v, h => by simp at h; exact ⟨x, t, rfl, h.symm⟩
  | _, _, .cons x t r, i + 1, v, h => by
    simp only [List.getElem?_cons_succ] at h ⊢
    exact strs_at r i v h
theorem tab0 : TxtTab P w #[] (.fresh 0 0 (!w.params.followText "set-order")) [] :=
  { el := (fun e he => by cases he), nd := List.nodup_nil, mem := fun _ => Iff.rfl, few := (by unfold scanBound; decide), fit := rfl, led := rfl, pl := fun z => absurd z (Nat.lt_irrefl 0) }
set_option maxHeartbeats 3200000 in
theorem call_set_txt {l : Addr} {items : Array Value} {zs : List Str} {Q : Value → Shared → Prop} (hh : A.handled = none) (hl : s.heap.IsList l items) (hi : PyProof.Rows.StrsAre items.toList zs) (hb : items.size + 1 < scanBound)
    (h : ∀ (h' : Heap) (tk : Nat) es ep t, h'.get? s.heap.objs.size = some (setObj es ep t) → TxtTab P w es t zs →
      (∀ b o, b < s.heap.objs.size → s.heap.get? b = some o → h'.get? b = some o) → Q (.ref s.heap.objs.size) { s with heap := h', toks := tk }) :
    wpAny (model P w) A (call (.type "set") [.ref l]) Q E s := by
  obtain ⟨c, tl, hmro⟩ := F.called_set.mro
  have hmade := F.called_set.made
  have hsub := F.called_set.sub
  refine wpAny_call (codeAny_of_tree ?_)
  show wpAny _ _ (callAny (.type "set") _) _ _ _
  refine wpAny_pure ⟨Code.quiet_builtin _ (by decide +kernel), codeAny_builtin F.entry_type_call ?_⟩
  rw [Around.under_plain (weight_type_call_type "set" [.ref l] []) rfl]
  have h1 := F.called_set.notType
  have h2 := F.called_set.canCreate
  have hct := F.typeCall_set_1 (.ref l)
  repeat (any_goals (first | assumption | wp_step))
  refine codeAny_mono (new_set (P := P) (w := w) (E := E) (s := s) (.ref l) (Q1 := fun ob s1 => ob = .ref s.heap.objs.size ∧ s1 = { s with heap := s.heap.push (set0 w) }) ⟨rfl, rfl⟩) fun r s1 hr => ?_
  cases r with
  | error e => exact hr
  | ok fl =>
    cases fl with
    | ret ob =>
      obtain ⟨rfl, rfl⟩ := hr
      have hS : (s.heap.push (set0 w)).get? s.heap.objs.size = some (set0 w) := Heap.get?_push_size _ rfl
      have hT : Shared.TypeIs { s with heap := s.heap.push (set0 w) } (.ref s.heap.objs.size) "set" := ⟨_, hS, rfl⟩
      have hli := F.called_set.init.lookup
      have hbi := F.called_set.init.bind (.ref s.heap.objs.size)
      repeat (any_goals (first | assumption | wp_step))
      refine codeAny_mono (codeAny_call_builtin (R := wants (fun r s2 => r = .none ∧ ∃ h' tk, s2 = { s with heap := h', toks := tk } ∧ (∃ es ep t, h'.get? s.heap.objs.size = some (setObj es ep t) ∧ TxtTab P w es t zs) ∧
          (∀ b o, b < s.heap.objs.size → s.heap.get? b = some o → h'.get? b = some o)) E) F.called_set.init.plain F.entry_set_init (check_set_init_1 hT ?_)) fun r2 s2 hr2 => ?_
      · obtain ⟨ol, hol, hcl, nl, hdl⟩ := hl
        obtain ⟨ocls, odict, odata, oslots⟩ := ol
        simp only at hcl hdl
        subst hcl hdl
        have hol' : (s.heap.push (set0 w)).get? l = some { cls := .type "list", dict := odict, data := .seq items nl, slots := oslots } := Heap.get?_push_of_some _ hol
        have k1 := F.sub_list_set
        have k2 := F.sub_list_frozenset
        have k3 : (Value.type "list" == Value.type "dict") = false := by decide
        have hl1 : (s.heap.push (set0 w)).IsList l items := ⟨_, hol', rfl, nl, rfl⟩
        unfold Builtin.«set.__init__» noKeywords Builtin.Frozenset.updateFrom
        generalize hPI : pyIter = PI
        wp_walk
        subst hPI
        refine wpAny_pyIter_list hl1 ?_
        refine wpAny_bind (wpAny_runValue ?_)
        have lS : l < s.heap.objs.size := Heap.lt_size hol
        have hh3 : A.in1.in1.in1.handled = none := by simp [hh]
        have neI : l ≠ (s.heap.push (set0 w)).objs.size := by rw [Heap.size_push]; exact Nat.ne_of_lt (Nat.lt_succ_of_lt lS)
        have nin : s.heap.objs.size ∉ [(s.heap.push (set0 w)).objs.size, l] := by
          rw [Heap.size_push]
          simp only [List.mem_cons, List.not_mem_nil, or_false, not_or]
          exact ⟨Nat.ne_of_lt (Nat.lt_succ_self _), Nat.ne_of_gt lS⟩
        have hz : ∀ (i : Nat) (v : Value), items[i]? = some v → ∃ k t, zs[i]? = some k ∧ v = .str k t := fun i v hv => strs_at hi i v (by rw [Array.getElem?_toList]; exact hv)
        have lz : zs.length = items.size := by rw [← Array.length_toList]; exact strs_len hi
        refine fill_txt ((Walks.list hh3 _ l neI items).toS) s.heap.objs.size nin zs hz hb (items.size - 0) 0 _ (by omega) (Nat.zero_le _) ⟨⟨_, Heap.get?_push_size _ rfl, rfl, rfl⟩, (hl1.push _)⟩ ⟨#[], 0, _, Heap.get?_push_of_some _ hS, tab0, Nat.le_refl _⟩ fun s' hm hS' => ?_
        obtain ⟨es, ep, t, g1, g2, _⟩ := hS'
        obtain ⟨h', g', d', tk', os'⟩ := s'
        have eg : g' = s.gens := hm.gens
        have ed : d' = s.drawn := hm.drawn
        have eo : os' = s.os := hm.os
        subst eg ed eo
        refine wpAny_pure ?_
        rw [← lz, List.take_length] at g2
        refine wpAny_pure ⟨rfl, h', tk', rfl, ⟨es, ep, t, g1, g2⟩, fun b o hb e => ?_⟩
        have n1 : b ≠ s.heap.objs.size := Nat.ne_of_lt hb
        have n2 : b ≠ (s.heap.push (set0 w)).objs.size := by rw [Heap.size_push]; exact Nat.ne_of_lt (Nat.lt_succ_of_lt hb)
        exact hm.heap b o (by simp only [List.mem_cons, List.not_mem_nil, or_false, not_or]; exact ⟨n1, n2⟩) (Heap.get?_push_of_some _ (Heap.get?_push_of_some _ e))
      · cases r2 with
        | error e => exact hr2
        | ok fl2 =>
          cases fl2 with
          | ret r =>
            obtain ⟨rfl, h', tk, rfl, ⟨es, ep, t, g1, g2⟩, hk⟩ := hr2
            repeat (any_goals (first | assumption | wp_step))
            exact h _ _ _ _ _ g1 g2 hk
          | _ => exact hr2.elim
    | _ => exact hr.elim
end
end L2
namespace L2
open PySem PySem.Spec PyProof.Rows
def TSetO (P : Program) (w : World) (a : Addr) (ys : List Str) : HO := .ext fun h => ∃ es ep t, h.get? a = some (setObj es ep t) ∧ TxtTab P w es t ys
theorem TSetO.ok {P : Program} {w : World} {H : Hp} {h : Heap} {a : Addr} {ys : List Str} {es : Array (Int × Value)} {ep : Nat} {t : SetTable} (e : h.get? a = some (setObj es ep t)) (T : TxtTab P w es t ys) : ObjOk P w H h a (TSetO P w a ys) :=
  ⟨⟨es, ep, t, e, T⟩, ⟨_, e⟩, fun h1 h2 ⟨es, ep, t, q, T⟩ k => ⟨es, ep, t, k _ q, T⟩⟩
theorem strs_of : ∀ {ys : List Str} {its : List Value}, Vals (ys.map V.str) its → StrsAre its ys
  | [], _, .nil => .nil
  | y :: ys, _, .cons r t => by
    obtain ⟨k, rfl⟩ := r
    exact .cons y k (strs_of t)
theorem of_strs : ∀ {ys : List Str} {its : List Value}, StrsAre its ys → Vals (ys.map V.str) its
  | _, _, .nil => .nil
  | _, _, .cons x t r => .cons ⟨t, rfl⟩ (of_strs r)
theorem few_of {zs ds : List Str} (h : zs.Nodup) (k : ∀ x ∈ zs, x ∈ ds) : zs.length ≤ ds.length := by
  induction zs generalizing ds with
  | nil => exact Nat.zero_le _
  | cons x r ih =>
    have hx := k x List.mem_cons_self
    have h' := List.nodup_cons.mp h
    have := ih (ds := ds.erase x) h'.2 fun y hy => (List.mem_erase_of_ne (by rintro rfl; exact h'.1 hy)).mpr (k y (List.mem_cons_of_mem _ hy))
    rw [List.length_erase_of_mem hx] at this
    have : 0 < ds.length := List.length_pos_of_mem hx
    simp only [List.length_cons]
    omega
section
variable {X : Cx}
theorem Inv.redrawn {pins : List (Addr × Obj)} {σ : St} {H : Hp} {s s' : Shared} (I : Inv X pins σ H { s with heap := s'.heap }) (hg : s'.gens = s.gens) (ho : s'.os = s.os) : Inv X pins σ H s' :=
  ⟨I.ok, ho.trans I.os, by rw [hg]; exact I.bare, I.base, I.loc, I.cell, I.free, I.freeC, I.pin, I.hok, I.len⟩
theorem call_set_of (hc : X.calm = true) : CallR X (.type "set") (fun xs H Q => ∃ p ys, xs = [.ref p] ∧ SqL X.K H p (ys.map V.str) ∧ ys.length < 4000 ∧ ∀ l, H l = none → Q (.ref l) (upd H l (TSetO X.prog X.w l ys))) := by
  intro pins s σ H xs us Q I r h
  obtain ⟨p, ys, rfl, hq, hz, q⟩ := h
  obtain ⟨u, rfl, rx⟩ := vals1 r
  cases rx
  obtain ⟨its, r', pl, _⟩ := I.list hq
  have hlen := r'.length
  rw [List.length_map] at hlen
  refine call_set_txt (I.ok.hd hc) pl.isList (zs := ys) (by simpa using strs_of r') (by simp only [List.size_toArray]; unfold scanBound; omega) fun h' tk es ep t e T k => ?_
  have kp : ∀ b o, s.heap.get? b = some o → h'.get? b = some o := fun b o q => k b o (Heap.lt_size q) q
  exact ⟨.ref s.heap.objs.size, _, I.laid (t' := tk) kp (Nat.le_refl _) (TSetO.ok e T), rfl, q _ (I.hok.fresh (Nat.le_refl _))⟩
end
end L2
namespace L2
open PySem
section
variable {P : Program} {w : World} {A : Around} {E : Value → Shared → Prop} {s : Shared}
end
end L2
namespace L2
open PySem PySem.Spec PyProof.Rows
section
variable {X : Cx}
end
end L2
namespace L2
open PySem PySem.Spec PyProof.Rows
theorem comp_tup {K : PySem.W.Frag} {a : Addr} {xs : List V} {g : TG} {tt : TT} {te : TE} {Fin : List V → Hp → Prop} {σ : St} {H : Hp} (Pv : Nat → List V → St → Hp → Prop) (h0 : Pv 0 [] σ H) (hz : ∀ i ys σ H, i ≤ xs.length → Pv i ys σ H → ys.length ≤ i) (hx : xs.length ≤ sizeLine) (hl : ∀ i ys σ H, Pv i ys σ H → SqT K H a xs)
    (hs : ∀ i x ys σ H, xs[i]? = some x → Pv i ys σ H → g x σ H fun σ2 H2 => tt σ2 H2 fun b H3 => if b = true then te σ2 H3 fun y H4 => Pv (i + 1) (ys ++ [y]) σ2 H4 else Pv (i + 1) ys σ2 H3)
    (hd : ∀ ys σ H, Pv xs.length ys σ H → Fin ys H) : ∃ W : Nat → Nat → List V → St → Hp → Prop, (∃ m, W 0 m [] σ H) ∧ CompTurns (Itt K a) g tt te Fin W := by
  refine ⟨fun i m ys σ H => m = xs.length - i ∧ i ≤ xs.length ∧ Pv i ys σ H, ⟨_, rfl, Nat.zero_le _, h0⟩, ?_⟩
  rintro i m ys σ H ⟨rfl, hi, p⟩
  have few := hz i ys σ H hi p
  have q := hl i ys σ H p
  by_cases lt : i < xs.length
  · refine .inr ⟨⟨xs, xs[i], q, by simp [lt]⟩, by omega, Pv (i + 1), fun ys' σ' H' p' => ⟨_, by omega, rfl, lt, p'⟩, fun v H' y => ?_⟩
    obtain ⟨e, y⟩ := y
    subst e
    exact hs i v ys σ _ (y xs q) p
  · obtain rfl : i = xs.length := by omega
    exact .inl ⟨⟨xs, q, Nat.le_refl _⟩, by omega, hd ys σ H p⟩
theorem ifYes {b : Bool} {A B : Prop} (h : b = true) (x : A) : if b = true then A else B := by rw [if_pos h]; exact x
theorem ifNo {b : Bool} {A B : Prop} (h : b = false) (x : B) : if b = true then A else B := by rw [if_neg (by rw [h]; decide)]; exact x
end L2
namespace L2
open PySem PySem.Spec PyProof.Rows
theorem call_isTK {X : Cx} {K : PySem.W.Frag} (e : X.K = K) : CallR X (.builtin "isinstance") (fun xs H Q => ∃ x t T b, xs = [x, .ty T] ∧ TyOf K H x t ∧ PySem.W.kitOne K t (.type T) = some b ∧ Q (.bl b) H) := by
  subst e
  exact call_isT
end L2
namespace Tr
open PySem PySem.Spec PyProof.Rows L2
set_option linter.all false
inductive Val
  | num (n : Int)
  | nm (x : Str)
inductive Deed
  | set (x : Str) (a : Val) (sg : Str) (b : Val)
  | put (q x : Str)
  | get (q x : Str)
  | give (x : Str)
  | cond (x : Str) (t o : List Deed)
  | whl (x : Str) (b : List Deed)
  | rep (n : Int) (b : List Deed)
def Val.names : Val → List Str
  | .num _ => []
  | .nm x => [x]
def Deed.names : Deed → List Str
  | .set x a _ b => x :: (a.names ++ b.names)
  | .put _ x | .get _ x | .give x | .cond x _ _ | .whl x _ => [x]
  | .rep _ _ => []
def Deed.inner : Deed → List (List Deed)
  | .cond _ t o => [t, o]
  | .whl _ b | .rep _ b => [b]
  | _ => []
mutual
def Deed.flat : Deed → List Deed
  | .cond x t o => .cond x t o :: (flats t ++ flats o)
  | .whl x b => .whl x b :: flats b
  | .rep n b => .rep n b :: flats b
  | .set x a sg b => [.set x a sg b]
  | .put q x => [.put q x]
  | .get q x => [.get q x]
  | .give x => [.give x]
def flats : List Deed → List Deed
  | [] => []
  | d :: r => d.flat ++ flats r
end
mutual
def Deed.depth : Deed → Nat
  | .cond _ t o => max (depths t) (depths o) + 1
  | .whl _ b => depths b + 1
  | .rep _ b => depths b + 1
  | _ => 0
def depths : List Deed → Nat
  | [] => 0
  | d :: r => max d.depth (depths r)
end
theorem flats_append : ∀ (a b : List Deed), flats (a ++ b) = flats a ++ flats b
  | [], b => rfl
  | d :: a, b => by rw [List.cons_append, flats, flats, flats_append a b, List.append_assoc]
theorem depths_append : ∀ (a b : List Deed), depths (a ++ b) = max (depths a) (depths b)
  | [], b => by rw [List.nil_append, depths, Nat.zero_max]
  | d :: a, b => by rw [List.cons_append, depths, depths, depths_append a b, Nat.max_assoc]
theorem flat_inner (d : Deed) : d.flat = d :: d.inner.flatMap flats := by
  cases d <;> simp [Deed.flat, Deed.inner]
inductive Op
  | root
  | ifT (x : Str)
  | ifO (x : Str) (t : List Deed)
  | whl (x : Str)
  | rep (n : Int)
structure Fr where
  op : Op
  ds : List Deed
  shut : Bool
  times : Int
def Fr.deed (f : Fr) : Deed := match f.op with
  | .root => .rep 0 f.ds
  | .ifT x => .cond x f.ds []
  | .ifO x t => .cond x t f.ds
  | .whl x => .whl x f.ds
  | .rep n => .rep n f.ds
def Op.one : Op → Nat
  | .root => 0
  | _ => 1
def kws : List Str := ["ask", "store", "put", "get", "give", "if", "else", "while", "repeat", "end"]
def st0 : List Fr := [⟨.root, [], false, 1⟩]
def Val.v : Val → V
  | .num n => .int n
  | .nm x => .str x
mutual
inductive RD (H : Hp) : V → Deed → Prop
  | set {p : Addr} {x : Str} {a : Val} {sg : Str} {b : Val} : H p = some (.tup [.str "set", .str x, a.v, .str sg, b.v]) → RD H (.ref p) (.set x a sg b)
  | put {p : Addr} {q x : Str} : H p = some (.tup [.str "put", .str q, .str x]) → RD H (.ref p) (.put q x)
  | get {p : Addr} {q x : Str} : H p = some (.tup [.str "get", .str q, .str x]) → RD H (.ref p) (.get q x)
  | give {p : Addr} {x : Str} : H p = some (.tup [.str "give", .str x]) → RD H (.ref p) (.give x)
  | cond {p t o : Addr} {x : Str} {ts os : List Deed} : H p = some (.tup [.str "if", .str x, .ref t, .ref o]) → RL H t ts → RL H o os → RD H (.ref p) (.cond x ts os)
  | whl {p b : Addr} {x : Str} {bs : List Deed} : H p = some (.tup [.str "while", .str x, .ref b]) → RL H b bs → RD H (.ref p) (.whl x bs)
  | rep {p b : Addr} {n : Int} {bs : List Deed} : H p = some (.tup [.str "repeat", .int n, .ref b]) → RL H b bs → RD H (.ref p) (.rep n bs)
inductive RL (H : Hp) : Addr → List Deed → Prop
  | mk {l : Addr} {vs : List V} {ds : List Deed} : H l = some (.lst vs) → RDs H vs ds → RL H l ds
inductive RDs (H : Hp) : List V → List Deed → Prop
  | nil : RDs H [] []
  | cons {v : V} {vs : List V} {d : Deed} {ds : List Deed} : RD H v d → RDs H vs ds → RDs H (v :: vs) (d :: ds)
end
mutual
theorem RD.same {H H' : Hp} (e : Same H H') : ∀ {v : V} {d : Deed}, RD H v d → RD H' v d
  | _, _, .set h => .set (e _ _ h)
  | _, _, .put h => .put (e _ _ h)
  | _, _, .get h => .get (e _ _ h)
  | _, _, .give h => .give (e _ _ h)
  | _, _, .cond h a b => .cond (e _ _ h) (RL.same e a) (RL.same e b)
  | _, _, .whl h a => .whl (e _ _ h) (RL.same e a)
  | _, _, .rep h a => .rep (e _ _ h) (RL.same e a)
theorem RL.same {H H' : Hp} (e : Same H H') : ∀ {l : Addr} {ds : List Deed}, RL H l ds → RL H' l ds
  | _, _, .mk h a => .mk (e _ _ h) (RDs.same e a)
theorem RDs.same {H H' : Hp} (e : Same H H') : ∀ {vs : List V} {ds : List Deed}, RDs H vs ds → RDs H' vs ds
  | _, _, .nil => .nil
  | _, _, .cons a b => .cons (RD.same e a) (RDs.same e b)
end
theorem RDs.app {H : Hp} : ∀ {us vs : List V} {a b : List Deed}, RDs H us a → RDs H vs b → RDs H (us ++ vs) (a ++ b)
  | _, _, _, _, .nil, h => h
  | _, _, _, _, .cons x r, h => .cons x (RDs.app r h)
theorem RDs.len {H : Hp} : ∀ {vs : List V} {ds : List Deed}, RDs H vs ds → vs.length = ds.length
  | _, _, .nil => rfl
  | _, _, .cons _ r => by rw [List.length_cons, List.length_cons, RDs.len r]
theorem RDs.at {H : Hp} : ∀ {vs : List V} {ds : List Deed}, RDs H vs ds → ∀ (i : Nat) (v : V), vs[i]? = some v → ∃ d, ds[i]? = some d ∧ RD H v d
  | _, _, .nil, i, v, h => by simp at h
  | _, _, .cons x r, 0, v, h => by simp at h; subst h; exact ⟨_, rfl, x⟩
  | _, _, .cons x r, i + 1, v, h => by
    simp only [List.getElem?_cons_succ] at h ⊢
    exact RDs.at r i v h
mutual
def Deed.data : Deed → PyData
  | .set x a sg b => .tuple [.str "set", .str x, (match a with | .num n => .int n | .nm y => .str y), .str sg, (match b with | .num n => .int n | .nm y => .str y)]
  | .put q x => .tuple [.str "put", .str q, .str x]
  | .get q x => .tuple [.str "get", .str q, .str x]
  | .give x => .tuple [.str "give", .str x]
  | .cond x t o => .tuple [.str "if", .str x, .list (datas t), .list (datas o)]
  | .whl x b => .tuple [.str "while", .str x, .list (datas b)]
  | .rep n b => .tuple [.str "repeat", .int n, .list (datas b)]
def datas : List Deed → List PyData
  | [] => []
  | d :: r => d.data :: datas r
end
theorem val_dt {K : PySem.W.Frag} {H : Hp} : ∀ a : Val, Dt K H a.v (match a with | .num n => .int n | .nm y => .str y)
  | .num n => .int n
  | .nm x => .str x
mutual
theorem RD.dt {K : PySem.W.Frag} {H : Hp} : ∀ {v : V} {d : Deed}, RD H v d → Dt K H v d.data
  | _, _, .set (a := a) (b := b) h => .tup (SqT.of h) (.cons (.str _) (.cons (.str _) (.cons (val_dt a) (.cons (.str _) (.cons (val_dt b) .nil)))))
  | _, _, .put h => .tup (SqT.of h) (.cons (.str _) (.cons (.str _) (.cons (.str _) .nil)))
  | _, _, .get h => .tup (SqT.of h) (.cons (.str _) (.cons (.str _) (.cons (.str _) .nil)))
  | _, _, .give h => .tup (SqT.of h) (.cons (.str _) (.cons (.str _) .nil))
  | _, _, .cond h a b => .tup (SqT.of h) (.cons (.str _) (.cons (.str _) (.cons (RL.dt a) (.cons (RL.dt b) .nil))))
  | _, _, .whl h a => .tup (SqT.of h) (.cons (.str _) (.cons (.str _) (.cons (RL.dt a) .nil)))
  | _, _, .rep h a => .tup (SqT.of h) (.cons (.str _) (.cons (.int _) (.cons (RL.dt a) .nil)))
theorem RL.dt {K : PySem.W.Frag} {H : Hp} : ∀ {l : Addr} {ds : List Deed}, RL H l ds → Dt K H (.ref l) (.list (datas ds))
  | _, _, .mk h a => .lst (SqL.of h) (RDs.dt a)
theorem RDs.dt {K : PySem.W.Frag} {H : Hp} : ∀ {vs : List V} {ds : List Deed}, RDs H vs ds → DtAll K H vs (datas ds)
  | _, _, .nil => .nil
  | _, _, .cons a b => .cons (RD.dt a) (RDs.dt b)
end
inductive RLs (H : Hp) : List Addr → List (List Deed) → Prop
  | nil : RLs H [] []
  | cons {l : Addr} {ls : List Addr} {d : List Deed} {ds : List (List Deed)} : RL H l d → RLs H ls ds → RLs H (l :: ls) (d :: ds)
theorem RLs.same {H H' : Hp} (e : Same H H') : ∀ {ls : List Addr} {ds : List (List Deed)}, RLs H ls ds → RLs H' ls ds
  | _, _, .nil => .nil
  | _, _, .cons a b => .cons (RL.same e a) (RLs.same e b)
theorem RLs.len {H : Hp} : ∀ {ls : List Addr} {ds : List (List Deed)}, RLs H ls ds → ls.length = ds.length
  | _, _, .nil => rfl
  | _, _, .cons _ r => by rw [List.length_cons, List.length_cons, RLs.len r]
theorem RLs.at {H : Hp} : ∀ {ls : List Addr} {ds : List (List Deed)}, RLs H ls ds → ∀ (i : Nat) (l : Addr), ls[i]? = some l → ∃ d, ds[i]? = some d ∧ RL H l d
  | _, _, .nil, i, v, h => by simp at h
  | _, _, .cons x r, 0, v, h => by simp at h; subst h; exact ⟨_, rfl, x⟩
  | _, _, .cons x r, i + 1, v, h => by
    simp only [List.getElem?_cons_succ] at h ⊢
    exact RLs.at r i v h
theorem rising_le : ∀ (r : List Str) (x : Str), risingS x r = true → ∀ y ∈ r, x.cps.toList ≤ y.cps.toList
  | [], _, _, _, h => nomatch h
  | z :: r, x, h, y, hy => by
    have h' : (!ltCps z.cps.toList x.cps.toList && risingS z r) = true := h
    rw [Bool.and_eq_true, Bool.not_eq_true', ltCps_eq, decide_eq_false_iff_not] at h'
    have xz : x.cps.toList ≤ z.cps.toList := List.not_lt.mp h'.1
    rcases List.mem_cons.mp hy with rfl | hy
    · exact xz
    · exact List.le_trans xz (rising_le r z h'.2 y hy)
theorem rising_tail {x : Str} : ∀ {r : List Str}, risingS x r = true → sortedS r = true
  | [], _ => rfl
  | z :: r, h => by
    have h' : (!ltCps z.cps.toList x.cps.toList && risingS z r) = true := h
    exact (Bool.and_eq_true_iff.mp h').2
theorem str_of_list {x y : Str} (h : x.cps.toList = y.cps.toList) : x = y := PyProof.Rows.ext_toList h
theorem sorted_one : ∀ {a b : List Str}, a.Nodup → b.Nodup → sortedS a = true → sortedS b = true → (∀ k, k ∈ a ↔ k ∈ b) → a = b
  | [], [], _, _, _, _, _ => rfl
  | [], y :: s, _, _, _, _, h => absurd ((h y).mpr List.mem_cons_self) (by simp)
  | x :: r, [], _, _, _, _, h => absurd ((h x).mp List.mem_cons_self) (by simp)
  | x :: r, y :: s, ha, hb, sa, sb, h => by
    have ha' := List.nodup_cons.mp ha
    have hb' := List.nodup_cons.mp hb
    have e : x = y := by
      rcases List.mem_cons.mp ((h x).mp List.mem_cons_self) with e | hx
      · exact e
      rcases List.mem_cons.mp ((h y).mpr List.mem_cons_self) with e | hy
      · exact e.symm
      exact str_of_list (List.le_antisymm (rising_le r x sa y hy) (rising_le s y sb x hx))
    subst e
    rw [sorted_one ha'.2 hb'.2 (rising_tail sa) (rising_tail sb) fun k => ?_]
    constructor
    · intro hk
      rcases List.mem_cons.mp ((h k).mp (List.mem_cons_of_mem _ hk)) with e | z
      · subst e; exact absurd hk ha'.1
      · exact z
    · intro hk
      rcases List.mem_cons.mp ((h k).mpr (List.mem_cons_of_mem _ hk)) with e | z
      · subst e; exact absurd hk hb'.1
      · exact z
end Tr
namespace Tr
open PySem PySem.Spec PyProof.Rows L2
set_option linter.all false
theorem Same.over {H0 H : Hp} {f : Addr} {o : HO} (h : Same H0 H) (hf : H0 f = none) : Same H0 (upd H f o) := fun b u q => by
  rw [upd_ne (ne_of_none q hf)]
  exact h b u q
theorem Same.none {H0 H : Hp} {f : Addr} (h : Same H0 H) (hf : H f = none) : H0 f = none := by
  cases q : H0 f with
  | none => rfl
  | some o => rw [h _ _ q] at hf; cases hf
structure Fz where
  f : Fr
  c : Addr
  p : Addr
  e : Addr
def Fz.o (x : Fz) : V := match x.f.op with
  | .ifT _ => .ref x.e
  | _ => .non
def wh : List Fr → List Deed → List Deed
  | [], _ => []
  | [f], dt => f.ds ++ dt
  | f :: g :: r, dt => wh (g :: r) [({ f with ds := f.ds ++ dt } : Fr).deed]
section
variable {Hb H0 H H1 : Hp} {S s0 s1 s2 s3 : Addr} {z : List Fz}
end
end Tr
namespace Tr
open PySem PySem.Spec PyProof.Rows L2
set_option linter.all false
section
variable {Hb H0 H H1 : Hp} {S s0 s1 s2 s3 : Addr} {z : List Fz}
end
end Tr
namespace Tr
open PySem PySem.Spec PyProof.Rows L2
set_option linter.all false
section
variable {Hb H0 H H' : Hp} {S s0 s1 s2 s3 : Addr} {z : List Fz}
end
end Tr
namespace Tr
open PySem PySem.Spec PyProof.Rows L2
set_option linter.all false
section
variable {Hb H0 H H4 : Hp} {S s0 s1 s2 s3 : Addr}
end
end Tr
namespace Tr
open PySem PySem.Spec PyProof.Rows L2
set_option linter.all false
end Tr
namespace Tr
open L2
end Tr
namespace Tr
end Tr
namespace Tr
open PySem PySem.Spec PyProof.Rows L2
set_option linter.all false
def Deed.strs : Deed → List Str
  | .set x a sg b => x :: sg :: (a.names ++ b.names)
  | .put q x | .get q x => [q, x]
  | .give x | .cond x _ _ | .whl x _ => [x]
  | .rep _ _ => []
def Texts (D : List Str) (ds : List Deed) : Prop := ∀ d ∈ flats ds, ∀ s ∈ d.strs, s ∈ D
mutual
theorem lay_deed {D : List Str} (hD : ∀ s ∈ D, PyData.strOk s = true) : ∀ d : Deed, (∀ e ∈ d.flat, ∀ s ∈ e.strs, s ∈ D) → d.data.canLay0 = true
  | .set x a sg b, h => by
    have q : ∀ s ∈ (Deed.set x a sg b).strs, PyData.strOk s = true := fun s hs => hD s (h _ (by simp [Deed.flat]) s hs)
    cases a <;> cases b <;> simp [Deed.strs, Val.names] at q <;> simp [Deed.data, PyData.canLay0, PyData.canLayAll0, q] <;> decide +kernel
  | .put p x, h => by
    have q : ∀ s ∈ (Deed.put p x).strs, PyData.strOk s = true := fun s hs => hD s (h _ (by simp [Deed.flat]) s hs)
    simp [Deed.strs] at q
    simp [Deed.data, PyData.canLay0, PyData.canLayAll0, q]
    decide +kernel
  | .get p x, h => by
    have q : ∀ s ∈ (Deed.get p x).strs, PyData.strOk s = true := fun s hs => hD s (h _ (by simp [Deed.flat]) s hs)
    simp [Deed.strs] at q
    simp [Deed.data, PyData.canLay0, PyData.canLayAll0, q]
    decide +kernel
  | .give x, h => by
    have q : ∀ s ∈ (Deed.give x).strs, PyData.strOk s = true := fun s hs => hD s (h _ (by simp [Deed.flat]) s hs)
    simp [Deed.strs] at q
    simp [Deed.data, PyData.canLay0, PyData.canLayAll0, q]
    decide +kernel
  | .cond x t o, h => by
    have q : ∀ s ∈ (Deed.cond x t o).strs, PyData.strOk s = true := fun s hs => hD s (h _ (by simp [Deed.flat]) s hs)
    simp [Deed.strs] at q
    have h1 := lay_deeds hD t fun e he => h e (by simp [Deed.flat, he])
    have h2 := lay_deeds hD o fun e he => h e (by simp [Deed.flat, he])
    simp [Deed.data, PyData.canLay0, PyData.canLayAll0, q, h1, h2]
    decide +kernel
  | .whl x b, h => by
    have q : ∀ s ∈ (Deed.whl x b).strs, PyData.strOk s = true := fun s hs => hD s (h _ (by simp [Deed.flat]) s hs)
    simp [Deed.strs] at q
    have h1 := lay_deeds hD b fun e he => h e (by simp [Deed.flat, he])
    simp [Deed.data, PyData.canLay0, PyData.canLayAll0, q, h1]
    decide +kernel
  | .rep n b, h => by
    have h1 := lay_deeds hD b fun e he => h e (by simp [Deed.flat, he])
    simp [Deed.data, PyData.canLay0, PyData.canLayAll0, h1]
    decide +kernel
theorem lay_deeds {D : List Str} (hD : ∀ s ∈ D, PyData.strOk s = true) : ∀ ds : List Deed, (∀ e ∈ flats ds, ∀ s ∈ e.strs, s ∈ D) → PyData.canLayAll0 (datas ds) = true
  | [], _ => by simp [datas, PyData.canLayAll0]
  | d :: r, h => by
    have h1 := lay_deed hD d fun e he => h e (by simp [flats, he])
    have h2 := lay_deeds hD r fun e he => h e (by simp [flats, he])
    simp [datas, PyData.canLayAll0, h1, h2]
end
mutual
theorem depth_deed : ∀ d : Deed, d.data.depth ≤ 2 * d.depth + 1
  | .set x a sg b => by cases a <;> cases b <;> simp [Deed.data, PyData.depth, PyData.depthAll]
  | .put p x => by simp [Deed.data, PyData.depth, PyData.depthAll]
  | .get p x => by simp [Deed.data, PyData.depth, PyData.depthAll]
  | .give x => by simp [Deed.data, PyData.depth, PyData.depthAll]
  | .cond x t o => by
    have h1 := depth_deeds t
    have h2 := depth_deeds o
    simp [Deed.data, PyData.depth, PyData.depthAll, Deed.depth]
    omega
  | .whl x b => by
    have h1 := depth_deeds b
    simp [Deed.data, PyData.depth, PyData.depthAll, Deed.depth]
    omega
  | .rep n b => by
    have h1 := depth_deeds b
    simp [Deed.data, PyData.depth, PyData.depthAll, Deed.depth]
    omega
theorem depth_deeds : ∀ ds : List Deed, PyData.depthAll (datas ds) ≤ 2 * depths ds + 1
  | [] => by simp [datas, PyData.depthAll]
  | d :: r => by
    have h1 := depth_deed d
    have h2 := depth_deeds r
    simp [datas, PyData.depthAll, depths]
    omega
end
end Tr
namespace Tr
open PySem PySem.Spec PyProof.Rows L2
set_option linter.all false
def Low (x : Str) : Prop := ∀ c ∈ x.cps.toList, c < 128
theorem Low.app {x y : Str} (h1 : Low x) (h2 : Low y) : Low (x ++ y) := fun c hc => by
  have e : (x ++ y).cps.toList = x.cps.toList ++ y.cps.toList := by
    show (x.cps ++ y.cps).toList = _
    simp
  rw [e, List.mem_append] at hc
  exact hc.elim (h1 c) (h2 c)
theorem low_ok {w : Str} (h : Low w) : PyData.strOk w = true := by
  unfold PyData.strOk
  rw [← Array.all_toList, List.all_eq_true]
  intro c hc
  have := h c hc
  simp
  omega
end Tr
namespace L2
open PySem PySem.Spec PyProof.Rows
theorem comp_list0 {K : PySem.W.Frag} {a : Addr} {xs : List V} {g : TG} {te : TE} {Fin : List V → Hp → Prop} {σ : St} {H : Hp} (Pv : Nat → List V → St → Hp → Prop) (h0 : Pv 0 [] σ H) (hz : ∀ i ys σ H, i ≤ xs.length → Pv i ys σ H → ys.length ≤ i) (hx : xs.length ≤ sizeLine) (hl : ∀ i ys σ H, Pv i ys σ H → SqL K H a xs)
    (hs : ∀ i x ys σ H, xs[i]? = some x → Pv i ys σ H → g x σ H fun σ2 H2 => te σ2 H2 fun y H4 => Pv (i + 1) (ys ++ [y]) σ2 H4)
    (hd : ∀ ys σ H, Pv xs.length ys σ H → Fin ys H) : ∃ W : Nat → Nat → List V → St → Hp → Prop, (∃ m, W 0 m [] σ H) ∧ CompTurns (Itl K a) g tYes te Fin W :=
  comp_list Pv h0 hz hx hl (fun i x ys σ H hx p => by
    rw [yes_eq (N' := fun _ _ _ => True)]
    exact hs i x ys σ H hx p) hd
end L2
namespace Tr
open PySem PySem.Spec PyProof.Rows L2
inductive RSs (H : Hp) : List V → List (Str × Int) → Prop
  | nil : RSs H [] []
  | cons {p : Addr} {vs : List V} {q : Str} {n : Int} {ss : List (Str × Int)} : H p = some (.tup [.str q, .int n]) → RSs H vs ss → RSs H (.ref p :: vs) ((q, n) :: ss)
theorem RSs.same {H H' : Hp} (e : Same H H') : ∀ {vs : List V} {ss : List (Str × Int)}, RSs H vs ss → RSs H' vs ss
  | _, _, .nil => .nil
  | _, _, .cons h r => .cons (e _ _ h) (RSs.same e r)
def storeD (s : Str × Int) : PyData := .tuple [.str s.1, .int s.2]
theorem RSs.dt {K : PySem.W.Frag} {H : Hp} : ∀ {vs : List V} {ss : List (Str × Int)}, RSs H vs ss → DtAll K H vs (ss.map storeD)
  | _, _, .nil => .nil
  | _, _, .cons h r => .cons (.tup (SqT.of h) (.cons (.str _) (.cons (.int _) .nil))) (RSs.dt r)
theorem strs_dt {K : PySem.W.Frag} {H : Hp} : ∀ xs : List Str, DtAll K H (xs.map V.str) (xs.map PyData.str)
  | [] => .nil
  | x :: r => .cons (.str x) (strs_dt r)
def progD (asks : List Str) (ss : List (Str × Int)) (ds : List Deed) : PyData := .tuple [.list (asks.map PyData.str), .list (ss.map storeD), .list (datas ds)]
theorem lay_strs : ∀ xs : List Str, (∀ s ∈ xs, PyData.strOk s = true) → PyData.canLayAll0 (xs.map PyData.str) = true ∧ PyData.depthAll (xs.map PyData.str) ≤ 1
  | [], _ => by simp [PyData.canLayAll0, PyData.depthAll]
  | x :: r, h => by
    have h1 := h x List.mem_cons_self
    have h2 := lay_strs r fun s hs => h s (List.mem_cons_of_mem _ hs)
    simp [PyData.canLayAll0, PyData.canLay0, PyData.depthAll, PyData.depth, h1, h2]
structure RP (H : Hp) (p : Addr) (asks : List Str) (ss : List (Str × Int)) (ds : List Deed) (la ls lb : Addr) (us : List V) : Prop where
  top : H p = some (.tup [.ref la, .ref ls, .ref lb])
  as : H la = some (.lst (asks.map V.str))
  st : H ls = some (.lst us)
  ro : RSs H us ss
  bo : RL H lb ds
theorem RP.dt3 {K : PySem.W.Frag} {H : Hp} {p : Addr} {asks : List Str} {ss : List (Str × Int)} {ds : List Deed} {la ls lb : Addr} {us : List V} (h : RP H p asks ss ds la ls lb us) : DtAll K H [.ref la, .ref ls, .ref lb] [.list (asks.map PyData.str), .list (ss.map storeD), .list (datas ds)] :=
  .cons (.lst (SqL.of h.as) (strs_dt _)) (.cons (.lst (SqL.of h.st) h.ro.dt) (.cons (RL.dt h.bo) .nil))
theorem RP.dt {K : PySem.W.Frag} {H : Hp} {p : Addr} {asks : List Str} {ss : List (Str × Int)} {ds : List Deed} {la ls lb : Addr} {us : List V} (h : RP H p asks ss ds la ls lb us) : Dt K H (.ref p) (progD asks ss ds) := .tup (SqT.of h.top) h.dt3
end Tr
namespace L2
open PySem
section
variable {P : Program} {w : World} {A : Around} {E : Value → Shared → Prop} {s : Shared}
theorem txt_key {es : Array (Int × Value)} {t : SetTable} {ys : List Str} (T : TxtTab P w es t ys) {e : Int × Value} (he : e ∈ es.toList) : ∃ k tk, e = (hashStr w k, .str k tk) ∧ k ∈ ys := by
  obtain ⟨⟨k, hk, hh⟩, _⟩ := T.el e he
  obtain ⟨tk, e2⟩ := Value.isStrOf_shape hk
  refine ⟨k, tk, Prod.ext hh e2, (T.mem k).mp (List.mem_map.mpr ⟨e, he, is_txt hk⟩)⟩
theorem quiet_txt {sets : List Addr} {Q : Bool → Shared → Prop} (h : ∀ b ∈ sets, ∃ es ep t ys, s.heap.get? b = some (setObj es ep t) ∧ TxtTab P w es t ys) (q : Q true s) : wpAny (model P w) A (setsQuiet sets) Q E s := by
  unfold setsQuiet
  refine wpAny_bind (wpAny_forIn_list _ (fun rest b s' => b.1 = none ∧ s = s' ∧ ∀ x ∈ rest, x ∈ sets) _ ?_ ?_ sets _ ⟨rfl, rfl, fun _ h => h⟩)
  · rintro x rest b s' ⟨hb, rfl, hm⟩
    obtain ⟨es, ep, t, ys, ho, T⟩ := h x (hm x List.mem_cons_self)
    refine wpAny_bind (set_entries ho T.fit ?_)
    refine wpAny_bind (PySem.wpAny_forIn_array' _ (fun rest b s' => b.1 = none ∧ s = s' ∧ ∀ e ∈ rest, e ∈ es.toList) _ ?_ ?_ es _ ⟨rfl, rfl, fun _ h => h⟩)
    · rintro e rest2 b2 s2 ⟨hb2, rfl, hm2⟩
      obtain ⟨k, tk, rfl, _⟩ := txt_key T (hm2 e List.mem_cons_self)
      refine wpAny_pure ⟨rfl, rfl, fun z hz => hm2 z (List.mem_cons_of_mem _ hz)⟩
    · rintro ⟨b1, b2⟩ s2 ⟨hb2, rfl, _⟩
      dsimp only at hb2
      subst hb2
      refine wpAny_pure ⟨rfl, rfl, fun z hz => hm z (List.mem_cons_of_mem _ hz)⟩
  · rintro ⟨b1, b2⟩ s2 ⟨hb2, rfl, _⟩
    dsimp only at hb2
    subst hb2
    exact wpAny_pure q
theorem walk_plain {a : Addr} {es : Array (Int × Value)} {ep : Nat} {t : SetTable} {ys : List Str} {Q : Array (Int × Value) → Shared → Prop} (hs : s.heap.get? a = some (setObj es ep t)) (T : TxtTab P w es t ys)
    (h : ∀ arr d, arr.toList.Perm es.toList → Q arr { s with drawn := d }) : wpAny (model P w) A (setWalk a) Q E s := by
  unfold setWalk
  refine wpAny_bind (wpAny_setState_of hs rfl T.fit ?_)
  dsimp only
  refine wpAny_bind (by_text ?_)
  by_cases hb : w.params.followText "set-order" = true
  · rw [if_pos hb]
    exact wpAny_bind (wpAny_askSetting (wpAny_pure (h _ s.drawn (pick_perm _ es))))
  · rw [if_neg hb]
    show wpAny _ _ (if (!t.plain && decide (es.size > 1)) = true then _ else _) _ _ _
    split
    · refine wpAny_bind (draw_all es.size es.toList s _ (by simp) fun zs d hp => wpAny_pure ?_)
      exact h _ d (by simpa using hp)
    · have hl : t.led = true := by rw [T.led]; simpa using hb
      show wpAny _ _ ((if (!t.led && decide (es.size > 1)) = true then _ else _) >>= _) _ _ _
      rw [hl]
      refine wpAny_bind ?_
      simp only [Bool.not_true, Bool.false_and, Bool.false_eq_true, if_false]
      exact wpAny_pure (wpAny_pure (h es s.drawn (.refl _)))
end
end L2
namespace L2
open PySem
section
variable {P : Program} {w : World} {A : Around} {E : Value → Shared → Prop} {s : Shared}
theorem any_set {v : Value} {Q : Bool → Shared → Prop} (ty : s.TypeIs v "set") (h : Q true s) : wpAny (model P w) A (Builtin.Frozenset.isAnySet v) Q E s := by
  unfold Builtin.Frozenset.isAnySet
  exact wpAny_bind (wpAny_isInstance (b := true) ty set_sub_self (wpAny_pure h))
set_option maxHeartbeats 3200000 in
end
end L2
namespace L2
open PySem PySem.Spec PyProof.Rows
section
variable {X : Cx}
end
end L2
namespace L2
open PySem PySem.Spec PyProof.Rows
section
variable {X : Cx}
end
end L2
namespace L2
open PySem PySem.Spec PyProof.Rows
def Ite (K : PySem.W.Frag) (l : Addr) : It :=
  ⟨fun i H => ∃ xs x, SqL K H l xs ∧ xs[i]? = some x,
   fun i H v H' => ∃ p x, H p = none ∧ v = .ref p ∧ H' = upd H p (.tup [.int i, x]) ∧ ∀ xs, SqL K H l xs → xs[i]? = some x,
   fun i H => ∃ xs, SqL K H l xs ∧ xs.length ≤ i⟩
theorem turn_enum {P : Program} {w : World} {K : PySem.W.Frag} {elts : List Expr} {kk : Nat} {tp : Pos} (e it l : Addr) (ne : e ≠ it) :
    Turn P w K (.Tuple elts kk tp) (Ite K l) [e, it] e (fun i h => (∃ old, IsEnum h e it i old) ∧ h.IsListIter it l i) where
  mem := by simp
  obj := fun i h st b hb => by
    obtain ⟨⟨old, he⟩, o, eo, c, d⟩ := st
    simp only [List.mem_cons, List.not_mem_nil, or_false] at hb
    rcases hb with rfl | rfl
    · exact ⟨_, he, fun v q => by cases q⟩
    · exact ⟨o, eo, fun v q => by rw [d] at q; cases q⟩
  keep := fun i h h' st k => by
    obtain ⟨⟨old, he⟩, o, eo, r⟩ := st
    exact ⟨⟨old, k e (by simp) _ he⟩, o, k it (by simp) o eo, r⟩
  item := by
    intro X hP hw hK hc i pins s σ H E I hf st hg
    subst hP hw hK
    obtain ⟨⟨old, he⟩, hit⟩ := st
    obtain ⟨xs, x, hx, ex⟩ := hg
    obtain ⟨its, rv, pl, z1⟩ := I.list hx
    obtain ⟨u, hu, ru⟩ := rv.get ex
    refine wpAny_pyNext_enum_item he hit pl.isList (x := u) (by simpa using hu) ne fun g a1 a2 a3 a4 a5 => ⟨_, rfl, ?_⟩
    refine wpAny_letOwnedTupleGo_enum a1 fun g' a1' sb => ?_
    have hT : ∀ b ∈ [e, it], s.heap.objs.size ≠ b := fun b hb => by
      simp only [List.mem_cons, List.not_mem_nil, or_false] at hb
      rcases hb with rfl | rfl
      · exact Nat.ne_of_gt (Heap.lt_size he)
      · obtain ⟨o, eo, _⟩ := hit
        exact Nat.ne_of_gt (Heap.lt_size eo)
    have ky : ∀ b o, b ∉ [e, it] → s.heap.get? b = some o → g'.get? b = some o := fun b o hb q => by
      simp only [List.mem_cons, List.not_mem_nil, or_false, not_or] at hb
      exact sb.extBut _ _ hb.1 (a5 b o hb.1 hb.2 q)
    have I1 : Inv X pins σ H { s with heap := g', toks := s.toks + 1 } := I.turnedL (t' := s.toks + 1) ky hf
    have pT := sb.extBut _ _ (hT e (by simp)) a3
    have fT : FpOk X pins H s.heap.objs.size := I.fpOk (Nat.le_refl _) (I.hok.fresh (Nat.le_refl _))
    have I2 : Inv X pins σ (upd H s.heap.objs.size (.tup [.int i, x])) { s with heap := g', toks := s.toks + 1 } := I1.track fT I.sz ⟨by show 2 ≤ sizeLine; decide, [.int i s.toks, u], .cons ⟨_, rfl⟩ (.cons ru .nil), ⟨_, pT, rfl, _, rfl⟩⟩
    refine ⟨.ref s.heap.objs.size, _, I2, rfl, ⟨_, x, I.hok.fresh (Nat.le_refl _), rfl, rfl, fun xs' h => by rw [I.list_inj h hx]; exact ex⟩, ⟨⟨u, a1'⟩, ?_⟩, fun b hb => ?_⟩
    · obtain ⟨o, eo, r⟩ := a2
      exact ⟨o, sb.extBut _ _ (Ne.symm ne) eo, r⟩
    · rw [upd_ne (Ne.symm (hT b hb))]
      exact (hf b hb).1
  done := by
    intro X hP hw hK hc i pins s σ H E I hf st hg
    subst hP hw hK
    obtain ⟨⟨old, he⟩, hit⟩ := st
    obtain ⟨xs, hx, hend⟩ := hg
    obtain ⟨its, rv, pl, z1⟩ := I.list hx
    have e1 := rv.length
    refine wpAny_pyNext_enum_end (I.ok.hd hc) he hit pl.isList (by simp; omega) fun g k => ⟨rfl, I.turnedL (t' := s.toks) (ch := [e, it]) (fun b o hb q => ?_) hf⟩
    simp only [List.mem_cons, List.not_mem_nil, or_false, not_or] at hb
    exact k b o hb.2 q
  self := fun _ _ _ _ _ st h => by
    obtain ⟨⟨old, he⟩, _⟩ := st
    exact wpAny_pyIter_enum he h
section
variable {X : Cx}
def iEnum (K : PySem.W.Frag) (ta : TA) : TI := fun σ H R => ta σ H fun vs H1 => ∃ l xs, vs = [.ref l] ∧ SqL K H1 l xs ∧ R (Ite K l) H1
theorem pi_enum {a : Expr} {ta : TA} {p pos tp : Pos} {elts : List Expr} {kk : Nat} (hg : Gl X "enumerate") (hm : X.mg "enumerate" = none) (ha : PA X [a] ta) (hs : starEach [a] X.env = [(false, eval a X.env)] := by rfl) :
    PI X (.Tuple elts kk tp) (.Call (.Name "enumerate" p) [a] [] pos) (iEnum X.K ta) := by
  intro pins s σ H R I h
  refine Call_ (ld_blt I hg hm PyProof.Rows.Boot.«enumerate» (PyProof.Rows.callWith_type1 (thn (ha pos pins s σ H _ I h) fun us s1 ⟨vs, H1, I1, r1, q1⟩ => ?_) (by rw [hs]; rfl) (by rfl)))
  obtain ⟨l, xs, rfl, hx, q⟩ := q1
  obtain ⟨u, rfl, ru⟩ := vals1 r1
  cases ru
  obtain ⟨its, rv, pl, z1⟩ := I1.list hx
  refine call_enumerate_list pl.isList fun g a1 a2 a3 k => ?_
  refine wpAny_pyIter_enum a1 ⟨s1.heap.objs.size + 1, [s1.heap.objs.size + 1, s1.heap.objs.size], _, _, H1, rfl, I1.kept (t' := s1.toks) k, turn_enum _ _ l (Nat.succ_ne_self _), ⟨⟨_, a1⟩, a2⟩, fun b hb => ?_, q⟩
  simp only [List.mem_cons, List.not_mem_nil, or_false] at hb
  rcases hb with rfl | rfl
  · exact I1.fpOk (Nat.le_succ _) (I1.hok.fresh (Nat.le_succ _))
  · exact I1.fpOk (Nat.le_refl _) (I1.hok.fresh (Nat.le_refl _))
end
theorem for_enum {K : PySem.W.Frag} {l : Addr} {xs : List V} {g : TG} {tb : TS} {D : Ends} {σ : St} {H : Hp} (Pv : Nat → St → Hp → Prop) (h0 : Pv 0 σ H) (hl : ∀ i σ H, Pv i σ H → SqL K H l xs)
    (hs : ∀ i x σ H p, xs[i]? = some x → Pv i σ H → H p = none → g (.ref p) σ (upd H p (.tup [.int i, x])) fun σ2 H2 => tb { D with nx := Pv (i + 1), ct := Pv (i + 1), bk := D.nx } σ2 H2)
    (hd : ∀ σ H, Pv xs.length σ H → D.nx σ H) :
    ∃ W : Nat → Nat → St → Hp → Prop, (∃ m, W 0 m σ H) ∧ ∀ i m σ H, W i m σ H →
      ((Ite K l).stop i H ∧ D.nx σ H) ∨ ((Ite K l).go i H ∧ ∃ N : St → Hp → Prop, (∀ σ' H', N σ' H' → ∃ m', m' < m ∧ W (i + 1) m' σ' H') ∧ ∀ x H', (Ite K l).yld i H x H' → g x σ H' fun σ2 H2 => tb { D with nx := N, ct := N, bk := D.nx } σ2 H2) := by
  refine ⟨fun i m σ H => m = xs.length - i ∧ i ≤ xs.length ∧ Pv i σ H, ⟨_, rfl, Nat.zero_le _, h0⟩, ?_⟩
  rintro i m σ H ⟨rfl, hi, p⟩
  have q := hl i σ H p
  by_cases lt : i < xs.length
  · refine .inr ⟨⟨xs, xs[i], q, by simp [lt]⟩, Pv (i + 1), fun σ' H' p' => ⟨_, by omega, rfl, lt, p'⟩, fun v H' y => ?_⟩
    obtain ⟨a, x, hn, rfl, rfl, e1⟩ := y
    exact hs i x σ H a (e1 xs q) p hn
  · obtain rfl : i = xs.length := by omega
    exact .inl ⟨⟨xs, q, Nat.le_refl _⟩, hd σ H p⟩
end L2
namespace L2
theorem Room.one {n : Nat} {A : PySem.Around} (h : Room n A) : A.units + 1 < PySem.cLine := by
  have := h.units
  omega
theorem ix_tupK {X : Cx} {K : PySem.W.Frag} (e : X.K = K) : IxR X (rIxT K) := by
  subst e
  exact ix_tup
end L2
namespace Tr
open PySem PySem.Spec PyProof.Rows L2
structure Row where
  kind : Str
  owns : List Str
  reads : List Str
  into : Option Str
  outof : Option Str
end Tr
namespace Tr
open PySem PySem.Spec PyProof.Rows L2
end Tr
namespace Tr
open PySem PySem.Spec PyProof.Rows L2
def Deed.word : Deed → Str
  | .set .. => "set"
  | .put .. => "put"
  | .get .. => "get"
  | .give .. => "give"
  | .cond .. => "if"
  | .whl .. => "while"
  | .rep .. => "repeat"
end Tr
namespace Tr
open PySem PySem.Spec PyProof.Rows L2
end Tr
namespace L2
open PySem PySem.Spec PyProof.Rows
theorem ix_any {X : Cx} : IxR X (fun x y H Q => rIxL X.K x y H Q ∨ rIxT X.K x y H Q) := by
  intro value slice pins s σ H x y v u Q I rx ry h hs
  rcases h with h | h
  · exact ix_list value slice pins s σ H x y v u Q I rx ry h hs
  · exact ix_tup value slice pins s σ H x y v u Q I rx ry h hs
end L2
namespace Tr
open PySem PySem.Spec PyProof.Rows L2
end Tr
namespace Tr
open PySem PySem.Spec PyProof.Rows L2
def Deed.moves : Deed → List (Str × Str)
  | .put q _ => [("put", q)]
  | .get q _ => [("get", q)]
  | _ => []
end Tr
namespace Tr
open PySem PySem.Spec PyProof.Rows L2
end Tr
namespace Tr
open PySem PySem.Spec PyProof.Rows L2
end Tr
namespace Tr
open PySem PySem.Spec PyProof.Rows L2
end Tr
namespace Tr
open PySem PySem.Spec PyProof.Rows L2
end Tr
namespace Tr
open PySem PySem.Spec PyProof.Rows L2
end Tr
namespace Tr
open PySem PySem.Spec PyProof.Rows L2
end Tr
namespace Tr
open PySem
end Tr
namespace Tr
open PySem
structure Wt where
  g : Int
  e : Deed → Int
mutual
def Wt.d (w : Wt) : Deed → Int
  | .rep n b => w.g + n * (Wt.l w b + w.g)
  | .cond _ _ _ => w.g
  | .whl _ _ => w.g
  | .set x a sg b => w.e (.set x a sg b)
  | .put q x => w.e (.put q x)
  | .get q x => w.e (.get q x)
  | .give x => w.e (.give x)
def Wt.l (w : Wt) : List Deed → Int
  | [] => 0
  | d :: r => Wt.d w d + Wt.l w r
end
def Wt.m (w : Wt) : List Fr → Int
  | [] => 0
  | [f] => f.times * w.l f.ds
  | f :: g :: r => f.times * w.l f.ds + (g.times * w.g + match f.op with | .rep _ => f.times * w.g | _ => 0) + Wt.m w (g :: r)
end Tr
namespace Tr
open PySem PySem.Spec PyProof.Rows L2
end Tr
namespace L2
open PySem PySem.Spec PyProof.Rows
section
variable {X : Cx} {CX : CXT} {k : Nat} {f C : Addr} {fd : FuncData} {ps : List Str} {sp : Sp} {E : XK} {x m : Str} {p pos apos : Pos} {e o : Expr} {es : List Expr} {t : TA} {te ta : TE} {ds : List Value} {dvs : List V}
end
theorem putF_new {f : Str} {v : V} : ∀ {fs : List (Str × V)} (ks : List Str), fs.map (·.1) = ks → (ks.all fun g => !decide (g = f)) = true → putF f v fs = fs ++ [(f, v)]
  | [], _, _, _ => rfl
  | (g, x) :: r, ks, e, h => by
    subst e
    simp only [List.map_cons, List.all_cons, Bool.and_eq_true, Bool.not_eq_true', decide_eq_false_iff_not] at h
    rw [putF, if_neg h.1, putF_new (r.map (·.1)) rfl h.2]
    rfl
theorem lookup_hit {k : Str} {v : V} {r : List (Str × V)} : List.lookup k ((k, v) :: r) = some v := by simp [List.lookup]
theorem lookup_miss {k g : Str} {v : V} {r : List (Str × V)} (h : (k == g) = false) : List.lookup k ((g, v) :: r) = List.lookup k r := by simp [List.lookup, h]
end L2
namespace L2
open PySem PySem.Spec PyProof.Rows
theorem atI_pos {α : Type} {xs : List α} {i : Int} {v : α} (h : 0 ≤ i) (e : xs[i.toNat]? = some v) : atI xs i = some v := by
  have := atI_nat (xs := xs) (j := i.toNat) (v := v) e
  rwa [Int.toNat_of_nonneg h] at this
inductive AlB (H : Hp) : Nat → V → V → Prop
  | non (n : Nat) : AlB H n .non .non
  | bl (n : Nat) (x : Bool) : AlB H n (.bl x) (.bl x)
  | str (n : Nat) (x : Str) : AlB H n (.str x) (.str x)
  | int (n : Nat) (i : Int) : AlB H n (.int i) (.int i)
  | lst {n : Nat} {a b : Addr} {xs ys : List V} : H a = some (.lst xs) → H b = some (.lst ys) → xs.length = ys.length → xs.length ≤ 10000 → (∀ (i : Nat) (x y : V), xs[i]? = some x → ys[i]? = some y → AlB H n x y) → AlB H (n + 1) (.ref a) (.ref b)
  | tup {n : Nat} {a b : Addr} {xs ys : List V} : H a = some (.tup xs) → H b = some (.tup ys) → xs.length = ys.length → xs.length ≤ 10000 → (∀ (i : Nat) (x y : V), xs[i]? = some x → ys[i]? = some y → AlB H n x y) → AlB H (n + 1) (.ref a) (.ref b)
theorem AlB.ints {H : Hp} {n : Nat} (zs : List Int) : ∀ (i : Nat) (x y : V), (zs.map V.int)[i]? = some x → (zs.map V.int)[i]? = some y → AlB H n x y := fun i x y hx hy => by
  rw [hx] at hy
  cases hy
  rw [List.getElem?_map] at hx
  cases e : zs[i]? with
  | none => rw [e] at hx; cases hx
  | some z => rw [e] at hx; cases hx; exact .int _ z
end L2
namespace L2
open PySem PySem.Spec PyProof.Rows
end L2
namespace L2
open PySem PySem.Spec PyProof.Rows
section
variable {X : Cx}
end
end L2
namespace L2
open PySem PySem.Spec PyProof.Rows
section
variable {prog : Program} {w : World} {A : Around} {E : Value → Shared → Prop} {s : Shared}
end
end L2
namespace L2
open PySem PySem.Spec PyProof.Rows
section
variable {X : Cx} {pins : List (Addr × Obj)} {σ : St}
theorem track_pairs {H0 : Hp} {s0 s : Shared} (I0 : Inv X pins σ H0 s0) : ∀ (ts : List Addr) (ps : List (V × V)) (H : Hp), Inv X pins σ H s → ts.length = ps.length → ts.Pairwise (· < ·) → (∀ t ∈ ts, s0.heap.objs.size ≤ t ∧ H t = none) →
    (∀ (j : Nat) (t : Addr) (p : V × V), ts[j]? = some t → ps[j]? = some p → ∃ u v, RelV p.1 u ∧ RelV p.2 v ∧ IsPair s.heap t u v) →
    ∃ H', Inv X pins σ H' s ∧ Same H H' ∧ (∀ b, b ∉ ts → H' b = H b) ∧ ∀ (j : Nat) (t : Addr) (p : V × V), ts[j]? = some t → ps[j]? = some p → H' t = some (.tup [p.1, p.2])
  | [], _, H, I, _, _, _, _ => ⟨H, I, Same.refl _, fun _ _ => rfl, fun j t p h => by simp at h⟩
  | t :: ts, [], _, _, hl, _, _, _ => by simp at hl
  | t :: ts, p :: ps, H, I, hl, pw, fr, ob => by
    obtain ⟨u, v, ru, rv, pT⟩ := ob 0 t p rfl rfl
    obtain ⟨ht, hn⟩ := fr t List.mem_cons_self
    obtain ⟨pw1, pw2⟩ := List.pairwise_cons.mp pw
    have I2 : Inv X pins σ (upd H t (.tup [p.1, p.2])) s := I.track (I0.fpOk ht hn) (Nat.le_trans I0.sz ht) ⟨by show 2 ≤ sizeLine; decide, [u, v], .cons ru (.cons rv .nil), ⟨_, pT, rfl, _, rfl⟩⟩
    obtain ⟨H', I3, s3, o3, a3⟩ := track_pairs I0 ts ps _ I2 (by simpa using hl) pw2 (fun t' ht' => ⟨(fr t' (List.mem_cons_of_mem _ ht')).1, by rw [upd_ne (Nat.ne_of_gt (pw1 t' ht'))]; exact (fr t' (List.mem_cons_of_mem _ ht')).2⟩) fun j t' p' h1 h2 => ob (j + 1) t' p' (by simpa using h1) (by simpa using h2)
    refine ⟨H', I3, (Same.new hn _).trans s3, fun b hb => ?_, fun j t' p' h1 h2 => ?_⟩
    · have nb : b ≠ t := fun z => hb (by rw [z]; exact List.mem_cons_self)
      rw [o3 b fun z => hb (List.mem_cons_of_mem _ z), upd_ne nb]
    · cases j with
      | zero =>
        simp at h1 h2
        subst h1
        subst h2
        exact s3 _ _ upd_same
      | succ j => exact a3 j t' p' (by simpa using h1) (by simpa using h2)
end
end L2
namespace L2
open PySem PySem.Spec PyProof.Rows
end L2
namespace L2
open PySem PySem.Spec PyProof.Rows
section
variable {X : Cx} {pins : List (Addr × Obj)} {σ : St} {H : Hp} {s : Shared} {a : Addr} {kvs : List (Key × V)} {k : Key} {z : V} {u r : Value} {A : Around} {E : Value → Shared → Prop}
end
section
variable {X : Cx} {o e f : Expr} {apos cpos : Pos} {td ty tx : TE}
end
end L2
namespace L2
open PySem PySem.Spec PyProof.Rows
theorem lst_nokeys : typeLookup (.type "list") "keys" = pure none := by rw [typeLookup_type, builtinLookup_eq_fast]; kernel_rfl
section
variable {prog : Program} {w : World} {A : Around} {E : Value → Shared → Prop} {s : Shared}
theorem list_keys {a : Addr} {xs : Array Value} {k : Nat} {sl : Array (Option Value)} {Q : Option Value → Shared → Prop} (hA : A.handled = none) (hx : s.heap.get? a = some { cls := .type "list", dict := none, data := .seq xs k, slots := sl })
    (h : ∀ h' tk, (∀ b o, s.heap.get? b = some o → h'.get? b = some o) → Q none { s with heap := h', toks := tk }) : wpAny (model prog w) A (getAttr? (.ref a) "keys") Q E s := by
  obtain ⟨hp, g, d, tk, os⟩ := s
  have hT : ∀ tk', (⟨hp, g, d, tk', os⟩ : Shared).TypeIs (.ref a) "list" := fun _ => ⟨_, hx, rfl⟩
  have f1 := sub_AttributeError
  have f3 := F.slot_list_getattribute.lookup
  have f4 := F.slot_list_getattribute.bind (.ref a)
  have f5 := am_list_getattr_none
  unfold getAttr? getAttrBy? getAttrBy
  repeat (any_goals (first | assumption | exact hT _ | ((with_reducible show wpAny _ _ (call (Value.builtin "list.__getattribute__") _ _) _ _ _); refine call_meets F.slot_list_getattribute (hT _) am_entry_list_getattribute (F.args_list_getattribute_2 _ _) (meets_getattribute_miss_list a xs k sl "keys" _ lst_nokeys (by decide +kernel)) ⟨hx, hA, fun h' tk' e hx' => ?_⟩) | wp_step))
  obtain ⟨t', u', he⟩ := hx'.there
  show wpAny _ _ (getattributeRaised _ _ _ _ _ _ _) _ _ _
  unfold getattributeRaised
  repeat (any_goals (first | assumption | wp_step))
  exact h _ _ hx'.keeps
end
end L2
namespace L2
open PySem PySem.Spec PyProof.Rows
theorem plain_dul : plainId "dict.update.loop" = true := by decide +kernel
theorem entry_dul : entryFor table "dict.update.loop" = some Builtin.«dict.update.loop» := entryFor_of_fast (by kernel_rfl)
def storeAll {K : Type} [DecidableEq K] (ps : List (K × Value)) : List (K × Value) := ps.foldl (fun kvs p => stored kvs p.1 p.2) []
theorem storeAll_snoc {K : Type} [DecidableEq K] (ps : List (K × Value)) (p : K × Value) : storeAll (ps ++ [p]) = stored (storeAll ps) p.1 p.2 := by
  unfold storeAll
  rw [List.foldl_append]
  rfl
section
variable {prog : Program} {w : World} {A : Around} {R : Result → Shared → Prop} {K : Type} [DecidableEq K] {knd : KeyKind prog w K}
def PairsAt (knd : KeyKind prog w K) (h : Heap) (items : Array Value) (ps : List (K × Value)) : Prop :=
  items.size = ps.length ∧ ∀ (i : Nat) (p : K × Value), ps[i]? = some p → ∃ t key, items[i]? = some (.ref t) ∧ h.IsTuple t #[key, p.2] ∧ knd.is p.1 key = true
theorem PairsAt.keep {h h' : Heap} {items : Array Value} {ps : List (K × Value)} (x : PairsAt knd h items ps) (e : ∀ t o, h.get? t = some o → o.cls = .type "tuple" → h'.get? t = some o) : PairsAt knd h' items ps :=
  ⟨x.1, fun i p hp => let ⟨t, key, a, b, c⟩ := x.2 i p hp; ⟨t, key, a, (let ⟨o, e1, e2, r⟩ := b; ⟨o, e t o e1 e2, e2, r⟩), c⟩⟩
theorem dict_fill {it l d : Addr} {items : Array Value} {ps : List (K × Value)} {res : Value} (hh : A.handled = none) (nil' : it ≠ l) (nid : it ≠ d) (nld : l ≠ d) (few : ps.length ≤ sizeLine)
    (small : ∀ qs, qs.length ≤ ps.length → (storeAll (qs : List (K × Value))).length ≤ qs.length) :
    ∀ (m i : Nat) (s : Shared) (tk : Tok), ps.length - i = m → i ≤ ps.length → s.heap.IsListIter it l i → s.heap.IsList l items → s.heap.DictOf knd d (storeAll (ps.take i)) → PairsAt knd s.heap items ps →
    (∀ h' tk', (∀ b o, b ≠ it → b ≠ d → s.heap.get? b = some o → h'.get? b = some o) → h'.DictOf knd d (storeAll ps) → R (.ok (.ret res)) { s with heap := h', toks := tk' }) →
    codeAny (model prog w) A (.builtin "dict.update.loop" ⟨[.ref d, .ref it, .int i tk, res], []⟩) R s := by
  intro m
  induction m with
  | zero =>
    intro i s tk hm hi hit hl hd hp hR
    have e : i = ps.length := by omega
    subst e
    rw [List.take_length] at hd
    refine codeAny_builtin entry_dul ?_
    rw [Around.under_plainId plain_dul _]
    show wpAny _ A.in1 (pyNext (.ref it) >>= _) _ _ s
    refine wpAny_bind (wpAny_pyNext_list_end (by simpa using hh) hit hl (Array.getElem?_eq_none (by rw [hp.1]; exact Nat.le_refl _)) fun h' ex => ?_)
    show wpAny _ _ (Builtin.Dict.addKeywords d [] >>= _) _ _ _
    refine wpAny_bind (wpAny_pure (wpAny_pure (hR h' s.toks (fun b o nb _ q => ex b o nb q) ?_)))
    obtain ⟨o, es, ep, ho, r⟩ := hd
    exact ⟨o, es, ep, ex d o (Ne.symm nid) ho, r⟩
  | succ m ih =>
    intro i s tk hm hi hit hl hd hp hR
    have lt : i < ps.length := by omega
    obtain ⟨t, key, e1, e2, e3⟩ := hp.2 i ps[i] (List.getElem?_eq_getElem lt)
    refine codeAny_builtin entry_dul ?_
    rw [Around.under_plainId plain_dul _]
    show wpAny _ A.in1 (pyNext (.ref it) >>= _) _ _ s
    refine wpAny_bind (wpAny_pyNext_list_item hit hl e1 fun h1 hit1 sb1 => ?_)
    obtain ⟨ot, et1, et2, nt, et3⟩ := e2
    have ntit : t ≠ it := fun z => by
      obtain ⟨oi, q1, q2, _⟩ := hit
      rw [z, q1] at et1
      cases et1
      rw [q2] at et2
      exact absurd (Value.type.inj et2) (by decide)
    have ntd : t ≠ d := fun z => by
      obtain ⟨od, q1, q2⟩ := (show s.TypeIs (.ref d) "dict" from hd.typeIs)
      rw [z, q1] at et1
      cases et1
      rw [q2] at et2
      exact absurd (Value.type.inj et2) (by decide)
    have et1' : h1.get? t = some ot := (sb1.2 t ntit).trans et1
    have hd1 : h1.DictOf knd d (storeAll (ps.take i)) := hd.sameBut sb1 (Ne.symm nid)
    refine wpAny_bind (wpAny_holding (wpAny_bind (wpAny_tryCatch ?_)))
    unfold Builtin.Dict.pairItems
    refine wpAny_bind (wpAny_typeOf_ref et1' ?_)
    rw [et2]
    refine wpAny_bind (wpAny_seqItems et1' et3 (wpAny_pure ?_))
    refine wpAny_holding (wpAny_dictSet_pairs e3 hd1 (fun h2 hd2 sb2 => ?_) ?_)
    · refine wpAny_pure ⟨plainId_quiet plain_dul _, ih (i + 1) { s with heap := h2, toks := s.toks + 1 } 0 (by omega) (by omega) ?_ ?_ ?_ ?_ fun h' tk' kp dd => hR h' tk' (fun b o n1 n2 q => kp b o n1 n2 ((sb2.2 b n2).trans ((sb1.2 b n1).trans q))) dd⟩
      · obtain ⟨o, q1, r⟩ := hit1
        exact ⟨o, (sb2.2 it nid).trans q1, r⟩
      · obtain ⟨o, q1, r⟩ := hl
        exact ⟨o, (sb2.2 l nld).trans ((sb1.2 l (Ne.symm nil')).trans q1), r⟩
      · rw [List.take_add_one, List.getElem?_eq_getElem lt]
        show h2.DictOf knd d (storeAll (ps.take i ++ [ps[i]]))
        rw [storeAll_snoc]
        exact hd2
      · refine hp.keep fun b o q1 q2 => ?_
        have nb1 : b ≠ it := fun z => by
          obtain ⟨oi, r1, r2, _⟩ := hit
          rw [z, r1] at q1
          cases q1
          rw [r2] at q2
          exact absurd (Value.type.inj q2) (by decide)
        have nb2 : b ≠ d := fun z => by
          obtain ⟨od, r1, r2⟩ := (show s.TypeIs (.ref d) "dict" from hd.typeIs)
          rw [z, r1] at q1
          cases q1
          rw [r2] at q2
          exact absurd (Value.type.inj q2) (by decide)
        exact (sb2.2 b nb2).trans ((sb1.2 b nb1).trans q1)
    · have h1 := small (ps.take i) (by rw [List.length_take]; omega)
      have h2 : (ps.take i).length ≤ ps.length := by rw [List.length_take]; omega
      omega
end
end L2
namespace L2
open PySem PySem.Spec PyProof.Rows
section
variable {prog : Program} {w : World} {A : Around} {E : Value → Shared → Prop} {K : Type} [DecidableEq K] {knd : KeyKind prog w K} {s : Shared}
theorem dict_of_pairs {l : Addr} {xs : Array Value} {k : Nat} {sl : Array (Option Value)} {ps : List (K × Value)} {Q : Value → Shared → Prop} (hh : A.handled = none) (hl : s.heap.get? l = some { cls := .type "list", dict := none, data := .seq xs k, slots := sl }) (hp : PairsAt knd s.heap xs ps) (few : ps.length ≤ sizeLine)
    (small : ∀ qs, qs.length ≤ ps.length → (storeAll (qs : List (K × Value))).length ≤ qs.length)
    (h : ∀ h' tk, (∀ b o, s.heap.get? b = some o → h'.get? b = some o) → h'.DictOf knd s.heap.objs.size (storeAll ps) → Q (.ref s.heap.objs.size) { s with heap := h', toks := tk }) :
    wpAny (model prog w) A (call (.type "dict") [.ref l]) Q E s := by
  refine callType_codes (Q₁ := fun obj s₁ => obj = .ref s.heap.objs.size ∧ s₁ = { s with heap := s.heap.push { cls := .type "dict", data := .dict #[] } }) PySem.F.kt_called_dict (PySem.F.kt_typeCall_dict_1 _) PySem.F.entry_dict_init (kt_code_dict_new _ ⟨rfl, rfl⟩) ?_
  rintro obj s₁ ⟨rfl, rfl⟩
  have hnew : (s.heap.push { cls := .type "dict", data := .dict #[] }).DictOf knd s.heap.objs.size [] := Heap.DictOf.new s.heap
  refine ⟨hnew.typeIs, PySem.F.args_dict_init_2 _ _, ?_⟩
  unfold Builtin.«dict.__init__»
  refine wpAny_bind ?_
  unfold Builtin.Dict.selfAndRest
  refine wpAny_bind (wpAny_notOrdered_dict hnew.typeIs ?_)
  show wpAny _ _ (pure (s.heap.objs.size, [Value.ref l])) _ _ _
  refine wpAny_pure ?_
  show wpAny _ _ (Builtin.Dict.updateFrom "dict.__init__" s.heap.objs.size (.ref l) [] .none) _ _ _
  unfold Builtin.Dict.updateFrom
  have hl' : (s.heap.push { cls := .type "dict", data := .dict #[] }).get? l = some { cls := .type "list", dict := none, data := .seq xs k, slots := sl } := Heap.get?_push_of_some _ hl
  refine wpAny_bind (wpAny_typeOf_ref hl' ?_)
  rw [if_pos (show ((Value.type "list" : Value) != Value.type "dict") = true by decide)]
  refine wpAny_bind (list_keys (by simpa using hh) hl' fun h1 tk1 kp1 => ?_)
  rw [if_pos (show (none : Option Value).isNone = true from rfl)]
  refine wpAny_bind (wpAny_rule ?_)
  have hl1 := kp1 _ _ hl'
  have hd1 : h1.DictOf knd s.heap.objs.size [] := by
    obtain ⟨o, es, ep, ho, r⟩ := hnew
    exact ⟨o, es, ep, kp1 _ _ ho, r⟩
  refine wpAny_bind (wpAny_pyIter_list (items := xs) ⟨_, hl1, rfl, _, rfl⟩ ?_)
  have nl : l ≠ s.heap.objs.size := fun z => absurd (Heap.lt_size hl) (by rw [z]; exact Nat.lt_irrefl _)
  have sz : s.heap.objs.size < h1.objs.size := by
    obtain ⟨o, _, _, ho, _⟩ := hd1
    exact Heap.lt_size ho
  have nit : h1.objs.size ≠ l := fun z => absurd (Heap.lt_size hl1) (by rw [← z]; exact Nat.lt_irrefl _)
  refine wpAny_pure ⟨plainId_quiet plain_dul _, dict_fill (knd := knd) (items := xs) (ps := ps) (by simpa using hh) nit (Nat.ne_of_gt sz) nl few small ps.length 0 _ 0 (Nat.sub_zero _) (Nat.zero_le _) ?_ ?_ ?_ ?_ fun h' tk' kp dd => ?_⟩
  · exact ⟨_, Heap.get?_push_size _ rfl, rfl, rfl⟩
  · exact ⟨_, Heap.get?_push_of_some _ hl1, rfl, _, rfl⟩
  · exact hd1.push _
  · exact (hp.keep fun t o q _ => kp1 _ _ (Heap.get?_push_of_some _ q)).keep fun t o q _ => Heap.get?_push_of_some _ q
  · refine ⟨rfl, h h' tk' (fun b o q => ?_) dd⟩
    have lt := Heap.lt_size q
    exact kp b o (Nat.ne_of_lt (Nat.lt_trans lt sz)) (Nat.ne_of_lt lt) (Heap.get?_push_of_some _ (kp1 _ _ (Heap.get?_push_of_some _ q)))
end
end L2
namespace L2
open PySem PySem.Spec PyProof.Rows
def putAll (ps : List (Key × V)) : List (Key × V) := ps.foldl (fun kvs p => putK kvs p.1 p.2) []
theorem putAll_len (ps : List (Key × V)) : (putAll ps).length ≤ ps.length := by
  have : ∀ (ps kvs : List (Key × V)), (ps.foldl (fun kvs p => putK kvs p.1 p.2) kvs).length ≤ kvs.length + ps.length := by
    intro ps
    induction ps with
    | nil => intro kvs; simp
    | cons p r ih =>
      intro kvs
      have h1 := ih (putK kvs p.1 p.2)
      have h2 := length_putK kvs p.1 p.2
      rw [List.foldl_cons, List.length_cons]
      omega
  have := this ps []
  simpa [putAll] using this
theorem stored_len {K : Type} [DecidableEq K] (kvs : List (K × Value)) (k : K) (v : Value) : (stored kvs k v).length ≤ kvs.length + 1 := by
  unfold stored
  split <;> simp
theorem storeAll_len {K : Type} [DecidableEq K] (qs : List (K × Value)) : (storeAll qs).length ≤ qs.length := by
  have : ∀ (ps kvs : List (K × Value)), (ps.foldl (fun kvs p => stored kvs p.1 p.2) kvs).length ≤ kvs.length + ps.length := by
    intro ps
    induction ps with
    | nil => intro kvs; simp
    | cons p r ih =>
      intro kvs
      have h1 := ih (stored kvs p.1 p.2)
      have h2 := stored_len kvs p.1 p.2
      rw [List.foldl_cons, List.length_cons]
      omega
  have := this qs []
  simpa [storeAll] using this
section
variable {X : Cx} {pins : List (Addr × Obj)} {σ : St} {H : Hp} {s : Shared}
def rDictOf (K : PySem.W.Frag) : List V → Hp → VK → Prop := fun vs H Q => ∃ l us ps, vs = [.ref l] ∧ H l = some (.lst us) ∧ us.length = ps.length ∧ ps.length ≤ sizeLine ∧ (∀ (i : Nat) (p : Key × V), ps[i]? = some p → ∃ t, us[i]? = some (.ref t) ∧ H t = some (.tup [kV p.1, p.2])) ∧ ∀ d, H d = none → Q (.ref d) (upd H d (.dK (putAll ps)))
theorem pairs_at {h : Heap} (ok : HOk X.prog X.w H h) : ∀ (us : List V) (its : List Value) (ps : List (Key × V)), Vals us its → us.length = ps.length → (∀ (i : Nat) (p : Key × V), ps[i]? = some p → ∃ t, us[i]? = some (.ref t) ∧ H t = some (.tup [kV p.1, p.2])) →
    ∃ qs : List (Key × Value), KV ps qs ∧ its.length = qs.length ∧ ∀ (i : Nat) (q : Key × Value), qs[i]? = some q → ∃ t key, its[i]? = some (.ref t) ∧ h.IsTuple t #[key, q.2] ∧ (mixKind X.prog X.w).is q.1 key = true
  | [], _, [], .nil, _, _ => ⟨[], .nil, rfl, fun i q hq => by simp at hq⟩
  | u :: us, _, [], _, hl, _ => by simp at hl
  | [], _, p :: ps, _, hl, _ => by simp at hl
  | u :: us, _, p :: ps, @Paired.cons _ _ _ _ y _ ys rx r, hl, hp => by
    obtain ⟨t, e1, e2⟩ := hp 0 p rfl
    obtain rfl : u = .ref t := by simpa using e1
    obtain ⟨qs, kv, ln, hq⟩ := pairs_at ok us ys ps r (by simpa using hl) fun i p' h' => by
      obtain ⟨t', a, b⟩ := hp (i + 1) p' (by simpa using h')
      exact ⟨t', by simpa using a, b⟩
    obtain ⟨_, jts, rj, o, h1, h2, n, h3⟩ := (show ObjOk X.prog X.w H h t (.tup [kV p.1, p.2]) from ok t _ e2)
    obtain ⟨k1, v1, rfl, r1, r2⟩ := vals2 rj
    cases rx
    refine ⟨(p.1, v1) :: qs, .cons ⟨rfl, r2⟩ kv, by simp [ln], fun i q h' => ?_⟩
    cases i with
    | zero =>
      have e : (p.1, v1) = q := by simpa using h'
      subst e
      exact ⟨t, k1, rfl, ⟨o, h1, h2, n, h3⟩, kV_is r1⟩
    | succ i => exact hq i q (by simpa using h')
theorem KV.all : ∀ {ps : List (Key × V)} {qs : List (Key × Value)}, KV ps qs → KV (putAll ps) (storeAll qs) := by
  have : ∀ {ps : List (Key × V)} {qs : List (Key × Value)}, KV ps qs → ∀ {a : List (Key × V)} {b : List (Key × Value)}, KV a b → KV (ps.foldl (fun kvs p => putK kvs p.1 p.2) a) (qs.foldl (fun kvs p => stored kvs p.1 p.2) b) := by
    intro ps qs h
    induction h with
    | nil => intro a b h; exact h
    | cons hx _ ih =>
      intro a b h
      obtain ⟨e1, e2⟩ := hx
      rw [List.foldl_cons, List.foldl_cons, ← e1]
      exact ih (h.put _ e2)
  intro ps qs h
  exact this h .nil
theorem call_dict_of (hc : X.calm = true) : CallR X (.type "dict") (rDictOf X.K) := by
  intro pins s σ H xs us Q I r h
  obtain ⟨l, ys, ps, rfl, hl, ln, few, hp, q⟩ := h
  obtain ⟨u, rfl, rx⟩ := vals1 r
  cases rx
  obtain ⟨hz, its, c', r', e⟩ := (show ObjOk X.prog X.w H s.heap l (.lst ys) from I.hok l _ hl)
  obtain ⟨qs, kv, ln', hq⟩ := pairs_at I.hok ys its ps r' ln hp
  have kl := kv.length
  refine dict_of_pairs (knd := mixKind X.prog X.w) (ps := qs) (I.ok.hd hc) e ⟨by simpa using ln', fun i p hp => ?_⟩ (by omega) (fun qs _ => storeAll_len qs) fun h' tk kp dd => ?_
  · obtain ⟨t, key, a, b, c⟩ := hq i p hp
    exact ⟨t, key, by simpa using a, b, c⟩
  · have len := putAll_len ps
    refine ⟨.ref s.heap.objs.size, _, I.laid (t' := tk) kp (Nat.le_refl _) (dk_new (by omega) ?_ kv.all dd), rfl, q _ (I.hok.fresh (Nat.le_refl _))⟩
    exact (dk_empty s.heap I.big : ObjOk X.prog X.w H _ s.heap.objs.size (.dK [])).2.1
end
end L2
namespace Tr
open PySem PySem.Spec PyProof.Rows L2
abbrev sl (x : Str) : List Nat := x.cps.toList
theorem sl_app (x y : Str) : sl (x ++ y) = sl x ++ sl y := by
  show (x.cps ++ y.cps).toList = _
  simp
end Tr
namespace L2
open PySem PySem.Spec PyProof.Rows
section
variable {X : Cx}
theorem ix_dk : IxR X (fun x y H Q => ∃ a kvs k v, x = .ref a ∧ H a = some (.dK kvs) ∧ y = kV k ∧ valV kvs k = some v ∧ Q v H) := by
  intro value slice pins s σ H x y v u Q I rx ry h hs
  obtain ⟨a, kvs, k, z, rfl, hd, rfl, e, q⟩ := h
  cases rx
  obtain ⟨_, ne, vs, rel, dd⟩ := dk_of I.hok hd
  obtain ⟨w', hw, rw'⟩ := RelO.some_of (v := z) (o := valueAt vs k) (by rw [← e]; exact rel.val k)
  exact tail_any dd.typeIs PySem.F.slot_dict_getitem.lookup (wpAny_getItem_of (kV_is ry) dd.mapOf hw ⟨z, H, I.tok _, rw', q⟩) hs
end
end L2
namespace Tr
open PySem PySem.Spec PyProof.Rows L2
abbrev Wat := Int × Str × Str
end Tr
namespace Tr
open PySem PySem.Spec PyProof.Rows L2
def numsOf (f : Row → Option Str) (rs : List Row) (q : Str) : List Int := rs.zipIdx.filterMap fun p => if f p.1 = some q then some (p.2 : Int) else none
end Tr
namespace Tr
open PySem PySem.Spec PyProof.Rows L2
def awaited (n : Nat) (gs : List Int) (k : Nat) : Int := if k < gs.length then gs.getD k 0 else (n : Int) - 1
end Tr
namespace Tr
open PySem PySem.Spec PyProof.Rows L2
end Tr
namespace Tr
open PySem PySem.Spec PyProof.Rows L2
end Tr
namespace Tr
open PySem PySem.Spec PyProof.Rows L2
end Tr
namespace Tr
open PySem PySem.Spec PyProof.Rows L2
end Tr
namespace Tr
open PySem PySem.Spec PyProof.Rows L2
def roomFor (rs : List Row) (i : Nat) (r : Row) (s : Str × Int) : List Wat := if r.into = some s.1 ∧ s.2.toNat ≤ (numsOf Row.into (rs.take i) s.1).length then [(awaited rs.length (numsOf Row.outof rs s.1) ((numsOf Row.into (rs.take i) s.1).length - s.2.toNat), "room", s.1)] else []
end Tr
namespace Tr
open PySem PySem.Spec PyProof.Rows L2
end Tr
namespace Tr
open PySem PySem.Spec PyProof.Rows L2
end Tr
namespace Tr
open PySem PySem.Spec PyProof.Rows L2
end Tr
namespace Tr
open PySem PySem.Spec PyProof.Rows L2
end Tr
namespace L2
open PySem
def itr (mask : Nat) : Nat → Nat → Nat → Nat
  | 0, i, _ => i
  | m + 1, i, p => itr mask m (SetTable.leap mask i p).1 (SetTable.leap mask i p).2
theorem free_none {mask : Nat} {ow : Array (Option Nat)} : ∀ (fuel i p : Nat), i ≤ mask → SetTable.layClean.free mask ow fuel i p = none → ∀ m, m < fuel → (ow.getD (itr mask m i p) (some 0)).isNone = false
  | 0, _, _, _, _, m, hm => absurd hm (Nat.not_lt_zero m)
  | fuel + 1, i, p, hi, h, m, hm => by
    unfold SetTable.layClean.free at h
    split at h
    · cases h
    · rename_i hf
      cases m with
      | zero =>
        have := List.find?_eq_none.mp hf 0 (by
          rw [List.mem_range]
          unfold SetTable.runEnd
          split <;> omega)
        show (ow.getD i (some 0)).isNone = false
        simpa only [Nat.add_zero, Bool.not_eq_true] using this
      | succ m => exact free_none fuel _ _ (Nat.le_of_lt_succ (Nat.mod_lt _ (Nat.succ_pos _))) h m (by omega)
theorem free_is {mask : Nat} {ow : Array (Option Nat)} : ∀ (fuel i p j : Nat), SetTable.layClean.free mask ow fuel i p = some j → (ow.getD j (some 0)).isNone = true
  | 0, _, _, _, h => by unfold SetTable.layClean.free at h; cases h
  | fuel + 1, i, p, j, h => by
    unfold SetTable.layClean.free at h
    split at h
    · rename_i k hk
      cases h
      exact List.find?_some (p := fun k => (ow.getD (i + k) (some 0)).isNone) hk
    · exact free_is fuel _ _ j h
theorem itr_add (mask : Nat) : ∀ (a b i p : Nat), itr mask (a + b) i p = itr mask b (itr mask a i p) (p / 32 ^ a)
  | 0, b, i, p => by simp [itr]
  | a + 1, b, i, p => by
    rw [Nat.succ_add]
    show itr mask (a + b) _ _ = itr mask b (itr mask a _ _) _
    rw [itr_add mask a b]
    unfold SetTable.leap
    rw [Nat.div_div_eq_div_mul, Nat.pow_succ, Nat.mul_comm (32 ^ a) 32]
theorem itr_le {mask : Nat} : ∀ (a i p : Nat), i ≤ mask → itr mask a i p ≤ mask
  | 0, i, p, h => h
  | a + 1, i, p, h => itr_le a _ _ (by unfold SetTable.leap; exact Nat.le_of_lt_succ (Nat.mod_lt _ (Nat.succ_pos _)))
theorem fm_set : ∀ (l : List (Option Nat)) (j k : Nat), l[j]? = some none → ((l.set j (some k)).filterMap id).Perm (k :: l.filterMap id)
  | [], j, k, h => by simp at h
  | x :: l, 0, k, h => by
    obtain rfl : x = none := by simpa using h
    exact .refl _
  | x :: l, j + 1, k, h => by
    have ih := fm_set l j k (by simpa using h)
    cases x with
    | none => simpa using ih
    | some y =>
      show (y :: (l.set j (some k)).filterMap id).Perm (k :: y :: l.filterMap id)
      exact (ih.cons y).trans (.swap _ _ _)
theorem fm_free : ∀ (l : List (Option Nat)), (l.filterMap id).length < l.length → ∃ j : Nat, l[j]? = some none
  | [], h => absurd h (Nat.lt_irrefl _)
  | none :: l, _ => ⟨0, rfl⟩
  | some y :: l, h => by
    obtain ⟨j, q⟩ := fm_free l (by simpa using h)
    exact ⟨j + 1, by simpa using q⟩
theorem pick_all {α : Type} (es : Array α) (order : Array Nat) (h : order.toList.Perm (List.range es.size)) : (order.filterMap (es[·]?)).toList.Perm es.toList := by
  rw [Array.toList_filterMap]
  refine (h.filterMap _).trans ?_
  have : ∀ l : List α, (List.range l.length).filterMap (l[·]?) = l := fun l => by
    induction l with
    | nil => rfl
    | cons x l ih =>
      rw [List.length_cons, List.range_succ_eq_map, List.filterMap_cons, List.filterMap_map]
      exact congrArg (x :: ·) ih
  have q := this es.toList
  rw [Array.length_toList] at q
  simp only [Array.getElem?_toList] at q
  rw [q]
end L2
namespace L2
open PySem
section
variable {P : Program} {w : World} {A : Around} {E : Value → Shared → Prop} {s : Shared}
theorem set_or_e : entryFor table "set.__or__" = some Builtin.«frozenset.__or__» := entryFor_alias (id' := "frozenset.__or__") (by kernel_rfl) rfl (by decide +kernel) (by kernel_rfl)
theorem tab_perm {es es' : Array (Int × Value)} {t t' : SetTable} {ys : List Str} (T : TxtTab P w es t ys) (hp : es'.toList.Perm es.toList) (hf : t'.fits es'.size = true) (hl : t'.led = t.led) (hpl : t'.plain = false) : TxtTab P w es' t' ys := by
  have sz : es'.size = es.size := by rw [← Array.length_toList, hp.length_eq, Array.length_toList]
  exact ⟨T.el.perm hp, (hp.map _).nodup_iff.mpr T.nd, fun k => ((hp.map _).mem_iff).trans (T.mem k), by rw [sz]; exact T.few, hf, hl.trans T.led, fun _ => hpl⟩
end
end L2
namespace L2
open PySem PySem.Spec PyProof.Rows
section
variable {X : Cx}
end
end L2
namespace L2
open PySem PySem.Spec PyProof.Rows
section
variable {P : Program} {w : World} {A : Around} {E : Value → Shared → Prop} {s : Shared}
theorem collect_dict {d : Addr} {kvs : List (Key × Value)} {ep : Nat} {Q : List Value → Shared → Prop} (hh : A.handled = none) (lo : (d == sysModules) = false) (hm : s.heap.DictAt (mixKind P w) d kvs ep) (hn : kvs.length ≤ sizeLine)
    (h : ∀ (h' : Heap) (tk : Nat) (vs : List Value), (∀ b o, s.heap.get? b = some o → h'.get? b = some o) → s.heap.objs.size < h'.objs.size → vs.length = kvs.length → (∀ (j : Nat) (v : Value), vs[j]? = some v → ∃ k x, kvs[j]? = some (k, x) ∧ (mixKind P w).is k v = true) → Q vs { s with heap := h', toks := tk }) :
    wpAny (model P w) A (collect (.ref d)) Q E s := by
  have hd : d < s.heap.objs.size := hm.lt_size
  unfold collect
  refine wpAny_bind (wpAny_runValue (codeAny_builtin F.entry_proto_collect ?_))
  rw [Around.under_plainId F.plain_proto_collect _]
  show wpAny _ A.in1 (newList [] >>= fun l => again (.builtin "list.__iadd__" ⟨[l, .ref d], []⟩)) _ _ s
  refine wpAny_bind (wpAny_newObj_type ?_)
  refine wpAny_pure ⟨plainId_quiet F.plain_list_iadd _, codeAny_builtin F.entry_list_iadd ?_⟩
  rw [Around.under_plainId F.plain_list_iadd _]
  have hS : (s.heap.push { cls := .type "list", data := .seq ([] : List Value).toArray }).get? s.heap.objs.size = some { cls := .type "list", data := .seq #[] } := Heap.get?_push_size _ rfl
  show wpAny _ A.in1 (Builtin.List.listExtendWith (.ref s.heap.objs.size) (.ref d) (.ref s.heap.objs.size)) _ _ _
  have key := PySem.W.kdl_extend (A := A) (s := { s with heap := s.heap.push { cls := .type "list", data := .seq ([] : List Value).toArray } }) (PySem.W.kdl_dict (knd := mixKind P w) (kvs := kvs) (ep := ep) lo)
    (R := fun (q : Result) (s' : Shared) => ∃ (h' : Heap) (tk : Nat) (acc : Array Value) (c : Nat), q = .ok (.ret (.ref s.heap.objs.size)) ∧ s' = { s with heap := h', toks := tk } ∧
      (∀ b o, s.heap.get? b = some o → h'.get? b = some o) ∧ h'.get? s.heap.objs.size = some { cls := .type "list", dict := none, data := .seq acc c, slots := #[] } ∧ ItemsOf (fun i v => ∃ k x, kvs[i]? = some (k, x) ∧ (mixKind P w).is k v = true) acc kvs.length)
    hh (hm.push _) s.heap.objs.size (Nat.ne_of_gt hd) (Nat.ne_of_gt hd) (.ref s.heap.objs.size) 0 hS
    (fun h' tk acc c hk hS' hacc => ⟨h', tk, acc, c, rfl, rfl, fun b o e => hk b o (Nat.ne_of_lt (Heap.lt_size e)) (Heap.get?_push_of_some _ e), hS', hacc⟩) hn
  have fin : ∀ (h' : Heap) (tk : Nat) (acc : Array Value) (c : Nat), (∀ b o, s.heap.get? b = some o → h'.get? b = some o) → h'.get? s.heap.objs.size = some { cls := .type "list", dict := none, data := .seq acc c, slots := #[] } →
      ItemsOf (fun i v => ∃ k x, kvs[i]? = some (k, x) ∧ (mixKind P w).is k v = true) acc kvs.length → Q acc.toList { s with heap := h', toks := tk } := fun h' tk acc c hk hS' hacc =>
    h h' tk acc.toList hk (Heap.lt_size hS') (by rw [Array.length_toList]; exact hacc.1) fun j v e => hacc.2 j v (by rw [← Array.getElem?_toList]; exact e)
  refine wpAny_mono key (fun fn s' x => ?_) fun e s' x => ?_
  · cases fn with
    | done f =>
      obtain ⟨h', tk, acc, c, e, rfl, hk, hS', hacc⟩ := x
      cases e
      show wpAny _ A (load s.heap.objs.size >>= _) _ _ _
      exact wpAny_bind (wpAny_load hS' (wpAny_pure (fin h' tk acc c hk hS' hacc)))
    | again c₁ =>
      refine ⟨x.1, codeAny_mono x.2 fun q s₂ y => ?_⟩
      obtain ⟨h', tk, acc, c, rfl, rfl, hk, hS', hacc⟩ := y
      show wpAny _ A (load s.heap.objs.size >>= _) _ _ _
      exact wpAny_bind (wpAny_load hS' (wpAny_pure (fin h' tk acc c hk hS' hacc)))
  · obtain ⟨_, _, _, _, e', _⟩ := x
    cases e'
theorem strs_keys : ∀ (kvs : List (Key × Value)) (ks : List Str) (vs : List Value), kvs.map (·.1) = ks.map Sum.inr → vs.length = kvs.length → (∀ (j : Nat) (v : Value), vs[j]? = some v → ∃ k x, kvs[j]? = some (k, x) ∧ (mixKind P w).is k v = true) → StrsAre vs ks
  | [], [], [], _, _, _ => .nil
  | p :: kvs, k :: ks, v :: vs, hk, hl, hv => by
    simp only [List.map_cons, List.cons.injEq] at hk
    obtain ⟨q, x, e, hq⟩ := hv 0 v rfl
    simp only [List.getElem?_cons_zero, Option.some.injEq] at e
    subst e
    obtain ⟨hk1, hk2⟩ := hk
    have hq : keyIs q v = true := hq
    rw [show q = .inr k from hk1] at hq
    obtain ⟨t, rfl⟩ := Value.isStrOf_shape hq
    exact .cons k t (strs_keys kvs ks vs hk2 (by simpa using hl) fun j u hu => by simpa using hv (j + 1) u (by simpa using hu))
  | [], _ :: _, _, hk, _, _ => by simp at hk
  | _ :: _, [], _, hk, _, _ => by simp at hk
  | [], [], _ :: _, _, hl, _ => by simp at hl
  | _ :: _, _ :: _, [], _, hl, _ => by simp at hl
end
section
variable {X : Cx}
theorem KV.get : ∀ {ps : List (Key × V)} {qs : List (Key × Value)} {i : Nat} {p : Key × V}, KV ps qs → ps[i]? = some p → ∃ q, qs[i]? = some q ∧ p.1 = q.1 ∧ RelV p.2 q.2
  | _, _, _, _, .nil, h => by simp at h
  | _, _, 0, _, .cons hx _, h => by
    simp only [List.getElem?_cons_zero, Option.some.injEq] at h
    subst h
    exact ⟨_, rfl, hx.1, hx.2⟩
  | _, _, i + 1, _, .cons _ r, h => by
    obtain ⟨q, e, z⟩ := KV.get r (by simpa using h)
    exact ⟨q, by simpa using e, z⟩
def tListItems (td : TE) : TE := fun σ H Q => td σ H fun x H1 => ∃ a kvs, x = .ref a ∧ H1 a = some (.dK kvs) ∧
  ∀ H' l (ts : List Addr), Same H1 H' → H1 l = none → H' l = some (.lst (ts.map V.ref)) → ts.length = kvs.length → (∀ (j : Nat) (t : Addr) (p : Key × V), ts[j]? = some t → kvs[j]? = some p → H' t = some (.tup [kV p.1, p.2]) ∧ H1 t = none) → Q (.ref l) H'
theorem is_kV {P : Program} {w : World} {k : Key} {u : Value} (h : (mixKind P w).is k u = true) : RelV (kV k) u := by
  have h : keyIs k u = true := h
  rcases keyIs_shape h with ⟨i, t, rfl, rfl⟩ | ⟨x, t, rfl, rfl⟩
  · exact ⟨t, rfl⟩
  · exact ⟨t, rfl⟩
theorem pe_listitems {o : Expr} {p1 apos cpos pos1 : Pos} {td : TE} (hc : X.calm = true) (hg : Gl X "list") (hm : X.mg "list" = none) (ho : PE X o td)
    (hbase : attributeBase o "items" X.env (eval o X.env) = eval o X.env := by rfl) (hline : (apos.endLine == cpos.line) = true := by rfl)
    (hs3 : starEach [.Call (.Attribute o "items" apos) [] [] cpos] X.env = [(false, eval (.Call (.Attribute o "items" apos) [] [] cpos) X.env)] := by rfl) :
    PE X (.Call (.Name "list" p1) [.Call (.Attribute o "items" apos) [] [] cpos] [] pos1) (tListItems td) := by
  intro pins s σ H Q I h
  refine wpAny_Call_Name_kw (ld_blt I hg hm PyProof.Rows.Boot.«list» ?_)
  refine PyProof.Rows.callWith_type1 ?_ (by rw [hs3]; rfl) rfl
  rw [hs3]
  show wpAny _ _ (spliced ((false, eval (.Call (.Attribute o "items" apos) [] [] cpos) X.env) :: backTo pos1 [])) _ _ s
  refine Calls.spliced_cons ?_
  refine wpAny_Call_method0_late hbase hline (thn (ho pins s σ H _ I h) fun v s1 ⟨x, H1, I1, r1, a, kvs, ex, eH, q⟩ => ?_)
  subst ex
  obtain rfl : v = Value.ref a := r1
  obtain ⟨z, hd, vs, rel, dd⟩ := dk_of I1.hok eH
  obtain ⟨t1, t2, _⟩ := isD_at I1 (.inl ⟨kvs, .inl eH⟩)
  refine ⟨"dict", "dict.items", PySem.F.plainAttrs_dict, PySem.F.slot_dict_items, PySem.F.type_dict_items, t1, t2, Calls.callWith_builtin rfl (PySem.evalArgs_none ?_)⟩
  refine call_meetsIn PySem.F.slot_dict_items dd.typeIs PySem.F.entry_dict_items (PySem.F.args_dict_items_1 _) (meets_dict_items (mixKind X.prog X.w) a hd) ⟨⟨vs, dd⟩, ?_⟩
  refine Calls.spliced_nil ?_
  obtain ⟨ep, da⟩ := dd.dictAt
  have kl := rel.length
  refine PySem.W.kdx_call (s := { s1 with heap := s1.heap.push { cls := .type "dict_items", data := .fields #[.ref a] } }) (knd := mixKind X.prog X.w) (kvs := vs) (ep := ep) (I1.ok.hd hc) ⟨_, Heap.get?_push_size _ rfl, rfl, rfl⟩ (da.push _) (by omega) fun h' tk acc c ts kp gl tl hG ets => ?_
  have keep : ∀ b o, s1.heap.get? b = some o → h'.get? b = some o := fun b o e => kp b o (Heap.get?_push_of_some _ e)
  have J : Inv X pins σ H1 { s1 with heap := h', toks := tk } := I1.kept keep
  have szp : (s1.heap.push ({ cls := .type "dict_items", data := .fields #[.ref a] } : Obj)).objs.size = s1.heap.objs.size + 1 := Heap.size_push _ _
  have old : ∀ t ∈ ts, s1.heap.objs.size ≤ t := fun t ht => by
    have := hG.above t ht
    have z : s1.heap.objs.size ≤ (s1.heap.push ({ cls := .type "dict_items", data := .fields #[.ref a] } : Obj)).objs.size := by rw [szp]; exact Nat.le_succ _
    exact Nat.le_trans z (Nat.le_of_lt this)
  obtain ⟨H', I3, s3, o3, a3⟩ := track_pairs (s := { s1 with heap := h', toks := tk }) I1 ts (kvs.map fun p => (kV p.1, p.2)) H1 J (by rw [List.length_map]; omega) hG.rise (fun t ht => ⟨old t ht, I1.hok.fresh (old t ht)⟩) fun j t p h1 h2 => by
    obtain ⟨key, k, x, e1, e2, e3⟩ := hG.pairs j t h1
    rw [List.getElem?_map] at h2
    obtain ⟨p', hp', rfl⟩ := Option.map_eq_some_iff.mp h2
    obtain ⟨q', hq', rq1, rq2⟩ := KV.get rel hp'
    rw [e1] at hq'
    cases hq'
    have rq1 : p'.1 = k := rq1
    subst rq1
    exact ⟨key, x, is_kV e2, rq2, e3⟩
  have lL : s1.heap.objs.size ≤ (s1.heap.push ({ cls := .type "dict_items", data := .fields #[.ref a] } : Obj)).objs.size := by rw [szp]; omega
  generalize (s1.heap.push ({ cls := .type "dict_items", data := .fields #[.ref a] } : Obj)).objs.size = L at gl hG lL ⊢
  have nL : L ∉ ts := fun hm => Nat.lt_irrefl _ (hG.above _ hm)
  have fL : H1 L = none := I1.hok.fresh lL
  have hL : H' L = none := by rw [o3 _ nL]; exact fL
  have vr : ∀ ts : List Addr, Vals (ts.map V.ref) (ts.map Value.ref) := fun ts => by
    induction ts with
    | nil => exact .nil
    | cons t ts ih => exact .cons rfl ih
  have I4 : Inv X pins σ (upd H' L (.lst (ts.map V.ref))) { s1 with heap := h', toks := tk } := I3.track (I1.fpOk lL hL) (Nat.le_trans I1.sz lL) ⟨by rw [List.length_map]; omega, ts.map Value.ref, c, vr ts, by rw [← ets]; simpa using gl⟩
  refine ⟨.ref L, _, I4, rfl, q _ L ts (s3.trans (Same.new hL _)) fL upd_same (by omega) fun j t p h1 h2 => ⟨?_, I1.hok.fresh (old t (List.mem_of_getElem? h1))⟩⟩
  exact Same.new hL _ _ _ (a3 j t (kV p.1, p.2) h1 (by rw [List.getElem?_map, h2]; rfl))
theorem pe_never {e : Expr} : PE X e (fun _ _ _ => False) := fun _ _ _ _ _ _ h => h.elim
end
structure FunD (K : PySem.W.Frag) (x qual : Str) (st : Stmt) (f : Addr) (fd : FuncData) (dv : Value) : Prop where
  ex : ∃ (oc : Value) (od : Option Addr) (kV doc pm : Value) (an : Option Addr) (cdv ct : Value) (osl : Array (Option Value)) (dt : Addr) (d2 : Option Addr) (n : Nat) (e2 : Array (Option Value)),
    fd = PySem.W.fnOf x qual (defArgs st) (defBody st) (defScope st) (.ref dt) kV doc pm an cdv ct ∧ K.lookup f = some ⟨oc, od, .func fd, osl⟩ ∧ PySem.W.codeIn K cdv qual = true ∧ K.lookup dt = some ⟨.type "tuple", d2, .seq #[dv] n, e2⟩
  kp : PySem.W.keepIn K (.ref f) = true
section
variable {P : Program} {w : World} {K : PySem.W.Frag} {mg : Str → Option Value} {base : Heap}
theorem FunD.ok {x qual : Str} {st : Stmt} {f : Addr} {fd : FuncData} {dv : Value} {N ps : List Str} {k : Nat} {sp : Sp} (F : FunD K x qual st f fd dv) (S : FnScope N ps (defScope st)) (len : ∀ vs H Q E, sp vs H Q E → vs.length = ps.length)
    (hbody : ∀ (cdv : Value) (A : Around) (outer : List Env) (s : Shared) (H : Hp) (vs : List V) (Q : VK) (E : XK), Room k (A.deeper (envOfC qual (defScope st) s.heap.objs.size f cdv)) → sp vs H Q E →
      ∃ t, PSs (cxOf CX0 P w K mg base N qual (defScope st) f cdv A outer s H E).nox (defBody st) t ∧ t { nx := fun _ H' => Q .non H', rt := Q } (start N vs) H) : FnOk P w K mg base CX0 (k + 1) f fd ps sp := by
  obtain ⟨oc, od, kV, doc, pm, an, cdv, ct, osl, dt, d2, n, e2, rfl, lk, hcd, lt⟩ := F.ex
  refine fn_of lk hcd S len fun A outer s H vs Q E hr hsp => ?_
  obtain ⟨t, h, q⟩ := hbody cdv A outer s H vs Q E hr hsp
  exact ⟨t, h.nox, q⟩
theorem FunD.binds {x qual : Str} {st : Stmt} {f : Addr} {fd : FuncData} {dv : Value} {ps : List Str} (F : FunD K x qual st f fd dv) (ds : List Value)
    (h : ∀ (kV doc pm : Value) (an : Option Addr) (cdv ct : Value) (dt : Addr) (o : Obj) (n : Nat) (s : Shared) (us : List Value), s.heap.get? dt = some o → o.data = .seq #[dv] n → (us ++ ds).length = ps.length →
      BindsTo s (PySem.W.fnOf x qual (defArgs st) (defBody st) (defScope st) (.ref dt) kV doc pm an cdv ct) ⟨us, []⟩ (ps.zip (us ++ ds))) : Binds K fd ps ds := by
  obtain ⟨oc, od, kV, doc, pm, an, cdv, ct, osl, dt, d2, n, e2, rfl, lk, hcd, lt⟩ := F.ex
  exact fun s us X hl => h kV doc pm an cdv ct dt _ n s us (X _ _ lt) rfl hl
theorem fund_mk {x qual : Str} {st : Stmt} {f dt : Addr} {oc : Value} {od an d2 : Option Addr} {osl e2 : Array (Option Value)} {n : Nat} {kV doc pm cdv ct dv : Value} {i2 : Array Value} (l : K.lookup f = some ⟨oc, od, .func (PySem.W.fnOf x qual (defArgs st) (defBody st) (defScope st) (.ref dt) kV doc pm an cdv ct), osl⟩)
    (c : PySem.W.codeIn K cdv qual = true) (k : PySem.W.keepIn K (.ref f) = true) (t : K.lookup dt = some ⟨.type "tuple", d2, .seq i2 n, e2⟩) (hi : i2 = #[dv]) : FunD K x qual st f (PySem.W.fnOf x qual (defArgs st) (defBody st) (defScope st) (.ref dt) kV doc pm an cdv ct) dv := by
  subst hi
  exact ⟨⟨oc, od, kV, doc, pm, an, cdv, ct, osl, dt, d2, n, e2, rfl, l, c, t⟩, k⟩
end
end L2
namespace Tr
open PySem PySem.Spec PyProof.Rows L2
set_option linter.all false
abbrev Env' := Str → Int
def setE (f : Env') (x : Str) (v : Int) : Env' := fun z => if z = x then v else f z
theorem setE_same {f : Env'} {x : Str} (h : f x = 0) : setE f x 0 = f := by
  funext z
  unfold setE
  split
  · subst_vars; exact h.symm
  · rfl
def tab (ks : List Str) (f : Env') : List (Key × V) := ks.map fun z => (.inr z, .int (f z))
def addK (ks : List Str) (x : Str) : List Str := if x ∈ ks then ks else ks ++ [x]
theorem mem_addK {ks : List Str} {x k : Str} : k ∈ addK ks x ↔ k ∈ ks ∨ k = x := by
  unfold addK
  split
  · rename_i h
    exact ⟨.inl, fun z => z.elim id fun e => e ▸ h⟩
  · simp
theorem nd_addK {ks : List Str} {x : Str} (h : ks.Nodup) : (addK ks x).Nodup := by
  unfold addK
  split
  · exact h
  · rename_i hx
    exact nd_snoc h hx
theorem tab_keys (ks : List Str) (f : Env') : (tab ks f).map (·.1) = ks.map Sum.inr := by
  unfold tab
  rw [List.map_map]
  rfl
theorem tab_len (ks : List Str) (f : Env') : (tab ks f).length = ks.length := List.length_map _
theorem tab_val {f : Env'} {x : Str} : ∀ {ks : List Str}, x ∈ ks → valV (tab ks f) (.inr x) = some (.int (f x))
  | [], h => by simp at h
  | k :: ks, h => by
    unfold tab valV
    rw [List.map_cons, List.find?_cons]
    by_cases e : k = x
    · subst e
      simp
    · have h' : x ∈ ks := by
        rcases List.mem_cons.mp h with z | z
        · exact absurd z.symm e
        · exact z
      have := tab_val (f := f) h'
      unfold tab valV at this
      simp only [Sum.inr.injEq, e, decide_false]
      exact this
theorem tab_none {f : Env'} {x : Str} {ks : List Str} (h : x ∉ ks) : valV (tab ks f) (.inr x) = none := by
  cases e : valV (tab ks f) (.inr x) with
  | none => rfl
  | some v =>
    have := valV_in e
    rw [tab_keys] at this
    obtain ⟨z, hz, ez⟩ := List.mem_map.mp this
    cases ez
    exact absurd hz h
theorem tab_off {f : Env'} {x : Str} {v : Int} {ks : List Str} (h : x ∉ ks) : tab ks (setE f x v) = tab ks f := by
  unfold tab
  refine List.map_congr_left fun z hz => ?_
  show (_, V.int (if z = x then v else f z)) = _
  rw [if_neg (fun e : z = x => h (e ▸ hz))]
theorem tab_put {f : Env'} {x : Str} {v : Int} {ks : List Str} (hn : ks.Nodup) : putK (tab ks f) (.inr x) (.int v) = tab (addK ks x) (setE f x v) := by
  unfold addK
  split
  · rename_i h
    unfold putK
    rw [if_pos (by
      rw [List.any_eq_true]
      exact ⟨(.inr x, .int (f x)), List.mem_map.mpr ⟨x, h, rfl⟩, by simp⟩)]
    unfold tab
    rw [List.map_map]
    refine List.map_congr_left fun z hz => ?_
    show (if _ then _ else _) = _
    unfold setE
    by_cases e : z = x
    · subst e
      simp
    · simp [e]
  · rename_i h
    rw [putK_new _ (tab_none h)]
    show _ = tab (ks ++ [x]) (setE f x v)
    unfold tab
    rw [List.map_append]
    have := tab_off (f := f) (v := v) h
    unfold tab at this
    rw [this]
    simp [setE]
theorem putAll_tab {ks : List Str} (hn : ks.Nodup) : putAll (ks.map fun z => ((.inr z : Key), V.int 0)) = tab ks fun _ => 0 := by
  have : ∀ (ks pre : List Str), (pre ++ ks).Nodup → (ks.map fun z => ((.inr z : Key), V.int 0)).foldl (fun kvs p => putK kvs p.1 p.2) (tab pre fun _ => 0) = tab (pre ++ ks) fun _ => 0 := by
    intro ks
    induction ks with
    | nil => intro pre _; simp
    | cons k r ih =>
      intro pre h
      have h' : ((pre ++ [k]) ++ r).Nodup := by simpa using h
      have nk : k ∉ pre := fun hm => by
        rw [List.nodup_append] at h
        exact h.2.2 k hm k (by simp) rfl
      rw [List.map_cons, List.foldl_cons]
      have e : putK (tab pre fun _ => 0) (.inr k) (V.int 0) = tab (pre ++ [k]) fun _ => 0 := by
        rw [putK_new _ (tab_none nk)]
        simp [tab]
      rw [show putK (tab pre fun _ => 0) ((.inr k : Key), V.int 0).1 ((.inr k : Key), V.int 0).2 = tab (pre ++ [k]) fun _ => 0 from e, ih _ h']
      simp
  exact this ks [] (by simpa using hn)
end Tr
namespace L2
open PySem PySem.Spec PyProof.Rows
section
variable {X : Cx}
end
end L2
namespace L2
open PySem PySem.Spec PyProof.Rows
section
variable {X : Cx}
end
end L2
namespace L2
open PySem PySem.Spec PyProof.Rows PySem.W
section
variable {X : Cx} {k : Nat} {f C0 : Addr} {fd : FuncData} {ps : List Str} {sp : Sp} {dvs : List V} {ds : List Value} {fx cx y m n : Str} {iy im inn : Nat} {p pos apos py cp pm pn pa hpos : Pos} {e : Expr} {es : List Expr} {t : TA}
end
end L2
namespace L2
open PySem PySem.Spec PyProof.Rows PySem.W
section
variable {X : Cx}
end
end L2
namespace Tr
open PySem PySem.Spec PyProof.Rows L2
set_option linter.all false
end Tr
namespace L2
open PySem PySem.Spec PyProof.Rows PySem.W
section
variable {P : Program} {w : World} {K : PySem.W.Frag} {mg : Str → Option Value} {base : Heap}
end
end L2
namespace L2
open PySem PySem.F PySem.Spec PyProof.Rows PySem.W
set_option maxRecDepth 100000
section
variable {prog : Program} {w : World} {A : Around} {E : Value → Shared → Prop} {s : Shared}
end
section
variable {X : Cx}
end
section
variable {X : Cx}
end
section
variable {X : Cx}
end
end L2
namespace L2
open PySem PySem.Spec PyProof.Rows PySem.W
section
variable {X : Cx}
end
end L2
namespace L2
open PySem PySem.Spec PyProof.Rows PySem.W
section
variable {X : Cx} {pins : List (Addr × Obj)} {σ : St} {H : Hp} {s : Shared}
end
section
variable {X : Cx} {k : Nat} {f C : Addr} {fd : FuncData} {ps : List Str} {sp : Sp} {x : Str} {p pos cpos : Pos} {e : Expr} {es : List Expr} {t : TA}
end
section
variable {X : Cx}
end
section
variable {X : Cx}
end
end L2
namespace L2
open PySem PySem.Spec PyProof.Rows PySem.W
section
variable {X : Cx} {e : Expr} {te : TE} {pos : Pos}
end
end L2
namespace L2
open PySem PySem.Spec PyProof.Rows PySem.W
section
variable {X : Cx} {K : PySem.W.Frag} {o e : Expr} {es : List Expr} {to : TE} {t : TA} {name : Str} {apos cpos : Pos} {T id : String} {r : V → List V → Hp → VK → Prop}
end
end L2
namespace L2
open PySem PySem.Spec PyProof.Rows
section
variable {X : Cx}
end
end L2
namespace L2
open PySem PySem.Spec PyProof.Rows
section
variable {prog : Program} {w : World} {A : Around} {E : Value → Shared → Prop} {s : Shared} {κ : KeyKind}
def KOk (κ : KeyKind) (p : Keyed) : Prop := ∃ z, κ.keyOf p.1 = some z
def ky (κ : KeyKind) (p : Keyed) : κ.α := KK κ #[p] 0
theorem ky_of {p : Keyed} {z : κ.α} (h : κ.keyOf p.1 = some z) : ky κ p = z := by
  unfold ky KK
  show (κ.keyOf p.1).getD _ = z
  rw [h]
  rfl
theorem wpS_lt2 (hO : κ.OneLt) {x y : Keyed} {st : SortSt} {Q : Option Bool → SortSt → Prop} (hk : kindOf st = oneType') (hx : KOk κ x) (hy : KOk κ y) (h : Q (some (κ.blt (ky κ x) (ky κ y))) st) : wpS (model prog w) A E s (lt' x y) Q st := by
  obtain ⟨p, hp⟩ := hx
  obtain ⟨q, hq⟩ := hy
  rw [ky_of hp, ky_of hq] at h
  rw [lt'_eq]
  refine wpS_bind (wpS_get ?_)
  rw [hk, keyLt'_oneType]
  exact wpS_bind (wpS_lift (wpAny_attempt (hO prog w A _ s x.1 y.1 p q hp hq ⟨rfl, wpS_pure h⟩)))
theorem wpS_elem {arr : Array Keyed} {i : Nat} {p : Keyed} {st : SortSt} {Q : Keyed → SortSt → Prop} (e : arr[i]? = some p) (h : Q p st) : wpS (model prog w) A E s (elem' arr i) Q st := by
  rw [elem'_eq, e]
  exact wpS_pure h
def gallop' : Bool → Keyed → Array Keyed → Nat → Nat → Nat → StateT SortSt Sem (Option Nat) := sortPriv% PySem.Builtin.gallop
def byd (left : Bool) (key : Keyed) (arr : Array Keyed) (base i : Nat) : StateT SortSt Sem (Option Bool) := do
  let x ← elem' arr (base + i)
  if left then lt' x key else return (← lt' key x).map (!·)
theorem gallop'_eq (left : Bool) (key : Keyed) (arr : Array Keyed) (base n hint : Nat) : gallop' left key arr base n hint = (do
  let mut la := 0
  let mut ofs := 1
  let mut lo := 0
  let mut hi := 0
  let some rt ← byd left key arr base hint | return none
  if rt then
    let mx := n - hint
    for _ in [0:n] do
      if ofs ≥ mx then break
      let some mo ← byd left key arr base (hint + ofs) | return none
      if !mo then break
      la := ofs
      ofs := 2 * ofs + 1
    lo := hint + la + 1
    hi := hint + min ofs mx
  else
    let mx := hint + 1
    for _ in [0:n] do
      if ofs ≥ mx then break
      let some fo ← byd left key arr base (hint - ofs) | return none
      if fo then break
      la := ofs
      ofs := 2 * ofs + 1
    lo := hint + 1 - min ofs mx
    hi := hint - la
  for _ in [0:n] do
    if lo ≥ hi then break
    let m := lo + (hi - lo) / 2
    let some mo ← byd left key arr base m | return none
    if mo then lo := m + 1 else hi := m
  return some hi) := rfl
def gtail (left : Bool) (key : Keyed) (arr : Array Keyed) (base n lo hi : Nat) : StateT SortSt Sem (Option Nat) := do
  let mut lo := lo
  let mut hi := hi
  for _ in [0:n] do
    if lo ≥ hi then break
    let m := lo + (hi - lo) / 2
    let some mo ← byd left key arr base m | return none
    if mo then lo := m + 1 else hi := m
  return some hi
section
variable {left : Bool} {key : Keyed} {arr : Array Keyed} {base n hint : Nat} {st : SortSt} {Q : Option Nat → SortSt → Prop}
theorem wpS_gtail {lo hi : Nat} (pr : Nat → Bool)
    (hp : ∀ i, i < n → ∀ Q : Option Bool → SortSt → Prop, Q (some (pr i)) st → wpS (model prog w) A E s (byd left key arr base i) Q st)
    (mono : ∀ i j, i ≤ j → j < n → pr j = true → pr i = true)
    (h : ∀ k, k ≤ n → (∀ i, i < k → pr i = true) → (∀ i, k ≤ i → i < n → pr i = false) → Q (some k) st) (h1 : lo ≤ hi) (h2 : hi ≤ n) (h3 : ∀ i, i < lo → pr i = true) (h4 : ∀ i, hi ≤ i → i < n → pr i = false) : wpS (model prog w) A E s (gtail left key arr base n lo hi) Q st := by
  unfold gtail
  refine wpS_bind (wpS_mono (wpS_forRange (I := fun x c st' => st' = st ∧ ∃ lo hi, c = (none, lo, hi) ∧ lo ≤ hi ∧ hi ≤ n ∧ hi - lo ≤ n - x ∧ (∀ i, i < lo → pr i = true) ∧ ∀ i, hi ≤ i → i < n → pr i = false) (Q := fun c st' => st' = st ∧ ∃ k, c = (none, k, k) ∧ k ≤ n ∧ (∀ i, i < k → pr i = true) ∧ ∀ i, k ≤ i → i < n → pr i = false) ?_ ?_ ⟨rfl, lo, hi, rfl, h1, h2, by omega, h3, h4⟩) ?_)
  · rintro x c st' _ hx ⟨rfl, lo, hi, rfl, a1, a2, a3, a4, a5⟩
    dsimp only
    by_cases c1 : lo ≥ hi
    · rw [if_pos c1]
      obtain rfl : lo = hi := by omega
      exact wpS_pure ⟨rfl, lo, rfl, a2, a4, a5⟩
    · rw [if_neg c1]
      refine wpS_bind (hp _ (by omega) _ ?_)
      dsimp only
      cases e : pr (lo + (hi - lo) / 2) with
      | true =>
        rw [if_pos rfl]
        exact wpS_pure ⟨rfl, _, _, rfl, by omega, a2, by omega, fun i hi' => mono i _ (by omega) (by omega) e, a5⟩
      | false =>
        rw [if_neg (by decide)]
        refine wpS_pure ⟨rfl, _, _, rfl, by omega, by omega, by omega, a4, fun i b1 b2 => ?_⟩
        cases e2 : pr i with
        | false => rfl
        | true => rw [mono _ i b1 b2 e2] at e; cases e
  · rintro c st' ⟨rfl, lo, hi, rfl, a1, a2, a3, a4, a5⟩
    obtain rfl : lo = hi := by omega
    exact ⟨rfl, lo, rfl, a2, a4, a5⟩
  · rintro c st' ⟨rfl, k, rfl, a1, a2, a3⟩
    exact wpS_pure (h k a1 a2 a3)
theorem wpS_gallop (pr : Nat → Bool)
    (hp : ∀ i, i < n → ∀ Q : Option Bool → SortSt → Prop, Q (some (pr i)) st → wpS (model prog w) A E s (byd left key arr base i) Q st)
    (mono : ∀ i j, i ≤ j → j < n → pr j = true → pr i = true) (hh : hint < n)
    (h : ∀ k, k ≤ n → (∀ i, i < k → pr i = true) → (∀ i, k ≤ i → i < n → pr i = false) → Q (some k) st) : wpS (model prog w) A E s (gallop' left key arr base n hint) Q st := by
  have mono2 : ∀ i j, i ≤ j → j < n → pr i = false → pr j = false := fun i j ij jn hi => by
    cases e : pr j with
    | false => rfl
    | true => rw [mono i j ij jn e] at hi; cases hi
  rw [gallop'_eq]
  refine wpS_bind (hp hint hh _ ?_)
  dsimp only
  cases e : pr hint with
  | true =>
    simp only [if_true]
    refine wpS_bind (wpS_mono (wpS_forRange (I := fun x c st' => st' = st ∧ ∃ la ofs, c = (none, la, ofs) ∧ la < ofs ∧ x < ofs ∧ hint + la < n ∧ pr (hint + la) = true) (Q := fun c st' => st' = st ∧ ∃ la ofs, c = (none, la, ofs) ∧ la < ofs ∧ hint + la < n ∧ pr (hint + la) = true ∧ (ofs ≥ n - hint ∨ pr (hint + ofs) = false)) ?_ ?_ ⟨rfl, 0, 1, rfl, by omega, by omega, by omega, e⟩) ?_)
    · rintro x c st' _ hx ⟨rfl, la, ofs, rfl, a1, a2, a3, a4⟩
      dsimp only
      by_cases c1 : ofs ≥ n - hint
      · rw [if_pos c1]
        exact wpS_pure ⟨rfl, la, ofs, rfl, a1, a3, a4, .inl c1⟩
      · rw [if_neg c1]
        refine wpS_bind (hp _ (by omega) _ ?_)
        dsimp only
        cases e2 : pr (hint + ofs) with
        | true =>
          rw [if_neg (by decide)]
          exact wpS_pure ⟨rfl, ofs, _, rfl, by omega, by omega, by omega, e2⟩
        | false =>
          rw [if_pos (by decide)]
          exact wpS_pure ⟨rfl, la, ofs, rfl, a1, a3, a4, .inr e2⟩
    · rintro c st' ⟨rfl, la, ofs, rfl, a1, a2, a3, a4⟩
      exact ⟨rfl, la, ofs, rfl, a1, a3, a4, .inl (by omega)⟩
    · rintro c st' ⟨rfl, la, ofs, rfl, a1, a3, a4, a5⟩
      show wpS (model prog w) A E s (gtail left key arr base n (hint + la + 1) (hint + min ofs (n - hint))) Q _
      refine wpS_gtail pr hp mono h (by omega) (by omega) (fun i hi => mono i _ (by omega) a3 a4) fun i b1 b2 => ?_
      rcases a5 with a5 | a5
      · omega
      · rcases Nat.lt_or_ge ofs (n - hint) with c2 | c2
        · exact mono2 _ i (by omega) b2 a5
        · omega
  | false =>
    simp only [Bool.false_eq_true, if_false]
    refine wpS_bind (wpS_mono (wpS_forRange (I := fun x c st' => st' = st ∧ ∃ la ofs, c = (none, la, ofs) ∧ la < ofs ∧ x < ofs ∧ la ≤ hint ∧ pr (hint - la) = false) (Q := fun c st' => st' = st ∧ ∃ la ofs, c = (none, la, ofs) ∧ la < ofs ∧ la ≤ hint ∧ pr (hint - la) = false ∧ (ofs ≥ hint + 1 ∨ pr (hint - ofs) = true)) ?_ ?_ ⟨rfl, 0, 1, rfl, by omega, by omega, by omega, e⟩) ?_)
    · rintro x c st' _ hx ⟨rfl, la, ofs, rfl, a1, a2, a3, a4⟩
      dsimp only
      by_cases c1 : ofs ≥ hint + 1
      · rw [if_pos c1]
        exact wpS_pure ⟨rfl, la, ofs, rfl, a1, a3, a4, .inl c1⟩
      · rw [if_neg c1]
        refine wpS_bind (hp _ (by omega) _ ?_)
        dsimp only
        cases e2 : pr (hint - ofs) with
        | true =>
          rw [if_pos rfl]
          exact wpS_pure ⟨rfl, la, ofs, rfl, a1, a3, a4, .inr e2⟩
        | false =>
          rw [if_neg (by decide)]
          exact wpS_pure ⟨rfl, ofs, _, rfl, by omega, by omega, by omega, e2⟩
    · rintro c st' ⟨rfl, la, ofs, rfl, a1, a2, a3, a4⟩
      exact ⟨rfl, la, ofs, rfl, a1, a3, a4, .inl (by omega)⟩
    · rintro c st' ⟨rfl, la, ofs, rfl, a1, a3, a4, a5⟩
      show wpS (model prog w) A E s (gtail left key arr base n (hint + 1 - min ofs (hint + 1)) (hint - la)) Q _
      refine wpS_gtail pr hp mono h (by omega) (by omega) (fun i hi => ?_) fun i b1 b2 => mono2 _ i (by omega) b2 a4
      rcases a5 with a5 | a5
      · omega
      · rcases Nat.lt_or_ge ofs (hint + 1) with c2 | c2
        · exact mono i _ (by omega) (by omega) a5
        · omega
end
theorem wpS_byd (hO : κ.OneLt) {left : Bool} {key : Keyed} {arr : Array Keyed} {base i : Nat} {p : Keyed} {st : SortSt} {Q : Option Bool → SortSt → Prop} (hk : kindOf st = oneType') (hx : KOk κ key) (e : arr[base + i]? = some p) (hy : KOk κ p) (h : Q (some (if left = true then κ.blt (ky κ p) (ky κ key) else !κ.blt (ky κ key) (ky κ p))) st) : wpS (model prog w) A E s (byd left key arr base i) Q st := by
  unfold byd
  refine wpS_bind (wpS_elem e ?_)
  cases left with
  | true => exact wpS_lt2 hO hk hy hx h
  | false => exact wpS_bind (wpS_lt2 hO hk hx hy (wpS_pure h))
end
end L2
namespace L2
open PySem PySem.Spec PyProof.Rows
section
variable {prog : Program} {w : World} {A : Around} {E : Value → Shared → Prop} {s : Shared} {κ : KeyKind}
structure MS (r : Keyed → Keyed → Prop) (T o X Y : List Keyed) : Prop where
  pm : (o ++ X ++ Y).Perm T
  sx : (o ++ X).Pairwise r
  sy : (o ++ Y).Pairwise r
section
variable {r : Keyed → Keyed → Prop} {T o X Y Z : List Keyed}
theorem MS.left (h : MS r T o (Z ++ X) Y) (k : ∀ x ∈ Z, ∀ y ∈ Y, r x y) : MS r T (o ++ Z) X Y := by
  refine ⟨?_, ?_, ?_⟩
  · have := h.pm
    simpa [List.append_assoc] using this
  · rw [List.append_assoc]
    exact h.sx
  · have s1 := h.sx
    have s2 := h.sy
    rw [← List.append_assoc] at s1
    rw [List.pairwise_append] at s1 s2 ⊢
    refine ⟨s1.1, s2.2.1, fun x hx y hy => ?_⟩
    rcases List.mem_append.mp hx with q | q
    · exact s2.2.2 x q y hy
    · exact k x q y hy
theorem MS.right (h : MS r T o X (Z ++ Y)) (k : ∀ y ∈ Z, ∀ x ∈ X, r y x) : MS r T (o ++ Z) X Y := by
  refine ⟨?_, ?_, ?_⟩
  · refine List.Perm.trans ?_ h.pm
    rw [List.append_assoc, List.append_assoc, List.append_assoc]
    refine List.Perm.append_left _ ?_
    rw [← List.append_assoc, ← List.append_assoc]
    exact List.perm_append_comm.append_right _
  · have s1 := h.sx
    have s2 := h.sy
    rw [← List.append_assoc] at s2
    rw [List.pairwise_append] at s1 s2 ⊢
    refine ⟨s2.1, s1.2.1, fun x hx y hy => ?_⟩
    rcases List.mem_append.mp hx with q | q
    · exact s1.2.2 x q y hy
    · exact k x q y hy
  · rw [List.append_assoc]
    exact h.sy
def Mgd (r : Keyed → Keyed → Prop) (T out : List Keyed) : Prop := out.Perm T ∧ out.Pairwise r
theorem MS.endY (h : MS r T o X []) : Mgd r T (o ++ X) := ⟨by have := h.pm; rwa [List.append_nil] at this, h.sx⟩
theorem MS.endX (h : MS r T o [] Y) : Mgd r T (o ++ Y) := ⟨by have := h.pm; rwa [List.append_nil] at this, h.sy⟩
theorem MS.lastX {z : Keyed} (h : MS r T o [z] Y) (k : ∀ y ∈ Y, r y z) : Mgd r T (o ++ Y ++ [z]) := by
  refine ⟨?_, ?_⟩
  · refine List.Perm.trans ?_ h.pm
    rw [List.append_assoc, List.append_assoc]
    exact List.Perm.append_left _ List.perm_append_comm
  · have s1 := h.sx
    have s2 := h.sy
    rw [List.pairwise_append] at s1 s2 ⊢
    refine ⟨List.pairwise_append.mpr s2, List.pairwise_singleton _ _, fun x hx y hy => ?_⟩
    rcases List.mem_append.mp hx with q | q
    · exact s1.2.2 x q y hy
    · obtain rfl := List.mem_singleton.mp hy
      exact k x q
end
def kLe (κ : KeyKind) (p q : Keyed) : Prop := κ.kle (ky κ p) (ky κ q)
def kLt (κ : KeyKind) (p q : Keyed) : Prop := κ.klt (ky κ p) (ky κ q)
theorem kLt.le {p q : Keyed} (h : kLt κ p q) : kLe κ p q := KeyOrd.kle_of_klt h
def mergeLo' : Array Keyed → Array Keyed → StateT SortSt Sem (Array Keyed) := sortPriv% PySem.Builtin.mergeLo
def setMg (g : Nat) : StateT SortSt Sem Unit := modify fun s => SortSt.mk' (kindOf s) (arrOf s) (pendingOf s) g (failedOf s)
def finA (a b out : Array Keyed) (ia ib : Nat) : Array Keyed := out ++ a.extract ia a.size ++ b.extract ib b.size
def lstA (a b out : Array Keyed) (ia ib : Nat) : Array Keyed := out ++ b.extract ib b.size ++ a.extract ia a.size
abbrev L6 : Type := Option (Array Keyed) × Array Keyed × Nat × Nat × Nat × Nat
abbrev L7 : Type := Option (Array Keyed) × Array Keyed × Nat × Nat × Nat × Nat × Nat
def lo1 (a b : Array Keyed) (mg : Nat) (c : L6) : StateT SortSt Sem (ForInStep L6) := do
  let y ← elem' b c.2.2.2.1
  let x ← elem' a c.2.2.1
  let t ← lt' y x
  match t with
  | some bw =>
    if bw = true then do
      let y ← elem' b c.2.2.2.1
      if (c.2.2.2.1 + 1 == b.size) = true then pure (.done (some (finA a b (c.2.1.push y) c.2.2.1 (c.2.2.2.1 + 1)), c.2.1.push y, c.2.2.1, c.2.2.2.1 + 1, 0, c.2.2.2.2.2 + 1))
      else if c.2.2.2.2.2 + 1 ≥ mg then pure (.done (none, c.2.1.push y, c.2.2.1, c.2.2.2.1 + 1, 0, c.2.2.2.2.2 + 1))
      else pure (.yield (none, c.2.1.push y, c.2.2.1, c.2.2.2.1 + 1, 0, c.2.2.2.2.2 + 1))
    else do
      let x ← elem' a c.2.2.1
      if (c.2.2.1 + 1 + 1 == a.size) = true then pure (.done (some (lstA a b (c.2.1.push x) (c.2.2.1 + 1) c.2.2.2.1), c.2.1.push x, c.2.2.1 + 1, c.2.2.2.1, c.2.2.2.2.1 + 1, 0))
      else if c.2.2.2.2.1 + 1 ≥ mg then pure (.done (none, c.2.1.push x, c.2.2.1 + 1, c.2.2.2.1, c.2.2.2.2.1 + 1, 0))
      else pure (.yield (none, c.2.1.push x, c.2.2.1 + 1, c.2.2.2.1, c.2.2.2.2.1 + 1, 0))
  | _ => pure (.done (some (finA a b c.2.1 c.2.2.1 c.2.2.2.1), c.2.1, c.2.2.1, c.2.2.2.1, c.2.2.2.2.1, c.2.2.2.2.2))
def lo3c (a b out : Array Keyed) (ia ib mg ac bc : Nat) : StateT SortSt Sem (ForInStep L7) := do
  let x ← elem' a ia
  if (ia + 1 + 1 == a.size) = true then pure (.done (some (lstA a b (out.push x) (ia + 1) ib), out.push x, ia + 1, ib, mg, ac, bc))
  else if (decide (ac < 7) && decide (bc < 7)) = true then pure (.done (none, out.push x, ia + 1, ib, mg, ac, bc))
  else pure (.yield (none, out.push x, ia + 1, ib, mg, ac, bc))
def lo3b (a b out : Array Keyed) (ia ib mg ac bc : Nat) : StateT SortSt Sem (ForInStep L7) := do
  let y ← elem' b ib
  if (ib + 1 == b.size) = true then pure (.done (some (finA a b (out.push y) ia (ib + 1)), out.push y, ia, ib + 1, mg, ac, bc))
  else do
    let x ← elem' a ia
    let t ← gallop' true x b (ib + 1) (b.size - (ib + 1)) 0
    match t with
    | some k =>
      if k > 0 then
        if (ib + 1 + k == b.size) = true then pure (.done (some (finA a b (out.push y ++ b.extract (ib + 1) (ib + 1 + k)) ia (ib + 1 + k)), out.push y ++ b.extract (ib + 1) (ib + 1 + k), ia, ib + 1 + k, mg, ac, k))
        else lo3c a b (out.push y ++ b.extract (ib + 1) (ib + 1 + k)) ia (ib + 1 + k) mg ac k
      else lo3c a b (out.push y) ia (ib + 1) mg ac k
    | _ => pure (.done (some (finA a b (out.push y) ia (ib + 1)), out.push y, ia, ib + 1, mg, ac, bc))
def lo3 (a b out : Array Keyed) (ia ib mg ac bc : Nat) : StateT SortSt Sem (ForInStep L7) := do
  setMg mg
  let y ← elem' b ib
  let t ← gallop' false y a ia (a.size - ia) 0
  match t with
  | some k =>
    if k > 0 then
      if (ia + k + 1 == a.size) = true then pure (.done (some (lstA a b (out ++ a.extract ia (ia + k)) (ia + k) ib), out ++ a.extract ia (ia + k), ia + k, ib, mg, k, bc))
      else if (ia + k == a.size) = true then pure (.done (some (finA a b (out ++ a.extract ia (ia + k)) (ia + k) ib), out ++ a.extract ia (ia + k), ia + k, ib, mg, k, bc))
      else lo3b a b (out ++ a.extract ia (ia + k)) (ia + k) ib mg k bc
    else lo3b a b out ia ib mg k bc
  | _ => pure (.done (some (finA a b out ia ib), out, ia, ib, mg, ac, bc))
theorem mergeLo'_do (a b : Array Keyed) : mergeLo' a b = (do
  rule "list.sort.merge-lo"
  let tot := a.size + b.size
  let fin (out : Array Keyed) (ia ib : Nat) := out ++ a.extract ia a.size ++ b.extract ib b.size
  let lst (out : Array Keyed) (ia ib : Nat) := out ++ b.extract ib b.size ++ a.extract ia a.size
  let mut out : Array Keyed := #[← elem' b 0]
  let mut ia := 0
  let mut ib := 1
  if ib == b.size then return fin out ia ib
  if ia + 1 == a.size then return lst out ia ib
  let mut mg := gallopOf (← get)
  for _ in [0:tot] do
    let mut ac := 0
    let mut bc := 0
    for _ in [0:tot] do
      let some bw ← lt' (← elem' b ib) (← elem' a ia) | return fin out ia ib
      if bw then
        out := out.push (← elem' b ib); ib := ib + 1; bc := bc + 1; ac := 0
        if ib == b.size then return fin out ia ib
        if bc ≥ mg then break
      else
        out := out.push (← elem' a ia); ia := ia + 1; ac := ac + 1; bc := 0
        if ia + 1 == a.size then return lst out ia ib
        if ac ≥ mg then break
    rule "list.sort.gallop"
    mg := mg + 1
    for _ in [0:tot] do
      if mg > 1 then mg := mg - 1
      setMg mg
      let some k ← gallop' false (← elem' b ib) a ia (a.size - ia) 0 | return fin out ia ib
      ac := k
      if k > 0 then
        out := out ++ a.extract ia (ia + k); ia := ia + k
        if ia + 1 == a.size then return lst out ia ib
        if ia == a.size then return fin out ia ib
      out := out.push (← elem' b ib); ib := ib + 1
      if ib == b.size then return fin out ia ib
      let some k ← gallop' true (← elem' a ia) b ib (b.size - ib) 0 | return fin out ia ib
      bc := k
      if k > 0 then
        out := out ++ b.extract ib (ib + k); ib := ib + k
        if ib == b.size then return fin out ia ib
      out := out.push (← elem' a ia); ia := ia + 1
      if ia + 1 == a.size then return lst out ia ib
      if ac < 7 && bc < 7 then break
    mg := mg + 1
    setMg mg
  unsupported "internal:list.sort.merge-bound") := rfl
def pb (κ : KeyKind) (left : Bool) (key p : Keyed) : Bool := if left = true then κ.blt (ky κ p) (ky κ key) else !κ.blt (ky κ key) (ky κ p)
theorem pb_mono {left : Bool} {key p q : Keyed} (h : kLe κ p q) (e : pb κ left key q = true) : pb κ left key p = true := by
  unfold pb at *
  cases left with
  | true => exact KeyOrd.klt_of_kle_of_klt h e
  | false =>
    have e : (!κ.blt (ky κ key) (ky κ q)) = true := e
    show (!κ.blt (ky κ key) (ky κ p)) = true
    have e : κ.blt (ky κ key) (ky κ q) = false := by simpa using e
    have : κ.kle (ky κ p) (ky κ key) := KeyOrd.kle_trans h e
    rw [show κ.blt (ky κ key) (ky κ p) = false from this]
    rfl
theorem wpS_gal (hO : κ.OneLt) {left : Bool} {key : Keyed} {arr : Array Keyed} {base n hint : Nat} {st : SortSt} {Q : Option Nat → SortSt → Prop} (hk : kindOf st = oneType') (kk : KOk κ key) (ok : ∀ p ∈ arr.toList, KOk κ p) (hb : base + n ≤ arr.size) (hh : hint < n) (so : ((arr.toList.drop base).take n).Pairwise (kLe κ))
    (h : ∀ k, k ≤ n → (∀ p ∈ ((arr.toList.drop base).take n).take k, pb κ left key p = true) → (∀ p ∈ ((arr.toList.drop base).take n).drop k, pb κ left key p = false) → Q (some k) st) : wpS (model prog w) A E s (gallop' left key arr base n hint) Q st := by
  have ln : ((arr.toList.drop base).take n).length = n := by rw [List.length_take, List.length_drop, Array.length_toList]; omega
  have atL : ∀ i, i < n → arr[base + i]? = ((arr.toList.drop base).take n)[i]? := fun i hi => by
    rw [List.getElem?_take_of_lt hi, List.getElem?_drop, Array.getElem?_toList]
  have mem : ∀ p ∈ (arr.toList.drop base).take n, p ∈ arr.toList := fun p hp => List.mem_of_mem_drop (List.mem_of_mem_take hp)
  generalize (arr.toList.drop base).take n = L at ln atL so h mem
  have get : ∀ i, i < n → ∃ p, L[i]? = some p ∧ p ∈ L := fun i hi => ⟨L[i]'(by omega), List.getElem?_eq_getElem (by omega), List.getElem_mem _⟩
  refine wpS_gallop (fun i => match L[i]? with | some p => pb κ left key p | none => false) (fun i hi Q' hq => ?_) (fun i j ij jn e => ?_) hh (fun k kn h1 h2 => h k kn (fun p hp => ?_) (fun p hp => ?_))
  · obtain ⟨p, e, hp⟩ := get i hi
    rw [e] at hq
    exact wpS_byd hO hk kk (by rw [atL i hi]; exact e) (ok p (mem p hp)) hq
  · obtain ⟨p, e1, _⟩ := get i (by omega)
    obtain ⟨q, e2, _⟩ := get j jn
    rw [e2] at e
    rw [e1]
    rcases Nat.lt_or_eq_of_le ij with c | rfl
    · refine pb_mono ?_ e
      rw [List.pairwise_iff_getElem] at so
      have := so i j (by omega) (by omega) c
      obtain ⟨_, g1⟩ := List.getElem?_eq_some_iff.mp e1
      obtain ⟨_, g2⟩ := List.getElem?_eq_some_iff.mp e2
      rwa [g1, g2] at this
    · rw [e1] at e2
      cases e2
      exact e
  · obtain ⟨i, hi⟩ := List.getElem?_of_mem hp
    have il := (List.getElem?_eq_some_iff.mp hi).1
    rw [List.length_take] at il
    rw [List.getElem?_take_of_lt (by omega)] at hi
    have := h1 i (by omega)
    rwa [hi] at this
  · obtain ⟨i, hi⟩ := List.getElem?_of_mem hp
    have il := (List.getElem?_eq_some_iff.mp hi).1
    rw [List.length_drop] at il
    rw [List.getElem?_drop] at hi
    have := h2 (k + i) (by omega) (by omega)
    rwa [hi] at this
theorem drp {a : Array Keyed} {i : Nat} (h : i < a.size) : ∃ x, a[i]? = some x ∧ a.toList.drop i = x :: a.toList.drop (i + 1) ∧ x ∈ a.toList := by
  have hl : i < a.toList.length := by rw [Array.length_toList]; exact h
  exact ⟨a.toList[i], by rw [← Array.getElem?_toList]; exact List.getElem?_eq_getElem hl, List.drop_eq_getElem_cons hl, List.getElem_mem _⟩
theorem extA (a : Array Keyed) (i : Nat) : (a.extract i a.size).toList = a.toList.drop i := by
  rw [Array.toList_extract, List.extract_eq_take_drop, List.take_of_length_le (by rw [List.length_drop, Array.length_toList]; omega)]
theorem extK (a : Array Keyed) (i k : Nat) : (a.extract i (i + k)).toList = (a.toList.drop i).take k := by
  rw [Array.toList_extract, List.extract_eq_take_drop, Nat.add_sub_cancel_left]
theorem finA_list (a b out : Array Keyed) (ia ib : Nat) : (finA a b out ia ib).toList = out.toList ++ a.toList.drop ia ++ b.toList.drop ib := by
  unfold finA
  rw [Array.toList_append, Array.toList_append, extA, extA]
theorem lstA_list (a b out : Array Keyed) (ia ib : Nat) : (lstA a b out ia ib).toList = out.toList ++ b.toList.drop ib ++ a.toList.drop ia := by
  unfold lstA
  rw [Array.toList_append, Array.toList_append, extA, extA]
structure MPre (κ : KeyKind) (a b : Array Keyed) : Prop where
  ka : ∀ p ∈ a.toList, KOk κ p
  kb : ∀ p ∈ b.toList, KOk κ p
  za : 0 < a.size
  zb : 0 < b.size
  la : ∀ y ∈ b.toList, ∀ z, a[a.size - 1]? = some z → kLt κ y z
structure LoI (κ : KeyKind) (a b : Array Keyed) (n : Nat) (out : Array Keyed) (ia ib : Nat) : Prop where
  ms : MS (kLe κ) (a.toList ++ b.toList) out.toList (a.toList.drop ia) (b.toList.drop ib)
  ha : ia + 1 < a.size
  hb : ib < b.size
  hn : n ≤ out.size
def SameS (st st' : SortSt) : Prop := kindOf st' = kindOf st ∧ arrOf st' = arrOf st ∧ pendingOf st' = pendingOf st ∧ failedOf st' = failedOf st
theorem SameS.refl (st : SortSt) : SameS st st := ⟨rfl, rfl, rfl, rfl⟩
theorem SameS.trans {x y z : SortSt} (h : SameS x y) (k : SameS y z) : SameS x z := ⟨k.1.trans h.1, k.2.1.trans h.2.1, k.2.2.1.trans h.2.2.1, k.2.2.2.trans h.2.2.2⟩
def MRes (κ : KeyKind) (a b r : Array Keyed) : Prop := Mgd (kLe κ) (a.toList ++ b.toList) r.toList
section
variable {a b out : Array Keyed} {ia ib n : Nat}
theorem lo_sorted {o X Y T : List Keyed} (h : MS (kLe κ) T o X Y) : X.Pairwise (kLe κ) ∧ Y.Pairwise (kLe κ) := ⟨(List.pairwise_append.mp h.sx).2.1, (List.pairwise_append.mp h.sy).2.1⟩
theorem lo_fin (h : MS (kLe κ) (a.toList ++ b.toList) out.toList (a.toList.drop ia) (b.toList.drop ib)) (e : ia = a.size ∨ ib = b.size) : MRes κ a b (finA a b out ia ib) := by
  unfold MRes
  rw [finA_list]
  rcases e with rfl | rfl
  · have e0 : a.toList.drop a.size = [] := List.drop_of_length_le (by rw [Array.length_toList]; exact Nat.le_refl _)
    rw [e0] at h ⊢
    rw [List.append_nil]
    exact h.endX
  · have e0 : b.toList.drop b.size = [] := List.drop_of_length_le (by rw [Array.length_toList]; exact Nat.le_refl _)
    rw [e0] at h ⊢
    rw [List.append_nil]
    exact h.endY
theorem lo_lst (pre : MPre κ a b) (h : MS (kLe κ) (a.toList ++ b.toList) out.toList (a.toList.drop ia) (b.toList.drop ib)) (e : ia + 1 = a.size) : MRes κ a b (lstA a b out ia ib) := by
  unfold MRes
  rw [lstA_list]
  obtain ⟨z, ez, dz, _⟩ := drp (a := a) (i := ia) (by omega)
  have e0 : a.toList.drop (ia + 1) = [] := List.drop_of_length_le (by rw [Array.length_toList]; omega)
  rw [e0] at dz
  rw [dz] at h ⊢
  refine h.lastX fun y hy => (pre.la y (List.mem_of_mem_drop hy) z ?_).le
  rw [show a.size - 1 = ia by omega]
  exact ez
theorem lo_y (h : MS (kLe κ) (a.toList ++ b.toList) out.toList (a.toList.drop ia) (b.toList.drop ib)) {y : Keyed} (dy : b.toList.drop ib = y :: b.toList.drop (ib + 1)) (le : ∀ x ∈ a.toList.drop ia, kLe κ y x) : MS (kLe κ) (a.toList ++ b.toList) (out.push y).toList (a.toList.drop ia) (b.toList.drop (ib + 1)) := by
  rw [dy] at h
  rw [Array.toList_push]
  exact MS.right (Z := [y]) h fun y' hy' x hx => by obtain rfl := List.mem_singleton.mp hy'; exact le x hx
theorem lo_x (h : MS (kLe κ) (a.toList ++ b.toList) out.toList (a.toList.drop ia) (b.toList.drop ib)) {x : Keyed} (dx : a.toList.drop ia = x :: a.toList.drop (ia + 1)) (le : ∀ y ∈ b.toList.drop ib, kLe κ x y) : MS (kLe κ) (a.toList ++ b.toList) (out.push x).toList (a.toList.drop (ia + 1)) (b.toList.drop ib) := by
  rw [dx] at h
  rw [Array.toList_push]
  exact MS.left (Z := [x]) h fun x' hx' y hy => by obtain rfl := List.mem_singleton.mp hx'; exact le y hy
theorem head_le {x : Keyed} {X : List Keyed} (h : (x :: X).Pairwise (kLe κ)) : ∀ z ∈ x :: X, kLe κ x z := fun z hz => by
  rcases List.mem_cons.mp hz with rfl | hz
  · exact KeyOrd.kle_refl _
  · exact (List.pairwise_cons.mp h).1 z hz
theorem wpS_lo1 (hO : κ.OneLt) {st : SortSt} (hk : kindOf st = oneType') (pre : MPre κ a b) {mg ac bc : Nat} (h : LoI κ a b n out ia ib) {R : ForInStep L6 → SortSt → Prop}
    (q1 : ∀ r c, MRes κ a b r → R (.done (some r, c)) st) (q2 : ∀ out ia ib ac bc, LoI κ a b (n + 1) out ia ib → R (.done (none, out, ia, ib, ac, bc)) st) (q3 : ∀ out ia ib ac bc, LoI κ a b (n + 1) out ia ib → R (.yield (none, out, ia, ib, ac, bc)) st) :
    wpS (model prog w) A E s (lo1 a b mg (none, out, ia, ib, ac, bc)) R st := by
  obtain ⟨y, ey, dy, my⟩ := drp h.hb
  obtain ⟨x, ex, dx, mx⟩ := drp (a := a) (i := ia) (by have := h.ha; omega)
  obtain ⟨sx, sy⟩ := lo_sorted h.ms
  unfold lo1
  refine wpS_bind (wpS_elem ey (wpS_bind (wpS_elem ex (wpS_bind (wpS_lt2 hO hk (pre.kb y my) (pre.ka x mx) ?_)))))
  dsimp only
  have hs := h.hn
  cases e : κ.blt (ky κ y) (ky κ x) with
  | true =>
    rw [if_pos rfl]
    refine wpS_bind (wpS_elem ey ?_)
    have m2 := lo_y h.ms dy fun z hz => by
      rw [dx] at hz sx
      exact KeyOrd.kle_trans (KeyOrd.kle_of_klt e) (head_le sx z hz)
    have hs2 : n + 1 ≤ (out.push y).size := by rw [Array.size_push]; omega
    by_cases c1 : ib + 1 = b.size
    · rw [if_pos (by simpa using c1)]
      exact wpS_pure (q1 _ _ (lo_fin m2 (.inr c1)))
    · rw [if_neg (by simpa using c1)]
      have I2 : LoI κ a b (n + 1) (out.push y) ia (ib + 1) := ⟨m2, h.ha, by have := h.hb; omega, hs2⟩
      by_cases c2 : bc + 1 ≥ mg
      · rw [if_pos c2]
        exact wpS_pure (q2 _ _ _ _ _ I2)
      · rw [if_neg c2]
        exact wpS_pure (q3 _ _ _ _ _ I2)
  | false =>
    rw [if_neg (by decide)]
    refine wpS_bind (wpS_elem ex ?_)
    have m2 := lo_x h.ms dx fun z hz => by
      rw [dy] at hz sy
      exact KeyOrd.kle_trans (show κ.kle (ky κ x) (ky κ y) from e) (head_le sy z hz)
    have hs2 : n + 1 ≤ (out.push x).size := by rw [Array.size_push]; omega
    by_cases c1 : ia + 1 + 1 = a.size
    · rw [if_pos (by simpa using c1)]
      exact wpS_pure (q1 _ _ (lo_lst pre m2 c1))
    · rw [if_neg (by simpa using c1)]
      have I2 : LoI κ a b (n + 1) (out.push x) (ia + 1) ib := ⟨m2, by have := h.ha; omega, h.hb, hs2⟩
      by_cases c2 : ac + 1 ≥ mg
      · rw [if_pos c2]
        exact wpS_pure (q2 _ _ _ _ _ I2)
      · rw [if_neg c2]
        exact wpS_pure (q3 _ _ _ _ _ I2)
end
end
end L2
namespace L2
open PySem PySem.Spec PyProof.Rows
section
variable {prog : Program} {w : World} {A : Around} {E : Value → Shared → Prop} {s : Shared} {κ : KeyKind}
section
variable {a b out : Array Keyed} {ia ib n : Nat}
theorem wpS_lo3c {st : SortSt} (pre : MPre κ a b) {mg ac bc : Nat} (ms : MS (kLe κ) (a.toList ++ b.toList) out.toList (a.toList.drop ia) (b.toList.drop ib)) (ha : ia + 1 < a.size) (hb : ib < b.size) (hn : n ≤ out.size) {x : Keyed} (ex : a[ia]? = some x) (le : ∀ y ∈ b.toList.drop ib, kLe κ x y) {R : ForInStep L7 → SortSt → Prop}
    (q1 : ∀ r c, MRes κ a b r → R (.done (some r, c)) st) (q2 : ∀ out ia ib mg ac bc, LoI κ a b n out ia ib → R (.done (none, out, ia, ib, mg, ac, bc)) st) (q3 : ∀ out ia ib mg ac bc, LoI κ a b n out ia ib → R (.yield (none, out, ia, ib, mg, ac, bc)) st) :
    wpS (model prog w) A E s (lo3c a b out ia ib mg ac bc) R st := by
  obtain ⟨x', ex', dx, mx⟩ := drp (a := a) (i := ia) (by omega)
  rw [ex] at ex'
  obtain rfl := Option.some.inj ex'
  unfold lo3c
  refine wpS_bind (wpS_elem ex ?_)
  have m2 := lo_x ms dx le
  have hs2 : n ≤ (out.push x).size := by rw [Array.size_push]; omega
  by_cases c1 : ia + 1 + 1 = a.size
  · rw [if_pos (by simpa using c1)]
    exact wpS_pure (q1 _ _ (lo_lst pre m2 c1))
  · rw [if_neg (by simpa using c1)]
    have I2 : LoI κ a b n (out.push x) (ia + 1) ib := ⟨m2, by omega, hb, hs2⟩
    by_cases c2 : (decide (ac < 7) && decide (bc < 7)) = true
    · rw [if_pos c2]
      exact wpS_pure (q2 _ _ _ _ _ _ I2)
    · rw [if_neg c2]
      exact wpS_pure (q3 _ _ _ _ _ _ I2)
theorem seg_all (a : Array Keyed) (i : Nat) : (a.toList.drop i).take (a.size - i) = a.toList.drop i := List.take_of_length_le (by rw [List.length_drop, Array.length_toList]; omega)
theorem wpS_lo3b (hO : κ.OneLt) {st : SortSt} (hk : kindOf st = oneType') (pre : MPre κ a b) {mg ac bc : Nat} (ms : MS (kLe κ) (a.toList ++ b.toList) out.toList (a.toList.drop ia) (b.toList.drop ib)) (ha : ia + 1 < a.size) (hb : ib < b.size) (hn : n ≤ out.size) {y : Keyed} (ey : b[ib]? = some y) (lt : ∀ x ∈ a.toList.drop ia, kLt κ y x) {R : ForInStep L7 → SortSt → Prop}
    (q1 : ∀ r c, MRes κ a b r → R (.done (some r, c)) st) (q2 : ∀ out ia ib mg ac bc, LoI κ a b n out ia ib → R (.done (none, out, ia, ib, mg, ac, bc)) st) (q3 : ∀ out ia ib mg ac bc, LoI κ a b n out ia ib → R (.yield (none, out, ia, ib, mg, ac, bc)) st) :
    wpS (model prog w) A E s (lo3b a b out ia ib mg ac bc) R st := by
  obtain ⟨y', ey', dy, my⟩ := drp hb
  rw [ey] at ey'
  obtain rfl := Option.some.inj ey'
  obtain ⟨x, ex, dx, mx⟩ := drp (a := a) (i := ia) (by omega)
  unfold lo3b
  refine wpS_bind (wpS_elem ey ?_)
  have m2 := lo_y ms dy fun z hz => (lt z hz).le
  have hs2 : n ≤ (out.push y).size := by rw [Array.size_push]; omega
  obtain ⟨sx, sy⟩ := lo_sorted m2
  by_cases c1 : ib + 1 = b.size
  · rw [if_pos (by simpa using c1)]
    exact wpS_pure (q1 _ _ (lo_fin m2 (.inr c1)))
  · rw [if_neg (by simpa using c1)]
    refine wpS_bind (wpS_elem ex (wpS_bind (wpS_gal hO hk (pre.ka x mx) pre.kb (by omega) (by omega) (by rw [seg_all]; exact sy) fun k kn h1 h2 => ?_)))
    rw [seg_all] at h1 h2
    dsimp only
    have d2 : (b.toList.drop (ib + 1)).drop k = b.toList.drop (ib + 1 + k) := by rw [List.drop_drop]
    rw [d2] at h2
    have le2 : ∀ y' ∈ b.toList.drop (ib + 1 + k), kLe κ x y' := fun y' hy' => h2 y' hy'
    have m3 : MS (kLe κ) (a.toList ++ b.toList) (out.push y ++ b.extract (ib + 1) (ib + 1 + k)).toList (a.toList.drop ia) (b.toList.drop (ib + 1 + k)) := by
      rw [Array.toList_append, extK]
      refine MS.right (Z := (b.toList.drop (ib + 1)).take k) (by rw [← d2, List.take_append_drop]; exact m2) fun y' hy' x' hx' => ?_
      have l1 : kLt κ y' x := h1 y' hy'
      rw [dx] at hx' sx
      exact KeyOrd.kle_trans l1.le (head_le sx x' hx')
    by_cases c2 : k > 0
    · rw [if_pos c2]
      by_cases c3 : ib + 1 + k = b.size
      · rw [if_pos (by simpa using c3)]
        exact wpS_pure (q1 _ _ (lo_fin m3 (.inr c3)))
      · rw [if_neg (by simpa using c3)]
        exact wpS_lo3c pre m3 ha (by omega) (by rw [Array.size_append]; omega) ex le2 q1 q2 q3
    · rw [if_neg c2]
      obtain rfl : k = 0 := by omega
      exact wpS_lo3c pre m2 ha (by omega) hs2 ex le2 q1 q2 q3
theorem wpS_lo3 (hO : κ.OneLt) {st : SortSt} (hk : kindOf st = oneType') (pre : MPre κ a b) {mg ac bc : Nat} (h : LoI κ a b n out ia ib) {R : ForInStep L7 → SortSt → Prop}
    (q1 : ∀ r c st', SameS st st' → MRes κ a b r → R (.done (some r, c)) st') (q2 : ∀ out ia ib mg ac bc st', SameS st st' → LoI κ a b n out ia ib → R (.done (none, out, ia, ib, mg, ac, bc)) st') (q3 : ∀ out ia ib mg ac bc st', SameS st st' → LoI κ a b n out ia ib → R (.yield (none, out, ia, ib, mg, ac, bc)) st') :
    wpS (model prog w) A E s (lo3 a b out ia ib mg ac bc) R st := by
  obtain ⟨y, ey, dy, my⟩ := drp h.hb
  obtain ⟨sx, sy⟩ := lo_sorted h.ms
  have ha := h.ha
  unfold lo3 setMg
  refine wpS_bind (wpS_modify ?_)
  have ss : SameS st (SortSt.mk' (kindOf st) (arrOf st) (pendingOf st) mg (failedOf st)) := ⟨rfl, rfl, rfl, rfl⟩
  have hk2 : kindOf (SortSt.mk' (kindOf st) (arrOf st) (pendingOf st) mg (failedOf st)) = oneType' := hk
  generalize SortSt.mk' (kindOf st) (arrOf st) (pendingOf st) mg (failedOf st) = st2 at ss hk2 ⊢
  refine wpS_bind (wpS_elem ey (wpS_bind (wpS_gal hO hk2 (pre.kb y my) pre.ka (by omega) (by omega) (by rw [seg_all]; exact sx) fun k kn h1 h2 => ?_)))
  rw [seg_all] at h1 h2
  dsimp only
  have d2 : (a.toList.drop ia).drop k = a.toList.drop (ia + k) := by rw [List.drop_drop]
  rw [d2] at h2
  have lt2 : ∀ x ∈ a.toList.drop (ia + k), kLt κ y x := fun x hx => by
    have := h2 x hx
    have this : (!κ.blt (ky κ y) (ky κ x)) = false := this
    show κ.blt (ky κ y) (ky κ x) = true
    simpa using this
  have m3 : MS (kLe κ) (a.toList ++ b.toList) (out ++ a.extract ia (ia + k)).toList (a.toList.drop (ia + k)) (b.toList.drop ib) := by
    rw [Array.toList_append, extK]
    refine MS.left (Z := (a.toList.drop ia).take k) (by rw [← d2, List.take_append_drop]; exact h.ms) fun x' hx' y' hy' => ?_
    have l1 : (!κ.blt (ky κ y) (ky κ x')) = true := h1 x' hx'
    have l1 : κ.blt (ky κ y) (ky κ x') = false := by simpa using l1
    rw [dy] at hy' sy
    exact KeyOrd.kle_trans (show κ.kle (ky κ x') (ky κ y) from l1) (head_le sy y' hy')
  by_cases c2 : k > 0
  · rw [if_pos c2]
    by_cases c3 : ia + k + 1 = a.size
    · rw [if_pos (by simpa using c3)]
      exact wpS_pure (q1 _ _ _ ss (lo_lst pre m3 c3))
    · rw [if_neg (by simpa using c3)]
      by_cases c4 : ia + k = a.size
      · rw [if_pos (by simpa using c4)]
        exact wpS_pure (q1 _ _ _ ss (lo_fin m3 (.inl c4)))
      · rw [if_neg (by simpa using c4)]
        exact wpS_lo3b hO hk2 pre m3 (by omega) h.hb (by have := h.hn; rw [Array.size_append]; omega) ey lt2 (fun r c => q1 r c _ ss) (fun o i j g x y => q2 o i j g x y _ ss) (fun o i j g x y => q3 o i j g x y _ ss)
  · rw [if_neg c2]
    obtain rfl : k = 0 := by omega
    exact wpS_lo3b hO hk2 pre h.ms ha h.hb h.hn ey lt2 (fun r c => q1 r c _ ss) (fun o i j g x y => q2 o i j g x y _ ss) (fun o i j g x y => q3 o i j g x y _ ss)
theorem LoI.less {m : Nat} (h : LoI κ a b m out ia ib) (k : n ≤ m) : LoI κ a b n out ia ib := ⟨h.ms, h.ha, h.hb, Nat.le_trans k h.hn⟩
theorem LoI.room (h : LoI κ a b n out ia ib) : n < a.size + b.size := by
  have l := h.ms.pm.length_eq
  simp only [List.length_append, List.length_drop, Array.length_toList] at l
  have := h.ha
  have := h.hb
  have := h.hn
  omega
theorem wpS_mergeLo (hO : κ.OneLt) {st : SortSt} (hk : kindOf st = oneType') (pre : MPre κ a b) (sa : a.toList.Pairwise (kLe κ)) (sb : b.toList.Pairwise (kLe κ)) (f0 : ∀ y, b[0]? = some y → ∀ x ∈ a.toList, kLe κ y x) {Q : Array Keyed → SortSt → Prop} (q : ∀ r st', SameS st st' → MRes κ a b r → Q r st') : wpS (model prog w) A E s (mergeLo' a b) Q st := by
  rw [mergeLo'_do]
  refine wpS_bind (wpS_lift (wpAny_rule ⟨rfl, ?_⟩))
  dsimp only
  obtain ⟨y, ey, dy, my⟩ := drp pre.zb
  have za := pre.za
  have zb := pre.zb
  refine wpS_bind (wpS_elem ey ?_)
  have m0 : MS (kLe κ) (a.toList ++ b.toList) (#[] : Array Keyed).toList (a.toList.drop 0) (b.toList.drop 0) := ⟨List.Perm.refl _, sa, sb⟩
  have m1 := lo_y m0 dy (f0 y ey)
  have m1 : MS (kLe κ) (a.toList ++ b.toList) (#[y] : Array Keyed).toList (a.toList.drop 0) (b.toList.drop 1) := m1
  by_cases c1 : 1 = b.size
  · rw [if_pos (by simpa using c1)]
    exact wpS_pure (q _ _ (SameS.refl _) (lo_fin m1 (.inr c1)))
  · rw [if_neg (by simpa using c1)]
    by_cases c2 : 0 + 1 = a.size
    · rw [if_pos (by simpa using c2)]
      exact wpS_pure (q _ _ (SameS.refl _) (lo_lst pre m1 c2))
    · rw [if_neg (by simpa using c2)]
      refine wpS_bind (wpS_get ?_)
      have I0 : LoI κ a b 1 #[y] 0 1 := ⟨m1, by omega, by omega, Nat.le_refl _⟩
      refine wpS_bind (wpS_mono (wpS_forRange (I := fun x c st' => SameS st st' ∧ ∃ out ia ib mg, c = (none, out, ia, ib, mg) ∧ LoI κ a b (x + 1) out ia ib) (Q := fun c st' => SameS st st' ∧ ∃ r d, c = (some r, d) ∧ MRes κ a b r) ?_ ?_ ⟨SameS.refl _, _, _, _, _, rfl, I0⟩) ?_)
      · rintro x c st' _ hx ⟨ss, out, ia, ib, mg, rfl, I⟩
        have hk' : kindOf st' = oneType' := ss.1.trans hk
        refine wpS_bind (wpS_mono (wpS_forRange (I := fun i c st2 => st2 = st' ∧ ∃ out ia ib ac bc, c = (none, out, ia, ib, ac, bc) ∧ LoI κ a b (x + 1 + i) out ia ib) (Q := fun c st2 => st2 = st' ∧ ((∃ r d, c = (some r, d) ∧ MRes κ a b r) ∨ ∃ out ia ib ac bc, c = (none, out, ia, ib, ac, bc) ∧ LoI κ a b (x + 2) out ia ib)) ?_ ?_ ⟨rfl, _, _, _, _, _, rfl, I⟩) ?_)
        · rintro i c st2 _ hi ⟨rfl, o, p, q', ac, bc, rfl, I⟩
          exact wpS_lo1 hO hk' pre I (fun r c h => ⟨rfl, .inl ⟨r, c, rfl, h⟩⟩) (fun o p q' ac bc h => ⟨rfl, .inr ⟨o, p, q', ac, bc, rfl, h.less (by omega)⟩⟩) (fun o p q' ac bc h => ⟨rfl, o, p, q', ac, bc, rfl, h.less (by omega)⟩)
        · rintro c st2 ⟨rfl, o, p, q', ac, bc, rfl, I⟩
          exact ⟨rfl, .inr ⟨o, p, q', ac, bc, rfl, I.less (by omega)⟩⟩
        · rintro c st2 ⟨rfl, ⟨r, d, rfl, h⟩ | ⟨o, p, q', ac, bc, rfl, I2⟩⟩
          · exact wpS_pure ⟨ss, r, _, rfl, h⟩
          · refine wpS_bind (wpS_lift (wpAny_rule ⟨rfl, ?_⟩))
            refine wpS_bind (wpS_mono (wpS_forRange (I := fun i c st3 => SameS st2 st3 ∧ ∃ out ia ib mg ac bc, c = (none, out, ia, ib, mg, ac, bc) ∧ LoI κ a b (x + 2) out ia ib) (Q := fun c st3 => SameS st2 st3 ∧ ((∃ r d, c = (some r, d) ∧ MRes κ a b r) ∨ ∃ out ia ib mg ac bc, c = (none, out, ia, ib, mg, ac, bc) ∧ LoI κ a b (x + 2) out ia ib)) ?_ ?_ ⟨SameS.refl _, _, _, _, _, _, _, rfl, I2⟩) ?_)
            · rintro i c st3 _ hi ⟨s3, o, p, q', g, ac, bc, rfl, I⟩
              have hk3 : kindOf st3 = oneType' := s3.1.trans hk'
              dsimp only
              by_cases cg : g > 1
              · rw [if_pos cg]
                exact wpS_lo3 hO hk3 pre I (fun r c st4 s4 h => ⟨s3.trans s4, .inl ⟨r, c, rfl, h⟩⟩) (fun o p q' g ac bc st4 s4 h => ⟨s3.trans s4, .inr ⟨o, p, q', g, ac, bc, rfl, h⟩⟩) (fun o p q' g ac bc st4 s4 h => ⟨s3.trans s4, o, p, q', g, ac, bc, rfl, h⟩)
              · rw [if_neg cg]
                exact wpS_lo3 hO hk3 pre I (fun r c st4 s4 h => ⟨s3.trans s4, .inl ⟨r, c, rfl, h⟩⟩) (fun o p q' g ac bc st4 s4 h => ⟨s3.trans s4, .inr ⟨o, p, q', g, ac, bc, rfl, h⟩⟩) (fun o p q' g ac bc st4 s4 h => ⟨s3.trans s4, o, p, q', g, ac, bc, rfl, h⟩)
            · rintro c st3 ⟨s3, o, p, q', g, ac, bc, rfl, I⟩
              exact ⟨s3, .inr ⟨o, p, q', g, ac, bc, rfl, I⟩⟩
            · rintro c st3 ⟨s3, ⟨r, d, rfl, h⟩ | ⟨o, p, q', g, ac, bc, rfl, I3⟩⟩
              · exact wpS_pure ⟨ss.trans s3, r, _, rfl, h⟩
              · dsimp only
                unfold setMg
                exact wpS_bind (wpS_modify (wpS_pure ⟨(ss.trans s3).trans ⟨rfl, rfl, rfl, rfl⟩, _, _, _, _, rfl, I3⟩))
      · rintro c st' ⟨ss, out, ia, ib, mg, rfl, I⟩
        have := I.room
        omega
      · rintro c st' ⟨ss, r, d, rfl, h⟩
        exact wpS_pure (q r st' ss h)
end
end
end L2
namespace L2
open PySem PySem.Spec PyProof.Rows
section
variable {prog : Program} {w : World} {A : Around} {E : Value → Shared → Prop} {s : Shared} {κ : KeyKind}
theorem MS.symm {r : Keyed → Keyed → Prop} {T o X Y : List Keyed} (h : MS r T o X Y) : MS r T o Y X := ⟨by
  refine List.Perm.trans ?_ h.pm
  rw [List.append_assoc, List.append_assoc]
  exact List.Perm.append_left _ List.perm_append_comm, h.sy, h.sx⟩
def gLe (κ : KeyKind) (p q : Keyed) : Prop := kLe κ q p
theorem Mgd.rev {T l : List Keyed} (h : Mgd (gLe κ) T l) : Mgd (kLe κ) T l.reverse := ⟨(List.reverse_perm _).trans h.1, List.pairwise_reverse.mpr h.2⟩
def mergeHi' : Array Keyed → Array Keyed → StateT SortSt Sem (Array Keyed) := sortPriv% PySem.Builtin.mergeHi
def finH (a b out : Array Keyed) (na nb : Nat) : Array Keyed := a.extract 0 na ++ b.extract 0 nb ++ out.reverse
def fstH (a b out : Array Keyed) (na nb : Nat) : Array Keyed := b.extract 0 nb ++ a.extract 0 na ++ out.reverse
abbrev H6 : Type := Option (Array Keyed) × Nat × Nat × Array Keyed × Nat × Nat
abbrev H7 : Type := Option (Array Keyed) × Nat × Nat × Array Keyed × Nat × Nat × Nat
def hi1 (a b : Array Keyed) (mg : Nat) (na nb : Nat) (out : Array Keyed) (ac bc : Nat) : StateT SortSt Sem (ForInStep H6) := do
  let y ← elem' b (nb - 1)
  let x ← elem' a (na - 1)
  let t ← lt' y x
  match t with
  | some aw =>
    if aw = true then do
      let x ← elem' a (na - 1)
      if (na - 1 == 0) = true then pure (.done (some (finH a b (out.push x) (na - 1) nb), na - 1, nb, out.push x, ac + 1, 0))
      else if ac + 1 ≥ mg then pure (.done (none, na - 1, nb, out.push x, ac + 1, 0))
      else pure (.yield (none, na - 1, nb, out.push x, ac + 1, 0))
    else do
      let y ← elem' b (nb - 1)
      if (nb - 1 == 1) = true then pure (.done (some (fstH a b (out.push y) na (nb - 1)), na, nb - 1, out.push y, 0, bc + 1))
      else if bc + 1 ≥ mg then pure (.done (none, na, nb - 1, out.push y, 0, bc + 1))
      else pure (.yield (none, na, nb - 1, out.push y, 0, bc + 1))
  | _ => pure (.done (some (finH a b out na nb), na, nb, out, ac, bc))
def hi3c (a b : Array Keyed) (na nb : Nat) (out : Array Keyed) (mg ac bc : Nat) : StateT SortSt Sem (ForInStep H7) := do
  let x ← elem' a (na - 1)
  if (na - 1 == 0) = true then pure (.done (some (finH a b (out.push x) (na - 1) nb), na - 1, nb, out.push x, mg, ac, bc))
  else if (decide (ac < 7) && decide (bc < 7)) = true then pure (.done (none, na - 1, nb, out.push x, mg, ac, bc))
  else pure (.yield (none, na - 1, nb, out.push x, mg, ac, bc))
def hi3b (a b : Array Keyed) (na nb : Nat) (out : Array Keyed) (mg ac bc : Nat) : StateT SortSt Sem (ForInStep H7) := do
  let y ← elem' b (nb - 1)
  if (nb - 1 == 1) = true then pure (.done (some (fstH a b (out.push y) na (nb - 1)), na, nb - 1, out.push y, mg, ac, bc))
  else do
    let x ← elem' a (na - 1)
    let t ← gallop' true x b 0 (nb - 1) (nb - 1 - 1)
    match t with
    | some k =>
      if nb - 1 - k > 0 then
        if (k == 1) = true then pure (.done (some (fstH a b (out.push y ++ (b.extract k (nb - 1)).reverse) na k), na, k, out.push y ++ (b.extract k (nb - 1)).reverse, mg, ac, nb - 1 - k))
        else if (k == 0) = true then pure (.done (some (finH a b (out.push y ++ (b.extract k (nb - 1)).reverse) na k), na, k, out.push y ++ (b.extract k (nb - 1)).reverse, mg, ac, nb - 1 - k))
        else hi3c a b na k (out.push y ++ (b.extract k (nb - 1)).reverse) mg ac (nb - 1 - k)
      else hi3c a b na (nb - 1) (out.push y) mg ac (nb - 1 - k)
    | _ => pure (.done (some (finH a b (out.push y) na (nb - 1)), na, nb - 1, out.push y, mg, ac, bc))
def hi3 (a b : Array Keyed) (na nb : Nat) (out : Array Keyed) (mg ac bc : Nat) : StateT SortSt Sem (ForInStep H7) := do
  setMg mg
  let y ← elem' b (nb - 1)
  let t ← gallop' false y a 0 na (na - 1)
  match t with
  | some k =>
    if na - k > 0 then
      if (k == 0) = true then pure (.done (some (finH a b (out ++ (a.extract k na).reverse) k nb), k, nb, out ++ (a.extract k na).reverse, mg, na - k, bc))
      else hi3b a b k nb (out ++ (a.extract k na).reverse) mg (na - k) bc
    else hi3b a b na nb out mg (na - k) bc
  | _ => pure (.done (some (finH a b out na nb), na, nb, out, mg, ac, bc))
theorem mergeHi'_do (a b : Array Keyed) : mergeHi' a b = (do
  rule "list.sort.merge-hi"
  let tot := a.size + b.size
  let fin (out : Array Keyed) (na nb : Nat) := a.extract 0 na ++ b.extract 0 nb ++ out.reverse
  let fst (out : Array Keyed) (na nb : Nat) := b.extract 0 nb ++ a.extract 0 na ++ out.reverse
  let mut na := a.size - 1
  let mut nb := b.size
  let mut out : Array Keyed := #[← elem' a na]
  if na == 0 then return fin out na nb
  if nb == 1 then return fst out na nb
  let mut mg := gallopOf (← get)
  for _ in [0:tot] do
    let mut ac := 0
    let mut bc := 0
    for _ in [0:tot] do
      let some aw ← lt' (← elem' b (nb - 1)) (← elem' a (na - 1)) | return fin out na nb
      if aw then
        na := na - 1; out := out.push (← elem' a na); ac := ac + 1; bc := 0
        if na == 0 then return fin out na nb
        if ac ≥ mg then break
      else
        nb := nb - 1; out := out.push (← elem' b nb); bc := bc + 1; ac := 0
        if nb == 1 then return fst out na nb
        if bc ≥ mg then break
    rule "list.sort.gallop"
    mg := mg + 1
    for _ in [0:tot] do
      if mg > 1 then mg := mg - 1
      setMg mg
      let some at_ ← gallop' false (← elem' b (nb - 1)) a 0 na (na - 1) | return fin out na nb
      let k := na - at_
      ac := k
      if k > 0 then
        out := out ++ (a.extract at_ na).reverse; na := at_
        if na == 0 then return fin out na nb
      nb := nb - 1; out := out.push (← elem' b nb)
      if nb == 1 then return fst out na nb
      let some at_ ← gallop' true (← elem' a (na - 1)) b 0 nb (nb - 1) | return fin out na nb
      let k := nb - at_
      bc := k
      if k > 0 then
        out := out ++ (b.extract at_ nb).reverse; nb := at_
        if nb == 1 then return fst out na nb
        if nb == 0 then return fin out na nb
      na := na - 1; out := out.push (← elem' a na)
      if na == 0 then return fin out na nb
      if ac < 7 && bc < 7 then break
    mg := mg + 1
    setMg mg
  unsupported "internal:list.sort.merge-bound") := rfl
theorem tkp {a : Array Keyed} {i : Nat} (h0 : 0 < i) (h : i ≤ a.size) : ∃ x, a[i - 1]? = some x ∧ (a.toList.take i).reverse = x :: (a.toList.take (i - 1)).reverse ∧ x ∈ a.toList := by
  have hl : i - 1 < a.toList.length := by rw [Array.length_toList]; omega
  refine ⟨a.toList[i - 1], by rw [← Array.getElem?_toList]; exact List.getElem?_eq_getElem hl, ?_, List.getElem_mem _⟩
  have e : a.toList.take i = a.toList.take (i - 1) ++ [a.toList[i - 1]] := by
    have := List.take_add_one (l := a.toList) (i := i - 1)
    rw [show i - 1 + 1 = i by omega, List.getElem?_eq_getElem hl] at this
    exact this
  rw [e, List.reverse_append]
  rfl
theorem ext0 (a : Array Keyed) (k : Nat) : (a.extract 0 k).toList = a.toList.take k := by
  rw [Array.toList_extract, List.extract_eq_take_drop]
  rfl
theorem extR (a : Array Keyed) (i k : Nat) : (a.extract i k).toList = (a.toList.take k).drop i := by
  rw [Array.toList_extract, List.extract_eq_take_drop, List.drop_take]
theorem finH_list (a b out : Array Keyed) (na nb : Nat) : (finH a b out na nb).toList = a.toList.take na ++ b.toList.take nb ++ out.toList.reverse := by
  unfold finH
  rw [Array.toList_append, Array.toList_append, ext0, ext0, Array.toList_reverse]
theorem fstH_list (a b out : Array Keyed) (na nb : Nat) : (fstH a b out na nb).toList = b.toList.take nb ++ a.toList.take na ++ out.toList.reverse := by
  unfold fstH
  rw [Array.toList_append, Array.toList_append, ext0, ext0, Array.toList_reverse]
structure HPre (κ : KeyKind) (a b : Array Keyed) : Prop where
  ka : ∀ p ∈ a.toList, KOk κ p
  kb : ∀ p ∈ b.toList, KOk κ p
  za : 0 < a.size
  zb : 0 < b.size
  fb : ∀ x ∈ a.toList, ∀ z, b[0]? = some z → kLt κ z x
structure HiI (κ : KeyKind) (a b : Array Keyed) (n : Nat) (na nb : Nat) (out : Array Keyed) : Prop where
  ms : MS (gLe κ) (a.toList ++ b.toList) out.toList (a.toList.take na).reverse (b.toList.take nb).reverse
  a0 : 0 < na
  b0 : 1 < nb
  az : na ≤ a.size
  bz : nb ≤ b.size
  hn : n ≤ out.size
section
variable {a b out : Array Keyed} {na nb n : Nat}
theorem hi_fin (h : MS (gLe κ) (a.toList ++ b.toList) out.toList (a.toList.take na).reverse (b.toList.take nb).reverse) (e : na = 0 ∨ nb = 0) : MRes κ a b (finH a b out na nb) := by
  unfold MRes
  rw [finH_list]
  rcases e with rfl | rfl
  · have := (MS.endX (show MS (gLe κ) (a.toList ++ b.toList) out.toList [] (b.toList.take nb).reverse from h)).rev
    rw [List.reverse_append, List.reverse_reverse] at this
    exact this
  · have := (MS.endY (show MS (gLe κ) (a.toList ++ b.toList) out.toList (a.toList.take na).reverse [] from h)).rev
    rw [List.reverse_append, List.reverse_reverse] at this
    rw [List.take_zero, List.append_nil]
    exact this
theorem hi_fst (pre : HPre κ a b) (h : MS (gLe κ) (a.toList ++ b.toList) out.toList (a.toList.take na).reverse (b.toList.take nb).reverse) (e : nb = 1) : MRes κ a b (fstH a b out na nb) := by
  unfold MRes
  rw [fstH_list]
  subst e
  obtain ⟨z, ez, dz, _⟩ := tkp (a := b) (i := 1) (by decide) pre.zb
  have dz : (b.toList.take 1).reverse = [z] := dz
  rw [dz] at h
  have := (h.symm.lastX fun x hx => (pre.fb x (List.mem_of_mem_take (List.mem_reverse.mp hx)) z ez).le).rev
  have dz2 : b.toList.take 1 = [z] := by rw [← List.reverse_reverse (b.toList.take 1), dz]; rfl
  rw [dz2]
  rw [List.reverse_append, List.reverse_append, List.reverse_reverse] at this
  rw [List.append_assoc]
  exact this
theorem hi_x (h : MS (gLe κ) (a.toList ++ b.toList) out.toList (a.toList.take na).reverse (b.toList.take nb).reverse) {x : Keyed} (dx : (a.toList.take na).reverse = x :: (a.toList.take (na - 1)).reverse) (le : ∀ y ∈ b.toList.take nb, kLe κ y x) : MS (gLe κ) (a.toList ++ b.toList) (out.push x).toList (a.toList.take (na - 1)).reverse (b.toList.take nb).reverse := by
  rw [dx] at h
  rw [Array.toList_push]
  exact MS.left (Z := [x]) h fun x' hx' y hy => by obtain rfl := List.mem_singleton.mp hx'; exact le y (List.mem_reverse.mp hy)
theorem hi_y (h : MS (gLe κ) (a.toList ++ b.toList) out.toList (a.toList.take na).reverse (b.toList.take nb).reverse) {y : Keyed} (dy : (b.toList.take nb).reverse = y :: (b.toList.take (nb - 1)).reverse) (le : ∀ x ∈ a.toList.take na, kLe κ x y) : MS (gLe κ) (a.toList ++ b.toList) (out.push y).toList (a.toList.take na).reverse (b.toList.take (nb - 1)).reverse := by
  rw [dy] at h
  rw [Array.toList_push]
  exact MS.right (Z := [y]) h fun y' hy' x hx => by obtain rfl := List.mem_singleton.mp hy'; exact le x (List.mem_reverse.mp hx)
theorem hi_sorted {o X Y T : List Keyed} (h : MS (gLe κ) T o X.reverse Y.reverse) : X.Pairwise (kLe κ) ∧ Y.Pairwise (kLe κ) := ⟨List.pairwise_reverse.mp (List.pairwise_append.mp h.sx).2.1, List.pairwise_reverse.mp (List.pairwise_append.mp h.sy).2.1⟩
theorem last_le {x : Keyed} {X X' : List Keyed} (d : X.reverse = x :: X'.reverse) (h : X.Pairwise (kLe κ)) : ∀ z ∈ X, kLe κ z x := fun z hz => by
  have e : X = X' ++ [x] := by rw [← List.reverse_reverse X, d, List.reverse_cons, List.reverse_reverse]
  rw [e] at h hz
  rcases List.mem_append.mp hz with q | q
  · exact (List.pairwise_append.mp h).2.2 z q x (by simp)
  · obtain rfl := List.mem_singleton.mp q
    exact KeyOrd.kle_refl _
theorem wpS_hi1 (hO : κ.OneLt) {st : SortSt} (hk : kindOf st = oneType') (pre : HPre κ a b) {mg ac bc : Nat} (h : HiI κ a b n na nb out) {R : ForInStep H6 → SortSt → Prop}
    (q1 : ∀ r c, MRes κ a b r → R (.done (some r, c)) st) (q2 : ∀ na nb out ac bc, HiI κ a b (n + 1) na nb out → R (.done (none, na, nb, out, ac, bc)) st) (q3 : ∀ na nb out ac bc, HiI κ a b (n + 1) na nb out → R (.yield (none, na, nb, out, ac, bc)) st) :
    wpS (model prog w) A E s (hi1 a b mg na nb out ac bc) R st := by
  obtain ⟨ms, a0, b0, az, bz, hs⟩ := h
  obtain ⟨y, ey, dy, my⟩ := tkp (a := b) (i := nb) (by omega) bz
  obtain ⟨x, ex, dx, mx⟩ := tkp (a := a) (i := na) a0 az
  obtain ⟨sx, sy⟩ := hi_sorted ms
  unfold hi1
  refine wpS_bind (wpS_elem ey (wpS_bind (wpS_elem ex (wpS_bind (wpS_lt2 hO hk (pre.kb y my) (pre.ka x mx) ?_)))))
  dsimp only
  cases e : κ.blt (ky κ y) (ky κ x) with
  | true =>
    rw [if_pos rfl]
    refine wpS_bind (wpS_elem ex ?_)
    have m2 := hi_x ms dx fun z hz => KeyOrd.kle_trans (last_le dy sy z hz) (KeyOrd.kle_of_klt e)
    have hs2 : n + 1 ≤ (out.push x).size := by rw [Array.size_push]; omega
    by_cases c1 : na - 1 = 0
    · rw [if_pos (by simpa using c1)]
      exact wpS_pure (q1 _ _ (hi_fin m2 (.inl c1)))
    · rw [if_neg (by simpa using c1)]
      have I2 : HiI κ a b (n + 1) (na - 1) nb (out.push x) := ⟨m2, by omega, b0, by omega, bz, hs2⟩
      by_cases c2 : ac + 1 ≥ mg
      · rw [if_pos c2]
        exact wpS_pure (q2 _ _ _ _ _ I2)
      · rw [if_neg c2]
        exact wpS_pure (q3 _ _ _ _ _ I2)
  | false =>
    rw [if_neg (by decide)]
    refine wpS_bind (wpS_elem ey ?_)
    have m2 := hi_y ms dy fun z hz => KeyOrd.kle_trans (last_le dx sx z hz) (show κ.kle (ky κ x) (ky κ y) from e)
    have hs2 : n + 1 ≤ (out.push y).size := by rw [Array.size_push]; omega
    by_cases c1 : nb - 1 = 1
    · rw [if_pos (by simpa using c1)]
      exact wpS_pure (q1 _ _ (hi_fst pre m2 c1))
    · rw [if_neg (by simpa using c1)]
      have I2 : HiI κ a b (n + 1) na (nb - 1) (out.push y) := ⟨m2, a0, by omega, az, by omega, hs2⟩
      by_cases c2 : bc + 1 ≥ mg
      · rw [if_pos c2]
        exact wpS_pure (q2 _ _ _ _ _ I2)
      · rw [if_neg c2]
        exact wpS_pure (q3 _ _ _ _ _ I2)
theorem wpS_hi3c {st : SortSt} {mg ac bc : Nat} (ms : MS (gLe κ) (a.toList ++ b.toList) out.toList (a.toList.take na).reverse (b.toList.take nb).reverse) (a0 : 0 < na) (b0 : 1 < nb) (az : na ≤ a.size) (bz : nb ≤ b.size) (hn : n ≤ out.size) {x : Keyed} (ex : a[na - 1]? = some x) (le : ∀ y ∈ b.toList.take nb, kLe κ y x) {R : ForInStep H7 → SortSt → Prop}
    (q1 : ∀ r c, MRes κ a b r → R (.done (some r, c)) st) (q2 : ∀ na nb out mg ac bc, HiI κ a b n na nb out → R (.done (none, na, nb, out, mg, ac, bc)) st) (q3 : ∀ na nb out mg ac bc, HiI κ a b n na nb out → R (.yield (none, na, nb, out, mg, ac, bc)) st) :
    wpS (model prog w) A E s (hi3c a b na nb out mg ac bc) R st := by
  obtain ⟨x', ex', dx, mx⟩ := tkp (a := a) (i := na) a0 az
  rw [ex] at ex'
  obtain rfl := Option.some.inj ex'
  unfold hi3c
  refine wpS_bind (wpS_elem ex ?_)
  have m2 := hi_x ms dx le
  have hs2 : n ≤ (out.push x).size := by rw [Array.size_push]; omega
  by_cases c1 : na - 1 = 0
  · rw [if_pos (by simpa using c1)]
    exact wpS_pure (q1 _ _ (hi_fin m2 (.inl c1)))
  · rw [if_neg (by simpa using c1)]
    have I2 : HiI κ a b n (na - 1) nb (out.push x) := ⟨m2, by omega, b0, by omega, bz, hs2⟩
    by_cases c2 : (decide (ac < 7) && decide (bc < 7)) = true
    · rw [if_pos c2]
      exact wpS_pure (q2 _ _ _ _ _ _ I2)
    · rw [if_neg c2]
      exact wpS_pure (q3 _ _ _ _ _ _ I2)
theorem seg0 (a : Array Keyed) (n : Nat) : (a.toList.drop 0).take n = a.toList.take n := rfl
theorem wpS_hi3b (hO : κ.OneLt) {st : SortSt} (hk : kindOf st = oneType') (pre : HPre κ a b) {mg ac bc : Nat} (ms : MS (gLe κ) (a.toList ++ b.toList) out.toList (a.toList.take na).reverse (b.toList.take nb).reverse) (a0 : 0 < na) (b0 : 1 < nb) (az : na ≤ a.size) (bz : nb ≤ b.size) (hn : n ≤ out.size) {y : Keyed} (ey : b[nb - 1]? = some y) (le : ∀ x ∈ a.toList.take na, kLe κ x y) {R : ForInStep H7 → SortSt → Prop}
    (q1 : ∀ r c, MRes κ a b r → R (.done (some r, c)) st) (q2 : ∀ na nb out mg ac bc, HiI κ a b n na nb out → R (.done (none, na, nb, out, mg, ac, bc)) st) (q3 : ∀ na nb out mg ac bc, HiI κ a b n na nb out → R (.yield (none, na, nb, out, mg, ac, bc)) st) :
    wpS (model prog w) A E s (hi3b a b na nb out mg ac bc) R st := by
  obtain ⟨y', ey', dy, my⟩ := tkp (a := b) (i := nb) (by omega) bz
  rw [ey] at ey'
  obtain rfl := Option.some.inj ey'
  obtain ⟨x, ex, dx, mx⟩ := tkp (a := a) (i := na) a0 az
  unfold hi3b
  refine wpS_bind (wpS_elem ey ?_)
  have m2 := hi_y ms dy le
  have hs2 : n ≤ (out.push y).size := by rw [Array.size_push]; omega
  obtain ⟨sx, sy⟩ := hi_sorted m2
  by_cases c1 : nb - 1 = 1
  · rw [if_pos (by simpa using c1)]
    exact wpS_pure (q1 _ _ (hi_fst pre m2 c1))
  · rw [if_neg (by simpa using c1)]
    refine wpS_bind (wpS_elem ex (wpS_bind (wpS_gal hO hk (pre.ka x mx) pre.kb (by omega) (by omega) (by rw [seg0]; exact sy) fun k kn h1 h2 => ?_)))
    rw [seg0] at h1 h2
    dsimp only
    have d2 : (b.toList.take (nb - 1)).take k = b.toList.take k := by rw [List.take_take, Nat.min_eq_left kn]
    rw [d2] at h1
    have le2 : ∀ y' ∈ b.toList.take k, kLe κ y' x := fun y' hy' => (show kLt κ y' x from h1 y' hy').le
    have m3 : MS (gLe κ) (a.toList ++ b.toList) (out.push y ++ (b.extract k (nb - 1)).reverse).toList (a.toList.take na).reverse (b.toList.take k).reverse := by
      rw [Array.toList_append, Array.toList_reverse, extR]
      refine MS.right (Z := ((b.toList.take (nb - 1)).drop k).reverse) (by rw [← List.reverse_append, ← d2, List.take_append_drop]; exact m2) fun y' hy' x' hx' => ?_
      have l1 : kLe κ x y' := h2 y' (List.mem_reverse.mp hy')
      exact KeyOrd.kle_trans (last_le dx sx x' (List.mem_reverse.mp hx')) l1
    by_cases c2 : nb - 1 - k > 0
    · rw [if_pos c2]
      by_cases c3 : k = 1
      · rw [if_pos (by simpa using c3)]
        exact wpS_pure (q1 _ _ (hi_fst pre m3 c3))
      · rw [if_neg (by simpa using c3)]
        by_cases c4 : k = 0
        · rw [if_pos (by simpa using c4)]
          exact wpS_pure (q1 _ _ (hi_fin m3 (.inr c4)))
        · rw [if_neg (by simpa using c4)]
          exact wpS_hi3c m3 a0 (by omega) az (by omega) (by rw [Array.size_append]; omega) ex le2 q1 q2 q3
    · rw [if_neg c2]
      obtain rfl : k = nb - 1 := by omega
      exact wpS_hi3c m2 a0 (by omega) az (by omega) hs2 ex le2 q1 q2 q3
theorem wpS_hi3 (hO : κ.OneLt) {st : SortSt} (hk : kindOf st = oneType') (pre : HPre κ a b) {mg ac bc : Nat} (h : HiI κ a b n na nb out) {R : ForInStep H7 → SortSt → Prop}
    (q1 : ∀ r c st', SameS st st' → MRes κ a b r → R (.done (some r, c)) st') (q2 : ∀ na nb out mg ac bc st', SameS st st' → HiI κ a b n na nb out → R (.done (none, na, nb, out, mg, ac, bc)) st') (q3 : ∀ na nb out mg ac bc st', SameS st st' → HiI κ a b n na nb out → R (.yield (none, na, nb, out, mg, ac, bc)) st') :
    wpS (model prog w) A E s (hi3 a b na nb out mg ac bc) R st := by
  obtain ⟨ms, a0, b0, az, bz, hs⟩ := h
  obtain ⟨y, ey, dy, my⟩ := tkp (a := b) (i := nb) (by omega) bz
  obtain ⟨sx, sy⟩ := hi_sorted ms
  unfold hi3 setMg
  refine wpS_bind (wpS_modify ?_)
  have ss : SameS st (SortSt.mk' (kindOf st) (arrOf st) (pendingOf st) mg (failedOf st)) := ⟨rfl, rfl, rfl, rfl⟩
  have hk2 : kindOf (SortSt.mk' (kindOf st) (arrOf st) (pendingOf st) mg (failedOf st)) = oneType' := hk
  generalize SortSt.mk' (kindOf st) (arrOf st) (pendingOf st) mg (failedOf st) = st2 at ss hk2 ⊢
  refine wpS_bind (wpS_elem ey (wpS_bind (wpS_gal hO hk2 (pre.kb y my) pre.ka (by omega) (by omega) (by rw [seg0]; exact sx) fun k kn h1 h2 => ?_)))
  rw [seg0] at h1 h2
  dsimp only
  have d2 : (a.toList.take na).take k = a.toList.take k := by rw [List.take_take, Nat.min_eq_left kn]
  rw [d2] at h1
  have le2 : ∀ x ∈ a.toList.take k, kLe κ x y := fun x hx => by
    have this : (!κ.blt (ky κ y) (ky κ x)) = true := h1 x hx
    show κ.blt (ky κ y) (ky κ x) = false
    simpa using this
  have m3 : MS (gLe κ) (a.toList ++ b.toList) (out ++ (a.extract k na).reverse).toList (a.toList.take k).reverse (b.toList.take nb).reverse := by
    rw [Array.toList_append, Array.toList_reverse, extR]
    refine MS.left (Z := ((a.toList.take na).drop k).reverse) (by rw [← List.reverse_append, ← d2, List.take_append_drop]; exact ms) fun x' hx' y' hy' => ?_
    have l1 : (!κ.blt (ky κ y) (ky κ x')) = false := h2 x' (List.mem_reverse.mp hx')
    have l1 : κ.blt (ky κ y) (ky κ x') = true := by simpa using l1
    exact KeyOrd.kle_trans (last_le dy sy y' (List.mem_reverse.mp hy')) (KeyOrd.kle_of_klt l1)
  by_cases c2 : na - k > 0
  · rw [if_pos c2]
    by_cases c4 : k = 0
    · rw [if_pos (by simpa using c4)]
      exact wpS_pure (q1 _ _ _ ss (hi_fin m3 (.inl c4)))
    · rw [if_neg (by simpa using c4)]
      exact wpS_hi3b hO hk2 pre m3 (by omega) b0 (by omega) bz (by rw [Array.size_append]; omega) ey le2 (fun r c => q1 r c _ ss) (fun o i j g x y => q2 o i j g x y _ ss) (fun o i j g x y => q3 o i j g x y _ ss)
  · rw [if_neg c2]
    obtain rfl : k = na := by omega
    exact wpS_hi3b hO hk2 pre ms a0 b0 az bz hs ey le2 (fun r c => q1 r c _ ss) (fun o i j g x y => q2 o i j g x y _ ss) (fun o i j g x y => q3 o i j g x y _ ss)
theorem HiI.less {m : Nat} (h : HiI κ a b m na nb out) (k : n ≤ m) : HiI κ a b n na nb out := ⟨h.ms, h.a0, h.b0, h.az, h.bz, Nat.le_trans k h.hn⟩
theorem HiI.room (h : HiI κ a b n na nb out) : n < a.size + b.size := by
  have l := h.ms.pm.length_eq
  simp only [List.length_append, List.length_reverse, List.length_take, Array.length_toList] at l
  have := h.a0
  have := h.b0
  have := h.az
  have := h.bz
  have := h.hn
  omega
theorem wpS_mergeHi (hO : κ.OneLt) {st : SortSt} (hk : kindOf st = oneType') (pre : HPre κ a b) (sa : a.toList.Pairwise (kLe κ)) (sb : b.toList.Pairwise (kLe κ)) (l0 : ∀ x, a[a.size - 1]? = some x → ∀ y ∈ b.toList, kLe κ y x) {Q : Array Keyed → SortSt → Prop} (q : ∀ r st', SameS st st' → MRes κ a b r → Q r st') : wpS (model prog w) A E s (mergeHi' a b) Q st := by
  rw [mergeHi'_do]
  refine wpS_bind (wpS_lift (wpAny_rule ⟨rfl, ?_⟩))
  dsimp only
  have za := pre.za
  have zb := pre.zb
  obtain ⟨x, ex, dx, mx⟩ := tkp (a := a) (i := a.size) za (Nat.le_refl _)
  refine wpS_bind (wpS_elem ex ?_)
  have ta : a.toList.take a.size = a.toList := List.take_of_length_le (by rw [Array.length_toList]; exact Nat.le_refl _)
  have tb : b.toList.take b.size = b.toList := List.take_of_length_le (by rw [Array.length_toList]; exact Nat.le_refl _)
  have m0 : MS (gLe κ) (a.toList ++ b.toList) (#[] : Array Keyed).toList (a.toList.take a.size).reverse (b.toList.take b.size).reverse := by
    rw [ta, tb]
    exact ⟨((List.reverse_perm _).append (List.reverse_perm _)), List.pairwise_reverse.mpr sa, List.pairwise_reverse.mpr sb⟩
  have m1 := hi_x m0 dx (by rw [tb]; exact l0 x ex)
  have m1 : MS (gLe κ) (a.toList ++ b.toList) (#[x] : Array Keyed).toList (a.toList.take (a.size - 1)).reverse (b.toList.take b.size).reverse := m1
  by_cases c1 : a.size - 1 = 0
  · rw [if_pos (by simpa using c1)]
    exact wpS_pure (q _ _ (SameS.refl _) (hi_fin m1 (.inl c1)))
  · rw [if_neg (by simpa using c1)]
    by_cases c2 : b.size = 1
    · rw [if_pos (by simpa using c2)]
      exact wpS_pure (q _ _ (SameS.refl _) (hi_fst pre m1 c2))
    · rw [if_neg (by simpa using c2)]
      refine wpS_bind (wpS_get ?_)
      have I0 : HiI κ a b 1 (a.size - 1) b.size #[x] := ⟨m1, by omega, by omega, by omega, Nat.le_refl _, Nat.le_refl _⟩
      refine wpS_bind (wpS_mono (wpS_forRange (I := fun x c st' => SameS st st' ∧ ∃ na nb out mg, c = (none, na, nb, out, mg) ∧ HiI κ a b (x + 1) na nb out) (Q := fun c st' => SameS st st' ∧ ∃ r d, c = (some r, d) ∧ MRes κ a b r) ?_ ?_ ⟨SameS.refl _, _, _, _, _, rfl, I0⟩) ?_)
      · rintro x c st' _ hx ⟨ss, p, q', o, mg, rfl, I⟩
        have hk' : kindOf st' = oneType' := ss.1.trans hk
        refine wpS_bind (wpS_mono (wpS_forRange (I := fun i c st2 => st2 = st' ∧ ∃ na nb out ac bc, c = (none, na, nb, out, ac, bc) ∧ HiI κ a b (x + 1 + i) na nb out) (Q := fun c st2 => st2 = st' ∧ ((∃ r d, c = (some r, d) ∧ MRes κ a b r) ∨ ∃ na nb out ac bc, c = (none, na, nb, out, ac, bc) ∧ HiI κ a b (x + 2) na nb out)) ?_ ?_ ⟨rfl, _, _, _, _, _, rfl, I⟩) ?_)
        · rintro i c st2 _ hi ⟨rfl, p, q', o, ac, bc, rfl, I⟩
          exact wpS_hi1 hO hk' pre I (fun r c h => ⟨rfl, .inl ⟨r, c, rfl, h⟩⟩) (fun p q' o ac bc h => ⟨rfl, .inr ⟨p, q', o, ac, bc, rfl, h.less (by omega)⟩⟩) (fun p q' o ac bc h => ⟨rfl, p, q', o, ac, bc, rfl, h.less (by omega)⟩)
        · rintro c st2 ⟨rfl, p, q', o, ac, bc, rfl, I⟩
          exact ⟨rfl, .inr ⟨p, q', o, ac, bc, rfl, I.less (by omega)⟩⟩
        · rintro c st2 ⟨rfl, ⟨r, d, rfl, h⟩ | ⟨p, q', o, ac, bc, rfl, I2⟩⟩
          · exact wpS_pure ⟨ss, r, _, rfl, h⟩
          · refine wpS_bind (wpS_lift (wpAny_rule ⟨rfl, ?_⟩))
            refine wpS_bind (wpS_mono (wpS_forRange (I := fun i c st3 => SameS st2 st3 ∧ ∃ na nb out mg ac bc, c = (none, na, nb, out, mg, ac, bc) ∧ HiI κ a b (x + 2) na nb out) (Q := fun c st3 => SameS st2 st3 ∧ ((∃ r d, c = (some r, d) ∧ MRes κ a b r) ∨ ∃ na nb out mg ac bc, c = (none, na, nb, out, mg, ac, bc) ∧ HiI κ a b (x + 2) na nb out)) ?_ ?_ ⟨SameS.refl _, _, _, _, _, _, _, rfl, I2⟩) ?_)
            · rintro i c st3 _ hi ⟨s3, p, q', o, g, ac, bc, rfl, I⟩
              have hk3 : kindOf st3 = oneType' := s3.1.trans hk'
              dsimp only
              by_cases cg : g > 1
              · rw [if_pos cg]
                exact wpS_hi3 hO hk3 pre I (fun r c st4 s4 h => ⟨s3.trans s4, .inl ⟨r, c, rfl, h⟩⟩) (fun p q' o g ac bc st4 s4 h => ⟨s3.trans s4, .inr ⟨p, q', o, g, ac, bc, rfl, h⟩⟩) (fun p q' o g ac bc st4 s4 h => ⟨s3.trans s4, p, q', o, g, ac, bc, rfl, h⟩)
              · rw [if_neg cg]
                exact wpS_hi3 hO hk3 pre I (fun r c st4 s4 h => ⟨s3.trans s4, .inl ⟨r, c, rfl, h⟩⟩) (fun p q' o g ac bc st4 s4 h => ⟨s3.trans s4, .inr ⟨p, q', o, g, ac, bc, rfl, h⟩⟩) (fun p q' o g ac bc st4 s4 h => ⟨s3.trans s4, p, q', o, g, ac, bc, rfl, h⟩)
            · rintro c st3 ⟨s3, p, q', o, g, ac, bc, rfl, I⟩
              exact ⟨s3, .inr ⟨p, q', o, g, ac, bc, rfl, I⟩⟩
            · rintro c st3 ⟨s3, ⟨r, d, rfl, h⟩ | ⟨p, q', o, g, ac, bc, rfl, I3⟩⟩
              · exact wpS_pure ⟨ss.trans s3, r, _, rfl, h⟩
              · dsimp only
                unfold setMg
                exact wpS_bind (wpS_modify (wpS_pure ⟨(ss.trans s3).trans ⟨rfl, rfl, rfl, rfl⟩, _, _, _, _, rfl, I3⟩))
      · rintro c st' ⟨ss, p, q', o, mg, rfl, I⟩
        have := I.room
        omega
      · rintro c st' ⟨ss, r, d, rfl, h⟩
        exact wpS_pure (q r st' ss h)
end
end
end L2
namespace L2
open PySem PySem.Spec PyProof.Rows
section
variable {prog : Program} {w : World} {A : Around} {E : Value → Shared → Prop} {s : Shared} {κ : KeyKind}
theorem wpS_setS {st st2 : SortSt} {Q : PUnit → SortSt → Prop} (h : Q ⟨⟩ st2) : wpS (model prog w) A E s (set st2 : StateT SortSt Sem PUnit) Q st := by
  unfold wpS
  rw [StateT.run_set]
  exact wpAny_pure ⟨rfl, h⟩
theorem mergeAt'_do (i : Nat) : mergeAt' i = (do
  let s ← get
  let (some (sa, na, pw), some (sb, nb, _)) := ((pendingOf s)[i]?, (pendingOf s)[i + 1]?) | unsupported "internal:list.sort.pending"
  set (SortSt.mk' (kindOf s) (arrOf s) (((pendingOf s).setIfInBounds i (sa, na + nb, pw)).eraseIdxIfInBounds (i + 1)) (gallopOf s) (failedOf s))
  let some k ← gallop' false (← elem' (arrOf s) sb) (arrOf s) sa na 0 | return false
  let (sa, na) := (sa + k, na - k)
  if na == 0 then return true
  let some nb ← gallop' true (← elem' (arrOf s) (sa + na - 1)) (arrOf s) sb nb (nb - 1) | return false
  if nb == 0 then return true
  let x := (arrOf s).extract sa sb
  let y := (arrOf s).extract sb (sb + nb)
  let mgd ← if na ≤ nb then mergeLo' x y else mergeHi' x y
  modify fun s => setArr s (mgd.toList.zipIdx.foldl (fun a (p, j) => a.setIfInBounds (sa + j) p) (arrOf s))
  return (failedOf (← get)).isNone) := rfl
theorem put_list {sa : Nat} : ∀ (M : List Keyed) (n : Nat) (arr : Array Keyed), sa + n + M.length ≤ arr.size → ((M.zipIdx n).foldl (fun a (pj : Keyed × Nat) => a.setIfInBounds (sa + pj.2) pj.1) arr).toList = arr.toList.take (sa + n) ++ M ++ arr.toList.drop (sa + n + M.length)
  | [], n, arr, _ => by simp
  | x :: M, n, arr, h => by
    rw [List.zipIdx_cons, List.foldl_cons]
    simp only [List.length_cons] at h
    have ih := put_list (sa := sa) M (n + 1) (arr.setIfInBounds (sa + n) x) (by rw [Array.size_setIfInBounds]; omega)
    rw [ih, Array.toList_setIfInBounds, List.set_eq_take_append_cons_drop, if_pos (by rw [Array.length_toList]; omega)]
    have ll : (arr.toList.take (sa + n)).length = sa + n := by rw [List.length_take, Array.length_toList]; omega
    have e1 : (arr.toList.take (sa + n) ++ x :: arr.toList.drop (sa + n + 1)).take (sa + (n + 1)) = arr.toList.take (sa + n) ++ [x] := by
      rw [List.take_append, ll, List.take_of_length_le (by omega), show sa + (n + 1) - (sa + n) = 1 by omega]
      rfl
    have e2 : (arr.toList.take (sa + n) ++ x :: arr.toList.drop (sa + n + 1)).drop (sa + (n + 1) + M.length) = arr.toList.drop (sa + n + (M.length + 1)) := by
      rw [List.drop_append, ll, List.drop_of_length_le (by omega), show sa + (n + 1) + M.length - (sa + n) = M.length + 1 by omega]
      show [] ++ (arr.toList.drop (sa + n + 1)).drop M.length = _
      rw [List.drop_drop, List.nil_append]
      congr 1
      omega
    rw [e1, e2, List.length_cons, List.append_assoc, List.append_assoc, List.append_assoc]
    rfl
section
variable {arr : Array Keyed} {P X Y R : List Keyed}
theorem mid_seg (e : arr.toList = P ++ (X ++ R)) : (arr.toList.drop P.length).take X.length = X := by
  rw [e, List.drop_left, List.take_left]
theorem mid_get (e : arr.toList = P ++ (X ++ R)) {i : Nat} (h : i < X.length) : arr[P.length + i]? = X[i]? := by
  rw [← Array.getElem?_toList, e, List.getElem?_append_right (by omega), Nat.add_sub_cancel_left, List.getElem?_append_left h]
theorem mid_ext (e : arr.toList = P ++ (X ++ R)) (k : Nat) : (arr.extract (P.length + k) (P.length + X.length)).toList = X.drop k := by
  rw [Array.toList_extract, List.extract_eq_take_drop, e, List.drop_append, List.drop_of_length_le (by omega), show P.length + k - P.length = k by omega, List.nil_append, List.drop_append]
  rw [List.take_append, List.take_of_length_le (by rw [List.length_drop]; omega), List.length_drop]
  rw [show P.length + X.length - (P.length + k) - (X.length - k) = 0 by omega, List.take_zero, List.append_nil]
theorem mid_ext2 (e : arr.toList = P ++ (X ++ R)) {k : Nat} (h : k ≤ X.length) : (arr.extract P.length (P.length + k)).toList = X.take k := by
  rw [Array.toList_extract, List.extract_eq_take_drop, e, List.drop_left, Nat.add_sub_cancel_left, List.take_append_of_le_length h]
end
theorem wpS_mergeAt (hO : κ.OneLt) {st : SortSt} (hk : kindOf st = oneType') (ok : ∀ p ∈ (arrOf st).toList, KOk κ p) (hf : failedOf st = none) {i sa na pw sb nb pw2 : Nat} (p1 : (pendingOf st)[i]? = some (sa, na, pw)) (p2 : (pendingOf st)[i + 1]? = some (sb, nb, pw2)) {P X Y R : List Keyed} (eL : (arrOf st).toList = P ++ (X ++ (Y ++ R))) (lp : P.length = sa) (lx : X.length = na) (ly : Y.length = nb) (es : sb = sa + na) (x0 : 0 < na) (y0 : 0 < nb) (sX : X.Pairwise (kLe κ)) (sY : Y.Pairwise (kLe κ)) {Q : Bool → SortSt → Prop}
    (q : ∀ M st', Mgd (kLe κ) (X ++ Y) M → (arrOf st').toList = P ++ (M ++ R) → kindOf st' = oneType' → failedOf st' = none → pendingOf st' = ((pendingOf st).setIfInBounds i (sa, na + nb, pw)).eraseIdxIfInBounds (i + 1) → Q true st') : wpS (model prog w) A E s (mergeAt' i) Q st := by
  have eL2 : (arrOf st).toList = (P ++ X) ++ (Y ++ R) := by rw [eL, List.append_assoc]
  have lpx : (P ++ X).length = sb := by rw [List.length_append, lp, lx, es]
  have lall : (arrOf st).size = sa + na + nb + R.length := by
    rw [← Array.length_toList, eL]
    simp only [List.length_append]
    omega
  have okX : ∀ p ∈ X, KOk κ p := fun p hp => ok p (by rw [eL]; simp [hp])
  have okY : ∀ p ∈ Y, KOk κ p := fun p hp => ok p (by rw [eL]; simp [hp])
  rw [mergeAt'_do]
  refine wpS_bind (wpS_get ?_)
  rw [p1, p2]
  dsimp only
  refine wpS_bind (wpS_setS ?_)
  generalize hst : SortSt.mk' (kindOf st) (arrOf st) (((pendingOf st).setIfInBounds i (sa, na + nb, pw)).eraseIdxIfInBounds (i + 1)) (gallopOf st) (failedOf st) = st2
  have k2 : kindOf st2 = oneType' := by rw [← hst]; exact hk
  have a2 : arrOf st2 = arrOf st := by rw [← hst]
  have f2 : failedOf st2 = none := by rw [← hst]; exact hf
  have pd2 : pendingOf st2 = ((pendingOf st).setIfInBounds i (sa, na + nb, pw)).eraseIdxIfInBounds (i + 1) := by rw [← hst]
  clear hst
  obtain ⟨y, Y', eY⟩ : ∃ y Y', Y = y :: Y' := by
    cases Y with
    | nil => simp at ly; omega
    | cons y Y' => exact ⟨y, Y', rfl⟩
  have ey : (arrOf st)[sb]? = some y := by
    have := mid_get eL2 (i := 0) (by omega)
    rw [lpx, Nat.add_zero] at this
    rw [this, eY]
    rfl
  have yY : ∀ z ∈ Y, kLe κ y z := by rw [eY] at sY ⊢; exact head_le sY
  have my : y ∈ Y := by rw [eY]; simp
  have segX : ((arrOf st).toList.drop sa).take na = X := by rw [← lp, ← lx]; exact mid_seg eL
  have segY : ((arrOf st).toList.drop sb).take nb = Y := by rw [← lpx, ← ly]; exact mid_seg eL2
  refine wpS_bind (wpS_elem ey (wpS_bind (wpS_gal hO k2 (okY y my) ok (by omega) x0 (by rw [segX]; exact sX) fun k kn h1 h2 => ?_)))
  rw [segX] at h1 h2
  dsimp only
  have le1 : ∀ x ∈ X.take k, kLe κ x y := fun x hx => by
    have this : (!κ.blt (ky κ y) (ky κ x)) = true := h1 x hx
    show κ.blt (ky κ y) (ky κ x) = false
    simpa using this
  have lt1 : ∀ x ∈ X.drop k, kLt κ y x := fun x hx => by
    have this : (!κ.blt (ky κ y) (ky κ x)) = false := h2 x hx
    show κ.blt (ky κ y) (ky κ x) = true
    simpa using this
  by_cases c1 : na - k = 0
  · rw [if_pos (by simpa using c1)]
    refine wpS_pure (q (X ++ Y) st2 ⟨List.Perm.refl _, List.pairwise_append.mpr ⟨sX, sY, fun x hx z hz => ?_⟩⟩ (by rw [a2, eL, List.append_assoc]) k2 f2 pd2)
    rw [List.take_of_length_le (by omega)] at le1
    exact KeyOrd.kle_trans (le1 x hx) (yY z hz)
  · rw [if_neg (by simpa using c1)]
    obtain ⟨X', x, eX⟩ : ∃ X' x, X = X' ++ [x] := by
      rcases List.eq_nil_or_concat X with e | ⟨X', x, e⟩
      · rw [e] at lx; simp at lx; omega
      · exact ⟨X', x, by rw [e, List.concat_eq_append]⟩
    have lX' : X'.length = na - 1 := by rw [eX, List.length_append] at lx; simp at lx; omega
    have ex : (arrOf st)[sa + k + (na - k) - 1]? = some x := by
      have := mid_get eL (i := na - 1) (by omega)
      rw [show sa + k + (na - k) - 1 = P.length + (na - 1) by omega, this, eX, List.getElem?_append_right (by omega), lX', Nat.sub_self]
      rfl
    have xX : ∀ z ∈ X, kLe κ z x := fun z hz => by
      rw [eX] at sX hz
      rcases List.mem_append.mp hz with c | c
      · exact (List.pairwise_append.mp sX).2.2 z c x (by simp)
      · obtain rfl := List.mem_singleton.mp c
        exact KeyOrd.kle_refl _
    have mx : x ∈ X := by rw [eX]; simp
    refine wpS_bind (wpS_elem ex (wpS_bind (wpS_gal hO k2 (okX x mx) ok (by omega) (by omega) (by rw [segY]; exact sY) fun m mn h3 h4 => ?_)))
    rw [segY] at h3 h4
    dsimp only
    have lt2 : ∀ z ∈ Y.take m, kLt κ z x := fun z hz => h3 z hz
    have le2 : ∀ z ∈ Y.drop m, kLe κ x z := fun z hz => h4 z hz
    by_cases c2 : m = 0
    · rw [if_pos (by simpa using c2)]
      refine wpS_pure (q (X ++ Y) st2 ⟨List.Perm.refl _, List.pairwise_append.mpr ⟨sX, sY, fun u hu z hz => ?_⟩⟩ (by rw [a2, eL, List.append_assoc]) k2 f2 pd2)
      rw [c2] at le2
      exact KeyOrd.kle_trans (xX u hu) (le2 z hz)
    · rw [if_neg (by simpa using c2)]
      have xl : ((arrOf st).extract (sa + k) sb).toList = X.drop k := by
        have := mid_ext eL k
        rw [lp, lx, ← es] at this
        exact this
      have yl : ((arrOf st).extract sb (sb + m)).toList = Y.take m := by
        have := mid_ext2 eL2 (k := m) (by omega)
        rw [lpx] at this
        exact this
      generalize (arrOf st).extract (sa + k) sb = xa at xl ⊢
      generalize (arrOf st).extract sb (sb + m) = yb at yl ⊢
      have zx : xa.size = na - k := by rw [← Array.length_toList, xl, List.length_drop, lx]
      have zy : yb.size = m := by rw [← Array.length_toList, yl, List.length_take, ly]; omega
      have fstY : ∀ z, yb[0]? = some z → z = y := fun z hz => by
        rw [← Array.getElem?_toList, yl, eY] at hz
        cases m with
        | zero => exact absurd rfl c2
        | succ m => exact (Option.some.inj hz).symm
      have lstX : ∀ z, xa[xa.size - 1]? = some z → z = x := fun z hz => by
        rw [← Array.getElem?_toList, xl, List.getElem?_drop, zx, show k + (na - k - 1) = na - 1 by omega, eX, List.getElem?_append_right (by omega), lX', Nat.sub_self] at hz
        exact (Option.some.inj hz).symm
      have kxa : ∀ p ∈ xa.toList, KOk κ p := fun p hp => okX p (List.mem_of_mem_drop (xl ▸ hp))
      have kyb : ∀ p ∈ yb.toList, KOk κ p := fun p hp => okY p (List.mem_of_mem_take (yl ▸ hp))
      have sxa : xa.toList.Pairwise (kLe κ) := by rw [xl]; exact sX.sublist (List.drop_sublist _ _)
      have syb : yb.toList.Pairwise (kLe κ) := by rw [yl]; exact sY.sublist (List.take_sublist _ _)
      have cont : ∀ r st', SameS st2 st' → MRes κ xa yb r → wpS (model prog w) A E s (do
          modify fun s => setArr s (r.toList.zipIdx.foldl (fun a (p, j) => a.setIfInBounds (sa + k + j) p) (arrOf s))
          let s ← get
          pure (failedOf s).isNone) Q st' := fun r st' ss hr => by
        have a3 : arrOf st' = arrOf st := ss.2.1.trans a2
        have hr2 : Mgd (kLe κ) (X.drop k ++ Y.take m) r.toList := by
          have hr : Mgd (kLe κ) (xa.toList ++ yb.toList) r.toList := hr
          rwa [xl, yl] at hr
        have lr : r.toList.length = na - k + m := by
          rw [hr2.1.length_eq, List.length_append, List.length_drop, List.length_take]
          omega
        refine wpS_bind (wpS_modify (wpS_bind (wpS_get (wpS_pure ?_))))
        have f4 : failedOf st' = none := ss.2.2.2.trans f2
        show Q (failedOf st').isNone _
        rw [f4]
        have pl := put_list (sa := sa + k) r.toList 0 (arrOf st) (by rw [lr]; omega)
        refine q (X.take k ++ (r.toList ++ Y.drop m)) _ ?_ ?_ (ss.1.trans k2) f4 (ss.2.2.1.trans pd2)
        · refine ⟨?_, ?_⟩
          · have p0 : (X.take k ++ (r.toList ++ Y.drop m)).Perm (X.take k ++ ((X.drop k ++ Y.take m) ++ Y.drop m)) := List.Perm.append_left _ (hr2.1.append_right _)
            refine p0.trans ?_
            rw [List.append_assoc, List.take_append_drop, ← List.append_assoc, List.take_append_drop]
          · refine List.pairwise_append.mpr ⟨sX.sublist (List.take_sublist _ _), List.pairwise_append.mpr ⟨hr2.2, sY.sublist (List.drop_sublist _ _), fun u hu z hz => ?_⟩, fun u hu z hz => ?_⟩
            · have hu := hr2.1.mem_iff.mp hu
              rcases List.mem_append.mp hu with c | c
              · exact KeyOrd.kle_trans (xX u (List.mem_of_mem_drop c)) (le2 z hz)
              · exact KeyOrd.kle_trans (lt2 u c).le (le2 z hz)
            · have yz : kLe κ u y := le1 u hu
              rcases List.mem_append.mp hz with c | c
              · have c := hr2.1.mem_iff.mp c
                rcases List.mem_append.mp c with c | c
                · exact KeyOrd.kle_trans yz (lt1 z c).le
                · exact KeyOrd.kle_trans yz (yY z (List.mem_of_mem_take c))
              · exact KeyOrd.kle_trans yz (yY z (List.mem_of_mem_drop c))
        · show (r.toList.zipIdx.foldl (fun a (p, j) => a.setIfInBounds (sa + k + j) p) (arrOf st')).toList = _
          rw [a3]
          refine Eq.trans pl ?_
          rw [Nat.add_zero, lr, eL]
          have e1 : (P ++ (X ++ (Y ++ R))).take (sa + k) = P ++ X.take k := by
            rw [List.take_append, lp, List.take_of_length_le (by omega), show sa + k - sa = k by omega, List.take_append_of_le_length (by omega)]
          have e2 : (P ++ (X ++ (Y ++ R))).drop (sa + k + (na - k + m)) = Y.drop m ++ R := by
            rw [← List.append_assoc, List.drop_append, lpx, List.drop_of_length_le (by omega), show sa + k + (na - k + m) - sb = m by omega, List.nil_append, List.drop_append_of_le_length (by omega)]
          rw [e1, e2]
          simp only [List.append_assoc]
      by_cases c3 : na - k ≤ m
      · rw [if_pos c3]
        refine wpS_bind (wpS_mergeLo hO k2 ⟨kxa, kyb, by omega, by omega, fun z hz u hu => by rw [lstX u hu]; exact lt2 z (yl ▸ hz)⟩ sxa syb (fun z hz u hu => by rw [fstY z hz]; exact (lt1 u (xl ▸ hu)).le) fun r st' ss hr => ?_)
        exact cont r st' ss hr
      · rw [if_neg c3]
        refine wpS_bind (wpS_mergeHi hO k2 ⟨kxa, kyb, by omega, by omega, fun u hu z hz => by rw [fstY z hz]; exact lt1 u (xl ▸ hu)⟩ sxa syb (fun z hz u hu => by rw [lstX z hz]; exact (lt2 u (yl ▸ hu)).le) fun r st' ss hr => ?_)
        exact cont r st' ss hr
end
end L2
namespace L2
open PySem PySem.Spec PyProof.Rows
section
variable {prog : Program} {w : World} {A : Around} {E : Value → Shared → Prop} {s : Shared} {κ : KeyKind}
structure SBL (st0 : SortSt) (lo : Nat) (st : SortSt) : Prop where
  pm : (arrOf st).Perm (arrOf st0)
  lw : ∀ i, i < lo → (arrOf st)[i]? = (arrOf st0)[i]?
  kd : kindOf st = oneType'
  fl : failedOf st = failedOf st0
  pd : pendingOf st = pendingOf st0
section
variable {st0 st : SortSt} {lo : Nat}
theorem SBL.size (h : SBL st0 lo st) : (arrOf st).size = (arrOf st0).size := h.pm.size_eq
theorem SBL.put (h : SBL st0 lo st) {xs : Array Keyed} (p : xs.Perm (arrOf st)) (l : ∀ i, i < lo → xs[i]? = (arrOf st)[i]?) : SBL st0 lo (setArr st xs) := ⟨p.trans h.pm, fun i hi => (l i hi).trans (h.lw i hi), h.kd, h.fl, h.pd⟩
theorem SBL.at (h : SBL st0 lo st) (ok : ∀ p ∈ (arrOf st0).toList, KOk κ p) {i : Nat} (hi : i < (arrOf st0).size) : ∃ p, (arrOf st)[i]? = some p ∧ KOk κ p ∧ KK κ (arrOf st) i = ky κ p := by
  have hi' : i < (arrOf st).size := by rw [h.size]; exact hi
  have e : (arrOf st)[i]? = some (arrOf st)[i] := getElem?_pos _ i hi'
  refine ⟨_, e, ok _ ((Array.perm_iff_toList_perm.mp h.pm).mem_iff.mp (by simp)), KK_congr (e.trans rfl)⟩
theorem wpS_ltL (hO : κ.OneLt) (h : SBL st0 lo st) (ok : ∀ p ∈ (arrOf st0).toList, KOk κ p) {i j : Nat} (hi : i < (arrOf st0).size) (hj : j < (arrOf st0).size) {Q : Option Bool → SortSt → Prop} (q : Q (some (κ.blt (KK κ (arrOf st) i) (KK κ (arrOf st) j))) st) : wpS (model prog w) A E s (ltAt' i j) Q st := by
  obtain ⟨p, ep, ⟨z, hz⟩, kp⟩ := h.at ok hi
  obtain ⟨p', ep', ⟨z', hz'⟩, kp'⟩ := h.at ok hj
  rw [kp, kp', ky_of hz, ky_of hz'] at q
  exact wpS_ltAtK hO h.kd ep ep' hz hz' q
def SegS (κ : KeyKind) (xs : Array Keyed) (lo n : Nat) : Prop := ∀ i j, i ≤ j → j < n → κ.kle (KK κ xs (lo + i)) (KK κ xs (lo + j))
def SegD (κ : KeyKind) (xs : Array Keyed) (lo n : Nat) : Prop := ∀ i j, i ≤ j → j < n → κ.kle (KK κ xs (lo + j)) (KK κ xs (lo + i))
theorem SegS.one {xs : Array Keyed} : SegS κ xs lo 1 := fun i j ij j1 => by
  obtain rfl : i = j := by omega
  exact KeyOrd.kle_refl _
theorem SegS.more {xs : Array Keyed} {n : Nat} (h : SegS κ xs lo n) (n0 : 0 < n) (k : κ.kle (KK κ xs (lo + n - 1)) (KK κ xs (lo + n))) : SegS κ xs lo (n + 1) := fun i j ij jn => by
  by_cases c : j < n
  · exact h i j ij c
  · obtain rfl : j = n := by omega
    by_cases d : i = j
    · subst d; exact KeyOrd.kle_refl _
    · have := h i (j - 1) (by omega) (by omega)
      rw [show lo + (j - 1) = lo + j - 1 by omega] at this
      exact KeyOrd.kle_trans this k
theorem SegD.more {xs : Array Keyed} {n : Nat} (h : SegD κ xs lo n) (n0 : 0 < n) (k : κ.kle (KK κ xs (lo + n)) (KK κ xs (lo + n - 1))) : SegD κ xs lo (n + 1) := fun i j ij jn => by
  by_cases c : j < n
  · exact h i j ij c
  · obtain rfl : j = n := by omega
    by_cases d : i = j
    · subst d; exact KeyOrd.kle_refl _
    · have := h i (j - 1) (by omega) (by omega)
      rw [show lo + (j - 1) = lo + j - 1 by omega] at this
      exact KeyOrd.kle_trans k this
theorem SBL.flip (h : SBL st0 lo st) {i j : Nat} (li : lo ≤ i) (hj : j ≤ (arrOf st0).size) : SBL st0 lo (setArr st (mirror (arrOf st) i j ((j - i) / 2))) := by
  refine h.put (mirror_perm _ _ _ _) fun k hk => ?_
  rw [getElem?_mirror_all (by rw [h.size]; exact hj), if_neg (by omega)]
theorem wpS_rev {i j : Nat} {Q : PUnit → SortSt → Prop} (q : Q ⟨⟩ (setArr st (mirror (arrOf st) i j ((j - i) / 2)))) : wpS (model prog w) A E s (reverseSlice' i j) Q st := by
  rw [reverseSlice'_eq]
  exact wpS_modify q
def cTail (lo n nrem : Nat) : StateT SortSt Sem (Option Nat) := do
  let mut n := n
  reverseSlice' lo (lo + n)
  for _ in [n:nrem] do
    let some sm ← ltAt' (lo + n) (lo + n - 1) | return none
    if sm then break
    n := n + 1
  return some n
theorem wpS_cTail (hO : κ.OneLt) (h : SBL st0 lo st) (ok : ∀ p ∈ (arrOf st0).toList, KOk κ p) {n nrem : Nat} (n1 : 1 ≤ n) (nn : n ≤ nrem) (hz : lo + nrem ≤ (arrOf st0).size) (sd : SegD κ (arrOf st) lo n) {Q : Option Nat → SortSt → Prop} (q : ∀ m st', SBL st0 lo st' → 1 ≤ m → m ≤ nrem → SegS κ (arrOf st') lo m → Q (some m) st') : wpS (model prog w) A E s (cTail lo n nrem) Q st := by
  unfold cTail
  refine wpS_bind (wpS_rev ?_)
  have h2 := h.flip (i := lo) (j := lo + n) (Nat.le_refl _) (by omega)
  have s2 : SegS κ (mirror (arrOf st) lo (lo + n) ((lo + n - lo) / 2)) lo n := fun i j ij jn => by
    rw [KK_mirror (by rw [h.size]; omega), KK_mirror (by rw [h.size]; omega), if_pos (by omega), if_pos (by omega)]
    have := sd (n - 1 - j) (n - 1 - i) (by omega) (by omega)
    rw [show lo + (n - 1 - i) = lo + (lo + n) - 1 - (lo + i) by omega, show lo + (n - 1 - j) = lo + (lo + n) - 1 - (lo + j) by omega] at this
    exact this
  have s2 : SegS κ (arrOf (setArr st (mirror (arrOf st) lo (lo + n) ((lo + n - lo) / 2)))) lo n := s2
  generalize setArr st (mirror (arrOf st) lo (lo + n) ((lo + n - lo) / 2)) = st2 at h2 s2 ⊢
  refine wpS_bind (wpS_mono (wpS_forRange (I := fun x c st3 => st3 = st2 ∧ c = (none, x) ∧ SegS κ (arrOf st2) lo x) (Q := fun c st3 => st3 = st2 ∧ ∃ m, c = (none, m) ∧ 1 ≤ m ∧ m ≤ nrem ∧ SegS κ (arrOf st2) lo m) ?_ ?_ ⟨rfl, rfl, s2⟩) ?_)
  · rintro x c st3 hx1 hx2 ⟨rfl, rfl, s3⟩
    refine wpS_bind (wpS_ltL hO h2 ok (by omega) (by omega) ?_)
    dsimp only
    cases e : κ.blt (KK κ (arrOf st3) (lo + x)) (KK κ (arrOf st3) (lo + x - 1)) with
    | true => exact wpS_pure ⟨rfl, x, rfl, by omega, by omega, s3⟩
    | false => exact wpS_pure ⟨rfl, rfl, s3.more (by omega) e⟩
  · rintro c st3 ⟨rfl, rfl, s3⟩
    rw [show max n nrem = nrem by omega] at s3 ⊢
    exact ⟨rfl, nrem, rfl, by omega, Nat.le_refl _, s3⟩
  · rintro c st3 ⟨rfl, m, rfl, m1, m2, s3⟩
    exact wpS_pure (q m st3 h2 m1 m2 s3)
def cDesc (lo n nrem : Nat) : StateT SortSt Sem (Option Nat) := do
  let mut n := n
  rule "list.sort.descending-run"
  n := n + 1
  let mut neq := 0
  for _ in [n:nrem] do
    let some sm ← ltAt' (lo + n) (lo + n - 1) | return none
    if sm then
      if neq > 0 then reverseSlice' (lo + n - (neq + 1)) (lo + n)
      neq := 0
    else
      let some lg ← ltAt' (lo + n - 1) (lo + n) | return none
      if lg then break
      neq := neq + 1
    n := n + 1
  if neq > 0 then reverseSlice' (lo + n - (neq + 1)) (lo + n)
  cTail lo n nrem
theorem eq_seg {xs : Array Keyed} {i j : Nat} (hj : j ≤ xs.size) (h : ∀ k, i ≤ k → k < j → KK κ xs k = KK κ xs (j - 1)) (k : Nat) : KK κ (mirror xs i j ((j - i) / 2)) k = KK κ xs k := KK_mirror_equal hj h k
theorem wpS_cDesc (hO : κ.OneLt) (h : SBL st0 lo st) (ok : ∀ p ∈ (arrOf st0).toList, KOk κ p) {n nrem : Nat} (nn : n + 1 ≤ nrem) (hz : lo + nrem ≤ (arrOf st0).size) (sd : SegD κ (arrOf st) lo (n + 1)) {Q : Option Nat → SortSt → Prop} (q : ∀ m st', SBL st0 lo st' → 1 ≤ m → m ≤ nrem → SegS κ (arrOf st') lo m → Q (some m) st') : wpS (model prog w) A E s (cDesc lo n nrem) Q st := by
  unfold cDesc
  refine wpS_bind (wpS_lift (wpAny_rule ⟨rfl, ?_⟩))
  have same : ∀ {st' : SortSt} {m neq : Nat}, SBL st0 lo st' → lo + m ≤ (arrOf st0).size → neq + 1 ≤ m → (∀ i, lo + m - (neq + 1) ≤ i → i < lo + m → KK κ (arrOf st') i = KK κ (arrOf st') (lo + m - 1)) → SegD κ (arrOf st') lo m → SegD κ (arrOf (setArr st' (mirror (arrOf st') (lo + m - (neq + 1)) (lo + m) ((lo + m - (lo + m - (neq + 1))) / 2)))) lo m := fun h' hm hq he hd i j ij jm => by
    show κ.kle (KK κ (mirror _ _ _ _) _) (KK κ (mirror _ _ _ _) _)
    rw [eq_seg (by rw [h'.size]; exact hm) he, eq_seg (by rw [h'.size]; exact hm) he]
    exact hd i j ij jm
  refine wpS_bind (wpS_mono (wpS_forRange (I := fun x c st' => ∃ neq, c = (none, x, neq) ∧ SBL st0 lo st' ∧ SegD κ (arrOf st') lo x ∧ neq + 1 ≤ x ∧ ∀ i, lo + x - (neq + 1) ≤ i → i < lo + x → KK κ (arrOf st') i = KK κ (arrOf st') (lo + x - 1)) (Q := fun c st' => ∃ m neq, c = (none, m, neq) ∧ SBL st0 lo st' ∧ n + 1 ≤ m ∧ m ≤ nrem ∧ SegD κ (arrOf st') lo m ∧ neq + 1 ≤ m ∧ ∀ i, lo + m - (neq + 1) ≤ i → i < lo + m → KK κ (arrOf st') i = KK κ (arrOf st') (lo + m - 1)) ?_ ?_ ⟨0, rfl, h, sd, by omega, fun i i1 i2 => by congr 1; omega⟩) ?_)
  · rintro x c st' hx1 hx2 ⟨neq, rfl, h', d', hq, he⟩
    dsimp only
    refine wpS_bind (wpS_ltL hO h' ok (by omega) (by omega) ?_)
    dsimp only
    cases e : κ.blt (KK κ (arrOf st') (lo + x)) (KK κ (arrOf st') (lo + x - 1)) with
    | true =>
      rw [if_pos rfl]
      by_cases cq : neq > 0
      · rw [if_pos cq]
        refine wpS_bind (wpS_rev (wpS_pure ⟨0, rfl, h'.flip (by omega) (by omega), ?_, by omega, fun i i1 i2 => by congr 1; omega⟩))
        have d2 := same h' (by omega) hq he d'
        refine SegD.more d2 (by omega) ?_
        show κ.kle (KK κ (mirror _ _ _ _) _) (KK κ (mirror _ _ _ _) _)
        rw [eq_seg (by rw [h'.size]; omega) he, eq_seg (by rw [h'.size]; omega) he]
        exact KeyOrd.kle_of_klt e
      · rw [if_neg cq]
        exact wpS_pure ⟨0, rfl, h', d'.more (by omega) (KeyOrd.kle_of_klt e), by omega, fun i i1 i2 => by congr 1; omega⟩
    | false =>
      rw [if_neg (by decide)]
      refine wpS_bind (wpS_ltL hO h' ok (by omega) (by omega) ?_)
      dsimp only
      cases e2 : κ.blt (KK κ (arrOf st') (lo + x - 1)) (KK κ (arrOf st') (lo + x)) with
      | true => exact wpS_pure ⟨x, neq, rfl, h', by omega, by omega, d', hq, he⟩
      | false =>
        have eqx : KK κ (arrOf st') (lo + x) = KK κ (arrOf st') (lo + x - 1) := KeyOrd.kle_antisymm e2 e
        refine wpS_pure ⟨neq + 1, rfl, h', d'.more (by omega) e2, by omega, fun i i1 i2 => ?_⟩
        rw [show lo + (x + 1) - 1 = lo + x by omega]
        by_cases ix : i = lo + x
        · rw [ix]
        · rw [eqx]
          exact he i (by omega) (by omega)
  · rintro c st' ⟨neq, rfl, h', d', hq, he⟩
    rw [show max (n + 1) nrem = nrem by omega] at d' hq he ⊢
    exact ⟨nrem, neq, rfl, h', nn, Nat.le_refl _, d', hq, he⟩
  · rintro c st' ⟨m, neq, rfl, h', m1, m2, d', hq, he⟩
    dsimp only
    by_cases cq : neq > 0
    · rw [if_pos cq]
      exact wpS_bind (wpS_rev (wpS_cTail hO (h'.flip (by omega) (by omega)) ok (by omega) m2 hz (same h' (by omega) hq he d') q))
    · rw [if_neg cq]
      exact wpS_cTail hO h' ok (by omega) m2 hz d' q
theorem wpS_countRunL (hO : κ.OneLt) (h : SBL st0 lo st) (ok : ∀ p ∈ (arrOf st0).toList, KOk κ p) {nrem : Nat} (n1 : 1 ≤ nrem) (hz : lo + nrem ≤ (arrOf st0).size) {Q : Option Nat → SortSt → Prop} (q : ∀ m st', SBL st0 lo st' → 1 ≤ m → m ≤ nrem → SegS κ (arrOf st') lo m → Q (some m) st') : wpS (model prog w) A E s (countRun' lo nrem) Q st := by
  rw [countRun'_eq]
  refine wpS_bind (wpS_mono (wpS_forRange (I := fun x c st3 => st3 = st ∧ c = (none, x) ∧ SegS κ (arrOf st) lo x) (Q := fun c st3 => st3 = st ∧ ∃ m, c = (none, m) ∧ 1 ≤ m ∧ m ≤ nrem ∧ SegS κ (arrOf st) lo m ∧ (m = nrem ∨ κ.klt (KK κ (arrOf st) (lo + m)) (KK κ (arrOf st) (lo + m - 1)))) ?_ ?_ ⟨rfl, rfl, SegS.one⟩) ?_)
  · rintro x c st3 hx1 hx2 ⟨rfl, rfl, s3⟩
    refine wpS_bind (wpS_ltL hO h ok (by omega) (by omega) ?_)
    dsimp only
    cases e : κ.blt (KK κ (arrOf st3) (lo + x)) (KK κ (arrOf st3) (lo + x - 1)) with
    | true => exact wpS_pure ⟨rfl, x, rfl, by omega, by omega, s3, .inr e⟩
    | false => exact wpS_pure ⟨rfl, rfl, s3.more (by omega) e⟩
  · rintro c st3 ⟨rfl, rfl, s3⟩
    rw [show max 1 nrem = nrem by omega] at s3 ⊢
    exact ⟨rfl, nrem, rfl, n1, Nat.le_refl _, s3, .inl rfl⟩
  · rintro c st3 ⟨rfl, m, rfl, m1, m2, s3, or3⟩
    dsimp only
    by_cases c1 : m = nrem
    · rw [if_pos (by simpa using c1)]
      exact wpS_pure (q m st3 h m1 m2 s3)
    · rw [if_neg (by simpa using c1)]
      have lt := or3.resolve_left c1
      by_cases c2 : m > 1
      · rw [if_pos c2]
        refine wpS_bind (wpS_ltL hO h ok (by omega) (by omega) ?_)
        dsimp only
        cases e : κ.blt (KK κ (arrOf st3) lo) (KK κ (arrOf st3) (lo + m - 1)) with
        | true => exact wpS_pure (q m st3 h m1 m2 s3)
        | false =>
          have all : ∀ k, lo ≤ k → k < lo + m → KK κ (arrOf st3) k = KK κ (arrOf st3) (lo + m - 1) := fun k k1 k2 => by
            have b1 := s3 0 (k - lo) (by omega) (by omega)
            have b2 := s3 (k - lo) (m - 1) (by omega) (by omega)
            rw [show lo + (k - lo) = k by omega] at b1 b2
            rw [show lo + (m - 1) = lo + m - 1 by omega] at b2
            exact KeyOrd.kle_antisymm b2 (KeyOrd.kle_trans e b1)
          have d2 : SegD κ (arrOf (setArr st3 (mirror (arrOf st3) lo (lo + m) ((lo + m - lo) / 2)))) lo (m + 1) := by
            have hs : lo + m ≤ (arrOf st3).size := by rw [h.size]; omega
            refine SegD.more (fun i j ij jm => ?_) (by omega) ?_
            · show κ.kle (KK κ (mirror _ _ _ _) _) (KK κ (mirror _ _ _ _) _)
              rw [eq_seg hs all, eq_seg hs all, all (lo + i) (by omega) (by omega), all (lo + j) (by omega) (by omega)]
              exact KeyOrd.kle_refl _
            · show κ.kle (KK κ (mirror _ _ _ _) _) (KK κ (mirror _ _ _ _) _)
              rw [eq_seg hs all, eq_seg hs all]
              exact KeyOrd.kle_of_klt lt
          exact wpS_bind (wpS_rev (wpS_cDesc hO (h.flip (Nat.le_refl _) (by omega)) ok (by omega) hz d2 q))
      · rw [if_neg c2]
        obtain rfl : m = 1 := by omega
        refine wpS_cDesc hO h ok (by omega) hz (SegD.more (fun i j ij jm => ?_) (by omega) (KeyOrd.kle_of_klt lt)) q
        obtain rfl : i = j := by omega
        exact KeyOrd.kle_refl _
theorem wpS_binL (hO : κ.OneLt) (h : SBL st0 lo st) (ok : ∀ p ∈ (arrOf st0).toList, KOk κ p) {n m : Nat} (mn : m ≤ n) (hz : lo + n ≤ (arrOf st0).size) (so : SegS κ (arrOf st) lo m) {Q : Bool → SortSt → Prop} (q : ∀ st', SBL st0 lo st' → SegS κ (arrOf st') lo n → Q true st') : wpS (model prog w) A E s (binarySort' lo n m) Q st := by
  rw [binarySort'_eq]
  refine wpS_bind (wpS_mono (wpS_forRange (I := fun k c st' => c = (none, ()) ∧ SBL st0 lo st' ∧ SegS κ (arrOf st') lo (min k n)) (Q := fun c st' => c = (none, ()) ∧ SBL st0 lo st' ∧ SegS κ (arrOf st') lo n) ?_ ?_ ⟨rfl, h, fun i j ij jm => ?_⟩) ?_)
  · rintro k c st' hk1 hk2 ⟨rfl, h', s'⟩
    rw [show min k n = k by omega] at s'
    refine wpS_bind (wpS_mono (wpS_forRange (I := fun x c st2 => st2 = st' ∧ ∃ l r, c = (none, l, r) ∧ l ≤ r ∧ r ≤ k ∧ r - l ≤ k - x ∧ (∀ i, i < l → κ.kle (KK κ (arrOf st') (lo + i)) (KK κ (arrOf st') (lo + k))) ∧ ∀ i, r ≤ i → i < k → κ.klt (KK κ (arrOf st') (lo + k)) (KK κ (arrOf st') (lo + i))) (Q := fun c st2 => st2 = st' ∧ ∃ l, c = (none, l, l) ∧ l ≤ k ∧ (∀ i, i < l → κ.kle (KK κ (arrOf st') (lo + i)) (KK κ (arrOf st') (lo + k))) ∧ ∀ i, l ≤ i → i < k → κ.klt (KK κ (arrOf st') (lo + k)) (KK κ (arrOf st') (lo + i))) ?_ ?_ ⟨rfl, 0, k, rfl, by omega, by omega, by omega, fun i hi => by omega, fun i i1 i2 => by omega⟩) ?_)
    · rintro x c st2 _ hx ⟨rfl, l, r, rfl, a1, a2, a3, a4, a5⟩
      dsimp only
      by_cases c1 : l ≥ r
      · rw [if_pos c1]
        obtain rfl : l = r := by omega
        exact wpS_pure ⟨rfl, l, rfl, a2, a4, a5⟩
      · rw [if_neg c1]
        refine wpS_bind (wpS_ltL hO h' ok (by omega) (by omega) ?_)
        dsimp only
        cases e : κ.blt (KK κ (arrOf st2) (lo + k)) (KK κ (arrOf st2) (lo + (l + r) / 2)) with
        | true =>
          rw [if_pos rfl]
          exact wpS_pure ⟨rfl, l, (l + r) / 2, rfl, by omega, by omega, by omega, a4, fun i i1 i2 => KeyOrd.klt_of_klt_of_kle e (s' _ _ i1 i2)⟩
        | false =>
          rw [if_neg (by decide)]
          exact wpS_pure ⟨rfl, (l + r) / 2 + 1, r, rfl, by omega, by omega, by omega, fun i i1 => KeyOrd.kle_trans (s' i ((l + r) / 2) (by omega) (by omega)) (show κ.kle _ _ from e), a5⟩
    · rintro c st2 ⟨rfl, l, r, rfl, a1, a2, a3, a4, a5⟩
      obtain rfl : l = r := by omega
      exact ⟨rfl, l, rfl, a2, a4, a5⟩
    · rintro c st2 ⟨rfl, l, rfl, a2, a4, a5⟩
      dsimp only
      rw [moveDown'_eq]
      have hs : lo + k < (arrOf st2).size := by rw [h'.size]; omega
      refine wpS_bind (wpS_modify (wpS_pure ⟨rfl, h'.put (bubble_perm _ _ _) fun i hi => ?_, ?_⟩))
      · rw [getElem?_bubble hs _ (by omega)]
        rw [if_neg (by omega), if_neg (by omega)]
      · rw [show min (k + 1) n = k + 1 by omega]
        intro i j ij jk
        show κ.kle (KK κ (bubble (arrOf st2) (lo + k) (lo + k - (lo + l))) (lo + i)) (KK κ (bubble (arrOf st2) (lo + k) (lo + k - (lo + l))) (lo + j))
        rw [KK_bubble hs (by omega), KK_bubble hs (by omega), show lo + k - (lo + k - (lo + l)) = lo + l by omega]
        have idx : ∀ z, lo + z - 1 = lo + (z - 1) ∨ z = 0 := fun z => by omega
        repeat' split
        all_goals first
          | (exfalso; omega)
          | exact KeyOrd.kle_refl _
          | exact a4 _ (by omega)
          | exact KeyOrd.kle_of_klt (a5 _ (by omega) (by omega))
          | exact s' _ _ (by omega) (by omega)
          | (rw [show lo + i - 1 = lo + (i - 1) by omega, show lo + j - 1 = lo + (j - 1) by omega]; exact s' _ _ (by omega) (by omega))
          | (rw [show lo + j - 1 = lo + (j - 1) by omega]; first | exact s' _ _ (by omega) (by omega) | exact KeyOrd.kle_of_klt (a5 _ (by omega) (by omega)))
          | (rw [show lo + i - 1 = lo + (i - 1) by omega]; first | exact s' _ _ (by omega) (by omega) | exact a4 _ (by omega))
  · rintro c st' ⟨hc, h', s'⟩
    refine ⟨hc, h', ?_⟩
    rwa [show min (max (max m 1) n) n = n by omega] at s'
  · by_cases c : m = 0
    · obtain rfl : i = j := by omega
      exact KeyOrd.kle_refl _
    · exact so i j ij (by omega)
  · rintro c st' ⟨rfl, h', s'⟩
    exact wpS_pure (q st' h' s')
end
end
end L2
namespace L2
open PySem PySem.Spec PyProof.Rows
section
variable {prog : Program} {w : World} {A : Around} {E : Value → Shared → Prop} {s : Shared} {κ : KeyKind}
def RunsOf (κ : KeyKind) : Nat → List (Nat × Nat × Nat) → List (List Keyed) → Prop
  | _, [], [] => True
  | b, t :: r, X :: Xs => t.1 = b ∧ t.2.1 = X.length ∧ 0 < X.length ∧ X.Pairwise (kLe κ) ∧ RunsOf κ (b + X.length) r Xs
  | _, _, _ => False
theorem RunsOf.len : ∀ {b : Nat} {p : List (Nat × Nat × Nat)} {Xs : List (List Keyed)}, RunsOf κ b p Xs → p.length = Xs.length
  | _, [], [], _ => rfl
  | _, _ :: _, _ :: _, h => congrArg (· + 1) (RunsOf.len h.2.2.2.2)
theorem RunsOf.few : ∀ {b : Nat} {p : List (Nat × Nat × Nat)} {Xs : List (List Keyed)}, RunsOf κ b p Xs → Xs.length ≤ Xs.flatten.length
  | _, [], [], _ => Nat.le_refl _
  | _, _ :: _, X :: Xs, h => by
    have := RunsOf.few h.2.2.2.2
    have := h.2.2.1
    rw [List.flatten_cons, List.length_append, List.length_cons]
    omega
theorem RunsOf.snoc {X : List Keyed} {n w : Nat} (h0 : 0 < X.length) (hn : n = X.length) (hs : X.Pairwise (kLe κ)) : ∀ {b : Nat} {p : List (Nat × Nat × Nat)} {Xs : List (List Keyed)} {lo : Nat}, RunsOf κ b p Xs → lo = b + Xs.flatten.length → RunsOf κ b (p ++ [(lo, n, w)]) (Xs ++ [X])
  | b, [], [], lo, _, e => ⟨e, hn, h0, hs, trivial⟩
  | b, t :: r, Y :: Xs, lo, h, e => ⟨h.1, h.2.1, h.2.2.1, h.2.2.2.1, RunsOf.snoc h0 hn hs h.2.2.2.2 (by rw [e, List.flatten_cons, List.length_append]; omega)⟩
theorem RunsOf.alike : ∀ {b : Nat} {p p' : List (Nat × Nat × Nat)} {Xs : List (List Keyed)}, p.map (fun t => (t.1, t.2.1)) = p'.map (fun t => (t.1, t.2.1)) → RunsOf κ b p Xs → RunsOf κ b p' Xs
  | _, [], [], [], _, _ => trivial
  | _, t :: r, t' :: r', X :: Xs, e, h => by
    rw [List.map_cons, List.map_cons] at e
    obtain ⟨e1, e2⟩ := List.cons.inj e
    have e3 : t.1 = t'.1 := congrArg (·.1) e1
    have e4 : t.2.1 = t'.2.1 := congrArg (·.2) e1
    exact ⟨e3.symm.trans h.1, e4.symm.trans h.2.1, h.2.2.1, h.2.2.2.1, RunsOf.alike e2 h.2.2.2.2⟩
theorem RunsOf.two : ∀ {i b : Nat} {p : List (Nat × Nat × Nat)} {Xs : List (List Keyed)}, RunsOf κ b p Xs → i + 1 < p.length → ∃ pa sa na pw sb nb pw2 pb, ∃ (C : List (List Keyed)) (X Y : List Keyed) (D : List (List Keyed)), p = pa ++ (sa, na, pw) :: (sb, nb, pw2) :: pb ∧ pa.length = i ∧ Xs = C ++ X :: Y :: D ∧ sa = b + C.flatten.length ∧ na = X.length ∧ sb = sa + na ∧ nb = Y.length ∧ 0 < na ∧ 0 < nb ∧ X.Pairwise (kLe κ) ∧ Y.Pairwise (kLe κ) ∧ ∀ M : List Keyed, M.length = na + nb → M.Pairwise (kLe κ) → RunsOf κ b (pa ++ (sa, na + nb, pw) :: pb) (C ++ M :: D)
  | 0, b, (sa, na, pw) :: (sb, nb, pw2) :: pb, X :: Y :: D, h, _ => by
    obtain ⟨h1, h2, h3, h4, g1, g2, g3, g4, g5⟩ := h
    have h1 : sa = b := h1
    have h2 : na = X.length := h2
    have g1 : sb = b + X.length := g1
    have g2 : nb = Y.length := g2
    refine ⟨[], sa, na, pw, sb, nb, pw2, pb, [], X, Y, D, rfl, rfl, rfl, by rw [h1]; rfl, h2, by omega, g2, by omega, by omega, h4, g4, fun M l sM => ⟨h1, l.symm, by omega, sM, ?_⟩⟩
    rw [l, h2, g2, ← Nat.add_assoc]
    exact g5
  | 0, _, [_], _, _, h => by simp at h
  | 0, _, (_ :: _ :: _), [_], h, _ => by
    exact absurd h.2.2.2.2 (by simp [RunsOf])
  | i + 1, b, t :: r, Z :: Xs, h, hi => by
    obtain ⟨h1, h2, h3, h4, h5⟩ := h
    obtain ⟨pa, sa, na, pw, sb, nb, pw2, pb, C, X, Y, D, e1, e2, e3, e4, e5, e6, e7, e8, e9, e10, e11, e12⟩ := RunsOf.two (i := i) h5 (by simpa using hi)
    refine ⟨t :: pa, sa, na, pw, sb, nb, pw2, pb, Z :: C, X, Y, D, by rw [e1]; rfl, by rw [List.length_cons, e2], by rw [e3]; rfl, by rw [e4, List.flatten_cons, List.length_append]; omega, e5, e6, e7, e8, e9, e10, e11, fun M l sM => ⟨h1, h2, h3, h4, e12 M l sM⟩⟩
structure SI (κ : KeyKind) (a₀ : Array Keyed) (st : SortSt) (Xs : List (List Keyed)) (R : List Keyed) : Prop where
  kd : kindOf st = oneType'
  fl : failedOf st = none
  pm : (arrOf st).toList.Perm a₀.toList
  eL : (arrOf st).toList = Xs.flatten ++ R
  ru : RunsOf κ 0 (pendingOf st).toList Xs
section
variable {a₀ : Array Keyed} {st : SortSt} {Xs : List (List Keyed)} {R : List Keyed}
theorem SI.size (h : SI κ a₀ st Xs R) : Xs.flatten.length + R.length = a₀.size := by
  have := h.pm.length_eq
  rw [h.eL, List.length_append, Array.length_toList] at this
  exact this
theorem wpS_mergeSI (hO : κ.OneLt) (ok : ∀ p ∈ a₀.toList, KOk κ p) (h : SI κ a₀ st Xs R) {i : Nat} (hi : i + 1 < (pendingOf st).size) {Q : Bool → SortSt → Prop} (q : ∀ st' Xs', SI κ a₀ st' Xs' R → Xs'.length + 1 = Xs.length → Xs'.flatten.length = Xs.flatten.length → Q true st') : wpS (model prog w) A E s (mergeAt' i) Q st := by
  obtain ⟨pa, sa, na, pw, sb, nb, pw2, pb, C, X, Y, D, e1, e2, e3, e4, e5, e6, e7, e8, e9, e10, e11, e12⟩ := h.ru.two (i := i) (by rw [Array.length_toList]; exact hi)
  have p1 : (pendingOf st)[i]? = some (sa, na, pw) := by
    rw [← Array.getElem?_toList, e1, List.getElem?_append_right (by omega), e2, Nat.sub_self]
    rfl
  have p2 : (pendingOf st)[i + 1]? = some (sb, nb, pw2) := by
    rw [← Array.getElem?_toList, e1, List.getElem?_append_right (by omega), e2, show i + 1 - i = 1 by omega]
    rfl
  have eL : (arrOf st).toList = C.flatten ++ (X ++ (Y ++ (D.flatten ++ R))) := by
    rw [h.eL, e3]
    simp only [List.flatten_append, List.flatten_cons, List.append_assoc]
  refine wpS_mergeAt hO h.kd (fun p hp => ok p (h.pm.mem_iff.mp hp)) h.fl p1 p2 eL (by rw [e4, Nat.zero_add]) e5.symm e7.symm e6 e8 e9 e10 e11 fun M st' hM eM kd' fl' pd' => ?_
  have lM : M.length = na + nb := by rw [hM.1.length_eq, List.length_append, e5, e7]
  refine q st' (C ++ M :: D) ⟨kd', fl', ?_, ?_, ?_⟩ ?_ ?_
  · refine List.Perm.trans ?_ h.pm
    rw [eM, eL]
    refine List.Perm.append_left _ ?_
    rw [← List.append_assoc X Y]
    exact hM.1.append_right _
  · rw [eM]
    simp only [List.flatten_append, List.flatten_cons, List.append_assoc]
  · have : (pendingOf st').toList = pa ++ (sa, na + nb, pw) :: pb := by
      rw [pd', Array.toList_eraseIdxIfInBounds, Array.toList_setIfInBounds, e1, ← e2, List.set_append_right _ _ (Nat.le_refl _), Nat.sub_self, List.eraseIdx_append_of_length_le (by omega), show pa.length + 1 - pa.length = 1 by omega]
      rfl
    rw [this]
    exact e12 M lM hM.2
  · rw [e3]
    simp only [List.length_append, List.length_cons]
    omega
  · rw [e3]
    simp only [List.flatten_append, List.flatten_cons, List.length_append, lM, e5, e7]
    omega
end
theorem seg_pair {xs : Array Keyed} {lo n : Nat} (hz : lo + n ≤ xs.size) (h : SegS κ xs lo n) : ((xs.toList.drop lo).take n).Pairwise (kLe κ) := by
  rw [List.pairwise_iff_getElem]
  intro i j hi hj ij
  rw [List.length_take, List.length_drop, Array.length_toList] at hi hj
  rw [List.getElem_take, List.getElem_take, List.getElem_drop, List.getElem_drop]
  have := h i j (by omega) (by omega)
  have k : ∀ i (hi : lo + i < xs.toList.length), KK κ xs (lo + i) = ky κ (xs.toList[lo + i]) := fun i hi => KK_congr (by
    rw [← Array.getElem?_toList, List.getElem?_eq_getElem hi]
    rfl)
  rw [k i (by rw [Array.length_toList]; omega), k j (by rw [Array.length_toList]; omega)] at this
  exact this
theorem SBL.tail {st0 st : SortSt} {lo : Nat} (h : SBL st0 lo st) {P R : List Keyed} (e : (arrOf st0).toList = P ++ R) (l : P.length = lo) : (arrOf st).toList = P ++ (arrOf st).toList.drop lo ∧ ((arrOf st).toList.drop lo).Perm R := by
  have t : (arrOf st).toList.take lo = P := by
    apply List.ext_getElem?
    intro i
    by_cases c : i < lo
    · rw [List.getElem?_take_of_lt c, Array.getElem?_toList, h.lw i c, ← Array.getElem?_toList, e, List.getElem?_append_left (by omega)]
    · rw [List.getElem?_eq_none (by rw [List.length_take]; omega), List.getElem?_eq_none (by omega)]
  have e2 : (arrOf st).toList = P ++ (arrOf st).toList.drop lo := by
    conv => lhs; rw [← List.take_append_drop lo (arrOf st).toList]
    rw [t]
  refine ⟨e2, ?_⟩
  have := Array.perm_iff_toList_perm.mp h.pm
  rw [e, e2] at this
  exact (List.perm_append_left_iff P).mp this
theorem modify_alike {p : Array (Nat × Nat × Nat)} {i w : Nat} : ((p.modify i fun (st, len, _) => (st, len, w)).toList).map (fun t => (t.1, t.2.1)) = p.toList.map (fun t => (t.1, t.2.1)) := by
  rw [Array.toList_modify]
  apply List.ext_getElem?
  intro j
  rw [List.getElem?_map, List.getElem?_map, List.getElem?_modify]
  cases p.toList[j]? with
  | none => rfl
  | some t =>
    by_cases c : i = j
    · simp [c]
    · simp [c]
theorem SBL.refl {st : SortSt} {lo : Nat} (h : kindOf st = oneType') : SBL st lo st := ⟨Array.Perm.refl _, fun _ _ => rfl, h, rfl, rfl⟩
section
variable {a₀ : Array Keyed} {st : SortSt} {Xs : List (List Keyed)} {R : List Keyed} {lo n : Nat}
theorem SI.push (h : SI κ a₀ st Xs R) (el : Xs.flatten.length = lo) (n0 : 0 < n) (nl : n ≤ R.length) (so : (R.take n).Pairwise (kLe κ)) : SI κ a₀ (setPending st ((pendingOf st).push (lo, n, 0))) (Xs ++ [R.take n]) (R.drop n) ∧ (Xs ++ [R.take n]).flatten.length = lo + n := by
  have lt : (R.take n).length = n := by rw [List.length_take]; omega
  refine ⟨⟨h.kd, h.fl, h.pm, ?_, ?_⟩, ?_⟩
  · show (arrOf st).toList = _
    rw [h.eL, List.flatten_append, List.append_assoc]
    show _ = Xs.flatten ++ ((R.take n ++ []) ++ R.drop n)
    rw [List.append_nil, List.take_append_drop]
  · show RunsOf κ 0 ((pendingOf st).push (lo, n, 0)).toList _
    rw [Array.toList_push]
    exact RunsOf.snoc (by omega) lt.symm so h.ru (by rw [el, Nat.zero_add])
  · rw [List.flatten_append, List.length_append, el]
    show lo + (R.take n ++ []).length = _
    rw [List.append_nil, lt]
end
theorem sorted_of_pair {xs : Array Keyed} (h : xs.toList.Pairwise (kLe κ)) : SortedToK κ xs xs.size := fun i j ij js => by
  have k : ∀ i (hi : i < xs.toList.length), KK κ xs i = ky κ (xs.toList[i]) := fun i hi => KK_congr (by
    rw [← Array.getElem?_toList, List.getElem?_eq_getElem hi]
    rfl)
  have lj : j < xs.toList.length := by rw [Array.length_toList]; exact js
  rcases Nat.lt_or_eq_of_le ij with c | rfl
  · rw [k i (by omega), k j lj]
    exact List.pairwise_iff_getElem.mp h i j (by omega) lj c
  · exact KeyOrd.kle_refl _
theorem wpS_sortAny {a₀ : Array Keyed} {st : SortSt} {Q : Unit → SortSt → Prop} (hO : κ.OneLt) (ok : ∀ p ∈ a₀.toList, KOk κ p) (k0 : kindOf st = oneType') (f0 : failedOf st = none) (p0 : pendingOf st = #[]) (e0 : arrOf st = a₀) (h2 : 2 ≤ a₀.size) (q : ∀ st', (arrOf st').Perm a₀ → failedOf st' = none → SortedToK κ (arrOf st') a₀.size → Q () st') : wpS (model prog w) A E s sortRuns' Q st := by
  rw [sortRuns'_eq]
  refine wpS_bind (wpS_get ?_)
  dsimp only
  rw [e0]
  refine wpS_bind (wpS_mono (wpS_forRange (I := fun x c st' => ∃ lo Xs R, c = (none, lo) ∧ SI κ a₀ st' Xs R ∧ Xs.flatten.length = lo ∧ x ≤ lo) (Q := fun c st' => ∃ lo Xs, c = (none, lo) ∧ SI κ a₀ st' Xs []) ?_ ?_ ⟨0, [], a₀.toList, rfl, ⟨k0, f0, by rw [e0], by rw [e0]; rfl, by rw [p0]; trivial⟩, rfl, Nat.le_refl _⟩) ?_)
  · rintro x c st' _ hx ⟨lo, Xs, R, rfl, h, el, xl⟩
    dsimp only
    have sz := h.size
    by_cases c1 : lo ≥ a₀.size
    · rw [if_pos c1]
      obtain rfl : R = [] := List.length_eq_zero_iff.mp (by omega)
      exact wpS_pure ⟨lo, Xs, rfl, h⟩
    · rw [if_neg c1]
      have za : (arrOf st').size = a₀.size := by rw [← Array.length_toList, h.pm.length_eq, Array.length_toList]
      refine wpS_bind (wpS_countRunL hO (SBL.refl h.kd) (fun p hp => ok p (h.pm.mem_iff.mp hp)) (by omega) (by omega) fun m st2 b2 m1 m2 s2 => ?_)
      dsimp only
      have cont : ∀ n st2, SBL st' lo st2 → 1 ≤ n → n ≤ a₀.size - lo → SegS κ (arrOf st2) lo n → SI κ a₀ st2 Xs ((arrOf st2).toList.drop lo) ∧ n ≤ ((arrOf st2).toList.drop lo).length ∧ (((arrOf st2).toList.drop lo).take n).Pairwise (kLe κ) := fun n st2 b2 n1 n2 s2 => by
        obtain ⟨t1, t2⟩ := b2.tail h.eL el
        have z2 : (arrOf st2).size = a₀.size := b2.size.trans za
        refine ⟨⟨b2.kd, b2.fl.trans h.fl, (Array.perm_iff_toList_perm.mp b2.pm).trans h.pm, t1, by rw [b2.pd]; exact h.ru⟩, by rw [List.length_drop, Array.length_toList]; omega, seg_pair (by omega) s2⟩
      by_cases c2 : m < minRun' a₀.size a₀.size 0
      · rw [if_pos c2]
        refine wpS_bind (wpS_lift (wpAny_rule ⟨rfl, ?_⟩))
        refine wpS_bind (wpS_binL hO b2 (fun p hp => ok p (h.pm.mem_iff.mp hp)) (by omega) (by omega) s2 fun st3 b3 s3 => ?_)
        rw [if_neg (by decide)]
        obtain ⟨h3, l3, p3⟩ := cont _ st3 b3 (by omega) (by omega) s3
        refine wpS_bind (wpS_get ?_)
        cases (pendingOf st3).back? with
        | none =>
          dsimp only
          obtain ⟨h4, e4⟩ := h3.push el (by omega) l3 p3
          exact wpS_bind (wpS_modify (wpS_pure ⟨_, _, _, rfl, h4, e4, by omega⟩))
        | some t =>
          obtain ⟨u, v, z⟩ := t
          dsimp only
          generalize power' a₀.size (2 * u + v) _ a₀.size = pw
          refine wpS_bind (wpS_mono (wpS_forRange (I := fun _ c st4 => c = (none, ()) ∧ ∃ X4, SI κ a₀ st4 X4 ((arrOf st3).toList.drop lo) ∧ X4.flatten.length = lo) (Q := fun c st4 => c = (none, ()) ∧ ∃ X4, SI κ a₀ st4 X4 ((arrOf st3).toList.drop lo) ∧ X4.flatten.length = lo) ?_ (fun c st4 hh => hh) ⟨rfl, Xs, h3, el⟩) ?_)
          · rintro y c st4 _ _ ⟨rfl, X4, h4, e4⟩
            refine wpS_bind (wpS_get ?_)
            by_cases c3 : (pendingOf st4).size > 1
            · rw [if_pos c3, getElem?_pos (pendingOf st4) ((pendingOf st4).size - 2) (by omega)]
              dsimp only
              by_cases c4 : ((pendingOf st4)[(pendingOf st4).size - 2]'(by omega)).2.2 ≤ pw
              · rw [if_pos c4]
                exact wpS_pure ⟨rfl, X4, h4, e4⟩
              · rw [if_neg c4]
                refine wpS_bind (wpS_mergeSI hO ok h4 (by omega) fun st5 X5 h5 _ e5 => ?_)
                exact wpS_pure ⟨rfl, X5, h5, e5.trans e4⟩
            · rw [if_neg c3]
              exact wpS_pure ⟨rfl, X4, h4, e4⟩
          · rintro c st4 ⟨rfl, X4, h4, e4⟩
            dsimp only
            refine wpS_bind (wpS_modify ?_)
            have h5 : SI κ a₀ (setPending st4 ((pendingOf st4).modify ((pendingOf st4).size - 1) fun x => (x.1, x.2.1, pw))) X4 ((arrOf st3).toList.drop lo) := ⟨h4.kd, h4.fl, h4.pm, h4.eL, RunsOf.alike modify_alike.symm h4.ru⟩
            obtain ⟨h6, e6⟩ := h5.push e4 (by omega) l3 p3
            exact wpS_bind (wpS_modify (wpS_pure ⟨_, _, _, rfl, h6, e6, by omega⟩))
      · rw [if_neg c2]
        obtain ⟨h3, l3, p3⟩ := cont _ st2 b2 m1 m2 s2
        refine wpS_bind (wpS_get ?_)
        cases (pendingOf st2).back? with
        | none =>
          dsimp only
          obtain ⟨h4, e4⟩ := h3.push el (by omega) l3 p3
          exact wpS_bind (wpS_modify (wpS_pure ⟨_, _, _, rfl, h4, e4, by omega⟩))
        | some t =>
          obtain ⟨u, v, z⟩ := t
          dsimp only
          generalize power' a₀.size (2 * u + v) _ a₀.size = pw
          refine wpS_bind (wpS_mono (wpS_forRange (I := fun _ c st4 => c = (none, ()) ∧ ∃ X4, SI κ a₀ st4 X4 ((arrOf st2).toList.drop lo) ∧ X4.flatten.length = lo) (Q := fun c st4 => c = (none, ()) ∧ ∃ X4, SI κ a₀ st4 X4 ((arrOf st2).toList.drop lo) ∧ X4.flatten.length = lo) ?_ (fun c st4 hh => hh) ⟨rfl, Xs, h3, el⟩) ?_)
          · rintro y c st4 _ _ ⟨rfl, X4, h4, e4⟩
            refine wpS_bind (wpS_get ?_)
            by_cases c3 : (pendingOf st4).size > 1
            · rw [if_pos c3, getElem?_pos (pendingOf st4) ((pendingOf st4).size - 2) (by omega)]
              dsimp only
              by_cases c4 : ((pendingOf st4)[(pendingOf st4).size - 2]'(by omega)).2.2 ≤ pw
              · rw [if_pos c4]
                exact wpS_pure ⟨rfl, X4, h4, e4⟩
              · rw [if_neg c4]
                refine wpS_bind (wpS_mergeSI hO ok h4 (by omega) fun st5 X5 h5 _ e5 => ?_)
                exact wpS_pure ⟨rfl, X5, h5, e5.trans e4⟩
            · rw [if_neg c3]
              exact wpS_pure ⟨rfl, X4, h4, e4⟩
          · rintro c st4 ⟨rfl, X4, h4, e4⟩
            dsimp only
            refine wpS_bind (wpS_modify ?_)
            have h5 : SI κ a₀ (setPending st4 ((pendingOf st4).modify ((pendingOf st4).size - 1) fun x => (x.1, x.2.1, pw))) X4 ((arrOf st2).toList.drop lo) := ⟨h4.kd, h4.fl, h4.pm, h4.eL, RunsOf.alike modify_alike.symm h4.ru⟩
            obtain ⟨h6, e6⟩ := h5.push e4 (by omega) l3 p3
            exact wpS_bind (wpS_modify (wpS_pure ⟨_, _, _, rfl, h6, e6, by omega⟩))
  · rintro c st' ⟨lo, Xs, R, rfl, h, el, xl⟩
    have sz := h.size
    obtain rfl : R = [] := List.length_eq_zero_iff.mp (by omega)
    exact ⟨lo, Xs, rfl, h⟩
  · rintro c st' ⟨lo, Xs, rfl, h⟩
    dsimp only
    have few := h.ru.few
    have sz := h.size
    rw [List.length_nil] at sz
    refine wpS_bind (wpS_mono (wpS_forRange (I := fun x c st2 => c = (none, ()) ∧ ∃ Xs, SI κ a₀ st2 Xs [] ∧ (Xs.length ≤ 1 ∨ Xs.length + x ≤ a₀.size)) (Q := fun c st2 => c = (none, ()) ∧ ∃ Xs, SI κ a₀ st2 Xs [] ∧ Xs.length ≤ 1) ?_ ?_ ⟨rfl, Xs, h, .inr (by omega)⟩) ?_)
    · rintro x c st2 _ hx ⟨rfl, X2, h2, or2⟩
      refine wpS_bind (wpS_get ?_)
      have l2 := h2.ru.len
      rw [Array.length_toList] at l2
      by_cases c1 : (pendingOf st2).size ≤ 1
      · rw [if_pos c1]
        exact wpS_pure ⟨rfl, X2, h2, by omega⟩
      · rw [if_neg c1]
        have iok : ∀ (c : Prop) [Decidable c], (if c then (pendingOf st2).size - 2 - 1 else (pendingOf st2).size - 2) + 1 < (pendingOf st2).size := fun c _ => by split <;> omega
        refine wpS_bind (wpS_mergeSI hO ok h2 (iok _) fun st3 X3 h3 e3 _ => ?_)
        exact wpS_pure ⟨rfl, X3, h3, by omega⟩
    · rintro c st2 ⟨rfl, X2, h2, or2⟩
      exact ⟨rfl, X2, h2, by omega⟩
    · rintro c st2 ⟨rfl, X2, h2, l2⟩
      refine wpS_pure (q st2 (Array.perm_iff_toList_perm.mpr h2.pm) h2.fl ?_)
      have z2 : (arrOf st2).size = a₀.size := by rw [← Array.length_toList, h2.pm.length_eq, Array.length_toList]
      rw [← z2]
      refine sorted_of_pair ?_
      rw [h2.eL, List.append_nil]
      match X2, h2, l2 with
      | [], _, _ => exact List.Pairwise.nil
      | [X], h2, _ =>
        have r := h2.ru
        cases ep : (pendingOf st2).toList with
        | nil => rw [ep] at r; exact absurd r (by simp [RunsOf])
        | cons t tr =>
          rw [ep] at r
          have := r.2.2.2.1
          show (X ++ []).Pairwise (kLe κ)
          rw [List.append_nil]
          exact this
end
end L2
namespace L2
open PySem PySem.Spec PyProof.Rows
section
variable {prog : Program} {w : World} {A : Around} {E : Value → Shared → Prop} {s : Shared}
theorem sort_any {κ : KeyKind} (hO : κ.OneLt) {l : Addr} {us : List Value} {n : Nat} {P : Fin → Shared → Prop} (at0 : s.heap.get? l = some (seqObj "list" us.toArray n)) (ks : KeysOf κ (pairsOf us)) (one : ∀ u v r, us = u :: v :: r → keyKind' (u :: v :: r).toArray = pure oneType') (lim : us.length ≤ 100000)
    (fin : ∀ z : SortSt, (arrOf z).Perm (pairsOf us) → SortedToK κ (arrOf z) (pairsOf us).size → P (.done (.ret .none)) { s with heap := sortedHeap s.heap l us ((arrOf z).map (·.2)) }) :
    wpAny (model prog w) A (Builtin.«list.sort» ⟨[.ref l], []⟩) P E s := by
  have big : (100000 : Nat) ≤ sizeLine := by decide
  by_cases h64 : us.length < 64
  · exact list_sort_treeK hO at0 ks one h64 fin
  have lt := Heap.lt_size at0
  have sz : us.toArray.size = us.length := List.size_toArray
  rw [list_sort_plain]
  refine wpAny_bind (listItems_at at0 rfl (wpAny_bind (listUpdate_at at0 rfl ?_)))
  obtain ⟨ep, at1⟩ : ∃ ep, (s.heap.update l (Obj.mapSeq fun _ => #[])).get? l = some (seqObj "list" #[] ep) := ⟨_, get?_update_seq at0 (fun _ => #[])⟩
  refine wpAny_bind (seqEpoch_at at1 rfl (wpAny_bind (wpAny_newTuple (wpAny_bind (wpAny_newList (wpAny_holding ?_)))) ))
  have at2 : (((s.heap.update l (Obj.mapSeq fun _ => #[])).push (seqObj "tuple" us.toArray 0)).push (seqObj "list" #[] 0)).get? l = some (seqObj "list" #[] ep) := by
    rw [Heap.get?_push_ne _ _ _ (by rw [size_push', Heap.size_update]; exact Nat.ne_of_lt (Nat.lt_succ_of_lt lt)), Heap.get?_push_ne _ _ _ (by rw [Heap.size_update]; exact Nat.ne_of_lt lt)]
    exact at1
  show wpAny (model prog w) A _ P E { s with heap := ((s.heap.update l (Obj.mapSeq fun _ => #[])).push (seqObj "tuple" us.toArray 0)).push (seqObj "list" #[] 0) }
  dsimp only
  have two : ¬ us.toArray.size < 2 := by omega
  rw [if_neg two, if_neg two]
  obtain ⟨u, v, r, rfl⟩ : ∃ u v r, us = u :: v :: r := by
    match us, sz, two with
    | [], _, h => simp at h
    | [_], _, h => simp at h
    | u :: v :: r, _, _ => exact ⟨u, v, r, rfl⟩
  rw [one _ _ _ rfl]
  refine wpAny_bind (wpAny_pure ?_)
  refine wpAny_bind (wpAny_mono (wpS_sortAny (κ := κ) (a₀ := pairsOf (u :: v :: r)) (st := SortSt.mk' oneType' ((u :: v :: r).toArray.zip (u :: v :: r).toArray) #[] 7 none) (Q := fun _ z => (arrOf z).Perm (pairsOf (u :: v :: r)) ∧ failedOf z = none ∧ SortedToK κ (arrOf z) (pairsOf (u :: v :: r)).size)
    hO ks rfl rfl rfl rfl (by rw [pairsOf_size]; simp) fun z z1 z2 z3 => ⟨z1, z2, z3⟩) ?_ fun _ _ e => e)
  rintro ⟨⟨⟩, z⟩ s' ⟨rfl, zp, zf, zs⟩
  dsimp only
  refine wpAny_bind (seqEpoch_at at2 rfl (wpAny_bind (listUpdate_at at2 rfl ?_ (hsz2 := by
    refine Nat.le_trans (Nat.le_of_eq ((Array.size_map ..).trans (zp.size_eq.trans (pairsOf_size _)))) ?_
    omega))))
  rw [zf]
  simp only [bne_self_eq_false, Bool.false_eq_true, if_false]
  exact wpAny_pure (fin z zp zs)
end
section
variable {P : Program} {w : World} {A : Around} {E : Value → Shared → Prop} {s : Shared}
theorem sorted_set2 {a : Addr} {es : Array (Int × Value)} {ep : Nat} {t : SetTable} {ys : List Str} {Q : Value → Shared → Prop} (hh : A.handled = none) (hs : s.heap.get? a = some (setObj es ep t)) (T : TxtTab P w es t ys) (few : es.size ≤ 100000)
    (h : ∀ s' l n (zs : List Str) (out : List Value), s.heap.objs.size ≤ l → s'.heap.get? l = some { cls := .type "list", data := .seq out.toArray n } → PyProof.Rows.StrsAre out zs → zs.Nodup → (∀ k, k ∈ zs ↔ k ∈ ys) → PyProof.Rows.sortedS zs = true → zs.length = es.size →
      (∀ b o, s.heap.get? b = some o → s'.heap.get? b = some o) → s'.gens = s.gens → s'.os = s.os → Q (.ref l) s') : wpAny (model P w) A (call (.builtin "sorted") [.ref a]) Q E s := by
  refine Calls.call_function_entry PyProof.Rows.kind_sorted PyProof.Rows.plain_sorted PyProof.Rows.entry_sorted (PyProof.Rows.args_sorted1 _) ?_
  unfold Builtin.«sorted»
  refine wpAny_bind (m := checkCount "sorted" 1 1 _) (wpAny_pure ?_)
  refine wpAny_bind (collect_set (A := A.in1) (by simpa using hh) hs T fun s1 vs hp old eg eo lt1 => ?_)
  have str : ∀ us : List Value, (∀ v ∈ us, ∃ k tk, v = Value.str k tk) → PyProof.Rows.StrsAre us (us.map txt) := by
    intro us
    induction us with
    | nil => intro _; exact .nil
    | cons v r ih =>
      intro hv
      obtain ⟨k, tk, rfl⟩ := hv _ List.mem_cons_self
      exact .cons k tk (ih fun u hu => hv u (List.mem_cons_of_mem _ hu))
  have all : ∀ v ∈ vs, ∃ k tk, v = Value.str k tk := fun v hv => by
    obtain ⟨e, he, rfl⟩ := List.mem_map.mp (hp.mem_iff.mp hv)
    obtain ⟨⟨k, hk, _⟩, _⟩ := T.el e he
    obtain ⟨tk, e2⟩ := Value.isStrOf_shape hk
    exact ⟨k, tk, e2⟩
  have hS := str vs all
  have len : vs.length = es.size := by rw [hp.length_eq, List.length_map, Array.length_toList]
  refine wpAny_bind (wpAny_newList ?_ (by rw [len]; exact fits_of_scanBound T.few))
  have ho : (s1.heap.push { cls := .type "list", data := .seq vs.toArray }).get? s1.heap.objs.size = some (PyProof.Rows.seqObj "list" vs.toArray 0) := Heap.get?_push_size _ rfl
  refine wpAny_bind (wpAny_holding (wpAny_call_entry PyProof.Rows.slot_list_sort ⟨_, ho, rfl⟩ PyProof.Rows.entry_list_sort (sort_any PyProof.Rows.strKind_oneLt ho hS.keysOf (fun v1 v2 rest e => PyProof.Rows.keyKind_strs (by rw [← e]; exact hS)) (by omega) fun st' a1 a2 => ⟨_, rfl, ?_⟩) (PyProof.Rows.args_list_sort _)))
  obtain ⟨zs, h1, h2, h3⟩ := PyProof.Rows.sorted_out_str hS a1 a2
  obtain ⟨n, at1⟩ := PyProof.Rows.sortedHeap_at (out := (PyProof.Rows.arrOf st').map (·.2)) ho
  have pz : zs.Perm (es.toList.map fun e => txt e.2) := by
    refine h2.trans ((hp.map txt).trans ?_)
    rw [List.map_map]
    exact .refl _
  refine wpAny_pure ⟨_, rfl, h _ s1.heap.objs.size n zs ((PyProof.Rows.arrOf st').map (·.2)).toList (Nat.le_of_lt lt1) ?_ h1 (pz.nodup_iff.mpr T.nd) (fun k => (pz.mem_iff).trans (T.mem k)) h3 (by rw [pz.length_eq, List.length_map, Array.length_toList]) (fun b o e => ?_) eg eo⟩
  · exact at1
  · have e1 := old b o e
    have lt := Heap.lt_size e1
    have e2 := (PyProof.Rows.sortedHeap_old (h := s1.heap.push { cls := .type "list", data := .seq vs.toArray }) (a := s1.heap.objs.size) (vs := vs) (out := (PyProof.Rows.arrOf st').map (·.2)) (Nat.ne_of_lt lt) (by rw [Heap.size_push]; exact Nat.lt_succ_of_lt lt))
    exact e2.trans (Heap.get?_push_of_some _ e1)
end
section
variable {X : Cx}
theorem call_sorted_of2 (hc : X.calm = true) : CallR X (.builtin "sorted") (fun xs H Q => ∃ (p : Addr) (ys ds : List Str), xs = [.ref p] ∧ H p = some (TSetO X.prog X.w p ys) ∧ (∀ k ∈ ys, k ∈ ds) ∧ ds.length ≤ 100000 ∧
    ∀ l zs, H l = none → zs.Nodup → (∀ k, k ∈ zs ↔ k ∈ ys) → sortedS zs = true → Q (.ref l) (upd H l (.lst (zs.map V.str)))) := by
  intro pins s σ H xs us Q I r h
  obtain ⟨p, ys, ds, rfl, hq, hd, h64, q⟩ := h
  obtain ⟨u, rfl, rx⟩ := vals1 r
  cases rx
  obtain ⟨⟨es, ep, t, e, T⟩, _, _⟩ := I.hok p _ hq
  have few : es.size ≤ 100000 := by
    have := few_of T.nd fun x hx => hd x ((T.mem x).mp hx)
    rw [List.length_map, Array.length_toList] at this
    omega
  refine sorted_set2 (I.ok.hd hc) e T few fun s' l n zs out hl ho hS nd hm so hzl kp hg hos => ?_
  have lz : zs.length ≤ sizeLine := by rw [hzl]; exact fits_of_scanBound T.few
  have J := I.laid (t' := s.toks) (h' := s'.heap) (a := l) (o := .lst (zs.map V.str)) kp hl ⟨by rw [List.length_map]; exact lz, out, n, of_strs hS, ho⟩
  exact ⟨.ref l, _, Inv.redrawn (s := s) J hg hos, rfl, q l zs (I.hok.fresh hl) nd hm so⟩
end
end L2
namespace L2
open PySem
def fn5 : Nat → Nat → Nat
  | 0, x => x
  | n + 1, x => fn5 n (5 * x + 1)
theorem fn5_add : ∀ (a b x : Nat), fn5 (a + b) x = fn5 b (fn5 a x)
  | 0, b, x => by rw [Nat.zero_add]; rfl
  | a + 1, b, x => by rw [Nat.succ_add]; exact fn5_add a b _
theorem fn5_is : ∀ (n x : Nat), 4 * fn5 n x + 1 = 5 ^ n * (4 * x + 1)
  | 0, x => by simp [fn5]
  | n + 1, x => by
    show 4 * fn5 n (5 * x + 1) + 1 = _
    rw [fn5_is n, Nat.pow_succ, Nat.mul_assoc]
    congr 1
    omega
theorem five_pow : ∀ k : Nat, ∃ c, 5 ^ (2 ^ k) = 1 + 2 ^ (k + 2) * (2 * c + 1)
  | 0 => ⟨0, by decide⟩
  | k + 1 => by
    obtain ⟨c, hc⟩ := five_pow k
    refine ⟨c + 2 ^ k * ((2 * c + 1) * (2 * c + 1)), ?_⟩
    have e : (5 : Nat) ^ (2 ^ (k + 1)) = 5 ^ (2 ^ k) * 5 ^ (2 ^ k) := by rw [← Nat.pow_add]; congr 1; rw [Nat.pow_succ]; omega
    have p2 : (2 : Nat) ^ (k + 2) = 4 * 2 ^ k := by rw [Nat.pow_add]; omega
    have p3 : (2 : Nat) ^ (k + 1 + 2) = 8 * 2 ^ k := by rw [Nat.pow_add, Nat.pow_add]; omega
    rw [e, hc, p2, p3]
    generalize 2 ^ k = t
    generalize hd : 2 * c + 1 = d
    have : 2 * (c + t * (d * d)) + 1 = d + 2 * (t * (d * d)) := by omega
    rw [this]
    have q1 : (1 + 4 * t * d) * (1 + 4 * t * d) = 1 + 8 * (t * d) + 16 * ((t * d) * (t * d)) := by
      rw [Nat.mul_assoc 4 t d]
      generalize t * d = z
      rw [Nat.add_mul, Nat.one_mul, Nat.mul_add, Nat.mul_one, show 4 * z * (4 * z) = 16 * (z * z) by rw [Nat.mul_assoc, Nat.mul_left_comm z 4 z]; omega]
      omega
    have q2 : 8 * t * (d + 2 * (t * (d * d))) = 8 * (t * d) + 16 * ((t * d) * (t * d)) := by
      rw [Nat.mul_add, Nat.mul_assoc 8 t d, Nat.mul_assoc 8 t]
      have : t * (2 * (t * (d * d))) = 2 * ((t * d) * (t * d)) := by
        rw [Nat.mul_left_comm t 2, Nat.mul_mul_mul_comm, Nat.mul_assoc t t]
      rw [this]
      omega
    rw [q1, q2]
    omega
theorem fn5_half (k x : Nat) : ∃ c, fn5 (2 ^ k) x = x + 2 ^ k * (2 * c + 1) := by
  obtain ⟨c, hc⟩ := five_pow k
  have h := fn5_is (2 ^ k) x
  have p2 : (2 : Nat) ^ (k + 2) = 4 * 2 ^ k := by rw [Nat.pow_add]; omega
  rw [hc, p2] at h
  refine ⟨c * (4 * x + 1) + 2 * x, ?_⟩
  have e : 2 * (c * (4 * x + 1) + 2 * x) + 1 = (2 * c + 1) * (4 * x + 1) := by
    rw [Nat.add_mul, Nat.one_mul, Nat.mul_assoc]
    omega
  rw [e]
  rw [Nat.add_mul, Nat.one_mul, Nat.mul_assoc, Nat.mul_assoc] at h
  generalize 2 ^ k * ((2 * c + 1) * (4 * x + 1)) = z at h ⊢
  omega
theorem fn5_all : ∀ (k i j : Nat), ∃ m, m < 2 ^ k ∧ fn5 m i % 2 ^ k = j % 2 ^ k
  | 0, i, j => ⟨0, by decide, by simp [Nat.mod_one]⟩
  | k + 1, i, j => by
    obtain ⟨m, hm, e⟩ := fn5_all k i j
    have p : (2 : Nat) ^ (k + 1) = 2 ^ k * 2 := Nat.pow_succ _ _
    have t0 : 0 < 2 ^ k := Nat.pow_pos (by decide)
    have two : ∀ x, x % (2 ^ k * 2) = x % 2 ^ k + 2 ^ k * (x / 2 ^ k % 2) := fun x => Nat.mod_mul
    by_cases c : fn5 m i % 2 ^ (k + 1) = j % 2 ^ (k + 1)
    · exact ⟨m, by omega, c⟩
    · refine ⟨m + 2 ^ k, by omega, ?_⟩
      rw [fn5_add]
      obtain ⟨z, hz⟩ := fn5_half k (fn5 m i)
      rw [hz]
      generalize fn5 m i = a at e c ⊢
      rw [p, two a, two j, e] at c
      rw [p, two (a + 2 ^ k * (2 * z + 1)), two j, Nat.add_mul_mod_self_left, e, Nat.add_mul_div_left _ _ t0]
      have a2 := Nat.mod_lt (a / 2 ^ k) (show 0 < 2 by decide)
      have j2 := Nat.mod_lt (j / 2 ^ k) (show 0 < 2 by decide)
      have ne : a / 2 ^ k % 2 ≠ j / 2 ^ k % 2 := fun h => c (by rw [h])
      have : (a / 2 ^ k + (2 * z + 1)) % 2 = j / 2 ^ k % 2 := by omega
      rw [this]
theorem itr_fn5 {mask : Nat} : ∀ (m i : Nat), i ≤ mask → itr mask m i 0 = fn5 m i % (mask + 1)
  | 0, i, h => by
    show i = i % (mask + 1)
    rw [Nat.mod_eq_of_lt (Nat.lt_succ_of_le h)]
  | m + 1, i, h => by
    show itr mask m ((i * 5 + 1 + 0 / 32) % (mask + 1)) (0 / 32) = fn5 m (5 * i + 1) % (mask + 1)
    rw [Nat.zero_div, Nat.add_zero, itr_fn5 m _ (Nat.le_of_lt_succ (Nat.mod_lt _ (Nat.succ_pos _))), Nat.mul_comm i 5]
    have key : ∀ (m x : Nat), fn5 m (x % (mask + 1)) % (mask + 1) = fn5 m x % (mask + 1) := fun m => by
      induction m with
      | zero => intro x; exact Nat.mod_mod _ _
      | succ m ih =>
        intro x
        show fn5 m (5 * (x % (mask + 1)) + 1) % (mask + 1) = fn5 m (5 * x + 1) % (mask + 1)
        rw [← ih (5 * (x % (mask + 1)) + 1), ← ih (5 * x + 1)]
        congr 2
        rw [Nat.add_mod, Nat.mul_mod, Nat.mod_mod, ← Nat.mul_mod, ← Nat.add_mod]
    exact key m _
theorem itr_all {mask k : Nat} (ek : mask + 1 = 2 ^ k) {i j : Nat} (hi : i ≤ mask) (hj : j ≤ mask) : ∃ m, m ≤ mask ∧ itr mask m i 0 = j := by
  obtain ⟨m, hm, e⟩ := fn5_all k i j
  refine ⟨m, by omega, ?_⟩
  rw [itr_fn5 m i hi, ek, e, ← ek, Nat.mod_eq_of_lt (Nat.lt_succ_of_le hj)]
theorem free_any {mask : Nat} {ow : Array (Option Nat)} (hm : ∃ k, mask + 1 = 2 ^ k) {j : Nat} (hj : j ≤ mask) (hn : (ow.getD j (some 0)).isNone = true) {i p : Nat} (hi : i ≤ mask) (hp : p < 2 ^ 64) :
    ∃ k, SetTable.layClean.free mask ow (SetTable.turns mask) i p = some k := by
  cases e : SetTable.layClean.free mask ow (SetTable.turns mask) i p with
  | some k => exact ⟨k, rfl⟩
  | none =>
    exfalso
    have key := free_none _ _ _ hi e
    have l := itr_le (mask := mask) 13 i p hi
    obtain ⟨k, ek⟩ := hm
    obtain ⟨m, h1, h2⟩ := itr_all ek l hj
    have := key (13 + m) (by unfold SetTable.turns; omega)
    rw [itr_add, Nat.div_eq_of_lt (Nat.lt_trans hp (by decide)), h2, hn] at this
    cases this
theorem clean_any {mask : Nat} (hm : ∃ k, mask + 1 = 2 ^ k) (hs : Array Int) (hl : hs.size ≤ mask) : ∃ ow : Array (Option Nat), SetTable.layClean mask hs = some ow ∧ ow.size = mask + 1 ∧ (ow.toList.filterMap id).Perm (List.range hs.size) := by
  unfold SetTable.layClean
  rw [← Array.foldl_toList]
  have key : ∀ (l : List Int) (ow : Array (Option Nat)) (k : Nat), ow.size = mask + 1 → (ow.toList.filterMap id).Perm (List.range k) → k + l.length ≤ mask →
      ∃ ow', (l.foldl (fun (acc : Option (Array (Option Nat) × Nat)) h => do
        let (owner, k) ← acc
        let j ← SetTable.layClean.free mask owner (SetTable.turns mask) (SetTable.bits h % (mask + 1)) (SetTable.bits h)
        pure (owner.setIfInBounds j (some k), k + 1)) (some (ow, k))) = some (ow', k + l.length) ∧ ow'.size = mask + 1 ∧ (ow'.toList.filterMap id).Perm (List.range (k + l.length)) := by
    intro l
    induction l with
    | nil => intro ow k h1 h2 h3; exact ⟨ow, rfl, h1, h2⟩
    | cons h l ih =>
      intro ow k h1 h2 h3
      rw [List.length_cons] at h3
      have len := h2.length_eq
      rw [List.length_range] at len
      obtain ⟨j, hj⟩ := fm_free ow.toList (by rw [len, Array.length_toList, h1]; omega)
      have jl : j < ow.size := by
        have := (List.getElem?_eq_some_iff.mp hj).1
        rwa [Array.length_toList] at this
      have gn : ∀ j, (ow.getD j (some 0)).isNone = true ↔ ow.toList[j]? = some none := fun j => by
        rw [Array.getElem?_toList, Array.getD_eq_getD_getElem?]
        cases ow[j]? with
        | none => simp
        | some y => cases y <;> simp
      have bl : SetTable.bits h < 2 ^ 64 := by
        unfold SetTable.bits
        omega
      obtain ⟨q, hq⟩ := free_any (ow := ow) hm (j := j) (by omega) ((gn j).mpr hj) (i := SetTable.bits h % (mask + 1)) (p := SetTable.bits h) (Nat.le_of_lt_succ (Nat.mod_lt _ (Nat.succ_pos _))) bl
      have hq' := (gn q).mp (free_is _ _ _ _ hq)
      have := ih (ow.setIfInBounds q (some k)) (k + 1) (by simpa using h1) (by
        rw [Array.toList_setIfInBounds, List.range_succ]
        refine (fm_set _ _ _ hq').trans ?_
        refine (h2.cons k).trans ?_
        exact (List.perm_append_comm (l₁ := [k]) (l₂ := List.range k))) (by omega)
      obtain ⟨ow', e1, e2, e3⟩ := this
      refine ⟨ow', ?_, e2, ?_⟩
      · rw [List.foldl_cons, List.length_cons, show k + (l.length + 1) = k + 1 + l.length by omega, ← e1]
        congr 1
        show (SetTable.layClean.free mask ow (SetTable.turns mask) (SetTable.bits h % (mask + 1)) (SetTable.bits h)).bind _ = _
        rw [hq]
        rfl
      · rw [List.length_cons, show k + (l.length + 1) = k + 1 + l.length by omega]
        exact e3
  obtain ⟨ow', e1, e2, e3⟩ := key hs.toList (Array.replicate (mask + 1) none) 0 (by simp) (by simp) (by simpa using hl)
  refine ⟨ow', ?_, e2, by simpa using e3⟩
  rw [e1]
  rfl
theorem laid_any {mask : Nat} (hm : ∃ k, mask + 1 = 2 ^ k) (f mv : Nat) (led pl : Bool) (hs : Array Int) (hl : hs.size ≤ mask) :
    ∃ t order, SetTable.laid mask f mv led pl hs = some (t, order) ∧ order.toList.Perm (List.range hs.size) ∧ t.mask = mask ∧ t.place.size = hs.size ∧ t.dummies = #[] ∧ t.led = led ∧ t.plain = pl := by
  obtain ⟨ow, e, sz, pm⟩ := clean_any hm hs hl
  have live : ((List.range (mask + 1)).filterMap fun j => (ow.getD j none).map (j, ·)).map (·.2) = ow.toList.filterMap id := by
    rw [List.map_filterMap]
    have : ow.toList = (List.range (mask + 1)).map fun j => ow.getD j none := by
      refine List.ext_getElem (by simp [sz]) fun i h1 h2 => ?_
      simp at h1
      simp [Array.getD_eq_getD_getElem?, h1]
    rw [this, List.filterMap_map]
    congr 1
    funext j
    show Option.map _ (Option.map _ (ow.getD j none)) = ow.getD j none
    cases ow.getD j none <;> rfl
  have ll : ((List.range (mask + 1)).filterMap fun j => (ow.getD j none).map (j, ·)).length = hs.size := by
    have := congrArg List.length live
    rw [List.length_map] at this
    rw [this, pm.length_eq, List.length_range]
  unfold SetTable.laid
  rw [e]
  refine ⟨_, _, rfl, ?_, rfl, ?_, rfl, rfl, rfl⟩
  · dsimp only
    rw [live]
    exact pm
  · simpa using ll
end L2
namespace L2
open PySem
theorem size_go2 {n : Nat} : ∀ (fuel i : Nat), n < 2 ^ (i + fuel) → ∃ k, SetTable.sizeAbove.go n fuel (2 ^ i) = 2 ^ k ∧ n < 2 ^ k ∧ (2 ^ k ≤ 2 ^ i ∨ 2 ^ k ≤ 2 * n)
  | 0, i, h => ⟨i, rfl, h, .inl (Nat.le_refl _)⟩
  | fuel + 1, i, h => by
    unfold SetTable.sizeAbove.go
    split
    · rename_i hc
      rw [← Nat.pow_succ]
      obtain ⟨k, e, l, u⟩ := size_go2 fuel (i + 1) (by rw [show i + 1 + fuel = i + (fuel + 1) by omega]; exact h)
      refine ⟨k, e, l, .inr ?_⟩
      have : (2 : Nat) ^ (i + 1) = 2 ^ i * 2 := Nat.pow_succ _ _
      omega
    · exact ⟨i, rfl, by omega, .inl (Nat.le_refl _)⟩
theorem size_pow2 {n : Nat} (h : n < 2 ^ 60) : ∃ k, SetTable.sizeAbove n = 2 ^ k ∧ n < 2 ^ k ∧ (2 ^ k ≤ 8 ∨ 2 ^ k ≤ 2 * n) := size_go2 64 3 (Nat.lt_trans h (by decide))
section
variable {P : Program} {w : World} {A : Around} {E : Value → Shared → Prop} {s : Shared}
theorem fit_place {t : SetTable} {n : Nat} (h : t.fits n = true) : t.place.size = n := by
  unfold SetTable.fits at h
  simp only [Bool.and_eq_true, beq_iff_eq] at h
  first
    | exact h.1.1.symm
    | exact h.1.1
    | exact h.1.symm
    | exact h.1
theorem relay_txt {a : Addr} {es : Array (Int × Value)} {ep : Nat} {t : SetTable} {ys : List Str} {wanted : Nat} {Q : Unit → Shared → Prop} (ha : s.heap.get? a = some (setObj es ep t)) (T : TxtTab P w es t ys) (h1 : es.size ≤ wanted) (h2 : wanted ≤ 20000)
    (h : ∀ h' es' ep' t', Heap.SameBut a s.heap h' → h'.get? a = some (setObj es' ep' t') → TxtTab P w es' t' ys → es'.size = es.size → t'.place.size = es.size → t'.dummies = #[] → wanted ≤ t'.mask → (∃ k, t'.mask + 1 = 2 ^ k) → Q () { s with heap := h' }) : wpAny (model P w) A (setRelay a wanted) Q E s := by
  have big : (100000 : Nat) ≤ sizeLine := by decide
  obtain ⟨k, ek, lk, uk⟩ := size_pow2 (n := wanted) (Nat.lt_of_le_of_lt h2 (by decide))
  unfold setRelay
  refine wpAny_bind (wpAny_setState_of ha rfl T.fit ?_)
  dsimp only
  obtain ⟨t1, order, e1, pm, mk, pl, dm, ld, pp⟩ := laid_any (mask := 2 ^ k - 1) ⟨k, by omega⟩ t.finger (t.movedTo (2 ^ k - 1)) t.led t.plain (es.map (·.1)) (by rw [Array.size_map]; omega)
  have e2 : t.relaid (es.map (·.1)) wanted = some (t1, order) := by
    unfold SetTable.relaid
    rw [ek]
    exact e1
  rw [if_neg (by rw [ek]; omega), e2]
  rw [Array.size_map] at pm pl
  have pa := pick_all es order pm
  have sz : (order.filterMap (es[·]?)).size = es.size := by rw [← Array.length_toList, pa.length_eq, Array.length_toList]
  refine wpAny_bind ?_
  show wpAny _ _ (if ((order.filterMap (es[·]?)).size != es.size) = true then _ else _) _ _ _
  rw [if_neg (by rw [sz]; simp)]
  refine wpAny_bind (wpAny_pure (wpAny_pure ?_))
  dsimp only
  have fw := T.few
  refine wpAny_storeSet_of ha rfl ?_ (by rw [sz]; omega)
  have fit1 : t1.fits (order.filterMap (es[·]?)).size = true := by
    unfold SetTable.fits SetTable.fill
    rw [pl, dm, sz, mk]
    simp
    omega
  refine h _ _ _ t1 (Heap.SameBut.update _ a _) (store_set (s := s) ha) ?_ sz pl dm (by rw [mk]; omega) ⟨k, by rw [mk]; omega⟩
  exact ⟨T.el.perm pa, (pa.map _).nodup_iff.mpr T.nd, fun k => ((pa.map _).mem_iff).trans (T.mem k), by rw [sz]; exact T.few, fit1, ld.trans T.led, fun z => pp.trans (T.pl (by omega))⟩
theorem room_fresh {a : Addr} {n : Nat} {Q : Unit → Shared → Prop} (ha : s.heap.get? a = some (set0 w)) (few : n ≤ 5000)
    (h : ∀ h1 ep1 t1, Heap.SameBut a s.heap h1 → h1.get? a = some (setObj #[] ep1 t1) → t1.place = #[] → t1.dummies = #[] → (∃ k, t1.mask + 1 = 2 ^ k) → n ≤ t1.mask → t1.led = (!w.params.followText "set-order") → Q () { s with heap := h1 }) :
    wpAny (model P w) A (setRoomFor a n) Q E s := by
  have T0 : TxtTab P w #[] (SetTable.fresh 0 0 (!w.params.followText "set-order")) [] := tab0
  unfold setRoomFor
  refine wpAny_bind (wpAny_setState_of ha rfl T0.fit ?_)
  dsimp only
  have hr : (SetTable.fresh 0 0 (!w.params.followText "set-order")).roomFor n = if n * 5 ≥ 21 then some (n * 2) else none := by
    unfold SetTable.roomFor SetTable.fresh SetTable.fill
    simp
  rw [hr]
  by_cases hn : n * 5 ≥ 21
  · rw [if_pos hn]
    refine relay_txt (wanted := n * 2) ha T0 (Nat.zero_le _) (by omega) fun h' es' ep' t' sb g T' z pz dm wm pw => ?_
    obtain rfl : es' = #[] := Array.eq_empty_of_size_eq_zero z
    exact h h' ep' t' sb g (Array.eq_empty_of_size_eq_zero pz) dm pw (by omega) T'.led
  · rw [if_neg hn]
    exact wpAny_pure (h s.heap 0 _ (Heap.SameBut.refl a s.heap) ha rfl rfl ⟨3, rfl⟩ (by show n ≤ 7; omega) rfl)
theorem merge_fresh {a o : Addr} {es : Array (Int × Value)} {ep : Nat} {t : SetTable} {zs : List Str} {each : Sem Unit} {Q : Unit → Shared → Prop} (ne : a ≠ o) (ha : s.heap.get? a = some (set0 w)) (ho : s.heap.get? o = some (setObj es ep t)) (T : TxtTab P w es t zs) (few : es.size ≤ 5000)
    (h : ∀ h' es' ep' t', Heap.SameBut a s.heap h' → h'.get? a = some (setObj es' ep' t') → TxtTab P w es' t' zs → (es.size = 0 → h' = s.heap) → Q () { s with heap := h' }) : wpAny (model P w) A (setMerge a o each) Q E s := by
  have T0 : TxtTab P w #[] (SetTable.fresh 0 0 (!w.params.followText "set-order")) [] := tab0
  unfold setMerge
  rw [if_neg (by simpa using ne)]
  refine wpAny_bind (wpAny_setState_of ho rfl T.fit ?_)
  dsimp only
  by_cases h0 : es.isEmpty = true
  · rw [if_pos h0]
    have e0 : es = #[] := by simpa using h0
    subst e0
    exact wpAny_pure (h s.heap #[] 0 _ (Heap.SameBut.refl a s.heap) ha ⟨T0.el, T0.nd, T.mem, T0.few, T0.fit, T0.led, T0.pl⟩ fun _ => rfl)
  · rw [if_neg h0]
    have pos : 0 < es.size := by
      rcases Nat.eq_zero_or_pos es.size with z | z
      · exact absurd (by simpa using z) h0
      · exact z
    have tpl := T.pl pos
    have h1z : ∀ h' : Heap, es.size = 0 → h' = s.heap := fun _ z => absurd z (Nat.ne_of_gt pos)
    refine wpAny_bind (room_fresh ha few fun h1 ep1 t1 sb g1 p1 d1 mk le l1 => ?_)
    have f1 : t1.fits (#[] : Array (Int × Value)).size = true := by
      unfold SetTable.fits SetTable.fill
      rw [p1, d1]
      simp
    refine wpAny_bind (wpAny_setState_of (s := { s with heap := h1 }) g1 rfl f1 ?_)
    dsimp only
    have fz : ¬ (t1.fill != 0) = true := by
      unfold SetTable.fill
      rw [p1, d1]
      decide
    have ll : (t1.led && t.led) = t.led := by
      rw [l1, T.led]
      simp
    have pp : (t1.plain && t.plain) = false := by
      rw [tpl]
      simp
    unfold SetTable.road
    rw [if_neg fz]
    by_cases hr : (t1.mask == t.mask && t.dummies.isEmpty) = true
    · rw [if_pos hr]
      dsimp only
      refine wpAny_storeSet_of (s := { s with heap := h1 }) g1 rfl ?_ (Nat.le_trans few (by decide))
      refine h _ es _ _ (sb.trans (Heap.SameBut.update _ a _)) (store_set (s := { s with heap := h1 }) g1) (tab_perm T (.refl _) ?_ ll pp) (h1z _)
      exact T.fit
    · rw [if_neg hr]
      dsimp only
      obtain ⟨t2, order, e1, pm, mk2, pl, dm, ld, pl2⟩ := laid_any mk t1.finger t1.moves (t1.led && t.led) (t1.plain && t.plain) (es.map (·.1)) (by simpa using le)
      rw [Array.size_map] at pm pl
      have pa := pick_all es order pm
      have sz : (order.filterMap (es[·]?)).size = es.size := by rw [← Array.length_toList, pa.length_eq, Array.length_toList]
      rw [e1]
      refine wpAny_bind ?_
      show wpAny _ _ (if ((order.filterMap (es[·]?)).size != es.size) = true then _ else _) _ _ _
      rw [if_neg (by rw [sz]; simp)]
      refine wpAny_bind (wpAny_pure (wpAny_pure ?_))
      dsimp only
      refine wpAny_storeSet_of (s := { s with heap := h1 }) g1 rfl ?_ (by rw [sz]; exact Nat.le_trans few (by decide))
      refine h _ _ _ _ (sb.trans (Heap.SameBut.update _ a _)) (store_set (s := { s with heap := h1 }) g1) (tab_perm T pa ?_ (ld.trans ll) (pl2.trans pp)) (h1z _)
      unfold SetTable.fits SetTable.fill
      rw [pl, dm, sz, mk2]
      simpa using le
theorem room_full {a : Addr} {es : Array (Int × Value)} {ep n : Nat} {t : SetTable} {ys : List Str} {Q : Unit → Shared → Prop} (ha : s.heap.get? a = some (setObj es ep t)) (T : TxtTab P w es t ys) (few : es.size + n ≤ 10000)
    (h : ∀ h' es' ep' t', Heap.SameBut a s.heap h' → h'.get? a = some (setObj es' ep' t') → TxtTab P w es' t' ys → es'.size = es.size → Q () { s with heap := h' }) : wpAny (model P w) A (setRoomFor a n) Q E s := by
  have pz := fit_place T.fit
  unfold setRoomFor
  refine wpAny_bind (wpAny_setState_of ha rfl T.fit ?_)
  dsimp only
  unfold SetTable.roomFor
  by_cases hn : (t.fill + n) * 5 ≥ t.mask * 3
  · rw [if_pos hn]
    exact relay_txt ha T (by rw [pz]; omega) (by rw [pz]; omega) fun h' es' ep' t' sb g T' z _ _ _ _ => h h' es' ep' t' sb g T' z
  · rw [if_neg hn]
    exact wpAny_pure (h s.heap es ep t (Heap.SameBut.refl a s.heap) ha T rfl)
theorem walk_into {a r : Addr} {es er' : Array (Int × Value)} {ep epr : Nat} {t tr : SetTable} {ys zs : List Str} {Q : Array (Int × Value) → Shared → Prop} (hs : s.heap.get? a = some (setObj es ep t)) (T : TxtTab P w es t ys)
    (hr : s.heap.get? r = some (setObj er' epr tr)) (Tr : TxtTab P w er' tr zs) (er0 : 0 < er'.size)
    (h : ∀ arr h' d ep2 t2, arr.toList.Perm es.toList → Heap.SameBut r s.heap h' → h'.get? r = some (setObj er' ep2 t2) → TxtTab P w er' t2 zs → Q arr { s with heap := h', drawn := d }) : wpAny (model P w) A (setWalkUnseen a [r] (some r)) Q E s := by
  have old : ∀ arr d, arr.toList.Perm es.toList → Q arr { s with drawn := d } := fun arr d hp => h arr s.heap d epr tr hp (Heap.SameBut.refl r s.heap) hr Tr
  have fw := Tr.few
  unfold setWalkUnseen
  refine wpAny_bind (wpAny_setState_of hs rfl T.fit ?_)
  dsimp only
  refine wpAny_bind (by_text ?_)
  split
  · exact walk_plain hs T old
  · refine wpAny_bind (quiet_txt (fun b hb => ?_) ?_)
    · simp only [List.mem_cons, List.not_mem_nil, or_false] at hb
      rcases hb with rfl | rfl
      · exact ⟨_, _, _, _, hs, T⟩
      · exact ⟨_, _, _, _, hr, Tr⟩
    · simp only [Bool.not_true, Bool.false_eq_true, if_false]
      refine wpAny_bind (wpAny_rule ?_)
      refine wpAny_bind (wpAny_setState_of hr rfl Tr.fit ?_)
      dsimp only
      split
      · refine wpAny_bind (wpAny_storeSet_of hr rfl ?_ (by
          have : scanBound ≤ sizeLine := by decide
          omega))
        refine wpAny_pure (h es _ s.drawn _ _ (.refl _) (Heap.SameBut.update _ r _) (store_set (s := s) hr) ⟨Tr.el, Tr.nd, Tr.mem, Tr.few, Tr.fit, ?_, fun _ => ?_⟩)
        · show (tr.led && t.led) = _
          rw [Tr.led, T.led]
          simp
        · show (tr.plain && t.plain) = false
          rw [Tr.pl er0]
          rfl
      · exact wpAny_pure (old es s.drawn (.refl _))
theorem merge_full {a o : Addr} {ea es : Array (Int × Value)} {epa ep : Nat} {ta t : SetTable} {ys zs : List Str} {each : Sem Unit} {Q : Unit → Shared → Prop} (ne : a ≠ o) (ha : s.heap.get? a = some (setObj ea epa ta)) (Ta : TxtTab P w ea ta ys) (a0 : 0 < ea.size) (ho : s.heap.get? o = some (setObj es ep t)) (T : TxtTab P w es t zs) (few : ea.size ≤ 5000) (few2 : es.size ≤ 5000) (room : ea.size + es.size + 1 < scanBound)
    (he : ∀ (s' : Shared) (R : Unit → Shared → Prop), s'.heap.get? o = some (setObj es ep t) → R () s' → wpAny (model P w) A each R E s')
    (h : ∀ h' d es' ep' t', Heap.SameBut a s.heap h' → h'.get? a = some (setObj es' ep' t') → TxtTab P w es' t' (ys ++ zs) → Q () { s with heap := h', drawn := d }) : wpAny (model P w) A (setMerge a o each) Q E s := by
  unfold setMerge
  rw [if_neg (by simpa using ne)]
  refine wpAny_bind (wpAny_setState_of ho rfl T.fit ?_)
  dsimp only
  by_cases h0 : es.isEmpty = true
  · rw [if_pos h0]
    have e0 : es = #[] := by simpa using h0
    subst e0
    refine wpAny_pure (h s.heap s.drawn ea epa ta (Heap.SameBut.refl a s.heap) ha ⟨Ta.el, Ta.nd, fun k => ?_, Ta.few, Ta.fit, Ta.led, Ta.pl⟩)
    rw [Ta.mem k, List.mem_append]
    have : k ∉ zs := fun z => by have := (T.mem k).mpr z; simp at this
    simp [this]
  · rw [if_neg h0]
    refine wpAny_bind (room_full ha Ta (by omega) fun h1 e1 ep1 t1 sb g1 T1 z1 => ?_)
    refine wpAny_bind (wpAny_setState_of (s := { s with heap := h1 }) g1 rfl T1.fit ?_)
    dsimp only
    have pz := fit_place T1.fit
    have fz : (t1.fill != 0) = true := by
      have : t1.fill ≠ 0 := by
        unfold SetTable.fill
        omega
      simpa using this
    unfold SetTable.road
    rw [if_pos fz]
    dsimp only
    have ho1 : h1.get? o = some (setObj es ep t) := by rw [sb.2 _ (Ne.symm ne)]; exact ho
    refine wpAny_bind (walk_into (s := { s with heap := h1 }) ho1 T g1 T1 (by omega) fun arr h2 d ep2 t2 hp sb2 g2 T2 => ?_)
    refine wpAny_bind (PySem.wpAny_forIn_array' _ (fun rest _ s' => ∃ h3 e3 ep3 t3 past, past ++ rest = arr.toList ∧ s' = { s with heap := h3, drawn := d } ∧ Heap.SameBut a s.heap h3 ∧ h3.get? a = some (setObj e3 ep3 t3) ∧ TxtTab P w e3 t3 (ys ++ past.map fun e : Int × Value => txt e.2) ∧ e3.size ≤ e1.size + past.length) _ ?_ ?_ arr _ ⟨h2, e1, ep2, t2, [], rfl, rfl, sb.trans sb2, g2, by simpa using T2, Nat.le_refl _⟩)
    · rintro x rest b s' ⟨h3, e3, ep3, t3, past, hpa, rfl, sb3, g3, T3, le3⟩
      have xm : x ∈ es.toList := hp.mem_iff.mp (by rw [← hpa]; simp)
      obtain ⟨k, tk, rfl, _⟩ := txt_key T xm
      have pl : past.length + (rest.length + 1) = es.size := by
        have := congrArg List.length hpa
        rw [hp.length_eq] at this
        simpa using this
      dsimp only
      refine wpAny_bind (wpAny_holding (add_txt (s := { s with heap := h3, drawn := d }) g3 T3 (by omega) fun b h4 e4 ep4 t4 sb4 g4 T4 le4 => ?_))
      have ho4 : h4.get? o = some (setObj es ep t) := by rw [(sb3.trans sb4).2 _ (Ne.symm ne)]; exact ho
      refine wpAny_bind (he _ _ ho4 ?_)
      refine wpAny_bind (wpAny_setState_of (s := { s with heap := h4, drawn := d }) ho4 rfl T.fit ?_)
      simp only [bne_self_eq_false, Bool.false_eq_true, if_false]
      refine wpAny_pure ⟨h4, e4, ep4, t4, past ++ [(hashStr w k, Value.str k tk)], by rw [← hpa]; simp, rfl, sb3.trans sb4, g4, ?_, by rw [List.length_append]; show _ ≤ _ + (_ + 1); omega⟩
      rw [List.map_append, ← List.append_assoc]
      exact T4
    · rintro b s' ⟨h3, e3, ep3, t3, past, hpa, rfl, sb3, g3, T3, le3⟩
      rw [List.append_nil] at hpa
      subst hpa
      refine wpAny_pure (h h3 d e3 ep3 t3 sb3 g3 ⟨T3.el, T3.nd, fun k => ?_, T3.few, T3.fit, T3.led, T3.pl⟩)
      rw [T3.mem k, List.mem_append, List.mem_append, ← T.mem k]
      exact or_congr_right ((hp.map fun e : Int × Value => txt e.2).mem_iff)
end
end L2
namespace L2
open PySem
section
variable {P : Program} {w : World} {A : Around} {E : Value → Shared → Prop} {s : Shared}
theorem or_any {a o : Addr} {ep ep2 : Nat} {t t2 : SetTable} {es es2 : Array (Int × Value)} {ys zs : List Str} {Q : Value → Shared → Prop} (ne : a ≠ o) (hs : s.heap.get? a = some (setObj es ep t)) (T : TxtTab P w es t ys)
    (ho : s.heap.get? o = some (setObj es2 ep2 t2)) (T2 : TxtTab P w es2 t2 zs) (few1 : es.size ≤ 1500) (few : es2.size ≤ 1500)
    (h : ∀ h' d es' ep' t', h'.get? s.heap.objs.size = some (setObj es' ep' t') → TxtTab P w es' t' (ys ++ zs) → (∀ b ob, s.heap.get? b = some ob → h'.get? b = some ob) → Q (.ref s.heap.objs.size) { s with heap := h', drawn := d }) : wpAny (model P w) A (binaryOp .BitOr (.ref a) (.ref o)) Q E s := by
  have ta : s.TypeIs (.ref a) "set" := ⟨_, hs, rfl⟩
  have to : s.TypeIs (.ref o) "set" := ⟨_, ho, rfl⟩
  refine wpAny_binaryOp_same (op := .BitOr) (T := "set") ta to F.fills_set_or F.slot_set_or (wpAny_call_entry F.slot_set_or ta set_or_e ?_ (F.args_set_or_2 _ _))
  unfold Builtin.«frozenset.__or__»
  refine wpAny_bind (m := Builtin.Frozenset.slot1 "__or__" ⟨[.ref a, .ref o], []⟩) (wpAny_pure ?_)
  dsimp only
  simp only [Bool.false_eq_true, if_false]
  refine wpAny_bind (wpAny_bind (any_set ta (any_set to ?_)))
  simp only [Bool.not_true, Bool.false_eq_true, if_false]
  refine wpAny_bind (wpAny_pure ?_)
  refine wpAny_bind ?_
  refine wpAny_bind (m := Builtin.Frozenset.copyOf a) ?_
  unfold Builtin.Frozenset.copyOf Builtin.Frozenset.baseOf
  refine wpAny_bind (wpAny_bind (wpAny_isInstance (b := true) ta set_sub_self (wpAny_pure ?_)))
  simp only [if_true]
  refine wpAny_bind ?_
  unfold newSet
  refine wpAny_bind (by_text ?_)
  dsimp only
  refine wpAny_newObj_type ?_
  refine wpAny_bind (wpAny_pure ?_)
  have ga : ∀ b ob, s.heap.get? b = some ob → (s.heap.push (set0 w)).get? b = some ob := fun b ob q => Heap.get?_push_of_some _ q
  have gr : (s.heap.push (set0 w)).get? s.heap.objs.size = some (set0 w) := Heap.get?_push_size _ rfl
  have na : ∀ b ob, s.heap.get? b = some ob → s.heap.objs.size ≠ b := fun b ob q => Nat.ne_of_gt (Heap.lt_size q)
  have sb0 : scanBound = 4096 ∨ 4000 ≤ scanBound := by unfold scanBound; omega
  have mm : ∀ e1 t1, TxtTab P w e1 t1 ys → e1.size = es.size := fun e1 t1 T1 => by
    have l1 := few_of T1.nd fun x hx => (T.mem x).mpr ((T1.mem x).mp hx)
    have l2 := few_of T.nd fun x hx => (T1.mem x).mpr ((T.mem x).mp hx)
    rw [List.length_map, List.length_map, Array.length_toList, Array.length_toList] at l1 l2
    omega
  refine wpAny_bind (merge_fresh (s := { s with heap := s.heap.push (set0 w) }) (na _ _ hs) gr (ga _ _ hs) T (by omega) fun h1 es1 ep1 t1 sb1 g1 T1 z1 => ?_)
  have sz1 := mm es1 t1 T1
  have na2 : ∀ b ob, s.heap.get? b = some ob → h1.get? b = some ob := fun b ob q => (sb1.2 _ (na b ob q).symm).trans (ga b ob q)
  refine wpAny_pure ?_
  show wpAny _ _ (if ((Value.ref o : Value) != .ref a) = true then _ else _) _ _ _
  rw [if_pos (by
    have : (Value.ref o == Value.ref a) = false := by
      rw [beq_eq_false_iff_ne]
      intro z
      cases z
      exact ne rfl
    rw [bne, this]
    rfl)]
  refine wpAny_bind (wpAny_pure ?_)
  refine wpAny_bind (wpAny_holding ?_)
  unfold Builtin.Frozenset.updateFrom
  refine wpAny_bind (any_set (s := { s with heap := h1 }) ⟨_, na2 _ _ ho, rfl⟩ ?_)
  simp only [if_true]
  refine wpAny_bind (wpAny_pure ?_)
  unfold Builtin.Frozenset.merge
  refine wpAny_bind (wpAny_setEpoch_of (s := { s with heap := h1 }) (na2 _ _ ho) rfl T2.fit ?_)
  by_cases z : es.size = 0
  · have e1 := z1 z
    subst e1
    have y0 : ∀ k, k ∉ ys := fun k hk => by
      have := (T.mem k).mpr hk
      rw [Array.eq_empty_of_size_eq_zero z] at this
      simp at this
    refine merge_fresh (s := { s with heap := s.heap.push (set0 w) }) (na _ _ ho) gr (ga _ _ ho) T2 (by omega) fun h2 es3 ep3 t3 sb3 g3 T3 _ => ?_
    exact wpAny_pure (wpAny_pure ⟨_, rfl, (fun z => by cases z), h h2 s.drawn es3 ep3 t3 g3 ⟨T3.el, T3.nd, fun k => by rw [T3.mem k, List.mem_append]; simp [y0 k], T3.few, T3.fit, T3.led, T3.pl⟩ fun b ob q => (sb3.2 _ (na b ob q).symm).trans (ga b ob q)⟩)
  · refine merge_full (s := { s with heap := h1 }) (na _ _ ho) g1 T1 (by omega) (na2 _ _ ho) T2 (by omega) (by omega) (by omega) (fun s' R hs' hR => ?_) fun h2 d es3 ep3 t3 sb3 g3 T3 => ?_
    · unfold Builtin.Frozenset.unchanged
      refine wpAny_bind (wpAny_setEpoch_of hs' rfl T2.fit ?_)
      simp only [bne_self_eq_false, Bool.false_eq_true, if_false]
      exact wpAny_pure hR
    · exact wpAny_pure (wpAny_pure ⟨_, rfl, (fun z => by cases z), h h2 d es3 ep3 t3 g3 T3 fun b ob q => (sb3.2 _ (na b ob q).symm).trans (na2 b ob q)⟩)
end
end L2
namespace L2
open PySem PySem.Spec PyProof.Rows
section
variable {X : Cx}
def rOrA (P : Program) (w : World) : R2 := fun x y H Q => ∃ (a o : Addr) (ys zs ds fs : List Str), x = .ref a ∧ y = .ref o ∧ a ≠ o ∧ H a = some (TSetO P w a ys) ∧ H o = some (TSetO P w o zs) ∧ (∀ k ∈ ys, k ∈ ds) ∧ ds.length ≤ 1500 ∧ (∀ k ∈ zs, k ∈ fs) ∧ fs.length ≤ 1500 ∧ ∀ p, H p = none → Q (.ref p) (upd H p (TSetO P w p (ys ++ zs)))
theorem op_orA : OpR X (binaryOp .BitOr) (rOrA X.prog X.w) := by
  intro pins s σ H x y v u Q I rx ry h
  obtain ⟨a, o, ys, zs, ds, fs, rfl, rfl, ne, hA, hO, hd, hl, hf, hl2, q⟩ := h
  cases rx
  cases ry
  obtain ⟨⟨es, ep, t, e1, T1⟩, _, _⟩ := I.hok a _ hA
  obtain ⟨⟨es2, ep2, t2, e2, T2⟩, _, _⟩ := I.hok o _ hO
  have l1 : es.size ≤ 1500 := by
    have := few_of T1.nd fun x hx => hd x ((T1.mem x).mp hx)
    rw [List.length_map, Array.length_toList] at this
    omega
  have l2 : es2.size ≤ 1500 := by
    have := few_of T2.nd fun x hx => hf x ((T2.mem x).mp hx)
    rw [List.length_map, Array.length_toList] at this
    omega
  refine or_any ne e1 T1 e2 T2 l1 l2 fun h' d es' ep' t' g T' old => ?_
  have J := I.laid (t' := s.toks) (h' := h') (a := s.heap.objs.size) (o := TSetO X.prog X.w s.heap.objs.size (ys ++ zs)) old (Nat.le_refl _) (TSetO.ok g T')
  exact ⟨.ref s.heap.objs.size, _, Inv.redrawn (s := s) J rfl rfl, rfl, q _ (I.hok.fresh (Nat.le_refl _))⟩
end
end L2
namespace L2
open PySem PySem.Spec PyProof.Rows
section
variable {P : Program} {w : World} {A : Around} {E : Value → Shared → Prop} {s : Shared}
theorem sorted_dict2 {d : Addr} {kvs : List (Key × Value)} {ks : List Str} {ep : Nat} {Q : Value → Shared → Prop} (hh : A.handled = none) (lo : (d == sysModules) = false) (hm : s.heap.DictAt (mixKind P w) d kvs ep) (hk : kvs.map (·.1) = ks.map Sum.inr) (few : ks.length ≤ 20000)
    (h : ∀ h' tk l n (zs : List Str) (out : List Value), s.heap.objs.size ≤ l → h'.get? l = some { cls := .type "list", data := .seq out.toArray n } → StrsAre out zs → zs.Perm ks → sortedS zs = true →
      (∀ b o, s.heap.get? b = some o → h'.get? b = some o) → Q (.ref l) { s with heap := h', toks := tk }) : wpAny (model P w) A (call (.builtin "sorted") [.ref d]) Q E s := by
  have kl : kvs.length = ks.length := by simpa using congrArg List.length hk
  refine Calls.call_function_entry kind_sorted plain_sorted entry_sorted (args_sorted1 _) ?_
  unfold Builtin.«sorted»
  refine wpAny_bind (m := checkCount "sorted" 1 1 _) (wpAny_pure ?_)
  refine wpAny_bind (collect_dict (A := A.in1) (by simpa using hh) lo hm (Nat.le_trans (by omega : kvs.length ≤ 20000) (by decide)) fun h1 tk vs old lt1 len hv => ?_)
  have hS := strs_keys kvs ks vs hk len hv
  refine wpAny_bind (wpAny_newList ?_ (Nat.le_trans (by omega : vs.length ≤ 20000) (by decide)))
  have ho : (h1.push { cls := .type "list", data := .seq vs.toArray }).get? h1.objs.size = some (seqObj "list" vs.toArray 0) := Heap.get?_push_size _ rfl
  refine wpAny_bind (wpAny_holding (wpAny_call_entry slot_list_sort ⟨_, ho, rfl⟩ entry_list_sort (sort_any strKind_oneLt ho hS.keysOf (fun v1 v2 rest e => keyKind_strs (by rw [← e]; exact hS)) (by omega) fun st' a1 a2 => ⟨_, rfl, ?_⟩) (args_list_sort _)))
  obtain ⟨zs, g1, g2, g3⟩ := sorted_out_str hS a1 a2
  obtain ⟨n, at1⟩ := sortedHeap_at (out := (arrOf st').map (·.2)) ho
  refine wpAny_pure ⟨_, rfl, h _ _ h1.objs.size n zs ((arrOf st').map (·.2)).toList (Nat.le_of_lt lt1) ?_ g1 g2 g3 (fun b o e => ?_)⟩
  · exact at1
  · have e1 := old b o e
    have lt := Heap.lt_size e1
    have e2 := (sortedHeap_old (h := h1.push { cls := .type "list", data := .seq vs.toArray }) (a := h1.objs.size) (vs := vs) (out := (arrOf st').map (·.2)) (Nat.ne_of_lt lt) (by rw [Heap.size_push]; exact Nat.lt_succ_of_lt lt))
    exact e2.trans (Heap.get?_push_of_some _ e1)
end
section
variable {X : Cx}
theorem call_sortedD2 (hc : X.calm = true) : CallR X (.builtin "sorted") (fun xs H Q => ∃ (p : Addr) (kvs : List (Key × V)) (ks : List Str), xs = [.ref p] ∧ H p = some (.dK kvs) ∧ kvs.map (·.1) = ks.map Sum.inr ∧ ks.length ≤ 20000 ∧
    ∀ l zs, H l = none → zs.Perm ks → sortedS zs = true → Q (.ref l) (upd H l (.lst (zs.map V.str)))) := by
  intro pins s σ H xs us Q I r h
  obtain ⟨p, kvs, ks, rfl, hq, hk, few, q⟩ := h
  obtain ⟨u, rfl, rx⟩ := vals1 r
  cases rx
  obtain ⟨z, hd, vs, rel, dd⟩ := dk_of I.hok hq
  obtain ⟨ep, da⟩ := dd.dictAt
  refine sorted_dict2 (I.ok.hd hc) hd da (rel.keys.symm.trans hk) few fun h' tk l n zs out hl ho hS hp so old => ?_
  have lz : zs.length ≤ sizeLine := by rw [hp.length_eq]; exact Nat.le_trans few (by decide)
  have J := I.laid (t' := tk) (h' := h') (a := l) (o := .lst (zs.map V.str)) old hl ⟨by rw [List.length_map]; exact lz, out, n, of_strs hS, ho⟩
  exact ⟨.ref l, _, J, rfl, q l zs (I.hok.fresh hl) hp so⟩
end
end L2
set_option Elab.async false
set_option maxRecDepth 100000
set_option maxHeartbeats 4000000
namespace K15
open PySem L2 Tr
seal PE PT PW PA PS PSs PG PGs PI PTs PO OpR UnR CallR TruR IxR SlR
local macro_rules | `(tactic| walk_at "rds") => `(tactic| first | assumption | decide | omega)
local macro_rules | `(tactic| walk_at "rd") => `(tactic| repeat (first | refine ⟨_, rfl, ?_⟩ | refine ⟨_, _, rfl, rfl, ?_⟩ | refine ⟨rfl, _, rfl, ?_⟩ | refine ⟨_, _, rfl, rfl, by walk_at "rds", ?_⟩ | refine And.intro (by walk_at "rds") ?_))
local macro_rules | `(tactic| walk_at "yes") => `(tactic| refine ifYes (by decide +kernel) ?_)
local macro_rules | `(tactic| walk_at "no") => `(tactic| refine ifNo (by decide +kernel) ?_)
abbrev s_Queue___init__ : Stmt := inClass (top 5) 0
abbrev s_named : Stmt := top 9
abbrev s_variables_of : Stmt := top 10
abbrev s_all_deeds : Stmt := top 11
abbrev s_blocks_within : Stmt := top 12
abbrev s_names_in : Stmt := top 13
abbrev s_beginnings : Stmt := top 18
abbrev s_Run___init__ : Stmt := inClass (top 20) 0
abbrev s_Run_do_block : Stmt := inClass (top 20) 1
abbrev s_Run_do_deed : Stmt := inClass (top 20) 2
abbrev s_Run_do_if : Stmt := inClass (top 20) 3
abbrev s_Run_do_repeat : Stmt := inClass (top 20) 5
abbrev s_Run_do_step : Stmt := inClass (top 20) 6
abbrev s_Run_is_spent : Stmt := inClass (top 20) 7
abbrev s_Run_do_plain : Stmt := inClass (top 20) 8
abbrev s_run : Stmt := top 21
abbrev s__law_cell : Stmt := top 23
abbrev s__law_mixed : Stmt := top 24
abbrev s__law_alike : Stmt := top 25
abbrev s__law_many : Stmt := top 26
abbrev s__law_body : Stmt := top 27
abbrev s_law : Stmt := top 28
theorem sc_named : FnScope ["block", "names", "deed"] ["block"] (defScope s_named) := ⟨rfl, rfl, rfl, by decide +kernel, rfl, by decide +kernel, by decide +kernel⟩
theorem sc_variables_of : FnScope ["program"] ["program"] (defScope s_variables_of) := ⟨rfl, rfl, rfl, by decide +kernel, rfl, by decide +kernel, by decide +kernel⟩
theorem sc_all_deeds : FnScope ["block", "found", "deed", "inner"] ["block"] (defScope s_all_deeds) := ⟨rfl, rfl, rfl, by decide +kernel, rfl, by decide +kernel, by decide +kernel⟩
theorem sc_blocks_within : FnScope ["deed"] ["deed"] (defScope s_blocks_within) := ⟨rfl, rfl, rfl, by decide +kernel, rfl, by decide +kernel, by decide +kernel⟩
theorem sc_names_in : FnScope ["deed", "kind"] ["deed"] (defScope s_names_in) := ⟨rfl, rfl, rfl, by decide +kernel, rfl, by decide +kernel, by decide +kernel⟩
theorem sc_beginnings : FnScope ["program", "numbers", "begun", "name", "number"] ["program", "numbers"] (defScope s_beginnings) := ⟨rfl, rfl, rfl, by decide +kernel, rfl, by decide +kernel, by decide +kernel⟩
theorem sc_Run___init__ : FnScope ["self", "numbers", "stores", "most"] ["self", "numbers", "stores", "most"] (defScope s_Run___init__) := ⟨rfl, rfl, rfl, by decide +kernel, rfl, by decide +kernel, by decide +kernel⟩
theorem sc_Run_do_block : FnScope ["self", "block", "deed"] ["self", "block"] (defScope s_Run_do_block) := ⟨rfl, rfl, rfl, by decide +kernel, rfl, by decide +kernel, by decide +kernel⟩
theorem sc_Run_do_deed : FnScope ["self", "deed", "kind"] ["self", "deed"] (defScope s_Run_do_deed) := ⟨rfl, rfl, rfl, by decide +kernel, rfl, by decide +kernel, by decide +kernel⟩
theorem sc_Run_do_if : FnScope ["self", "name", "then", "other"] ["self", "name", "then", "other"] (defScope s_Run_do_if) := ⟨rfl, rfl, rfl, by decide +kernel, rfl, by decide +kernel, by decide +kernel⟩
theorem sc_Run_do_repeat : FnScope ["self", "rounds", "body", "count"] ["self", "rounds", "body"] (defScope s_Run_do_repeat) := ⟨rfl, rfl, rfl, by decide +kernel, rfl, by decide +kernel, by decide +kernel⟩
theorem sc_Run_do_step : FnScope ["self"] ["self"] (defScope s_Run_do_step) := ⟨rfl, rfl, rfl, by decide +kernel, rfl, by decide +kernel, by decide +kernel⟩
theorem sc_Run_is_spent : FnScope ["self"] ["self"] (defScope s_Run_is_spent) := ⟨rfl, rfl, rfl, by decide +kernel, rfl, by decide +kernel, by decide +kernel⟩
theorem sc_Run_do_plain : FnScope ["self", "deed", "kind"] ["self", "deed"] (defScope s_Run_do_plain) := ⟨rfl, rfl, rfl, by decide +kernel, rfl, by decide +kernel, by decide +kernel⟩
theorem sc_run : FnScope ["program", "numbers", "most", "stores", "running", "ended", "finals", "left"] ["program", "numbers", "most"] (defScope s_run) := ⟨rfl, rfl, rfl, by decide +kernel, rfl, by decide +kernel, by decide +kernel⟩
theorem sc__law_cell : FnScope ["_law_script", "_law_k"] ["_law_script", "_law_k"] (defScope s__law_cell) := ⟨rfl, rfl, rfl, by decide +kernel, rfl, by decide +kernel, by decide +kernel⟩
theorem sc__law_mixed : FnScope ["_law_cell_here", "_law_k", "_law_m"] ["_law_cell_here", "_law_k"] (defScope s__law_mixed) := ⟨rfl, rfl, rfl, by decide +kernel, rfl, by decide +kernel, by decide +kernel⟩
theorem sc__law_alike : FnScope ["_law_found", "_law_due", "_law_k"] ["_law_found", "_law_due"] (defScope s__law_alike) := ⟨rfl, rfl, rfl, by decide +kernel, rfl, by decide +kernel, by decide +kernel⟩
theorem sc__law_many : FnScope ["_law_cell_here", "_law_many_here", "_law_letters", "_law_m", "_law_between", "_law_out", "_law_k", "_law_one", "_law_two"] ["_law_cell_here", "_law_many_here"] (defScope s__law_many) := ⟨rfl, rfl, rfl, by decide +kernel, rfl, by decide +kernel, by decide +kernel⟩
theorem sc__law_body : FnScope ["_law_asks", "_law_m", "_law_letter", "_law_other", "_law_body_here", "_law_k", "_law_name"] ["_law_asks", "_law_m", "_law_letter", "_law_other"] (defScope s__law_body) := ⟨rfl, rfl, rfl, by decide +kernel, rfl, by decide +kernel, by decide +kernel⟩
theorem sc_law : FnScope ["_law_script", "_law_m", "_law_great", "_law_numbers", "_law_many_here", "_law_asks", "_law_letter", "_law_other", "_law_body_here", "_law_handed", "_law_found", "_law_worth", "_law_k", "_law_name", "_law_outs", "_law_finals"] ["_law_script"] (defScope s_law) := ⟨rfl, rfl, rfl, by decide +kernel, rfl, by decide +kernel, by decide +kernel⟩
structure Adr where
  Queue___init__ : Addr
  fd_Queue___init__ : FuncData
  named : Addr
  fd_named : FuncData
  variables_of : Addr
  fd_variables_of : FuncData
  all_deeds : Addr
  fd_all_deeds : FuncData
  blocks_within : Addr
  fd_blocks_within : FuncData
  names_in : Addr
  fd_names_in : FuncData
  beginnings : Addr
  fd_beginnings : FuncData
  Run___init__ : Addr
  fd_Run___init__ : FuncData
  Run_do_block : Addr
  fd_Run_do_block : FuncData
  Run_do_deed : Addr
  fd_Run_do_deed : FuncData
  Run_do_if : Addr
  fd_Run_do_if : FuncData
  Run_do_repeat : Addr
  fd_Run_do_repeat : FuncData
  Run_do_step : Addr
  fd_Run_do_step : FuncData
  Run_is_spent : Addr
  fd_Run_is_spent : FuncData
  Run_do_plain : Addr
  fd_Run_do_plain : FuncData
  run : Addr
  fd_run : FuncData
  dv_run : Tok
  _law_cell : Addr
  fd__law_cell : FuncData
  _law_mixed : Addr
  fd__law_mixed : FuncData
  _law_alike : Addr
  fd__law_alike : FuncData
  _law_many : Addr
  fd__law_many : FuncData
  _law_body : Addr
  fd__law_body : FuncData
  law : Addr
  fd_law : FuncData
  LOOPS : Addr
  LOOKERS : Addr
  tk_WHEEL : Tok
  C_Queue : Addr
  C_Run : Addr
structure Tx (P : Program) (w : World) (K : PySem.W.Frag) (mg : Str → Option Value) (a : Adr) : Prop where
  F_Queue___init__ : Fun K "__init__" "Queue.__init__" s_Queue___init__ a.Queue___init__ a.fd_Queue___init__
  b_Queue___init__ : Binds K a.fd_Queue___init__ ["self", "things"] []
  F_named : Fun K "named" "named" s_named a.named a.fd_named
  b_named : Binds K a.fd_named ["block"] []
  m_named : mg "named" = some (.ref a.named)
  F_variables_of : Fun K "variables_of" "variables_of" s_variables_of a.variables_of a.fd_variables_of
  b_variables_of : Binds K a.fd_variables_of ["program"] []
  m_variables_of : mg "variables_of" = some (.ref a.variables_of)
  F_all_deeds : Fun K "all_deeds" "all_deeds" s_all_deeds a.all_deeds a.fd_all_deeds
  b_all_deeds : Binds K a.fd_all_deeds ["block"] []
  m_all_deeds : mg "all_deeds" = some (.ref a.all_deeds)
  F_blocks_within : Fun K "blocks_within" "blocks_within" s_blocks_within a.blocks_within a.fd_blocks_within
  b_blocks_within : Binds K a.fd_blocks_within ["deed"] []
  m_blocks_within : mg "blocks_within" = some (.ref a.blocks_within)
  F_names_in : Fun K "names_in" "names_in" s_names_in a.names_in a.fd_names_in
  b_names_in : Binds K a.fd_names_in ["deed"] []
  m_names_in : mg "names_in" = some (.ref a.names_in)
  F_beginnings : Fun K "beginnings" "beginnings" s_beginnings a.beginnings a.fd_beginnings
  b_beginnings : Binds K a.fd_beginnings ["program", "numbers"] []
  m_beginnings : mg "beginnings" = some (.ref a.beginnings)
  F_Run___init__ : Fun K "__init__" "Run.__init__" s_Run___init__ a.Run___init__ a.fd_Run___init__
  b_Run___init__ : Binds K a.fd_Run___init__ ["self", "numbers", "stores", "most"] []
  F_Run_do_block : Fun K "do_block" "Run.do_block" s_Run_do_block a.Run_do_block a.fd_Run_do_block
  b_Run_do_block : Binds K a.fd_Run_do_block ["self", "block"] []
  F_Run_do_deed : Fun K "do_deed" "Run.do_deed" s_Run_do_deed a.Run_do_deed a.fd_Run_do_deed
  b_Run_do_deed : Binds K a.fd_Run_do_deed ["self", "deed"] []
  F_Run_do_if : Fun K "do_if" "Run.do_if" s_Run_do_if a.Run_do_if a.fd_Run_do_if
  b_Run_do_if : Binds K a.fd_Run_do_if ["self", "name", "then", "other"] []
  F_Run_do_repeat : Fun K "do_repeat" "Run.do_repeat" s_Run_do_repeat a.Run_do_repeat a.fd_Run_do_repeat
  b_Run_do_repeat : Binds K a.fd_Run_do_repeat ["self", "rounds", "body"] []
  F_Run_do_step : Fun K "do_step" "Run.do_step" s_Run_do_step a.Run_do_step a.fd_Run_do_step
  b_Run_do_step : Binds K a.fd_Run_do_step ["self"] []
  F_Run_is_spent : Fun K "is_spent" "Run.is_spent" s_Run_is_spent a.Run_is_spent a.fd_Run_is_spent
  b_Run_is_spent : Binds K a.fd_Run_is_spent ["self"] []
  F_Run_do_plain : Fun K "do_plain" "Run.do_plain" s_Run_do_plain a.Run_do_plain a.fd_Run_do_plain
  b_Run_do_plain : Binds K a.fd_Run_do_plain ["self", "deed"] []
  F_run : FunD K "run" "run" s_run a.run a.fd_run (.int 5000 a.dv_run)
  bd_run : Binds K a.fd_run ["program", "numbers", "most"] [.int 5000 a.dv_run]
  b_run : Binds K a.fd_run ["program", "numbers", "most"] []
  m_run : mg "run" = some (.ref a.run)
  F__law_cell : Fun K "_law_cell" "_law_cell" s__law_cell a._law_cell a.fd__law_cell
  b__law_cell : Binds K a.fd__law_cell ["_law_script", "_law_k"] []
  m__law_cell : mg "_law_cell" = some (.ref a._law_cell)
  F__law_mixed : Fun K "_law_mixed" "_law_mixed" s__law_mixed a._law_mixed a.fd__law_mixed
  b__law_mixed : Binds K a.fd__law_mixed ["_law_cell_here", "_law_k"] []
  m__law_mixed : mg "_law_mixed" = some (.ref a._law_mixed)
  F__law_alike : Fun K "_law_alike" "_law_alike" s__law_alike a._law_alike a.fd__law_alike
  b__law_alike : Binds K a.fd__law_alike ["_law_found", "_law_due"] []
  m__law_alike : mg "_law_alike" = some (.ref a._law_alike)
  F__law_many : Fun K "_law_many" "_law_many" s__law_many a._law_many a.fd__law_many
  b__law_many : Binds K a.fd__law_many ["_law_cell_here", "_law_many_here"] []
  m__law_many : mg "_law_many" = some (.ref a._law_many)
  F__law_body : Fun K "_law_body" "_law_body" s__law_body a._law_body a.fd__law_body
  b__law_body : Binds K a.fd__law_body ["_law_asks", "_law_m", "_law_letter", "_law_other"] []
  m__law_body : mg "_law_body" = some (.ref a._law_body)
  F_law : Fun K "law" "law" s_law a.law a.fd_law
  b_law : Binds K a.fd_law ["_law_script"] []
  m_law : mg "law" = some (.ref a.law)
  z_bool : mg "bool" = none
  z_dict : mg "dict" = none
  z_enumerate : mg "enumerate" = none
  z_int : mg "int" = none
  z_isinstance : mg "isinstance" = none
  z_len : mg "len" = none
  z_list : mg "list" = none
  z_max : mg "max" = none
  z_range : mg "range" = none
  z_set : mg "set" = none
  z_sorted : mg "sorted" = none
  z_str : mg "str" = none
  z_tuple : mg "tuple" = none
  z_zip : mg "zip" = none
  c_LOOPS : mg "LOOPS" = some (.ref a.LOOPS)
  t_LOOPS : ∀ H : Hp, SqT K H a.LOOPS [.str "while", .str "repeat"]
  c_LOOKERS : mg "LOOKERS" = some (.ref a.LOOKERS)
  t_LOOKERS : ∀ H : Hp, SqT K H a.LOOKERS [.str "if", .str "while"]
  c_WHEEL : mg "WHEEL" = some (.int 1000000000000000000000000000000 a.tk_WHEEL)
  m_Queue : mg "Queue" = some (.ref a.C_Queue)
  cl_Queue : Cls K a.C_Queue
  k_Queue : Mk K a.C_Queue a.Queue___init__
  nf_Queue_laid : NoAttr K a.C_Queue "laid"
  nf_Queue_gone : NoAttr K a.C_Queue "gone"
  m_Run : mg "Run" = some (.ref a.C_Run)
  cl_Run : Cls K a.C_Run
  k_Run : Mk K a.C_Run a.Run___init__
  mt_Run_do_block : Meth K a.C_Run "do_block" a.Run_do_block
  mt_Run_do_deed : Meth K a.C_Run "do_deed" a.Run_do_deed
  mt_Run_do_if : Meth K a.C_Run "do_if" a.Run_do_if
  mt_Run_do_repeat : Meth K a.C_Run "do_repeat" a.Run_do_repeat
  mt_Run_do_step : Meth K a.C_Run "do_step" a.Run_do_step
  mt_Run_is_spent : Meth K a.C_Run "is_spent" a.Run_is_spent
  mt_Run_do_plain : Meth K a.C_Run "do_plain" a.Run_do_plain
  nf_Run_numbers : NoAttr K a.C_Run "numbers"
  nf_Run_queues : NoAttr K a.C_Run "queues"
  nf_Run_outs : NoAttr K a.C_Run "outs"
  nf_Run_steps : NoAttr K a.C_Run "steps"
  nf_Run_most : NoAttr K a.C_Run "most"
theorem Tx.r_LOOPS {P : Program} {w : World} {K : PySem.W.Frag} {mg : Str → Option Value} {a : Adr} (_ : Tx P w K mg a) : RelV (.ref a.LOOPS) (.ref a.LOOPS) := rfl
theorem Tx.r_LOOKERS {P : Program} {w : World} {K : PySem.W.Frag} {mg : Str → Option Value} {a : Adr} (_ : Tx P w K mg a) : RelV (.ref a.LOOKERS) (.ref a.LOOKERS) := rfl
theorem Tx.r_WHEEL {P : Program} {w : World} {K : PySem.W.Frag} {mg : Str → Option Value} {a : Adr} (_ : Tx P w K mg a) : RelV (.int 1000000000000000000000000000000) (.int 1000000000000000000000000000000 a.tk_WHEEL) := ⟨_, rfl⟩
theorem p30 : (10 : Int) ^ (30 : Int).toNat = 1000000000000000000000000000000 := by decide +kernel
def sp__law_cell (K : PySem.W.Frag) : Sp := fun vs H Q _ => ∃ (l : Addr) (ns : List Int) (k : Int), vs = [.ref l, .int k] ∧ SqL K H l (ns.map V.int) ∧ 0 ≤ k ∧ ∀ c : Int, Q (.int c) H
def sp__law_mixed : Sp := fun vs H Q _ => ∃ c k : Int, vs = [.int c, .int k] ∧ (0 ≤ k ∧ k ≤ 2000) ∧ ∀ m : Int, 0 ≤ m → m < 2147483647 → Q (.int m) H
def sp__law_alike (n : Nat) : Sp := fun vs H Q _ => ∃ (x y : V) (m : Nat), vs = [x, y] ∧ m < n ∧ AlB H m x y ∧ Q (.bl true) H
def sp_names_in : Sp := fun vs H Q _ => ∃ (H0 : Hp) (v : V) (d : Deed), vs = [v] ∧ Same H0 H ∧ RD H0 v d ∧ ∀ H' l, Same H H' → H l = none → H' l = some (.lst (d.names.map V.str)) → Q (.ref l) H'
def sp_blocks_within : Sp := fun vs H Q _ => ∃ (H0 : Hp) (v : V) (d : Deed), vs = [v] ∧ Same H0 H ∧ RD H0 v d ∧ ∀ H' l bs, Same H H' → H l = none → H' l = some (.lst (bs.map V.ref)) → RLs H0 bs d.inner → Q (.ref l) H'
def sp_all_deeds (n : Nat) : Sp := fun vs H Q _ => ∃ (H0 : Hp) (b : Addr) (ds : List Deed), vs = [.ref b] ∧ Same H0 H ∧ RL H0 b ds ∧ depths ds < n ∧ (flats ds).length ≤ 1000 ∧ ∀ H' l us, Same H H' → H l = none → H' l = some (.lst us) → RDs H0 us (flats ds) → Q (.ref l) H'
def sp_named : Sp := fun vs H Q _ => ∃ (b : Addr) (ds : List Deed), vs = [.ref b] ∧ RL H b ds ∧ depths ds ≤ 12 ∧ (flats ds).length ≤ 300 ∧ ∀ H' l zs, Same H H' → H l = none → H' l = some (.lst (zs.map V.str)) → zs.Nodup → (∀ k, k ∈ zs ↔ k ∈ (flats ds).flatMap Deed.names) → PyProof.Rows.sortedS zs = true → Q (.ref l) H'
structure Vrs (ak : List Str) (ds : List Deed) (zs : List Str) : Prop where
  nd : zs.Nodup
  mem : ∀ k, k ∈ zs ↔ k ∈ ak ∨ k ∈ (flats ds).flatMap Deed.names
  so : PyProof.Rows.sortedS zs = true
  few : zs.length ≤ 2000
def sp_variables_of : Sp := fun vs H Q _ => ∃ (p a0 a1 b : Addr) (ak : List Str) (ds : List Deed), vs = [.ref p] ∧ H p = some (.tup [.ref a0, .ref a1, .ref b]) ∧ H a0 = some (.lst (ak.map V.str)) ∧ RL H b ds ∧ depths ds ≤ 12 ∧ (flats ds).length ≤ 300 ∧ ak.length ≤ 300 ∧ ∀ H' l zs, Same H H' → H l = none → H' l = some (.lst (zs.map V.str)) → Vrs ak ds zs → Q (.ref l) H'
def begE (ps : List (Str × Int)) : Env' := ps.foldl (fun f p => setE f p.1 (p.2 % 1000000000000000000000000000000)) fun _ => 0
def sp_beginnings : Sp := fun vs H Q _ => ∃ (p a0 a1 b ln : Addr) (ak : List Str) (ns : List Int) (ds : List Deed), vs = [.ref p, .ref ln] ∧ H p = some (.tup [.ref a0, .ref a1, .ref b]) ∧ H a0 = some (.lst (ak.map V.str)) ∧ H ln = some (.lst (ns.map V.int)) ∧ RL H b ds ∧ depths ds ≤ 12 ∧ (flats ds).length ≤ 300 ∧ ak.length ≤ 300 ∧ ns.length ≤ 300 ∧ ∀ H' d zs, Same H H' → H d = none → H' d = some (.dK (tab zs (begE (ak.zip ns)))) → Vrs ak ds zs → Q (.ref d) H'
def RunO (a : Adr) (dx dn dq lo : Addr) (k m : Int) : HO := .ins a.C_Run dx [("numbers", .ref dn), ("queues", .ref dq), ("outs", .ref lo), ("steps", .int k), ("most", .int m)]
def sp_Run_is_spent (a : Adr) : Sp := fun vs H Q _ => ∃ (r dx dn dq lo : Addr) (k m : Int), vs = [.ref r] ∧ H r = some (RunO a dx dn dq lo k m) ∧ Q (.bl (decide (m ≤ k))) H
def sp_Run_do_step (a : Adr) : Sp := fun vs H Q _ => ∃ (r dx dn dq lo : Addr) (k m : Int), vs = [.ref r] ∧ H r = some (RunO a dx dn dq lo k m) ∧ k < m ∧ Q (.bl true) (upd H r (RunO a dx dn dq lo (k + 1) m))
def sp_Run_do_plain (a : Adr) : Sp := fun vs H Q _ => ∃ (r dx dn dq lo p : Addr) (k m : Int) (zs : List Str) (f : Env') (o : List Int) (x : Str), vs = [.ref r, .ref p] ∧ H r = some (RunO a dx dn dq lo k m) ∧ H dn = some (.dK (tab zs f)) ∧ H lo = some (.lst (o.map V.int)) ∧ H p = some (.tup [.str "give", .str x]) ∧ x ∈ zs ∧ o.length < 900 ∧ Q .non (upd H lo (.lst ((o ++ [f x]).map V.int)))
def sp_block0 : Sp := fun vs H Q _ => ∃ (r b : Addr), vs = [.ref r, .ref b] ∧ H b = some (.lst []) ∧ Q (.bl true) H
def sp_Run_do_if (a : Adr) : Sp := fun vs H Q _ => ∃ (r dx dn dq lo t e : Addr) (k m : Int) (zs : List Str) (f : Env') (x : Str), vs = [.ref r, .str x, .ref t, .ref e] ∧ H r = some (RunO a dx dn dq lo k m) ∧ k < m ∧ H dn = some (.dK (tab zs f)) ∧ x ∈ zs ∧ f x = 0 ∧ H e = some (.lst []) ∧ Q (.bl true) (upd H r (RunO a dx dn dq lo (k + 1) m))
def sp_Run_do_repeat (a : Adr) : Sp := fun vs H Q _ => ∃ (r dx dn dq lo b : Addr) (k m : Int), vs = [.ref r, .int 0, .ref b] ∧ H r = some (RunO a dx dn dq lo k m) ∧ k < m ∧ Q (.bl true) (upd H r (RunO a dx dn dq lo (k + 1) m))
def D15 (f : Env') : Deed → Prop
  | .give _ => True
  | .rep n _ => n = 0
  | .cond x _ os => f x = 0 ∧ os = []
  | _ => False
def outs15 (f : Env') : Deed → List Int
  | .give x => [f x]
  | _ => []
structure R15 (a : Adr) (H : Hp) (r dx dn dq lo : Addr) (zs : List Str) (f : Env') (o : List Int) (k m : Int) : Prop where
  ro : H r = some (RunO a dx dn dq lo k m)
  no : H dn = some (.dK (tab zs f))
  oo : H lo = some (.lst (o.map V.int))
def Keep (own : Addr → Prop) (H H' : Hp) : Prop := ∀ c o, ¬ own c → H c = some o → H' c = some o
def sp_Run_do_deed (a : Adr) : Sp := fun vs H Q _ => ∃ (r dx dn dq lo p : Addr) (k m : Int) (zs : List Str) (f : Env') (o : List Int) (d : Deed), vs = [.ref r, .ref p] ∧ R15 a H r dx dn dq lo zs f o k m ∧ RD H (.ref p) d ∧ D15 f d ∧ (∀ x ∈ d.names, x ∈ zs) ∧ o.length < 900 ∧ k < m ∧ ∀ H', Keep (fun c => c = r ∨ c = lo) H H' → R15 a H' r dx dn dq lo zs f (o ++ outs15 f d) (k + 1) m → Q (.bl true) H'
def sp_Run_do_block (a : Adr) : Sp := fun vs H Q _ => ∃ (H0 : Hp) (r dx dn dq lo b : Addr) (k m : Int) (zs : List Str) (f : Env') (ds : List Deed), vs = [.ref r, .ref b] ∧ Same H0 H ∧ H0 r = none ∧ H0 lo = none ∧ RL H0 b ds ∧ R15 a H r dx dn dq lo zs f [] k m ∧ (∀ d ∈ ds, D15 f d ∧ ∀ x ∈ d.names, x ∈ zs) ∧ ds.length < 900 ∧ k + ds.length ≤ m ∧ ∀ H', Keep (fun c => c = r ∨ c = lo) H H' → R15 a H' r dx dn dq lo zs f (ds.flatMap (outs15 f)) (k + ds.length) m → Q (.bl true) H'
def sp_Run___init__ (a : Adr) : Sp := fun vs H Q _ => ∃ (r dx dn ls : Addr) (m : Int), vs = [.ref r, .ref dn, .ref ls, .int m] ∧ H r = some (.ins a.C_Run dx []) ∧ H ls = some (.lst []) ∧ ∀ H' dq lo, (∀ b o, b ≠ r → H b = some o → H' b = some o) → H' r = some (RunO a dx dn dq lo 0 m) → H' lo = some (.lst []) → H lo = none → Q .non H'
def Prs (H : Hp) (l : Addr) (zs : List Str) (f : Env') : Prop := ∃ ts : List Addr, H l = some (.lst (ts.map V.ref)) ∧ ts.length = zs.length ∧ ∀ (j : Nat) (t : Addr) (z : Str), ts[j]? = some t → zs[j]? = some z → H t = some (.tup [.str z, .int (f z)])
def sp_run : Sp := fun vs H Q _ => ∃ (p a0 a1 b ln : Addr) (m : Int) (ak : List Str) (ns : List Int) (ds : List Deed), vs = [.ref p, .ref ln, .int m] ∧ H p = some (.tup [.ref a0, .ref a1, .ref b]) ∧ H a0 = some (.lst (ak.map V.str)) ∧ H a1 = some (.lst []) ∧ H ln = some (.lst (ns.map V.int)) ∧ RL H b ds ∧ depths ds ≤ 12 ∧ (flats ds).length ≤ 300 ∧ ds.length ≤ 300 ∧ ak.length ≤ 300 ∧ ns.length ≤ 300 ∧ (∀ d ∈ ds, D15 (begE (ak.zip ns)) d) ∧ (ds.length : Int) ≤ m ∧
  ∀ H' t lo lf ll zs, Same H H' → H' t = some (.tup [.bl true, .int ds.length, .ref lo, .ref lf, .ref ll]) → H' lo = some (.lst ((ds.flatMap (outs15 (begE (ak.zip ns)))).map V.int)) → Prs H' lf zs (begE (ak.zip ns)) → Vrs ak ds zs → H' ll = some (.lst []) → Q (.ref t) H'
def tail15 (L O : Str) : List Deed := [.rep 0 [.whl L [.give L]], .cond L [.set L (.nm O) "*" (.nm O)] []]
def sp__law_body : Sp := fun vs H Q _ => ∃ (la : Addr) (m : Int) (ak : List Str) (L O : Str), vs = [.ref la, .int m, .str L, .str O] ∧ H la = some (.lst (ak.map V.str)) ∧ ak.length ≤ 250 ∧ ∀ H' b (gs : List Str), Same H H' → H b = none → (∀ x ∈ gs, x ∈ ak) → gs.length ≤ ak.length → RL H' b (gs.map Deed.give ++ tail15 L O) → Q (.ref b) H'
inductive Gv (H : Hp) : List V → List Str → Prop
  | nil : Gv H [] []
  | cons {p : Addr} {x : Str} {us : List V} {gs : List Str} : H p = some (.tup [.str "give", .str x]) → Gv H us gs → Gv H (.ref p :: us) (x :: gs)
def sp__law_many : Sp := fun vs H Q _ => ∃ (c n : Int), vs = [.int c, .int n] ∧ 0 ≤ n ∧ n ≤ 250 ∧ ∀ H' l (ak : List Str), Same H H' → H l = none → H' l = some (.lst (ak.map V.str)) → (ak.length : Int) = n → ak.Nodup → (∀ z ∈ ak, Low z ∧ 3 ≤ z.length ∧ z.length ≤ 1000) → Q (.ref l) H'
def nmM (bt : Str) (fl : Bool) (p q : Nat) : Str := if fl = true then ⟨#[p]⟩ ++ bt ++ ⟨#[q]⟩ else ⟨#[q]⟩ ++ bt ++ ⟨#[p]⟩
def sp_law (K : PySem.W.Frag) : Sp := fun vs H Q _ => ∃ (a : Addr) (ns : List Int), vs = [.ref a] ∧ SqL K H a (ns.map V.int) ∧ ns.length ≤ 63 ∧ (∀ n ∈ ns, Builtin.Int.intBits n ≤ 2 ^ 20) ∧ Only H ∧ ∀ H', Q (.bl true) H'
theorem ln1 : 1 ≤ sizeLine := by decide
theorem ln2 : 2 ≤ sizeLine := by decide
theorem ln3 : 3 ≤ sizeLine := by decide
theorem ln4 : 4 ≤ sizeLine := by decide
theorem ln5 : 5 ≤ sizeLine := by decide
theorem atI0 {x : V} {r : List V} : atI (x :: r) 0 = some x := show atI (x :: r) ((0 : Nat) : Int) = some x from atI_nat rfl
theorem atI1 {x y : V} {r : List V} : atI (x :: y :: r) 1 = some y := show atI (x :: y :: r) ((1 : Nat) : Int) = some y from atI_nat rfl
theorem atI2 {x y z : V} {r : List V} : atI (x :: y :: z :: r) 2 = some z := show atI (x :: y :: z :: r) ((2 : Nat) : Int) = some z from atI_nat rfl
theorem rf_n {a b c d e : V} : List.lookup ("numbers" : Str) [(("numbers" : Str), a), ("queues", b), ("outs", c), ("steps", d), ("most", e)] = some a := lookup_hit
theorem rf_o {a b c d e : V} : List.lookup ("outs" : Str) [(("numbers" : Str), a), ("queues", b), ("outs", c), ("steps", d), ("most", e)] = some c := (lookup_miss (by decide +kernel)).trans ((lookup_miss (by decide +kernel)).trans lookup_hit)
theorem rf_s {a b c d e : V} : List.lookup ("steps" : Str) [(("numbers" : Str), a), ("queues", b), ("outs", c), ("steps", d), ("most", e)] = some d := (lookup_miss (by decide +kernel)).trans ((lookup_miss (by decide +kernel)).trans ((lookup_miss (by decide +kernel)).trans lookup_hit))
theorem rf_m {a b c d e : V} : List.lookup ("most" : Str) [(("numbers" : Str), a), ("queues", b), ("outs", c), ("steps", d), ("most", e)] = some e := (lookup_miss (by decide +kernel)).trans ((lookup_miss (by decide +kernel)).trans ((lookup_miss (by decide +kernel)).trans ((lookup_miss (by decide +kernel)).trans lookup_hit)))
theorem rf_none {k : Str} {a b c d e : V} (h : ((k == ("numbers" : Str)) || (k == ("queues" : Str)) || (k == ("outs" : Str)) || (k == ("steps" : Str)) || (k == ("most" : Str))) = false) : List.lookup k [(("numbers" : Str), a), ("queues", b), ("outs", c), ("steps", d), ("most", e)] = none := by
  simp only [Bool.or_eq_false_iff] at h
  rw [lookup_miss h.1.1.1.1, lookup_miss h.1.1.1.2, lookup_miss h.1.1.2, lookup_miss h.1.2, lookup_miss h.2]
  rfl
section
variable {P : Program} {w : World} {K : PySem.W.Frag} {mg : Str → Option Value} {base : Heap} {a : Adr}
theorem ok_blocks_within (T : Tx P w K mg a) : FnOk P w K mg base CX0 1 a.blocks_within a.fd_blocks_within ["deed"] sp_blocks_within := by
  refine T.F_blocks_within.ok sc_blocks_within (fun vs H Q E h => ?_) (fun cdv A outer s H vs Q E hr h => ?_)
  · obtain ⟨_, _, _, rfl, _⟩ := h
    rfl
  obtain ⟨H0, v, d, rfl, e0, hd, k⟩ := h
  refine ⟨_, (pss_cons (ps_if (pt_cmpR op_eq (pe_ix ix_tup (pv 0) pe_int (fun _ _ => rfl)) pe_str (nomark _)) (pss_one (ps_ret (pe_lst (pa_cons (pe_ix ix_tup (pv 0) pe_int (fun _ _ => rfl)) (pa_cons (pe_ix ix_tup (pv 0) pe_int (fun _ _ => rfl)) pa_nil))))) pss_nil)
      (pss_cons (ps_if (pt_cmpR op_in_seq (pe_ix ix_tup (pv 0) pe_int (fun _ _ => rfl)) (pe_glob rfl T.c_LOOPS T.r_LOOPS) (by with_unfolding_all rfl)) (pss_one (ps_ret (pe_lst (pa_cons (pe_ix ix_tup (pv 0) pe_int (fun _ _ => rfl)) pa_nil)))) pss_nil)
      (pss_one (ps_ret (pe_lst pa_nil))))), ?_⟩
  have nil : ∀ p, H p = none → d.inner = [] → Q (.ref p) (upd H p (.lst [])) := fun p hp z => k _ p [] (Same.new hp _) hp upd_same (by rw [z]; exact .nil)
  have one : ∀ p b bs, H p = none → d.inner = [bs] → RL H0 b bs → Q (.ref p) (upd H p (.lst [.ref b])) := fun p b bs hp z hb => k _ p [b] (Same.new hp _) hp upd_same (by rw [z]; exact .cons hb .nil)
  cases hd with
  | cond h h1 h2 =>
    refine ⟨_, rfl, _, _, _, _, rfl, rfl, SqT.of (e0 _ _ h), rfl, rfl, _, rfl, ?_⟩
    walk_at "yes"
    refine ⟨_, rfl, _, _, _, _, rfl, rfl, SqT.of (e0 _ _ h), rfl, _, rfl, _, _, _, _, rfl, rfl, SqT.of (e0 _ _ h), rfl, ln2, fun p hp => ?_⟩
    exact k _ p [_, _] (Same.new hp _) hp upd_same (.cons h1 (.cons h2 .nil))
  | whl h h1 =>
    refine ⟨_, rfl, _, _, _, _, rfl, rfl, SqT.of (e0 _ _ h), rfl, rfl, _, rfl, ?_⟩
    walk_at "no"
    refine ⟨_, rfl, _, _, _, _, rfl, rfl, SqT.of (e0 _ _ h), rfl, _, _, rfl, .inr (T.t_LOOPS _), rfl, rfl, _, rfl, ?_⟩
    walk_at "yes"
    exact ⟨_, rfl, _, _, _, _, rfl, rfl, SqT.of (e0 _ _ h), rfl, ln1, fun p hp => one p _ _ hp rfl h1⟩
  | rep h h1 =>
    refine ⟨_, rfl, _, _, _, _, rfl, rfl, SqT.of (e0 _ _ h), rfl, rfl, _, rfl, ?_⟩
    walk_at "no"
    refine ⟨_, rfl, _, _, _, _, rfl, rfl, SqT.of (e0 _ _ h), rfl, _, _, rfl, .inr (T.t_LOOPS _), rfl, rfl, _, rfl, ?_⟩
    walk_at "yes"
    exact ⟨_, rfl, _, _, _, _, rfl, rfl, SqT.of (e0 _ _ h), rfl, ln1, fun p hp => one p _ _ hp rfl h1⟩
  | set h =>
    refine ⟨_, rfl, _, _, _, _, rfl, rfl, SqT.of (e0 _ _ h), rfl, rfl, _, rfl, ?_⟩
    walk_at "no"
    refine ⟨_, rfl, _, _, _, _, rfl, rfl, SqT.of (e0 _ _ h), rfl, _, _, rfl, .inr (T.t_LOOPS _), rfl, rfl, _, rfl, ?_⟩
    walk_at "no"
    exact ⟨Nat.zero_le _, fun p hp => nil p hp rfl⟩
  | put h =>
    refine ⟨_, rfl, _, _, _, _, rfl, rfl, SqT.of (e0 _ _ h), rfl, rfl, _, rfl, ?_⟩
    walk_at "no"
    refine ⟨_, rfl, _, _, _, _, rfl, rfl, SqT.of (e0 _ _ h), rfl, _, _, rfl, .inr (T.t_LOOPS _), rfl, rfl, _, rfl, ?_⟩
    walk_at "no"
    exact ⟨Nat.zero_le _, fun p hp => nil p hp rfl⟩
  | get h =>
    refine ⟨_, rfl, _, _, _, _, rfl, rfl, SqT.of (e0 _ _ h), rfl, rfl, _, rfl, ?_⟩
    walk_at "no"
    refine ⟨_, rfl, _, _, _, _, rfl, rfl, SqT.of (e0 _ _ h), rfl, _, _, rfl, .inr (T.t_LOOPS _), rfl, rfl, _, rfl, ?_⟩
    walk_at "no"
    exact ⟨Nat.zero_le _, fun p hp => nil p hp rfl⟩
  | give h =>
    refine ⟨_, rfl, _, _, _, _, rfl, rfl, SqT.of (e0 _ _ h), rfl, rfl, _, rfl, ?_⟩
    walk_at "no"
    refine ⟨_, rfl, _, _, _, _, rfl, rfl, SqT.of (e0 _ _ h), rfl, _, _, rfl, .inr (T.t_LOOPS _), rfl, rfl, _, rfl, ?_⟩
    walk_at "no"
    exact ⟨Nat.zero_le _, fun p hp => nil p hp rfl⟩
def strsOf (vs : List V) : List V := vs.filter fun v => match v with | .str _ => true | _ => false
theorem ok_names_in (T : Tx P w K mg a) : FnOk P w K mg base CX0 1 a.names_in a.fd_names_in ["deed"] sp_names_in := by
  refine T.F_names_in.ok sc_names_in (fun vs H Q E h => ?_) (fun cdv A outer s H vs Q E hr h => ?_)
  · obtain ⟨_, _, _, rfl, _⟩ := h
    rfl
  obtain ⟨H0, v, d, rfl, e0, hd, k⟩ := h
  refine ⟨_, (pss_cons (ps_set (i := 1) sc_names_in.nd rfl (Or.inl rfl) (pe_ix ix_tup (pv 0) pe_int (fun _ _ => rfl)))
      (pss_cons (ps_if (pt_cmpR op_eq (pv 1) pe_str (nomark _)) (pss_one (ps_ret (pe_comp (k := 1) (Nc := ["word"]) (js := []) (show CompSc (defScope s_names_in) ["deed", "kind"] _ 1 ["word"] [] from CompSc.mk rfl (by decide +kernel) (by decide +kernel) (by decide +kernel) rfl (by decide +kernel)) rfl (pi_tup (pe_tup (pa_cons (pe_ix ix_tup (pv 0) pe_int (fun _ _ => rfl)) (pa_cons (pe_ix ix_tup (pv 0) pe_int (fun _ _ => rfl)) (pa_cons (pe_ix ix_tup (pv 0) pe_int (fun _ _ => rfl)) pa_nil))))) (fun _ _ _ _ _ => (pg_name (i := 0) (show List.Nodup (["word"] : List Str) from by decide +kernel) rfl (Or.inl rfl))) (fun _ _ _ _ _ => (pts_one (pt_val (pe_callB (call_isTK (K := K) rfl) rfl T.z_isinstance PyProof.Rows.Boot.«isinstance» (pa_cons (pv 0) (pa_cons (pe_bltn (v := .ty "str") rfl T.z_str PyProof.Rows.Boot.«str» rfl) pa_nil)))))) (fun _ _ _ _ _ => (pv 0))))) pss_nil)
      (pss_cons (ps_if (pt_cmpR op_eq (pv 1) pe_str (nomark _)) (pss_one (ps_ret (pe_lst pa_nil))) pss_nil)
      (pss_one (ps_ret (pe_ifExp (pt_cmpR op_in_seq (pv 1) (pe_glob rfl T.c_LOOKERS T.r_LOOKERS) (by with_unfolding_all rfl)) (pe_lst (pa_cons (pe_ix ix_tup (pv 0) pe_int (fun _ _ => rfl)) pa_nil)) (pe_lst (pa_cons (pe_ix ix_tup (pv 0) (pe_un un_neg pe_int) (fun _ _ => rfl)) pa_nil)))))))), ?_⟩
  have fin : ∀ H1 p xs, Same H H1 → H1 p = none → d.names.map V.str = xs → Q (.ref p) (upd H1 p (.lst xs)) := fun H1 p xs h1 hp z => by
    subst z
    refine k _ p (h1.trans (Same.new hp _)) ?_ upd_same
    cases q : H p with
    | none => rfl
    | some o => rw [h1 _ _ q] at hp; cases hp
  cases hd with
  | set h =>
    rename_i p x va sg vb
    refine ⟨_, rfl, _, _, _, _, rfl, rfl, SqT.of (e0 _ _ h), rfl, ?_⟩
    refine ⟨_, rfl, rfl, _, rfl, ?_⟩
    walk_at "yes"
    refine ⟨_, rfl, _, _, _, _, rfl, rfl, SqT.of (e0 _ _ h), rfl, _, rfl, _, _, _, _, rfl, rfl, SqT.of (e0 _ _ h), rfl, _, rfl, _, _, _, _, rfl, rfl, SqT.of (e0 _ _ h), rfl, ln3, fun t ht => ⟨t, rfl, ⟨_, SqT.of upd_same⟩, ?_⟩⟩
    refine comp_tup (K := K) (a := t) (xs := [.str x, va.v, vb.v]) (fun i ys σ H2 => H2 = upd H t (.tup [.str x, va.v, vb.v]) ∧ (∃ u, σ = [u]) ∧ ys = strsOf (([.str x, va.v, vb.v] : List V).take i)) ⟨rfl, ⟨_, rfl⟩, rfl⟩ ?_ ln3 ?_ ?_ ?_
    · rintro i ys σ H2 hi ⟨_, _, rfl⟩
      refine Nat.le_trans (List.length_filter_le _ _) ?_
      rw [List.length_take]
      omega
    · rintro i ys σ H2 ⟨rfl, _⟩
      exact SqT.of upd_same
    · rintro i z ys σ H2 hz ⟨rfl, ⟨u, rfl⟩, rfl⟩
      have hz' : z = .str x ∨ z = va.v ∨ z = vb.v := by simpa using List.mem_of_getElem? hz
      have kind : (∃ y, z = .str y) ∨ ∃ n, z = .int n := by
        rcases hz' with rfl | rfl | rfl
        · exact .inl ⟨_, rfl⟩
        · cases va <;> simp [Val.v]
        · cases vb <;> simp [Val.v]
      rcases kind with ⟨y, rfl⟩ | ⟨n, rfl⟩
      · refine ⟨_, rfl, _, _, _, true, rfl, .str y, rfl, _, rfl, ?_⟩
        refine iteT ⟨_, rfl, rfl, ⟨_, rfl⟩, ?_⟩
        rw [List.take_add_one, hz]
        simp [strsOf]
      · refine ⟨_, rfl, _, _, _, false, rfl, .int n, rfl, _, rfl, ?_⟩
        refine iteF ⟨rfl, ⟨_, rfl⟩, ?_⟩
        rw [List.take_add_one, hz]
        simp [strsOf]
    · rintro ys σ H2 ⟨rfl, _, rfl⟩ D hD
      refine fin _ D _ (Same.new ht _) hD ?_
      cases va <;> cases vb <;> rfl
  | rep h h1 =>
    refine ⟨_, rfl, _, _, _, _, rfl, rfl, SqT.of (e0 _ _ h), rfl, ?_⟩
    refine ⟨_, rfl, rfl, _, rfl, ?_⟩
    walk_at "no"
    refine ⟨_, rfl, rfl, _, rfl, ?_⟩
    walk_at "yes"
    exact ⟨Nat.zero_le _, fun p hp => fin H p _ (Same.refl H) hp rfl⟩
  | cond h h1 h2 =>
    refine ⟨_, rfl, _, _, _, _, rfl, rfl, SqT.of (e0 _ _ h), rfl, ?_⟩
    refine ⟨_, rfl, rfl, _, rfl, ?_⟩
    walk_at "no"
    refine ⟨_, rfl, rfl, _, rfl, ?_⟩
    walk_at "no"
    refine ⟨_, rfl, _, _, rfl, .inr (T.t_LOOKERS _), rfl, rfl, _, rfl, ?_⟩
    walk_at "yes"
    exact ⟨_, rfl, _, _, _, _, rfl, rfl, SqT.of (e0 _ _ h), rfl, ln1, fun p hp => fin H p _ (Same.refl H) hp rfl⟩
  | whl h h1 =>
    refine ⟨_, rfl, _, _, _, _, rfl, rfl, SqT.of (e0 _ _ h), rfl, ?_⟩
    refine ⟨_, rfl, rfl, _, rfl, ?_⟩
    walk_at "no"
    refine ⟨_, rfl, rfl, _, rfl, ?_⟩
    walk_at "no"
    refine ⟨_, rfl, _, _, rfl, .inr (T.t_LOOKERS _), rfl, rfl, _, rfl, ?_⟩
    walk_at "yes"
    exact ⟨_, rfl, _, _, _, _, rfl, rfl, SqT.of (e0 _ _ h), rfl, ln1, fun p hp => fin H p _ (Same.refl H) hp rfl⟩
  | put h =>
    refine ⟨_, rfl, _, _, _, _, rfl, rfl, SqT.of (e0 _ _ h), rfl, ?_⟩
    refine ⟨_, rfl, rfl, _, rfl, ?_⟩
    walk_at "no"
    refine ⟨_, rfl, rfl, _, rfl, ?_⟩
    walk_at "no"
    refine ⟨_, rfl, _, _, rfl, .inr (T.t_LOOKERS _), rfl, rfl, _, rfl, ?_⟩
    walk_at "no"
    exact ⟨_, rfl, _, rfl, _, _, _, _, rfl, rfl, SqT.of (e0 _ _ h), rfl, ln1, fun p hp => fin H p _ (Same.refl H) hp rfl⟩
  | get h =>
    refine ⟨_, rfl, _, _, _, _, rfl, rfl, SqT.of (e0 _ _ h), rfl, ?_⟩
    refine ⟨_, rfl, rfl, _, rfl, ?_⟩
    walk_at "no"
    refine ⟨_, rfl, rfl, _, rfl, ?_⟩
    walk_at "no"
    refine ⟨_, rfl, _, _, rfl, .inr (T.t_LOOKERS _), rfl, rfl, _, rfl, ?_⟩
    walk_at "no"
    exact ⟨_, rfl, _, rfl, _, _, _, _, rfl, rfl, SqT.of (e0 _ _ h), rfl, ln1, fun p hp => fin H p _ (Same.refl H) hp rfl⟩
  | give h =>
    refine ⟨_, rfl, _, _, _, _, rfl, rfl, SqT.of (e0 _ _ h), rfl, ?_⟩
    refine ⟨_, rfl, rfl, _, rfl, ?_⟩
    walk_at "no"
    refine ⟨_, rfl, rfl, _, rfl, ?_⟩
    walk_at "no"
    refine ⟨_, rfl, _, _, rfl, .inr (T.t_LOOKERS _), rfl, rfl, _, rfl, ?_⟩
    walk_at "no"
    exact ⟨_, rfl, _, rfl, _, _, _, _, rfl, rfl, SqT.of (e0 _ _ h), rfl, ln1, fun p hp => fin H p _ (Same.refl H) hp rfl⟩
theorem flats_take {ds : List Deed} {i : Nat} {d : Deed} (h : ds[i]? = some d) : flats (ds.take (i + 1)) = flats (ds.take i) ++ (d :: d.inner.flatMap flats) := by
  rw [List.take_add_one, h, flats_append]
  show _ ++ flats [d] = _
  rw [flats, flats, List.append_nil, flat_inner]
theorem depths_mem : ∀ {ds : List Deed} {i : Nat} {d : Deed}, ds[i]? = some d → d.depth ≤ depths ds
  | [], i, d, h => by simp at h
  | x :: r, 0, d, h => by simp at h; subst h; rw [depths]; omega
  | x :: r, i + 1, d, h => by
    simp only [List.getElem?_cons_succ] at h
    have := depths_mem h
    rw [depths]
    omega
theorem inner_depth {d : Deed} {j : Nat} {b : List Deed} (h : d.inner[j]? = some b) : depths b < d.depth := by
  have hm := List.mem_of_getElem? h
  cases d <;> simp [Deed.inner] at hm
  · rcases hm with rfl | rfl <;> rw [Deed.depth] <;> omega
  · subst hm; rw [Deed.depth]; omega
  · subst hm; rw [Deed.depth]; omega
theorem flats_len {ds : List Deed} {i : Nat} : (flats (ds.take i)).length ≤ (flats ds).length := by
  have : flats ds = flats (ds.take i) ++ flats (ds.drop i) := by rw [← flats_append, List.take_append_drop]
  rw [this, List.length_append]
  omega
theorem ok_all_deeds (T : Tx P w K mg a) : ∀ n : Nat, FnOk P w K mg base CX0 (n + 2) a.all_deeds a.fd_all_deeds ["block"] (sp_all_deeds n) := by
  intro n
  induction n with
  | zero =>
    refine T.F_all_deeds.ok sc_all_deeds (fun vs H Q E h => ?_) (fun cdv A outer s H vs Q E hr h => ?_)
    · obtain ⟨_, _, _, rfl, _⟩ := h
      rfl
    · obtain ⟨_, _, _, _, _, _, h0, _⟩ := h
      exact absurd h0 (Nat.not_lt_zero _)
  | succ n ih =>
    refine T.F_all_deeds.ok sc_all_deeds (fun vs H Q E h => ?_) (fun cdv A outer s H vs Q E hr h => ?_)
    · obtain ⟨_, _, _, rfl, _⟩ := h
      rfl
    obtain ⟨H0, b, ds, rfl, e0, hb, hdp, hfl, k⟩ := h
    refine ⟨_, (pss_cons (ps_set (i := 1) sc_all_deeds.nd rfl (Or.inl rfl) (pe_lst pa_nil))
      (pss_cons (ps_for PassesOwn.never rfl (pi_list (pv 0)) (pg_name (i := 2) sc_all_deeds.nd rfl (Or.inl rfl))
      (pss_cons (ps_expr (pe_bm PySem.F.plainAttrs_list PySem.F.slot_list_append PySem.F.type_list_append mt_append (pv 1) (pa_cons (pv 2) pa_nil)))
      (pss_one (ps_for PassesOwn.never rfl (pi_list (pe_call (ok_blocks_within T) (hr.mono (by omega)) rfl T.m_blocks_within T.F_blocks_within.kp T.b_blocks_within .nil pass0 (pa_cons (pv 2) pa_nil))) (pg_name (i := 3) sc_all_deeds.nd rfl (Or.inl rfl))
      (pss_one (ps_expr (pe_bm PySem.F.plainAttrs_list PySem.F.slot_list_extend PySem.F.type_list_extend mt_extend (pv 1) (pa_cons (pe_call ih (hr.mono (by omega)) rfl T.m_all_deeds T.F_all_deeds.kp T.b_all_deeds .nil pass0 (pa_cons (pv 3) pa_nil)) pa_nil))))))))
      (pss_one (ps_ret (pv 1))))), ?_⟩
    obtain ⟨hb1, hds⟩ := hb
    rename_i vs
    refine ⟨Nat.zero_le _, fun f hf => ?_⟩
    have hf0 := Same.none e0 hf
    refine ⟨_, rfl, b, rfl, ⟨_, SqL.of ((Same.new hf _) _ _ (e0 _ _ hb1))⟩, ?_⟩
    refine for_list (K := K) (a := b) (xs := vs) (fun i σ H2 => ∃ us v2 v3, σ = [some (.ref b), some (.ref f), v2, v3] ∧ Same H H2 ∧ H2 f = some (.lst us) ∧ RDs H0 us (flats (ds.take i))) ⟨[], _, _, rfl, Same.new hf _, upd_same, .nil⟩ ?_ ?_ ?_
    · rintro i σ H2 _ ⟨us, v2, v3, _, s2, _, _⟩
      exact SqL.of (s2 _ _ (e0 _ _ hb1))
    · rintro i x σ H2 hx ⟨us, v2, v3, rfl, s2, hf2, hus⟩
      obtain ⟨d, hd, hrd⟩ := hds.at i x hx
      have lu : us.length ≤ 1000 := by rw [hus.len]; exact Nat.le_trans flats_len hfl
      refine ⟨_, rfl, .inl ⟨rfl, _, SqL.of hf2⟩, _, rfl, f, _, _, rfl, rfl, hf2, len_le_line (m := 1001) (by omega), ?_⟩
      have s3 : Same H0 (upd H2 f (.lst (us ++ [x]))) := Same.over (e0.trans s2) hf0
      refine ⟨_, rfl, H0, x, d, rfl, s3, hrd, fun H4 l bs s4 nl hl hbs => ⟨l, rfl, ⟨_, SqL.of hl⟩, ?_⟩⟩
      have lf : l ≠ f := fun z => by rw [z, upd_same] at nl; cases nl
      have all : flats (ds.take (i + 1)) = flats (ds.take i) ++ ([d] ++ d.inner.flatMap flats) := flats_take hd
      refine for_list (K := K) (a := l) (xs := bs.map V.ref) (fun j σ H5 => ∃ us' v3, σ = [some (.ref b), some (.ref f), some x, v3] ∧ Same H H5 ∧ H5 f = some (.lst us') ∧ H5 l = some (.lst (bs.map V.ref)) ∧ RDs H0 us' (flats (ds.take i) ++ ([d] ++ (d.inner.take j).flatMap flats)))
        ⟨us ++ [x], _, rfl, (Same.over s2 hf).trans s4, s4 _ _ upd_same, hl, hus.app (.cons hrd .nil)⟩ ?_ ?_ ?_
      · rintro j σ H5 _ ⟨us', v3, _, _, _, hl5, _⟩
        exact SqL.of hl5
      · rintro j z σ H5 hz ⟨us', v3, rfl, s5, hf5, hl5, hus'⟩
        rw [List.getElem?_map] at hz
        obtain ⟨bj, hbj, rfl⟩ := Option.map_eq_some_iff.mp hz
        obtain ⟨dj, hdj, hrj⟩ := hbs.at j bj hbj
        have dd := depths_mem hd
        have di := inner_depth hdj
        have st : (d.inner.take (j + 1)).flatMap flats = (d.inner.take j).flatMap flats ++ flats dj := by
          rw [List.take_add_one, hdj, List.flatMap_append]
          simp
        have pre : (flats (ds.take i) ++ ([d] ++ (d.inner.take (j + 1)).flatMap flats)).length ≤ 1000 := by
          have e : d.inner.flatMap flats = (d.inner.take (j + 1)).flatMap flats ++ (d.inner.drop (j + 1)).flatMap flats := by rw [← List.flatMap_append, List.take_append_drop]
          have := flats_len (ds := ds) (i := i + 1)
          rw [all, e] at this
          simp only [List.length_append] at this ⊢
          omega
        rw [st] at pre
        simp only [List.length_append] at pre
        have lu' : us'.length ≤ 1000 := by rw [hus'.len]; simp only [List.length_append]; omega
        refine ⟨_, rfl, .inl ⟨rfl, _, SqL.of hf5⟩, _, rfl, H0, bj, dj, rfl, e0.trans s5, hrj, by omega, by omega, fun H6 l6 us6 s6 n6 h6 r6 => ?_⟩
        have f6 : l6 ≠ f := fun z => by rw [z, hf5] at n6; cases n6
        refine ⟨f, l6, _, _, rfl, rfl, s6 _ _ hf5, h6, len_le_line (m := 2000) (by rw [r6.len]; omega), ?_⟩
        refine ⟨us' ++ us6, _, rfl, Same.over (s5.trans s6) hf, upd_same, ?_, ?_⟩
        · rw [upd_ne lf]
          exact s6 _ _ hl5
        · rw [st, ← List.append_assoc, ← List.append_assoc]
          rw [← List.append_assoc] at hus'
          exact hus'.app r6
      · rintro σ H5 ⟨us', v3, rfl, s5, hf5, hl5, hus'⟩
        refine ⟨us', _, _, rfl, s5, hf5, ?_⟩
        rw [all]
        rw [List.length_map, hbs.len, List.take_length] at hus'
        exact hus'
    · rintro σ H2 ⟨us, v2, v3, rfl, s2, hf2, hus⟩
      rw [hds.len, List.take_length] at hus
      exact ⟨_, rfl, k H2 f us s2 hf hf2 hus⟩
theorem names_few : ∀ (l : List Deed), (l.flatMap Deed.names).length ≤ 3 * l.length
  | [] => by simp
  | d :: r => by
    have h1 : d.names.length ≤ 3 := by
      cases d with
      | set x a sg b => cases a <;> cases b <;> simp [Deed.names, Val.names]
      | _ => simp [Deed.names]
    have h2 := names_few r
    rw [List.flatMap_cons, List.length_append, List.length_cons]
    omega
theorem ok_named (T : Tx P w K mg a) : FnOk P w K mg base CX0 16 a.named a.fd_named ["block"] sp_named := by
  refine T.F_named.ok sc_named (fun vs H Q E h => ?_) (fun cdv A outer s H vs Q E hr h => ?_)
  · obtain ⟨_, _, rfl, _⟩ := h
    rfl
  obtain ⟨b, ds, rfl, hb, dp, hln, k⟩ := h
  refine ⟨_, (pss_cons (ps_set (i := 1) sc_named.nd rfl (Or.inl rfl) (pe_lst pa_nil))
      (pss_cons (ps_for PassesOwn.never rfl (pi_list (pe_call (ok_all_deeds T 13) (hr.mono (by decide)) rfl T.m_all_deeds T.F_all_deeds.kp T.b_all_deeds .nil pass0 (pa_cons (pv 0) pa_nil))) (pg_name (i := 2) sc_named.nd rfl (Or.inl rfl))
      (pss_one (ps_expr (pe_bm PySem.F.plainAttrs_list PySem.F.slot_list_extend PySem.F.type_list_extend mt_extend (pv 1) (pa_cons (pe_call (ok_names_in T) (hr.mono (by decide)) rfl T.m_names_in T.F_names_in.kp T.b_names_in .nil pass0 (pa_cons (pv 2) pa_nil)) pa_nil)))))
      (pss_one (ps_ret (pe_callB (call_sorted_of2 rfl) rfl T.z_sorted PyProof.Rows.Boot.«sorted» (pa_cons (pe_callTy (call_set_of rfl) rfl T.z_set PyProof.Rows.Boot.«set» (pa_cons (pv 1) pa_nil)) pa_nil)))))), ?_⟩
  refine ⟨Nat.zero_le _, fun c hc => ?_⟩
  refine ⟨_, rfl, H, b, ds, rfl, Same.new hc _, hb, by omega, by omega, fun H2 l us s2 nl hl hus => ⟨l, rfl, ⟨_, SqL.of hl⟩, ?_⟩⟩
  generalize hfl : flats ds = fl at *
  have lc : l ≠ c := fun z => by rw [z, upd_same] at nl; cases nl
  have few : ∀ i, ((fl.take i).flatMap Deed.names).length ≤ 900 := fun i => by
    have := names_few (fl.take i)
    rw [List.length_take] at this
    omega
  refine for_list (K := K) (a := l) (xs := us) (fun i σ H3 => ∃ v, σ = [some (.ref b), some (.ref c), v] ∧ Same H H3 ∧ H3 c = some (.lst (((fl.take i).flatMap Deed.names).map V.str)) ∧ H3 l = some (.lst us)) ⟨_, rfl, (Same.new hc _).trans s2, s2 _ _ upd_same, hl⟩ ?_ ?_ ?_
  · rintro i σ H3 _ ⟨v, _, _, _, h⟩
    exact SqL.of h
  · rintro i x σ H3 hx ⟨v, rfl, s3, hc3, hl3⟩
    obtain ⟨d, hd, hrd⟩ := hus.at i x hx
    have f1 := few (i + 1)
    rw [List.take_add_one, hd] at f1
    have f1' : ((fl.take i).flatMap Deed.names).length + d.names.length ≤ 900 := by
      simpa [List.flatMap_append] using f1
    refine ⟨_, rfl, .inl ⟨rfl, _, SqL.of hc3⟩, _, rfl, H, x, d, rfl, s3, hrd, fun H4 l4 s4 n4 h4 => ?_⟩
    refine ⟨c, l4, _, _, rfl, rfl, s4 _ _ hc3, h4, len_le_line (m := 3000) (by rw [List.length_map, List.length_map]; omega), ?_⟩
    refine ⟨_, rfl, Same.over (s3.trans s4) hc, ?_, ?_⟩
    · rw [upd_same, List.take_add_one, hd]
      simp [List.flatMap_append]
    · rw [upd_ne lc]
      exact s4 _ _ hl3
  · rintro σ H3 ⟨v, rfl, s3, hc3, hl3⟩
    rw [hus.len, List.take_length] at hc3
    have f1 := few fl.length
    rw [List.take_length] at f1
    refine ⟨_, rfl, c, fl.flatMap Deed.names, rfl, SqL.of hc3, by omega, fun p hp => ?_⟩
    refine ⟨p, fl.flatMap Deed.names, fl.flatMap Deed.names, rfl, upd_same, fun z hz => hz, by omega, fun r zs hr' nd hm so => ?_⟩
    have p0 := Same.none s3 hp
    have r0 : H r = none := by
      refine Same.none s3 ?_
      cases q : H3 r with
      | none => rfl
      | some o =>
        have : r ≠ p := ne_of_none q hp
        rw [upd_ne this, q] at hr'
        cases hr'
    exact k _ r zs (Same.over (Same.over s3 p0) r0) r0 upd_same nd hm so
theorem ok_variables_of (T : Tx P w K mg a) : FnOk P w K mg base CX0 17 a.variables_of a.fd_variables_of ["program"] sp_variables_of := by
  refine T.F_variables_of.ok sc_variables_of (fun vs H Q E h => ?_) (fun cdv A outer s H vs Q E hr h => ?_)
  · obtain ⟨_, _, _, _, _, _, rfl, _⟩ := h
    rfl
  obtain ⟨p, a0, a1, b, ak, ds, rfl, hp, h0, hb, dp, hl, al, q⟩ := h
  refine ⟨_, (pss_one (ps_ret (pe_callB (call_sorted_of2 rfl) rfl T.z_sorted PyProof.Rows.Boot.«sorted» (pa_cons (pe_op op_orA (pe_callTy (call_set_of rfl) rfl T.z_set PyProof.Rows.Boot.«set» (pa_cons (pe_ix ix_tup (pv 0) pe_int (fun _ _ => rfl)) pa_nil)) (pe_callTy (call_set_of rfl) rfl T.z_set PyProof.Rows.Boot.«set» (pa_cons (pe_call (ok_named T) (hr.mono (by decide)) rfl T.m_named T.F_named.kp T.b_named .nil pass0 (pa_cons (pe_ix ix_tup (pv 0) pe_int (fun _ _ => rfl)) pa_nil)) pa_nil))) pa_nil)))), ?_⟩
  refine ⟨_, rfl, p, _, _, _, rfl, rfl, SqT.of hp, atI0, a0, ak, rfl, SqL.of h0, by omega, fun s1 hs1 => ?_⟩
  have m1 := Same.new hs1 (TSetO P w s1 ak)
  have o1 : upd H s1 (TSetO P w s1 ak) s1 = some (TSetO P w s1 ak) := upd_same
  refine ⟨_, rfl, p, _, _, _, rfl, rfl, SqT.of (m1 _ _ hp), atI2, b, ds, rfl, RL.same m1 hb, dp, hl, fun H2 l2 zs m2 n2 o2 nd mem so => ?_⟩
  have nf : zs.length ≤ 900 := by
    have l1 := few_of nd fun x hx => (mem x).mp hx
    have := names_few (flats ds)
    omega
  refine ⟨l2, zs, rfl, SqL.of o2, by omega, fun s2 hs2 => ?_⟩
  have m3 := Same.new hs2 (TSetO P w s2 zs)
  have o3 : upd H2 s2 (TSetO P w s2 zs) s2 = some (TSetO P w s2 zs) := upd_same
  have n3 : s1 ≠ s2 := fun z => by rw [← z, m2 _ _ o1] at hs2; cases hs2
  refine ⟨s1, s2, ak, zs, ak, zs, rfl, rfl, n3, m3 _ _ (m2 _ _ o1), o3, fun k hk => hk, by omega, fun k hk => hk, by omega, fun s3 hs3 => ?_⟩
  have m4 := Same.new hs3 (TSetO P w s3 (ak ++ zs))
  have o4 : upd (upd H2 s2 (TSetO P w s2 zs)) s3 (TSetO P w s3 (ak ++ zs)) s3 = some (TSetO P w s3 (ak ++ zs)) := upd_same
  have m14 := m1.trans (m2.trans (m3.trans m4))
  refine ⟨s3, ak ++ zs, ak ++ zs, rfl, o4, fun k hk => hk, by rw [List.length_append]; omega, fun l5 ys hl5 nd5 mem5 so5 => ?_⟩
  have few5 : ys.length ≤ 2000 := by
    have := few_of nd5 fun x hx => (mem5 x).mp hx
    rw [List.length_append] at this
    omega
  exact q _ l5 ys (m14.trans (Same.new hl5 _)) (Same.none m14 hl5) upd_same ⟨nd5, fun k => by rw [mem5 k, List.mem_append, mem k], so5, few5⟩
theorem none_upd {H : Hp} {x b : Addr} {o : HO} (h : upd H x o b = none) : H b = none := by
  by_cases e : b = x
  · rw [e, upd_same] at h; cases h
  · rwa [upd_ne e] at h
theorem begE_snoc (ps : List (Str × Int)) (p : Str × Int) : begE (ps ++ [p]) = setE (begE ps) p.1 (p.2 % 1000000000000000000000000000000) := by
  unfold begE
  rw [List.foldl_append]
  rfl
theorem ok_beginnings (T : Tx P w K mg a) : FnOk P w K mg base CX0 18 a.beginnings a.fd_beginnings ["program", "numbers"] sp_beginnings := by
  refine T.F_beginnings.ok sc_beginnings (fun vs H Q E h => ?_) (fun cdv A outer s H vs Q E hr h => ?_)
  · obtain ⟨_, _, _, _, _, _, _, _, rfl, _⟩ := h
    rfl
  obtain ⟨p, a0, a1, b, ln, ak, ns, ds, rfl, hp, h0, hn, hb, dp, hln, al, nl', q⟩ := h
  refine ⟨_, (pss_cons (ps_set (i := 2) sc_beginnings.nd rfl (Or.inl rfl) (pe_callTy (call_dict_of rfl) rfl T.z_dict PyProof.Rows.Boot.«dict» (pa_cons (pe_comp (k := 1) (Nc := ["name"]) (js := []) (show CompSc (defScope s_beginnings) ["program", "numbers", "begun", "name", "number"] _ 1 ["name"] [] from CompSc.mk rfl (by decide +kernel) (by decide +kernel) (by decide +kernel) rfl (by decide +kernel)) rfl (pi_list (pe_call (ok_variables_of T) (hr.mono (by decide)) rfl T.m_variables_of T.F_variables_of.kp T.b_variables_of .nil pass0 (pa_cons (pv 0) pa_nil))) (fun _ _ _ _ _ => (pg_name (i := 0) (show List.Nodup (["name"] : List Str) from by decide +kernel) rfl (Or.inl rfl))) (fun _ _ _ _ _ => pts_nil) (fun _ _ _ _ _ => (pe_tup (pa_cons (pv 0) (pa_cons pe_int pa_nil))))) pa_nil)))
      (pss_cons (ps_for PassesOwn.never rfl (pi_zip rfl T.z_zip (pa_cons (pe_ix ix_tup (pv 0) pe_int (fun _ _ => rfl)) (pa_cons (pv 1) pa_nil))) (pg_tup rfl (pgs_cons (pg_name (i := 3) sc_beginnings.nd rfl (Or.inl rfl)) (pgs_cons (pg_name (i := 4) sc_beginnings.nd rfl (Or.inl rfl)) pgs_nil)))
      (pss_one (ps_dput (hr.one) (pv 2) (pv 3) (pe_op oi_mod (pv 4) (pe_glob rfl T.c_WHEEL T.r_WHEEL)) rfl)))
      (pss_one (ps_ret (pv 2))))), ?_⟩
  refine ⟨_, rfl, p, a0, a1, b, ak, ds, rfl, hp, h0, hb, dp, hln, al, fun H2 l zs m2 nl hl vr => ⟨l, rfl, ⟨_, SqL.of hl⟩, ?_⟩⟩
  refine comp_list0 (K := K) (a := l) (xs := zs.map V.str) (fun i ys σ H3 => (∃ v, σ = [v]) ∧ Same H2 H3 ∧ ∃ ts : List Addr, ys = ts.map V.ref ∧ ts.length = i ∧ ∀ (j : Nat) (t : Addr) (z : Str), ts[j]? = some t → zs[j]? = some z → H3 t = some (.tup [.str z, .int 0])) ⟨⟨_, rfl⟩, Same.refl _, [], rfl, rfl, fun j t z h => by simp at h⟩ ?_ (len_le_line (m := 2000) (by rw [List.length_map]; exact vr.few)) ?_ ?_ ?_
  · rintro i ys σ H3 _ ⟨_, _, ts, rfl, h, _⟩
    rw [List.length_map, h]
    exact Nat.le_refl _
  · rintro i ys σ H3 ⟨_, s3, _⟩
    exact SqL.of (s3 _ _ hl)
  · rintro i x ys σ H3 hx ⟨⟨v, rfl⟩, s3, ts, rfl, hl3, ht⟩
    rw [List.getElem?_map] at hx
    obtain ⟨z, hzi, rfl⟩ := Option.map_eq_some_iff.mp hx
    refine ⟨_, rfl, ln2, fun p4 hp4 => ?_⟩
    refine ⟨⟨_, rfl⟩, s3.trans (Same.new hp4 _), ts ++ [p4], by rw [List.map_append]; rfl, by rw [List.length_append, hl3]; rfl, fun j t y hj hy => ?_⟩
    rcases Nat.lt_or_ge j ts.length with lt | ge
    · rw [List.getElem?_append_left lt] at hj
      exact Same.new hp4 _ _ _ (ht j t y hj hy)
    · rw [List.getElem?_append_right ge] at hj
      have e0 : j - ts.length = 0 := by
        have := (List.getElem?_eq_some_iff.mp hj).1
        simpa using this
      rw [e0] at hj
      obtain rfl : p4 = t := by simpa using hj
      have : j = i := by omega
      subst this
      rw [hzi] at hy
      cases hy
      exact upd_same
  · rintro ys σ H3 ⟨_, s3, ts, rfl, hl3, ht⟩ lc hlc
    rw [List.length_map] at hl3
    have mH := m2.trans s3
    have nlc := Same.none mH hlc
    refine ⟨lc, ts.map V.ref, zs.map fun z => (.inr z, .int 0), rfl, upd_same, by rw [List.length_map, List.length_map, hl3], len_le_line (m := 2000) (by rw [List.length_map]; exact vr.few), fun i p hp' => ?_, fun d hd => ?_⟩
    · rw [List.getElem?_map] at hp'
      obtain ⟨z, hzi, rfl⟩ := Option.map_eq_some_iff.mp hp'
      have lt : i < ts.length := by
        have := (List.getElem?_eq_some_iff.mp hzi).1
        omega
      exact ⟨ts[i], by rw [List.getElem?_map, List.getElem?_eq_getElem lt]; rfl, Same.new hlc _ _ _ (ht i _ z (List.getElem?_eq_getElem lt) hzi)⟩
    rw [putAll_tab vr.nd]
    have nd0 : H d = none := Same.none mH (none_upd hd)
    have mD : Same H (upd (upd H3 lc (.lst (ts.map V.ref))) d (.dK (tab zs fun _ => 0))) := Same.over (Same.over mH nlc) nd0
    refine ⟨_, rfl, _, _, _, _, rfl, rfl, SqT.of (mD _ _ hp), rfl, _, rfl, false, false, a0, ln, ak.map V.str, ns.map V.int, rfl, SqL.of (mD _ _ h0), SqL.of (mD _ _ hn), ?_⟩
    have o8 : upd (upd H3 lc (.lst (ts.map V.ref))) d (.dK (tab zs fun _ => 0)) d = some (.dK (tab zs fun _ => 0)) := upd_same
    generalize upd (upd H3 lc (.lst (ts.map V.ref))) d (.dK (tab zs fun _ => 0)) = H8 at mD o8 ⊢
    refine for_zip (K := K) (b1 := false) (b2 := false) (l1 := a0) (l2 := ln) (xs := ak.map V.str) (ys := ns.map V.int) (fun i σ H4 => (∃ v3 v4, σ = [some (.ref p), some (.ref ln), some (.ref d), v3, v4]) ∧ Same H H4 ∧ H4 d = some (.dK (tab zs (begE ((ak.zip ns).take i))))) ⟨⟨_, _, rfl⟩, mD, o8⟩ ?_ ?_ ?_
    · rintro i σ H4 ⟨_, s4, _⟩
      exact ⟨SqL.of (s4 _ _ h0), SqL.of (s4 _ _ hn)⟩
    · rintro i x y σ H4 p5 hx hy ⟨⟨v3, v4, rfl⟩, s4, d4⟩ hp5
      rw [List.getElem?_map] at hx hy
      obtain ⟨x, hx', rfl⟩ := Option.map_eq_some_iff.mp hx
      obtain ⟨y, hy', rfl⟩ := Option.map_eq_some_iff.mp hy
      have xz : x ∈ zs := (vr.mem x).mpr (.inl (List.mem_of_getElem? hx'))
      have hzip : (ak.zip ns)[i]? = some (x, y) := by rw [List.getElem?_zip_eq_some]; exact ⟨hx', hy'⟩
      have n5 : d ≠ p5 := fun z => by rw [← z, d4] at hp5; cases hp5
      have s5 := s4.trans (Same.new hp5 (.tup [.str x, .int y]))
      have d5 : upd H4 p5 (.tup [.str x, .int y]) d = some (.dK (tab zs (begE ((ak.zip ns).take i)))) := by rw [upd_ne n5]; exact d4
      have p5' : upd H4 p5 (.tup [.str x, .int y]) p5 = some (.tup [.str x, .int y]) := upd_same
      generalize upd H4 p5 (.tup [.str x, .int y]) = H5 at s5 d5 p5' ⊢
      refine ⟨p5, _, rfl, .inl (.inl p5'), rfl, _, _, rfl, _, _, rfl, rfl, ?_⟩
      refine ⟨_, rfl, _, _, rfl, rfl, (by decide), _, rfl, _, rfl, d, _, rfl, .inl ⟨_, .inr x, d5, rfl, Nat.lt_of_lt_of_le (show _ < 1000000 by rw [tab_len]; have := vr.few; omega) (by decide), rfl⟩, ?_⟩
      rw [tab_put vr.nd, show addK zs x = zs from if_pos xz]
      refine ⟨⟨_, _, rfl⟩, Same.over s5 nd0, ?_⟩
      rw [upd_same, List.take_add_one, hzip]
      show some (HO.dK (tab zs (setE _ x (y % _)))) = some (HO.dK (tab zs (begE (_ ++ [(x, y)]))))
      rw [begE_snoc]
    · rintro σ H4 ⟨⟨v3, v4, rfl⟩, s4, d4⟩
      rw [List.length_map, List.length_map, List.take_of_length_le (by rw [List.length_zip]; exact Nat.le_refl _)] at d4
      exact ⟨_, rfl, q _ d zs s4 nd0 d4 vr⟩
theorem ok_Run_is_spent (T : Tx P w K mg a) : FnOk P w K mg base CX0 1 a.Run_is_spent a.fd_Run_is_spent ["self"] (sp_Run_is_spent a) := by
  refine T.F_Run_is_spent.ok sc_Run_is_spent (fun vs H Q E h => ?_) (fun cdv A outer s H vs Q E hr h => ?_)
  · obtain ⟨_, _, _, _, _, _, _, rfl, _⟩ := h
    rfl
  obtain ⟨r, dx, dn, dq, lo, k, m, rfl, h1, q⟩ := h
  refine ⟨_, (pss_one (ps_ret (pe_cmpR oi_ge (pe_fld (pv 0) rfl) (pe_fld (pv 0) rfl) (nomark _)))), ?_⟩
  exact ⟨_, rfl, r, _, _, _, _, rfl, h1, T.cl_Run, T.nf_Run_steps, rf_s, _, rfl, r, _, _, _, _, rfl, h1, T.cl_Run, T.nf_Run_most, rf_m, _, _, rfl, rfl, q⟩
theorem ok_Run_do_step (T : Tx P w K mg a) : FnOk P w K mg base CX0 2 a.Run_do_step a.fd_Run_do_step ["self"] (sp_Run_do_step a) := by
  refine T.F_Run_do_step.ok sc_Run_do_step (fun vs H Q E h => ?_) (fun cdv A outer s H vs Q E hr h => ?_)
  · obtain ⟨_, _, _, _, _, _, _, rfl, _⟩ := h
    rfl
  obtain ⟨r, dx, dn, dq, lo, k, m, rfl, h1, lt, q⟩ := h
  refine ⟨_, (pss_cons (ps_if (pt_val (pe_meth0 (pv 0) T.cl_Run T.mt_Run_is_spent (ok_Run_is_spent T) (hr.mono (by decide)) T.b_Run_is_spent .nil pass0)) (pss_one (ps_ret pe_bl)) pss_nil)
      (pss_cons (ps_fld (pv 0) (pe_op oi_add (pe_fld (pv 0) rfl) pe_int) rfl)
      (pss_one (ps_ret pe_bl)))), ?_⟩
  refine ⟨_, rfl, r, _, _, rfl, h1, rf_none (by decide +kernel), r, dx, dn, dq, lo, k, m, rfl, h1, _, rfl, ?_⟩
  refine ifNo (by simpa using lt) ?_
  refine ⟨_, rfl, r, _, _, _, _, rfl, h1, T.cl_Run, T.nf_Run_steps, rf_s, _, _, rfl, rfl, _, rfl, r, _, _, _, rfl, h1, T.cl_Run, T.nf_Run_steps, by simp, ?_⟩
  have e2 : putF ("steps" : Str) (V.int (k + 1)) [(("numbers" : Str), V.ref dn), ("queues", .ref dq), ("outs", .ref lo), ("steps", .int k), ("most", .int m)] = [(("numbers" : Str), V.ref dn), ("queues", .ref dq), ("outs", .ref lo), ("steps", .int (k + 1)), ("most", .int m)] := by
    rw [putF, if_neg (by decide +kernel), putF, if_neg (by decide +kernel), putF, if_neg (by decide +kernel), putF, if_pos rfl]
  rw [e2]
  exact q
theorem ok_Run_do_plain (T : Tx P w K mg a) : FnOk P w K mg base CX0 1 a.Run_do_plain a.fd_Run_do_plain ["self", "deed"] (sp_Run_do_plain a) := by
  refine T.F_Run_do_plain.ok sc_Run_do_plain (fun vs H Q E h => ?_) (fun cdv A outer s H vs Q E hr h => ?_)
  · obtain ⟨_, _, _, _, _, _, _, _, _, _, _, _, rfl, _⟩ := h
    rfl
  obtain ⟨r, dx, dn, dq, lo, p, k, m, zs, f, o, x, rfl, ro, no, oo, h, hx, ol, q⟩ := h
  refine ⟨_, (pss_cons (ps_set (i := 2) sc_Run_do_plain.nd rfl (Or.inl rfl) (pe_ix ix_tup (pv 1) pe_int (fun _ _ => rfl)))
      (pss_one (ps_if (pt_cmpR op_eq (pv 2) pe_str (nomark _)) (pss_one ps_never) (pss_one (ps_if (pt_cmpR op_eq (pv 2) pe_str (nomark _)) (pss_one ps_never) (pss_one (ps_if (pt_cmpR op_eq (pv 2) pe_str (nomark _)) (pss_one ps_never) (pss_one (ps_expr (pe_bm PySem.F.plainAttrs_list PySem.F.slot_list_append PySem.F.type_list_append mt_append (pe_fld (pv 0) rfl) (pa_cons (pe_dget hr.one (pe_fld (pv 0) rfl) (pe_ix ix_tup (pv 1) pe_int (fun _ _ => rfl)) (fun _ _ => rfl)) pa_nil))))))))))), ?_⟩
  have numN : DGet H dn (.str x) (some (.int (f x))) := by
    have := DGet.k (k := .inr x) no
    rw [tab_val hx] at this
    exact this
  refine ⟨_, rfl, _, _, _, _, rfl, rfl, SqT.of h, atI0, ?_⟩
  refine ⟨_, rfl, rfl, _, rfl, ifNo (by decide +kernel) ?_⟩
  refine ⟨_, rfl, rfl, _, rfl, ifNo (by decide +kernel) ?_⟩
  refine ⟨_, rfl, rfl, _, rfl, ifNo (by decide +kernel) ?_⟩
  refine ⟨_, rfl, r, _, _, _, _, rfl, ro, T.cl_Run, T.nf_Run_outs, rf_o, .inl ⟨rfl, _, SqL.of oo⟩, ?_⟩
  refine ⟨_, rfl, r, _, _, _, _, rfl, ro, T.cl_Run, T.nf_Run_numbers, rf_n, _, rfl, _, _, _, _, rfl, rfl, SqT.of h, atI1, dn, _, rfl, numN, ?_⟩
  refine ⟨lo, _, _, rfl, rfl, oo, Nat.lt_of_lt_of_le (show _ < 1000 by rw [List.length_map]; omega) (by decide), ?_⟩
  rw [List.map_append] at q
  exact q
theorem ok_block0 (T : Tx P w K mg a) : FnOk P w K mg base CX0 1 a.Run_do_block a.fd_Run_do_block ["self", "block"] sp_block0 := by
  refine T.F_Run_do_block.ok sc_Run_do_block (fun vs H Q E h => ?_) (fun cdv A outer s H vs Q E hr h => ?_)
  · obtain ⟨_, _, rfl, _⟩ := h
    rfl
  obtain ⟨r, b, rfl, hb, q⟩ := h
  refine ⟨_, (pss_cons (ps_for PassesOwn.never rfl (pi_list (pv 1)) (pg_name (i := 2) sc_Run_do_block.nd rfl (Or.inl rfl)) (pss_one ps_never)) (pss_one (ps_ret pe_bl))), ?_⟩
  refine ⟨_, rfl, b, rfl, ⟨_, SqL.of hb⟩, ?_⟩
  refine for_list (K := K) (a := b) (xs := []) (fun i σ H2 => H2 = H) rfl ?_ ?_ ?_
  · rintro i σ H2 _ rfl
    exact SqL.of hb
  · rintro i x σ H2 hx
    simp at hx
  · rintro σ H2 rfl
    exact q
theorem ok_Run_do_if (T : Tx P w K mg a) : FnOk P w K mg base CX0 3 a.Run_do_if a.fd_Run_do_if ["self", "name", "then", "other"] (sp_Run_do_if a) := by
  refine T.F_Run_do_if.ok sc_Run_do_if (fun vs H Q E h => ?_) (fun cdv A outer s H vs Q E hr h => ?_)
  · obtain ⟨_, _, _, _, _, _, _, _, _, _, _, _, rfl, _⟩ := h
    rfl
  obtain ⟨r, dx, dn, dq, lo, t, e, k, m, zs, f, x, rfl, ro, km, no, hx, fx, he, q⟩ := h
  refine ⟨_, (pss_cons (ps_if (pt_not (pt_val (pe_meth0 (pv 0) T.cl_Run T.mt_Run_do_step (ok_Run_do_step T) (hr.mono (by decide)) T.b_Run_do_step .nil pass0))) (pss_one (ps_ret pe_bl)) pss_nil)
      (pss_one (ps_ret (pe_meth (pv 0) T.cl_Run T.mt_Run_do_block (ok_block0 T) (hr.mono (by decide)) T.b_Run_do_block .nil pass0 (pa_cons (pe_ifExp (pt_cmpR op_eq (pe_dget hr.one (pe_fld (pv 0) rfl) (pv 1) (fun _ _ => rfl)) pe_int (nomark _)) (pv 3) (pv 2)) pa_nil))))), ?_⟩
  refine ⟨_, rfl, r, _, _, rfl, ro, rf_none (by decide +kernel), r, dx, dn, dq, lo, k, m, rfl, ro, km, _, rfl, ifNo rfl ?_⟩
  have n1 : dn ≠ r := fun z => by rw [z, ro] at no; cases no
  have n2 : e ≠ r := fun z => by rw [z, ro] at he; cases he
  have ro2 : upd H r (RunO a dx dn dq lo (k + 1) m) r = some (RunO a dx dn dq lo (k + 1) m) := upd_same
  have no2 : upd H r (RunO a dx dn dq lo (k + 1) m) dn = some (.dK (tab zs f)) := by rw [upd_ne n1]; exact no
  have he2 : upd H r (RunO a dx dn dq lo (k + 1) m) e = some (.lst []) := by rw [upd_ne n2]; exact he
  have numN : DGet (upd H r (RunO a dx dn dq lo (k + 1) m)) dn (.str x) (some (.int 0)) := by
    have := DGet.k (k := .inr x) no2
    rw [tab_val hx, fx] at this
    exact this
  refine ⟨_, rfl, r, _, _, rfl, ro2, rf_none (by decide +kernel), _, rfl, r, _, _, _, _, rfl, ro2, T.cl_Run, T.nf_Run_numbers, rf_n, _, rfl, dn, _, rfl, numN, rfl, _, rfl, ifYes (by decide +kernel) ⟨_, rfl, r, e, rfl, he2, q⟩⟩
theorem ok_Run_do_repeat (T : Tx P w K mg a) : FnOk P w K mg base CX0 3 a.Run_do_repeat a.fd_Run_do_repeat ["self", "rounds", "body"] (sp_Run_do_repeat a) := by
  refine T.F_Run_do_repeat.ok sc_Run_do_repeat (fun vs H Q E h => ?_) (fun cdv A outer s H vs Q E hr h => ?_)
  · obtain ⟨_, _, _, _, _, _, _, _, rfl, _⟩ := h
    rfl
  obtain ⟨r, dx, dn, dq, lo, b, k, m, rfl, ro, km, q⟩ := h
  refine ⟨_, (pss_cons (ps_for PassesOwn.never rfl (pi_range1 rfl T.z_range (pa_cons (pv 1) pa_nil)) (pg_name (i := 3) sc_Run_do_repeat.nd rfl (Or.inl rfl))
      (pss_one ps_never))
      (pss_one (ps_ret (pe_meth0 (pv 0) T.cl_Run T.mt_Run_do_step (ok_Run_do_step T) (hr.mono (by decide)) T.b_Run_do_step .nil pass0)))), ?_⟩
  refine ⟨_, rfl, 0, rfl, by decide, by decide, ?_⟩
  refine for_range (fun i σ H2 => H2 = H ∧ ∃ v, σ = [some (.ref r), some (.int 0), some (.ref b), v]) ⟨rfl, _, rfl⟩ ?_ ?_
  · rintro i σ H2 hi
    exact absurd hi (by simp)
  · rintro σ H2 ⟨rfl, v, rfl⟩
    exact ⟨_, rfl, r, _, _, rfl, ro, rf_none (by decide +kernel), r, dx, dn, dq, lo, k, m, rfl, ro, km, q⟩
theorem R15.more {H : Hp} {r dx dn dq lo : Addr} {zs : List Str} {f : Env'} {o : List Int} {k m : Int} (R : R15 a H r dx dn dq lo zs f o k m) (k' : Int) : R15 a (upd H r (RunO a dx dn dq lo k' m)) r dx dn dq lo zs f o k' m := by
  have n1 : dn ≠ r := fun z => by have := R.no; rw [z, R.ro] at this; cases this
  have n2 : lo ≠ r := fun z => by have := R.oo; rw [z, R.ro] at this; cases this
  exact ⟨upd_same, by rw [upd_ne n1]; exact R.no, by rw [upd_ne n2]; exact R.oo⟩
theorem R15.out {H : Hp} {r dx dn dq lo : Addr} {zs : List Str} {f : Env'} {o : List Int} {k m : Int} (R : R15 a H r dx dn dq lo zs f o k m) (o' : List Int) : R15 a (upd H lo (.lst (o'.map V.int))) r dx dn dq lo zs f o' k m := by
  have n1 : r ≠ lo := fun z => by have := R.oo; rw [← z, R.ro] at this; cases this
  have n2 : dn ≠ lo := fun z => by have := R.oo; rw [← z, R.no] at this; cases this
  exact ⟨by rw [upd_ne n1]; exact R.ro, by rw [upd_ne n2]; exact R.no, upd_same⟩
theorem keep_upd {own : Addr → Prop} {H H1 : Hp} {c : Addr} {o : HO} (h : Keep own H H1) (hc : own c) : Keep own H (upd H1 c o) := fun d x hd hx => by
  rw [upd_ne (fun z => hd (by rw [z]; exact hc))]
  exact h d x hd hx
theorem keep_refl {own : Addr → Prop} {H : Hp} : Keep own H H := fun _ _ _ h => h
theorem ok_Run_do_deed (T : Tx P w K mg a) : FnOk P w K mg base CX0 4 a.Run_do_deed a.fd_Run_do_deed ["self", "deed"] (sp_Run_do_deed a) := by
  refine T.F_Run_do_deed.ok sc_Run_do_deed (fun vs H Q E h => ?_) (fun cdv A outer s H vs Q E hr h => ?_)
  · obtain ⟨_, _, _, _, _, _, _, _, _, _, _, _, rfl, _⟩ := h
    rfl
  obtain ⟨r, dx, dn, dq, lo, p, k, m, zs, f, o, d, rfl, R, hd, dk, nz, ol, km, q⟩ := h
  refine ⟨_, (pss_cons (ps_set (i := 2) sc_Run_do_deed.nd rfl (Or.inl rfl) (pe_ix ix_tup (pv 1) pe_int (fun _ _ => rfl)))
      (pss_cons (ps_if (pt_cmpR op_eq (pv 2) pe_str (nomark _)) (pss_one (ps_ret (pe_meth (pv 0) T.cl_Run T.mt_Run_do_if (ok_Run_do_if T) (hr.mono (by decide)) T.b_Run_do_if .nil pass0 (pa_cons (pe_ix ix_tup (pv 1) pe_int (fun _ _ => rfl)) (pa_cons (pe_ix ix_tup (pv 1) pe_int (fun _ _ => rfl)) (pa_cons (pe_ix ix_tup (pv 1) pe_int (fun _ _ => rfl)) pa_nil)))))) pss_nil)
      (pss_cons (ps_if (pt_cmpR op_eq (pv 2) pe_str (nomark _)) (pss_one ps_never) pss_nil)
      (pss_cons (ps_if (pt_cmpR op_eq (pv 2) pe_str (nomark _)) (pss_one (ps_ret (pe_meth (pv 0) T.cl_Run T.mt_Run_do_repeat (ok_Run_do_repeat T) (hr.mono (by decide)) T.b_Run_do_repeat .nil pass0 (pa_cons (pe_ix ix_tup (pv 1) pe_int (fun _ _ => rfl)) (pa_cons (pe_ix ix_tup (pv 1) pe_int (fun _ _ => rfl)) pa_nil))))) pss_nil)
      (pss_cons (ps_if (pt_val (pe_meth0 (pv 0) T.cl_Run T.mt_Run_is_spent (ok_Run_is_spent T) (hr.mono (by decide)) T.b_Run_is_spent .nil pass0)) (pss_one (ps_ret pe_bl)) pss_nil)
      (pss_cons (ps_expr (pe_meth (pv 0) T.cl_Run T.mt_Run_do_plain (ok_Run_do_plain T) (hr.mono (by decide)) T.b_Run_do_plain .nil pass0 (pa_cons (pv 1) pa_nil)))
      (pss_one (ps_ret (pe_meth0 (pv 0) T.cl_Run T.mt_Run_do_step (ok_Run_do_step T) (hr.mono (by decide)) T.b_Run_do_step .nil pass0))))))))), ?_⟩
  cases hd with
  | give h =>
    rename_i x
    refine ⟨_, rfl, _, _, _, _, rfl, rfl, SqT.of h, atI0, ?_⟩
    refine ⟨_, rfl, rfl, _, rfl, ifNo (by decide +kernel) ?_⟩
    refine ⟨_, rfl, rfl, _, rfl, ifNo (by decide +kernel) ?_⟩
    refine ⟨_, rfl, rfl, _, rfl, ifNo (by decide +kernel) ?_⟩
    refine ⟨_, rfl, r, _, _, rfl, R.ro, rf_none (by decide +kernel), r, dx, dn, dq, lo, k, m, rfl, R.ro, _, rfl, ifNo (decide_eq_false (by omega)) ?_⟩
    refine ⟨_, rfl, r, _, _, rfl, R.ro, rf_none (by decide +kernel), _, rfl, r, dx, dn, dq, lo, p, k, m, zs, f, o, x, rfl, R.ro, R.no, R.oo, h, nz x (by simp [Deed.names]), ol, ?_⟩
    have R2 := R.out (o ++ [f x])
    refine ⟨_, rfl, r, _, _, rfl, R2.ro, rf_none (by decide +kernel), r, dx, dn, dq, lo, k, m, rfl, R2.ro, km, ?_⟩
    exact q _ (keep_upd (keep_upd keep_refl (.inr rfl)) (.inl rfl)) (R2.more _)
  | rep h hb =>
    rename_i b n bs
    obtain rfl : n = 0 := dk
    refine ⟨_, rfl, _, _, _, _, rfl, rfl, SqT.of h, atI0, ?_⟩
    refine ⟨_, rfl, rfl, _, rfl, ifNo (by decide +kernel) ?_⟩
    refine ⟨_, rfl, rfl, _, rfl, ifNo (by decide +kernel) ?_⟩
    refine ⟨_, rfl, rfl, _, rfl, ifYes (by decide +kernel) ?_⟩
    refine ⟨_, rfl, r, _, _, rfl, R.ro, rf_none (by decide +kernel), _, rfl, p, _, _, _, rfl, rfl, SqT.of h, atI1, _, rfl, p, _, _, _, rfl, rfl, SqT.of h, atI2, r, dx, dn, dq, lo, b, k, m, rfl, R.ro, km, ?_⟩
    refine q _ (keep_upd keep_refl (.inl rfl)) ?_
    have := R.more (k + 1)
    rw [show o ++ outs15 f (.rep 0 bs) = o from List.append_nil _]
    exact this
  | cond h ht ho =>
    rename_i t e x ts os
    obtain ⟨fx, rfl⟩ : f x = 0 ∧ os = [] := dk
    have he : H e = some (.lst []) := by
      cases ho with
      | mk h1 h2 => cases h2; exact h1
    refine ⟨_, rfl, _, _, _, _, rfl, rfl, SqT.of h, atI0, ?_⟩
    refine ⟨_, rfl, rfl, _, rfl, ifYes (by decide +kernel) ?_⟩
    refine ⟨_, rfl, r, _, _, rfl, R.ro, rf_none (by decide +kernel), _, rfl, p, _, _, _, rfl, rfl, SqT.of h, atI1, _, rfl, p, _, _, _, rfl, rfl, SqT.of h, atI2, _, rfl, p, _, _, _, rfl, rfl, SqT.of h, atI_nat (j := 3) rfl, r, dx, dn, dq, lo, t, e, k, m, zs, f, x, rfl, R.ro, km, R.no, nz x (by simp [Deed.names]), fx, he, ?_⟩
    refine q _ (keep_upd keep_refl (.inl rfl)) ?_
    have := R.more (k + 1)
    rw [show o ++ outs15 f (.cond x ts []) = o from List.append_nil _]
    exact this
  | _ => exact absurd dk (by simp [D15])
theorem outs_few (f : Env') : ∀ ds : List Deed, (ds.flatMap (outs15 f)).length ≤ ds.length
  | [] => Nat.le_refl _
  | d :: r => by
    have := outs_few f r
    have h1 : (outs15 f d).length ≤ 1 := by cases d <;> simp [outs15]
    rw [List.flatMap_cons, List.length_append, List.length_cons]
    omega
theorem ok_Run_do_block (T : Tx P w K mg a) : FnOk P w K mg base CX0 5 a.Run_do_block a.fd_Run_do_block ["self", "block"] (sp_Run_do_block a) := by
  refine T.F_Run_do_block.ok sc_Run_do_block (fun vs H Q E h => ?_) (fun cdv A outer s H vs Q E hr h => ?_)
  · obtain ⟨_, _, _, _, _, _, _, _, _, _, _, _, rfl, _⟩ := h
    rfl
  obtain ⟨H0, r, dx, dn, dq, lo, b, k, m, zs, f, ds, rfl, e0, r0, l0, hb, R, hD, d9, km, q⟩ := h
  refine ⟨_, (pss_cons (ps_for PassesOwn.never rfl (pi_list (pv 1)) (pg_name (i := 2) sc_Run_do_block.nd rfl (Or.inl rfl))
      (pss_one (ps_if (pt_not (pt_val (pe_meth (pv 0) T.cl_Run T.mt_Run_do_deed (ok_Run_do_deed T) (hr.mono (by decide)) T.b_Run_do_deed .nil pass0 (pa_cons (pv 2) pa_nil)))) (pss_one (ps_ret pe_bl)) pss_nil)))
      (pss_one (ps_ret pe_bl))), ?_⟩
  cases hb with
  | mk hb1 hds =>
    rename_i us
    have keep0 : ∀ H2, Keep (fun c => c = r ∨ c = lo) H H2 → Same H0 H2 := fun H2 kp c o hc => kp c o (fun z => by
      rcases z with rfl | rfl
      · rw [r0] at hc; cases hc
      · rw [l0] at hc; cases hc) (e0 c o hc)
    refine ⟨_, rfl, b, rfl, ⟨_, SqL.of (e0 _ _ hb1)⟩, ?_⟩
    refine for_list (K := K) (a := b) (xs := us) (fun i σ H2 => ∃ v, σ = [some (.ref r), some (.ref b), v] ∧ Keep (fun c => c = r ∨ c = lo) H H2 ∧ R15 a H2 r dx dn dq lo zs f ((ds.take i).flatMap (outs15 f)) (k + i) m) ⟨_, rfl, keep_refl, by rw [show k + ((0 : Nat) : Int) = k by omega]; exact R⟩ ?_ ?_ ?_
    · rintro i σ H2 _ ⟨v, _, kp, _⟩
      exact SqL.of (keep0 H2 kp _ _ hb1)
    · rintro i x σ H2 hx ⟨v, rfl, kp, R2⟩
      obtain ⟨d, hd, hrd⟩ := hds.at i x hx
      have il : i < ds.length := (List.getElem?_eq_some_iff.mp hd).1
      obtain ⟨d1, d2⟩ := hD d (List.mem_of_getElem? hd)
      have hrd2 := hrd.same (keep0 H2 kp)
      obtain ⟨p, rfl⟩ : ∃ p, x = .ref p := by cases hrd <;> exact ⟨_, rfl⟩
      have of := outs_few f (ds.take i)
      rw [List.length_take] at of
      refine ⟨_, rfl, r, _, _, rfl, R2.ro, rf_none (by decide +kernel), _, rfl, r, dx, dn, dq, lo, p, _, m, zs, f, _, d, rfl, R2, hrd2, d1, d2, by omega, by omega, fun H3 kp3 R3 => ⟨_, rfl, ifNo rfl ⟨_, rfl, fun c o hc h => kp3 c o hc (kp c o hc h), ?_⟩⟩⟩
      rw [List.take_add_one, hd, List.flatMap_append, show k + ((i + 1 : Nat) : Int) = k + (i : Int) + 1 by omega]
      show R15 a H3 r dx dn dq lo zs f (_ ++ (outs15 f d ++ [])) _ m
      rw [List.append_nil]
      exact R3
    · rintro σ H2 ⟨v, rfl, kp, R2⟩
      rw [hds.len, List.take_length] at R2
      exact q H2 kp R2
theorem ok_Run___init__ (T : Tx P w K mg a) : FnOk P w K mg base CX0 3 a.Run___init__ a.fd_Run___init__ ["self", "numbers", "stores", "most"] (sp_Run___init__ a) := by
  refine T.F_Run___init__.ok sc_Run___init__ (fun vs H Q E h => ?_) (fun cdv A outer s H vs Q E hr h => ?_)
  · obtain ⟨_, _, _, _, _, rfl, _⟩ := h
    rfl
  obtain ⟨r, dx, dn, ls, m, rfl, h1, h2, q⟩ := h
  refine ⟨_, (pss_cons (ps_fld (pv 0) (pv 1) rfl)
      (pss_cons (ps_fld (pv 0) (pe_callTy (call_dict_of rfl) rfl T.z_dict PyProof.Rows.Boot.«dict» (pa_cons (pe_comp (k := 1) (Nc := ["store"]) (js := []) (show CompSc (defScope s_Run___init__) ["self", "numbers", "stores", "most"] _ 1 ["store"] [] from CompSc.mk rfl (by decide +kernel) (by decide +kernel) (by decide +kernel) rfl (by decide +kernel)) rfl (pi_list (pv 2)) (fun _ _ _ _ _ => (pg_name (i := 0) (show List.Nodup (["store"] : List Str) from by decide +kernel) rfl (Or.inl rfl))) (fun _ _ _ _ _ => pts_nil) (fun _ _ _ _ _ => (pe_tup (pa_cons (pv 0) (pa_cons pe_never pa_nil))))) pa_nil)) rfl)
      (pss_cons (ps_fld (pv 0) (pe_lst pa_nil) rfl)
      (pss_cons (ps_fld (pv 0) pe_int rfl)
      (pss_one (ps_fld (pv 0) (pv 3) rfl)))))), ?_⟩
  refine ⟨_, rfl, _, rfl, r, a.C_Run, dx, [], rfl, h1, T.cl_Run, T.nf_Run_numbers, by simp, ?_⟩
  rw [putF_new [] rfl (by decide +kernel), List.nil_append]
  have nr : ls ≠ r := fun z => by rw [z, h1] at h2; cases h2
  have g2 : upd H r (.ins a.C_Run dx [("numbers", .ref dn)]) ls = some (.lst []) := by rw [upd_ne nr]; exact h2
  have gr : upd H r (.ins a.C_Run dx [("numbers", .ref dn)]) r = some (.ins a.C_Run dx [("numbers", .ref dn)]) := upd_same
  have gk : ∀ b o, b ≠ r → H b = some o → upd H r (.ins a.C_Run dx [("numbers", .ref dn)]) b = some o := fun b o hb h => by rw [upd_ne hb]; exact h
  have gn : ∀ b, upd H r (.ins a.C_Run dx [("numbers", .ref dn)]) b = none → H b = none := fun b hb => none_upd hb
  generalize upd H r (.ins a.C_Run dx [("numbers", .ref dn)]) = H1 at g2 gr gk gn ⊢
  refine ⟨_, rfl, ls, rfl, ⟨_, SqL.of g2⟩, ?_⟩
  refine comp_list0 (K := K) (a := ls) (xs := []) (fun i ys σ H3 => H3 = H1 ∧ ys = []) ⟨rfl, rfl⟩ ?_ (Nat.zero_le _) ?_ ?_ ?_
  · rintro i ys σ H3 _ ⟨_, rfl⟩
    exact Nat.zero_le _
  · rintro i ys σ H3 ⟨rfl, _⟩
    exact SqL.of g2
  · rintro i x ys σ H3 hx
    simp at hx
  rintro ys σ H3 ⟨rfl, rfl⟩ lc hlc
  refine ⟨lc, [], [], rfl, upd_same, rfl, Nat.zero_le _, fun i p hp' => by simp at hp', fun dq hdq => ?_⟩
  have f1 := (Same.new hlc (.lst [])).trans (Same.new hdq (.dK (putAll [])))
  have r1 := f1 _ _ gr
  generalize upd (upd H3 lc (.lst [])) dq (.dK (putAll [])) = H5 at f1 r1 ⊢
  refine ⟨_, rfl, r, a.C_Run, dx, _, rfl, r1, T.cl_Run, T.nf_Run_queues, by simp, ?_⟩
  rw [putF_new ["numbers"] rfl (by decide +kernel)]
  refine ⟨Nat.zero_le _, fun lo hlo => ?_⟩
  have lr : lo ≠ r := fun z => by rw [z, upd_same] at hlo; cases hlo
  have nlo : H5 lo = none := none_upd hlo
  refine ⟨_, rfl, r, a.C_Run, dx, _, rfl, by rw [upd_ne lr.symm]; exact upd_same, T.cl_Run, T.nf_Run_outs, by simp, ?_⟩
  rw [putF_new ["numbers", "queues"] rfl (by decide +kernel)]
  refine ⟨_, rfl, r, a.C_Run, dx, _, rfl, upd_same, T.cl_Run, T.nf_Run_steps, by simp, ?_⟩
  rw [putF_new ["numbers", "queues", "outs"] rfl (by decide +kernel)]
  refine ⟨_, rfl, _, rfl, r, a.C_Run, dx, _, rfl, upd_same, T.cl_Run, T.nf_Run_most, by simp, ?_⟩
  rw [putF_new ["numbers", "queues", "outs", "steps"] rfl (by decide +kernel)]
  have last : ∀ c o, c ≠ r → H5 c = some o → ∀ x1 x2 x3 x4, upd (upd (upd (upd (upd H5 r x1) lo (.lst [])) r x2) r x3) r x4 c = some o := fun c o hc h x1 x2 x3 x4 => by
    have cl : c ≠ lo := fun z => by rw [z, nlo] at h; cases h
    rw [upd_ne hc, upd_ne hc, upd_ne hc, upd_ne cl, upd_ne hc]
    exact h
  refine q _ dq lo (fun c o nc hc => last c o nc (f1 _ _ (gk c o nc hc)) _ _ _ _) upd_same ?_ (gn _ (Same.none f1 nlo))
  rw [upd_ne lr, upd_ne lr, upd_ne lr]
  exact upd_same
theorem flats_mem {d : Deed} : ∀ {ds : List Deed}, d ∈ ds → d ∈ flats ds
  | _ :: _, .head _ => by rw [flats, flat_inner]; simp
  | _ :: r, .tail _ h => by rw [flats]; exact List.mem_append_right _ (flats_mem h)
theorem ok_run (T : Tx P w K mg a) : FnOk P w K mg base CX0 19 a.run a.fd_run ["program", "numbers", "most"] sp_run := by
  refine T.F_run.ok sc_run (fun vs H Q E h => ?_) (fun cdv A outer s H vs Q E hr h => ?_)
  · obtain ⟨_, _, _, _, _, _, _, _, _, rfl, _⟩ := h
    rfl
  obtain ⟨p, a0, a1, b, ln, m, ak, ns, ds, rfl, hp, h0, h1, hn, hb, dp, fl, dl, al, nl, hD, dm, kv⟩ := h
  refine ⟨_, (pss_cons (ps_setcomp (i := 3) sc_run.nd rfl (Or.inl rfl) (k := 2) (Nc := ["store", "length"]) (js := []) (show CompSc (defScope s_run) ["program", "numbers", "most", "stores", "running", "ended", "finals", "left"] _ 2 ["store", "length"] [] from CompSc.mk rfl (by decide +kernel) (by decide +kernel) (by decide +kernel) rfl (by decide +kernel)) rfl (pi_list (pe_ix ix_tup (pv 0) pe_int (fun _ _ => rfl))) (fun _ _ _ _ _ => (pg_tupC 2 rfl (pgs_cons (pg_name (i := 0) (show List.Nodup (["store", "length"] : List Str) from by decide +kernel) rfl (Or.inl rfl)) (pgs_cons (pg_name (i := 1) (show List.Nodup (["store", "length"] : List Str) from by decide +kernel) rfl (Or.inl rfl)) pgs_nil)))) (fun _ _ _ _ _ => pts_nil) (fun _ _ _ _ _ => (pv 0)))
      (pss_cons (ps_set (i := 4) sc_run.nd rfl (Or.inr rfl) (pe_make T.k_Run (ok_Run___init__ T) (hr.mono (by decide)) rfl T.m_Run T.b_Run___init__ .nil pass0 (pa_cons (pe_call (ok_beginnings T) (hr.mono (by decide)) rfl T.m_beginnings T.F_beginnings.kp T.b_beginnings .nil pass0 (pa_cons (pv 0) (pa_cons (pv 1) pa_nil))) (pa_cons (pv 3) (pa_cons (pv 2) pa_nil)))))
      (pss_cons (ps_set (i := 5) sc_run.nd rfl (Or.inl rfl) (pe_meth (pv 4) T.cl_Run T.mt_Run_do_block (ok_Run_do_block T) (hr.mono (by decide)) T.b_Run_do_block .nil pass0 (pa_cons (pe_ix ix_tup (pv 0) pe_int (fun _ _ => rfl)) pa_nil)))
      (pss_cons (ps_set (i := 6) sc_run.nd rfl (Or.inl rfl) (pe_listitems rfl rfl T.z_list (pe_fld (pv 4) rfl)))
      (pss_cons (ps_setcomp (i := 7) sc_run.nd rfl (Or.inl rfl) (k := 1) (Nc := ["store", "running"]) (js := [4]) (show CompSc (defScope s_run) ["program", "numbers", "most", "stores", "running", "ended", "finals", "left"] _ 1 ["store", "running"] [4] from CompSc.mk rfl (by decide +kernel) (by decide +kernel) (by decide +kernel) rfl (by decide +kernel)) rfl (pi_list (pv 3)) (fun _ _ _ _ _ => (pg_name (i := 0) (show List.Nodup (["store", "running"] : List Str) from by decide +kernel) rfl (Or.inl rfl))) (fun _ _ _ _ _ => pts_nil) (fun _ _ _ _ _ => (pe_tup (pa_cons (pv 0) (pa_cons pe_never pa_nil)))))
      (pss_one (ps_ret (pe_tup (pa_cons (pv 5) (pa_cons (pe_fld (pv 4) rfl) (pa_cons (pe_fld (pv 4) rfl) (pa_cons (pv 6) (pa_cons (pv 7) pa_nil))))))))))))), ?_⟩
  refine ⟨_, rfl, _, _, _, _, rfl, rfl, SqT.of hp, rfl, a1, rfl, ⟨_, SqL.of h1⟩, ?_⟩
  refine comp_list0 (K := K) (a := a1) (xs := []) (fun i ys σ H3 => H3 = H ∧ ys = []) ⟨rfl, rfl⟩ ?_ (Nat.zero_le _) ?_ ?_ ?_
  · rintro i ys σ H3 _ ⟨_, rfl⟩
    exact Nat.zero_le _
  · rintro i ys σ H3 ⟨rfl, _⟩
    exact SqL.of h1
  · rintro i x ys σ H3 hx
    simp at hx
  rintro ys σ H3 ⟨rfl, rfl⟩ ls hls
  have m1 := Same.new hls (.lst [])
  refine ⟨_, rfl, _, rfl, p, a0, a1, b, ln, ak, ns, ds, rfl, m1 _ _ hp, m1 _ _ h0, m1 _ _ hn, hb.same m1, dp, fl, al, nl, fun H4 dn zs m4 nd4 hd4 vr => ?_⟩
  have m34 := m1.trans m4
  refine ⟨_, rfl, _, rfl, fun r dx hr0 hdx0 ne => ?_⟩
  have l4 : H4 ls = some (.lst []) := m4 _ _ upd_same
  have k4 : ∀ c o, H4 c = some o → c ≠ r ∧ c ≠ dx := fun c o hc => ⟨fun z => (by rw [z, hr0] at hc; cases hc), fun z => (by rw [z, hdx0] at hc; cases hc)⟩
  refine ⟨r, dx, dn, ls, m, rfl, upd_same, by rw [upd_ne (k4 _ _ l4).1, upd_ne (k4 _ _ l4).2]; exact l4, fun H5 dq lo keep hR hlo nlo => ⟨rfl, ?_⟩⟩
  have k5 : Same H4 H5 := fun c o hc => keep c o (k4 c o hc).1 (by rw [upd_ne (k4 c o hc).1, upd_ne (k4 c o hc).2]; exact hc)
  have m5 := m34.trans k5
  have nr3 : H3 r = none := Same.none m34 hr0
  have nl3 : H3 lo = none := Same.none m34 (none_upd (none_upd nlo))
  have RH : R15 a H5 r dx dn dq lo zs (begE (ak.zip ns)) [] 0 m := ⟨hR, k5 _ _ hd4, hlo⟩
  refine ⟨_, rfl, r, _, _, rfl, hR, rf_none (by decide +kernel), _, rfl, _, _, _, _, rfl, rfl, SqT.of (m5 _ _ hp), rfl, H3, r, dx, dn, dq, lo, b, 0, m, zs, _, ds, rfl, m5, nr3, nl3, hb, RH, fun d hd => ⟨hD d hd, fun x hx => (vr.mem x).mpr (.inr (List.mem_flatMap.mpr ⟨d, flats_mem hd, hx⟩))⟩, by omega, by omega, fun H6 kp R6 => ?_⟩
  have m6 : Same H3 H6 := fun c o hc => kp c o (fun z => by
    rcases z with rfl | rfl
    · rw [nr3] at hc; cases hc
    · rw [nl3] at hc; cases hc) (m5 c o hc)
  have ls6 : H6 ls = some (.lst []) := kp _ _ (fun z => by
    rcases z with rfl | rfl
    · exact (k4 _ _ l4).1 rfl
    · have := none_upd (none_upd nlo); rw [l4] at this; cases this) (k5 _ _ l4)
  refine ⟨_, rfl, r, _, _, _, _, rfl, R6.ro, T.cl_Run, T.nf_Run_numbers, rf_n, dn, _, rfl, R6.no, fun H7 lf us m7 nlf hlf tl hu => ?_⟩
  refine ⟨_, rfl, ls, rfl, ⟨_, SqL.of (m7 _ _ ls6)⟩, ?_⟩
  refine comp_list0 (K := K) (a := ls) (xs := []) (fun i ys σ H8 => H8 = H7 ∧ ys = []) ⟨rfl, rfl⟩ ?_ (Nat.zero_le _) ?_ ?_ ?_
  · rintro i ys σ H8 _ ⟨_, rfl⟩
    exact Nat.zero_le _
  · rintro i ys σ H8 ⟨rfl, _⟩
    exact SqL.of (m7 _ _ ls6)
  · rintro i x ys σ H8 hx
    simp at hx
  rintro ys σ8 H8 ⟨rfl, rfl⟩ ll hll
  have m8 := Same.new hll (.lst [])
  have r8 := m8 _ _ (m7 _ _ R6.ro)
  refine ⟨_, rfl, _, rfl, r, _, _, _, _, rfl, r8, T.cl_Run, T.nf_Run_steps, rf_s, _, rfl, r, _, _, _, _, rfl, r8, T.cl_Run, T.nf_Run_outs, rf_o, _, rfl, _, rfl, ln5, fun t ht9 => ?_⟩
  have m9 := Same.new ht9 (.tup [V.bl true, V.int (0 + ds.length), V.ref lo, V.ref lf, V.ref ll])
  have m89 := m8.trans m9
  have mm := m6.trans (m7.trans m89)
  rw [tab_len] at tl
  refine kv _ t lo lf ll zs mm ?_ ((m7.trans m89) _ _ R6.oo) ⟨us, m89 _ _ hlf, tl, fun j u z hj hzj => ?_⟩ vr (m9 _ _ upd_same)
  · rw [upd_same, Int.zero_add]
  · exact m89 _ _ (hu j u (.inr z, .int (begE (ak.zip ns) z)) hj (by unfold tab; rw [List.getElem?_map, hzj]; rfl)).1
theorem ok__law_cell (T : Tx P w K mg a) : FnOk P w K mg base CX0 1 a._law_cell a.fd__law_cell ["_law_script", "_law_k"] (sp__law_cell K) := by
  refine T.F__law_cell.ok sc__law_cell (fun vs H Q E h => ?_) (fun cdv A outer s H vs Q E hr h => ?_)
  · obtain ⟨_, _, _, rfl, _⟩ := h
    rfl
  obtain ⟨l, ns, k, rfl, hS, k0, q⟩ := h
  refine ⟨_, (pss_cons (ps_if (pt_cmpR oi_lt (pv 1) (pe_callB call_len_seq rfl T.z_len PySem.boot_len (pa_cons (pv 0) pa_nil)) (nomark _)) (pss_one (ps_ret (pe_ix ix_list (pv 0) (pv 1) (fun _ _ => rfl)))) pss_nil)
      (pss_one (ps_ret pe_int))), ?_⟩
  refine ⟨_, rfl, _, rfl, l, _, rfl, .inl hS, _, _, rfl, rfl, _, rfl, ite2 (fun c => ?_) (fun c => ?_)⟩
  · have lt : k.toNat < ns.length := by
      have := of_decide_eq_true c
      rw [List.length_map] at this
      omega
    exact ⟨_, rfl, _, rfl, l, _, _, _, rfl, rfl, hS, atI_pos k0 (by rw [List.getElem?_map, List.getElem?_eq_getElem lt]; rfl), q _⟩
  · exact q _
theorem ok__law_mixed (T : Tx P w K mg a) : FnOk P w K mg base CX0 1 a._law_mixed a.fd__law_mixed ["_law_cell_here", "_law_k"] sp__law_mixed := by
  refine T.F__law_mixed.ok sc__law_mixed (fun vs H Q E h => ?_) (fun cdv A outer s H vs Q E hr h => ?_)
  · obtain ⟨_, _, rfl, _⟩ := h
    rfl
  obtain ⟨c, k, rfl, hk, q⟩ := h
  refine ⟨_, (pss_cons (ps_set (i := 2) sc__law_mixed.nd rfl (Or.inl rfl) (pe_op oi_mod (pe_op oi_add (pe_op oi_mul (pe_op oi_mod (pv 0) pe_int) pe_int) (pe_op oi_mul (pe_op oi_add (pe_op oi_add (pe_op oi_mul (pv 1) (pv 1)) (pe_op oi_mul pe_int (pv 1))) pe_int) pe_int)) pe_int))
      (pss_one (ps_ret (pe_op oi_mod (pe_op oi_mul (pv 2) (pv 2)) pe_int)))), ?_⟩
  have kb : Builtin.Int.intBits k ≤ 64 := intBits_le_64 (by omega) (by omega)
  walk_at "rd"
  refine ⟨IntMulOk.of_right (intBits_le_64 (by decide) (by decide)), ?_⟩
  walk_at "rd"
  refine ⟨IntMulOk.of_right kb, ?_⟩
  walk_at "rd"
  refine ⟨IntMulOk.of_right kb, ?_⟩
  walk_at "rd"
  refine ⟨IntMulOk.of_right (intBits_le_64 (by decide) (by decide)), ?_⟩
  walk_at "rd"
  have m0 := Int.emod_nonneg (c % 2147483647 * 48271 + (k * k + 3 * k + 7) * 69621) (show (2147483647 : Int) ≠ 0 by decide)
  have m1 := Int.emod_lt_of_pos (c % 2147483647 * 48271 + (k * k + 3 * k + 7) * 69621) (show (0 : Int) < 2147483647 by decide)
  generalize (c % 2147483647 * 48271 + (k * k + 3 * k + 7) * 69621) % 2147483647 = m at m0 m1 ⊢
  refine ⟨IntMulOk.of_right (intBits_le_64 (by omega) (by omega)), ?_⟩
  walk_at "rd"
  exact q _ (Int.emod_nonneg _ (by decide)) (Int.emod_lt_of_pos _ (by decide))
theorem ok__law_alike (T : Tx P w K mg a) : ∀ n : Nat, FnOk P w K mg base CX0 (n + 3) a._law_alike a.fd__law_alike ["_law_found", "_law_due"] (sp__law_alike n) := by
  intro n
  induction n with
  | zero =>
    refine T.F__law_alike.ok sc__law_alike (fun vs H Q E h => ?_) (fun cdv A outer s H vs Q E hr h => ?_)
    · obtain ⟨_, _, _, rfl, _⟩ := h
      rfl
    obtain ⟨x, y, m, rfl, hm, _⟩ := h
    exact absurd hm (Nat.not_lt_zero _)
  | succ n ih =>
    refine T.F__law_alike.ok sc__law_alike (fun vs H Q E h => ?_) (fun cdv A outer s H vs Q E hr h => ?_)
    · obtain ⟨_, _, _, rfl, _⟩ := h
      rfl
    obtain ⟨x, y, m, rfl, hm, al, k⟩ := h
    refine ⟨_, (pss_cons (ps_if (pt_cmpR op_isN (pv 1) pe_non (nomark _)) (pss_one (ps_ret (pe_cmpR op_isN (pv 0) pe_non (nomark _)))) pss_nil)
      (pss_cons (ps_if (pt_val (pe_callB call_isT rfl T.z_isinstance PyProof.Rows.Boot.«isinstance» (pa_cons (pv 1) (pa_cons (pe_bltn (v := .ty "bool") rfl T.z_bool PyProof.Rows.Boot.«bool» rfl) pa_nil)))) (pss_one (ps_ret (pe_and (pe_callB call_isT rfl T.z_isinstance PyProof.Rows.Boot.«isinstance» (pa_cons (pv 0) (pa_cons (pe_bltn (v := .ty "bool") rfl T.z_bool PyProof.Rows.Boot.«bool» rfl) pa_nil))) (pe_one (pe_cmpR op_eq (pv 0) (pv 1) (nomark _)))))) pss_nil)
      (pss_cons (ps_if (pt_val (pe_callB call_isT rfl T.z_isinstance PyProof.Rows.Boot.«isinstance» (pa_cons (pv 1) (pa_cons (pe_bltn (v := .ty "int") rfl T.z_int PyProof.Rows.Boot.«int» rfl) pa_nil)))) (pss_one (ps_ret (pe_and (pe_callB call_isT rfl T.z_isinstance PyProof.Rows.Boot.«isinstance» (pa_cons (pv 0) (pa_cons (pe_bltn (v := .ty "int") rfl T.z_int PyProof.Rows.Boot.«int» rfl) pa_nil))) (pe_and (pe_not (pe_callB call_isT rfl T.z_isinstance PyProof.Rows.Boot.«isinstance» (pa_cons (pv 0) (pa_cons (pe_bltn (v := .ty "bool") rfl T.z_bool PyProof.Rows.Boot.«bool» rfl) pa_nil)))) (pe_one (pe_cmpR op_eq (pv 0) (pv 1) (nomark _))))))) pss_nil)
      (pss_cons (ps_if (pt_val (pe_callB call_isT rfl T.z_isinstance PyProof.Rows.Boot.«isinstance» (pa_cons (pv 1) (pa_cons (pe_bltn (v := .ty "str") rfl T.z_str PyProof.Rows.Boot.«str» rfl) pa_nil)))) (pss_one (ps_ret (pe_and (pe_callB call_isT rfl T.z_isinstance PyProof.Rows.Boot.«isinstance» (pa_cons (pv 0) (pa_cons (pe_bltn (v := .ty "str") rfl T.z_str PyProof.Rows.Boot.«str» rfl) pa_nil))) (pe_one (pe_cmpR op_eq (pv 0) (pv 1) (nomark _)))))) pss_nil)
      (pss_cons (ps_if (PW.pt (pw_and (pt_val (pe_callB call_isT rfl T.z_isinstance PyProof.Rows.Boot.«isinstance» (pa_cons (pv 1) (pa_cons (pe_bltn (v := .ty "tuple") rfl T.z_tuple PyProof.Rows.Boot.«tuple» rfl) pa_nil)))) (pw_and1 (pt_not (pt_val (pe_callB call_isT rfl T.z_isinstance PyProof.Rows.Boot.«isinstance» (pa_cons (pv 0) (pa_cons (pe_bltn (v := .ty "tuple") rfl T.z_tuple PyProof.Rows.Boot.«tuple» rfl) pa_nil)))))))) (pss_one (ps_ret pe_bl)) pss_nil)
      (pss_cons (ps_if (PW.pt (pw_and (pt_val (pe_callB call_isT rfl T.z_isinstance PyProof.Rows.Boot.«isinstance» (pa_cons (pv 1) (pa_cons (pe_bltn (v := .ty "list") rfl T.z_list PyProof.Rows.Boot.«list» rfl) pa_nil)))) (pw_and1 (pt_not (pt_val (pe_callB call_isT rfl T.z_isinstance PyProof.Rows.Boot.«isinstance» (pa_cons (pv 0) (pa_cons (pe_bltn (v := .ty "list") rfl T.z_list PyProof.Rows.Boot.«list» rfl) pa_nil)))))))) (pss_one (ps_ret pe_bl)) pss_nil)
      (pss_cons (ps_if (pt_cmpR op_ne (pe_callB call_len_seq rfl T.z_len PySem.boot_len (pa_cons (pv 0) pa_nil)) (pe_callB call_len_seq rfl T.z_len PySem.boot_len (pa_cons (pv 1) pa_nil)) (nomark _)) (pss_one (ps_ret pe_bl)) pss_nil)
      (pss_cons (ps_for PassesOwn.never rfl (pi_range1 rfl T.z_range (pa_cons (pe_callB call_len_seq rfl T.z_len PySem.boot_len (pa_cons (pv 1) pa_nil)) pa_nil)) (pg_name (i := 2) sc__law_alike.nd rfl (Or.inl rfl))
      (pss_one (ps_if (pt_not (pt_val (pe_call ih (hr.mono (by omega)) rfl T.m__law_alike T.F__law_alike.kp T.b__law_alike .nil pass0 (pa_cons (pe_ix ix_any (pv 0) (pv 2) (fun _ _ => rfl)) (pa_cons (pe_ix ix_any (pv 1) (pv 2) (fun _ _ => rfl)) pa_nil))))) (pss_one (ps_ret pe_bl)) pss_nil)))
      (pss_one (ps_ret pe_bl)))))))))), ?_⟩
    cases al with
    | non =>
      refine ⟨_, rfl, rfl, _, rfl, ?_⟩
      walk_at "yes"
      exact ⟨_, rfl, rfl, k⟩
    | bl _ x =>
      refine ⟨_, rfl, rfl, _, rfl, ifNo rfl ?_⟩
      refine ⟨_, rfl, _, _, _, true, rfl, .bl x, rfl, _, rfl, ifYes rfl ?_⟩
      refine ⟨_, rfl, _, _, _, true, rfl, .bl x, rfl, _, rfl, ifYes rfl ?_⟩
      refine ⟨_, rfl, _, rfl, rfl, ?_⟩
      rw [decide_eq_true rfl]
      exact k
    | int _ i =>
      refine ⟨_, rfl, rfl, _, rfl, ifNo rfl ?_⟩
      refine ⟨_, rfl, _, _, _, false, rfl, .int i, rfl, _, rfl, ifNo rfl ?_⟩
      refine ⟨_, rfl, _, _, _, true, rfl, .int i, rfl, _, rfl, ifYes rfl ?_⟩
      refine ⟨_, rfl, _, _, _, true, rfl, .int i, rfl, _, rfl, ifYes rfl ?_⟩
      refine ⟨_, rfl, _, _, _, false, rfl, .int i, rfl, _, rfl, _, rfl, ifYes rfl ?_⟩
      refine ⟨_, rfl, _, rfl, rfl, ?_⟩
      rw [decide_eq_true rfl]
      exact k
    | str _ x =>
      refine ⟨_, rfl, rfl, _, rfl, ifNo rfl ?_⟩
      refine ⟨_, rfl, _, _, _, false, rfl, .str x, rfl, _, rfl, ifNo rfl ?_⟩
      refine ⟨_, rfl, _, _, _, false, rfl, .str x, rfl, _, rfl, ifNo rfl ?_⟩
      refine ⟨_, rfl, _, _, _, true, rfl, .str x, rfl, _, rfl, ifYes rfl ?_⟩
      refine ⟨_, rfl, _, _, _, true, rfl, .str x, rfl, _, rfl, ifYes rfl ?_⟩
      refine ⟨_, rfl, _, rfl, rfl, ?_⟩
      rw [decide_eq_true rfl]
      exact k
    | lst h1 h2 hl hlen hal =>
      rename_i m xa xb xs ys
      refine ⟨_, rfl, rfl, _, rfl, ifNo rfl ?_⟩
      refine ⟨_, rfl, _, _, _, false, rfl, .lst h2, rfl, _, rfl, ifNo rfl ?_⟩
      refine ⟨_, rfl, _, _, _, false, rfl, .lst h2, rfl, _, rfl, ifNo rfl ?_⟩
      refine ⟨_, rfl, _, _, _, false, rfl, .lst h2, rfl, _, rfl, ifNo rfl ?_⟩
      refine ⟨_, rfl, _, _, _, false, rfl, .lst h2, rfl, _, rfl, iteF (ifNo rfl ?_)⟩
      refine ⟨_, rfl, _, _, _, true, rfl, .lst h2, rfl, _, rfl, iteT ?_⟩
      refine ⟨_, rfl, _, _, _, true, rfl, .lst h1, rfl, _, rfl, ifNo rfl ?_⟩
      have xl : (ys.length : Int).toNat = ys.length := by simp
      refine ⟨_, rfl, xa, _, rfl, .inl (SqL.of h1), _, rfl, xb, _, rfl, .inl (SqL.of h2), rfl, _, rfl, ?_⟩
      rw [hl]
      refine iteNS rfl ?_
      refine ⟨_, rfl, xb, _, rfl, .inl (SqL.of h2), _, rfl, by omega, by omega, ?_⟩
      refine for_range (fun i σ H2 => H2 = H ∧ ∃ v, σ = [some (.ref xa), some (.ref xb), v]) ⟨rfl, _, rfl⟩ ?_ ?_
      · rintro i σ H2 hi ⟨rfl, v, rfl⟩
        have li : i < ys.length := by simpa using hi
        have li' : i < xs.length := by omega
        have e1 : atI xs (0 + (i : Int)) = some xs[i] := by rw [Int.zero_add]; exact atI_nat (List.getElem?_eq_getElem li')
        have e2 : atI ys (0 + (i : Int)) = some ys[i] := by rw [Int.zero_add]; exact atI_nat (List.getElem?_eq_getElem li)
        refine ⟨_, rfl, _, rfl, .inl ⟨xa, _, _, _, rfl, rfl, SqL.of h1, e1, ?_⟩⟩
        refine ⟨_, rfl, _, rfl, .inl ⟨xb, _, _, _, rfl, rfl, SqL.of h2, e2, ?_⟩⟩
        refine ⟨_, _, m, rfl, by omega, hal i _ _ (List.getElem?_eq_getElem li') (List.getElem?_eq_getElem li), _, rfl, ?_⟩
        exact ifNo rfl ⟨rfl, _, rfl⟩
      · rintro σ H2 ⟨rfl, v, rfl⟩
        exact k
    | tup h1 h2 hl hlen hal =>
      rename_i m xa xb xs ys
      refine ⟨_, rfl, rfl, _, rfl, ifNo rfl ?_⟩
      refine ⟨_, rfl, _, _, _, false, rfl, .tup h2, rfl, _, rfl, ifNo rfl ?_⟩
      refine ⟨_, rfl, _, _, _, false, rfl, .tup h2, rfl, _, rfl, ifNo rfl ?_⟩
      refine ⟨_, rfl, _, _, _, false, rfl, .tup h2, rfl, _, rfl, ifNo rfl ?_⟩
      refine ⟨_, rfl, _, _, _, true, rfl, .tup h2, rfl, _, rfl, iteT ?_⟩
      refine ⟨_, rfl, _, _, _, true, rfl, .tup h1, rfl, _, rfl, ifNo rfl ?_⟩
      refine ⟨_, rfl, _, _, _, false, rfl, .tup h2, rfl, _, rfl, iteF (ifNo rfl ?_)⟩
      have xl : (ys.length : Int).toNat = ys.length := by simp
      refine ⟨_, rfl, xa, _, rfl, .inr (SqT.of h1), _, rfl, xb, _, rfl, .inr (SqT.of h2), rfl, _, rfl, ?_⟩
      rw [hl]
      refine iteNS rfl ?_
      refine ⟨_, rfl, xb, _, rfl, .inr (SqT.of h2), _, rfl, by omega, by omega, ?_⟩
      refine for_range (fun i σ H2 => H2 = H ∧ ∃ v, σ = [some (.ref xa), some (.ref xb), v]) ⟨rfl, _, rfl⟩ ?_ ?_
      · rintro i σ H2 hi ⟨rfl, v, rfl⟩
        have li : i < ys.length := by simpa using hi
        have li' : i < xs.length := by omega
        have e1 : atI xs (0 + (i : Int)) = some xs[i] := by rw [Int.zero_add]; exact atI_nat (List.getElem?_eq_getElem li')
        have e2 : atI ys (0 + (i : Int)) = some ys[i] := by rw [Int.zero_add]; exact atI_nat (List.getElem?_eq_getElem li)
        refine ⟨_, rfl, _, rfl, .inr ⟨xa, _, _, _, rfl, rfl, SqT.of h1, e1, ?_⟩⟩
        refine ⟨_, rfl, _, rfl, .inr ⟨xb, _, _, _, rfl, rfl, SqT.of h2, e2, ?_⟩⟩
        refine ⟨_, _, m, rfl, by omega, hal i _ _ (List.getElem?_eq_getElem li') (List.getElem?_eq_getElem li), _, rfl, ?_⟩
        exact ifNo rfl ⟨rfl, _, rfl⟩
      · rintro σ H2 ⟨rfl, v, rfl⟩
        exact k
theorem Gv.keep {H H' : Hp} (e : ∀ p xs, H p = some (.tup xs) → H' p = some (.tup xs)) : ∀ {us : List V} {gs : List Str}, Gv H us gs → Gv H' us gs
  | _, _, .nil => .nil
  | _, _, .cons h r => .cons (e _ _ h) (r.keep e)
theorem Gv.snoc {H : Hp} {p : Addr} {x : Str} (hp : H p = some (.tup [.str "give", .str x])) : ∀ {us : List V} {gs : List Str}, Gv H us gs → Gv H (us ++ [.ref p]) (gs ++ [x])
  | _, _, .nil => .cons hp .nil
  | _, _, .cons h r => .cons h (r.snoc hp)
theorem Gv.len {H : Hp} : ∀ {us : List V} {gs : List Str}, Gv H us gs → us.length = gs.length
  | _, _, .nil => rfl
  | _, _, .cons _ r => by rw [List.length_cons, List.length_cons, r.len]
theorem Gv.rds {H : Hp} : ∀ {us : List V} {gs : List Str}, Gv H us gs → RDs H us (gs.map Deed.give)
  | _, _, .nil => .nil
  | _, _, .cons h r => .cons (.give h) r.rds
theorem ok__law_body (T : Tx P w K mg a) : FnOk P w K mg base CX0 1 a._law_body a.fd__law_body ["_law_asks", "_law_m", "_law_letter", "_law_other"] sp__law_body := by
  refine T.F__law_body.ok sc__law_body (fun vs H Q E h => ?_) (fun cdv A outer s H vs Q E hr h => ?_)
  · obtain ⟨_, _, _, _, _, rfl, _⟩ := h
    rfl
  obtain ⟨la, m, ak, L, O, rfl, hla, few, k⟩ := h
  refine ⟨_, (pss_cons (ps_set (i := 4) sc__law_body.nd rfl (Or.inl rfl) (pe_lst pa_nil))
      (pss_cons (ps_for PassesOwn.never rfl (pi_enum rfl T.z_enumerate (pa_cons (pv 0) pa_nil)) (pg_tup rfl (pgs_cons (pg_name (i := 5) sc__law_body.nd rfl (Or.inl rfl)) (pgs_cons (pg_name (i := 6) sc__law_body.nd rfl (Or.inl rfl)) pgs_nil)))
      (pss_one (ps_if (pt_cmpR op_eq (pe_op oi_mod (pe_op oi_add (pe_op oi_fdiv (pv 1) pe_int) (pv 5)) pe_int) pe_int (nomark _)) (pss_one (ps_expr (pe_bm PySem.F.plainAttrs_list PySem.F.slot_list_append PySem.F.type_list_append mt_append (pv 4) (pa_cons (pe_tup (pa_cons pe_str (pa_cons (pv 6) pa_nil))) pa_nil)))) pss_nil)))
      (pss_cons (ps_expr (pe_bm PySem.F.plainAttrs_list PySem.F.slot_list_append PySem.F.type_list_append mt_append (pv 4) (pa_cons (pe_tup (pa_cons pe_str (pa_cons pe_int (pa_cons (pe_lst (pa_cons (pe_tup (pa_cons pe_str (pa_cons (pv 2) (pa_cons (pe_lst (pa_cons (pe_tup (pa_cons pe_str (pa_cons (pv 2) pa_nil))) pa_nil)) pa_nil)))) pa_nil)) pa_nil)))) pa_nil)))
      (pss_cons (ps_expr (pe_bm PySem.F.plainAttrs_list PySem.F.slot_list_append PySem.F.type_list_append mt_append (pv 4) (pa_cons (pe_tup (pa_cons pe_str (pa_cons (pv 2) (pa_cons (pe_lst (pa_cons (pe_tup (pa_cons pe_str (pa_cons (pv 2) (pa_cons (pv 3) (pa_cons pe_str (pa_cons (pv 3) pa_nil)))))) pa_nil)) (pa_cons (pe_lst pa_nil) pa_nil))))) pa_nil)))
      (pss_one (ps_ret (pv 4))))))), ?_⟩
  refine ⟨Nat.zero_le _, fun c hc => ⟨_, rfl, la, _, rfl, SqL.of (Same.new hc _ _ _ hla), ?_⟩⟩
  refine for_enum (K := K) (l := la) (xs := ak.map V.str) (fun i σ H3 => ∃ v5 v6, σ = [some (.ref la), some (.int m), some (.str L), some (.str O), some (.ref c), v5, v6] ∧ Same H H3 ∧ ∃ us gs, H3 c = some (.lst us) ∧ Gv H3 us gs ∧ gs.length ≤ i ∧ i ≤ ak.length ∧ ∀ x ∈ gs, x ∈ ak) ⟨_, _, rfl, Same.new hc _, [], [], upd_same, .nil, Nat.le_refl _, Nat.zero_le _, fun x h => by simp at h⟩ ?_ ?_ ?_
  · rintro i σ H3 ⟨_, _, _, s3, _⟩
    exact SqL.of (s3 _ _ hla)
  · rintro i x σ H3 p hx ⟨v5, v6, rfl, s3, us, gs, hu, hg, gl, _, hm⟩ hp
    rw [List.getElem?_map] at hx
    obtain ⟨z, hz, rfl⟩ := Option.map_eq_some_iff.mp hx
    have il : i < ak.length := (List.getElem?_eq_some_iff.mp hz).1
    have e3 := Same.new hp (.tup [.int i, .str z])
    refine ⟨p, _, rfl, SqT.of upd_same, rfl, _, _, rfl, _, _, rfl, rfl, ?_⟩
    refine ⟨_, rfl, _, _, rfl, rfl, by decide, _, rfl, _, _, rfl, rfl, _, _, rfl, rfl, by decide, rfl, _, rfl, ite2 (fun _ => ?_) (fun _ => ?_)⟩
    · have hu3 := e3 _ _ hu
      have hg3 := hg.keep fun p xs h => e3 _ _ h
      have s4 := s3.trans e3
      generalize upd H3 p (.tup [.int i, .str z]) = H4 at e3 hu3 hg3 s4 ⊢
      refine ⟨_, rfl, .inl ⟨rfl, _, SqL.of hu3⟩, _, rfl, ln2, fun t ht => ?_⟩
      have e4 := Same.new ht (.tup [.str "give", .str z])
      have ul : us.length ≤ 250 := by rw [hg.len]; omega
      refine ⟨c, _, _, rfl, rfl, e4 _ _ hu3, small1000 (by omega), ?_⟩
      have tups : ∀ p' xs, upd H4 t (.tup [.str "give", .str z]) p' = some (.tup xs) → upd (upd H4 t (.tup [.str "give", .str z])) c (.lst (us ++ [.ref t])) p' = some (.tup xs) := fun p' xs h => by
        rw [upd_ne (fun z => by rw [z, e4 _ _ hu3] at h; cases h)]
        exact h
      refine ⟨_, _, rfl, Same.over (s4.trans e4) hc, us ++ [.ref t], gs ++ [z], upd_same, Gv.snoc (tups _ _ upd_same) ((hg3.keep fun p xs h => e4 _ _ h).keep tups), by rw [List.length_append, List.length_singleton]; omega, by omega, fun y hy => ?_⟩
      rcases List.mem_append.mp hy with h | h
      · exact hm y h
      · rw [List.mem_singleton.mp h]
        exact List.mem_of_getElem? hz
    · exact ⟨_, _, rfl, s3.trans e3, us, gs, e3 _ _ hu, hg.keep fun p xs h => e3 _ _ h, by omega, by omega, hm⟩
  · rintro σ H3 ⟨v5, v6, rfl, s3, us, gs, hu, hg, gl, _, hm⟩
    have ul : us.length ≤ 250 := by rw [hg.len]; rw [List.length_map] at gl; omega
    refine ⟨_, rfl, .inl ⟨rfl, _, SqL.of hu⟩, _, rfl, _, rfl, ln2, fun t1 h1 => ⟨ln1, fun l1 g1 => ⟨ln3, fun t2 h2 => ⟨ln1, fun l2 g2 => ⟨ln3, fun t3 h3 => ?_⟩⟩⟩⟩⟩
    have a1 := Same.new h1 (.tup [.str "give", .str L])
    have b1 : upd H3 t1 (.tup [.str "give", .str L]) t1 = _ := upd_same
    generalize upd H3 t1 (.tup [.str "give", .str L]) = G1 at *
    have a2 := Same.new g1 (.lst [.ref t1])
    have b2 : upd G1 l1 (.lst [.ref t1]) l1 = _ := upd_same
    generalize upd G1 l1 (.lst [.ref t1]) = G2 at *
    have a3 := Same.new h2 (.tup [.str "while", .str L, .ref l1])
    have b3 : upd G2 t2 (.tup [.str "while", .str L, .ref l1]) t2 = _ := upd_same
    generalize upd G2 t2 (.tup [.str "while", .str L, .ref l1]) = G3 at *
    have a4 := Same.new g2 (.lst [.ref t2])
    have b4 : upd G3 l2 (.lst [.ref t2]) l2 = _ := upd_same
    generalize upd G3 l2 (.lst [.ref t2]) = G4 at *
    have a5 := Same.new h3 (.tup [.str "repeat", .int 0, .ref l2])
    have b5 : upd G4 t3 (.tup [.str "repeat", .int 0, .ref l2]) t3 = _ := upd_same
    generalize upd G4 t3 (.tup [.str "repeat", .int 0, .ref l2]) = G5 at *
    have hu5 := a5 _ _ (a4 _ _ (a3 _ _ (a2 _ _ (a1 _ _ hu))))
    refine ⟨c, _, _, rfl, rfl, hu5, small1000 (by omega), ?_⟩
    have sK : Same H3 G5 := (((a1.trans a2).trans a3).trans a4).trans a5
    have nc : ∀ {G : Hp} {x : Addr}, Same H3 G → G x = none → x ≠ c := fun q hx z => by rw [z, q _ _ hu] at hx; cases hx
    have n1 := nc (Same.refl _) h1
    have n2 := nc a1 g1
    have n3 := nc (a1.trans a2) h2
    have n4 := nc ((a1.trans a2).trans a3) g2
    have n5 := nc (((a1.trans a2).trans a3).trans a4) h3
    have u5 : Keep (fun x => x = c) G5 (upd G5 c (.lst (us ++ [.ref t3]))) := fun b o n h => by rw [upd_ne n]; exact h
    have c1 := u5 _ _ n1 (a5 _ _ (a4 _ _ (a3 _ _ (a2 _ _ b1))))
    have c2 := u5 _ _ n2 (a5 _ _ (a4 _ _ (a3 _ _ b2)))
    have c3 := u5 _ _ n3 (a5 _ _ (a4 _ _ b3))
    have c4 := u5 _ _ n4 (a5 _ _ b4)
    have c5 := u5 _ _ n5 b5
    have hg6 : Gv (upd G5 c (.lst (us ++ [.ref t3]))) us gs := hg.keep fun p xs h => u5 _ _ (fun z => by rw [z, hu] at h; cases h) (sK _ _ h)
    have hu6 : upd G5 c (.lst (us ++ [.ref t3])) c = some (.lst (us ++ [.ref t3])) := upd_same
    have s6 : Same H (upd G5 c (.lst (us ++ [.ref t3]))) := Same.over (s3.trans sK) hc
    generalize upd G5 c (.lst (us ++ [.ref t3])) = G6 at c1 c2 c3 c4 c5 hg6 hu6 s6 ⊢
    clear u5 a1 a2 a3 a4 a5 b1 b2 b3 b4 b5 g1 g2 h1 h2 h3 nc sK hu5 hg hu
    refine ⟨_, rfl, .inl ⟨rfl, _, SqL.of hu6⟩, _, rfl, _, rfl, _, rfl, _, rfl, ln5, fun t4 h4 => ⟨ln1, fun l4 g4 => ⟨Nat.zero_le _, fun l5 g5 => ⟨ln4, fun t6 h6 => ?_⟩⟩⟩⟩
    have nc : ∀ {G : Hp} {x : Addr}, Same G6 G → G x = none → x ≠ c := fun q hx z => by rw [z, q _ _ hu6] at hx; cases hx
    have a1 := Same.new h4 (.tup [.str "set", .str L, .str O, .str "*", .str O])
    have b1 : upd G6 t4 (.tup [.str "set", .str L, .str O, .str "*", .str O]) t4 = _ := upd_same
    generalize upd G6 t4 (.tup [.str "set", .str L, .str O, .str "*", .str O]) = G7 at *
    have a2 := Same.new g4 (.lst [.ref t4])
    have b2 : upd G7 l4 (.lst [.ref t4]) l4 = _ := upd_same
    generalize upd G7 l4 (.lst [.ref t4]) = G8 at *
    have a3 := Same.new g5 (.lst [])
    have b3 : upd G8 l5 (.lst []) l5 = _ := upd_same
    generalize upd G8 l5 (.lst []) = G9 at *
    have a4 := Same.new h6 (.tup [.str "if", .str L, .ref l4, .ref l5])
    have b4 : upd G9 t6 (.tup [.str "if", .str L, .ref l4, .ref l5]) t6 = _ := upd_same
    generalize upd G9 t6 (.tup [.str "if", .str L, .ref l4, .ref l5]) = G10 at *
    have sL : Same G6 G10 := ((a1.trans a2).trans a3).trans a4
    have m1 := nc (Same.refl _) h4
    have m2 := nc a1 g4
    have m3 := nc (a1.trans a2) g5
    have m4 := nc ((a1.trans a2).trans a3) h6
    refine ⟨c, _, _, rfl, rfl, sL _ _ hu6, small1000 (by rw [List.length_append, List.length_singleton]; omega), _, rfl, ?_⟩
    have u : Keep (fun x => x = c) G10 (upd G10 c (.lst (us ++ [.ref t3] ++ [.ref t6]))) := fun b o n h => by rw [upd_ne n]; exact h
    have uL : ∀ b o, b ≠ c → G6 b = some o → upd G10 c (.lst (us ++ [.ref t3] ++ [.ref t6])) b = some o := fun b o n h => u b o n (sL _ _ h)
    have hg7 : Gv (upd G10 c (.lst (us ++ [.ref t3] ++ [.ref t6]))) us gs := hg6.keep fun p xs h => uL _ _ (fun z => by rw [z, hu6] at h; cases h) h
    refine k _ c gs (Same.over (s6.trans sL) hc) hc hm (by rw [List.length_map] at gl; exact gl) (.mk upd_same ?_)
    have fin := hg7.rds.app (.cons (.rep (uL _ _ n5 c5) (.mk (uL _ _ n4 c4) (.cons (.whl (uL _ _ n3 c3) (.mk (uL _ _ n2 c2) (.cons (.give (uL _ _ n1 c1)) .nil))) .nil))) (.cons (.cond (u _ _ m4 b4) (.mk (u _ _ m2 (a4 _ _ (a3 _ _ b2))) (.cons (.set (a := .nm O) (b := .nm O) (u _ _ m1 (a4 _ _ (a3 _ _ (a2 _ _ b1))))) .nil)) (.mk (u _ _ m3 (a4 _ _ b3)) .nil)) .nil))
    have ea : us ++ [V.ref t3, V.ref t6] = us ++ [V.ref t3] ++ [V.ref t6] := by rw [List.append_assoc]; rfl
    exact ea ▸ fin
theorem fold_low (c : Array Nat) (hc : ∀ x ∈ c.toList, x < 128) : ∀ (k : Nat) (acc : Array Nat), (∀ x ∈ acc.toList, x < 128) → ∀ x ∈ ((List.replicate k c).foldl (· ++ ·) acc).toList, x < 128
  | 0, acc, h => h
  | k + 1, acc, h => by
    rw [List.replicate_succ, List.foldl_cons]
    refine fold_low c hc k _ fun x hx => ?_
    rw [Array.toList_append, List.mem_append] at hx
    exact hx.elim (h x) (hc x)
theorem low_mul {z : Str} (h : Low z) (n : Int) : Low (Txt.mul z n) := by
  unfold Txt.mul
  split
  · intro c hc
    simp [Str.empty] at hc
  · split
    · exact h
    · exact fold_low z.cps h _ _ (by simp)
theorem low_one {c : Nat} (h : c < 128) : Low ⟨#[c]⟩ := fun x hx => by
  simp at hx
  omega
theorem nmM_inj {bt : Str} {fl : Bool} {p q p' q' : Nat} (h : nmM bt fl p q = nmM bt fl p' q') : p = p' ∧ q = q' := by
  have app : ∀ x y : Nat, Tr.sl (⟨#[x]⟩ ++ bt ++ ⟨#[y]⟩) = [x] ++ Tr.sl bt ++ [y] := fun x y => by rw [Tr.sl_app, Tr.sl_app]
  have inj : ∀ {x y x' y' : Nat}, (⟨#[x]⟩ ++ bt ++ ⟨#[y]⟩ : Str) = ⟨#[x']⟩ ++ bt ++ ⟨#[y']⟩ → x = x' ∧ y = y' := fun {x y x' y'} e => by
    have e2 := (app x y).symm.trans ((congrArg Tr.sl e).trans (app x' y'))
    rw [List.append_assoc, List.append_assoc] at e2
    injection e2 with e3 e4
    have e5 := List.append_cancel_left e4
    exact ⟨e3, by simpa using e5⟩
  cases fl
  · have := inj (x := q) (y := p) (x' := q') (y' := p') h
    exact ⟨this.2, this.1⟩
  · exact inj h
theorem nmM_low {bt : Str} {fl : Bool} {p q : Nat} (hb : Low bt) (hp : Low ⟨#[p]⟩) (hq : Low ⟨#[q]⟩) : Low (nmM bt fl p q) := by
  unfold nmM
  split
  · exact (hp.app hb).app hq
  · exact (hq.app hb).app hp
theorem nmM_len {bt : Str} {fl : Bool} {p q : Nat} : (nmM bt fl p q).length = bt.length + 2 := by
  unfold nmM
  split <;> (rw [str_len_append, str_len_append]; show 1 + _ + 1 = _; omega)
theorem names_apart {u v : Int} {i k : Nat} (hi : i < 250) (hk : k < i) (x1 : 97 + ((u + 5 * (0 + (i : Int))) % 26).toNat = 97 + ((u + 5 * (0 + (k : Int))) % 26).toNat) (x2 : 97 + ((v + (0 + (i : Int)) / 26) % 26).toNat = 97 + ((v + (0 + (k : Int)) / 26) % 26).toNat) : False := by
  have a1 : (u + 5 * (0 + (i : Int))) % 26 = (u + 5 * (0 + (k : Int))) % 26 := by omega
  have a2 : (v + (0 + (i : Int)) / 26) % 26 = (v + (0 + (k : Int)) / 26) % 26 := by omega
  clear x1 x2
  have a3 : ((i : Int) - k) % 26 = 0 := by omega
  have a4 : (0 + (i : Int)) / 26 = (0 + (k : Int)) / 26 := by
    have h1 : 0 ≤ (0 + (i : Int)) / 26 ∧ (0 + (i : Int)) / 26 < 10 := by omega
    have h2 : 0 ≤ (0 + (k : Int)) / 26 ∧ (0 + (k : Int)) / 26 < 10 := by omega
    generalize (0 + (i : Int)) / 26 = x at *
    generalize (0 + (k : Int)) / 26 = y at *
    omega
  clear a1 a2
  omega
theorem al26 : ∀ j : Fin 26, atI ("abcdefghijklmnopqrstuvwxyz" : Str).cps.toList ((j.val : Nat) : Int) = some (97 + j.val) ∧ 97 + j.val < 128 := by decide +kernel
theorem lt26 (i : Int) : atI ("abcdefghijklmnopqrstuvwxyz" : Str).cps.toList (i % 26) = some (97 + (i % 26).toNat) ∧ Low ⟨#[97 + (i % 26).toNat]⟩ := by
  have h := al26 ⟨(i % 26).toNat, by omega⟩
  have e : (((i % 26).toNat : Nat) : Int) = i % 26 := Int.toNat_of_nonneg (Int.emod_nonneg _ (by decide))
  rw [show (((⟨(i % 26).toNat, by omega⟩ : Fin 26).val : Nat) : Int) = i % 26 from e] at h
  exact ⟨h.1, low_one h.2⟩
theorem bt4 : ∀ j : Fin 4, ∃ c, atI ("bqzx" : Str).cps.toList ((j.val : Nat) : Int) = some c ∧ c < 128 := fun j => match j with
  | 0 => ⟨98, by decide +kernel⟩
  | 1 => ⟨113, by decide +kernel⟩
  | 2 => ⟨122, by decide +kernel⟩
  | 3 => ⟨120, by decide +kernel⟩
theorem ok__law_many (T : Tx P w K mg a) : FnOk P w K mg base CX0 2 a._law_many a.fd__law_many ["_law_cell_here", "_law_many_here"] sp__law_many := by
  refine T.F__law_many.ok sc__law_many (fun vs H Q E h => ?_) (fun cdv A outer s H vs Q E hr h => ?_)
  · obtain ⟨_, _, rfl, _⟩ := h
    rfl
  obtain ⟨c, n, rfl, hn0, hn1, q⟩ := h
  refine ⟨_, (pss_cons (ps_set (i := 2) sc__law_many.nd rfl (Or.inl rfl) pe_str)
      (pss_cons (ps_set (i := 3) sc__law_many.nd rfl (Or.inl rfl) (pe_call (ok__law_mixed T) (hr.mono (by decide)) rfl T.m__law_mixed T.F__law_mixed.kp T.b__law_mixed .nil pass0 (pa_cons (pv 0) (pa_cons pe_int pa_nil))))
      (pss_cons (ps_set (i := 4) sc__law_many.nd rfl (Or.inl rfl) (pe_op op_mul_str (pe_ix ix_str pe_str (pe_op oi_mod (pv 3) pe_int) (fun _ _ => rfl)) (pe_op oi_add pe_int (pe_op oi_mod (pe_op oi_fdiv (pv 3) pe_int) pe_int))))
      (pss_cons (ps_set (i := 5) sc__law_many.nd rfl (Or.inl rfl) (pe_lst pa_nil))
      (pss_cons (ps_for PassesOwn.never rfl (pi_range1 rfl T.z_range (pa_cons (pv 1) pa_nil)) (pg_name (i := 6) sc__law_many.nd rfl (Or.inl rfl))
      (pss_cons (ps_set (i := 7) sc__law_many.nd rfl (Or.inl rfl) (pe_ix ix_str (pv 2) (pe_op oi_mod (pe_op oi_add (pe_op oi_fdiv (pv 3) pe_int) (pe_op oi_mul pe_int (pv 6))) pe_int) (fun _ _ => rfl)))
      (pss_cons (ps_set (i := 8) sc__law_many.nd rfl (Or.inl rfl) (pe_ix ix_str (pv 2) (pe_op oi_mod (pe_op oi_add (pe_op oi_fdiv (pv 3) pe_int) (pe_op oi_fdiv (pv 6) pe_int)) pe_int) (fun _ _ => rfl)))
      (pss_one (ps_if (pt_cmpR op_eq (pe_op oi_mod (pe_op oi_fdiv (pv 3) pe_int) pe_int) pe_int (nomark _)) (pss_one (ps_expr (pe_bm PySem.F.plainAttrs_list PySem.F.slot_list_append PySem.F.type_list_append mt_append (pv 5) (pa_cons (pe_op op_add_str (pe_op op_add_str (pv 7) (pv 4)) (pv 8)) pa_nil)))) (pss_one (ps_expr (pe_bm PySem.F.plainAttrs_list PySem.F.slot_list_append PySem.F.type_list_append mt_append (pv 5) (pa_cons (pe_op op_add_str (pe_op op_add_str (pv 8) (pv 4)) (pv 7)) pa_nil)))))))))
      (pss_one (ps_ret (pv 5)))))))), ?_⟩
  refine ⟨_, rfl, _, _, rfl, ⟨by omega, by omega⟩, fun m m0 m1 => ?_⟩
  obtain ⟨c1, e1, w1⟩ := bt4 ⟨(m % 4).toNat, by omega⟩
  rw [show (((⟨(m % 4).toNat, by omega⟩ : Fin 4).val : Nat) : Int) = m % 4 from Int.toNat_of_nonneg (Int.emod_nonneg _ (by decide))] at e1
  refine ⟨_, rfl, _, _, rfl, rfl, by decide, _, _, c1, rfl, rfl, by decide +kernel, e1, _, rfl, _, _, rfl, rfl, ⟨by decide, by decide⟩, _, _, rfl, rfl, by decide, _, _, rfl, rfl, _, _, rfl, rfl, mul_ok (by show 1 ≤ 1000; decide) (by omega) (by omega), ?_⟩
  have bl : (Txt.mul ⟨#[c1]⟩ (1 + m / 4 % 6)).length = (1 + m / 4 % 6).toNat := by
    rw [mul_len _ (by omega)]
    show 1 * _ = _
    omega
  have bw := low_mul (low_one w1) (1 + m / 4 % 6)
  generalize Txt.mul ⟨#[c1]⟩ (1 + m / 4 % 6) = bt at bl bw ⊢
  have b1 : 1 ≤ bt.length ∧ bt.length ≤ 6 := by omega
  refine ⟨Nat.zero_le _, fun lo hlo => ?_⟩
  refine ⟨_, rfl, n, rfl, by omega, by omega, for_range (fun i σ H2 => ∃ (v6 v7 v8 : Option V) (zs : List Str), σ = [some (.int c), some (.int n), some (.str "abcdefghijklmnopqrstuvwxyz"), some (.int m), some (.str bt), some (.ref lo), v6, v7, v8] ∧ Same H H2 ∧ H2 lo = some (.lst (zs.map V.str)) ∧ zs.length = i ∧ zs.Nodup ∧ ∀ z ∈ zs, ∃ k : Nat, k < i ∧ z = nmM bt (decide (m / 16224 % 2 = 0)) (97 + ((m / 24 + 5 * (0 + (k : Int))) % 26).toNat) (97 + ((m / 624 + (0 + (k : Int)) / 26) % 26).toNat)) ⟨_, _, _, [], rfl, Same.new hlo _, upd_same, rfl, List.nodup_nil, fun z h => by simp at h⟩ ?_ ?_⟩
  · rintro i σ H2 hi ⟨v6, v7, v8, zs, rfl, h2, h3, hz, nd, hw⟩
    obtain ⟨e2, w2⟩ := lt26 (m / 24 + 5 * (0 + (i : Int)))
    obtain ⟨e3, w3⟩ := lt26 (m / 624 + (0 + (i : Int)) / 26)
    refine ⟨_, rfl, _, rfl, _, _, rfl, rfl, ⟨by decide, by decide⟩, _, rfl, _, _, rfl, rfl, IntMulOk.of_right (intBits_le_64 (by omega) (by omega)), _, _, rfl, rfl, _, _, rfl, rfl, by decide, _, _, _, rfl, rfl, by decide +kernel, e2, ?_⟩
    refine ⟨_, rfl, _, rfl, _, _, rfl, rfl, ⟨by decide, by decide⟩, _, rfl, _, _, rfl, rfl, ⟨by decide, by decide⟩, _, _, rfl, rfl, _, _, rfl, rfl, by decide, _, _, _, rfl, rfl, by decide +kernel, e3, ?_⟩
    have app : ∀ nm : Str, nm = nmM bt (decide (m / 16224 % 2 = 0)) (97 + ((m / 24 + 5 * (0 + (i : Int))) % 26).toNat) (97 + ((m / 624 + (0 + (i : Int)) / 26) % 26).toNat) → ∃ zs' : List Str, zs.map V.str ++ [V.str nm] = zs'.map V.str ∧ zs'.length = i + 1 ∧ zs'.Nodup ∧ ∀ z ∈ zs', ∃ k : Nat, k < i + 1 ∧ z = nmM bt (decide (m / 16224 % 2 = 0)) (97 + ((m / 24 + 5 * (0 + (k : Int))) % 26).toNat) (97 + ((m / 624 + (0 + (k : Int)) / 26) % 26).toNat) := fun nm en => by
      refine ⟨zs ++ [nm], by rw [List.map_append]; rfl, by rw [List.length_append, hz]; rfl, nd_snoc nd fun hm => ?_, fun z hz => ?_⟩
      · obtain ⟨k, hk, ek⟩ := hw _ hm
        obtain ⟨x1, x2⟩ := nmM_inj (en.symm.trans ek)
        exact names_apart (by omega) hk x1 x2
      · rcases List.mem_append.mp hz with z1 | z1
        · obtain ⟨k, hk, ek⟩ := hw _ z1
          exact ⟨k, by omega, ek⟩
        · rw [List.mem_singleton.mp z1]
          exact ⟨i, by omega, en⟩
    refine ⟨_, rfl, _, _, rfl, rfl, ⟨by decide, by decide⟩, _, _, rfl, rfl, by decide, rfl, _, rfl, ite2 (fun hd => ?_) (fun hd => ?_)⟩
    · refine ⟨_, rfl, .inl ⟨rfl, _, SqL.of h3⟩, _, rfl, _, rfl, _, _, rfl, rfl, len_le_line (m := 1000) (by show 1 + _ ≤ 1000; omega), _, rfl, _, _, rfl, rfl, len_le_line (m := 1000) (by rw [str_len_append]; show 1 + _ + 1 ≤ 1000; omega), lo, _, _, rfl, rfl, h3, len_le_line (m := 1000) (by rw [List.length_map]; omega), ?_⟩
      rw [dec_int] at hd
      have hd' : m / 16224 % 2 = 0 := by simpa using hd
      obtain ⟨zs', ez, lz⟩ := app _ (by unfold nmM; rw [if_pos (decide_eq_true hd')])
      exact ⟨_, _, _, zs', rfl, Same.over h2 hlo, by rw [upd_same]; exact congrArg (fun z => some (HO.lst z)) ez, lz⟩
    · refine ⟨_, rfl, .inl ⟨rfl, _, SqL.of h3⟩, _, rfl, _, rfl, _, _, rfl, rfl, len_le_line (m := 1000) (by show 1 + _ ≤ 1000; omega), _, rfl, _, _, rfl, rfl, len_le_line (m := 1000) (by rw [str_len_append]; show 1 + _ + 1 ≤ 1000; omega), lo, _, _, rfl, rfl, h3, len_le_line (m := 1000) (by rw [List.length_map]; omega), ?_⟩
      rw [dec_int] at hd
      have hd' : ¬ m / 16224 % 2 = 0 := by simpa using hd
      obtain ⟨zs', ez, lz⟩ := app _ (by unfold nmM; rw [if_neg (fun h => hd' (of_decide_eq_true h))])
      exact ⟨_, _, _, zs', rfl, Same.over h2 hlo, by rw [upd_same]; exact congrArg (fun z => some (HO.lst z)) ez, lz⟩
  · rintro σ H2 ⟨v6, v7, v8, zs, rfl, h2, h3, hz, nd, hw⟩
    refine ⟨_, rfl, q H2 lo zs h2 hlo h3 (by omega) nd fun z hz => ?_⟩
    obtain ⟨k, _, rfl⟩ := hw z hz
    refine ⟨nmM_low bw (lt26 _).2 (lt26 _).2, ?_⟩
    rw [nmM_len]
    omega
theorem cut_some (xs : List Int) (lo hi : Option Int) : ∃ ys : List Int, cutV (xs.map V.int) lo hi = ys.map V.int ∧ ys.length ≤ xs.length := by
  unfold cutV
  refine ⟨(xs.drop _).take _, by rw [← List.map_drop, ← List.map_take], ?_⟩
  rw [List.length_take, List.length_drop]
  omega
theorem pick5 (x : Str) (h : x = "kmpvw" ∨ x = "ahtyz") (i : Int) (i0 : 0 ≤ i) (i5 : i < 5) : ∃ c, atI x.cps.toList i = some c ∧ c < 128 ∧ (x = "kmpvw" → c ∈ [107, 109, 112, 118, 119]) ∧ (x = "ahtyz" → c ∈ [97, 104, 116, 121, 122]) := by
  have k1 : ("kmpvw" : Str).cps.toList = [107, 109, 112, 118, 119] := by decide +kernel
  have k2 : ("ahtyz" : Str).cps.toList = [97, 104, 116, 121, 122] := by decide +kernel
  have ne : ("kmpvw" : Str) ≠ "ahtyz" := by decide +kernel
  rcases h with rfl | rfl
  · rw [k1]
    obtain ⟨c, hc, hm⟩ := atI_ex (xs := [107, 109, 112, 118, 119]) i0 i5
    exact ⟨c, hc, by simp at hm; omega, fun _ => hm, fun e => absurd e ne⟩
  · rw [k2]
    obtain ⟨c, hc, hm⟩ := atI_ex (xs := [97, 104, 116, 121, 122]) i0 i5
    exact ⟨c, hc, by simp at hm; omega, fun e => absurd e.symm ne, fun _ => hm⟩
theorem gv_depths : ∀ gs : List Str, depths (gs.map Deed.give) = 0
  | [] => rfl
  | g :: gs => by rw [List.map_cons, depths, gv_depths gs]; rfl
theorem gv_flats : ∀ gs : List Str, flats (gs.map Deed.give) = gs.map Deed.give
  | [] => rfl
  | g :: gs => by rw [List.map_cons, flats, gv_flats gs]; rfl
theorem gv_outs (f : Env') : ∀ gs : List Str, (gs.map Deed.give).flatMap (outs15 f) = gs.map f
  | [] => rfl
  | g :: gs => by rw [List.map_cons, List.flatMap_cons, gv_outs f gs]; rfl
theorem gv_names : ∀ gs : List Str, (gs.map Deed.give).flatMap Deed.names = gs
  | [] => rfl
  | g :: gs => by rw [List.map_cons, List.flatMap_cons, gv_names gs]; rfl
theorem tl_flats (L O : Str) : flats (tail15 L O) = [.rep 0 [.whl L [.give L]], .whl L [.give L], .give L, .cond L [.set L (.nm O) "*" (.nm O)] [], .set L (.nm O) "*" (.nm O)] := rfl
theorem tl_depths (L O : Str) : depths (tail15 L O) = 2 := rfl
theorem begE_out {x : Str} : ∀ {ps : List (Str × Int)}, x ∉ ps.map (·.1) → ∀ f : Env', f x = 0 → ps.foldl (fun f p => setE f p.1 (p.2 % 1000000000000000000000000000000)) f x = 0
  | [], _, f, h => h
  | p :: ps, hx, f, h => by
    rw [List.map_cons, List.mem_cons, not_or] at hx
    rw [List.foldl_cons]
    refine begE_out hx.2 _ ?_
    unfold setE
    rw [if_neg hx.1]
    exact h
theorem zip_fst : ∀ {ak : List Str} {ns : List Int} {x : Str}, x ∈ (ak.zip ns).map (·.1) → x ∈ ak
  | [], _, _, h => by simp at h
  | _ :: _, [], _, h => by simp at h
  | a :: ak, n :: ns, x, h => by
    rw [List.zip_cons_cons, List.map_cons, List.mem_cons] at h
    exact List.mem_cons.mpr (h.imp id zip_fst)
theorem begE_no {ak : List Str} {ns : List Int} {x : Str} (h : x ∉ ak) : begE (ak.zip ns) x = 0 := begE_out (fun z => h (zip_fst z)) _ rfl
theorem lay_ints : ∀ xs : List Int, PyData.canLayAll0 (xs.map PyData.int) = true ∧ PyData.depthAll (xs.map PyData.int) ≤ 1
  | [] => by simp [PyData.canLayAll0, PyData.depthAll]
  | x :: r => by
    obtain ⟨h1, h2⟩ := lay_ints r
    simp [PyData.canLayAll0, PyData.depthAll, PyData.canLay0, PyData.depth, h1]
    omega
theorem ints_dt {K : PySem.W.Frag} {H : Hp} : ∀ xs : List Int, DtAll K H (xs.map V.int) (xs.map PyData.int)
  | [] => .nil
  | x :: r => .cons (.int _) (ints_dt r)
theorem shaped_handed {D : List Str} {asks : List Str} {ds : List Deed} (es : List Int) (hD : ∀ s ∈ D, PyData.strOk s = true) (ha : ∀ s ∈ asks, PyData.strOk s = true) (h : Texts D ds) (hd : depths ds ≤ 10) : SeqAt.shaped (.list [progD asks [] ds, .list (es.map PyData.int)]) = true := by
  have h1 := lay_deeds hD ds h
  have h2 := depth_deeds ds
  obtain ⟨h3, h4⟩ := lay_strs asks ha
  obtain ⟨h7, h8⟩ := lay_ints es
  unfold SeqAt.shaped progD
  simp [PyData.canLay0, PyData.canLayAll0, PyData.depth, PyData.depthAll, h1, h3, h7]
  omega
theorem zip_step1 : ∀ {ak : List Str} {es : List Int} {i : Nat} {z : Str} {e : Int}, ak[i]? = some z → es[i]? = some e → (ak.take (i + 1)).zip es = (ak.take i).zip es ++ [(z, e)]
  | [], _, _, _, _, h, _ => by simp at h
  | _ :: _, [], _, _, _, _, h => by simp at h
  | a :: ak, e :: es, 0, _, _, h1, h2 => by
    simp at h1 h2
    subst h1 h2
    simp
  | a :: ak, e :: es, i + 1, _, _, h1, h2 => by
    rw [List.take_succ_cons, List.take_succ_cons, List.zip_cons_cons, List.zip_cons_cons, zip_step1 (by simpa using h1) (by simpa using h2)]
    rfl
theorem zip_step2 : ∀ {ak : List Str} {es : List Int} {i : Nat}, es.length ≤ i → (ak.take (i + 1)).zip es = (ak.take i).zip es
  | [], _, _, _ => by simp
  | _ :: _, [], _, _ => by simp
  | a :: ak, e :: es, 0, h => by simp at h
  | a :: ak, e :: es, i + 1, h => by
    rw [List.take_succ_cons, List.take_succ_cons, List.zip_cons_cons, List.zip_cons_cons, zip_step2 (by simpa using h)]
theorem Prs.same {H H' : Hp} (e : Same H H') {l : Addr} {zs : List Str} {f : Env'} (h : Prs H l zs f) : Prs H' l zs f := by
  obtain ⟨ts, h1, h2, h3⟩ := h
  exact ⟨ts, e _ _ h1, h2, fun j t z a b => e _ _ (h3 j t z a b)⟩
theorem Prs.alike {H : Hp} {n : Nat} {l l' : Addr} {zs : List Str} {f : Env'} (h : Prs H l zs f) (h' : Prs H l' zs f) (few : zs.length ≤ 3000) : AlB H (n + 2) (.ref l) (.ref l') := by
  obtain ⟨ts, h1, h2, h3⟩ := h
  obtain ⟨ts', g1, g2, g3⟩ := h'
  refine .lst h1 g1 (by rw [List.length_map, List.length_map]; omega) (by rw [List.length_map]; omega) fun i x y hx hy => ?_
  rw [List.getElem?_map] at hx hy
  obtain ⟨t, ht, rfl⟩ := Option.map_eq_some_iff.mp hx
  obtain ⟨t', ht', rfl⟩ := Option.map_eq_some_iff.mp hy
  have il : i < zs.length := by
    have := (List.getElem?_eq_some_iff.mp ht).1
    omega
  refine .tup (h3 i t _ ht (List.getElem?_eq_getElem il)) (g3 i t' _ ht' (List.getElem?_eq_getElem il)) rfl (by show 2 ≤ 10000; decide) fun j x y hx hy => ?_
  rcases j with _ | _ | j
  · simp at hx hy
    subst hx hy
    exact .str _ _
  · simp at hx hy
    subst hx hy
    exact .int _ _
  · simp at hx
theorem due_alike {H : Hp} {t lo lf ll t' lo' lf' ll' : Addr} {n : Int} {zs : List Str} {f : Env'} {o : List Int} (h1 : H t = some (.tup [.bl true, .int n, .ref lo, .ref lf, .ref ll])) (h2 : H lo = some (.lst (o.map V.int))) (h4 : Prs H lf zs f) (h3 : H ll = some (.lst []))
    (g1 : H t' = some (.tup [.bl true, .int n, .ref lo', .ref lf', .ref ll'])) (g2 : H lo' = some (.lst (o.map V.int))) (g4 : Prs H lf' zs f) (g3 : H ll' = some (.lst [])) (few : zs.length ≤ 3000) (ol : o.length ≤ 1000) : AlB H 4 (.ref t) (.ref t') := by
  refine .tup h1 g1 rfl (by show 5 ≤ 10000; decide) fun i x y hx hy => ?_
  rcases i with _ | _ | _ | _ | _ | i
  · simp at hx hy
    subst hx hy
    exact .bl _ _
  · simp at hx hy
    subst hx hy
    exact .int _ _
  · simp at hx hy
    subst hx hy
    exact .lst h2 g2 rfl (by rw [List.length_map]; omega) (AlB.ints _)
  · simp at hx hy
    subst hx hy
    exact h4.alike (n := 1) g4 few
  · simp at hx hy
    subst hx hy
    exact .lst h3 g3 rfl (by show 0 ≤ 10000; decide) fun i x y hx hy => by simp at hx
  · simp at hx
theorem nodup_take : ∀ {ak : List Str} {i : Nat} {z : Str}, ak[i]? = some z → ak.Nodup → z ∉ ak.take i
  | [], _, _, h, _ => by simp at h
  | a :: ak, 0, _, _, _ => by simp
  | a :: ak, i + 1, z, h, nd => by
    rw [List.nodup_cons] at nd
    rw [List.take_succ_cons, List.mem_cons, not_or]
    have h' : ak[i]? = some z := by simpa using h
    refine ⟨fun e => nd.1 ?_, nodup_take h' nd.2⟩
    rw [← e]
    exact List.mem_of_getElem? h'
theorem p40 : (10 : Int) ^ (40 : Int).toNat = 10000000000000000000000000000000000000000 := by decide +kernel
theorem ok_law (T : Tx P w K mg a) : FnOk P w K mg base CX0 20 a.law a.fd_law ["_law_script"] (sp_law K) := by
  refine T.F_law.ok sc_law (fun vs H Q E h => ?_) (fun cdv A outer s H vs Q E hr h => ?_)
  · obtain ⟨_, _, rfl, _⟩ := h
    rfl
  obtain ⟨sa, ns, rfl, hS, hl63, hbits, only, k⟩ := h
  refine ⟨_, (pss_cons (ps_set (i := 1) sc_law.nd rfl (Or.inl rfl) (pe_call (ok__law_mixed T) (hr.mono (by decide)) rfl T.m__law_mixed T.F__law_mixed.kp T.b__law_mixed .nil pass0 (pa_cons (pe_call (ok__law_cell T) (hr.mono (by decide)) rfl T.m__law_cell T.F__law_cell.kp T.b__law_cell .nil pass0 (pa_cons (pv 0) (pa_cons pe_int pa_nil))) (pa_cons pe_int pa_nil))))
      (pss_cons (ps_set (i := 2) sc_law.nd rfl (Or.inr rfl) (pe_op oi_pow pe_int pe_int))
      (pss_cons (ps_setcomp (i := 3) sc_law.nd rfl (Or.inl rfl) (k := 1) (Nc := ["_law_cell_here", "_law_great"]) (js := [2]) (show CompSc (defScope s_law) ["_law_script", "_law_m", "_law_great", "_law_numbers", "_law_many_here", "_law_asks", "_law_letter", "_law_other", "_law_body_here", "_law_handed", "_law_found", "_law_worth", "_law_k", "_law_name", "_law_outs", "_law_finals"] _ 1 ["_law_cell_here", "_law_great"] [2] from CompSc.mk rfl (by decide +kernel) (by decide +kernel) (by decide +kernel) rfl (by decide +kernel)) rfl (pi_list (pe_slice sl_list (pv 0) (po_some pe_int) (po_some pe_int))) (fun _ _ _ _ _ => (pg_name (i := 0) (show List.Nodup (["_law_cell_here", "_law_great"] : List Str) from by decide +kernel) rfl (Or.inl rfl))) (fun _ _ _ _ _ => pts_nil) (fun _ _ _ _ _ => (pe_op oi_sub (pe_op oi_mod (pv 0) (pe_op oi_mul (pv 1) (pv 1))) (pe_op oi_fdiv (pe_op oi_mul (pv 1) (pv 1)) pe_int))))
      (pss_cons (ps_if (pt_cmpR op_eq (pe_op oi_mod (pv 1) pe_int) pe_int (nomark _)) (pss_one (ps_setcomp (i := 3) sc_law.nd rfl (Or.inl rfl) (k := 1) (Nc := ["_law_cell_here"]) (js := []) (show CompSc (defScope s_law) ["_law_script", "_law_m", "_law_great", "_law_numbers", "_law_many_here", "_law_asks", "_law_letter", "_law_other", "_law_body_here", "_law_handed", "_law_found", "_law_worth", "_law_k", "_law_name", "_law_outs", "_law_finals"] _ 1 ["_law_cell_here"] [] from CompSc.mk rfl (by decide +kernel) (by decide +kernel) (by decide +kernel) rfl (by decide +kernel)) rfl (pi_list (pe_slice sl_list (pv 0) (po_some pe_int) (po_some pe_int))) (fun _ _ _ _ _ => (pg_name (i := 0) (show List.Nodup (["_law_cell_here"] : List Str) from by decide +kernel) rfl (Or.inl rfl))) (fun _ _ _ _ _ => pts_nil) (fun _ _ _ _ _ => (pe_op oi_sub (pe_op oi_mod (pv 0) pe_int) pe_int)))) pss_nil)
      (pss_cons (ps_set (i := 4) sc_law.nd rfl (Or.inl rfl) (pe_op oi_sub (pe_op oi_add (pe_callB call_len_seq rfl T.z_len PySem.boot_len (pa_cons (pv 3) pa_nil)) pe_int) (pe_op oi_mod (pe_op oi_fdiv (pv 1) pe_int) pe_int)))
      (pss_cons (ps_set (i := 5) sc_law.nd rfl (Or.inl rfl) (pe_call (ok__law_many T) (hr.mono (by decide)) rfl T.m__law_many T.F__law_many.kp T.b__law_many .nil pass0 (pa_cons (pe_call (ok__law_cell T) (hr.mono (by decide)) rfl T.m__law_cell T.F__law_cell.kp T.b__law_cell .nil pass0 (pa_cons (pv 0) (pa_cons pe_int pa_nil))) (pa_cons (pe_callB (call_max2 rfl) rfl T.z_max PyProof.Rows.Boot.«max» (pa_cons pe_int (pa_cons (pv 4) pa_nil))) pa_nil))))
      (pss_cons (ps_set (i := 6) sc_law.nd rfl (Or.inl rfl) (pe_ix ix_str pe_str (pe_op oi_mod (pe_op oi_fdiv (pv 1) pe_int) pe_int) (fun _ _ => rfl)))
      (pss_cons (ps_set (i := 7) sc_law.nd rfl (Or.inl rfl) (pe_ix ix_str pe_str (pe_op oi_mod (pe_op oi_fdiv (pv 1) pe_int) pe_int) (fun _ _ => rfl)))
      (pss_cons (ps_set (i := 8) sc_law.nd rfl (Or.inl rfl) (pe_call (ok__law_body T) (hr.mono (by decide)) rfl T.m__law_body T.F__law_body.kp T.b__law_body .nil pass0 (pa_cons (pv 5) (pa_cons (pv 1) (pa_cons (pv 6) (pa_cons (pv 7) pa_nil))))))
      (pss_cons (ps_set (i := 9) sc_law.nd rfl (Or.inl rfl) (pe_lst (pa_cons (pe_tup (pa_cons (pe_callTy call_list_of rfl T.z_list PyProof.Rows.Boot.«list» (pa_cons (pv 5) pa_nil)) (pa_cons (pe_lst pa_nil) (pa_cons (pe_callTy call_list_of rfl T.z_list PyProof.Rows.Boot.«list» (pa_cons (pv 8) pa_nil)) pa_nil)))) (pa_cons (pe_callTy call_list_of rfl T.z_list PyProof.Rows.Boot.«list» (pa_cons (pv 3) pa_nil)) pa_nil))))
      (pss_cons (ps_set (i := 10) sc_law.nd rfl (Or.inl rfl) (pe_call (ok_run T) (hr.mono (by decide)) rfl T.m_run T.F_run.kp T.bd_run (show Vals [.int 5000] [.int 5000 a.dv_run] from .cons ⟨_, rfl⟩ .nil) pass0 (pa_cons (pe_ix ix_list (pv 9) pe_int (fun _ _ => rfl)) (pa_cons (pe_ix ix_list (pv 9) pe_int (fun _ _ => rfl)) pa_nil))))
      (pss_cons (ps_if (pt_cmpR (op_neD hr.units) (pv 9) (pe_lst (pa_cons (pe_tup (pa_cons (pv 5) (pa_cons (pe_lst pa_nil) (pa_cons (pv 8) pa_nil)))) (pa_cons (pv 3) pa_nil))) (nomark _)) (pss_one (ps_ret pe_bl)) pss_nil)
      (pss_cons (ps_set (i := 11) sc_law.nd rfl (Or.inr rfl) (pe_disp (pps_cons (pv 6) pe_int (pps_cons (pv 7) pe_int pps_nil)) rfl rfl (List.cons_ne_nil _ _) (by decide)))
      (pss_cons (ps_for PassesOwn.never rfl (pi_enum rfl T.z_enumerate (pa_cons (pv 5) pa_nil)) (pg_tup rfl (pgs_cons (pg_name (i := 12) sc_law.nd rfl (Or.inl rfl)) (pgs_cons (pg_name (i := 13) sc_law.nd rfl (Or.inl rfl)) pgs_nil)))
      (pss_one (ps_dput (hr.one) (pv 11) (pv 13) (pe_ifExp (pt_cmpR oi_lt (pv 12) (pe_callB call_len_seq rfl T.z_len PySem.boot_len (pa_cons (pv 3) pa_nil)) (nomark _)) (pe_op oi_mod (pe_ix ix_list (pv 3) (pv 12) (fun _ _ => rfl)) (pe_op oi_pow pe_int pe_int)) pe_int) rfl)))
      (pss_cons (ps_setcomp (i := 14) sc_law.nd rfl (Or.inl rfl) (k := 1) (Nc := ["_law_deed", "_law_worth"]) (js := [11]) (show CompSc (defScope s_law) ["_law_script", "_law_m", "_law_great", "_law_numbers", "_law_many_here", "_law_asks", "_law_letter", "_law_other", "_law_body_here", "_law_handed", "_law_found", "_law_worth", "_law_k", "_law_name", "_law_outs", "_law_finals"] _ 1 ["_law_deed", "_law_worth"] [11] from CompSc.mk rfl (by decide +kernel) (by decide +kernel) (by decide +kernel) rfl (by decide +kernel)) rfl (pi_list (pv 8)) (fun _ _ _ _ _ => (pg_name (i := 0) (show List.Nodup (["_law_deed", "_law_worth"] : List Str) from by decide +kernel) rfl (Or.inl rfl))) (fun _ _ _ _ _ => (pts_one (pt_cmpR op_eq (pe_ix (ix_tupK (K := K) rfl) (pv 0) pe_int (fun _ _ => rfl)) pe_str (nomark _)))) (fun _ _ _ _ _ => (pe_ix ix_dk (pv 1) (pe_ix (ix_tupK (K := K) rfl) (pv 0) pe_int (fun _ _ => rfl)) (fun _ _ => rfl))))
      (pss_cons (ps_setcomp (i := 15) sc_law.nd rfl (Or.inl rfl) (k := 1) (Nc := ["_law_name", "_law_worth"]) (js := [11]) (show CompSc (defScope s_law) ["_law_script", "_law_m", "_law_great", "_law_numbers", "_law_many_here", "_law_asks", "_law_letter", "_law_other", "_law_body_here", "_law_handed", "_law_found", "_law_worth", "_law_k", "_law_name", "_law_outs", "_law_finals"] _ 1 ["_law_name", "_law_worth"] [11] from CompSc.mk rfl (by decide +kernel) (by decide +kernel) (by decide +kernel) rfl (by decide +kernel)) rfl (pi_list (pe_callB (call_sortedD2 rfl) rfl T.z_sorted PyProof.Rows.Boot.«sorted» (pa_cons (pv 11) pa_nil))) (fun _ _ _ _ _ => (pg_name (i := 0) (show List.Nodup (["_law_name", "_law_worth"] : List Str) from by decide +kernel) rfl (Or.inl rfl))) (fun _ _ _ _ _ => pts_nil) (fun _ _ _ _ _ => (pe_tup (pa_cons (pv 0) (pa_cons (pe_ix ix_dk (pv 1) (pv 0) (fun _ _ => rfl)) pa_nil)))))
      (pss_one (ps_ret (pe_call (ok__law_alike T 5) (hr.mono (by decide)) rfl T.m__law_alike T.F__law_alike.kp T.b__law_alike .nil pass0 (pa_cons (pv 10) (pa_cons (pe_tup (pa_cons pe_bl (pa_cons (pe_op oi_add (pe_callB call_len_seq rfl T.z_len PySem.boot_len (pa_cons (pv 14) pa_nil)) pe_int) (pa_cons (pv 14) (pa_cons (pv 15) (pa_cons (pe_lst pa_nil) pa_nil)))))) pa_nil))))))))))))))))))))), ?_⟩
  refine ⟨_, rfl, sa, ns, 0, rfl, hS, by decide, fun c0 => ⟨_, _, rfl, ⟨by decide, by decide⟩, fun m m0 m1 => ?_⟩⟩
  refine ⟨_, _, rfl, rfl, ⟨by decide, by decide, by decide⟩, ?_⟩
  rw [p40]
  have gg : IntMulOk 10000000000000000000000000000000000000000 10000000000000000000000000000000000000000 := IntMulOk.of_bits (Nat.le_trans ((PySem.intBits_le_iff (m := 200)).mpr (by decide)) (by decide)) (Nat.le_trans ((PySem.intBits_le_iff (m := 200)).mpr (by decide)) (by decide))
  obtain ⟨es, ees, elen⟩ := cut_some ns (some 2) (some 202)
  refine ⟨_, rfl, _, rfl, _, rfl, sa, _, rfl, hS, fun le hle => ?_⟩
  rw [ees]
  refine ⟨le, rfl, ⟨_, SqL.of upd_same⟩, ?_⟩
  refine comp_list0 (K := K) (a := le) (xs := es.map V.int) (fun i ys σ H4 => (∃ v, σ = [v, some (.int 10000000000000000000000000000000000000000)]) ∧ H4 = upd H le (.lst (es.map V.int)) ∧ ∃ zs : List Int, ys = zs.map V.int ∧ zs.length = i) ⟨⟨_, rfl⟩, rfl, [], rfl, rfl⟩ ?_ (len_le_line (m := 100) (by rw [List.length_map]; omega)) ?_ ?_ ?_
  · rintro i ys σ H4 hi ⟨_, _, zs, rfl, h⟩
    rw [List.length_map, h]
    exact Nat.le_refl _
  · rintro i ys σ H4 ⟨_, rfl, _⟩
    exact SqL.of upd_same
  · rintro i x ys σ H4 hx ⟨⟨v, rfl⟩, rfl, zs, rfl, hz⟩
    rw [List.getElem?_map] at hx
    obtain ⟨z, hzi, rfl⟩ := Option.map_eq_some_iff.mp hx
    refine ⟨_, rfl, _, rfl, _, rfl, _, _, rfl, rfl, gg, _, _, rfl, rfl, by decide, _, rfl, _, rfl, _, _, rfl, rfl, gg, _, _, rfl, rfl, ⟨by decide, by decide⟩, _, _, rfl, rfl, ?_⟩
    exact ⟨⟨_, rfl⟩, rfl, zs ++ [_], by rw [List.map_append]; rfl, by rw [List.length_append, hz]; rfl⟩
  rintro vs σ H4 ⟨_, rfl, es1, rfl, hes⟩ ln hln
  rw [List.length_map] at hes
  have s1 := (Same.new hle (.lst (es.map V.int))).trans (Same.new hln (.lst (es1.map V.int)))
  have hln1 : upd (upd H le (.lst (es.map V.int))) ln (.lst (es1.map V.int)) ln = _ := upd_same
  generalize upd (upd H le (.lst (es.map V.int))) ln (.lst (es1.map V.int)) = H1 at s1 hln1 ⊢
  refine ⟨_, rfl, _, _, rfl, rfl, by decide, rfl, _, rfl, ?_⟩
  refine join2c (P := fun (σ : St) (H2 : Hp) => ∃ (ln : Addr) (es : List Int), Same H H2 ∧ σ = [some (.ref sa), some (.int m), some (.int 10000000000000000000000000000000000000000), some (.ref ln), none, none, none, none, none, none, none, none, none, none, none, none] ∧ H2 ln = some (.lst (es.map V.int)) ∧ es.length ≤ 63) (fun c => ⟨ln, es1, s1, rfl, hln1, by omega⟩) ?_ (fun c go => ?_)
  rotate_left
  · refine ⟨_, rfl, _, rfl, _, rfl, sa, _, rfl, s1.seq hS, fun le2 hle2 => ?_⟩
    rw [ees]
    refine ⟨le2, rfl, ⟨_, SqL.of upd_same⟩, ?_⟩
    refine comp_list0 (K := K) (a := le2) (xs := es.map V.int) (fun i ys σ H4 => (∃ v, σ = [v]) ∧ H4 = upd H1 le2 (.lst (es.map V.int)) ∧ ∃ zs : List Int, ys = zs.map V.int ∧ zs.length = i) ⟨⟨_, rfl⟩, rfl, [], rfl, rfl⟩ ?_ (len_le_line (m := 100) (by rw [List.length_map]; omega)) ?_ ?_ ?_
    · rintro i ys σ H4 hi ⟨_, _, zs, rfl, h⟩
      rw [List.length_map, h]
      exact Nat.le_refl _
    · rintro i ys σ H4 ⟨_, rfl, _⟩
      exact SqL.of upd_same
    · rintro i x ys σ H4 hx ⟨⟨v, rfl⟩, rfl, zs, rfl, hz⟩
      rw [List.getElem?_map] at hx
      obtain ⟨z, hzi, rfl⟩ := Option.map_eq_some_iff.mp hx
      exact ⟨_, rfl, _, _, rfl, rfl, by decide, _, _, rfl, rfl, ⟨_, rfl⟩, rfl, zs ++ [_], by rw [List.map_append]; rfl, by rw [List.length_append, hz]; rfl⟩
    rintro vs σ H4 ⟨_, rfl, es2, rfl, hes2⟩ ln2 hln2
    rw [List.length_map] at hes2
    exact go _ _ ⟨ln2, es2, (s1.trans (Same.new hle2 _)).trans (Same.new hln2 _), rfl, upd_same, by omega⟩
  clear hes hln1 s1 H1 ln hln es1 hle le elen ees es gg c0
  rintro σ H2 ⟨ln, es, s2, rfl, hln, elen⟩
  refine ⟨_, rfl, ln, _, rfl, .inl (SqL.of hln), _, _, rfl, rfl, _, rfl, _, _, rfl, rfl, ⟨by decide, by decide⟩, _, _, rfl, rfl, by decide, _, _, rfl, rfl, ?_⟩
  rw [List.length_map]
  refine ⟨_, rfl, sa, ns, 1, rfl, s2.seq hS, by decide, fun c1 => ⟨_, rfl, _, _, rfl, _, _, rfl, ?_, ?_, fun H3 la ak s3 nla hla akl aknd hak => ?_⟩⟩
  · split <;> omega
  · split <;> omega
  have ak70 : ak.length ≤ 70 := by
    split at akl <;> omega
  clear akl c1
  obtain ⟨cl, el, wl, ml, _⟩ := pick5 "kmpvw" (.inl rfl) (m / 28 % 5) (by omega) (by omega)
  obtain ⟨co, eo, wo, _, mo⟩ := pick5 "ahtyz" (.inr rfl) (m / 140 % 5) (by omega) (by omega)
  have hlo : cl ≠ co := fun e => by
    have a1 := ml rfl
    have a2 := mo rfl
    subst e
    simp at a1 a2
    omega
  clear ml mo
  refine ⟨_, rfl, _, _, rfl, rfl, ⟨by decide, by decide⟩, _, _, rfl, rfl, by decide, _, _, cl, rfl, rfl, by decide +kernel, el, ?_⟩
  refine ⟨_, rfl, _, _, rfl, rfl, ⟨by decide, by decide⟩, _, _, rfl, rfl, by decide, _, _, co, rfl, rfl, by decide +kernel, eo, ?_⟩
  have nL : ∀ z ∈ ak, z ≠ ⟨#[cl]⟩ := fun z hz e => by have := (hak z hz).2.1; rw [e] at this; exact absurd this (by show ¬ 3 ≤ 1; decide)
  have nO : ∀ z ∈ ak, z ≠ ⟨#[co]⟩ := fun z hz e => by have := (hak z hz).2.1; rw [e] at this; exact absurd this (by show ¬ 3 ≤ 1; decide)
  have LO : (⟨#[cl]⟩ : Str) ≠ ⟨#[co]⟩ := fun e => hlo (by injection e with e; injection e with e; injection e)
  have lowL : Low ⟨#[cl]⟩ := low_one wl
  have lowO : Low ⟨#[co]⟩ := low_one wo
  generalize (⟨#[cl]⟩ : Str) = L at nL LO lowL ⊢
  generalize (⟨#[co]⟩ : Str) = O at nO LO lowO ⊢
  clear el eo hlo wl wo
  refine ⟨_, rfl, _, rfl, _, rfl, _, rfl, la, m, ak, L, O, rfl, hla, by omega, fun H4 b gs s4 nb gsub gl rl => ?_⟩
  obtain ⟨us, hb, hds⟩ : ∃ us, H4 b = some (.lst us) ∧ RDs H4 us (gs.map Deed.give ++ tail15 L O) := by
    cases rl with
    | mk h1 h2 => exact ⟨_, h1, h2⟩
  have ladepth : depths (gs.map Deed.give ++ tail15 L O) = 2 := by rw [depths_append, gv_depths, tl_depths]; rfl
  have laflat : flats (gs.map Deed.give ++ tail15 L O) = gs.map Deed.give ++ flats (tail15 L O) := by rw [flats_append, gv_flats]
  have dl : (gs.map Deed.give ++ tail15 L O).length = gs.length + 2 := by rw [List.length_append, List.length_map]; rfl
  refine ⟨_, rfl, la, _, rfl, .inl (SqL.of (s4 _ _ hla)), fun a0 ha0 => ⟨Nat.zero_le _, fun a1 ha1 => ?_⟩⟩
  have f0 := Same.new ha0 (.lst (ak.map V.str))
  have g0 : upd H4 a0 (.lst (ak.map V.str)) a0 = _ := upd_same
  generalize upd H4 a0 (.lst (ak.map V.str)) = H5 at *
  have f1 := Same.new ha1 (.lst [])
  have g1 : upd H5 a1 (.lst []) a1 = _ := upd_same
  generalize upd H5 a1 (.lst []) = H6 at *
  have s46 := f0.trans f1
  refine ⟨_, rfl, b, us, rfl, .inl (SqL.of (s46 _ _ hb)), fun b2 hb2 => ⟨ln3, fun p hp => ?_⟩⟩
  have f2 := Same.new hb2 (.lst us)
  have g2 : upd H6 b2 (.lst us) b2 = _ := upd_same
  generalize upd H6 b2 (.lst us) = H7 at *
  have f3 := Same.new hp (.tup [.ref a0, .ref a1, .ref b2])
  have g3 : upd H7 p (.tup [.ref a0, .ref a1, .ref b2]) p = _ := upd_same
  generalize upd H7 p (.tup [.ref a0, .ref a1, .ref b2]) = H8 at *
  have s48 := (s46.trans f2).trans f3
  have hln8 := s48 _ _ (s4 _ _ (s3 _ _ hln))
  refine ⟨_, rfl, ln, _, rfl, .inl (SqL.of hln8), fun l2 hl2 => ⟨ln2, fun lh hlh => ?_⟩⟩
  have f4 := Same.new hl2 (.lst (es.map V.int))
  have g4 : upd H8 l2 (.lst (es.map V.int)) l2 = _ := upd_same
  generalize upd H8 l2 (.lst (es.map V.int)) = H9 at *
  have f5 := Same.new hlh (.lst [.ref p, .ref l2])
  have g5 : upd H9 lh (.lst [.ref p, .ref l2]) lh = _ := upd_same
  generalize upd H9 lh (.lst [.ref p, .ref l2]) = H10 at *
  have s8 := f4.trans f5
  have s410 := s48.trans s8
  have g3' := s8 _ _ g3
  have g4' := f5 _ _ g4
  have g2' := s8 _ _ (f3 _ _ g2)
  have g1' := s8 _ _ (f3 _ _ (f2 _ _ g1))
  have g0' := s8 _ _ (f3 _ _ (f2 _ _ (f1 _ _ g0)))
  clear f0 f1 f2 f3 f4 f5 g0 g1 g2 g3 g4 ha0 ha1 hb2 hp hl2 hlh
  have rl2 : RL H10 b2 (gs.map Deed.give ++ tail15 L O) := .mk g2' (hds.same s410)
  refine ⟨_, rfl, lh, _, _, _, rfl, rfl, SqL.of g5, atI0, _, rfl, lh, _, _, _, rfl, rfl, SqL.of g5, atI1, ?_⟩
  refine ⟨p, a0, a1, b2, l2, 5000, ak, es, _, rfl, g3', g0', g1', g4', rl2, by rw [ladepth]; decide, ?_, by rw [dl]; omega, by omega, by omega, ?_, by rw [dl]; omega, fun H11 t lo lf ll zs s11 ht hlo hprs hv hll => ?_⟩
  · rw [laflat, tl_flats, List.length_append, List.length_map]
    show _ + 5 ≤ 300
    omega
  · intro d hd
    rcases List.mem_append.mp hd with h | h
    · obtain ⟨x, _, rfl⟩ := List.mem_map.mp h
      trivial
    · unfold tail15 at h
      rcases List.mem_cons.mp h with rfl | h
      · rfl
      · rw [List.mem_singleton.mp h]
        exact ⟨begE_no fun z => nL _ z rfl, rfl⟩
  have fL : begE (ak.zip es) L = 0 := begE_no fun z => nL _ z rfl
  have fO : begE (ak.zip es) O = 0 := begE_no fun z => nO _ z rfl
  have out : (gs.map Deed.give ++ tail15 L O).flatMap (outs15 (begE (ak.zip es))) = gs.map (begE (ak.zip es)) := by
    rw [List.flatMap_append, gv_outs]
    exact List.append_nil _
  rw [out] at hlo
  have s1011 := s410.trans s11
  refine ⟨_, rfl, _, rfl, Nat.zero_le _, fun x0 hx0 => ⟨_, rfl, ln3, fun p9 hp9 => ⟨_, rfl, ln2, fun l9 hl9 => ?_⟩⟩⟩
  have u0 := Same.new hx0 (.lst [])
  have v0 : upd H11 x0 (.lst []) x0 = _ := upd_same
  generalize upd H11 x0 (.lst []) = J1 at *
  have u1 := Same.new hp9 (.tup [.ref la, .ref x0, .ref b])
  have v1 : upd J1 p9 (.tup [.ref la, .ref x0, .ref b]) p9 = _ := upd_same
  generalize upd J1 p9 (.tup [.ref la, .ref x0, .ref b]) = J2 at *
  have u2 := Same.new hl9 (.lst [.ref p9, .ref ln])
  have v2 : upd J2 l9 (.lst [.ref p9, .ref ln]) l9 = _ := upd_same
  generalize upd J2 l9 (.lst [.ref p9, .ref ln]) = J3 at *
  have sJ := (u0.trans u1).trans u2
  have s4J := s1011.trans sJ
  have shp : SeqAt.shaped (.list [progD ak [] (gs.map Deed.give ++ tail15 L O), .list (es.map PyData.int)]) = true := by
    refine shaped_handed (D := "*" :: L :: O :: ak) es (fun s hs => ?_) (fun s hs => low_ok (hak s hs).1) (fun d hd s hs => ?_) (by rw [ladepth]; decide)
    · rcases List.mem_cons.mp hs with rfl | hs
      · decide +kernel
      rcases List.mem_cons.mp hs with rfl | hs
      · exact low_ok lowL
      rcases List.mem_cons.mp hs with rfl | hs
      · exact low_ok lowO
      · exact low_ok (hak s hs).1
    · rw [laflat, tl_flats] at hd
      rcases List.mem_append.mp hd with h | h
      · obtain ⟨x, hx, rfl⟩ := List.mem_map.mp h
        simp only [Deed.strs, List.mem_cons, List.not_mem_nil, or_false] at hs
        rw [hs]
        simp [gsub x hx]
      · simp only [List.mem_cons, List.not_mem_nil, or_false] at h
        rcases h with rfl | rfl | rfl | rfl | rfl <;> simp [Deed.strs, Val.names] at hs <;> first | (simp [hs]; done) | (rcases hs with h | h | h <;> simp [h]; done) | (rcases hs with h | h <;> simp [h])
  refine ⟨_, _, .lst (SqL.of (sJ _ _ (s11 _ _ g5))) (.cons (RP.dt (K := K) ⟨sJ _ _ (s11 _ _ g3'), sJ _ _ (s11 _ _ g0'), sJ _ _ (s11 _ _ g1'), .nil, (rl2.same s11).same sJ⟩) (.cons (.lst (SqL.of (sJ _ _ (s11 _ _ g4'))) (ints_dt _)) .nil)), .lst (SqL.of v2) (.cons (RP.dt (K := K) ⟨u2 _ _ v1, s4J _ _ (s4 _ _ hla), u2 _ _ (u1 _ _ v0), .nil, rl.same s4J⟩) (.cons (.lst (SqL.of (s4J _ _ (s4 _ _ (s3 _ _ hln)))) (ints_dt _)) .nil)), shp, shp, ?_⟩
  rw [SeqAt.eqv_refl _ (SeqAt.canLay_of_shaped shp)]
  refine ⟨_, rfl, ifNo rfl ?_⟩
  intro dW hdW
  refine ⟨_, rfl, _, rfl, upd_same, [(.inr L, .int 0), (.inr O, .int 0)], rfl, by show 2 ≤ 15; decide, ?_⟩
  have mk0 : mergeK [] [(.inr L, .int 0), (.inr O, .int 0)] = tab (addK (addK [] L) O) (begE []) := by
    show putK (putK (tab [] (begE [])) (.inr L) (.int 0)) (.inr O) (.int 0) = _
    rw [tab_put List.nodup_nil, tab_put (nd_addK List.nodup_nil), setE_same (f := begE []) (x := L) rfl, setE_same (f := begE []) (x := O) rfl]
  rw [mk0]
  have nd0 := nd_addK (x := O) (nd_addK (x := L) (List.nodup_nil (α := Str)))
  have mem0 : ∀ z, z ∈ addK (addK [] L) O ↔ z = L ∨ z = O ∨ z ∈ ak.take 0 := fun z => by
    rw [mem_addK, mem_addK]
    simp
  have len0 : (addK (addK [] L) O).length ≤ 2 := by
    unfold addK
    split <;> split <;> simp
  generalize addK (addK [] L) O = k0 at nd0 mem0 len0 ⊢
  clear mk0
  have sK : Same J3 (upd (upd J3 dW (.dK [])) dW (.dK (tab k0 (begE [])))) := Same.over (Same.new hdW _) hdW
  have vK : upd (upd J3 dW (.dK [])) dW (.dK (tab k0 (begE []))) dW = some (.dK (tab k0 (begE []))) := upd_same
  generalize upd (upd J3 dW (.dK [])) dW (.dK (tab k0 (begE []))) = J4 at *
  have hlaJ := s4J _ _ (s4 _ _ hla)
  have hlnJ := s4J _ _ (s4 _ _ (s3 _ _ hln))
  refine ⟨_, rfl, la, _, rfl, SqL.of (sK _ _ hlaJ), ?_⟩
  refine for_enum (K := K) (l := la) (xs := ak.map V.str) (fun i σ J5 => ∃ v4 v12 v13, σ = [some (.ref sa), some (.int m), some (.int 10000000000000000000000000000000000000000), some (.ref ln), v4, some (.ref la), some (.str L), some (.str O), some (.ref b), some (.ref lh), some (.ref t), some (.ref dW), v12, v13, none, none] ∧ Same J3 J5 ∧ ∃ ks, J5 dW = some (.dK (tab ks (begE ((ak.take i).zip es)))) ∧ ks.Nodup ∧ (∀ z, z ∈ ks ↔ z = L ∨ z = O ∨ z ∈ ak.take i) ∧ ks.length ≤ i + 2) ⟨_, _, _, rfl, sK, k0, vK, nd0, mem0, len0⟩ ?_ ?_ ?_
  · rintro i σ J5 ⟨_, _, _, _, s5, _⟩
    exact SqL.of (s5 _ _ hlaJ)
  · rintro i x σ J5 q hx ⟨v4, v12, v13, rfl, s5, ks, hks, nd, mem, len⟩ hq
    rw [List.getElem?_map] at hx
    obtain ⟨z, hz, rfl⟩ := Option.map_eq_some_iff.mp hx
    have il : i < ak.length := (List.getElem?_eq_some_iff.mp hz).1
    have e5 := Same.new hq (.tup [.int i, .str z])
    have s6 := s5.trans e5
    have hks6 := e5 _ _ hks
    refine ⟨q, _, rfl, SqT.of upd_same, rfl, _, _, rfl, _, _, rfl, rfl, ?_⟩
    generalize upd J5 q (.tup [.int i, .str z]) = J6 at e5 s6 hks6 ⊢
    have hln6 := s6 _ _ hlnJ
    have hadd : ∀ y, y ∈ addK ks z ↔ y = L ∨ y = O ∨ y ∈ ak.take (i + 1) := fun y => by
      rw [mem_addK, mem, List.take_add_one, hz]
      simp [or_assoc]
    have ladd : (addK ks z).length ≤ i + 1 + 2 := by
      unfold addK
      split
      · omega
      · rw [List.length_append, List.length_singleton]; omega
    refine ⟨_, rfl, _, rfl, ln, _, rfl, .inl (SqL.of hln6), _, _, rfl, rfl, _, rfl, ite2 (fun c => ?_) (fun c => ?_)⟩
    · have li : i < es.length := by
        have := of_decide_eq_true c
        rw [List.length_map] at this
        omega
      have he : es[i]? = some es[i] := List.getElem?_eq_getElem li
      refine ⟨_, rfl, _, rfl, ln, _, _, _, rfl, rfl, SqL.of hln6, atI_nat (by rw [List.getElem?_map, he]; rfl), _, _, rfl, rfl, ⟨by decide, by decide, by decide⟩, _, _, rfl, rfl, by rw [p30]; decide, ?_⟩
      rw [p30]
      refine ⟨_, rfl, _, rfl, dW, _, rfl, .inl ⟨_, .inr z, hks6, rfl, by rw [tab_len]; exact small1000 (by omega), rfl⟩, ?_⟩
      refine ⟨_, _, _, rfl, Same.over s6 hdW, addK ks z, ?_, nd_addK nd, hadd, ladd⟩
      rw [upd_same, tab_put nd, zip_step1 hz he, begE_snoc]
    · have li : es.length ≤ i := by
        have := c
        rw [List.length_map] at this
        simp at this
        exact this
      refine ⟨_, rfl, _, rfl, dW, _, rfl, .inl ⟨_, .inr z, hks6, rfl, by rw [tab_len]; exact small1000 (by omega), rfl⟩, ?_⟩
      refine ⟨_, _, _, rfl, Same.over s6 hdW, addK ks z, ?_, nd_addK nd, hadd, ladd⟩
      rw [upd_same, tab_put nd, zip_step2 li, setE_same]
      refine begE_no fun h => ?_
      have := nodup_take hz aknd
      exact this h
  rintro σ J5 ⟨v4, v12, v13, rfl, s5, ks, hks, nd, mem, len⟩
  rw [List.length_map, List.take_length] at hks mem
  rw [List.length_map] at len
  have s4N := s4J.trans s5
  have hbN := s4N _ _ hb
  have hdsN := hds.same s4N
  have outN := out
  have dlN := dl
  have kin : ∀ d ∈ gs.map Deed.give ++ tail15 L O, (∃ x, d = .give x ∧ x ∈ ks) ∨ (∃ n B, d = .rep n B) ∨ ∃ x A B, d = .cond x A B := fun d hd => by
    rcases List.mem_append.mp hd with h | h
    · obtain ⟨x, hx, rfl⟩ := List.mem_map.mp h
      exact .inl ⟨x, rfl, (mem x).mpr (.inr (.inr (gsub x hx)))⟩
    · unfold tail15 at h
      rcases List.mem_cons.mp h with rfl | h
      · exact .inr (.inl ⟨_, _, rfl⟩)
      · exact .inr (.inr ⟨_, _, _, List.mem_singleton.mp h⟩)
  generalize hDS : gs.map Deed.give ++ tail15 L O = DS at hdsN outN dlN kin
  generalize hF : begE (ak.zip es) = F at *
  refine ⟨_, rfl, b, rfl, ⟨_, SqL.of hbN⟩, ?_⟩
  refine comp_list (K := K) (a := b) (xs := us) (fun i ys σ J6 => (∃ v, σ = [v, some (.ref dW)]) ∧ J6 = J5 ∧ ys = ((DS.take i).flatMap (outs15 F)).map V.int) ⟨⟨_, rfl⟩, rfl, rfl⟩ ?_ (len_le_line (m := 1000) (by rw [hdsN.len]; omega)) ?_ ?_ ?_
  · rintro i ys σ J6 hi ⟨_, _, rfl⟩
    have := outs_few F (DS.take i)
    rw [List.length_take] at this
    rw [List.length_map]
    omega
  · rintro i ys σ J6 ⟨_, rfl, _⟩
    exact SqL.of hbN
  · rintro i x ys σ J6 hx ⟨⟨v, rfl⟩, rfl, rfl⟩
    obtain ⟨d, hd, hrd⟩ := hdsN.at i x hx
    rw [List.take_add_one, hd, List.flatMap_append]
    rcases kin d (List.mem_of_getElem? hd) with ⟨z, rfl, hz⟩ | ⟨n, B, rfl⟩ | ⟨z, A', B, rfl⟩
    · cases hrd with
      | give h =>
        refine ⟨_, rfl, _, _, _, _, rfl, rfl, SqT.of h, atI0, rfl, _, rfl, ifYes (decide_eq_true rfl) ?_⟩
        refine ⟨_, rfl, _, rfl, _, _, _, _, rfl, rfl, SqT.of h, atI1, dW, _, .inr z, _, rfl, hks, rfl, tab_val hz, ⟨_, rfl⟩, rfl, ?_⟩
        rw [List.map_append]
        rfl
    · cases hrd with
      | rep h _ =>
        refine ⟨_, rfl, _, _, _, _, rfl, rfl, SqT.of h, atI0, rfl, _, rfl, ifNo (by decide +kernel) ⟨⟨_, rfl⟩, rfl, ?_⟩⟩
        exact congrArg (List.map V.int) (List.append_nil _).symm
    · cases hrd with
      | cond h _ _ =>
        refine ⟨_, rfl, _, _, _, _, rfl, rfl, SqT.of h, atI0, rfl, _, rfl, ifNo (by decide +kernel) ⟨⟨_, rfl⟩, rfl, ?_⟩⟩
        exact congrArg (List.map V.int) (List.append_nil _).symm
  rintro vs σ J6 ⟨_, rfl, rfl⟩ lo2 hlo2
  rw [hdsN.len, List.take_length, outN]
  have e7 := Same.new hlo2 (.lst ((gs.map F).map V.int))
  have v7 : upd J6 lo2 (.lst ((gs.map F).map V.int)) lo2 = _ := upd_same
  have s7 := s5.trans e7
  have hks7 := e7 _ _ hks
  generalize upd J6 lo2 (.lst ((gs.map F).map V.int)) = J7 at *
  refine ⟨_, rfl, dW, _, ks, rfl, hks7, tab_keys _ _, by omega, fun lz zs2 hlz perm so => ?_⟩
  have e8 := Same.new hlz (.lst (zs2.map V.str))
  have v8 : upd J7 lz (.lst (zs2.map V.str)) lz = _ := upd_same
  have s8' := s7.trans e8
  have hks8 := e8 _ _ hks7
  generalize upd J7 lz (.lst (zs2.map V.str)) = J8 at *
  have zl : zs2.length ≤ 100 := by rw [perm.length_eq]; omega
  refine ⟨lz, rfl, ⟨_, SqL.of v8⟩, ?_⟩
  refine comp_list0 (K := K) (a := lz) (xs := zs2.map V.str) (fun i ys σ J9 => (∃ v, σ = [v, some (.ref dW)]) ∧ Same J8 J9 ∧ ∃ ts : List Addr, ys = ts.map V.ref ∧ ts.length = i ∧ ∀ (j : Nat) (t : Addr) (z : Str), ts[j]? = some t → zs2[j]? = some z → J9 t = some (.tup [.str z, .int (F z)])) ⟨⟨_, rfl⟩, Same.refl _, [], rfl, rfl, fun j t z h => by simp at h⟩ ?_ (len_le_line (m := 1000) (by rw [List.length_map]; omega)) ?_ ?_ ?_
  · rintro i ys σ J9 hi ⟨_, _, ts, rfl, h, _⟩
    rw [List.length_map, h]
    exact Nat.le_refl _
  · rintro i ys σ J9 ⟨_, s9, _⟩
    exact SqL.of (s9 _ _ v8)
  · rintro i x ys σ J9 hx ⟨⟨v, rfl⟩, s9, ts, rfl, tl, hts⟩
    rw [List.getElem?_map] at hx
    obtain ⟨z, hz, rfl⟩ := Option.map_eq_some_iff.mp hx
    have zk : z ∈ ks := perm.mem_iff.mp (List.mem_of_getElem? hz)
    refine ⟨_, rfl, _, rfl, _, rfl, dW, _, .inr z, _, rfl, s9 _ _ hks8, rfl, tab_val zk, ln2, fun q hq => ?_⟩
    have e9 := Same.new hq (.tup [.str z, .int (F z)])
    refine ⟨⟨_, rfl⟩, s9.trans e9, ts ++ [q], by rw [List.map_append]; rfl, by rw [List.length_append, tl]; rfl, fun j t y hj hy => ?_⟩
    rcases Nat.lt_or_ge j ts.length with lt | ge
    · rw [List.getElem?_append_left lt] at hj
      exact e9 _ _ (hts j t y hj hy)
    · have jl : j < (ts ++ [q]).length := (List.getElem?_eq_some_iff.mp hj).1
      rw [List.length_append, List.length_singleton] at jl
      obtain rfl : j = ts.length := by omega
      rw [List.getElem?_append_right (Nat.le_refl _), Nat.sub_self] at hj
      rw [tl, hz] at hy
      cases hj
      cases hy
      exact upd_same
  rintro vs σ J9 ⟨_, s9, ts, rfl, tl, hts⟩ lf2 hlf2
  rw [List.length_map] at tl
  have e10 := Same.new hlf2 (.lst (ts.map V.ref))
  have P2 : Prs (upd J9 lf2 (.lst (ts.map V.ref))) lf2 zs2 F := ⟨ts, upd_same, tl, fun j t z h1 h2 => e10 _ _ (hts j t z h1 h2)⟩
  generalize upd J9 lf2 (.lst (ts.map V.ref)) = J10 at *
  have s710 : Same J7 J10 := (e8.trans s9).trans e10
  have s1110 : Same H11 J10 := (sJ.trans s7).trans s710
  refine ⟨_, rfl, _, rfl, lo2, _, rfl, .inl (SqL.of (s710 _ _ v7)), _, _, rfl, rfl, _, rfl, _, rfl, Nat.zero_le _, fun le hle => ⟨ln5, fun td htd => ?_⟩⟩
  have w1 := Same.new hle (.lst [])
  have x1 : upd J10 le (.lst []) le = _ := upd_same
  generalize upd J10 le (.lst []) = J11 at *
  have enl : (((gs.map F).map V.int).length : Int) + 2 = (gs.length : Int) + 2 := by rw [List.length_map, List.length_map]
  rw [enl]
  have w2 := Same.new htd (.tup [.bl true, .int ((gs.length : Int) + 2), .ref lo2, .ref lf2, .ref le])
  have x2 : upd J11 td (.tup [.bl true, .int ((gs.length : Int) + 2), .ref lo2, .ref lf2, .ref le]) td = _ := upd_same
  generalize upd J11 td (.tup [.bl true, .int ((gs.length : Int) + 2), .ref lo2, .ref lf2, .ref le]) = J12 at *
  have sA : Same J10 J12 := w1.trans w2
  have sB : Same H11 J12 := s1110.trans sA
  have zz : zs2 = zs := sorted_one (perm.nodup_iff.mpr nd) hv.nd so hv.so fun z => by
    rw [perm.mem_iff, mem, hv.mem, laflat, List.flatMap_append, gv_names, tl_flats, List.mem_append]
    constructor
    · rintro (rfl | rfl | h)
      · exact .inr (.inr (by simp [Deed.names, Val.names]))
      · exact .inr (.inr (by simp [Deed.names, Val.names]))
      · exact .inl h
    · rintro (h | h | h)
      · exact .inr (.inr h)
      · exact .inr (.inr (gsub z h))
      · simp [Deed.names, Val.names] at h
        rcases h with h | h
        · exact .inl h
        · exact .inr (.inl h)
  subst zz
  have ht2 : H11 t = some (.tup [.bl true, .int ((gs.length : Int) + 2), .ref lo, .ref lf, .ref ll]) := by
    rw [ht, dl, Int.natCast_add]
    rfl
  exact ⟨_, _, 4, rfl, by decide, due_alike (sB _ _ ht2) (sB _ _ hlo) (hprs.same sB) (sB _ _ hll) x2 (sA _ _ (s710 _ _ v7)) (P2.same sA) (w2 _ _ x1) (by omega) (by rw [List.length_map]; omega), k _⟩
end
theorem all_mk {l : PySem.W.OpenLaw} {w : World} {K : PySem.W.Frag} {h : Heap} {mg : Str → Option Value} {fa : Addr} (X : K.In h) (G : h.Ns mainGlobals mg) (hfa : mg "law" = some (.ref fa))
    {c_Queue : Addr}
    (ac_Queue : PySem.W.nsIn K mainGlobals "Queue" = some (some (.ref c_Queue)))
    (p1_Queue : PySem.W.plainGet K c_Queue Str.empty = true)
    (p2_Queue : PySem.W.hasDictIn K c_Queue = true)
    (p3_Queue : PySem.W.plainOver K c_Queue = true)
    (p4_Queue : PySem.W.findIn K (.ref c_Queue) "__setattr__" = some (some (.builtin "object.__setattr__")))
    (p5_Queue : PySem.W.makesIn K c_Queue = true)
    (p6_Queue : PySem.W.keepIn K (.ref c_Queue) = true)
    (nf_Queue_laid : PySem.W.findIn K (.ref c_Queue) "laid" = some none)
    (nf_Queue_gone : PySem.W.findIn K (.ref c_Queue) "gone" = some none)
    {c_Run : Addr}
    (ac_Run : PySem.W.nsIn K mainGlobals "Run" = some (some (.ref c_Run)))
    (p1_Run : PySem.W.plainGet K c_Run Str.empty = true)
    (p2_Run : PySem.W.hasDictIn K c_Run = true)
    (p3_Run : PySem.W.plainOver K c_Run = true)
    (p4_Run : PySem.W.findIn K (.ref c_Run) "__setattr__" = some (some (.builtin "object.__setattr__")))
    (p5_Run : PySem.W.makesIn K c_Run = true)
    (p6_Run : PySem.W.keepIn K (.ref c_Run) = true)
    (nf_Run_numbers : PySem.W.findIn K (.ref c_Run) "numbers" = some none)
    (nf_Run_queues : PySem.W.findIn K (.ref c_Run) "queues" = some none)
    (nf_Run_outs : PySem.W.findIn K (.ref c_Run) "outs" = some none)
    (nf_Run_steps : PySem.W.findIn K (.ref c_Run) "steps" = some none)
    (nf_Run_most : PySem.W.findIn K (.ref c_Run) "most" = some none)
    {f0 : Addr} {od0 an0 : Option Addr} {sl0 : Array (Option Value)} {oc0 kV0 dc0 pm0 cd0 ct0 : Value}
    (q0 : PySem.W.findIn K (.ref c_Queue) "__init__" = some (some (.ref f0)))
    (fn0 : PySem.W.isFn K (.ref f0) = true)
    (l0 : K.lookup f0 = some ⟨oc0, od0, .func (PySem.W.fnOf "__init__" "Queue.__init__" (defArgs s_Queue___init__) (defBody s_Queue___init__) (defScope s_Queue___init__) .none kV0 dc0 pm0 an0 cd0 ct0), sl0⟩)
    (c0 : PySem.W.codeIn K cd0 "Queue.__init__" = true)
    (k0 : PySem.W.keepIn K (.ref f0) = true)
    {f1 : Addr} {od1 an1 : Option Addr} {sl1 : Array (Option Value)} {oc1 kV1 dc1 pm1 cd1 ct1 : Value}
    (a1 : PySem.W.nsIn K mainGlobals "named" = some (some (.ref f1)))
    (l1 : K.lookup f1 = some ⟨oc1, od1, .func (PySem.W.fnOf "named" "named" (defArgs s_named) (defBody s_named) (defScope s_named) .none kV1 dc1 pm1 an1 cd1 ct1), sl1⟩)
    (c1 : PySem.W.codeIn K cd1 "named" = true)
    (k1 : PySem.W.keepIn K (.ref f1) = true)
    {f2 : Addr} {od2 an2 : Option Addr} {sl2 : Array (Option Value)} {oc2 kV2 dc2 pm2 cd2 ct2 : Value}
    (a2 : PySem.W.nsIn K mainGlobals "variables_of" = some (some (.ref f2)))
    (l2 : K.lookup f2 = some ⟨oc2, od2, .func (PySem.W.fnOf "variables_of" "variables_of" (defArgs s_variables_of) (defBody s_variables_of) (defScope s_variables_of) .none kV2 dc2 pm2 an2 cd2 ct2), sl2⟩)
    (c2 : PySem.W.codeIn K cd2 "variables_of" = true)
    (k2 : PySem.W.keepIn K (.ref f2) = true)
    {f3 : Addr} {od3 an3 : Option Addr} {sl3 : Array (Option Value)} {oc3 kV3 dc3 pm3 cd3 ct3 : Value}
    (a3 : PySem.W.nsIn K mainGlobals "all_deeds" = some (some (.ref f3)))
    (l3 : K.lookup f3 = some ⟨oc3, od3, .func (PySem.W.fnOf "all_deeds" "all_deeds" (defArgs s_all_deeds) (defBody s_all_deeds) (defScope s_all_deeds) .none kV3 dc3 pm3 an3 cd3 ct3), sl3⟩)
    (c3 : PySem.W.codeIn K cd3 "all_deeds" = true)
    (k3 : PySem.W.keepIn K (.ref f3) = true)
    {f4 : Addr} {od4 an4 : Option Addr} {sl4 : Array (Option Value)} {oc4 kV4 dc4 pm4 cd4 ct4 : Value}
    (a4 : PySem.W.nsIn K mainGlobals "blocks_within" = some (some (.ref f4)))
    (l4 : K.lookup f4 = some ⟨oc4, od4, .func (PySem.W.fnOf "blocks_within" "blocks_within" (defArgs s_blocks_within) (defBody s_blocks_within) (defScope s_blocks_within) .none kV4 dc4 pm4 an4 cd4 ct4), sl4⟩)
    (c4 : PySem.W.codeIn K cd4 "blocks_within" = true)
    (k4 : PySem.W.keepIn K (.ref f4) = true)
    {f5 : Addr} {od5 an5 : Option Addr} {sl5 : Array (Option Value)} {oc5 kV5 dc5 pm5 cd5 ct5 : Value}
    (a5 : PySem.W.nsIn K mainGlobals "names_in" = some (some (.ref f5)))
    (l5 : K.lookup f5 = some ⟨oc5, od5, .func (PySem.W.fnOf "names_in" "names_in" (defArgs s_names_in) (defBody s_names_in) (defScope s_names_in) .none kV5 dc5 pm5 an5 cd5 ct5), sl5⟩)
    (c5 : PySem.W.codeIn K cd5 "names_in" = true)
    (k5 : PySem.W.keepIn K (.ref f5) = true)
    {f6 : Addr} {od6 an6 : Option Addr} {sl6 : Array (Option Value)} {oc6 kV6 dc6 pm6 cd6 ct6 : Value}
    (a6 : PySem.W.nsIn K mainGlobals "beginnings" = some (some (.ref f6)))
    (l6 : K.lookup f6 = some ⟨oc6, od6, .func (PySem.W.fnOf "beginnings" "beginnings" (defArgs s_beginnings) (defBody s_beginnings) (defScope s_beginnings) .none kV6 dc6 pm6 an6 cd6 ct6), sl6⟩)
    (c6 : PySem.W.codeIn K cd6 "beginnings" = true)
    (k6 : PySem.W.keepIn K (.ref f6) = true)
    {f7 : Addr} {od7 an7 : Option Addr} {sl7 : Array (Option Value)} {oc7 kV7 dc7 pm7 cd7 ct7 : Value}
    (q7 : PySem.W.findIn K (.ref c_Run) "__init__" = some (some (.ref f7)))
    (fn7 : PySem.W.isFn K (.ref f7) = true)
    (l7 : K.lookup f7 = some ⟨oc7, od7, .func (PySem.W.fnOf "__init__" "Run.__init__" (defArgs s_Run___init__) (defBody s_Run___init__) (defScope s_Run___init__) .none kV7 dc7 pm7 an7 cd7 ct7), sl7⟩)
    (c7 : PySem.W.codeIn K cd7 "Run.__init__" = true)
    (k7 : PySem.W.keepIn K (.ref f7) = true)
    {f8 : Addr} {od8 an8 : Option Addr} {sl8 : Array (Option Value)} {oc8 kV8 dc8 pm8 cd8 ct8 : Value}
    (q8 : PySem.W.findIn K (.ref c_Run) "do_block" = some (some (.ref f8)))
    (fn8 : PySem.W.isFn K (.ref f8) = true)
    (l8 : K.lookup f8 = some ⟨oc8, od8, .func (PySem.W.fnOf "do_block" "Run.do_block" (defArgs s_Run_do_block) (defBody s_Run_do_block) (defScope s_Run_do_block) .none kV8 dc8 pm8 an8 cd8 ct8), sl8⟩)
    (c8 : PySem.W.codeIn K cd8 "Run.do_block" = true)
    (k8 : PySem.W.keepIn K (.ref f8) = true)
    {f9 : Addr} {od9 an9 : Option Addr} {sl9 : Array (Option Value)} {oc9 kV9 dc9 pm9 cd9 ct9 : Value}
    (q9 : PySem.W.findIn K (.ref c_Run) "do_deed" = some (some (.ref f9)))
    (fn9 : PySem.W.isFn K (.ref f9) = true)
    (l9 : K.lookup f9 = some ⟨oc9, od9, .func (PySem.W.fnOf "do_deed" "Run.do_deed" (defArgs s_Run_do_deed) (defBody s_Run_do_deed) (defScope s_Run_do_deed) .none kV9 dc9 pm9 an9 cd9 ct9), sl9⟩)
    (c9 : PySem.W.codeIn K cd9 "Run.do_deed" = true)
    (k9 : PySem.W.keepIn K (.ref f9) = true)
    {f10 : Addr} {od10 an10 : Option Addr} {sl10 : Array (Option Value)} {oc10 kV10 dc10 pm10 cd10 ct10 : Value}
    (q10 : PySem.W.findIn K (.ref c_Run) "do_if" = some (some (.ref f10)))
    (fn10 : PySem.W.isFn K (.ref f10) = true)
    (l10 : K.lookup f10 = some ⟨oc10, od10, .func (PySem.W.fnOf "do_if" "Run.do_if" (defArgs s_Run_do_if) (defBody s_Run_do_if) (defScope s_Run_do_if) .none kV10 dc10 pm10 an10 cd10 ct10), sl10⟩)
    (c10 : PySem.W.codeIn K cd10 "Run.do_if" = true)
    (k10 : PySem.W.keepIn K (.ref f10) = true)
    {f11 : Addr} {od11 an11 : Option Addr} {sl11 : Array (Option Value)} {oc11 kV11 dc11 pm11 cd11 ct11 : Value}
    (q11 : PySem.W.findIn K (.ref c_Run) "do_repeat" = some (some (.ref f11)))
    (fn11 : PySem.W.isFn K (.ref f11) = true)
    (l11 : K.lookup f11 = some ⟨oc11, od11, .func (PySem.W.fnOf "do_repeat" "Run.do_repeat" (defArgs s_Run_do_repeat) (defBody s_Run_do_repeat) (defScope s_Run_do_repeat) .none kV11 dc11 pm11 an11 cd11 ct11), sl11⟩)
    (c11 : PySem.W.codeIn K cd11 "Run.do_repeat" = true)
    (k11 : PySem.W.keepIn K (.ref f11) = true)
    {f12 : Addr} {od12 an12 : Option Addr} {sl12 : Array (Option Value)} {oc12 kV12 dc12 pm12 cd12 ct12 : Value}
    (q12 : PySem.W.findIn K (.ref c_Run) "do_step" = some (some (.ref f12)))
    (fn12 : PySem.W.isFn K (.ref f12) = true)
    (l12 : K.lookup f12 = some ⟨oc12, od12, .func (PySem.W.fnOf "do_step" "Run.do_step" (defArgs s_Run_do_step) (defBody s_Run_do_step) (defScope s_Run_do_step) .none kV12 dc12 pm12 an12 cd12 ct12), sl12⟩)
    (c12 : PySem.W.codeIn K cd12 "Run.do_step" = true)
    (k12 : PySem.W.keepIn K (.ref f12) = true)
    {f13 : Addr} {od13 an13 : Option Addr} {sl13 : Array (Option Value)} {oc13 kV13 dc13 pm13 cd13 ct13 : Value}
    (q13 : PySem.W.findIn K (.ref c_Run) "is_spent" = some (some (.ref f13)))
    (fn13 : PySem.W.isFn K (.ref f13) = true)
    (l13 : K.lookup f13 = some ⟨oc13, od13, .func (PySem.W.fnOf "is_spent" "Run.is_spent" (defArgs s_Run_is_spent) (defBody s_Run_is_spent) (defScope s_Run_is_spent) .none kV13 dc13 pm13 an13 cd13 ct13), sl13⟩)
    (c13 : PySem.W.codeIn K cd13 "Run.is_spent" = true)
    (k13 : PySem.W.keepIn K (.ref f13) = true)
    {f14 : Addr} {od14 an14 : Option Addr} {sl14 : Array (Option Value)} {oc14 kV14 dc14 pm14 cd14 ct14 : Value}
    (q14 : PySem.W.findIn K (.ref c_Run) "do_plain" = some (some (.ref f14)))
    (fn14 : PySem.W.isFn K (.ref f14) = true)
    (l14 : K.lookup f14 = some ⟨oc14, od14, .func (PySem.W.fnOf "do_plain" "Run.do_plain" (defArgs s_Run_do_plain) (defBody s_Run_do_plain) (defScope s_Run_do_plain) .none kV14 dc14 pm14 an14 cd14 ct14), sl14⟩)
    (c14 : PySem.W.codeIn K cd14 "Run.do_plain" = true)
    (k14 : PySem.W.keepIn K (.ref f14) = true)
    {f15 : Addr} {od15 an15 : Option Addr} {sl15 : Array (Option Value)} {oc15 kV15 dc15 pm15 cd15 ct15 : Value}
    (a15 : PySem.W.nsIn K mainGlobals "run" = some (some (.ref f15)))
    {dt15 : Addr} {dd15 : Option Addr} {di15 : Array Value} {dn15 : Nat} {de15 : Array (Option Value)} {dv15 : Tok} (l15 : K.lookup f15 = some ⟨oc15, od15, .func (PySem.W.fnOf "run" "run" (defArgs s_run) (defBody s_run) (defScope s_run) (.ref dt15) kV15 dc15 pm15 an15 cd15 ct15), sl15⟩)
    (td15 : K.lookup dt15 = some ⟨.type "tuple", dd15, .seq di15 dn15, de15⟩) (V_td15 : di15 = #[.int 5000 dv15])
    (c15 : PySem.W.codeIn K cd15 "run" = true)
    (k15 : PySem.W.keepIn K (.ref f15) = true)
    {f16 : Addr} {od16 an16 : Option Addr} {sl16 : Array (Option Value)} {oc16 kV16 dc16 pm16 cd16 ct16 : Value}
    (a16 : PySem.W.nsIn K mainGlobals "_law_cell" = some (some (.ref f16)))
    (l16 : K.lookup f16 = some ⟨oc16, od16, .func (PySem.W.fnOf "_law_cell" "_law_cell" (defArgs s__law_cell) (defBody s__law_cell) (defScope s__law_cell) .none kV16 dc16 pm16 an16 cd16 ct16), sl16⟩)
    (c16 : PySem.W.codeIn K cd16 "_law_cell" = true)
    (k16 : PySem.W.keepIn K (.ref f16) = true)
    {f17 : Addr} {od17 an17 : Option Addr} {sl17 : Array (Option Value)} {oc17 kV17 dc17 pm17 cd17 ct17 : Value}
    (a17 : PySem.W.nsIn K mainGlobals "_law_mixed" = some (some (.ref f17)))
    (l17 : K.lookup f17 = some ⟨oc17, od17, .func (PySem.W.fnOf "_law_mixed" "_law_mixed" (defArgs s__law_mixed) (defBody s__law_mixed) (defScope s__law_mixed) .none kV17 dc17 pm17 an17 cd17 ct17), sl17⟩)
    (c17 : PySem.W.codeIn K cd17 "_law_mixed" = true)
    (k17 : PySem.W.keepIn K (.ref f17) = true)
    {f18 : Addr} {od18 an18 : Option Addr} {sl18 : Array (Option Value)} {oc18 kV18 dc18 pm18 cd18 ct18 : Value}
    (a18 : PySem.W.nsIn K mainGlobals "_law_alike" = some (some (.ref f18)))
    (l18 : K.lookup f18 = some ⟨oc18, od18, .func (PySem.W.fnOf "_law_alike" "_law_alike" (defArgs s__law_alike) (defBody s__law_alike) (defScope s__law_alike) .none kV18 dc18 pm18 an18 cd18 ct18), sl18⟩)
    (c18 : PySem.W.codeIn K cd18 "_law_alike" = true)
    (k18 : PySem.W.keepIn K (.ref f18) = true)
    {f19 : Addr} {od19 an19 : Option Addr} {sl19 : Array (Option Value)} {oc19 kV19 dc19 pm19 cd19 ct19 : Value}
    (a19 : PySem.W.nsIn K mainGlobals "_law_many" = some (some (.ref f19)))
    (l19 : K.lookup f19 = some ⟨oc19, od19, .func (PySem.W.fnOf "_law_many" "_law_many" (defArgs s__law_many) (defBody s__law_many) (defScope s__law_many) .none kV19 dc19 pm19 an19 cd19 ct19), sl19⟩)
    (c19 : PySem.W.codeIn K cd19 "_law_many" = true)
    (k19 : PySem.W.keepIn K (.ref f19) = true)
    {f20 : Addr} {od20 an20 : Option Addr} {sl20 : Array (Option Value)} {oc20 kV20 dc20 pm20 cd20 ct20 : Value}
    (a20 : PySem.W.nsIn K mainGlobals "_law_body" = some (some (.ref f20)))
    (l20 : K.lookup f20 = some ⟨oc20, od20, .func (PySem.W.fnOf "_law_body" "_law_body" (defArgs s__law_body) (defBody s__law_body) (defScope s__law_body) .none kV20 dc20 pm20 an20 cd20 ct20), sl20⟩)
    (c20 : PySem.W.codeIn K cd20 "_law_body" = true)
    (k20 : PySem.W.keepIn K (.ref f20) = true)
    {f21 : Addr} {od21 an21 : Option Addr} {sl21 : Array (Option Value)} {oc21 kV21 dc21 pm21 cd21 ct21 : Value}
    (a21 : PySem.W.nsIn K mainGlobals "law" = some (some (.ref f21)))
    (l21 : K.lookup f21 = some ⟨oc21, od21, .func (PySem.W.fnOf "law" "law" (defArgs s_law) (defBody s_law) (defScope s_law) .none kV21 dc21 pm21 an21 cd21 ct21), sl21⟩)
    (c21 : PySem.W.codeIn K cd21 "law" = true)
    (k21 : PySem.W.keepIn K (.ref f21) = true)
    (z_bool : PySem.W.nsIn K mainGlobals "bool" = some none)
    (z_dict : PySem.W.nsIn K mainGlobals "dict" = some none)
    (z_enumerate : PySem.W.nsIn K mainGlobals "enumerate" = some none)
    (z_int : PySem.W.nsIn K mainGlobals "int" = some none)
    (z_isinstance : PySem.W.nsIn K mainGlobals "isinstance" = some none)
    (z_len : PySem.W.nsIn K mainGlobals "len" = some none)
    (z_list : PySem.W.nsIn K mainGlobals "list" = some none)
    (z_max : PySem.W.nsIn K mainGlobals "max" = some none)
    (z_range : PySem.W.nsIn K mainGlobals "range" = some none)
    (z_set : PySem.W.nsIn K mainGlobals "set" = some none)
    (z_sorted : PySem.W.nsIn K mainGlobals "sorted" = some none)
    (z_str : PySem.W.nsIn K mainGlobals "str" = some none)
    (z_tuple : PySem.W.nsIn K mainGlobals "tuple" = some none)
    (z_zip : PySem.W.nsIn K mainGlobals "zip" = some none)
    {A_LOOPS : Addr} {d_LOOPS : Option Addr} {i_LOOPS : Array Value} {n_LOOPS : Nat} {e_LOOPS : Array (Option Value)} (c_LOOPS : PySem.W.nsIn K mainGlobals "LOOPS" = some (some (.ref A_LOOPS))) (t_LOOPS : K.lookup A_LOOPS = some ⟨.type "tuple", d_LOOPS, .seq i_LOOPS n_LOOPS, e_LOOPS⟩) (v_LOOPS : i_LOOPS.size ≤ sizeLine ∧ Vals [.str "while", .str "repeat"] i_LOOPS.toList)
    {A_LOOKERS : Addr} {d_LOOKERS : Option Addr} {i_LOOKERS : Array Value} {n_LOOKERS : Nat} {e_LOOKERS : Array (Option Value)} (c_LOOKERS : PySem.W.nsIn K mainGlobals "LOOKERS" = some (some (.ref A_LOOKERS))) (t_LOOKERS : K.lookup A_LOOKERS = some ⟨.type "tuple", d_LOOKERS, .seq i_LOOKERS n_LOOKERS, e_LOOKERS⟩) (v_LOOKERS : i_LOOKERS.size ≤ sizeLine ∧ Vals [.str "if", .str "while"] i_LOOKERS.toList)
    {tk_WHEEL : Tok} (c_WHEEL : PySem.W.nsIn K mainGlobals "WHEEL" = some (some (.int 1000000000000000000000000000000 tk_WHEEL))) :
    ∃ fd : FuncData, (∀ (s : Shared) (v : Value), BindsTo s fd ⟨[v], []⟩ [("_law_script", v)]) ∧ ∀ base : Heap, K.In base → base.Ns mainGlobals mg → FnOk l.prog w K mg base CX0 20 fa fd ["_law_script"] (sp_law K) := by
  have e := hfa.symm.trans (PySem.W.mg_of X G a21)
  cases e
  have F0 := fun_mk (st := s_Queue___init__) l0 c0 k0
  have b0 := F0.binds (ps := ["self", "things"]) fun _ _ _ _ _ _ us hl => match us, hl with | [_, _], _ => rfl
  have F1 := fun_mk (st := s_named) l1 c1 k1
  have b1 := F1.binds (ps := ["block"]) fun _ _ _ _ _ _ us hl => match us, hl with | [_], _ => rfl
  have F2 := fun_mk (st := s_variables_of) l2 c2 k2
  have b2 := F2.binds (ps := ["program"]) fun _ _ _ _ _ _ us hl => match us, hl with | [_], _ => rfl
  have F3 := fun_mk (st := s_all_deeds) l3 c3 k3
  have b3 := F3.binds (ps := ["block"]) fun _ _ _ _ _ _ us hl => match us, hl with | [_], _ => rfl
  have F4 := fun_mk (st := s_blocks_within) l4 c4 k4
  have b4 := F4.binds (ps := ["deed"]) fun _ _ _ _ _ _ us hl => match us, hl with | [_], _ => rfl
  have F5 := fun_mk (st := s_names_in) l5 c5 k5
  have b5 := F5.binds (ps := ["deed"]) fun _ _ _ _ _ _ us hl => match us, hl with | [_], _ => rfl
  have F6 := fun_mk (st := s_beginnings) l6 c6 k6
  have b6 := F6.binds (ps := ["program", "numbers"]) fun _ _ _ _ _ _ us hl => match us, hl with | [_, _], _ => rfl
  have F7 := fun_mk (st := s_Run___init__) l7 c7 k7
  have b7 := F7.binds (ps := ["self", "numbers", "stores", "most"]) fun _ _ _ _ _ _ us hl => match us, hl with | [_, _, _, _], _ => rfl
  have F8 := fun_mk (st := s_Run_do_block) l8 c8 k8
  have b8 := F8.binds (ps := ["self", "block"]) fun _ _ _ _ _ _ us hl => match us, hl with | [_, _], _ => rfl
  have F9 := fun_mk (st := s_Run_do_deed) l9 c9 k9
  have b9 := F9.binds (ps := ["self", "deed"]) fun _ _ _ _ _ _ us hl => match us, hl with | [_, _], _ => rfl
  have F10 := fun_mk (st := s_Run_do_if) l10 c10 k10
  have b10 := F10.binds (ps := ["self", "name", "then", "other"]) fun _ _ _ _ _ _ us hl => match us, hl with | [_, _, _, _], _ => rfl
  have F11 := fun_mk (st := s_Run_do_repeat) l11 c11 k11
  have b11 := F11.binds (ps := ["self", "rounds", "body"]) fun _ _ _ _ _ _ us hl => match us, hl with | [_, _, _], _ => rfl
  have F12 := fun_mk (st := s_Run_do_step) l12 c12 k12
  have b12 := F12.binds (ps := ["self"]) fun _ _ _ _ _ _ us hl => match us, hl with | [_], _ => rfl
  have F13 := fun_mk (st := s_Run_is_spent) l13 c13 k13
  have b13 := F13.binds (ps := ["self"]) fun _ _ _ _ _ _ us hl => match us, hl with | [_], _ => rfl
  have F14 := fun_mk (st := s_Run_do_plain) l14 c14 k14
  have b14 := F14.binds (ps := ["self", "deed"]) fun _ _ _ _ _ _ us hl => match us, hl with | [_, _], _ => rfl
  have F15 := fund_mk (st := s_run) l15 c15 k15 td15 V_td15
  have bd15 := F15.binds (ps := ["program", "numbers", "most"]) [.int 5000 dv15] fun _ _ _ _ _ _ _ _ _ _ us hg hd hl => match us, (show us.length = 2 from by simpa using hl) with | [_, _], _ => BindsTo.of_defaults rfl hg hd rfl rfl
  have b15 := F15.binds (ps := ["program", "numbers", "most"]) [] fun _ _ _ _ _ _ _ _ _ _ us hg hd hl => match us, (show us.length = 3 from by simpa using hl) with | [_, _, _], _ => BindsTo.of_defaults rfl hg hd rfl rfl
  have F16 := fun_mk (st := s__law_cell) l16 c16 k16
  have b16 := F16.binds (ps := ["_law_script", "_law_k"]) fun _ _ _ _ _ _ us hl => match us, hl with | [_, _], _ => rfl
  have F17 := fun_mk (st := s__law_mixed) l17 c17 k17
  have b17 := F17.binds (ps := ["_law_cell_here", "_law_k"]) fun _ _ _ _ _ _ us hl => match us, hl with | [_, _], _ => rfl
  have F18 := fun_mk (st := s__law_alike) l18 c18 k18
  have b18 := F18.binds (ps := ["_law_found", "_law_due"]) fun _ _ _ _ _ _ us hl => match us, hl with | [_, _], _ => rfl
  have F19 := fun_mk (st := s__law_many) l19 c19 k19
  have b19 := F19.binds (ps := ["_law_cell_here", "_law_many_here"]) fun _ _ _ _ _ _ us hl => match us, hl with | [_, _], _ => rfl
  have F20 := fun_mk (st := s__law_body) l20 c20 k20
  have b20 := F20.binds (ps := ["_law_asks", "_law_m", "_law_letter", "_law_other"]) fun _ _ _ _ _ _ us hl => match us, hl with | [_, _, _, _], _ => rfl
  have F21 := fun_mk (st := s_law) l21 c21 k21
  have b21 := F21.binds (ps := ["_law_script"]) fun _ _ _ _ _ _ us hl => match us, hl with | [_], _ => rfl
  have T : Tx l.prog w K mg (Adr.mk f0 (PySem.W.fnOf "__init__" "Queue.__init__" (defArgs s_Queue___init__) (defBody s_Queue___init__) (defScope s_Queue___init__) .none kV0 dc0 pm0 an0 cd0 ct0) f1 (PySem.W.fnOf "named" "named" (defArgs s_named) (defBody s_named) (defScope s_named) .none kV1 dc1 pm1 an1 cd1 ct1) f2 (PySem.W.fnOf "variables_of" "variables_of" (defArgs s_variables_of) (defBody s_variables_of) (defScope s_variables_of) .none kV2 dc2 pm2 an2 cd2 ct2) f3 (PySem.W.fnOf "all_deeds" "all_deeds" (defArgs s_all_deeds) (defBody s_all_deeds) (defScope s_all_deeds) .none kV3 dc3 pm3 an3 cd3 ct3) f4 (PySem.W.fnOf "blocks_within" "blocks_within" (defArgs s_blocks_within) (defBody s_blocks_within) (defScope s_blocks_within) .none kV4 dc4 pm4 an4 cd4 ct4) f5 (PySem.W.fnOf "names_in" "names_in" (defArgs s_names_in) (defBody s_names_in) (defScope s_names_in) .none kV5 dc5 pm5 an5 cd5 ct5) f6 (PySem.W.fnOf "beginnings" "beginnings" (defArgs s_beginnings) (defBody s_beginnings) (defScope s_beginnings) .none kV6 dc6 pm6 an6 cd6 ct6) f7 (PySem.W.fnOf "__init__" "Run.__init__" (defArgs s_Run___init__) (defBody s_Run___init__) (defScope s_Run___init__) .none kV7 dc7 pm7 an7 cd7 ct7) f8 (PySem.W.fnOf "do_block" "Run.do_block" (defArgs s_Run_do_block) (defBody s_Run_do_block) (defScope s_Run_do_block) .none kV8 dc8 pm8 an8 cd8 ct8) f9 (PySem.W.fnOf "do_deed" "Run.do_deed" (defArgs s_Run_do_deed) (defBody s_Run_do_deed) (defScope s_Run_do_deed) .none kV9 dc9 pm9 an9 cd9 ct9) f10 (PySem.W.fnOf "do_if" "Run.do_if" (defArgs s_Run_do_if) (defBody s_Run_do_if) (defScope s_Run_do_if) .none kV10 dc10 pm10 an10 cd10 ct10) f11 (PySem.W.fnOf "do_repeat" "Run.do_repeat" (defArgs s_Run_do_repeat) (defBody s_Run_do_repeat) (defScope s_Run_do_repeat) .none kV11 dc11 pm11 an11 cd11 ct11) f12 (PySem.W.fnOf "do_step" "Run.do_step" (defArgs s_Run_do_step) (defBody s_Run_do_step) (defScope s_Run_do_step) .none kV12 dc12 pm12 an12 cd12 ct12) f13 (PySem.W.fnOf "is_spent" "Run.is_spent" (defArgs s_Run_is_spent) (defBody s_Run_is_spent) (defScope s_Run_is_spent) .none kV13 dc13 pm13 an13 cd13 ct13) f14 (PySem.W.fnOf "do_plain" "Run.do_plain" (defArgs s_Run_do_plain) (defBody s_Run_do_plain) (defScope s_Run_do_plain) .none kV14 dc14 pm14 an14 cd14 ct14) f15 (PySem.W.fnOf "run" "run" (defArgs s_run) (defBody s_run) (defScope s_run) (.ref dt15) kV15 dc15 pm15 an15 cd15 ct15) dv15 f16 (PySem.W.fnOf "_law_cell" "_law_cell" (defArgs s__law_cell) (defBody s__law_cell) (defScope s__law_cell) .none kV16 dc16 pm16 an16 cd16 ct16) f17 (PySem.W.fnOf "_law_mixed" "_law_mixed" (defArgs s__law_mixed) (defBody s__law_mixed) (defScope s__law_mixed) .none kV17 dc17 pm17 an17 cd17 ct17) f18 (PySem.W.fnOf "_law_alike" "_law_alike" (defArgs s__law_alike) (defBody s__law_alike) (defScope s__law_alike) .none kV18 dc18 pm18 an18 cd18 ct18) f19 (PySem.W.fnOf "_law_many" "_law_many" (defArgs s__law_many) (defBody s__law_many) (defScope s__law_many) .none kV19 dc19 pm19 an19 cd19 ct19) f20 (PySem.W.fnOf "_law_body" "_law_body" (defArgs s__law_body) (defBody s__law_body) (defScope s__law_body) .none kV20 dc20 pm20 an20 cd20 ct20) fa (PySem.W.fnOf "law" "law" (defArgs s_law) (defBody s_law) (defScope s_law) .none kV21 dc21 pm21 an21 cd21 ct21) A_LOOPS A_LOOKERS tk_WHEEL c_Queue c_Run) := Tx.mk F0 b0 F1 b1 (PySem.W.mg_of X G a1) F2 b2 (PySem.W.mg_of X G a2) F3 b3 (PySem.W.mg_of X G a3) F4 b4 (PySem.W.mg_of X G a4) F5 b5 (PySem.W.mg_of X G a5) F6 b6 (PySem.W.mg_of X G a6) F7 b7 F8 b8 F9 b9 F10 b10 F11 b11 F12 b12 F13 b13 F14 b14 F15 bd15 b15 (PySem.W.mg_of X G a15) F16 b16 (PySem.W.mg_of X G a16) F17 b17 (PySem.W.mg_of X G a17) F18 b18 (PySem.W.mg_of X G a18) F19 b19 (PySem.W.mg_of X G a19) F20 b20 (PySem.W.mg_of X G a20) F21 b21 (PySem.W.mg_of X G a21) (PySem.W.mg_none_of X G z_bool) (PySem.W.mg_none_of X G z_dict) (PySem.W.mg_none_of X G z_enumerate) (PySem.W.mg_none_of X G z_int) (PySem.W.mg_none_of X G z_isinstance) (PySem.W.mg_none_of X G z_len) (PySem.W.mg_none_of X G z_list) (PySem.W.mg_none_of X G z_max) (PySem.W.mg_none_of X G z_range) (PySem.W.mg_none_of X G z_set) (PySem.W.mg_none_of X G z_sorted) (PySem.W.mg_none_of X G z_str) (PySem.W.mg_none_of X G z_tuple) (PySem.W.mg_none_of X G z_zip) (PySem.W.mg_of X G c_LOOPS) (fun _ => .inr ⟨_, _, _, t_LOOPS, rfl, rfl, v_LOOPS.1, v_LOOPS.2⟩) (PySem.W.mg_of X G c_LOOKERS) (fun _ => .inr ⟨_, _, _, t_LOOKERS, rfl, rfl, v_LOOKERS.1, v_LOOKERS.2⟩) (PySem.W.mg_of X G c_WHEEL) (PySem.W.mg_of X G ac_Queue) (Cls.mk p1_Queue p2_Queue p3_Queue p4_Queue) (Mk.mk p5_Queue q0 fn0 p6_Queue) nf_Queue_laid nf_Queue_gone (PySem.W.mg_of X G ac_Run) (Cls.mk p1_Run p2_Run p3_Run p4_Run) (Mk.mk p5_Run q7 fn7 p6_Run) (Meth.mk q8 fn8 k8) (Meth.mk q9 fn9 k9) (Meth.mk q10 fn10 k10) (Meth.mk q11 fn11 k11) (Meth.mk q12 fn12 k12) (Meth.mk q13 fn13 k13) (Meth.mk q14 fn14 k14) nf_Run_numbers nf_Run_queues nf_Run_outs nf_Run_steps nf_Run_most
  exact ⟨PySem.W.fnOf "law" "law" (defArgs s_law) (defBody s_law) (defScope s_law) .none kV21 dc21 pm21 an21 cd21 ct21, fun s v => .of_eq rfl, fun base _ _ => ok_law T⟩
theorem walk {l : PySem.W.OpenLaw} {q : Program} {loose : List Str} {XP : (Str → Option Value) → Heap → Prop} {YP : World → Heap → Prop} {d : DefRec} {K : Params → PySem.W.Frag} (hn : l.most = some 63) (hdf : d.params.defaults = [])
    (hY : ∀ (w : World) (h : Heap), YP w h → (K w.params).In h)
    (F : ∀ (w : World) (mg : Str → Option Value) (fa : Addr) (h : Heap), (K w.params).In h → h.Ns mainGlobals mg → mg d.name = some (.ref fa) →
      ∃ fd : FuncData, (∀ (s : Shared) (u : Value), BindsTo s fd ⟨[u], []⟩ [("_law_script", u)]) ∧ ∀ base : Heap, (K w.params).In base → base.Ns mainGlobals mg → FnOk l.prog w (K w.params) mg base CX0 20 fa fd ["_law_script"] (sp_law (K w.params))) :
    PySem.W.WalkO q loose XP YP l.row.toRowW d [] (fun f vs => PySem.call f vs) :=
  L2.walk_ofB (n := 63) (k := 20) (x := "_law_script") (CX := fun _ => CX0) (sp := fun w => sp_law (K w.params)) hn (by decide) hdf ⟨rfl, by decide, by decide⟩ hY F (fun _ _ a ns hl hb hO hS => ⟨a, ns, rfl, hS, hl, hb, hO, fun _ => rfl⟩) fun _ _ _ _ _ z => z
noncomputable def dlaw : PySem.DefRec := ⟨"law", defArgs s_law, defBody s_law, defScope s_law, defPos s_law⟩
theorem goT_top {p : Program} {w : World} {A : Option Value} : ∀ {m : Nat} {x x' : PySem.W.SharedT} {y : Thread}, goT p w A m x y = some x' → PySem.W.topRun PySem.treeTable p w 11 A m x.abs y = some x'.abs
  | 0, _, _, _, h => nomatch h
  | m + 1, x, x', y, h => by
    unfold goT at h; unfold PySem.W.topRun
    cases a : PySem.W.through y with
    | true => rw [a] at h; cases h; rfl
    | false =>
      rw [a] at h
      cases b : PySem.W.stepOk 11 A y with
      | false => rw [b] at h; cases h
      | true =>
        rw [b] at h
        cases c : PySem.W.stepT (denote PySem.treeTable) p w x y with
        | none => rw [c] at h; cases h
        | some z => rw [c] at h; rw [PySem.W.stepT_spec c]; exact goT_top h
theorem left_tree {p q : Program} {loose : List Str} {Xt : Shared → Bool} {α : Type} {Yf : Shared → α} {Ya : World → α} {N : Nat} (e : PySem.W.opening p = PySem.W.plainProg p.main.scope.names) (hN : Nat.ble 600 N = true) (f : ∀ s, fenceModules? p s = some s)
    (H : ∀ w, EndsT p q loose Xt Yf Ya N w) : PySem.W.LeftO p q loose Xt Yf Ya N := fun w => by
  obtain ⟨⟨h, gs, d, k, os⟩, u, u'⟩ := Option.map_eq_some_iff.mp (PySem.W.boot_open e hN f w)
  obtain ⟨rfl, rfl, rfl, rfl⟩ : h = PySem.W.boot_heap w.params ∧ gs = #[] ∧ d = PySem.W.boot_drawn ∧ k = PySem.W.boot_toks := by simpa using u'
  obtain ⟨s, r, l⟩ := Option.map_eq_some_iff.mp (H w os)
  have r := goT_top r
  rw [bs_is] at r
  obtain ⟨l1, l2, l3⟩ : _ ∧ _ ∧ _ := by simpa only [Prod.mk.injEq] using l
  have z1 : ((PySem.W.boot_heap w.params).isNs mainGlobals && (#[] : Array GenState).size == 0) = true := by kernel_rfl
  have z2 : (PySem.W.boot_heap w.params).objs.size = 11 := by kernel_rfl
  have t : PySem.W.topFrom PySem.treeTable p w N ⟨PySem.W.boot_heap w.params, #[], PySem.W.boot_drawn, PySem.W.boot_toks, os⟩ = some s.abs := by
    unfold PySem.W.topFrom
    dsimp only
    rw [z1, z2, r]
    show (match PySem.W.staticsOk (PySem.importedModules p.main.body) (PySem.W.boot_heap w.params) s.abs.heap && PySem.W.namesBound p s.abs.heap && PySem.W.gensDone s.abs && PySem.W.laidKept (PySem.W.boot_heap w.params) s.abs.heap with | true => _ | false => _) = _
    rw [l1]
  unfold PySem.W.openEnds
  rw [u]
  show (PySem.W.topFrom PySem.treeTable p w N _).map _ = _
  rw [t]
  exact congrArg some (Prod.ext l2 l3)
set_option maxHeartbeats 0 in
theorem left : PySem.W.LeftO PySem.Challenge.pw_handflow_k15_numbers_asked vw [("run" : Str)] xt hkH.obs hkH.val 3984 := left_tree (by kernel_rfl) (by decide) (fun _ => by kernel_rfl) leftF
set_option maxHeartbeats 0 in
theorem said : PySem.W.OpenLaw.wellSaid PySem.Challenge.rw_handflow_k15_numbers_asked = true := by kernel_rfl
end K15
open PySem PySem.W PyProof.Rows
set_option maxRecDepth 100000 in
set_option maxHeartbeats 0 in
theorem PySem.Challenge.cw_handflow_k15_numbers_asked_holds : PySem.Challenge.rw_handflow_k15_numbers_asked.Holds := by
  w_on; refine holds_law K15.said fun said => ?_
  refine holds_open (q := K15.vw) (loose := [("run" : Str)]) (Xt := K15.xt) (XP := XL K15.vw []) (Yf := Hook.obs K15.hkH) (Ya := Hook.val K15.hkH) (YP := Hook.says K15.hkH) (d := K15.dlaw) (kwd := []) (N := 3984) K15.left (Hook.of K15.hkH) (Hook.keeps K15.hkH) (fun s e => xl_of s (Bool.and_eq_true_iff.mp e).1) XL.keeps (by kernel_rfl) (by kernel_rfl) (by kernel_rfl) (fun s e => recFacts_of (Bool.and_eq_true_iff.mp e).2) (by rfl) (by first | assumption | decide +kernel) (by decide +kernel) ⟨rfl, rfl, rfl, rfl, rfl, by decide +kernel⟩ ?hw ?hc
  (case hw => w_witness2)
  refine K15.walk (l := PySem.Challenge.rw_handflow_k15_numbers_asked) rfl (by kernel_rfl) (K := K15.hk) (fun w h Y => PySem.W.kIn_of (K := K15.hk) (as := K15.hks) (e := K15.hk_as) Y) ?F
  case F =>
    k_fill
    intro w mg fa h KX G hmg
    refine' K15.all_mk KX G hmg ?ac_Queue ?p1_Queue ?p2_Queue ?p3_Queue ?p4_Queue ?p5_Queue ?p6_Queue ?nf_Queue_laid ?nf_Queue_gone ?ac_Run ?p1_Run ?p2_Run ?p3_Run ?p4_Run ?p5_Run ?p6_Run ?nf_Run_numbers ?nf_Run_queues ?nf_Run_outs ?nf_Run_steps ?nf_Run_most ?q0 ?fn0 ?l0 ?c0 ?k0 ?a1 ?l1 ?c1 ?k1 ?a2 ?l2 ?c2 ?k2 ?a3 ?l3 ?c3 ?k3 ?a4 ?l4 ?c4 ?k4 ?a5 ?l5 ?c5 ?k5 ?a6 ?l6 ?c6 ?k6 ?q7 ?fn7 ?l7 ?c7 ?k7 ?q8 ?fn8 ?l8 ?c8 ?k8 ?q9 ?fn9 ?l9 ?c9 ?k9 ?q10 ?fn10 ?l10 ?c10 ?k10 ?q11 ?fn11 ?l11 ?c11 ?k11 ?q12 ?fn12 ?l12 ?c12 ?k12 ?q13 ?fn13 ?l13 ?c13 ?k13 ?q14 ?fn14 ?l14 ?c14 ?k14 ?a15 ?l15 ?td15 ?V_td15 ?c15 ?k15 ?a16 ?l16 ?c16 ?k16 ?a17 ?l17 ?c17 ?k17 ?a18 ?l18 ?c18 ?k18 ?a19 ?l19 ?c19 ?k19 ?a20 ?l20 ?c20 ?k20 ?a21 ?l21 ?c21 ?k21 ?z_bool ?z_dict ?z_enumerate ?z_int ?z_isinstance ?z_len ?z_list ?z_max ?z_range ?z_set ?z_sorted ?z_str ?z_tuple ?z_zip ?c_LOOPS ?t_LOOPS ?v_LOOPS ?c_LOOKERS ?t_LOOKERS ?v_LOOKERS ?c_WHEEL
    (case ac_Queue => k_is)
    (case p1_Queue => k_is)
    (case p2_Queue => k_is)
    (case p3_Queue => k_is)
    (case p4_Queue => k_is)
    (case p5_Queue => k_is)
    (case p6_Queue => k_is)
    (case nf_Queue_laid => k_is)
    (case nf_Queue_gone => k_is)
    (case ac_Run => k_is)
    (case p1_Run => k_is)
    (case p2_Run => k_is)
    (case p3_Run => k_is)
    (case p4_Run => k_is)
    (case p5_Run => k_is)
    (case p6_Run => k_is)
    (case nf_Run_numbers => k_is)
    (case nf_Run_queues => k_is)
    (case nf_Run_outs => k_is)
    (case nf_Run_steps => k_is)
    (case nf_Run_most => k_is)
    (case q0 => k_is)
    (case fn0 => k_is)
    (case l0 => k_is)
    (case c0 => k_is)
    (case k0 => k_is)
    (case a1 => k_is)
    (case l1 => k_is)
    (case c1 => k_is)
    (case k1 => k_is)
    (case a2 => k_is)
    (case l2 => k_is)
    (case c2 => k_is)
    (case k2 => k_is)
    (case a3 => k_is)
    (case l3 => k_is)
    (case c3 => k_is)
    (case k3 => k_is)
    (case a4 => k_is)
    (case l4 => k_is)
    (case c4 => k_is)
    (case k4 => k_is)
    (case a5 => k_is)
    (case l5 => k_is)
    (case c5 => k_is)
    (case k5 => k_is)
    (case a6 => k_is)
    (case l6 => k_is)
    (case c6 => k_is)
    (case k6 => k_is)
    (case q7 => k_is)
    (case fn7 => k_is)
    (case l7 => k_is)
    (case c7 => k_is)
    (case k7 => k_is)
    (case q8 => k_is)
    (case fn8 => k_is)
    (case l8 => k_is)
    (case c8 => k_is)
    (case k8 => k_is)
    (case q9 => k_is)
    (case fn9 => k_is)
    (case l9 => k_is)
    (case c9 => k_is)
    (case k9 => k_is)
    (case q10 => k_is)
    (case fn10 => k_is)
    (case l10 => k_is)
    (case c10 => k_is)
    (case k10 => k_is)
    (case q11 => k_is)
    (case fn11 => k_is)
    (case l11 => k_is)
    (case c11 => k_is)
    (case k11 => k_is)
    (case q12 => k_is)
    (case fn12 => k_is)
    (case l12 => k_is)
    (case c12 => k_is)
    (case k12 => k_is)
    (case q13 => k_is)
    (case fn13 => k_is)
    (case l13 => k_is)
    (case c13 => k_is)
    (case k13 => k_is)
    (case q14 => k_is)
    (case fn14 => k_is)
    (case l14 => k_is)
    (case c14 => k_is)
    (case k14 => k_is)
    (case a15 => k_is)
    (case l15 => k_is)
    (case td15 => k_is)
    (case V_td15 => rfl)
    (case c15 => k_is)
    (case k15 => k_is)
    (case a16 => k_is)
    (case l16 => k_is)
    (case c16 => k_is)
    (case k16 => k_is)
    (case a17 => k_is)
    (case l17 => k_is)
    (case c17 => k_is)
    (case k17 => k_is)
    (case a18 => k_is)
    (case l18 => k_is)
    (case c18 => k_is)
    (case k18 => k_is)
    (case a19 => k_is)
    (case l19 => k_is)
    (case c19 => k_is)
    (case k19 => k_is)
    (case a20 => k_is)
    (case l20 => k_is)
    (case c20 => k_is)
    (case k20 => k_is)
    (case a21 => k_is)
    (case l21 => k_is)
    (case c21 => k_is)
    (case k21 => k_is)
    (case z_bool => k_is)
    (case z_dict => k_is)
    (case z_enumerate => k_is)
    (case z_int => k_is)
    (case z_isinstance => k_is)
    (case z_len => k_is)
    (case z_list => k_is)
    (case z_max => k_is)
    (case z_range => k_is)
    (case z_set => k_is)
    (case z_sorted => k_is)
    (case z_str => k_is)
    (case z_tuple => k_is)
    (case z_zip => k_is)
    (case c_LOOPS => k_is)
    (case t_LOOPS => k_is)
    (case v_LOOPS => exact ⟨by decide, .cons ⟨_, rfl⟩ (.cons ⟨_, rfl⟩ (.nil))⟩)
    (case c_LOOKERS => k_is)
    (case t_LOOKERS => k_is)
    (case v_LOOKERS => exact ⟨by decide, .cons ⟨_, rfl⟩ (.cons ⟨_, rfl⟩ (.nil))⟩)
    (case c_WHEEL => k_is)
