import PyProof.Rows.All
import Wide.All
import OpenK.AllK
import Wide.FinOn
import Lean
import PyProof.EqAt
import PyProof.EqKinds
import PyProof.TupleCall
import PySem.Challenge.RW_handflow_k14_step_by_step
set_option Elab.async false
set_option linter.all false
set_option maxRecDepth 100000
section
open PySem PySem.Spec PyProof.Rows PySem.W
def q9:=@wpAny_bind
def qb:=@List.length_map
def qc:=@Heap.get?_push_of_some
def qe:=@List.length_append
def qf:=@List.getElem?_eq_getElem
def qg:=@wpAny_pure
def qh:=@Nat.le_refl
def qi:=@List.getElem?_eq_some_iff
def qj:=@PySem.F.plainAttrs_list
def qk:=@List.mem_append
def qm:=@Bool.false_ne_true
def qp:=@List.getD_eq_getElem?_getD
def qt:=@List.mem_cons_of_mem
def qv:=@List.mem_cons_self
def qw:=@Heap.get?_push_size
def qy:=@Heap.lt_size
def qz:=@List.take_add_one
def qA:=@Nat.zero_le
def qB:=@List.mem_cons
def qC:=@PySem.F.slot_list_append
def qD:=@PySem.F.type_list_append
def qF:=@List.append_nil
def qG:=@Nat.le_trans
def qH:=@List.mem_of_getElem?
def qI:=@List.length_cons
def qJ:=@List.size_toArray
def qK:=@Nat.lt_of_lt_of_le
def qL:=@List.getElem?_map
def qM:=@List.flatMap_cons
def qN:=@Nat.ne_of_lt
def qO:=@List.take_length
def qP:=@List.mem_append_right
def qQ:=@Option.some.inj
def qR:=@List.length_take
def qS:=@List.getElem?_append_right
end
namespace L2
open PySem PySem.Spec PyProof.Rows PySem.W
def inClass (s:Stmt) (j:Nat):Stmt:=match s with
 |.ClassDef _ _ _ body _ _ _ _ _ _ _=>body.getD j (.Pass ⟨0,0,0,0⟩)
 |_=>.Pass ⟨0,0,0,0⟩
def z0a (s:Stmt):Arguments:=match s with
 |.FunctionDef _ a _ _ _ _ _ _ _ _=>a
 |_=>{ posonlyargs:=[],args:=[],vararg:=none,kwonlyargs:=[],kw_defaults:=[],kwarg:=none,defaults:=[] }
def z09 (s:Stmt):List Stmt:=match s with
 |.FunctionDef _ _ b _ _ _ _ _ _ _=>b
 |_=>[]
def z02 (s:Stmt):Scope:=match s with
 |.FunctionDef _ _ _ _ _ _ sc _ _ _=>sc
 |_=>{ kind:=.function,names:=[],isGenerator:=false,isCoroutine:=false }
end L2
namespace K14
open PySem L2
def top (i:Nat):Stmt:=PySem.Challenge.pw_handflow_k14_step_by_step.main.body.getD i (.Pass ⟨0,0,0,0⟩)
noncomputable def defPos (s:Stmt):Pos:=match s with
 |.FunctionDef _ _ _ _ _ _ _ _ _ p=>p
 |_=>⟨0,0,0,0⟩
abbrev vs (x:String) (t:Nat):Value:=.str (Str.ofString x) t
abbrev de (P:Params) (x:String) (t:Nat) (v:Value):DictEntry:=⟨PyData.keyHash P (Str.ofString x),vs x t,v⟩
noncomputable def hk:Params->PySem.W.Frag:=fun P=>
 (nat_lit 2,Obj.mk .none none (Data.dict #[]) #[]) ::
 (nat_lit 3,Obj.mk (.type "dict") none (Data.dict #[de P "__name__" 165 (vs "law_handflow_k14_step_by_step" 510),de P "__doc__" 166 .none,de P "__package__" 167 .none,de P "__loader__" 168 (.builtin "__main__.__loader__#opaque"),de P "__spec__" 169 .none,de P "__annotations__" 170 (.ref 6),de P "__builtins__" 171 (.ref 4),de P "__file__" 173 (vs "/claim/cut.py" 172),de P "__cached__" 174 .none,de P "_wall" 193 (.ref 21),de P "FlowError" 223 (.ref 38),de P "Starved" 239 (.ref 51),de P "Queue" 308 (.ref 105),de P "LOOPS" 313 (.ref 110),de P "LOOKERS" 316 (.ref 111),de P "named" 325 (.ref 118),de P "variables_of" 332 (.ref 125),de P "all_deeds" 342 (.ref 132),de P "blocks_within" 349 (.ref 139),de P "names_in" 355 (.ref 144),de P "WHEEL" 359 (.int 1000000000000000000000000000000 358),de P "done" 368 (.ref 151),de P "reckoned" 377 (.ref 158),de P "beginnings" 383 (.ref 163),de P "Run" 502 (.ref 248),de P "run" 509 (.ref 258),de P "_law_cell" 519 (.ref 265),de P "_law_mixed" 528 (.ref 272),de P "_law_names" 534 (.ref 277),de P "_law_number" 543 (.ref 284),de P "_law_value" 552 (.ref 291),de P "_law_simple" 567 (.ref 298),de P "_law_block" 575 (.ref 305),de P "_law_opened" 586 (.ref 312),de P "_law_grown" 605 (.ref 319),de P "_law_named" 618 (.ref 326),de P "_law_whole" 625 (.ref 333),de P "_law_formed" 631 (.ref 338),de P "_law_begins" 637 (.ref 343),de P "_law_onward" 643 (.ref 348),de P "_law_asked" 655 (.ref 355),de P "_law_chain" 661 (.ref 360),de P "law" 667 (.ref 365)] 43) #[]) ::
 (nat_lit 20,Obj.mk (.type "code") none (Data.fields #[vs "_wall" 187,vs "_wall" 188,vs "/claim/cut.py" 189,.int 1 0,.int 1 0,.int 0 0,.int 0 0,.int 3 0,.ref 15,.bool true,.int 181 0,.ref 16,.none,.ref 17,.ref 18,.ref 19,.int 191 0,.int 1 0,vs "/claim/cut.py" 192]) #[]) ::
 (nat_lit 21,Obj.mk (.type "function") none (.func (PySem.W.fnOf "_wall" "_wall" (z0a (top 0)) (z09 (top 0)) (z02 (top 0)) .none .none .none (vs "__main__" 164) none (.ref 20) .none)) #[]) ::
 (nat_lit 22,Obj.mk (.type "tuple") none (Data.seq #[.type "ValueError"]) #[]) ::
 (nat_lit 34,Obj.mk (.type "code") none (Data.fields #[vs "__init__" 208,vs "FlowError.__init__" 209,vs "/claim/cut.py" 210,.int 7 0,.int 3 0,.int 0 0,.int 0 0,.int 3 0,.ref 29,.bool true,.int 181 0,.ref 30,.none,.ref 31,.ref 32,.ref 33,.int 214 0,.int 7 0,vs "/claim/cut.py" 215]) #[]) ::
 (nat_lit 35,Obj.mk (.type "function") none (.func (PySem.W.fnOf "__init__" "FlowError.__init__" (z0a (inClass (top 2) 0)) (z09 (inClass (top 2) 0)) (z02 (inClass (top 2) 0)) .none .none .none (vs "handflow.errors" 194) none (.ref 34) .none)) #[]) ::
 (nat_lit 36,Obj.mk (.type "tuple") none (Data.seq #[vs "place" 217]) #[]) ::
 (nat_lit 37,Obj.mk (.type "dict") none (Data.dict #[de P "__module__" 203 (vs "handflow.errors" 194),de P "__firstlineno__" 207 (.int 5 206),de P "__init__" 216 (.ref 35),de P "__static_attributes__" 218 (.ref 36),de P "__weakref__" 220 (.ref 39),de P "__doc__" 221 .none] 3) #[]) ::
 (nat_lit 38,Obj.mk (.type "type") none (Data.cls (ClassData.mk (Str.ofString "FlowError") [.type "ValueError"] [.ref 38,.type "ValueError",.type "Exception",.type "BaseException",.type "object"] 37 (Str.ofString "FlowError") true [] [.ref 51] false none false)) #[some (.ref 22),none,some (vs "FlowError" 196),some (vs "FlowError" 204),some (.builtin "ValueError.__new__"),some (.bool true)]) ::
 (nat_lit 39,Obj.mk (.type "getset_descriptor") none (Data.fields #[vs "__weakref__" 219,.ref 38,.builtin "ExceptionGroup.__weakref__",.none]) #[]) ::
 (nat_lit 42,Obj.mk (.type "tuple") none (Data.seq #[.ref 38]) #[]) ::
 (nat_lit 49,Obj.mk (.type "tuple") none (Data.seq #[]) #[]) ::
 (nat_lit 50,Obj.mk (.type "dict") none (Data.dict #[de P "__module__" 231 (vs "handflow.errors" 194),de P "__firstlineno__" 235 (.int 10 234),de P "__static_attributes__" 236 (.ref 49),de P "__doc__" 237 .none] 2) #[]) ::
 (nat_lit 51,Obj.mk (.type "type") none (Data.cls (ClassData.mk (Str.ofString "Starved") [.ref 38] [.ref 51,.ref 38,.type "ValueError",.type "Exception",.type "BaseException",.type "object"] 50 (Str.ofString "Starved") true [] [] false none false)) #[some (.ref 42),none,some (vs "Starved" 224),some (vs "Starved" 232),some (.builtin "ValueError.__new__"),some (.bool true)]) ::
 (nat_lit 66,Obj.mk (.type "code") none (Data.fields #[vs "__init__" 254,vs "Queue.__init__" 255,vs "/claim/cut.py" 256,.int 15 0,.int 2 0,.int 0 0,.int 0 0,.int 3 0,.ref 61,.bool true,.int 181 0,.ref 62,.none,.ref 63,.ref 64,.ref 65,.int 259 0,.int 15 0,vs "/claim/cut.py" 260]) #[]) ::
 (nat_lit 67,Obj.mk (.type "function") none (.func (PySem.W.fnOf "__init__" "Queue.__init__" (z0a (inClass (top 5) 0)) (z09 (inClass (top 5) 0)) (z02 (inClass (top 5) 0)) .none .none .none (vs "handflow.queues" 240) none (.ref 66) .none)) #[]) ::
 (nat_lit 73,Obj.mk (.type "code") none (Data.fields #[vs "standing" 262,vs "Queue.standing" 263,vs "/claim/cut.py" 264,.int 19 0,.int 1 0,.int 0 0,.int 0 0,.int 3 0,.ref 68,.bool true,.int 181 0,.ref 69,.none,.ref 70,.ref 71,.ref 72,.int 266 0,.int 19 0,vs "/claim/cut.py" 267]) #[]) ::
 (nat_lit 74,Obj.mk (.type "function") none (.func (PySem.W.fnOf "standing" "Queue.standing" (z0a (inClass (top 5) 1)) (z09 (inClass (top 5) 1)) (z02 (inClass (top 5) 1)) .none .none .none (vs "handflow.queues" 240) none (.ref 73) .none)) #[]) ::
 (nat_lit 80,Obj.mk (.type "code") none (Data.fields #[vs "head" 269,vs "Queue.head" 270,vs "/claim/cut.py" 271,.int 22 0,.int 1 0,.int 0 0,.int 0 0,.int 3 0,.ref 75,.bool true,.int 181 0,.ref 76,.none,.ref 77,.ref 78,.ref 79,.int 273 0,.int 22 0,vs "/claim/cut.py" 274]) #[]) ::
 (nat_lit 81,Obj.mk (.type "function") none (.func (PySem.W.fnOf "head" "Queue.head" (z0a (inClass (top 5) 2)) (z09 (inClass (top 5) 2)) (z02 (inClass (top 5) 2)) .none .none .none (vs "handflow.queues" 240) none (.ref 80) .none)) #[]) ::
 (nat_lit 87,Obj.mk (.type "code") none (Data.fields #[vs "lay" 276,vs "Queue.lay" 277,vs "/claim/cut.py" 278,.int 25 0,.int 2 0,.int 0 0,.int 0 0,.int 3 0,.ref 82,.bool true,.int 181 0,.ref 83,.none,.ref 84,.ref 85,.ref 86,.int 281 0,.int 25 0,vs "/claim/cut.py" 282]) #[]) ::
 (nat_lit 88,Obj.mk (.type "function") none (.func (PySem.W.fnOf "lay" "Queue.lay" (z0a (inClass (top 5) 3)) (z09 (inClass (top 5) 3)) (z02 (inClass (top 5) 3)) .none .none .none (vs "handflow.queues" 240) none (.ref 87) .none)) #[]) ::
 (nat_lit 94,Obj.mk (.type "code") none (Data.fields #[vs "take" 284,vs "Queue.take" 285,vs "/claim/cut.py" 286,.int 28 0,.int 1 0,.int 0 0,.int 0 0,.int 3 0,.ref 89,.bool true,.int 181 0,.ref 90,.none,.ref 91,.ref 92,.ref 93,.int 289 0,.int 28 0,vs "/claim/cut.py" 290]) #[]) ::
 (nat_lit 95,Obj.mk (.type "function") none (.func (PySem.W.fnOf "take" "Queue.take" (z0a (inClass (top 5) 4)) (z09 (inClass (top 5) 4)) (z02 (inClass (top 5) 4)) .none .none .none (vs "handflow.queues" 240) none (.ref 94) .none)) #[]) ::
 (nat_lit 101,Obj.mk (.type "code") none (Data.fields #[vs "rest" 292,vs "Queue.rest" 293,vs "/claim/cut.py" 294,.int 33 0,.int 1 0,.int 0 0,.int 0 0,.int 3 0,.ref 96,.bool true,.int 181 0,.ref 97,.none,.ref 98,.ref 99,.ref 100,.int 296 0,.int 33 0,vs "/claim/cut.py" 297]) #[]) ::
 (nat_lit 102,Obj.mk (.type "function") none (.func (PySem.W.fnOf "rest" "Queue.rest" (z0a (inClass (top 5) 5)) (z09 (inClass (top 5) 5)) (z02 (inClass (top 5) 5)) .none .none .none (vs "handflow.queues" 240) none (.ref 101) .none)) #[]) ::
 (nat_lit 103,Obj.mk (.type "tuple") none (Data.seq #[vs "gone" 299,vs "laid" 300]) #[]) ::
 (nat_lit 104,Obj.mk (.type "dict") none (Data.dict #[de P "__module__" 249 (vs "handflow.queues" 240),de P "__firstlineno__" 253 (.int 13 252),de P "__init__" 261 (.ref 67),de P "standing" 268 (.ref 74),de P "head" 275 (.ref 81),de P "lay" 283 (.ref 88),de P "take" 291 (.ref 95),de P "rest" 298 (.ref 102),de P "__static_attributes__" 301 (.ref 103),de P "__dict__" 303 (.ref 106),de P "__weakref__" 305 (.ref 107),de P "__doc__" 306 .none] 4) #[]) ::
 (nat_lit 105,Obj.mk (.type "type") none (Data.cls (ClassData.mk (Str.ofString "Queue") [.type "object"] [.ref 105,.type "object"] 104 (Str.ofString "Queue") true [] [] false none false)) #[none,none,some (vs "Queue" 242),some (vs "Queue" 250),some (.builtin "object.__new__"),some (.bool true)]) ::
 (nat_lit 106,Obj.mk (.type "getset_descriptor") none (Data.fields #[vs "__dict__" 302,.ref 105,.builtin "function.__dict__",.builtin "function.__dict__#set"]) #[]) ::
 (nat_lit 107,Obj.mk (.type "getset_descriptor") none (Data.fields #[vs "__weakref__" 304,.ref 105,.builtin "ExceptionGroup.__weakref__",.none]) #[]) ::
 (nat_lit 110,Obj.mk (.type "tuple") none (Data.seq #[vs "while" 311,vs "repeat" 312]) #[]) ::
 (nat_lit 111,Obj.mk (.type "tuple") none (Data.seq #[vs "if" 314,vs "while" 315]) #[]) ::
 (nat_lit 117,Obj.mk (.type "code") none (Data.fields #[vs "named" 317,vs "named" 318,vs "/claim/cut.py" 319,.int 38 0,.int 1 0,.int 0 0,.int 0 0,.int 3 0,.ref 112,.bool true,.int 181 0,.ref 113,.none,.ref 114,.ref 115,.ref 116,.int 323 0,.int 38 0,vs "/claim/cut.py" 324]) #[]) ::
 (nat_lit 118,Obj.mk (.type "function") none (.func (PySem.W.fnOf "named" "named" (z0a (top 9)) (z09 (top 9)) (z02 (top 9)) .none .none .none (vs "handflow.tree" 309) none (.ref 117) .none)) #[]) ::
 (nat_lit 124,Obj.mk (.type "code") none (Data.fields #[vs "variables_of" 326,vs "variables_of" 327,vs "/claim/cut.py" 328,.int 43 0,.int 1 0,.int 0 0,.int 0 0,.int 3 0,.ref 119,.bool true,.int 181 0,.ref 120,.none,.ref 121,.ref 122,.ref 123,.int 330 0,.int 43 0,vs "/claim/cut.py" 331]) #[]) ::
 (nat_lit 125,Obj.mk (.type "function") none (.func (PySem.W.fnOf "variables_of" "variables_of" (z0a (top 10)) (z09 (top 10)) (z02 (top 10)) .none .none .none (vs "handflow.tree" 309) none (.ref 124) .none)) #[]) ::
 (nat_lit 131,Obj.mk (.type "code") none (Data.fields #[vs "all_deeds" 333,vs "all_deeds" 334,vs "/claim/cut.py" 335,.int 45 0,.int 1 0,.int 0 0,.int 0 0,.int 3 0,.ref 126,.bool true,.int 181 0,.ref 127,.none,.ref 128,.ref 129,.ref 130,.int 340 0,.int 45 0,vs "/claim/cut.py" 341]) #[]) ::
 (nat_lit 132,Obj.mk (.type "function") none (.func (PySem.W.fnOf "all_deeds" "all_deeds" (z0a (top 11)) (z09 (top 11)) (z02 (top 11)) .none .none .none (vs "handflow.tree" 309) none (.ref 131) .none)) #[]) ::
 (nat_lit 138,Obj.mk (.type "code") none (Data.fields #[vs "blocks_within" 343,vs "blocks_within" 344,vs "/claim/cut.py" 345,.int 52 0,.int 1 0,.int 0 0,.int 0 0,.int 3 0,.ref 133,.bool true,.int 181 0,.ref 134,.none,.ref 135,.ref 136,.ref 137,.int 347 0,.int 52 0,vs "/claim/cut.py" 348]) #[]) ::
 (nat_lit 139,Obj.mk (.type "function") none (.func (PySem.W.fnOf "blocks_within" "blocks_within" (z0a (top 12)) (z09 (top 12)) (z02 (top 12)) .none .none .none (vs "handflow.tree" 309) none (.ref 138) .none)) #[]) ::
 (nat_lit 143,Obj.mk (.type "code") none (Data.fields #[vs "names_in" 350,vs "names_in" 351,vs "/claim/cut.py" 352,.int 58 0,.int 1 0,.int 0 0,.int 0 0,.int 3 0,.ref 140,.bool true,.int 181 0,.ref 141,.none,.none,.none,.ref 142,.int 353 0,.int 58 0,vs "/claim/cut.py" 354]) #[]) ::
 (nat_lit 144,Obj.mk (.type "function") none (.func (PySem.W.fnOf "names_in" "names_in" (z0a (top 13)) (z09 (top 13)) (z02 (top 13)) .none .none .none (vs "handflow.tree" 309) none (.ref 143) .none)) #[]) ::
 (nat_lit 150,Obj.mk (.type "code") none (Data.fields #[vs "done" 360,vs "done" 361,vs "/claim/cut.py" 362,.int 67 0,.int 3 0,.int 0 0,.int 0 0,.int 3 0,.ref 145,.bool true,.int 181 0,.ref 146,.none,.ref 147,.ref 148,.ref 149,.int 366 0,.int 67 0,vs "/claim/cut.py" 367]) #[]) ::
 (nat_lit 151,Obj.mk (.type "function") none (.func (PySem.W.fnOf "done" "done" (z0a (top 16)) (z09 (top 16)) (z02 (top 16)) .none .none .none (vs "handflow.wheel" 356) none (.ref 150) .none)) #[]) ::
 (nat_lit 157,Obj.mk (.type "code") none (Data.fields #[vs "reckoned" 369,vs "reckoned" 370,vs "/claim/cut.py" 371,.int 75 0,.int 3 0,.int 0 0,.int 0 0,.int 3 0,.ref 152,.bool true,.int 181 0,.ref 153,.none,.ref 154,.ref 155,.ref 156,.int 375 0,.int 75 0,vs "/claim/cut.py" 376]) #[]) ::
 (nat_lit 158,Obj.mk (.type "function") none (.func (PySem.W.fnOf "reckoned" "reckoned" (z0a (top 17)) (z09 (top 17)) (z02 (top 17)) .none .none .none (vs "handflow.wheel" 356) none (.ref 157) .none)) #[]) ::
 (nat_lit 162,Obj.mk (.type "code") none (Data.fields #[vs "beginnings" 378,vs "beginnings" 379,vs "/claim/cut.py" 380,.int 87 0,.int 2 0,.int 0 0,.int 0 0,.int 3 0,.ref 159,.bool true,.int 181 0,.ref 160,.none,.none,.none,.ref 161,.int 381 0,.int 87 0,vs "/claim/cut.py" 382]) #[]) ::
 (nat_lit 163,Obj.mk (.type "function") none (.func (PySem.W.fnOf "beginnings" "beginnings" (z0a (top 18)) (z09 (top 18)) (z02 (top 18)) .none .none .none (vs "handflow.wheel" 356) none (.ref 162) .none)) #[]) ::
 (nat_lit 174,Obj.mk (.type "code") none (Data.fields #[vs "__init__" 398,vs "Run.__init__" 399,vs "/claim/cut.py" 400,.int 95 0,.int 4 0,.int 0 0,.int 0 0,.int 3 0,.ref 171,.bool true,.int 181 0,.ref 172,.none,.none,.none,.ref 173,.int 401 0,.int 95 0,vs "/claim/cut.py" 402]) #[]) ::
 (nat_lit 175,Obj.mk (.type "function") none (.func (PySem.W.fnOf "__init__" "Run.__init__" (z0a (inClass (top 20) 0)) (z09 (inClass (top 20) 0)) (z02 (inClass (top 20) 0)) .none .none .none (vs "handflow.plain" 384) none (.ref 174) .none)) #[]) ::
 (nat_lit 181,Obj.mk (.type "code") none (Data.fields #[vs "do_block" 404,vs "Run.do_block" 405,vs "/claim/cut.py" 406,.int 102 0,.int 2 0,.int 0 0,.int 0 0,.int 3 0,.ref 176,.bool true,.int 181 0,.ref 177,.none,.ref 178,.ref 179,.ref 180,.int 410 0,.int 102 0,vs "/claim/cut.py" 411]) #[]) ::
 (nat_lit 182,Obj.mk (.type "function") none (.func (PySem.W.fnOf "do_block" "Run.do_block" (z0a (inClass (top 20) 1)) (z09 (inClass (top 20) 1)) (z02 (inClass (top 20) 1)) .none .none .none (vs "handflow.plain" 384) none (.ref 181) .none)) #[]) ::
 (nat_lit 188,Obj.mk (.type "code") none (Data.fields #[vs "do_deed" 413,vs "Run.do_deed" 414,vs "/claim/cut.py" 415,.int 108 0,.int 2 0,.int 0 0,.int 0 0,.int 3 0,.ref 183,.bool true,.int 181 0,.ref 184,.none,.ref 185,.ref 186,.ref 187,.int 419 0,.int 108 0,vs "/claim/cut.py" 420]) #[]) ::
 (nat_lit 189,Obj.mk (.type "function") none (.func (PySem.W.fnOf "do_deed" "Run.do_deed" (z0a (inClass (top 20) 2)) (z09 (inClass (top 20) 2)) (z02 (inClass (top 20) 2)) .none .none .none (vs "handflow.plain" 384) none (.ref 188) .none)) #[]) ::
 (nat_lit 195,Obj.mk (.type "code") none (Data.fields #[vs "do_if" 422,vs "Run.do_if" 423,vs "/claim/cut.py" 424,.int 121 0,.int 4 0,.int 0 0,.int 0 0,.int 3 0,.ref 190,.bool true,.int 181 0,.ref 191,.none,.ref 192,.ref 193,.ref 194,.int 429 0,.int 121 0,vs "/claim/cut.py" 430]) #[]) ::
 (nat_lit 196,Obj.mk (.type "function") none (.func (PySem.W.fnOf "do_if" "Run.do_if" (z0a (inClass (top 20) 3)) (z09 (inClass (top 20) 3)) (z02 (inClass (top 20) 3)) .none .none .none (vs "handflow.plain" 384) none (.ref 195) .none)) #[]) ::
 (nat_lit 202,Obj.mk (.type "code") none (Data.fields #[vs "do_while" 432,vs "Run.do_while" 433,vs "/claim/cut.py" 434,.int 126 0,.int 3 0,.int 0 0,.int 0 0,.int 3 0,.ref 197,.bool true,.int 181 0,.ref 198,.none,.ref 199,.ref 200,.ref 201,.int 438 0,.int 126 0,vs "/claim/cut.py" 439]) #[]) ::
 (nat_lit 203,Obj.mk (.type "function") none (.func (PySem.W.fnOf "do_while" "Run.do_while" (z0a (inClass (top 20) 4)) (z09 (inClass (top 20) 4)) (z02 (inClass (top 20) 4)) .none .none .none (vs "handflow.plain" 384) none (.ref 202) .none)) #[]) ::
 (nat_lit 209,Obj.mk (.type "code") none (Data.fields #[vs "do_repeat" 441,vs "Run.do_repeat" 442,vs "/claim/cut.py" 443,.int 134 0,.int 3 0,.int 0 0,.int 0 0,.int 3 0,.ref 204,.bool true,.int 181 0,.ref 205,.none,.ref 206,.ref 207,.ref 208,.int 448 0,.int 134 0,vs "/claim/cut.py" 449]) #[]) ::
 (nat_lit 210,Obj.mk (.type "function") none (.func (PySem.W.fnOf "do_repeat" "Run.do_repeat" (z0a (inClass (top 20) 5)) (z09 (inClass (top 20) 5)) (z02 (inClass (top 20) 5)) .none .none .none (vs "handflow.plain" 384) none (.ref 209) .none)) #[]) ::
 (nat_lit 216,Obj.mk (.type "code") none (Data.fields #[vs "do_step" 451,vs "Run.do_step" 452,vs "/claim/cut.py" 453,.int 140 0,.int 1 0,.int 0 0,.int 0 0,.int 3 0,.ref 211,.bool true,.int 181 0,.ref 212,.none,.ref 213,.ref 214,.ref 215,.int 455 0,.int 140 0,vs "/claim/cut.py" 456]) #[]) ::
 (nat_lit 217,Obj.mk (.type "function") none (.func (PySem.W.fnOf "do_step" "Run.do_step" (z0a (inClass (top 20) 6)) (z09 (inClass (top 20) 6)) (z02 (inClass (top 20) 6)) .none .none .none (vs "handflow.plain" 384) none (.ref 216) .none)) #[]) ::
 (nat_lit 223,Obj.mk (.type "code") none (Data.fields #[vs "is_spent" 458,vs "Run.is_spent" 459,vs "/claim/cut.py" 460,.int 146 0,.int 1 0,.int 0 0,.int 0 0,.int 3 0,.ref 218,.bool true,.int 181 0,.ref 219,.none,.ref 220,.ref 221,.ref 222,.int 462 0,.int 146 0,vs "/claim/cut.py" 463]) #[]) ::
 (nat_lit 224,Obj.mk (.type "function") none (.func (PySem.W.fnOf "is_spent" "Run.is_spent" (z0a (inClass (top 20) 7)) (z09 (inClass (top 20) 7)) (z02 (inClass (top 20) 7)) .none .none .none (vs "handflow.plain" 384) none (.ref 223) .none)) #[]) ::
 (nat_lit 230,Obj.mk (.type "code") none (Data.fields #[vs "do_plain" 465,vs "Run.do_plain" 466,vs "/claim/cut.py" 467,.int 149 0,.int 2 0,.int 0 0,.int 0 0,.int 3 0,.ref 225,.bool true,.int 181 0,.ref 226,.none,.ref 227,.ref 228,.ref 229,.int 471 0,.int 149 0,vs "/claim/cut.py" 472]) #[]) ::
 (nat_lit 231,Obj.mk (.type "function") none (.func (PySem.W.fnOf "do_plain" "Run.do_plain" (z0a (inClass (top 20) 8)) (z09 (inClass (top 20) 8)) (z02 (inClass (top 20) 8)) .none .none .none (vs "handflow.plain" 384) none (.ref 230) .none)) #[]) ::
 (nat_lit 237,Obj.mk (.type "code") none (Data.fields #[vs "number_of" 474,vs "Run.number_of" 475,vs "/claim/cut.py" 476,.int 160 0,.int 2 0,.int 0 0,.int 0 0,.int 3 0,.ref 232,.bool true,.int 181 0,.ref 233,.none,.ref 234,.ref 235,.ref 236,.int 479 0,.int 160 0,vs "/claim/cut.py" 480]) #[]) ::
 (nat_lit 238,Obj.mk (.type "function") none (.func (PySem.W.fnOf "number_of" "Run.number_of" (z0a (inClass (top 20) 9)) (z09 (inClass (top 20) 9)) (z02 (inClass (top 20) 9)) .none .none .none (vs "handflow.plain" 384) none (.ref 237) .none)) #[]) ::
 (nat_lit 244,Obj.mk (.type "code") none (Data.fields #[vs "got_from" 482,vs "Run.got_from" 483,vs "/claim/cut.py" 484,.int 163 0,.int 2 0,.int 0 0,.int 0 0,.int 3 0,.ref 239,.bool true,.int 181 0,.ref 240,.none,.ref 241,.ref 242,.ref 243,.int 487 0,.int 163 0,vs "/claim/cut.py" 488]) #[]) ::
 (nat_lit 245,Obj.mk (.type "function") none (.func (PySem.W.fnOf "got_from" "Run.got_from" (z0a (inClass (top 20) 10)) (z09 (inClass (top 20) 10)) (z02 (inClass (top 20) 10)) .none .none .none (vs "handflow.plain" 384) none (.ref 244) .none)) #[]) ::
 (nat_lit 246,Obj.mk (.type "tuple") none (Data.seq #[vs "most" 490,vs "numbers" 491,vs "outs" 492,vs "queues" 493,vs "steps" 494]) #[]) ::
 (nat_lit 247,Obj.mk (.type "dict") none (Data.dict #[de P "__module__" 393 (vs "handflow.plain" 384),de P "__firstlineno__" 397 (.int 93 396),de P "__init__" 403 (.ref 175),de P "do_block" 412 (.ref 182),de P "do_deed" 421 (.ref 189),de P "do_if" 431 (.ref 196),de P "do_while" 440 (.ref 203),de P "do_repeat" 450 (.ref 210),de P "do_step" 457 (.ref 217),de P "is_spent" 464 (.ref 224),de P "do_plain" 473 (.ref 231),de P "number_of" 481 (.ref 238),de P "got_from" 489 (.ref 245),de P "__static_attributes__" 495 (.ref 246),de P "__dict__" 497 (.ref 249),de P "__weakref__" 499 (.ref 250),de P "__doc__" 500 .none] 4) #[]) ::
 (nat_lit 248,Obj.mk (.type "type") none (Data.cls (ClassData.mk (Str.ofString "Run") [.type "object"] [.ref 248,.type "object"] 247 (Str.ofString "Run") true [] [] false none false)) #[none,none,some (vs "Run" 386),some (vs "Run" 394),some (.builtin "object.__new__"),some (.bool true)]) ::
 (nat_lit 249,Obj.mk (.type "getset_descriptor") none (Data.fields #[vs "__dict__" 496,.ref 248,.builtin "function.__dict__",.builtin "function.__dict__#set"]) #[]) ::
 (nat_lit 250,Obj.mk (.type "getset_descriptor") none (Data.fields #[vs "__weakref__" 498,.ref 248,.builtin "ExceptionGroup.__weakref__",.none]) #[]) ::
 (nat_lit 253,Obj.mk (.type "tuple") none (Data.seq #[.int 5000 503]) #[]) ::
 (nat_lit 257,Obj.mk (.type "code") none (Data.fields #[vs "run" 504,vs "run" 505,vs "/claim/cut.py" 506,.int 167 0,.int 3 0,.int 0 0,.int 0 0,.int 3 0,.ref 254,.bool true,.int 181 0,.ref 255,.none,.none,.none,.ref 256,.int 507 0,.int 167 0,vs "/claim/cut.py" 508]) #[]) ::
 (nat_lit 258,Obj.mk (.type "function") none (.func (PySem.W.fnOf "run" "run" (z0a (top 21)) (z09 (top 21)) (z02 (top 21)) (.ref 253) .none .none (vs "handflow.plain" 384) none (.ref 257) .none)) #[]) ::
 (nat_lit 264,Obj.mk (.type "code") none (Data.fields #[vs "_law_cell" 512,vs "_law_cell" 513,vs "/claim/cut.py" 514,.int 175 0,.int 2 0,.int 0 0,.int 0 0,.int 3 0,.ref 259,.bool true,.int 181 0,.ref 260,.none,.ref 261,.ref 262,.ref 263,.int 517 0,.int 175 0,vs "/claim/cut.py" 518]) #[]) ::
 (nat_lit 265,Obj.mk (.type "function") none (.func (PySem.W.fnOf "_law_cell" "_law_cell" (z0a (top 23)) (z09 (top 23)) (z02 (top 23)) .none .none .none (vs "law_handflow_k14_step_by_step" 510) none (.ref 264) .none)) #[]) ::
 (nat_lit 271,Obj.mk (.type "code") none (Data.fields #[vs "_law_mixed" 520,vs "_law_mixed" 521,vs "/claim/cut.py" 522,.int 179 0,.int 2 0,.int 0 0,.int 0 0,.int 3 0,.ref 266,.bool true,.int 181 0,.ref 267,.none,.ref 268,.ref 269,.ref 270,.int 526 0,.int 179 0,vs "/claim/cut.py" 527]) #[]) ::
 (nat_lit 272,Obj.mk (.type "function") none (.func (PySem.W.fnOf "_law_mixed" "_law_mixed" (z0a (top 24)) (z09 (top 24)) (z02 (top 24)) .none .none .none (vs "law_handflow_k14_step_by_step" 510) none (.ref 271) .none)) #[]) ::
 (nat_lit 276,Obj.mk (.type "code") none (Data.fields #[vs "_law_names" 529,vs "_law_names" 530,vs "/claim/cut.py" 531,.int 182 0,.int 2 0,.int 0 0,.int 0 0,.int 3 0,.ref 273,.bool true,.int 181 0,.ref 274,.none,.none,.none,.ref 275,.int 532 0,.int 182 0,vs "/claim/cut.py" 533]) #[]) ::
 (nat_lit 277,Obj.mk (.type "function") none (.func (PySem.W.fnOf "_law_names" "_law_names" (z0a (top 25)) (z09 (top 25)) (z02 (top 25)) .none .none .none (vs "law_handflow_k14_step_by_step" 510) none (.ref 276) .none)) #[]) ::
 (nat_lit 283,Obj.mk (.type "code") none (Data.fields #[vs "_law_number" 535,vs "_law_number" 536,vs "/claim/cut.py" 537,.int 198 0,.int 2 0,.int 0 0,.int 0 0,.int 3 0,.ref 278,.bool true,.int 181 0,.ref 279,.none,.ref 280,.ref 281,.ref 282,.int 541 0,.int 198 0,vs "/claim/cut.py" 542]) #[]) ::
 (nat_lit 284,Obj.mk (.type "function") none (.func (PySem.W.fnOf "_law_number" "_law_number" (z0a (top 26)) (z09 (top 26)) (z02 (top 26)) .none .none .none (vs "law_handflow_k14_step_by_step" 510) none (.ref 283) .none)) #[]) ::
 (nat_lit 290,Obj.mk (.type "code") none (Data.fields #[vs "_law_value" 544,vs "_law_value" 545,vs "/claim/cut.py" 546,.int 207 0,.int 3 0,.int 0 0,.int 0 0,.int 3 0,.ref 285,.bool true,.int 181 0,.ref 286,.none,.ref 287,.ref 288,.ref 289,.int 550 0,.int 207 0,vs "/claim/cut.py" 551]) #[]) ::
 (nat_lit 291,Obj.mk (.type "function") none (.func (PySem.W.fnOf "_law_value" "_law_value" (z0a (top 27)) (z09 (top 27)) (z02 (top 27)) .none .none .none (vs "law_handflow_k14_step_by_step" 510) none (.ref 290) .none)) #[]) ::
 (nat_lit 297,Obj.mk (.type "code") none (Data.fields #[vs "_law_simple" 553,vs "_law_simple" 554,vs "/claim/cut.py" 555,.int 211 0,.int 5 0,.int 0 0,.int 0 0,.int 3 0,.ref 292,.bool true,.int 181 0,.ref 293,.none,.ref 294,.ref 295,.ref 296,.int 565 0,.int 211 0,vs "/claim/cut.py" 566]) #[]) ::
 (nat_lit 298,Obj.mk (.type "function") none (.func (PySem.W.fnOf "_law_simple" "_law_simple" (z0a (top 28)) (z09 (top 28)) (z02 (top 28)) .none .none .none (vs "law_handflow_k14_step_by_step" 510) none (.ref 297) .none)) #[]) ::
 (nat_lit 304,Obj.mk (.type "code") none (Data.fields #[vs "_law_block" 568,vs "_law_block" 569,vs "/claim/cut.py" 570,.int 225 0,.int 2 0,.int 0 0,.int 0 0,.int 3 0,.ref 299,.bool true,.int 181 0,.ref 300,.none,.ref 301,.ref 302,.ref 303,.int 573 0,.int 225 0,vs "/claim/cut.py" 574]) #[]) ::
 (nat_lit 305,Obj.mk (.type "function") none (.func (PySem.W.fnOf "_law_block" "_law_block" (z0a (top 29)) (z09 (top 29)) (z02 (top 29)) .none .none .none (vs "law_handflow_k14_step_by_step" 510) none (.ref 304) .none)) #[]) ::
 (nat_lit 311,Obj.mk (.type "code") none (Data.fields #[vs "_law_opened" 576,vs "_law_opened" 577,vs "/claim/cut.py" 578,.int 235 0,.int 5 0,.int 0 0,.int 0 0,.int 3 0,.ref 306,.bool true,.int 181 0,.ref 307,.none,.ref 308,.ref 309,.ref 310,.int 584 0,.int 235 0,vs "/claim/cut.py" 585]) #[]) ::
 (nat_lit 312,Obj.mk (.type "function") none (.func (PySem.W.fnOf "_law_opened" "_law_opened" (z0a (top 30)) (z09 (top 30)) (z02 (top 30)) .none .none .none (vs "law_handflow_k14_step_by_step" 510) none (.ref 311) .none)) #[]) ::
 (nat_lit 318,Obj.mk (.type "code") none (Data.fields #[vs "_law_grown" 587,vs "_law_grown" 588,vs "/claim/cut.py" 589,.int 243 0,.int 3 0,.int 0 0,.int 0 0,.int 3 0,.ref 313,.bool true,.int 181 0,.ref 314,.none,.ref 315,.ref 316,.ref 317,.int 603 0,.int 243 0,vs "/claim/cut.py" 604]) #[]) ::
 (nat_lit 319,Obj.mk (.type "function") none (.func (PySem.W.fnOf "_law_grown" "_law_grown" (z0a (top 31)) (z09 (top 31)) (z02 (top 31)) .none .none .none (vs "law_handflow_k14_step_by_step" 510) none (.ref 318) .none)) #[]) ::
 (nat_lit 325,Obj.mk (.type "code") none (Data.fields #[vs "_law_named" 606,vs "_law_named" 607,vs "/claim/cut.py" 608,.int 267 0,.int 2 0,.int 0 0,.int 0 0,.int 3 0,.ref 320,.bool true,.int 181 0,.ref 321,.none,.ref 322,.ref 323,.ref 324,.int 616 0,.int 267 0,vs "/claim/cut.py" 617]) #[]) ::
 (nat_lit 326,Obj.mk (.type "function") none (.func (PySem.W.fnOf "_law_named" "_law_named" (z0a (top 32)) (z09 (top 32)) (z02 (top 32)) .none .none .none (vs "law_handflow_k14_step_by_step" 510) none (.ref 325) .none)) #[]) ::
 (nat_lit 332,Obj.mk (.type "code") none (Data.fields #[vs "_law_whole" 619,vs "_law_whole" 620,vs "/claim/cut.py" 621,.int 289 0,.int 1 0,.int 0 0,.int 0 0,.int 3 0,.ref 327,.bool true,.int 181 0,.ref 328,.none,.ref 329,.ref 330,.ref 331,.int 623 0,.int 289 0,vs "/claim/cut.py" 624]) #[]) ::
 (nat_lit 333,Obj.mk (.type "function") none (.func (PySem.W.fnOf "_law_whole" "_law_whole" (z0a (top 33)) (z09 (top 33)) (z02 (top 33)) .none .none .none (vs "law_handflow_k14_step_by_step" 510) none (.ref 332) .none)) #[]) ::
 (nat_lit 337,Obj.mk (.type "code") none (Data.fields #[vs "_law_formed" 626,vs "_law_formed" 627,vs "/claim/cut.py" 628,.int 291 0,.int 3 0,.int 0 0,.int 0 0,.int 3 0,.ref 334,.bool true,.int 181 0,.ref 335,.none,.none,.none,.ref 336,.int 629 0,.int 291 0,vs "/claim/cut.py" 630]) #[]) ::
 (nat_lit 338,Obj.mk (.type "function") none (.func (PySem.W.fnOf "_law_formed" "_law_formed" (z0a (top 34)) (z09 (top 34)) (z02 (top 34)) .none .none .none (vs "law_handflow_k14_step_by_step" 510) none (.ref 337) .none)) #[]) ::
 (nat_lit 342,Obj.mk (.type "code") none (Data.fields #[vs "_law_begins" 632,vs "_law_begins" 633,vs "/claim/cut.py" 634,.int 308 0,.int 5 0,.int 0 0,.int 0 0,.int 3 0,.ref 339,.bool true,.int 181 0,.ref 340,.none,.none,.none,.ref 341,.int 635 0,.int 308 0,vs "/claim/cut.py" 636]) #[]) ::
 (nat_lit 343,Obj.mk (.type "function") none (.func (PySem.W.fnOf "_law_begins" "_law_begins" (z0a (top 35)) (z09 (top 35)) (z02 (top 35)) .none .none .none (vs "law_handflow_k14_step_by_step" 510) none (.ref 342) .none)) #[]) ::
 (nat_lit 347,Obj.mk (.type "code") none (Data.fields #[vs "_law_onward" 638,vs "_law_onward" 639,vs "/claim/cut.py" 640,.int 319 0,.int 2 0,.int 0 0,.int 0 0,.int 3 0,.ref 344,.bool true,.int 181 0,.ref 345,.none,.none,.none,.ref 346,.int 641 0,.int 319 0,vs "/claim/cut.py" 642]) #[]) ::
 (nat_lit 348,Obj.mk (.type "function") none (.func (PySem.W.fnOf "_law_onward" "_law_onward" (z0a (top 36)) (z09 (top 36)) (z02 (top 36)) .none .none .none (vs "law_handflow_k14_step_by_step" 510) none (.ref 347) .none)) #[]) ::
 (nat_lit 354,Obj.mk (.type "code") none (Data.fields #[vs "_law_asked" 644,vs "_law_asked" 645,vs "/claim/cut.py" 646,.int 335 0,.int 3 0,.int 0 0,.int 0 0,.int 3 0,.ref 349,.bool true,.int 181 0,.ref 350,.none,.ref 351,.ref 352,.ref 353,.int 653 0,.int 335 0,vs "/claim/cut.py" 654]) #[]) ::
 (nat_lit 355,Obj.mk (.type "function") none (.func (PySem.W.fnOf "_law_asked" "_law_asked" (z0a (top 37)) (z09 (top 37)) (z02 (top 37)) .none .none .none (vs "law_handflow_k14_step_by_step" 510) none (.ref 354) .none)) #[]) ::
 (nat_lit 359,Obj.mk (.type "code") none (Data.fields #[vs "_law_chain" 656,vs "_law_chain" 657,vs "/claim/cut.py" 658,.int 343 0,.int 3 0,.int 0 0,.int 0 0,.int 3 0,.ref 356,.bool true,.int 181 0,.ref 357,.none,.none,.none,.ref 358,.int 659 0,.int 343 0,vs "/claim/cut.py" 660]) #[]) ::
 (nat_lit 360,Obj.mk (.type "function") none (.func (PySem.W.fnOf "_law_chain" "_law_chain" (z0a (top 38)) (z09 (top 38)) (z02 (top 38)) .none .none .none (vs "law_handflow_k14_step_by_step" 510) none (.ref 359) .none)) #[]) ::
 (nat_lit 364,Obj.mk (.type "code") none (Data.fields #[vs "law" 662,vs "law" 663,vs "/claim/cut.py" 664,.int 367 0,.int 1 0,.int 0 0,.int 0 0,.int 3 0,.ref 361,.bool true,.int 181 0,.ref 362,.none,.none,.none,.ref 363,.int 665 0,.int 367 0,vs "/claim/cut.py" 666]) #[]) ::
 (nat_lit 365,Obj.mk (.type "function") none (.func (PySem.W.fnOf "law" "law" (z0a (top 39)) (z09 (top 39)) (z02 (top 39)) .none .none .none (vs "law_handflow_k14_step_by_step" 510) none (.ref 364) .none)) #[]) ::
 []
noncomputable def hks:List Addr:=[2,3,20,21,22,34,35,36,37,38,39,42,49,50,51,66,67,73,74,80,81,87,88,94,95,101,102,103,104,105,106,107,110,111,117,118,124,125,131,132,138,139,143,144,150,151,157,158,162,163,174,175,181,182,188,189,195,196,202,203,209,210,216,217,223,224,230,231,237,238,244,245,246,247,248,249,250,253,257,258,264,265,271,272,276,277,283,284,290,291,297,298,304,305,311,312,318,319,325,326,332,333,337,338,342,343,347,348,354,355,359,360,364,365]
theorem hk_as:∀P,hks=(hk P).map (·.1):=fun _=>by kernel_rfl
noncomputable def vw:Program:=PySem.W.view PySem.Challenge.pw_handflow_k14_step_by_step [0,2,3,5,7,8,9,10,11,12,13,15,16,17,18,20,23,24,25,26,27,28,29,30,31,32,33,34,35,36,37,38,39]
noncomputable def hkH:PySem.W.Hook:=PySem.W.kHook hk hks hk_as
noncomputable def xt (s:Shared):Bool:=PySem.W.xlAt vw [] s && PySem.W.recOk (PySem.W.RowW.records (PySem.W.OpenRow.toRowW (PySem.W.OpenLaw.row PySem.Challenge.rw_handflow_k14_step_by_step))) s
noncomputable def bt (P:Params):PySem.W.BT:=(.node (PySem.W.boot_o_0 P) (.node (PySem.W.boot_o_1 P) (.node (PySem.W.boot_o_3 P) (.node (PySem.W.boot_o_7 P) .nil .nil) .nil) (.node (PySem.W.boot_o_5 P) (.node (PySem.W.boot_o_9 P) .nil .nil) .nil)) (.node (PySem.W.boot_o_2 P) (.node (PySem.W.boot_o_4 P) (.node (PySem.W.boot_o_8 P) .nil .nil) .nil) (.node (PySem.W.boot_o_6 P) (.node (PySem.W.boot_o_10 P) .nil .nil) .nil)))
theorem bt_is (P:Params):PySem.W.absHeap (bt P) 11 {}=PySem.W.boot_heap P:=by kernel_rfl
noncomputable def bs (P:Params) (os:OsState):PySem.W.SharedT:=⟨bt P,11,{},#[],PySem.W.boot_drawn,PySem.W.boot_toks,os⟩
theorem bs_is (P:Params) (os:OsState):(bs P os).abs=⟨PySem.W.boot_heap P,#[],PySem.W.boot_drawn,PySem.W.boot_toks,os⟩:=by
 unfold bs PySem.W.SharedT.abs;rw[bt_is]
def goT (p:Program) (w:World) (A:Option Value):Nat->PySem.W.SharedT->Thread->Option PySem.W.SharedT
 |0,_,_=>none
 |m+1,x,y=>match PySem.W.through y with
  |true=>some x
  |false=>match PySem.W.stepOk 11 A y with
   |false=>none
   |true=>match PySem.W.stepT (denote PySem.treeTable) p w x y with
    |none=>none
    |some (x',y')=>goT p w A m x' y'
noncomputable abbrev annB (w:World):Option Value:=(PySem.W.boot_heap w.params).nsMap mainGlobals "__annotations__"
def EndsT (p q:Program) (loose:List Str) (Xt:Shared->Bool) {α:Type}(Yf:Shared->α) (Ya:World->α) (N:Nat) (w:World):Prop:=
 ∀os:OsState,(goT p w (annB w) N (bs w.params os) (PySem.W.topStub p)).map (fun s=>(PySem.W.staticsOk (PySem.importedModules p.main.body) (PySem.W.boot_heap w.params) s.abs.heap && PySem.W.namesBound p s.abs.heap && PySem.W.gensDone s.abs && PySem.W.laidKept (PySem.W.boot_heap w.params) s.abs.heap,PySem.W.openSeen q loose (PySem.importedModules p.main.body) Xt true s.abs,Yf s.abs))=some (true,PySem.W.openGood q loose,Ya w)
set_option maxHeartbeats 0 in
theorem leftF:∀w:World,EndsT PySem.Challenge.pw_handflow_k14_step_by_step vw [("run":Str)] xt hkH.obs hkH.val 4640 w:=fun w os=>by kernel_rfl
end K14
namespace L2
open PySem PySem.Spec PyProof.Rows
abbrev Key:=Sum Int Str
def z7b:Key->Value->Bool
 |.inl k,v=>Value.isInt k v
 |.inr x,v=>Value.isStrOf x v
def zf9 (w:World):Key->Int
 |.inl k=>hashInt k
 |.inr x=>hashStr w x
theorem z12:∀{k:Key}{v:Value},z7b k v=true->(∃i t,k=Sum.inl i/\v=Value.int i t)\/(∃x t,k=Sum.inr x/\v=Value.str x t)
 |.inl i,v,h=>by
  obtain⟨t,e⟩:=Value.isInt_shape (k:=i) (v:=v) h
  exact .inl ⟨i,t,rfl,e⟩
 |.inr x,v,h=>by
  obtain⟨t,e⟩:=Value.isStrOf_shape (x:=x) (v:=v) h
  exact .inr ⟨x,t,rfl,e⟩
theorem za6 (i:Int) (t:Tok):z7b (.inl i) (.int i t)=true:=by simp[z7b,Value.isInt]
theorem za5 (x:Str) (t:Tok):z7b (.inr x) (.str x t)=true:=by simp[z7b,Value.isStrOf]
theorem zdG (a b:Int):decide ((Sum.inl a:Key)=Sum.inl b)=(a == b):=by
 by_cases e:a=b
 ·subst e;simp
 ·have h:¬ (Sum.inl a:Key)=Sum.inl b:=fun q=>e (Sum.inl.inj q)
  rw[decide_eq_false h]
  exact(beq_eq_false_iff_ne.mpr e).symm
theorem zdD (a b:Str):decide ((Sum.inr a:Key)=Sum.inr b)=decide (a=b):=by
 by_cases e:a=b
 ·subst e;simp
 ·have h:¬ (Sum.inr a:Key)=Sum.inr b:=fun q=>e (Sum.inr.inj q)
  rw[decide_eq_false h,decide_eq_false e]
theorem zdF (a:Int) (b:Str):decide ((Sum.inl a:Key)=Sum.inr b)=false:=decide_eq_false (fun q=>nomatch q)
theorem zdE (a:Str) (b:Int):decide ((Sum.inr a:Key)=Sum.inl b)=false:=decide_eq_false (fun q=>nomatch q)
def z0L (prog:Program) (w:World):PySem.KeyKind prog w Key where
 is:=z7b
 hash:=zf9 w
 inj:=fun v a b ha hb=>by
  rcases z12 ha with⟨i,t,rfl,rfl⟩|⟨x,t,rfl,rfl⟩
  ·rcases z12 hb with⟨j,u,rfl,e⟩|⟨y,u,rfl,e⟩
   ·injection e with e1 _;rw[e1]
   ·exact nomatch e
  ·rcases z12 hb with⟨j,u,rfl,e⟩|⟨y,u,rfl,e⟩
   ·exact nomatch e
   ·injection e with e1 _;rw[e1]
 byValue:=fun k v h=>by
  rcases z12 h with⟨i,t,rfl,rfl⟩|⟨x,t,rfl,rfl⟩<;>rfl
 pyHash:=fun hv h=>by
  rcases z12 hv with⟨i,t,rfl,rfl⟩|⟨x,t,rfl,rfl⟩
  ·exact wpAny_pyHash_int h
  ·exact wpAny_pyHash_str h
 eqBool:=fun hu hv h=>by
  rcases z12 hu with⟨i,t,rfl,rfl⟩|⟨x,t,rfl,rfl⟩
  ·rcases z12 hv with⟨j,u,rfl,rfl⟩|⟨y,u,rfl,rfl⟩
   ·rw[zdG]at h;exact wpAny_eqBool_int h
   ·rw[zdF]at h;exact SeqAt.EqAt.int_str i t y u _ _ _ _ h
  ·rcases z12 hv with⟨j,u,rfl,rfl⟩|⟨y,u,rfl,rfl⟩
   ·rw[zdE]at h;exact SeqAt.EqAt.str_int x t j u _ _ _ _ h
   ·rw[zdD]at h;exact wpAny_eqBool_str h
 «strs»:=fun k x t v h=>by
  rcases z12 h with⟨i,u,rfl,e⟩|⟨y,u,rfl,e⟩
  ·exact nomatch e
  ·injection e with e1 _
   subst e1
   cases v<;>rfl
theorem z7T (prog:Program) (w:World) (i:Int) (t:Tok):(z0L prog w).is (.inl i) (.int i t)=true:=za6 i t
theorem z7S (prog:Program) (w:World) (x:Str) (t:Tok):(z0L prog w).is (.inr x) (.str x t)=true:=za5 x t
inductive V where
 |non|bl (b:Bool)|int (i:Int)|str (x:Str)|byt (b:Array UInt8)|flt (b:UInt64)|ref (a:Addr)|ty (n:String)
 deriving DecidableEq
def z1C:V->Value->Prop
 |.non,u=>u=Value.none
 |.bl b,u=>u=Value.bool b
 |.int i,u=>∃t,u=Value.int i t
 |.str x,u=>∃t,u=Value.str x t
 |.byt b,u=>∃t,u=Value.bytes b t
 |.flt b,u=>∃t,u=Value.float b t
 |.ref a,u=>u=Value.ref a
 |.ty n,u=>u=Value.type n
abbrev z19:List V->List Value->Prop:=Paired z1C
theorem z19.length {xs:List V}{us:List Value}(r:z19 xs us):xs.length=us.length:=Paired.length r
theorem z19.get:∀{xs:List V}{us:List Value}{i:Nat}{x:V},z19 xs us->xs[i]?=some x->∃u,us[i]?=some u/\z1C x u
 |_,_,_,_,.nil,e=>by simp at e
 |_,_,0,_,.cons r _,e=>by simp at e;subst e;exact⟨_,rfl,r⟩
 |_,_,i+1,x,.cons _ t,e=>by
  obtain⟨u,h1,h2⟩:=z19.get (i:=i) (x:=x) t (by simpa using e)
  exact⟨u,by simpa using h1,h2⟩
theorem z19.append:∀{xs ys:List V}{us ws:List Value},z19 xs us->z19 ys ws->z19 (xs++ys) (us++ws)
 |_,_,_,_,.nil,s=>s
 |_,_,_,_,.cons r t,s=>.cons r (z19.append t s)
theorem z19.take:∀{xs:List V}{us:List Value}(n:Nat),z19 xs us->z19 (xs.take n) (us.take n)
 |_,_,0,_=>.nil
 |_,_,_+1,.nil=>.nil
 |_,_,n+1,.cons r t=>.cons r (z19.take n t)
theorem z19.drop:∀{xs:List V}{us:List Value}(n:Nat),z19 xs us->z19 (xs.drop n) (us.drop n)
 |_,_,0,r=>r
 |_,_,_+1,.nil=>.nil
 |_,_,n+1,.cons _ t=>z19.drop n t
def z6E:Option V->Option Value->Prop
 |some v,some u=>z1C v u
 |none,none=>True
 |_,_=>False
def KV {κ:Type}:List (κ×V)->List (κ×Value)->Prop:=Paired fun(p:κ×V) (q:κ×Value)=>p.1=q.1/\z1C p.2 q.2
def kV:Key->V
 |.inl i=>.int i
 |.inr x=>.str x
inductive HO where
 |lst (xs:List V)
 |tup (xs:List V)
 |dK (kvs:List (Key×V))|dT (kvs:List (List Key×V))
 |set (S:Int->Bool) (n:Nat)
 |ins (C dx:Addr) (fs:List (Str×V))
 |own (x:Addr)
 |xd (fs:List (Str×V))
 |met (f x:Addr)
 |rng (lo hi:Int)
 |frz (o:Obj) (u:HO)
 |tbl (ps:Array Value)
 |ext (φ:Heap->Prop)
abbrev Hp:=Addr->Option HO
def upd (H:Hp) (a:Addr) (o:HO):Hp:=fun b=>if b=a then some o else H b
theorem z01 {H:Hp}{a:Addr}{o:HO}:upd H a o a=some o:=by unfold upd;rw[if_pos rfl]
theorem z06 {H:Hp}{a b:Addr}{o:HO}(h:b≠a):upd H a o b=H b:=by unfold upd;rw[if_neg h]
theorem zdB {H:Hp}{a b:Addr}{o u:HO}(h:H a=some o) (h':H b=some u) (d:o≠u):a≠b:=by
 intro e;subst e;rw[h]at h';exact d (qQ h')
theorem z0t {H:Hp}{a b:Addr}{o:HO}(h:H a=some o) (h':H b=none):a≠b:=by
 intro e;subst e;rw[h]at h';cases h'
section
variable (P:Program) (w:World)
def z1o (H:Hp) (h:Heap) (a:Addr):HO->Prop
 |.lst xs=>xs.length<=sizeLine/\∃(its:List Value) (n:Nat),z19 xs its/\h.get? a=some { cls:=.type "list",data:=.seq its.toArray n }
 |.tup xs=>xs.length<=sizeLine/\∃its:List Value,z19 xs its/\IsTup h a its.toArray
 |.dK kvs=>kvs.length<=sizeLine/\(a == sysModules)=false/\∃vs,KV kvs vs/\h.DictOf (z0L P w) a vs
 |.dT kvs=>kvs.length<=sizeLine/\(a == sysModules)=false/\∃xs:List (List Key×Addr×Value),
  Paired (fun(p:List Key×V) (q:List Key×Addr×Value)=>p.1=q.1/\H q.2.1=some (.tup (p.1.map kV))/\z1C p.2 q.2.2) kvs xs /\
  ∃o es ep,h.get? a=some o/\o.ExactDict/\o.data=.dict es ep/\es.toList=xs.map (entryOfKey (tupleKind (z0L P w)))/\(xs.map (·.1)).Nodup
 |.set S n=>h.SetOf (intKind P w) a S n
 |.ins C dx fs=>H dx=some (.own a)/\fs.length<=1000/\dx≠a/\h.get? a=some (PySem.W.instObj C dx) /\
  ∃mA,h.Ns1 dx mA/\(∀f,z6E (fs.lookup f) (mA f))/\PySem.Within mA (fs.map (·.1))
 |.own _=>∃o,h.get? a=some o
 |.xd fs=>∃mA,h.Ns1 a mA/\∀f,z6E (fs.lookup f) (mA f)
 |.rng lo hi=>∃t u v,h.get? a=some { cls:=.type "range",data:=.fields #[.int lo t,.int hi u,.int 1 v] }
 |.frz o u=>h.get? a=some o/\z1o H h a u
 |.tbl ps=>h.get? a=some { cls:=.none,data:=.fields ps }
 |.met f x=>h.get? a=some (PySem.W.methodObj (.ref f) (.ref x))
 |.ext φ=>φ h/\(∃o,h.get? a=some o)/\∀h1 h2:Heap,φ h1->(∀o,h1.get? a=some o->h2.get? a=some o)->φ h2
def HOk (H:Hp) (h:Heap):Prop:=∀a o,H a=some o->z1o P w H h a o
end
section
variable {P:Program}{w:World}{H H':Hp}{h h':Heap}{a:Addr}{o:HO}
theorem z1o.lt (x:z1o P w H h a o):a<h.objs.size:=by
 cases o with
 |lst xs=>obtain⟨_,_,_,_,e⟩:=x;exact qy e
 |tup xs=>obtain⟨_,_,_,p⟩:=x;exact p.lt
 |dK kvs=>obtain⟨_,_,_,_,o,_,_,e,_⟩:=x;exact qy e
 |dT kvs=>obtain⟨_,_,_,_,o,_,_,e,_⟩:=x;exact qy e
 |set S n=>obtain⟨o,_,_,_,e,_⟩:=x;exact qy e
 |ins C dx fs=>obtain⟨_,_,_,e,_⟩:=x;exact qy e
 |own y=>obtain⟨_,e⟩:=x;exact qy e
 |xd fs=>obtain⟨_,⟨_,_,_,e,_⟩,_⟩:=x;exact qy e
 |rng lo hi=>obtain⟨_,_,_,e⟩:=x;exact qy e
 |frz ob u=>obtain⟨e,_⟩:=x;exact qy e
 |tbl ps=>exact qy (show h.get? a=some _ from x)
 |met f y=>exact qy (show h.get? a=some _ from x)
 |ext φ=>obtain⟨_,⟨_,e⟩,_⟩:=x;exact qy e
theorem Paired.mapP {α β:Type}{F G:α->β->Prop}:∀{l₁:List α}{l₂:List β},Paired F l₁ l₂->(∀a b,F a b->G a b)->Paired G l₁ l₂
 |_,_,.nil,_=>.nil
 |_,_,.cons r t,f=>.cons (f _ _ r) (Paired.mapP t f)
theorem z1o.stay (x:z1o P w H h a o) (k:∀b u,(b=a\/H b=some (.own a))->h.get? b=some u->h'.get? b=some u)
 (ho:∀b,H b=some (.own a)->H' b=some (.own a)) (ht:∀b xs,H b=some (.tup xs)->H' b=some (.tup xs)):z1o P w H' h' a o:=by
 induction o with
 |lst xs=>obtain⟨z,its,n,r,e⟩:=x;exact⟨z,its,n,r,k _ _ (.inl rfl) e⟩
 |tup xs=>obtain⟨z,its,r,ob,e,c⟩:=x;exact⟨z,its,r,ob,k _ _ (.inl rfl) e,c⟩
 |dK kvs=>obtain⟨z,y,vs,r,ob,es,ep,e,c⟩:=x;exact⟨z,y,vs,r,ob,es,ep,k _ _ (.inl rfl) e,c⟩
 |dT kvs=>
  obtain⟨z,y,xs,r,ob,es,ep,e,c⟩:=x
  exact⟨z,y,xs,Paired.mapP r fun p q z=>⟨z.1,ht _ _ z.2.1,z.2.2⟩,ob,es,ep,k _ _ (.inl rfl) e,c⟩
 |set S n=>obtain⟨ob,es,ep,t,e,c⟩:=x;exact⟨ob,es,ep,t,k _ _ (.inl rfl) e,c⟩
 |ins C dx fs=>
  obtain⟨d,z,ne,e,mA,⟨od,es,ep,e2,c⟩,r⟩:=x
  exact⟨ho _ d,z,ne,k _ _ (.inl rfl) e,mA,⟨od,es,ep,k _ _ (.inr d) e2,c⟩,r⟩
 |own y=>obtain⟨ob,e⟩:=x;exact⟨ob,k _ _ (.inl rfl) e⟩
 |xd fs=>obtain⟨mA,⟨od,es,ep,e,c⟩,r⟩:=x;exact⟨mA,⟨od,es,ep,k _ _ (.inl rfl) e,c⟩,r⟩
 |rng lo hi=>obtain⟨t,u,v,e⟩:=x;exact⟨t,u,v,k _ _ (.inl rfl) e⟩
 |frz ob u ih=>obtain⟨e,q⟩:=x;exact⟨k _ _ (.inl rfl) e,ih q⟩
 |tbl ps=>
  have e:h.get? a=some { cls:=.none,data:=.fields ps }:=x
  show h'.get? a=some { cls:=.none,data:=.fields ps }
  exact k a _ (.inl rfl) e
 |met f y=>
  have e:h.get? a=some (PySem.W.methodObj (.ref f) (.ref y)):=x
  show h'.get? a=some (PySem.W.methodObj (.ref f) (.ref y))
  exact k a _ (.inl rfl) e
 |ext φ=>obtain⟨p,⟨o,e⟩,st⟩:=x;exact⟨st _ _ p fun o q=>k _ _ (.inl rfl) q,⟨o,k _ _ (.inl rfl) e⟩,st⟩
theorem HOk.lt (x:HOk P w H h) (e:H a=some o):a<h.objs.size:=(x a o e).lt
theorem HOk.fresh (x:HOk P w H h) (e:h.objs.size<=a):H a=none:=by
 cases q:H a with
 |none=>rfl
 |some u=>exact absurd (qK (x.lt q) e) (Nat.lt_irrefl _)
theorem HOk.kept (x:HOk P w H h) (k:∀b u,h.get? b=some u->h'.get? b=some u):HOk P w H h':=fun a o e=>
 (x a o e).stay (fun b u _ q=>k b u q) (fun _ q=>q) fun _ _ q=>q
theorem HOk.laid (x:HOk P w H h) (k:∀b u,h.get? b=some u->h'.get? b=some u) (hp:h.objs.size<=a) (new:z1o P w (upd H a o) h' a o):HOk P w (upd H a o) h':=fun b u e=>by
 have hn:=x.fresh hp
 by_cases hb:b=a
 ·subst hb;rw[z01]at e;cases e;exact new
 ·rw[z06 hb]at e
  exact(x b u e).stay (fun c v _ q=>k c v q) (fun c q=>by rw[z06 (z0t q hn)];exact q) fun c xs q=>by rw[z06 (z0t q hn)];exact q
end
def Rd (H:Hp) (a:Addr) (u:HO):Prop:=H a=some u\/∃o,H a=some (.frz o u)
theorem Rd.ok {P:Program}{w:World}{H:Hp}{h:Heap}{a:Addr}{u:HO}(r:Rd H a u) (x:HOk P w H h):z1o P w H h a u:=by
 rcases r with r|⟨o,r⟩
 ·exact x a u r
 ·obtain⟨_,q⟩:=x a _ r
  exact q
def Mut:Option HO->Prop
 |some (.lst _)=>True
 |some (.dK _)=>True
 |some (.dT _)=>True
 |some (.set _ _)=>True
 |some (.ins _ _ _)=>True
 |some (.ext _)=>True
 |_=>False
section
variable {P:Program}{w:World}{H:Hp}{h h':Heap}{x e:Addr}{o':HO}
theorem HOk.write (ok:HOk P w H h) (mu:Mut (H x)) (he:e=x\/H e=some (.own x)) (k:∀b u,b≠e->h.get? b=some u->h'.get? b=some u) (heo:∃u,h'.get? e=some u)
 (new:z1o P w (upd H x o') h' x o'):HOk P w (upd H x o') h':=fun b u q=>by
 have nown:∀c y,H c=some (.own y)->c≠x:=fun c y r z=>by subst z;rw[r]at mu;exact mu
 have ntup:∀c xs,H c=some (.tup xs)->c≠x:=fun c xs r z=>by subst z;rw[r]at mu;exact mu
 by_cases hb:b=x
 ·subst hb;rw[z01]at q;cases q;exact new
 ·rw[z06 hb]at q
  by_cases hbe:b=e
  ·have q':H b=some (.own x):=by
    rcases he with z|z
    ·exact absurd (hbe.trans z) hb
    ·rw[hbe];exact z
   rw[q]at q';cases q'
   obtain⟨v,hv⟩:=heo
   exact⟨v,by rw[hbe];exact hv⟩
  ·refine(ok b u q).stay (fun c v hc r=>k c v ?_ r) (fun c r=>by rw[z06 (nown c b r)];exact r) fun c xs r=>by rw[z06 (ntup c xs r)];exact r
   rcases hc with rfl|hc
   ·exact hbe
   ·rintro rfl
    rcases he with z|z
    ·exact nown c b hc z
    ·rw[hc]at z;cases z;exact hb rfl
end
structure Un (fs ex:List Addr) (H H':Hp) (h h':Heap):Prop where
 keep:∀b o,h.get? b=some o->H b=none->b∉fs->b∉ex->h'.get? b=some o
 slot:∀b o,h.get? b=some o->H b=none->b∈fs->b∉ex->∃sl,h'.get? b=some { o with slots:=sl }
 free:∀b o,h.get? b=some o->H b=none->b∉ex->H' b=none
 there:∀b o,h.get? b=some o->b∉ex->∃o',h'.get? b=some o'
 tups:∀b xs,H b=some (.tup xs)->H' b=some (.tup xs)
 frzs:∀b o u,H b=some (.frz o u)->H' b=some (.frz o u)
 tbls:∀b ps,H b=some (.tbl ps)->∃more,H' b=some (.tbl (ps++more))
section
variable {fs fs' ex ex':List Addr}{H H1 H2:Hp}{h h1 h2 h':Heap}{a x e:Addr}{o:HO}
theorem Un.any (u:Un fs ex H H1 h h1) {b:Addr}{ob:Obj}(q:h.get? b=some ob) (n:H b=none) (hx:b∉ex):∃sl,h1.get? b=some { ob with slots:=sl }:=by
 by_cases hb:b∈fs
 ·exact u.slot b ob q n hb hx
 ·exact⟨ob.slots,u.keep b ob q n hb hx⟩
theorem Un.kept (k:∀b u,h.get? b=some u->h'.get? b=some u):Un fs ex H H h h':=
 ⟨fun b ob q _ _ _=>k b ob q,fun b ob q _ _ _=>⟨ob.slots,k b ob q⟩,fun _ _ _ n _=>n,fun b ob q _=>⟨ob,k b ob q⟩,fun _ _ q=>q,fun _ _ _ q=>q,fun _ ps q=>⟨#[],by rw[q];simp⟩⟩
theorem Un.refl:Un fs ex H H h h:=Un.kept fun _ _ q=>q
theorem Un.laid (k:∀b u,h.get? b=some u->h'.get? b=some u) (hp:h.objs.size<=a) (hn:H a=none):Un fs ex H (upd H a o) h h' where
 keep:=fun b u q _ _ _=>k b u q
 slot:=fun b u q _ _ _=>⟨u.slots,k b u q⟩
 free:=fun b u q n _=>by rw[z06 (qN (qK (qy q) hp))];exact n
 there:=fun b u q _=>⟨u,k b u q⟩
 tups:=fun b xs q=>by rw[z06 (z0t q hn)];exact q
 frzs:=fun b u xs q=>by rw[z06 (z0t q hn)];exact q
 tbls:=fun b ps q=>⟨#[],by rw[z06 (z0t q hn),q];simp⟩
theorem Un.write (mu:Mut (H x)) (he:e=x\/H e=some (.own x)) (k:∀b u,b≠e->h.get? b=some u->h'.get? b=some u) (heo:∃u,h'.get? e=some u):Un fs ex H (upd H x o) h h':=by
 have hx:∀b,H b=none->b≠x:=fun b n z=>by subst z;rw[n]at mu;exact mu
 have hb:∀b,H b=none->b≠e:=fun b n z=>by
  subst z
  rcases he with r|r
  ·exact hx b n r
  ·rw[n]at r;cases r
 have hm:∀b u,H b=some u->¬ Mut (some u)->b≠x:=fun b u q nm z=>by subst z;rw[q]at mu;exact nm mu
 refine⟨fun b u q n _ _=>k b u (hb b n) q,fun b u q n _ _=>⟨u.slots,k b u (hb b n) q⟩,fun b u q n _=>by rw[z06 (hx b n)];exact n,fun b u q _=>?_,
  fun b xs q=>by rw[z06 (hm b _ q fun z=>z)];exact q,fun b u xs q=>by rw[z06 (hm b _ q fun z=>z)];exact q,fun b ps q=>⟨#[],by rw[z06 (hm b _ q fun z=>z),q];simp⟩⟩
 by_cases hbe:b=e
 ·subst hbe;exact heo
 ·exact⟨u,k b u hbe q⟩
end
def trk (h:Heap) (H:Hp):List Addr:=(List.range h.objs.size).filter fun a=>(H a).isSome
def zbn (h:Heap) (H:Hp):Heap:=PySem.W.hideAll h (trk h H)
theorem zag (h:Heap) (H:Hp):(zbn h H).objs.size=h.objs.size:=PySem.W.hideAll_size _ _
theorem zbm {h:Heap}{H:Hp}{b:Addr}{o:Obj}(e:h.get? b=some o) (n:H b=none):(zbn h H).get? b=some o:=
 PySem.W.hideAll_get _ e fun hm=>by
  have q:(H b).isSome=true:=(List.mem_filter.mp hm).2
  rw[n]at q;simp at q
theorem zcy {h:Heap}{H:Hp}{b:Addr}{o:Obj}(e:(zbn h H).get? b=some o):h.get? b=some o/\H b=none:=by
 have e':h.get? b=some o:=PySem.W.of_hideAll (trk h H) e
 refine⟨e',?_⟩
 cases q:H b with
 |none=>rfl
 |some x=>
  have hm:b∈trk h H:=List.mem_filter.mpr ⟨List.mem_range.mpr (qy e'),by simp[q]⟩
  have z:(zbn h H).get? b=none:=PySem.W.hideAll_none (trk h H) hm
  rw[z]at e;cases e
def zcR (g h:Heap) (L:Addr):List (Addr×Obj):=(List.range h.objs.size).filterMap fun a=>if a=L\/(g.get? a).isSome=true then none else(h.get? a).map fun o=>(a,o)
def rest (g h:Heap) (L d:Addr):List (Addr×Obj):=(zcR g h L).filter fun p=>decide (p.1≠d)
structure Mod (K:PySem.W.Frag) (mg:Str->Option Value) (base:Heap):Prop where
 kin:K.In base
 glob:base.Ns mainGlobals mg
 blt:∃mb,base.Ns builtinsNs mb/\∀x:Str,x≠"__name__"->mb x=bootBuiltins x
 nolimit:base.NoLimit
structure Cx where
 prog:Program
 w:World
 K:PySem.W.Frag
 mg:Str->Option Value
 base:Heap
 A:Around
 N:List Str
 s₀:Shared
 H₀:Hp
 env:Env
 outer:List Env
 stack:List Env
 ex:List Addr
 fn:Str->Bool
 calm:Bool
 pn:List (Addr×Obj)
 xe:Value->Shared->Prop
def frs (l:List Env):List Addr:=l.filterMap (·.frame)
abbrev Cx.fs (X:Cx):List Addr:=frs X.outer
def Vis (sc:Scope) (x:Str):Prop:=sc.names.lookup x=some .local\/sc.names.lookup x=some .cell\/sc.names.lookup x=some .free
def Loc (sc:Scope) (x:Str):Prop:=sc.names.lookup x=some .local\/sc.names.lookup x=some .cell
def zfh (env:Env) (h:Heap) (m:Str->Option Value) (x:Str) (u:Value):Prop:=
 (env.kindOf x=some .local/\m x=some u)\/((env.kindOf x=some .cell\/env.kindOf x=some .free)/\∃c,env.cells.lookup x=some c/\h.IsCell c (some u))
structure Cx.Ok (X:Cx):Prop where
 mod:Mod X.K X.mg X.base
 kind:X.env.scope.kind=.function
 glob:X.env.globals=mainGlobals
 blt:X.env.builtins=builtinsNs
 above:X.s₀.heap.objs.size<=X.env.locals
 inj:∀x y c,X.env.cells.lookup x=some c->X.env.cells.lookup y=some c->x=y
 has:∀x,(X.env.kindOf x=some .cell\/X.env.kindOf x=some .free)->∃c,X.env.cells.lookup x=some c
 cab:∀x c,X.fn x=true->X.env.cells.lookup x=some c->X.s₀.heap.objs.size<=c
 hd:X.calm=true->X.A.handled=none
 frames:X.A.frames=some X.stack
 stk:X.stack=X.outer\/(X.stack=X.env::X.outer/\X.env.frame=some X.env.locals)
 exf:∀b∈X.ex,b≠X.env.locals/\∀x c,X.env.cells.lookup x=some c->c≠b
 bs:∀b o,X.base.get? b=some o->X.s₀.heap.get? b=some o/\X.H₀ b=none
 bsz:X.base.objs.size<=X.s₀.heap.objs.size
 noex:∀b o,X.base.get? b=some o->b∉X.ex
 exfs:∀b∈X.ex,b∉X.fs
 funs:X.s₀.heap.FunFrames X.base X.outer
 frf:∀b∈X.fs,X.H₀ b=none
structure Inv (X:Cx) (pins:List (Addr×Obj)) (σ:List (Option V)) (H:Hp) (s:Shared):Prop where
 ok:X.Ok
 os:s.os=X.s₀.os
 bare:AllBare s.gens
 base:Un X.fs X.ex X.H₀ H X.s₀.heap s.heap
 loc:∃m,s.heap.Ns X.env.locals m/\∀(i:Nat) (x:Str) (v:V),X.N[i]?=some x->σ[i]?=some (some v)->Vis X.env.scope x->∃u,z1C v u/\zfh X.env s.heap m x u
 cell:∀x c,X.env.cells.lookup x=some c->∃v,s.heap.IsCell c v
 free:H X.env.locals=none
 freeC:∀x c,X.env.cells.lookup x=some c->H c=none
 pin:∀p∈X.pn++pins,s.heap.get? p.1=some p.2/\H p.1=none/\p.1≠X.env.locals/\p.1∉X.fs/\∀v,p.2.data≠.cell v
 hok:HOk X.prog X.w H s.heap
 len:σ.length=X.N.length
section
variable {X:Cx}{pins:List (Addr×Obj)}{σ:List (Option V)}{H H':Hp}{s:Shared}{h':Heap}
theorem Cx.Ok.nofr (ok:X.Ok) {b:Addr}{o:Obj}(e:X.base.get? b=some o):b∉X.fs:=fun hb=>by
 have:=(ok.funs.mem hb).1
 rw[e]at this;cases this
theorem Inv.bs (I:Inv X pins σ H s):∀b o,X.base.get? b=some o->s.heap.get? b=some o/\H b=none:=fun b o e=>
 ⟨I.base.keep b o (I.ok.bs b o e).1 (I.ok.bs b o e).2 (I.ok.nofr e) (I.ok.noex b o e),I.base.free b o (I.ok.bs b o e).1 (I.ok.bs b o e).2 (I.ok.noex b o e)⟩
theorem Inv.bk (I:Inv X pins σ H s):∀b o,X.base.get? b=some o->s.heap.get? b=some o:=fun b o e=>(I.bs b o e).1
theorem Inv.mod (I:Inv X pins σ H s):Mod X.K X.mg X.base:=I.ok.mod
theorem Inv.kIn (I:Inv X pins σ H s):X.K.In s.heap:=I.ok.mod.kin.keeps I.bk
theorem Inv.fr (I:Inv X pins σ H s):∃m,Fr X.base X.env.locals s.heap m:=
 let ⟨m,hn,_⟩:=I.loc
 ⟨m,hn,I.bk,qG I.ok.bsz I.ok.above⟩
theorem Inv.lt (I:Inv X pins σ H s):X.env.locals<s.heap.objs.size:=let ⟨_,hn,_⟩:=I.loc;hn.lt
theorem Inv.sz (I:Inv X pins σ H s):X.s₀.heap.objs.size<=s.heap.objs.size:=qG I.ok.above (Nat.le_of_lt I.lt)
theorem Inv.nofs (I:Inv X pins σ H s) {a:Addr}(h:s.heap.objs.size<=a):a∉X.fs:=fun hb=>by
 obtain⟨_,o,ho,_⟩:=I.ok.funs.mem hb
 exact absurd (qK (qy ho) (qG I.sz h)) (Nat.lt_irrefl _)
theorem Inv.cne (I:Inv X pins σ H s):∀x c,X.env.cells.lookup x=some c->c≠X.env.locals:=fun x c e z=>by
 obtain⟨v,o,ho,hd⟩:=I.cell x c e
 obtain⟨m,⟨o',es,ep,ho',hd',_⟩,_⟩:=I.loc
 rw[z,ho']at ho;cases ho;rw[hd']at hd;cases hd
theorem Inv.funs (I:Inv X pins σ H s):s.heap.FunFrames X.base X.outer:=by
 have all:∀(l:List Env),(∀b∈frs l,b∈X.fs)->X.s₀.heap.FunFrames X.base l->s.heap.FunFrames X.base l:=by
  intro l
  induction l with
  |nil=>intro _ _;trivial
  |cons env r ih=>
   intro hs hl
   obtain⟨hk,⟨L,o,hf,hn,ho,hd⟩,hr⟩:=hl
   have hL:L∈X.fs:=hs L (by unfold frs;rw[List.filterMap_cons,hf];exact qv)
   obtain⟨sl,e⟩:=I.base.slot L o ho (I.ok.frf L hL) hL fun z=>I.ok.exfs L z hL
   exact⟨hk,⟨L,_,hf,hn,e,hd⟩,ih (fun b hb=>hs b (by unfold frs;rw[List.filterMap_cons,hf];exact qt _ hb)) hr⟩
 exact all X.outer (fun _ hb=>hb) I.ok.funs
theorem Inv.stack (I:Inv X pins σ H s):s.heap.FunFrames X.base X.stack:=by
 rcases I.ok.stk with e|⟨e,hf⟩
 ·rw[e];exact I.funs
 ·rw[e]
  obtain⟨m,hn,_⟩:=I.loc
  refine .cons (by rw[I.ok.kind];decide) hf hn ?_ I.funs
  exact Heap.get?_none_of_le (qG I.ok.bsz I.ok.above)
theorem Inv.stkSub (I:Inv X pins σ H s):∀b∈frs X.stack,b∈X.env.locals::X.fs:=fun b hb=>by
 rcases I.ok.stk with e|⟨e,hf⟩
 ·rw[e]at hb;exact qt _ hb
 ·rw[e]at hb
  unfold frs at hb
  rw[List.filterMap_cons,hf]at hb
  exact hb
theorem Inv.stkFree (I:Inv X pins σ H s):∀b∈frs X.stack,H b=none:=fun b hb=>by
 rcases qB.mp (I.stkSub b hb)with e|hb
 ·rw[e];exact I.free
 ·obtain⟨_,o,ho,_⟩:=I.ok.funs.mem hb
  exact I.base.free b o ho (I.ok.frf b hb) fun z=>I.ok.exfs b z hb
theorem Inv.step {g':Array GenState}{t':Nat}{d':Drawn}{ch:List Addr}(I:Inv X pins σ H s)
 (hch:∀b∈ch,(b∈X.ex\/X.s₀.heap.objs.size<=b)/\b≠X.env.locals/\(∀x c,X.env.cells.lookup x=some c->c≠b)/\∀p∈X.pn++pins,p.1≠b)
 (keep:∀b o,b≠X.env.locals->b∉X.fs->b∉ch->s.heap.get? b=some o->H b=none->h'.get? b=some o)
 (slot:∀b o,b≠X.env.locals->b∈X.fs->b∉ch->s.heap.get? b=some o->H b=none->∃sl,h'.get? b=some { o with slots:=sl }) (free:∀b o,b∉ch->s.heap.get? b=some o->H b=none->H' b=none)
 (there:∀b o,b∉ch->s.heap.get? b=some o->∃o',h'.get? b=some o')
 (tups:∀b xs,H b=some (.tup xs)->H' b=some (.tup xs)) (frzs:∀b o u,H b=some (.frz o u)->H' b=some (.frz o u)) (tbls:∀b ps,H b=some (.tbl ps)->∃more,H' b=some (.tbl (ps++more)))
 (ns:∀m,s.heap.Ns X.env.locals m->h'.Ns X.env.locals m) (hok:HOk X.prog X.w H' h') (hg:AllBare g'):
 Inv X pins σ H' { s with heap:=h',gens:=g',drawn:=d',toks:=t' }:=by
 have neL:∀b o,X.s₀.heap.get? b=some o->b≠X.env.locals:=fun b o e=>qN (qK (qy e) I.ok.above)
 have neC:∀b o,X.s₀.heap.get? b=some o->b∉X.ex->b∉ch:=fun b o e hx hb=>by
  rcases(hch b hb).1 with z|z
  ·exact hx z
  ·exact absurd (qK (qy e) z) (Nat.lt_irrefl _)
 have cellK:∀x c,X.env.cells.lookup x=some c->∀v,s.heap.IsCell c v->h'.IsCell c v:=fun x c e v ⟨o,ho,hd⟩=>by
  have nch:c∉ch:=fun z=>(hch c z).2.2.1 x c e rfl
  by_cases hc:c∈X.fs
  ·obtain⟨sl,q⟩:=slot c o (I.cne x c e) hc nch ho (I.freeC x c e)
   exact⟨_,q,hd⟩
  ·exact⟨o,keep c o (I.cne x c e) hc nch ho (I.freeC x c e),hd⟩
 refine⟨I.ok,I.os,hg,⟨fun b o e n hb hx=>?_,fun b o e n hb hx=>?_,fun b o e n hx=>?_,fun b o e hx=>?_,fun b xs e=>tups b xs (I.base.tups b xs e),fun b o xs e=>frzs b o xs (I.base.frzs b o xs e),fun b ps e=>?_⟩,?_,fun x c e=>?_,?_,fun x c e=>?_,fun p hp=>?_,hok,I.len⟩
 ·exact keep b o (neL b o e) hb (neC b o e hx) (I.base.keep b o e n hb hx) (I.base.free b o e n hx)
 ·obtain⟨sl,e1⟩:=I.base.slot b o e n hb hx
  obtain⟨sl',e2⟩:=slot b _ (neL b o e) hb (neC b o e hx) e1 (I.base.free b o e n hx)
  exact⟨sl',e2⟩
 ·obtain⟨o',e1⟩:=I.base.there b o e hx
  exact free b o' (neC b o e hx) e1 (I.base.free b o e n hx)
 ·obtain⟨o',e1⟩:=I.base.there b o e hx
  exact there b o' (neC b o e hx) e1
 ·obtain⟨m1,e1⟩:=I.base.tbls b ps e
  obtain⟨m2,e2⟩:=tbls b _ e1
  exact⟨m1++m2,by rw[e2,Array.append_assoc]⟩
 ·obtain⟨m,hn,hl⟩:=I.loc
  refine⟨m,ns m hn,fun i x v e1 e2 e3=>?_⟩
  obtain⟨u,r,l⟩:=hl i x v e1 e2 e3
  refine⟨u,r,?_⟩
  rcases l with l|⟨k,c,e,z⟩
  ·exact .inl l
  ·exact .inr ⟨k,c,e,cellK x c e _ z⟩
 ·obtain⟨v,z⟩:=I.cell x c e
  exact⟨v,cellK x c e v z⟩
 ·obtain⟨m,⟨o,_,_,ho,_⟩,_⟩:=I.loc
  exact free _ o (fun z=>(hch _ z).2.1 rfl) ho I.free
 ·obtain⟨v,o,ho,hd⟩:=I.cell x c e
  exact free c o (fun z=>(hch c z).2.2.1 x c e rfl) ho (I.freeC x c e)
 ·obtain⟨e,n,ne,nf,d⟩:=I.pin p hp
  have nch:p.1∉ch:=fun z=>(hch p.1 z).2.2.2 p hp rfl
  exact⟨keep p.1 p.2 ne nf nch e n,free p.1 p.2 nch e n,ne,nf,d⟩
theorem Inv.un {t':Nat}(I:Inv X pins σ H s) (u:Un X.fs [] H H' s.heap h') (hok:HOk X.prog X.w H' h'):Inv X pins σ H' { s with heap:=h',toks:=t' }:=by
 obtain⟨m,⟨o,es,ep,ho,r⟩,_⟩:=id I.loc
 obtain⟨sl,hL⟩:=u.any ho I.free (by simp)
 exact I.step (g':=s.gens) (d':=s.drawn) (ch:=[]) (fun _ z=>nomatch z) (fun b o _ hb _ e n=>u.keep b o e n hb (by simp)) (fun b o _ hb _ e n=>u.slot b o e n hb (by simp)) (fun b o _ e n=>u.free b o e n (by simp)) (fun b o _ e=>u.there b o e (by simp)) u.tups u.frzs u.tbls (fun m' hm=>by
  obtain⟨o',es',ep',ho',r'⟩:=hm
  rw[ho]at ho';cases ho'
  exact⟨_,es',ep',hL,r'⟩) hok I.bare
theorem Inv.call {g':Array GenState}{t':Nat}{d':Drawn}{ch:List Addr}(I:Inv X pins σ H s) (u:Un (frs X.stack) ch H H' s.heap h') (hok:HOk X.prog X.w H' h') (hg:AllBare g')
 (hch:∀b∈ch,(b∈X.ex\/X.s₀.heap.objs.size<=b)/\b≠X.env.locals/\(∀x c,X.env.cells.lookup x=some c->c≠b)/\∀p∈X.pn++pins,p.1≠b):
 Inv X pins σ H' { s with heap:=h',gens:=g',drawn:=d',toks:=t' }:=by
 obtain⟨m,⟨o,es,ep,ho,r⟩,_⟩:=id I.loc
 obtain⟨sl,hL⟩:=u.any ho I.free fun z=>(hch _ z).2.1 rfl
 exact I.step (ch:=ch) hch (fun b o hL hb hc e n=>u.keep b o e n (fun z=>(qB.mp (I.stkSub b z)).elim hL hb) hc) (fun b o _ _ hc e n=>u.any e n hc) (fun b o hc e n=>u.free b o e n hc) (fun b o hc e=>u.there b o e hc) u.tups u.frzs u.tbls (fun m' hm=>by
  obtain⟨o',es',ep',ho',r'⟩:=hm
  rw[ho]at ho';cases ho'
  exact⟨_,es',ep',hL,r'⟩) hok hg
theorem Inv.turned {t':Nat}{it:Addr}(I:Inv X pins σ H s) (k:∀b o,b≠it->s.heap.get? b=some o->h'.get? b=some o) (hn:H it=none) (hL:it≠X.env.locals)
 (h1:it∈X.ex\/X.s₀.heap.objs.size<=it) (h2:∀x c,X.env.cells.lookup x=some c->c≠it) (h3:∀p∈X.pn++pins,p.1≠it):Inv X pins σ H { s with heap:=h',toks:=t' }:=by
 have nit:∀b u,H b=some u->b≠it:=fun b u e z=>by rw[z,hn]at e;cases e
 refine I.step (g':=s.gens) (d':=s.drawn) (ch:=[it]) (fun b hb=>?_) (fun b o _ _ hc e _=>k b o (fun z=>hc (by simp[z])) e) (fun b o _ _ hc e _=>⟨o.slots,k b o (fun z=>hc (by simp[z])) e⟩) (fun _ _ _ _ n=>n)
  (fun b o hc e=>⟨o,k b o (fun z=>hc (by simp[z])) e⟩) (fun _ _ e=>e) (fun _ _ _ e=>e) (fun b ps e=>⟨#[],by rw[e];simp⟩) (fun m hm=>?_) (fun b u e=>?_) I.bare
 ·have e:b=it:=by simpa using hb
  subst e
  exact⟨h1,hL,h2,h3⟩
 ·obtain⟨o,es,ep,ho,r⟩:=hm
  exact⟨o,es,ep,k _ o (Ne.symm hL) ho,r⟩
 ·refine(I.hok b u e).stay (fun c v hc q=>k c v ?_ q) (fun _ q=>q) fun _ _ q=>q
  rcases hc with z|z
  ·rw[z];exact nit b u e
  ·exact nit c _ z
theorem Inv.tok (I:Inv X pins σ H s) (t:Nat):Inv X pins σ H { s with toks:=t }:=I.un (h':=s.heap) (t':=t) Un.refl I.hok
theorem Inv.kept {t':Nat}(I:Inv X pins σ H s) (k:∀b u,s.heap.get? b=some u->h'.get? b=some u):Inv X pins σ H { s with heap:=h',toks:=t' }:=I.un (Un.kept k) (I.hok.kept k)
theorem Inv.laid {a:Addr}{o:HO}{t':Nat}(I:Inv X pins σ H s) (k:∀b u,s.heap.get? b=some u->h'.get? b=some u) (hp:s.heap.objs.size<=a) (new:z1o X.prog X.w (upd H a o) h' a o):
 Inv X pins σ (upd H a o) { s with heap:=h',toks:=t' }:=I.un (Un.laid k hp (I.hok.fresh hp)) (I.hok.laid k hp new)
theorem Inv.write {x e:Addr}{o:HO}{t':Nat}(I:Inv X pins σ H s) (mu:Mut (H x)) (he:e=x\/H e=some (.own x)) (k:∀b u,b≠e->s.heap.get? b=some u->h'.get? b=some u) (heo:∃u,h'.get? e=some u)
 (new:z1o X.prog X.w (upd H x o) h' x o):Inv X pins σ (upd H x o) { s with heap:=h',toks:=t' }:=I.un (Un.write mu he k heo) (I.hok.write mu he k heo new)
theorem Inv.pins_of {pins':List (Addr×Obj)}(I:Inv X pins σ H s) (h:∀p∈pins',s.heap.get? p.1=some p.2/\H p.1=none/\p.1≠X.env.locals/\p.1∉X.fs/\∀v,p.2.data≠.cell v):Inv X pins' σ H s:=
 ⟨I.ok,I.os,I.bare,I.base,I.loc,I.cell,I.free,I.freeC,fun p hp=>(qk.mp hp).elim (fun z=>I.pin p (List.mem_append_left _ z)) (h p),I.hok,I.len⟩
theorem z2u {N:List Str}(hN:N.Nodup) {i j:Nat}{x:Str}(a:N[i]?=some x) (b:N[j]?=some x):i=j:=by
 obtain⟨h1,e1⟩:=qi.mp a
 obtain⟨h2,e2⟩:=qi.mp b
 exact(List.getElem_inj hN).mp (e1.trans e2.symm)
theorem z6K {M:Model}{A:Around}{E:Value->Shared->Prop}{i:Nat}{x:Str}{v:V}{u:Value}{Q:Unit->Shared->Prop}(I:Inv X pins σ H s) (hN:X.N.Nodup) (hi:X.N[i]?=some x) (hx:Loc X.env.scope x) (r:z1C v u)
 (h:∀s',Inv X pins (σ.set i (some v)) H s'->(∃a,Heap.SameBut a s.heap s'.heap/\(a=X.env.locals\/X.env.cells.lookup x=some a))->Q () s') (hf:X.fn x=true\/X.env.scope.names.lookup x=some .local:=by first|exact .inl rfl|exact .inr rfl|assumption):wpAny M A (storeName X.env x u) Q E s:=by
 obtain⟨m,hn,hl⟩:=id I.loc
 have hcls:(X.env.scope.kind == .class || (X.env.scope.kind == .module && X.env.locals != X.env.globals))=false:=by rw[I.ok.kind];rfl
 have hiσ:i<σ.length:=by rw[I.len];exact(qi.mp hi).1
 have cne:=I.cne
 have tracked:∀{a:Addr}{h':Heap},(∃o,s.heap.get? a=some o/\H a=none)->Heap.SameBut a s.heap h'->HOk X.prog X.w H h':=fun{a h'} ha hs b ob e=>by
  obtain⟨_,_,hfree⟩:=ha
  refine(I.hok b ob e).stay (fun c w' hc q=>(hs.2 c ?_).trans q) (fun _ q=>q) fun _ _ q=>q
  rintro rfl
  rcases hc with rfl|hc
  ·rw[hfree]at e;cases e
  ·rw[hfree]at hc;cases hc
 rcases hx with hk|hk
 ·refine wpAny_storeName_local hk hn (fun h' hn' hs=>?_) hcls
  obtain⟨oL,_,_,hoL,_⟩:=id hn
  refine h _ ⟨I.ok,I.os,I.bare,⟨fun b o e n hb hx=>?_,fun b o e n hb hx=>?_,I.base.free,fun b o e hx=>?_,I.base.tups,I.base.frzs,I.base.tbls⟩,⟨_,hn',fun j y v' e1 e2 e3=>?_⟩,fun y c e=>?_,I.free,I.freeC,fun p hp=>?_,tracked ⟨oL,hoL,I.free⟩ hs,by simpa using I.len⟩ ⟨_,hs,.inl rfl⟩
  ·exact(hs.2 b (qN (qK (qy e) I.ok.above))).trans (I.base.keep b o e n hb hx)
  ·obtain⟨sl,e1⟩:=I.base.slot b o e n hb hx
   exact⟨sl,(hs.2 b (qN (qK (qy e) I.ok.above))).trans e1⟩
  ·obtain⟨o',e1⟩:=I.base.there b o e hx
   exact⟨o',(hs.2 b (qN (qK (qy e) I.ok.above))).trans e1⟩
  ·by_cases hj:j=i
   ·subst hj
    rw[hi]at e1;cases e1
    rw[List.getElem?_set_self hiσ]at e2
    cases e2
    exact⟨u,r,.inl ⟨hk,by simp⟩⟩
   ·rw[List.getElem?_set_ne (Ne.symm hj)]at e2
    obtain⟨u',r',q⟩:=hl j y v' e1 e2 e3
    refine⟨u',r',?_⟩
    rcases q with⟨k,e⟩|⟨k,c,e,z⟩
    ·refine .inl ⟨k,?_⟩
     have:y≠x:=fun e=>hj (z2u hN e1 (e▸hi))
     simp[this,e]
    ·exact .inr ⟨k,c,e,z.sameBut hs (cne y c e)⟩
  ·obtain⟨w',z⟩:=I.cell y c e
   exact⟨w',z.sameBut hs (cne y c e)⟩
  ·obtain⟨e,n,ne,nf,d⟩:=I.pin p hp
   exact⟨(hs.2 p.1 ne).trans e,n,ne,nf,d⟩
 ·have hfn:X.fn x=true:=by
   rcases hf with z|z
   ·exact z
   ·rw[z]at hk;cases hk
  obtain⟨c,hc⟩:=I.ok.has x (.inl hk)
  obtain⟨w',z⟩:=I.cell x c hc
  refine wpAny_storeName_cell I.ok.kind hk hc z (fun h' hc' hs=>?_)
  obtain⟨oc,hoc,hocd⟩:=id z
  refine h { s with heap:=h' } ⟨I.ok,I.os,I.bare,⟨fun b o e n hb hx=>?_,fun b o e n hb hx=>?_,I.base.free,fun b o e hx=>?_,I.base.tups,I.base.frzs,I.base.tbls⟩,⟨m,hn.sameBut hs (Ne.symm (cne x c hc)),fun j y v' e1 e2 e3=>?_⟩,fun y c' e=>?_,I.free,I.freeC,fun p hp=>?_,tracked ⟨oc,hoc,I.freeC x c hc⟩ hs,by simpa using I.len⟩ ⟨c,hs,.inr hc⟩
  ·exact(hs.2 b (qN (qK (qy e) (I.ok.cab x c hfn hc)))).trans (I.base.keep b o e n hb hx)
  ·obtain⟨sl,e1⟩:=I.base.slot b o e n hb hx
   exact⟨sl,(hs.2 b (qN (qK (qy e) (I.ok.cab x c hfn hc)))).trans e1⟩
  ·obtain⟨o',e1⟩:=I.base.there b o e hx
   exact⟨o',(hs.2 b (qN (qK (qy e) (I.ok.cab x c hfn hc)))).trans e1⟩
  ·by_cases hj:j=i
   ·subst hj
    rw[hi]at e1;cases e1
    rw[List.getElem?_set_self hiσ]at e2
    cases e2
    exact⟨u,r,.inr ⟨.inl hk,c,hc,hc'⟩⟩
   ·rw[List.getElem?_set_ne (Ne.symm hj)]at e2
    obtain⟨u',r',q⟩:=hl j y v' e1 e2 e3
    refine⟨u',r',?_⟩
    rcases q with q|⟨k,c',e,z'⟩
    ·exact .inl q
    ·refine .inr ⟨k,c',e,z'.sameBut hs ?_⟩
     rintro rfl
     exact hj (z2u hN e1 (I.ok.inj _ _ _ e hc▸hi))
  ·by_cases hcc:c'=c
   ·subst hcc;exact⟨_,hc'⟩
   ·obtain⟨w2,z2⟩:=I.cell y c' e
    exact⟨w2,z2.sameBut hs hcc⟩
  ·obtain⟨e,n,ne,nf,d⟩:=I.pin p hp
   refine⟨(hs.2 p.1 ?_).trans e,n,ne,nf,d⟩
   intro q
   rw[q,hoc]at e
   have q':oc=p.2:=qQ e
   exact d w' (by rw[<- q'];exact hocd)
theorem z3C {M:Model}{A:Around}{E:Value->Shared->Prop}{i:Nat}{x:Str}{v:V}{u:Value}{Q:Unit->Shared->Prop}(I:Inv X pins σ H s) (hN:X.N.Nodup) (hi:X.N[i]?=some x) (hx:Loc X.env.scope x) (r:z1C v u)
 (h:∀s',Inv X pins (σ.set i (some v)) H s'->Q () s') (hf:X.fn x=true\/X.env.scope.names.lookup x=some .local:=by first|exact .inl rfl|exact .inr rfl|assumption):wpAny M A (storeName X.env x u) Q E s:=
 z6K I hN hi hx r (fun s' I' _=>h s' I') hf
theorem Inv.call' {s':Shared}{ch:List Addr}(I:Inv X pins σ H s) (ho:s'.os=s.os) (u:Un (frs X.stack) ch H H' s.heap s'.heap) (hok:HOk X.prog X.w H' s'.heap) (hg:AllBare s'.gens)
 (hch:∀b∈ch,(b∈X.ex\/X.s₀.heap.objs.size<=b)/\b≠X.env.locals/\(∀x c,X.env.cells.lookup x=some c->c≠b)/\∀p∈X.pn++pins,p.1≠b):Inv X pins σ H' s':=by
 obtain⟨h',g',d',t',o'⟩:=s'
 have e:o'=s.os:=ho
 subst e
 exact I.call (g':=g') (t':=t') (d':=d') u hok hg hch
end
abbrev XK:=Value->Option Addr->Hp->Prop
abbrev St:=List (Option V)
abbrev VK:=V->Hp->Prop
abbrev TE:=St->Hp->VK->Prop
abbrev TT:=St->Hp->(Bool->Hp->Prop)->Prop
abbrev TA:=St->Hp->(List V->Hp->Prop)->Prop
structure z9d where
 nx:St->Hp->Prop
 rt:VK
 bk:St->Hp->Prop:=fun _ _=>False
 ct:St->Hp->Prop:=fun _ _=>False
abbrev TS:=z9d->St->Hp->Prop
def EP (X:Cx) (pins:List (Addr×Obj)) (σ:St) (Q:VK) (u:Value) (s':Shared):Prop:=∃v H',Inv X pins σ H' s'/\z1C v u/\Q v H'
def TP (X:Cx) (pins:List (Addr×Obj)) (σ:St) (Q:Bool->Hp->Prop) (b:Bool) (s':Shared):Prop:=∃H',Inv X pins σ H' s'/\Q b H'
def AP (X:Cx) (pins:List (Addr×Obj)) (σ:St) (Q:List V->Hp->Prop) (us:List Value) (s':Shared):Prop:=∃vs H',Inv X pins σ H' s'/\z19 vs us/\Q vs H'
def SP (X:Cx) (pins:List (Addr×Obj)) (D:z9d) (f:Flow) (s':Shared):Prop:=
 match f with
 |.next=>∃σ' H',Inv X pins σ' H' s'/\D.nx σ' H'
 |.brk=>∃σ' H',Inv X pins σ' H' s'/\D.bk σ' H'
 |.cont=>∃σ' H',Inv X pins σ' H' s'/\D.ct σ' H'
 |.ret u=>∃v σ' H',Inv X pins σ' H' s'/\z1C v u/\D.rt v H'
def PE (X:Cx) (e:Expr) (t:TE):Prop:=
 ∀(pins:List (Addr×Obj)) (s:Shared) (σ:St) (H:Hp) (Q:VK),Inv X pins σ H s->t σ H Q->wpAny (model X.prog X.w) X.A (eval e X.env) (EP X pins σ Q) X.xe s
def PT (X:Cx) (e:Expr) (t:TT):Prop:=
 ∀(pins:List (Addr×Obj)) (s:Shared) (σ:St) (H:Hp) (Q:Bool->Hp->Prop),Inv X pins σ H s->t σ H Q->wpAny (model X.prog X.w) X.A (isTrue e X.env (eval e X.env)) (TP X pins σ Q) X.xe s
def PW (X:Cx) (e:Expr) (t:TT):Prop:=
 ∀(whole:Sem Value) (pins:List (Addr×Obj)) (s:Shared) (σ:St) (H:Hp) (Q:Bool->Hp->Prop),Inv X pins σ H s->t σ H Q->wpAny (model X.prog X.w) X.A (isTrue e X.env whole) (TP X pins σ Q) X.xe s
theorem PW.pt {X:Cx}{e:Expr}{t:TT}(h:PW X e t):PT X e t:=h _
def PA (X:Cx) (es:List Expr) (t:TA):Prop:=
 ∀(pos:Pos) (pins:List (Addr×Obj)) (s:Shared) (σ:St) (H:Hp) (Q:List V->Hp->Prop),Inv X pins σ H s->t σ H Q->wpAny (model X.prog X.w) X.A (spliced (backTo pos (starEach es X.env))) (AP X pins σ Q) X.xe s
def PS (X:Cx) (st:Stmt) (t:TS):Prop:=
 ∀(pins:List (Addr×Obj)) (s:Shared) (σ:St) (H:Hp) (D:z9d),Inv X pins σ H s->t D σ H->wpAny (model X.prog X.w) X.A (exec st X.env) (SP X pins D) X.xe s
def PSs (X:Cx) (st:List Stmt) (t:TS):Prop:=
 ∀(pins:List (Addr×Obj)) (s:Shared) (σ:St) (H:Hp) (D:z9d),Inv X pins σ H s->t D σ H->wpAny (model X.prog X.w) X.A (execs st X.env) (SP X pins D) X.xe s
theorem thn {α:Type}{t:Sem α}{Q Q':α->Shared->Prop}{M:Model}{A:Around}{E:Value->Shared->Prop}{s:Shared}(h:wpAny M A t Q E s) (hQ:∀a s,Q a s->Q' a s):wpAny M A t Q' E s:=wpAny_mono h hQ fun _ _ x=>x
section
variable {X:Cx}
theorem bin {a b:Expr}{ta tb:TE}(ha:PE X a ta) (hb:PE X b tb) {pins:List (Addr×Obj)}{s:Shared}{σ:St}{H:Hp}{R:V->V->Hp->Prop}(I:Inv X pins σ H s) (h:ta σ H fun x H1=>tb σ H1 fun y H2=>R x y H2)
 {α:Type}{Q:α->Shared->Prop}{f:Value->Value->Sem α}
 (hf:∀v u s2 x y H2,Inv X pins σ H2 s2->z1C x v->z1C y u->R x y H2->wpAny (model X.prog X.w) X.A (f v u) Q X.xe s2):
 wpAny (model X.prog X.w) X.A (eval a X.env) (fun v s₁=>wpAny (model X.prog X.w) X.A (eval b X.env) (fun u s₂=>wpAny (model X.prog X.w) X.A (f v u) Q X.xe s₂) X.xe s₁) X.xe s:=by
 refine thn (ha pins s σ H _ I h) fun v s1 ⟨x,H1,I1,r1,q1⟩=>?_
 refine thn (hb pins s1 σ H1 _ I1 q1) fun u s2 ⟨y,H2,I2,r2,q2⟩=>?_
 exact hf v u s2 x y H2 I2 r1 r2 q2
def zeD (i:Nat):TE:=fun σ H Q=>∃v,σ[i]?=some (some v)/\Q v H
def tC (v:V):TE:=fun _ H Q=>Q v H
theorem zdk {i:Nat}{x:Str}{pos:Pos}(hN:X.N[i]?=some x) (hv:Vis X.env.scope x) (hd:(x == ("__debug__":Str))=false:=by decide) (hcd:(x == ("__classdict__":Str))=false:=by decide):PE X (.Name x pos) (zeD i):=by
 intro pins s σ H Q I h
 obtain⟨v,e,h⟩:=h
 obtain⟨m,hn,hl⟩:=I.loc
 obtain⟨u,r,l⟩:=hl i x v hN e hv
 have fin:EP X pins σ Q u s:=⟨v,H,I,r,h⟩
 rcases l with⟨hk,hm⟩|⟨hk,c,hc,hcell⟩
 ·exact wpAny_Name (wpAny_loadName_local I.ok.kind hk hn hm fin) hd
 ·rcases hk with hk|hk
  ·exact wpAny_Name (wpAny_loadName_cell I.ok.kind hk hc hcell fin) hd
  ·exact wpAny_Name (wpAny_loadName_free I.ok.kind hk hc hcell fin hcd) hd
theorem z03 {i j pos}:PE X (.Constant (.int i) j pos) (tC (.int i)):=fun _ _ _ H _ I h=>wpAny_Constant_int ⟨.int i,H,I.tok _,⟨_,rfl⟩,h⟩
theorem z1n {b j pos}:PE X (.Constant (.bool b) j pos) (tC (.bl b)):=fun _ _ _ H _ I h=>Constant_bool ⟨.bl b,H,I,rfl,h⟩
theorem z3I {j pos}:PE X (.Constant .none j pos) (tC .non):=fun _ _ _ H _ I h=>Constant_none ⟨.non,H,I,rfl,h⟩
theorem z0x {x j pos}:PE X (.Constant (.str x) j pos) (tC (.str x)):=fun _ _ _ H _ I h=>Calls.Constant_str ⟨.str x,H,I.tok _,⟨_,rfl⟩,h⟩
def Gl (X:Cx) (x:Str):Prop:=X.env.kindOf x=some .globalImplicit
theorem z58 {E:Value->Shared->Prop}{pins:List (Addr×Obj)}{s:Shared}{σ:St}{H:Hp}{x:Str}{u:Value}{pos:Pos}{Q:Value->Shared->Prop}(I:Inv X pins σ H s) (hg:Gl X x) (hm:X.mg x=some u) (h:Q u s)
 (hd:(x == ("__debug__":Str))=false:=by decide):wpAny (model X.prog X.w) X.A (eval (.Name x pos) X.env) Q E s:=
 Calls.Name_function_global I.ok.kind hg (Calls.loadGlobal_global (by rw[I.ok.glob];exact I.mod.glob.keeps I.bk) hm h) hd
theorem z3O {E:Value->Shared->Prop}{pins:List (Addr×Obj)}{s:Shared}{σ:St}{H:Hp}{x:Str}{u:Value}{pos:Pos}{Q:Value->Shared->Prop}(I:Inv X pins σ H s) (hg:Gl X x) (hm:X.mg x=none) (hv:bootBuiltins x=some u) (h:Q u s)
 (hn:x≠"__name__":=by decide) (hd:(x == ("__debug__":Str))=false:=by decide):wpAny (model X.prog X.w) X.A (eval (.Name x pos) X.env) Q E s:=by
 obtain⟨mb,h1,h2⟩:=I.mod.blt
 exact Calls.Name_function_global I.ok.kind hg (Calls.loadGlobal_builtin (by rw[I.ok.glob];exact I.mod.glob.keeps I.bk) hm (by rw[I.ok.blt];exact h1.keeps I.bk) ((h2 x hn).trans hv) h) hd
theorem z6g {x:Str}{v:V}{u:Value}{pos:Pos}(hg:Gl X x) (hm:X.mg x=some u) (r:z1C v u) (hd:(x == ("__debug__":Str))=false:=by decide):PE X (.Name x pos) (tC v):=
 fun _ _ _ H _ I h=>z58 I hg hm ⟨v,H,I,r,h⟩ hd
theorem z2f {x:Str}{v:V}{u:Value}{pos:Pos}(hg:Gl X x) (hm:X.mg x=none) (hv:bootBuiltins x=some u) (r:z1C v u) (hn:x≠"__name__":=by decide) (hd:(x == ("__debug__":Str))=false:=by decide):PE X (.Name x pos) (tC v):=
 fun _ _ _ H _ I h=>z3O I hg hm hv ⟨v,H,I,r,h⟩ hn hd
variable {a b:Expr}{ta tb:TE}{pos:Pos}
def PC (X:Cx) (op:CmpOp) (a b:Expr) (t:TE):Prop:=
 ∀(pins:List (Addr×Obj)) (s:Shared) (σ:St) (H:Hp) (Q:VK),Inv X pins σ H s->t σ H Q->
  wpAny (model X.prog X.w) X.A (eval a X.env) (fun v s₁=>wpAny (model X.prog X.w) X.A (eval b X.env) (fun u s₂=>wpAny (model X.prog X.w) X.A (compareOp op v u) (EP X pins σ Q) X.xe s₂) X.xe s₁) X.xe s
def tB (t:TE):TT:=fun σ H Q=>t σ H fun x H1=>∃c,x=.bl c/\Q c H1
theorem zeL {op:CmpOp}{t:TE}(h:PC X op a b t) (h1:behindInMarks op b=false:=by first|exact nobehind _ (by decide) (by decide)|rfl):PT X (.Compare a [op] [b] pos) (tB t):=by
 intro pins s σ H Q I hw
 refine wpAny_isTrue_Compare1 (thn (h pins s σ H _ I hw) fun v s1 h1=>thn h1 fun u s2 h2=>thn h2 fun c s3 ⟨x,H1,I1,r1,q1⟩=>?_) h1
 obtain⟨d,rfl,q⟩:=q1
 cases r1
 exact wpAny_truthy_bool ⟨H1,I1,q⟩
theorem z0M {e:Expr}{t:TE}(h:PE X e t) (he:∀whole,isTrue e X.env whole=(do let v <- whole;standAt e.pos;holding [v] (truthy v)):=by intro _;rfl):PT X e (tB t):=by
 intro pins s σ H Q I hw
 refine isTrue_plain (thn (h pins s σ H _ I hw) fun v s1 ⟨x,H1,I1,r1,q1⟩=>?_) (he _)
 obtain⟨d,rfl,q⟩:=q1
 cases r1
 exact wpAny_truthy_bool ⟨H1,I1,q⟩
variable {tA tB':TT}{rest:List Expr}
def zf1 (t u:TT):TT:=fun σ H Q=>t σ H fun c H1=>if c=true then u σ H1 Q else Q false H1
def tOr (t u:TT):TT:=fun σ H Q=>t σ H fun c H1=>if c=true then Q true H1 else u σ H1 Q
def zeW (t:TT):TT:=fun σ H Q=>t σ H fun c H1=>Q (!c) H1
theorem z2K (ha:PT X a tA):PW X (.BoolOp .And [a] pos) tA:=by
 intro wh pins s σ H Q I h
 refine isTrue_and (thn (ha pins s σ H Q I h) fun c s1 e=>?_)
 cases c with
 |true=>exact isTrue_and_nil e
 |false=>exact e
theorem z37 (ha:PT X a tA):PW X (.BoolOp .Or [a] pos) tA:=by
 intro wh pins s σ H Q I h
 refine isTrue_or (thn (ha pins s σ H Q I h) fun c s1 e=>?_)
 cases c with
 |false=>exact isTrue_or_nil e
 |true=>exact e
theorem z3m (ha:PT X a tA) (hb:PW X (.BoolOp .And (b::rest) pos) tB'):PW X (.BoolOp .And (a::b::rest) pos) (zf1 tA tB'):=by
 intro wh pins s σ H Q I h
 refine isTrue_and (thn (ha pins s σ H _ I h) fun c s1 ⟨H1,I1,q1⟩=>?_)
 cases c with
 |true=>exact hb wh pins s1 σ H1 Q I1 q1
 |false=>exact⟨H1,I1,q1⟩
theorem z38 (ha:PT X a tA) (hb:PW X (.BoolOp .Or (b::rest) pos) tB'):PW X (.BoolOp .Or (a::b::rest) pos) (tOr tA tB'):=by
 intro wh pins s σ H Q I h
 refine isTrue_or (thn (ha pins s σ H _ I h) fun c s1 ⟨H1,I1,q1⟩=>?_)
 cases c with
 |true=>exact⟨H1,I1,q1⟩
 |false=>exact hb wh pins s1 σ H1 Q I1 q1
theorem z1s (ha:PT X a tA):PT X (.UnaryOp .Not a pos) (zeW tA):=by
 intro pins s σ H Q I h
 exact isTrue_not (ha pins s σ H (fun c H1=>Q (!c) H1) I h)
def zec (ta tb:TE):TE:=fun σ H Q=>ta σ H fun x H1=>∃c,x=.bl c/\if c=true then tb σ H1 Q else Q (.bl false) H1
def zeV (ta tb:TE):TE:=fun σ H Q=>ta σ H fun x H1=>∃c,x=.bl c/\if c=true then Q (.bl true) H1 else tb σ H1 Q
def ze5 (ta:TE):TE:=fun σ H Q=>ta σ H fun x H1=>∃c,x=.bl c/\Q (.bl (!c)) H1
theorem z8o {op}{t:TE}(h:PE X a t):PE X (.BoolOp op [a] pos) t:=fun pins s σ H Q I hw=>BoolOp_one (h pins s σ H Q I hw)
theorem z9N (ha:PE X a ta) (hb:PE X (.BoolOp .And (b::rest) pos) tb):PE X (.BoolOp .And (a::b::rest) pos) (zec ta tb):=by
 intro pins s σ H Q I h
 refine BoolOp_and (thn (ha pins s σ H _ I h) fun v s1 ⟨x,H1,I1,r1,q1⟩=>?_)
 obtain⟨c,rfl,q1⟩:=q1
 cases r1
 refine wpAny_truthy_bool ?_
 cases c with
 |true=>exact hb pins s1 σ H1 Q I1 q1
 |false=>exact⟨.bl false,H1,I1,rfl,q1⟩
theorem zei (ha:PE X a ta) (hb:PE X (.BoolOp .Or (b::rest) pos) tb):PE X (.BoolOp .Or (a::b::rest) pos) (zeV ta tb):=by
 intro pins s σ H Q I h
 refine BoolOp_or (thn (ha pins s σ H _ I h) fun v s1 ⟨x,H1,I1,r1,q1⟩=>?_)
 obtain⟨c,rfl,q1⟩:=q1
 cases r1
 refine wpAny_truthy_bool ?_
 cases c with
 |false=>exact hb pins s1 σ H1 Q I1 q1
 |true=>exact⟨.bl true,H1,I1,rfl,q1⟩
theorem zdl (ha:PE X a ta):PE X (.UnaryOp .Not a pos) (ze5 ta):=by
 intro pins s σ H Q I h
 refine UnaryOp_ (thn (ha pins s σ H _ I h) fun v s1 ⟨x,H1,I1,r1,q1⟩=>?_)
 obtain⟨c,rfl,q1⟩:=q1
 cases r1
 exact not_of (wpAny_truthy_bool ⟨.bl (!c),H1,I1,rfl,q1⟩)
def tIf (t:TT) (ta tb:TE):TE:=fun σ H Q=>t σ H fun c H1=>if c=true then ta σ H1 Q else tb σ H1 Q
theorem z3h {c:Expr}(hc:PT X c tA) (ha:PE X a ta) (hb:PE X b tb):PE X (.IfExp c a b pos) (tIf tA ta tb):=by
 intro pins s σ H Q I h
 refine wpAny_IfExp (thn (hc pins s σ H _ I h) fun d s1 ⟨H1,I1,q1⟩=>?_)
 cases d with
 |true=>exact ha pins s1 σ H1 Q I1 q1
 |false=>exact hb pins s1 σ H1 Q I1 q1
end
def SqL (K:PySem.W.Frag) (H:Hp) (a:Addr) (xs:List V):Prop:=
 Rd H a (.lst xs) \/
  ∃(o:Obj) (its:Array Value) (n:Nat),K.lookup a=some o/\o.cls=.type "list"/\o.dict=none/\o.data=.seq its n/\its.size<=sizeLine/\z19 xs its.toList
def SqT (K:PySem.W.Frag) (H:Hp) (a:Addr) (xs:List V):Prop:=
 Rd H a (.tup xs) \/
  ∃(o:Obj) (its:Array Value) (n:Nat),K.lookup a=some o/\o.cls=.type "tuple"/\o.data=.seq its n/\its.size<=sizeLine/\z19 xs its.toList
def zff:Value->Option V
 |.none=>some .non
 |.bool b=>some (.bl b)
 |.int i _=>some (.int i)
 |.str x _=>some (.str x)
 |.bytes b _=>some (.byt b)
 |.float b _=>some (.flt b)
 |.ref a=>some (.ref a)
 |.type n=>some (.ty n)
 |_=>none
theorem z1C.abs {x:V}{u:Value}(r:z1C x u):zff u=some x:=by
 cases x with
 |non=>cases r;rfl
 |bl _=>cases r;rfl
 |int _=>obtain⟨t,rfl⟩:=r;rfl
 |str _=>obtain⟨t,rfl⟩:=r;rfl
 |byt _=>obtain⟨t,rfl⟩:=r;rfl
 |flt _=>obtain⟨t,rfl⟩:=r;rfl
 |ref _=>cases r;rfl
 |ty _=>cases r;rfl
theorem z1C.inj {x y:V}{u:Value}(r:z1C x u) (q:z1C y u):x=y:=qQ (r.abs.symm.trans q.abs)
theorem z19.inj:∀{xs ys:List V}{us:List Value},z19 xs us->z19 ys us->xs=ys
 |_,_,_,.nil,.nil=>rfl
 |_,_,_,.cons r t,.cons r' t'=>by rw[r.inj r',z19.inj t t']
section
variable {X:Cx}{pins:List (Addr×Obj)}{σ:St}{H:Hp}{s:Shared}{a:Addr}{xs ys:List V}
theorem SqL.of {K:PySem.W.Frag}(h:H a=some (.lst xs)):SqL K H a xs:=.inl (.inl h)
theorem SqT.of {K:PySem.W.Frag}(h:H a=some (.tup xs)):SqT K H a xs:=.inl (.inl h)
theorem Inv.list (I:Inv X pins σ H s) (h:SqL X.K H a xs):∃its:List Value,z19 xs its/\PlainL s.heap a its.toArray/\xs.length<=sizeLine:=by
 rcases h with h|⟨o,its,n,hk,hc,hd,hs,hz,r⟩
 ·obtain⟨z,its,n,r,e⟩:=h.ok I.hok
  exact⟨its,r,⟨_,n,e,rfl,rfl,rfl⟩,z⟩
 ·refine⟨its.toList,r,⟨o,n,I.kIn a o hk,hc,hd,by simpa using hs⟩,?_⟩
  have e:=r.length
  simp only[Array.length_toList]at e
  omega
theorem Inv.tuple (I:Inv X pins σ H s) (h:SqT X.K H a xs):∃its:List Value,z19 xs its/\IsTup s.heap a its.toArray/\xs.length<=sizeLine:=by
 rcases h with h|⟨o,its,n,hk,hc,hs,hz,r⟩
 ·obtain⟨z,its,r,p⟩:=h.ok I.hok
  exact⟨its,r,p,z⟩
 ·refine⟨its.toList,r,⟨o,I.kIn a o hk,hc,n,by simpa using hs⟩,?_⟩
  have e:=r.length
  simp only[Array.length_toList]at e
  omega
theorem Inv.list_inj (I:Inv X pins σ H s) (h:SqL X.K H a xs) (h':SqL X.K H a ys):xs=ys:=by
 obtain⟨its,r,⟨o,n,e,_,_,d⟩,_⟩:=I.list h
 obtain⟨its',r',⟨o',n',e',_,_,d'⟩,_⟩:=I.list h'
 rw[e]at e';cases e'
 rw[d]at d'
 injection d' with d1 _
 have:its=its':=by simpa using congrArg Array.toList d1
 subst this
 exact r.inj r'
theorem Inv.tuple_inj (I:Inv X pins σ H s) (h:SqT X.K H a xs) (h':SqT X.K H a ys):xs=ys:=by
 obtain⟨its,r,⟨o,e,_,n,d⟩,_⟩:=I.tuple h
 obtain⟨its',r',⟨o',e',_,n',d'⟩,_⟩:=I.tuple h'
 rw[e]at e';cases e'
 rw[d]at d'
 injection d' with d1 _
 have:its=its':=by simpa using congrArg Array.toList d1
 subst this
 exact r.inj r'
end
abbrev Cx.wish (X:Cx) (E:Value->Shared->Prop):Cx:={ X with xe:=E }
abbrev Cx.nox (X:Cx):Cx:=X.wish fun _ _=>False
theorem Cx.Ok.wish {X:Cx}(ok:X.Ok) (E:Value->Shared->Prop):(X.wish E).Ok:=
 ⟨ok.mod,ok.kind,ok.glob,ok.blt,ok.above,ok.inj,ok.has,ok.cab,ok.hd,ok.frames,ok.stk,ok.exf,ok.bs,ok.bsz,ok.noex,ok.exfs,ok.funs,ok.frf⟩
theorem Cx.Ok.unwish {X:Cx}{E:Value->Shared->Prop}(ok:(X.wish E).Ok):X.Ok:=
 ⟨ok.mod,ok.kind,ok.glob,ok.blt,ok.above,ok.inj,ok.has,ok.cab,ok.hd,ok.frames,ok.stk,ok.exf,ok.bs,ok.bsz,ok.noex,ok.exfs,ok.funs,ok.frf⟩
section
variable {X:Cx}{pins:List (Addr×Obj)}{σ:St}{H:Hp}{s:Shared}{E:Value->Shared->Prop}
theorem Inv.wish (I:Inv X pins σ H s) (E:Value->Shared->Prop):Inv (X.wish E) pins σ H s:=⟨I.ok.wish E,I.os,I.bare,I.base,I.loc,I.cell,I.free,I.freeC,I.pin,I.hok,I.len⟩
theorem Inv.unwish (I:Inv (X.wish E) pins σ H s):Inv X pins σ H s:=⟨I.ok.unwish,I.os,I.bare,I.base,I.loc,I.cell,I.free,I.freeC,I.pin,I.hok,I.len⟩
theorem SP.unwish {D:z9d}{f:Flow}{s':Shared}(h:SP (X.wish E) pins D f s'):SP X pins D f s':=by
 cases f with
 |next=>obtain⟨σ',H',I,q⟩:=h;exact⟨σ',H',I.unwish,q⟩
 |brk=>obtain⟨σ',H',I,q⟩:=h;exact⟨σ',H',I.unwish,q⟩
 |cont=>obtain⟨σ',H',I,q⟩:=h;exact⟨σ',H',I.unwish,q⟩
 |ret u=>obtain⟨v,σ',H',I,r,q⟩:=h;exact⟨v,σ',H',I.unwish,r,q⟩
theorem PSs.nox {st:List Stmt}{t:TS}(h:PSs X.nox st t):PSs X st t:=fun pins s σ H D I hw=>
 wpAny_mono (h pins s σ H D (I.wish _) hw) (fun _ _ q=>q.unwish) fun _ _ z=>False.elim z
end
section
variable {X:Cx}{st:Stmt}{rest:List Stmt}{t u:TS}{e:Expr}{te:TE}{pos:Pos}
def ze6:TS:=fun D σ H=>D.nx σ H
def ze3 (t u:TS):TS:=fun D σ H=>t { D with nx:=u D } σ H
theorem z0i:PSs X [] ze6:=fun _ _ σ H _ I h=>wpAny_execs_nil ⟨σ,H,I,h⟩
theorem z04 (h1:PS X st t) (h2:PSs X rest u):PSs X (st::rest) (ze3 t u):=by
 intro pins s σ H D I h
 refine wpAny_execs_cons (thn (h1 pins s σ H { D with nx:=u D } I h) fun f s1 q=>?_)
 cases f with
 |next=>
  obtain⟨σ',H',I',q⟩:=q
  exact h2 pins s1 σ' H' D I' q
 |ret v=>exact q
 |brk=>exact q
 |cont=>exact q
theorem z05 (h1:PS X st t):PSs X [st] t:=by
 intro pins s σ H D I h
 refine wpAny_execs_cons (thn (h1 pins s σ H D I h) fun f s1 q=>?_)
 cases f with
 |next=>exact wpAny_execs_nil q
 |ret v=>exact q
 |brk=>exact q
 |cont=>exact q
theorem Inv.quiet {pins:List (Addr×Obj)}{σ:St}{H:Hp}{s:Shared}(I:Inv X pins σ H s):interactive X.env=false:=by simp[interactive,I.ok.kind]
def ze8 (te:TE):TS:=fun D σ H=>te σ H fun _ H1=>D.nx σ H1
theorem z0P (he:PE X e te) (hs:swapsWith e none pos.line X.env=pure false:=by rfl):PS X (.Expr e pos) (ze8 te):=by
 intro pins s σ H D I h
 exact wpAny_Expr_any (thn (he pins s σ H _ I h) fun v s1 ⟨x,H1,I1,r1,q1⟩=>⟨σ,H1,I1,q1⟩) I.quiet hs
def zeU (te:TE):TS:=fun D σ H=>te σ H D.rt
theorem z0e (he:PE X e te):PS X (.Return (some e) pos) (zeU te):=by
 intro pins s σ H D I h
 exact wpAny_Return_some (thn (he pins s σ H _ I h) fun v s1 ⟨x,H1,I1,r1,q1⟩=>⟨x,σ,H1,I1,r1,q1⟩)
def zeY (c:TT) (t u:TS):TS:=fun D σ H=>c σ H fun b H1=>if b=true then t D σ H1 else u D σ H1
theorem z0v {c:Expr}{a b:List Stmt}{tc:TT}(hc:PT X c tc) (ha:PSs X a t) (hb:PSs X b u):PS X (.If c a b pos) (zeY tc t u):=by
 intro pins s σ H D I h
 refine wpAny_If (thn (hc pins s σ H _ I h) fun d s1 ⟨H1,I1,q1⟩=>?_)
 cases d with
 |true=>exact ha pins s1 σ H1 D I1 q1
 |false=>exact hb pins s1 σ H1 D I1 q1
end
abbrev TG:=V->St->Hp->(St->Hp->Prop)->Prop
abbrev TGs:=List V->St->Hp->(St->Hp->Prop)->Prop
def PG (X:Cx) (target:Expr) (t:TG):Prop:=
 ∀(pins:List (Addr×Obj)) (s:Shared) (σ:St) (H:Hp) (v:V) (u:Value) (Q:St->Hp->Prop),Inv X pins σ H s->z1C v u->t v σ H Q->
  wpAny (model X.prog X.w) X.A (assign target X.env u) (fun _ s'=>∃σ' H',Inv X pins σ' H' s'/\Q σ' H') X.xe s
def PGs (X:Cx) (ts:List Expr) (t:TGs):Prop:=
 ∀(pins:List (Addr×Obj)) (s:Shared) (σ:St) (H:Hp) (vs:List V) (us:List Value) (Q:St->Hp->Prop),Inv X pins σ H s->z19 vs us->t vs σ H Q->
  wpAny (model X.prog X.w) X.A (assignInOrder ((assignEach ts X.env).map (·.2)) us) (fun _ s'=>∃σ' H',Inv X pins σ' H' s'/\Q σ' H') X.xe s
section
variable {X:Cx}{pos:Pos}
def z7Z (i:Nat):TG:=fun v σ H Q=>Q (σ.set i (some v)) H
theorem z0s {i:Nat}{x:Str}(hN:X.N.Nodup) (hi:X.N[i]?=some x) (hx:Loc X.env.scope x) (hf:X.fn x=true\/X.env.scope.names.lookup x=some .local:=by first|exact .inl rfl|exact .inr rfl|assumption):PG X (.Name x pos) (z7Z i):=by
 intro pins s σ H v u Q I r h
 exact wpAny_assign_Name (z3C I hN hi hx r (fun s' I'=>⟨_,H,I',h⟩) hf)
def zfd:TGs:=fun vs σ H Q=>vs=[]/\Q σ H
def zey (t:TG) (u:TGs):TGs:=fun vs σ H Q=>∃v r,vs=v::r/\t v σ H fun σ' H'=>u r σ' H' Q
theorem z46:PGs X [] zfd:=by
 intro pins s σ H vs us Q I r h
 obtain⟨e,h⟩:=h
 subst e
 cases r
 exact assignInOrder_nil ⟨σ,H,I,h⟩
theorem z1H {e:Expr}{es:List Expr}{t:TG}{u:TGs}(h1:PG X e t) (h2:PGs X es u)
 (hs:(assignEach (e::es) X.env).map (·.2)=assign e X.env::(assignEach es X.env).map (·.2):=by rfl):PGs X (e::es) (zey t u):=by
 intro pins s σ H vs us Q I r h
 obtain⟨v,vr,e1,h⟩:=h
 subst e1
 cases r with
 |cons r rr=>
  rw[hs]
  refine assignInOrder_cons (thn (h1 pins s σ H _ _ _ I r h) fun _ s1 ⟨σ1,H1,I1,q1⟩=>?_)
  exact h2 pins s1 σ1 H1 _ _ Q I1 rr q1
def zeO (K:PySem.W.Frag) (n:Nat) (t:TGs):TG:=fun v σ H Q=>∃a xs,v=.ref a/\SqT K H a xs/\xs.length=n/\t xs σ H Q
theorem z5C {es:List Expr}{k:Nat}{t:TGs}{n:Nat}(hc:X.calm=true) (h:PGs X es t)
 (hn:(assignEach es X.env).length=n:=by rfl) (hst:(assignEach es X.env).findIdx? (·.1)=none:=by rfl):PG X (.Tuple es k pos) (zeO X.K n t):=by
 intro pins s σ H v u Q I r hw
 obtain⟨a,xs,e1,hq,hl,hw⟩:=hw
 subst e1
 cases r
 obtain⟨its,rv,ht,hz⟩:=I.tuple hq
 refine assign_Tuple_tuple (I.ok.hd hc) ht (by simp[hn,<- hl,rv.length]) hst fun h' hx=>?_
 have I1:Inv X pins σ H { s with heap:=h' }:=I.kept (t':=s.toks) fun b o e=>hx b o (qN (qy e)) e
 exact h pins _ σ H xs _ Q I1 (by simpa using rv) hw
def zdS (te:TE) (g:TG):TS:=fun D σ H=>te σ H fun x H1=>g x σ H1 D.nx
theorem zdi {tg e:Expr}{te:TE}{g:TG}(he:PE X e te) (hg:PG X tg g) (hs:swapsWithSole [tg] e pos.line X.env=pure false:=by rfl) (hw:swappedStores [tg] e X.env=pure none:=by rfl)
 (h1:(assignEach [tg] X.env).map (·.2)=[assign tg X.env]:=by rfl):PS X (.Assign [tg] e pos) (zdS te g):=by
 intro pins s σ H D I h
 refine wpAny_Assign_stores (thn (he pins s σ H _ I h) fun v s1 ⟨x,H1,I1,r1,q1⟩=>?_) hs hw
 rw[h1]
 exact thn (hg pins s1 σ H1 x v _ I1 r1 q1) fun _ s2 q=>q
theorem z0p {i:Nat}{x:Str}{e:Expr}{te:TE}{pos':Pos}(hN:X.N.Nodup) (hi:X.N[i]?=some x) (hx:Loc X.env.scope x) (he:PE X e te) (hs:swapsWith e (some (.Name x pos')) pos.line X.env=pure false:=by rfl) (hf:X.fn x=true\/X.env.scope.names.lookup x=some .local:=by first|exact .inl rfl|exact .inr rfl|assumption):
 PS X (.Assign [.Name x pos'] e pos) (zdS te (z7Z i)):=by
 intro pins s σ H D I h
 refine wpAny_Assign_Name (thn (he pins s σ H _ I h) fun v s1 ⟨y,H1,I1,r1,q1⟩=>?_) hs
 exact z3C I1 hN hi hx r1 (fun s2 I2=>⟨_,H1,I2,q1⟩) hf
end
section
variable {X:Cx}{pos:Pos}
def zd7 (c:TT) (tb:TS):TS:=fun D σ H=>∃W:Nat->St->Hp->Prop,(∃m,W m σ H)/\∀m σ H,W m σ H->
 c σ H fun b H1=>if b=true then ∃N:St->Hp->Prop,(∀σ' H',N σ' H'->∃m',m'<m/\W m' σ' H')/\tb { D with nx:=N,ct:=N,bk:=D.nx } σ H1 else D.nx σ H1
theorem z8l {c:Expr}{body:List Stmt}{tc:TT}{tb:TS}(hp:PassesOwn (model X.prog X.w) X.A X.env X.xe) (hc:PT X c tc) (hb:PSs X body tb):PS X (.While c body [] pos) (zd7 tc tb):=by
 intro pins s σ H D I h
 obtain⟨W,⟨m0,w0⟩,turn⟩:=h
 refine wpAny_While (codeAny_whileLoop (fun n s'=>∃σ' H',Inv X pins σ' H' s'/\W n σ' H') ?_ m0 ⟨σ,H,I,w0⟩)
 rintro n s1 ⟨σ1,H1,I1,w1⟩
 refine wpAny_passesOwn hp (thn (hc pins s1 σ1 H1 _ I1 (turn n σ1 H1 w1)) fun b s2 ⟨H2,I2,q2⟩=>?_)
 cases b with
 |true=>
  obtain⟨N,hN,q2⟩:=q2
  rw[if_pos rfl]
  refine wpAny_passesOwn hp (thn (hb pins s2 σ1 H2 _ I2 q2) fun f s3 q3=>?_)
  cases f with
  |next=>
   obtain⟨σ3,H3,I3,n3⟩:=q3
   obtain⟨m',hm,w3⟩:=hN σ3 H3 n3
   exact⟨m',hm,σ3,H3,I3,w3⟩
  |cont=>
   obtain⟨σ3,H3,I3,n3⟩:=q3
   obtain⟨m',hm,w3⟩:=hN σ3 H3 n3
   exact⟨m',hm,σ3,H3,I3,w3⟩
  |brk=>exact q3
  |ret v=>exact q3
 |false=>
  rw[if_neg qm]
  exact wpAny_execs_nil ⟨σ1,H2,I2,q2⟩
end
structure It where
 go:Nat->Hp->Prop
 yld:Nat->Hp->V->Hp->Prop
 stop:Nat->Hp->Prop
def z5y (X:Cx) (pins:List (Addr×Obj)) (H:Hp) (b:Addr):Prop:=
 H b=none/\b≠X.env.locals/\b∉X.fs/\(b∈X.ex\/X.s₀.heap.objs.size<=b)/\(∀x c,X.env.cells.lookup x=some c->c≠b)/\∀p∈X.pn++pins,p.1≠b
theorem Inv.fpOk {X:Cx}{pins:List (Addr×Obj)}{σ:St}{H H':Hp}{s:Shared}{b:Addr}(I:Inv X pins σ H s) (hb:s.heap.objs.size<=b) (hn:H' b=none):z5y X pins H' b:=by
 refine⟨hn,Nat.ne_of_gt (qK I.lt hb),I.nofs hb,.inr (qG I.sz hb),fun x c e z=>?_,fun p hp z=>?_⟩
 ·obtain⟨v,q⟩:=I.cell x c e
  exact absurd (qK q.lt (by rw[z];exact hb)) (Nat.lt_irrefl _)
 ·exact absurd (qK (qy (I.pin p hp).1) (by rw[z];exact hb)) (Nat.lt_irrefl _)
structure zcT (P:Program) (w:World) (K:PySem.W.Frag) (tg:Expr) (J:It) (fp:List Addr) (it:Addr) (tn:Nat->Heap->Prop):Prop where
 mem:it∈fp
 obj:∀i h,tn i h->∀b∈fp,∃o,h.get? b=some o/\∀v,o.data≠.cell v
 keep:∀i h h',tn i h->(∀b∈fp,∀o,h.get? b=some o->h'.get? b=some o)->tn i h'
 item:∀(X:Cx),X.prog=P->X.w=w->X.K=K->X.calm=true->∀(i:Nat) (pins:List (Addr×Obj)) (s:Shared) (σ:St) (H:Hp) (E:Value->Shared->Prop),Inv X pins σ H s->(∀b∈fp,z5y X pins H b)->tn i s.heap->J.go i H->
  wpAny (model P w) X.A (pyNext (.ref it)) (fun r s1=>∃u,r=some u /\
   wpAny (model P w) X.A (letOwnedTupleGo tg (.ref it) u) (fun _ s2=>∃x H',Inv X pins σ H' s2/\z1C x u/\J.yld i H x H'/\tn (i+1) s2.heap/\∀b∈fp,H' b=none) E s1) E s
 done:∀(X:Cx),X.prog=P->X.w=w->X.K=K->X.calm=true->∀(i:Nat) (pins:List (Addr×Obj)) (s:Shared) (σ:St) (H:Hp) (E:Value->Shared->Prop),Inv X pins σ H s->(∀b∈fp,z5y X pins H b)->tn i s.heap->J.stop i H->
  wpAny (model P w) X.A (pyNext (.ref it)) (fun r s1=>r=none/\Inv X pins σ H s1) E s
 self:∀(A:Around) (i:Nat) (s:Shared) (Q:Value->Shared->Prop) (E:Value->Shared->Prop),tn i s.heap->Q (.ref it) s->wpAny (model P w) A (pyIter (.ref it)) Q E s
abbrev TI:=St->Hp->(It->Hp->Prop)->Prop
def PIE (X:Cx) (pins:List (Addr×Obj)) (σ:St) (tg:Expr) (R:It->Hp->Prop) (itv:Value) (s2:Shared):Prop:=
 ∃(it:Addr) (fp:List Addr) (tn:Nat->Heap->Prop) (J:It) (H':Hp),itv=.ref it/\Inv X pins σ H' s2/\zcT X.prog X.w X.K tg J fp it tn/\tn 0 s2.heap/\(∀b∈fp,z5y X pins H' b)/\R J H'
def PI (X:Cx) (tg iter:Expr) (wi:TI):Prop:=
 ∀(pins:List (Addr×Obj)) (s:Shared) (σ:St) (H:Hp) (R:It->Hp->Prop),Inv X pins σ H s->wi σ H R->
  wpAny (model X.prog X.w) X.A (eval iter X.env) (fun v s1=>wpAny (model X.prog X.w) X.A (pyIter v) (PIE X pins σ tg R) X.xe s1) X.xe s
theorem zcI {M:Model}{A:Around}{E:Value->Shared->Prop}{s:Shared}{tg:Expr}{it:Addr}{u:Value}{o:Obj}{n:String}{vs:Array Value}{Q:Unit->Shared->Prop}(ho:s.heap.get? it=some o) (hc:o.cls=.type n) (hd:o.data=.fields vs)
 (hn:["enumerate","zip","dict_itemiterator","dict_reverseitemiterator","odict_iterator","itertools.zip_longest","itertools.pairwise"].contains n=false) (hQ:Q () s):wpAny M A (letOwnedTupleGo tg (.ref it) u) Q E s:=by
 unfold letOwnedTupleGo
 cases tg<;>first
  |exact qg hQ
  |(cases u<;>first
   |exact qg hQ
   |(refine q9 (wpAny_load ho ?_)
     rw[hc,hd]
     show wpAny M A (if(["enumerate","zip","dict_itemiterator","dict_reverseitemiterator","odict_iterator","itertools.zip_longest","itertools.pairwise"].contains n && vs[0]? == some (rawInt _))=true then _ else _) Q E s
     rw[if_neg (by intro h;rw[hn,Bool.false_and]at h;cases h)]
     exact qg hQ))
def Itl (K:PySem.W.Frag) (a:Addr):It:=
 ⟨fun i H=>∃xs x,SqL K H a xs/\xs[i]?=some x,fun i H x H'=>H'=H/\∀xs,SqL K H a xs->xs[i]?=some x,fun i H=>∃xs,SqL K H a xs/\xs.length<=i⟩
def Itt (K:PySem.W.Frag) (a:Addr):It:=
 ⟨fun i H=>∃xs x,SqT K H a xs/\xs[i]?=some x,fun i H x H'=>H'=H/\∀xs,SqT K H a xs->xs[i]?=some x,fun i H=>∃xs,SqT K H a xs/\xs.length<=i⟩
def Itr (lo:Int) (n:Nat):It:=⟨fun i _=>i<n,fun i H x H'=>H'=H/\x=.int (lo+i),fun i _=>n<=i⟩
theorem z9l {P:Program}{w:World}{K:PySem.W.Frag}{tg:Expr}(a it:Addr):zcT P w K tg (Itl K a) [it] it (fun i h=>h.IsListIter it a i) where
 mem:=by simp
 obj:=fun i h st b hb=>by
  have e:b=it:=by simpa using hb
  subst e
  obtain⟨o,e,c,d⟩:=st
  exact⟨o,e,fun v z=>by rw[d]at z;cases z⟩
 keep:=fun i h h' st k=>st.at fun o e=>k it (by simp) o e
 item:=by
  intro X hP hw hK hc i pins s σ H E I hf st hg
  subst hP hw hK
  obtain⟨xs,x,hq,hx⟩:=hg
  obtain⟨its,rv,p,hz⟩:=I.list hq
  obtain⟨u,hu,ru⟩:=rv.get hx
  obtain⟨f0,f1,f2,f3,f4,f5⟩:=hf it (by simp)
  refine wpAny_pyNext_list_item st p.isList (x:=u) (by simpa using hu) fun h' st' sb=>?_
  have I1:Inv X pins σ H { s with heap:=h' }:=I.turned (t':=s.toks) (fun b o hb e=>(sb.2 b hb).trans e) f0 f1 f3 f4 f5
  obtain⟨o,e,c,d⟩:=id st'
  exact⟨u,rfl,zcI (s:={ s with heap:=h' }) e c d (by decide) ⟨x,H,I1,ru,⟨rfl,fun ys hy=>by rw[I.list_inj hy hq];exact hx⟩,st',fun b hb=>(hf b hb).1⟩⟩
 done:=by
  intro X hP hw hK hc i pins s σ H E I hf st hg
  subst hP hw hK
  obtain⟨xs,hq,hx⟩:=hg
  obtain⟨its,rv,p,hz⟩:=I.list hq
  obtain⟨f0,f1,f2,f3,f4,f5⟩:=hf it (by simp)
  have hl:=rv.length
  exact wpAny_pyNext_list_end (I.ok.hd hc) st p.isList (by simp;omega) fun h' eb=>⟨rfl,I.turned (t':=s.toks) (fun b o hb e=>eb b o hb e) f0 f1 f3 f4 f5⟩
 self:=fun _ _ _ _ _ st h=>wpAny_pyIter_listiter st h
theorem z8M {P:Program}{w:World}{K:PySem.W.Frag}{tg:Expr}(a it:Addr):zcT P w K tg (Itt K a) [it] it (fun i h=>h.IsTupleIter it a i) where
 mem:=by simp
 obj:=fun i h st b hb=>by
  have e:b=it:=by simpa using hb
  subst e
  obtain⟨o,e,c,d⟩:=st
  exact⟨o,e,fun v z=>by rw[d]at z;cases z⟩
 keep:=fun i h h' st k=>st.at fun o e=>k it (by simp) o e
 item:=by
  intro X hP hw hK hc i pins s σ H E I hf st hg
  subst hP hw hK
  obtain⟨xs,x,hq,hx⟩:=hg
  obtain⟨its,rv,p,hz⟩:=I.tuple hq
  obtain⟨u,hu,ru⟩:=rv.get hx
  obtain⟨f0,f1,f2,f3,f4,f5⟩:=hf it (by simp)
  refine wpAny_pyNext_tuple_item st (show s.heap.IsTuple a its.toArray from p) (x:=u) (by simpa using hu) fun h' st' sb=>?_
  have I1:Inv X pins σ H { s with heap:=h' }:=I.turned (t':=s.toks) (fun b o hb e=>(sb.2 b hb).trans e) f0 f1 f3 f4 f5
  obtain⟨o,e,c,d⟩:=id st'
  exact⟨u,rfl,zcI (s:={ s with heap:=h' }) e c d (by decide) ⟨x,H,I1,ru,⟨rfl,fun ys hy=>by rw[I.tuple_inj hy hq];exact hx⟩,st',fun b hb=>(hf b hb).1⟩⟩
 done:=by
  intro X hP hw hK hc i pins s σ H E I hf st hg
  subst hP hw hK
  obtain⟨xs,hq,hx⟩:=hg
  obtain⟨its,rv,p,hz⟩:=I.tuple hq
  obtain⟨f0,f1,f2,f3,f4,f5⟩:=hf it (by simp)
  have hl:=rv.length
  exact wpAny_pyNext_tuple_end (I.ok.hd hc) st (show s.heap.IsTuple a its.toArray from p) (by simp;omega) fun h' eb=>⟨rfl,I.turned (t':=s.toks) (fun b o hb e=>eb b o hb e) f0 f1 f3 f4 f5⟩
 self:=fun _ _ _ _ _ st h=>wpAny_pyIter_tupleiter st h
theorem z8N {P:Program}{w:World}{K:PySem.W.Frag}{tg:Expr}(it:Addr) (lo:Int) (n:Nat):zcT P w K tg (Itr lo n) [it] it (fun i h=>IsRangeIter h it (lo+(i:Nat) * 1) ((n:Int)-(i:Nat)) 1) where
 mem:=by simp
 obj:=fun i h st b hb=>by
  have e:b=it:=by simpa using hb
  subst e
  exact⟨_,st,fun v z=>by
   have z':Data.fields _=Data.cell v:=z
   cases z'⟩
 keep:=fun i h h' st k=>k it (by simp) _ st
 item:=by
  intro X hP hw hK hc i pins s σ H E I hf st hg
  subst hP hw hK
  obtain⟨f0,f1,f2,f3,f4,f5⟩:=hf it (by simp)
  have W:=Walks.range (prog:=X.prog) (w:=X.w) (I.ok.hd hc) it lo 1 n
  refine W.item i s _ _ hg st fun v h' tk hv st' kk=>?_
  obtain⟨t,rfl⟩:=hv
  have I1:Inv X pins σ H { s with heap:=h',toks:=tk }:=I.turned (fun b o hb e=>kk b o (by simpa using hb) e) f0 f1 f3 f4 f5
  refine⟨_,rfl,zcI (s:={ s with heap:=h',toks:=tk }) (n:="range_iterator") st' rfl rfl (by decide) ⟨.int (lo+i),H,I1,⟨t,?_⟩,⟨rfl,rfl⟩,st',fun b hb=>(hf b hb).1⟩⟩
  rw[Int.mul_one]
 done:=by
  intro X hP hw hK hc i pins s σ H E I hf st hg
  subst hP hw hK
  obtain⟨f0,f1,f2,f3,f4,f5⟩:=hf it (by simp)
  exact wpAny_pyNext_range_end (I.ok.hd hc) st (by have:n<=i:=hg;omega) fun h' eb=>⟨rfl,I.turned (t':=s.toks) (fun b o hb e=>eb b o hb e) f0 f1 f3 f4 f5⟩
 self:=fun _ _ _ _ _ st h=>wpAny_pyIter_rangeiter st h
section
variable {X:Cx}{tg:Expr}
def zew (K:PySem.W.Frag) (tl:TE):TI:=fun σ H R=>tl σ H fun x H1=>∃a,x=.ref a/\(∃xs,SqL K H1 a xs)/\R (Itl K a) H1
def zfc (K:PySem.W.Frag) (tl:TE):TI:=fun σ H R=>tl σ H fun x H1=>∃a,x=.ref a/\(∃xs,SqT K H1 a xs)/\R (Itt K a) H1
theorem z1m {l:Expr}{tl:TE}(hl:PE X l tl):PI X tg l (zew X.K tl):=by
 intro pins s σ H R I h
 refine thn (hl pins s σ H _ I h) fun v s1 ⟨x,H1,I1,r1,q1⟩=>?_
 obtain⟨a,e,⟨xs,hq⟩,q⟩:=q1
 subst e
 cases r1
 obtain⟨its,rv,p,hz⟩:=I1.list hq
 refine wpAny_pyIter_list p.isList ?_
 refine⟨s1.heap.objs.size,[s1.heap.objs.size],_,_,H1,rfl,I1.kept (t':=s1.toks) fun b o e=>qc _ e,z9l a _,⟨_,qw _ rfl,rfl,rfl⟩,fun b hb=>?_,q⟩
 have e:b=s1.heap.objs.size:=by simpa using hb
 subst e
 exact I1.fpOk (qh _) (I1.hok.fresh (qh _))
theorem zbK {l:Expr}{tl:TE}(hl:PE X l tl):PI X tg l (zfc X.K tl):=by
 intro pins s σ H R I h
 refine thn (hl pins s σ H _ I h) fun v s1 ⟨x,H1,I1,r1,q1⟩=>?_
 obtain⟨a,e,⟨xs,hq⟩,q⟩:=q1
 subst e
 cases r1
 obtain⟨its,rv,p,hz⟩:=I1.tuple hq
 refine wpAny_pyIter_tuple (show s1.heap.IsTuple a its.toArray from p) ?_
 refine⟨s1.heap.objs.size,[s1.heap.objs.size],_,_,H1,rfl,I1.kept (t':=s1.toks) fun b o e=>qc _ e,z8M a _,⟨_,qw _ rfl,rfl,rfl⟩,fun b hb=>?_,q⟩
 have e:b=s1.heap.objs.size:=by simpa using hb
 subst e
 exact I1.fpOk (qh _) (I1.hok.fresh (qh _))
theorem z8k {pins:List (Addr×Obj)}{σ:St}{H:Hp}{s:Shared}{R:It->Hp->Prop}{E:Value->Shared->Prop}{lo hi:Int}{t u v:Tok}{tk:Nat}(I:Inv X pins σ H s) (h1:-(2 ^ 62)<=lo) (h2:lo<2 ^ 62) (h3:-(2 ^ 62)<=hi) (h4:hi<2 ^ 62)
 (q:R (Itr lo (hi-lo).toNat) H):wpAny (model X.prog X.w) X.A (pyIter (.ref s.heap.objs.size)) (PIE X pins σ tg R) E { s with heap:=s.heap.push { cls:=.type "range",data:=.fields #[.int lo t,.int hi u,.int 1 v] },toks:=tk }:=by
 refine wpAny_pyIter_range (IsRange.new ..) (small_one h1 h2 h3 h4) ?_
 have I1:Inv X pins σ H { s with heap:=s.heap.push { cls:=.type "range",data:=.fields #[.int lo t,.int hi u,.int 1 v] },toks:=tk }:=I.kept fun b o e=>qc _ e
 refine⟨(s.heap.push { cls:=.type "range",data:=.fields #[.int lo t,.int hi u,.int 1 v] }).objs.size,[(s.heap.push { cls:=.type "range",data:=.fields #[.int lo t,.int hi u,.int 1 v] }).objs.size],_,_,H,rfl,
  I1.kept (t':=tk) fun b o e=>qc _ e,z8N _ lo (hi-lo).toNat,?_,fun b hb=>?_,q⟩
 ·have e1:lo+((0:Nat):Int) * 1=lo:=by simp
  have e2:(((hi-lo).toNat:Nat):Int)-((0:Nat):Int)=Builtin.Range.rangeSize lo hi 1:=by rw[rangeSize_one];split<;>omega
  show IsRangeIter _ _ (lo+((0:Nat):Int) * 1) ((((hi-lo).toNat:Nat):Int)-((0:Nat):Int)) 1
  rw[e1,e2]
  exact qw _ rfl
 ·have e:b=(s.heap.push { cls:=.type "range",data:=.fields #[.int lo t,.int hi u,.int 1 v] }).objs.size:=by simpa using hb
  subst e
  exact I1.fpOk (qh _) (I1.hok.fresh (qh _))
def zev (ta:TA):TI:=fun σ H R=>ta σ H fun vs H1=>∃j:Int,vs=[.int j]/\-(2 ^ 62)<=j/\j<2 ^ 62/\R (Itr 0 j.toNat) H1
def zeu (ta:TA):TI:=fun σ H R=>ta σ H fun vs H1=>∃i j:Int,vs=[.int i,.int j]/\(-(2 ^ 62)<=i/\i<2 ^ 62/\-(2 ^ 62)<=j/\j<2 ^ 62)/\R (Itr i (j-i).toNat) H1
theorem z2C {a:Expr}{ta:TA}{p pos:Pos}(hg:Gl X "range") (hm:X.mg "range"=none) (ha:PA X [a] ta) (hs:starEach [a] X.env=[(false,eval a X.env)]:=by rfl):PI X tg (.Call (.Name "range" p) [a] [] pos) (zev ta):=by
 intro pins s σ H R I h
 refine Call_ (z3O I hg hm boot_range (PyProof.Rows.callWith_type1 (thn (ha pos pins s σ H _ I h) fun us s1 ⟨vs,H1,I1,r1,q1⟩=>?_) hs rfl))
 obtain⟨j,e,q1,q2,q⟩:=q1
 subst e
 cases r1 with
 |cons r rr=>
  cases rr
  obtain⟨t,rfl⟩:=r
  exact call_range_1 (z8k I1 (by omega) (by omega) q1 q2 (by simpa using q))
theorem z9L {a b:Expr}{ta:TA}{p pos:Pos}(hg:Gl X "range") (hm:X.mg "range"=none) (ha:PA X [a,b] ta) (hs:starEach [a,b] X.env=[(false,eval a X.env),(false,eval b X.env)]:=by rfl) (hs2:starEach [b] X.env=[(false,eval b X.env)]:=by rfl):
 PI X tg (.Call (.Name "range" p) [a,b] [] pos) (zeu ta):=by
 intro pins s σ H R I h
 refine Call_ (z3O I hg hm boot_range (PyProof.Rows.callWith_type1 (thn (ha pos pins s σ H _ I h) fun us s1 ⟨vs,H1,I1,r1,q1⟩=>?_) (by rw[hs,hs2]) (by rw[hs2];rfl)))
 obtain⟨i,j,e,⟨q1,q2,q3,q4⟩,q⟩:=q1
 subst e
 cases r1 with
 |cons r rr=>
  cases rr with
  |cons r' rr=>
   cases rr
   obtain⟨t,rfl⟩:=r
   obtain⟨t',rfl⟩:=r'
   exact call_range_2 (z8k I1 q1 q2 q3 q4 q)
def zeZ (wi:TI) (g:TG) (tb:TS):TS:=fun D σ H=>wi σ H fun J H1=>∃W:Nat->Nat->St->Hp->Prop,(∃m,W 0 m σ H1)/\∀i m σ H,W i m σ H->
 (J.stop i H/\D.nx σ H)\/(J.go i H/\∃N:St->Hp->Prop,(∀σ' H',N σ' H'->∃m',m'<m/\W (i+1) m' σ' H')/\∀x H',J.yld i H x H'->g x σ H' fun σ2 H2=>tb { D with nx:=N,ct:=N,bk:=D.nx } σ2 H2)
def z70 (fp:List Addr) (h:Heap):List (Addr×Obj):=fp.filterMap fun b=>(h.get? b).map fun o=>(b,o)
theorem z3i {fp:List Addr}{h:Heap}{b:Addr}{o:Obj}(hb:b∈fp) (e:h.get? b=some o):(b,o)∈z70 fp h:=List.mem_filterMap.mpr ⟨b,hb,by rw[e];rfl⟩
theorem z9T {fp:List Addr}{h:Heap}{p:Addr×Obj}(hp:p∈z70 fp h):p.1∈fp/\h.get? p.1=some p.2:=by
 obtain⟨b,hb,e⟩:=List.mem_filterMap.mp hp
 cases q:h.get? b with
 |none=>rw[q]at e;cases e
 |some o=>
  rw[q]at e
  have e':(b,o)=p:=qQ e
  subst e'
  exact⟨hb,q⟩
theorem Inv.pinned {pins:List (Addr×Obj)}{σ:St}{H:Hp}{s:Shared}{fp:List Addr}(I:Inv X pins σ H s) (hf:∀b∈fp,z5y X pins H b) (ho:∀b∈fp,∃o,s.heap.get? b=some o/\∀v,o.data≠.cell v):Inv X (pins++z70 fp s.heap) σ H s:=
 I.pins_of fun p hp=>(qk.mp hp).elim (fun z=>I.pin p (qP _ z)) fun z=>by
  obtain⟨hb,e⟩:=z9T z
  obtain⟨f0,f1,f2,_⟩:=hf p.1 hb
  obtain⟨o,e',d⟩:=ho p.1 hb
  rw[e]at e';cases e'
  exact⟨e,f0,f1,f2,d⟩
theorem Inv.unpinned {pins pl:List (Addr×Obj)}{σ:St}{H:Hp}{s:Shared}(I:Inv X (pins++pl) σ H s):Inv X pins σ H s:=I.pins_of fun p hp=>I.pin p (qP _ (List.mem_append_left _ hp))
theorem z1Y {iter:Expr}{body:List Stmt}{wi:TI}{g:TG}{tb:TS}{pos:Pos}(hp:PassesOwn (model X.prog X.w) X.A X.env X.xe) (hc:X.calm=true) (hi:PI X tg iter wi) (hg:PG X tg g) (hb:PSs X body tb)
 (hs:∀x,foldedSetIterable iter X.env x=pure x:=by intro _;rfl):PS X (.For tg iter body [] pos) (zeZ wi g tb):=by
 intro pins s σ H D I h
 refine wpAny_For (thn (hi pins s σ H _ I h) fun v s1 h1=>thn h1 fun itv s2 h2=>?_) hs
 obtain⟨it,fp,tn,J,H2,e,I2,T,st2,f2,W,⟨m0,w0⟩,turn⟩:=h2
 subst e
 have stat:∀{H':Hp},(∀b∈fp,H' b=none)->∀b∈fp,z5y X pins H' b:=fun hn b hb=>⟨hn b hb,(f2 b hb).2⟩
 refine codeAny_forLoop_any (fun n s'=>∃i σ' H',Inv X pins σ' H' s'/\tn i s'.heap/\(∀b∈fp,H' b=none)/\W i n σ' H') ?_ m0 ⟨0,σ,H2,I2,st2,fun b hb=>(f2 b hb).1,w0⟩
 rintro n s3 ⟨i,σ3,H3,I3,st3,fr3,w3⟩
 rcases turn i n σ3 H3 w3 with⟨stop,qn⟩|⟨go,N,hN,step⟩
 ·refine wpAny_passesOwn hp (thn (T.done X rfl rfl rfl hc i pins s3 σ3 H3 X.xe I3 (stat fr3) st3 stop) fun r s4 ⟨hr,I4⟩=>?_)
  subst hr
  exact wpAny_execs_nil ⟨σ3,H3,I4,qn⟩
 ·refine wpAny_passesOwn hp (thn (T.item X rfl rfl rfl hc i pins s3 σ3 H3 X.xe I3 (stat fr3) st3 go) fun r s4 ⟨u,hr,h4⟩=>?_)
  subst hr
  refine wpAny_passesOwn hp (thn h4 fun _ s5 ⟨x,H5,I5,r5,y5,st5,fr5⟩=>?_)
  have I5':=I5.pinned (stat fr5) (T.obj _ _ st5)
  refine wpAny_passesOwn hp (thn (hg _ s5 σ3 H5 x u _ I5' r5 (step x H5 y5)) fun _ s6 ⟨σ6,H6,I6,q6⟩=>?_)
  refine wpAny_passesOwn hp (thn (hb _ s6 σ6 H6 _ I6 q6) fun f s7 q7=>?_)
  have again:∀{σ7:St}{H7:Hp},Inv X (pins++z70 fp s5.heap) σ7 H7 s7->N σ7 H7->∃m,m<n/\∃i σ' H',Inv X pins σ' H' s7/\tn i s7.heap/\(∀b∈fp,H' b=none)/\W i m σ' H':=fun{σ7 H7} I7 n7=>by
   obtain⟨m',hm,w7⟩:=hN σ7 H7 n7
   refine⟨m',hm,i+1,σ7,H7,I7.unpinned,T.keep _ _ _ st5 fun b hb o e=>(I7.pin (b,o) (qP _ (qP _ (z3i hb e)))).1,fun b hb=>?_,w7⟩
   obtain⟨o,e,d⟩:=T.obj _ _ st5 b hb
   exact(I7.pin (b,o) (qP _ (qP _ (z3i hb e)))).2.1
  cases f with
  |next=>obtain⟨σ7,H7,I7,n7⟩:=q7;exact again I7 n7
  |cont=>obtain⟨σ7,H7,I7,n7⟩:=q7;exact again I7 n7
  |brk=>obtain⟨σ7,H7,I7,q7⟩:=q7;exact⟨σ7,H7,I7.unpinned,q7⟩
  |ret v=>obtain⟨x7,σ7,H7,I7,r7,q7⟩:=q7;exact⟨x7,σ7,H7,I7.unpinned,r7,q7⟩
end
theorem z2j {K:PySem.W.Frag}{a:Addr}{xs:List V}{g:TG}{tb:TS}{D:z9d}{σ:St}{H:Hp}(Pv:Nat->St->Hp->Prop) (h0:Pv 0 σ H) (hl:∀i σ H,i<=xs.length->Pv i σ H->SqL K H a xs)
 (hs:∀i x σ H,xs[i]?=some x->Pv i σ H->g x σ H fun σ2 H2=>tb { D with nx:=Pv (i+1),ct:=Pv (i+1),bk:=D.nx } σ2 H2) (hd:∀σ H,Pv xs.length σ H->D.nx σ H):
 ∃W:Nat->Nat->St->Hp->Prop,(∃m,W 0 m σ H)/\∀i m σ H,W i m σ H->
  ((Itl K a).stop i H/\D.nx σ H)\/((Itl K a).go i H/\∃N:St->Hp->Prop,(∀σ' H',N σ' H'->∃m',m'<m/\W (i+1) m' σ' H')/\∀x H',(Itl K a).yld i H x H'->g x σ H' fun σ2 H2=>tb { D with nx:=N,ct:=N,bk:=D.nx } σ2 H2):=by
 refine⟨fun i m σ H=>m=xs.length-i/\i<=xs.length/\Pv i σ H,⟨xs.length,by simp,qA _,h0⟩,?_⟩
 rintro i m σ H ⟨rfl,hi,p⟩
 have q:=hl i σ H hi p
 by_cases hlt:i<xs.length
 ·refine .inr ⟨⟨xs,xs[i],q,by simp[hlt]⟩,Pv (i+1),fun σ' H' p'=>⟨xs.length-(i+1),by omega,rfl,hlt,p'⟩,fun x H' y=>?_⟩
  obtain⟨e,y⟩:=y
  subst e
  exact hs i x σ _ (y xs q) p
 ·have e:i=xs.length:=by omega
  subst e
  exact .inl ⟨⟨xs,q,qh _⟩,hd σ H p⟩
theorem zcL {K:PySem.W.Frag}{a:Addr}{xs:List V}{g:TG}{tb:TS}{D:z9d}{σ:St}{H:Hp}(Pv:Nat->St->Hp->Prop) (h0:Pv 0 σ H) (hl:∀i σ H,i<=xs.length->Pv i σ H->SqT K H a xs)
 (hs:∀i x σ H,xs[i]?=some x->Pv i σ H->g x σ H fun σ2 H2=>tb { D with nx:=Pv (i+1),ct:=Pv (i+1),bk:=D.nx } σ2 H2) (hd:∀σ H,Pv xs.length σ H->D.nx σ H):
 ∃W:Nat->Nat->St->Hp->Prop,(∃m,W 0 m σ H)/\∀i m σ H,W i m σ H->
  ((Itt K a).stop i H/\D.nx σ H)\/((Itt K a).go i H/\∃N:St->Hp->Prop,(∀σ' H',N σ' H'->∃m',m'<m/\W (i+1) m' σ' H')/\∀x H',(Itt K a).yld i H x H'->g x σ H' fun σ2 H2=>tb { D with nx:=N,ct:=N,bk:=D.nx } σ2 H2):=by
 refine⟨fun i m σ H=>m=xs.length-i/\i<=xs.length/\Pv i σ H,⟨xs.length,by simp,qA _,h0⟩,?_⟩
 rintro i m σ H ⟨rfl,hi,p⟩
 have q:=hl i σ H hi p
 by_cases hlt:i<xs.length
 ·refine .inr ⟨⟨xs,xs[i],q,by simp[hlt]⟩,Pv (i+1),fun σ' H' p'=>⟨xs.length-(i+1),by omega,rfl,hlt,p'⟩,fun x H' y=>?_⟩
  obtain⟨e,y⟩:=y
  subst e
  exact hs i x σ _ (y xs q) p
 ·have e:i=xs.length:=by omega
  subst e
  exact .inl ⟨⟨xs,q,qh _⟩,hd σ H p⟩
theorem z3S {lo:Int}{n:Nat}{g:TG}{tb:TS}{D:z9d}{σ:St}{H:Hp}(Pv:Nat->St->Hp->Prop) (h0:Pv 0 σ H)
 (hs:∀i σ H,i<n->Pv i σ H->g (.int (lo+i)) σ H fun σ2 H2=>tb { D with nx:=Pv (i+1),ct:=Pv (i+1),bk:=D.nx } σ2 H2) (hd:∀σ H,Pv n σ H->D.nx σ H):
 ∃W:Nat->Nat->St->Hp->Prop,(∃m,W 0 m σ H)/\∀i m σ H,W i m σ H->
  ((Itr lo n).stop i H/\D.nx σ H)\/((Itr lo n).go i H/\∃N:St->Hp->Prop,(∀σ' H',N σ' H'->∃m',m'<m/\W (i+1) m' σ' H')/\∀x H',(Itr lo n).yld i H x H'->g x σ H' fun σ2 H2=>tb { D with nx:=N,ct:=N,bk:=D.nx } σ2 H2):=by
 refine⟨fun i m σ H=>m=n-i/\i<=n/\Pv i σ H,⟨n,by simp,qA _,h0⟩,?_⟩
 rintro i m σ H ⟨rfl,hi,p⟩
 by_cases hlt:i<n
 ·refine .inr ⟨hlt,Pv (i+1),fun σ' H' p'=>⟨n-(i+1),by omega,rfl,hlt,p'⟩,fun x H' y=>?_⟩
  obtain⟨e,y⟩:=y
  subst e y
  exact hs i σ _ hlt p
 ·have e:i=n:=by omega
  subst e
  exact .inl ⟨qh _,hd σ H p⟩
abbrev R2:=V->V->Hp->VK->Prop
def OpR (X:Cx) (f:Value->Value->Sem Value) (r:R2):Prop:=
 ∀(pins:List (Addr×Obj)) (s:Shared) (σ:St) (H:Hp) (x y:V) (v u:Value) (Q:VK),Inv X pins σ H s->z1C x v->z1C y u->r x y H Q->
  wpAny (model X.prog X.w) X.A (f v u) (EP X pins σ Q) X.xe s
def UnR (X:Cx) (f:Value->Sem Value) (r:V->Hp->VK->Prop):Prop:=
 ∀(pins:List (Addr×Obj)) (s:Shared) (σ:St) (H:Hp) (x:V) (v:Value) (Q:VK),Inv X pins σ H s->z1C x v->r x H Q->
  wpAny (model X.prog X.w) X.A (f v) (EP X pins σ Q) X.xe s
def z5f (X:Cx) (f:Value) (r:List V->Hp->VK->Prop):Prop:=
 ∀(pins:List (Addr×Obj)) (s:Shared) (σ:St) (H:Hp) (xs:List V) (us:List Value) (Q:VK),Inv X pins σ H s->z19 xs us->r xs H Q->
  wpAny (model X.prog X.w) X.A (call f us) (EP X pins σ Q) X.xe s
def zfg (X:Cx) (r:V->Hp->(Bool->Hp->Prop)->Prop):Prop:=
 ∀(pins:List (Addr×Obj)) (s:Shared) (σ:St) (H:Hp) (x:V) (v:Value) (Q:Bool->Hp->Prop),Inv X pins σ H s->z1C x v->r x H Q->
  wpAny (model X.prog X.w) X.A (truthy v) (TP X pins σ Q) X.xe s
def tOp (r:R2) (ta tb:TE):TE:=fun σ H Q=>ta σ H fun x H1=>tb σ H1 fun y H2=>r x y H2 Q
def tUn (r:V->Hp->VK->Prop) (ta:TE):TE:=fun σ H Q=>ta σ H fun x H1=>r x H1 Q
def rI (C:Int->Int->Prop) (g:Int->Int->V):R2:=fun x y H Q=>∃i j,x=.int i/\y=.int j/\C i j/\Q (g i j) H
def rI0 (g:Int->Int->V):R2:=fun x y H Q=>∃i j,x=.int i/\y=.int j/\Q (g i j) H
def rU (g:Int->V):V->Hp->VK->Prop:=fun x H Q=>∃i,x=.int i/\Q (g i) H
section
variable {X:Cx}{a b c:Expr}{ta tb tc:TE}{pos:Pos}
theorem zeA (ha:PE X a ta) (hb:PE X b tb) {pins:List (Addr×Obj)}{s:Shared}{σ:St}{H:Hp}{R:V->V->Hp->Prop}(I:Inv X pins σ H s)
 (h:ta σ H fun x H1=>tb σ H1 fun y H2=>R x y H2) {Q:Value->Shared->Prop}{f:Value->Value->Sem Value}
 (hf:∀v u s2 x y H2,Inv X pins σ H2 s2->z1C x v->z1C y u->R x y H2->wpAny (model X.prog X.w) X.A (f v u) Q X.xe s2):
 wpAny (model X.prog X.w) X.A (eval a X.env) (fun v s₁=>wpAny (model X.prog X.w) X.A (eval b X.env) (fun u s₂=>wpAny (model X.prog X.w) X.A (f v u) Q X.xe s₂) X.xe s₁) X.xe s:=by
 refine thn (ha pins s σ H _ I h) fun v s1 ⟨x,H1,I1,r1,q1⟩=>?_
 refine thn (hb pins s1 σ H1 _ I1 q1) fun u s2 ⟨y,H2,I2,r2,q2⟩=>?_
 exact hf v u s2 x y H2 I2 r1 r2 q2
theorem z0g {op:Operator}{r:R2}(ho:OpR X (binaryOp op) r) (ha:PE X a ta) (hb:PE X b tb):PE X (.BinOp a op b pos) (tOp r ta tb):=by
 intro pins s σ H Q I h
 exact wpAny_BinOp (zeA ha hb I h fun v u s2 x y H2 I2 rx ry q=>ho pins s2 σ H2 x y v u Q I2 rx ry q)
theorem z72 {op:UnaryOp}{r:V->Hp->VK->Prop}(ho:UnR X (unaryOp op) r) (ha:PE X a ta):PE X (.UnaryOp op a pos) (tUn r ta):=by
 intro pins s σ H Q I h
 exact UnaryOp_ (thn (ha pins s σ H _ I h) fun v s1 ⟨x,H1,I1,r1,q1⟩=>ho pins s1 σ H1 x v Q I1 r1 q1)
theorem opI {f:Value->Value->Sem Value}{C:Int->Int->Prop}{g:Int->Int->Int}
 (rule:∀(i j:Int) (t u:Tok) (s:Shared) (Q:Value->Shared->Prop) (E:Value->Shared->Prop),C i j->Q (.int (g i j) s.toks) { s with toks:=s.toks+1 }->wpAny (model X.prog X.w) X.A (f (.int i t) (.int j u)) Q E s):
 OpR X f (rI C fun i j=>.int (g i j)):=by
 intro pins s σ H x y v u Q I rx ry h
 obtain⟨i,j,rfl,rfl,hc,q⟩:=h
 obtain⟨t,rfl⟩:=rx
 obtain⟨t',rfl⟩:=ry
 exact rule i j t t' s _ _ hc ⟨.int (g i j),H,I.tok _,⟨_,rfl⟩,q⟩
theorem zdx {f:Value->Value->Sem Value}{g:Int->Int->Int}
 (rule:∀(i j:Int) (t u:Tok) (s:Shared) (Q:Value->Shared->Prop) (E:Value->Shared->Prop),Q (.int (g i j) s.toks) { s with toks:=s.toks+1 }->wpAny (model X.prog X.w) X.A (f (.int i t) (.int j u)) Q E s):
 OpR X f (rI0 fun i j=>.int (g i j)):=by
 intro pins s σ H x y v u Q I rx ry h
 obtain⟨i,j,rfl,rfl,q⟩:=h
 obtain⟨t,rfl⟩:=rx
 obtain⟨t',rfl⟩:=ry
 exact rule i j t t' s _ _ ⟨.int (g i j),H,I.tok _,⟨_,rfl⟩,q⟩
theorem zdY {f:Value->Value->Sem Value}{g:Int->Int->Bool}
 (rule:∀(i j:Int) (t u:Tok) (s:Shared) (Q:Value->Shared->Prop) (E:Value->Shared->Prop),Q (.bool (g i j)) s->wpAny (model X.prog X.w) X.A (f (.int i t) (.int j u)) Q E s):
 OpR X f (rI0 fun i j=>.bl (g i j)):=by
 intro pins s σ H x y v u Q I rx ry h
 obtain⟨i,j,rfl,rfl,q⟩:=h
 obtain⟨t,rfl⟩:=rx
 obtain⟨t',rfl⟩:=ry
 exact rule i j t t' s _ _ ⟨.bl (g i j),H,I,rfl,q⟩
def zfj (i j:Int):Prop:=0<j/\j<1073741824
def zfi (i j:Int):Prop:=0<=j/\j<=1000000/\i.natAbs<2 ^ 64
theorem zdw:OpR X (binaryOp .Add) (rI0 fun i j=>.int (i+j)):=zdx fun _ _ _ _ _ _ _ q=>add_int q
theorem zdp:OpR X (binaryOp .Sub) (rI0 fun i j=>.int (i-j)):=zdx fun _ _ _ _ _ _ _ q=>sub_int q
theorem zcv:OpR X (binaryOp .FloorDiv) (rI zfj fun i j=>.int (i / j)):=opI fun i j _ _ _ _ _ hc q=>by
 have h1:(0:Int)<j:=hc.1
 have h2:j<1073741824:=hc.2
 exact floordiv_int (by omega) (by rw[Int.fdiv_eq_ediv_of_nonneg i (by omega)];exact q) (.inl (PyProof.noPylong_small (by omega)))
theorem zdt:OpR X (binaryOp .Mod) (rI (fun _ j=>0<j) fun i j=>.int (i % j)):=opI fun i j _ _ _ _ _ hc q=>by
 have h1:(0:Int)<j:=hc
 exact mod_int' (by omega) (by rw[Int.fmod_eq_emod_of_nonneg i (by omega)];exact q)
theorem zdr:OpR X (binaryOp .Pow) (rI zfi fun i j=>.int (i ^ j.toNat)):=opI fun _ _ _ _ _ _ _ hc q=>pow_int_small hc.1 hc.2.1 hc.2.2 q
theorem zdv:OpR X (binaryOp .BitAnd) (rI0 fun i j=>.int (Builtin.bitAnd i j)):=zdx fun _ _ _ _ _ _ _ q=>and_int q
theorem zej:OpR X (binaryOp .BitOr) (rI0 fun i j=>.int (Builtin.bitOr i j)):=zdx fun _ _ _ _ _ _ _ q=>or_int q
theorem zdo:OpR X (binaryOp .BitXor) (rI0 fun i j=>.int (Builtin.bitXor i j)):=zdx fun _ _ _ _ _ _ _ q=>xor_int q
theorem unI {f:Value->Sem Value}{g:Int->Int}
 (rule:∀(i:Int) (t:Tok) (s:Shared) (Q:Value->Shared->Prop) (E:Value->Shared->Prop),Q (.int (g i) s.toks) { s with toks:=s.toks+1 }->wpAny (model X.prog X.w) X.A (f (.int i t)) Q E s):
 UnR X f (rU fun i=>.int (g i)):=by
 intro pins s σ H x v Q I rx h
 obtain⟨i,rfl,q⟩:=h
 obtain⟨t,rfl⟩:=rx
 exact rule i t s _ _ ⟨.int (g i),H,I.tok _,⟨_,rfl⟩,q⟩
theorem z4f:UnR X (unaryOp .USub) (rU fun i=>.int (-i)):=unI fun _ _ _ _ _ q=>neg_int q
end
def zeH:V->V->Bool
 |.non,.non=>true|.non,.int _=>true|.int _,.non=>true|.non,.bl _=>true|.bl _,.non=>true|.non,.str _=>true|.str _,.non=>true
 |.int _,.int _=>true|.bl _,.bl _=>true|.str _,.str _=>true|.byt _,.byt _=>true
 |.int _,.str _=>true|.str _,.int _=>true|.bl _,.str _=>true|.str _,.bl _=>true
 |_,_=>false
def rEq:R2:=fun x y H Q=>zeH x y=true/\Q (.bl (decide (x=y))) H
def rNe:R2:=fun x y H Q=>zeH x y=true/\Q (.bl (!decide (x=y))) H
theorem z4e {i j:Int}:decide (V.int i=V.int j)=(i == j):=by
 rw[Bool.eq_iff_iff]
 simp
theorem zbT {i j:Bool}:decide (V.bl i=V.bl j)=(i == j):=by
 rw[Bool.eq_iff_iff]
 simp
theorem zas {i j:Str}:decide (V.str i=V.str j)=(i == j):=by
 rw[Bool.eq_iff_iff]
 simp
theorem zat {i j:Array UInt8}:decide (V.byt i=V.byt j)=(i.toList == j.toList):=by
 rw[Bool.eq_iff_iff]
 cases i
 cases j
 simp
section
variable {X:Cx}{a b c:Expr}{ta tb tc:TE}{pos:Pos}
theorem z0R {pins:List (Addr×Obj)}{σ:St}{H:Hp}{s:Shared}{Q:VK}{k k':Bool}(I:Inv X pins σ H s) (q:Q (.bl k) H) (e:k=k'):EP X pins σ Q (.bool k') s:=by
 subst e
 exact⟨.bl k,H,I,rfl,q⟩
theorem z0W:OpR X (compareOp .Eq) rEq:=by
 intro pins s σ H x y v u Q I rx ry h
 obtain⟨hs,q⟩:=h
 cases x with
 |non=>
  cases rx
  cases y with
  |non=>cases ry;exact PySem.EqNone.eq_none_none (z0R I q (by simp))
  |bl j=>cases ry;exact PySem.EqNone.eq_none_bool (z0R I q (by simp))
  |int j=>obtain⟨t',rfl⟩:=ry;exact PySem.EqNone.eq_none_int (z0R I q (by simp))
  |str j=>obtain⟨t',rfl⟩:=ry;exact PySem.EqNone.eq_none_str (z0R I q (by simp))
  |_=>exact absurd (show false=true from hs) qm
 |bl i=>
  cases rx
  cases y with
  |non=>cases ry;exact PySem.EqNone.eq_bool_none (z0R I q (by simp))
  |bl j=>cases ry;exact eq_bool (z0R I q zbT)
  |str j=>obtain⟨t',rfl⟩:=ry;exact PySem.EqMixed.eq_bool_str (z0R I q (by simp))
  |_=>exact absurd (show false=true from hs) qm
 |int i=>
  obtain⟨t,rfl⟩:=rx
  cases y with
  |non=>cases ry;exact PySem.EqNone.eq_int_none (z0R I q (by simp))
  |int j=>obtain⟨t',rfl⟩:=ry;exact eq_int (z0R I q z4e)
  |str j=>obtain⟨t',rfl⟩:=ry;exact PySem.EqMixed.eq_int_str (z0R I q (by simp))
  |_=>exact absurd (show false=true from hs) qm
 |str i=>
  obtain⟨t,rfl⟩:=rx
  cases y with
  |non=>cases ry;exact PySem.EqNone.eq_str_none (z0R I q (by simp))
  |bl j=>cases ry;exact PySem.EqMixed.eq_str_bool (z0R I q (by simp))
  |int j=>obtain⟨t',rfl⟩:=ry;exact PySem.EqMixed.eq_str_int (z0R I q (by simp))
  |str j=>obtain⟨t',rfl⟩:=ry;exact eq_str (z0R I q zas)
  |_=>exact absurd (show false=true from hs) qm
 |byt i=>
  obtain⟨t,rfl⟩:=rx
  cases y with
  |byt j=>obtain⟨t',rfl⟩:=ry;exact PySem.W.eq_bytes (z0R I q zat)
  |_=>exact absurd (show false=true from hs) qm
 |_=>cases y<;>exact absurd (show false=true from hs) qm
theorem z47:OpR X (compareOp .NotEq) rNe:=by
 intro pins s σ H x y v u Q I rx ry h
 obtain⟨hs,q⟩:=h
 cases x with
 |non=>
  cases rx
  cases y with
  |non=>cases ry;exact PySem.EqNone.ne_none_none (z0R I q (by simp))
  |bl j=>cases ry;exact PySem.EqNone.ne_none_bool (z0R I q (by simp))
  |int j=>obtain⟨t',rfl⟩:=ry;exact PySem.EqNone.ne_none_int (z0R I q (by simp))
  |str j=>obtain⟨t',rfl⟩:=ry;exact PySem.EqNone.ne_none_str (z0R I q (by simp))
  |_=>exact absurd (show false=true from hs) qm
 |bl i=>
  cases rx
  cases y with
  |non=>cases ry;exact PySem.EqNone.ne_bool_none (z0R I q (by simp))
  |bl j=>cases ry;exact ne_bool (z0R I q (congrArg not zbT))
  |str j=>obtain⟨t',rfl⟩:=ry;exact PySem.EqMixed.ne_bool_str (z0R I q (by simp))
  |_=>exact absurd (show false=true from hs) qm
 |int i=>
  obtain⟨t,rfl⟩:=rx
  cases y with
  |non=>cases ry;exact PySem.EqNone.ne_int_none (z0R I q (by simp))
  |int j=>obtain⟨t',rfl⟩:=ry;exact ne_int (z0R I q (congrArg not z4e))
  |str j=>obtain⟨t',rfl⟩:=ry;exact PySem.EqMixed.ne_int_str (z0R I q (by simp))
  |_=>exact absurd (show false=true from hs) qm
 |str i=>
  obtain⟨t,rfl⟩:=rx
  cases y with
  |non=>cases ry;exact PySem.EqNone.ne_str_none (z0R I q (by simp))
  |bl j=>cases ry;exact PySem.EqMixed.ne_str_bool (z0R I q (by simp))
  |int j=>obtain⟨t',rfl⟩:=ry;exact PySem.EqMixed.ne_str_int (z0R I q (by simp))
  |str j=>obtain⟨t',rfl⟩:=ry;exact ne_str (z0R I q (congrArg not zas))
  |_=>exact absurd (show false=true from hs) qm
 |byt i=>
  obtain⟨t,rfl⟩:=rx
  cases y with
  |byt j=>obtain⟨t',rfl⟩:=ry;exact PySem.W.ne_bytes (z0R I q (congrArg not zat))
  |_=>exact absurd (show false=true from hs) qm
 |_=>cases y<;>exact absurd (show false=true from hs) qm
theorem zek:OpR X (compareOp .Lt) (rI0 fun i j=>.bl (decide (i<j))):=zdY fun _ _ _ _ _ _ _ q=>lt_int q
theorem zel:OpR X (compareOp .LtE) (rI0 fun i j=>.bl (decide (i<=j))):=zdY fun _ _ _ _ _ _ _ q=>le_int q
theorem zem:OpR X (compareOp .Gt) (rI0 fun i j=>.bl (decide (j<i))):=zdY fun _ _ _ _ _ _ _ q=>gt_int q
theorem zen:OpR X (compareOp .GtE) (rI0 fun i j=>.bl (decide (j<=i))):=zdY fun _ _ _ _ _ _ _ q=>ge_int q
theorem zdu:OpR X (compareOp .Is) (fun x y H Q=>y=.non/\Q (.bl (decide (x=.non))) H):=by
 intro pins s σ H x y v u Q I rx ry h
 obtain⟨rfl,q⟩:=h
 cases ry
 refine is_none_gen (z0R I q ?_)
 cases x<;>first
  |(cases rx;rfl)
  |(obtain⟨t,rfl⟩:=rx;rfl)
theorem z9O:OpR X (compareOp .IsNot) (fun x y H Q=>y=.non/\Q (.bl (!decide (x=.non))) H):=by
 intro pins s σ H x y v u Q I rx ry h
 obtain⟨rfl,q⟩:=h
 cases ry
 refine isnot_none_gen (z0R I q ?_)
 cases x<;>first
  |(cases rx;rfl)
  |(obtain⟨t,rfl⟩:=rx;rfl)
theorem z0h (b:Expr) {op:CmpOp}(h:op≠.In:=by decide) (h2:op≠.NotIn:=by decide):behindInMarks op b=false:=by
 have e1:(op == CmpOp.In)=false:=by cases op<;>first|rfl|exact absurd rfl h
 have e2:(op == CmpOp.NotIn)=false:=by cases op<;>first|rfl|exact absurd rfl h2
 cases b<;>simp[behindInMarks,e1,e2]
theorem z2x {op:CmpOp}{r:R2}(ho:OpR X (compareOp op) r) (ha:PE X a ta) (hb:PE X b tb) (hm:behindInMarks op b=false):PE X (.Compare a [op] [b] pos) (tOp r ta tb):=by
 intro pins s σ H Q I h
 exact wpAny_Compare1 (zeA ha hb I h fun v u s2 x y H2 I2 rx ry q=>ho pins s2 σ H2 x y v u Q I2 rx ry q) hm
def zd8 (t:TE):TT:=fun σ H Q=>t σ H fun x H'=>∃k,x=.bl k/\Q k H'
theorem z0b {op:CmpOp}{r:R2}(ho:OpR X (compareOp op) r) (ha:PE X a ta) (hb:PE X b tb) (hm:behindInMarks op b=false):PT X (.Compare a [op] [b] pos) (zd8 (tOp r ta tb)):=by
 intro pins s σ H Q I h
 refine wpAny_isTrue_Compare1 (thn (ha pins s σ H _ I h) fun v s1 ⟨x,H1,I1,r1,q1⟩=>thn (hb pins s1 σ H1 _ I1 q1) fun u s2 ⟨y,H2,I2,r2,q2⟩=>
  thn (ho pins s2 σ H2 x y v u _ I2 r1 r2 q2) fun c s3 ⟨z,H3,I3,r3,k,e,q3⟩=>?_) hm
 subst e
 cases r3
 exact wpAny_truthy_bool ⟨H3,I3,q3⟩
def zde (r r':R2) (ta tb tc:TE):TE:=fun σ H Q=>ta σ H fun x H1=>tb σ H1 fun y H2=>r x y H2 fun z H3=>∃k,z=.bl k /\
 (if k=true then tc σ H3 fun w' H4=>r' y w' H4 Q else Q (.bl false) H3)
theorem zb6 {op op':CmpOp}{r r':R2}(ho:OpR X (compareOp op) r) (ho':OpR X (compareOp op') r') (ha:PE X a ta) (hb:PE X b tb) (hc:PE X c tc)
 (hm:lastMarks [op,op'] [b,c]=false:=by with_unfolding_all rfl):PT X (.Compare a [op,op'] [b,c] pos) (zd8 (zde r r' ta tb tc)):=by
 intro pins s σ H Q I h
 refine isTrue_chain (thn (ha pins s σ H _ I h) fun v s1 ⟨x,H1,I1,r1,q1⟩=>test_link (thn (hb pins s1 σ H1 _ I1 q1) fun u s2 ⟨y,H2,I2,r2,q2⟩=>
  thn (ho pins s2 σ H2 x y v u _ I2 r1 r2 q2) fun d s3 ⟨z,H3,I3,r3,k,e,q3⟩=>?_)) hm
 subst e
 cases r3
 refine wpAny_truthy_bool ?_
 cases k with
 |false=>
  obtain⟨k',e',q'⟩:=q3
  cases e'
  exact ite_ff ⟨H3,I3,q'⟩
 |true=>
  refine ite_tt (test_last (thn (hc pins s3 σ H3 _ I3 q3) fun w' s4 ⟨z',H4,I4,r4,q4⟩=>thn (ho' pins s4 σ H4 y z' u w' _ I4 r2 r4 q4) fun d' s5 ⟨z2,H5,I5,r5,k2,e2,q5⟩=>?_))
  subst e2
  cases r5
  exact wpAny_truthy_bool ⟨H5,I5,q5⟩
theorem z8w:(sizeLine:Nat)<2 ^ 63:=by rw[sizeLine_eq];decide
theorem z5D:OpR X (binaryOp .Add) (fun x y H Q=>∃i j,x=.str i/\y=.str j/\i.length+j.length<=sizeLine/\Q (.str (i++j)) H):=by
 intro pins s σ H x y v u Q I rx ry h
 obtain⟨i,j,rfl,rfl,hz,q⟩:=h
 obtain⟨t,rfl⟩:=rx
 obtain⟨t',rfl⟩:=ry
 exact add_str (fun t' tk=>⟨.str (i++j),H,I.tok _,⟨_,rfl⟩,q⟩) hz
theorem z7A {x:V}{us:List Value}(r:z19 [x] us):∃u,us=[u]/\z1C x u:=by
 cases r with
 |cons r1 r2=>cases r2;exact⟨_,rfl,r1⟩
theorem zaT {x y:V}{us:List Value}(r:z19 [x,y] us):∃u w',us=[u,w']/\z1C x u/\z1C y w':=by
 cases r with
 |cons r1 r2=>
  cases r2 with
  |cons r3 r4=>cases r4;exact⟨_,_,rfl,r1,r3⟩
end
structure zcX (h:Heap) (x dx C:Addr) (mA:Str->Option Value):Prop where
 obj:h.get? x=some (PySem.W.instObj C dx)
 ns:h.Ns1 dx mA
 ne:dx≠x
theorem za0 {h:Heap}{dx:Addr}{mA:Str->Option Value}(n:h.Ns1 dx mA):∃od,h.get? dx=some od/\∀name,PySem.W.lookIn name od=some (mA name):=by
 obtain⟨o,es,ep,ho,hd,hk,_,hm⟩:=n
 refine⟨o,ho,fun name=>?_⟩
 have e:=hm name
 unfold nsFind findBy at e
 rw[<- Array.find?_toList]at e
 unfold PySem.W.lookIn
 rw[hd]
 dsimp only
 split
 ·rename_i y q
  rw[q]at e
  exact congrArg some e
 ·rename_i q
  rw[q]at e
  have a:es.toList.any (·.refKey)=false:=by
   rw[List.any_eq_false]
   intro y hy
   obtain⟨z,t,hkey⟩:=hk y (Array.mem_toList_iff.mp hy)
   simp[DictEntry.refKey,hkey]
  have a':¬ es.toList.any (·.refKey)=true:=by rw[a];exact qm
  rw[if_neg a']
  exact congrArg some e
theorem zcX.look {h:Heap}{x dx C:Addr}{mA:Str->Option Value}(I:zcX h x dx C mA):∃od,PySem.W.InstAt h x (PySem.W.instObj C dx) C (some od)/\∀name,PySem.W.lookIn name od=some (mA name):=
 let ⟨od,ho,hl⟩:=za0 I.ns
 ⟨od,⟨I.obj,rfl,rfl,ho⟩,hl⟩
section
variable {prog:Program}{w:World}{A:Around}{E:Value->Shared->Prop}{s:Shared}{K:PySem.W.Frag}{x dx C f:Addr}{mA:Str->Option Value}{name:Str}{v:Value}
theorem zcJ {expr:Bool}{Q:Value->Shared->Prop}(X:K.In s.heap) (I:zcX s.heap x dx C mA) (hg:PySem.W.plainGet K C name=true) (hh:PySem.W.hasDictIn K C=true)
 (ha:PySem.W.findIn K (.ref C) name=some none) (hv:mA name=some v) (hv':PySem.W.handedIn v=true) (h:Q v { s with toks:=s.toks+1 }):
 wpAny (model prog w) A (getAttr (.ref x) name expr) Q E s:=by
 obtain⟨od,J,hl⟩:=I.look
 exact PySem.W.get_value X J (PySem.W.plainGet_of hg).1 (PySem.W.findObj_own hh ha rfl (by rw[hl,hv])) hv' h
theorem zbo {pl:Sem Bool}{Q:Value×List Value->Shared->Prop}(X:K.In s.heap) (I:zcX s.heap x dx C mA) (hg:PySem.W.plainGet K C name=true)
 (hf:PySem.W.findIn K (.ref C) name=some (some (.ref f))) (ht:PySem.W.isFn K (.ref f)=true) (hv:mA name=none) (h:Q (.ref f,[.ref x]) s):
 wpAny (model prog w) A (getMethod (.ref x) name pl) Q E s:=by
 obtain⟨od,J,hl⟩:=I.look
 exact PySem.W.method_fn X J (PySem.W.plainGet_of hg).1 (PySem.W.plainGet_of hg).2 hf (beq_iff_eq.mp ht) (by show(PySem.W.lookIn name od).map (·.isSome)=some false;rw[hl,hv];rfl) h
theorem zch {ns:List Str}{Q:Unit->Shared->Prop}(X:K.In s.heap) (I:zcX s.heap x dx C mA)
 (hs:PySem.W.findIn K (.ref C) "__setattr__"=some (some (.builtin "object.__setattr__"))) (hp:PySem.W.plainOver K C=true) (ht:PySem.W.takerIn K C name=some none) (hh:PySem.W.hasDictIn K C=true)
 (hw:PySem.Within mA ns) (hsz:ns.length<=sizeLine)
 (h:∀h',zcX h' x dx C (fun y=>if y=name then some v else mA y)->Heap.SameBut dx s.heap h'->Q () { s with heap:=h',toks:=s.toks+2 }):
 wpAny (model prog w) A (setAttr (.ref x) name v) Q E s:=by
 obtain⟨od,J,hl⟩:=I.look
 refine PySem.W.set_plain X J hs (PySem.W.osa_open (s:={ s with toks:=s.toks+1 }) (r:=none) X J hp ht fun b=>?_)
 obtain⟨cd,hc,hd'⟩:=PySem.W.any_some hh
 have hx:s.heap.get? x=some ⟨.ref C,some dx,.plain,#[]⟩:=I.obj
 refine q9 (qg (q9 (q9 (wpAny_loadPart hx (q9 (PySem.W.Looks.here (s:={ s with toks:=s.toks+1 }) (PySem.W.looks_clsIn X hc) ?_))))))
 rw[hd']
 refine qg (a:=some dx) (q9 (qg (q9 ?_)))
 refine wpAny_nsSet1 (s:={ s with toks:=s.toks+1 }) I.ns fun h' hn2 hs2=>?_
 obtain⟨oD,esD,epD,hoD,hdD,hcD⟩:=hn2.count (PySem.Within.cons name v hw)
 refine q9 (wpAny_lookBehind hoD (by rw[hdD];exact pastItsLine_dict (qG hcD (by rw[qI];omega))) ?_)
 exact qg (h _ ⟨(hs2.2 _ (Ne.symm I.ne)).trans I.obj,hn2,I.ne⟩ hs2)
theorem zbh {R:Result->Shared->Prop}{vs:List Value}{kw:List (Str×Value)}(X:K.In s.heap) (hm:PySem.W.makesIn K C=true)
 (hi:PySem.W.findIn K (.ref C) "__init__"=some (some (.ref f))) (hf:PySem.W.typeIn K (.ref f)=some (.type "function"))
 (h:codeAny (model prog w) (A.under (.builtin "type.__call__" ⟨.ref C::vs,kw⟩)) (.call (.ref f) ⟨.ref (s.heap.objs.size+1)::vs,kw⟩) (PySem.W.InitBack (s.heap.objs.size+1) R)
  { s with heap:=(s.heap.push PySem.W.emptyDict).push (PySem.W.instObj C s.heap.objs.size) }):
 codeAny (model prog w) A (.call (.ref C) ⟨vs,kw⟩) R s:=by
 obtain⟨hh,g,d,t,os⟩:=s
 exact PySem.W.make_core (PySem.W.makes_of X hm) (PySem.W.looks_findIn X hi) (fun self=>PySem.W.bind_fn X self hf) (.inl rfl) h
end
def z4j (f:Str) (v:V):List (Str×V)->List (Str×V)
 |[]=>[(f,v)]
 |(g,x)::r=>if g=f then(g,v)::r else(g,x)::z4j f v r
theorem z56 (f g:Str) (v:V):∀fs:List (Str×V),(z4j f v fs).lookup g=if g=f then some v else fs.lookup g
 |[]=>by
  show List.lookup g [(f,v)]=_
  by_cases h:g=f
  ·have hb:(g == f)=true:=beq_iff_eq.mpr h
   simp only[List.lookup,hb,if_pos h]
  ·have hb:(g == f)=false:=beq_eq_false_iff_ne.mpr h
   simp only[List.lookup,hb,if_neg h]
 |(k,x)::r=>by
  have ih:=z56 f g v r
  rw[show z4j f v ((k,x)::r)=(if k=f then(k,v)::r else(k,x)::z4j f v r)from rfl]
  by_cases hk:k=f
  ·rw[if_pos hk]
   by_cases h:g=k
   ·have hb:(g == k)=true:=beq_iff_eq.mpr h
    simp only[List.lookup,hb,if_pos (h.trans hk)]
   ·have hb:(g == k)=false:=beq_eq_false_iff_ne.mpr h
    simp only[List.lookup,hb,if_neg (fun e:g=f=>h (e.trans hk.symm))]
  ·rw[if_neg hk]
   by_cases h:g=k
   ·have hb:(g == k)=true:=beq_iff_eq.mpr h
    simp only[List.lookup,hb,if_neg (fun e:g=f=>hk (h.symm.trans e))]
   ·have hb:(g == k)=false:=beq_eq_false_iff_ne.mpr h
    simp only[List.lookup,hb]
    exact ih
theorem z59 (f:Str) (v:V):∀fs:List (Str×V),f∈(z4j f v fs).map (·.1)/\∀g,g∈fs.map (·.1)->g∈(z4j f v fs).map (·.1)
 |[]=>⟨by simp[z4j],fun g h=>by simp at h⟩
 |(k,x)::r=>by
  obtain⟨i1,i2⟩:=z59 f v r
  rw[show z4j f v ((k,x)::r)=(if k=f then(k,v)::r else(k,x)::z4j f v r)from rfl]
  by_cases hk:k=f
  ·rw[if_pos hk]
   subst hk
   exact⟨by simp,fun g h=>by simpa using h⟩
  ·rw[if_neg hk]
   refine⟨?_,fun g h=>?_⟩
   ·rw[List.map_cons]
    exact qt _ i1
   ·rw[List.map_cons]at h ⊢
    rcases qB.mp h with e|e
    ·exact qB.mpr (.inl e)
    ·exact qt _ (i2 g e)
theorem z57 (f:Str) (v:V):∀fs:List (Str×V),(z4j f v fs).length<=fs.length+1
 |[]=>by simp[z4j]
 |(k,x)::r=>by
  have ih:=z57 f v r
  rw[show z4j f v ((k,x)::r)=(if k=f then(k,v)::r else(k,x)::z4j f v r)from rfl]
  by_cases hk:k=f
  ·rw[if_pos hk,qI,qI];omega
  ·rw[if_neg hk,qI,qI];omega
theorem z6E.some_of {v:V}{o:Option Value}(r:z6E (some v) o):∃u,o=some u/\z1C v u:=by
 cases o with
 |none=>exact(show False from r).elim
 |some u=>exact⟨u,rfl,r⟩
theorem z6E.none_of {o:Option Value}(r:z6E none o):o=none:=by
 cases o with
 |none=>rfl
 |some u=>exact(show False from r).elim
theorem z7d {v:V}{u:Value}(r:z1C v u):PySem.W.handedIn u=true:=by
 cases v with
 |non=>cases(show u=Value.none from r);rfl
 |bl b=>cases(show u=Value.bool b from r);rfl
 |int i=>obtain⟨t,e⟩:=(show ∃t,u=Value.int i t from r);cases e;rfl
 |str x=>obtain⟨t,e⟩:=(show ∃t,u=Value.str x t from r);cases e;rfl
 |byt b=>obtain⟨t,e⟩:=(show ∃t,u=Value.bytes b t from r);cases e;rfl
 |flt b=>obtain⟨t,e⟩:=(show ∃t,u=Value.float b t from r);cases e;rfl
 |ref a=>cases(show u=Value.ref a from r);rfl
 |ty n=>cases(show u=Value.type n from r);rfl
section
variable {P:Program}{w:World}{H H':Hp}{h h':Heap}{a C dx:Addr}{fs fs':List (Str×V)}
theorem z6v (hok:HOk P w H h) (e:H a=some (.ins C dx fs)):∃mA,zcX h a dx C mA/\(∀f,z6E (fs.lookup f) (mA f))/\PySem.Within mA (fs.map (·.1))/\fs.length<=1000/\H dx=some (.own a):=by
 obtain⟨d,z,ne,ob,mA,n,r,q⟩:=(show z1o P w H h a (.ins C dx fs)from hok a _ e)
 exact⟨mA,⟨ob,n,ne⟩,r,q,z,d⟩
end
structure Cls (K:PySem.W.Frag) (C:Addr):Prop where
 pg:PySem.W.plainGet K C Str.empty=true
 hd:PySem.W.hasDictIn K C=true
 po:PySem.W.plainOver K C=true
 sa:PySem.W.findIn K (.ref C) "__setattr__"=some (some (.builtin "object.__setattr__"))
theorem Cls.get {K:PySem.W.Frag}{C:Addr}(c:Cls K C) (f:Str):PySem.W.plainGet K C f=true:=c.pg
def z2I (K:PySem.W.Frag) (C:Addr) (f:Str):Prop:=PySem.W.findIn K (.ref C) f=some none
theorem z2I.taker {K:PySem.W.Frag}{C:Addr}{f:Str}(n:z2I K C f):PySem.W.takerIn K C f=some none:=by
 unfold PySem.W.takerIn
 rw[show PySem.W.findIn K (.ref C) f=some none from n]
 rfl
structure z3r (K:PySem.W.Frag) (C:Addr) (m:Str) (f:Addr):Prop where
 at_:PySem.W.findIn K (.ref C) m=some (some (.ref f))
 fn:PySem.W.isFn K (.ref f)=true
 kp:PySem.W.keepIn K (.ref f)=true
section
variable {X:Cx}{pins:List (Addr×Obj)}{σ:St}{H:Hp}{s:Shared}{a C dx:Addr}{fs:List (Str×V)}{f:Str}{v:V}{A:Around}{E:Value->Shared->Prop}
theorem z97 {b:Bool}{Q:Value->Shared->Prop}(I:Inv X pins σ H s) (e:H a=some (.ins C dx fs)) (c:Cls X.K C) (n:z2I X.K C f) (l:fs.lookup f=some v)
 (h:∀u s',Inv X pins σ H s'->z1C v u->Q u s'):wpAny (model X.prog X.w) A (getAttr (.ref a) f b) Q E s:=by
 obtain⟨mA,O,r,_,_,_⟩:=z6v I.hok e
 obtain⟨u,hu,ru⟩:=z6E.some_of (v:=v) (o:=mA f) (by rw[<- l];exact r f)
 exact zcJ I.kIn O (c.get f) c.hd n hu (z7d ru) (h u _ (I.tok _) ru)
theorem z4d {m:Str}{g:Addr}{pl:Sem Bool}{Q:Value×List Value->Shared->Prop}(I:Inv X pins σ H s) (e:H a=some (.ins C dx fs)) (c:Cls X.K C) (k:z3r X.K C m g) (l:fs.lookup m=none)
 (h:Q (.ref g,[.ref a]) s):wpAny (model X.prog X.w) A (getMethod (.ref a) m pl) Q E s:=by
 obtain⟨mA,O,r,_,_,_⟩:=z6v I.hok e
 have hn:mA m=none:=z6E.none_of (by rw[<- l];exact r m)
 exact zbo I.kIn O (c.get m) k.at_ k.fn hn h
theorem z8V {y:V}{u:Value}{Q:Unit->Shared->Prop}(I:Inv X pins σ H s) (e:H a=some (.ins C dx fs)) (c:Cls X.K C) (n:z2I X.K C f) (hl:fs.length<1000) (ry:z1C y u)
 (h:∀s',Inv X pins σ (upd H a (.ins C dx (z4j f y fs))) s'->Q () s'):wpAny (model X.prog X.w) A (setAttr (.ref a) f u) Q E s:=by
 obtain⟨mA,O,r,wi,_,ho⟩:=z6v I.hok e
 have hz:(fs.map (·.1)).length<=sizeLine:=by rw[qb,sizeLine_eq];omega
 refine zch I.kIn O c.sa c.po n.taker c.hd wi hz fun h' O' sb=>h _ ?_
 have hd:∃o,h'.get? dx=some o:=let ⟨o,_,_,e',_⟩:=O'.ns;⟨o,e'⟩
 refine I.write (x:=a) (e:=dx) (by rw[e];exact True.intro) (.inr ho) (fun b q hb z=>(sb.2 b hb).trans z) hd ?_
 refine⟨by rw[z06 O.ne];exact ho,?_,O.ne,O'.obj,_,O'.ns,fun g=>?_,fun g hg=>?_⟩
 ·have:=z57 f y fs;omega
 ·show z6E ((z4j f y fs).lookup g) (if g=f then some u else mA g)
  rw[z56]
  by_cases q:g=f
  ·rw[if_pos q,if_pos q];exact ry
  ·rw[if_neg q,if_neg q];exact r g
 ·by_cases q:g=f
  ·rw[q];exact(z59 f y fs).1
  ·refine(z59 f y fs).2 g (wi g fun z=>hg ?_)
   show(if g=f then some u else mA g)=none
   rw[if_neg q];exact z
theorem Inv.made (I:Inv X pins σ H s):Inv X pins σ (upd (upd H s.heap.objs.size (.own (s.heap.objs.size+1))) (s.heap.objs.size+1) (.ins C s.heap.objs.size []))
 { s with heap:=(s.heap.push PySem.W.emptyDict).push (PySem.W.instObj C s.heap.objs.size) }:=by
 have e1:(s.heap.push PySem.W.emptyDict).get? s.heap.objs.size=some PySem.W.emptyDict:=qw s.heap rfl
 have e2:((s.heap.push PySem.W.emptyDict).push (PySem.W.instObj C s.heap.objs.size)).get? (s.heap.objs.size+1)=some (PySem.W.instObj C s.heap.objs.size):=by
  have:=qw (s.heap.push PySem.W.emptyDict) (o:=PySem.W.instObj C s.heap.objs.size) rfl
  rwa [Heap.size_push]at this
 have e3:(s.heap.push PySem.W.emptyDict).Ns s.heap.objs.size (fun _=>none):=⟨PySem.W.emptyDict,#[],_,e1,rfl,(fun e he=>absurd he (by simp)),fun _=>rfl⟩
 have I1:=I.laid (a:=s.heap.objs.size) (o:=.own (s.heap.objs.size+1)) (h':=s.heap.push PySem.W.emptyDict) (t':=s.toks) (fun b u q=>qc _ q) (qh _) ⟨_,e1⟩
 refine I1.laid (a:=s.heap.objs.size+1) (o:=.ins C s.heap.objs.size []) (t':=s.toks) (fun b u q=>qc _ q) (Nat.le_of_eq (Heap.size_push _ _)) ?_
 have ne:s.heap.objs.size≠s.heap.objs.size+1:=qN (Nat.lt_succ_self _)
 refine⟨by rw[z06 ne,z01],qA _,ne,e2,fun _=>none,(Heap.Ns1.of_empty e3).at fun o q=>qc _ q,fun _=>True.intro,fun y hy=>absurd rfl hy⟩
theorem zcQ {prog:Program}{w:World}{env:Env}{e:Expr}{f:Str}{pos:Pos}{s:Shared}{Q:Value->Shared->Prop}(hb:attributeBase e f env (eval e env)=eval e env)
 (h:wpAny (model prog w) A (eval e env) (fun o s₁=>wpAny (model prog w) A (getAttr o f true) Q E s₁) E s):wpAny (model prog w) A (eval (.Attribute e f pos) env) Q E s:=
 Attribute_any_ h (by rw[arm_eval_Attribute,hb])
end
def zeF (K:PySem.W.Frag) (ta:TE) (f:Str):TE:=fun σ H Q=>ta σ H fun x H1=>∃a C dx fs v,x=.ref a/\H1 a=some (.ins C dx fs)/\Cls K C/\z2I K C f/\fs.lookup f=some v/\Q v H1
def zf2 (K:PySem.W.Frag) (ta tv:TE) (f:Str):TS:=fun D σ H=>tv σ H fun y H1=>ta σ H1 fun x H2=>∃a C dx fs,x=.ref a/\H2 a=some (.ins C dx fs)/\Cls K C/\z2I K C f/\fs.length<1000 /\
 D.nx σ (upd H2 a (.ins C dx (z4j f y fs)))
section
variable {X:Cx}{o e value:Expr}{f:Str}{pos pos' tpos:Pos}{ta tv:TE}
theorem z18 (he:PE X e ta) (hb:attributeBase e f X.env (eval e X.env)=eval e X.env):PE X (.Attribute e f pos) (zeF X.K ta f):=by
 intro pins s σ H Q I h
 refine zcQ hb (thn (he pins s σ H _ I h) fun u s1 ⟨x,H1,I1,rx,a,C,dx,fs,v,ex,ea,c,n,l,q⟩=>?_)
 subst ex
 obtain rfl:u=Value.ref a:=rx
 exact z97 I1 ea c n l fun u' s2 I2 ru=>⟨v,H1,I2,ru,q⟩
theorem z3G (ha:PE X o ta) (hv:PE X value tv) (hs:swapsWith value (some (.Attribute o f pos')) pos.line X.env=pure false):PS X (.Assign [.Attribute o f pos'] value pos) (zf2 X.K ta tv f):=by
 intro pins s σ H D I h
 refine plainObj_wpAny_Assign_Attribute (thn (hv pins s σ H _ I h) fun u s1 ⟨y,H1,I1,ry,q⟩=>thn (ha pins s1 σ H1 _ I1 q) fun ov s2 ⟨x,H2,I2,rx,a,C,dx,fs,ex,ea,c,n,l,q2⟩=>?_) hs
 subst ex
 obtain rfl:ov=Value.ref a:=rx
 exact z8V I2 ea c n l ry fun s3 I3=>⟨σ,_,I3,q2⟩
theorem zcC {pl:Sem Bool}{m:Str}{apos:Pos}{args:List Expr}{pins:List (Addr×Obj)}{s:Shared}{σ:St}{H:Hp}{Q:Value->Shared->Prop}{te:TE}(he:PE X e te) (I:Inv X pins σ H s)
 (h:te σ H fun x H1=>∃a C dx fs g,x=.ref a/\H1 a=some (.ins C dx fs)/\Cls X.K C/\z3r X.K C m g/\fs.lookup m=none /\
  ∀s1,Inv X pins σ H1 s1->wpAny (model X.prog X.w) X.A (callWith pos (.ref g) [.ref a] (backTo pos (starEach args X.env)) (backToKw pos (keywordEach [] X.env))) Q X.xe s1)
 (ht:eval (.Call (.Attribute e m apos) args [] pos) X.env=(do
  let ov <- eval e X.env
  standAt apos.atName
  let (f,first) <- holding [ov] (getMethod ov m pl)
  callWith pos f first (backTo pos (starEach args X.env)) (backToKw pos (keywordEach [] X.env)))):
 wpAny (model X.prog X.w) X.A (eval (.Call (.Attribute e m apos) args [] pos) X.env) Q X.xe s:=by
 refine PySem.W.methodCall_KW (pl:=pl) (thn (he pins s σ H _ I h) fun u s1 ⟨x,H1,I1,rx,a,C,dx,fs,g,ex,ea,c,k,l,q⟩=>?_) ht
 subst ex
 obtain rfl:u=Value.ref a:=rx
 exact z4d I1 ea c k l (q s1 I1)
end
section
variable {X:Cx}{pins:List (Addr×Obj)}{σ:St}{H:Hp}{s:Shared}{A:Around}{E:Value->Shared->Prop}{Q:Value->Shared->Prop}{c:Value}{b:Bool}
inductive z8J (K:PySem.W.Frag) (H:Hp):V->Value->Prop where
 |non:z8J K H .non (.type "NoneType")
 |bl (x:Bool):z8J K H (.bl x) (.type "bool")
 |int (i:Int):z8J K H (.int i) (.type "int")
 |str (x:Str):z8J K H (.str x) (.type "str")
 |flt (x:UInt64):z8J K H (.flt x) (.type "float")
 |lst {a:Addr}{xs:List V}(e:H a=some (.lst xs)):z8J K H (.ref a) (.type "list")
 |frz {a:Addr}{o:Obj}{xs:List V}(e:H a=some (.frz o (.lst xs))):z8J K H (.ref a) (.type "list")
 |tup {a:Addr}{xs:List V}(e:H a=some (.tup xs)):z8J K H (.ref a) (.type "tuple")
 |dK {a:Addr}{kvs:List (Key×V)}(e:H a=some (.dK kvs)):z8J K H (.ref a) (.type "dict")
 |dT {a:Addr}{kvs:List (List Key×V)}(e:H a=some (.dT kvs)):z8J K H (.ref a) (.type "dict")
 |ins {a C dx:Addr}{fs:List (Str×V)}(e:H a=some (.ins C dx fs)) (cl:Cls K C) (ha:PySem.W.findIn K (.ref C) "__class__"=some (some (.builtin "object.__class__")))
  (hn:PySem.W.specialIn K (.builtin "object.__class__") "__get__"=some (some (.builtin "getset_descriptor.__get__"))) (htk:PySem.W.takesIn K (.builtin "object.__class__")=some true)
  (hm:PySem.W.mroIn K C (.type "object")=some true):z8J K H (.ref a) (.ref C)
theorem zac {x:V}{u t:Value}(I:Inv X pins σ H s) (rx:z1C x u) (ty:z8J X.K H x t) (e:PySem.W.kitOne X.K t c=some b) (h:∀tk,Q (.bool b) { s with toks:=tk }):
 wpAny (model X.prog X.w) A (call (.builtin "isinstance") [u,c]) Q E s:=by
 cases ty with
 |non=>cases(show u=Value.none from rx);exact PySem.W.kia_one PySem.W.kitx_none I.kIn True.intro e (fun z=>nomatch z) h
 |bl y=>cases(show u=Value.bool y from rx);exact PySem.W.kia_one PySem.W.kitx_bool I.kIn True.intro e (fun z=>nomatch z) h
 |int i=>obtain⟨t,q⟩:=(show ∃t,u=Value.int i t from rx);cases q;exact PySem.W.kia_one PySem.W.kitx_int I.kIn True.intro e (fun z=>nomatch z) h
 |str y=>obtain⟨t,q⟩:=(show ∃t,u=Value.str y t from rx);cases q;exact PySem.W.kia_one PySem.W.kitx_str I.kIn True.intro e (fun z=>nomatch z) h
 |flt y=>obtain⟨t,q⟩:=(show ∃t,u=Value.float y t from rx);cases q;exact PySem.W.kia_one PySem.W.kitx_float I.kIn True.intro e (fun z=>nomatch z) h
 |@lst a xs ea=>
  cases(show u=Value.ref a from rx)
  obtain⟨_,_,n,_,h1⟩:=(show z1o X.prog X.w H s.heap a (.lst xs)from I.hok a _ ea)
  exact PySem.W.kia_one PySem.W.kitx_list I.kIn ⟨_,h1,rfl⟩ e (fun z=>nomatch z) h
 |@frz a ob xs ea=>
  cases(show u=Value.ref a from rx)
  obtain⟨_,_,_,n,_,h1⟩:=(show z1o X.prog X.w H s.heap a (.frz ob (.lst xs))from I.hok a _ ea)
  exact PySem.W.kia_one PySem.W.kitx_list I.kIn ⟨_,h1,rfl⟩ e (fun z=>nomatch z) h
 |@tup a xs ea=>
  cases(show u=Value.ref a from rx)
  obtain⟨_,_,_,p⟩:=(show z1o X.prog X.w H s.heap a (.tup xs)from I.hok a _ ea)
  obtain⟨o,h1,h2,_⟩:=p
  exact PySem.W.kia_one PySem.W.kitx_tuple I.kIn ⟨o,h1,h2⟩ e (fun z=>nomatch z) h
 |@dK a kvs ea=>
  cases(show u=Value.ref a from rx)
  obtain⟨_,_,vs,_,p⟩:=(show z1o X.prog X.w H s.heap a (.dK kvs)from I.hok a _ ea)
  obtain⟨o,es,ep,h1,h2,_⟩:=p
  exact PySem.W.kia_one PySem.W.kitx_dict I.kIn ⟨o,h1,h2.1⟩ e (fun z=>nomatch z) h
 |@dT a kvs ea=>
  cases(show u=Value.ref a from rx)
  obtain⟨_,_,xs,_,o,es,ep,h1,h2,_⟩:=(show z1o X.prog X.w H s.heap a (.dT kvs)from I.hok a _ ea)
  exact PySem.W.kia_one PySem.W.kitx_dict I.kIn ⟨o,h1,h2.1⟩ e (fun z=>nomatch z) h
 |@ins a C dx fs ea cl ha hn htk hm=>
  cases(show u=Value.ref a from rx)
  obtain⟨mA,O,_⟩:=z6v I.hok ea
  obtain⟨od,J,_⟩:=O.look
  exact PySem.W.kia_one (PySem.W.kitx_own (cl.get _) cl.hd ha hn htk hm) I.kIn J e (fun z=>nomatch z) h
end
structure z3B (k:Nat) (A:Around):Prop where
 hd:A.handled=none
 dp:A.depth+3 * k+5<recursionLimit
 un:A.units+16 * k+200<cLine
theorem z3B.mono {j k:Nat}{A:Around}(r:z3B k A) (h:j<=k):z3B j A:=⟨r.hd,by have:=r.dp;omega,by have:=r.un;omega⟩
theorem z3B.deeper {k:Nat}{A:Around}(r:z3B (k+1) A) (env:Env):z3B k (A.deeper env):=
 ⟨r.hd,by have:=r.dp;show A.depth+1+3 * k+5<_;omega,by have:=r.un;show A.units+3+16 * k+200<_;omega⟩
theorem z94 {A:Around}{C:Addr}{us:List Value}{kw:List (Str×Value)}:(A.under (.builtin "type.__call__" ⟨.ref C::us,kw⟩)).depth=A.depth+1:=by
 first|rfl|simp[Around.under,Code.weight,Code.isCreation,Code.isGuard,Code.isCaller,Code.frames,Code.isFrame,guardIds]
theorem z93 {A:Around}{C:Addr}{us:List Value}{kw:List (Str×Value)}:(A.under (.builtin "type.__call__" ⟨.ref C::us,kw⟩)).units=A.units+1:=by
 first|rfl|simp[Around.under,Code.cUnits,Code.frames,Code.isFrame]
theorem z3B.make {k:Nat}{A:Around}(r:z3B (k+1) A) (C:Addr) (us:List Value) (kw:List (Str×Value)):z3B k (A.under (.builtin "type.__call__" ⟨.ref C::us,kw⟩)):=
 ⟨r.hd,by have:=r.dp;rw[z94];omega,by have:=r.un;rw[z93];omega⟩
theorem z3B.depth {k:Nat}{A:Around}(r:z3B k A):A.depth<recursionLimit:=by have:=r.dp;omega
theorem z3B.units {k:Nat}{A:Around}(r:z3B k A):A.units+64<cLine:=by have:=r.un;omega
def zeE:TA:=fun _ H Q=>Q [] H
def zea (ta:TE) (tr:TA):TA:=fun σ H Q=>ta σ H fun x H1=>tr σ H1 fun xs H2=>Q (x::xs) H2
section
variable {X:Cx}{e:Expr}{es:List Expr}{te:TE}{t:TA}{pos:Pos}
theorem z07:PA X [] zeE:=fun _ _ _ _ H Q I h=>Calls.spliced_nil ⟨[],H,I,.nil,h⟩
theorem z00 (ha:PE X e te) (hr:PA X es t) (hs:starEach (e::es) X.env=(false,eval e X.env)::starEach es X.env:=by rfl):PA X (e::es) (zea te t):=by
 intro pos pins s σ H Q I h
 rw[hs]
 show wpAny _ _ (spliced ((false,eval e X.env)::backTo pos (starEach es X.env))) _ _ s
 refine Calls.spliced_cons (thn (ha pins s σ H _ I h) fun u s1 ⟨x,H1,I1,r1,q1⟩=>?_)
 exact thn (hr pos pins s1 σ H1 _ I1 q1) fun us s2 ⟨xs,H2,I2,r2,q2⟩=>⟨x::xs,H2,I2,.cons r1 r2,q2⟩
def zeT (t:TA):TE:=fun σ H Q=>t σ H fun xs H1=>xs.length<=sizeLine/\∀p,H1 p=none->Q (.ref p) (upd H1 p (.tup xs))
def zeX (t:TA):TE:=fun σ H Q=>t σ H fun xs H1=>xs.length<=sizeLine/\∀p,H1 p=none->Q (.ref p) (upd H1 p (.lst xs))
theorem z0V {x1}(h:PA X es t):PE X (.Tuple es x1 pos) (zeT t):=by
 intro pins s σ H Q I hq
 refine wpAny_Tuple_spliced (thn (h pos pins s σ H _ I hq) fun us s1 ⟨xs,H1,I1,r,z,q⟩=>⟨by rw[<- r.length];exact z,?_⟩)
 have hf:H1 s1.heap.objs.size=none:=I1.hok.fresh (qh _)
 refine⟨.ref s1.heap.objs.size,upd H1 s1.heap.objs.size (.tup xs),I1.laid (t':=s1.toks) (fun b u e=>qc _ e) (qh _) ?_,rfl,q _ hf⟩
 exact⟨z,us,r,⟨_,qw _ rfl,rfl,_,rfl⟩⟩
theorem z0N (h:PA X es t):PE X (.List es pos) (zeX t):=by
 intro pins s σ H Q I hq
 refine wpAny_List_spliced (thn (h pos pins s σ H _ I hq) fun us s1 ⟨xs,H1,I1,r,z,q⟩=>⟨by rw[<- r.length];exact z,?_⟩)
 have hf:H1 s1.heap.objs.size=none:=I1.hok.fresh (qh _)
 refine⟨.ref s1.heap.objs.size,upd H1 s1.heap.objs.size (.lst xs),I1.laid (t':=s1.toks) (fun b u e=>qc _ e) (qh _) ?_,rfl,q _ hf⟩
 exact⟨z,us,0,r,qw _ rfl⟩
end
abbrev Sp:=List V->Hp->VK->XK->Prop
abbrev CXT:=List Env->Hp->Shared->XK->Value->Shared->Prop
structure zcY (P:Program) (w:World) (K:PySem.W.Frag) (mg:Str->Option Value) (base:Heap) (A:Around) (outer:List Env) (s:Shared) (H:Hp):Prop where
 frames:A.frames=some outer
 mod:Mod K mg base
 bs:∀b o,base.get? b=some o->s.heap.get? b=some o/\H b=none
 bsz:base.objs.size<=s.heap.objs.size
 funs:s.heap.FunFrames base outer
 frf:∀b∈frs outer,H b=none
 hok:HOk P w H s.heap
 bare:AllBare s.gens
def CE (outer:List Env) (P:Program) (w:World) (H:Hp) (s:Shared) (Q:VK) (u:Value) (s':Shared):Prop:=
 ∃v H',s'.os=s.os/\AllBare s'.gens/\Un (frs outer) [] H H' s.heap s'.heap/\HOk P w H' s'.heap/\z1C v u/\Q v H'
def CR (CX:CXT) (outer:List Env) (P:Program) (w:World) (H:Hp) (s:Shared) (Q:VK) (E:XK) (r:Result) (s':Shared):Prop:=
 match r with
 |.ok (.ret u)=>CE outer P w H s Q u s'
 |.ok _=>False
 |.error e=>CX outer H s E e s'
structure z1B (P:Program) (w:World) (K:PySem.W.Frag) (mg:Str->Option Value) (base:Heap) (CX:CXT) (k:Nat) (f:Addr) (fd:FuncData) (ps:List Str) (sp:Sp):Prop where
 len:∀vs H Q E,sp vs H Q E->vs.length=ps.length
 run:∀(A:Around) (outer:List Env) (s:Shared) (H:Hp) (args:Args) (us:List Value) (vs:List V) (Q:VK) (E:XK),z3B k A->zcY P w K mg base A outer s H->BindsTo s fd args (ps.zip us)->z19 vs us->sp vs H Q E->
  codeAny (model P w) A (.call (.ref f) args) (CR CX outer P w H s Q E) s
theorem zcY.make {P:Program}{w:World}{K:PySem.W.Frag}{mg:Str->Option Value}{base:Heap}{A:Around}{outer:List Env}{s:Shared}{H:Hp}(e:zcY P w K mg base A outer s H) (C:Addr) (us:List Value) (kw:List (Str×Value)):
 zcY P w K mg base (A.under (.builtin "type.__call__" ⟨.ref C::us,kw⟩)) outer s H:=⟨by first|exact e.frames|(simpa[Around.under,Code.envs,Code.isFrame,pushEnvs]using e.frames),e.mod,e.bs,e.bsz,e.funs,e.frf,e.hok,e.bare⟩
section
variable {X:Cx}{pins:List (Addr×Obj)}{σ:St}{H:Hp}{s s':Shared}
theorem Inv.env0 (I:Inv X pins σ H s):zcY X.prog X.w X.K X.mg X.base X.A X.stack s H:=
 ⟨I.ok.frames,I.ok.mod,I.bs,qG I.ok.bsz I.sz,I.stack,I.stkFree,I.hok,I.bare⟩
theorem Inv.after {Q:VK}{u:Value}(I:Inv X pins σ H s) (h:CE X.stack X.prog X.w H s Q u s'):EP X pins σ Q u s':=by
 obtain⟨v,H',os,bare,un,hok,r,q⟩:=h
 obtain⟨hh,g,d,t,os'⟩:=s'
 obtain rfl:os'=s.os:=os
 exact⟨v,H',I.call (h':=hh) (g':=g) (d':=d) (t':=t) (ch:=[]) un hok bare (fun b z=>absurd z (by simp)),r,q⟩
end
def zeb (sp:Sp) (dvs:List V) (E:XK) (t:TA):TE:=fun σ H Q=>t σ H fun vs H1=>sp (vs++dvs) H1 Q E
def zda (C:Addr) (m:Str) (sp:Sp) (dvs:List V) (E:XK) (ta:TE) (t:TA):TE:=fun σ H Q=>ta σ H fun x H1=>∃a dx fs,x=.ref a/\H1 a=some (.ins C dx fs)/\fs.lookup m=none /\
 t σ H1 fun vs H2=>sp (x::(vs++dvs)) H2 Q E
def ze7 (C:Addr) (sp:Sp) (dvs:List V) (E:XK) (t:TA):TE:=fun σ H Q=>t σ H fun vs H1=>∀x dx,H1 x=none->H1 dx=none->dx≠x->
 sp (.ref x::(vs++dvs)) (upd (upd H1 dx (.own x)) x (.ins C dx [])) (fun v H2=>v=.non/\Q (.ref x) H2) E
def z0G (K:PySem.W.Frag) (fd:FuncData) (ps:List Str) (ds:List Value):Prop:=
 ∀(s:Shared) (us:List Value),K.In s.heap->(us++ds).length=ps.length->BindsTo s fd ⟨us,[]⟩ (ps.zip (us++ds))
theorem z0G.all {K:PySem.W.Frag}{fd:FuncData}{ps:List Str}(h:∀us:List Value,us.length=ps.length->bindArgs fd ⟨us,[]⟩=pure (ps.zip us)):z0G K fd ps []:=fun s us _ hl=>by
 rw[qF]at hl ⊢
 exact .of_eq (h us hl)
def z3U (CX:CXT) (X:Cx) (E:XK):Prop:=∀(pins:List (Addr×Obj)) (σ:St) (H:Hp) (s:Shared) (e:Value) (s':Shared),Inv X pins σ H s->CX X.stack H s E e s'->X.xe e s'
section
variable {X:Cx}{CX:CXT}{k:Nat}{f C:Addr}{fd:FuncData}{ps:List Str}{sp:Sp}{dvs:List V}{ds:List Value}{E:XK}{x m:Str}{p pos apos:Pos}{e o:Expr}{es:List Expr}{ta:TE}{t:TA}
theorem z9D {pins:List (Addr×Obj)}{σ:St}{H:Hp}{s:Shared}{Q:VK}{us:List Value}{vs:List V}(F:z1B X.prog X.w X.K X.mg X.base CX k f fd ps sp) (hr:z3B k X.A) (hb:z0G X.K fd ps ds) (hd:z19 dvs ds) (hx:z3U CX X E)
 (I:Inv X pins σ H s) (r:z19 vs us) (h:sp (vs++dvs) H Q E):wpAny (model X.prog X.w) X.A (call (.ref f) us) (EP X pins σ Q) X.xe s:=by
 have r2:z19 (vs++dvs) (us++ds):=r.append hd
 have hl:(us++ds).length=ps.length:=by rw[<- r2.length];exact F.len _ _ _ _ h
 refine wpAny_call (codeAny_mono (F.run X.A X.stack s H ⟨us,[]⟩ (us++ds) (vs++dvs) Q E hr I.env0 (hb s us I.kIn hl) r2 h) fun r s' hq=>?_)
 cases r with
 |error e=>exact hx pins σ H s e s' I hq
 |ok fl=>
  cases fl with
  |ret u=>exact I.after hq
  |next=>exact False.elim hq
  |brk=>exact False.elim hq
  |cont=>exact False.elim hq
theorem z0q (F:z1B X.prog X.w X.K X.mg X.base CX k f fd ps sp) (hr:z3B k X.A) (hg:Gl X x) (hm:X.mg x=some (.ref f)) (hk:PySem.W.keepIn X.K (.ref f)=true) (hb:z0G X.K fd ps ds) (hd:z19 dvs ds) (hx:z3U CX X E)
 (ha:PA X (e::es) t) (hdb:(x == ("__debug__":Str))=false:=by decide) (he:starEach (e::es) X.env=(false,eval e X.env)::starEach es X.env:=by rfl) (hpl:(backTo pos (starEach es X.env)).any (·.1)=false:=by rfl):
 PE X (.Call (.Name x p) (e::es) [] pos) (zeb sp dvs E t):=by
 intro pins s σ H Q I h
 refine wpAny_Call_Name_kw (z58 I hg hm ?_ hdb)
 refine PySem.W.callWith_K (h₀:=X.base) I.ok.mod.kin hk (thn (ha pos pins s σ H _ I h) fun us s1 ⟨vs,H1,I1,r,q⟩=>⟨I1.kIn,?_⟩) he hpl
 exact z9D F hr hb hd hx I1 r q
theorem z26 {pl:Sem Bool}(he:PE X o ta) (c:Cls X.K C) (hm:z3r X.K C m f) (F:z1B X.prog X.w X.K X.mg X.base CX k f fd ps sp) (hr:z3B k X.A) (hb:z0G X.K fd ps ds) (hd:z19 dvs ds) (hx:z3U CX X E) (ha:PA X (e::es) t)
 (hst:starEach (e::es) X.env=(false,eval e X.env)::starEach es X.env:=by rfl) (hpl:(backTo pos (starEach es X.env)).any (·.1)=false:=by rfl)
 (ht:eval (.Call (.Attribute o m apos) (e::es) [] pos) X.env=(do
  let ov <- eval o X.env
  standAt apos.atName
  let (f,first) <- holding [ov] (getMethod ov m pl)
  callWith pos f first (backTo pos (starEach (e::es) X.env)) (backToKw pos (keywordEach [] X.env))):=by rfl):
 PE X (.Call (.Attribute o m apos) (e::es) [] pos) (zda C m sp dvs E ta t):=by
 intro pins s σ H Q I h
 refine PySem.W.methodCall_KW (pl:=pl) (thn (he pins s σ H _ I h) fun u s1 ⟨x,H1,I1,rx,a,dx,fs,ex,ea,l,q⟩=>?_) ht
 subst ex
 obtain rfl:u=Value.ref a:=rx
 refine z4d I1 ea c hm l ?_
 refine PySem.W.callWith_K (first:=[.ref a]) (h₀:=X.base) I.ok.mod.kin hm.kp (thn (ha pos pins s1 σ H1 _ I1 q) fun us s2 ⟨vs,H2,I2,r,q2⟩=>⟨I2.kIn,?_⟩) hst hpl
 exact z9D (us:=.ref a::us) (vs:=.ref a::vs) F hr hb hd hx I2 (.cons rfl r) q2
theorem z2b {pl:Sem Bool}(he:PE X o ta) (c:Cls X.K C) (hm:z3r X.K C m f) (F:z1B X.prog X.w X.K X.mg X.base CX k f fd ps sp) (hr:z3B k X.A) (hb:z0G X.K fd ps ds) (hd:z19 dvs ds) (hx:z3U CX X E)
 (ht:eval (.Call (.Attribute o m apos) [] [] pos) X.env=(do
  let ov <- eval o X.env
  standAt apos.atName
  let (f,first) <- holding [ov] (getMethod ov m pl)
  callWith pos f first (backTo pos (starEach [] X.env)) (backToKw pos (keywordEach [] X.env))):=by rfl):
 PE X (.Call (.Attribute o m apos) [] [] pos) (zda C m sp dvs E ta zeE):=by
 intro pins s σ H Q I h
 refine PySem.W.methodCall_KW (pl:=pl) (thn (he pins s σ H _ I h) fun u s1 ⟨x,H1,I1,rx,a,dx,fs,ex,ea,l,q⟩=>?_) ht
 subst ex
 obtain rfl:u=Value.ref a:=rx
 refine z4d I1 ea c hm l ?_
 exact PySem.W.callWith_K0 (first:=[.ref a]) I1.kIn hm.kp (z9D (us:=[.ref a]) (vs:=[.ref a]) F hr hb hd hx I1 (.cons rfl .nil) q)
structure Mk (K:PySem.W.Frag) (C f:Addr):Prop where
 makes:PySem.W.makesIn K C=true
 init:PySem.W.findIn K (.ref C) "__init__"=some (some (.ref f))
 fn:PySem.W.isFn K (.ref f)=true
 kp:PySem.W.keepIn K (.ref C)=true
theorem zb4 {pins:List (Addr×Obj)}{σ:St}{H:Hp}{s:Shared}{Q:VK}{us:List Value}{vs:List V}(M:Mk X.K C f) (F:z1B X.prog X.w X.K X.mg X.base CX k f fd ps sp) (hr:z3B (k+1) X.A) (hb:z0G X.K fd ps ds) (hd:z19 dvs ds)
 (hx:z3U CX X E) (I:Inv X pins σ H s) (r:z19 vs us)
 (h:∀x dx,H x=none->H dx=none->dx≠x->sp (.ref x::(vs++dvs)) (upd (upd H dx (.own x)) x (.ins C dx [])) (fun v H2=>v=.non/\Q (.ref x) H2) E):
 wpAny (model X.prog X.w) X.A (call (.ref C) us) (EP X pins σ Q) X.xe s:=by
 have hq:=h (s.heap.objs.size+1) s.heap.objs.size (I.hok.fresh (Nat.le_succ _)) (I.hok.fresh (qh _)) (qN (Nat.lt_succ_self _))
 have I2:=Inv.made (C:=C) I
 have r2:z19 (V.ref (s.heap.objs.size+1)::(vs++dvs)) (Value.ref (s.heap.objs.size+1)::(us++ds)):=.cons rfl (r.append hd)
 have hl:(Value.ref (s.heap.objs.size+1)::us++ds).length=ps.length:=by
  have e:=r2.length
  rw[F.len _ _ _ _ hq]at e
  exact e.symm
 refine wpAny_call (zbh (f:=f) I.kIn M.makes M.init (beq_iff_eq.mp M.fn) (codeAny_mono (F.run _ X.stack _ _ ⟨Value.ref (s.heap.objs.size+1)::us,[]⟩ (Value.ref (s.heap.objs.size+1)::(us++ds)) _ _ E (hr.make C us [])
  (I2.env0.make C us []) (hb _ (Value.ref (s.heap.objs.size+1)::us) I2.kIn hl) r2 hq) fun r s' hq'=>?_))
 cases r with
 |error e=>exact hx pins σ _ _ e s' I2 hq'
 |ok fl=>
  cases fl with
  |ret u=>
   obtain⟨v,H',I3,rv,ev,q3⟩:=I2.after hq'
   subst ev
   exact⟨rv,⟨V.ref (s.heap.objs.size+1),H',I3,rfl,q3⟩⟩
  |next=>exact False.elim hq'
  |brk=>exact False.elim hq'
  |cont=>exact False.elim hq'
theorem z9M (M:Mk X.K C f) (F:z1B X.prog X.w X.K X.mg X.base CX k f fd ps sp) (hr:z3B (k+1) X.A) (hg:Gl X x) (hm:X.mg x=some (.ref C)) (hb:z0G X.K fd ps ds) (hd:z19 dvs ds) (hx:z3U CX X E)
 (ha:PA X (e::es) t) (hdb:(x == ("__debug__":Str))=false:=by decide) (he:starEach (e::es) X.env=(false,eval e X.env)::starEach es X.env:=by rfl) (hpl:(backTo pos (starEach es X.env)).any (·.1)=false:=by rfl):
 PE X (.Call (.Name x p) (e::es) [] pos) (ze7 C sp dvs E t):=by
 intro pins s σ H Q I h
 refine wpAny_Call_Name_kw (z58 I hg hm ?_ hdb)
 refine PySem.W.callWith_K (h₀:=X.base) I.ok.mod.kin M.kp (thn (ha pos pins s σ H _ I h) fun us s1 ⟨vs,H1,I1,r,q⟩=>⟨I1.kIn,?_⟩) he hpl
 exact zb4 M F hr hb hd hx I1 r q
end
section
variable {X:Cx}{CX:CXT}{k:Nat}{f C:Addr}{fd:FuncData}{ps ks:List Str}{sp:Sp}{E:XK}{x m:Str}{p pos apos kpos:Pos}{e o:Expr}{es:List Expr}{kws:List Keyword}{te ta:TE}{t tk:TA}{nm:Option Str}
variable {g:List Value->List Value->List Value}{gV:List V->List V->List V}
end
structure z0m (N P:List Str) (sc:Scope):Prop where
 kind:sc.kind=.function
 co:sc.isCoroutine=false
 gen:sc.isGenerator=false
 nd:N.Nodup
 pre:N.take P.length=P
 par:∀x∈P,sc.names.lookup x=some .local\/sc.names.lookup x=some .cell
 nofree:∀y∈sc.names,y.2≠.free
theorem z7o {kindOf:Str->Option NameKind}{x:Str}:∀{binds:List (Str×Value)}{m:Str->Option Value},(∀v,(x,v)∉binds)->bindL kindOf binds m x=m x
 |[],_,_=>rfl
 |(n,v)::r,m,h=>by
  unfold bindL
  rw[z7o fun w hw=>h w (qt _ hw)]
  split
  ·have:x≠n:=by rintro rfl;exact h v qv
   simp[this]
  ·rfl
theorem z7q {kindOf:Str->Option NameKind}{x:Str}:∀{binds:List (Str×Value)}{m:Str->Option Value},(∀v,(x,v)∉binds)->bindC kindOf binds m x=m x
 |[],_,_=>rfl
 |(n,v)::r,m,h=>by
  unfold bindC
  rw[z7q fun w hw=>h w (qt _ hw)]
  split
  ·rfl
  ·have:x≠n:=by rintro rfl;exact h v qv
   simp[this]
theorem z7p {kindOf:Str->Option NameKind}{x:Str}{v:Value}:∀{P:List Str}{vs:List Value}{i:Nat}{m:Str->Option Value},P.Nodup->P[i]?=some x->vs[i]?=some v->kindOf x=some .local->
 bindL kindOf (P.zip vs) m x=some v
 |[],_,_,_,_,h,_,_=>by simp at h
 |_::_,[],_,_,_,_,h,_=>by simp at h
 |p::P,w::vs,0,m,nd,h1,h2,hk=>by
  simp at h1 h2;subst h1;subst h2
  show bindL kindOf ((p,w)::P.zip vs) m p=_
  unfold bindL
  rw[z7o fun v hv=>(List.nodup_cons.mp nd).1 (List.of_mem_zip hv).1,if_pos hk]
  simp
 |p::P,w::vs,i+1,m,nd,h1,h2,hk=>by
  show bindL kindOf ((p,w)::P.zip vs) m x=_
  unfold bindL
  exact z7p (i:=i) (List.nodup_cons.mp nd).2 (by simpa using h1) (by simpa using h2) hk
theorem z7r {kindOf:Str->Option NameKind}{x:Str}{v:Value}:∀{P:List Str}{vs:List Value}{i:Nat}{m:Str->Option Value},P.Nodup->P[i]?=some x->vs[i]?=some v->kindOf x≠some .local->
 bindC kindOf (P.zip vs) m x=some v
 |[],_,_,_,_,h,_,_=>by simp at h
 |_::_,[],_,_,_,_,h,_=>by simp at h
 |p::P,w::vs,0,m,nd,h1,h2,hk=>by
  simp at h1 h2;subst h1;subst h2
  show bindC kindOf ((p,w)::P.zip vs) m p=_
  unfold bindC
  rw[z7q fun v hv=>(List.nodup_cons.mp nd).1 (List.of_mem_zip hv).1,if_neg hk]
  simp
 |p::P,w::vs,i+1,m,nd,h1,h2,hk=>by
  show bindC kindOf ((p,w)::P.zip vs) m x=_
  unfold bindC
  exact z7r (i:=i) (List.nodup_cons.mp nd).2 (by simpa using h1) (by simpa using h2) hk
def z5h (N:List Str) (vs:List V):St:=vs.map some++List.replicate (N.length-vs.length) none
def z3W (CX:CXT) (P:Program) (w:World) (K:PySem.W.Frag) (mg:Str->Option Value) (base:Heap) (N:List Str) (qual:Str) (scope:Scope) (f:Addr) (cd:Value) (A:Around) (outer:List Env) (s:Shared) (H:Hp) (E:XK):Cx where
 prog:=P
 w:=w
 K:=K
 mg:=mg
 base:=base
 A:=A.deeper (envOfC qual scope s.heap.objs.size f cd)
 N:=N
 s₀:=s
 H₀:=H
 env:=envOfC qual scope s.heap.objs.size f cd
 outer:=outer
 stack:=envOfC qual scope s.heap.objs.size f cd::outer
 ex:=[]
 calm:=true
 fn:=fun _=>true
 pn:=[]
 xe:=fun e s'=>wpAny (model P w) (A.deeper (envOfC qual scope s.heap.objs.size f cd)) (leaving (envOfC qual scope s.heap.objs.size f cd) e) (fun _ s''=>CX outer H s E e s'') (fun e' s''=>CX outer H s E e' s'') s'
theorem z8H {sc:Scope}{n:Nat}{x:Str}(h:sc.names.lookup x=some .cell):∃c,(cellsFrom n sc.names []).lookup x=some c:=by
 have q:=PySem.W.cellsFrom_some sc.names n [] (.inl h)
 exact Option.isSome_iff_exists.mp q
theorem zae {CX:CXT}{P:Program}{w:World}{K:PySem.W.Frag}{mg:Str->Option Value}{base:Heap}{N ps:List Str}{qual:Str}{scope:Scope}{f:Addr}{cd:Value}{A:Around}{outer:List Env}{s s1:Shared}{H:Hp}{E:XK}{us:List Value}{vs:List V}
 (S:z0m N ps scope) (hd:A.handled=none) (e0:zcY P w K mg base A outer s H) (hl:vs.length=ps.length) (r:z19 vs us)
 (x:InCallC s s.heap.objs.size (bindL (envOfC qual scope s.heap.objs.size f cd).kindOf (ps.zip us) fun _=>none) (cellsFrom (s.heap.objs.size+1) scope.names []) (bindC (envOfC qual scope s.heap.objs.size f cd).kindOf (ps.zip us) fun _=>none) s1):
 Inv (z3W CX P w K mg base N qual scope f cd A outer s H E) [] (z5h N vs) H s1:=by
 have hpl:ps.length<=N.length:=by have:=congrArg List.length S.pre;rw[qR]at this;omega
 obtain⟨h1,tk,rfl,hk⟩:=x.done
 have noA:∀b:Addr,b∉(z3W CX P w K mg base N qual scope f cd A outer s H E).ex:=fun b z=>absurd (show b∈([]:List Addr)from z) (by simp)
 refine⟨⟨e0.mod,S.kind,rfl,rfl,qh _,fun y z c h1 h2=>?_,fun y hy=>?_,fun y c _ h=>?_,fun _=>hd,Around.frames_deeper e0.frames,.inr ⟨rfl,rfl⟩,fun b z=>absurd z (noA b),e0.bs,e0.bsz,fun b _ _=>noA b,fun b z=>absurd z (noA b),e0.funs,e0.frf⟩,
  rfl,e0.bare,Un.kept hk,⟨_,x.toInCall.ns,fun i y v h1 h2 h3=>?_⟩,fun y c h=>⟨_,x.cell y c h⟩,e0.hok.fresh (qh _),fun y c h=>?_,fun p hp=>absurd (show p∈([]:List (Addr×Obj))from hp) (by simp),e0.hok.kept hk,?_⟩
 ·exact name_of_addr x.apart (PySem.mem_of_lookup h1) (PySem.mem_of_lookup h2)
 ·have hy:scope.names.lookup y=some .cell\/scope.names.lookup y=some .free:=hy
  rcases hy with hy|hy
  ·exact z8H hy
  ·exact absurd rfl (S.nofree _ (PySem.mem_of_lookup hy))
 ·exact Nat.le_of_lt (x.above y c (PySem.mem_of_lookup h))
 ·have hi:i<vs.length:=by
   unfold z5h at h2
   by_cases hi:i<vs.length
   ·exact hi
   ·rw[qS (by simpa using hi)]at h2
    rw[List.getElem?_replicate]at h2
    split at h2<;>cases h2
  have ha:vs[i]?=some v:=by
   unfold z5h at h2
   rw[List.getElem?_append_left (by simpa using hi),qL]at h2
   cases e:vs[i]? with
   |none=>rw[e]at h2;cases h2
   |some a=>rw[e]at h2;cases h2;rfl
  obtain⟨u,hu,rv⟩:=r.get ha
  have hp:ps[i]?=some y:=by
   rw[<- S.pre,List.getElem?_take_of_lt (by omega)];exact h1
  have ndP:ps.Nodup:=by rw[<- S.pre];exact S.nd.sublist (List.take_sublist _ _)
  refine⟨u,rv,?_⟩
  rcases S.par y (qH hp)with k|k
  ·exact .inl ⟨k,z7p ndP hp hu k⟩
  ·obtain⟨c,e⟩:=z8H (n:=s.heap.objs.size+1) k
   refine .inr ⟨.inl k,c,e,?_⟩
   have q:=x.cell y c e
   rw[z7r ndP hp hu (by show scope.names.lookup y≠_;rw[k];decide)]at q
   exact q
 ·exact e0.hok.fresh (Nat.le_of_lt (x.above y c (PySem.mem_of_lookup h)))
 ·unfold z5h
  show _=N.length
  rw[qe,qb,List.length_replicate]
  omega
theorem zcM {CX:CXT}{P:Program}{w:World}{K:PySem.W.Frag}{mg:Str->Option Value}{base:Heap}{k:Nat}{f:Addr}{name qual:Str}{params:Arguments}{body:List Stmt}{scope:Scope}{dV kV doc pm cdv ct oc:Value}{an od:Option Addr}
 {osl:Array (Option Value)}{N ps:List Str}{sp:Sp}(lk:K.lookup f=some ⟨oc,od,.func (PySem.W.fnOf name qual params body scope dV kV doc pm an cdv ct),osl⟩) (hcd:PySem.W.codeIn K cdv qual=true) (S:z0m N ps scope)
 (len:∀vs H Q E,sp vs H Q E->vs.length=ps.length)
 (hbody:∀(A:Around) (outer:List Env) (s:Shared) (H:Hp) (vs:List V) (Q:VK) (E:XK),z3B k (A.deeper (envOfC qual scope s.heap.objs.size f cdv))->sp vs H Q E->
  ∃t,PSs (z3W CX P w K mg base N qual scope f cdv A outer s H E) body t/\t { nx:=fun _ H'=>Q .non H',rt:=Q } (z5h N vs) H):
 z1B P w K mg base CX (k+1) f (PySem.W.fnOf name qual params body scope dV kV doc pm an cdv ct) ps sp:=by
 refine⟨len,fun A outer s H args us vs Q E hr e0 hb r hsp=>?_⟩
 have hl:=len _ _ _ _ hsp
 have KX:K.In s.heap:=e0.mod.kin.keeps fun b o e=>(e0.bs b o e).1
 have lim:s.heap.NoLimit:=e0.mod.nolimit.keeps fun b o e=>(e0.bs b o e).1
 have hkind:∀y∈ps.zip us,scope.names.lookup y.1=some .local\/(scope.names.lookup y.1=some .cell/\((cellsFrom (s.heap.objs.size+1) scope.names []).lookup y.1).isSome=true):=fun⟨n,v⟩ hy=>by
  rcases S.par n (List.of_mem_zip hy).1 with q|q
  ·exact .inl q
  ·exact .inr ⟨q,PySem.W.cellsFrom_some _ _ _ (.inl q)⟩
 refine codeAny_call_function hr.depth (KX _ _ lk) rfl S.co S.gen rfl (PySem.W.codeRec_of KX hcd) (hb _ _ _ _ ?_)
 refine wpAny_newFunctionEnv_cells S.kind hkind fun env he s1 x=>?_
 subst he
 refine⟨lim.keeps x.toInCall.keep,codeAny_func ?_⟩
 obtain⟨t,ht,hq⟩:=hbody A outer s H vs Q E (hr.deeper _) hsp
 have I:Inv (z3W CX P w K mg base N qual scope f cdv A outer s H E) [] (z5h N vs) H s1:=zae S hr.hd e0 hl r x
 refine wpAny_mono (ht [] s1 (z5h N vs) H _ I hq) (fun fl s' hs=>?_) fun e s' hs=>hs
 have fin:∀{σ':St}{H':Hp}{v:V}{u:Value},Inv (z3W CX P w K mg base N qual scope f cdv A outer s H E) [] σ' H' s'->z1C v u->Q v H'->CE outer P w H s Q u s':=
  fun{σ' H' v u} J rv q=>⟨v,H',J.os,J.bare,J.base,J.hok,rv,q⟩
 cases fl with
 |ret u=>
  obtain⟨v,σ',H',J,rv,q⟩:=hs
  exact fin J rv q
 |next=>
  obtain⟨σ',H',J,q⟩:=hs
  exact fin (v:=V.non) (u:=Value.none) J rfl q
 |brk=>
  obtain⟨_,_,_,q⟩:=hs
  exact False.elim q
 |cont=>
  obtain⟨_,_,_,q⟩:=hs
  exact False.elim q
section
variable {X:Cx}{x:Str}{p pos:Pos}{e:Expr}{es:List Expr}{t:TA}{id T:String}{r:List V->Hp->VK->Prop}
def tCB (r:List V->Hp->VK->Prop) (t:TA):TE:=fun σ H Q=>t σ H fun vs H1=>r vs H1 Q
theorem z0n (hc:z5f X (.builtin id) r) (hg:Gl X x) (hm:X.mg x=none) (hv:bootBuiltins x=some (.builtin id)) (ha:PA X (e::es) t) (hn:x≠"__name__":=by decide) (hdb:(x == ("__debug__":Str))=false:=by decide)
 (he:starEach (e::es) X.env=(false,eval e X.env)::starEach es X.env:=by rfl) (hpl:(backTo pos (starEach es X.env)).any (·.1)=false:=by rfl):PE X (.Call (.Name x p) (e::es) [] pos) (tCB r t):=by
 intro pins s σ H Q I h
 refine wpAny_Call_Name_kw (z3O I hg hm hv ?_ hn hdb)
 exact PyProof.Rows.callWith_builtin1 (thn (ha pos pins s σ H _ I h) fun us s1 ⟨vs,H1,I1,r1,q1⟩=>hc pins s1 σ H1 vs us Q I1 r1 q1) he hpl
theorem z2D (hc:z5f X (.type T) r) (hg:Gl X x) (hm:X.mg x=none) (hv:bootBuiltins x=some (.type T)) (ha:PA X (e::es) t) (hn:x≠"__name__":=by decide) (hdb:(x == ("__debug__":Str))=false:=by decide)
 (he:starEach (e::es) X.env=(false,eval e X.env)::starEach es X.env:=by rfl) (hpl:(backTo pos (starEach es X.env)).any (·.1)=false:=by rfl):PE X (.Call (.Name x p) (e::es) [] pos) (tCB r t):=by
 intro pins s σ H Q I h
 refine wpAny_Call_Name_kw (z3O I hg hm hv ?_ hn hdb)
 exact PyProof.Rows.callWith_type1 (thn (ha pos pins s σ H _ I h) fun us s1 ⟨vs,H1,I1,r1,q1⟩=>hc pins s1 σ H1 vs us Q I1 r1 q1) he hpl
end
end L2
namespace HT
open PySem PyProof.Rows
section
open PySem.SeqAt
open PySem.AutoSeq1 (wpAny_loadPart')
open PySem.MeetsSeq PySem.MeetsSeq2 PySem.MeetsSeq3
end
section
variable {prog:Program}{w:World}{A:Around}{E:Value->Shared->Prop}{s:Shared}
def sIx (n d:Nat):Option Int->Nat
 |none=>d
 |some v=>if v<0 then(v+(n:Int)).toNat else min v.toNat n
theorem sIx_none (n d:Nat):sIx n d none=d:=rfl
theorem sIx_nat (n d k:Nat):sIx n d (some (k:Int))=min k n:=by
 show(if(k:Int)<0 then((k:Int)+(n:Int)).toNat else min (k:Int).toNat n)=min k n
 rw[if_neg (by omega),Int.toNat_natCast]
end
end HT
namespace L2
open PySem PySem.Spec PyProof.Rows
abbrev TO:=St->Hp->(Option Int->Hp->Prop)->Prop
def PO (X:Cx) (e:Option Expr) (t:TO):Prop:=
 ∀(pins:List (Addr×Obj)) (s:Shared) (σ:St) (H:Hp) (Q:Option Int->Hp->Prop),Inv X pins σ H s->t σ H Q->
  wpAny (model X.prog X.w) X.A (evalPart e X.env) (fun u s'=>∃o H',Inv X pins σ H' s'/\IsPart u o/\Q o H') X.xe s
def zc8:TO:=fun _ H Q=>Q none H
def ze4 (t:TE):TO:=fun σ H Q=>t σ H fun x H1=>∃i,x=.int i/\Q (some i) H1
section
variable {X:Cx}{e:Expr}{te:TE}{lo hi:Option Expr}{tl th:TO}{pos p2:Pos}
theorem z4U:PO X none zc8:=by
 intro pins s σ H Q I h
 rw[evalPart_none]
 exact qg ⟨none,H,I,.none,h⟩
theorem z3v (h:PE X e te):PO X (some e) (ze4 te):=by
 intro pins s σ H Q I hw
 rw[evalPart_some]
 refine thn (h pins s σ H _ I hw) fun u s1 ⟨x,H1,I1,r1,q1⟩=>?_
 obtain⟨i,rfl,q⟩:=q1
 obtain⟨t,rfl⟩:=r1
 exact⟨some i,H1,I1,.int i t,q⟩
def SlR (X:Cx) (r:V->Option Int->Option Int->Hp->VK->Prop):Prop:=
 ∀(pins:List (Addr×Obj)) (s:Shared) (σ:St) (H:Hp) (x:V) (v vl vu:Value) (lo hi:Option Int) (sl:Addr) (Q:VK),Inv X pins σ H s->z1C x v->s.heap.IsSliceOf sl vl vu .none->IsPart vl lo->IsPart vu hi->r x lo hi H Q->
  ∃T id,typeLookup (.type T) "__getitem__"=pure (some (.builtin id))/\s.TypeIs v T/\wpAny (model X.prog X.w) X.A (getItem v (.ref sl)) (EP X pins σ Q) X.xe s
def tSl (r:V->Option Int->Option Int->Hp->VK->Prop) (te:TE) (tl th:TO):TE:=fun σ H Q=>te σ H fun x H1=>tl σ H1 fun l H2=>th σ H2 fun u H3=>r x l u H3 Q
theorem z3g {r:V->Option Int->Option Int->Hp->VK->Prop}(hr:SlR X r) (he:PE X e te) (hl:PO X lo tl) (hu:PO X hi th):PE X (.Subscript e (.Slice lo hi none p2) pos) (tSl r te tl th):=by
 intro pins s σ H Q I h
 refine Subscript_ (thn (he pins s σ H _ I h) fun v s1 ⟨x,H1,I1,r1,q1⟩=>?_)
 refine wpAny_Slice (thn (hl pins s1 σ H1 _ I1 q1) fun vl s2 ⟨l,H2,I2,pl,q2⟩=>thn (hu pins s2 σ H2 _ I2 q2) fun vu s3 ⟨u,H3,I3,pu,q3⟩=>?_)
 rw[evalPart_none]
 refine qg ?_
 have I4:Inv X pins σ H3 { s3 with heap:=s3.heap.push { cls:=.type "slice",data:=.fields #[vl,vu,.none] } }:=I3.kept (t':=s3.toks) fun b ob q=>qc _ q
 obtain⟨T,id,hT,ht,hg⟩:=hr pins { s3 with heap:=s3.heap.push { cls:=.type "slice",data:=.fields #[vl,vu,.none] } } σ H3 x v vl vu l u s3.heap.objs.size Q I4 r1 (Heap.IsSliceOf.new ..) pl pu q3
 show wpAny (model X.prog X.w) X.A (subscriptTail e (.Slice lo hi none p2) v (.ref s3.heap.objs.size)) (EP X pins σ Q) X.xe { s3 with heap:=s3.heap.push { cls:=.type "slice",data:=.fields #[vl,vu,.none] } }
 exact tail_any (ops:=[.ref s3.heap.objs.size,v]) ht hT hg (by with_unfolding_all rfl)
def z6C (xs:List V) (lo hi:Option Int):List V:=(xs.drop (HT.sIx xs.length 0 lo)).take (HT.sIx xs.length xs.length hi-HT.sIx xs.length 0 lo)
theorem z84 (xs:List V) (lo hi:Option Int):(z6C xs lo hi).length<=xs.length:=by
 unfold z6C
 rw[qR,List.length_drop]
 omega
end
def ixN (n:Nat) (i:Int):Option Nat:=if 0<=i then(if i<n then some i.toNat else none)else if -(n:Int)<=i then some (i+n).toNat else none
def atI {α:Type}(xs:List α) (i:Int):Option α:=(ixN xs.length i).bind fun j=>xs[j]?
theorem zcG {n:Nat}{i:Int}{j:Nat}(h:ixN n i=some j):seqIndex? i n=some j/\j<n/\-(n:Int)<=i/\i<n:=by
 unfold ixN at h
 by_cases h0:0<=i
 ·rw[if_pos h0]at h
  by_cases h1:i<n
  ·rw[if_pos h1]at h
   have e:i.toNat=j:=qQ h
   exact⟨by rw[seqIndex_of h0 h1,e],by omega,by omega,h1⟩
  ·rw[if_neg h1]at h;cases h
 ·rw[if_neg h0]at h
  by_cases h1:-(n:Int)<=i
  ·rw[if_pos h1]at h
   have e:(i+n).toNat=j:=qQ h
   exact⟨by rw[seqIndex_neg (by omega) h1,e],by omega,h1,by omega⟩
  ·rw[if_neg h1]at h;cases h
theorem z88 {α:Type}{xs:List α}{i:Int}{v:α}(h:atI xs i=some v):∃j,seqIndex? i xs.length=some j/\xs[j]?=some v/\j<xs.length/\-(xs.length:Int)<=i/\i<xs.length:=by
 unfold atI at h
 cases e:ixN xs.length i with
 |none=>rw[e]at h;cases h
 |some j=>
  rw[e]at h
  obtain⟨h1,h2,h3,h4⟩:=zcG e
  exact⟨j,h1,h,h2,h3,h4⟩
theorem z0A {α:Type}{xs:List α}{j:Nat}{v:α}(h:xs[j]?=some v):atI xs (j:Int)=some v:=by
 have hj:j<xs.length:=(qi.mp h).1
 have e:ixN xs.length (j:Int)=some j:=by
  unfold ixN
  rw[if_pos (by omega),if_pos (by omega)];simp
 unfold atI;rw[e];exact h
def zcW (b:Expr):Prop:=∀o i,subscripted b false o i=operate [o,i] (getItem o i)
def IxR (X:Cx) (r:R2):Prop:=
 ∀(value slice:Expr) (pins:List (Addr×Obj)) (s:Shared) (σ:St) (H:Hp) (x y:V) (v u:Value) (Q:VK),Inv X pins σ H s->z1C x v->z1C y u->r x y H Q->
  subscripted slice false v u=operate [v,u] (getItem v u)->wpAny (model X.prog X.w) X.A (subscriptTail value slice v u) (EP X pins σ Q) X.xe s
def MtR (X:Cx) (id:String) (r:V->List V->Hp->VK->Prop):Prop:=
 ∀(pins:List (Addr×Obj)) (s:Shared) (σ:St) (H:Hp) (x:V) (xs:List V) (v:Value) (us:List Value) (Q:VK),Inv X pins σ H s->z1C x v->z19 xs us->r x xs H Q->
  wpAny (model X.prog X.w) X.A (call (.builtin id) (v::us)) (EP X pins σ Q) X.xe s
section
variable {X:Cx}{a b:Expr}{ta tb:TE}{pos:Pos}
theorem z0j {r:R2}(hr:IxR X r) (ha:PE X a ta) (hb:PE X b tb) (hs:zcW b):PE X (.Subscript a b pos) (tOp r ta tb):=by
 intro pins s σ H Q I h
 exact Subscript_ (zeA ha hb I h fun v u s2 x y H2 I2 rx ry q=>hr a b pins s2 σ H2 x y v u Q I2 rx ry q (hs _ _))
def zeK (K:PySem.W.Frag):R2:=fun x y H Q=>∃p xs i v,x=.ref p/\y=.int i/\SqL K H p xs/\atI xs i=some v/\Q v H
def zeJ (K:PySem.W.Frag):R2:=fun x y H Q=>∃p xs i v,x=.ref p/\y=.int i/\SqT K H p xs/\atI xs i=some v/\Q v H
def zf8:R2:=fun x y H Q=>∃z i c,x=.str z/\y=.int i/\z.length<=sizeLine/\atI z.cps.toList i=some c/\Q (.str ⟨#[c]⟩) H
theorem z1K:IxR X (zeK X.K):=by
 intro value slice pins s σ H x y v u Q I rx ry h hs
 obtain⟨p,xs,i,z,rfl,rfl,hq,he,q⟩:=h
 cases rx
 obtain⟨t,rfl⟩:=ry
 obtain⟨its,r,pl,hz⟩:=I.list hq
 obtain⟨j,h1,h2,h3,h4,h5⟩:=z88 he
 obtain⟨w,ew,rw'⟩:=r.get h2
 have hl:=r.length
 have hn:=z8w
 have fin:EP X pins σ Q w s:=⟨z,H,I,rw',q⟩
 by_cases h0:0<=i
 ·have hj:i.toNat=j:=by
   rw[seqIndex_of h0 h5]at h1
   exact qQ h1
  exact item_listR pl.isList h0 (by omega) (by rw[hj];simpa using ew) fin hs
 ·have hj:(i+(its.toArray.size:Int)).toNat=j:=by
   rw[seqIndex_neg (by omega) h4]at h1
   rw[qJ,<- hl]
   exact qQ h1
  exact subscriptTail_builtinR (x:=w) pl.isList.typeIs slot_list_getitem.lookup
   (wpAny_getItem_list_neg (Q:=fun r s'=>r=w/\EP X pins σ Q r s') pl.isList (by omega) (by rw[qJ]<;>omega) (by omega) (by rw[hj];simpa using ew) ⟨rfl,fin⟩) hs
theorem z0d:IxR X (zeJ X.K):=by
 intro value slice pins s σ H x y v u Q I rx ry h hs
 obtain⟨p,xs,i,z,rfl,rfl,hq,he,q⟩:=h
 cases rx
 obtain⟨t,rfl⟩:=ry
 obtain⟨its,r,pl,hz⟩:=I.tuple hq
 obtain⟨j,h1,h2,h3,h4,h5⟩:=z88 he
 obtain⟨w,ew,rw'⟩:=r.get h2
 have hl:=r.length
 have hn:=z8w
 have fin:EP X pins σ Q w s:=⟨z,H,I,rw',q⟩
 exact subscriptTail_builtinR (x:=w) pl.typeIs slot_tuple_getitem.lookup
  (getItem_tuple (j:=j) (Q:=fun r s'=>r=w/\EP X pins σ Q r s') pl (by omega) (by omega) (by rw[qJ,<- hl];exact h1) (by simpa using ew) ⟨rfl,fin⟩) hs
theorem za9:IxR X zf8:=by
 intro value slice pins s σ H x y v u Q I rx ry h hs
 obtain⟨z,i,c,rfl,rfl,hz,he,q⟩:=h
 obtain⟨t,rfl⟩:=rx
 obtain⟨t',rfl⟩:=ry
 obtain⟨j,h1,h2,h3,h4,h5⟩:=z88 he
 have hl:z.cps.toList.length=z.length:=by simp[Str.length]
 rw[hl]at h1 h4 h5
 have hn:=z8w
 exact tail_any (typeIs_str s z t) slot_str_getitem.lookup (getItem_str (c:=c) (by
  have e1:decide (i < -(2 ^ 63:Int))=false:=decide_eq_false (by omega)
  have e2:decide (i >= 2 ^ 63)=false:=decide_eq_false (by omega)
  rw[e1,e2,Bool.or_false]) (by rw[h1];simpa using h2) ⟨.str ⟨#[c]⟩,H,I.tok _,⟨_,rfl⟩,q⟩) hs
theorem z6P (lo hi:Option Int) (n:Nat):(sliceBounds lo hi none n).1=((HT.sIx n 0 lo:Nat):Int)/\(sliceBounds lo hi none n).2.1=((HT.sIx n n hi:Nat):Int)/\(sliceBounds lo hi none n).2.2=1:=by
 refine⟨?_,?_,rfl⟩
 ·cases lo with
  |none=>simp[sliceBounds,HT.sIx]
  |some i=>
   simp only[sliceBounds,HT.sIx,Option.getD_none,show(1:Int) > 0 by decide,if_true]
   by_cases h:i<0
   ·simp only[h,if_true]<;>omega
   ·simp only[h,if_false]<;>omega
 ·cases hi with
  |none=>simp[sliceBounds,HT.sIx]
  |some i=>
   simp only[sliceBounds,HT.sIx,Option.getD_none,show(1:Int) > 0 by decide,if_true]
   by_cases h:i<0
   ·simp only[h,if_true]<;>omega
   ·simp only[h,if_false]<;>omega
theorem z66 (its:List Value) (lo hi:Option Int):slicePick its.toArray lo hi none=((its.drop (HT.sIx its.length 0 lo)).take (HT.sIx its.length its.length hi-HT.sIx its.length 0 lo)).toArray:=by
 obtain⟨h1,h2,h3⟩:=z6P lo hi its.toArray.size
 unfold slicePick
 rw[h1,h2,h3]
 simp only[sliceRange_one,pick_run,qJ]<;>rfl
def zf4 (K:PySem.W.Frag):V->Option Int->Option Int->Hp->VK->Prop:=fun x lo hi H Q=>∃a xs,x=.ref a/\SqL K H a xs/\∀p,H p=none->Q (.ref p) (upd H p (.lst (z6C xs lo hi)))
theorem z41:SlR X (zf4 X.K):=by
 intro pins s σ H x v vl vu lo hi sl Q I rx hs pl pu h
 obtain⟨a,xs,rfl,hx,q⟩:=h
 cases rx
 obtain⟨its,r,ht,hz⟩:=I.list hx
 have hlen:=r.length
 refine⟨"list",_,slot_list_getitem.lookup,ht.isList.typeIs,?_⟩
 refine wpAny_getItem_list_slice ht.isList hs pl pu .none (by simp) ?_ (by rw[qJ]<;>omega)
 rw[z66,<- hlen]
 refine⟨.ref s.heap.objs.size,_,I.laid (t':=s.toks) (o:=.lst (z6C xs lo hi)) (fun b ob q=>qc _ q) (qh _) ?_,rfl,q _ (I.hok.fresh (qh _))⟩
 exact⟨qG (z84 xs lo hi) hz,_,0,(r.drop (HT.sIx xs.length 0 lo)).take (HT.sIx xs.length xs.length hi-HT.sIx xs.length 0 lo),qw _ rfl⟩
def z7i:V->Bool
 |.non=>true
 |.bl _=>true
 |.int _=>true
 |.str _=>true
 |_=>false
def eqV:V->V->Bool
 |.non,.non=>true
 |.bl a,.bl b=>a == b
 |.bl a,.int b=>(if a then 1 else 0) == b
 |.int a,.bl b=>a == (if b then 1 else 0)
 |.int a,.int b=>a == b
 |.str a,.str b=>a == b
 |_,_=>false
theorem zdL {A:Around}{s:Shared}{y x:V}{u v:Value}(ry:z1C y u) (rx:z1C x v) (fy:z7i y=true) (fx:z7i x=true):SeqAt.EqAt A s u v (eqV y x):=by
 cases y with
 |non=>
  cases ry
  cases x with
  |non=>cases rx;exact SeqAt.EqAt.same _
  |bl b=>cases rx;exact SeqAt.EqAt.none_bool b
  |int b=>obtain⟨t,rfl⟩:=rx;exact SeqAt.EqAt.none_int b t
  |str b=>obtain⟨t,rfl⟩:=rx;exact SeqAt.EqAt.none_str b t
  |_=>exact absurd (show false=true from fx) qm
 |bl a=>
  cases ry
  cases x with
  |non=>cases rx;exact SeqAt.EqAt.bool_none a
  |bl b=>cases rx;exact SeqAt.EqAt.bool_bool a b
  |int b=>obtain⟨t,rfl⟩:=rx;exact SeqAt.EqAt.bool_int a b t
  |str b=>obtain⟨t,rfl⟩:=rx;exact SeqAt.EqAt.bool_str a b t
  |_=>exact absurd (show false=true from fx) qm
 |int a=>
  obtain⟨t',rfl⟩:=ry
  cases x with
  |non=>cases rx;exact SeqAt.EqAt.int_none a t'
  |bl b=>cases rx;exact SeqAt.EqAt.int_bool a t' b
  |int b=>obtain⟨t,rfl⟩:=rx;exact SeqAt.EqAt.int_int a t' b t
  |str b=>obtain⟨t,rfl⟩:=rx;exact SeqAt.EqAt.int_str a t' b t
  |_=>exact absurd (show false=true from fx) qm
 |str a=>
  obtain⟨t',rfl⟩:=ry
  cases x with
  |non=>cases rx;exact SeqAt.EqAt.str_none a t'
  |bl b=>cases rx;exact SeqAt.EqAt.str_bool a t' b
  |int b=>obtain⟨t,rfl⟩:=rx;exact SeqAt.EqAt.str_int a t' b t
  |str b=>obtain⟨t,rfl⟩:=rx;exact SeqAt.EqAt.str_str a t' b t
  |_=>exact absurd (show false=true from fx) qm
 |_=>exact absurd (show false=true from fy) qm
def eqU (x:V) (u:Value):Bool:=match u with
 |.none=>eqV .non x
 |.bool b=>eqV (.bl b) x
 |.int i _=>eqV (.int i) x
 |.str z _=>eqV (.str z) x
 |_=>false
theorem zbQ {x y:V}{u:Value}(r:z1C y u) (f:z7i y=true):eqU x u=eqV y x:=by
 cases y with
 |non=>cases r;rfl
 |bl b=>cases r;rfl
 |int i=>obtain⟨t,rfl⟩:=r;rfl
 |str z=>obtain⟨t,rfl⟩:=r;rfl
 |_=>exact absurd (show false=true from f) qm
theorem z8a {x:V}:∀{xs:List V}{us:List Value},z19 xs us->xs.all z7i=true->us.any (eqU x)=xs.any fun y=>eqV y x
 |_,_,.nil,_=>rfl
 |y::xs,u::us,.cons r t,f=>by
  rw[List.all_cons,Bool.and_eq_true]at f
  rw[List.any_cons,List.any_cons,zbQ r f.1,z8a t f.2]
theorem z6q {A:Around}{s:Shared}{x:V}{v:Value}(rx:z1C x v) (fx:z7i x=true):∀{xs:List V}{us:List Value},z19 xs us->xs.all z7i=true->∀u∈us,SeqAt.EqAt A s u v (eqU x u)
 |_,_,.nil,_=>fun u hu=>by cases hu
 |y::xs,u::us,.cons r t,f=>fun u' hu=>by
  rw[List.all_cons,Bool.and_eq_true]at f
  rcases qB.mp hu with rfl|hu
  ·rw[zbQ r f.1];exact zdL r rx f.1 fx
  ·exact z6q rx fx t f.2 u' hu
def inV (x:V) (xs:List V):Bool:=xs.any fun y=>eqV y x
def rIn (K:PySem.W.Frag) (neg:Bool):R2:=fun x y H Q=>∃p xs,y=.ref p/\(SqL K H p xs\/SqT K H p xs)/\z7i x=true/\xs.all z7i=true/\Q (.bl (if neg then !inV x xs else inV x xs)) H
theorem z3K:OpR X (compareOp .In) (rIn X.K false):=by
 intro pins s σ H x y v u Q I rx ry h
 obtain⟨p,xs,rfl,hq,fx,fs,q⟩:=h
 cases ry
 rcases hq with hq|hq
 ·obtain⟨its,r,pl,hz⟩:=I.list hq
  refine SeqAt.in_listAt (eqU x) pl.isList (fun w hw=>z6q rx fx r fs w (by simpa using hw)) ⟨.bl _,H,I,rfl,?_⟩
  rw[show its.toArray.any (eqU x)=its.any (eqU x)by simp,z8a r fs]
  exact q
 ·obtain⟨its,r,pl,hz⟩:=I.tuple hq
  refine SeqAt.in_tupleAt (eqU x) pl (fun w hw=>z6q rx fx r fs w (by simpa using hw)) ⟨.bl _,H,I,rfl,?_⟩
  rw[show its.toArray.any (eqU x)=its.any (eqU x)by simp,z8a r fs]
  exact q
theorem z0l:z5f X (.builtin "len") (fun xs H Q=>∃p ys,xs=[.ref p]/\(SqL X.K H p ys\/SqT X.K H p ys)/\Q (.int ys.length) H):=by
 intro pins s σ H xs us Q I r h
 obtain⟨p,ys,rfl,hq,q⟩:=h
 obtain⟨u,rfl,rx⟩:=z7A r
 cases rx
 have hn:=z8w
 rcases hq with hq|hq
 ·obtain⟨its,r',pl,hz⟩:=I.list hq
  have hlen:=r'.length
  exact Calls.call_len_list pl.isList (by simp only[qJ]<;>omega) ⟨.int ys.length,H,I.tok _,⟨s.toks+1,by rw[qJ,hlen]⟩,q⟩
 ·obtain⟨its,r',pl,hz⟩:=I.tuple hq
  have hlen:=r'.length
  exact len_tuple pl (by simp only[qJ]<;>omega) ⟨.int ys.length,H,I.tok _,⟨s.toks+1,by rw[qJ,hlen]⟩,q⟩
theorem z7n:z5f X (.type "list") (fun xs H Q=>∃p ys,xs=[.ref p]/\(SqL X.K H p ys\/SqT X.K H p ys)/\∀l,H l=none->Q (.ref l) (upd H l (.lst ys))):=by
 intro pins s σ H xs us Q I r h
 obtain⟨p,ys,rfl,hq,q⟩:=h
 obtain⟨u,rfl,rx⟩:=z7A r
 cases rx
 have fin:∀(its:List Value),z19 ys its->ys.length<=sizeLine->∀(h':Heap) (c':Nat),(∀b o',s.heap.get? b=some o'->h'.get? b=some o')->
  h'.get? s.heap.objs.size=some { cls:=.type "list",dict:=none,data:=.seq its.toArray c',slots:=#[] }->EP X pins σ Q (.ref s.heap.objs.size) { s with heap:=h' }:=fun its r' hz h' c' kp e=>
  ⟨.ref s.heap.objs.size,_,I.laid (t':=s.toks) kp (qh _) (show z1o X.prog X.w _ h' _ (.lst ys)from⟨hz,its,c',r',e⟩),rfl,q _ (I.hok.fresh (qh _))⟩
 rcases hq with hq|hq
 ·obtain⟨its,r',pl,hz⟩:=I.list hq
  have hlen:=r'.length
  obtain⟨o,ho,hc,n,hd⟩:=pl.isList
  exact call_list_seq p (.inl rfl) ho hc hd (fun h' c' kp e=>fin its r' hz h' c' kp e) (by simp only[qJ]<;>omega)
 ·obtain⟨its,r',pl,hz⟩:=I.tuple hq
  have hlen:=r'.length
  obtain⟨o,ho,hc,n,hd⟩:=pl
  exact call_list_seq p (.inr rfl) ho hc hd (fun h' c' kp e=>fin its r' hz h' c' kp e) (by simp only[qJ]<;>omega)
def tyV (K:PySem.W.Frag) (T:String) (x:V) (H:Hp):Prop:=match x with
 |.str _=>T="str"
 |.int _=>T="int"
 |.ref p=>(T="list"/\∃xs,SqL K H p xs)\/(T="tuple"/\∃o,K.lookup p=some o/\o.cls=.type "tuple"/\o.dict=none) \/
  (T="dict"/\((∃kvs,H p=some (.dK kvs))\/∃kvs,H p=some (.dT kvs)))\/(T="set"/\∃S n,H p=some (.set S n))
 |_=>False
theorem zbG {pins:List (Addr×Obj)}{σ:St}{H:Hp}{s:Shared}{T:String}{x:V}{v:Value}(I:Inv X pins σ H s) (r:z1C x v) (ty:tyV X.K T x H):
 s.TypeIs v T/\∀a,v=.ref a->∃ob,s.heap.get? a=some ob/\ob.dict=none:=by
 cases x with
 |str z=>
  obtain⟨t,rfl⟩:=r
  cases(show T="str" from ty)
  exact⟨typeIs_str s z t,fun _ e=>nomatch e⟩
 |int i=>
  obtain⟨t,rfl⟩:=r
  cases(show T="int" from ty)
  exact⟨typeIs_int s i t,fun _ e=>nomatch e⟩
 |ref p=>
  cases r
  rcases ty with⟨rfl,xs,hq⟩|⟨rfl,o,hk,hc,hd⟩|⟨rfl,hk⟩|⟨rfl,S,n,hk⟩
  ·obtain⟨its,_,pl,_⟩:=I.list hq
   refine⟨pl.isList.typeIs,fun a e=>?_⟩
   cases e
   obtain⟨o,n,e,c,hd,_⟩:=pl
   exact⟨o,e,hd⟩
  ·refine⟨⟨o,I.kIn p o hk,hc⟩,fun a e=>?_⟩
   cases e
   exact⟨o,I.kIn _ o hk,hd⟩
  ·have z:∃o,s.heap.get? p=some o/\o.ExactDict:=by
    rcases hk with⟨kvs,hk⟩|⟨kvs,hk⟩
    ·obtain⟨_,_,_,_,o,_,_,e,ex,_⟩:=I.hok p _ hk
     exact⟨o,e,ex⟩
    ·obtain⟨_,_,_,_,o,_,_,e,ex,_⟩:=I.hok p _ hk
     exact⟨o,e,ex⟩
   obtain⟨o,e,ex⟩:=z
   refine⟨⟨o,e,ex.1⟩,fun a e2=>?_⟩
   cases e2
   exact⟨o,e,ex.2.1⟩
  ·obtain⟨o,_,_,_,e,ex,_⟩:=I.hok p _ hk
   refine⟨⟨o,e,ex.1⟩,fun a e2=>?_⟩
   cases e2
   exact⟨o,e,ex.2.1⟩
 |_=>exact False.elim ty
def zf0 (K:PySem.W.Frag) (T:String) (r:V->List V->Hp->VK->Prop) (to:TE):TE:=fun σ H Q=>to σ H fun x H1=>tyV K T x H1/\r x [] H1 Q
def tBM (K:PySem.W.Frag) (T:String) (r:V->List V->Hp->VK->Prop) (to:TE) (t:TA):TE:=fun σ H Q=>to σ H fun x H1=>tyV K T x H1/\t σ H1 fun xs H2=>r x xs H2 Q
variable {o e:Expr}{es:List Expr}{to:TE}{t:TA}{name:Str}{apos cpos:Pos}{T id:String}{r:V->List V->Hp->VK->Prop}
theorem z8q (pa:PlainAttrs T) (slot:Slot T name id) (hty:typeOf (.builtin id)=pure (.type "method_descriptor")) (hm:MtR X id r) (ho:PE X o to)
 (hbase:attributeBase o name X.env (eval o X.env)=eval o X.env:=by rfl) (hline:(apos.endLine == cpos.line)=true:=by rfl):PE X (.Call (.Attribute o name apos) [] [] cpos) (zf0 X.K T r to):=by
 intro pins s σ H Q I h
 refine wpAny_Call_method0_late hbase hline (thn (ho pins s σ H _ I h) fun v s1 ⟨x,H1,I1,r1,ty,q1⟩=>?_)
 obtain⟨h1,h2⟩:=zbG I1 r1 ty
 exact⟨T,id,pa,slot,hty,h1,h2,Calls.callWith_builtin rfl (PySem.evalArgs_none (hm pins s1 σ H1 x [] v [] Q I1 r1 .nil q1))⟩
theorem z2W (pa:PlainAttrs T) (slot:Slot T name id) (hty:typeOf (.builtin id)=pure (.type "method_descriptor")) (hm:MtR X id r) (ho:PE X o to) (ha:PA X (e::es) t)
 (hbase:attributeBase o name X.env (eval o X.env)=eval o X.env:=by rfl)
 (hfew:((backTo cpos (starEach (e::es) X.env)).all (fun x=>!x.1) && (backToKw cpos (keywordEach [] X.env)).all (fun x=>x.1.isSome)
  && decide ((e::es).length+([]:List Keyword).length+(if([]:List Keyword).isEmpty then 0 else 1)<30))=true:=by rfl)
 (hline:(apos.endLine == cpos.line)=true:=by rfl) (hs:starEach (e::es) X.env=(false,eval e X.env)::starEach es X.env:=by rfl) (hplain:(backTo cpos (starEach es X.env)).any (·.1)=false:=by rfl):
 PE X (.Call (.Attribute o name apos) (e::es) [] cpos) (tBM X.K T r to t):=by
 intro pins s σ H Q I h
 refine wpAny_Call_method_late hbase hfew hline rfl (thn (ho pins s σ H _ I h) fun v s1 ⟨x,H1,I1,r1,ty,q1⟩=>?_)
 obtain⟨h1,h2⟩:=zbG I1 r1 ty
 refine⟨T,id,pa,slot,hty,h1,h2,?_⟩
 have hA:=ha cpos pins s1 σ H1 _ I1 q1
 rw[hs]at hA ⊢
 refine Calls.callWith_builtin (by show(false || (backTo cpos (starEach es X.env)).any (·.1))=false;rw[hplain]<;>rfl) (Calls.evalArgs_plain ?_)
 exact thn hA fun us s2 ⟨vs,H2,I2,r2,q2⟩=>hm pins s2 σ H2 x vs v us Q I2 r1 r2 q2
end
def MtM (X:Cx) (id:String) (r:V->List V->Hp->VK->Prop):Prop:=
 ∀(pins:List (Addr×Obj)) (s:Shared) (σ:St) (H:Hp) (x:V) (xs:List V) (v:Value) (us:List Value) (Q:VK),Inv X pins σ H s->z1C x v->z19 xs us->r x xs H Q->
  wpAny (model X.prog X.w) X.A (call (.builtin id) (v::us)) (EP X pins σ Q) X.xe s
theorem z19.one:∀{x:V}{us:List Value},z19 [x] us->∃u,us=[u]/\z1C x u
 |_,_,.cons r .nil=>⟨_,rfl,r⟩
theorem z19.zero:∀{us:List Value},z19 [] us->us=[]
 |_,.nil=>rfl
theorem z19.dropLast {xs:List V}{us:List Value}(h:z19 xs us):z19 xs.dropLast us.dropLast:=by
 induction h with
 |nil=>exact .nil
 |cons r t ih=>
  cases t with
  |nil=>exact .nil
  |cons q t'=>exact .cons r ih
theorem z19.rep {xs:List V}{us:List Value}(h:z19 xs us):∀k:Nat,z19 (List.replicate k xs).flatten (List.replicate k us).flatten
 |0=>.nil
 |k+1=>by
  rw[List.replicate_succ,List.replicate_succ,List.flatten_cons,List.flatten_cons]
  exact z19.append h (z19.rep h k)
theorem z99 {α:Type}(l:List α):l.eraseIdx (l.length-1)=l.dropLast:=by
 induction l with
 |nil=>rfl
 |cons a r ih=>
  cases r with
  |nil=>rfl
  |cons b r=>
   have e:(a::b::r).length-1=((b::r).length-1)+1:=by
    have h1:(a::b::r).length=r.length+2:=rfl
    have h2:(b::r).length=r.length+1:=rfl
    omega
   rw[e,List.eraseIdx_cons_succ,ih]
   all_goals rfl
theorem z7f (its:List Value):∀(k:Nat) (acc:List Value),
 List.foldl (fun x1 x2=>x1++x2) acc.toArray (List.replicate k its.toArray)=(acc++(List.replicate k its).flatten).toArray
 |0,acc=>by simp
 |k+1,acc=>by
  have e:acc.toArray++its.toArray=(acc++its).toArray:=by simp
  have e2:(acc++its)++(List.replicate k its).flatten=acc++(List.replicate (k+1) its).flatten:=by
   rw[List.replicate_succ,List.flatten_cons,List.append_assoc]
  rw[<- e2,<- z7f its k (acc++its),<- e,List.replicate_succ,List.foldl_cons]
section
variable {X:Cx}{pins:List (Addr×Obj)}{σ:St}{H:Hp}{s:Shared}{l b:Addr}{xs ys zs:List V}
theorem Inv.lset {its its':List Value}{n:Nat}{f:Array Value->Array Value}{t':Nat}(I:Inv X pins σ H s) (hH:H l=some (.lst xs))
 (e:s.heap.get? l=some { cls:=.type "list",data:=.seq its.toArray n }) (hf:f its.toArray=its'.toArray) (hv:z19 ys its') (hz:ys.length<=sizeLine):
 Inv X pins σ (upd H l (.lst ys)) { s with heap:=s.heap.update l (Obj.mapSeq f),toks:=t' }:=by
 have q:=PySem.IsL.update e f
 rw[hf]at q
 refine I.write (x:=l) (e:=l) (by rw[hH];exact trivial) (.inl rfl) (fun b' u hb hu=>(Heap.get?_update_other s.heap (Obj.mapSeq f) (Ne.symm hb)).trans hu) ⟨_,q⟩ ?_
 exact⟨hz,its',_,hv,q⟩
theorem Inv.lnew {its:List Value}{t':Nat}(I:Inv X pins σ H s) (hv:z19 ys its) (hz:ys.length<=sizeLine):
 Inv X pins σ (upd H s.heap.objs.size (.lst ys)) { s with heap:=s.heap.push { cls:=.type "list",data:=.seq its.toArray },toks:=t' }:=
 I.laid (fun _ _ q=>qc _ q) (qh _) ⟨hz,its,0,hv,qw _ rfl⟩
theorem Inv.fresh (I:Inv X pins σ H s):H s.heap.objs.size=none:=I.hok.fresh (qh _)
theorem Inv.lstM (I:Inv X pins σ H s) (hH:H l=some (.lst xs)):xs.length<=sizeLine/\∃(its:List Value) (n:Nat),z19 xs its/\xs.length=its.length/\s.heap.get? l=some { cls:=.type "list",data:=.seq its.toArray n }:=by
 obtain⟨z,its,n,r,e⟩:=I.hok l _ hH
 exact⟨z,its,n,r,r.length,e⟩
theorem z8s {n:Nat}(h:n<=sizeLine):Builtin.List.listTooLong n=false:=by
 unfold Builtin.List.listTooLong
 exact decide_eq_false (by omega)
end
section
variable {X:Cx}
def zcm:V->List V->Hp->VK->Prop:=fun x vs H Q=>∃l xs y,x=.ref l/\vs=[y]/\H l=some (.lst xs)/\xs.length<sizeLine/\Q .non (upd H l (.lst (xs++[y])))
theorem z0O:MtM X "list.append" zcm:=by
 intro pins s σ H x vs v us Q I rx rv h
 obtain⟨l,xs,y,rfl,rfl,hH,hz,q⟩:=h
 cases rx
 obtain⟨u,rfl,ru⟩:=rv.one
 obtain⟨z,its,n,r,hl,e⟩:=I.lstM hH
 refine call_meets F.slot_list_append ⟨_,e,rfl⟩ F.entry_list_append (F.args_list_append_2 _ _) (PySem.list_append l its.toArray n u (by rw[qJ];omega)) ⟨e,?_⟩
 refine⟨.non,_,I.lset (its':=its++[u]) hH e (by simp) (r.append (.cons ru .nil)) ?_,rfl,q⟩
 rw[qe,List.length_singleton]
 omega
def zck:V->List V->Hp->VK->Prop:=fun x vs H Q=>∃l b xs zs,x=.ref l/\vs=[.ref b]/\H l=some (.lst xs)/\H b=some (.lst zs)/\xs.length+zs.length<=sizeLine/\Q .non (upd H l (.lst (xs++zs)))
theorem z79:MtM X "list.extend" zck:=by
 intro pins s σ H x vs v us Q I rx rv h
 obtain⟨l,b,xs,zs,rfl,rfl,hH,hB,hz,q⟩:=h
 cases rx
 obtain⟨u,rfl,ru⟩:=rv.one
 cases ru
 obtain⟨z,its,n,r,hl,e⟩:=I.lstM hH
 obtain⟨z2,its2,n2,r2,hl2,e2⟩:=I.lstM hB
 have hsz:its.toArray.size+its2.toArray.size<=sizeLine:=by rw[qJ,qJ];omega
 have hlong:¬ (!its.toArray.isEmpty && Builtin.List.listTooLong (its.toArray.size+its2.toArray.size))=true:=by
  rw[z8s hsz,Bool.and_false]
  exact qm
 refine call_meets F.slot_list_extend ⟨_,e,rfl⟩ F.entry_list_extend (F.args_list_extend_2 _ _)
  (AutoSeq1.list_extend_list_list_0 l its.toArray n b its2.toArray n2 hlong (by rw[qJ];omega) (by omega)) ⟨e,e2,?_⟩
 refine⟨.non,_,I.lset (its':=its++its2) hH e (by simp) (r.append r2) ?_,rfl,q⟩
 rw[qe]
 omega
def zf6:V->List V->Hp->VK->Prop:=fun x vs H Q=>∃l xs y,x=.ref l/\vs=[]/\H l=some (.lst xs)/\xs[xs.length-1]?=some y/\Q y (upd H l (.lst xs.dropLast))
theorem z8t:MtM X "list.pop" zf6:=by
 intro pins s σ H x vs v us Q I rx rv h
 obtain⟨l,xs,y,rfl,rfl,hH,hy,q⟩:=h
 cases rx
 have hus:=rv.zero
 subst hus
 obtain⟨z,its,n,r,hl,e⟩:=I.lstM hH
 obtain⟨u,hu,ru⟩:=r.get hy
 have hy':its.toArray[its.toArray.size-1]?=some u:=by
  show its.toArray[its.length-1]?=some u
  rw[<- Array.getElem?_toList,<- hl]
  exact hu
 refine call_meets F.slot_list_pop ⟨_,e,rfl⟩ F.entry_list_pop (F.args_list_pop_1 _) (MeetsSeq.list_pop_last l its.toArray n u hy' (by rw[qJ];omega)) ⟨e,?_⟩
 refine⟨y,_,I.lset (its':=its.dropLast) hH e ?_ r.dropLast ?_,ru,q⟩
 ·show its.toArray.eraseIdxIfInBounds (its.toArray.size-1)=its.dropLast.toArray
  rw[qJ,List.eraseIdxIfInBounds_toArray,z99]
 ·rw[List.length_dropLast]
  omega
def zf5:R2:=fun x y H Q=>∃l k xs,x=.ref l/\y=.int k/\H l=some (.lst xs)/\-(2 ^ 63)<=k/\k<2 ^ 63/\xs.length * k.toNat<=sizeLine /\
 ∀p,H p=none->Q (.ref p) (upd H p (.lst (List.replicate k.toNat xs).flatten))
theorem zcF {α:Type}(xs:List α) (k:Nat):(List.replicate k xs).flatten.length=k * xs.length:=by
 induction k with
 |zero=>simp
 |succ k ih=>rw[List.replicate_succ,List.flatten_cons,qe,ih,Nat.succ_mul,Nat.add_comm]
theorem zdq:OpR X (binaryOp .Mult) zf5:=by
 intro pins s σ H x y v u Q I rx ry h
 obtain⟨l,k,xs,rfl,rfl,hH,h1,h2,hz,q⟩:=h
 cases rx
 obtain⟨t,rfl⟩:=ry
 obtain⟨z,its,n,r,hl,e⟩:=I.lstM hH
 have hlen:its.toArray.size * k.toNat<=sizeLine:=by rw[qJ,<- hl];exact hz
 have hcap:¬ its.toArray.size * k.toNat > (2 ^ 63-1) / 8:=by
  have:(sizeLine:Nat)<=(2 ^ 63-1) / 8:=by decide
  omega
 have hfit:¬ (!Builtin.List.listFitsIndex k)=true:=by
  rw[fitsIndex_both h1 h2]
  exact qm
 have hlong:¬ Builtin.List.listTooLong (its.toArray.size * k.toNat)=true:=by
  rw[z8s hlen]
  exact qm
 have hnew:List.foldl (fun x1 x2=>x1++x2) #[] (List.replicate (if its.toArray.isEmpty=true then 0 else k.toNat) its.toArray)=(List.replicate k.toNat its).flatten.toArray:=by
  have f0:∀m:Nat,List.foldl (fun x1 x2=>x1++x2) #[] (List.replicate m its.toArray)=(List.replicate m its).flatten.toArray:=fun m=>by
   have:=z7f its m []
   rw[List.nil_append]at this
   exact this
  rw[f0]
  cases its with
  |nil=>simp
  |cons a r'=>rw[if_neg (by simp)]
 refine wpAny_binaryOp_repeat_ref (T:="list") (U:="int") (by decide) ⟨_,e,rfl⟩ (fun s'=>typeIs_int s' k t) noFill_list_mul F.fills_int_mul F.slot_int_rmul repeat_list F.slot_int_index.lookup
  (call_meets F.slot_int_rmul (typeIs_int s k t) F.entry_int_rmul (F.args_int_rmul_2 _ _) (int___rmul___int_list k t l its.toArray n)
   ⟨e,rfl,⟨_,e,rfl⟩,call_meets F.slot_list_mul ⟨_,e,rfl⟩ F.entry_list_mul (F.args_list_mul_2 _ _) (AutoListH.list___mul___list_int_3 l its.toArray n k t hfit hcap hlong) ⟨e,?_⟩⟩)
 rw[hnew]
 exact⟨.ref _,_,I.lnew (t':=s.toks) (r.rep k.toNat) (by rw[zcF,Nat.mul_comm];exact hz),rfl,q _ I.fresh⟩
end
section
variable {prog:Program}{w:World}{A:Around}{E:Value->Shared->Prop}{s:Shared}
set_option maxRecDepth 100000 in
end
section
variable {X:Cx}
end
section
variable {κ:Type} [DecidableEq κ]
def z4x (kvs:List (κ×V)) (k:κ):Option V:=(kvs.find? fun kv=>decide (kv.1=k)).map (·.2)
def z45 (kvs:List (κ×V)) (k:κ) (v:V):List (κ×V):=
 if(kvs.any fun kv=>decide (kv.1=k))=true then kvs.map (fun kv=>if kv.1=k then(kv.1,v)else kv)else kvs++[(k,v)]
theorem z5O {p:κ×V}{r:List (κ×V)}{k:κ}(e:p.1=k):z4x (p::r) k=some p.2:=by simp[z4x,List.find?_cons,e]
theorem z5P {p:κ×V}{r:List (κ×V)}{k:κ}(e:¬ p.1=k):z4x (p::r) k=z4x r k:=by simp[z4x,List.find?_cons,e]
theorem z4w (k:κ):∀kvs:List (κ×V),(kvs.any fun kv=>decide (kv.1=k))=(z4x kvs k).isSome
 |[]=>rfl
 |p::r=>by
  rw[List.any_cons]
  by_cases e:p.1=k
  ·simp only[z5O e,decide_eq_true e,Bool.true_or,Option.isSome_some]
  ·rw[z5P e,decide_eq_false e,Bool.false_or];exact z4w k r
theorem z3x (kvs:List (κ×V)) (k:κ) (v:V):(z45 kvs k v).length<=kvs.length+1:=by
 unfold z45
 split
 ·rw[qb];omega
 ·rw[qe,qI,List.length_nil];omega
theorem z3F {kvs:List (κ×V)}{k:κ}(v:V) (h:z4x kvs k=none):z45 kvs k v=kvs++[(k,v)]:=by
 unfold z45
 rw[z4w,h]
 exact if_neg (by decide)
theorem z6E.isSome_eq {o:Option V}{u:Option Value}(r:z6E o u):o.isSome=u.isSome:=by
 cases o with
 |none=>cases u with
  |none=>rfl
  |some _=>exact(show False from r).elim
 |some _=>cases u with
  |none=>exact(show False from r).elim
  |some _=>rfl
theorem KV.val {kvs:List (κ×V)}{vs:List (κ×Value)}(r:KV kvs vs) (k:κ):z6E (z4x kvs k) (valueAt vs k):=by
 unfold KV at r
 induction r with
 |nil=>exact True.intro
 |@cons p q ps qs h t ih=>
  obtain⟨h1,h2⟩:=h
  by_cases e:p.1=k
  ·have e':q.1=k:=h1.symm.trans e
   have b:valueAt (q::qs) k=some q.2:=by simp[valueAt,List.find?_cons,e']
   rw[z5O e,b];exact h2
  ·have e':¬ q.1=k:=fun z=>e (h1.trans z)
   have b:valueAt (q::qs) k=valueAt qs k:=by simp[valueAt,List.find?_cons,e']
   rw[z5P e,b];exact ih
theorem KV.any {kvs:List (κ×V)}{vs:List (κ×Value)}(r:KV kvs vs) (k:κ):(kvs.any fun kv=>decide (kv.1=k))=vs.any fun kv=>decide (kv.1=k):=by
 unfold KV at r
 induction r with
 |nil=>rfl
 |cons h t ih=>rw[List.any_cons,List.any_cons,ih,h.1]
theorem KV.repl {kvs:List (κ×V)}{vs:List (κ×Value)}(r:KV kvs vs) (k:κ) {y:V}{u:Value}(ry:z1C y u):
 KV (kvs.map fun kv=>if kv.1=k then(kv.1,y)else kv) (vs.map fun kv=>if kv.1=k then(kv.1,u)else kv):=by
 unfold KV at r ⊢
 induction r with
 |nil=>exact .nil
 |@cons p q ps qs h t ih=>
  rw[List.map_cons,List.map_cons]
  refine .cons ?_ ih
  obtain⟨h1,h2⟩:=h
  by_cases e:p.1=k
  ·rw[if_pos e,if_pos (h1.symm.trans e)];exact⟨h1,ry⟩
  ·rw[if_neg e,if_neg (fun z=>e (h1.trans z))];exact⟨h1,h2⟩
theorem KV.put {kvs:List (κ×V)}{vs:List (κ×Value)}(r:KV kvs vs) (k:κ) {y:V}{u:Value}(ry:z1C y u):KV (z45 kvs k y) (stored vs k u):=by
 unfold z45 stored
 rw[r.any k]
 by_cases e:(vs.any fun kv=>decide (kv.1=k))=true
 ·rw[if_pos e,if_pos e];exact r.repl k ry
 ·rw[if_neg e,if_neg e];exact Paired.snoc r ⟨rfl,ry⟩
theorem KV.keys {kvs:List (κ×V)}{vs:List (κ×Value)}(r:KV kvs vs):kvs.map (·.1)=vs.map (·.1):=by
 unfold KV at r
 induction r with
 |nil=>rfl
 |cons h t ih=>rw[List.map_cons,List.map_cons,ih,h.1]
theorem KV.length {kvs:List (κ×V)}{vs:List (κ×Value)}(r:KV kvs vs):kvs.length=vs.length:=Paired.length r
end
theorem za7 {P:Program}{w:World}{k:Key}{u:Value}(r:z1C (kV k) u):(z0L P w).is k u=true:=by
 cases k with
 |inl i=>obtain⟨t,e⟩:=(show ∃t,u=Value.int i t from r);subst e;exact z7T P w i t
 |inr x=>obtain⟨t,e⟩:=(show ∃t,u=Value.str x t from r);subst e;exact z7S P w x t
theorem z7c {P:Program}{w:World}:∀{ks:List Key}{us:List Value},z19 (ks.map kV) us->ItemsAre (z0L P w) ks us
 |[],_,r=>by rw[List.map_nil]at r;cases r;exact .nil
 |k::ks,_,r=>by
  rw[List.map_cons]at r
  cases r with
  |cons h t=>exact .cons (za7 h) (z7c t)
abbrev KT (H:Hp):List (List Key×V)->List (List Key×Addr×Value)->Prop:=Paired fun p q=>p.1=q.1/\H q.2.1=some (.tup (p.1.map kV))/\z1C p.2 q.2.2
theorem KT.val {H:Hp}{kvs:List (List Key×V)}{xs:List (List Key×Addr×Value)}(r:KT H kvs xs) (k:List Key):z6E (z4x kvs k) ((atKey xs k).map (·.2)):=by
 induction r with
 |nil=>exact True.intro
 |@cons p q ps qs h t ih=>
  obtain⟨h1,_,h2⟩:=h
  by_cases e:p.1=k
  ·have e':q.1=k:=h1.symm.trans e
   have b:atKey (q::qs) k=some q.2:=by simp[atKey,List.find?_cons,e']
   rw[z5O e,b];exact h2
  ·have e':¬ q.1=k:=fun z=>e (h1.trans z)
   have b:atKey (q::qs) k=atKey qs k:=by simp[atKey,List.find?_cons,e']
   rw[z5P e,b];exact ih
theorem KT.repl {H:Hp}{kvs:List (List Key×V)}{xs:List (List Key×Addr×Value)}(r:KT H kvs xs) (k:List Key) {y:V}{u:Value}(ry:z1C y u):
 KT H (kvs.map fun kv=>if kv.1=k then(kv.1,y)else kv) (xs.map (putAt k u)):=by
 induction r with
 |nil=>exact .nil
 |@cons p q ps qs h t ih=>
  rw[List.map_cons,List.map_cons]
  refine .cons ?_ ih
  obtain⟨h1,h2,h3⟩:=h
  unfold putAt
  by_cases e:p.1=k
  ·rw[if_pos e,if_pos (h1.symm.trans e)];exact⟨h1,h2,ry⟩
  ·rw[if_neg e,if_neg (fun z=>e (h1.trans z))];exact⟨h1,h2,h3⟩
theorem KT.put {H:Hp}{kvs:List (List Key×V)}{xs:List (List Key×Addr×Value)}(r:KT H kvs xs) (k:List Key) {b:Addr}{y:V}{u:Value}(hb:H b=some (.tup (k.map kV))) (ry:z1C y u):
 KT H (z45 kvs k y) (storedH xs k b u):=by
 have e:(kvs.any fun kv=>decide (kv.1=k))=(atKey xs k).isSome:=by
  rw[z4w,(r.val k).isSome_eq,Option.isSome_map]
 unfold z45 storedH
 rw[e]
 by_cases q:(atKey xs k).isSome=true
 ·rw[if_pos q,if_pos q];exact r.repl k ry
 ·rw[if_neg q,if_neg q];exact Paired.snoc r ⟨rfl,hb,ry⟩
theorem KT.keeps {H H':Hp}{kvs:List (List Key×V)}{xs:List (List Key×Addr×Value)}(r:KT H kvs xs) (ht:∀b ys,H b=some (.tup ys)->H' b=some (.tup ys)):KT H' kvs xs:=
 Paired.mapP r fun _ _ z=>⟨z.1,ht _ _ z.2.1,z.2.2⟩
section
variable {P:Program}{w:World}{H:Hp}{h:Heap}{a:Addr}
theorem zdh {u:HO}(ok:HOk P w H h) (e:Rd H a u):z1o P w H h a u:=e.ok ok
theorem zbw {kvs:List (Key×V)}(ok:HOk P w H h) (e:Rd H a (.dK kvs)):kvs.length<=sizeLine/\(a == sysModules)=false/\∃vs,KV kvs vs/\h.DictOf (z0L P w) a vs:=
 show z1o P w H h a (.dK kvs)from zdh ok e
theorem zbx {kvs:List (Key×V)}(ok:HOk P w H h) (e:H a=some (.dK kvs)):kvs.length<=sizeLine/\(a == sysModules)=false/\∃vs,KV kvs vs/\h.DictOf (z0L P w) a vs:=zbw ok (.inl e)
theorem za4 {ks:List Key}(ok:HOk P w H h) (e:H a=some (.tup (ks.map kV))):(tupleKind (z0L P w)).is h ks a:=by
 obtain⟨_,its,r,o,h1,h2,n,h3⟩:=(show z1o P w H h a (.tup (ks.map kV))from ok a _ e)
 exact⟨o,its.toArray,n,h1,h2,h3,by simpa using z7c r⟩
theorem zbv {kvs:List (List Key×V)}(ok:HOk P w H h) (e:Rd H a (.dT kvs)):kvs.length<=sizeLine/\(a == sysModules)=false /\
 ∃xs,KT H kvs xs/\h.DictOfH (tupleKind (z0L P w)) a xs:=by
 obtain⟨z,y,xs,r,o,es,ep,h1,h2,h3,h4,h5⟩:=(show z1o P w H h a (.dT kvs)from zdh ok e)
 refine⟨z,y,xs,r,o,es,ep,h1,h2,h3,h4,fun x hx=>?_,h5⟩
 have all:∀{l:List (List Key×V)}{m:List (List Key×Addr×Value)},KT H l m->∀x∈m,(tupleKind (z0L P w)).is h x.1 x.2.1:=by
  intro l m q
  induction q with
  |nil=>intro x hx;exact nomatch hx
  |@cons p q ps qs hq t ih=>
   intro x hx
   rcases qB.mp hx with e|hx
   ·subst e
    exact za4 ok (by rw[<- hq.1];exact hq.2.1)
   ·exact ih x hx
 exact all r x hx
theorem zez {kvs:List (List Key×V)}(ok:HOk P w H h) (e:H a=some (.dT kvs)):kvs.length<=sizeLine/\(a == sysModules)=false /\
 ∃xs,KT H kvs xs/\h.DictOfH (tupleKind (z0L P w)) a xs:=zbv ok (.inl e)
end
def z7y (H:Hp) (a:Addr) (y:V) (r:Option V):Prop:=
 (∃kvs k,Rd H a (.dK kvs)/\y=kV k/\r=z4x kvs k)\/∃kvs k b,Rd H a (.dT kvs)/\y=.ref b/\H b=some (.tup (k.map kV))/\r=z4x kvs k
def zeR (H:Hp) (a:Addr) (y v:V) (H':Hp):Prop:=
 (∃kvs k,H a=some (.dK kvs)/\y=kV k/\kvs.length<sizeLine/\H'=upd H a (.dK (z45 kvs k v))) \/
 ∃kvs k b,H a=some (.dT kvs)/\y=.ref b/\H b=some (.tup (k.map kV))/\kvs.length<sizeLine/\H'=upd H a (.dT (z45 kvs k v))
theorem z7y.k {H:Hp}{a:Addr}{kvs:List (Key×V)}{k:Key}(e:H a=some (.dK kvs)):z7y H a (kV k) (z4x kvs k):=.inl ⟨kvs,k,.inl e,rfl,rfl⟩
section
variable {X:Cx}{pins:List (Addr×Obj)}{σ:St}{H:Hp}{s:Shared}{a:Addr}{y v:V}{u r:Value}{o:Option V}{A:Around}{E:Value->Shared->Prop}
theorem Inv.big (I:Inv X pins σ H s):sysModules<s.heap.objs.size:=by
 have h:mainGlobals<s.heap.objs.size:=(I.mod.glob.keeps I.bk).lt
 exact Nat.lt_trans (by decide) h
theorem zaw {Q:Value->Shared->Prop}(hu:A.units+1<cLine) (I:Inv X pins σ H s) (g:z7y H a y (some v)) (ry:z1C y u) (h:∀w' s',Inv X pins σ H s'->z1C v w'->Q w' s'):
 wpAny (model X.prog X.w) A (getItem (.ref a) u) Q E s:=by
 rcases g with⟨kvs,k,e,ey,l⟩|⟨kvs,k,b,e,ey,eb,l⟩
 ·subst ey
  obtain⟨z,hd,vs,rel,dd⟩:=zbw I.hok e
  obtain⟨w',hw,rw'⟩:=z6E.some_of (v:=v) (o:=valueAt vs k) (by rw[l];exact rel.val k)
  exact wpAny_getItem_of (za7 ry) dd.mapOf hw (h w' _ (I.tok _) rw')
 ·subst ey
  cases(show u=Value.ref b from ry)
  obtain⟨z,hd,xs,rel,dd⟩:=zbv I.hok e
  obtain⟨w',hw,rw'⟩:=z6E.some_of (v:=v) (o:=(atKey xs k).map (·.2)) (by rw[l];exact rel.val k)
  obtain⟨p,hp,hp2⟩:=Option.map_eq_some_iff.mp hw
  refine wpAny_getItem_heap (tupleKind_room_in1 hu) (za4 I.hok eb) dd hp ?_
  rw[hp2]
  exact h w' _ (I.tok _) rw'
theorem zau {h':Heap}{t':Nat}{ob:HO}(I:Inv X pins σ H s) (mu:Mut (H a)) (hs:Heap.SameBut a s.heap h') (he:∃q,h'.get? a=some q) (new:z1o X.prog X.w (upd H a ob) h' a ob):
 Inv X pins σ (upd H a ob) { s with heap:=h',toks:=t' }:=
 I.write (x:=a) (e:=a) mu (.inl rfl) (fun b q hb z=>(hs.2 b hb).trans z) he new
theorem zbR {P:Program}{w:World}{H':Hp}{h':Heap}{kvs:List (Key×V)}{vs:List (Key×Value)}(z:kvs.length<=sizeLine) (hd:(a == sysModules)=false) (rel:KV kvs vs) (dd:h'.DictOf (z0L P w) a vs):
 z1o P w H' h' a (.dK kvs):=⟨z,hd,vs,rel,dd⟩
theorem zav {H':Hp}{Q:Unit->Shared->Prop}(hu:A.units+1<cLine) (I:Inv X pins σ H s) (g:zeR H a y v H') (ry:z1C y u) (rv:z1C v r) (h:∀s',Inv X pins σ H' s'->Q () s'):
 wpAny (model X.prog X.w) A (setItem (.ref a) u r) Q E s:=by
 rcases g with⟨kvs,k,e,ey,l,eH⟩|⟨kvs,k,b,e,ey,eb,l,eH⟩
 ·subst ey eH
  obtain⟨z,hd,vs,rel,dd⟩:=zbx I.hok e
  have hz:vs.length<=sizeLine:=by rw[<- rel.length];exact z
  have hl:(z45 kvs k v).length<=sizeLine:=by have:=z3x kvs k v;omega
  refine wpAny_setItem_pairs (hsz:=hz) (za7 ry) dd fun h' dd' hs=>h _ ?_
  have he:∃q,h'.get? a=some q:=let ⟨q,_,_,hq,_⟩:=dd';⟨q,hq⟩
  exact zau I (by rw[e];exact True.intro) hs he (zbR hl hd (rel.put k rv) dd')
 ·subst ey eH
  cases(show u=Value.ref b from ry)
  obtain⟨z,hd,xs,rel,dd⟩:=zez I.hok e
  have hz:xs.length<=sizeLine:=by rw[<- Paired.length rel];exact z
  have hl:(z45 kvs k v).length<=sizeLine:=by have:=z3x kvs k v;omega
  refine wpAny_setItem_heap (hsz:=hz) (tupleKind_room_in1 hu) (za4 I.hok eb) dd fun h' dd' hs=>h _ ?_
  obtain⟨q,es,ep,hq,h2,h3,h4,_,h5⟩:=dd'
  refine zau I (by rw[e];exact True.intro) hs ⟨q,hq⟩ ⟨hl,hd,_,(rel.put k eb rv).keeps fun c ys ec=>?_,q,es,ep,hq,h2,h3,h4,h5⟩
  rw[z06 (zdB ec e (fun z=>nomatch z))]
  exact ec
end
section
variable {X:Cx}{pins:List (Addr×Obj)}{σ:St}{H:Hp}{s:Shared}{a:Addr}{kvs:List (Key×V)}{k:Key}{u:Value}{A:Around}{E:Value->Shared->Prop}
end
def zeQ (i:Expr):Prop:=∀ov iv,subscripted i false ov iv=operate [ov,iv] (getItem ov iv)
theorem zc9 {prog:Program}{w:World}{A:Around}{E:Value->Shared->Prop}{s:Shared}{env:Env}{value slice:Expr}{pos:Pos}{T id:String}{Q:Value->Shared->Prop}
 (hl:typeLookup (.type T) "__getitem__"=pure (some (.builtin id))) (hs:zeQ slice)
 (h:wpAny (model prog w) A (eval value env) (fun o s₁=>wpAny (model prog w) A (eval slice env) (fun i s₂=>s₂.TypeIs o T/\wpAny (model prog w) A (getItem o i) Q E s₂) E s₁) E s):
 wpAny (model prog w) A (eval (.Subscript value slice pos) env) Q E s:=by
 refine Subscript_ (wpAny_mono h (fun o s₁ h₁=>wpAny_mono h₁ (fun i s₂ h₂=>?_) fun _ _ x=>x) fun _ _ x=>x)
 obtain⟨hT,h₂⟩:=h₂
 unfold subscriptTail
 refine q9 ?_
 rw[getitemInPython_of_ne hT.not_modules]
 refine q9 (wpAny_specialOf hT hl ?_)
 have fin:wpAny (model prog w) A (subscripted slice false o i) (fun r s₃=>wpAny (model prog w) A (letTemporaryGo value o r >>= fun _=>pure r) Q E s₃) E s₂:=by
  rw[hs o i]
  exact wpAny_operating (wpAny_mono h₂ (fun r s₃ h₃=>q9 (wpAny_letTemporaryGo (qg h₃))) fun _ _ x=>x)
 first
  |exact qg (q9 fin)
  |exact q9 (qg (q9 fin))
  |exact q9 fin
theorem z83 {X:Cx}{pins:List (Addr×Obj)}{σ:St}{H:Hp}{s:Shared}{a:Addr}{y:V}{o:Option V}(I:Inv X pins σ H s) (g:z7y H a y o):s.TypeIs (.ref a) "dict":=by
 rcases g with⟨kvs,k,e,_,_⟩|⟨kvs,k,b,e,_,_,_⟩
 ·obtain⟨_,_,vs,_,dd⟩:=zbw I.hok e
  exact dd.typeIs
 ·obtain⟨_,_,xs,_,dd⟩:=zbv I.hok e
  exact dd.typeIs
def ze9 (td ty:TE):TE:=fun σ H Q=>td σ H fun x H1=>ty σ H1 fun y H2=>∃a v,x=.ref a/\z7y H2 a y (some v)/\Q v H2
def zef (td ty tv:TE):TS:=fun D σ H=>tv σ H fun v H1=>td σ H1 fun x H2=>ty σ H2 fun y H3=>∃a H4,x=.ref a/\zeR H3 a y v H4/\D.nx σ H4
section
variable {X:Cx}{o i e value:Expr}{pos pos' tpos:Pos}{td ty tv:TE}
theorem z3a (hu:X.A.units+1<cLine) (ho:PE X o td) (hi:PE X i ty) (hs:zeQ i):PE X (.Subscript o i pos) (ze9 td ty):=by
 intro pins s σ H Q I h
 refine zc9 PySem.F.slot_dict_getitem.lookup hs (thn (ho pins s σ H _ I h) fun u s1 ⟨x,H1,I1,rx,q1⟩=>thn (hi pins s1 σ H1 _ I1 q1) fun iv s2 ⟨y,H2,I2,ry,a,v,ex,g,q2⟩=>?_)
 subst ex
 obtain rfl:u=Value.ref a:=rx
 exact⟨z83 I2 g,zaw hu I2 g ry fun w' s3 I3 rw'=>⟨v,H2,I3,rw',q2⟩⟩
theorem z2L (hu:X.A.units+1<cLine) (ho:PE X o td) (hi:PE X i ty) (hv:PE X value tv) (hs:swapsWith value (some (.Subscript o i pos')) pos.line X.env=pure false):
 PS X (.Assign [.Subscript o i pos'] value pos) (zef td ty tv):=by
 intro pins s σ H D I h
 refine wpAny_Assign_Subscript (thn (hv pins s σ H _ I h) fun r s1 ⟨v,H1,I1,rv,q1⟩=>thn (ho pins s1 σ H1 _ I1 q1) fun u s2 ⟨x,H2,I2,rx,q2⟩=>thn (hi pins s2 σ H2 _ I2 q2) fun iv s3 ⟨y,H3,I3,ry,a,H4,ex,g,q3⟩=>?_) hs
 subst ex
 obtain rfl:u=Value.ref a:=rx
 exact zav hu I3 g ry rv fun s4 I4=>⟨σ,H4,I4,q3⟩
end
theorem z8C {P:Program}{w:World}{H:Hp}(h:Heap) (hb:sysModules<h.objs.size):z1o P w H (h.push { cls:=.type "dict",data:=.dict #[] }) h.objs.size (.dK []):=
 ⟨qA _,beq_eq_false_iff_ne.mpr (Ne.symm (qN hb)),[],.nil,Heap.DictOf.new h⟩
def zdc:TE:=fun _ H Q=>∀p,H p=none->Q (.ref p) (upd H p (.dK []))
section
variable {X:Cx}{pos:Pos}
theorem z8p:PE X (.Dict [] [] pos) zdc:=fun pins s σ H Q I h=>
 wpAny_Dict_empty ⟨.ref s.heap.objs.size,_,I.laid (a:=s.heap.objs.size) (o:=.dK []) (t':=s.toks) (fun _ _ q=>qc _ q) (qh _) (z8C s.heap I.big),rfl,h _ (I.hok.fresh (qh _))⟩
end
def IsD (H:Hp) (a:Addr):Prop:=(∃kvs,Rd H a (.dK kvs))\/∃kvs,Rd H a (.dT kvs)
theorem zdJ {X:Cx}{pins:List (Addr×Obj)}{σ:St}{H:Hp}{s:Shared}{a:Addr}(I:Inv X pins σ H s) (d:IsD H a):
 s.TypeIs (.ref a) "dict"/\(∀b,Value.ref a=.ref b->∃ob,s.heap.get? b=some ob/\ob.dict=none)/\(a == sysModules)=false:=by
 rcases d with⟨kvs,e⟩|⟨kvs,e⟩
 ·obtain⟨_,hd,vs,_,dd⟩:=zbw I.hok e
  refine⟨dd.typeIs,fun b q=>?_,hd⟩
  cases q
  obtain⟨ob,_,_,h1,h2,_⟩:=dd
  exact⟨ob,h1,h2.2.1⟩
 ·obtain⟨_,hd,xs,_,dd⟩:=zbv I.hok e
  refine⟨dd.typeIs,fun b q=>?_,hd⟩
  cases q
  obtain⟨ob,_,_,h1,h2,_⟩:=dd
  exact⟨ob,h1,h2.2.1⟩
section
variable {X:Cx}{pins:List (Addr×Obj)}{σ:St}{H:Hp}{s:Shared}{a:Addr}{y d:V}{u r:Value}{o:Option V}{A:Around}{E:Value->Shared->Prop}
end
section
variable {X:Cx}{o e f:Expr}{apos cpos:Pos}{td ty tx:TE}
end
section
variable {X:Cx}{pins:List (Addr×Obj)}{σ:St}{H:Hp}{s:Shared}{a:Addr}{kvs:List (Key×V)}{A:Around}{E:Value->Shared->Prop}
end
section
variable {X:Cx}{pins:List (Addr×Obj)}{σ:St}{H:Hp}{s:Shared}{a:Addr}{y:V}{u:Value}{A:Around}{E:Value->Shared->Prop}
end
end L2
namespace Att
open PySem PySem.W PySem.Calls PyProof.Rows
theorem z5a {P:Params}{h:Heap}:∀(ns:List Int) (vs:List Value),WellAll P h vs (ns.map WData.int)->IntsAre vs ns:=by
 intro ns
 induction ns with
 |nil=>
  intro vs w
  rw[List.map_nil]at w
  cases w
  exact .nil
 |cons n ns ih=>
  intro vs w
  rw[List.map_cons]at w
  cases w with
  |cons a b=>
   cases a
   exact .cons _ _ (ih _ b)
theorem z9B {l:OpenLaw}{n:Nat}(hn:l.most=some n) {P:Params}{h:Heap}{args:List WData}{vals:List Value}
 (hpre:l.row.toRowW.claim.pre args=true) (hwl:WellAll P h vals args):
 ∃a vs ns,vals=[Value.ref a]/\args=[WData.list (ns.map WData.int)]/\h.get? a=some { cls:=.type "list",data:=.seq vs.toArray }/\IntsAre vs ns/\ns.length<=n:=by
 have hsh:WShape.hasAll [] args [.list .int]=true:=(pre_splitW hpre).1
 have hc:l.pre.holds [] { args:=args }=true:=(pre_splitW hpre).2
 obtain⟨d,r,rfl,h1,h2⟩:=hasAllW_cons hsh
 obtain rfl:=hasAllW_nil h2
 obtain⟨xs,rfl,h3⟩:=hasW_list h1
 obtain⟨ns,rfl⟩:=items_int h3
 have hlen:ns.length<=n:=by
  unfold OpenLaw.pre at hc
  have h4:(WTm.not (.lt (.lit (.int (n:Int))) (.len (.arg 0)))).holds [] { args:=[.list (ns.map .int)] }=true:=by
   have h4:=(holds_andW hc).1
   rw[hn]at h4
   exact h4
  have h5:=condW_of h4 (w_not (w_lt w_lit (w_len_list (w_arg rfl))))
  rw[qb]at h5
  refine Nat.le_of_not_lt fun q=>?_
  have q':(n:Int)<((ns.length:Nat):Int):=by omega
  first
   |(rw[decide_eq_true q']at h5;exact absurd h5 (by decide))
   |(simp at h5;omega)
 cases hwl with
 |cons w1 w2=>
  cases w2
  cases w1 with
  |list ho hall=>exact⟨_,_,ns,rfl,rfl,ho,z5a ns _ hall,hlen⟩
theorem z9H (l:OpenLaw) (args:List WData):l.row.toRowW.claim.post args (.bool true) args=true:=
 postW_of (r:=l.row.toRowW) (X:=(true == true))
  (show WShape.has [] (.bool true) .bool=true by first|rfl|decide|simp[WShape.has,WShape.arms,WShape.armsAll])
  (show(WTm.eq .res (.lit (.bool true))).value [] { args:=args,res:=some (.bool true),after:=args }=some (.bool (true == true))from w_eq_bool (w_res rfl) w_lit) rfl
section
variable {prog:Program}{w:World}{A:Around}{E:Value->Shared->Prop}{s:Shared}{K:Frag}
end
end Att
namespace L2
open PySem PySem.Spec PyProof.Rows
theorem z6F:∀{vs:List Value}{ns:List Int},IntsAre vs ns->z19 (ns.map V.int) vs
 |_,_,.nil=>.nil
 |_,_,.cons n t h=>.cons ⟨t,rfl⟩ (z6F h)
def ze1 (H:Hp):Prop:=∀b,H b=none\/∃o xs,H b=some (.frz o (.lst xs))
theorem zbk {P:Program}{w:World}{K:PySem.W.Frag}{mg mb:Str->Option Value}{CX:CXT}{k:Nat}{fa a:Addr}{fd:FuncData}{x:Str}{sp:Sp}{s₁:Shared}{vs:List Value}{ns:List Int}
 (KX:K.In s₁.heap) (hns:s₁.heap.Ns mainGlobals mg) (hb:s₁.heap.Ns builtinsNs mb) (hbb:∀x:Str,x≠"__name__"->mb x=bootBuiltins x) (hlim:s₁.heap.NoLimit) (hg:s₁.gens=#[])
 (ha:s₁.heap.get? a=some { cls:=.type "list",data:=.seq vs.toArray }) (hi:IntsAre vs ns) (hl:ns.length<=sizeLine) (hr:z3B k callerA)
 (F:∀base:Heap,K.In base->base.Ns mainGlobals mg->z1B P w K mg base CX k fa fd [x] sp) (hbind:∀(s:Shared) (u:Value),BindsTo s fd ⟨[u],[]⟩ [(x,u)])
 (hsp:∀H:Hp,ze1 H->SqL K H a (ns.map V.int)->sp [.ref a] H (fun v _=>v=.bl true) fun _ _ _=>False)
 (hCX:∀H e s',CX [] H s₁ (fun _ _ _=>False) e s'->False):
 codeAny (model P w) callerA (.call (.ref fa) ⟨[.ref a],[]⟩) (fun r s'=>r=.ok (.ret (.bool true))/\OldK s₁.heap s'.heap/\s'.os=s₁.os/\AllBare s'.gens) s₁:=by
 have rv:=z6F hi
 have lenV:=hi.length
 have core:∀H:Hp,ze1 H->SqL K H a (ns.map V.int)->HOk P w H s₁.heap->(∀b,H b≠none->b=a)->(H a≠none->K.lookup a=none)->
  codeAny (model P w) callerA (.call (.ref fa) ⟨[.ref a],[]⟩) (fun r s'=>r=.ok (.ret (.bool true))/\OldK s₁.heap s'.heap/\s'.os=s₁.os/\AllBare s'.gens) s₁:=by
  intro H hO hS hok hA hK
  have base_of:∀{b:Addr}{o:Obj},s₁.heap.get? b=some o->H b=none->(zbn s₁.heap H).get? b=some o:=fun e n=>zbm e n
  have noA:∀{b:Addr}{o:Obj}{es:Array DictEntry}{ep:Nat},s₁.heap.get? b=some o->o.data=.dict es ep->H b=none:=fun{b o es ep} e d=>by
   cases q:H b with
   |none=>rfl
   |some u=>
    have e':b=a:=hA b (by rw[q];simp)
    subst e'
    rw[ha]at e;cases e
    have d':Data.seq vs.toArray _=Data.dict es ep:=d
    cases d'
  have nsK:∀{b:Addr}{m:Str->Option Value},s₁.heap.Ns b m->(zbn s₁.heap H).Ns b m:=fun{b m} ⟨o,es,ep,e,d,r⟩=>⟨o,es,ep,base_of e (noA e d),d,r⟩
  have hKb:K.In (zbn s₁.heap H):=fun b o e=>base_of (KX b o e) (by
   cases q:H b with
   |none=>rfl
   |some u=>
    have e':b=a:=hA b (by rw[q];simp)
    subst e'
    rw[hK (by rw[q];simp)]at e;cases e)
  have hM:Mod K mg (zbn s₁.heap H):=⟨hKb,nsK hns,⟨mb,nsK hb,hbb⟩,let ⟨mc,h1,h2⟩:=hlim;⟨mc,nsK h1,h2⟩⟩
  have e0:zcY P w K mg (zbn s₁.heap H) callerA [] s₁ H:=⟨rfl,hM,fun b o e=>zcy e,Nat.le_of_eq (zag _ _),trivial,fun b hb=>absurd (show b∈([]:List Addr)from hb) (by simp),hok,.of_eq hg⟩
  refine codeAny_mono ((F _ hKb (nsK hns)).run callerA [] s₁ H ⟨[.ref a],[]⟩ [.ref a] [.ref a] _ _ hr e0 (hbind s₁ (.ref a)) (.cons rfl .nil) (hsp H hO hS)) fun r s' h=>?_
  cases r with
  |error e=>exact(hCX H e s' h).elim
  |ok fl=>
   cases fl with
   |next=>exact False.elim h
   |brk=>exact False.elim h
   |cont=>exact False.elim h
   |ret u=>
    obtain⟨v,H',os,bare,un,hok',r',q⟩:=h
    have q':v=.bl true:=q
    subst q'
    obtain rfl:u=Value.bool true:=r'
    refine⟨rfl,OldK.of_keep fun b o e=>?_,os,bare⟩
    cases q:H b with
    |none=>exact un.keep b o e q (by intro z;exact absurd (show b∈([]:List Addr)from z) (by simp)) (by simp)
    |some u=>
     rcases hO b with z|⟨ob,xs,z⟩
     ·rw[q]at z;cases z
     ·have z2:=un.frzs b ob _ z
      obtain⟨e1,_⟩:=hok b _ z
      obtain⟨e2,_⟩:=hok' b _ z2
      rw[e]at e1;cases e1
      exact e2
 cases hk:K.lookup a with
 |some o=>
  have e:=KX a o hk
  rw[ha]at e
  cases e
  refine core (fun _=>none) (fun _=>.inl rfl) (.inr ⟨_,vs.toArray,_,hk,rfl,rfl,rfl,by rw[qJ,lenV];exact hl,by simpa using rv⟩) (fun b u z=>by have z':(none:Option HO)=some u:=z;cases z') (fun b z=>absurd rfl z) fun z=>absurd rfl z
 |none=>
  refine core (fun b=>if b=a then some (.frz { cls:=.type "list",data:=.seq vs.toArray } (.lst (ns.map V.int)))else none) (fun b=>?_) (.inl (.inr ⟨{ cls:=.type "list",data:=.seq vs.toArray },if_pos rfl⟩)) (fun b u z=>?_) (fun b z=>?_) fun _=>hk
  ·by_cases hb:b=a
   ·exact .inr ⟨_,_,if_pos hb⟩
   ·exact .inl (if_neg hb)
  ·by_cases hb:b=a
   ·have z':=(if_pos hb).symm.trans z
    cases z'
    subst hb
    exact⟨ha,by rw[qb];exact hl,vs,_,rv,ha⟩
   ·have z':=(if_neg hb).symm.trans z
    cases z'
  ·by_cases hb:b=a
   ·exact hb
   ·exact absurd (if_neg hb) z
abbrev CX0:CXT:=fun _ _ _ _ _ _=>False
abbrev E0:XK:=fun _ _ _=>False
theorem z0K {X:Cx}:z3U CX0 X E0:=fun _ _ _ _ _ _ _ h=>h.elim
structure Fun (K:PySem.W.Frag) (x qual:Str) (st:Stmt) (f:Addr) (fd:FuncData):Prop where
 ex:∃(oc:Value) (od:Option Addr) (kV doc pm:Value) (an:Option Addr) (cdv ct:Value) (osl:Array (Option Value)),
  fd=PySem.W.fnOf x qual (z0a st) (z09 st) (z02 st) .none kV doc pm an cdv ct/\K.lookup f=some ⟨oc,od,.func fd,osl⟩/\PySem.W.codeIn K cdv qual=true
 kp:PySem.W.keepIn K (.ref f)=true
section
variable {P:Program}{w:World}{K:PySem.W.Frag}{mg:Str->Option Value}{base:Heap}
theorem Fun.ok {x qual:Str}{st:Stmt}{f:Addr}{fd:FuncData}{N ps:List Str}{k:Nat}{sp:Sp}(F:Fun K x qual st f fd) (S:z0m N ps (z02 st)) (len:∀vs H Q E,sp vs H Q E->vs.length=ps.length)
 (hbody:∀(cdv:Value) (A:Around) (outer:List Env) (s:Shared) (H:Hp) (vs:List V) (Q:VK) (E:XK),z3B k (A.deeper (envOfC qual (z02 st) s.heap.objs.size f cdv))->sp vs H Q E->
  ∃t,PSs (z3W CX0 P w K mg base N qual (z02 st) f cdv A outer s H E).nox (z09 st) t/\t { nx:=fun _ H'=>Q .non H',rt:=Q } (z5h N vs) H):z1B P w K mg base CX0 (k+1) f fd ps sp:=by
 obtain⟨oc,od,kV,doc,pm,an,cdv,ct,osl,rfl,lk,hcd⟩:=F.ex
 refine zcM lk hcd S len fun A outer s H vs Q E hr hsp=>?_
 obtain⟨t,h,q⟩:=hbody cdv A outer s H vs Q E hr hsp
 exact⟨t,h.nox,q⟩
theorem Fun.binds {x qual:Str}{st:Stmt}{f:Addr}{fd:FuncData}{ps:List Str}(F:Fun K x qual st f fd)
 (h:∀(kV doc pm:Value) (an:Option Addr) (cdv ct:Value) (us:List Value),us.length=ps.length->bindArgs (PySem.W.fnOf x qual (z0a st) (z09 st) (z02 st) .none kV doc pm an cdv ct) ⟨us,[]⟩=pure (ps.zip us)):z0G K fd ps []:=by
 obtain⟨oc,od,kV,doc,pm,an,cdv,ct,osl,rfl,lk,hcd⟩:=F.ex
 exact .all (h kV doc pm an cdv ct)
theorem z0z {x qual:Str}{st:Stmt}{f:Addr}{oc:Value}{od an:Option Addr}{osl:Array (Option Value)}{kV doc pm cdv ct:Value}(l:K.lookup f=some ⟨oc,od,.func (PySem.W.fnOf x qual (z0a st) (z09 st) (z02 st) .none kV doc pm an cdv ct),osl⟩)
 (c:PySem.W.codeIn K cdv qual=true) (k:PySem.W.keepIn K (.ref f)=true):Fun K x qual st f (PySem.W.fnOf x qual (z0a st) (z09 st) (z02 st) .none kV doc pm an cdv ct):=⟨⟨oc,od,kV,doc,pm,an,cdv,ct,osl,rfl,l,c⟩,k⟩
end
theorem z4L {n:Nat}(h:n<=1000):n<sizeLine:=Nat.lt_of_le_of_lt h (by decide)
section
variable {X:Cx}
theorem pv (i:Nat) {x:Str}{pos:Pos}(hN:X.N[i]?=some x:=by rfl) (hv:Vis X.env.scope x:=by first|exact Or.inl rfl|exact Or.inr (Or.inl rfl)|exact Or.inr (Or.inr rfl)) (hd:(x == ("__debug__":Str))=false:=by decide)
 (hcd:(x == ("__classdict__":Str))=false:=by decide):PE X (.Name x pos) (zeD i):=zdk hN hv hd hcd
end
theorem zdZ {A B:Prop}(h:B):if false=true then A else B:=by
 rw[if_neg qm]
 exact h
theorem zfa {A B:Prop}(h:A):if true=true then A else B:=by
 rw[if_pos rfl]
 exact h
theorem z2X {c A B:Prop} [Decidable c] (h1:c->A) (h2:¬ c->B):if c then A else B:=by
 by_cases h:c
 ·rw[if_pos h]
  exact h1 h
 ·rw[if_neg h]
  exact h2 h
def z0f (H H':Hp):Prop:=∀b o,H b=some o->H' b=some o
theorem z0f.refl (H:Hp):z0f H H:=fun _ _ h=>h
theorem z0f.trans {H H1 H2:Hp}(a:z0f H H1) (b:z0f H1 H2):z0f H H2:=fun c o h=>b c o (a c o h)
theorem z0f.seq {K:PySem.W.Frag}{H H':Hp}{a:Addr}{xs:List V}(e:z0f H H') (h:SqL K H a xs):SqL K H' a xs:=by
 rcases h with(h|⟨o,h⟩)|h
 ·exact .inl (.inl (e _ _ h))
 ·exact .inl (.inr ⟨o,e _ _ h⟩)
 ·exact .inr h
section
variable {X:Cx}
end
section
variable {κ:Type} [DecidableEq κ]
theorem z9i {kvs:List (κ×V)}{k:κ}{v:V}(h:z4x kvs k=some v):k∈kvs.map (·.1):=by
 have q:(kvs.any fun kv=>decide (kv.1=k))=true:=by
  rw[z4w,h]
  all_goals rfl
 obtain⟨p,hp,e⟩:=List.any_eq_true.mp q
 exact List.mem_map.mpr ⟨p,hp,of_decide_eq_true e⟩
theorem z6p:∀{l:List κ}{k:κ},l.Nodup->¬ k∈l->(l++[k]).Nodup
 |[],k,_,_=>by simp
 |a::r,k,h,hk=>by
  obtain⟨h1,h2⟩:=List.nodup_cons.mp h
  show(a::(r++[k])).Nodup
  refine List.nodup_cons.mpr ⟨fun m=>?_,z6p h2 fun m=>hk (qB.mpr (Or.inr m))⟩
  rcases qk.mp m with q|q
  ·exact h1 q
  ·exact hk (qB.mpr (Or.inl (List.mem_singleton.mp q).symm))
end
def z0Y (cells:List (Str×Addr)):List (Str×NameKind)->List (Str×Addr)->List (Str×Addr)
 |[],acc=>acc
 |(n,k)::r,acc=>z0Y cells r (if k == .free then(match cells.lookup n with|some c=>(n,c)::acc|none=>acc)else acc)
theorem z6z {scope:Scope}{env:Env}(h:∀y∈scope.names,y.2=.free->∃c,env.cells.lookup y.1=some c):closureFor scope env=pure (z0Y env.cells scope.names []):=by
 simp only[closureFor]
 generalize ([]:List (Str×Addr))=acc
 revert h
 generalize scope.names=l
 intro h
 induction l generalizing acc with
 |nil=>simp[z0Y]
 |cons x r ih=>
  obtain⟨n,k⟩:=x
  rw[List.forIn_cons]
  have hr:∀y∈r,y.2=NameKind.free->∃c,env.cells.lookup y.1=some c:=fun y hy=>h y (qt _ hy)
  by_cases hk:k=.free
  ·subst hk
   obtain⟨c,e⟩:=h (n,.free) qv rfl
   have e':List.lookup n env.cells=some c:=e
   have e2:cellOf env n=pure c:=by unfold cellOf;rw[e']
   simp only[beq_self_eq_true,if_true,e2,pure_bind,z0Y,e']
   exact ih _ hr
  ·have hb:(k == NameKind.free)=false:=by simpa using hk
   simp only[hb,Bool.false_eq_true,if_false,pure_bind,z0Y]
   exact ih _ hr
theorem z3Q (cells:List (Str×Addr)):∀(l:List (Str×NameKind)) (acc:List (Str×Addr)) (p:Str×Addr),p∈z0Y cells l acc->p∈acc\/(p.1,NameKind.free)∈l/\cells.lookup p.1=some p.2
 |[],_,_,h=>.inl h
 |(n,k)::r,acc,p,h=>by
  have h':p∈z0Y cells r (if k == .free then(match cells.lookup n with|some c=>(n,c)::acc|none=>acc)else acc):=h
  rcases z3Q cells r _ p h' with q|⟨q1,q2⟩
  ·by_cases hk:k=.free
   ·subst hk
    simp only[beq_self_eq_true,if_true]at q
    cases e:cells.lookup n with
    |none=>rw[e]at q;exact .inl q
    |some c=>
     rw[e]at q
     rcases qB.mp q with rfl|q
     ·exact .inr ⟨qv,e⟩
     ·exact .inl q
   ·have hb:(k == NameKind.free)=false:=by simpa using hk
    simp only[hb,Bool.false_eq_true,if_false]at q
    exact .inl q
  ·exact .inr ⟨qt _ q1,q2⟩
theorem z2w {α β:Type} [BEq α] [LawfulBEq α] {x:α}:∀{l:List (α×β)}{c:β},(x,c)∈l->∃d,l.lookup x=some d
 |(a,b)::r,c,h=>by
  by_cases e:x=a
  ·subst e;exact⟨b,by simp⟩
  ·rcases qB.mp h with q|q
   ·cases q;exact absurd rfl e
   ·obtain⟨d,hd⟩:=z2w q
    refine⟨d,?_⟩
    have e':(x == a)=false:=by simpa using e
    simp only[List.lookup_cons,e']
    exact hd
theorem z3R (cells:List (Str×Addr)) (x:Str) (c:Addr) (e:cells.lookup x=some c):∀(l:List (Str×NameKind)) (acc:List (Str×Addr)),((x,NameKind.free)∈l\/(x,c)∈acc)->(x,c)∈z0Y cells l acc
 |[],_,h=>h.elim (fun q=>nomatch q) id
 |(n,k)::r,acc,h=>by
  refine z3R cells x c e r _ ?_
  rcases h with h|h
  ·rcases qB.mp h with q|q
   ·cases q
    refine .inr ?_
    rw[e]
    exact qv
   ·exact .inl q
  ·refine .inr ?_
   by_cases hk:(k == NameKind.free)=true
   ·rw[if_pos hk]
    cases cells.lookup n with
    |none=>exact h
    |some _=>exact qt _ h
   ·rw[if_neg hk];exact h
theorem z0Q {cells:List (Str×Addr)}{names:List (Str×NameKind)}{x:Str}{c:Addr}(h:(z0Y cells names []).lookup x=some c):cells.lookup x=some c:=by
 have hm:=PySem.mem_of_lookup h
 rcases z3Q cells names [] _ hm with q|⟨_,q⟩
 ·exact nomatch q
 ·exact q
theorem z4l {cells:List (Str×Addr)}{names:List (Str×NameKind)}{x:Str}{c:Addr}(hm:(x,NameKind.free)∈names) (e:cells.lookup x=some c):(z0Y cells names []).lookup x=some c:=by
 obtain⟨d,hd⟩:=z2w (z3R cells x c e names [] (.inl hm))
 have:=z0Q hd
 rw[e]at this
 rw[hd,this]
theorem z4i {scope:Scope}{env:Env}{x:Str}{k:NameKind}(h:(relabel scope env).names.lookup x=some k):∃k',scope.names.lookup x=some k'/\(k'=k\/(k'=.free/\k=.cell)):=by
 have go:∀(l:List (Str×NameKind)),(l.map fun(n,k)=>if(k == NameKind.free && env.scope.kind == .function && env.kindOf n == some .cell)then(n,NameKind.cell)else(n,k)).lookup x=some k->∃k',l.lookup x=some k'/\(k'=k\/(k'=.free/\k=.cell)):=by
  intro l
  induction l with
  |nil=>intro h;simp at h
  |cons p r ih=>
   obtain⟨n,kk⟩:=p
   intro h
   simp only[List.map_cons]at h
   by_cases hx:x=n
   ·subst hx
    by_cases hc:(kk == NameKind.free && env.scope.kind == .function && env.kindOf x == some .cell)=true
    ·rw[if_pos hc]at h
     simp at h
     have:kk=.free:=by
      simp only[Bool.and_eq_true,beq_iff_eq]at hc
      exact hc.1.1
     exact⟨kk,by simp,.inr ⟨this,h.symm⟩⟩
    ·rw[if_neg hc]at h
     simp at h
     exact⟨kk,by simp,.inl h⟩
   ·have e':(x == n)=false:=by simpa using hx
    have:∀b:Bool,(if b=true then(n,NameKind.cell)else(n,kk)).1=n:=fun b=>by cases b<;>rfl
    rw[List.lookup_cons,this,e']at h
    obtain⟨k',h1,h2⟩:=ih h
    exact⟨k',by rw[List.lookup_cons,e'];exact h1,h2⟩
 exact go scope.names h
theorem z6Z {scope:Scope}{env:Env}{x:Str}(h:scope.names.lookup x=some .free):(relabel scope env).names.lookup x=some .cell\/(relabel scope env).names.lookup x=some .free:=by
 have go:∀(l:List (Str×NameKind)),l.lookup x=some .free->(l.map fun(n,k)=>if(k == NameKind.free && env.scope.kind == .function && env.kindOf n == some .cell)then(n,NameKind.cell)else(n,k)).lookup x=some .cell\/(l.map fun(n,k)=>if(k == NameKind.free && env.scope.kind == .function && env.kindOf n == some .cell)then(n,NameKind.cell)else(n,k)).lookup x=some .free:=by
  intro l
  induction l with
  |nil=>intro h;simp at h
  |cons p r ih=>
   obtain⟨n,kk⟩:=p
   intro h
   simp only[List.map_cons]
   by_cases hx:x=n
   ·subst hx
    simp at h
    by_cases hc:(kk == NameKind.free && env.scope.kind == .function && env.kindOf x == some .cell)=true
    ·rw[if_pos hc];simp
    ·rw[if_neg hc];simp[h]
   ·have e':(x == n)=false:=by simpa using hx
    have t:∀b:Bool,(if b=true then(n,NameKind.cell)else(n,kk)).1=n:=fun b=>by cases b<;>rfl
    rw[List.lookup_cons,e']at h
    rw[List.lookup_cons,t,e']
    exact ih h
 exact go scope.names h
section
variable {prog:Program}{w:World}{A:Around}{R:Result->Shared->Prop}{s:Shared}
theorem z85 {elt target iter:Expr}{ifs:List Expr}{scope:Scope}{pos:Pos}{it acc:Value}{env:Env}(I:Nat->Shared->Prop)
 (turn:∀n s,I n s->wpAny (model prog w) A (pyNext it) (fun r s₁=>match r with
  |none=>R (.ok .next) s₁
  |some v=>wpAny (model prog w) A (letOwnedTupleGo target it v) (fun _ s₁'=>wpAny (model prog w) A (assign target env v) (fun _ s₂=>
   wpAny (model prog w) A (forIn ifs true fun c r=>if r=true then do let ok <- isTrue c env (eval c env);pure (ForInStep.yield ok)else pure (ForInStep.yield r)) (fun ok s₃=>
    if ok=true then wpAny (model prog w) A (eval elt env) (fun x s₄=>
     wpAny (model prog w) A (call (.builtin "list.append") [acc,x]) (fun _ s₅=>∃m,m<n/\I m s₅) (fun _ _=>False) s₄) (fun _ _=>False) s₃
    else ∃m,m<n/\I m s₃) (fun _ _=>False) s₂) (fun _ _=>False) s₁') (fun _ _=>False) s₁) (fun _ _=>False) s)
 (n:Nat) (h:I n s):
 codeAny (model prog w) A (.compLoop (.ListComp elt [⟨target,iter,ifs,0⟩] scope pos) 0 it acc env) R s:=by
 refine codeAny_loop rfl I (fun n s hI=>?_) n h
 show wpAny _ A ((compTurn (.ListComp elt [⟨target,iter,ifs,0⟩] scope pos) 0 it acc env).onRaise (fun x=>do noteFrame x env;theTreesLotGoes x)) _ _ s
 refine wpAny_noted ?_
 rw[compTurn_list]
 refine q9 (wpAny_standAt (q9 (wpAny_mono (turn n s hI) (fun r s₁ h₁=>?_) fun _ _ h'=>h'.elim)))
 cases r with
 |none=>exact qg h₁
 |some v=>
  refine q9 (wpAny_mono h₁ (fun _ s₁' h₁'=>?_) fun _ _ h'=>h'.elim)
  refine q9 (wpAny_mono h₁' (fun _ s₂ h₂=>q9 (wpAny_mono h₂ (fun ok s₃ h₃=>?_) fun _ _ h'=>h'.elim)) fun _ _ h'=>h'.elim)
  cases ok with
  |false=>exact qg ⟨rfl,h₃⟩
  |true=>
   exact q9 (q9 (wpAny_mono h₃ (fun x s₄ h₄=>q9 (wpAny_mono h₄ (fun _ s₅ h₅=>qg (qg ⟨rfl,h₅⟩)) fun _ _ h'=>h'.elim)) fun _ _ h'=>h'.elim))
end
structure z0J (esc:Scope) (N:List Str) (scope:Scope) (k:Nat) (Nc:List Str) (js:List Nat):Prop where
 kind:scope.kind=.function
 cell:∀y∈scope.names,y.2≠.cell
 names:∀y∈scope.names,y.2=.local->scope.names.lookup y.1=some .local
 free:∀y∈scope.names,y.2=.free->esc.names.lookup y.1=some .cell\/esc.names.lookup y.1=some .free
 len:Nc.length=k+js.length
 out:∀p∈(Nc.drop k).zip js,N[p.2]?=some p.1/\scope.names.lookup p.1=some .free
def z5c (k:Nat) (js:List Nat) (σ:St):St:=List.replicate k none++js.map fun j=>(σ[j]?).join
def Cx.comp (X:Cx) (pins:List (Addr×Obj)) (Nc:List Str) (scope:Scope) (fp:List Addr) (s:Shared) (H:Hp) (C:Addr):Cx:=
 { X with N:=Nc,s₀:=s,H₀:=H,env:=compEnvC scope (z0Y X.env.cells scope.names []) C X.env,outer:=X.stack,stack:=X.stack,ex:=fp,fn:=fun _=>false,pn:=X.pn++pins,xe:=fun _ _=>False }
section
variable {X:Cx}{pins:List (Addr×Obj)}{σ:St}{H:Hp}{s:Shared}{scope:Scope}{Nc:List Str}{js:List Nat}{k:Nat}
theorem z0J.some (S:z0J X.env.scope X.N scope k Nc js) (I:Inv X pins σ H s):∀y∈scope.names,y.2=.free->∃c,X.env.cells.lookup y.1=some c:=fun y hy hk=>I.ok.has y.1 (S.free y hy hk)
theorem z0J.clos (S:z0J X.env.scope X.N scope k Nc js) (I:Inv X pins σ H s):closureFor scope X.env=pure (z0Y X.env.cells scope.names []):=z6z (S.some I)
theorem zcN (S:z0J X.env.scope X.N scope k Nc js) (I:Inv X pins σ H s) {fp:List Addr}(hf:∀b∈fp,z5y X pins H b) (hlt:∀b∈fp,b<s.heap.objs.size) {C:Addr}(hC:s.heap.objs.size<=C):(X.comp pins Nc scope fp s H C).Ok:=by
 have ltC:∀b,b<s.heap.objs.size->b≠C:=fun b hb=>qN (qK hb hC)
 have notstk:∀b∈fp,b∉frs X.stack:=fun b hb z=>by
  rcases qB.mp (I.stkSub b z)with e|e
  ·exact(hf b hb).2.1 e
  ·exact(hf b hb).2.2.1 e
 refine⟨I.ok.mod,S.kind,I.ok.glob,I.ok.blt,hC,fun x y c h1 h2=>I.ok.inj x y c (z0Q h1) (z0Q h2),fun x hx=>?_,fun x c h=>?_,I.ok.hd,I.ok.frames,.inl rfl,fun b hb=>⟨?_,fun x c e=>(hf b hb).2.2.2.2.1 x c (z0Q e)⟩,
  fun b o e=>⟨(I.bs b o e).1,(I.bs b o e).2⟩,qG I.ok.bsz I.sz,fun b o e hb=>?_,notstk,I.stack,I.stkFree⟩
 ·have hx':(relabel scope X.env).names.lookup x=some .cell\/(relabel scope X.env).names.lookup x=some .free:=hx
  have hfree:(x,NameKind.free)∈scope.names:=by
   rcases hx' with h|h
   ·obtain⟨k',h1,h2⟩:=z4i h
    rcases h2 with rfl|⟨rfl,_⟩
    ·exact absurd rfl (S.cell _ (PySem.mem_of_lookup h1))
    ·exact PySem.mem_of_lookup h1
   ·obtain⟨k',h1,h2⟩:=z4i h
    rcases h2 with rfl|⟨rfl,_⟩
    ·exact PySem.mem_of_lookup h1
    ·exact PySem.mem_of_lookup h1
  obtain⟨c,hc⟩:=S.some I (x,.free) hfree rfl
  exact⟨c,z4l hfree hc⟩
 ·exact absurd (show false=true from h) qm
 ·exact ltC b (hlt b hb)
 ·rcases(hf b hb).2.2.2.1 with q|q
  ·exact I.ok.noex b o e q
  ·exact absurd (qK (qy e) (qG I.ok.bsz q)) (Nat.lt_irrefl _)
theorem zbB (S:z0J X.env.scope X.N scope k Nc js) (I:Inv X pins σ H s) {fp:List Addr}(hf:∀b∈fp,z5y X pins H b) (hlt:∀b∈fp,b<s.heap.objs.size) {C:Addr}(hC:s.heap.objs.size<=C) {s1:Shared}
 (os:s1.os=s.os) (bare:AllBare s1.gens) (kept:∀b o,s.heap.get? b=some o->s1.heap.get? b=some o) (ns:∃m,s1.heap.Ns C m):Inv (X.comp pins Nc scope fp s H C) [] (z5c k js σ) H s1:=by
 have ltC:∀b,b<s.heap.objs.size->b≠C:=fun b hb=>qN (qK hb hC)
 refine⟨zcN S I hf hlt hC,os,bare,Un.kept kept,?_,fun x c e=>?_,I.hok.fresh hC,fun x c e=>I.freeC x c (z0Q e),fun p hp=>?_,I.hok.kept kept,?_⟩
 ·obtain⟨mc,hns⟩:=ns
  refine⟨mc,hns,fun i x v e1 e2 e3=>?_⟩
  have e1':Nc[i]?=some x:=e1
  by_cases hi:i<k
  ·unfold z5c at e2
   rw[List.getElem?_append_left (by simpa using hi),List.getElem?_replicate,if_pos hi]at e2
   cases e2
  ·obtain⟨i',rfl⟩:∃i',i=k+i':=⟨i-k,by omega⟩
   unfold z5c at e2
   rw[qS (by simp),List.length_replicate,Nat.add_sub_cancel_left,qL]at e2
   cases ej:js[i']? with
   |none=>rw[ej]at e2;cases e2
   |some j=>
    rw[ej]at e2
    have e2':(σ[j]?).join=some v:=qQ e2
    have e4:σ[j]?=some (some v):=by
     cases q:σ[j]? with
     |none=>rw[q]at e2';cases e2'
     |some z=>rw[q]at e2';cases z with
      |none=>cases e2'
      |some z=>cases e2';rfl
    have hm:(x,j)∈(Nc.drop k).zip js:=qH (i:=i') (List.getElem?_zip_eq_some.mpr ⟨by rw[List.getElem?_drop];exact e1',ej⟩)
    obtain⟨hN,hfr⟩:=S.out _ hm
    have hfm:(x,NameKind.free)∈scope.names:=PySem.mem_of_lookup hfr
    have hk:=S.free _ hfm rfl
    obtain⟨m,hn,hl⟩:=I.loc
    obtain⟨u,r,l⟩:=hl j x v hN e4 (.inr hk)
    refine⟨u,r,?_⟩
    rcases l with⟨hk',_⟩|⟨_,c,hc,o,ho,hd⟩
    ·have hk'':X.env.scope.names.lookup x=some .local:=hk'
     rcases hk with hk|hk
     ·rw[hk]at hk'';cases hk''
     ·rw[hk]at hk'';cases hk''
    ·exact .inr ⟨z6Z hfr,c,z4l hfm hc,o,kept _ _ ho,hd⟩
 ·obtain⟨v,o,ho,hd⟩:=I.cell x c (z0Q e)
  exact⟨v,o,kept _ _ ho,hd⟩
 ·have hp':p∈X.pn++pins:=by
   rcases qk.mp hp with z|z
   ·exact z
   ·exact nomatch z
  obtain⟨e,n,ne,nf,d⟩:=I.pin p hp'
  refine⟨kept _ _ e,n,ltC _ (qy e),fun z=>?_,d⟩
  rcases qB.mp (I.stkSub _ z)with q|q
  ·exact ne q
  ·exact nf q
 ·show(z5c k js σ).length=Nc.length
  unfold z5c
  rw[qe,List.length_replicate,qb,S.len]
theorem zay (I:Inv X pins σ H s) {fp:List Addr}(hf:∀b∈fp,z5y X pins H b) {C D:Addr}(hDs:s.heap.objs.size<=D) {pins':List (Addr×Obj)}{σ':St}{H':Hp}{s':Shared}{ys:List V}{its:List Value}{n:Nat}
 (J:Inv (X.comp pins Nc scope fp s H C) pins' σ' H' s') (hD:H' D=none) (hz:ys.length<=sizeLine) (hv:z19 ys its) (ho:s'.heap.get? D=some { cls:=.type "list",data:=.seq its.toArray n }):
 Inv X pins σ (upd H' D (.lst ys)) s':=by
 have B:Un (frs X.stack) fp H H' s.heap s'.heap:=J.base
 have neD:∀b o,s.heap.get? b=some o->b≠D:=fun b o e=>qN (qK (qy e) hDs)
 refine I.call' (ch:=fp) J.os ⟨B.keep,B.slot,fun b o e n hx=>?_,B.there,fun b xs e=>?_,fun b o u e=>?_,fun b ps e=>?_⟩ (fun b o e=>?_) J.bare fun b hb=>⟨(hf b hb).2.2.2.1,(hf b hb).2.1,(hf b hb).2.2.2.2.1,(hf b hb).2.2.2.2.2⟩
 ·rw[z06 (neD b o e)];exact B.free b o e n hx
 ·rw[z06 (z0t (B.tups b xs e) hD)];exact B.tups b xs e
 ·rw[z06 (z0t (B.frzs b o u e) hD)];exact B.frzs b o u e
 ·obtain⟨more,q⟩:=B.tbls b ps e
  exact⟨more,by rw[z06 (z0t q hD)];exact q⟩
 ·by_cases hb:b=D
  ·subst hb
   rw[z01]at e
   cases e
   exact⟨hz,its,n,hv,ho⟩
  ·rw[z06 hb]at e
   exact(J.hok b o e).stay (fun c v _ q=>q) (fun c q=>by rw[z06 (z0t q hD)];exact q) fun c xs q=>by rw[z06 (z0t q hD)];exact q
end
def PTs (Y:Cx) (ifs:List Expr) (t:TT):Prop:=
 ∀(pins:List (Addr×Obj)) (s:Shared) (σ:St) (H:Hp) (Q:Bool->Hp->Prop),Inv Y pins σ H s->t σ H Q->
  wpAny (model Y.prog Y.w) Y.A (forIn ifs true fun c r=>if r=true then do let ok <- isTrue c Y.env (eval c Y.env);pure (ForInStep.yield ok)else pure (ForInStep.yield r)) (TP Y pins σ Q) Y.xe s
def zd5:TT:=fun _ H Q=>Q true H
theorem z2p {Y:Cx}:PTs Y [] zd5:=fun _ _ _ H _ I h=>wpAny_tests_nil ⟨H,I,h⟩
theorem z9G {Y:Cx}{c:Expr}{t:TT}(h:PT Y c t):PTs Y [c] t:=fun pins s σ H Q I hq=>wpAny_tests_one (h pins s σ H Q I hq)
def z2q (J:It) (g:TG) (tt:TT) (te:TE) (Fin:List V->Hp->Prop) (W:Nat->Nat->List V->St->Hp->Prop):Prop:=
 ∀i m ys σ H,W i m ys σ H->(J.stop i H/\ys.length<=sizeLine/\Fin ys H)\/(J.go i H/\ys.length<sizeLine/\∃N:List V->St->Hp->Prop,(∀ys' σ' H',N ys' σ' H'->∃m',m'<m/\W (i+1) m' ys' σ' H') /\
  ∀x H',J.yld i H x H'->g x σ H' fun σ2 H2=>tt σ2 H2 fun b H3=>if b=true then te σ2 H3 fun y H4=>N (ys++[y]) σ2 H4 else N ys σ2 H3)
section
variable {X:Cx}{pins:List (Addr×Obj)}{σ:St}{H:Hp}{s:Shared}{scope:Scope}{Nc:List Str}{js:List Nat}{k:Nat}{tg iter elt:Expr}{ifs:List Expr}{pos:Pos}{g:TG}{tt:TT}{te:TE}
theorem z5J {J:It}{fp:List Addr}{it:Addr}{tn:Nat->Heap->Prop}{Fin:List V->Hp->Prop}{W:Nat->Nat->List V->St->Hp->Prop}{RR:Value->Addr->Result->Shared->Prop}{E:Value->Shared->Prop}{m0:Nat}
 (S:z0J X.env.scope X.N scope k Nc js) (hc:X.calm=true) (I:Inv X pins σ H s) (T:zcT X.prog X.w X.K tg J fp it tn) (st:tn 0 s.heap) (hf:∀b∈fp,z5y X pins H b)
 (hg:∀pins fp s H C,PG (X.comp pins Nc scope fp s H C) tg g) (ht:∀pins fp s H C,PTs (X.comp pins Nc scope fp s H C) ifs tt) (he:∀pins fp s H C,PE (X.comp pins Nc scope fp s H C) elt te)
 (w0:W 0 m0 [] (z5c k js σ) H) (turn:z2q J g tt te Fin W)
 (hRR:∀D C s' ys H',Inv X pins σ (upd H' D (.lst ys)) s'->z5y X pins (upd H' D (.lst ys)) C->(∃m,s'.heap.Ns C m)->H' D=none->Fin ys H'->RR (.ref D) C (.ok .next) s'):
 wpAny (model X.prog X.w) X.A (newList []) (fun acc s₃=>wpAny (model X.prog X.w) X.A (newFunctionEnv scope X.env.globals (z0Y X.env.cells scope.names []) [] X.env.qual none .none (some X.env)) (fun cenv s₄=>
  codeAny (model X.prog X.w) X.A (.compStart (.ListComp elt [⟨tg,iter,ifs,0⟩] scope pos) 0 (.ref it) acc { cenv with scope:=relabel scope X.env }) (RR acc cenv.locals) s₄) E s₃) E s:=by
 refine wpAny_newObj_type (wpAny_newFunctionEnv S.cell (by intro y hy;simp at hy) (fun h₁ hns₁ hsb₁=>?_) S.kind)
 dsimp only at hns₁ hsb₁ ⊢
 generalize hH2:s.heap.push { cls:=.type "list",dict:=none,data:=.seq ([]:List Value).toArray }=H2 at hns₁ hsb₁ ⊢
 have hC:H2.objs.size=s.heap.objs.size+1:=by rw[<- hH2,Heap.size_push]
 have hCle:s.heap.objs.size<=H2.objs.size:=by rw[hC];exact Nat.le_succ _
 have hDC:s.heap.objs.size≠H2.objs.size:=by rw[hC];exact qN (Nat.lt_succ_self _)
 have old:∀b o,s.heap.get? b=some o->h₁.get? b=some o:=fun b o e=>
  hsb₁.extBut b o (qN (qK (qy e) hCle)) (qc _ (hH2▸qc _ e))
 have hacc:h₁.get? s.heap.objs.size=some { cls:=.type "list",data:=.seq ([]:List Value).toArray 0 }:=hsb₁.extBut _ _ hDC (qc _ (hH2▸qw _ rfl))
 have hob:∀b∈fp,∃o,s.heap.get? b=some o:=fun b hb=>let ⟨o,e,_⟩:=T.obj 0 _ st b hb;⟨o,e⟩
 have hlt:∀b∈fp,b<s.heap.objs.size:=fun b hb=>let ⟨_,e⟩:=hob b hb;qy e
 have notstk:∀b∈fp,b∉frs X.stack:=fun b hb z=>by
  rcases qB.mp (I.stkSub b z)with e|e
  ·exact(hf b hb).2.1 e
  ·exact(hf b hb).2.2.1 e
 have hDstk:s.heap.objs.size∉frs X.stack:=fun z=>by
  rcases qB.mp (I.stkSub _ z)with e|e
  ·have:=I.lt
   rw[<- e]at this
   exact Nat.lt_irrefl _ this
  ·exact I.nofs (qh _) e
 let dpin:List Value->Nat->List (Addr×Obj):=fun its n=>[(s.heap.objs.size,{ cls:=.type "list",data:=.seq its.toArray n })]
 have fpok:∀{H':Hp}{its:List Value}{n:Nat},(∀b∈fp,H' b=none)->∀b∈fp,z5y (X.comp pins Nc scope fp s H H2.objs.size) (dpin its n) H' b:=fun{H' its n} hn b hb=>
  ⟨hn b hb,qN (qK (hlt b hb) hCle),notstk b hb,.inl hb,fun x c e=>(hf b hb).2.2.2.2.1 x c (z0Q e),fun p hp z=>by
   rcases qk.mp hp with q|q
   ·exact(hf b hb).2.2.2.2.2 p q z
   ·have e:p=(s.heap.objs.size,_):=List.mem_singleton.mp q
    rw[e]at z
    exact absurd (hlt b hb) (by rw[<- z];exact Nat.lt_irrefl _)⟩
 have loop:∀s₃:Shared,s₃={ s with heap:=h₁,toks:=s.toks+([]:List (Str×Value)).length }->
  codeAny (model X.prog X.w) X.A (.compLoop (.ListComp elt [⟨tg,iter,ifs,0⟩] scope pos) 0 (.ref it) (.ref s.heap.objs.size) (compEnvC scope (z0Y X.env.cells scope.names []) H2.objs.size X.env)) (RR (.ref s.heap.objs.size) H2.objs.size) s₃:=by
  rintro s₃ rfl
  refine z85 (fun n s'=>∃i ys its nn σc H',Inv (X.comp pins Nc scope fp s H H2.objs.size) [] σc H' s'/\tn i s'.heap/\(∀b∈fp,H' b=none)/\H' s.heap.objs.size=none/\z19 ys its /\
   s'.heap.get? s.heap.objs.size=some { cls:=.type "list",data:=.seq its.toArray nn }/\W i n ys σc H') ?_ m0 ?_
  ·rintro n s3 ⟨i,ys,its,nn,σ3,H3,I3,st3,fr3,hD3,hv3,ho3,w3⟩
   have I3':Inv (X.comp pins Nc scope fp s H H2.objs.size) (dpin its nn) σ3 H3 s3:=I3.pins_of fun p hp=>by
    have e:p=(s.heap.objs.size,_):=List.mem_singleton.mp hp
    subst e
    exact⟨ho3,hD3,hDC,hDstk,fun v z=>by cases z⟩
   rcases turn i n ys σ3 H3 w3 with⟨stop,hz,fin⟩|⟨go,hz,N,hN,step⟩
   ·refine thn (T.done (X.comp pins Nc scope fp s H H2.objs.size) rfl rfl rfl hc i (dpin its nn) s3 σ3 H3 (fun _ _=>False) I3' (fpok fr3) st3 stop) fun r s4 ⟨hr,I4⟩=>?_
    subst hr
    have ho4:=(I4.pin _ (qP _ (List.mem_singleton.mpr rfl))).1
    obtain⟨m4,hn4,_⟩:=I4.loc
    refine hRR _ _ s4 ys H3 (zay I hf (qh _) I4 hD3 hz hv3 ho4) (I.fpOk hCle ?_) ⟨m4,hn4⟩ hD3 fin
    rw[z06 (Ne.symm hDC)]
    exact I4.free
   ·refine thn (T.item (X.comp pins Nc scope fp s H H2.objs.size) rfl rfl rfl hc i (dpin its nn) s3 σ3 H3 (fun _ _=>False) I3' (fpok fr3) st3 go) fun r s4 ⟨u,hr,h4⟩=>?_
    subst hr
    refine thn h4 fun _ s5 ⟨x,H5,I5,r5,y5,st5,fr5⟩=>?_
    have I5':=I5.pinned (fpok fr5) (T.obj _ _ st5)
    refine thn (hg pins fp s H H2.objs.size _ s5 σ3 H5 x u _ I5' r5 (step x H5 y5)) fun _ s6 ⟨σ6,H6,I6,q6⟩=>?_
    refine thn (ht pins fp s H H2.objs.size _ s6 σ6 H6 _ I6 q6) fun ok s7 ⟨H7,I7,q7⟩=>?_
    have keepIt:∀{σ':St}{H':Hp}{s':Shared},Inv (X.comp pins Nc scope fp s H H2.objs.size) (dpin its nn++z70 fp s5.heap) σ' H' s'->
     s'.heap.get? s.heap.objs.size=some { cls:=.type "list",data:=.seq its.toArray nn }/\H' s.heap.objs.size=none/\(∀b∈fp,H' b=none)/\(∀b∈fp,∀o,s5.heap.get? b=some o->s'.heap.get? b=some o):=fun{σ' H' s'} J=>by
     have p1:=J.pin (s.heap.objs.size,_) (qP _ (List.mem_append_left _ (List.mem_singleton.mpr rfl)))
     refine⟨p1.1,p1.2.1,fun b hb=>?_,fun b hb o e=>(J.pin (b,o) (qP _ (qP _ (z3i hb e)))).1⟩
     obtain⟨o,e,_⟩:=T.obj _ _ st5 b hb
     exact(J.pin (b,o) (qP _ (qP _ (z3i hb e)))).2.1
    cases ok with
    |true=>
     rw[if_pos rfl]at q7 ⊢
     refine thn (he pins fp s H H2.objs.size _ s7 σ6 H7 _ I7 q7) fun y s8 ⟨v,H8,I8,r8,q8⟩=>?_
     obtain⟨ho8,hD8,fr8,k8⟩:=keepIt I8
     refine append_at (hsz:=by have:=hv3.length;show its.toArray.size<=sizeLine;rw[qJ,<- this];exact Nat.le_of_lt hz) ho8 fun h9 hs9 ho9=>?_
     obtain⟨m',hm',w9⟩:=hN _ _ _ q8
     have I8u:Inv (X.comp pins Nc scope fp s H H2.objs.size) [] σ6 H8 s8:=I8.pins_of fun p hp=>nomatch hp
     have I9:Inv (X.comp pins Nc scope fp s H H2.objs.size) [] σ6 H8 { s8 with heap:=h9 }:=I8u.turned (t':=s8.toks) (it:=s.heap.objs.size) (fun b o hb e=>(hs9.2 b hb).trans e) hD8 hDC (.inr (qh _)) (fun x c e z=>by
      obtain⟨v,q⟩:=I.cell x c (z0Q e)
      exact absurd q.lt (by rw[z];exact Nat.lt_irrefl _)) fun p hp z=>by
       have hp':p∈X.pn++pins:=by
        rcases qk.mp hp with q|q
        ·exact q
        ·exact nomatch q
       exact absurd (qy (I.pin p hp').1) (by rw[z];exact Nat.lt_irrefl _)
     refine⟨m',hm',i+1,ys++[v],its++[y],nn+1,σ6,H8,I9,T.keep _ _ _ st5 fun b hb o e=>(hs9.2 b (qN (hlt b hb))).trans (k8 b hb o e),fr8,hD8,hv3.append (.cons r8 .nil),?_,w9⟩
     show h9.get? s.heap.objs.size=_
     rw[ho9]
     simp
    |false=>
     rw[if_neg qm]at q7 ⊢
     obtain⟨ho8,hD8,fr8,k8⟩:=keepIt I7
     obtain⟨m',hm',w9⟩:=hN _ _ _ q7
     exact⟨m',hm',i+1,ys,its,nn,σ6,H7,I7.pins_of fun p hp=>(nomatch hp),T.keep _ _ _ st5 k8,fr8,hD8,hv3,ho8,w9⟩
  ·exact⟨0,[],[],0,_,H,zbB S I hf hlt hCle rfl I.bare old ⟨_,hns₁⟩,T.keep _ _ _ st fun b _ o e=>old b o e,fun b hb=>(hf b hb).1,I.hok.fresh (qh _),.nil,hacc,w0⟩
 exact codeAny_compStart_list (loop _ rfl) (T.self X.A 0 _ _ _ (T.keep _ _ _ st fun b _ o e=>old b o e) (loop _ rfl))
def zdd (wi:TI) (k:Nat) (js:List Nat) (g:TG) (tt:TT) (te:TE):TE:=fun σ H Q=>wi σ H fun J H1=>∃W:Nat->Nat->List V->St->Hp->Prop,(∃m,W 0 m [] (z5c k js σ) H1) /\
 z2q J g tt te (fun ys H=>∀D,H D=none->Q (.ref D) (upd H D (.lst ys))) W
theorem z2M {wi:TI}(S:z0J X.env.scope X.N scope k Nc js) (hc:X.calm=true) (hi:PI X tg iter wi)
 (hg:∀pins fp s H C,PG (X.comp pins Nc scope fp s H C) tg g) (ht:∀pins fp s H C,PTs (X.comp pins Nc scope fp s H C) ifs tt) (he:∀pins fp s H C,PE (X.comp pins Nc scope fp s H C) elt te)
 (hs:∀x,foldedSetIterable iter X.env x=pure x:=by intro _;rfl):PE X (.ListComp elt [⟨tg,iter,ifs,0⟩] scope pos) (zdd wi k js g tt te):=by
 intro pins s σ H Q I h
 rw[eval_ListComp]
 refine wpAny_comprehension_free (use:=none) rfl hs (S.clos I) S.kind S.names (thn (hi pins s σ H _ I h) fun xv s1 h1=>thn h1 fun itv s2 h2=>?_)
 obtain⟨it,fp,tn,J,H2,e,I2,T,st2,f2,W,⟨m0,w0⟩,turn⟩:=h2
 subst e
 refine z5J (RR:=fun acc C=>compPost (model X.prog X.w) X.A X.xe none (EP X pins σ Q) acc C) S hc I2 T st2 f2 hg ht he w0 turn fun D C s' ys H' I' fC ns hD fin=>?_
 obtain⟨m,hn⟩:=ns
 exact⟨m,hn,fun h' hs'=>⟨.ref D,_,I'.turned (t':=s'.toks) (fun b o hb e=>(hs'.2 b hb).trans e) fC.1 fC.2.1 fC.2.2.2.1 fC.2.2.2.2.1 fC.2.2.2.2.2,rfl,fin D hD⟩⟩
theorem z3f {wi:TI}{i:Nat}{x:Str}{px spos:Pos}(hN:X.N.Nodup) (hi':X.N[i]?=some x) (hx:Loc X.env.scope x) (S:z0J X.env.scope X.N scope k Nc js) (hc:X.calm=true) (hi:PI X tg iter wi)
 (hg:∀pins fp s H C,PG (X.comp pins Nc scope fp s H C) tg g) (ht:∀pins fp s H C,PTs (X.comp pins Nc scope fp s H C) ifs tt) (he:∀pins fp s H C,PE (X.comp pins Nc scope fp s H C) elt te)
 (hsw:swapsWith (.ListComp elt [⟨tg,iter,ifs,0⟩] scope pos) (some (.Name x px)) spos.line X.env=pure true:=by rfl)
 (hs:∀x,foldedSetIterable iter X.env x=pure x:=by intro _;rfl) (hf:X.fn x=true\/X.env.scope.names.lookup x=some .local:=by first|exact .inl rfl|exact .inr rfl|assumption):
 PS X (.Assign [.Name x px] (.ListComp elt [⟨tg,iter,ifs,0⟩] scope pos) spos) (zdS (zdd wi k js g tt te) (z7Z i)):=by
 intro pins s σ H D I h
 rw[exec_Assign_Name_used _ _ _ _ hsw]
 refine q9 (wpAny_standAt (q9 ?_))
 show wpAny _ X.A (do let _ <- comprehension (.ListComp elt [⟨tg,iter,ifs,0⟩] scope pos) scope X.env _ (newList []) false (eval iter X.env) (some (assign (.Name x px) X.env))) _ _ s
 refine q9 (wpAny_mono (wpAny_comprehension_free (use:=some (assign (.Name x px) X.env)) (Q:=fun _ s'=>SP X pins D .next s') rfl hs (S.clos I) S.kind S.names
  (thn (hi pins s σ H _ I h) fun xv s1 h1=>thn h1 fun itv s2 h2=>?_)) (fun _ s' hq=>qg (qg hq)) fun _ _ e=>e)
 obtain⟨it,fp,tn,J,H2,e,I2,T,st2,f2,W,⟨m0,w0⟩,turn⟩:=h2
 subst e
 refine z5J (RR:=fun acc C=>compPost (model X.prog X.w) X.A X.xe (some (assign (.Name x px) X.env)) (fun _ s'=>SP X pins D .next s') acc C) S hc I2 T st2 f2 hg ht he w0 turn fun A C s' ys H' I' fC ns hD fin=>?_
 obtain⟨m,hn⟩:=ns
 show wpAny _ X.A (assign (.Name x px) X.env (.ref A)) _ _ _
 refine wpAny_assign_Name (z6K I' hN hi' hx (v:=.ref A) rfl (fun s'' I'' ⟨a,sb,ha⟩=>?_) hf)
 have hCa:C≠a:=by
  rcases ha with ha|ha
  ·rw[ha];exact fC.2.1
  ·exact fun z=>fC.2.2.2.2.1 x a ha z.symm
 exact⟨m,hn.sameBut sb hCa,fun h' hs'=>⟨_,_,I''.turned (t':=s''.toks) (fun b o hb e=>(hs'.2 b hb).trans e) fC.1 fC.2.1 fC.2.2.2.1 fC.2.2.2.2.1 fC.2.2.2.2.2,fin A hD⟩⟩
end
section
variable {X:Cx}{tg:Expr}
theorem z48:OpR X (binaryOp .Mult) (fun x y H Q=>∃z n,x=.str z/\y=.int n/\MulOk z n/\Q (.str (Txt.mul z n)) H):=by
 intro pins s σ H x y v u Q I rx ry h
 obtain⟨z,n,rfl,rfl,hm,q⟩:=h
 obtain⟨t,rfl⟩:=rx
 obtain⟨t',rfl⟩:=ry
 exact PySem.SB.mul hm fun t' k=>⟨.str _,H,I.tok k,⟨t',rfl⟩,q⟩
theorem zcu:OpR X (binaryOp .Mult) (rI IntMulOk fun i j=>.int (i * j)):=opI fun _ _ _ _ _ _ _ hc q=>mul_int q hc
theorem z1I:z5f X (.builtin "isinstance") (fun xs H Q=>∃x t T b,xs=[x,.ty T]/\z8J X.K H x t/\PySem.W.kitOne X.K t (.type T)=some b/\Q (.bl b) H):=by
 intro pins s σ H xs us Q I r h
 obtain⟨x,t,T,b,rfl,ty,e,q⟩:=h
 obtain⟨u,c,rfl,ru,rc⟩:=zaT r
 have ec:c=.type T:=rc
 subst ec
 exact zac I ru ty e fun tk=>⟨.bl b,H,I.tok tk,rfl,q⟩
def zeh (K:PySem.W.Frag):R2:=fun x y H Q=>∃l b xs zs,x=.ref l/\y=.ref b/\SqL K H l xs/\SqL K H b zs/\xs.length+zs.length<=sizeLine/\∀p,H p=none->Q (.ref p) (upd H p (.lst (xs++zs)))
theorem z7L:OpR X (binaryOp .Add) (zeh X.K):=by
 intro pins s σ H x y v u Q I rx ry h
 obtain⟨l,b,xs,zs,rfl,rfl,hH,hB,hz,q⟩:=h
 cases rx
 cases ry
 obtain⟨its,r,pl,z1⟩:=I.list hH
 obtain⟨its2,r2,pl2,z2⟩:=I.list hB
 have hl1:=r.length
 have hl2:=r2.length
 obtain⟨⟨cls,dd,data,sl⟩,n,ho,hc,_,hd⟩:=pl
 obtain⟨⟨cls2,dd2,data2,sl2⟩,n2,ho2,hc2,_,hd2⟩:=pl2
 simp only at hc hd hc2 hd2
 subst hc hd hc2 hd2
 refine concat_meets ⟨_,ho,rfl⟩ ⟨_,ho2,rfl⟩ noFill_list_add seq_list_add PySem.F.slot_list_add PySem.F.entry_list_add (PySem.F.args_list_add_2 _ _) (list_addW l b its.toArray its2.toArray n n2 dd dd2 sl sl2 (by rw[qJ,qJ];omega)) ⟨ho,ho2,?_⟩
 have ea:its.toArray++its2.toArray=(its++its2).toArray:=by simp
 rw[ea]
 exact⟨.ref _,_,I.lnew (t':=s.toks) (r.append r2) (by rw[qe];omega),rfl,q _ I.fresh⟩
end
section
variable {X:Cx}
end
theorem zbE {te:TE}{N N':V->St->Hp->Prop}{M:St->Hp->Prop}:(fun(σ2:St) (H2:Hp)=>zd5 σ2 H2 fun b H3=>if b=true then te σ2 H3 fun y H4=>N y σ2 H4 else M σ2 H3)=fun σ2 H2=>te σ2 H2 fun y H4=>N y σ2 H4:=by
 funext σ2 H2
 unfold zd5
 dsimp only
 rw[if_pos rfl]
section
variable {X:Cx}
theorem z1Z:OpR X (binaryOp .Add) (fun x y H Q=>∃i j,x=.int i/\y=.int j/\Q (.int (i+j)) H):=zdw
theorem z51:OpR X (binaryOp .Sub) (fun x y H Q=>∃i j,x=.int i/\y=.int j/\Q (.int (i-j)) H):=zdp
theorem z3p:OpR X (binaryOp .Mult) (fun x y H Q=>∃i j,x=.int i/\y=.int j/\IntMulOk i j/\Q (.int (i * j)) H):=zcu
theorem z0H:OpR X (binaryOp .FloorDiv) (fun x y H Q=>∃i j,x=.int i/\y=.int j/\(0<j/\j<1073741824)/\Q (.int (i / j)) H):=zcv
theorem z0w:OpR X (binaryOp .Mod) (fun x y H Q=>∃i j,x=.int i/\y=.int j/\0<j/\Q (.int (i % j)) H):=zdt
theorem z5E:OpR X (binaryOp .Pow) (fun x y H Q=>∃i j,x=.int i/\y=.int j/\(0<=j/\j<=1000000/\i.natAbs<2 ^ 64)/\Q (.int (i ^ j.toNat)) H):=zdr
theorem z9S:OpR X (compareOp .Lt) (fun x y H Q=>∃i j,x=.int i/\y=.int j/\Q (.bl (decide (i<j))) H):=zek
theorem zcx:OpR X (compareOp .LtE) (fun x y H Q=>∃i j,x=.int i/\y=.int j/\Q (.bl (decide (i<=j))) H):=zel
theorem zbc:OpR X (compareOp .Gt) (fun x y H Q=>∃i j,x=.int i/\y=.int j/\Q (.bl (decide (j<i))) H):=zem
theorem zeq:OpR X (compareOp .GtE) (fun x y H Q=>∃i j,x=.int i/\y=.int j/\Q (.bl (decide (j<=i))) H):=zen
end
end L2
namespace Att
open PySem PySem.W PySem.Calls PyProof.Rows
theorem z7H {ns:List Int}(h:WData.layableAll [WData.list (ns.map WData.int)]=true):∀n∈ns,Builtin.Int.intBits n<=2 ^ 20:=fun n hn=>by
 have h1:=layableW_arg h _ (List.mem_singleton.mpr rfl)
 have h2:=layableW_item h1 (WData.int n) (List.mem_map.mpr ⟨n,hn,rfl⟩)
 exact PyData.bits_of_layable (layable0_of_all (lay0_int h2))
theorem attach_callB {l:OpenLaw}{n:Nat}{q:Program}{loose:List Str}{XP:(Str->Option Value)->Heap->Prop}{YP:World->Heap->Prop}{d:DefRec}
 (hn:l.most=some n) (hdf:d.params.defaults=[])
 (call:∀(w:World) (s₀ s₁:Shared) (mg mb:Str->Option Value) (fa:Addr) (o:Obj) (pm cd doc:Value) (a:Addr) (vs:List Value) (ns:List Int),
  Ground q loose [] XP w s₀ mg mb s₁.heap->YP w s₁.heap->
  s₁.heap.get? fa=some o->o.data=.func (docDef d.name d.params d.body d.scope pm cd doc)->s₁.heap.CodeRec cd d.name->mg d.name=some (.ref fa)->
  s₁.heap.get? a=some { cls:=.type "list",data:=.seq vs.toArray }->IntsAre vs ns->ns.length<=n->(∀k∈ns,Builtin.Int.intBits k<=2 ^ 20)->s₁.gens=#[]->
  codeAny (model l.prog w) callerA (.call (.ref fa) ⟨[.ref a],[]⟩) (fun r s'=>r=.ok (.ret (.bool true))/\OldK s₁.heap s'.heap/\s'.os=s₁.os/\AllBare s'.gens) s₁):
 WalkO q loose XP YP l.row.toRowW d [] (fun f vs=>PySem.call f vs):=by
 intro w s₀ s₁ mg mb G Y fa o pm cd doc dV kV ho hd hcd hD hmg hg args vals as hpre hlay hrd hwl hlo
 obtain rfl:dV=.none:=Dflts.none hD hdf
 obtain rfl:kV=.none:=Dflts.noKw hD
 obtain⟨a,vs,ns,rfl,rfl,hobj,hints,hlen⟩:=z9B hn hpre hwl
 refine enter_call (codeAny_mono (call w s₀ s₁ mg mb fa o pm cd doc a vs ns G Y ho (fd_plain hd) hcd hmg hobj hints hlen (z7H hlay) hg) fun r s' hq=>?_)
 obtain⟨rfl,h2,h3,h4⟩:=hq
 exact⟨.inl ⟨.bool true,.bool true,[],rfl,fun _=>rfl,.bool true,z9H l _,fun _=>⟨List.Pairwise.nil,fun _ hm=>(nomatch hm)⟩⟩,h2,h3,h4⟩
end Att
namespace L2
open PySem PySem.Spec PyProof.Rows
theorem zaS {l:PySem.W.OpenLaw}{n k:Nat}{q:Program}{loose:List Str}{XP:(Str->Option Value)->Heap->Prop}{YP:World->Heap->Prop}{d:DefRec}{K:Params->PySem.W.Frag}{CX:World->CXT}{sp:World->Sp}{x:Str}
 (hn:l.most=some n) (hn2:n<=sizeLine) (hdf:d.params.defaults=[]) (hr:z3B k callerA)
 (hY:∀(w:World) (h:Heap),YP w h->(K w.params).In h)
 (F:∀(w:World) (mg:Str->Option Value) (fa:Addr) (h:Heap),(K w.params).In h->h.Ns mainGlobals mg->mg d.name=some (.ref fa)->
  ∃fd:FuncData,(∀(s:Shared) (u:Value),BindsTo s fd ⟨[u],[]⟩ [(x,u)]) /\
   ∀base:Heap,(K w.params).In base->base.Ns mainGlobals mg->z1B l.prog w (K w.params) mg base (CX w) k fa fd [x] (sp w))
 (hsp:∀(w:World) (H:Hp) (a:Addr) (ns:List Int),ns.length<=n->(∀k∈ns,Builtin.Int.intBits k<=2 ^ 20)->ze1 H->SqL (K w.params) H a (ns.map V.int)->sp w [.ref a] H (fun v _=>v=.bl true) fun _ _ _=>False)
 (hCX:∀(w:World) (H:Hp) (s:Shared) (e:Value) (s':Shared),CX w [] H s (fun _ _ _=>False) e s'->False):
 PySem.W.WalkO q loose XP YP l.row.toRowW d [] (fun f vs=>PySem.call f vs):=by
 refine Att.attach_callB hn hdf fun w s₀ s₁ mg mb fa o pm cd doc a vs ns G Y ho hd hcd hmg hobj hints hlen hbits hg=>?_
 have KX:=hY w _ Y
 obtain⟨fd,hb,hF⟩:=F w mg fa _ KX G.T.g hmg
 exact zbk KX G.T.g G.T.b G.T.builtins G.T.nolimit hg hobj hints (qG hlen hn2) hr hF hb (fun H hO hS=>hsp w H a ns hlen hbits hO hS) fun H e s'=>hCX w H s₁ e s'
theorem z0f.new {H:Hp}{p:Addr}(h:H p=none) (o:HO):z0f H (upd H p o):=fun b u q=>by rw[z06 (z0t q h)];exact q
theorem z08 {n m:Nat}(h:n<=m) (hm:m<=1000000:=by decide):n<=sizeLine:=qG h (qG hm (by rw[sizeLine_eq];decide))
theorem z1e (x y:Str):(x++y).length=x.length+y.length:=strLen_append x y
theorem za8 {L Pc c A B:Prop}{inst:Decidable c}(hw:¬ c->Pc) (rest:Pc->L) (h:c->(Pc->L)->A) (e:B=L:=by rfl):@ite Prop c inst A B:=by
 subst e
 by_cases hc:c
 ·rw[if_pos hc];exact h hc rest
 ·rw[if_neg hc];exact rest (hw hc)
theorem zdC {i:Int}(h:i.natAbs<2 ^ 1000):i.natAbs.log2<1920:=by
 by_cases h0:i.natAbs=0
 ·rw[h0];decide
 ·exact Nat.lt_trans ((Nat.log2_lt h0).mpr h) (by decide)
theorem z7g (c:Array Nat):∀(k:Nat) (acc:Array Nat),((List.replicate k c).foldl (·++·) acc).size=acc.size+k * c.size
 |0,acc=>by simp
 |k+1,acc=>by
  rw[List.replicate_succ,List.foldl_cons,z7g c k,Array.size_append,Nat.succ_mul]
  omega
theorem z7Q (z:Str) {n:Int}(h0:0<=n):(Txt.mul z n).length=z.length * n.toNat:=by
 unfold Txt.mul
 by_cases h1:n<1
 ·rw[if_pos h1]
  have e:n.toNat=0:=by omega
  rw[e,Nat.mul_zero]
  rfl
 ·rw[if_neg h1]
  by_cases h2:(n == 1 || z.length == 0)=true
  ·rw[if_pos h2]
   simp only[Bool.or_eq_true,beq_iff_eq]at h2
   rcases h2 with rfl|h2
   ·simp
   ·rw[h2];simp
  ·rw[if_neg h2]
   show((List.replicate n.toNat z.cps).foldl (·++·) #[]).size=z.cps.size * n.toNat
   rw[z7g]
   simp[Nat.mul_comm]
theorem z9Z {z:Str}{n:Int}(hz:z.length<=1000) (h0:0<=n) (h1:n<=1000):MulOk z n:=by
 refine⟨?_,fun h2 _=>?_,fun _ _=>?_⟩
 ·rw[decide_eq_false (by omega),decide_eq_false (by omega)]
  rfl
 ·have h3:(1000:Int)<=(2 ^ 63-1) / n:=by
   rw[Int.le_ediv_iff_mul_le (by omega)]
   omega
  omega
 ·have h4:z.length * n.toNat<=1000 * 1000:=Nat.mul_le_mul hz (by omega)
  unfold Builtin.Str.tooLong
  have:=sizeLine_eq
  simp
  omega
def SIt (h:Heap):Bool->Addr->Addr->Nat->Prop
 |false,it,l,k=>h.IsListIter it l k
 |true,it,l,k=>h.IsTupleIter it l k
def SSq (h:Heap):Bool->Addr->Array Value->Prop
 |false,l,xs=>h.IsList l xs
 |true,l,xs=>h.IsTuple l xs
theorem SIt.obj {h:Heap}:∀{b:Bool}{it l:Addr}{k:Nat},SIt h b it l k->∃o,h.get? it=some o/\∃vs,o.data=.fields vs
 |false,_,_,_,⟨o,e,_,d⟩=>⟨o,e,_,d⟩
 |true,_,_,_,⟨o,e,_,d⟩=>⟨o,e,_,d⟩
theorem SIt.keep {h h':Heap}:∀{b:Bool}{it l:Addr}{k:Nat},SIt h b it l k->(∀o,h.get? it=some o->h'.get? it=some o)->SIt h' b it l k
 |false,_,_,_,⟨o,e,r⟩,f=>⟨o,f o e,r⟩
 |true,_,_,_,⟨o,e,r⟩,f=>⟨o,f o e,r⟩
theorem SSq.keep {h h':Heap}:∀{b:Bool}{l:Addr}{xs:Array Value},SSq h b l xs->(∀o,h.get? l=some o->h'.get? l=some o)->SSq h' b l xs
 |false,_,_,⟨o,e,r⟩,f=>⟨o,f o e,r⟩
 |true,_,_,⟨o,e,r⟩,f=>⟨o,f o e,r⟩
theorem SSq.obj {h:Heap}:∀{b:Bool}{l:Addr}{xs:Array Value},SSq h b l xs->∃o,h.get? l=some o/\∃n,o.data=.seq xs n
 |false,_,_,⟨o,e,_,n,d⟩=>⟨o,e,n,d⟩
 |true,_,_,⟨o,e,_,n,d⟩=>⟨o,e,n,d⟩
section
variable {prog:Program}{w:World}{A:Around}{E:Value->Shared->Prop}{s:Shared}
theorem z77 {it t:Addr}{k:Nat}{xs:Array Value}{x:Value}{Q:Value->Shared->Prop}(hi:s.heap.IsTupleIter it t k) (ht:s.heap.IsTuple t xs) (hx:xs[k]?=some x)
 (q:∀g,g.IsTupleIter it t (k+1)->Heap.SameBut it s.heap g->Q x { s with heap:=g }):wpAny (model prog w) A (Builtin.SmallTypes.nextOf (.ref it)) Q E s:=by
 obtain⟨o,e,c,d⟩:=id hi
 obtain⟨ot,et,_,nt,dt⟩:=ht
 unfold Builtin.SmallTypes.nextOf
 refine q9 (wpAny_callSpecial?_slot (name:=Str.ofString "__next__") hi.typeIs PySem.F.slot_tuple_iterator_next (wpAny_call_entry PySem.F.slot_tuple_iterator_next hi.typeIs PySem.F.entry_tuple_iterator_next ?_ (PySem.F.args_tuple_iterator_next_1 _)))
 show wpAny _ _ (field (.ref it) 0 >>= _) _ _ _;refine q9 (wpAny_field e d (x:=.ref t) rfl ?_)
 show wpAny _ _ (if(Value.ref t == Value.none)=true then _ else _) _ _ _;rw[if_neg (show ¬ (Value.ref t == Value.none)=true from qm)]
 show wpAny _ _ (field (.ref it) 1 >>= _) _ _ _;refine q9 (wpAny_field e d (x:=.int k 0) rfl ?_)
 show wpAny _ _ (seqItems? (.ref t) >>= _) _ _ _;refine q9 (wpAny_seqItems et dt ?_)
 simp only[Int.toNat_natCast,hx];refine q9 (wpAny_setField e d (by simp) (qg ⟨x,rfl,qg (q _ ?_ (Heap.SameBut.update ..))⟩))
 exact⟨_,Heap.get?_update_self _ e (Obj.isFreed_of_fields (Obj.data_mapFields d _)),(Obj.cls_mapFields ..).trans c,by rw[Obj.data_mapFields d];simp[rawInt]⟩
theorem z7P {it t:Addr}{k:Nat}{xs:Array Value}{Q:Value->Shared->Prop}(hh:A.handled=none) (hi:s.heap.IsTupleIter it t k) (ht:s.heap.IsTuple t xs) (hx:xs[k]?=none)
 (q:∀g x,Heap.ExtBut it s.heap g->(∃o,g.get? x=some o/\o.cls=.type "StopIteration")->E (.ref x) { s with heap:=g }):wpAny (model prog w) A (Builtin.SmallTypes.nextOf (.ref it)) Q E s:=by
 obtain⟨o,e,c,d⟩:=id hi
 obtain⟨ot,et,_,nt,dt⟩:=ht
 unfold Builtin.SmallTypes.nextOf
 refine q9 (wpAny_callSpecial?_slot (name:=Str.ofString "__next__") hi.typeIs PySem.F.slot_tuple_iterator_next (wpAny_call_entry PySem.F.slot_tuple_iterator_next hi.typeIs PySem.F.entry_tuple_iterator_next ?_ (PySem.F.args_tuple_iterator_next_1 _)))
 show wpAny _ _ (field (.ref it) 0 >>= _) _ _ _;refine q9 (wpAny_field e d (x:=.ref t) rfl ?_)
 show wpAny _ _ (if(Value.ref t == Value.none)=true then _ else _) _ _ _;rw[if_neg (show ¬ (Value.ref t == Value.none)=true from qm)]
 show wpAny _ _ (field (.ref it) 1 >>= _) _ _ _;refine q9 (wpAny_field e d (x:=.int k 0) rfl ?_)
 show wpAny _ _ (seqItems? (.ref t) >>= _) _ _ _;refine q9 (wpAny_seqItems et dt ?_)
 simp only[Int.toNat_natCast,hx];refine q9 (wpAny_rule (q9 (wpAny_setField e d (by simp) ?_)))
 show wpAny _ _ (newExc (.type "StopIteration") [] >>= _) _ _ _;refine q9 ?_;simp only[newExc,newTuple];refine q9 (wpAny_newObj_type ?_ (by size_fits))
 refine q9 (m:=firstArgMember _ _) (wpAny_of_eq (a:=Value.none) (by first|rfl|(simp only[firstArgMember];rfl)) (wpAny_newObj_type ?_ (by size_fits)))
 simp only[raiseNew];refine q9 (wpAny_handled ?_);first|rw[show A.in1.handled=none from hh]|rw[hh]
 refine q9 (qg (wpAny_throw (q _ _ (((Heap.SameBut.update ..).extBut.push _).push _) ⟨_,qw _ rfl,rfl⟩)))
theorem z6o {it l:Addr}{k:Nat}{xs:Array Value}{x:Value}{Q:Value->Shared->Prop}:∀{b:Bool},SIt s.heap b it l k->SSq s.heap b l xs->xs[k]?=some x->
 (∀g,SIt g b it l (k+1)->Heap.SameBut it s.heap g->Q x { s with heap:=g })->wpAny (model prog w) A (Builtin.SmallTypes.nextOf (.ref it)) Q E s
 |false,a,c,d,q=>wpAny_nextOf_list_item a c d q
 |true,a,c,d,q=>z77 a c d q
theorem z9U {it l:Addr}{k:Nat}{xs:Array Value}{Q:Value->Shared->Prop}(hh:A.handled=none):∀{b:Bool},SIt s.heap b it l k->SSq s.heap b l xs->xs[k]?=none->
 (∀g x,Heap.ExtBut it s.heap g->(∃o,g.get? x=some o/\o.cls=.type "StopIteration")->E (.ref x) { s with heap:=g })->wpAny (model prog w) A (Builtin.SmallTypes.nextOf (.ref it)) Q E s
 |false,a,c,d,q=>wpAny_nextOf_list_end hh a c d q
 |true,a,c,d,q=>z7P hh a c d q
structure ZAp (z TI TO i1 i2 l1 l2:Addr):Prop where
 a:TI≠z/\TO≠z/\i1≠z/\i2≠z/\TI≠TO/\TI≠i1/\TI≠i2/\TO≠i1/\TO≠i2/\i1≠i2
 l:∀c,c=l1\/c=l2->c≠z/\c≠TO/\c≠i1/\c≠i2/\c≠TI
theorem z9f {z TI TO i1 i2 l1 l2:Addr}{b1 b2:Bool}{k1 k2:Nat}{xs ys:Array Value}{x y a b:Value}{Q:Value->Shared->Prop}(D:ZAp z TI TO i1 i2 l1 l2)
 (hz:IsZip s.heap z TI TO .none) (hI:IsPair s.heap TI (.ref i1) (.ref i2)) (hO:IsPair s.heap TO a b) (t1:SIt s.heap b1 i1 l1 k1) (t2:SIt s.heap b2 i2 l2 k2) (q1:SSq s.heap b1 l1 xs) (q2:SSq s.heap b2 l2 ys) (ex:xs[k1]?=some x) (ey:ys[k2]?=some y)
 (q:∀g,IsZip g z TI TO (rawInt s.heap.objs.size)->IsPair g TO x y->SIt g b1 i1 l1 (k1+1)->SIt g b2 i2 l2 (k2+1)->IsPair g s.heap.objs.size x y->(∀c o,c≠z->c≠TO->c≠i1->c≠i2->s.heap.get? c=some o->g.get? c=some o)->Q (.ref s.heap.objs.size) { s with heap:=g }):
 wpAny (model prog w) A (Builtin.«zip.__next__» ⟨[.ref z],[]⟩) (fun fin s'=>∃v,fin=.done (.ret v)/\Q v s') E s:=by
 obtain⟨⟨nIz,nOz,n1z,n2z,nIO,nI1,nI2,nO1,nO2,n12⟩,lne⟩:=D
 obtain⟨m1z,m1O,m11,m12,m1I⟩:=lne l1 (.inl rfl)
 obtain⟨m2z,m2O,m21,m22,m2I⟩:=lne l2 (.inr rfl)
 show wpAny _ _ (field (.ref z) 2 >>= _) _ _ _;refine q9 (wpAny_field hz rfl (x:=.bool false) rfl ?_)
 show wpAny _ _ (field (.ref z) 3 >>= _) _ _ _;refine q9 (wpAny_field hz rfl (x:=.ref TI) rfl (q9 (wpAny_seqItems hI rfl ?_)))
 show wpAny _ _ (Builtin.SmallTypes.ownedTupleIsFree (.ref z) >>= _) _ _ _;refine q9 ?_;unfold Builtin.SmallTypes.ownedTupleIsFree
 refine q9 (wpAny_field hz rfl (x:=.none) rfl (qg ?_));simp only[if_true]
 refine q9 (wpAny_rule (q9 (wpAny_field hz rfl (x:=.ref TO) rfl (q9 (wpAny_setField_rec hz (by simp) fun g1 z1 s1=>?_)))))
 replace z1:IsZip g1 z TI TO .ellipsis:=z1
 refine q9 ?_;simp only[List.zipIdx_cons,List.zipIdx_nil,List.forIn_cons,List.forIn_nil];refine q9 (q9 (wpAny_onRaise ?_))
 show wpAny _ _ (Builtin.SmallTypes.nextOf (.ref i1) >>= _) _ _ _
 refine q9 (z6o (b:=b1) (t1.keep fun o e=>s1.extBut _ _ n1z e) (q1.keep fun o e=>s1.extBut _ _ m1z e) ex fun g2 u1 s2=>qg ?_)
 have o2:IsPair g2 TO a b:=s2.extBut _ _ nO1 (s1.extBut _ _ nOz hO)
 refine q9 (wpAny_seqItems o2 rfl (q9 (wpAny_updateSeq_pair o2 fun g3 o3 s3=>q9 (wpAny_letGo (qg ?_)))))
 replace o3:IsPair g3 TO x b:=o3
 refine q9 (q9 (wpAny_onRaise ?_));show wpAny _ _ (Builtin.SmallTypes.nextOf (.ref i2) >>= _) _ _ _
 refine q9 (z6o (b:=b2) (t2.keep fun o e=>s3.extBut _ _ nO2.symm (s2.extBut _ _ n12.symm (s1.extBut _ _ n2z e))) (q2.keep fun o e=>s3.extBut _ _ m2O (s2.extBut _ _ m21 (s1.extBut _ _ m2z e))) ey fun g4 u2 s4=>qg ?_)
 have o4:IsPair g4 TO x b:=s4.extBut _ _ nO2 o3
 refine q9 (wpAny_seqItems o4 rfl (q9 (wpAny_updateSeq_pair o4 fun g5 o5 s5=>q9 (wpAny_letGo (qg (qg ?_))))))
 replace o5:IsPair g5 TO x y:=o5
 refine q9 (wpAny_seqItems o5 rfl (q9 (wpAny_newTuple ?_)))
 have sz:g5.objs.size=s.heap.objs.size:=by rw[s5.1,s4.1,s3.1,s2.1,s1.1]
 have z5:IsZip g5 z TI TO .ellipsis:=s5.extBut _ _ nOz.symm (s4.extBut _ _ n2z.symm (s3.extBut _ _ nOz.symm (s2.extBut _ _ n1z.symm z1)))
 have k5:∀c o,c≠z->c≠TO->c≠i1->c≠i2->s.heap.get? c=some o->g5.get? c=some o:=fun c o h1 h2 h3 h4 e=>s5.extBut _ _ h2 (s4.extBut _ _ h4 (s3.extBut _ _ h2 (s2.extBut _ _ h3 (s1.extBut _ _ h1 e))))
 have v1:SIt g5 b1 i1 l1 (k1+1):=u1.keep fun o e=>s5.extBut _ _ nO1.symm (s4.extBut _ _ n12 (s3.extBut _ _ nO1.symm e))
 have v2:SIt g5 b2 i2 l2 (k2+1):=u2.keep fun o e=>s5.extBut _ _ nO2.symm e
 have zlt:z<g5.objs.size:=qy z5
 show wpAny _ _ (Builtin.SmallTypes.ownedTupleHandOut (.ref z) (.ref g5.objs.size) >>= _) _ _ _;refine q9 ?_;unfold Builtin.SmallTypes.ownedTupleHandOut
 have z6:IsZip (g5.push { cls:=.type "tuple",data:=.seq #[x,y] }) z TI TO .ellipsis:=qc _ z5
 refine q9 (wpAny_setField_rec z6 (by simp) fun g7 z7 s7=>?_)
 replace z7:IsZip g7 z TI TO (rawInt g5.objs.size):=z7
 refine wpAny_setField_rec z7 (by simp) fun g8 z8 s8=>?_
 replace z8:IsZip g8 z TI TO (rawInt g5.objs.size):=z8
 have up:∀c o,c≠z->g5.get? c=some o->g8.get? c=some o:=fun c o h1 e=>s8.extBut _ _ h1 (s7.extBut _ _ h1 (qc _ e))
 have t8:IsPair g8 g5.objs.size x y:=s8.extBut _ _ (Nat.ne_of_gt zlt) (s7.extBut _ _ (Nat.ne_of_gt zlt) (qw _ rfl))
 rw[sz]at z8 t8
 refine qg ⟨_,rfl,?_⟩
 show Q (.ref g5.objs.size) _
 rw[sz]
 exact q g8 z8 (up _ _ nOz o5) (v1.keep fun o e=>up _ o n1z e) (v2.keep fun o e=>up _ o n2z e) t8 fun c o h1 h2 h3 h4 e=>up c o h1 (k5 c o h1 h2 h3 h4 e)
theorem zaN {z TI TO i1 i2 l1 l2:Addr}{b1 b2:Bool}{k1 k2:Nat}{xs ys:Array Value}{a b:Value}{Q:Fin->Shared->Prop}(hh:A.handled=none) (D:ZAp z TI TO i1 i2 l1 l2)
 (hz:IsZip s.heap z TI TO .none) (hI:IsPair s.heap TI (.ref i1) (.ref i2)) (hO:IsPair s.heap TO a b) (t1:SIt s.heap b1 i1 l1 k1) (t2:SIt s.heap b2 i2 l2 k2) (q1:SSq s.heap b1 l1 xs) (q2:SSq s.heap b2 l2 ys) (hend:xs[k1]?=none\/ys[k2]?=none)
 (q:∀g e,(∀c o,c≠z->c≠TO->c≠i1->c≠i2->s.heap.get? c=some o->g.get? c=some o)->(∃o,g.get? e=some o/\o.cls=.type "StopIteration")->E (.ref e) { s with heap:=g }):
 wpAny (model prog w) A (Builtin.«zip.__next__» ⟨[.ref z],[]⟩) Q E s:=by
 obtain⟨⟨nIz,nOz,n1z,n2z,nIO,nI1,nI2,nO1,nO2,n12⟩,lne⟩:=D
 obtain⟨m1z,m1O,m11,m12,m1I⟩:=lne l1 (.inl rfl)
 obtain⟨m2z,m2O,m21,m22,m2I⟩:=lne l2 (.inr rfl)
 show wpAny _ _ (field (.ref z) 2 >>= _) _ _ _;refine q9 (wpAny_field hz rfl (x:=.bool false) rfl ?_)
 show wpAny _ _ (field (.ref z) 3 >>= _) _ _ _;refine q9 (wpAny_field hz rfl (x:=.ref TI) rfl (q9 (wpAny_seqItems hI rfl ?_)))
 show wpAny _ _ (Builtin.SmallTypes.ownedTupleIsFree (.ref z) >>= _) _ _ _;refine q9 ?_;unfold Builtin.SmallTypes.ownedTupleIsFree
 refine q9 (wpAny_field hz rfl (x:=.none) rfl (qg ?_));simp only[if_true]
 refine q9 (wpAny_rule (q9 (wpAny_field hz rfl (x:=.ref TO) rfl (q9 (wpAny_setField_rec hz (by simp) fun g1 z1 s1=>?_)))))
 replace z1:IsZip g1 z TI TO .ellipsis:=z1
 refine q9 ?_;simp only[List.zipIdx_cons,List.zipIdx_nil,List.forIn_cons,List.forIn_nil];refine q9 (q9 (wpAny_onRaise ?_))
 show wpAny _ _ (Builtin.SmallTypes.nextOf (.ref i1) >>= _) _ _ _
 cases ex:xs[k1]? with
 |none=>
  refine q9 (z9U (b:=b1) hh (t1.keep fun o e=>s1.extBut _ _ n1z e) (q1.keep fun o e=>s1.extBut _ _ m1z e) ex fun g2 v s2 hv=>?_)
  obtain⟨ov,ev,cv⟩:=hv
  have z2:IsZip g2 z TI TO .ellipsis:=s2 _ _ n1z.symm z1
  have nv:v≠z:=fun h=>by subst h;rw[z2]at ev;cases ev;simp at cv
  exact wpAny_setField_rec z2 (by simp) fun g3 _ s3=>q g3 v (fun c o h1 _ h3 _ e=>s3.extBut _ _ h1 (s2 _ _ h3 (s1.extBut _ _ h1 e))) ⟨ov,s3.extBut _ _ nv ev,cv⟩
 |some x=>
  have ey:ys[k2]?=none:=by rcases hend with h|h;rw[ex]at h;cases h;exact h
  refine q9 (z6o (b:=b1) (t1.keep fun o e=>s1.extBut _ _ n1z e) (q1.keep fun o e=>s1.extBut _ _ m1z e) ex fun g2 u1 s2=>qg ?_)
  have o2:IsPair g2 TO a b:=s2.extBut _ _ nO1 (s1.extBut _ _ nOz hO)
  refine q9 (wpAny_seqItems o2 rfl (q9 (wpAny_updateSeq_pair o2 fun g3 o3 s3=>q9 (wpAny_letGo (qg ?_)))))
  refine q9 (q9 (wpAny_onRaise ?_));show wpAny _ _ (Builtin.SmallTypes.nextOf (.ref i2) >>= _) _ _ _
  refine q9 (z9U (b:=b2) hh (t2.keep fun o e=>s3.extBut _ _ nO2.symm (s2.extBut _ _ n12.symm (s1.extBut _ _ n2z e))) (q2.keep fun o e=>s3.extBut _ _ m2O (s2.extBut _ _ m21 (s1.extBut _ _ m2z e))) ey fun g4 v s4 hv=>?_)
  obtain⟨ov,ev,cv⟩:=hv
  have z4:IsZip g4 z TI TO .ellipsis:=s4 _ _ n2z.symm (s3.extBut _ _ nOz.symm (s2.extBut _ _ n1z.symm z1))
  have nv:v≠z:=fun h=>by subst h;rw[z4]at ev;cases ev;simp at cv
  exact wpAny_setField_rec z4 (by simp) fun g5 _ s5=>q g5 v (fun c o h1 h2 h3 h4 e=>s5.extBut _ _ h1 (s4 _ _ h4 (s3.extBut _ _ h2 (s2.extBut _ _ h3 (s1.extBut _ _ h1 e))))) ⟨ov,s5.extBut _ _ nv ev,cv⟩
end
section
variable {X:Cx}{pins:List (Addr×Obj)}{σ:St}{H:Hp}{s:Shared}{h':Heap}
theorem Inv.turnedL {t':Nat}{ch:List Addr}(I:Inv X pins σ H s) (k:∀b o,b∉ch->s.heap.get? b=some o->h'.get? b=some o) (hf:∀b∈ch,z5y X pins H b):Inv X pins σ H { s with heap:=h',toks:=t' }:=by
 have nit:∀b u,H b=some u->b∉ch:=fun b u e z=>by rw[(hf b z).1]at e;cases e
 have hL:X.env.locals∉ch:=fun z=>(hf _ z).2.1 rfl
 refine I.step (g':=s.gens) (d':=s.drawn) (ch:=ch) (fun b hb=>⟨(hf b hb).2.2.2.1,(hf b hb).2.1,(hf b hb).2.2.2.2.1,(hf b hb).2.2.2.2.2⟩) (fun b o _ _ hc e _=>k b o hc e) (fun b o _ _ hc e _=>⟨o.slots,k b o hc e⟩) (fun _ _ _ _ n=>n)
  (fun b o hc e=>⟨o,k b o hc e⟩) (fun _ _ e=>e) (fun _ _ _ e=>e) (fun b ps e=>⟨#[],by rw[e];simp⟩) (fun m hm=>?_) (fun b u e=>?_) I.bare
 ·obtain⟨o,es,ep,ho,r⟩:=hm
  exact⟨o,es,ep,k _ o hL ho,r⟩
 ·refine(I.hok b u e).stay (fun c v hc q=>k c v ?_ q) (fun _ q=>q) fun _ _ q=>q
  rcases hc with z|z
  ·rw[z];exact nit b u e
  ·exact nit c _ z
theorem Inv.track {T:Addr}{o:HO}(I:Inv X pins σ H s) (f:z5y X pins H T) (hs:X.s₀.heap.objs.size<=T) (new:z1o X.prog X.w (upd H T o) s.heap T o):Inv X pins σ (upd H T o) s:=by
 obtain⟨f0,f1,f2,_,f4,f5⟩:=f
 have old:∀b u,X.s₀.heap.get? b=some u->b≠T:=fun b u e=>qN (qK (qy e) hs)
 refine⟨I.ok,I.os,I.bare,⟨I.base.keep,I.base.slot,fun b u e n hx=>?_,I.base.there,fun b xs e=>?_,fun b u v e=>?_,fun b ps e=>?_⟩,I.loc,I.cell,?_,fun x c e=>?_,fun p hp=>?_,fun b u e=>?_,I.len⟩
 ·rw[z06 (old b u e)];exact I.base.free b u e n hx
 ·rw[z06 (z0t (I.base.tups b xs e) f0)];exact I.base.tups b xs e
 ·rw[z06 (z0t (I.base.frzs b u v e) f0)];exact I.base.frzs b u v e
 ·obtain⟨more,q⟩:=I.base.tbls b ps e
  exact⟨more,by rw[z06 (z0t q f0)];exact q⟩
 ·rw[z06 (Ne.symm f1)];exact I.free
 ·rw[z06 (f4 x c e)];exact I.freeC x c e
 ·obtain⟨e,n,ne,nf,d⟩:=I.pin p hp
  exact⟨e,by rw[z06 (f5 p hp)];exact n,ne,nf,d⟩
 ·by_cases hb:b=T
  ·subst hb
   rw[z01]at e
   cases e
   exact new
  ·rw[z06 hb]at e
   exact(I.hok b u e).stay (fun c v _ q=>q) (fun c q=>by rw[z06 (z0t q f0)];exact q) fun c xs q=>by rw[z06 (z0t q f0)];exact q
end
def SqB (K:PySem.W.Frag) (H:Hp):Bool->Addr->List V->Prop
 |false,a,xs=>SqL K H a xs
 |true,a,xs=>SqT K H a xs
theorem SqB.at {X:Cx}{pins:List (Addr×Obj)}{σ:St}{H:Hp}{s:Shared}(I:Inv X pins σ H s):∀{b:Bool}{a:Addr}{xs:List V},SqB X.K H b a xs->∃its:List Value,z19 xs its/\SSq s.heap b a its.toArray/\xs.length<=sizeLine
 |false,_,_,h=>let ⟨its,r,p,z⟩:=I.list h;⟨its,r,p.isList,z⟩
 |true,_,_,h=>let ⟨its,r,p,z⟩:=I.tuple h;⟨its,r,p,z⟩
theorem SqB.inj {X:Cx}{pins:List (Addr×Obj)}{σ:St}{H:Hp}{s:Shared}(I:Inv X pins σ H s):∀{b:Bool}{a:Addr}{xs ys:List V},SqB X.K H b a xs->SqB X.K H b a ys->xs=ys
 |false,_,_,_,h,h'=>I.list_inj h h'
 |true,_,_,_,h,h'=>I.tuple_inj h h'
def Itz (K:PySem.W.Frag) (b1 b2:Bool) (l1 l2:Addr):It:=
 ⟨fun i H=>∃xs ys x y,SqB K H b1 l1 xs/\SqB K H b2 l2 ys/\xs[i]?=some x/\ys[i]?=some y,
  fun i H v H'=>∃p x y,H p=none/\v=.ref p/\H'=upd H p (.tup [x,y])/\(∀xs,SqB K H b1 l1 xs->xs[i]?=some x)/\∀ys,SqB K H b2 l2 ys->ys[i]?=some y,
  fun i H=>∃xs ys,SqB K H b1 l1 xs/\SqB K H b2 l2 ys/\(xs.length<=i\/ys.length<=i)⟩
section
variable {prog:Program}{w:World}{A:Around}{E:Value->Shared->Prop}{s:Shared}
theorem z9e {z TI TO i1 i2 l1 l2:Addr}{b1 b2:Bool}{k1 k2:Nat}{xs ys:Array Value}{x y a b:Value}{Q:Option Value->Shared->Prop}(D:ZAp z TI TO i1 i2 l1 l2)
 (hz:IsZip s.heap z TI TO .none) (hI:IsPair s.heap TI (.ref i1) (.ref i2)) (hO:IsPair s.heap TO a b) (t1:SIt s.heap b1 i1 l1 k1) (t2:SIt s.heap b2 i2 l2 k2) (q1:SSq s.heap b1 l1 xs) (q2:SSq s.heap b2 l2 ys) (ex:xs[k1]?=some x) (ey:ys[k2]?=some y)
 (q:∀g,IsZip g z TI TO (rawInt s.heap.objs.size)->IsPair g TO x y->SIt g b1 i1 l1 (k1+1)->SIt g b2 i2 l2 (k2+1)->IsPair g s.heap.objs.size x y->(∀c o,c≠z->c≠TO->c≠i1->c≠i2->s.heap.get? c=some o->g.get? c=some o)->Q (some (.ref s.heap.objs.size)) { s with heap:=g }):
 wpAny (model prog w) A (pyNext (.ref z)) Q E s:=by
 have ty:s.TypeIs (.ref z) "zip":=⟨_,hz,rfl⟩
 unfold pyNext
 exact q9 (wpAny_attempt (wpAny_callSpecial?_slot (name:=Str.ofString "__next__") ty PySem.F.slot_zip_next (wpAny_call_entry PySem.F.slot_zip_next ty PySem.F.entry_zip_next (z9f D hz hI hO t1 t2 q1 q2 ex ey fun g a1 a2 a3 a4 a5 a6=>qg (q g a1 a2 a3 a4 a5 a6)) (PySem.F.args_zip_next_1 _))))
theorem zaM {z TI TO i1 i2 l1 l2:Addr}{b1 b2:Bool}{k1 k2:Nat}{xs ys:Array Value}{a b:Value}{Q:Option Value->Shared->Prop}(hh:A.handled=none) (D:ZAp z TI TO i1 i2 l1 l2)
 (hz:IsZip s.heap z TI TO .none) (hI:IsPair s.heap TI (.ref i1) (.ref i2)) (hO:IsPair s.heap TO a b) (t1:SIt s.heap b1 i1 l1 k1) (t2:SIt s.heap b2 i2 l2 k2) (q1:SSq s.heap b1 l1 xs) (q2:SSq s.heap b2 l2 ys) (hend:xs[k1]?=none\/ys[k2]?=none)
 (q:∀g,(∀c o,c≠z->c≠TO->c≠i1->c≠i2->s.heap.get? c=some o->g.get? c=some o)->Q none { s with heap:=g }):wpAny (model prog w) A (pyNext (.ref z)) Q E s:=by
 have ty:s.TypeIs (.ref z) "zip":=⟨_,hz,rfl⟩
 unfold pyNext
 refine q9 (wpAny_attempt (wpAny_callSpecial?_slot (name:=Str.ofString "__next__") ty PySem.F.slot_zip_next (wpAny_call_entry PySem.F.slot_zip_next ty PySem.F.entry_zip_next (zaN hh D hz hI hO t1 t2 q1 q2 hend fun g e hk he=>?_) (PySem.F.args_zip_next_1 _))))
 obtain⟨o,ho,hc⟩:=he
 exact q9 (wpAny_isInstance (T:="StopIteration") (b:=true) ⟨o,ho,hc⟩ isSubtype_stop (qg (q _ hk)))
end
theorem zaV {P:Program}{w:World}{K:PySem.W.Frag}{elts:List Expr}{kk:Nat}{tp:Pos}{b1 b2:Bool}(z TI TO i1 i2 l1 l2:Addr) (D:ZAp z TI TO i1 i2 l1 l2):
 zcT P w K (.Tuple elts kk tp) (Itz K b1 b2 l1 l2) [z,TI,TO,i1,i2] z (fun i h=>IsZip h z TI TO .none/\IsPair h TI (.ref i1) (.ref i2)/\(∃a b,IsPair h TO a b)/\SIt h b1 i1 l1 i/\SIt h b2 i2 l2 i) where
 mem:=by simp
 obj:=fun i h st b hb=>by
  obtain⟨hz,hI,⟨a,c,hO⟩,t1,t2⟩:=st
  simp only[qB,List.not_mem_nil,or_false]at hb
  rcases hb with rfl|rfl|rfl|rfl|rfl
  ·exact⟨_,hz,fun v q=>by cases q⟩
  ·exact⟨_,hI,fun v q=>by cases q⟩
  ·exact⟨_,hO,fun v q=>by cases q⟩
  ·obtain⟨o,e,vs,d⟩:=t1.obj
   exact⟨o,e,fun v q=>by rw[d]at q;cases q⟩
  ·obtain⟨o,e,vs,d⟩:=t2.obj
   exact⟨o,e,fun v q=>by rw[d]at q;cases q⟩
 keep:=fun i h h' st k=>by
  obtain⟨hz,hI,⟨a,c,hO⟩,t1,t2⟩:=st
  exact⟨k z (by simp) _ hz,k TI (by simp) _ hI,⟨a,c,k TO (by simp) _ hO⟩,t1.keep fun o e=>k i1 (by simp) o e,t2.keep fun o e=>k i2 (by simp) o e⟩
 item:=by
  intro X hP hw hK hc i pins s σ H E I hf st hg
  subst hP hw hK
  obtain⟨hz,hI,⟨a,c,hO⟩,t1,t2⟩:=st
  obtain⟨xs,ys,x,y,hx,hy,ex,ey⟩:=hg
  obtain⟨its,rv,q1,z1⟩:=SqB.at I hx
  obtain⟨jts,rw',q2,z2⟩:=SqB.at I hy
  obtain⟨u,hu,ru⟩:=rv.get ex
  obtain⟨v,hv,rv'⟩:=rw'.get ey
  refine z9e D hz hI hO t1 t2 q1 q2 (x:=u) (y:=v) (by simpa using hu) (by simpa using hv) fun g a1 a2 a3 a4 a5 a6=>⟨_,rfl,?_⟩
  refine wpAny_letOwnedTupleGo_zip a1 fun g' a1' sb=>?_
  obtain⟨⟨nIz,nOz,n1z,n2z,nIO,nI1,nI2,nO1,nO2,n12⟩,lne⟩:=id D
  have hT:∀b∈[z,TI,TO,i1,i2],s.heap.objs.size≠b:=fun b hb=>by
   have:∃o,s.heap.get? b=some o:=by
    simp only[qB,List.not_mem_nil,or_false]at hb
    rcases hb with rfl|rfl|rfl|rfl|rfl
    ·exact⟨_,hz⟩
    ·exact⟨_,hI⟩
    ·exact⟨_,hO⟩
    ·obtain⟨o,e,_⟩:=t1.obj;exact⟨o,e⟩
    ·obtain⟨o,e,_⟩:=t2.obj;exact⟨o,e⟩
   obtain⟨o,e⟩:=this
   exact Nat.ne_of_gt (qy e)
  have kk:∀b o,b∉[z,TI,TO,i1,i2]->s.heap.get? b=some o->g'.get? b=some o:=fun b o hb e=>by
   simp only[qB,List.not_mem_nil,or_false,not_or]at hb
   exact sb.extBut _ _ hb.1 (a6 b o hb.1 hb.2.2.1 hb.2.2.2.1 hb.2.2.2.2 e)
  have I1:Inv X pins σ H { s with heap:=g' }:=I.turnedL (t':=s.toks) kk hf
  have pT:IsPair g' s.heap.objs.size u v:=sb.extBut _ _ (hT z (by simp)) a5
  have fT:z5y X pins H s.heap.objs.size:=I.fpOk (qh _) (I.hok.fresh (qh _))
  have I2:Inv X pins σ (upd H s.heap.objs.size (.tup [x,y])) { s with heap:=g' }:=I1.track fT I.sz ⟨by show 2<=sizeLine;decide,[u,v],.cons ru (.cons rv' .nil),⟨_,pT,rfl,_,rfl⟩⟩
  refine⟨.ref s.heap.objs.size,_,I2,rfl,⟨_,x,y,I.hok.fresh (qh _),rfl,rfl,fun xs' h=>by rw[SqB.inj I h hx];exact ex,fun ys' h=>by rw[SqB.inj I h hy];exact ey⟩,?_,fun b hb=>?_⟩
  ·exact⟨a1',sb.extBut _ _ nIz (a6 TI _ nIz nIO nI1 nI2 hI),⟨u,v,sb.extBut _ _ nOz a2⟩,a3.keep fun o e=>sb.extBut _ _ n1z e,a4.keep fun o e=>sb.extBut _ _ n2z e⟩
  ·rw[z06 (Ne.symm (hT b hb))]
   exact(hf b hb).1
 done:=by
  intro X hP hw hK hc i pins s σ H E I hf st hg
  subst hP hw hK
  obtain⟨hz,hI,⟨a,c,hO⟩,t1,t2⟩:=st
  obtain⟨xs,ys,hx,hy,hend⟩:=hg
  obtain⟨its,rv,q1,z1⟩:=SqB.at I hx
  obtain⟨jts,rw',q2,z2⟩:=SqB.at I hy
  have e1:=rv.length
  have e2:=rw'.length
  refine zaM (I.ok.hd hc) D hz hI hO t1 t2 q1 q2 (by
   rcases hend with h|h
   ·exact .inl (by simp;omega)
   ·exact .inr (by simp;omega)) fun g k=>⟨rfl,I.turnedL (t':=s.toks) (ch:=[z,TI,TO,i1,i2]) (fun b o hb e=>?_) hf⟩
  simp only[qB,List.not_mem_nil,or_false,not_or]at hb
  exact k b o hb.1 hb.2.2.1 hb.2.2.2.1 hb.2.2.2.2 e
 self:=fun _ _ _ _ _ st h=>wpAny_pyIter_zip st.1 h
def z6u (b:Bool) (l:Addr):Obj:={ cls:=.type (if b=true then "tuple_iterator" else "list_iterator"),data:=.fields #[.ref l,.int 0 0] }
theorem SIt.new {h:Heap}:∀{b:Bool}{it l:Addr},h.get? it=some (z6u b l)->SIt h b it l 0
 |false,_,_,e=>⟨_,e,rfl,rfl⟩
 |true,_,_,e=>⟨_,e,rfl,rfl⟩
def zg2 (h:Heap) (b1 b2:Bool) (l1 l2:Addr):Heap:=(h.push (z6u b1 l1)).push (z6u b2 l2)
def zg3 (h:Heap) (b1 b2:Bool) (l1 l2:Addr):Heap:=(zg2 h b1 b2 l1 l2).push { cls:=.type "tuple",data:=.seq #[.ref h.objs.size,.ref (h.push (z6u b1 l1)).objs.size] }
def zg4 (h:Heap) (b1 b2:Bool) (l1 l2:Addr):Heap:=(zg3 h b1 b2 l1 l2).push { cls:=.type "tuple",data:=.seq #[.none,.none] }
def zg5 (h:Heap) (b1 b2:Bool) (l1 l2:Addr):Heap:=(zg4 h b1 b2 l1 l2).push { cls:=.type "zip",data:=.fields #[.none,.bool false,.bool false,.ref (zg2 h b1 b2 l1 l2).objs.size,.ref (zg3 h b1 b2 l1 l2).objs.size] }
theorem zdI {prog:Program}{w:World}{A:Around}{E:Value->Shared->Prop}{s:Shared}{l:Addr}{xs:Array Value}{Q:Value->Shared->Prop}:∀{b:Bool},SSq s.heap b l xs->Q (.ref s.heap.objs.size) { s with heap:=s.heap.push (z6u b l) }->wpAny (model prog w) A (pyIter (.ref l)) Q E s
 |false,h,q=>wpAny_pyIter_list h q
 |true,h,q=>wpAny_pyIter_tuple h q
theorem SSq.push {h:Heap}{b:Bool}{l:Addr}{xs:Array Value}(x:SSq h b l xs) (o:Obj):SSq (h.push o) b l xs:=x.keep fun _ e=>qc _ e
set_option maxHeartbeats 8000000 in
theorem zbV (b1 b2:Bool) (l1 l2:Addr) (xs ys:Array Value):
 Meets (Builtin.«zip.__new__» ⟨[.type "zip",.ref l1,.ref l2],[]⟩) (fun _ R s=>SSq s.heap b1 l1 xs/\SSq s.heap b2 l2 ys/\R (.ok (.ret (.ref (zg4 s.heap b1 b2 l1 l2).objs.size))) { s with heap:=zg5 s.heap b1 b2 l1 l2 }):=
 .of_wp fun prog w A R s h=>by
  obtain⟨hp,g,d,tk,os⟩:=s
  obtain⟨h1,h2,h⟩:=h
  have hsub:=PySem.sub_zip
  have e1:SSq (Shared.heap ⟨hp,g,d,tk,os⟩) b1 l1 xs:=h1
  have e2:SSq (Shared.heap ⟨hp.push (z6u b1 l1),g,d,tk,os⟩) b2 l2 ys:=SSq.push h2 _
  wp_walk using zdI e1,zdI e2
  exact⟨_,rfl,h⟩
section
variable {prog:Program}{w:World}{A:Around}{E:Value->Shared->Prop}{s:Shared}
theorem zaD {b1 b2:Bool}{l1 l2:Addr}{xs ys:Array Value}{Q:Value->Shared->Prop}(h1:SSq s.heap b1 l1 xs) (h2:SSq s.heap b2 l2 ys)
 (h:∀g n,n=s.heap.objs.size->IsZip g (n+4) (n+2) (n+3) .none->IsPair g (n+2) (.ref n) (.ref (n+1))->IsPair g (n+3) .none .none->SIt g b1 n l1 0->SIt g b2 (n+1) l2 0->
  (∀c o,s.heap.get? c=some o->g.get? c=some o)->Q (.ref (n+4)) { s with heap:=g }):wpAny (model prog w) A (call (.type "zip") [.ref l1,.ref l2]) Q E s:=by
 refine callType_new PySem.F.called_zip (by decide) (PySem.F.typeCall_zip_2 _ _) (PySem.F.newCall_zip_2 _ _) (fun obj=>PySem.F.args_object_init_3 obj _ _) PySem.F.entry_zip_new (zbV b1 b2 l1 l2 xs ys) ⟨h1,h2,?_⟩
 have e1:(s.heap.push (z6u b1 l1)).objs.size=s.heap.objs.size+1:=Heap.size_push ..
 have e2:(zg2 s.heap b1 b2 l1 l2).objs.size=s.heap.objs.size+2:=by unfold zg2;rw[Heap.size_push,e1]
 have e3:(zg3 s.heap b1 b2 l1 l2).objs.size=s.heap.objs.size+3:=by unfold zg3;rw[Heap.size_push,e2]
 have e4:(zg4 s.heap b1 b2 l1 l2).objs.size=s.heap.objs.size+4:=by unfold zg4;rw[Heap.size_push,e3]
 have p:∀{c:Addr}{o:Obj},(zg4 s.heap b1 b2 l1 l2).get? c=some o->(zg5 s.heap b1 b2 l1 l2).get? c=some o:=fun q=>qc _ q
 have p4:∀{c:Addr}{o:Obj},(zg3 s.heap b1 b2 l1 l2).get? c=some o->(zg4 s.heap b1 b2 l1 l2).get? c=some o:=fun q=>qc _ q
 have p3:∀{c:Addr}{o:Obj},(zg2 s.heap b1 b2 l1 l2).get? c=some o->(zg3 s.heap b1 b2 l1 l2).get? c=some o:=fun q=>qc _ q
 have p2:∀{c:Addr}{o:Obj},(s.heap.push (z6u b1 l1)).get? c=some o->(zg2 s.heap b1 b2 l1 l2).get? c=some o:=fun q=>qc _ q
 have g5:(zg5 s.heap b1 b2 l1 l2).get? (zg4 s.heap b1 b2 l1 l2).objs.size=some _:=qw _ rfl
 have g4:(zg5 s.heap b1 b2 l1 l2).get? (zg3 s.heap b1 b2 l1 l2).objs.size=some _:=p (qw _ rfl)
 have g3:(zg5 s.heap b1 b2 l1 l2).get? (zg2 s.heap b1 b2 l1 l2).objs.size=some _:=p (p4 (qw _ rfl))
 have g2:(zg5 s.heap b1 b2 l1 l2).get? (s.heap.push (z6u b1 l1)).objs.size=some _:=p (p4 (p3 (qw _ rfl)))
 have g1:(zg5 s.heap b1 b2 l1 l2).get? s.heap.objs.size=some _:=p (p4 (p3 (p2 (qw _ rfl))))
 show _/\_
 rw[e2,e3,e4]at g5
 rw[e1,e2]at g3
 rw[e3]at g4
 rw[e1]at g2
 rw[e4]
 exact⟨⟨_,g5,rfl⟩,h _ _ rfl g5 g3 g4 (SIt.new g1) (SIt.new g2) fun c o x=>p (p4 (p3 (p2 (qc _ x))))⟩
end
section
variable {X:Cx}
def zfb (K:PySem.W.Frag) (ta:TA):TI:=fun σ H R=>ta σ H fun vs H1=>∃b1 b2 l1 l2 xs ys,vs=[.ref l1,.ref l2]/\SqB K H1 b1 l1 xs/\SqB K H1 b2 l2 ys/\R (Itz K b1 b2 l1 l2) H1
theorem z9K {a b:Expr}{ta:TA}{p pos tp:Pos}{elts:List Expr}{kk:Nat}(hg:Gl X "zip") (hm:X.mg "zip"=none) (ha:PA X [a,b] ta) (hs:starEach [a,b] X.env=[(false,eval a X.env),(false,eval b X.env)]:=by rfl) (hs2:starEach [b] X.env=[(false,eval b X.env)]:=by rfl):
 PI X (.Tuple elts kk tp) (.Call (.Name "zip" p) [a,b] [] pos) (zfb X.K ta):=by
 intro pins s σ H R I h
 refine Call_ (z3O I hg hm PyProof.Rows.Boot.«zip» (PyProof.Rows.callWith_type1 (thn (ha pos pins s σ H _ I h) fun us s1 ⟨vs,H1,I1,r1,q1⟩=>?_) (by rw[hs,hs2]) (by rw[hs2];rfl)))
 obtain⟨b1,b2,l1,l2,xs,ys,rfl,hx,hy,q⟩:=q1
 obtain⟨u,u',rfl,ru,ru'⟩:=zaT r1
 cases ru
 cases ru'
 obtain⟨its,rv,s1',z1⟩:=SqB.at I1 hx
 obtain⟨jts,rw',s2',z2⟩:=SqB.at I1 hy
 refine zaD s1' s2' fun g n hn a1 a2 a3 a4 a5 k=>?_
 have lt:∀c,c=l1\/c=l2->c<n:=fun c hc=>by
  rw[hn]
  rcases hc with rfl|rfl
  ·obtain⟨o,e,_⟩:=s1'.obj;exact qy e
  ·obtain⟨o,e,_⟩:=s2'.obj;exact qy e
 refine wpAny_pyIter_zip a1 ⟨n+4,[n+4,n+2,n+3,n,n+1],_,_,H1,rfl,I1.kept (t':=s1.toks) k,zaV (n+4) (n+2) (n+3) n (n+1) l1 l2 ⟨?_,fun c hc=>?_⟩,⟨a1,a2,⟨_,_,a3⟩,a4,a5⟩,fun b hb=>?_,q⟩
 ·have e:∀i j:Nat,i≠j->n+i≠n+j:=fun i j h z=>h (Nat.add_left_cancel z)
  exact⟨e 2 4 (by decide),e 3 4 (by decide),e 0 4 (by decide),e 1 4 (by decide),e 2 3 (by decide),e 2 0 (by decide),e 2 1 (by decide),e 3 0 (by decide),e 3 1 (by decide),e 0 1 (by decide)⟩
 ·have q:=lt c hc
  have e:∀i:Nat,c≠n+i:=fun i=>qN (qK q (Nat.le_add_right _ _))
  exact⟨e 4,e 3,e 0,e 1,e 2⟩
 ·have e:∀i:Nat,z5y X pins H1 (n+i):=fun i=>I1.fpOk (by rw[hn];exact Nat.le_add_right _ _) (I1.hok.fresh (by rw[hn];exact Nat.le_add_right _ _))
  simp only[qB,List.not_mem_nil,or_false]at hb
  rcases hb with rfl|rfl|rfl|rfl|rfl
  ·exact e 4
  ·exact e 2
  ·exact e 3
  ·exact e 0
  ·exact e 1
end
open PySem.Builtin.Str in
section
variable {X:Cx}
end
@[irreducible] def rStrAny:List V->Hp->VK->Prop:=fun xs H Q=>(∃z:Str,xs=[.str z]/\Q (.str z) H)\/∃i:Int,xs=[.int i]/\i.natAbs.log2<1920/\Q (.str (toString i)) H
section
variable {X:Cx}
end
mutual
inductive Dt (K:PySem.W.Frag) (H:Hp):V->PyData->Prop
 |non:Dt K H .non .none
 |bl (b:Bool):Dt K H (.bl b) (.bool b)
 |int (i:Int):Dt K H (.int i) (.int i)
 |str (x:Str):Dt K H (.str x) (.str x)
 |lst {a:Addr}{xs:List V}{ds:List PyData}:SqL K H a xs->z1G K H xs ds->Dt K H (.ref a) (.list ds)
 |tup {a:Addr}{xs:List V}{ds:List PyData}:SqT K H a xs->z1G K H xs ds->Dt K H (.ref a) (.tuple ds)
inductive z1G (K:PySem.W.Frag) (H:Hp):List V->List PyData->Prop
 |nil:z1G K H [] []
 |cons {v:V}{vs:List V}{d:PyData}{ds:List PyData}:Dt K H v d->z1G K H vs ds->z1G K H (v::vs) (d::ds)
end
section
variable {X:Cx}{pins:List (Addr×Obj)}{σ:St}{H:Hp}{s:Shared}
mutual
theorem Dt.reads (I:Inv X pins σ H s):∀{v:V}{d:PyData},Dt X.K H v d->∀{u:Value},z1C v u->∃as,Reads s.heap u d as
 |_,_,.non,_,r=>by cases r;exact⟨_,.none⟩
 |_,_,.bl b,_,r=>by cases r;exact⟨_,.bool b⟩
 |_,_,.int i,_,r=>by obtain⟨t,rfl⟩:=r;exact⟨_,.int i t⟩
 |_,_,.str x,_,r=>by obtain⟨t,rfl⟩:=r;exact⟨_,.str x t⟩
 |_,_,.lst hq ha,_,r=>by
  cases r
  obtain⟨its,rv,⟨o,n,e,c,_,d⟩,_⟩:=I.list hq
  obtain⟨as,z⟩:=z1G.reads I ha rv
  exact⟨_,.list e c d (by simpa using z)⟩
 |_,_,.tup hq ha,_,r=>by
  cases r
  obtain⟨its,rv,⟨o,e,c,n,d⟩,_⟩:=I.tuple hq
  obtain⟨as,z⟩:=z1G.reads I ha rv
  exact⟨_,.tuple e c d (by simpa using z)⟩
theorem z1G.reads (I:Inv X pins σ H s):∀{vs:List V}{ds:List PyData},z1G X.K H vs ds->∀{us:List Value},z19 vs us->∃as,ReadsAll s.heap us ds as
 |_,_,.nil,_,r=>by cases r;exact⟨_,.nil⟩
 |_,_,.cons h t,_,r=>by
  cases r with
  |cons r1 r2=>
   obtain⟨as,z⟩:=Dt.reads I h r1
   obtain⟨bs,z'⟩:=z1G.reads I t r2
   exact⟨_,.cons z z'⟩
end
end
section
variable {X:Cx}
theorem z9P (hu:X.A.units+64<cLine):OpR X (compareOp .Eq) (fun x y H Q=>∃d e,Dt X.K H x d/\Dt X.K H y e/\SeqAt.shaped d=true/\SeqAt.shaped e=true/\Q (.bl (PyData.eqv d e)) H):=by
 intro pins s σ H x y v u Q I rx ry h
 obtain⟨d,e,h1,h2,s1,s2,q⟩:=h
 obtain⟨as,r1⟩:=h1.reads I rx
 obtain⟨bs,r2⟩:=h2.reads I ry
 exact eq_dataH r1 r2 s1 s2 hu ⟨.bl _,H,I,rfl,q⟩
theorem z3J (hu:X.A.units+64<cLine):OpR X (compareOp .NotEq) (fun x y H Q=>∃d e,Dt X.K H x d/\Dt X.K H y e/\SeqAt.shaped d=true/\SeqAt.shaped e=true/\Q (.bl (!PyData.eqv d e)) H):=by
 intro pins s σ H x y v u Q I rx ry h
 obtain⟨d,e,h1,h2,s1,s2,q⟩:=h
 obtain⟨as,r1⟩:=h1.reads I rx
 obtain⟨bs,r2⟩:=h2.reads I ry
 exact ne_dataH r1 r2 s1 s2 hu ⟨.bl _,H,I,rfl,q⟩
end
theorem z80 {K:PySem.W.Frag}{b1 b2:Bool}{l1 l2:Addr}{xs ys:List V}{g:TG}{tb:TS}{D:z9d}{σ:St}{H:Hp}(Pv:Nat->St->Hp->Prop) (h0:Pv 0 σ H) (hl:∀i σ H,Pv i σ H->SqB K H b1 l1 xs/\SqB K H b2 l2 ys)
 (hs:∀i x y σ H p,xs[i]?=some x->ys[i]?=some y->Pv i σ H->H p=none->g (.ref p) σ (upd H p (.tup [x,y])) fun σ2 H2=>tb { D with nx:=Pv (i+1),ct:=Pv (i+1),bk:=D.nx } σ2 H2) (hd:∀σ H,Pv (min xs.length ys.length) σ H->D.nx σ H):
 ∃W:Nat->Nat->St->Hp->Prop,(∃m,W 0 m σ H)/\∀i m σ H,W i m σ H->
  ((Itz K b1 b2 l1 l2).stop i H/\D.nx σ H)\/((Itz K b1 b2 l1 l2).go i H/\∃N:St->Hp->Prop,(∀σ' H',N σ' H'->∃m',m'<m/\W (i+1) m' σ' H')/\∀x H',(Itz K b1 b2 l1 l2).yld i H x H'->g x σ H' fun σ2 H2=>tb { D with nx:=N,ct:=N,bk:=D.nx } σ2 H2):=by
 refine⟨fun i m σ H=>m=min xs.length ys.length-i/\i<=min xs.length ys.length/\Pv i σ H,⟨_,rfl,qA _,h0⟩,?_⟩
 rintro i m σ H ⟨rfl,hi,p⟩
 obtain⟨q1,q2⟩:=hl i σ H p
 by_cases hlt:i<min xs.length ys.length
 ·have h1:i<xs.length:=by omega
  have h2:i<ys.length:=by omega
  refine .inr ⟨⟨xs,ys,xs[i],ys[i],q1,q2,by simp[h1],by simp[h2]⟩,Pv (i+1),fun σ' H' p'=>⟨_,by omega,rfl,hlt,p'⟩,fun v H' y=>?_⟩
  obtain⟨a,x,y,hn,rfl,rfl,e1,e2⟩:=y
  exact hs i x y σ H a (e1 xs q1) (e2 ys q2) p hn
 ·have e:i=min xs.length ys.length:=by omega
  subst e
  exact .inl ⟨⟨xs,ys,q1,q2,by omega⟩,hd σ H p⟩
theorem zax {K:PySem.W.Frag}{a:Addr}{xs:List V}{g:TG}{tt:TT}{te:TE}{Fin:List V->Hp->Prop}{σ:St}{H:Hp}(Pv:Nat->List V->St->Hp->Prop) (h0:Pv 0 [] σ H) (hz:∀i ys σ H,i<=xs.length->Pv i ys σ H->ys.length<=i) (hx:xs.length<=sizeLine) (hl:∀i ys σ H,Pv i ys σ H->SqL K H a xs)
 (hs:∀i x ys σ H,xs[i]?=some x->Pv i ys σ H->g x σ H fun σ2 H2=>tt σ2 H2 fun b H3=>if b=true then te σ2 H3 fun y H4=>Pv (i+1) (ys++[y]) σ2 H4 else Pv (i+1) ys σ2 H3)
 (hd:∀ys σ H,Pv xs.length ys σ H->Fin ys H):∃W:Nat->Nat->List V->St->Hp->Prop,(∃m,W 0 m [] σ H)/\z2q (Itl K a) g tt te Fin W:=by
 refine⟨fun i m ys σ H=>m=xs.length-i/\i<=xs.length/\Pv i ys σ H,⟨_,rfl,qA _,h0⟩,?_⟩
 rintro i m ys σ H ⟨rfl,hi,p⟩
 have hl':=hz i ys σ H hi p
 have q:=hl i ys σ H p
 by_cases hlt:i<xs.length
 ·refine .inr ⟨⟨xs,xs[i],q,by simp[hlt]⟩,by omega,Pv (i+1),fun ys' σ' H' p'=>⟨_,by omega,rfl,hlt,p'⟩,fun v H' y=>?_⟩
  obtain⟨e,y⟩:=y
  subst e
  exact hs i v ys σ _ (y xs q) p
 ·have e:i=xs.length:=by omega
  subst e
  exact .inl ⟨⟨xs,q,qh _⟩,by omega,hd ys σ H p⟩
end L2
namespace L2
open PySem PySem.Spec PyProof.Rows
section
variable {X:Cx}{tg:Expr}
end
section
variable {X:Cx}
end
end L2
namespace L2
open PySem PySem.Spec PyProof.Rows PySem.NumText
theorem zcq {X:Cx}{pins:List (Addr×Obj)}{Nc:List Str}{scope:Scope}{fp:List Addr}{s:Shared}{H:Hp}{C:Addr}{es:List Expr}{k:Nat}{t:TGs}{pos:Pos}(n:Nat) (hc:X.calm=true) (h:PGs (X.comp pins Nc scope fp s H C) es t)
 (hn:(assignEach es (X.comp pins Nc scope fp s H C).env).length=n:=by rfl) (hst:(assignEach es (X.comp pins Nc scope fp s H C).env).findIdx? (·.1)=none:=by rfl):PG (X.comp pins Nc scope fp s H C) (.Tuple es k pos) (zeO X.K n t):=
 z5C (X:=X.comp pins Nc scope fp s H C) hc h hn hst
end L2
namespace L2
open PySem PySem.Spec PyProof.Rows PySem.W
section
variable {prog:Program}{w:World}{A:Around}{R:Result->Shared->Prop}{E:Value->Shared->Prop}{h:Heap}{g:Array GenState}{d:Drawn}{t:Nat}{os:OsState}
variable {nm q:Str}{C N f:Addr}{bs bm:List Value}{hdct:Bool}{sn:List Str}{sub:List Value}{ab:Bool}{col:Option Bool}{dd:Option Addr}{k0 k1 k2 k3 k5:Option Value}
abbrev z2P (C t:Addr):Obj:={ cls:=.ref C,data:=.fields #[.ref t,.none,.none,.none,.bool false,.none] }
abbrev z3y (h:Heap) (C:Addr) (rest:List Value):Heap:=(h.push { cls:=.type "tuple",data:=.seq rest.toArray }).push (z2P C h.objs.size)
theorem zaR {M:Model}{rest:List Value}{Q:Unit->Shared->Prop}(hV:bm.contains (.type "ValueError")=true) (hC:h.get? C=some (excClassObj nm q C N bs bm hdct sn sub ab col dd k0 k1 k2 k3 k5 "ValueError.__new__"))
 (hq:Q () ⟨h,g,d,t,os⟩):wpAny M A (checkBuiltinCall "ValueError.__new__" ⟨.ref C::rest,[]⟩) Q E ⟨h,g,d,t,os⟩:=by
 have F:=PySem.F.excBase_ValueError
 have hc:(Value.ref C::bm).contains (.type "ValueError")=true:=by
  rw[List.contains_cons,hV]
  exact Bool.or_true _
 have st:=F.noStar
 simp only[checkBuiltinCall,F.newKind,F.newRow,F.newSplit]
 repeat (first|(refine wpAny_isSubtype_exc hC ?_;rw[hc])|refine wpAny_loadPart_at hC ?_|refine wpAny_madeBy_exc hC ?_|refine wpAny_staticBase_exc hC ?_|simp only[Bool.false_eq_true,bne_self_eq_false,if_false]|wp_step)
 exact hq
theorem zd2 {rest:List Value}(hV:bm.contains (.type "ValueError")=true) (hA:bm.contains (.type "AttributeError")=false) (hN:bm.contains (.type "NameError")=false)
 (hC:h.get? C=some (excClassObj nm q C N bs bm hdct sn sub ab col dd k0 k1 k2 k3 k5 "ValueError.__new__"))
 (hq:R (.ok (.ret (.ref (h.objs.size+1)))) ⟨z3y h C rest,g,d,t,os⟩) (hrest:rest.length<=sizeLine):
 codeAny (model prog w) A (.builtin "ValueError.__new__" ⟨.ref C::rest,[]⟩) R ⟨h,g,d,t,os⟩:=by
 have F:=PySem.F.excBase_ValueError
 have he:=F.ends
 have c1:(Value.ref C::bm).contains (.type "ValueError")=true:=by
  rw[List.contains_cons,hV]
  exact Bool.or_true _
 have c2:(Value.ref C::bm).contains (.type "AttributeError")=false:=by
  rw[List.contains_cons,hA]
  rfl
 have c3:(Value.ref C::bm).contains (.type "NameError")=false:=by
  rw[List.contains_cons,hN]
  rfl
 refine codeAny_builtinAt F.entry ?_
 unfold Builtin.«BaseException.__new__»
 refine PySem.wpAt_bind ?_
 show PySem.wpAt _ _ _ (stack >>= _) _ _ _
 refine PySem.wpAt_bind (PySem.wpAt_stack fun _ _=>PySem.wpAt_of_wpAny ?_)
 wp_walk
 refine PySem.wpAt_of_wpAny ?_
 rw[F.owner]
 repeat (first|with_reducible refine wpAny_loadPart_at hC ?_|with_reducible refine wpAny_madeHere_exc F.canon hC ?_|(with_reducible refine wpAny_isSubtype_exc hC ?_;first|rw[c1]|rw[c2]|rw[c3])|wp_step)
 show R _ _
 rw[Heap.size_push]
 exact hq
theorem zbZ {rest:List Value}(hV:bm.contains (.type "ValueError")=true) (hA:bm.contains (.type "AttributeError")=false) (hN:bm.contains (.type "NameError")=false)
 (hC:h.get? C=some (excClassObj nm q C N bs bm hdct sn sub ab col dd k0 k1 k2 k3 k5 "ValueError.__new__"))
 (hi:Looks (model prog w) h (typeLookup (.ref C) "__init__") (some (.ref f))) (hb:∀self,Looks (model prog w) h (bindSpecial (.ref f) self) (.ref f,[self])) (hrest:rest.length<=sizeLine)
 (hq:codeAny (model prog w) (A.under (.builtin "type.__call__" ⟨.ref C::rest,[]⟩)) (.call (.ref f) ⟨.ref (h.objs.size+1)::rest,[]⟩) (InitBack (h.objs.size+1) R) ⟨z3y h C rest,g,d,t,os⟩):
 codeAny (model prog w) A (.call (.ref C) ⟨rest,[]⟩) R ⟨h,g,d,t,os⟩:=by
 have f1:=tc_lookup
 have f2:=tc_bind (.ref C)
 have hT:(⟨h,g,d,t,os⟩:Shared).TypeIs (.ref C) "type":=⟨_,hC,rfl⟩
 refine codeAny_of_tree ?_
 show wpAny _ _ (callAny (.ref C) _) _ _ _
 repeat (any_goals (first|assumption|with_reducible refine wpAny_loadPart_at hC ?_|wp_step))
 refine⟨rfl,?_⟩
 refine codeAny_call_builtin_at (Code.quiet_builtin _ (by decide +kernel)) entry_typeCall (wpAny_check_type_call_sub hC ?_)
 repeat (first|with_reducible refine wpAny_madeBy_exc hC ?_|with_reducible refine wpAny_loadPart_at hC ?_|wp_step)
 have F:=PySem.F.excBase_ValueError
 refine codeAny_call_builtin_code (Code.quiet_builtin _ F.quiet) (zaR hV hC ?_)
 refine zd2 hV hA hN hC ?_ hrest
 have kp:∀b o,h.get? b=some o->(z3y h C rest).get? b=some o:=fun b o e=>qc _ (qc _ e)
 have hget:(z3y h C rest).get? (h.objs.size+1)=some (z2P C h.objs.size):=by heap_get
 have c0:(Value.ref C::bm).contains (.ref C)=true:=by simp
 show wpAny _ _ _ _ _ _
 unfold isInstance
 repeat (first|with_reducible refine wpAny_loadPart_at hget ?_|wp_step)
 show wpAny _ _ (isSubtype (.ref C) _) _ _ _
 refine wpAny_isSubtype_exc (kp _ _ hC) ?_
 rw[c0]
 unfold callSpecial? specialOf
 repeat (first|with_reducible refine wpAny_loadPart_at hget ?_|wp_step)
 show wpAny _ _ (typeLookup (.ref C) _) _ _ _
 refine hi.keeps kp _ _ _ _ (fun _ _ e=>e) ?_
 refine wpAny_holding (q9 ((hb (.ref (h.objs.size+1))).keeps kp _ _ _ _ (fun _ _ e=>e) ?_))
 refine q9 (wpAny_call (codeAny_mono hq fun r s' z=>?_))
 rcases r with e|(v|_|_|_)<;>first|exact z|exact z.elim|skip
 obtain⟨rfl,z⟩:=z
 wp_walk
 exact z
end
section
variable {prog:Program}{w:World}{A:Around}{R:Result->Shared->Prop}{E:Value->Shared->Prop}{h:Heap}{g:Array GenState}{d:Drawn}{t:Nat}{os:OsState}
variable {nm q:Str}{C N x:Addr}{bs bm:List Value}{sn:List Str}{sub:List Value}{ab:Bool}{col:Option Bool}{dd:Option Addr}{k0 k1 k2 k3 k5:Option Value}{newId:String}{name:Str}{v:Value}{o:Obj}{fs:Array Value}
theorem zaP {Q:Unit->Shared->Prop}(hx:h.get? x=some o) (hc:o.cls=.ref C) (hdn:o.dict=none) (hdt:o.data=.fields fs) (hC:h.get? C=some (excClassObj nm q C N bs bm true sn sub ab col dd k0 k1 k2 k3 k5 newId))
 (hob:bm.contains (.type "object")=true) (hpass:∀self,refuseLoop self "__setattr__" bm=pure ()) (L1:Looks (model prog w) h (typeLookup (.ref C) name) none) (L2:Looks (model prog w) h (typeLookup (.ref C) "__setattr__") (some (.builtin "object.__setattr__")))
 (hq:∀h' tk',h'.Ns1 h.objs.size (fun y=>if y=name then some v else none)->h'.get? x=some { o with dict:=some h.objs.size }->(∀b ob,b≠x->h.get? b=some ob->h'.get? b=some ob)->Q () ⟨h',g,d,tk',os⟩):
 wpAny (model prog w) A (setAttr (.ref x) name v) Q E ⟨h,g,d,t,os⟩:=by
 have SF:=PySem.F.store_ValueError
 have f3:=SF.slot.bind (.ref x)
 have hxs:x≠h.objs.size:=qN (qy hx)
 have T0:Looks (model prog w) h (typeOf (.ref x)) (.ref C):=by
  have:Looks (model prog w) h (typeOf (.ref x)) o.cls:=(Looks.ld hx).andThen .now
  rw[hc]at this
  exact this
 have M0:Looks (model prog w) h (mroOf (.ref C)) (.ref C::bm):=((Looks.ld (part:=none) hC).andThen .now).andThen .now
 have S0:Looks (model prog w) h (isInstance (.ref x) (.type "object")) true:=by
  refine T0.andThen ?_
  intro A' Q' E' s' kk qq
  obtain⟨h2,g2,d2,t2,os2⟩:=s'
  refine wpAny_isSubtype_exc (kk _ _ hC) ?_
  rw[List.contains_cons,hob,Bool.or_true]
  exact qq
 unfold setAttr callSpecial? specialOf
 refine q9 (wpAny_mkText ?_)
 show wpAny _ _ _ _ _ ⟨h,g,d,t+1,os⟩
 have here:∀{α:Type}{A':Around}{p:Sem α}{r:α}{Q':α->Shared->Prop}{E':Value->Shared->Prop},Looks (model prog w) h p r->Q' r ⟨h,g,d,t+1,os⟩->wpAny (model prog w) A' p Q' E' ⟨h,g,d,t+1,os⟩:=fun L qq=>L _ _ _ _ (fun _ _ e=>e) qq
 refine q9 (q9 (q9 (here T0 (here L2 ?_))))
 refine wpAny_holding (q9 (wpAny_of_eq f3 (q9 (wpAny_call ?_))))
 show codeAny (model prog w) A (.call (.builtin "object.__setattr__") ⟨[.ref x,.str name t,v],[]⟩) _ ⟨h,g,d,t+1,os⟩
 refine codeAny_call_builtin SF.slot.plain SF.entry (@check_slot (model prog w) _ _ ⟨h,g,d,t+1,os⟩ "object.__setattr__" "object" "__setattr__" (.ref x) [.str name t,v] [] _ SF.kind SF.split S0 (SF.args (.ref x) (.str name t) v) ?_)
 rw[osa_eq,refuse_eq]
 refine q9 (q9 (here T0 (q9 (here M0 ?_))))
 rw[refuseLoop_ref,hpass]
 refine qg (q9 (here T0 (q9 (here L1 (q9 (qg ?_))))))
 unfold Builtin.ObjectAttr.storeInOwnDict Builtin.ObjectAttr.ownDictForStores instanceDict
 repeat (first|(with_reducible refine wpAny_loadPart_at hx ?_;rw[hc])|with_reducible refine wpAny_loadPart_at hC ?_|wp_step)
 rw[hdn,hdt]
 dsimp only
 rw[if_neg (show ¬ (!true || !typeHasDict (Value.ref C))=true by simp[typeHasDict])]
 refine q9 (wpAny_alloc' ?_)
 have hx1:(h.push { cls:=.type "dict",data:=.dict #[] }).get? x=some o:=qc _ hx
 refine q9 (wpAny_update' hx1 ?_)
 refine qg ?_
 have hx2:((h.push { cls:=.type "dict",data:=.dict #[] }).update x fun o=>{ cls:=o.cls,dict:=some h.objs.size,data:=o.data,slots:=o.slots }).get? x=some { o with dict:=some h.objs.size }:=by
  refine Heap.get?_update_self _ hx1 ?_
  exact Obj.isFreed_of_fields (vs:=fs) hdt
 have hd2:((h.push { cls:=.type "dict",data:=.dict #[] }).update x fun o=>{ cls:=o.cls,dict:=some h.objs.size,data:=o.data,slots:=o.slots }).Ns h.objs.size (fun _=>none):=
  ⟨_,#[],_,(Heap.get?_update_ne _ _ _ _ hxs.symm).trans (Heap.get?_push_at rfl rfl),rfl,fun e he=>absurd he (by simp),fun _=>rfl⟩
 show wpAny _ _ (Builtin.ObjectAttr.storeInDict h.objs.size (.str name t) name v) _ _ _
 unfold Builtin.ObjectAttr.storeInDict Builtin.ObjectAttr.newKeyGuard
 refine q9 (qg (q9 (wpAny_nsSet1 (Heap.Ns1.of_empty hd2) fun h' hn' hs=>?_)))
 obtain⟨oD,esD,epD,hoD,hdD,hcD⟩:=hn'.count (Within.cons name v Within.nil)
 refine q9 (wpAny_lookBehind hoD (by rw[hdD];exact pastItsLine_dict (qG hcD (by rw[qI,List.length_nil,sizeLine_eq];omega))) ?_)
 wp_walk
 refine hq h' _ ?_ ((hs.2 x hxs).trans hx2) (fun b ob hbx hb=>?_)
 ·obtain⟨o',es,ep,e1,e2,e3,eu,e4⟩:=hn'
  exact⟨o',es,ep,e1,e2,e3,eu,fun y=>by rw[e4 y]⟩
 ·exact(hs.2 b (qN (qy hb))).trans ((Heap.get?_update_ne _ _ _ _ hbx).trans (qc _ hb))
end
section
variable {prog:Program}{w:World}{A:Around}{R:Result->Shared->Prop}{E:Value->Shared->Prop}{h:Heap}{g:Array GenState}{d:Drawn}{t:Nat}{os:OsState}
variable {nm q:Str}{C N e:Addr}{bs bm:List Value}{hdct:Bool}{sn:List Str}{sub:List Value}{ab:Bool}{col:Option Bool}{dd:Option Addr}{k0 k1 k2 k3 k5:Option Value}{newId:String}{oe:Obj}
theorem z5N {M:Model}{rest:List Value}{Q:Unit->Shared->Prop}(hV:bm.contains (.type "ValueError")=true) (hC:h.get? C=some (excClassObj nm q C N bs bm hdct sn sub ab col dd k0 k1 k2 k3 k5 newId)) (he:h.get? e=some oe) (hc:oe.cls=.ref C)
 (hq:Q () ⟨h,g,d,t,os⟩):wpAny M A (checkBuiltinCall "ValueError.__init__" ⟨.ref e::rest,[]⟩) Q E ⟨h,g,d,t,os⟩:=by
 have F:=PySem.F.excBase_ValueError
 have c1:(Value.ref C::bm).contains (.type "ValueError")=true:=by
  rw[List.contains_cons,hV]
  exact Bool.or_true _
 have hs:=F.noStar
 simp only[checkBuiltinCall,F.initSplit,F.initKind,F.initRow]
 repeat (first|(with_reducible refine wpAny_isSubtype_exc hC ?_;rw[c1])|with_reducible refine wpAny_loadPart_at hC ?_|(with_reducible refine wpAny_loadPart_at he ?_;rw[hc])|wp_step)
 refine wpAny_onRaise ?_
 have z:∀(a b:String) (n:Nat),Bind.check ⟨.positional,"*","ValueError",.self,[⟨"args",.varPos,false⟩]⟩ a b n (List.map (fun x=>x.fst) ({ pos:=Value.ref e::rest }:Args).kw)=pure ():=fun a b n=>check_star_args _ _ _ _ _ _
 rw[z]
 exact qg hq
theorem zbY {z:Value}{t0:Addr}{Q:Value->Shared->Prop}(hV:bm.contains (.type "ValueError")=true) (hC:h.get? C=some (excClassObj nm q C N bs bm hdct sn sub ab col dd k0 k1 k2 k3 k5 newId)) (he:h.get? e=some (z2P C t0))
 (hq:∀h' t1,(∀b o,b≠e->h.get? b=some o->h'.get? b=some o)->h'.get? e=some (z2P C t1)->Q .none ⟨h',g,d,t,os⟩):
 wpAny (model prog w) A (call (.builtin "ValueError.__init__") [.ref e,z]) Q E ⟨h,g,d,t,os⟩:=by
 have F:=PySem.F.excBase_ValueError
 refine wpAny_call (codeAny_call_builtin F.init.plain F.initEntry (z5N hV hC he rfl ?_))
 wp_walk
 refine hq _ h.objs.size (fun b o hb e=>?_) ?_
 ·rw[Heap.get?_update_other _ _ (Ne.symm hb)]
  exact qc _ e
 ·rw[Heap.get?_update_self _ (qc _ he) rfl]
  rfl
end
def XO0 (C a:Addr):HO:=.ext fun h=>∃t,h.get? a=some (z2P C t)
def XO1 (C a dx:Addr):HO:=.ext fun h=>∃t,h.get? a=some { z2P C t with dict:=some dx }
structure zcS (K:PySem.W.Frag) (C f:Addr):Prop where
 ob:∃nm q N bs bm sn sub ab col dd k0 k1 k2 k3 k5,K.lookup C=some (excClassObj nm q C N bs bm true sn sub ab col dd k0 k1 k2 k3 k5 "ValueError.__new__")/\bm.contains (.type "ValueError")=true/\bm.contains (.type "BaseException")=true /\
  bm.contains (.type "object")=true/\bm.contains (.type "AttributeError")=false/\bm.contains (.type "NameError")=false/\∀self,refuseLoop self "__setattr__" bm=pure ()
 init:findIn K (.ref C) "__init__"=some (some (.ref f))
 fn:isFn K (.ref f)=true
 sa:findIn K (.ref C) "__setattr__"=some (some (.builtin "object.__setattr__"))
 pl:findIn K (.ref C) "place"=some none
 kp:keepIn K (.ref C)=true
theorem zc3:Manifest.isStub "ValueError"=false:=by decide +kernel
theorem zc2:typeOf (.type "ValueError")=pure (.type "type"):=by kernel_rfl
theorem zc5 {K:PySem.W.Frag}:findCls K (.type "ValueError") (.type "type") "__init__"=some (.val (.builtin "ValueError.__init__")):=by rfl
theorem zc4:handedIn (.builtin "ValueError.__init__")=true:=by decide +kernel
section
variable {X:Cx}{pins:List (Addr×Obj)}{σ:St}{H:Hp}{s:Shared}{a C f dx:Addr}
theorem zd4 (e:H a=some o):upd H a o=H:=by
 funext b
 by_cases hb:b=a
 ·rw[hb,z01,e]
 ·rw[z06 hb]
theorem XO0.ok {P:Program}{w:World}{h:Heap}{t:Addr}(e:h.get? a=some (z2P C t)):z1o P w H h a (XO0 C a):=
 ⟨⟨t,e⟩,⟨_,e⟩,fun h1 h2 ⟨t,q⟩ k=>⟨t,k _ q⟩⟩
theorem XO1.ok {P:Program}{w:World}{h:Heap}{t:Addr}(e:h.get? a=some { z2P C t with dict:=some dx }):z1o P w H h a (XO1 C a dx):=
 ⟨⟨t,e⟩,⟨_,e⟩,fun h1 h2 ⟨t,q⟩ k=>⟨t,k _ q⟩⟩
def zd6 (K:PySem.W.Frag) (t:TA):TE:=fun σ H Q=>t σ H fun vs H1=>∃a C f z,vs=[.ref a,z]/\H1 a=some (XO0 C a)/\zcS K C f/\Q .non H1
theorem zb8 {pl:Sem Bool}{e1 e2:Expr}{p ap pos:Pos}{t:TA}(hg:Gl X "ValueError") (hm:X.mg "ValueError"=none) (ha:PA X [e1,e2] t)
 (ht:eval (.Call (.Attribute (.Name "ValueError" p) "__init__" ap) [e1,e2] [] pos) X.env=(do
  let ov <- eval (.Name "ValueError" p) X.env
  standAt ap.atName
  let (f,first) <- holding [ov] (getMethod ov "__init__" pl)
  callWith pos f first (backTo pos (starEach [e1,e2] X.env)) (backToKw pos (keywordEach [] X.env))):=by rfl)
 (hs:starEach [e1,e2] X.env=(false,eval e1 X.env)::starEach [e2] X.env:=by rfl) (hpl:(backTo pos (starEach [e2] X.env)).any (·.1)=false:=by rfl):
 PE X (.Call (.Attribute (.Name "ValueError" p) "__init__" ap) [e1,e2] [] pos) (zd6 X.K t):=by
 intro pins s σ H Q I h
 refine methodCall_KW (pl:=pl) (z3O I hg hm PyProof.Rows.Boot.«ValueError» ?_) ht
 obtain⟨m,F⟩:=I.fr
 refine method_type (T:="ValueError") (K:=X.K) (name:="__init__") (v:=.builtin "ValueError.__init__") (pl:=pl) F I.ok.mod.kin zc2 zc3 zc5 zc4 ?_
 have hA:=ha pos pins { s with toks:=s.toks+1 } σ H _ (I.tok _) h
 rw[hs]at hA ⊢
 refine Calls.callWith_builtin (by show(false || (backTo pos (starEach [e2] X.env)).any (·.1))=false;rw[hpl]<;>rfl) (Calls.evalArgs_plain ?_)
 refine thn hA fun us s2 ⟨vs,H2,I2,r2,a,C,f,z,ev,ea,c,q2⟩=>?_
 subst ev
 obtain⟨u1,u2,rfl,r1,_⟩:=zaT r2
 obtain rfl:u1=Value.ref a:=r1
 obtain⟨⟨t0,he⟩,_,_⟩:=I2.hok a _ ea
 obtain⟨nm,q,N,bs,bm,sn,sub,ab,col,dd,k0,k1,k2,k3,k5,lk,b1,b2,b3,b4,b5,b6⟩:=c.ob
 obtain⟨hh,g,d,t,os⟩:=s2
 refine zbY (t0:=t0) b1 (I2.kIn _ _ lk) he fun h' t1 kk he'=>?_
 have I3:=I2.write (x:=a) (e:=a) (o:=XO0 C a) (h':=h') (t':=t) (by rw[ea];exact True.intro) (.inl rfl) kk ⟨_,he'⟩ (XO0.ok he')
 rw[zd4 ea]at I3
 exact⟨.non,H2,I3,rfl,q2⟩
end
section
variable {X:Cx}{pins:List (Addr×Obj)}{σ:St}{H:Hp}{s:Shared}{a C f dx:Addr}{h':Heap}
theorem Inv.xset {o1 o2:HO}{t':Nat}{φ:Heap->Prop}(I:Inv X pins σ H s) (ea:H a=some (.ext φ)) (hdx:s.heap.objs.size<=dx) (k:∀b u,b≠a->s.heap.get? b=some u->h'.get? b=some u) (ha:∃u,h'.get? a=some u)
 (n1:z1o X.prog X.w (upd (upd H dx o1) a o2) h' dx o1) (n2:z1o X.prog X.w (upd (upd H dx o1) a o2) h' a o2):Inv X pins σ (upd (upd H dx o1) a o2) { s with heap:=h',toks:=t' }:=by
 have hn:H dx=none:=I.hok.fresh hdx
 have nea:dx≠a:=fun e=>by rw[e,ea]at hn;cases hn
 have at_:∀b,b≠a->b≠dx->upd (upd H dx o1) a o2 b=H b:=fun b h1 h2=>by rw[z06 h1,z06 h2]
 have nb:∀b,H b=none->b≠a:=fun b e z=>by rw[z,ea]at e;cases e
 have lt:∀b o,s.heap.get? b=some o->b≠dx:=fun b o e=>qN (qK (qy e) hdx)
 have tr:∀b (o:HO),H b=some o->(∀ψ,o≠.ext ψ)->upd (upd H dx o1) a o2 b=some o:=fun b o e hne=>by
  rw[at_ b (fun z=>by rw[z,ea]at e;exact hne φ (qQ e).symm) (z0t e hn)]
  exact e
 refine I.un ⟨fun b u q n _ _=>k b u (nb b n) q,fun b u q n _ _=>⟨u.slots,k b u (nb b n) q⟩,fun b u q n _=>by rw[at_ b (nb b n) (lt b u q)];exact n,fun b u q _=>?_,fun b xs e=>tr b _ e (fun _ z=>by cases z),fun b o u e=>tr b _ e (fun _ z=>by cases z),
  fun b ps e=>⟨#[],by rw[tr b _ e (fun _ z=>by cases z)];simp⟩⟩ ?_
 ·by_cases hb:b=a
  ·rw[hb];exact ha
  ·exact⟨u,k b u hb q⟩
 ·intro c u e
  by_cases h1:c=a
  ·subst h1
   rw[z01]at e
   cases e
   exact n2
  ·by_cases h2:c=dx
   ·subst h2
    rw[z06 h1,z01]at e
    cases e
    exact n1
   ·rw[at_ c h1 h2]at e
    refine(I.hok c u e).stay (fun b v hb q=>k b v ?_ q) (fun b q=>tr b _ q (fun _ z=>by cases z)) fun b xs q=>tr b _ q (fun _ z=>by cases z)
    rcases hb with rfl|hb
    ·exact h1
    ·intro z
     rw[z,ea]at hb
     cases hb
def zee (K:PySem.W.Frag) (ta tv:TE):TS:=fun D σ H=>tv σ H fun y H1=>ta σ H1 fun x H2=>∃a C f,x=.ref a/\H2 a=some (XO0 C a)/\zcS K C f/\∀dx,H2 dx=none->D.nx σ (upd (upd H2 dx (.xd [("place",y)])) a (XO1 C a dx))
theorem zcn {o value:Expr}{ta tv:TE}{pos' pos:Pos}(ha:PE X o ta) (hv:PE X value tv) (hs:swapsWith value (some (.Attribute o "place" pos')) pos.line X.env=pure false):PS X (.Assign [.Attribute o "place" pos'] value pos) (zee X.K ta tv):=by
 intro pins s σ H D I h
 refine plainObj_wpAny_Assign_Attribute (thn (hv pins s σ H _ I h) fun u s1 ⟨y,H1,I1,ry,q⟩=>thn (ha pins s1 σ H1 _ I1 q) fun ov s2 ⟨x,H2,I2,rx,a,C,f,ex,ea,c,q2⟩=>?_) hs
 subst ex
 obtain rfl:ov=Value.ref a:=rx
 obtain⟨⟨t0,he⟩,_,_⟩:=I2.hok a _ ea
 obtain⟨nm,q,N,bs,bm,sn,sub,ab,col,dd,k0,k1,k2,k3,k5,lk,b1,b2,b3,b4,b5,b6⟩:=c.ob
 obtain⟨hh,g,d,t,os⟩:=s2
 refine zaP (fs:=#[.ref t0,.none,.none,.none,.bool false,.none]) he rfl rfl rfl (I2.kIn _ _ lk) b3 b6 (looks_findIn I2.kIn c.pl) (looks_findIn I2.kIn c.sa) fun h' tk' ns hx kk=>?_
 have hdx:H2 hh.objs.size=none:=I2.hok.fresh (qh _)
 refine⟨σ,_,Inv.xset (dx:=hh.objs.size) (o1:=.xd [("place",y)]) (o2:=XO1 C a hh.objs.size) (t':=tk') I2 ea (qh _) kk ⟨_,hx⟩ ⟨_,ns,fun z=>?_⟩ (XO1.ok hx),q2 _ hdx⟩
 by_cases hz:z="place"
 ·subst hz
  rw[if_pos rfl]
  exact ry
 ·rw[if_neg hz]
  have:([("place",y)]:List (Str×V)).lookup z=none:=by
   simp[List.lookup]
   split
   ·rename_i hh;exact absurd (by simpa using hh) hz
   ·rfl
  rw[this]
  trivial
end
section
variable {M:Model}{A:Around}{E:Value->Shared->Prop}{s:Shared}{base:Heap}{env:Env}{outer:List Env}{L e:Addr}{oe:Obj}{vs:Array Value}
structure Lft (l:List Env) (e:Addr) (oe:Obj) (vs:Array Value) (ex:List Addr) (fl:Value) (h h':Heap):Prop where
 keep:∀b o,h.get? b=some o->b≠e->b∉ex->b∉frs l->h'.get? b=some o
 slot:∀b o,h.get? b=some o->b∈frs l->∃sl,h'.get? b=some { o with slots:=sl }
 there:∃T oT ts,h.objs.size<=T/\T≠e/\h'.get? e=some { oe with data:=.fields (vs.setIfInBounds 1 (.ref T)) }/\h'.get? T=some oT/\oT.data=.fields ts/\ts[3]?=some fl
theorem zbM (hl:s.heap.FunFrames base (env::outer)) (he:s.heap.get? e=some oe) (hd:oe.data=.fields vs):e∉frs (env::outer):=fun hm=>by
 obtain⟨_,o,ho,hnf⟩:=hl.mem hm
 rw[he]at ho
 cases ho
 exact hnf vs hd
theorem z8u {head:Value}{hadNext:Bool}{Q:Unit->Shared->Prop}(hfr:A.frames=some (env::outer)) (hl:s.heap.FunFrames base (env::outer)) (hf:env.frame=some L) (he:s.heap.get? e=some oe) (hd:oe.data=.fields vs) (hz:1<vs.size)
 (hq:∀h',Lft (env::outer) e oe vs [] (rawInt L) s.heap h'->Q () { s with heap:=h' }):
 wpAny M A (do let a <- frameOf env;let pl <- entryPlaceOf L hadNext;let b <- EntryCells.newEntry head a .none (rawInt L) .none pl;setField (.ref e) 1 b) Q E s:=by
 have hne:=zbM hl he hd
 refine q9 (wpAny_frameOf_fun hfr hl hf fun h1 hs=>?_)
 refine q9 (wpAny_entryPlaceOf fun pl hp=>?_)
 unfold EntryCells.newEntry newFields
 refine q9 (wpAny_newObj_type ?_ (hp.sizeOk5 _ _ _ _ _))
 have e1:h1.get? e=some oe:=(hs.2.1 e hne).trans he
 have e2:=qc (h:=h1) { cls:=.type "traceback",dict:=none,data:=.fields ([head,.ref L,.none,rawInt L,.none]++(if pl.isEmpty then List.replicate 6 Value.none else pl)).toArray } e1
 refine wpAny_setField e2 hd hz (hq _ ?_)
 have nT:h1.objs.size≠e:=Nat.ne_of_gt (qy e1)
 have d3:=Obj.data_mapFields hd (·.setIfInBounds 1 (Value.ref h1.objs.size))
 have fresh:s.heap.objs.size<=h1.objs.size:=by
  first|exact Nat.le_of_eq hs.1|exact Nat.le_of_eq hs.1.symm
 refine⟨fun b o hb h2 _ h3=>?_,fun b o hb hm=>?_,h1.objs.size,{ cls:=.type "traceback",dict:=none,data:=.fields ([head,.ref L,.none,rawInt L,.none]++(if pl.isEmpty then List.replicate 6 Value.none else pl)).toArray },([head,.ref L,.none,rawInt L,.none]++(if pl.isEmpty then List.replicate 6 Value.none else pl)).toArray,fresh,nT,?_,?_,rfl,?_⟩
 ·rw[Heap.get?_update_other _ _ (Ne.symm h2)]
  exact qc _ ((hs.2.1 b h3).trans hb)
 ·obtain⟨sl,z⟩:=hs.2.2 b o hb
  refine⟨sl,?_⟩
  have h2:b≠e:=fun q=>hne (q▸hm)
  rw[Heap.get?_update_other _ _ (Ne.symm h2)]
  exact qc _ z
 ·refine(Heap.get?_update_self _ e2 (Obj.isFreed_of_fields d3)).trans ?_
  congr 1
  obtain⟨c1,c2,c3,c4⟩:=oe
  cases hd
  rfl
 ·exact(Heap.get?_update_other _ _ (Ne.symm nT)).trans (qw h1 rfl)
 ·first|(simp;done)|(rcases hp with rfl|⟨_,_,_,_,_,_,_,rfl⟩<;>simp)
theorem zbe {Q:Unit->Shared->Prop}(hfr:A.frames=some (env::outer)) (hl:s.heap.FunFrames base (env::outer)) (hf:env.frame=some L) (he:s.heap.get? e=some oe) (hd:oe.data=.fields vs) (h1:vs[1]?=some .none)
 (hq:∀h',Lft (env::outer) e oe vs [] (rawInt L) s.heap h'->Q () { s with heap:=h' }):wpAny M A (noteFrame (.ref e) env) Q E s:=by
 unfold noteFrame
 simp only[hf]
 refine q9 (wpAny_field he hd h1 ?_)
 rw[if_neg (by decide)]
 exact z8u hfr hl hf he hd (Array.getElem?_eq_some_iff.mp h1).1 hq
theorem z9X {T:Addr}{oT:Obj}{ts:Array Value}{Q:Unit->Shared->Prop}(hfr:A.frames=some (env::outer)) (hl:s.heap.FunFrames base (env::outer)) (hf:env.frame=some L) (he:s.heap.get? e=some oe) (hd:oe.data=.fields vs)
 (h1:vs[1]?=some (.ref T)) (hTe:T≠e) (hT:s.heap.get? T=some oT) (hdT:oT.data=.fields ts) (h3:ts[3]?=some .none)
 (hq:∀h',Lft (env::outer) e oe vs [T] (rawInt L) s.heap h'->Q () { s with heap:=h' }):wpAny M A (noteFrame (.ref e) env) Q E s:=by
 unfold noteFrame
 simp only[hf]
 refine q9 (wpAny_field he hd h1 ?_)
 rw[if_pos (by simp:(Value.ref T != Value.none)=true)]
 refine q9 (wpAny_field hT hdT h3 ?_)
 rw[if_neg (by simp[rawInt]:¬ (Value.none == rawInt L)=true)]
 refine q9 (wpAny_setField hT hdT (Array.getElem?_eq_some_iff.mp h3).1 ?_)
 have oth:∀b,b≠T->(s.heap.update T (Obj.mapFields (·.setIfInBounds 3 Value.none))).get? b=s.heap.get? b:=fun b hb=>Heap.get?_update_other _ _ (Ne.symm hb)
 have nf:∀b o,s.heap.get? b=some o->(∀vs,o.data≠.fields vs)->b≠T:=fun b o hb hn z=>by
  rw[z,hT]at hb
  cases hb
  exact hn ts hdT
 have hTfr:=zbM (e:=T) hl hT hdT
 refine z8u (s:={ s with heap:=s.heap.update T (Obj.mapFields (·.setIfInBounds 3 Value.none)) }) hfr (hl.of_keeps fun b o hb hn=>⟨o,(oth b (nf b o hb hn)).trans hb,rfl⟩) hf ((oth e (Ne.symm hTe)).trans he) hd (Array.getElem?_eq_some_iff.mp h1).1 fun h' z=>hq h' ?_
 obtain⟨z1,z2,T2,o2,t2,y1,y2,y3,y4,y5,y6⟩:=z
 refine⟨fun b o hb q1 q2 q3=>z1 b o ((oth b (by simpa using q2)).trans hb) q1 (by simp) q3,fun b o hb hm=>z2 b o ((oth b fun q=>hTfr (q▸hm)).trans hb) hm,T2,o2,t2,?_,y2,y3,y4,y5,y6⟩
 have y1':(s.heap.update T (Obj.mapFields (·.setIfInBounds 3 Value.none))).objs.size<=T2:=y1
 rw[Heap.size_update]at y1'
 exact y1'
theorem z81 {h0:Heap}{ex:List Addr}{fl:Value}{Q:Unit->Shared->Prop}(z:Lft (env::outer) e oe vs ex fl h0 s.heap) (hl:h0.FunFrames base (env::outer)) (he0:h0.get? e=some oe) (hd:oe.data=.fields vs) (hsz:1<vs.size)
 (hq:∀h',Lft (env::outer) e oe vs ex .none h0 h'->Q () { s with heap:=h' }):wpAny M A (setFlight (.ref e) none) Q E s:=by
 obtain⟨z1,z2,T,oT,ts,y1,y2,y3,y4,y5,y6⟩:=z
 unfold setFlight
 refine q9 (wpAny_field y3 rfl (x:=.ref T) (by simp[hsz]) ?_)
 rw[if_pos (by simp:(Value.ref T != Value.none)=true)]
 refine wpAny_setField y4 y5 (Array.getElem?_eq_some_iff.mp y6).1 (hq _ ?_)
 have nb:∀b o,h0.get? b=some o->b≠T:=fun b o hb q=>absurd (qy hb) (by rw[q];exact Nat.not_lt.mpr y1)
 refine⟨fun b o hb q1 q2 q3=>(Heap.get?_update_other _ _ (Ne.symm (nb b o hb))).trans (z1 b o hb q1 q2 q3),fun b o hb hm=>?_,T,_,_,y1,y2,(Heap.get?_update_other _ _ y2).trans y3,Heap.get?_update_self _ y4 (Obj.isFreed_of_fields (Obj.data_mapFields y5 _)),Obj.data_mapFields y5 _,?_⟩
 ·obtain⟨sl,w⟩:=z2 b o hb hm
  exact⟨sl,(Heap.get?_update_other _ _ (Ne.symm (nb b o hb))).trans w⟩
 ·have:=(Array.getElem?_eq_some_iff.mp y6).1
  simp[this]
theorem zbi {Q:Unit->Shared->Prop}(hfr:A.frames=some (env::outer)) (hl:s.heap.FunFrames base (env::outer)) (hf:env.frame=some L) (he:s.heap.get? e=some oe) (hd:oe.data=.fields vs) (h1:vs[1]?=some .none)
 (hq:∀h',Lft (env::outer) e oe vs [] .none s.heap h'->Q () { s with heap:=h' }):wpAny M A (leaving env (.ref e)) Q E s:=by
 unfold leaving
 exact q9 (zbe hfr hl hf he hd h1 fun h1' z=>z81 z hl he hd (Array.getElem?_eq_some_iff.mp h1).1 hq)
theorem zcD {T:Addr}{oT:Obj}{ts:Array Value}{Q:Unit->Shared->Prop}(hfr:A.frames=some (env::outer)) (hl:s.heap.FunFrames base (env::outer)) (hf:env.frame=some L) (he:s.heap.get? e=some oe) (hd:oe.data=.fields vs)
 (h1:vs[1]?=some (.ref T)) (hTe:T≠e) (hT:s.heap.get? T=some oT) (hdT:oT.data=.fields ts) (h3:ts[3]?=some .none)
 (hq:∀h',Lft (env::outer) e oe vs [T] .none s.heap h'->Q () { s with heap:=h' }):wpAny M A (leaving env (.ref e)) Q E s:=by
 unfold leaving
 exact q9 (z9X hfr hl hf he hd h1 hTe hT hdT h3 fun h1' z=>z81 z hl he hd (Array.getElem?_eq_some_iff.mp h1).1 hq)
end
def del (H:Hp) (a:Addr):Hp:=fun b=>if b=a then none else H b
theorem z4B {H:Hp}{a:Addr}:del H a a=none:=by unfold del;rw[if_pos rfl]
theorem z5G {H:Hp}{a b:Addr}(h:b≠a):del H a b=H b:=by unfold del;rw[if_neg h]
theorem zby {H:Hp}{a b:Addr}{o:HO}(h:del H a b=some o):b≠a/\H b=some o:=by
 by_cases e:b=a
 ·rw[e,z4B]at h;cases h
 ·rw[z5G e]at h;exact⟨e,h⟩
theorem z8D {H:Hp}{a b:Addr}(h:H b=none):del H a b=none:=by
 by_cases e:b=a
 ·rw[e,z4B]
 ·rw[z5G e];exact h
def zeP (h:Heap) (a C dx T:Addr):Prop:=∃oe vs oT ts,h.get? a=some oe/\oe.cls=.ref C/\oe.dict=some dx/\oe.data=.fields vs/\vs[1]?=some (.ref T)/\T≠a/\h.get? T=some oT/\oT.data=.fields ts/\ts[3]?=some .none
def CXX (P:Program) (w:World):CXT:=fun outer H s E e s'=>∃a C dx T H',e=.ref a/\s'.os=s.os/\AllBare s'.gens/\Un (frs outer) [] H H' s.heap s'.heap/\HOk P w H' s'.heap/\zeP s'.heap a C dx T /\
 s.heap.objs.size<=a/\s.heap.objs.size<=T/\H' a=none/\H' T=none/\E (.ref C) (some dx) H'
theorem Lft.fly {l:List Env}{e C dx:Addr}{oe:Obj}{vs:Array Value}{ex:List Addr}{h h':Heap}(z:Lft l e oe vs ex .none h h') (hc:oe.cls=.ref C) (hd:oe.dict=some dx) (hz:1<vs.size):∃T,h.objs.size<=T/\zeP h' e C dx T:=by
 obtain⟨T,oT,ts,y1,y2,y3,y4,y5,y6⟩:=z.there
 exact⟨T,y1,_,_,oT,ts,y3,hc,hd,rfl,by simp[hz],y2,y4,y5,y6⟩
section
variable {P:Program}{w:World}{K:PySem.W.Frag}{mg:Str->Option Value}{base:Heap}{N:List Str}{qual:Str}{scope:Scope}{f:Addr}{cdv:Value}{A:Around}{outer:List Env}{s0:Shared}{H0:Hp}{E:XK}
theorem za2 {pins:List (Addr×Obj)}{σ:St}{H H':Hp}{s:Shared}{h':Heap}{e:Addr}{oe:Obj}{vs:Array Value}{ex:List Addr}(I:Inv (z3W (CXX P w) P w K mg base N qual scope f cdv A outer s0 H0 E) pins σ H s) (z:Lft (z3W (CXX P w) P w K mg base N qual scope f cdv A outer s0 H0 E).stack e oe vs ex .none s.heap h')
 (he:s0.heap.get? e=none) (hex:∀b∈ex,s0.heap.get? b=none/\H b=none) (hH:H'=del H e) (hext:H e=none\/∃φ,H e=some (.ext φ)):
 Un (frs outer) [] H0 H' s0.heap h'/\HOk P w H' h':=by
 subst hH
 have B:Un (frs outer) [] H0 H s0.heap s.heap:=I.base
 have nL:∀b o,s0.heap.get? b=some o->b∉frs outer->b∉frs (z3W (CXX P w) P w K mg base N qual scope f cdv A outer s0 H0 E).stack:=fun b o hb hn hm=>by
  have hm':b∈s0.heap.objs.size::frs outer:=hm
  rcases qB.mp hm' with q|q
  ·exact absurd (qy hb) (by rw[q];exact Nat.lt_irrefl _)
  ·exact hn q
 have inL:∀b,b∈frs outer->b∈frs (z3W (CXX P w) P w K mg base N qual scope f cdv A outer s0 H0 E).stack:=fun b hb=>qt (a:=b) s0.heap.objs.size hb
 have ne:∀b o,s0.heap.get? b=some o->b≠e:=fun b o hb q=>by rw[q,he]at hb;cases hb
 have nex:∀b o,s0.heap.get? b=some o->b∉ex:=fun b o hb q=>by rw[(hex b q).1]at hb;cases hb
 have tr:∀b (o:HO),H b=some o->(∀ψ,o≠.ext ψ)->del H e b=some o:=fun b o hb hne=>by
  rw[z5G]
  ·exact hb
  ·intro q
   rw[q]at hb
   rcases hext with z|⟨φ,z⟩
   ·rw[z]at hb;cases hb
   ·rw[z]at hb;exact hne φ (qQ hb).symm
 refine⟨⟨fun b o hb hn h1 h2=>z.keep b o (B.keep b o hb hn h1 h2) (ne b o hb) (nex b o hb) (nL b o hb h1),fun b o hb hn h1 h2=>?_,fun b o hb hn h2=>z8D (B.free b o hb hn h2),fun b o hb h2=>?_,fun b xs q=>tr b _ (B.tups b xs q) (fun _ y=>by cases y),
  fun b o u q=>tr b _ (B.frzs b o u q) (fun _ y=>by cases y),fun b ps q=>?_⟩,fun c u q=>?_⟩
 ·obtain⟨sl,y⟩:=B.slot b o hb hn h1 h2
  obtain⟨sl',y'⟩:=z.slot b _ y (inL b h1)
  exact⟨sl',y'⟩
 ·obtain⟨o',y⟩:=B.there b o hb h2
  by_cases hm:b∈frs (z3W (CXX P w) P w K mg base N qual scope f cdv A outer s0 H0 E).stack
  ·obtain⟨sl,y'⟩:=z.slot b o' y hm
   exact⟨_,y'⟩
  ·exact⟨o',z.keep b o' y (ne b o hb) (nex b o hb) hm⟩
 ·obtain⟨more,y⟩:=B.tbls b ps q
  exact⟨more,tr b _ y (fun _ y=>by cases y)⟩
 ·obtain⟨ce,q⟩:=zby q
  refine(I.hok c u q).stay (fun b v hb hv=>z.keep b v hv ?_ ?_ ?_) (fun b y=>tr b _ y (fun _ y=>by cases y)) fun b xs y=>tr b _ y (fun _ y=>by cases y)
  ·rcases hb with rfl|hb
   ·exact ce
   ·intro y
    rw[y]at hb
    rcases hext with z|⟨φ,z⟩<;>· rw[z]at hb;cases hb
  ·intro y
   have:=(hex b y).2
   rcases hb with rfl|hb
   ·rw[q]at this;cases this
   ·rw[hb]at this;cases this
  ·intro y
   have:=I.stkFree b y
   rcases hb with rfl|hb
   ·rw[q]at this;cases this
   ·rw[hb]at this;cases this
theorem zb5 {pins:List (Addr×Obj)}{σ:St}{H:Hp}{s:Shared}{a C dx:Addr}(I:Inv (z3W (CXX P w) P w K mg base N qual scope f cdv A outer s0 H0 E) pins σ H s) (ea:H a=some (XO1 C a dx)) (hnew:s0.heap.objs.size<=a) (q:E (.ref C) (some dx) (del H a)):(z3W (CXX P w) P w K mg base N qual scope f cdv A outer s0 H0 E).xe (.ref a) s:=by
 have sz:s0.heap.objs.size<=s.heap.objs.size:=I.sz
 obtain⟨⟨t0,he⟩,_,_⟩:=I.hok a _ ea
 have hl:s.heap.FunFrames base (z3W (CXX P w) P w K mg base N qual scope f cdv A outer s0 H0 E).stack:=I.stack
 have hfr:(z3W (CXX P w) P w K mg base N qual scope f cdv A outer s0 H0 E).A.frames=some (z3W (CXX P w) P w K mg base N qual scope f cdv A outer s0 H0 E).stack:=I.ok.frames
 show wpAny (model P w) (z3W (CXX P w) P w K mg base N qual scope f cdv A outer s0 H0 E).A (leaving (z3W (CXX P w) P w K mg base N qual scope f cdv A outer s0 H0 E).env (.ref a)) _ _ s
 refine zbi (vs:=#[.ref t0,.none,.none,.none,.bool false,.none]) hfr hl rfl he rfl rfl fun h' z=>?_
 obtain⟨T,hT,fly⟩:=Lft.fly (C:=C) (dx:=dx) z rfl rfl (show 1<6 by decide)
 obtain⟨un,hok⟩:=za2 I z (Heap.get?_none_of_le hnew) (fun b hb=>absurd hb (by simp)) rfl (.inr ⟨_,ea⟩)
 exact⟨a,C,dx,T,del H a,rfl,I.os,I.bare,un,hok,fly,hnew,qG sz hT,z4B,z8D (I.hok.fresh hT),q⟩
theorem z5r:z3U (CXX P w) (z3W (CXX P w) P w K mg base N qual scope f cdv A outer s0 H0 E) E:=by
 intro pins σ H s e s' I h
 obtain⟨a,C,dx,T,H',rfl,os,bare,un,hok,fly,n1,n2,n3,n4,q⟩:=h
 have J:Inv (z3W (CXX P w) P w K mg base N qual scope f cdv A outer s0 H0 E) pins σ H' s':=I.call' (ch:=[]) os un hok bare fun b hb=>absurd hb (by simp)
 obtain⟨oe,vs,oT,ts,y1,y2,y3,y4,y5,y6,y7,y8,y9⟩:=fly
 have hl:s'.heap.FunFrames base (z3W (CXX P w) P w K mg base N qual scope f cdv A outer s0 H0 E).stack:=J.stack
 have hfr:(z3W (CXX P w) P w K mg base N qual scope f cdv A outer s0 H0 E).A.frames=some (z3W (CXX P w) P w K mg base N qual scope f cdv A outer s0 H0 E).stack:=J.ok.frames
 have sz:s0.heap.objs.size<=s.heap.objs.size:=I.sz
 have sz2:s0.heap.objs.size<=s'.heap.objs.size:=J.sz
 have hsz:1<vs.size:=(Array.getElem?_eq_some_iff.mp y5).1
 show wpAny (model P w) (z3W (CXX P w) P w K mg base N qual scope f cdv A outer s0 H0 E).A (leaving (z3W (CXX P w) P w K mg base N qual scope f cdv A outer s0 H0 E).env (.ref a)) _ _ s'
 refine zcD (T:=T) hfr hl rfl y1 y4 y5 y6 y7 y8 y9 fun h' z=>?_
 obtain⟨T2,hT2,fly2⟩:=Lft.fly (C:=C) (dx:=dx) z y2 y3 hsz
 obtain⟨un2,hok2⟩:=za2 J z (Heap.get?_none_of_le (qG sz n1)) (fun b hb=>by cases List.mem_singleton.mp hb;exact⟨Heap.get?_none_of_le (qG sz n2),n4⟩) (H':=H') (by
  funext b
  by_cases hb:b=a
  ·rw[hb,z4B,n3]
  ·rw[z5G hb]) (.inl n3)
 exact⟨a,C,dx,T2,H',rfl,J.os,J.bare,un2,hok2,fly2,qG sz n1,qG sz2 hT2,n3,J.hok.fresh hT2,q⟩
end
section
variable {M:Model}{A:Around}{E:Value->Shared->Prop}{env:Env}
variable {nm q:Str}{C N:Addr}{bs bm:List Value}{hdct:Bool}{sn:List Str}{sub:List Value}{ab:Bool}{col:Option Bool}{dd:Option Addr}{k0 k1 k2 k3 k5:Option Value}{newId:String}
theorem zbW {s:Shared}{x:Sem Value}{Q:Flow->Shared->Prop}(hb:bm.contains (.type "BaseException")=true) (hh:A.handled=none)
 (h:wpAny M A x (fun v s1=>∃e t0 dx,v=.ref e/\s1.heap.get? C=some (excClassObj nm q C N bs bm hdct sn sub ab col dd k0 k1 k2 k3 k5 newId)/\s1.heap.get? e=some { cls:=.ref C,dict:=some dx,data:=.fields #[.ref t0,.none,.none,.none,.bool false,.none] }/\E (.ref e) s1) E s):
 wpAny M A (raiseStmt env (some x) none) Q E s:=by
 have c1:(Value.ref C::bm).contains (.type "BaseException")=true:=by
  rw[List.contains_cons,hb]
  exact Bool.or_true _
 unfold raiseStmt
 refine q9 (wpAny_mono h (fun v s1 h1=>?_) fun _ _ y=>y)
 obtain⟨e,t0,dx,rfl,hC,he,hE⟩:=h1
 obtain⟨hp,g,d,tk,os⟩:=s1
 repeat (first|with_reducible refine wpAny_loadPart_at hC ?_|with_reducible refine wpAny_loadPart_at he ?_|(with_reducible refine wpAny_isSubtype_exc hC ?_;rw[c1])|wp_step)
 exact wpAny_raiseNew_none hh hE
end
section
variable {X:Cx}{CX:CXT}{k:Nat}{f C:Addr}{fd:FuncData}{ps:List Str}{sp:Sp}{x:Str}{p pos cpos:Pos}{e:Expr}{es:List Expr}{t:TA}
theorem z9C {pins:List (Addr×Obj)}{σ:St}{H:Hp}{s:Shared}{us:List Value}{vs:List V}{Qx:Addr->Addr->Hp->Prop}(c:zcS X.K C f) (F:z1B X.prog X.w X.K X.mg X.base CX0 k f fd ps sp) (hr:z3B (k+1) X.A) (hb:z0G X.K fd ps [])
 (I:Inv X pins σ H s) (r:z19 vs us) (hz:vs.length<=sizeLine)
 (h:∀a,H a=none->sp (.ref a::vs) (upd H a (XO0 C a)) (fun v H2=>v=.non/\∃dx,H2 a=some (XO1 C a dx)/\Qx a dx H2) E0):
 wpAny (model X.prog X.w) X.A (call (.ref C) us) (fun v s'=>∃a dx H2,v=.ref a/\s.heap.objs.size<=a/\Inv X pins σ H2 s'/\H2 a=some (XO1 C a dx)/\Qx a dx H2) X.xe s:=by
 obtain⟨nm,q,N,bs,bm,sn,sub,ab,col,dd,k0,k1,k2,k3,k5,lk,b1,b2,b3,b4,b5,b6⟩:=c.ob
 have hq:=h (s.heap.objs.size+1) (I.hok.fresh (Nat.le_succ _))
 have kk:∀b o,s.heap.get? b=some o->(z3y s.heap C us).get? b=some o:=fun b o e=>qc _ (qc _ e)
 have hget:(z3y s.heap C us).get? (s.heap.objs.size+1)=some (z2P C s.heap.objs.size):=by heap_get
 have I2:Inv X pins σ (upd H (s.heap.objs.size+1) (XO0 C (s.heap.objs.size+1))) { s with heap:=z3y s.heap C us }:=I.laid (t':=s.toks) kk (Nat.le_succ _) (XO0.ok hget)
 have r2:z19 (V.ref (s.heap.objs.size+1)::vs) (Value.ref (s.heap.objs.size+1)::us):=.cons rfl r
 have hl:((Value.ref (s.heap.objs.size+1)::us)++[]).length=ps.length:=by
  rw[qF,<- r2.length]
  exact F.len _ _ _ _ hq
 have run:=F.run _ X.stack _ _ ⟨Value.ref (s.heap.objs.size+1)::us,[]⟩ (Value.ref (s.heap.objs.size+1)::us) _ _ E0 (hr.make C us []) (I2.env0.make C us []) (by have:=hb _ (Value.ref (s.heap.objs.size+1)::us) I2.kIn hl;rw[qF]at this;exact this) r2 hq
 refine wpAny_call ?_
 obtain⟨hh,g,d,t,os⟩:=s
 refine zbZ (f:=f) b1 b4 b5 (I.kIn _ _ lk) (looks_findIn I.kIn c.init) (fun self=>bind_fn I.kIn self (beq_iff_eq.mp c.fn)) (by rw[<- r.length];exact hz) (codeAny_mono run fun r s' hq'=>?_)
 cases r with
 |error e=>exact False.elim hq'
 |ok fl=>
  cases fl with
  |ret u=>
   obtain⟨v,H',I3,rv,ev,dx,q3,q4⟩:=I2.after hq'
   subst ev
   exact⟨rv,_,dx,H',rfl,Nat.le_succ _,I3,q3,q4⟩
  |next=>exact False.elim hq'
  |brk=>exact False.elim hq'
  |cont=>exact False.elim hq'
def zaJ (X:Cx) (E:XK):Prop:=∀(pins:List (Addr×Obj)) (σ:St) (H:Hp) (s:Shared) (a C dx:Addr),Inv X pins σ H s->H a=some (XO1 C a dx)->X.s₀.heap.objs.size<=a->E (.ref C) (some dx) (del H a)->X.xe (.ref a) s
def zd9 (C:Addr) (sp:Sp) (E:XK) (t:TA):TS:=fun _ σ H=>t σ H fun vs H1=>vs.length<=sizeLine/\∀a,H1 a=none->sp (.ref a::vs) (upd H1 a (XO0 C a)) (fun v H2=>v=.non/\∃dx,H2 a=some (XO1 C a dx)/\E (.ref C) (some dx) (del H2 a)) E0
theorem zb7 {E:XK}(c:zcS X.K C f) (F:z1B X.prog X.w X.K X.mg X.base CX0 k f fd ps sp) (hr:z3B (k+1) X.A) (hb:z0G X.K fd ps []) (hg:Gl X x) (hm:X.mg x=some (.ref C)) (hc:X.calm=true) (hE:zaJ X E) (ha:PA X (e::es) t)
 (hdb:(x == ("__debug__":Str))=false:=by decide) (he:starEach (e::es) X.env=(false,eval e X.env)::starEach es X.env:=by rfl) (hpl:(backTo cpos (starEach es X.env)).any (·.1)=false:=by rfl):
 PS X (.Raise (some (.Call (.Name x p) (e::es) [] cpos)) none pos) (zd9 C sp E t):=by
 intro pins s σ H D I h
 obtain⟨nm,q,N,bs,bm,sn,sub,ab,col,dd,k0,k1,k2,k3,k5,lk,b1,b2,b3,b4,b5,b6⟩:=c.ob
 rw[arm_exec_Raise]
 refine q9 (wpAny_standAt ?_)
 refine zbW (C:=C) (nm:=nm) (q:=q) (N:=N) (bs:=bs) (bm:=bm) (hdct:=true) (sn:=sn) (sub:=sub) (ab:=ab) (col:=col) (dd:=dd) (k0:=k0) (k1:=k1) (k2:=k2) (k3:=k3) (k5:=k5) (newId:="ValueError.__new__") b2 (I.ok.hd hc) ?_
 refine q9 (wpAny_mono (wpAny_Call_Name_kw (z58 I hg hm ?_ hdb)) (fun v s1 hv=>q9 (wpAny_standAt (qg hv))) fun _ _ y=>y)
 refine callWith_K (h₀:=X.base) I.ok.mod.kin c.kp (thn (ha cpos pins s σ H _ I h) fun us s1 ⟨vs,H1,I1,r,hz,q1⟩=>⟨I1.kIn,?_⟩) he hpl
 refine thn (z9C c F hr hb I1 r hz q1) fun v s2 ⟨a,dx,H2,ev,hnew,I2,ea,qE⟩=>?_
 obtain⟨⟨t0,hx⟩,_,_⟩:=I2.hok a _ ea
 refine⟨a,t0,dx,ev,I2.kIn _ _ lk,hx,hE pins σ H2 s2 a C dx I2 ea ?_ qE⟩
 exact qG I1.sz hnew
end
def XO2 (C a dx:Addr):HO:=.ext fun h=>∃oe fs,h.get? a=some oe/\oe.cls=.ref C/\oe.dict=some dx/\oe.data=.fields fs
theorem XO2.ok {P:Program}{w:World}{H:Hp}{h:Heap}{a C dx:Addr}{oe:Obj}{fs:Array Value}(e:h.get? a=some oe) (hc:oe.cls=.ref C) (hd:oe.dict=some dx) (hf:oe.data=.fields fs):z1o P w H h a (XO2 C a dx):=
 ⟨⟨oe,fs,e,hc,hd,hf⟩,⟨_,e⟩,fun h1 h2 ⟨oe,fs,q,r⟩ k=>⟨oe,fs,k _ q,r⟩⟩
section
variable {M:Model}{A:Around}{E:Value->Shared->Prop}{h:Heap}{g:Array GenState}{d:Drawn}{t:Nat}{os:OsState}{e:Addr}{oe:Obj}
variable {nm q:Str}{C N:Addr}{bs bm:List Value}{hdct:Bool}{sn:List Str}{sub:List Value}{ab:Bool}{col:Option Bool}{dd:Option Addr}{k0 k1 k2 k3 k5:Option Value}{newId:String}
variable {nm' q':Str}{C' N':Addr}{bs' bm':List Value}{hdct':Bool}{sn':List Str}{sub':List Value}{ab':Bool}{col':Option Bool}{dd':Option Addr}{k0' k1' k2' k3' k5':Option Value}{newId':String}
theorem zaO {Q:Bool->Shared->Prop}(hC:h.get? C=some (excClassObj nm q C N bs bm hdct sn sub ab col dd k0 k1 k2 k3 k5 newId)) (hC':h.get? C'=some (excClassObj nm' q' C' N' bs' bm' hdct' sn' sub' ab' col' dd' k0' k1' k2' k3' k5' newId'))
 (hb:bm'.contains (.type "BaseException")=true) (hs:(Value.ref C::bm).contains (.ref C')=true) (he:h.get? e=some oe) (hc:oe.cls=.ref C) (hq:Q true ⟨h,g,d,t,os⟩):wpAny M A (excMatches (.ref e) (.ref C')) Q E ⟨h,g,d,t,os⟩:=by
 have c1:(Value.ref C'::bm').contains (.type "BaseException")=true:=by
  rw[List.contains_cons,hb]
  exact Bool.or_true _
 have f:=tc_notTuple
 unfold excMatches
 repeat (first|with_reducible refine wpAny_loadPart_at hC' ?_|(with_reducible refine wpAny_loadPart_at he ?_;rw[hc])|(with_reducible refine wpAny_isSubtype_exc hC' ?_;rw[c1])|(with_reducible refine wpAny_isSubtype_exc hC ?_;rw[hs])|wp_step)
 exact hq
end
section
variable {X:Cx}{pins:List (Addr×Obj)}{σ:St}{H:Hp}{s:Shared}{a:Addr}{oe:Obj}{vs:Array Value}{ex:List Addr}{fl:Value}{h':Heap}
theorem Inv.lft (I:Inv X pins σ H s) (z:Lft X.stack a oe vs ex fl s.heap h') (hch:∀b∈a::ex,H b=none/\X.s₀.heap.objs.size<=b/\z5y X pins H b):Inv X pins σ H { s with heap:=h' }:=by
 have nn:∀b,b∉a::ex->b≠a/\b∉ex:=fun b hb=>⟨fun q=>hb (by rw[q];exact qv),fun q=>hb (qt _ q)⟩
 refine I.call' (s':={ s with heap:=h' }) (ch:=a::ex) rfl ⟨fun b o q n h1 h2=>z.keep b o q (nn b h2).1 (nn b h2).2 h1,fun b o q n h1 h2=>z.slot b o q h1,fun _ _ _ n _=>n,fun b o q h2=>?_,fun _ _ q=>q,fun _ _ _ q=>q,fun b ps q=>⟨#[],by rw[q];simp⟩⟩ (fun c u e=>?_) I.bare
  fun b hb=>⟨.inr (hch b hb).2.1,(hch b hb).2.2.2.1,(hch b hb).2.2.2.2.2.2.1,(hch b hb).2.2.2.2.2.2.2⟩
 ·by_cases hm:b∈frs X.stack
  ·obtain⟨sl,y⟩:=z.slot b o q hm
   exact⟨_,y⟩
  ·exact⟨o,z.keep b o q (nn b h2).1 (nn b h2).2 hm⟩
 ·have tracked:∀b o',H b=some o'->b∉a::ex:=fun b o' q y=>by rw[(hch b y).1]at q;cases q
  refine(I.hok c u e).stay (fun b v hb hv=>?_) (fun _ q=>q) fun _ _ q=>q
  have hbt:∃o',H b=some o':=by
   rcases hb with rfl|hb
   ·exact⟨_,e⟩
   ·exact⟨_,hb⟩
  obtain⟨o',ho'⟩:=hbt
  have h2:=nn b (tracked b o' ho')
  refine z.keep b v hv h2.1 h2.2 fun y=>?_
  rw[I.stkFree b y]at ho'
  cases ho'
theorem z9Y {M:Model}{A:Around}{E:Value->Shared->Prop}{i:Nat}{n:Str}{pos:Pos}{Q:Unit->Shared->Prop}(I:Inv X pins σ H s) (hN:X.N.Nodup) (hi:X.N[i]?=some n) (hk:X.env.kindOf n=some .local)
 (h:∀s',Inv X pins (σ.set i none) H s'->Q () s'):wpAny M A (do bindName X.env n .none;unbindBehindTheSuite X.env n pos) Q E s:=by
 obtain⟨m,hn,hl⟩:=id I.loc
 have hcls:(X.env.scope.kind == .class || (X.env.scope.kind == .module && X.env.locals != X.env.globals))=false:=by rw[I.ok.kind];rfl
 have hiσ:i<σ.length:=by rw[I.len];exact(qi.mp hi).1
 have cne:=I.cne
 refine wpAny_nameGoes_keeps hk hn hcls fun h' v hn' hs=>?_
 have lt:∀b o,X.s₀.heap.get? b=some o->b≠X.env.locals:=fun b o e=>qN (qK (qy e) I.ok.above)
 refine h _ ⟨I.ok,I.os,I.bare,⟨fun b o e n hb hx=>(hs.2 b (lt b o e)).trans (I.base.keep b o e n hb hx),fun b o e n hb hx=>?_,I.base.free,fun b o e hx=>?_,I.base.tups,I.base.frzs,I.base.tbls⟩,⟨_,hn',fun j y v' e1 e2 e3=>?_⟩,fun y c e=>?_,I.free,I.freeC,fun p hp=>?_,fun b ob e=>?_,by simpa using I.len⟩
 ·obtain⟨sl,e1⟩:=I.base.slot b o e n hb hx
  exact⟨sl,(hs.2 b (lt b o e)).trans e1⟩
 ·obtain⟨o',e1⟩:=I.base.there b o e hx
  exact⟨o',(hs.2 b (lt b o e)).trans e1⟩
 ·by_cases hj:j=i
  ·subst hj
   rw[List.getElem?_set_self hiσ]at e2
   cases e2
  ·rw[List.getElem?_set_ne (Ne.symm hj)]at e2
   obtain⟨u',r',q⟩:=hl j y v' e1 e2 e3
   refine⟨u',r',?_⟩
   rcases q with⟨k,e⟩|⟨k,c,e,z⟩
   ·refine .inl ⟨k,?_⟩
    have hne:y≠n:=fun e=>hj (z2u hN e1 (e▸hi))
    show(if y=n then v else m y)=some u'
    rw[if_neg hne]
    exact e
   ·exact .inr ⟨k,c,e,z.sameBut hs (cne y c e)⟩
 ·obtain⟨w',z⟩:=I.cell y c e
  exact⟨w',z.sameBut hs (cne y c e)⟩
 ·obtain⟨e,n,ne,nf,d⟩:=I.pin p hp
  exact⟨(hs.2 p.1 ne).trans e,n,ne,nf,d⟩
 ·refine(I.hok b ob e).stay (fun c w' hc q=>(hs.2 c ?_).trans q) (fun _ q=>q) fun _ _ q=>q
  intro z
  subst z
  rcases hc with rfl|hc
  ·rw[I.free]at e;cases e
  ·rw[I.free]at hc;cases hc
end
def zeB (K:PySem.W.Frag) (C C0:Addr):Prop:=∃nm q N bs bm hdct sn sub ab col dd k0 k1 k2 k3 k5 newId,K.lookup C=some (excClassObj nm q C N bs bm hdct sn sub ab col dd k0 k1 k2 k3 k5 newId)/\(Value.ref C::bm).contains (.ref C0)=true
def IsX (K:PySem.W.Frag) (C:Addr):Prop:=∃nm q N bs bm hdct sn sub ab col dd k0 k1 k2 k3 k5 newId,K.lookup C=some (excClassObj nm q C N bs bm hdct sn sub ab col dd k0 k1 k2 k3 k5 newId)/\bm.contains (.type "BaseException")=true
section
variable {X:Cx}{k:Nat}{f C0:Addr}{fd:FuncData}{ps:List Str}{sp:Sp}{dvs:List V}{ds:List Value}{fx cx y m n:Str}{iy im inn:Nat}{p pos apos py cp pm pn pa hpos tpos:Pos}{e:Expr}{es:List Expr}{t:TA}
end
section
variable {prog:Program}{w:World}{A:Around}{E:Value->Shared->Prop}{h:Heap}{g:Array GenState}{d:Drawn}{t:Nat}{os:OsState}{a dx:Addr}{o:Obj}{vs:Array Value}
 {nm q:Str}{C N:Addr}{bs bm:List Value}{sn:List Str}{sub:List Value}{ab:Bool}{col:Option Bool}{dd:Option Addr}{k0 k1 k2 k3 k5:Option Value}{newId:String}{mA:Str->Option Value}{name:Str}{v:Value}
theorem zes {α:Type}{M:Model}{p:Sem α}{r:α}{Q:α->Shared->Prop}(x:Looks M h p r) (z:Q r ⟨h,g,d,t,os⟩):wpAny M A p Q E ⟨h,g,d,t,os⟩:=x _ _ _ _ (fun _ _ e=>e) z
theorem z7z {M:Model}{nv:Value}{Q:Unit->Shared->Prop}(hC:h.get? C=some (excClassObj nm q C N bs bm true sn sub ab col dd k0 k1 k2 k3 k5 newId)) (hB:bm.contains (.type "BaseException")=true) (hx:h.get? a=some o) (hc:o.cls=.ref C)
 (hq:Q () ⟨h,g,d,t,os⟩):wpAny M A (checkBuiltinCall "BaseException.__getattribute__" ⟨[.ref a,nv],[]⟩) Q E ⟨h,g,d,t,os⟩:=by
 have c1:(Value.ref C::bm).contains (.type "BaseException")=true:=by
  rw[List.contains_cons,hB]
  exact Bool.or_true _
 have e1:builtinKind "BaseException.__getattribute__"=some .slot:=by decide +kernel
 have e2:splitId "BaseException.__getattribute__"=some ("BaseException","__getattribute__"):=by decide +kernel
 have ha:=PySem.F.args_bexc_ga (.ref a) nv
 have S0:Looks M h (isInstance (.ref a) (.type "BaseException")) true:=by
  have T0:Looks M h (typeOf (.ref a)) (.ref C):=by
   have:Looks M h (typeOf (.ref a)) o.cls:=(Looks.ld hx).andThen .now
   rw[hc]at this
   exact this
  refine T0.andThen ?_
  intro A' Q' E' s' kk qq
  obtain⟨h2,g2,d2,t2,os2⟩:=s'
  refine wpAny_isSubtype_exc (kk _ _ hC) ?_
  rw[c1]
  exact qq
 exact @check_slot M _ _ ⟨h,g,d,t,os⟩ "BaseException.__getattribute__" "BaseException" "__getattribute__" (.ref a) [nv] [] _ e1 e2 S0 ha hq
theorem zaQ {tk:Tok}{Q:PySem.Fin->Shared->Prop}(hC:h.get? C=some (excClassObj nm q C N bs bm true sn sub ab col dd k0 k1 k2 k3 k5 newId)) (hx:h.get? a=some o) (hc:o.cls=.ref C) (hd:o.data=.fields vs) (hdx:o.dict=some dx) (hns:h.Ns1 dx mA) (hv:mA name=some v)
 (L1:Looks (model prog w) h (typeLookup (.ref C) name) none) (hq:Q (.done (.ret v)) ⟨h,g,d,t,os⟩):wpAny (model prog w) A (Builtin.«object.__getattribute__» ⟨[.ref a,.str name tk],[]⟩) Q E ⟨h,g,d,t,os⟩:=by
 unfold Builtin.«object.__getattribute__»
 repeat (first|(with_reducible refine wpAny_loadPart_at hx ?_;rw[hc])|with_reducible refine zes L1 ?_|wp_step)
 rw[hd]
 dsimp only
 unfold instanceDict
 repeat (first|with_reducible refine wpAny_loadPart_at hC ?_|(with_reducible refine wpAny_loadPart_at hx ?_;rw[hc])|wp_step)
 rw[hdx]
 repeat (first|(with_reducible refine wpAny_nsGet hns.ns ?_;rw[hv])|wp_step)
 exact hq
theorem zbX {expr:Bool}{Q:Value->Shared->Prop}(hC:h.get? C=some (excClassObj nm q C N bs bm true sn sub ab col dd k0 k1 k2 k3 k5 newId)) (hB:bm.contains (.type "BaseException")=true) (hx:h.get? a=some o) (hc:o.cls=.ref C) (hd:o.data=.fields vs) (hdx:o.dict=some dx)
 (hns:h.Ns1 dx mA) (hv:mA name=some v) (L1:Looks (model prog w) h (typeLookup (.ref C) name) none) (L2:Looks (model prog w) h (typeLookup (.ref C) "__getattribute__") (some (.builtin "BaseException.__getattribute__"))) (L3:Looks (model prog w) h (typeLookup (.ref C) "__getattr__") none) (hh:handedOut v=pure v)
 (hq:Q v ⟨h,g,d,t+1,os⟩):wpAny (model prog w) A (getAttr (.ref a) name expr) Q E ⟨h,g,d,t,os⟩:=by
 have FB:=PySem.F.attr_ValueError
 have f3:=FB.ga.bind (.ref a)
 have x0:(expr && onTheHeap (Value.builtin "BaseException.__getattribute__"))=false:=by cases expr<;>rfl
 have x2:(Value.builtin "BaseException.__getattribute__" == Value.builtin "object.__getattribute__")=false:=by decide +kernel
 have x1:(onTheHeap (Value.ref C) && Value.builtin "BaseException.__getattribute__" == Value.builtin "object.__getattribute__")=false:=by
  rw[x2]
  rfl
 unfold getAttr getAttrBy
 repeat (any_goals (first|assumption|(with_reducible refine wpAny_loadPart_at hx ?_;rw[hc])|with_reducible refine zes L2 ?_|with_reducible refine zes L3 ?_|wp_step))
 refine codeAny_call_builtin FB.ga.plain PySem.F.entry_bexc_ga (z7z hC hB hx hc (zaQ hC hx hc hd hdx hns hv L1 ?_))
 show wpAny _ _ (handedOut v) _ _ _
 rw[hh]
 exact qg hq
end
structure ze0 (K:PySem.W.Frag) (C:Addr):Prop where
 ob:∃nm q N bs bm sn sub ab col dd k0 k1 k2 k3 k5 newId,K.lookup C=some (excClassObj nm q C N bs bm true sn sub ab col dd k0 k1 k2 k3 k5 newId)/\bm.contains (.type "BaseException")=true
 ga:findIn K (.ref C) "__getattribute__"=some (some (.builtin "BaseException.__getattribute__"))
 gh:findIn K (.ref C) "__getattr__"=some none
 pl:findIn K (.ref C) "place"=some none
section
variable {X:Cx}{e:Expr}{te:TE}{pos:Pos}
theorem zc0 {pins:List (Addr×Obj)}{σ:St}{H:Hp}{s:Shared}{a C dx:Addr}{v:V}{b:Bool}{E:Value->Shared->Prop}{A:Around}{Q:Value->Shared->Prop}(I:Inv X pins σ H s) (ea:H a=some (XO2 C a dx)) (ed:H dx=some (.xd [("place",v)])) (c:ze0 X.K C)
 (h:∀u s',Inv X pins σ H s'->z1C v u->Q u s'):wpAny (model X.prog X.w) A (getAttr (.ref a) "place" b) Q E s:=by
 obtain⟨⟨oe,fs,y1,y2,y3,y4⟩,_,_⟩:=I.hok a _ ea
 obtain⟨mA,ns,rel⟩:=I.hok dx _ ed
 obtain⟨u,hu,ru⟩:=z6E.some_of (v:=v) (o:=mA "place") (rel "place")
 obtain⟨nm,q,N,bs,bm,sn,sub,ab,col,dd,k0,k1,k2,k3,k5,newId,lk,b2⟩:=c.ob
 obtain⟨hh,g,d,t,os⟩:=s
 exact zbX (I.kIn _ _ lk) b2 y1 y2 y4 y3 ns hu (looks_findIn I.kIn c.pl) (looks_findIn I.kIn c.ga) (looks_findIn I.kIn c.gh) (handedOut_of (z7d ru)) (h u _ (I.tok _) ru)
end
section
variable {P:Program}{w:World}{K:PySem.W.Frag}{mg:Str->Option Value}{base:Heap}
theorem Fun.okX {x qual:Str}{st:Stmt}{f:Addr}{fd:FuncData}{N ps:List Str}{k:Nat}{sp:Sp}(F:Fun K x qual st f fd) (S:z0m N ps (z02 st)) (len:∀vs H Q E,sp vs H Q E->vs.length=ps.length)
 (hbody:∀(cdv:Value) (A:Around) (outer:List Env) (s:Shared) (H:Hp) (vs:List V) (Q:VK) (E:XK),z3B k (A.deeper (envOfC qual (z02 st) s.heap.objs.size f cdv))->sp vs H Q E->
  ∃t,PSs (z3W (CXX P w) P w K mg base N qual (z02 st) f cdv A outer s H E) (z09 st) t/\t { nx:=fun _ H'=>Q .non H',rt:=Q } (z5h N vs) H):z1B P w K mg base (CXX P w) (k+1) f fd ps sp:=by
 obtain⟨oc,od,kV,doc,pm,an,cdv,ct,osl,rfl,lk,hcd⟩:=F.ex
 exact zcM lk hcd S len fun A outer s H vs Q E hr hsp=>hbody cdv A outer s H vs Q E hr hsp
theorem zcj {N:List Str}{qual:Str}{scope:Scope}{f:Addr}{cdv:Value}{A:Around}{outer:List Env}{s:Shared}{H:Hp}{E:XK}:zaJ (z3W (CXX P w) P w K mg base N qual scope f cdv A outer s H E) E:=
 fun _ _ _ _ _ _ _ I ea hn q=>zb5 I ea hn q
end
section
variable {prog:Program}{w:World}{A:Around}{E:Value->Shared->Prop}{h:Heap}{g:Array GenState}{d:Drawn}{t:Nat}{os:OsState}{a:Addr}{o:Obj}{vs:Array Value}
 {nm q:Str}{C N:Addr}{bs bm:List Value}{sn:List Str}{sub:List Value}{ab:Bool}{col:Option Bool}{dd:Option Addr}{k0 k1 k2 k3 k5:Option Value}{newId:String}
end
structure XIs (K:PySem.W.Frag) (C:Addr):Prop where
 ob:∃nm q N bs bm sn sub ab col dd k0 k1 k2 k3 k5 newId,K.lookup C=some (excClassObj nm q C N bs bm true sn sub ab col dd k0 k1 k2 k3 k5 newId)/\bm.contains (.type "BaseException")=true/\bm.contains (.type "object")=true
 cl:findIn K (.ref C) "__class__"=some (some (.builtin "object.__class__"))
 ga:findIn K (.ref C) "__getattribute__"=some (some (.builtin "BaseException.__getattribute__"))
 gh:findIn K (.ref C) "__getattr__"=some none
section
variable {X:Cx}
end
end L2
namespace L2
open PySem PySem.Spec PyProof.Rows
section
variable {X:Cx}
theorem zbd:OpR X (binaryOp .FloorDiv) (fun x y H Q=>∃i j,x=.int i/\y=.int j/\(0<j/\j.natAbs.log2<9000)/\Q (.int (i / j)) H):=by
 have z:OpR X (binaryOp .FloorDiv) (rI (fun _ j=>0<j/\j.natAbs.log2<9000) fun i j=>.int (i / j)):=opI fun i j _ _ _ _ _ hc q=>by
  have h1:(0:Int)<j:=hc.1
  exact floordiv_int (by omega) (by rw[Int.fdiv_eq_ediv_of_nonneg i (by omega)];exact q) (.inl (PyProof.noPylong_of_log2 hc.2))
 exact z
theorem zdA:OpR X (binaryOp .BitAnd) (fun x y H Q=>∃i j,x=.int i/\y=.int j/\Q (.int (Builtin.bitAnd i j)) H):=zdv
theorem zep:OpR X (binaryOp .BitOr) (fun x y H Q=>∃i j,x=.int i/\y=.int j/\Q (.int (Builtin.bitOr i j)) H):=zej
theorem zdz:OpR X (binaryOp .BitXor) (fun x y H Q=>∃i j,x=.int i/\y=.int j/\Q (.int (Builtin.bitXor i j)) H):=zdo
end
theorem z2Z {x y:Str}(c:decide (V.str x=V.str y)=true):x=y:=by injection (of_decide_eq_true c)
theorem z4g {x y:Str}(c:¬ decide (V.str x=V.str y)=true):¬ x=y:=fun e=>c (decide_eq_true (by rw[e]))
theorem z1L {x y:Int}(c:decide (V.int x=V.int y)=true):x=y:=by injection (of_decide_eq_true c)
theorem z2F {x y:Int}(c:¬ decide (V.int x=V.int y)=true):¬ x=y:=fun e=>c (decide_eq_true (by rw[e]))
end L2
namespace L2
open PySem
def txt (v:Value):Str:=match v with|.str x _=>x|_=>""
structure z0F (P:Program) (w:World) (es:Array (Int×Value)) (t:SetTable) (ys:List Str):Prop where
 el:ElemsOf (strKind P w) es.toList
 nd:(es.toList.map fun e=>txt e.2).Nodup
 mem:∀k,k∈(es.toList.map fun e=>txt e.2)↔k∈ys
 few:es.size<scanBound
 fit:t.fits es.size=true
 led:t.led=!w.params.followText "set-order"
 pl:0<es.size->t.plain=false
theorem zad {P:Program}{w:World}{k:Str}{v:Value}(h:(strKind P w).is k v=true):txt v=k:=by
 obtain⟨t,rfl⟩:=Value.isStrOf_shape h
 rfl
theorem z9w (t:SetTable) (n:Nat):(t.orStandIn n).led=t.led/\(t.plain=false->(t.orStandIn n).plain=false):=by
 unfold SetTable.orStandIn
 split
 ·exact⟨rfl,fun z=>z⟩
 ·exact⟨rfl,fun _=>rfl⟩
theorem z96 (t:SetTable) (es:Array (Int×Value)) (h:Int) (x:Value):(layNew t es h x).2.1.led=t.led/\(t.plain=false->(layNew t es h x).2.1.plain=false):=by
 unfold layNew
 split
 ·exact z9w (t.put _).1 _
 ·exact⟨rfl,fun _=>rfl⟩
theorem z6Y (t:SetTable) (es:Array (Int×Value)) (n:Nat):(relayAll t es n).2.1.led=t.led/\(t.plain=false->(relayAll t es n).2.1.plain=false):=by
 unfold relayAll SetTable.standIn
 split
 ·rename_i t' order he
  unfold SetTable.relaid SetTable.laid at he
  have:t'.led=t.led/\t'.plain=t.plain:=by
   simp only[Option.bind_eq_bind,Option.bind_eq_some_iff]at he
   obtain⟨ow,_,he⟩:=he
   injection he with he
   injection he with h1 h2
   rw[<- h1]
   exact⟨rfl,rfl⟩
  dsimp only
  split
  ·exact⟨this.1,fun z=>this.2.trans z⟩
  ·exact⟨rfl,fun _=>rfl⟩
 ·exact⟨rfl,fun _=>rfl⟩
def z0r (es:Array (Int×Value)) (ep:Nat) (t:SetTable):Obj:={ cls:=.type "set",dict:=none,data:=.set es ep t }
section
variable {P:Program}{w:World}{A:Around}{E:Value->Shared->Prop}{s:Shared}
theorem z2A {a:Addr}{es es':Array (Int×Value)}{ep:Nat}{t t':SetTable}(ho:s.heap.get? a=some (z0r es ep t)):
 (s.heap.update a (Obj.putSet es' t')).get? a=some (z0r es' (ep+1) t'):=by
 have hd:(z0r es ep t).data=.set es ep t:=rfl
 have:=Heap.get?_update_self (Obj.putSet es' t') ho (by rw[putSet_of es' t' hd];rfl)
 rw[putSet_of es' t' hd]at this
 exact this
theorem zaI {a:Addr}{es:Array (Int×Value)}{ep:Nat}{t:SetTable}{ys:List Str}{k:Str}{tk:Tok}{Q:Bool->Shared->Prop}
 (ho:s.heap.get? a=some (z0r es ep t)) (T:z0F P w es t ys) (room:es.size+1<scanBound)
 (h:∀(b:Bool) h' es' ep' t',Heap.SameBut a s.heap h'->h'.get? a=some (z0r es' ep' t')->z0F P w es' t' (ys++[k])->es'.size<=es.size+1->Q b { s with heap:=h' }):
 wpAny (model P w) A (setAddHashed a (.str k tk) (hashStr w k)) Q E s:=by
 have hkey:(strKind P w).is k (.str k tk)=true:=by
  show Value.isStrOf k (.str k tk)=true
  simp[Value.isStrOf]
 have hsc:(Value.str k tk).scannable=true:=rfl
 have hd:(z0r es ep t).data=.set es ep t:=rfl
 unfold setAddHashed setAddHashedIn
 refine wpAny_holding (q9 (wpAny_setState_of ho hd T.fit ?_))
 dsimp only
 rw[byScan_of hsc T.few T.el]
 simp only[↓reduceIte]
 unfold setAddByScan
 refine q9 ?_
 refine q9 (wpAny_rule ?_)
 refine q9 (wpAny_setScan_of (knd:=strKind P w) (k:=k) hkey ho hd T.fit T.el ?_)
 cases hr:List.findIdx? (fun e=>(strKind P w).is k e.2) es.toList with
 |some j=>
  dsimp only
  obtain⟨hj,hpj,_⟩:=List.findIdx?_eq_some_iff_getElem.mp hr
  refine qg (qg ?_)
  have:=h false s.heap es ep t (Heap.SameBut.refl a s.heap) ho ⟨T.el,T.nd,fun k'=>?_,T.few,T.fit,T.led,T.pl⟩ (by omega)
  ·exact this
  ·rw[T.mem k',qk,List.mem_singleton]
   refine⟨.inl,fun z=>z.elim id fun e=>?_⟩
   rw[<- T.mem,e,<- zad hpj]
   exact List.mem_map.mpr ⟨_,List.getElem_mem hj,rfl⟩
 |none=>
  dsimp only
  have hnew:k∉es.toList.map fun e=>txt e.2:=by
   intro hm
   obtain⟨e,he,hk⟩:=List.mem_map.mp hm
   have hn:=List.findIdx?_eq_none_iff.mp hr e he
   obtain⟨⟨k',hk',_⟩,_⟩:=T.el e he
   rw[zad hk']at hk
   subst hk
   rw[hk']at hn
   cases hn
  have hgw:∀(b:Bool) {s₁:Shared}{Q':Unit->Shared->Prop},Q' () s₁->wpAny (model P w) A (match b with|true=>rule "set.scan.the-table-gave-way"|false=>pure ()) Q' E s₁:=by
   intro b s₁ Q' hq
   cases b
   ·exact qg hq
   ·exact wpAny_rule hq
  have hperm:=layNew_perm t es (hashStr w k) (.str k tk)
  have hfits:=layNew_fits t es (hashStr w k) (.str k tk)
  have hled:=z96 t es (hashStr w k) (.str k tk)
  show wpAny _ _ (match layNew t es (hashStr w k) (.str k tk)with|(es,t,wasDummy,gave)=>_) _ _ _
  generalize layNew t es (hashStr w k) (.str k tk)=Ln at hperm hfits hled ⊢
  obtain⟨es1,t1,wd,gv⟩:=Ln
  dsimp only at hperm hfits hled ⊢
  rw[Array.toList_push]at hperm
  have hsz1:es1.size=es.size+1:=by rw[<- Array.length_toList,hperm.length_eq,qe,Array.length_toList];rfl
  have tab:∀(es2:Array (Int×Value)) (t2:SetTable),es2.toList.Perm es1.toList->t2.fits es2.size=true->t2.led=t.led->t2.plain=false->z0F P w es2 t2 (ys++[k]):=fun es2 t2 hp hf hl hpl=>by
   have hp':=hp.trans hperm
   refine⟨(T.el.push hkey hsc).perm hp',?_,fun k'=>?_,?_,hf,hl.trans T.led,fun _=>hpl⟩
   ·refine(hp'.map _).nodup_iff.mpr ?_
    rw[List.map_append,List.nodup_append]
    refine⟨T.nd,by simp,fun x hx y hy=>?_⟩
    simp only[List.map_cons,List.map_nil,List.mem_singleton]at hy
    rintro rfl
    rw[hy]at hx
    exact hnew hx
   ·rw[(hp'.map _).mem_iff,List.map_append,qk,T.mem k',qk]
    rfl
   ·rw[<- Array.length_toList,hp'.length_eq,qe,Array.length_toList]
    exact room
  refine q9 (hgw _ ?_)
  have tail:∀t2:SetTable,t2.fits es1.size=true->t2.led=t.led->t2.plain=false->∀R:Option Bool->Shared->Prop,(∀h' es' ep' t',Heap.SameBut a s.heap h'->h'.get? a=some (z0r es' ep' t')->z0F P w es' t' (ys++[k])->es'.size<=es.size+1->R (some true) { s with heap:=h' })->
   wpAny (model P w) A (do
    storeSet a es1 t2
    if(!wd && t2.tooFull)=true then do
     (match(relayAll t2 es1 (SetTable.grown es1.size)).2.2 with|true=>rule "set.scan.the-table-gave-way"|false=>pure ())
     storeSet a (relayAll t2 es1 (SetTable.grown es1.size)).1 (relayAll t2 es1 (SetTable.grown es1.size)).2.1
     pure (some true)
    else pure (some true)) R E s:=fun t2 hf hl hpl R hR=>by
   have room1:es1.size<=sizeLine:=fits_of_scanBound (by rw[hsz1];exact room)
   refine q9 (wpAny_storeSet_of ho hd ?_ room1)
   have ho1:=z2A (s:=s) (es':=es1) (t':=t2) ho
   have sb1:=Heap.SameBut.update s.heap a (Obj.putSet es1 t2)
   split
   ·have hp:=relayAll_perm t2 es1 (SetTable.grown es1.size)
    have hfr:=relayAll_fits t2 es1 (SetTable.grown es1.size)
    have hlr:=z6Y t2 es1 (SetTable.grown es1.size)
    generalize relayAll t2 es1 (SetTable.grown es1.size)=Rl at hp hfr hlr ⊢
    obtain⟨es2,t3,g2⟩:=Rl
    dsimp only at hp hfr hlr ⊢
    have hsz2:es2.size=es1.size:=by rw[<- Array.length_toList,hp.length_eq,Array.length_toList]
    refine q9 (hgw _ ?_)
    refine q9 (wpAny_storeSet_of (s:={ s with heap:=s.heap.update a (Obj.putSet es1 t2) }) ho1 rfl ?_ (by rw[hsz2];exact room1))
    exact qg (hR _ es2 _ t3 (sb1.trans (Heap.SameBut.update _ a _)) (z2A (s:={ s with heap:=s.heap.update a (Obj.putSet es1 t2) }) ho1) (tab es2 t3 hp hfr (hlr.1.trans hl) (hlr.2 hpl)) (by omega))
   ·exact qg (hR _ es1 _ t2 sb1 ho1 (tab es1 t2 (.refl _) hf hl hpl) (by omega))
  split
  ·refine q9 ?_
   rw[hashByValue_scannable 8 hsc]
   refine qg ?_
   refine tail _ (SetTable.fits_plain_off hfits) hled.1 rfl _ fun h' es' ep' t' a1 a2 a3 a4=>?_
   exact qg (h true h' es' ep' t' a1 a2 a3 a4)
  ·rename_i hpl
   refine q9 (qg ?_)
   simp only[↓reduceIte]
   refine tail _ hfits hled.1 (by simpa using hpl) _ fun h' es' ep' t' a1 a2 a3 a4=>?_
   exact qg (h true h' es' ep' t' a1 a2 a3 a4)
end
section
variable {P:Program}{w:World}{A:Around}{E:Value->Shared->Prop}{s:Shared}
theorem zbt {R:Result->Shared->Prop}{I:Addr}{fp wr:List Addr}{G:Array GenState->Array GenState->Prop}{n:Nat}{PI:Nat->Value->Prop}{St:Nat->Shared->Prop}
 (W:WalksS P w A.in1 I fp wr G n PI St) (S:Addr) (hSf:S∉fp) (zs:List Str) (hz:∀i v,PI i v->∃k t,zs[i]?=some k/\v=.str k t) (hb:n+1<scanBound):
 ∀(k i:Nat) (s:Shared),n-i=k->i<=n->St i s->
  (∃es ep t,s.heap.get? S=some (z0r es ep t)/\z0F P w es t (zs.take i)/\es.size<=i)->
  (∀s',Moved (S::wr) G s s'->(∃es ep t,s'.heap.get? S=some (z0r es ep t)/\z0F P w es t (zs.take n)/\es.size<=n)->R (.ok (.ret .none)) s')->
  codeAny (model P w) A (.builtin "set.update.loop" ⟨[.ref S,.ref I],[]⟩) R s:=by
 have hSw:S∉wr:=fun z=>hSf (W.sub _ z)
 have up:∀b∈wr,b∈S::wr:=fun b z=>qt _ z
 intro k
 induction k with
 |zero=>
  intro i s hk hi hst hS hR
  obtain rfl:i=n:=by omega
  refine codeAny_builtin PyProof.Rows.F.entry_set_update_loop ?_
  rw[Around.under_plainId PyProof.Rows.F.plain_set_update_loop _]
  show wpAny _ A.in1 (pyNext (.ref I) >>= _) _ _ s
  refine q9 (W.done s _ _ hst fun s' hm=>?_)
  show wpAny _ A.in1 (ret Value.none) _ _ s'
  obtain⟨es,ep,t,h1,h2,h3⟩:=hS
  exact qg (hR s' (hm.mono up) ⟨es,ep,t,hm.heap S _ hSw h1,h2,h3⟩)
 |succ k ih=>
  intro i s hk hi hst hS hR
  have lt:i<n:=by omega
  refine codeAny_builtin PyProof.Rows.F.entry_set_update_loop ?_
  rw[Around.under_plainId PyProof.Rows.F.plain_set_update_loop _]
  show wpAny _ A.in1 (pyNext (.ref I) >>= _) _ _ s
  refine q9 (W.item i s _ _ lt hst fun v s' hP hst' hm=>?_)
  obtain⟨z,t,hzi,rfl⟩:=hz i v hP
  obtain⟨es,ep,tb,h1,h2,h3⟩:=hS
  have h1':=hm.heap S _ hSw h1
  show wpAny _ A.in1 (holding [Value.str z t] (setAdd S (.str z t)) >>= _) _ _ s'
  refine q9 (wpAny_holding ?_)
  unfold setAdd
  refine wpAny_holding ?_
  refine q9 (wpAny_pyHash_str ?_)
  refine zaI (s:={ s' with toks:=s'.toks+1 }) h1' h2 (by omega) fun b h' es' ep' t' sb g1 g2 g3=>?_
  have e:zs.take (i+1)=zs.take i++[z]:=by rw[qz,hzi];rfl
  refine qg ⟨plainId_quiet PyProof.Rows.F.plain_set_update_loop _,ih (i+1) _ (by omega) lt (W.frame _ s' _ _ hst' (Nat.le_succ _) fun b hb o q=>?_) ⟨es',ep',t',g1,by rw[e];exact g2,by omega⟩ fun s2 m2 S2=>?_⟩
  ·rw[sb.2 b fun z:b=S=>hSf (by rw[<- z];exact hb)]
   exact q
  ·refine hR s2 (Moved.trans W.gtrans ((hm.mono up).then_heap (Nat.le_succ _) fun b o hb q=>?_) m2) S2
   rw[sb.2 b fun z:b=S=>hb (by rw[z];exact qv)]
   exact q
end
theorem z29:Slot "set_iterator" "__next__" "set_iterator.__next__":=
 .of (owner:="set_iterator") (n:="__next__") (by rw[typeLookup_type,builtinLookup_eq_fast];kernel_rfl) (by decide +kernel) (by decide +kernel) (by decide +kernel) (.inl (by decide +kernel)) (by rw[isSubtype_type];kernel_rfl)
theorem z3d:entryFor table "set_iterator.__next__"=some Builtin.«set_iterator.__next__»:=entryFor_of_tree (by kernel_rfl)
theorem z3e (a:Value):argsOk "set_iterator.__next__" ⟨[a],[]⟩:=by unfold argsOk;kernel_rfl
theorem z8j:Slot "set_iterator" "__iter__" "set_iterator.__iter__":=
 .of (owner:="set_iterator") (n:="__iter__") (by rw[typeLookup_type,builtinLookup_eq_fast];kernel_rfl) (by decide +kernel) (by decide +kernel) (by decide +kernel) (by first|exact .inl (by decide +kernel)|exact .inr (by decide +kernel)) (by rw[isSubtype_type];kernel_rfl)
theorem z8T:entryFor table "set_iterator.__iter__"=some Builtin.«dict_keyiterator.__iter__»:=entryFor_alias (id':="dict_keyiterator.__iter__") (by kernel_rfl) rfl (by decide +kernel) (by kernel_rfl)
theorem z8U (a:Value):argsOk "set_iterator.__iter__" ⟨[a],[]⟩:=by unfold argsOk;kernel_rfl
theorem z8X:entryFor table "set.__iter__"=some Builtin.«frozenset.__iter__»:=entryFor_alias (id':="frozenset.__iter__") (by kernel_rfl) rfl (by decide +kernel) (by kernel_rfl)
def z2r (fst:Value) (i:Nat) (a:Addr) (n ep:Nat):Obj:={ cls:=.type "set_iterator",data:=.fields #[fst,.int i 0,.ref a,.int n 0,.int ep 0] }
section
variable {P:Program}{w:World}{A:Around}{E:Value->Shared->Prop}{s:Shared}
theorem z20 {a:Addr}{es:Array (Int×Value)}{ep:Nat}{t:SetTable}{Q:Array (Int×Value)->Shared->Prop}(ho:s.heap.get? a=some (z0r es ep t)) (hf:t.fits es.size=true) (h:Q es s):
 wpAny (model P w) A (setEntries a) Q E s:=by
 unfold setEntries
 exact q9 (wpAny_setState_of ho rfl hf (qg h))
theorem z9y {I a tp:Addr}{i p n ep:Nat}{es:Array (Int×Value)}{t:SetTable}{its:Array Value}{x:Int×Value}{nn:Nat}{ot:Obj}{tk:Tok}{Q:Option Value->Shared->Prop}
 (hi:s.heap.get? I=some (z2r (.ref tp) i a n ep)) (hs:s.heap.get? a=some (z0r es ep t)) (hf:t.fits es.size=true) (hn:es.size=n)
 (ht:s.heap.get? tp=some ot) (htd:ot.data=.seq its nn) (hp:its[i]?=some (.int (p:Int) tk)) (hx:es[p]?=some x)
 (h:∀h',h'.get? I=some (z2r (.ref tp) (i+1) a n ep)->Heap.SameBut I s.heap h'->Q (some x.2) { s with heap:=h' }):
 wpAny (model P w) A (pyNext (.ref I)) Q E s:=by
 have ty:s.TypeIs (.ref I) "set_iterator":=⟨_,hi,rfl⟩
 unfold pyNext
 refine q9 (wpAny_attempt (wpAny_callSpecial?_slot (name:=Str.ofString "__next__") ty z29 (wpAny_call_entry z29 ty z3d ?_ (z3e _))))
 unfold Builtin.«set_iterator.__next__»
 refine q9 (qg ?_)
 refine q9 (wpAny_fieldsOf hi rfl ?_)
 dsimp only
 refine q9 (z20 hs hf ?_)
 have ne:((es.size:Int) != (n:Int))=false:=by rw[hn];simp
 rw[ne,if_neg qm]
 refine q9 (wpAny_seqItems ht htd ?_)
 dsimp only
 rw[Int.toNat_natCast,hp]
 dsimp only
 refine q9 ?_
 unfold setNextDrawn
 refine q9 (wpAny_setState_of hs rfl hf ?_)
 dsimp only
 have ne2:(ep != (ep:Int).toNat)=false:=by rw[Int.toNat_natCast];simp
 rw[ne2,if_neg qm,Int.toNat_natCast,hx]
 dsimp only
 refine qg ?_
 refine q9 (wpAny_setField hi rfl (by simp) (qg ⟨_,rfl,qg (h _ ?_ (Heap.SameBut.update ..))⟩))
 have:=Heap.get?_update_self (Obj.mapFields (·.setIfInBounds 1 (rawInt ((i:Int)+1)))) hi rfl
 exact this
theorem z9u {Q:Option Value->Shared->Prop}(hh:A.handled=none) (h:∀h',(∀b o,s.heap.get? b=some o->h'.get? b=some o)->Q none { s with heap:=h' }):
 wpAny (model P w) A.in1 (newExc (.type "StopIteration") [] >>= fun x=>(raiseNew x:Sem Fin)) (fun fin s'=>∃v,fin=Fin.done (Flow.ret v)/\wpAny (model P w) A (pure (some v)) Q E s')
  (fun e s'=>wpAny (model P w) A (do if <- isInstance e (Value.type "StopIteration")then pure none else throw e) Q E s') s:=by
 refine q9 ?_
 simp only[newExc,newTuple]
 refine q9 (wpAny_newObj_type ?_ (by size_fits))
 refine q9 (m:=firstArgMember _ _) (wpAny_of_eq (a:=Value.none) (by first|rfl|(simp only[firstArgMember];rfl)) ?_)
 refine wpAny_newObj_type ?_ (by size_fits)
 simp only[raiseNew]
 refine q9 (wpAny_handled ?_)
 have hh':A.in1.handled=none:=hh
 rw[hh']
 refine q9 (qg (wpAny_throw ?_))
 refine q9 (wpAny_isInstance (T:="StopIteration") (b:=true) ⟨_,qw _ rfl,rfl⟩ isSubtype_stop ?_)
 exact qg (h _ fun b o e=>qc _ (qc _ e))
theorem z67 {I a tp:Addr}{i n ep:Nat}{es:Array (Int×Value)}{t:SetTable}{its:Array Value}{nn:Nat}{ot:Obj}{Q:Option Value->Shared->Prop}(hh:A.handled=none)
 (hi:s.heap.get? I=some (z2r (.ref tp) i a n ep)) (hs:s.heap.get? a=some (z0r es ep t)) (hf:t.fits es.size=true) (hn:es.size=n)
 (ht:s.heap.get? tp=some ot) (htd:ot.data=.seq its nn) (hp:its[i]?=none)
 (h:∀h',(∀b o,b≠I->s.heap.get? b=some o->h'.get? b=some o)->Q none { s with heap:=h' }):
 wpAny (model P w) A (pyNext (.ref I)) Q E s:=by
 have ty:s.TypeIs (.ref I) "set_iterator":=⟨_,hi,rfl⟩
 unfold pyNext
 refine q9 (wpAny_attempt (wpAny_callSpecial?_slot (name:=Str.ofString "__next__") ty z29 (wpAny_call_entry z29 ty z3d ?_ (z3e _))))
 unfold Builtin.«set_iterator.__next__»
 refine q9 (qg ?_)
 refine q9 (wpAny_fieldsOf hi rfl ?_)
 dsimp only
 refine q9 (z20 hs hf ?_)
 have ne:((es.size:Int) != (n:Int))=false:=by rw[hn];simp
 rw[ne,if_neg qm]
 refine q9 (wpAny_seqItems ht htd ?_)
 dsimp only
 rw[Int.toNat_natCast,hp]
 dsimp only
 refine q9 (wpAny_setField hi rfl (by simp) ?_)
 have g1:=Heap.get?_update_self (Obj.mapFields (·.setIfInBounds 0 (rawInt 0))) hi rfl
 refine q9 (wpAny_setField g1 rfl (by simp) ?_)
 refine z9u hh fun h' k=>h h' fun b o hb e=>k b o ?_
 exact(Heap.get?_update_other _ _ (Ne.symm hb)).trans ((Heap.get?_update_other _ _ (Ne.symm hb)).trans e)
theorem z8i {I a:Addr}{i n ep sl sl':Nat}{es:Array (Int×Value)}{t:SetTable}{x:Value}{Q:Option Value->Shared->Prop}
 (hi:s.heap.get? I=some (z2r (.int (sl:Int) 0) i a n ep)) (hs:s.heap.get? a=some (z0r es ep t)) (hf:t.fits es.size=true) (hn:es.size=n)
 (hx:∀Q':Option (Value×Nat)->Shared->Prop,∀E',Q' (some (x,sl')) s->wpAny (model P w) A.in1 (setNext a sl i ep) Q' E' s)
 (h:∀h',h'.get? I=some (z2r (.int (sl':Int) 0) (i+1) a n ep)->Heap.SameBut I s.heap h'->Q (some x) { s with heap:=h' }):
 wpAny (model P w) A (pyNext (.ref I)) Q E s:=by
 have ty:s.TypeIs (.ref I) "set_iterator":=⟨_,hi,rfl⟩
 unfold pyNext
 refine q9 (wpAny_attempt (wpAny_callSpecial?_slot (name:=Str.ofString "__next__") ty z29 (wpAny_call_entry z29 ty z3d ?_ (z3e _))))
 unfold Builtin.«set_iterator.__next__»
 refine q9 (qg ?_)
 refine q9 (wpAny_fieldsOf hi rfl ?_)
 dsimp only
 refine q9 (z20 hs hf ?_)
 have ne:((es.size:Int) != (n:Int))=false:=by rw[hn];simp
 rw[ne,if_neg qm,Int.toNat_natCast,Int.toNat_natCast,Int.toNat_natCast]
 refine q9 (hx _ _ ?_)
 dsimp only
 refine q9 (wpAny_setField hi rfl (by simp) ?_)
 have g1:=Heap.get?_update_self (Obj.mapFields (·.setIfInBounds 0 (rawInt (sl':Int)))) hi rfl
 refine q9 (wpAny_setField g1 rfl (by simp) (qg ⟨_,rfl,qg (h _ ?_ ((Heap.SameBut.update ..).trans (Heap.SameBut.update ..)))⟩))
 exact Heap.get?_update_self (Obj.mapFields (·.setIfInBounds 1 (rawInt ((i:Int)+1)))) g1 rfl
theorem z32 {I a:Addr}{i n ep sl:Nat}{es:Array (Int×Value)}{t:SetTable}{Q:Option Value->Shared->Prop}(hh:A.handled=none)
 (hi:s.heap.get? I=some (z2r (.int (sl:Int) 0) i a n ep)) (hs:s.heap.get? a=some (z0r es ep t)) (hf:t.fits es.size=true) (hn:es.size=n)
 (hx:∀Q':Option (Value×Nat)->Shared->Prop,∀E',Q' none s->wpAny (model P w) A.in1 (setNext a sl i ep) Q' E' s)
 (h:∀h',(∀b o,b≠I->s.heap.get? b=some o->h'.get? b=some o)->Q none { s with heap:=h' }):
 wpAny (model P w) A (pyNext (.ref I)) Q E s:=by
 have ty:s.TypeIs (.ref I) "set_iterator":=⟨_,hi,rfl⟩
 unfold pyNext
 refine q9 (wpAny_attempt (wpAny_callSpecial?_slot (name:=Str.ofString "__next__") ty z29 (wpAny_call_entry z29 ty z3d ?_ (z3e _))))
 unfold Builtin.«set_iterator.__next__»
 refine q9 (qg ?_)
 refine q9 (wpAny_fieldsOf hi rfl ?_)
 dsimp only
 refine q9 (z20 hs hf ?_)
 have ne:((es.size:Int) != (n:Int))=false:=by rw[hn];simp
 rw[ne,if_neg qm,Int.toNat_natCast,Int.toNat_natCast,Int.toNat_natCast]
 refine q9 (hx _ _ ?_)
 dsimp only
 refine q9 (wpAny_setField hi rfl (by simp) ?_)
 refine z9u hh fun h' k=>h h' fun b o hb e=>k b o ?_
 exact(Heap.get?_update_other _ _ (Ne.symm hb)).trans e
theorem z4A {I a:Addr}{fst:Value}{i n ep:Nat}{Q:Value->Shared->Prop}(hi:s.heap.get? I=some (z2r fst i a n ep)) (h:Q (.ref I) s):wpAny (model P w) A (pyIter (.ref I)) Q E s:=by
 have ty:s.TypeIs (.ref I) "set_iterator":=⟨_,hi,rfl⟩
 refine wpAny_pyIter_slot ty z8j (wpAny_call_entry z8j ty z8T ?_ (z8U _))
 show wpAny _ _ (ret (.ref I)) _ _ s
 exact qg ⟨_,rfl,"set_iterator",_,ty,z29.lookup,h⟩
end
section
variable {P:Program}{w:World}{A:Around}{E:Value->Shared->Prop}{s:Shared}
theorem zc1 {src:Source}{n:Nat}{Q:Nat->Shared->Prop}(hn:n≠0) (h:∀i d,i<n->Q i { s with drawn:=d }):wpAny (model P w) A (choose src n) Q E s:=fun Γ p _=>by
 show Sem.wp _ _ (.choose src n .pure) _ _ _ _
 rw[Sem.wp_choose]
 refine⟨hn,?_⟩
 have:=h ((model P w).w.draws src (s.drawn.get src) % n) (s.drawn.bump src) (Nat.mod_lt _ (Nat.pos_of_ne_zero hn))
 simpa using this
theorem z8n {α:Type}{xs:List α}{i:Nat}{x:α}(h:xs[i]?=some x):(x::xs.eraseIdx i).Perm xs:=by
 induction xs generalizing i with
 |nil=>simp at h
 |cons y r ih=>
  cases i with
  |zero=>simp at h;subst h;exact .refl _
  |succ j=>
   simp only[List.getElem?_cons_succ]at h
   exact(List.Perm.swap y x _).trans ((ih h).cons y)
theorem z6x {α:Type}:∀(n:Nat) (xs:List α) (s:Shared) (Q:List α->Shared->Prop),xs.length=n->(∀ys d,ys.Perm xs->Q ys { s with drawn:=d })->wpAny (model P w) A (drawOrder n xs) Q E s
 |0,xs,s,Q,hn,h=>by
  obtain rfl:=List.length_eq_zero_iff.mp hn
  exact qg (h [] s.drawn (.refl _))
 |n+1,[],s,Q,hn,h=>by cases hn
 |n+1,x::r,s,Q,hn,h=>by
  unfold drawOrder
  refine q9 (zc1 (by simp) fun i d hi=>?_)
  have e:(x::r)[i]?=some (x::r)[i]:=qf hi
  rw[e]
  dsimp only
  refine q9 (z6x n _ _ _ (by rw[List.length_eraseIdx_of_lt hi];omega) fun ys d' hp=>qg ?_)
  exact h _ d' ((hp.cons _).trans (z8n e))
theorem z9J {α:Type}(next:Nat->Nat):∀(fuel k:Nat) (left:List α) (out:Array α),left.length=fuel->(pickOrder.go next fuel k left out).toList.Perm (out.toList++left)
 |0,k,left,out,h=>by
  obtain rfl:=List.length_eq_zero_iff.mp h
  unfold pickOrder.go
  rw[qF]
 |fuel+1,k,left,out,h=>by
  unfold pickOrder.go
  have hi:next k % left.length<left.length:=Nat.mod_lt _ (by omega)
  have e:=qf hi
  rw[e]
  dsimp only
  refine(z9J next fuel (k+1) _ _ (by rw[List.length_eraseIdx_of_lt hi];omega)).trans ?_
  rw[Array.toList_push,List.append_assoc]
  exact(List.Perm.refl _).append (z8n e)
theorem z71 {α:Type}(next:Nat->Nat) (xs:Array α):(pickOrder next xs).toList.Perm xs.toList:=by
 have:=z9J next xs.size 0 xs.toList #[] Array.length_toList
 simpa[pickOrder]using this
theorem z3A {Q:Bool->Shared->Prop}(h:Q (w.params.followText "set-order") s):wpAny (model P w) A setsByText Q E s:=by
 unfold setsByText
 exact q9 (wpAny_askSetting (qg h))
structure zcU (P:Program) (w:World) (es:Array (Int×Value)) (a:Addr) (s s':Shared) (I:Addr):Prop where
 ex:∃(fp:List Addr) (vs:List Value) (St:Nat->Heap->Prop),vs.Perm (es.toList.map (·.2))/\(∀A:Around,A.handled=none->Walks P w A I fp [I] vs.length (fun i v=>vs[i]?=some v) St)/\St 0 s'.heap/\(∀b∈fp,b<s'.heap.objs.size/\(b=a\/s.heap.get? b=none))/\I∈fp
 old:∀b o,s.heap.get? b=some o->s'.heap.get? b=some o
 new:s.heap.get? I=none
 gens:s'.gens=s.gens
 os:s'.os=s.os
 toks:s'.toks=s.toks
theorem zbs {t:SetTable}{n:Nat}(h:t.fits n=true):t.place.size=n:=by
 simp only[SetTable.fits,Bool.and_eq_true,beq_iff_eq]at h
 exact h.1
theorem z4k {h:Heap}{b:Addr}(k:h.objs.size<=b):h.get? b=none:=by
 cases q:h.get? b with
 |none=>rfl
 |some o=>exact absurd (qK (qy q) k) (Nat.lt_irrefl _)
theorem zbl {a:Addr}{es:Array (Int×Value)}{ep:Nat}{t:SetTable}{ys:List Str}{Q:Value->Shared->Prop}(hs:s.heap.get? a=some (z0r es ep t)) (T:z0F P w es t ys)
 (h:∀s' I,zcU P w es a s s' I->Q (.ref I) s'):wpAny (model P w) A (pyIter (.ref a)) Q E s:=by
 have ty:s.TypeIs (.ref a) "set":=⟨_,hs,rfl⟩
 have alt:a<s.heap.objs.size:=qy hs
 refine wpAny_pyIter_slot ty F.slot_set_iter (wpAny_call_entry F.slot_set_iter ty z8X ?_ (F.args_set_iter_1 _))
 unfold Builtin.«frozenset.__iter__»
 refine q9 (qg ?_)
 refine q9 ?_
 unfold Builtin.Frozenset.sizeOf
 refine q9 (z20 hs T.fit (qg ?_))
 refine q9 ?_
 unfold setDrawn
 refine q9 (wpAny_setState_of hs rfl T.fit ?_)
 dsimp only
 refine q9 (z3A (qg ?_))
 have two:∀(fst:Value) (s1:Shared),s1.heap.get? a=some (z0r es ep t)->(∀it s',it=.ref s1.heap.objs.size->s'={ s1 with heap:=s1.heap.push (z2r fst 0 a es.size ep) }->Q it s')->
  wpAny (model P w) A.in1 (do
   let e <- setEpoch a
   let x <- newFields "set_iterator" [fst,rawInt 0,.ref a,rawInt (es.size:Int),rawInt (e:Int)]
   ret x) (fun fin s'=>∃v,fin=Fin.done (Flow.ret v)/\∃T' r,s'.TypeIs v T'/\typeLookup (Value.type T') (Str.ofString "__next__")=pure (some r)/\Q v s') E s1:=fun fst s1 h1 hq=>by
  refine q9 (wpAny_setEpoch_of h1 rfl T.fit ?_)
  unfold newFields
  refine q9 (wpAny_newObj_type ?_)
  refine qg ⟨_,rfl,"set_iterator",_,⟨_,qw _ rfl,rfl⟩,z29.lookup,hq _ _ rfl rfl⟩
 show wpAny _ _ (if(!w.params.followText "set-order" && (!t.plain && decide (es.size > 1)))=true then _ else _) _ _ _
 have hpl:=zbs T.fit
 by_cases hb:w.params.followText "set-order"=true
 ·rw[hb]
  simp only[Bool.not_true,Bool.false_and,Bool.false_eq_true,if_false]
  refine q9 (qg ?_)
  refine two _ s hs fun it s' e1 e2=>?_
  subst e1 e2
  have pp:=z71 (w.params.setOrder a ep) es
  have pl:((pickOrder (w.params.setOrder a ep) es).toList.map (·.2)).length=es.size:=by rw[qb,pp.length_eq,Array.length_toList]
  have nx:∀(A':Around) (i:Nat) (s1:Shared) (Q':Option (Value×Nat)->Shared->Prop) E',s1.heap.get? a=some (z0r es ep t)->Q' (((pickOrder (w.params.setOrder a ep) es)[i]?).map fun e=>(e.2,0)) s1->wpAny (model P w) A' (setNext a 0 i ep) Q' E' s1:=fun A' i s1 Q' E' h1 q=>by
   unfold setNext
   refine q9 (wpAny_setState_of h1 rfl T.fit ?_)
   dsimp only
   refine q9 (z3A ?_)
   rw[hb,if_pos rfl]
   have ne:(ep != ep)=false:=by simp
   rw[ne,if_neg qm]
   refine q9 ?_
   unfold setWalk
   refine q9 (wpAny_setState_of h1 rfl T.fit ?_)
   dsimp only
   refine q9 (z3A ?_)
   rw[hb,if_pos rfl]
   refine q9 (wpAny_askSetting (qg ?_))
   exact qg q
  have nI:a≠s.heap.objs.size:=qN alt
  refine h _ _ ⟨⟨[s.heap.objs.size,a],(pickOrder (w.params.setOrder a ep) es).toList.map (·.2),fun i h'=>h'.get? s.heap.objs.size=some (z2r (.int 0 0) i a es.size ep)/\h'.get? a=some (z0r es ep t),pp.map _,fun A' hh=>?_,⟨qw _ rfl,qc _ hs⟩,?_,by simp⟩,fun b o e=>qc _ e,?_,rfl,rfl,rfl⟩
  ·refine⟨fun b hb=>by simp at hb;simp[hb],fun i h1 h2 st k=>⟨k _ (by simp) _ st.1,k _ (by simp) _ st.2⟩,fun i s1 Q' E' hi st q=>?_,fun s1 Q' E' st q=>?_,fun i s1 Q' E' st q=>z4A st.1 q⟩
   ·have hi':i<(pickOrder (w.params.setOrder a ep) es).size:=by rw[qb,Array.length_toList]at hi;exact hi
    refine z8i (sl:=0) (sl':=0) (x:=(pickOrder (w.params.setOrder a ep) es)[i].2) st.1 st.2 T.fit rfl (fun Q2 E2 q2=>nx _ _ _ _ _ st.2 (by rw[Array.getElem?_eq_getElem hi'];exact q2)) fun h' g1 g2=>q _ h' s1.toks ?_ ⟨g1,?_⟩ fun b o hb e=>?_
    ·simp[hi']
    ·rw[g2.2 _ nI];exact st.2
    ·rw[g2.2 _ (by simpa using hb)];exact e
   ·have hi':(pickOrder (w.params.setOrder a ep) es)[((pickOrder (w.params.setOrder a ep) es).toList.map (·.2)).length]?=none:=by simp
    exact z32 (sl:=0) hh st.1 st.2 T.fit rfl (fun Q2 E2 q2=>nx _ _ _ _ _ st.2 (by rw[hi'];exact q2)) fun h' g=>q h' s1.toks fun b o hb e=>g b o (by simpa using hb) e
  ·intro b hb
   simp only[qB,List.not_mem_nil,or_false]at hb
   rw[Heap.size_push]
   rcases hb with rfl|rfl
   ·exact⟨Nat.lt_succ_self _,.inr (z4k (qh _))⟩
   ·exact⟨Nat.lt_succ_of_lt alt,.inl rfl⟩
  ·exact z4k (qh _)
 ·have hb':w.params.followText "set-order"=false:=by simpa using hb
  rw[hb']
  have led:t.led=true:=by rw[T.led,hb'];rfl
  by_cases hz:es.size > 1
  ·have hp:=T.pl (by omega)
   rw[hp]
   simp only[Bool.not_false,Bool.true_and,hz,decide_true,if_true]
   refine q9 (z6x _ _ _ _ (by simp) fun ps d hps=>?_)
   refine q9 (wpAny_newTuple ?_ (by rw[qb,hps.length_eq,List.length_range];exact fits_of_scanBound T.few))
   refine two _ _ (qc _ hs) fun it s' e1 e2=>?_
   subst e1 e2
   dsimp only
   have lt:∀p∈ps,p<es.size:=fun p hm=>List.mem_range.mp (hps.mem_iff.mp hm)
   have sz:(s.heap.push { cls:=.type "tuple",data:=.seq (ps.map fun i:Nat=>rawInt i).toArray }).objs.size=s.heap.objs.size+1:=Heap.size_push ..
   have vp:(ps.map fun p=>(es.toList.map (·.2)).getD p .none).Perm (es.toList.map (·.2)):=by
    refine(hps.map _).trans ?_
    have e:(List.range es.size).map (fun p=>(es.toList.map (·.2)).getD p .none)=es.toList.map (·.2):=by
     refine List.ext_getElem (by simp) fun i h1 h2=>?_
     simp only[List.getElem_map,List.getElem_range]
     rw[qp,qf h2]
     simp
    rw[e]
   have nI:a≠(s.heap.push { cls:=.type "tuple",data:=.seq (ps.map fun i:Nat=>rawInt i).toArray }).objs.size:=by rw[sz];exact qN (Nat.lt_succ_of_lt alt)
   have nT:s.heap.objs.size≠(s.heap.push { cls:=.type "tuple",data:=.seq (ps.map fun i:Nat=>rawInt i).toArray }).objs.size:=by rw[sz];exact qN (Nat.lt_succ_self _)
   refine h _ _ ⟨⟨[(s.heap.push { cls:=.type "tuple",data:=.seq (ps.map fun i:Nat=>rawInt i).toArray }).objs.size,a,s.heap.objs.size],ps.map fun p=>(es.toList.map (·.2)).getD p .none,
    fun i h'=>h'.get? (s.heap.push { cls:=.type "tuple",data:=.seq (ps.map fun i:Nat=>rawInt i).toArray }).objs.size=some (z2r (.ref s.heap.objs.size) i a es.size ep)/\h'.get? a=some (z0r es ep t)/\h'.get? s.heap.objs.size=some { cls:=.type "tuple",data:=.seq (ps.map fun i:Nat=>rawInt i).toArray },
    vp,fun A' hh=>?_,⟨qw _ rfl,qc _ (qc _ hs),qc _ (qw _ rfl)⟩,?_,by simp⟩,fun b o e=>qc _ (qc _ e),?_,rfl,rfl,rfl⟩
   ·refine⟨fun b hb=>by simp at hb;simp[hb],fun i h1 h2 st k=>⟨k _ (by simp) _ st.1,k _ (by simp) _ st.2.1,k _ (by simp) _ st.2.2⟩,fun i s1 Q' E' hi st q=>?_,fun s1 Q' E' st q=>?_,fun i s1 Q' E' st q=>z4A st.1 q⟩
    ·have hi':i<ps.length:=by rw[qb]at hi;exact hi
     have pl:=lt _ (List.getElem_mem hi')
     refine z9y (p:=ps[i]) (tk:=0) (x:=es[ps[i]]) st.1 st.2.1 T.fit rfl st.2.2 rfl (by simp[hi',rawInt]) (Array.getElem?_eq_getElem pl) fun h' g1 g2=>q _ h' s1.toks ?_ ⟨g1,?_,?_⟩ fun b o hb e=>?_
     ·simp[hi',pl]
     ·rw[g2.2 _ nI];exact st.2.1
     ·rw[g2.2 _ nT];exact st.2.2
     ·rw[g2.2 _ (by simpa using hb)];exact e
    ·exact z67 hh st.1 st.2.1 T.fit rfl st.2.2 rfl (by simp) fun h' g=>q h' s1.toks fun b o hb e=>g b o (by simpa using hb) e
   ·intro b hb
    simp only[qB,List.not_mem_nil,or_false]at hb
    rw[Heap.size_push,sz]
    rcases hb with rfl|rfl|rfl
    ·rw[sz];exact⟨Nat.lt_succ_self _,.inr (z4k (Nat.le_succ _))⟩
    ·exact⟨Nat.lt_succ_of_lt (Nat.lt_succ_of_lt alt),.inl rfl⟩
    ·exact⟨Nat.lt_succ_of_lt (Nat.lt_succ_self _),.inr (z4k (qh _))⟩
   ·rw[sz];exact z4k (Nat.le_succ _)
  ·have hz':decide (es.size > 1)=false:=decide_eq_false hz
   rw[hz',Bool.and_false,Bool.and_false,if_neg qm]
   refine q9 (qg ?_)
   refine two _ s hs fun it s' e1 e2=>?_
   subst e1 e2
   have nI:a≠s.heap.objs.size:=qN alt
   have nx:∀(A':Around) (i sl:Nat) (s1:Shared) (Q':Option (Value×Nat)->Shared->Prop) E',s1.heap.get? a=some (z0r es ep t)->Q' (match es[SetTable.below t.place sl]?,t.place[SetTable.below t.place sl]? with|some (_,x),some j=>some (x,j+1)|_,_=>none) s1->wpAny (model P w) A' (setNext a sl i ep) Q' E' s1:=fun A' i sl s1 Q' E' h1 q=>by
    unfold setNext
    refine q9 (wpAny_setState_of h1 rfl T.fit ?_)
    dsimp only
    refine q9 (z3A ?_)
    rw[hb',if_neg qm]
    show wpAny _ _ (if(!t.plain && decide (es.size > 1))=true then _ else _) _ _ _
    rw[hz',Bool.and_false,if_neg qm]
    refine q9 ?_
    show wpAny _ _ (if(!t.led && !es.isEmpty)=true then _ else _) _ _ _
    rw[led,Bool.not_true,Bool.false_and,if_neg qm]
    exact qg (qg q)
   have gofar:∀sl:Nat,es.size=0->SetTable.below t.place sl=0:=fun sl h0=>by
    unfold SetTable.below
    rw[hpl,h0]
    rfl
   have gone:∀j sl:Nat,t.place=#[j]->SetTable.below t.place sl=if j<sl then 1 else 0:=fun j sl e=>by
    rw[e]
    simp[SetTable.below,SetTable.below.go]
   have old:∀b o,s.heap.get? b=some o->(s.heap.push (z2r (rawInt 0) 0 a es.size ep)).get? b=some o:=fun b o e=>qc _ e
   have inn:∀b∈[s.heap.objs.size,a],b<(s.heap.push (z2r (rawInt 0) 0 a es.size ep)).objs.size/\(b=a\/s.heap.get? b=none):=by
    intro b hb
    simp only[qB,List.not_mem_nil,or_false]at hb
    rw[Heap.size_push]
    rcases hb with rfl|rfl
    ·exact⟨Nat.lt_succ_self _,.inr (z4k (qh _))⟩
    ·exact⟨Nat.lt_succ_of_lt alt,.inl rfl⟩
   by_cases h0:es.size=0
   ·have e0:es=#[]:=Array.eq_empty_of_size_eq_zero h0
    refine h _ _ ⟨⟨[s.heap.objs.size,a],[],fun i h'=>h'.get? s.heap.objs.size=some (z2r (.int ((0:Nat):Int) 0) i a es.size ep)/\h'.get? a=some (z0r es ep t),by rw[e0];exact .refl _,fun A' hh=>?_,⟨qw _ rfl,old _ _ hs⟩,inn,by simp⟩,old,z4k (qh _),rfl,rfl,rfl⟩
    refine⟨fun b hb=>by simp at hb;simp[hb],fun i h1 h2 st k=>⟨k _ (by simp) _ st.1,k _ (by simp) _ st.2⟩,fun i s1 Q' E' hi st q=>absurd hi (Nat.not_lt_zero _),fun s1 Q' E' st q=>?_,fun i s1 Q' E' st q=>z4A st.1 q⟩
    exact z32 (sl:=0) hh st.1 st.2 T.fit rfl (fun Q2 E2 q2=>nx _ _ _ _ _ _ st.2 (by rw[gofar 0 h0,e0];exact q2)) fun h' g=>q h' s1.toks fun b o hb e=>g b o (by simpa using hb) e
   ·have h1:es.size=1:=by omega
    obtain⟨x,ex⟩:∃x,es=#[x]:=⟨es[0],by
     refine Array.ext (by simpa using h1) fun i hi hj=>?_
     have:i=0:=by simp at hj;exact hj
     subst this
     rfl⟩
    obtain⟨j,ej⟩:∃j,t.place=#[j]:=⟨t.place[0]'(by rw[hpl,h1];decide),by
     refine Array.ext (by simp[hpl,h1]) fun i hi hj=>?_
     have:i=0:=by simp at hj;exact hj
     subst this
     rfl⟩
    refine h _ _ ⟨⟨[s.heap.objs.size,a],[x.2],fun i h'=>h'.get? s.heap.objs.size=some (z2r (.int ((if i=0 then 0 else j+1:Nat):Int) 0) i a es.size ep)/\h'.get? a=some (z0r es ep t),by rw[ex];exact .refl _,fun A' hh=>?_,⟨qw _ rfl,old _ _ hs⟩,inn,by simp⟩,old,z4k (qh _),rfl,rfl,rfl⟩
    refine⟨fun b hb=>by simp at hb;simp[hb],fun i h1 h2 st k=>⟨k _ (by simp) _ st.1,k _ (by simp) _ st.2⟩,fun i s1 Q' E' hi st q=>?_,fun s1 Q' E' st q=>?_,fun i s1 Q' E' st q=>z4A st.1 q⟩
    ·obtain rfl:i=0:=by simp at hi;exact hi
     refine z8i (sl:=0) (sl':=j+1) (x:=x.2) st.1 st.2 T.fit rfl (fun Q2 E2 q2=>nx _ _ _ _ _ _ st.2 ?_) fun h' g1 g2=>q _ h' s1.toks rfl ⟨g1,?_⟩ fun b o hb e=>?_
     ·rw[gone j 0 ej,ej,ex]
      exact q2
     ·rw[g2.2 _ nI];exact st.2
     ·rw[g2.2 _ (by simpa using hb)];exact e
    ·refine z32 (sl:=j+1) hh st.1 st.2 T.fit rfl (fun Q2 E2 q2=>nx _ _ _ _ _ _ st.2 ?_) fun h' g=>q h' s1.toks fun b o hb e=>g b o (by simpa using hb) e
     rw[gone j (j+1) ej,if_pos (Nat.lt_succ_self j),ej,ex]
     exact q2
end
section
variable {P:Program}{w:World}{A:Around}{E:Value->Shared->Prop}{s:Shared}
theorem z8W:typeLookup (.type "set") "__len__"=pure (some (.builtin "set.__len__")):=by rw[typeLookup_type,builtinLookup_eq_fast];kernel_rfl
theorem z33:isSubtype (.type "set") (.type "set")=pure true:=by rw[isSubtype_type];kernel_rfl
theorem z86 {a:Addr}{es:Array (Int×Value)}{ep:Nat}{t:SetTable}{ys:List Str}{Q:List Value->Shared->Prop}(hh:A.handled=none) (hs:s.heap.get? a=some (z0r es ep t)) (T:z0F P w es t ys)
 (h:∀s' vs,vs.Perm (es.toList.map (·.2))->(∀b o,s.heap.get? b=some o->s'.heap.get? b=some o)->s'.gens=s.gens->s'.os=s.os->s.heap.objs.size<s'.heap.objs.size->Q vs s'):wpAny (model P w) A (collect (.ref a)) Q E s:=by
 unfold collect
 refine q9 (wpAny_runValue (codeAny_builtin F.entry_proto_collect ?_))
 rw[Around.under_plainId F.plain_proto_collect _]
 show wpAny _ A.in1 (newList [] >>= fun l=>again (.builtin "list.__iadd__" ⟨[l,.ref a],[]⟩)) _ _ s
 refine q9 (wpAny_newObj_type ?_)
 refine qg ⟨plainId_quiet F.plain_list_iadd _,codeAny_builtin F.entry_list_iadd ?_⟩
 rw[Around.under_plainId F.plain_list_iadd _]
 have alt:a<s.heap.objs.size:=qy hs
 have hs1:(s.heap.push { cls:=.type "list",data:=.seq ([]:List Value).toArray }).get? a=some (z0r es ep t):=qc _ hs
 show wpAny _ A.in1 (Builtin.List.listExtendWith (.ref s.heap.objs.size) (.ref a) (.ref s.heap.objs.size)) _ _ _
 unfold Builtin.List.listExtendWith
 refine q9 (wpAny_typeOf (T:="set") ⟨_,hs1,rfl⟩ ?_)
 have h1:Builtin.List.listSameRef (.ref s.heap.objs.size) (.ref a)=false:=by
  simp only[Builtin.List.listSameRef,beq_eq_false_iff_ne]
  exact Nat.ne_of_gt alt
 rw[if_neg (by rw[h1];decide)]
 refine q9 (zbl (A:=A.in1) (s:={ s with heap:=s.heap.push { cls:=.type "list",data:=.seq ([]:List Value).toArray } }) hs1 T fun s2 I W=>?_)
 obtain⟨⟨fp,vs,St,hp,wk,st0,hfp,hI⟩,old,new,eg,eo,et⟩:=W
 have hs2:=old _ _ hs1
 have l2:=old _ _ (show(s.heap.push { cls:=.type "list",data:=.seq ([]:List Value).toArray }).get? s.heap.objs.size=some { cls:=.type "list",data:=.seq ([]:List Value).toArray }from qw _ rfl)
 refine q9 (wpAny_holding ?_)
 unfold Builtin.List.listLengthHint
 refine q9 (wpAny_specialOf (T:="set") ⟨_,hs2,rfl⟩ z8W ?_)
 have ty2:s2.TypeIs (.ref a) "set":=⟨_,hs2,rfl⟩
 (generalize hid:("set.__len__":String)=id0;(fail_if_success (clear hid id0));wp_delta;rw[show splitId id0=some ("set","__len__")from by subst hid;decide +kernel];subst hid)
 refine q9 (wpAny_isInstance (b:=true) ty2 z33 ?_)
 rw[if_neg (by decide)]
 show wpAny _ _ (if _=true then _ else _) _ _ _
 rw[if_pos (by decide)]
 refine q9 (wpAny_typeOf ty2 ?_)
 refine qg ?_
 rw[if_pos (by decide)]
 refine q9 (wpAny_rule ?_)
 refine q9 ?_
 show wpAny _ A.in1 (updateSeq s.heap.objs.size (·.push .none) >>= fun _=>updateSeq s.heap.objs.size (·.pop)) _ _ _
 refine q9 (wpAny_updateSeq l2 rfl ?_)
 have l3:=Heap.get?_update_self (Obj.mapSeq (·.push Value.none)) l2 rfl
 refine wpAny_updateSeq l3 rfl ?_
 have l4:=Heap.get?_update_self (Obj.mapSeq (·.pop)) l3 rfl
 have oth:∀b o,b≠s.heap.objs.size->s2.heap.get? b=some o->((s2.heap.update s.heap.objs.size (Obj.mapSeq (·.push Value.none))).update s.heap.objs.size (Obj.mapSeq (·.pop))).get? b=some o:=fun b o hb e=>
  (Heap.get?_update_other _ _ (Ne.symm hb)).trans ((Heap.get?_update_other _ _ (Ne.symm hb)).trans e)
 have notin:s.heap.objs.size∉fp:=fun hm=>by
  rcases(hfp _ hm).2 with z|z
  ·exact Nat.lt_irrefl _ (z▸alt)
  ·rw[show({ s with heap:=s.heap.push { cls:=.type "list",data:=.seq ([]:List Value).toArray } }:Shared).heap.get? s.heap.objs.size=some { cls:=.type "list",data:=.seq ([]:List Value).toArray }from qw _ rfl]at z
   cases z
 have hn:vs.length<=sizeLine:=by rw[hp.length_eq,qb,Array.length_toList];exact fits_of_scanBound T.few
 have W:=(wk A.in1 (by simp[hh])).toS
 refine qg ⟨plainId_quiet F.plain_extend_loop _,codeAny_extend_loopS W hn _ notin _ vs.length 0 _ _ _ rfl (qA _)
  (W.frame 0 s2 _ s2.toks st0 (qh _) fun b hb o e=>oth b o (fun z=>notin (z▸hb)) e) l4 (ItemsOf.nil _) fun s' acc c' hm hS' hacc=>?_⟩
 show wpAny _ A (load s.heap.objs.size >>= _) _ _ s'
 refine q9 (wpAny_load hS' (qg ?_))
 have ea:acc.toList=vs:=by
  refine List.ext_getElem? fun i=>?_
  rw[Array.getElem?_toList]
  by_cases hi:i<acc.size
  ·rw[Array.getElem?_eq_getElem hi]
   exact(hacc.2 i _ (Array.getElem?_eq_getElem hi)).symm
  ·rw[Array.getElem?_eq_none (Nat.not_lt.mp hi),List.getElem?_eq_none (by have:=hacc.1;omega)]
 rw[ea]
 refine h s' vs hp (fun b o e=>?_) (hm.gens.trans eg) (hm.os.trans eo) (qy hS')
 have lb:b≠s.heap.objs.size:=fun z=>by rw[z]at e;exact Nat.lt_irrefl _ (qy e)
 have bI:b≠I:=fun z=>by
  rw[z]at e
  have e2:(s.heap.push { cls:=.type "list",data:=.seq ([]:List Value).toArray }).get? I=some o:=qc _ e
  exact absurd (e2.symm.trans new) (by simp)
 exact hm.heap b o (by simp[lb,bI]) (oth b o lb (old b o (qc _ e)))
theorem z8S {a:Addr}{es:Array (Int×Value)}{ep:Nat}{t:SetTable}{ys:List Str}{Q:Value->Shared->Prop}(hh:A.handled=none) (hs:s.heap.get? a=some (z0r es ep t)) (T:z0F P w es t ys) (few:es.size<64)
 (h:∀s' l n (zs:List Str) (out:List Value),s.heap.objs.size<=l->s'.heap.get? l=some { cls:=.type "list",data:=.seq out.toArray n }->PyProof.Rows.StrsAre out zs->zs.Nodup->(∀k,k∈zs↔k∈ys)->PyProof.Rows.sortedS zs=true->zs.length=es.size->
  (∀b o,s.heap.get? b=some o->s'.heap.get? b=some o)->s'.gens=s.gens->s'.os=s.os->Q (.ref l) s'):wpAny (model P w) A (call (.builtin "sorted") [.ref a]) Q E s:=by
 refine Calls.call_function_entry PyProof.Rows.kind_sorted PyProof.Rows.plain_sorted PyProof.Rows.entry_sorted (PyProof.Rows.args_sorted1 _) ?_
 unfold Builtin.«sorted»
 refine q9 (m:=checkCount "sorted" 1 1 _) (qg ?_)
 refine q9 (z86 (A:=A.in1) (by simpa using hh) hs T fun s1 vs hp old eg eo lt1=>?_)
 have str:∀us:List Value,(∀v∈us,∃k tk,v=Value.str k tk)->PyProof.Rows.StrsAre us (us.map txt):=by
  intro us
  induction us with
  |nil=>intro _;exact .nil
  |cons v r ih=>
   intro hv
   obtain⟨k,tk,rfl⟩:=hv _ qv
   exact .cons k tk (ih fun u hu=>hv u (qt _ hu))
 have all:∀v∈vs,∃k tk,v=Value.str k tk:=fun v hv=>by
  obtain⟨e,he,rfl⟩:=List.mem_map.mp (hp.mem_iff.mp hv)
  obtain⟨⟨k,hk,_⟩,_⟩:=T.el e he
  obtain⟨tk,e2⟩:=Value.isStrOf_shape hk
  exact⟨k,tk,e2⟩
 have hS:=str vs all
 have len:vs.length=es.size:=by rw[hp.length_eq,qb,Array.length_toList]
 refine q9 (wpAny_newList ?_ (by rw[len];exact fits_of_scanBound T.few))
 have ho:(s1.heap.push { cls:=.type "list",data:=.seq vs.toArray }).get? s1.heap.objs.size=some (PyProof.Rows.seqObj "list" vs.toArray 0):=qw _ rfl
 refine q9 (wpAny_holding (wpAny_call_entry PyProof.Rows.slot_list_sort ⟨_,ho,rfl⟩ PyProof.Rows.entry_list_sort (PyProof.Rows.list_sort_treeK PyProof.Rows.strKind_oneLt ho hS.keysOf (fun v1 v2 rest e=>PyProof.Rows.keyKind_strs (by rw[<- e];exact hS)) (by omega) fun st' a1 a2=>⟨_,rfl,?_⟩) (PyProof.Rows.args_list_sort _)))
 obtain⟨zs,h1,h2,h3⟩:=PyProof.Rows.sorted_out_str hS a1 a2
 obtain⟨n,at1⟩:=PyProof.Rows.sortedHeap_at (out:=(PyProof.Rows.arrOf st').map (·.2)) ho
 have pz:zs.Perm (es.toList.map fun e=>txt e.2):=by
  refine h2.trans ((hp.map txt).trans ?_)
  rw[List.map_map]
  exact .refl _
 refine qg ⟨_,rfl,h _ s1.heap.objs.size n zs ((PyProof.Rows.arrOf st').map (·.2)).toList (Nat.le_of_lt lt1) ?_ h1 (pz.nodup_iff.mpr T.nd) (fun k=>(pz.mem_iff).trans (T.mem k)) h3 (by rw[pz.length_eq,qb,Array.length_toList]) (fun b o e=>?_) eg eo⟩
 ·exact at1
 ·have e1:=old b o e
  have lt:=qy e1
  have e2:=(PyProof.Rows.sortedHeap_old (h:=s1.heap.push { cls:=.type "list",data:=.seq vs.toArray }) (a:=s1.heap.objs.size) (vs:=vs) (out:=(PyProof.Rows.arrOf st').map (·.2)) (qN lt) (by rw[Heap.size_push];exact Nat.lt_succ_of_lt lt))
  exact e2.trans (qc _ e1)
end
section
variable {P:Program}{w:World}{A:Around}{E:Value->Shared->Prop}{s:Shared}
def z6S (w:World):Obj:=z0r #[] 0 (.fresh 0 0 (!w.params.followText "set-order"))
theorem zcB (v:Value) {Q1:Value->Shared->Prop}(h:Q1 (.ref s.heap.objs.size) { s with heap:=s.heap.push (z6S w) }):
 codeAny (model P w) A (.call (.builtin "set.__new__") ⟨[.type "set",v],[]⟩) (wants Q1 E) s:=by
 refine codeAny_of_tree ?_
 show wpAny _ A.in1 (do checkBuiltinCall "set.__new__" ⟨[.type "set",v],[]⟩;again (.builtin "set.__new__" ⟨[.type "set",v],[]⟩)) _ _ s
 have en:=F.entry_set_new
 have pl:=F.plain_set_new
 refine q9 (wpAny_of_eq (F.newCall_set_1 v) (qg ⟨plainId_quiet pl _,codeAny_builtin en ?_⟩))
 rw[Around.under_plainId pl _]
 unfold Builtin.«set.__new__» Builtin.Frozenset.newClass
 have sub:=sub_set_self
 obtain⟨hp,g,d,tk,os⟩:=s
 dsimp only
 wp_walk
 refine wpAny_askSetting (qg ?_)
 dsimp only
 simp only[newObj]
 refine q9 (wpAny_alloc (qg ?_))
 exact qg h
theorem z8e:∀{vs:List Value}{zs:List Str},PyProof.Rows.StrsAre vs zs->zs.length=vs.length
 |_,_,.nil=>rfl
 |_,_,.cons _ _ r=>by rw[qI,qI,z8e r]
theorem z9q:∀{vs:List Value}{zs:List Str},PyProof.Rows.StrsAre vs zs->∀(i:Nat) (v:Value),vs[i]?=some v->∃k t,zs[i]?=some k/\v=.str k t
 |_,_,.nil,i,v,h=>by simp at h
 |_,_,.cons x t r,0,v,h=>by simp at h;exact⟨x,t,rfl,h.symm⟩
 |_,_,.cons x t r,i+1,v,h=>by
  simp only[List.getElem?_cons_succ]at h ⊢
  exact z9q r i v h
theorem ze2:z0F P w #[] (.fresh 0 0 (!w.params.followText "set-order")) []:=
 { el:=(fun e he=>by cases he),nd:=List.nodup_nil,mem:=fun _=>Iff.rfl,few:=(by unfold scanBound;decide),fit:=rfl,led:=rfl,pl:=fun z=>absurd z (Nat.lt_irrefl 0) }
set_option maxHeartbeats 3200000 in
theorem z7m {l:Addr}{items:Array Value}{zs:List Str}{Q:Value->Shared->Prop}(hh:A.handled=none) (hl:s.heap.IsList l items) (hi:PyProof.Rows.StrsAre items.toList zs) (hb:items.size+1<scanBound)
 (h:∀(h':Heap) (tk:Nat) es ep t,h'.get? s.heap.objs.size=some (z0r es ep t)->z0F P w es t zs->
  (∀b o,b<s.heap.objs.size->s.heap.get? b=some o->h'.get? b=some o)->Q (.ref s.heap.objs.size) { s with heap:=h',toks:=tk }):
 wpAny (model P w) A (call (.type "set") [.ref l]) Q E s:=by
 obtain⟨c,tl,hmro⟩:=F.called_set.mro
 have hmade:=F.called_set.made
 have hsub:=F.called_set.sub
 refine wpAny_call (codeAny_of_tree ?_)
 show wpAny _ _ (callAny (.type "set") _) _ _ _
 refine qg ⟨Code.quiet_builtin _ (by decide +kernel),codeAny_builtin F.entry_type_call ?_⟩
 rw[Around.under_plain (weight_type_call_type "set" [.ref l] []) rfl]
 have h1:=F.called_set.notType
 have h2:=F.called_set.canCreate
 have hct:=F.typeCall_set_1 (.ref l)
 repeat (any_goals (first|assumption|wp_step))
 refine codeAny_mono (zcB (P:=P) (w:=w) (E:=E) (s:=s) (.ref l) (Q1:=fun ob s1=>ob=.ref s.heap.objs.size/\s1={ s with heap:=s.heap.push (z6S w) }) ⟨rfl,rfl⟩) fun r s1 hr=>?_
 cases r with
 |error e=>exact hr
 |ok fl=>
  cases fl with
  |ret ob=>
   obtain⟨rfl,rfl⟩:=hr
   have hS:(s.heap.push (z6S w)).get? s.heap.objs.size=some (z6S w):=qw _ rfl
   have hT:Shared.TypeIs { s with heap:=s.heap.push (z6S w) } (.ref s.heap.objs.size) "set":=⟨_,hS,rfl⟩
   have hli:=F.called_set.init.lookup
   have hbi:=F.called_set.init.bind (.ref s.heap.objs.size)
   repeat (any_goals (first|assumption|wp_step))
   refine codeAny_mono (codeAny_call_builtin (R:=wants (fun r s2=>r=.none/\∃h' tk,s2={ s with heap:=h',toks:=tk }/\(∃es ep t,h'.get? s.heap.objs.size=some (z0r es ep t)/\z0F P w es t zs) /\
    (∀b o,b<s.heap.objs.size->s.heap.get? b=some o->h'.get? b=some o)) E) F.called_set.init.plain F.entry_set_init (check_set_init_1 hT ?_)) fun r2 s2 hr2=>?_
   ·obtain⟨ol,hol,hcl,nl,hdl⟩:=hl
    obtain⟨ocls,odict,odata,oslots⟩:=ol
    simp only at hcl hdl
    subst hcl hdl
    have hol':(s.heap.push (z6S w)).get? l=some { cls:=.type "list",dict:=odict,data:=.seq items nl,slots:=oslots }:=qc _ hol
    have k1:=F.sub_list_set
    have k2:=F.sub_list_frozenset
    have k3:(Value.type "list" == Value.type "dict")=false:=by decide
    have hl1:(s.heap.push (z6S w)).IsList l items:=⟨_,hol',rfl,nl,rfl⟩
    unfold Builtin.«set.__init__» noKeywords Builtin.Frozenset.updateFrom
    generalize hPI:pyIter=PI
    wp_walk
    subst hPI
    refine wpAny_pyIter_list hl1 ?_
    refine q9 (wpAny_runValue ?_)
    have lS:l<s.heap.objs.size:=qy hol
    have hh3:A.in1.in1.in1.handled=none:=by simp[hh]
    have neI:l≠(s.heap.push (z6S w)).objs.size:=by rw[Heap.size_push];exact qN (Nat.lt_succ_of_lt lS)
    have nin:s.heap.objs.size∉[(s.heap.push (z6S w)).objs.size,l]:=by
     rw[Heap.size_push]
     simp only[qB,List.not_mem_nil,or_false,not_or]
     exact⟨qN (Nat.lt_succ_self _),Nat.ne_of_gt lS⟩
    have hz:∀(i:Nat) (v:Value),items[i]?=some v->∃k t,zs[i]?=some k/\v=.str k t:=fun i v hv=>z9q hi i v (by rw[Array.getElem?_toList];exact hv)
    have lz:zs.length=items.size:=by rw[<- Array.length_toList];exact z8e hi
    refine zbt ((Walks.list hh3 _ l neI items).toS) s.heap.objs.size nin zs hz hb (items.size-0) 0 _ (by omega) (qA _) ⟨⟨_,qw _ rfl,rfl,rfl⟩,(hl1.push _)⟩ ⟨#[],0,_,qc _ hS,ze2,qh _⟩ fun s' hm hS'=>?_
    obtain⟨es,ep,t,g1,g2,_⟩:=hS'
    obtain⟨h',g',d',tk',os'⟩:=s'
    have eg:g'=s.gens:=hm.gens
    have ed:d'=s.drawn:=hm.drawn
    have eo:os'=s.os:=hm.os
    subst eg ed eo
    refine qg ?_
    rw[<- lz,qO]at g2
    refine qg ⟨rfl,h',tk',rfl,⟨es,ep,t,g1,g2⟩,fun b o hb e=>?_⟩
    have n1:b≠s.heap.objs.size:=qN hb
    have n2:b≠(s.heap.push (z6S w)).objs.size:=by rw[Heap.size_push];exact qN (Nat.lt_succ_of_lt hb)
    exact hm.heap b o (by simp only[qB,List.not_mem_nil,or_false,not_or];exact⟨n1,n2⟩) (qc _ (qc _ e))
   ·cases r2 with
    |error e=>exact hr2
    |ok fl2=>
     cases fl2 with
     |ret r=>
      obtain⟨rfl,h',tk,rfl,⟨es,ep,t,g1,g2⟩,hk⟩:=hr2
      repeat (any_goals (first|assumption|wp_step))
      exact h _ _ _ _ _ g1 g2 hk
     |_=>exact hr2.elim
  |_=>exact hr.elim
end
end L2
namespace L2
open PySem PySem.Spec PyProof.Rows
def z2H (P:Program) (w:World) (a:Addr) (ys:List Str):HO:=.ext fun h=>∃es ep t,h.get? a=some (z0r es ep t)/\z0F P w es t ys
theorem z2H.ok {P:Program}{w:World}{H:Hp}{h:Heap}{a:Addr}{ys:List Str}{es:Array (Int×Value)}{ep:Nat}{t:SetTable}(e:h.get? a=some (z0r es ep t)) (T:z0F P w es t ys):z1o P w H h a (z2H P w a ys):=
 ⟨⟨es,ep,t,e,T⟩,⟨_,e⟩,fun h1 h2 ⟨es,ep,t,q,T⟩ k=>⟨es,ep,t,k _ q,T⟩⟩
theorem z9p:∀{ys:List Str}{its:List Value},z19 (ys.map V.str) its->StrsAre its ys
 |[],_,.nil=>.nil
 |y::ys,_,.cons r t=>by
  obtain⟨k,rfl⟩:=r
  exact .cons y k (z9p t)
theorem z7O:∀{ys:List Str}{its:List Value},StrsAre its ys->z19 (ys.map V.str) its
 |_,_,.nil=>.nil
 |_,_,.cons x t r=>.cons ⟨t,rfl⟩ (z7O r)
theorem z2T {zs ds:List Str}(h:zs.Nodup) (k:∀x∈zs,x∈ds):zs.length<=ds.length:=by
 induction zs generalizing ds with
 |nil=>exact qA _
 |cons x r ih=>
  have hx:=k x qv
  have h':=List.nodup_cons.mp h
  have:=ih (ds:=ds.erase x) h'.2 fun y hy=>(List.mem_erase_of_ne (by rintro rfl;exact h'.1 hy)).mpr (k y (qt _ hy))
  rw[List.length_erase_of_mem hx]at this
  have:0<ds.length:=List.length_pos_of_mem hx
  simp only[qI]
  omega
section
variable {X:Cx}
theorem Inv.redrawn {pins:List (Addr×Obj)}{σ:St}{H:Hp}{s s':Shared}(I:Inv X pins σ H { s with heap:=s'.heap }) (hg:s'.gens=s.gens) (ho:s'.os=s.os):Inv X pins σ H s':=
 ⟨I.ok,ho.trans I.os,by rw[hg];exact I.bare,I.base,I.loc,I.cell,I.free,I.freeC,I.pin,I.hok,I.len⟩
theorem z3z (hc:X.calm=true):z5f X (.type "set") (fun xs H Q=>∃p ys,xs=[.ref p]/\SqL X.K H p (ys.map V.str)/\ys.length<4000/\∀l,H l=none->Q (.ref l) (upd H l (z2H X.prog X.w l ys))):=by
 intro pins s σ H xs us Q I r h
 obtain⟨p,ys,rfl,hq,hz,q⟩:=h
 obtain⟨u,rfl,rx⟩:=z7A r
 cases rx
 obtain⟨its,r',pl,_⟩:=I.list hq
 have hlen:=r'.length
 rw[qb]at hlen
 refine z7m (I.ok.hd hc) pl.isList (zs:=ys) (by simpa using z9p r') (by simp only[qJ];unfold scanBound;omega) fun h' tk es ep t e T k=>?_
 have kp:∀b o,s.heap.get? b=some o->h'.get? b=some o:=fun b o q=>k b o (qy q) q
 exact⟨.ref s.heap.objs.size,_,I.laid (t':=tk) kp (qh _) (z2H.ok e T),rfl,q _ (I.hok.fresh (qh _))⟩
theorem z3q (hc:X.calm=true):z5f X (.builtin "sorted") (fun xs H Q=>∃(p:Addr) (ys ds:List Str),xs=[.ref p]/\H p=some (z2H X.prog X.w p ys)/\(∀k∈ys,k∈ds)/\ds.length<64 /\
 ∀l zs,H l=none->zs.Nodup->(∀k,k∈zs↔k∈ys)->sortedS zs=true->Q (.ref l) (upd H l (.lst (zs.map V.str)))):=by
 intro pins s σ H xs us Q I r h
 obtain⟨p,ys,ds,rfl,hq,hd,h64,q⟩:=h
 obtain⟨u,rfl,rx⟩:=z7A r
 cases rx
 obtain⟨⟨es,ep,t,e,T⟩,_,_⟩:=I.hok p _ hq
 have few:es.size<64:=by
  have:=z2T T.nd fun x hx=>hd x ((T.mem x).mp hx)
  rw[qb,Array.length_toList]at this
  omega
 refine z8S (I.ok.hd hc) e T few fun s' l n zs out hl ho hS nd hm so hzl kp hg hos=>?_
 have lz:zs.length<=sizeLine:=by rw[hzl];exact fits_of_scanBound T.few
 have J:=I.laid (t':=s.toks) (h':=s'.heap) (a:=l) (o:=.lst (zs.map V.str)) kp hl ⟨by rw[qb];exact lz,out,n,z7O hS,ho⟩
 exact⟨.ref l,_,Inv.redrawn (s:=s) J hg hos,rfl,q l zs (I.hok.fresh hl) nd hm so⟩
end
end L2
namespace L2
open PySem
section
variable {P:Program}{w:World}{A:Around}{E:Value->Shared->Prop}{s:Shared}
end
end L2
namespace L2
open PySem PySem.Spec PyProof.Rows
section
variable {X:Cx}
end
theorem zbA {K:PySem.W.Frag}{a:Addr}{xs:List V}{g:TG}{tt:TT}{te:TE}{Fin:List V->Hp->Prop}{σ:St}{H:Hp}(Pv:Nat->List V->St->Hp->Prop) (h0:Pv 0 [] σ H) (hz:∀i ys σ H,i<=xs.length->Pv i ys σ H->ys.length<=i) (hx:xs.length<=sizeLine) (hl:∀i ys σ H,Pv i ys σ H->SqT K H a xs)
 (hs:∀i x ys σ H,xs[i]?=some x->Pv i ys σ H->g x σ H fun σ2 H2=>tt σ2 H2 fun b H3=>if b=true then te σ2 H3 fun y H4=>Pv (i+1) (ys++[y]) σ2 H4 else Pv (i+1) ys σ2 H3)
 (hd:∀ys σ H,Pv xs.length ys σ H->Fin ys H):∃W:Nat->Nat->List V->St->Hp->Prop,(∃m,W 0 m [] σ H)/\z2q (Itt K a) g tt te Fin W:=by
 refine⟨fun i m ys σ H=>m=xs.length-i/\i<=xs.length/\Pv i ys σ H,⟨_,rfl,qA _,h0⟩,?_⟩
 rintro i m ys σ H ⟨rfl,hi,p⟩
 have few:=hz i ys σ H hi p
 have q:=hl i ys σ H p
 by_cases lt:i<xs.length
 ·refine .inr ⟨⟨xs,xs[i],q,by simp[lt]⟩,by omega,Pv (i+1),fun ys' σ' H' p'=>⟨_,by omega,rfl,lt,p'⟩,fun v H' y=>?_⟩
  obtain⟨e,y⟩:=y
  subst e
  exact hs i v ys σ _ (y xs q) p
 ·obtain rfl:i=xs.length:=by omega
  exact .inl ⟨⟨xs,q,qh _⟩,by omega,hd ys σ H p⟩
theorem z1a {b:Bool}{A B:Prop}(h:b=true) (x:A):if b=true then A else B:=by rw[if_pos h];exact x
theorem z0X {b:Bool}{A B:Prop}(h:b=false) (x:B):if b=true then A else B:=by rw[if_neg (by rw[h];decide)];exact x
theorem zaE {X:Cx}{K:PySem.W.Frag}(e:X.K=K):z5f X (.builtin "isinstance") (fun xs H Q=>∃x t T b,xs=[x,.ty T]/\z8J K H x t/\PySem.W.kitOne K t (.type T)=some b/\Q (.bl b) H):=by
 subst e
 exact z1I
end L2
namespace Tr
open PySem PySem.Spec PyProof.Rows L2
set_option linter.all false
inductive Val
 |num (n:Int)
 |nm (x:Str)
inductive z0c
 |set (x:Str) (a:Val) (sg:Str) (b:Val)
 |put (q x:Str)
 |get (q x:Str)
 |give (x:Str)
 |cond (x:Str) (t o:List z0c)
 |whl (x:Str) (b:List z0c)
 |rep (n:Int) (b:List z0c)
def Val.names:Val->List Str
 |.num _=>[]
 |.nm x=>[x]
def z0c.names:z0c->List Str
 |.set x a _ b=>x::(a.names++b.names)
 |.put _ x|.get _ x|.give x|.cond x _ _|.whl x _=>[x]
 |.rep _ _=>[]
def z0c.inner:z0c->List (List z0c)
 |.cond _ t o=>[t,o]
 |.whl _ b|.rep _ b=>[b]
 |_=>[]
mutual
def z0c.flat:z0c->List z0c
 |.cond x t o=>.cond x t o::(z0k t++z0k o)
 |.whl x b=>.whl x b::z0k b
 |.rep n b=>.rep n b::z0k b
 |.set x a sg b=>[.set x a sg b]
 |.put q x=>[.put q x]
 |.get q x=>[.get q x]
 |.give x=>[.give x]
def z0k:List z0c->List z0c
 |[]=>[]
 |d::r=>d.flat++z0k r
end
mutual
def z0c.depth:z0c->Nat
 |.cond _ t o=>max (z0o t) (z0o o)+1
 |.whl _ b=>z0o b+1
 |.rep _ b=>z0o b+1
 |_=>0
def z0o:List z0c->Nat
 |[]=>0
 |d::r=>max d.depth (z0o r)
end
theorem z0Z:∀(a b:List z0c),z0k (a++b)=z0k a++z0k b
 |[],b=>rfl
 |d::a,b=>by rw[List.cons_append,z0k,z0k,z0Z a b,List.append_assoc]
theorem z2k:∀(a b:List z0c),z0o (a++b)=max (z0o a) (z0o b)
 |[],b=>by rw[List.nil_append,z0o,Nat.zero_max]
 |d::a,b=>by rw[List.cons_append,z0o,z0o,z2k a b,Nat.max_assoc]
theorem z1V (d:z0c):d.flat=d::d.inner.flatMap z0k:=by
 cases d<;>simp[z0c.flat,z0c.inner]
inductive Op
 |root
 |ifT (x:Str)
 |ifO (x:Str) (t:List z0c)
 |whl (x:Str)
 |rep (n:Int)
structure Fr where
 op:Op
 ds:List z0c
 shut:Bool
 times:Int
def Fr.deed (f:Fr):z0c:=match f.op with
 |.root=>.rep 0 f.ds
 |.ifT x=>.cond x f.ds []
 |.ifO x t=>.cond x t f.ds
 |.whl x=>.whl x f.ds
 |.rep n=>.rep n f.ds
def Fr.add (g:Fr) (d:z0c):Fr:={ g with ds:=g.ds++[d] }
def z4C:List Fr->List Fr
 |f::g::r=>g.add f.deed::r
 |st=>st
def Op.extra:Op->List z0c
 |.ifO _ t=>t
 |_=>[]
def Op.one:Op->Nat
 |.root=>0
 |_=>1
def cnt:List Fr->Nat
 |[]=>0
 |f::r=>(z0k f.ds).length+(z0k f.op.extra).length+f.op.one+cnt r
theorem z5H (f:Fr):z0o [f.deed]<=max (z0o f.ds) (z0o f.op.extra)+1:=by
 unfold Fr.deed
 cases e:f.op<;>simp only[z0o,z0c.depth,Op.extra]<;>omega
theorem z8E {f:Fr}(h0:f.op≠.root):(z0k [f.deed]).length<=(z0k f.ds).length+(z0k f.op.extra).length+f.op.one:=by
 unfold Fr.deed
 cases e:f.op with
 |root=>exact absurd e h0
 |_=>simp[z0k,z0c.flat,Op.extra,Op.one]<;>omega
theorem zaB (g:Fr) (r:List Fr) (d:z0c):cnt (g.add d::r)=cnt (g::r)+(z0k [d]).length:=by
 simp only[cnt,Fr.add,z0Z,qe]
 omega
theorem zaA {f g:Fr}{r:List Fr}(h0:f.op≠.root):cnt (z4C (f::g::r))<=cnt (f::g::r):=by
 show cnt (g.add f.deed::r)<=_
 rw[zaB]
 have:=z8E h0
 simp only[cnt]
 omega
def sgn (c:Nat):Str:=⟨#[c]⟩
def kws:List Str:=["ask","store","put","get","give","if","else","while","repeat","end"]
def nth (l:List Str) (i:Int):Str:=l.getD (i % l.length).toNat ""
def z6Q (i:Int):Str:=sgn (("+-*/<=&|^":Str).cps.toList.getD (i % 9).toNat 0)
def st0:List Fr:=[⟨.root,[],false,1⟩]
theorem z52 {l:List Str}(h:0<l.length) (i:Int):nth l i∈l:=by
 unfold nth
 have h1:0<=i % (l.length:Int):=Int.emod_nonneg _ (by omega)
 have h2:i % (l.length:Int)<l.length:=Int.emod_lt_of_pos _ (by omega)
 have h3:(i % (l.length:Int)).toNat<l.length:=by omega
 rw[qp,qf h3]
 exact List.getElem_mem h3
def Val.v:Val->V
 |.num n=>.int n
 |.nm x=>.str x
mutual
inductive RD (H:Hp):V->z0c->Prop
 |set {p:Addr}{x:Str}{a:Val}{sg:Str}{b:Val}:H p=some (.tup [.str "set",.str x,a.v,.str sg,b.v])->RD H (.ref p) (.set x a sg b)
 |put {p:Addr}{q x:Str}:H p=some (.tup [.str "put",.str q,.str x])->RD H (.ref p) (.put q x)
 |get {p:Addr}{q x:Str}:H p=some (.tup [.str "get",.str q,.str x])->RD H (.ref p) (.get q x)
 |give {p:Addr}{x:Str}:H p=some (.tup [.str "give",.str x])->RD H (.ref p) (.give x)
 |cond {p t o:Addr}{x:Str}{ts os:List z0c}:H p=some (.tup [.str "if",.str x,.ref t,.ref o])->RL H t ts->RL H o os->RD H (.ref p) (.cond x ts os)
 |whl {p b:Addr}{x:Str}{bs:List z0c}:H p=some (.tup [.str "while",.str x,.ref b])->RL H b bs->RD H (.ref p) (.whl x bs)
 |rep {p b:Addr}{n:Int}{bs:List z0c}:H p=some (.tup [.str "repeat",.int n,.ref b])->RL H b bs->RD H (.ref p) (.rep n bs)
inductive RL (H:Hp):Addr->List z0c->Prop
 |mk {l:Addr}{vs:List V}{ds:List z0c}:H l=some (.lst vs)->RDs H vs ds->RL H l ds
inductive RDs (H:Hp):List V->List z0c->Prop
 |nil:RDs H [] []
 |cons {v:V}{vs:List V}{d:z0c}{ds:List z0c}:RD H v d->RDs H vs ds->RDs H (v::vs) (d::ds)
end
mutual
theorem RD.same {H H':Hp}(e:z0f H H'):∀{v:V}{d:z0c},RD H v d->RD H' v d
 |_,_,.set h=>.set (e _ _ h)
 |_,_,.put h=>.put (e _ _ h)
 |_,_,.get h=>.get (e _ _ h)
 |_,_,.give h=>.give (e _ _ h)
 |_,_,.cond h a b=>.cond (e _ _ h) (RL.same e a) (RL.same e b)
 |_,_,.whl h a=>.whl (e _ _ h) (RL.same e a)
 |_,_,.rep h a=>.rep (e _ _ h) (RL.same e a)
theorem RL.same {H H':Hp}(e:z0f H H'):∀{l:Addr}{ds:List z0c},RL H l ds->RL H' l ds
 |_,_,.mk h a=>.mk (e _ _ h) (RDs.same e a)
theorem RDs.same {H H':Hp}(e:z0f H H'):∀{vs:List V}{ds:List z0c},RDs H vs ds->RDs H' vs ds
 |_,_,.nil=>.nil
 |_,_,.cons a b=>.cons (RD.same e a) (RDs.same e b)
end
theorem RDs.app {H:Hp}:∀{us vs:List V}{a b:List z0c},RDs H us a->RDs H vs b->RDs H (us++vs) (a++b)
 |_,_,_,_,.nil,h=>h
 |_,_,_,_,.cons x r,h=>.cons x (RDs.app r h)
theorem RDs.len {H:Hp}:∀{vs:List V}{ds:List z0c},RDs H vs ds->vs.length=ds.length
 |_,_,.nil=>rfl
 |_,_,.cons _ r=>by rw[qI,qI,RDs.len r]
theorem RDs.at {H:Hp}:∀{vs:List V}{ds:List z0c},RDs H vs ds->∀(i:Nat) (v:V),vs[i]?=some v->∃d,ds[i]?=some d/\RD H v d
 |_,_,.nil,i,v,h=>by simp at h
 |_,_,.cons x r,0,v,h=>by simp at h;subst h;exact⟨_,rfl,x⟩
 |_,_,.cons x r,i+1,v,h=>by
  simp only[List.getElem?_cons_succ]at h ⊢
  exact RDs.at r i v h
mutual
def z0c.data:z0c->PyData
 |.set x a sg b=>.tuple [.str "set",.str x,(match a with|.num n=>.int n|.nm y=>.str y),.str sg,(match b with|.num n=>.int n|.nm y=>.str y)]
 |.put q x=>.tuple [.str "put",.str q,.str x]
 |.get q x=>.tuple [.str "get",.str q,.str x]
 |.give x=>.tuple [.str "give",.str x]
 |.cond x t o=>.tuple [.str "if",.str x,.list (z2Y t),.list (z2Y o)]
 |.whl x b=>.tuple [.str "while",.str x,.list (z2Y b)]
 |.rep n b=>.tuple [.str "repeat",.int n,.list (z2Y b)]
def z2Y:List z0c->List PyData
 |[]=>[]
 |d::r=>d.data::z2Y r
end
theorem zbF {K:PySem.W.Frag}{H:Hp}:∀a:Val,Dt K H a.v (match a with|.num n=>.int n|.nm y=>.str y)
 |.num n=>.int n
 |.nm x=>.str x
mutual
theorem RD.dt {K:PySem.W.Frag}{H:Hp}:∀{v:V}{d:z0c},RD H v d->Dt K H v d.data
 |_,_,.set (a:=a) (b:=b) h=>.tup (SqT.of h) (.cons (.str _) (.cons (.str _) (.cons (zbF a) (.cons (.str _) (.cons (zbF b) .nil)))))
 |_,_,.put h=>.tup (SqT.of h) (.cons (.str _) (.cons (.str _) (.cons (.str _) .nil)))
 |_,_,.get h=>.tup (SqT.of h) (.cons (.str _) (.cons (.str _) (.cons (.str _) .nil)))
 |_,_,.give h=>.tup (SqT.of h) (.cons (.str _) (.cons (.str _) .nil))
 |_,_,.cond h a b=>.tup (SqT.of h) (.cons (.str _) (.cons (.str _) (.cons (RL.dt a) (.cons (RL.dt b) .nil))))
 |_,_,.whl h a=>.tup (SqT.of h) (.cons (.str _) (.cons (.str _) (.cons (RL.dt a) .nil)))
 |_,_,.rep h a=>.tup (SqT.of h) (.cons (.str _) (.cons (.int _) (.cons (RL.dt a) .nil)))
theorem RL.dt {K:PySem.W.Frag}{H:Hp}:∀{l:Addr}{ds:List z0c},RL H l ds->Dt K H (.ref l) (.list (z2Y ds))
 |_,_,.mk h a=>.lst (SqL.of h) (RDs.dt a)
theorem RDs.dt {K:PySem.W.Frag}{H:Hp}:∀{vs:List V}{ds:List z0c},RDs H vs ds->z1G K H vs (z2Y ds)
 |_,_,.nil=>.nil
 |_,_,.cons a b=>.cons (RD.dt a) (RDs.dt b)
end
inductive RLs (H:Hp):List Addr->List (List z0c)->Prop
 |nil:RLs H [] []
 |cons {l:Addr}{ls:List Addr}{d:List z0c}{ds:List (List z0c)}:RL H l d->RLs H ls ds->RLs H (l::ls) (d::ds)
theorem RLs.same {H H':Hp}(e:z0f H H'):∀{ls:List Addr}{ds:List (List z0c)},RLs H ls ds->RLs H' ls ds
 |_,_,.nil=>.nil
 |_,_,.cons a b=>.cons (RL.same e a) (RLs.same e b)
theorem RLs.app {H:Hp}:∀{us vs:List Addr}{a b:List (List z0c)},RLs H us a->RLs H vs b->RLs H (us++vs) (a++b)
 |_,_,_,_,.nil,h=>h
 |_,_,_,_,.cons x r,h=>.cons x (RLs.app r h)
theorem RLs.len {H:Hp}:∀{ls:List Addr}{ds:List (List z0c)},RLs H ls ds->ls.length=ds.length
 |_,_,.nil=>rfl
 |_,_,.cons _ r=>by rw[qI,qI,RLs.len r]
theorem RLs.at {H:Hp}:∀{ls:List Addr}{ds:List (List z0c)},RLs H ls ds->∀(i:Nat) (l:Addr),ls[i]?=some l->∃d,ds[i]?=some d/\RL H l d
 |_,_,.nil,i,v,h=>by simp at h
 |_,_,.cons x r,0,v,h=>by simp at h;subst h;exact⟨_,rfl,x⟩
 |_,_,.cons x r,i+1,v,h=>by
  simp only[List.getElem?_cons_succ]at h ⊢
  exact RLs.at r i v h
theorem z4T:∀(r:List Str) (x:Str),risingS x r=true->∀y∈r,x.cps.toList<=y.cps.toList
 |[],_,_,_,h=>nomatch h
 |z::r,x,h,y,hy=>by
  have h':(!ltCps z.cps.toList x.cps.toList && risingS z r)=true:=h
  rw[Bool.and_eq_true,Bool.not_eq_true',ltCps_eq,decide_eq_false_iff_not]at h'
  have xz:x.cps.toList<=z.cps.toList:=List.not_lt.mp h'.1
  rcases qB.mp hy with rfl|hy
  ·exact xz
  ·exact List.le_trans xz (z4T r z h'.2 y hy)
theorem z4S {x:Str}:∀{r:List Str},risingS x r=true->sortedS r=true
 |[],_=>rfl
 |z::r,h=>by
  have h':(!ltCps z.cps.toList x.cps.toList && risingS z r)=true:=h
  exact(Bool.and_eq_true_iff.mp h').2
theorem z7D {x y:Str}(h:x.cps.toList=y.cps.toList):x=y:=PyProof.Rows.ext_toList h
theorem z2m:∀{a b:List Str},a.Nodup->b.Nodup->sortedS a=true->sortedS b=true->(∀k,k∈a↔k∈b)->a=b
 |[],[],_,_,_,_,_=>rfl
 |[],y::s,_,_,_,_,h=>absurd ((h y).mpr qv) (by simp)
 |x::r,[],_,_,_,_,h=>absurd ((h x).mp qv) (by simp)
 |x::r,y::s,ha,hb,sa,sb,h=>by
  have ha':=List.nodup_cons.mp ha
  have hb':=List.nodup_cons.mp hb
  have e:x=y:=by
   rcases qB.mp ((h x).mp qv)with e|hx
   ·exact e
   rcases qB.mp ((h y).mpr qv)with e|hy
   ·exact e.symm
   exact z7D (List.le_antisymm (z4T r x sa y hy) (z4T s y sb x hx))
  subst e
  rw[z2m ha'.2 hb'.2 (z4S sa) (z4S sb) fun k=>?_]
  constructor
  ·intro hk
   rcases qB.mp ((h k).mp (qt _ hk))with e|z
   ·subst e;exact absurd hk ha'.1
   ·exact z
  ·intro hk
   rcases qB.mp ((h k).mpr (qt _ hk))with e|z
   ·subst e;exact absurd hk hb'.1
   ·exact z
end Tr
namespace Tr
open PySem PySem.Spec PyProof.Rows L2
set_option linter.all false
theorem z0f.over {H0 H:Hp}{f:Addr}{o:HO}(h:z0f H0 H) (hf:H0 f=none):z0f H0 (upd H f o):=fun b u q=>by
 rw[z06 (z0t q hf)]
 exact h b u q
theorem z0f.none {H0 H:Hp}{f:Addr}(h:z0f H0 H) (hf:H f=none):H0 f=none:=by
 cases q:H0 f with
 |none=>rfl
 |some o=>rw[h _ _ q]at hf;cases hf
structure Fz where
 f:Fr
 c:Addr
 p:Addr
 e:Addr
def Fz.tupV (x:Fz):List V:=match x.f.op with
 |.root=>[]
 |.ifT n=>[.str "if",.str n,.ref x.c,.ref x.e]
 |.ifO n _=>[.str "if",.str n,.ref x.e,.ref x.c]
 |.whl n=>[.str "while",.str n,.ref x.c]
 |.rep n=>[.str "repeat",.int n,.ref x.c]
def Fz.o (x:Fz):V:=match x.f.op with
 |.ifT _=>.ref x.e
 |_=>.non
def Fz.muts (x:Fz):List Addr:=match x.f.op with
 |.ifT _=>[x.c,x.e]
 |_=>[x.c]
def Fz.side (x:Fz) (H0 H:Hp):Prop:=match x.f.op with
 |.ifT _=>H x.e=some (.lst [])
 |.ifO _ t=>RL H0 x.e t
 |_=>True
def ZR (H0 H:Hp):List Fz->List V->Prop
 |[],_=>False
 |x::r,tl=>(∃vs,H x.c=some (.lst (vs++tl))/\RDs H0 vs x.f.ds)/\x.side H0 H/\((x.f.op=.root/\r=[])\/(x.f.op≠.root/\H x.p=some (.tup x.tupV)/\ZR H0 H r [.ref x.p]))
theorem Fz.c_mem (x:Fz):x.c∈x.muts:=by unfold Fz.muts;split<;>simp
theorem ZR.frame {H0 H H':Hp}:∀{z:List Fz}{tl:List V},ZR H0 H z tl->(∀m∈z.flatMap Fz.muts,H' m=H m)->(∀p xs,H p=some (.tup xs)->H' p=some (.tup xs))->ZR H0 H' z tl
 |[],_,h,_,_=>h
 |x::r,tl,⟨⟨vs,h1,h2⟩,h3,h4⟩,hm,ht=>by
  have mx:∀m∈x.muts,H' m=H m:=fun m hm'=>hm m (by simp[hm'])
  have mr:∀m∈r.flatMap Fz.muts,H' m=H m:=fun m hm'=>hm m (by rw[qM];exact qP _ hm')
  refine⟨⟨vs,by rw[mx _ x.c_mem];exact h1,h2⟩,?_,?_⟩
  ·unfold Fz.side at h3 ⊢
   split
   ·rename_i e
    rw[e]at h3
    rw[mx x.e (by unfold Fz.muts;rw[e];simp)]
    exact h3
   ·rename_i e
    rw[e]at h3
    exact h3
   ·trivial
  ·rcases h4 with h4|⟨h4,h5,h6⟩
   ·exact .inl h4
   ·exact .inr ⟨h4,ht _ _ h5,ZR.frame h6 mr ht⟩
theorem ZR.grow {H0 H0' H:Hp}(e:z0f H0 H0'):∀{z:List Fz}{tl:List V},ZR H0 H z tl->ZR H0' H z tl
 |[],_,h=>h
 |x::r,tl,⟨⟨vs,h1,h2⟩,h3,h4⟩=>by
  refine⟨⟨vs,h1,h2.same e⟩,?_,?_⟩
  ·unfold Fz.side at h3 ⊢
   revert h3
   cases x.f.op<;>intro h3<;>first|exact h3|exact RL.same e h3
  ·rcases h4 with h4|⟨h4,h5,h6⟩
   ·exact .inl h4
   ·exact .inr ⟨h4,h5,ZR.grow e h6⟩
def wh:List Fr->List z0c->List z0c
 |[],_=>[]
 |[f],dt=>f.ds++dt
 |f::g::r,dt=>wh (g::r) [({ f with ds:=f.ds++dt }:Fr).deed]
def z5K:List Fz->Addr
 |[]=>0
 |[x]=>x.c
 |_::y::r=>z5K (y::r)
theorem ZR.whole {H0 H:Hp}(e:z0f H0 H):∀{z:List Fz}{tl:List V}{dt:List z0c},ZR H0 H z tl->RDs H tl dt->RL H (z5K z) (wh (z.map (·.f)) dt)
 |[],_,_,h,_=>h.elim
 |[x],tl,dt,⟨⟨vs,h1,h2⟩,_,_⟩,ht=>.mk h1 ((h2.same e).app ht)
 |x::y::r,tl,dt,⟨⟨vs,h1,h2⟩,h3,h4⟩,ht=>by
  rcases h4 with⟨_,h4⟩|⟨h4,h5,h6⟩
  ·cases h4
  refine ZR.whole (z:=y::r) e h6 (.cons ?_ .nil)
  have hl:RL H x.c (x.f.ds++dt):=.mk h1 ((h2.same e).app ht)
  unfold Fz.tupV at h5
  unfold Fz.side at h3
  unfold Fr.deed
  cases q:x.f.op with
  |root=>exact absurd q h4
  |ifT n=>
   rw[q]at h5 h3
   exact .cond h5 hl (.mk h3 .nil)
  |ifO n t=>
   rw[q]at h5 h3
   exact .cond h5 (RL.same e h3) hl
  |whl n=>
   rw[q]at h5
   exact .whl h5 hl
  |rep n=>
   rw[q]at h5
   exact .rep h5 hl
section
variable {Hb H0 H H1:Hp}{S s0 s1 s2 s3:Addr}{z:List Fz}
theorem ZR.lsts {tl:List V}:∀{z:List Fz},ZR H0 H z tl->∀m∈z.flatMap Fz.muts,∃vs,H m=some (.lst vs):=by
 intro z
 induction z generalizing tl with
 |nil=>intro h;exact h.elim
 |cons x r ih=>
  rintro⟨⟨vs,h1,_⟩,h3,h4⟩ m hm
  rw[qM]at hm
  rcases qk.mp hm with hm|hm
  ·unfold Fz.muts at hm
   unfold Fz.side at h3
   split at hm<;>rename_i q
   ·rw[q]at h3
    simp at hm
    rcases hm with rfl|rfl
    ·exact⟨_,h1⟩
    ·exact⟨_,h3⟩
   ·simp at hm
    subst hm
    exact⟨_,h1⟩
  ·rcases h4 with⟨_,h4⟩|⟨_,_,h6⟩
   ·subst h4;simp at hm
   ·exact ih h6 m hm
end
end Tr
namespace Tr
open PySem PySem.Spec PyProof.Rows L2
set_option linter.all false
section
variable {Hb H0 H H1:Hp}{S s0 s1 s2 s3:Addr}{z:List Fz}
theorem z1J {p m:Addr}{xs vs:List V}(h1:H p=some (.tup xs)) (h2:H m=some (.lst vs)):p≠m:=zdB h1 h2 (by intro z;cases z)
theorem z2i {x:Fz}{r:List Fz}:x.c∈(x::r).flatMap Fz.muts:=by rw[qM];exact List.mem_append_left _ x.c_mem
theorem z54 {x:Fz}{r:List Fz}{m:Addr}(h:m∈r.flatMap Fz.muts):m∈(x::r).flatMap Fz.muts:=by rw[qM];exact qP _ h
theorem zbU {x:Fz}{r:List Fz}(nd:((x::r).flatMap Fz.muts).Nodup) {m:Addr}(h:m∈r.flatMap Fz.muts):m≠x.c:=by
 rw[qM]at nd
 intro e
 exact(List.nodup_append.mp nd).2.2 x.c x.c_mem m h e.symm
theorem z9A {x:Fz}{r:List Fz}(nd:((x::r).flatMap Fz.muts).Nodup) {n:Str}(q:x.f.op=.ifT n):x.e≠x.c/\x.e∈x.muts/\∀m∈r.flatMap Fz.muts,m≠x.e:=by
 rw[qM]at nd
 have h:=List.nodup_append.mp nd
 have e:x.muts=[x.c,x.e]:=by unfold Fz.muts;rw[q]
 rw[e]at h
 refine⟨?_,by rw[e];simp,fun m hm z=>h.2.2 x.e (by simp) m hm z.symm⟩
 have:=h.1
 simp at this
 exact fun z=>this z.symm
theorem ZR.rest {x:Fz}{r:List Fz}{tl:List V}{o:HO}(zr:ZR H0 H (x::r) tl) (nd:((x::r).flatMap Fz.muts).Nodup) {vs:List V}(hc:H x.c=some (.lst vs)):
 x.side H0 (upd H x.c o)/\((x.f.op=.root/\r=[])\/(x.f.op≠.root/\(upd H x.c o) x.p=some (.tup x.tupV)/\ZR H0 (upd H x.c o) r [.ref x.p])):=by
 obtain⟨_,h3,h4⟩:=zr
 refine⟨?_,?_⟩
 ·unfold Fz.side at h3 ⊢
  cases q:x.f.op with
  |ifT n=>
   rw[q]at h3
   show(upd H x.c o) x.e=some (.lst [])
   rw[z06 (z9A nd q).1]
   exact h3
  |ifO n t=>rw[q]at h3;exact h3
  |root=>trivial
  |whl n=>trivial
  |rep n=>trivial
 ·rcases h4 with h4|⟨h4,h5,h6⟩
  ·exact .inl h4
  ·refine .inr ⟨h4,by rw[z06 (z1J h5 hc)];exact h5,h6.frame (fun m hm=>z06 (zbU nd hm)) fun p xs h=>by rw[z06 (z1J h hc)];exact h⟩
end
end Tr
namespace Tr
open PySem PySem.Spec PyProof.Rows L2
set_option linter.all false
section
variable {Hb H0 H H':Hp}{S s0 s1 s2 s3:Addr}{z:List Fz}
end
end Tr
namespace Tr
open PySem PySem.Spec PyProof.Rows L2
set_option linter.all false
section
variable {Hb H0 H H4:Hp}{S s0 s1 s2 s3:Addr}
theorem z2y {α:Type}{l:List α}{v:α}:atI (l++[v]) (-1)=some v:=by
 unfold atI
 have e:ixN (l++[v]).length (-1)=some l.length:=by
  unfold ixN
  simp
  omega
 rw[e]
 simp
theorem z6r {α β:Type}{f:α->β}{x:α}{r:List α}:atI (((x::r).map f).reverse) (-1)=some (f x):=by
 rw[List.map_cons,List.reverse_cons]
 exact z2y
end
end Tr
namespace Tr
open PySem PySem.Spec PyProof.Rows L2
set_option linter.all false
theorem z8B:∀ds:List z0c,ds.length<=(z0k ds).length
 |[]=>qh _
 |d::r=>by
  have:=z8B r
  rw[z0k,qe,qI,z1V,qI]
  omega
theorem zc6 {f:Fr}{r:List Fr}:f.ds.length<=cnt (f::r):=by
 have:=z8B f.ds
 rw[cnt]
 omega
theorem z6A {x x':Fz}{r:List Fz}(h:x'.c=x.c):z5K (x'::r)=z5K (x::r):=by
 cases r with
 |nil=>exact h
 |cons y r=>rfl
end Tr
namespace Tr
open L2
end Tr
namespace Tr
theorem z6w {α β:Type}{f:α->β}{x:α}{r:List α}:(((x::r).map f).reverse).dropLast=(r.map f).reverse:=by
 rw[List.map_cons,List.reverse_cons,List.dropLast_concat]
theorem z6s {α β:Type}{f:α->β}{x:α}{r:List α}:(((x::r).map f).reverse)[(((x::r).map f).reverse).length-1]?=some (f x):=by
 rw[List.map_cons,List.reverse_cons]
 simp
end Tr
namespace Tr
open PySem PySem.Spec PyProof.Rows L2
set_option linter.all false
def z0c.strs:z0c->List Str
 |.set x a sg b=>x::sg::(a.names++b.names)
 |.put q x|.get q x=>[q,x]
 |.give x|.cond x _ _|.whl x _=>[x]
 |.rep _ _=>[]
def zdP (D:List Str) (ds:List z0c):Prop:=∀d∈z0k ds,∀s∈d.strs,s∈D
def z9z:List Str:=("+-*/<=&|^":Str).cps.toList.map sgn
theorem zb2 (i:Int):z6Q i∈z9z:=by
 unfold z6Q z9z
 have h1:0<=i % 9:=Int.emod_nonneg _ (by decide)
 have h2:i % 9<9:=Int.emod_lt_of_pos _ (by decide)
 have ln:("+-*/<=&|^":Str).cps.toList.length=9:=by decide +kernel
 have lt:(i % 9).toNat<("+-*/<=&|^":Str).cps.toList.length:=by omega
 rw[qp,qf lt]
 exact List.mem_map.mpr ⟨_,List.getElem_mem lt,rfl⟩
mutual
theorem zbj {D:List Str}(hD:∀s∈D,PyData.strOk s=true):∀d:z0c,(∀e∈d.flat,∀s∈e.strs,s∈D)->d.data.canLay0=true
 |.set x a sg b,h=>by
  have q:∀s∈(z0c.set x a sg b).strs,PyData.strOk s=true:=fun s hs=>hD s (h _ (by simp[z0c.flat]) s hs)
  cases a<;>cases b<;>simp[z0c.strs,Val.names]at q<;>simp[z0c.data,PyData.canLay0,PyData.canLayAll0,q]<;>decide +kernel
 |.put p x,h=>by
  have q:∀s∈(z0c.put p x).strs,PyData.strOk s=true:=fun s hs=>hD s (h _ (by simp[z0c.flat]) s hs)
  simp[z0c.strs]at q
  simp[z0c.data,PyData.canLay0,PyData.canLayAll0,q]
  decide +kernel
 |.get p x,h=>by
  have q:∀s∈(z0c.get p x).strs,PyData.strOk s=true:=fun s hs=>hD s (h _ (by simp[z0c.flat]) s hs)
  simp[z0c.strs]at q
  simp[z0c.data,PyData.canLay0,PyData.canLayAll0,q]
  decide +kernel
 |.give x,h=>by
  have q:∀s∈(z0c.give x).strs,PyData.strOk s=true:=fun s hs=>hD s (h _ (by simp[z0c.flat]) s hs)
  simp[z0c.strs]at q
  simp[z0c.data,PyData.canLay0,PyData.canLayAll0,q]
  decide +kernel
 |.cond x t o,h=>by
  have q:∀s∈(z0c.cond x t o).strs,PyData.strOk s=true:=fun s hs=>hD s (h _ (by simp[z0c.flat]) s hs)
  simp[z0c.strs]at q
  have h1:=z2E hD t fun e he=>h e (by simp[z0c.flat,he])
  have h2:=z2E hD o fun e he=>h e (by simp[z0c.flat,he])
  simp[z0c.data,PyData.canLay0,PyData.canLayAll0,q,h1,h2]
  decide +kernel
 |.whl x b,h=>by
  have q:∀s∈(z0c.whl x b).strs,PyData.strOk s=true:=fun s hs=>hD s (h _ (by simp[z0c.flat]) s hs)
  simp[z0c.strs]at q
  have h1:=z2E hD b fun e he=>h e (by simp[z0c.flat,he])
  simp[z0c.data,PyData.canLay0,PyData.canLayAll0,q,h1]
  decide +kernel
 |.rep n b,h=>by
  have h1:=z2E hD b fun e he=>h e (by simp[z0c.flat,he])
  simp[z0c.data,PyData.canLay0,PyData.canLayAll0,h1]
  decide +kernel
theorem z2E {D:List Str}(hD:∀s∈D,PyData.strOk s=true):∀ds:List z0c,(∀e∈z0k ds,∀s∈e.strs,s∈D)->PyData.canLayAll0 (z2Y ds)=true
 |[],_=>by simp[z2Y,PyData.canLayAll0]
 |d::r,h=>by
  have h1:=zbj hD d fun e he=>h e (by simp[z0k,he])
  have h2:=z2E hD r fun e he=>h e (by simp[z0k,he])
  simp[z2Y,PyData.canLayAll0,h1,h2]
end
mutual
theorem z9a:∀d:z0c,d.data.depth<=2 * d.depth+1
 |.set x a sg b=>by cases a<;>cases b<;>simp[z0c.data,PyData.depth,PyData.depthAll]
 |.put p x=>by simp[z0c.data,PyData.depth,PyData.depthAll]
 |.get p x=>by simp[z0c.data,PyData.depth,PyData.depthAll]
 |.give x=>by simp[z0c.data,PyData.depth,PyData.depthAll]
 |.cond x t o=>by
  have h1:=z28 t
  have h2:=z28 o
  simp[z0c.data,PyData.depth,PyData.depthAll,z0c.depth]
  omega
 |.whl x b=>by
  have h1:=z28 b
  simp[z0c.data,PyData.depth,PyData.depthAll,z0c.depth]
  omega
 |.rep n b=>by
  have h1:=z28 b
  simp[z0c.data,PyData.depth,PyData.depthAll,z0c.depth]
  omega
theorem z28:∀ds:List z0c,PyData.depthAll (z2Y ds)<=2 * z0o ds+1
 |[]=>by simp[z2Y,PyData.depthAll]
 |d::r=>by
  have h1:=z9a d
  have h2:=z28 r
  simp[z2Y,PyData.depthAll,z0o]
  omega
end
theorem z6R {D:List Str}{ds:List z0c}(hD:∀s∈D,PyData.strOk s=true) (h:zdP D ds) (hd:z0o ds<=12):SeqAt.shaped (.list (z2Y ds))=true:=by
 have h1:=z2E hD ds h
 have h2:=z28 ds
 unfold SeqAt.shaped
 simp[PyData.canLay0,PyData.depth,h1]
 omega
end Tr
namespace Tr
open PySem PySem.Spec PyProof.Rows L2
set_option linter.all false
def Low (x:Str):Prop:=∀c∈x.cps.toList,c<128
theorem Low.app {x y:Str}(h1:Low x) (h2:Low y):Low (x++y):=fun c hc=>by
 have e:(x++y).cps.toList=x.cps.toList++y.cps.toList:=by
  show(x.cps++y.cps).toList=_
  simp
 rw[e,qk]at hc
 exact hc.elim (h1 c) (h2 c)
theorem z7a {w:Str}(h:Low w):PyData.strOk w=true:=by
 unfold PyData.strOk
 rw[<- Array.all_toList,List.all_eq_true]
 intro c hc
 have:=h c hc
 simp
 omega
end Tr
namespace L2
open PySem PySem.Spec PyProof.Rows
theorem z5I {n:Nat}{g:TG}{tt:TT}{te:TE}{Fin:List V->Hp->Prop}{σ:St}{H:Hp}(Pv:Nat->List V->St->Hp->Prop) (h0:Pv 0 [] σ H) (hz:∀i ys σ H,i<=n->Pv i ys σ H->ys.length<=i) (hx:n<=sizeLine)
 (hs:∀i ys σ H,i<n->Pv i ys σ H->g (.int i) σ H fun σ2 H2=>tt σ2 H2 fun b H3=>if b=true then te σ2 H3 fun y H4=>Pv (i+1) (ys++[y]) σ2 H4 else Pv (i+1) ys σ2 H3)
 (hd:∀ys σ H,Pv n ys σ H->Fin ys H):∃W:Nat->Nat->List V->St->Hp->Prop,(∃m,W 0 m [] σ H)/\z2q (Itr 0 n) g tt te Fin W:=by
 refine⟨fun i m ys σ H=>m=n-i/\i<=n/\Pv i ys σ H,⟨_,rfl,qA _,h0⟩,?_⟩
 rintro i m ys σ H ⟨rfl,hi,p⟩
 have few:=hz i ys σ H hi p
 by_cases lt:i<n
 ·refine .inr ⟨lt,by omega,Pv (i+1),fun ys' σ' H' p'=>⟨_,by omega,rfl,lt,p'⟩,fun v H' y=>?_⟩
  obtain⟨e,y⟩:=y
  rw[Int.zero_add]at y
  subst e y
  exact hs i ys σ _ lt p
 ·obtain rfl:i=n:=by omega
  exact .inl ⟨qh _,by omega,hd ys σ H p⟩
theorem z5b {n:Nat}{g:TG}{te:TE}{Fin:List V->Hp->Prop}{σ:St}{H:Hp}(Pv:Nat->List V->St->Hp->Prop) (h0:Pv 0 [] σ H) (hz:∀i ys σ H,i<=n->Pv i ys σ H->ys.length<=i) (hx:n<=sizeLine)
 (hs:∀i ys σ H,i<n->Pv i ys σ H->g (.int i) σ H fun σ2 H2=>te σ2 H2 fun y H4=>Pv (i+1) (ys++[y]) σ2 H4)
 (hd:∀ys σ H,Pv n ys σ H->Fin ys H):∃W:Nat->Nat->List V->St->Hp->Prop,(∃m,W 0 m [] σ H)/\z2q (Itr 0 n) g zd5 te Fin W:=
 z5I Pv h0 hz hx (fun i ys σ H lt p=>by
  rw[zbE (N':=fun _ _ _=>True)]
  exact hs i ys σ H lt p) hd
theorem z1A {K:PySem.W.Frag}{a:Addr}{xs:List V}{g:TG}{te:TE}{Fin:List V->Hp->Prop}{σ:St}{H:Hp}(Pv:Nat->List V->St->Hp->Prop) (h0:Pv 0 [] σ H) (hz:∀i ys σ H,i<=xs.length->Pv i ys σ H->ys.length<=i) (hx:xs.length<=sizeLine) (hl:∀i ys σ H,Pv i ys σ H->SqL K H a xs)
 (hs:∀i x ys σ H,xs[i]?=some x->Pv i ys σ H->g x σ H fun σ2 H2=>te σ2 H2 fun y H4=>Pv (i+1) (ys++[y]) σ2 H4)
 (hd:∀ys σ H,Pv xs.length ys σ H->Fin ys H):∃W:Nat->Nat->List V->St->Hp->Prop,(∃m,W 0 m [] σ H)/\z2q (Itl K a) g zd5 te Fin W:=
 zax Pv h0 hz hx hl (fun i x ys σ H hx p=>by
  rw[zbE (N':=fun _ _ _=>True)]
  exact hs i x ys σ H hx p) hd
theorem z8y {X:Cx}{K:PySem.W.Frag}(e:X.K=K):IxR X (zeK K):=by
 subst e
 exact z1K
end L2
namespace Tr
open PySem PySem.Spec PyProof.Rows L2
inductive RSs (H:Hp):List V->List (Str×Int)->Prop
 |nil:RSs H [] []
 |cons {p:Addr}{vs:List V}{q:Str}{n:Int}{ss:List (Str×Int)}:H p=some (.tup [.str q,.int n])->RSs H vs ss->RSs H (.ref p::vs) ((q,n)::ss)
theorem RSs.same {H H':Hp}(e:z0f H H'):∀{vs:List V}{ss:List (Str×Int)},RSs H vs ss->RSs H' vs ss
 |_,_,.nil=>.nil
 |_,_,.cons h r=>.cons (e _ _ h) (RSs.same e r)
theorem RSs.snoc {H:Hp}{p:Addr}{q:Str}{n:Int}(h:H p=some (.tup [.str q,.int n])):∀{vs:List V}{ss:List (Str×Int)},RSs H vs ss->RSs H (vs++[.ref p]) (ss++[(q,n)])
 |_,_,.nil=>.cons h .nil
 |_,_,.cons h' r=>.cons h' (RSs.snoc h r)
theorem RSs.len {H:Hp}:∀{vs:List V}{ss:List (Str×Int)},RSs H vs ss->vs.length=ss.length
 |_,_,.nil=>rfl
 |_,_,.cons _ r=>congrArg (·+1) (RSs.len r)
end Tr
namespace L2
open PySem
section
variable {P:Program}{w:World}{A:Around}{E:Value->Shared->Prop}{s:Shared}
theorem z9k {es:Array (Int×Value)}{t:SetTable}{ys:List Str}(T:z0F P w es t ys) {e:Int×Value}(he:e∈es.toList):∃k tk,e=(hashStr w k,.str k tk)/\k∈ys:=by
 obtain⟨⟨k,hk,hh⟩,_⟩:=T.el e he
 obtain⟨tk,e2⟩:=Value.isStrOf_shape hk
 refine⟨k,tk,Prod.ext hh e2,(T.mem k).mp (List.mem_map.mpr ⟨e,he,zad hk⟩)⟩
theorem z9F {sets:List Addr}{Q:Bool->Shared->Prop}(h:∀b∈sets,∃es ep t ys,s.heap.get? b=some (z0r es ep t)/\z0F P w es t ys) (q:Q true s):wpAny (model P w) A (setsQuiet sets) Q E s:=by
 unfold setsQuiet
 refine q9 (wpAny_forIn_list _ (fun rest b s'=>b.1=none/\s=s'/\∀x∈rest,x∈sets) _ ?_ ?_ sets _ ⟨rfl,rfl,fun _ h=>h⟩)
 ·rintro x rest b s' ⟨hb,rfl,hm⟩
  obtain⟨es,ep,t,ys,ho,T⟩:=h x (hm x qv)
  refine q9 (z20 ho T.fit ?_)
  refine q9 (PySem.wpAny_forIn_array' _ (fun rest b s'=>b.1=none/\s=s'/\∀e∈rest,e∈es.toList) _ ?_ ?_ es _ ⟨rfl,rfl,fun _ h=>h⟩)
  ·rintro e rest2 b2 s2 ⟨hb2,rfl,hm2⟩
   obtain⟨k,tk,rfl,_⟩:=z9k T (hm2 e qv)
   refine qg ⟨rfl,rfl,fun z hz=>hm2 z (qt _ hz)⟩
  ·rintro⟨b1,b2⟩ s2 ⟨hb2,rfl,_⟩
   dsimp only at hb2
   subst hb2
   refine qg ⟨rfl,rfl,fun z hz=>hm z (qt _ hz)⟩
 ·rintro⟨b1,b2⟩ s2 ⟨hb2,rfl,_⟩
  dsimp only at hb2
  subst hb2
  exact qg q
theorem z8L {a:Addr}{es:Array (Int×Value)}{ep:Nat}{t:SetTable}{ys:List Str}{Q:Array (Int×Value)->Shared->Prop}(hs:s.heap.get? a=some (z0r es ep t)) (T:z0F P w es t ys)
 (h:∀arr d,arr.toList.Perm es.toList->Q arr { s with drawn:=d }):wpAny (model P w) A (setWalk a) Q E s:=by
 unfold setWalk
 refine q9 (wpAny_setState_of hs rfl T.fit ?_)
 dsimp only
 refine q9 (z3A ?_)
 by_cases hb:w.params.followText "set-order"=true
 ·rw[if_pos hb]
  exact q9 (wpAny_askSetting (qg (h _ s.drawn (z71 _ es))))
 ·rw[if_neg hb]
  show wpAny _ _ (if(!t.plain && decide (es.size > 1))=true then _ else _) _ _ _
  split
  ·refine q9 (z6x es.size es.toList s _ (by simp) fun zs d hp=>qg ?_)
   exact h _ d (by simpa using hp)
  ·have hl:t.led=true:=by rw[T.led];simpa using hb
   show wpAny _ _ ((if(!t.led && decide (es.size > 1))=true then _ else _) >>= _) _ _ _
   rw[hl]
   refine q9 ?_
   simp only[Bool.not_true,Bool.false_and,Bool.false_eq_true,if_false]
   exact qg (qg (h es s.drawn (.refl _)))
end
section
variable {P:Program}{w:World}{A:Around}{E:Value->Shared->Prop}{s:Shared}
theorem z89 {v:Value}{Q:Bool->Shared->Prop}(ty:s.TypeIs v "set") (h:Q true s):wpAny (model P w) A (Builtin.Frozenset.isAnySet v) Q E s:=by
 unfold Builtin.Frozenset.isAnySet
 exact q9 (wpAny_isInstance (b:=true) ty z33 (qg h))
set_option maxHeartbeats 3200000 in
end
end L2
namespace L2
open PySem PySem.Spec PyProof.Rows
section
variable {X:Cx}
end
section
variable {X:Cx}
end
def Ite (K:PySem.W.Frag) (l:Addr):It:=
 ⟨fun i H=>∃xs x,SqL K H l xs/\xs[i]?=some x,
  fun i H v H'=>∃p x,H p=none/\v=.ref p/\H'=upd H p (.tup [.int i,x])/\∀xs,SqL K H l xs->xs[i]?=some x,
  fun i H=>∃xs,SqL K H l xs/\xs.length<=i⟩
theorem z9m {P:Program}{w:World}{K:PySem.W.Frag}{elts:List Expr}{kk:Nat}{tp:Pos}(e it l:Addr) (ne:e≠it):
 zcT P w K (.Tuple elts kk tp) (Ite K l) [e,it] e (fun i h=>(∃old,IsEnum h e it i old)/\h.IsListIter it l i) where
 mem:=by simp
 obj:=fun i h st b hb=>by
  obtain⟨⟨old,he⟩,o,eo,c,d⟩:=st
  simp only[qB,List.not_mem_nil,or_false]at hb
  rcases hb with rfl|rfl
  ·exact⟨_,he,fun v q=>by cases q⟩
  ·exact⟨o,eo,fun v q=>by rw[d]at q;cases q⟩
 keep:=fun i h h' st k=>by
  obtain⟨⟨old,he⟩,o,eo,r⟩:=st
  exact⟨⟨old,k e (by simp) _ he⟩,o,k it (by simp) o eo,r⟩
 item:=by
  intro X hP hw hK hc i pins s σ H E I hf st hg
  subst hP hw hK
  obtain⟨⟨old,he⟩,hit⟩:=st
  obtain⟨xs,x,hx,ex⟩:=hg
  obtain⟨its,rv,pl,z1⟩:=I.list hx
  obtain⟨u,hu,ru⟩:=rv.get ex
  refine wpAny_pyNext_enum_item he hit pl.isList (x:=u) (by simpa using hu) ne fun g a1 a2 a3 a4 a5=>⟨_,rfl,?_⟩
  refine wpAny_letOwnedTupleGo_enum a1 fun g' a1' sb=>?_
  have hT:∀b∈[e,it],s.heap.objs.size≠b:=fun b hb=>by
   simp only[qB,List.not_mem_nil,or_false]at hb
   rcases hb with rfl|rfl
   ·exact Nat.ne_of_gt (qy he)
   ·obtain⟨o,eo,_⟩:=hit
    exact Nat.ne_of_gt (qy eo)
  have ky:∀b o,b∉[e,it]->s.heap.get? b=some o->g'.get? b=some o:=fun b o hb q=>by
   simp only[qB,List.not_mem_nil,or_false,not_or]at hb
   exact sb.extBut _ _ hb.1 (a5 b o hb.1 hb.2 q)
  have I1:Inv X pins σ H { s with heap:=g',toks:=s.toks+1 }:=I.turnedL (t':=s.toks+1) ky hf
  have pT:=sb.extBut _ _ (hT e (by simp)) a3
  have fT:z5y X pins H s.heap.objs.size:=I.fpOk (qh _) (I.hok.fresh (qh _))
  have I2:Inv X pins σ (upd H s.heap.objs.size (.tup [.int i,x])) { s with heap:=g',toks:=s.toks+1 }:=I1.track fT I.sz ⟨by show 2<=sizeLine;decide,[.int i s.toks,u],.cons ⟨_,rfl⟩ (.cons ru .nil),⟨_,pT,rfl,_,rfl⟩⟩
  refine⟨.ref s.heap.objs.size,_,I2,rfl,⟨_,x,I.hok.fresh (qh _),rfl,rfl,fun xs' h=>by rw[I.list_inj h hx];exact ex⟩,⟨⟨u,a1'⟩,?_⟩,fun b hb=>?_⟩
  ·obtain⟨o,eo,r⟩:=a2
   exact⟨o,sb.extBut _ _ (Ne.symm ne) eo,r⟩
  ·rw[z06 (Ne.symm (hT b hb))]
   exact(hf b hb).1
 done:=by
  intro X hP hw hK hc i pins s σ H E I hf st hg
  subst hP hw hK
  obtain⟨⟨old,he⟩,hit⟩:=st
  obtain⟨xs,hx,hend⟩:=hg
  obtain⟨its,rv,pl,z1⟩:=I.list hx
  have e1:=rv.length
  refine wpAny_pyNext_enum_end (I.ok.hd hc) he hit pl.isList (by simp;omega) fun g k=>⟨rfl,I.turnedL (t':=s.toks) (ch:=[e,it]) (fun b o hb q=>?_) hf⟩
  simp only[qB,List.not_mem_nil,or_false,not_or]at hb
  exact k b o hb.2 q
 self:=fun _ _ _ _ _ st h=>by
  obtain⟨⟨old,he⟩,_⟩:=st
  exact wpAny_pyIter_enum he h
section
variable {X:Cx}
def zex (K:PySem.W.Frag) (ta:TA):TI:=fun σ H R=>ta σ H fun vs H1=>∃l xs,vs=[.ref l]/\SqL K H1 l xs/\R (Ite K l) H1
theorem zcp {a:Expr}{ta:TA}{p pos tp:Pos}{elts:List Expr}{kk:Nat}(hg:Gl X "enumerate") (hm:X.mg "enumerate"=none) (ha:PA X [a] ta) (hs:starEach [a] X.env=[(false,eval a X.env)]:=by rfl):
 PI X (.Tuple elts kk tp) (.Call (.Name "enumerate" p) [a] [] pos) (zex X.K ta):=by
 intro pins s σ H R I h
 refine Call_ (z3O I hg hm PyProof.Rows.Boot.«enumerate» (PyProof.Rows.callWith_type1 (thn (ha pos pins s σ H _ I h) fun us s1 ⟨vs,H1,I1,r1,q1⟩=>?_) (by rw[hs];rfl) (by rfl)))
 obtain⟨l,xs,rfl,hx,q⟩:=q1
 obtain⟨u,rfl,ru⟩:=z7A r1
 cases ru
 obtain⟨its,rv,pl,z1⟩:=I1.list hx
 refine call_enumerate_list pl.isList fun g a1 a2 a3 k=>?_
 refine wpAny_pyIter_enum a1 ⟨s1.heap.objs.size+1,[s1.heap.objs.size+1,s1.heap.objs.size],_,_,H1,rfl,I1.kept (t':=s1.toks) k,z9m _ _ l (Nat.succ_ne_self _),⟨⟨_,a1⟩,a2⟩,fun b hb=>?_,q⟩
 simp only[qB,List.not_mem_nil,or_false]at hb
 rcases hb with rfl|rfl
 ·exact I1.fpOk (Nat.le_succ _) (I1.hok.fresh (Nat.le_succ _))
 ·exact I1.fpOk (qh _) (I1.hok.fresh (qh _))
end
theorem zbq {K:PySem.W.Frag}{l:Addr}{xs:List V}{g:TG}{tb:TS}{D:z9d}{σ:St}{H:Hp}(Pv:Nat->St->Hp->Prop) (h0:Pv 0 σ H) (hl:∀i σ H,Pv i σ H->SqL K H l xs)
 (hs:∀i x σ H p,xs[i]?=some x->Pv i σ H->H p=none->g (.ref p) σ (upd H p (.tup [.int i,x])) fun σ2 H2=>tb { D with nx:=Pv (i+1),ct:=Pv (i+1),bk:=D.nx } σ2 H2)
 (hd:∀σ H,Pv xs.length σ H->D.nx σ H):
 ∃W:Nat->Nat->St->Hp->Prop,(∃m,W 0 m σ H)/\∀i m σ H,W i m σ H->
  ((Ite K l).stop i H/\D.nx σ H)\/((Ite K l).go i H/\∃N:St->Hp->Prop,(∀σ' H',N σ' H'->∃m',m'<m/\W (i+1) m' σ' H')/\∀x H',(Ite K l).yld i H x H'->g x σ H' fun σ2 H2=>tb { D with nx:=N,ct:=N,bk:=D.nx } σ2 H2):=by
 refine⟨fun i m σ H=>m=xs.length-i/\i<=xs.length/\Pv i σ H,⟨_,rfl,qA _,h0⟩,?_⟩
 rintro i m σ H ⟨rfl,hi,p⟩
 have q:=hl i σ H p
 by_cases lt:i<xs.length
 ·refine .inr ⟨⟨xs,xs[i],q,by simp[lt]⟩,Pv (i+1),fun σ' H' p'=>⟨_,by omega,rfl,lt,p'⟩,fun v H' y=>?_⟩
  obtain⟨a,x,hn,rfl,rfl,e1⟩:=y
  exact hs i x σ H a (e1 xs q) p hn
 ·obtain rfl:i=xs.length:=by omega
  exact .inl ⟨⟨xs,q,qh _⟩,hd σ H p⟩
end L2
namespace L2
theorem z3B.one {n:Nat}{A:PySem.Around}(h:z3B n A):A.units+1<PySem.cLine:=by
 have:=h.units
 omega
theorem z6t {X:Cx}{K:PySem.W.Frag}(e:X.K=K):IxR X (zeJ K):=by
 subst e
 exact z0d
end L2
namespace Tr
open PySem PySem.Spec PyProof.Rows L2
structure Row where
 kind:Str
 owns:List Str
 reads:List Str
 into:Option Str
 outof:Option Str
def z0c.word:z0c->Str
 |.set ..=>"set"
 |.put ..=>"put"
 |.get ..=>"get"
 |.give ..=>"give"
 |.cond ..=>"if"
 |.whl ..=>"while"
 |.rep ..=>"repeat"
end Tr
namespace L2
open PySem PySem.Spec PyProof.Rows
end L2
namespace Tr
open PySem PySem.Spec PyProof.Rows L2
def z0c.moves:z0c->List (Str×Str)
 |.put q _=>[("put",q)]
 |.get q _=>[("get",q)]
 |_=>[]
end Tr
namespace Tr
open PySem
structure Wt where
 g:Int
 e:z0c->Int
mutual
def Wt.d (w:Wt):z0c->Int
 |.rep n b=>w.g+n * (Wt.l w b+w.g)
 |.cond _ _ _=>w.g
 |.whl _ _=>w.g
 |.set x a sg b=>w.e (.set x a sg b)
 |.put q x=>w.e (.put q x)
 |.get q x=>w.e (.get q x)
 |.give x=>w.e (.give x)
def Wt.l (w:Wt):List z0c->Int
 |[]=>0
 |d::r=>Wt.d w d+Wt.l w r
end
def Wt.m (w:Wt):List Fr->Int
 |[]=>0
 |[f]=>f.times * w.l f.ds
 |f::g::r=>f.times * w.l f.ds+(g.times * w.g+match f.op with|.rep _=>f.times * w.g|_=>0)+Wt.m w (g::r)
end Tr
namespace Tr
open PySem PySem.Spec PyProof.Rows L2
end Tr
namespace L2
open PySem PySem.Spec PyProof.Rows
section
variable {X:Cx}{CX:CXT}{k:Nat}{f C:Addr}{fd:FuncData}{ps:List Str}{sp:Sp}{E:XK}{x m:Str}{p pos apos:Pos}{e o:Expr}{es:List Expr}{t:TA}{te ta:TE}{ds:List Value}{dvs:List V}
end
theorem z2s {f:Str}{v:V}:∀{fs:List (Str×V)}(ks:List Str),fs.map (·.1)=ks->(ks.all fun g=>!decide (g=f))=true->z4j f v fs=fs++[(f,v)]
 |[],_,_,_=>rfl
 |(g,x)::r,ks,e,h=>by
  subst e
  simp only[List.map_cons,List.all_cons,Bool.and_eq_true,Bool.not_eq_true',decide_eq_false_iff_not]at h
  rw[z4j,if_neg h.1,z2s (r.map (·.1)) rfl h.2]
  rfl
theorem z27 {k:Str}{v:V}{r:List (Str×V)}:List.lookup k ((k,v)::r)=some v:=by simp[List.lookup]
theorem z0u {k g:Str}{v:V}{r:List (Str×V)}(h:(k == g)=false):List.lookup k ((g,v)::r)=List.lookup k r:=by simp[List.lookup,h]
theorem zaH {α:Type}{xs:List α}{i:Int}{v:α}(h:0<=i) (e:xs[i.toNat]?=some v):atI xs i=some v:=by
 have:=z0A (xs:=xs) (j:=i.toNat) (v:=v) e
 rwa [Int.toNat_of_nonneg h]at this
def grow (H0 H H':Hp):Hp:=fun b=>match H b with
 |none=>H' b
 |some _=>H0 b
section
variable {X:Cx}
end
section
variable {prog:Program}{w:World}{A:Around}{E:Value->Shared->Prop}{s:Shared}
end
section
variable {X:Cx}{pins:List (Addr×Obj)}{σ:St}
theorem z4F {H0:Hp}{s0 s:Shared}(I0:Inv X pins σ H0 s0):∀(ts:List Addr) (ps:List (V×V)) (H:Hp),Inv X pins σ H s->ts.length=ps.length->ts.Pairwise (·<·)->(∀t∈ts,s0.heap.objs.size<=t/\H t=none)->
 (∀(j:Nat) (t:Addr) (p:V×V),ts[j]?=some t->ps[j]?=some p->∃u v,z1C p.1 u/\z1C p.2 v/\IsPair s.heap t u v)->
 ∃H',Inv X pins σ H' s/\z0f H H'/\(∀b,b∉ts->H' b=H b)/\∀(j:Nat) (t:Addr) (p:V×V),ts[j]?=some t->ps[j]?=some p->H' t=some (.tup [p.1,p.2])
 |[],_,H,I,_,_,_,_=>⟨H,I,z0f.refl _,fun _ _=>rfl,fun j t p h=>by simp at h⟩
 |t::ts,[],_,_,hl,_,_,_=>by simp at hl
 |t::ts,p::ps,H,I,hl,pw,fr,ob=>by
  obtain⟨u,v,ru,rv,pT⟩:=ob 0 t p rfl rfl
  obtain⟨ht,hn⟩:=fr t qv
  obtain⟨pw1,pw2⟩:=List.pairwise_cons.mp pw
  have I2:Inv X pins σ (upd H t (.tup [p.1,p.2])) s:=I.track (I0.fpOk ht hn) (qG I0.sz ht) ⟨by show 2<=sizeLine;decide,[u,v],.cons ru (.cons rv .nil),⟨_,pT,rfl,_,rfl⟩⟩
  obtain⟨H',I3,s3,o3,a3⟩:=z4F I0 ts ps _ I2 (by simpa using hl) pw2 (fun t' ht'=>⟨(fr t' (qt _ ht')).1,by rw[z06 (Nat.ne_of_gt (pw1 t' ht'))];exact(fr t' (qt _ ht')).2⟩) fun j t' p' h1 h2=>ob (j+1) t' p' (by simpa using h1) (by simpa using h2)
  refine⟨H',I3,(z0f.new hn _).trans s3,fun b hb=>?_,fun j t' p' h1 h2=>?_⟩
  ·have nb:b≠t:=fun z=>hb (by rw[z];exact qv)
   rw[o3 b fun z=>hb (qt _ z),z06 nb]
  ·cases j with
   |zero=>
    simp at h1 h2
    subst h1
    subst h2
    exact s3 _ _ z01
   |succ j=>exact a3 j t' p' (by simpa using h1) (by simpa using h2)
end
section
variable {X:Cx}{pins:List (Addr×Obj)}{σ:St}{H:Hp}{s:Shared}{a:Addr}{kvs:List (Key×V)}{k:Key}{z:V}{u r:Value}{A:Around}{E:Value->Shared->Prop}
end
section
variable {X:Cx}{o e f:Expr}{apos cpos:Pos}{td ty tx:TE}
end
theorem z95:typeLookup (.type "list") "keys"=pure none:=by rw[typeLookup_type,builtinLookup_eq_fast];kernel_rfl
section
variable {prog:Program}{w:World}{A:Around}{E:Value->Shared->Prop}{s:Shared}
theorem za1 {a:Addr}{xs:Array Value}{k:Nat}{sl:Array (Option Value)}{Q:Option Value->Shared->Prop}(hA:A.handled=none) (hx:s.heap.get? a=some { cls:=.type "list",dict:=none,data:=.seq xs k,slots:=sl })
 (h:∀h' tk,(∀b o,s.heap.get? b=some o->h'.get? b=some o)->Q none { s with heap:=h',toks:=tk }):wpAny (model prog w) A (getAttr? (.ref a) "keys") Q E s:=by
 obtain⟨hp,g,d,tk,os⟩:=s
 have hT:∀tk',(⟨hp,g,d,tk',os⟩:Shared).TypeIs (.ref a) "list":=fun _=>⟨_,hx,rfl⟩
 have f1:=sub_AttributeError
 have f3:=F.slot_list_getattribute.lookup
 have f4:=F.slot_list_getattribute.bind (.ref a)
 have f5:=am_list_getattr_none
 unfold getAttr? getAttrBy? getAttrBy
 repeat (any_goals (first|assumption|exact hT _|((with_reducible show wpAny _ _ (call (Value.builtin "list.__getattribute__") _ _) _ _ _);refine call_meets F.slot_list_getattribute (hT _) am_entry_list_getattribute (F.args_list_getattribute_2 _ _) (meets_getattribute_miss_list a xs k sl "keys" _ z95 (by decide +kernel)) ⟨hx,hA,fun h' tk' e hx'=>?_⟩)|wp_step))
 obtain⟨t',u',he⟩:=hx'.there
 show wpAny _ _ (getattributeRaised _ _ _ _ _ _ _) _ _ _
 unfold getattributeRaised
 repeat (any_goals (first|assumption|wp_step))
 exact h _ _ hx'.keeps
end
theorem z3H:plainId "dict.update.loop"=true:=by decide +kernel
theorem z7k:entryFor table "dict.update.loop"=some Builtin.«dict.update.loop»:=entryFor_of_fast (by kernel_rfl)
def z1t {K:Type} [DecidableEq K] (ps:List (K×Value)):List (K×Value):=ps.foldl (fun kvs p=>stored kvs p.1 p.2) []
theorem z5T {K:Type} [DecidableEq K] (ps:List (K×Value)) (p:K×Value):z1t (ps++[p])=stored (z1t ps) p.1 p.2:=by
 unfold z1t
 rw[List.foldl_append]
 rfl
section
variable {prog:Program}{w:World}{A:Around}{R:Result->Shared->Prop}{K:Type} [DecidableEq K] {knd:KeyKind prog w K}
def z5e (knd:KeyKind prog w K) (h:Heap) (items:Array Value) (ps:List (K×Value)):Prop:=
 items.size=ps.length/\∀(i:Nat) (p:K×Value),ps[i]?=some p->∃t key,items[i]?=some (.ref t)/\h.IsTuple t #[key,p.2]/\knd.is p.1 key=true
theorem z5e.keep {h h':Heap}{items:Array Value}{ps:List (K×Value)}(x:z5e knd h items ps) (e:∀t o,h.get? t=some o->o.cls=.type "tuple"->h'.get? t=some o):z5e knd h' items ps:=
 ⟨x.1,fun i p hp=>let ⟨t,key,a,b,c⟩:=x.2 i p hp;⟨t,key,a,(let ⟨o,e1,e2,r⟩:=b;⟨o,e t o e1 e2,e2,r⟩),c⟩⟩
theorem zar {it l d:Addr}{items:Array Value}{ps:List (K×Value)}{res:Value}(hh:A.handled=none) (nil':it≠l) (nid:it≠d) (nld:l≠d) (few:ps.length<=sizeLine)
 (small:∀qs,qs.length<=ps.length->(z1t (qs:List (K×Value))).length<=qs.length):
 ∀(m i:Nat) (s:Shared) (tk:Tok),ps.length-i=m->i<=ps.length->s.heap.IsListIter it l i->s.heap.IsList l items->s.heap.DictOf knd d (z1t (ps.take i))->z5e knd s.heap items ps->
 (∀h' tk',(∀b o,b≠it->b≠d->s.heap.get? b=some o->h'.get? b=some o)->h'.DictOf knd d (z1t ps)->R (.ok (.ret res)) { s with heap:=h',toks:=tk' })->
 codeAny (model prog w) A (.builtin "dict.update.loop" ⟨[.ref d,.ref it,.int i tk,res],[]⟩) R s:=by
 intro m
 induction m with
 |zero=>
  intro i s tk hm hi hit hl hd hp hR
  have e:i=ps.length:=by omega
  subst e
  rw[qO]at hd
  refine codeAny_builtin z7k ?_
  rw[Around.under_plainId z3H _]
  show wpAny _ A.in1 (pyNext (.ref it) >>= _) _ _ s
  refine q9 (wpAny_pyNext_list_end (by simpa using hh) hit hl (Array.getElem?_eq_none (by rw[hp.1];exact qh _)) fun h' ex=>?_)
  show wpAny _ _ (Builtin.Dict.addKeywords d [] >>= _) _ _ _
  refine q9 (qg (qg (hR h' s.toks (fun b o nb _ q=>ex b o nb q) ?_)))
  obtain⟨o,es,ep,ho,r⟩:=hd
  exact⟨o,es,ep,ex d o (Ne.symm nid) ho,r⟩
 |succ m ih=>
  intro i s tk hm hi hit hl hd hp hR
  have lt:i<ps.length:=by omega
  obtain⟨t,key,e1,e2,e3⟩:=hp.2 i ps[i] (qf lt)
  refine codeAny_builtin z7k ?_
  rw[Around.under_plainId z3H _]
  show wpAny _ A.in1 (pyNext (.ref it) >>= _) _ _ s
  refine q9 (wpAny_pyNext_list_item hit hl e1 fun h1 hit1 sb1=>?_)
  obtain⟨ot,et1,et2,nt,et3⟩:=e2
  have ntit:t≠it:=fun z=>by
   obtain⟨oi,q1,q2,_⟩:=hit
   rw[z,q1]at et1
   cases et1
   rw[q2]at et2
   exact absurd (Value.type.inj et2) (by decide)
  have ntd:t≠d:=fun z=>by
   obtain⟨od,q1,q2⟩:=(show s.TypeIs (.ref d) "dict" from hd.typeIs)
   rw[z,q1]at et1
   cases et1
   rw[q2]at et2
   exact absurd (Value.type.inj et2) (by decide)
  have et1':h1.get? t=some ot:=(sb1.2 t ntit).trans et1
  have hd1:h1.DictOf knd d (z1t (ps.take i)):=hd.sameBut sb1 (Ne.symm nid)
  refine q9 (wpAny_holding (q9 (wpAny_tryCatch ?_)))
  unfold Builtin.Dict.pairItems
  refine q9 (wpAny_typeOf_ref et1' ?_)
  rw[et2]
  refine q9 (wpAny_seqItems et1' et3 (qg ?_))
  refine wpAny_holding (wpAny_dictSet_pairs e3 hd1 (fun h2 hd2 sb2=>?_) ?_)
  ·refine qg ⟨plainId_quiet z3H _,ih (i+1) { s with heap:=h2,toks:=s.toks+1 } 0 (by omega) (by omega) ?_ ?_ ?_ ?_ fun h' tk' kp dd=>hR h' tk' (fun b o n1 n2 q=>kp b o n1 n2 ((sb2.2 b n2).trans ((sb1.2 b n1).trans q))) dd⟩
   ·obtain⟨o,q1,r⟩:=hit1
    exact⟨o,(sb2.2 it nid).trans q1,r⟩
   ·obtain⟨o,q1,r⟩:=hl
    exact⟨o,(sb2.2 l nld).trans ((sb1.2 l (Ne.symm nil')).trans q1),r⟩
   ·rw[qz,qf lt]
    show h2.DictOf knd d (z1t (ps.take i++[ps[i]]))
    rw[z5T]
    exact hd2
   ·refine hp.keep fun b o q1 q2=>?_
    have nb1:b≠it:=fun z=>by
     obtain⟨oi,r1,r2,_⟩:=hit
     rw[z,r1]at q1
     cases q1
     rw[r2]at q2
     exact absurd (Value.type.inj q2) (by decide)
    have nb2:b≠d:=fun z=>by
     obtain⟨od,r1,r2⟩:=(show s.TypeIs (.ref d) "dict" from hd.typeIs)
     rw[z,r1]at q1
     cases q1
     rw[r2]at q2
     exact absurd (Value.type.inj q2) (by decide)
    exact(sb2.2 b nb2).trans ((sb1.2 b nb1).trans q1)
  ·have h1:=small (ps.take i) (by rw[qR];omega)
   have h2:(ps.take i).length<=ps.length:=by rw[qR];omega
   omega
end
section
variable {prog:Program}{w:World}{A:Around}{E:Value->Shared->Prop}{K:Type} [DecidableEq K] {knd:KeyKind prog w K}{s:Shared}
theorem z6y {l:Addr}{xs:Array Value}{k:Nat}{sl:Array (Option Value)}{ps:List (K×Value)}{Q:Value->Shared->Prop}(hh:A.handled=none) (hl:s.heap.get? l=some { cls:=.type "list",dict:=none,data:=.seq xs k,slots:=sl }) (hp:z5e knd s.heap xs ps) (few:ps.length<=sizeLine)
 (small:∀qs,qs.length<=ps.length->(z1t (qs:List (K×Value))).length<=qs.length)
 (h:∀h' tk,(∀b o,s.heap.get? b=some o->h'.get? b=some o)->h'.DictOf knd s.heap.objs.size (z1t ps)->Q (.ref s.heap.objs.size) { s with heap:=h',toks:=tk }):
 wpAny (model prog w) A (call (.type "dict") [.ref l]) Q E s:=by
 refine callType_codes (Q₁:=fun obj s₁=>obj=.ref s.heap.objs.size/\s₁={ s with heap:=s.heap.push { cls:=.type "dict",data:=.dict #[] } }) PySem.F.kt_called_dict (PySem.F.kt_typeCall_dict_1 _) PySem.F.entry_dict_init (kt_code_dict_new _ ⟨rfl,rfl⟩) ?_
 rintro obj s₁ ⟨rfl,rfl⟩
 have hnew:(s.heap.push { cls:=.type "dict",data:=.dict #[] }).DictOf knd s.heap.objs.size []:=Heap.DictOf.new s.heap
 refine⟨hnew.typeIs,PySem.F.args_dict_init_2 _ _,?_⟩
 unfold Builtin.«dict.__init__»
 refine q9 ?_
 unfold Builtin.Dict.selfAndRest
 refine q9 (wpAny_notOrdered_dict hnew.typeIs ?_)
 show wpAny _ _ (pure (s.heap.objs.size,[Value.ref l])) _ _ _
 refine qg ?_
 show wpAny _ _ (Builtin.Dict.updateFrom "dict.__init__" s.heap.objs.size (.ref l) [] .none) _ _ _
 unfold Builtin.Dict.updateFrom
 have hl':(s.heap.push { cls:=.type "dict",data:=.dict #[] }).get? l=some { cls:=.type "list",dict:=none,data:=.seq xs k,slots:=sl }:=qc _ hl
 refine q9 (wpAny_typeOf_ref hl' ?_)
 rw[if_pos (show((Value.type "list":Value) != Value.type "dict")=true by decide)]
 refine q9 (za1 (by simpa using hh) hl' fun h1 tk1 kp1=>?_)
 rw[if_pos (show(none:Option Value).isNone=true from rfl)]
 refine q9 (wpAny_rule ?_)
 have hl1:=kp1 _ _ hl'
 have hd1:h1.DictOf knd s.heap.objs.size []:=by
  obtain⟨o,es,ep,ho,r⟩:=hnew
  exact⟨o,es,ep,kp1 _ _ ho,r⟩
 refine q9 (wpAny_pyIter_list (items:=xs) ⟨_,hl1,rfl,_,rfl⟩ ?_)
 have nl:l≠s.heap.objs.size:=fun z=>absurd (qy hl) (by rw[z];exact Nat.lt_irrefl _)
 have sz:s.heap.objs.size<h1.objs.size:=by
  obtain⟨o,_,_,ho,_⟩:=hd1
  exact qy ho
 have nit:h1.objs.size≠l:=fun z=>absurd (qy hl1) (by rw[<- z];exact Nat.lt_irrefl _)
 refine qg ⟨plainId_quiet z3H _,zar (knd:=knd) (items:=xs) (ps:=ps) (by simpa using hh) nit (Nat.ne_of_gt sz) nl few small ps.length 0 _ 0 (Nat.sub_zero _) (qA _) ?_ ?_ ?_ ?_ fun h' tk' kp dd=>?_⟩
 ·exact⟨_,qw _ rfl,rfl,rfl⟩
 ·exact⟨_,qc _ hl1,rfl,_,rfl⟩
 ·exact hd1.push _
 ·exact(hp.keep fun t o q _=>kp1 _ _ (qc _ q)).keep fun t o q _=>qc _ q
 ·refine⟨rfl,h h' tk' (fun b o q=>?_) dd⟩
  have lt:=qy q
  exact kp b o (qN (Nat.lt_trans lt sz)) (qN lt) (qc _ (kp1 _ _ (qc _ q)))
end
def z5B (ps:List (Key×V)):List (Key×V):=ps.foldl (fun kvs p=>z45 kvs p.1 p.2) []
theorem z90 (ps:List (Key×V)):(z5B ps).length<=ps.length:=by
 have:∀(ps kvs:List (Key×V)),(ps.foldl (fun kvs p=>z45 kvs p.1 p.2) kvs).length<=kvs.length+ps.length:=by
  intro ps
  induction ps with
  |nil=>intro kvs;simp
  |cons p r ih=>
   intro kvs
   have h1:=ih (z45 kvs p.1 p.2)
   have h2:=z3x kvs p.1 p.2
   rw[List.foldl_cons,qI]
   omega
 have:=this ps []
 simpa[z5B]using this
theorem z8Q {K:Type} [DecidableEq K] (kvs:List (K×Value)) (k:K) (v:Value):(stored kvs k v).length<=kvs.length+1:=by
 unfold stored
 split<;>simp
theorem z6L {K:Type} [DecidableEq K] (qs:List (K×Value)):(z1t qs).length<=qs.length:=by
 have:∀(ps kvs:List (K×Value)),(ps.foldl (fun kvs p=>stored kvs p.1 p.2) kvs).length<=kvs.length+ps.length:=by
  intro ps
  induction ps with
  |nil=>intro kvs;simp
  |cons p r ih=>
   intro kvs
   have h1:=ih (stored kvs p.1 p.2)
   have h2:=z8Q kvs p.1 p.2
   rw[List.foldl_cons,qI]
   omega
 have:=this qs []
 simpa[z1t]using this
section
variable {X:Cx}{pins:List (Addr×Obj)}{σ:St}{H:Hp}{s:Shared}
def zcl (K:PySem.W.Frag):List V->Hp->VK->Prop:=fun vs H Q=>∃l us ps,vs=[.ref l]/\H l=some (.lst us)/\us.length=ps.length/\ps.length<=sizeLine/\(∀(i:Nat) (p:Key×V),ps[i]?=some p->∃t,us[i]?=some (.ref t)/\H t=some (.tup [kV p.1,p.2]))/\∀d,H d=none->Q (.ref d) (upd H d (.dK (z5B ps)))
theorem z8r {h:Heap}(ok:HOk X.prog X.w H h):∀(us:List V) (its:List Value) (ps:List (Key×V)),z19 us its->us.length=ps.length->(∀(i:Nat) (p:Key×V),ps[i]?=some p->∃t,us[i]?=some (.ref t)/\H t=some (.tup [kV p.1,p.2]))->
 ∃qs:List (Key×Value),KV ps qs/\its.length=qs.length/\∀(i:Nat) (q:Key×Value),qs[i]?=some q->∃t key,its[i]?=some (.ref t)/\h.IsTuple t #[key,q.2]/\(z0L X.prog X.w).is q.1 key=true
 |[],_,[],.nil,_,_=>⟨[],.nil,rfl,fun i q hq=>by simp at hq⟩
 |u::us,_,[],_,hl,_=>by simp at hl
 |[],_,p::ps,_,hl,_=>by simp at hl
 |u::us,_,p::ps,@Paired.cons _ _ _ _ y _ ys rx r,hl,hp=>by
  obtain⟨t,e1,e2⟩:=hp 0 p rfl
  obtain rfl:u=.ref t:=by simpa using e1
  obtain⟨qs,kv,ln,hq⟩:=z8r ok us ys ps r (by simpa using hl) fun i p' h'=>by
   obtain⟨t',a,b⟩:=hp (i+1) p' (by simpa using h')
   exact⟨t',by simpa using a,b⟩
  obtain⟨_,jts,rj,o,h1,h2,n,h3⟩:=(show z1o X.prog X.w H h t (.tup [kV p.1,p.2])from ok t _ e2)
  obtain⟨k1,v1,rfl,r1,r2⟩:=zaT rj
  cases rx
  refine⟨(p.1,v1)::qs,.cons ⟨rfl,r2⟩ kv,by simp[ln],fun i q h'=>?_⟩
  cases i with
  |zero=>
   have e:(p.1,v1)=q:=by simpa using h'
   subst e
   exact⟨t,k1,rfl,⟨o,h1,h2,n,h3⟩,za7 r1⟩
  |succ i=>exact hq i q (by simpa using h')
theorem KV.all:∀{ps:List (Key×V)}{qs:List (Key×Value)},KV ps qs->KV (z5B ps) (z1t qs):=by
 have:∀{ps:List (Key×V)}{qs:List (Key×Value)},KV ps qs->∀{a:List (Key×V)}{b:List (Key×Value)},KV a b->KV (ps.foldl (fun kvs p=>z45 kvs p.1 p.2) a) (qs.foldl (fun kvs p=>stored kvs p.1 p.2) b):=by
  intro ps qs h
  induction h with
  |nil=>intro a b h;exact h
  |cons hx _ ih=>
   intro a b h
   obtain⟨e1,e2⟩:=hx
   rw[List.foldl_cons,List.foldl_cons,<- e1]
   exact ih (h.put _ e2)
 intro ps qs h
 exact this h .nil
theorem z4n (hc:X.calm=true):z5f X (.type "dict") (zcl X.K):=by
 intro pins s σ H xs us Q I r h
 obtain⟨l,ys,ps,rfl,hl,ln,few,hp,q⟩:=h
 obtain⟨u,rfl,rx⟩:=z7A r
 cases rx
 obtain⟨hz,its,c',r',e⟩:=(show z1o X.prog X.w H s.heap l (.lst ys)from I.hok l _ hl)
 obtain⟨qs,kv,ln',hq⟩:=z8r I.hok ys its ps r' ln hp
 have kl:=kv.length
 refine z6y (knd:=z0L X.prog X.w) (ps:=qs) (I.ok.hd hc) e ⟨by simpa using ln',fun i p hp=>?_⟩ (by omega) (fun qs _=>z6L qs) fun h' tk kp dd=>?_
 ·obtain⟨t,key,a,b,c⟩:=hq i p hp
  exact⟨t,key,by simpa using a,b,c⟩
 ·have len:=z90 ps
  refine⟨.ref s.heap.objs.size,_,I.laid (t':=tk) kp (qh _) (zbR (by omega) ?_ kv.all dd),rfl,q _ (I.hok.fresh (qh _))⟩
  exact(z8C s.heap I.big:z1o X.prog X.w H _ s.heap.objs.size (.dK [])).2.1
end
end L2
namespace Tr
open PySem PySem.Spec PyProof.Rows L2
abbrev sl (x:Str):List Nat:=x.cps.toList
theorem zbH (x y:Str):sl (x++y)=sl x++sl y:=by
 show(x.cps++y.cps).toList=_
 simp
end Tr
namespace L2
open PySem PySem.Spec PyProof.Rows
section
variable {X:Cx}
theorem zdH:IxR X (fun x y H Q=>∃a kvs k v,x=.ref a/\H a=some (.dK kvs)/\y=kV k/\z4x kvs k=some v/\Q v H):=by
 intro value slice pins s σ H x y v u Q I rx ry h hs
 obtain⟨a,kvs,k,z,rfl,hd,rfl,e,q⟩:=h
 cases rx
 obtain⟨_,ne,vs,rel,dd⟩:=zbx I.hok hd
 obtain⟨w',hw,rw'⟩:=z6E.some_of (v:=z) (o:=valueAt vs k) (by rw[<- e];exact rel.val k)
 exact tail_any dd.typeIs PySem.F.slot_dict_getitem.lookup (wpAny_getItem_of (za7 ry) dd.mapOf hw ⟨z,H,I.tok _,rw',q⟩) hs
end
end L2
namespace Tr
open PySem PySem.Spec PyProof.Rows L2
abbrev Wat:=Int×Str×Str
def z9V (f:Row->Option Str) (rs:List Row) (q:Str):List Int:=rs.zipIdx.filterMap fun p=>if f p.1=some q then some (p.2:Int)else none
def zcP (n:Nat) (gs:List Int) (k:Nat):Int:=if k<gs.length then gs.getD k 0 else(n:Int)-1
theorem z8F (xs:List Int) {n:Int}(h:0<=n):z6C (xs.map V.int) (some n) none=(xs.drop n.toNat).map V.int:=by
 obtain⟨k,rfl⟩:=Int.eq_ofNat_of_zero_le h
 unfold z6C
 rw[HT.sIx_none,show(some ((k:Nat):Int))=some ((k:Nat):Int)from rfl,HT.sIx_nat,qb,Int.toNat_natCast,<- List.map_drop,<- List.map_take]
 congr 1
 by_cases z:k<=xs.length
 ·rw[Nat.min_eq_left z,List.take_of_length_le (by rw[List.length_drop];omega)]
 ·rw[Nat.min_eq_right (by omega),List.drop_of_length_le (qh _),List.drop_of_length_le (by omega)]
  simp
def roomFor (rs:List Row) (i:Nat) (r:Row) (s:Str×Int):List Wat:=if r.into=some s.1/\s.2.toNat<=(z9V Row.into (rs.take i) s.1).length then[(zcP rs.length (z9V Row.outof rs s.1) ((z9V Row.into (rs.take i) s.1).length-s.2.toNat),"room",s.1)]else[]
end Tr
namespace L2
open PySem
def itr (mask:Nat):Nat->Nat->Nat->Nat
 |0,i,_=>i
 |m+1,i,p=>itr mask m (SetTable.leap mask i p).1 (SetTable.leap mask i p).2
theorem z7e {mask:Nat}{ow:Array (Option Nat)}:∀(fuel i p:Nat),i<=mask->SetTable.layClean.free mask ow fuel i p=none->∀m,m<fuel->(ow.getD (itr mask m i p) (some 0)).isNone=false
 |0,_,_,_,_,m,hm=>absurd hm (Nat.not_lt_zero m)
 |fuel+1,i,p,hi,h,m,hm=>by
  unfold SetTable.layClean.free at h
  split at h
  ·cases h
  ·rename_i hf
   cases m with
   |zero=>
    have:=List.find?_eq_none.mp hf 0 (by
     rw[List.mem_range]
     unfold SetTable.runEnd
     split<;>omega)
    show(ow.getD i (some 0)).isNone=false
    simpa only[Nat.add_zero,Bool.not_eq_true]using this
   |succ m=>exact z7e fuel _ _ (Nat.le_of_lt_succ (Nat.mod_lt _ (Nat.succ_pos _))) h m (by omega)
theorem zai {mask:Nat}{ow:Array (Option Nat)}:∀(fuel i p j:Nat),SetTable.layClean.free mask ow fuel i p=some j->(ow.getD j (some 0)).isNone=true
 |0,_,_,_,h=>by unfold SetTable.layClean.free at h;cases h
 |fuel+1,i,p,j,h=>by
  unfold SetTable.layClean.free at h
  split at h
  ·rename_i k hk
   cases h
   exact List.find?_some (p:=fun k=>(ow.getD (i+k) (some 0)).isNone) hk
  ·exact zai fuel _ _ j h
theorem zab (mask:Nat):∀(a b i p:Nat),itr mask (a+b) i p=itr mask b (itr mask a i p) (p / 32 ^ a)
 |0,b,i,p=>by simp[itr]
 |a+1,b,i,p=>by
  rw[Nat.succ_add]
  show itr mask (a+b) _ _=itr mask b (itr mask a _ _) _
  rw[zab mask a b]
  unfold SetTable.leap
  rw[Nat.div_div_eq_div_mul,Nat.pow_succ,Nat.mul_comm (32 ^ a) 32]
theorem zbN {mask:Nat}:∀(a i p:Nat),i<=mask->itr mask a i p<=mask
 |0,i,p,h=>h
 |a+1,i,p,h=>zbN a _ _ (by unfold SetTable.leap;exact Nat.le_of_lt_succ (Nat.mod_lt _ (Nat.succ_pos _)))
theorem zbP:∀(l:List (Option Nat)) (j k:Nat),l[j]?=some none->((l.set j (some k)).filterMap id).Perm (k::l.filterMap id)
 |[],j,k,h=>by simp at h
 |x::l,0,k,h=>by
  obtain rfl:x=none:=by simpa using h
  exact .refl _
 |x::l,j+1,k,h=>by
  have ih:=zbP l j k (by simpa using h)
  cases x with
  |none=>simpa using ih
  |some y=>
   show(y::(l.set j (some k)).filterMap id).Perm (k::y::l.filterMap id)
   exact(ih.cons y).trans (.swap _ _ _)
theorem zal:∀(l:List (Option Nat)),(l.filterMap id).length<l.length->∃j:Nat,l[j]?=some none
 |[],h=>absurd h (Nat.lt_irrefl _)
 |none::l,_=>⟨0,rfl⟩
 |some y::l,h=>by
  obtain⟨j,q⟩:=zal l (by simpa using h)
  exact⟨j+1,by simpa using q⟩
theorem z8m {α:Type}(es:Array α) (order:Array Nat) (h:order.toList.Perm (List.range es.size)):(order.filterMap (es[·]?)).toList.Perm es.toList:=by
 rw[Array.toList_filterMap]
 refine(h.filterMap _).trans ?_
 have:∀l:List α,(List.range l.length).filterMap (l[·]?)=l:=fun l=>by
  induction l with
  |nil=>rfl
  |cons x l ih=>
   rw[qI,List.range_succ_eq_map,List.filterMap_cons,List.filterMap_map]
   exact congrArg (x::·) ih
 have q:=this es.toList
 rw[Array.length_toList]at q
 simp only[Array.getElem?_toList]at q
 rw[q]
section
variable {P:Program}{w:World}{A:Around}{E:Value->Shared->Prop}{s:Shared}
theorem zb3:entryFor table "set.__or__"=some Builtin.«frozenset.__or__»:=entryFor_alias (id':="frozenset.__or__") (by kernel_rfl) rfl (by decide +kernel) (by kernel_rfl)
theorem z8c {es es':Array (Int×Value)}{t t':SetTable}{ys:List Str}(T:z0F P w es t ys) (hp:es'.toList.Perm es.toList) (hf:t'.fits es'.size=true) (hl:t'.led=t.led) (hpl:t'.plain=false):z0F P w es' t' ys:=by
 have sz:es'.size=es.size:=by rw[<- Array.length_toList,hp.length_eq,Array.length_toList]
 exact⟨T.el.perm hp,(hp.map _).nodup_iff.mpr T.nd,fun k=>((hp.map _).mem_iff).trans (T.mem k),by rw[sz];exact T.few,hf,hl.trans T.led,fun _=>hpl⟩
end
end L2
namespace L2
open PySem PySem.Spec PyProof.Rows
section
variable {X:Cx}
end
section
variable {P:Program}{w:World}{A:Around}{E:Value->Shared->Prop}{s:Shared}
theorem z7l {d:Addr}{kvs:List (Key×Value)}{ep:Nat}{Q:List Value->Shared->Prop}(hh:A.handled=none) (lo:(d == sysModules)=false) (hm:s.heap.DictAt (z0L P w) d kvs ep) (hn:kvs.length<=sizeLine)
 (h:∀(h':Heap) (tk:Nat) (vs:List Value),(∀b o,s.heap.get? b=some o->h'.get? b=some o)->s.heap.objs.size<h'.objs.size->vs.length=kvs.length->(∀(j:Nat) (v:Value),vs[j]?=some v->∃k x,kvs[j]?=some (k,x)/\(z0L P w).is k v=true)->Q vs { s with heap:=h',toks:=tk }):
 wpAny (model P w) A (collect (.ref d)) Q E s:=by
 have hd:d<s.heap.objs.size:=hm.lt_size
 unfold collect
 refine q9 (wpAny_runValue (codeAny_builtin F.entry_proto_collect ?_))
 rw[Around.under_plainId F.plain_proto_collect _]
 show wpAny _ A.in1 (newList [] >>= fun l=>again (.builtin "list.__iadd__" ⟨[l,.ref d],[]⟩)) _ _ s
 refine q9 (wpAny_newObj_type ?_)
 refine qg ⟨plainId_quiet F.plain_list_iadd _,codeAny_builtin F.entry_list_iadd ?_⟩
 rw[Around.under_plainId F.plain_list_iadd _]
 have hS:(s.heap.push { cls:=.type "list",data:=.seq ([]:List Value).toArray }).get? s.heap.objs.size=some { cls:=.type "list",data:=.seq #[] }:=qw _ rfl
 show wpAny _ A.in1 (Builtin.List.listExtendWith (.ref s.heap.objs.size) (.ref d) (.ref s.heap.objs.size)) _ _ _
 have key:=PySem.W.kdl_extend (A:=A) (s:={ s with heap:=s.heap.push { cls:=.type "list",data:=.seq ([]:List Value).toArray } }) (PySem.W.kdl_dict (knd:=z0L P w) (kvs:=kvs) (ep:=ep) lo)
  (R:=fun(q:Result) (s':Shared)=>∃(h':Heap) (tk:Nat) (acc:Array Value) (c:Nat),q=.ok (.ret (.ref s.heap.objs.size))/\s'={ s with heap:=h',toks:=tk } /\
   (∀b o,s.heap.get? b=some o->h'.get? b=some o)/\h'.get? s.heap.objs.size=some { cls:=.type "list",dict:=none,data:=.seq acc c,slots:=#[] }/\ItemsOf (fun i v=>∃k x,kvs[i]?=some (k,x)/\(z0L P w).is k v=true) acc kvs.length)
  hh (hm.push _) s.heap.objs.size (Nat.ne_of_gt hd) (Nat.ne_of_gt hd) (.ref s.heap.objs.size) 0 hS
  (fun h' tk acc c hk hS' hacc=>⟨h',tk,acc,c,rfl,rfl,fun b o e=>hk b o (qN (qy e)) (qc _ e),hS',hacc⟩) hn
 have fin:∀(h':Heap) (tk:Nat) (acc:Array Value) (c:Nat),(∀b o,s.heap.get? b=some o->h'.get? b=some o)->h'.get? s.heap.objs.size=some { cls:=.type "list",dict:=none,data:=.seq acc c,slots:=#[] }->
  ItemsOf (fun i v=>∃k x,kvs[i]?=some (k,x)/\(z0L P w).is k v=true) acc kvs.length->Q acc.toList { s with heap:=h',toks:=tk }:=fun h' tk acc c hk hS' hacc=>
  h h' tk acc.toList hk (qy hS') (by rw[Array.length_toList];exact hacc.1) fun j v e=>hacc.2 j v (by rw[<- Array.getElem?_toList];exact e)
 refine wpAny_mono key (fun fn s' x=>?_) fun e s' x=>?_
 ·cases fn with
  |done f=>
   obtain⟨h',tk,acc,c,e,rfl,hk,hS',hacc⟩:=x
   cases e
   show wpAny _ A (load s.heap.objs.size >>= _) _ _ _
   exact q9 (wpAny_load hS' (qg (fin h' tk acc c hk hS' hacc)))
  |again c₁=>
   refine⟨x.1,codeAny_mono x.2 fun q s₂ y=>?_⟩
   obtain⟨h',tk,acc,c,rfl,rfl,hk,hS',hacc⟩:=y
   show wpAny _ A (load s.heap.objs.size >>= _) _ _ _
   exact q9 (wpAny_load hS' (qg (fin h' tk acc c hk hS' hacc)))
 ·obtain⟨_,_,_,_,e',_⟩:=x
  cases e'
theorem z6I:∀(kvs:List (Key×Value)) (ks:List Str) (vs:List Value),kvs.map (·.1)=ks.map Sum.inr->vs.length=kvs.length->(∀(j:Nat) (v:Value),vs[j]?=some v->∃k x,kvs[j]?=some (k,x)/\(z0L P w).is k v=true)->StrsAre vs ks
 |[],[],[],_,_,_=>.nil
 |p::kvs,k::ks,v::vs,hk,hl,hv=>by
  simp only[List.map_cons,List.cons.injEq]at hk
  obtain⟨q,x,e,hq⟩:=hv 0 v rfl
  simp only[List.getElem?_cons_zero,Option.some.injEq]at e
  subst e
  obtain⟨hk1,hk2⟩:=hk
  have hq:z7b q v=true:=hq
  rw[show q=.inr k from hk1]at hq
  obtain⟨t,rfl⟩:=Value.isStrOf_shape hq
  exact .cons k t (z6I kvs ks vs hk2 (by simpa using hl) fun j u hu=>by simpa using hv (j+1) u (by simpa using hu))
 |[],_::_,_,hk,_,_=>by simp at hk
 |_::_,[],_,hk,_,_=>by simp at hk
 |[],[],_::_,_,hl,_=>by simp at hl
 |_::_,_::_,[],_,hl,_=>by simp at hl
theorem z7G {d:Addr}{kvs:List (Key×Value)}{ks:List Str}{ep:Nat}{Q:Value->Shared->Prop}(hh:A.handled=none) (lo:(d == sysModules)=false) (hm:s.heap.DictAt (z0L P w) d kvs ep) (hk:kvs.map (·.1)=ks.map Sum.inr) (few:ks.length<64)
 (h:∀h' tk l n (zs:List Str) (out:List Value),s.heap.objs.size<=l->h'.get? l=some { cls:=.type "list",data:=.seq out.toArray n }->StrsAre out zs->zs.Perm ks->sortedS zs=true->
  (∀b o,s.heap.get? b=some o->h'.get? b=some o)->Q (.ref l) { s with heap:=h',toks:=tk }):wpAny (model P w) A (call (.builtin "sorted") [.ref d]) Q E s:=by
 have kl:kvs.length=ks.length:=by simpa using congrArg List.length hk
 refine Calls.call_function_entry kind_sorted plain_sorted entry_sorted (args_sorted1 _) ?_
 unfold Builtin.«sorted»
 refine q9 (m:=checkCount "sorted" 1 1 _) (qg ?_)
 refine q9 (z7l (A:=A.in1) (by simpa using hh) lo hm (qG (by omega:kvs.length<=64) (by decide)) fun h1 tk vs old lt1 len hv=>?_)
 have hS:=z6I kvs ks vs hk len hv
 refine q9 (wpAny_newList ?_ (qG (by omega:vs.length<=64) (by decide)))
 have ho:(h1.push { cls:=.type "list",data:=.seq vs.toArray }).get? h1.objs.size=some (seqObj "list" vs.toArray 0):=qw _ rfl
 refine q9 (wpAny_holding (wpAny_call_entry slot_list_sort ⟨_,ho,rfl⟩ entry_list_sort (list_sort_treeK strKind_oneLt ho hS.keysOf (fun v1 v2 rest e=>keyKind_strs (by rw[<- e];exact hS)) (by omega) fun st' a1 a2=>⟨_,rfl,?_⟩) (args_list_sort _)))
 obtain⟨zs,g1,g2,g3⟩:=sorted_out_str hS a1 a2
 obtain⟨n,at1⟩:=sortedHeap_at (out:=(arrOf st').map (·.2)) ho
 refine qg ⟨_,rfl,h _ _ h1.objs.size n zs ((arrOf st').map (·.2)).toList (Nat.le_of_lt lt1) ?_ g1 g2 g3 (fun b o e=>?_)⟩
 ·exact at1
 ·have e1:=old b o e
  have lt:=qy e1
  have e2:=(sortedHeap_old (h:=h1.push { cls:=.type "list",data:=.seq vs.toArray }) (a:=h1.objs.size) (vs:=vs) (out:=(arrOf st').map (·.2)) (qN lt) (by rw[Heap.size_push];exact Nat.lt_succ_of_lt lt))
  exact e2.trans (qc _ e1)
end
section
variable {X:Cx}
theorem KV.get:∀{ps:List (Key×V)}{qs:List (Key×Value)}{i:Nat}{p:Key×V},KV ps qs->ps[i]?=some p->∃q,qs[i]?=some q/\p.1=q.1/\z1C p.2 q.2
 |_,_,_,_,.nil,h=>by simp at h
 |_,_,0,_,.cons hx _,h=>by
  simp only[List.getElem?_cons_zero,Option.some.injEq]at h
  subst h
  exact⟨_,rfl,hx.1,hx.2⟩
 |_,_,i+1,_,.cons _ r,h=>by
  obtain⟨q,e,z⟩:=KV.get r (by simpa using h)
  exact⟨q,by simpa using e,z⟩
theorem z4m (hc:X.calm=true):z5f X (.builtin "sorted") (fun xs H Q=>∃(p:Addr) (kvs:List (Key×V)) (ks:List Str),xs=[.ref p]/\H p=some (.dK kvs)/\kvs.map (·.1)=ks.map Sum.inr/\ks.length<64 /\
 ∀l zs,H l=none->zs.Perm ks->sortedS zs=true->Q (.ref l) (upd H l (.lst (zs.map V.str)))):=by
 intro pins s σ H xs us Q I r h
 obtain⟨p,kvs,ks,rfl,hq,hk,few,q⟩:=h
 obtain⟨u,rfl,rx⟩:=z7A r
 cases rx
 obtain⟨z,hd,vs,rel,dd⟩:=zbx I.hok hq
 obtain⟨ep,da⟩:=dd.dictAt
 refine z7G (I.ok.hd hc) hd da (rel.keys.symm.trans hk) few fun h' tk l n zs out hl ho hS hp so old=>?_
 have lz:zs.length<=sizeLine:=by rw[hp.length_eq];exact qG (Nat.le_of_lt few) (by decide)
 have J:=I.laid (t':=tk) (h':=h') (a:=l) (o:=.lst (zs.map V.str)) old hl ⟨by rw[qb];exact lz,out,n,z7O hS,ho⟩
 exact⟨.ref l,_,J,rfl,q l zs (I.hok.fresh hl) hp so⟩
def z8P (td:TE):TE:=fun σ H Q=>td σ H fun x H1=>∃a kvs,x=.ref a/\H1 a=some (.dK kvs) /\
 ∀H' l (ts:List Addr),z0f H1 H'->H1 l=none->H' l=some (.lst (ts.map V.ref))->ts.length=kvs.length->(∀(j:Nat) (t:Addr) (p:Key×V),ts[j]?=some t->kvs[j]?=some p->H' t=some (.tup [kV p.1,p.2])/\H1 t=none)->Q (.ref l) H'
theorem zet {P:Program}{w:World}{k:Key}{u:Value}(h:(z0L P w).is k u=true):z1C (kV k) u:=by
 have h:z7b k u=true:=h
 rcases z12 h with⟨i,t,rfl,rfl⟩|⟨x,t,rfl,rfl⟩
 ·exact⟨t,rfl⟩
 ·exact⟨t,rfl⟩
theorem z73 {o:Expr}{p1 apos cpos pos1:Pos}{td:TE}(hc:X.calm=true) (hg:Gl X "list") (hm:X.mg "list"=none) (ho:PE X o td)
 (hbase:attributeBase o "items" X.env (eval o X.env)=eval o X.env:=by rfl) (hline:(apos.endLine == cpos.line)=true:=by rfl)
 (hs3:starEach [.Call (.Attribute o "items" apos) [] [] cpos] X.env=[(false,eval (.Call (.Attribute o "items" apos) [] [] cpos) X.env)]:=by rfl):
 PE X (.Call (.Name "list" p1) [.Call (.Attribute o "items" apos) [] [] cpos] [] pos1) (z8P td):=by
 intro pins s σ H Q I h
 refine wpAny_Call_Name_kw (z3O I hg hm PyProof.Rows.Boot.«list» ?_)
 refine PyProof.Rows.callWith_type1 ?_ (by rw[hs3];rfl) rfl
 rw[hs3]
 show wpAny _ _ (spliced ((false,eval (.Call (.Attribute o "items" apos) [] [] cpos) X.env)::backTo pos1 [])) _ _ s
 refine Calls.spliced_cons ?_
 refine wpAny_Call_method0_late hbase hline (thn (ho pins s σ H _ I h) fun v s1 ⟨x,H1,I1,r1,a,kvs,ex,eH,q⟩=>?_)
 subst ex
 obtain rfl:v=Value.ref a:=r1
 obtain⟨z,hd,vs,rel,dd⟩:=zbx I1.hok eH
 obtain⟨t1,t2,_⟩:=zdJ I1 (.inl ⟨kvs,.inl eH⟩)
 refine⟨"dict","dict.items",PySem.F.plainAttrs_dict,PySem.F.slot_dict_items,PySem.F.type_dict_items,t1,t2,Calls.callWith_builtin rfl (PySem.evalArgs_none ?_)⟩
 refine call_meetsIn PySem.F.slot_dict_items dd.typeIs PySem.F.entry_dict_items (PySem.F.args_dict_items_1 _) (meets_dict_items (z0L X.prog X.w) a hd) ⟨⟨vs,dd⟩,?_⟩
 refine Calls.spliced_nil ?_
 obtain⟨ep,da⟩:=dd.dictAt
 have kl:=rel.length
 refine PySem.W.kdx_call (s:={ s1 with heap:=s1.heap.push { cls:=.type "dict_items",data:=.fields #[.ref a] } }) (knd:=z0L X.prog X.w) (kvs:=vs) (ep:=ep) (I1.ok.hd hc) ⟨_,qw _ rfl,rfl,rfl⟩ (da.push _) (by omega) fun h' tk acc c ts kp gl tl hG ets=>?_
 have keep:∀b o,s1.heap.get? b=some o->h'.get? b=some o:=fun b o e=>kp b o (qc _ e)
 have J:Inv X pins σ H1 { s1 with heap:=h',toks:=tk }:=I1.kept keep
 have szp:(s1.heap.push ({ cls:=.type "dict_items",data:=.fields #[.ref a] }:Obj)).objs.size=s1.heap.objs.size+1:=Heap.size_push _ _
 have old:∀t∈ts,s1.heap.objs.size<=t:=fun t ht=>by
  have:=hG.above t ht
  have z:s1.heap.objs.size<=(s1.heap.push ({ cls:=.type "dict_items",data:=.fields #[.ref a] }:Obj)).objs.size:=by rw[szp];exact Nat.le_succ _
  exact qG z (Nat.le_of_lt this)
 obtain⟨H',I3,s3,o3,a3⟩:=z4F (s:={ s1 with heap:=h',toks:=tk }) I1 ts (kvs.map fun p=>(kV p.1,p.2)) H1 J (by rw[qb];omega) hG.rise (fun t ht=>⟨old t ht,I1.hok.fresh (old t ht)⟩) fun j t p h1 h2=>by
  obtain⟨key,k,x,e1,e2,e3⟩:=hG.pairs j t h1
  rw[qL]at h2
  obtain⟨p',hp',rfl⟩:=Option.map_eq_some_iff.mp h2
  obtain⟨q',hq',rq1,rq2⟩:=KV.get rel hp'
  rw[e1]at hq'
  cases hq'
  have rq1:p'.1=k:=rq1
  subst rq1
  exact⟨key,x,zet e2,rq2,e3⟩
 have lL:s1.heap.objs.size<=(s1.heap.push ({ cls:=.type "dict_items",data:=.fields #[.ref a] }:Obj)).objs.size:=by rw[szp];omega
 generalize (s1.heap.push ({ cls:=.type "dict_items",data:=.fields #[.ref a] }:Obj)).objs.size=L at gl hG lL ⊢
 have nL:L∉ts:=fun hm=>Nat.lt_irrefl _ (hG.above _ hm)
 have fL:H1 L=none:=I1.hok.fresh lL
 have hL:H' L=none:=by rw[o3 _ nL];exact fL
 have vr:∀ts:List Addr,z19 (ts.map V.ref) (ts.map Value.ref):=fun ts=>by
  induction ts with
  |nil=>exact .nil
  |cons t ts ih=>exact .cons rfl ih
 have I4:Inv X pins σ (upd H' L (.lst (ts.map V.ref))) { s1 with heap:=h',toks:=tk }:=I3.track (I1.fpOk lL hL) (qG I1.sz lL) ⟨by rw[qb];omega,ts.map Value.ref,c,vr ts,by rw[<- ets];simpa using gl⟩
 refine⟨.ref L,_,I4,rfl,q _ L ts (s3.trans (z0f.new hL _)) fL z01 (by omega) fun j t p h1 h2=>⟨?_,I1.hok.fresh (old t (qH h1))⟩⟩
 exact z0f.new hL _ _ _ (a3 j t (kV p.1,p.2) h1 (by rw[qL,h2];rfl))
end
structure zd1 (K:PySem.W.Frag) (x qual:Str) (st:Stmt) (f:Addr) (fd:FuncData) (dv:Value):Prop where
 ex:∃(oc:Value) (od:Option Addr) (kV doc pm:Value) (an:Option Addr) (cdv ct:Value) (osl:Array (Option Value)) (dt:Addr) (d2:Option Addr) (n:Nat) (e2:Array (Option Value)),
  fd=PySem.W.fnOf x qual (z0a st) (z09 st) (z02 st) (.ref dt) kV doc pm an cdv ct/\K.lookup f=some ⟨oc,od,.func fd,osl⟩/\PySem.W.codeIn K cdv qual=true/\K.lookup dt=some ⟨.type "tuple",d2,.seq #[dv] n,e2⟩
 kp:PySem.W.keepIn K (.ref f)=true
section
variable {P:Program}{w:World}{K:PySem.W.Frag}{mg:Str->Option Value}{base:Heap}
theorem zd1.binds {x qual:Str}{st:Stmt}{f:Addr}{fd:FuncData}{dv:Value}{ps:List Str}(F:zd1 K x qual st f fd dv) (ds:List Value)
 (h:∀(kV doc pm:Value) (an:Option Addr) (cdv ct:Value) (dt:Addr) (o:Obj) (n:Nat) (s:Shared) (us:List Value),s.heap.get? dt=some o->o.data=.seq #[dv] n->(us++ds).length=ps.length->
  BindsTo s (PySem.W.fnOf x qual (z0a st) (z09 st) (z02 st) (.ref dt) kV doc pm an cdv ct) ⟨us,[]⟩ (ps.zip (us++ds))):z0G K fd ps ds:=by
 obtain⟨oc,od,kV,doc,pm,an,cdv,ct,osl,dt,d2,n,e2,rfl,lk,hcd,lt⟩:=F.ex
 exact fun s us X hl=>h kV doc pm an cdv ct dt _ n s us (X _ _ lt) rfl hl
theorem zcK {x qual:Str}{st:Stmt}{f dt:Addr}{oc:Value}{od an d2:Option Addr}{osl e2:Array (Option Value)}{n:Nat}{kV doc pm cdv ct dv:Value}{i2:Array Value}(l:K.lookup f=some ⟨oc,od,.func (PySem.W.fnOf x qual (z0a st) (z09 st) (z02 st) (.ref dt) kV doc pm an cdv ct),osl⟩)
 (c:PySem.W.codeIn K cdv qual=true) (k:PySem.W.keepIn K (.ref f)=true) (t:K.lookup dt=some ⟨.type "tuple",d2,.seq i2 n,e2⟩) (hi:i2=#[dv]):zd1 K x qual st f (PySem.W.fnOf x qual (z0a st) (z09 st) (z02 st) (.ref dt) kV doc pm an cdv ct) dv:=by
 subst hi
 exact⟨⟨oc,od,kV,doc,pm,an,cdv,ct,osl,dt,d2,n,e2,rfl,l,c,t⟩,k⟩
end
end L2
namespace Tr
open PySem PySem.Spec PyProof.Rows L2
set_option linter.all false
structure OnW (x:Int):Prop where
 lo:0<=x
 hi:x<1000000000000000000000000000000
def zeg (sg:Str) (a b:Int):Int:=
 if sg="+" then a+b else if sg="-" then a-b else if sg="*" then a * b else if sg="&" then Builtin.bitAnd a b else if sg="|" then Builtin.bitOr a b else Builtin.bitXor a b
def zaq (sg:Str) (a b:Int):Int:=
 if sg="/" then(if b=0 then 0 else a / b)else if sg="<" then(if a<b then 1 else 0)else if sg="=" then(if a=b then 1 else 0)else zeg sg a b % 1000000000000000000000000000000
theorem zap {sg:Str}{x y:Int}(hx:OnW x) (hy:OnW y):OnW (zaq sg x y):=by
 have x0:=hx.lo
 have x1:=hx.hi
 unfold zaq
 split
 ·split
  ·exact⟨by decide,by decide⟩
  ·rename_i h
   have y0:=hy.lo
   have y1:0<y:=by omega
   exact⟨Int.ediv_nonneg x0 y0,Int.lt_of_le_of_lt (Int.ediv_le_self y x0) x1⟩
 split
 ·split<;>exact⟨by decide,by decide⟩
 split
 ·split<;>exact⟨by decide,by decide⟩
 exact⟨Int.emod_nonneg _ (by decide),Int.emod_lt_of_pos _ (by decide)⟩
abbrev z4E:=Str->Int
def zdR (f:z4E):Val->Int
 |.num n=>n
 |.nm x=>f x
def z6B (f:z4E) (x:Str) (v:Int):z4E:=fun z=>if z=x then v else f z
def sgL:List Str:=["+","-","*","/","<","=","&","|","^"]
def z5d (C:List Str):Val->Prop
 |.num n=>OnW n
 |.nm x=>x∈C
theorem z5Q {f:z4E}{C:List Str}{a:Val}(hf:∀x,OnW (f x)) (h:z5d C a):OnW (zdR f a):=by
 cases a with
 |num n=>exact h
 |nm x=>exact hf x
theorem z5d.names {C:List Str}{a:Val}(h:z5d C a):∀x∈a.names,x∈C:=by
 cases a with
 |num n=>intro x hx;simp[Val.names]at hx
 |nm y=>intro x hx;simp[Val.names]at hx;rw[hx];exact h
def tab (ks:List Str) (f:z4E):List (Key×V):=ks.map fun z=>(.inr z,.int (f z))
def z2U (ks:List Str) (x:Str):List Str:=if x∈ks then ks else ks++[x]
theorem z2v {ks:List Str}{x k:Str}:k∈z2U ks x↔k∈ks\/k=x:=by
 unfold z2U
 split
 ·rename_i h
  exact⟨.inl,fun z=>z.elim id fun e=>e▸h⟩
 ·simp
theorem z3w {ks:List Str}{x:Str}(h:ks.Nodup):(z2U ks x).Nodup:=by
 unfold z2U
 split
 ·exact h
 ·rename_i hx
  exact z6p h hx
theorem z8d (ks:List Str) (f:z4E):(tab ks f).map (·.1)=ks.map Sum.inr:=by
 unfold tab
 rw[List.map_map]
 rfl
theorem z3Y (ks:List Str) (f:z4E):(tab ks f).length=ks.length:=qb _
theorem z3X {f:z4E}{x:Str}:∀{ks:List Str},x∈ks->z4x (tab ks f) (.inr x)=some (.int (f x))
 |[],h=>by simp at h
 |k::ks,h=>by
  unfold tab z4x
  rw[List.map_cons,List.find?_cons]
  by_cases e:k=x
  ·subst e
   simp
  ·have h':x∈ks:=by
    rcases qB.mp h with z|z
    ·exact absurd z.symm e
    ·exact z
   have:=z3X (f:=f) h'
   unfold tab z4x at this
   simp only[Sum.inr.injEq,e,decide_false]
   exact this
theorem z5S {f:z4E}{x:Str}{ks:List Str}(h:x∉ks):z4x (tab ks f) (.inr x)=none:=by
 cases e:z4x (tab ks f) (.inr x)with
 |none=>rfl
 |some v=>
  have:=z9i e
  rw[z8d]at this
  obtain⟨z,hz,ez⟩:=List.mem_map.mp this
  cases ez
  exact absurd hz h
theorem zc7 {f:z4E}{x:Str}{v:Int}{ks:List Str}(h:x∉ks):tab ks (z6B f x v)=tab ks f:=by
 unfold tab
 refine List.map_congr_left fun z hz=>?_
 show(_,V.int (if z=x then v else f z))=_
 rw[if_neg (fun e:z=x=>h (e▸hz))]
theorem z5R {f:z4E}{x:Str}{v:Int}{ks:List Str}(hn:ks.Nodup):z45 (tab ks f) (.inr x) (.int v)=tab (z2U ks x) (z6B f x v):=by
 unfold z2U
 split
 ·rename_i h
  unfold z45
  rw[if_pos (by
   rw[List.any_eq_true]
   exact⟨(.inr x,.int (f x)),List.mem_map.mpr ⟨x,h,rfl⟩,by simp⟩)]
  unfold tab
  rw[List.map_map]
  refine List.map_congr_left fun z hz=>?_
  show(if _ then _ else _)=_
  unfold z6B
  by_cases e:z=x
  ·subst e
   simp
  ·simp[e]
 ·rename_i h
  rw[z3F _ (z5S h)]
  show _=tab (ks++[x]) (z6B f x v)
  unfold tab
  rw[List.map_append]
  have:=zc7 (f:=f) (v:=v) h
  unfold tab at this
  rw[this]
  simp[z6B]
theorem z8Z {ks:List Str}(hn:ks.Nodup):z5B (ks.map fun z=>((.inr z:Key),V.int 0))=tab ks fun _=>0:=by
 have:∀(ks pre:List Str),(pre++ks).Nodup->(ks.map fun z=>((.inr z:Key),V.int 0)).foldl (fun kvs p=>z45 kvs p.1 p.2) (tab pre fun _=>0)=tab (pre++ks) fun _=>0:=by
  intro ks
  induction ks with
  |nil=>intro pre _;simp
  |cons k r ih=>
   intro pre h
   have h':((pre++[k])++r).Nodup:=by simpa using h
   have nk:k∉pre:=fun hm=>by
    rw[List.nodup_append]at h
    exact h.2.2 k hm k (by simp) rfl
   rw[List.map_cons,List.foldl_cons]
   have e:z45 (tab pre fun _=>0) (.inr k) (V.int 0)=tab (pre++[k]) fun _=>0:=by
    rw[z3F _ (z5S nk)]
    simp[tab]
   rw[show z45 (tab pre fun _=>0) ((.inr k:Key),V.int 0).1 ((.inr k:Key),V.int 0).2=tab (pre++[k]) fun _=>0 from e,ih _ h']
   simp
 exact this ks [] (by simpa using hn)
end Tr
namespace L2
open PySem PySem.Spec PyProof.Rows
section
variable {X:Cx}
end
section
variable {X:Cx}
end
end L2
namespace L2
open PySem PySem.Spec PyProof.Rows PySem.W
section
variable {X:Cx}{k:Nat}{f C0:Addr}{fd:FuncData}{ps:List Str}{sp:Sp}{dvs:List V}{ds:List Value}{fx cx y m n:Str}{iy im inn:Nat}{p pos apos py cp pm pn pa hpos:Pos}{e:Expr}{es:List Expr}{t:TA}
end
section
variable {X:Cx}
def zdb (te:TE):TE:=fun σ H Q=>te σ H fun v H1=>∃x:Str,v=.str x/\x.length<=1000/\∀z:Str,Q (.str z) H1
theorem zb9 {e1 e2:Expr}{c1:Str}{te:TE}{p2 pos:Pos}(h1:PE X e1 (tC (.str c1))) (h2:PE X e2 te) (l1:c1.length<=1000:=by decide +kernel):PE X (.JoinedStr [e1,.FormattedValue e2 (-1) none p2] pos) (zdb te):=by
 intro pins s σ H Q I h
 refine wpAny_JoinedStr ?_
 show Joins (model X.prog X.w) X.A X.xe [eval e1 X.env,eval (.FormattedValue e2 (-1) none p2) X.env] Str.empty _ s
 refine thn (h1 pins s σ H (fun v H1=>v=.str c1/\H1=H) I ⟨rfl,rfl⟩) fun u1 s1 ⟨v1,H1,I1,r1,e1,e2⟩=>?_
 subst e1 e2
 obtain⟨t1,rfl⟩:=r1
 refine⟨c1,t1,rfl,?_,?_⟩
 ·exact z08 (m:=1000) (by rw[z1e];show 0+_<=1000;omega)
 refine wpAny_FormattedValue_plain (thn (h2 pins s1 σ _ _ I1 h) fun u2 s2 ⟨v2,H2,I2,r2,x,ev,hx,q⟩=>?_)
 subst ev
 obtain⟨t2,rfl⟩:=r2
 have fit:∀c:Str,c.length<=1000->(Str.empty++c++x).length<=sizeLine:=fun c hc=>z08 (m:=3000) (by rw[z1e,z1e];show 0+_+_<=3000;omega)
 refine wpAny_formatField_str ⟨_,_,rfl,fit _ l1,?_⟩ ⟨_,_,rfl,fit _ l1,?_⟩ (z08 (m:=1000) hx)
 ·exact⟨fit _ l1,.str _,_,I2.tok _,⟨_,rfl⟩,q _⟩
 ·exact⟨fit _ l1,.str _,_,(I2.tok _).tok _,⟨_,rfl⟩,q _⟩
end
end L2
namespace Tr
open PySem PySem.Spec PyProof.Rows L2
set_option linter.all false
def z1X (ks:List Str) (f:Str->V):List (Key×V):=ks.map fun z=>(.inr z,f z)
def zcZ (f:Str->V) (x:Str) (v:V):Str->V:=fun z=>if z=x then v else f z
theorem z6H (ks:List Str) (f:Str->V):(z1X ks f).map (·.1)=ks.map Sum.inr:=by
 unfold z1X
 rw[List.map_map]
 rfl
theorem zaZ (ks:List Str) (f:Str->V):(z1X ks f).length=ks.length:=qb _
theorem z4y {f:Str->V}{x:Str}:∀{ks:List Str},x∈ks->z4x (z1X ks f) (.inr x)=some (f x)
 |[],h=>by simp at h
 |k::ks,h=>by
  unfold z1X z4x
  rw[List.map_cons,List.find?_cons]
  by_cases e:k=x
  ·subst e
   simp
  ·have h':x∈ks:=by
    rcases qB.mp h with z|z
    ·exact absurd z.symm e
    ·exact z
   have:=z4y (f:=f) h'
   unfold z1X z4x at this
   simp only[Sum.inr.injEq,e,decide_false]
   exact this
theorem z6G {f:Str->V}{x:Str}{ks:List Str}(h:x∉ks):z4x (z1X ks f) (.inr x)=none:=by
 cases e:z4x (z1X ks f) (.inr x)with
 |none=>rfl
 |some v=>
  have:=z9i e
  rw[z6H]at this
  obtain⟨z,hz,ez⟩:=List.mem_map.mp this
  cases ez
  exact absurd hz h
theorem zaY {f:Str->V}{x:Str}{v:V}{ks:List Str}(h:x∉ks):z1X ks (zcZ f x v)=z1X ks f:=by
 unfold z1X
 refine List.map_congr_left fun z hz=>?_
 show(_,(if z=x then v else f z))=_
 rw[if_neg (fun e:z=x=>h (e▸hz))]
theorem zaX {f:Str->V}{x:Str}{v:V}{ks:List Str}(hn:ks.Nodup):z45 (z1X ks f) (.inr x) v=z1X (z2U ks x) (zcZ f x v):=by
 unfold z2U
 split
 ·rename_i h
  unfold z45
  rw[if_pos (by
   rw[List.any_eq_true]
   exact⟨(.inr x,f x),List.mem_map.mpr ⟨x,h,rfl⟩,by simp⟩)]
  unfold z1X
  rw[List.map_map]
  refine List.map_congr_left fun z hz=>?_
  show(if _ then _ else _)=_
  unfold zcZ
  by_cases e:z=x
  ·subst e
   simp
  ·simp[e]
 ·rename_i h
  rw[z3F _ (z6G h)]
  show _=z1X (ks++[x]) (zcZ f x v)
  unfold z1X
  rw[List.map_append]
  have:=zaY (f:=f) (v:=v) h
  unfold z1X at this
  rw[this]
  simp[zcZ]
theorem z7J {ks:List Str}{f:Str->V}(hn:ks.Nodup):z5B (ks.map fun z=>((.inr z:Key),f z))=z1X ks f:=by
 have:∀(ks pre:List Str),(pre++ks).Nodup->(ks.map fun z=>((.inr z:Key),f z)).foldl (fun kvs p=>z45 kvs p.1 p.2) (z1X pre f)=z1X (pre++ks) f:=by
  intro ks
  induction ks with
  |nil=>intro pre _;simp
  |cons k r ih=>
   intro pre h
   have h':((pre++[k])++r).Nodup:=by simpa using h
   have nk:k∉pre:=fun hm=>by
    rw[List.nodup_append]at h
    exact h.2.2 k hm k (by simp) rfl
   rw[List.map_cons,List.foldl_cons]
   have e:z45 (z1X pre f) (.inr k) (f k)=z1X (pre++[k]) f:=by
    rw[z3F _ (z6G nk)]
    simp[z1X]
   rw[show z45 (z1X pre f) ((.inr k:Key),f k).1 ((.inr k:Key),f k).2=z1X (pre++[k]) f from e,ih _ h']
   simp
 exact this ks [] (by simpa using hn)
theorem z8O {ks:List Str}{f g:Str->V}(h:∀k∈ks,f k=g k):z1X ks f=z1X ks g:=by
 unfold z1X
 exact List.map_congr_left fun z hz=>by rw[h z hz]
structure Bk where
 f:z4E
 q:Str->List Int
 g:Str->Nat
 o:List Int
def stp (B:Bk):z0c->Option Bk
 |.set x a sg b=>some { B with f:=z6B B.f x (zaq sg (zdR B.f a) (zdR B.f b)) }
 |.put s x=>some { B with q:=fun z=>if z=s then B.q s++[B.f x]else B.q z }
 |.get s x=>match(B.q s)[B.g s]? with
  |none=>none
  |some v=>some { B with f:=z6B B.f x v,g:=fun z=>if z=s then B.g s+1 else B.g z }
 |.give x=>some { B with o:=B.o++[B.f x] }
 |_=>none
def B0:Bk:=⟨fun _=>0,fun _=>[],fun _=>0,[]⟩
inductive zdQ (C S:List Str):z0c->Prop
 |set {x:Str}{n:Int}:x∈C->OnW n->zdQ C S (.set x (.num n) "+" (.num 0))
 |put {s x:Str}:s∈S->x∈C->zdQ C S (.put s x)
 |get {s x:Str}:s∈S->x∈C->zdQ C S (.get s x)
 |give {x:Str}:x∈C->zdQ C S (.give x)
structure z4v (B:Bk) (n:Nat):Prop where
 on:∀x,OnW (B.f x)
 wh:∀s,∀v∈B.q s,OnW v
 le:∀s,B.g s<=(B.q s).length
 ql:∀s,(B.q s).length<=n
 ol:B.o.length<=n
theorem on0:OnW 0:=⟨by decide,by decide⟩
theorem z9t {B B':Bk}{n:Nat}{d:z0c}{C S:List Str}(h:z4v B n) (hd:zdQ C S d) (e:stp B d=some B'):z4v B' (n+1):=by
 have q':∀s,(B.q s).length<=n+1:=fun s=>Nat.le_succ_of_le (h.ql s)
 have o':B.o.length<=n+1:=Nat.le_succ_of_le h.ol
 have setOn:∀(x:Str) (v:Int),OnW v->∀z,OnW (z6B B.f x v z):=fun x v hv z=>by
  unfold z6B
  split
  ·exact hv
  ·exact h.on z
 cases hd with
 |set hx hn=>
  cases e
  exact⟨setOn _ _ (zap hn on0),h.wh,h.le,q',o'⟩
 |put hs hx=>
  cases e
  refine⟨h.on,fun s v hv=>?_,fun s=>?_,fun s=>?_,o'⟩
  ·dsimp only at hv
   split at hv
   ·rcases qk.mp hv with z|z
    ·exact h.wh _ v z
    ·rw[List.mem_singleton.mp z]
     exact h.on _
   ·exact h.wh _ v hv
  ·dsimp only
   split
   ·subst_vars
    rw[qe]
    exact qG (h.le _) (Nat.le_add_right _ _)
   ·exact h.le s
  ·dsimp only
   split
   ·rw[qe]
    exact Nat.succ_le_succ (h.ql _)
   ·exact q' s
 |get hs hx=>
  rename_i s x
  unfold stp at e
  dsimp only at e
  cases ev:(B.q s)[B.g s]? with
  |none=>rw[ev]at e;cases e
  |some v=>
   rw[ev]at e
   cases e
   have hv:OnW v:=h.wh s v (qH ev)
   refine⟨setOn _ _ hv,h.wh,fun z=>?_,q',o'⟩
   dsimp only
   split
   ·subst_vars
    exact(qi.mp ev).1
   ·exact h.le z
 |give hx=>
  cases e
  refine⟨h.on,h.wh,h.le,q',?_⟩
  show(B.o++[B.f _]).length<=n+1
  rw[qe]
  exact Nat.succ_le_succ h.ol
end Tr
namespace L2
open PySem PySem.Spec PyProof.Rows PySem.W
section
variable {P:Program}{w:World}{K:PySem.W.Frag}{mg:Str->Option Value}{base:Heap}
theorem zd1.okX {x qual:Str}{st:Stmt}{f:Addr}{fd:FuncData}{dv:Value}{N ps:List Str}{k:Nat}{sp:Sp}(F:zd1 K x qual st f fd dv) (S:z0m N ps (z02 st)) (len:∀vs H Q E,sp vs H Q E->vs.length=ps.length)
 (hbody:∀(cdv:Value) (A:Around) (outer:List Env) (s:Shared) (H:Hp) (vs:List V) (Q:VK) (E:XK),z3B k (A.deeper (envOfC qual (z02 st) s.heap.objs.size f cdv))->sp vs H Q E->
  ∃t,PSs (z3W (CXX P w) P w K mg base N qual (z02 st) f cdv A outer s H E) (z09 st) t/\t { nx:=fun _ H'=>Q .non H',rt:=Q } (z5h N vs) H):z1B P w K mg base (CXX P w) (k+1) f fd ps sp:=by
 obtain⟨oc,od,kV,doc,pm,an,cdv,ct,osl,dt,d2,n,e2,rfl,lk,hcd,lt⟩:=F.ex
 exact zcM lk hcd S len fun A outer s H vs Q E hr hsp=>hbody cdv A outer s H vs Q E hr hsp
end
theorem zcr {X:Cx}{K:PySem.W.Frag}{e:Expr}{f:Str}{ta:TE}{pos:Pos}(hk:X.K=K) (he:PE X e ta) (hb:attributeBase e f X.env (eval e X.env)=eval e X.env):PE X (.Attribute e f pos) (zeF K ta f):=by
 subst hk
 exact z18 he hb
end L2
namespace L2
open PySem PySem.F PySem.Spec PyProof.Rows PySem.W
set_option maxRecDepth 100000
section
variable {prog:Program}{w:World}{A:Around}{E:Value->Shared->Prop}{s:Shared}
end
section
variable {X:Cx}
end
section
variable {X:Cx}
end
section
variable {X:Cx}
end
end L2
namespace L2
open PySem PySem.Spec PyProof.Rows PySem.W
section
variable {X:Cx}
end
section
variable {X:Cx}{pins:List (Addr×Obj)}{σ:St}{H:Hp}{s:Shared}
end
section
variable {X:Cx}{k:Nat}{f C:Addr}{fd:FuncData}{ps:List Str}{sp:Sp}{x:Str}{p pos cpos:Pos}{e:Expr}{es:List Expr}{t:TA}
end
section
variable {X:Cx}
end
section
variable {X:Cx}
end
section
variable {X:Cx}{e:Expr}{te:TE}{pos:Pos}
end
section
variable {X:Cx}{K:PySem.W.Frag}{o e:Expr}{es:List Expr}{to:TE}{t:TA}{name:Str}{apos cpos:Pos}{T id:String}{r:V->List V->Hp->VK->Prop}
end
end L2
namespace L2
open PySem PySem.Spec PyProof.Rows
section
variable {X:Cx}
end
section
variable {prog:Program}{w:World}{A:Around}{E:Value->Shared->Prop}{s:Shared}{κ:KeyKind}
def ky (κ:KeyKind) (p:Keyed):κ.α:=KK κ #[p] 0
section
variable {left:Bool}{key:Keyed}{arr:Array Keyed}{base n hint:Nat}{st:SortSt}{Q:Option Nat->SortSt->Prop}
end
end
section
variable {prog:Program}{w:World}{A:Around}{E:Value->Shared->Prop}{s:Shared}{κ:KeyKind}
structure MS (r:Keyed->Keyed->Prop) (T o X Y:List Keyed):Prop where
 pm:(o++X++Y).Perm T
 sx:(o++X).Pairwise r
 sy:(o++Y).Pairwise r
section
variable {r:Keyed->Keyed->Prop}{T o X Y Z:List Keyed}
theorem MS.left (h:MS r T o (Z++X) Y) (k:∀x∈Z,∀y∈Y,r x y):MS r T (o++Z) X Y:=by
 refine⟨?_,?_,?_⟩
 ·have:=h.pm
  simpa[List.append_assoc]using this
 ·rw[List.append_assoc]
  exact h.sx
 ·have s1:=h.sx
  have s2:=h.sy
  rw[<- List.append_assoc]at s1
  rw[List.pairwise_append]at s1 s2 ⊢
  refine⟨s1.1,s2.2.1,fun x hx y hy=>?_⟩
  rcases qk.mp hx with q|q
  ·exact s2.2.2 x q y hy
  ·exact k x q y hy
end
def pb (κ:KeyKind) (left:Bool) (key p:Keyed):Bool:=if left=true then κ.blt (ky κ p) (ky κ key)else !κ.blt (ky κ key) (ky κ p)
section
variable {a b out:Array Keyed}{ia ib n:Nat}
end
end
section
variable {prog:Program}{w:World}{A:Around}{E:Value->Shared->Prop}{s:Shared}{κ:KeyKind}
section
variable {a b out:Array Keyed}{ia ib n:Nat}
end
end
section
variable {prog:Program}{w:World}{A:Around}{E:Value->Shared->Prop}{s:Shared}{κ:KeyKind}
abbrev H6:Type:=Option (Array Keyed)×Nat×Nat×Array Keyed×Nat×Nat
abbrev H7:Type:=Option (Array Keyed)×Nat×Nat×Array Keyed×Nat×Nat×Nat
section
variable {a b out:Array Keyed}{na nb n:Nat}
end
end
section
variable {prog:Program}{w:World}{A:Around}{E:Value->Shared->Prop}{s:Shared}{κ:KeyKind}
section
variable {arr:Array Keyed}{P X Y R:List Keyed}
end
end
section
variable {prog:Program}{w:World}{A:Around}{E:Value->Shared->Prop}{s:Shared}{κ:KeyKind}
section
variable {st0 st:SortSt}{lo:Nat}
end
end
section
variable {prog:Program}{w:World}{A:Around}{E:Value->Shared->Prop}{s:Shared}{κ:KeyKind}
section
variable {a₀:Array Keyed}{st:SortSt}{Xs:List (List Keyed)}{R:List Keyed}
end
section
variable {a₀:Array Keyed}{st:SortSt}{Xs:List (List Keyed)}{R:List Keyed}{lo n:Nat}
end
end
section
variable {prog:Program}{w:World}{A:Around}{E:Value->Shared->Prop}{s:Shared}
end
section
variable {P:Program}{w:World}{A:Around}{E:Value->Shared->Prop}{s:Shared}
end
section
variable {X:Cx}
end
end L2
namespace L2
open PySem
def fn5:Nat->Nat->Nat
 |0,x=>x
 |n+1,x=>fn5 n (5 * x+1)
theorem zak:∀(a b x:Nat),fn5 (a+b) x=fn5 b (fn5 a x)
 |0,b,x=>by rw[Nat.zero_add];rfl
 |a+1,b,x=>by rw[Nat.succ_add];exact zak a b _
theorem zbO:∀(n x:Nat),4 * fn5 n x+1=5 ^ n * (4 * x+1)
 |0,x=>by simp[fn5]
 |n+1,x=>by
  show 4 * fn5 n (5 * x+1)+1=_
  rw[zbO n,Nat.pow_succ,Nat.mul_assoc]
  congr 1
  omega
theorem z8A:∀k:Nat,∃c,5 ^ (2 ^ k)=1+2 ^ (k+2) * (2 * c+1)
 |0=>⟨0,by decide⟩
 |k+1=>by
  obtain⟨c,hc⟩:=z8A k
  refine⟨c+2 ^ k * ((2 * c+1) * (2 * c+1)),?_⟩
  have e:(5:Nat) ^ (2 ^ (k+1))=5 ^ (2 ^ k) * 5 ^ (2 ^ k):=by rw[<- Nat.pow_add];congr 1;rw[Nat.pow_succ];omega
  have p2:(2:Nat) ^ (k+2)=4 * 2 ^ k:=by rw[Nat.pow_add];omega
  have p3:(2:Nat) ^ (k+1+2)=8 * 2 ^ k:=by rw[Nat.pow_add,Nat.pow_add];omega
  rw[e,hc,p2,p3]
  generalize 2 ^ k=t
  generalize hd:2 * c+1=d
  have:2 * (c+t * (d * d))+1=d+2 * (t * (d * d)):=by omega
  rw[this]
  have q1:(1+4 * t * d) * (1+4 * t * d)=1+8 * (t * d)+16 * ((t * d) * (t * d)):=by
   rw[Nat.mul_assoc 4 t d]
   generalize t * d=z
   rw[Nat.add_mul,Nat.one_mul,Nat.mul_add,Nat.mul_one,show 4 * z * (4 * z)=16 * (z * z)by rw[Nat.mul_assoc,Nat.mul_left_comm z 4 z];omega]
   omega
  have q2:8 * t * (d+2 * (t * (d * d)))=8 * (t * d)+16 * ((t * d) * (t * d)):=by
   rw[Nat.mul_add,Nat.mul_assoc 8 t d,Nat.mul_assoc 8 t]
   have:t * (2 * (t * (d * d)))=2 * ((t * d) * (t * d)):=by
    rw[Nat.mul_left_comm t 2,Nat.mul_mul_mul_comm,Nat.mul_assoc t t]
   rw[this]
   omega
  rw[q1,q2]
  omega
theorem zbr (k x:Nat):∃c,fn5 (2 ^ k) x=x+2 ^ k * (2 * c+1):=by
 obtain⟨c,hc⟩:=z8A k
 have h:=zbO (2 ^ k) x
 have p2:(2:Nat) ^ (k+2)=4 * 2 ^ k:=by rw[Nat.pow_add];omega
 rw[hc,p2]at h
 refine⟨c * (4 * x+1)+2 * x,?_⟩
 have e:2 * (c * (4 * x+1)+2 * x)+1=(2 * c+1) * (4 * x+1):=by
  rw[Nat.add_mul,Nat.one_mul,Nat.mul_assoc]
  omega
 rw[e]
 rw[Nat.add_mul,Nat.one_mul,Nat.mul_assoc,Nat.mul_assoc]at h
 generalize 2 ^ k * ((2 * c+1) * (4 * x+1))=z at h ⊢
 omega
theorem zaj:∀(k i j:Nat),∃m,m<2 ^ k/\fn5 m i % 2 ^ k=j % 2 ^ k
 |0,i,j=>⟨0,by decide,by simp[Nat.mod_one]⟩
 |k+1,i,j=>by
  obtain⟨m,hm,e⟩:=zaj k i j
  have p:(2:Nat) ^ (k+1)=2 ^ k * 2:=Nat.pow_succ _ _
  have t0:0<2 ^ k:=Nat.pow_pos (by decide)
  have two:∀x,x % (2 ^ k * 2)=x % 2 ^ k+2 ^ k * (x / 2 ^ k % 2):=fun x=>Nat.mod_mul
  by_cases c:fn5 m i % 2 ^ (k+1)=j % 2 ^ (k+1)
  ·exact⟨m,by omega,c⟩
  ·refine⟨m+2 ^ k,by omega,?_⟩
   rw[zak]
   obtain⟨z,hz⟩:=zbr k (fn5 m i)
   rw[hz]
   generalize fn5 m i=a at e c ⊢
   rw[p,two a,two j,e]at c
   rw[p,two (a+2 ^ k * (2 * z+1)),two j,Nat.add_mul_mod_self_left,e,Nat.add_mul_div_left _ _ t0]
   have a2:=Nat.mod_lt (a / 2 ^ k) (show 0<2 by decide)
   have j2:=Nat.mod_lt (j / 2 ^ k) (show 0<2 by decide)
   have ne:a / 2 ^ k % 2≠j / 2 ^ k % 2:=fun h=>c (by rw[h])
   have:(a / 2 ^ k+(2 * z+1)) % 2=j / 2 ^ k % 2:=by omega
   rw[this]
theorem zaa {mask:Nat}:∀(m i:Nat),i<=mask->itr mask m i 0=fn5 m i % (mask+1)
 |0,i,h=>by
  show i=i % (mask+1)
  rw[Nat.mod_eq_of_lt (Nat.lt_succ_of_le h)]
 |m+1,i,h=>by
  show itr mask m ((i * 5+1+0 / 32) % (mask+1)) (0 / 32)=fn5 m (5 * i+1) % (mask+1)
  rw[Nat.zero_div,Nat.add_zero,zaa m _ (Nat.le_of_lt_succ (Nat.mod_lt _ (Nat.succ_pos _))),Nat.mul_comm i 5]
  have key:∀(m x:Nat),fn5 m (x % (mask+1)) % (mask+1)=fn5 m x % (mask+1):=fun m=>by
   induction m with
   |zero=>intro x;exact Nat.mod_mod _ _
   |succ m ih=>
    intro x
    show fn5 m (5 * (x % (mask+1))+1) % (mask+1)=fn5 m (5 * x+1) % (mask+1)
    rw[<- ih (5 * (x % (mask+1))+1),<- ih (5 * x+1)]
    congr 2
    rw[Nat.add_mod,Nat.mul_mod,Nat.mod_mod,<- Nat.mul_mod,<- Nat.add_mod]
  exact key m _
theorem zcH {mask k:Nat}(ek:mask+1=2 ^ k) {i j:Nat}(hi:i<=mask) (hj:j<=mask):∃m,m<=mask/\itr mask m i 0=j:=by
 obtain⟨m,hm,e⟩:=zaj k i j
 refine⟨m,by omega,?_⟩
 rw[zaa m i hi,ek,e,<- ek,Nat.mod_eq_of_lt (Nat.lt_succ_of_le hj)]
theorem zbp {mask:Nat}{ow:Array (Option Nat)}(hm:∃k,mask+1=2 ^ k) {j:Nat}(hj:j<=mask) (hn:(ow.getD j (some 0)).isNone=true) {i p:Nat}(hi:i<=mask) (hp:p<2 ^ 64):
 ∃k,SetTable.layClean.free mask ow (SetTable.turns mask) i p=some k:=by
 cases e:SetTable.layClean.free mask ow (SetTable.turns mask) i p with
 |some k=>exact⟨k,rfl⟩
 |none=>
  exfalso
  have key:=z7e _ _ _ hi e
  have l:=zbN (mask:=mask) 13 i p hi
  obtain⟨k,ek⟩:=hm
  obtain⟨m,h1,h2⟩:=zcH ek l hj
  have:=key (13+m) (by unfold SetTable.turns;omega)
  rw[zab,Nat.div_eq_of_lt (Nat.lt_trans hp (by decide)),h2,hn]at this
  cases this
theorem zaC {mask:Nat}(hm:∃k,mask+1=2 ^ k) (hs:Array Int) (hl:hs.size<=mask):∃ow:Array (Option Nat),SetTable.layClean mask hs=some ow/\ow.size=mask+1/\(ow.toList.filterMap id).Perm (List.range hs.size):=by
 unfold SetTable.layClean
 rw[<- Array.foldl_toList]
 have key:∀(l:List Int) (ow:Array (Option Nat)) (k:Nat),ow.size=mask+1->(ow.toList.filterMap id).Perm (List.range k)->k+l.length<=mask->
  ∃ow',(l.foldl (fun(acc:Option (Array (Option Nat)×Nat)) h=>do
   let (owner,k) <- acc
   let j <- SetTable.layClean.free mask owner (SetTable.turns mask) (SetTable.bits h % (mask+1)) (SetTable.bits h)
   pure (owner.setIfInBounds j (some k),k+1)) (some (ow,k)))=some (ow',k+l.length)/\ow'.size=mask+1/\(ow'.toList.filterMap id).Perm (List.range (k+l.length)):=by
  intro l
  induction l with
  |nil=>intro ow k h1 h2 h3;exact⟨ow,rfl,h1,h2⟩
  |cons h l ih=>
   intro ow k h1 h2 h3
   rw[qI]at h3
   have len:=h2.length_eq
   rw[List.length_range]at len
   obtain⟨j,hj⟩:=zal ow.toList (by rw[len,Array.length_toList,h1];omega)
   have jl:j<ow.size:=by
    have:=(qi.mp hj).1
    rwa [Array.length_toList]at this
   have gn:∀j,(ow.getD j (some 0)).isNone=true↔ow.toList[j]?=some none:=fun j=>by
    rw[Array.getElem?_toList,Array.getD_eq_getD_getElem?]
    cases ow[j]? with
    |none=>simp
    |some y=>cases y<;>simp
   have bl:SetTable.bits h<2 ^ 64:=by
    unfold SetTable.bits
    omega
   obtain⟨q,hq⟩:=zbp (ow:=ow) hm (j:=j) (by omega) ((gn j).mpr hj) (i:=SetTable.bits h % (mask+1)) (p:=SetTable.bits h) (Nat.le_of_lt_succ (Nat.mod_lt _ (Nat.succ_pos _))) bl
   have hq':=(gn q).mp (zai _ _ _ _ hq)
   have:=ih (ow.setIfInBounds q (some k)) (k+1) (by simpa using h1) (by
    rw[Array.toList_setIfInBounds,List.range_succ]
    refine(zbP _ _ _ hq').trans ?_
    refine(h2.cons k).trans ?_
    exact(List.perm_append_comm (l₁:=[k]) (l₂:=List.range k))) (by omega)
   obtain⟨ow',e1,e2,e3⟩:=this
   refine⟨ow',?_,e2,?_⟩
   ·rw[List.foldl_cons,qI,show k+(l.length+1)=k+1+l.length by omega,<- e1]
    congr 1
    show(SetTable.layClean.free mask ow (SetTable.turns mask) (SetTable.bits h % (mask+1)) (SetTable.bits h)).bind _=_
    rw[hq]
    rfl
   ·rw[qI,show k+(l.length+1)=k+1+l.length by omega]
    exact e3
 obtain⟨ow',e1,e2,e3⟩:=key hs.toList (Array.replicate (mask+1) none) 0 (by simp) (by simp) (by simpa using hl)
 refine⟨ow',?_,e2,by simpa using e3⟩
 rw[e1]
 rfl
theorem z8x {mask:Nat}(hm:∃k,mask+1=2 ^ k) (f mv:Nat) (led pl:Bool) (hs:Array Int) (hl:hs.size<=mask):
 ∃t order,SetTable.laid mask f mv led pl hs=some (t,order)/\order.toList.Perm (List.range hs.size)/\t.mask=mask/\t.place.size=hs.size/\t.dummies=#[]/\t.led=led/\t.plain=pl:=by
 obtain⟨ow,e,sz,pm⟩:=zaC hm hs hl
 have live:((List.range (mask+1)).filterMap fun j=>(ow.getD j none).map (j,·)).map (·.2)=ow.toList.filterMap id:=by
  rw[List.map_filterMap]
  have:ow.toList=(List.range (mask+1)).map fun j=>ow.getD j none:=by
   refine List.ext_getElem (by simp[sz]) fun i h1 h2=>?_
   simp at h1
   simp[Array.getD_eq_getD_getElem?,h1]
  rw[this,List.filterMap_map]
  congr 1
  funext j
  show Option.map _ (Option.map _ (ow.getD j none))=ow.getD j none
  cases ow.getD j none<;>rfl
 have ll:((List.range (mask+1)).filterMap fun j=>(ow.getD j none).map (j,·)).length=hs.size:=by
  have:=congrArg List.length live
  rw[qb]at this
  rw[this,pm.length_eq,List.length_range]
 unfold SetTable.laid
 rw[e]
 refine⟨_,_,rfl,?_,rfl,?_,rfl,rfl,rfl⟩
 ·dsimp only
  rw[live]
  exact pm
 ·simpa using ll
theorem z8h {n:Nat}:∀(fuel i:Nat),n<2 ^ (i+fuel)->∃k,SetTable.sizeAbove.go n fuel (2 ^ i)=2 ^ k/\n<2 ^ k/\(2 ^ k<=2 ^ i\/2 ^ k<=2 * n)
 |0,i,h=>⟨i,rfl,h,.inl (qh _)⟩
 |fuel+1,i,h=>by
  unfold SetTable.sizeAbove.go
  split
  ·rename_i hc
   rw[<- Nat.pow_succ]
   obtain⟨k,e,l,u⟩:=z8h fuel (i+1) (by rw[show i+1+fuel=i+(fuel+1)by omega];exact h)
   refine⟨k,e,l,.inr ?_⟩
   have:(2:Nat) ^ (i+1)=2 ^ i * 2:=Nat.pow_succ _ _
   omega
  ·exact⟨i,rfl,by omega,.inl (qh _)⟩
theorem z9x {n:Nat}(h:n<2 ^ 60):∃k,SetTable.sizeAbove n=2 ^ k/\n<2 ^ k/\(2 ^ k<=8\/2 ^ k<=2 * n):=z8h 64 3 (Nat.lt_trans h (by decide))
section
variable {P:Program}{w:World}{A:Around}{E:Value->Shared->Prop}{s:Shared}
theorem z7j {t:SetTable}{n:Nat}(h:t.fits n=true):t.place.size=n:=by
 unfold SetTable.fits at h
 simp only[Bool.and_eq_true,beq_iff_eq]at h
 first
  |exact h.1.1.symm
  |exact h.1.1
  |exact h.1.symm
  |exact h.1
theorem z6X {a:Addr}{es:Array (Int×Value)}{ep:Nat}{t:SetTable}{ys:List Str}{wanted:Nat}{Q:Unit->Shared->Prop}(ha:s.heap.get? a=some (z0r es ep t)) (T:z0F P w es t ys) (h1:es.size<=wanted) (h2:wanted<=20000)
 (h:∀h' es' ep' t',Heap.SameBut a s.heap h'->h'.get? a=some (z0r es' ep' t')->z0F P w es' t' ys->es'.size=es.size->t'.place.size=es.size->t'.dummies=#[]->wanted<=t'.mask->(∃k,t'.mask+1=2 ^ k)->Q () { s with heap:=h' }):wpAny (model P w) A (setRelay a wanted) Q E s:=by
 have big:(100000:Nat)<=sizeLine:=by decide
 obtain⟨k,ek,lk,uk⟩:=z9x (n:=wanted) (Nat.lt_of_le_of_lt h2 (by decide))
 unfold setRelay
 refine q9 (wpAny_setState_of ha rfl T.fit ?_)
 dsimp only
 obtain⟨t1,order,e1,pm,mk,pl,dm,ld,pp⟩:=z8x (mask:=2 ^ k-1) ⟨k,by omega⟩ t.finger (t.movedTo (2 ^ k-1)) t.led t.plain (es.map (·.1)) (by rw[Array.size_map];omega)
 have e2:t.relaid (es.map (·.1)) wanted=some (t1,order):=by
  unfold SetTable.relaid
  rw[ek]
  exact e1
 rw[if_neg (by rw[ek];omega),e2]
 rw[Array.size_map]at pm pl
 have pa:=z8m es order pm
 have sz:(order.filterMap (es[·]?)).size=es.size:=by rw[<- Array.length_toList,pa.length_eq,Array.length_toList]
 refine q9 ?_
 show wpAny _ _ (if((order.filterMap (es[·]?)).size != es.size)=true then _ else _) _ _ _
 rw[if_neg (by rw[sz];simp)]
 refine q9 (qg (qg ?_))
 dsimp only
 have fw:=T.few
 refine wpAny_storeSet_of ha rfl ?_ (by rw[sz];omega)
 have fit1:t1.fits (order.filterMap (es[·]?)).size=true:=by
  unfold SetTable.fits SetTable.fill
  rw[pl,dm,sz,mk]
  simp
  omega
 refine h _ _ _ t1 (Heap.SameBut.update _ a _) (z2A (s:=s) ha) ?_ sz pl dm (by rw[mk];omega) ⟨k,by rw[mk];omega⟩
 exact⟨T.el.perm pa,(pa.map _).nodup_iff.mpr T.nd,fun k=>((pa.map _).mem_iff).trans (T.mem k),by rw[sz];exact T.few,fit1,ld.trans T.led,fun z=>pp.trans (T.pl (by omega))⟩
theorem z8Y {a:Addr}{n:Nat}{Q:Unit->Shared->Prop}(ha:s.heap.get? a=some (z6S w)) (few:n<=5000)
 (h:∀h1 ep1 t1,Heap.SameBut a s.heap h1->h1.get? a=some (z0r #[] ep1 t1)->t1.place=#[]->t1.dummies=#[]->(∃k,t1.mask+1=2 ^ k)->n<=t1.mask->t1.led=(!w.params.followText "set-order")->Q () { s with heap:=h1 }):
 wpAny (model P w) A (setRoomFor a n) Q E s:=by
 have T0:z0F P w #[] (SetTable.fresh 0 0 (!w.params.followText "set-order")) []:=ze2
 unfold setRoomFor
 refine q9 (wpAny_setState_of ha rfl T0.fit ?_)
 dsimp only
 have hr:(SetTable.fresh 0 0 (!w.params.followText "set-order")).roomFor n=if n * 5 >= 21 then some (n * 2)else none:=by
  unfold SetTable.roomFor SetTable.fresh SetTable.fill
  simp
 rw[hr]
 by_cases hn:n * 5 >= 21
 ·rw[if_pos hn]
  refine z6X (wanted:=n * 2) ha T0 (qA _) (by omega) fun h' es' ep' t' sb g T' z pz dm wm pw=>?_
  obtain rfl:es'=#[]:=Array.eq_empty_of_size_eq_zero z
  exact h h' ep' t' sb g (Array.eq_empty_of_size_eq_zero pz) dm pw (by omega) T'.led
 ·rw[if_neg hn]
  exact qg (h s.heap 0 _ (Heap.SameBut.refl a s.heap) ha rfl rfl ⟨3,rfl⟩ (by show n<=7;omega) rfl)
theorem z55 {a o:Addr}{es:Array (Int×Value)}{ep:Nat}{t:SetTable}{zs:List Str}{each:Sem Unit}{Q:Unit->Shared->Prop}(ne:a≠o) (ha:s.heap.get? a=some (z6S w)) (ho:s.heap.get? o=some (z0r es ep t)) (T:z0F P w es t zs) (few:es.size<=5000)
 (h:∀h' es' ep' t',Heap.SameBut a s.heap h'->h'.get? a=some (z0r es' ep' t')->z0F P w es' t' zs->(es.size=0->h'=s.heap)->Q () { s with heap:=h' }):wpAny (model P w) A (setMerge a o each) Q E s:=by
 have T0:z0F P w #[] (SetTable.fresh 0 0 (!w.params.followText "set-order")) []:=ze2
 unfold setMerge
 rw[if_neg (by simpa using ne)]
 refine q9 (wpAny_setState_of ho rfl T.fit ?_)
 dsimp only
 by_cases h0:es.isEmpty=true
 ·rw[if_pos h0]
  have e0:es=#[]:=by simpa using h0
  subst e0
  exact qg (h s.heap #[] 0 _ (Heap.SameBut.refl a s.heap) ha ⟨T0.el,T0.nd,T.mem,T0.few,T0.fit,T0.led,T0.pl⟩ fun _=>rfl)
 ·rw[if_neg h0]
  have pos:0<es.size:=by
   rcases Nat.eq_zero_or_pos es.size with z|z
   ·exact absurd (by simpa using z) h0
   ·exact z
  have tpl:=T.pl pos
  have h1z:∀h':Heap,es.size=0->h'=s.heap:=fun _ z=>absurd z (Nat.ne_of_gt pos)
  refine q9 (z8Y ha few fun h1 ep1 t1 sb g1 p1 d1 mk le l1=>?_)
  have f1:t1.fits (#[]:Array (Int×Value)).size=true:=by
   unfold SetTable.fits SetTable.fill
   rw[p1,d1]
   simp
  refine q9 (wpAny_setState_of (s:={ s with heap:=h1 }) g1 rfl f1 ?_)
  dsimp only
  have fz:¬ (t1.fill != 0)=true:=by
   unfold SetTable.fill
   rw[p1,d1]
   decide
  have ll:(t1.led && t.led)=t.led:=by
   rw[l1,T.led]
   simp
  have pp:(t1.plain && t.plain)=false:=by
   rw[tpl]
   simp
  unfold SetTable.road
  rw[if_neg fz]
  by_cases hr:(t1.mask == t.mask && t.dummies.isEmpty)=true
  ·rw[if_pos hr]
   dsimp only
   refine wpAny_storeSet_of (s:={ s with heap:=h1 }) g1 rfl ?_ (qG few (by decide))
   refine h _ es _ _ (sb.trans (Heap.SameBut.update _ a _)) (z2A (s:={ s with heap:=h1 }) g1) (z8c T (.refl _) ?_ ll pp) (h1z _)
   exact T.fit
  ·rw[if_neg hr]
   dsimp only
   obtain⟨t2,order,e1,pm,mk2,pl,dm,ld,pl2⟩:=z8x mk t1.finger t1.moves (t1.led && t.led) (t1.plain && t.plain) (es.map (·.1)) (by simpa using le)
   rw[Array.size_map]at pm pl
   have pa:=z8m es order pm
   have sz:(order.filterMap (es[·]?)).size=es.size:=by rw[<- Array.length_toList,pa.length_eq,Array.length_toList]
   rw[e1]
   refine q9 ?_
   show wpAny _ _ (if((order.filterMap (es[·]?)).size != es.size)=true then _ else _) _ _ _
   rw[if_neg (by rw[sz];simp)]
   refine q9 (qg (qg ?_))
   dsimp only
   refine wpAny_storeSet_of (s:={ s with heap:=h1 }) g1 rfl ?_ (by rw[sz];exact qG few (by decide))
   refine h _ _ _ _ (sb.trans (Heap.SameBut.update _ a _)) (z2A (s:={ s with heap:=h1 }) g1) (z8c T pa ?_ (ld.trans ll) (pl2.trans pp)) (h1z _)
   unfold SetTable.fits SetTable.fill
   rw[pl,dm,sz,mk2]
   simpa using le
theorem z9E {a:Addr}{es:Array (Int×Value)}{ep n:Nat}{t:SetTable}{ys:List Str}{Q:Unit->Shared->Prop}(ha:s.heap.get? a=some (z0r es ep t)) (T:z0F P w es t ys) (few:es.size+n<=10000)
 (h:∀h' es' ep' t',Heap.SameBut a s.heap h'->h'.get? a=some (z0r es' ep' t')->z0F P w es' t' ys->es'.size=es.size->Q () { s with heap:=h' }):wpAny (model P w) A (setRoomFor a n) Q E s:=by
 have pz:=z7j T.fit
 unfold setRoomFor
 refine q9 (wpAny_setState_of ha rfl T.fit ?_)
 dsimp only
 unfold SetTable.roomFor
 by_cases hn:(t.fill+n) * 5 >= t.mask * 3
 ·rw[if_pos hn]
  exact z6X ha T (by rw[pz];omega) (by rw[pz];omega) fun h' es' ep' t' sb g T' z _ _ _ _=>h h' es' ep' t' sb g T' z
 ·rw[if_neg hn]
  exact qg (h s.heap es ep t (Heap.SameBut.refl a s.heap) ha T rfl)
theorem z9h {a r:Addr}{es er':Array (Int×Value)}{ep epr:Nat}{t tr:SetTable}{ys zs:List Str}{Q:Array (Int×Value)->Shared->Prop}(hs:s.heap.get? a=some (z0r es ep t)) (T:z0F P w es t ys)
 (hr:s.heap.get? r=some (z0r er' epr tr)) (Tr:z0F P w er' tr zs) (er0:0<er'.size)
 (h:∀arr h' d ep2 t2,arr.toList.Perm es.toList->Heap.SameBut r s.heap h'->h'.get? r=some (z0r er' ep2 t2)->z0F P w er' t2 zs->Q arr { s with heap:=h',drawn:=d }):wpAny (model P w) A (setWalkUnseen a [r] (some r)) Q E s:=by
 have old:∀arr d,arr.toList.Perm es.toList->Q arr { s with drawn:=d }:=fun arr d hp=>h arr s.heap d epr tr hp (Heap.SameBut.refl r s.heap) hr Tr
 have fw:=Tr.few
 unfold setWalkUnseen
 refine q9 (wpAny_setState_of hs rfl T.fit ?_)
 dsimp only
 refine q9 (z3A ?_)
 split
 ·exact z8L hs T old
 ·refine q9 (z9F (fun b hb=>?_) ?_)
  ·simp only[qB,List.not_mem_nil,or_false]at hb
   rcases hb with rfl|rfl
   ·exact⟨_,_,_,_,hs,T⟩
   ·exact⟨_,_,_,_,hr,Tr⟩
  ·simp only[Bool.not_true,Bool.false_eq_true,if_false]
   refine q9 (wpAny_rule ?_)
   refine q9 (wpAny_setState_of hr rfl Tr.fit ?_)
   dsimp only
   split
   ·refine q9 (wpAny_storeSet_of hr rfl ?_ (by
     have:scanBound<=sizeLine:=by decide
     omega))
    refine qg (h es _ s.drawn _ _ (.refl _) (Heap.SameBut.update _ r _) (z2A (s:=s) hr) ⟨Tr.el,Tr.nd,Tr.mem,Tr.few,Tr.fit,?_,fun _=>?_⟩)
    ·show(tr.led && t.led)=_
     rw[Tr.led,T.led]
     simp
    ·show(tr.plain && t.plain)=false
     rw[Tr.pl er0]
     rfl
   ·exact qg (old es s.drawn (.refl _))
theorem z92 {a o:Addr}{ea es:Array (Int×Value)}{epa ep:Nat}{ta t:SetTable}{ys zs:List Str}{each:Sem Unit}{Q:Unit->Shared->Prop}(ne:a≠o) (ha:s.heap.get? a=some (z0r ea epa ta)) (Ta:z0F P w ea ta ys) (a0:0<ea.size) (ho:s.heap.get? o=some (z0r es ep t)) (T:z0F P w es t zs) (few:ea.size<=5000) (few2:es.size<=5000) (room:ea.size+es.size+1<scanBound)
 (he:∀(s':Shared) (R:Unit->Shared->Prop),s'.heap.get? o=some (z0r es ep t)->R () s'->wpAny (model P w) A each R E s')
 (h:∀h' d es' ep' t',Heap.SameBut a s.heap h'->h'.get? a=some (z0r es' ep' t')->z0F P w es' t' (ys++zs)->Q () { s with heap:=h',drawn:=d }):wpAny (model P w) A (setMerge a o each) Q E s:=by
 unfold setMerge
 rw[if_neg (by simpa using ne)]
 refine q9 (wpAny_setState_of ho rfl T.fit ?_)
 dsimp only
 by_cases h0:es.isEmpty=true
 ·rw[if_pos h0]
  have e0:es=#[]:=by simpa using h0
  subst e0
  refine qg (h s.heap s.drawn ea epa ta (Heap.SameBut.refl a s.heap) ha ⟨Ta.el,Ta.nd,fun k=>?_,Ta.few,Ta.fit,Ta.led,Ta.pl⟩)
  rw[Ta.mem k,qk]
  have:k∉zs:=fun z=>by have:=(T.mem k).mpr z;simp at this
  simp[this]
 ·rw[if_neg h0]
  refine q9 (z9E ha Ta (by omega) fun h1 e1 ep1 t1 sb g1 T1 z1=>?_)
  refine q9 (wpAny_setState_of (s:={ s with heap:=h1 }) g1 rfl T1.fit ?_)
  dsimp only
  have pz:=z7j T1.fit
  have fz:(t1.fill != 0)=true:=by
   have:t1.fill≠0:=by
    unfold SetTable.fill
    omega
   simpa using this
  unfold SetTable.road
  rw[if_pos fz]
  dsimp only
  have ho1:h1.get? o=some (z0r es ep t):=by rw[sb.2 _ (Ne.symm ne)];exact ho
  refine q9 (z9h (s:={ s with heap:=h1 }) ho1 T g1 T1 (by omega) fun arr h2 d ep2 t2 hp sb2 g2 T2=>?_)
  refine q9 (PySem.wpAny_forIn_array' _ (fun rest _ s'=>∃h3 e3 ep3 t3 past,past++rest=arr.toList/\s'={ s with heap:=h3,drawn:=d }/\Heap.SameBut a s.heap h3/\h3.get? a=some (z0r e3 ep3 t3)/\z0F P w e3 t3 (ys++past.map fun e:Int×Value=>txt e.2)/\e3.size<=e1.size+past.length) _ ?_ ?_ arr _ ⟨h2,e1,ep2,t2,[],rfl,rfl,sb.trans sb2,g2,by simpa using T2,qh _⟩)
  ·rintro x rest b s' ⟨h3,e3,ep3,t3,past,hpa,rfl,sb3,g3,T3,le3⟩
   have xm:x∈es.toList:=hp.mem_iff.mp (by rw[<- hpa];simp)
   obtain⟨k,tk,rfl,_⟩:=z9k T xm
   have pl:past.length+(rest.length+1)=es.size:=by
    have:=congrArg List.length hpa
    rw[hp.length_eq]at this
    simpa using this
   dsimp only
   refine q9 (wpAny_holding (zaI (s:={ s with heap:=h3,drawn:=d }) g3 T3 (by omega) fun b h4 e4 ep4 t4 sb4 g4 T4 le4=>?_))
   have ho4:h4.get? o=some (z0r es ep t):=by rw[(sb3.trans sb4).2 _ (Ne.symm ne)];exact ho
   refine q9 (he _ _ ho4 ?_)
   refine q9 (wpAny_setState_of (s:={ s with heap:=h4,drawn:=d }) ho4 rfl T.fit ?_)
   simp only[bne_self_eq_false,Bool.false_eq_true,if_false]
   refine qg ⟨h4,e4,ep4,t4,past++[(hashStr w k,Value.str k tk)],by rw[<- hpa];simp,rfl,sb3.trans sb4,g4,?_,by rw[qe];show _<=_+(_+1);omega⟩
   rw[List.map_append,<- List.append_assoc]
   exact T4
  ·rintro b s' ⟨h3,e3,ep3,t3,past,hpa,rfl,sb3,g3,T3,le3⟩
   rw[qF]at hpa
   subst hpa
   refine qg (h h3 d e3 ep3 t3 sb3 g3 ⟨T3.el,T3.nd,fun k=>?_,T3.few,T3.fit,T3.led,T3.pl⟩)
   rw[T3.mem k,qk,qk,<- T.mem k]
   exact or_congr_right ((hp.map fun e:Int×Value=>txt e.2).mem_iff)
end
section
variable {P:Program}{w:World}{A:Around}{E:Value->Shared->Prop}{s:Shared}
theorem zdn {a o:Addr}{ep ep2:Nat}{t t2:SetTable}{es es2:Array (Int×Value)}{ys zs:List Str}{Q:Value->Shared->Prop}(ne:a≠o) (hs:s.heap.get? a=some (z0r es ep t)) (T:z0F P w es t ys)
 (ho:s.heap.get? o=some (z0r es2 ep2 t2)) (T2:z0F P w es2 t2 zs) (few1:es.size<=1500) (few:es2.size<=1500)
 (h:∀h' d es' ep' t',h'.get? s.heap.objs.size=some (z0r es' ep' t')->z0F P w es' t' (ys++zs)->(∀b ob,s.heap.get? b=some ob->h'.get? b=some ob)->Q (.ref s.heap.objs.size) { s with heap:=h',drawn:=d }):wpAny (model P w) A (binaryOp .BitOr (.ref a) (.ref o)) Q E s:=by
 have ta:s.TypeIs (.ref a) "set":=⟨_,hs,rfl⟩
 have to:s.TypeIs (.ref o) "set":=⟨_,ho,rfl⟩
 refine wpAny_binaryOp_same (op:=.BitOr) (T:="set") ta to F.fills_set_or F.slot_set_or (wpAny_call_entry F.slot_set_or ta zb3 ?_ (F.args_set_or_2 _ _))
 unfold Builtin.«frozenset.__or__»
 refine q9 (m:=Builtin.Frozenset.slot1 "__or__" ⟨[.ref a,.ref o],[]⟩) (qg ?_)
 dsimp only
 simp only[Bool.false_eq_true,if_false]
 refine q9 (q9 (z89 ta (z89 to ?_)))
 simp only[Bool.not_true,Bool.false_eq_true,if_false]
 refine q9 (qg ?_)
 refine q9 ?_
 refine q9 (m:=Builtin.Frozenset.copyOf a) ?_
 unfold Builtin.Frozenset.copyOf Builtin.Frozenset.baseOf
 refine q9 (q9 (wpAny_isInstance (b:=true) ta z33 (qg ?_)))
 simp only[if_true]
 refine q9 ?_
 unfold newSet
 refine q9 (z3A ?_)
 dsimp only
 refine wpAny_newObj_type ?_
 refine q9 (qg ?_)
 have ga:∀b ob,s.heap.get? b=some ob->(s.heap.push (z6S w)).get? b=some ob:=fun b ob q=>qc _ q
 have gr:(s.heap.push (z6S w)).get? s.heap.objs.size=some (z6S w):=qw _ rfl
 have na:∀b ob,s.heap.get? b=some ob->s.heap.objs.size≠b:=fun b ob q=>Nat.ne_of_gt (qy q)
 have sb0:scanBound=4096\/4000<=scanBound:=by unfold scanBound;omega
 have mm:∀e1 t1,z0F P w e1 t1 ys->e1.size=es.size:=fun e1 t1 T1=>by
  have l1:=z2T T1.nd fun x hx=>(T.mem x).mpr ((T1.mem x).mp hx)
  have l2:=z2T T.nd fun x hx=>(T1.mem x).mpr ((T.mem x).mp hx)
  rw[qb,qb,Array.length_toList,Array.length_toList]at l1 l2
  omega
 refine q9 (z55 (s:={ s with heap:=s.heap.push (z6S w) }) (na _ _ hs) gr (ga _ _ hs) T (by omega) fun h1 es1 ep1 t1 sb1 g1 T1 z1=>?_)
 have sz1:=mm es1 t1 T1
 have na2:∀b ob,s.heap.get? b=some ob->h1.get? b=some ob:=fun b ob q=>(sb1.2 _ (na b ob q).symm).trans (ga b ob q)
 refine qg ?_
 show wpAny _ _ (if((Value.ref o:Value) != .ref a)=true then _ else _) _ _ _
 rw[if_pos (by
  have:(Value.ref o == Value.ref a)=false:=by
   rw[beq_eq_false_iff_ne]
   intro z
   cases z
   exact ne rfl
  rw[bne,this]
  rfl)]
 refine q9 (qg ?_)
 refine q9 (wpAny_holding ?_)
 unfold Builtin.Frozenset.updateFrom
 refine q9 (z89 (s:={ s with heap:=h1 }) ⟨_,na2 _ _ ho,rfl⟩ ?_)
 simp only[if_true]
 refine q9 (qg ?_)
 unfold Builtin.Frozenset.merge
 refine q9 (wpAny_setEpoch_of (s:={ s with heap:=h1 }) (na2 _ _ ho) rfl T2.fit ?_)
 by_cases z:es.size=0
 ·have e1:=z1 z
  subst e1
  have y0:∀k,k∉ys:=fun k hk=>by
   have:=(T.mem k).mpr hk
   rw[Array.eq_empty_of_size_eq_zero z]at this
   simp at this
  refine z55 (s:={ s with heap:=s.heap.push (z6S w) }) (na _ _ ho) gr (ga _ _ ho) T2 (by omega) fun h2 es3 ep3 t3 sb3 g3 T3 _=>?_
  exact qg (qg ⟨_,rfl,(fun z=>by cases z),h h2 s.drawn es3 ep3 t3 g3 ⟨T3.el,T3.nd,fun k=>by rw[T3.mem k,qk];simp[y0 k],T3.few,T3.fit,T3.led,T3.pl⟩ fun b ob q=>(sb3.2 _ (na b ob q).symm).trans (ga b ob q)⟩)
 ·refine z92 (s:={ s with heap:=h1 }) (na _ _ ho) g1 T1 (by omega) (na2 _ _ ho) T2 (by omega) (by omega) (by omega) (fun s' R hs' hR=>?_) fun h2 d es3 ep3 t3 sb3 g3 T3=>?_
  ·unfold Builtin.Frozenset.unchanged
   refine q9 (wpAny_setEpoch_of hs' rfl T2.fit ?_)
   simp only[bne_self_eq_false,Bool.false_eq_true,if_false]
   exact qg hR
  ·exact qg (qg ⟨_,rfl,(fun z=>by cases z),h h2 d es3 ep3 t3 g3 T3 fun b ob q=>(sb3.2 _ (na b ob q).symm).trans (na2 b ob q)⟩)
end
end L2
namespace L2
open PySem PySem.Spec PyProof.Rows
section
variable {X:Cx}
def zf7 (P:Program) (w:World):R2:=fun x y H Q=>∃(a o:Addr) (ys zs ds fs:List Str),x=.ref a/\y=.ref o/\a≠o/\H a=some (z2H P w a ys)/\H o=some (z2H P w o zs)/\(∀k∈ys,k∈ds)/\ds.length<=1500/\(∀k∈zs,k∈fs)/\fs.length<=1500/\∀p,H p=none->Q (.ref p) (upd H p (z2H P w p (ys++zs)))
theorem zds:OpR X (binaryOp .BitOr) (zf7 X.prog X.w):=by
 intro pins s σ H x y v u Q I rx ry h
 obtain⟨a,o,ys,zs,ds,fs,rfl,rfl,ne,hA,hO,hd,hl,hf,hl2,q⟩:=h
 cases rx
 cases ry
 obtain⟨⟨es,ep,t,e1,T1⟩,_,_⟩:=I.hok a _ hA
 obtain⟨⟨es2,ep2,t2,e2,T2⟩,_,_⟩:=I.hok o _ hO
 have l1:es.size<=1500:=by
  have:=z2T T1.nd fun x hx=>hd x ((T1.mem x).mp hx)
  rw[qb,Array.length_toList]at this
  omega
 have l2:es2.size<=1500:=by
  have:=z2T T2.nd fun x hx=>hf x ((T2.mem x).mp hx)
  rw[qb,Array.length_toList]at this
  omega
 refine zdn ne e1 T1 e2 T2 l1 l2 fun h' d es' ep' t' g T' old=>?_
 have J:=I.laid (t':=s.toks) (h':=h') (a:=s.heap.objs.size) (o:=z2H X.prog X.w s.heap.objs.size (ys++zs)) old (qh _) (z2H.ok g T')
 exact⟨.ref s.heap.objs.size,_,Inv.redrawn (s:=s) J rfl rfl,rfl,q _ (I.hok.fresh (qh _))⟩
end
section
variable {P:Program}{w:World}{A:Around}{E:Value->Shared->Prop}{s:Shared}
end
section
variable {X:Cx}
end
end L2
namespace Tr
open PySem PySem.Spec PyProof.Rows L2
set_option linter.all false
structure Pf where
 ds:List z0c
 c:Option Int
def z2B (B:Bk) (d:z0c) (r:List z0c) (c:Option Int) (p:List Pf):Option (List Pf×Bk):=
 match d with
 |.rep n b=>if 0<c.getD n then some (⟨b,none⟩::⟨.rep n b::r,some (c.getD n-1)⟩::p,B)else some (⟨r,none⟩::p,B)
 |.whl x b=>if B.f x=0 then some (⟨r,none⟩::p,B)else some (⟨b,none⟩::⟨.whl x b::r,none⟩::p,B)
 |.cond x t o=>some (⟨if B.f x=0 then o else t,none⟩::⟨r,none⟩::p,B)
 |d=>(stp B d).map fun B'=>(⟨r,none⟩::p,B')
inductive z2l (m:Nat):List Pf->Bk->Nat->List Pf->Bk->Nat->Prop
 |refl {p:List Pf}{B:Bk}{k:Nat}:z2l m p B k p B k
 |pop {c:Option Int}{p p':List Pf}{B B':Bk}{k k':Nat}:z2l m p B k p' B' k'->z2l m (⟨[],c⟩::p) B k p' B' k'
 |step {d:z0c}{r:List z0c}{c:Option Int}{p p1 p':List Pf}{B B1 B':Bk}{k k':Nat}:k<m->z2B B d r c p=some (p1,B1)->z2l m p1 B1 (k+1) p' B' k'->z2l m (⟨d::r,c⟩::p) B k p' B' k'
theorem z2l.trans {m:Nat}{p p' p2:List Pf}{B B' B2:Bk}{k k' k2:Nat}(h:z2l m p B k p' B' k'):z2l m p' B' k' p2 B2 k2->z2l m p B k p2 B2 k2:=by
 induction h with
 |refl=>exact id
 |pop _ ih=>exact fun g=>.pop (ih g)
 |step h e _ ih=>exact fun g=>.step h e (ih g)
inductive z2V (m:Nat):List Pf->Bk->Nat->Prop
 |all {B:Bk}{k:Nat}:z2V m [] B k
 |spent {d:z0c}{r:List z0c}{c:Option Int}{p:List Pf}{B:Bk}{k:Nat}:m<=k->z2V m (⟨d::r,c⟩::p) B k
 |starved {d:z0c}{r:List z0c}{c:Option Int}{p:List Pf}{B:Bk}{k:Nat}:k<m->z2B B d r c p=none->z2V m (⟨d::r,c⟩::p) B k
theorem z2l.one {m:Nat}{p p1 p2:List Pf}{B B1 B2:Bk}{k k1 k2:Nat}(h:z2l m p B k p1 B1 k1):z2V m p1 B1 k1->z2l m p B k p2 B2 k2->z2V m p2 B2 k2->p1=p2/\B1=B2/\k1=k2:=by
 induction h with
 |refl=>
  intro e g e2
  cases e with
  |all=>cases g;exact⟨rfl,rfl,rfl⟩
  |spent h=>
   cases g with
   |refl=>exact⟨rfl,rfl,rfl⟩
   |step h1=>omega
  |starved h n=>
   cases g with
   |refl=>exact⟨rfl,rfl,rfl⟩
   |step h1 e1=>rw[n]at e1;cases e1
 |pop _ ih=>
  intro e g e2
  cases g with
  |refl=>cases e2
  |pop g=>exact ih e g e2
 |step h e1 _ ih=>
  intro e g e2
  cases g with
  |refl=>
   cases e2 with
   |spent h2=>omega
   |starved h2 n=>rw[n]at e1;cases e1
  |step h2 e3 g=>
   rw[e1]at e3
   cases e3
   exact ih e g e2
theorem z2l.le {m:Nat}{p p':List Pf}{B B':Bk}{k k':Nat}(h:z2l m p B k p' B' k'):k<=k':=by
 induction h with
 |refl=>exact qh _
 |pop _ ih=>exact ih
 |step _ _ _ ih=>omega
end Tr
namespace Tr
open PySem PySem.Spec PyProof.Rows L2
set_option linter.all false
def PlW (C S:List Str):z0c->Prop
 |.set x a _ b=>x∈C/\z5d C a/\z5d C b
 |.put s x=>s∈S/\x∈C
 |.get s x=>s∈S/\x∈C
 |.give x=>x∈C
 |.cond x _ _=>x∈C
 |.whl x _=>x∈C
 |.rep n _=>0<=n/\n<=1000
theorem z9s {B B':Bk}{n:Nat}{d:z0c}{C S:List Str}(h:z4v B n) (hd:PlW C S d) (e:stp B d=some B'):z4v B' (n+1):=by
 cases d with
 |set x a sg b=>
  cases e
  refine⟨fun z=>?_,h.wh,h.le,fun s=>Nat.le_succ_of_le (h.ql s),Nat.le_succ_of_le h.ol⟩
  show OnW (z6B B.f x _ z)
  unfold z6B
  split
  ·exact zap (z5Q h.on hd.2.1) (z5Q h.on hd.2.2)
  ·exact h.on z
 |put s x=>exact z9t h (.put hd.1 hd.2) e
 |get s x=>exact z9t h (.get hd.1 hd.2) e
 |give x=>exact z9t (C:=C) (S:=S) h (.give hd) e
 |cond x t o=>cases e
 |whl x b=>cases e
 |rep k b=>cases e
def z1W (C S:List Str) (ds:List z0c):Prop:=∀d∈z0k ds,PlW C S d
def z3T (C S:List Str) (p:List Pf):Prop:=∀x∈p,z1W C S x.ds
theorem z1W.head {C S:List Str}{d:z0c}{r:List z0c}(h:z1W C S (d::r)):PlW C S d/\z1W C S r/\∀b∈d.inner,z1W C S b:=by
 have hf:z0k (d::r)=d.flat++z0k r:=by rw[z0k]
 refine⟨h d ?_,fun e he=>h e ?_,fun b hb e he=>h e ?_⟩
 ·rw[hf,z1V]
  exact qk.mpr (.inl qv)
 ·rw[hf]
  exact qk.mpr (.inr he)
 ·rw[hf,z1V]
  exact qk.mpr (.inl (qt _ (List.mem_flatMap.mpr ⟨b,hb,he⟩)))
theorem z4v.up {B:Bk}{n:Nat}(h:z4v B n):z4v B (n+1):=⟨h.on,h.wh,h.le,fun s=>Nat.le_succ_of_le (h.ql s),Nat.le_succ_of_le h.ol⟩
theorem z3T.cons {C S:List Str}{x:Pf}{p:List Pf}(h:z1W C S x.ds) (hp:z3T C S p):z3T C S (x::p):=fun y hy=>by
 rcases qB.mp hy with rfl|hy
 ·exact h
 ·exact hp y hy
theorem z4z {C S:List Str}{B B1:Bk}{n:Nat}{d:z0c}{r:List z0c}{c:Option Int}{p p1:List Pf}(h:z3T C S (⟨d::r,c⟩::p)) (hb:z4v B n) (e:z2B B d r c p=some (p1,B1)):z3T C S p1/\z4v B1 (n+1):=by
 have hd:z1W C S (d::r):=h _ qv
 have hp:z3T C S p:=fun y hy=>h y (qt _ hy)
 obtain⟨h1,h2,h3⟩:=hd.head
 have plain:∀B',stp B d=some B'->z3T C S (⟨r,none⟩::p)/\z4v B' (n+1):=fun B' q=>⟨.cons h2 hp,z9s hb h1 q⟩
 cases d with
 |rep k b=>
  unfold z2B at e
  dsimp only at e
  split at e
  ·cases e
   exact⟨.cons (h3 b (by simp[z0c.inner])) (.cons hd hp),hb.up⟩
  ·cases e
   exact⟨.cons h2 hp,hb.up⟩
 |whl x b=>
  unfold z2B at e
  dsimp only at e
  split at e
  ·cases e
   exact⟨.cons h2 hp,hb.up⟩
  ·cases e
   exact⟨.cons (h3 b (by simp[z0c.inner])) (.cons hd hp),hb.up⟩
 |cond x t o=>
  cases e
  refine⟨.cons ?_ (.cons h2 hp),hb.up⟩
  show z1W C S (if B.f x=0 then o else t)
  split
  ·exact h3 o (by simp[z0c.inner])
  ·exact h3 t (by simp[z0c.inner])
 |set x a sg b=>
  obtain⟨B',q,z⟩:=Option.map_eq_some_iff.mp (show(stp B (.set x a sg b)).map _=_ from e)
  cases z
  exact plain _ q
 |put s x=>
  obtain⟨B',q,z⟩:=Option.map_eq_some_iff.mp (show(stp B (.put s x)).map _=_ from e)
  cases z
  exact plain _ q
 |get s x=>
  obtain⟨B',q,z⟩:=Option.map_eq_some_iff.mp (show(stp B (.get s x)).map _=_ from e)
  cases z
  exact plain _ q
 |give x=>
  obtain⟨B',q,z⟩:=Option.map_eq_some_iff.mp (show(stp B (.give x)).map _=_ from e)
  cases z
  exact plain _ q
theorem z2l.ok {C S:List Str}{m:Nat}{p p':List Pf}{B B':Bk}{k k':Nat}(h:z2l m p B k p' B' k'):z3T C S p->z4v B k->z3T C S p'/\z4v B' k':=by
 induction h with
 |refl=>exact fun h1 h2=>⟨h1,h2⟩
 |pop _ ih=>exact fun h1 h2=>ih (fun y hy=>h1 y (qt _ hy)) h2
 |step _ e _ ih=>exact fun h1 h2=>ih (z4z h1 h2 e).1 (z4z h1 h2 e).2
theorem z2l.most {m:Nat}{p p':List Pf}{B B':Bk}{k k':Nat}(h:z2l m p B k p' B' k'):k<=m->k'<=m:=by
 induction h with
 |refl=>exact id
 |pop _ ih=>exact ih
 |step h _ _ ih=>exact fun _=>ih h
end Tr
namespace Tr
open PySem PySem.Spec PyProof.Rows L2
set_option linter.all false
structure ZC (Hb H0 H:Hp) (own:List Addr) (z:List Fz):Prop where
 hb:z0f Hb H0
 h0:z0f H0 H
 fz:∀m∈own++z.flatMap Fz.muts,H0 m=none
 nd:(own++z.flatMap Fz.muts).Nodup
 ol:∀m∈own,∃vs,H m=some (.lst vs)
 zr:ZR H0 H z []
section
variable {Hb H0 H0' H H' H1:Hp}{own:List Addr}{z:List Fz}
theorem ZC.hbH (Z:ZC Hb H0 H own z):z0f Hb H:=Z.hb.trans Z.h0
theorem ZC.top (Z:ZC Hb H0 H own z):∃x r vs,z=x::r/\H x.c=some (.lst vs)/\RDs H0 vs x.f.ds:=by
 have:=Z.zr
 match z,this with
 |x::r,⟨⟨vs,h1,h2⟩,_⟩=>exact⟨x,r,vs,rfl,by simpa using h1,h2⟩
theorem ZC.lsts (Z:ZC Hb H0 H own z):∀m∈own++z.flatMap Fz.muts,∃vs,H m=some (.lst vs):=fun m hm=>by
 rcases qk.mp hm with h|h
 ·exact Z.ol m h
 ·exact Z.zr.lsts m h
theorem ZC.ndz (Z:ZC Hb H0 H own z):(z.flatMap Fz.muts).Nodup:=(List.nodup_append.mp Z.nd).2.1
theorem ZC.off (Z:ZC Hb H0 H own z) {m:Addr}(h:m∈z.flatMap Fz.muts):m∉own:=fun ho=>(List.nodup_append.mp Z.nd).2.2 m ho m h rfl
theorem ZC.tup (Z:ZC Hb H0 H own z) {p:Addr}{xs:List V}(h:H p=some (.tup xs)):p∉own:=fun ho=>by
 obtain⟨vs,hv⟩:=Z.ol p ho
 rw[h]at hv
 cases hv
theorem ZC.same (Z:ZC Hb H0 H own z) (e:z0f H H1):ZC Hb H0 H1 own z where
 hb:=Z.hb
 h0:=Z.h0.trans e
 fz:=Z.fz
 nd:=Z.nd
 ol:=fun m hm=>by obtain⟨vs,h⟩:=Z.ol m hm;exact⟨vs,e _ _ h⟩
 zr:=Z.zr.frame (fun m hm=>by obtain⟨vs,h⟩:=Z.zr.lsts m hm;rw[h];exact e _ _ h) fun p xs h=>e _ _ h
theorem ZC.push {x:Fz}{r:List Fz}{vs xs:List V}{p:Addr}{d:z0c}(Z:ZC Hb H0 H own (x::r)) (hc:H x.c=some (.lst vs)) (hp:H p=some (.tup xs)) (hp0:H0 p=none) (hd:RD (upd H0 p (.tup xs)) (.ref p) d):
 ZC Hb (upd H0 p (.tup xs)) (upd H x.c (.lst (vs++[.ref p]))) own ({ x with f:=x.f.add d }::r):=by
 have pc:=z1J hp hc
 have cz:H0 x.c=none:=Z.fz _ (qP _ z2i)
 have g:z0f H0 (upd H0 p (.tup xs)):=z0f.new hp0 _
 have rest:=(Z.zr.rest (o:=.lst (vs++[.ref p])) Z.ndz hc)
 refine{ hb:=Z.hb.trans g,h0:=?_,fz:=?_,nd:=Z.nd,ol:=?_,zr:=?_ }
 ·intro b u q
  by_cases e:b=p
  ·subst e
   rw[z01]at q
   cases q
   rw[z06 pc]
   exact hp
  ·rw[z06 e]at q
   rw[z06 (z0t q cz)]
   exact Z.h0 _ _ q
 ·intro m hm
  obtain⟨ws,hw⟩:=Z.lsts m hm
  rw[z06 (Ne.symm (z1J hp hw))]
  exact Z.fz m hm
 ·intro m hm
  have hn:m≠x.c:=fun e=>Z.off z2i (e▸hm)
  rw[z06 hn]
  exact Z.ol m hm
 ·obtain⟨⟨vs',h1,h2⟩,_,_⟩:=Z.zr
  rw[qF,hc]at h1
  cases h1
  refine⟨⟨vs++[.ref p],by rw[qF];exact z01,(h2.same g).app (.cons hd .nil)⟩,?_,?_⟩
  ·have q:=rest.1
   unfold Fz.side at q ⊢
   dsimp only[Fr.add]
   revert q
   cases x.f.op<;>intro q<;>first|exact q|exact RL.same g q
  ·rcases rest.2 with h4|⟨h4,h5,h6⟩
   ·exact .inl h4
   ·exact .inr ⟨h4,h5,h6.grow g⟩
theorem ZC.opened {x y:Fz}{r:List Fz}{vs vy:List V}(Z:ZC Hb H0 H own (x::r)) (hc:H x.c=some (.lst vs)) (g:z0f H0 H0') (g':z0f H0' H') (hf:∀m∈own++(x::r).flatMap Fz.muts,H0' m=none)
 (k:∀b u,b≠x.c->b∉own->H b=some u->H' b=some u) (ol:∀m∈own,∃vs,H' m=some (.lst vs)) (nm:∀m∈y.muts,H0' m=none/\m∉own++(x::r).flatMap Fz.muts) (ny:y.muts.Nodup)
 (hy:H' y.c=some (.lst vy)) (hds:RDs H0' vy y.f.ds) (hs:y.side H0' H') (hp:H' y.p=some (.tup y.tupV)) (hop:y.f.op≠.root) (kc:H' x.c=some (.lst (vs++[.ref y.p]))):ZC Hb H0' H' own (y::x::r):=by
 have am:own++(y::x::r).flatMap Fz.muts=own++(y.muts++(x::r).flatMap Fz.muts):=by rw[qM]
 have oth:∀m,m∈(x::r).flatMap Fz.muts->m≠x.c->H' m=H m:=fun m hm hmc=>by
  obtain⟨ws,hw⟩:=Z.zr.lsts m hm
  rw[hw]
  exact k m _ hmc (Z.off hm) hw
 have tp:∀p xs,H p=some (.tup xs)->H' p=some (.tup xs):=fun p xs h=>k p _ (z1J h hc) (Z.tup h) h
 refine{ hb:=Z.hb.trans g,h0:=g',fz:=?_,nd:=?_,ol:=ol,zr:=?_ }
 ·intro m hm
  rw[am,qk,qk]at hm
  rcases hm with hm|hm|hm
  ·exact hf m (List.mem_append_left _ hm)
  ·exact(nm m hm).1
  ·exact hf m (qP _ hm)
 ·have a:=List.nodup_append.mp Z.nd
  rw[am,List.nodup_append,List.nodup_append]
  refine⟨a.1,⟨ny,a.2.1,fun m hm b hb e=>(nm m hm).2 (e▸qP _ hb)⟩,fun m hm b hb=>?_⟩
  rcases qk.mp hb with hb|hb
  ·exact fun e=>(nm b hb).2 (e▸List.mem_append_left _ hm)
  ·exact a.2.2 m hm b hb
 ·obtain⟨⟨vs',h1,h2⟩,h3,h4⟩:=Z.zr
  rw[qF,hc]at h1
  cases h1
  refine⟨⟨vy,by rw[qF];exact hy,hds⟩,hs,.inr ⟨hop,hp,⟨vs,kc,h2.same g⟩,?_,?_⟩⟩
  ·unfold Fz.side at h3 ⊢
   cases q:x.f.op with
   |ifT n=>
    rw[q]at h3
    have se:=z9A Z.ndz q
    show H' x.e=some (.lst [])
    rw[oth x.e (by rw[qM];exact List.mem_append_left _ se.2.1) se.1]
    exact h3
   |ifO n t=>rw[q]at h3;exact RL.same g h3
   |root=>trivial
   |whl n=>trivial
   |rep n=>trivial
  ·rcases h4 with h4|⟨h4,h5,h6⟩
   ·exact .inl h4
   ·exact .inr ⟨h4,tp _ _ h5,(h6.frame (fun m hm=>oth m (z54 hm) (zbU Z.ndz hm)) tp).grow g⟩
theorem ZC.elsed {x:Fz}{r:List Fz}{vs:List V}{n:Str}{t:Int}(Z:ZC Hb H0 H own (x::r)) (q:x.f.op=.ifT n) (hc:H x.c=some (.lst vs))
 (k:∀b u,b∉own->H b=some u->H' b=some u) (ol:∀m∈own,∃vs,H' m=some (.lst vs)):
 ZC Hb (upd H0 x.c (.lst vs)) H' own (⟨{ x.f with op:=.ifO n x.f.ds,ds:=[],times:=t },x.e,x.p,x.c⟩::r):=by
 have se:=z9A Z.ndz q
 have em:x.e∈(x::r).flatMap Fz.muts:=by rw[qM];exact List.mem_append_left _ se.2.1
 have g:z0f H0 (upd H0 x.c (.lst vs)):=z0f.new (Z.fz _ (qP _ z2i)) _
 have mx:x.muts=[x.c,x.e]:=by unfold Fz.muts;rw[q]
 have tp:∀p xs,H p=some (.tup xs)->H' p=some (.tup xs):=fun p xs h=>k p _ (Z.tup h) h
 have oth:∀m,m∈(x::r).flatMap Fz.muts->H' m=H m:=fun m hm=>by
  obtain⟨ws,hw⟩:=Z.zr.lsts m hm
  rw[hw]
  exact k m _ (Z.off hm) hw
 obtain⟨⟨vs',h1,h2⟩,h3,h4⟩:=Z.zr
 rw[qF,hc]at h1
 cases h1
 unfold Fz.side at h3
 rw[q]at h3
 have mz:(⟨{ x.f with op:=.ifO n x.f.ds,ds:=[],times:=t },x.e,x.p,x.c⟩::r:List Fz).flatMap Fz.muts=x.e::r.flatMap Fz.muts:=by rw[qM];rfl
 have m0:(x::r).flatMap Fz.muts=x.c::x.e::r.flatMap Fz.muts:=by rw[qM,mx];rfl
 have nd:=Z.nd
 rw[m0,List.nodup_append]at nd
 obtain⟨n1,n2,n3⟩:=nd
 rw[List.nodup_cons]at n2
 have sub:∀m,m∈own++x.e::r.flatMap Fz.muts->m∈own++(x::r).flatMap Fz.muts/\m≠x.c:=fun m hm=>by
  rw[m0]
  rcases qk.mp hm with h|h
  ·exact⟨List.mem_append_left _ h,n3 m h x.c qv⟩
  ·exact⟨qP _ (qt _ h),fun e=>n2.1 (e▸h)⟩
 refine{ hb:=Z.hb.trans g,h0:=?_,fz:=?_,nd:=?_,ol:=ol,zr:=?_ }
 ·intro b u hb
  by_cases e:b=x.c
  ·subst e
   rw[z01]at hb
   cases hb
   exact k _ _ (Z.off z2i) hc
  ·rw[z06 e]at hb
   exact k _ _ (fun ho=>by rw[Z.fz b (List.mem_append_left _ ho)]at hb;cases hb) (Z.h0 _ _ hb)
 ·intro m hm
  rw[mz]at hm
  rw[z06 (sub m hm).2]
  exact Z.fz m (sub m hm).1
 ·rw[mz,List.nodup_append]
  exact⟨n1,n2.2,fun m hm b hb=>n3 m hm b (qt _ hb)⟩
 ·refine⟨⟨[],?_,.nil⟩,.mk z01 (h2.same g),?_⟩
  ·show H' x.e=some (.lst ([]++[]))
   rw[oth x.e em]
   exact h3
  ·rcases h4 with⟨h4,_⟩|⟨h4,h5,h6⟩
   ·rw[q]at h4;cases h4
   ·refine .inr ⟨by simp,?_,(h6.frame (fun m hm=>oth m (z54 hm)) tp).grow g⟩
    have:=tp _ _ h5
    unfold Fz.tupV at this ⊢
    rw[q]at this
    exact this
theorem ZC.closed {x g:Fz}{r:List Fz}(Z:ZC Hb H0 H own (x::g::r)) (k:∀b u,b∉own->H b=some u->H' b=some u) (ol:∀m∈own,∃vs,H' m=some (.lst vs)):
 ∃H0',ZC Hb H0' H' own ({ g with f:=g.f.add x.f.deed }::r):=by
 obtain⟨⟨vs,h1,h2⟩,h3,h4⟩:=Z.zr
 rw[qF]at h1
 rcases h4 with⟨_,h4⟩|⟨h4,h5,h6⟩
 ·cases h4
 have tp:∀p xs,H p=some (.tup xs)->H' p=some (.tup xs):=fun p xs h=>k p _ (Z.tup h) h
 have oth:∀m,m∈(x::g::r).flatMap Fz.muts->H' m=H m:=fun m hm=>by
  obtain⟨ws,hw⟩:=Z.zr.lsts m hm
  rw[hw]
  exact k m _ (Z.off hm) hw
 have mx:∀m∈x.muts,m∈(x::g::r).flatMap Fz.muts:=fun m hm=>by rw[qM];exact List.mem_append_left _ hm
 let H0':Hp:=fun b=>if b∈x.muts\/b=x.p then H b else H0 b
 have e1:∀b,b∈x.muts\/b=x.p->H0' b=H b:=fun b hb=>if_pos hb
 have e2:∀b,¬ (b∈x.muts\/b=x.p)->H0' b=H0 b:=fun b hb=>if_neg hb
 have gr:z0f H0 H0':=fun b u hb=>by
  by_cases c:b∈x.muts\/b=x.p
  ·rw[e1 b c];exact Z.h0 _ _ hb
  ·rw[e2 b c];exact hb
 have hl:RL H0' x.c x.f.ds:=.mk ((e1 _ (.inl x.c_mem)).trans h1) (h2.same gr)
 have ht:H0' x.p=some (.tup x.tupV):=(e1 _ (.inr rfl)).trans h5
 have hd:RD H0' (.ref x.p) x.f.deed:=by
  unfold Fz.tupV at ht
  unfold Fz.side at h3
  unfold Fr.deed
  cases q:x.f.op with
  |root=>exact absurd q h4
  |ifT n=>
   rw[q]at ht h3
   exact .cond ht hl (.mk ((e1 _ (.inl (by unfold Fz.muts;rw[q];simp))).trans h3) .nil)
  |ifO n t=>
   rw[q]at ht h3
   exact .cond ht (RL.same gr h3) hl
  |whl n=>
   rw[q]at ht
   exact .whl ht hl
  |rep n=>
   rw[q]at ht
   exact .rep ht hl
 have am:own++(x::g::r).flatMap Fz.muts=own++(x.muts++(g::r).flatMap Fz.muts):=by rw[qM]
 have nd:=Z.nd
 rw[am,List.nodup_append,List.nodup_append]at nd
 obtain⟨n1,⟨n2,n3,n4⟩,n5⟩:=nd
 have up:∀m,m∈own++(g::r).flatMap Fz.muts->m∈own++(x::g::r).flatMap Fz.muts:=fun m hm=>by
  rw[am]
  rcases qk.mp hm with h|h
  ·exact List.mem_append_left _ h
  ·exact qP _ (qP _ h)
 have ex:∀m,m∈own++(g::r).flatMap Fz.muts->H0' m=none:=fun m hm=>by
  rw[e2 m ?_]
  ·exact Z.fz m (up m hm)
  ·rintro(hx|hx)
   ·rcases qk.mp hm with h|h
    ·exact n5 m h m (List.mem_append_left _ hx) rfl
    ·exact n4 m hx m h rfl
   ·obtain⟨ws,hw⟩:=Z.lsts m (up m hm)
    exact z1J h5 hw hx.symm
 refine⟨H0',{ hb:=Z.hb.trans gr,h0:=?_,fz:=ex,nd:=?_,ol:=ol,zr:=?_ }⟩
 ·intro b u hb
  by_cases c:b∈x.muts\/b=x.p
  ·rw[e1 b c]at hb
   rcases c with c|c
   ·rw[oth b (mx b c)];exact hb
   ·subst c;rw[h5]at hb;cases hb;exact tp _ _ h5
  ·rw[e2 b c]at hb
   exact k _ _ (fun ho=>by rw[Z.fz b (List.mem_append_left _ ho)]at hb;cases hb) (Z.h0 _ _ hb)
 ·show(own++(g::r).flatMap Fz.muts).Nodup
  rw[List.nodup_append]
  exact⟨n1,n3,fun m hm b hb=>n5 m hm b (qP _ hb)⟩
 ·have h7:=(h6.frame (H':=H') (fun m hm=>oth m (z54 hm)) tp).grow gr
  obtain⟨⟨ws,w1,w2⟩,w3,w4⟩:=h7
  exact⟨⟨ws++[.ref x.p],by rw[qF];exact w1,w2.app (.cons hd .nil)⟩,w3,w4⟩
theorem ZC.whole (Z:ZC Hb H0 H own z):RL H (z5K z) (wh (z.map (·.f)) []):=Z.zr.whole Z.h0 .nil
theorem ZC.begin {b:Addr}{f:Fr}(hf:f.op=.root) (hd:f.ds=[]) (nd:(own++[b]).Nodup) (hb:H b=some (.lst [])) (hn:∀m∈own++[b],H0 m=none) (hs:z0f H0 H) (ol:∀m∈own,∃vs,H m=some (.lst vs)):ZC H0 H0 H own [⟨f,b,0,0⟩]:=by
 have e:([⟨f,b,0,0⟩]:List Fz).flatMap Fz.muts=[b]:=by
  simp[Fz.muts,hf]
 refine⟨z0f.refl _,hs,by rw[e];exact hn,by rw[e];exact nd,ol,⟨[],hb,by rw[hd];exact .nil⟩,?_,.inl ⟨hf,rfl⟩⟩
 unfold Fz.side
 dsimp only
 rw[hf]
 trivial
end
end Tr
namespace Tr
open PySem PySem.Spec PyProof.Rows L2
set_option linter.all false
def z7R (c k:Int):Int:=(c % 2147483647 * 48271+(k * k+3 * k+7) * 69621) % 2147483647 * ((c % 2147483647 * 48271+(k * k+3 * k+7) * 69621) % 2147483647) % 2147483647
def zcz (c w:Int):Int:=
 if w % 5=0 then c % 1000000000000000000000000000000000000000000000000000000000000 % 3
 else if w % 5=1 then 1000000000000000000000000000000-1-c % 1000000000000000000000000000000000000000000000000000000000000 % 3
 else if w % 5=2 then c % 1000000000000000000000000000000000000000000000000000000000000 % 1000000000000000000000000000000
 else(c % 1000000000000000000000000000000000000000000000000000000000000+1) * (w * w+11) * 618970019642690137449562111 % 1000000000000000000000000000000
theorem z9W (c w:Int):OnW (zcz c w):=by
 unfold zcz
 split
 ·exact⟨by omega,by omega⟩
 split
 ·exact⟨by omega,by omega⟩
 split
 ·exact⟨by omega,by omega⟩
 ·exact⟨Int.emod_nonneg _ (by decide),Int.emod_lt_of_pos _ (by decide)⟩
def zaU (c w:Int) (zs:List Str):Val:=if w % 5<3 then .nm (nth zs (w / 5))else .num (zcz c (w / 5))
theorem z9j {zs:List Str}(h:0<zs.length) (c w:Int):z5d zs (zaU c w zs):=by
 unfold zaU
 split
 ·exact z52 h _
 ·exact z9W _ _
def z7v (c m:Int) (zs ss:List Str) (hid:Bool):z0c:=
 if m % 8=2 then .give (nth zs (m / 8))
 else if m % 8=3/\hid=false/\0<ss.length then(if m / 512 % 3=0 then .get (nth ss (m / 2048)) (nth zs (m / 8))else .put (nth ss (m / 2048)) (nth zs (m / 8)))
 else if m % 8=7 then .set (nth zs (m / 8)) (.num (m / 512 % 4)) "+" (.num 0)
 else .set (nth zs (m / 8)) (zaU c (m / 64 % 1009) zs) (z6Q (m / 57)) (zaU c (m / 4096 % 997) zs)
def opF (m:Int) (x:Str):Op:=if m % 8=4 then .ifT x else if m / 512 % 2=0 then .whl x else .rep (if m / 1024 % 16=0 then m / 16384 % 100 else m / 1024 % 4)
def odF (m:Int) (x:Str):List z0c:=if m % 8=4 then[]else if m / 512 % 2=0 then(if m / 1024 % 4=0 then[]else[.set x (.nm x) "-" (.num 1)])else[]
def z91 (m:Int) (x:Str):List z0c:=if m % 8=4 then[]else if m / 512 % 2=0 then(if m / 1024 % 4=0 then[]else[.set x (.num (m / 4096 % 4)) "+" (.num 0)])else[]
def z68 (m:Int):Int:=if m % 8=4/\m / 512 % 2=0 then 1 else 0
def z7Y (m:Int) (h:Bool):Bool:=h || !decide (¬ m % 8=4/\¬ m / 512 % 2=0)
def Fr.sec (f:Fr):Option Str:=match f.op with
 |.ifT x=>if f.times=1 then some x else none
 |_=>none
def z6J (zs ss:List Str) (st:List Fr) (k c:Int):List Fr:=match st with
 |[]=>[]
 |g::r=>
  if z7R c k % 8=6/\0<r.length then(match g.sec with
   |some x=>⟨.ifO x g.ds,[],g.shut,0⟩::r
   |none=>z4C (g::r))
  else if(z7R c k % 8=4\/z7R c k % 8=5)/\r.length<12 then
   ⟨opF (z7R c k) (nth zs (z7R c k / 8)),odF (z7R c k) (nth zs (z7R c k / 8)),z7Y (z7R c k) g.shut,z68 (z7R c k)⟩::{ g with ds:=g.ds++z91 (z7R c k) (nth zs (z7R c k / 8)) }::r
  else g.add (z7v c (z7R c k) zs ss g.shut)::r
def zcd:List Fr:=[⟨.root,[],false,0⟩]
def stN (zs ss:List Str) (cells:List Int):Nat->List Fr
 |0=>zcd
 |i+1=>z6J zs ss (stN zs ss cells i) i (cells.getD i 0)
def z87 (zs ss:List Str) (cells:List Int):List z0c:=wh (stN zs ss cells cells.length) []
def PlX (C S:List Str) (d:z0c):Prop:=PlW C S d/\match d with
 |.set _ _ sg _=>sg∈sgL
 |_=>True
def BlX (C S:List Str) (ds:List z0c):Prop:=∀d∈z0k ds,PlX C S d
theorem BlX.nil {C S:List Str}:BlX C S []:=fun d hd=>by simp[z0k]at hd
theorem BlX.app {C S:List Str}{a b:List z0c}(ha:BlX C S a) (hb:BlX C S b):BlX C S (a++b):=fun d hd=>by
 rw[z0Z,qk]at hd
 exact hd.elim (ha d) (hb d)
theorem BlX.one {C S:List Str}{d:z0c}(h:PlX C S d) (hi:∀b∈d.inner,BlX C S b):BlX C S [d]:=fun e he=>by
 rw[z0k,z0k,qF,z1V]at he
 rcases qB.mp he with rfl|he
 ·exact h
 ·obtain⟨b,hb,hm⟩:=List.mem_flatMap.mp he
  exact hi b hb e hm
def opX (C:List Str):Op->Prop
 |.root=>True
 |.ifT x|.ifO x _|.whl x=>x∈C
 |.rep n=>0<=n/\n<=1000
theorem zbS {C S:List Str}{f:Fr}(h0:f.op≠.root) (h1:opX C f.op) (h2:BlX C S f.ds) (h3:BlX C S f.op.extra):BlX C S [f.deed]:=by
 unfold Fr.deed
 cases q:f.op with
 |root=>exact absurd q h0
 |ifT x=>
  rw[q]at h1 h3
  refine .one ⟨h1,trivial⟩ fun b hb=>?_
  simp[z0c.inner]at hb
  rcases hb with rfl|rfl
  ·exact h2
  ·exact .nil
 |ifO x t=>
  rw[q]at h1 h3
  refine .one ⟨h1,trivial⟩ fun b hb=>?_
  simp[z0c.inner]at hb
  rcases hb with rfl|rfl
  ·exact h3
  ·exact h2
 |whl x=>
  rw[q]at h1
  refine .one ⟨h1,trivial⟩ fun b hb=>?_
  simp[z0c.inner]at hb
  subst hb
  exact h2
 |rep n=>
  rw[q]at h1
  refine .one ⟨h1,trivial⟩ fun b hb=>?_
  simp[z0c.inner]at hb
  subst hb
  exact h2
def SX (C S:List Str):List Fr->Prop
 |[]=>False
 |[f]=>f.op=.root/\BlX C S f.ds/\z0o f.ds<=12
 |f::g::r=>f.op≠.root/\opX C f.op/\BlX C S f.ds/\BlX C S f.op.extra/\z0o f.ds+(r.length+1)<=12/\z0o f.op.extra+(r.length+1)<=12/\SX C S (g::r)
theorem SX.more {C S:List Str}{g:Fr}{r:List Fr}{ds:List z0c}(h:SX C S (g::r)) (h1:BlX C S ds) (h2:z0o ds+r.length<=12):SX C S ({ g with ds:=g.ds++ds }::r):=by
 have hd:z0o (g.ds++ds)=max (z0o g.ds) (z0o ds):=z2k _ _
 cases r with
 |nil=>exact⟨h.1,h.2.1.app h1,by show z0o (g.ds++ds)<=12;rw[hd];have:=h.2.2;simp at h2;omega⟩
 |cons g' r'=>
  obtain⟨a1,a2,a3,a4,a5,a6,a7⟩:=h
  simp only[qI]at h2
  exact⟨a1,a2,a3.app h1,a4,by show z0o (g.ds++ds)+_<=12;rw[hd];omega,a6,a7⟩
theorem SX.close {C S:List Str}{f g:Fr}{r:List Fr}(h:SX C S (f::g::r)):SX C S (z4C (f::g::r)):=by
 obtain⟨a1,a2,a3,a4,a5,a6,a7⟩:=h
 refine a7.more (ds:=[f.deed]) (zbS a1 a2 a3 a4) ?_
 have:=z5H f
 omega
theorem zbC (g:Fr) (r:List Fr) (ds:List z0c):cnt ({ g with ds:=g.ds++ds }::r)=cnt (g::r)+(z0k ds).length:=by
 simp only[cnt,z0Z,qe]
 omega
theorem zeC {C S:List Str}:∀(st:List Fr) (dt:List z0c),SX C S st->BlX C S dt->z0o dt+(st.length-1)<=12->BlX C S (wh st dt)/\z0o (wh st dt)<=12/\(z0k (wh st dt)).length<=cnt st+(z0k dt).length
 |[],_,h,_,_=>h.elim
 |[f],dt,h,hd,hp=>by
  refine⟨h.2.1.app hd,?_,?_⟩
  ·show z0o (f.ds++dt)<=12
   rw[z2k]
   have:=h.2.2
   simp at hp
   omega
  ·show(z0k (f.ds++dt)).length<=_
   rw[z0Z,qe]
   simp only[cnt]
   omega
 |f::g::r,dt,h,hd,hp=>by
  obtain⟨a1,a2,a3,a4,a5,a6,a7⟩:=h
  have hp':z0o dt+(r.length+1)<=12:=by simpa using hp
  have e1:z0o (f.ds++dt)=max (z0o f.ds) (z0o dt):=z2k _ _
  have d1:=z5H ({ f with ds:=f.ds++dt }:Fr)
  have d2:=z8E (f:={ f with ds:=f.ds++dt }) a1
  have l1:(z0k (f.ds++dt)).length=(z0k f.ds).length+(z0k dt).length:=by rw[z0Z,qe]
  obtain⟨b1,b2,b3⟩:=zeC (g::r) [({ f with ds:=f.ds++dt }:Fr).deed] a7 (zbS (f:={ f with ds:=f.ds++dt }) a1 a2 (a3.app hd) a4) (by dsimp only at d1;rw[e1]at d1;show _+r.length<=12;omega)
  refine⟨b1,b2,qG b3 ?_⟩
  dsimp only at d2
  have ec:cnt (f::g::r)=(z0k f.ds).length+(z0k f.op.extra).length+f.op.one+cnt (g::r):=rfl
  omega
theorem z6f {C S:List Str}{x:Str}{a b:Val}{sg:Str}(hx:x∈C) (ha:z5d C a) (hs:sg∈sgL) (hb:z5d C b):PlX C S (.set x a sg b):=⟨⟨hx,ha,hb⟩,hs⟩
theorem z8g {n:Int}(h0:0<=n) (h1:n<=1000):OnW n:=⟨h0,by omega⟩
theorem zcf (i:Int):z6Q i∈sgL:=by
 rw[show sgL=z9z by decide +kernel]
 exact zb2 i
theorem zdg {zs ss:List Str}(h:0<zs.length) {c m:Int}{hid:Bool}:BlX zs ss [z7v c m zs ss hid]/\z0o [z7v c m zs ss hid]=0/\(z0k [z7v c m zs ss hid]).length=1:=by
 have hn:∀i,nth zs i∈zs:=fun i=>z52 h i
 unfold z7v
 split
 ·exact⟨.one ⟨hn _,trivial⟩ (fun b hb=>by simp[z0c.inner]at hb),rfl,rfl⟩
 split
 ·rename_i hs
  split
  ·exact⟨.one ⟨⟨z52 hs.2.2 _,hn _⟩,trivial⟩ (fun b hb=>by simp[z0c.inner]at hb),rfl,rfl⟩
  ·exact⟨.one ⟨⟨z52 hs.2.2 _,hn _⟩,trivial⟩ (fun b hb=>by simp[z0c.inner]at hb),rfl,rfl⟩
 split
 ·exact⟨.one (z6f (hn _) (show OnW _ from z8g (by omega) (by omega)) (by decide +kernel) (show OnW 0 from on0)) (fun b hb=>by simp[z0c.inner]at hb),rfl,rfl⟩
 ·exact⟨.one (z6f (hn _) (z9j h _ _) (zcf _) (z9j h _ _)) (fun b hb=>by simp[z0c.inner]at hb),rfl,rfl⟩
theorem zer {zs ss:List Str}{m:Int}{x:Str}(h:x∈zs):(BlX zs ss (odF m x)/\z0o (odF m x)=0/\(z0k (odF m x)).length<=1)/\BlX zs ss (z91 m x)/\z0o (z91 m x)=0/\(z0k (z91 m x)).length<=1:=by
 have e:BlX zs ss []/\z0o []=0/\(z0k []).length<=1:=⟨.nil,rfl,by simp[z0k]⟩
 refine⟨?_,?_⟩
 ·unfold odF
  split
  ·exact e
  split
  ·split
   ·exact e
   ·exact⟨.one (z6f h (show z5d zs (.nm x)from h) (by decide +kernel) (show OnW 1 from⟨by decide,by decide⟩)) (fun b hb=>by simp[z0c.inner]at hb),rfl,qh _⟩
  ·exact e
 ·unfold z91
  split
  ·exact e
  split
  ·split
   ·exact e
   ·exact⟨.one (z6f h (show OnW _ from z8g (by omega) (by omega)) (by decide +kernel) (show OnW 0 from on0)) (fun b hb=>by simp[z0c.inner]at hb),rfl,qh _⟩
  ·exact e
theorem zeo {zs:List Str}{m:Int}{x:Str}(h:x∈zs):opX zs (opF m x)/\opF m x≠.root/\(opF m x).extra=[]/\(opF m x).one=1:=by
 unfold opF
 split
 ·exact⟨h,by simp,rfl,rfl⟩
 split
 ·exact⟨h,by simp,rfl,rfl⟩
 ·refine⟨?_,by simp,rfl,rfl⟩
  show 0<=(if m / 1024 % 16=0 then m / 16384 % 100 else m / 1024 % 4)/\(if m / 1024 % 16=0 then m / 16384 % 100 else m / 1024 % 4)<=(1000:Int)
  split<;>exact⟨by omega,by omega⟩
theorem zbI {f:Fr}{x:Str}(h:f.sec=some x):f.op=.ifT x/\f.times=1:=by
 unfold Fr.sec at h
 split at h
 ·rename_i y q
  split at h
  ·rename_i t
   cases h
   exact⟨q,t⟩
  ·cases h
 ·cases h
theorem zcb {zs ss:List Str}(h:0<zs.length) {st:List Fr}{k c:Int}(hs:SX zs ss st) (hl:st.length<=13):SX zs ss (z6J zs ss st k c)/\(z6J zs ss st k c).length<=13/\cnt (z6J zs ss st k c)<=cnt st+3:=by
 match st,hs,hl with
 |g::r,hs,hl=>
  unfold z6J
  dsimp only
  generalize z7R c k=m
  split
  ·rename_i c6
   split
   ·rename_i x q
    obtain⟨q1,q2⟩:=zbI q
    cases r with
    |nil=>exact absurd c6.2 (by simp)
    |cons g' r'=>
     obtain⟨a1,a2,a3,a4,a5,a6,a7⟩:=hs
     rw[q1]at a2
     refine⟨⟨by simp,a2,.nil,a3,by simp[z0o];omega,a5,a7⟩,hl,?_⟩
     simp[cnt,q1,Op.extra,Op.one,z0k]
   ·cases r with
    |nil=>exact absurd c6.2 (by simp)
    |cons g' r'=>exact⟨hs.close,by simp[z4C]at hl ⊢;omega,qG (zaA hs.1) (by omega)⟩
  split
  ·rename_i co
   have hx:=z52 h (m / 8)
   generalize nth zs (m / 8)=x at hx
   obtain⟨⟨o1,o2,o3⟩,p1,p2,p3⟩:=zer (ss:=ss) (m:=m) hx
   obtain⟨f1,f2,f3,f4⟩:=zeo (m:=m) hx
   refine⟨⟨f2,f1,o1,by rw[f3];exact .nil,by rw[o2];omega,by rw[f3];simp[z0o];omega,hs.more p1 (by rw[p2];omega)⟩,by simp;omega,?_⟩
   have:=zbC g r (z91 m x)
   rw[cnt,this,f3,f4]
   have e0:(z0k ([]:List z0c)).length=0:=rfl
   dsimp only
   rw[e0]
   omega
  ·obtain⟨s1,s2,s3⟩:=zdg (ss:=ss) h (c:=c) (m:=m) (hid:=g.shut)
   refine⟨hs.more (ds:=[z7v c m zs ss g.shut]) s1 (by rw[s2];simp at hl;omega),hl,?_⟩
   rw[zaB,s3]
   omega
theorem zcc {zs ss:List Str}(h:0<zs.length) (cells:List Int):∀i:Nat,SX zs ss (stN zs ss cells i)/\(stN zs ss cells i).length<=13/\cnt (stN zs ss cells i)<=3 * i
 |0=>⟨⟨rfl,.nil,by simp[z0o]⟩,by simp[stN,zcd],by simp[stN,zcd,cnt,z0k,Op.extra,Op.one]⟩
 |i+1=>by
  obtain⟨a1,a2,a3⟩:=zcc h cells i
  obtain⟨b1,b2,b3⟩:=zcb (k:=i) (c:=cells.getD i 0) h a1 a2
  exact⟨b1,b2,by show cnt (z6J _ _ _ _ _)<=_;omega⟩
theorem zcO {zs ss:List Str}(h:0<zs.length) (cells:List Int):BlX zs ss (z87 zs ss cells)/\z0o (z87 zs ss cells)<=12/\(z0k (z87 zs ss cells)).length<=3 * cells.length:=by
 obtain⟨a1,a2,a3⟩:=zcc (ss:=ss) h cells cells.length
 obtain⟨b1,b2,b3⟩:=zeC _ [] a1 .nil (by simp[z0o];omega)
 exact⟨b1,b2,by have e:(z0k ([]:List z0c)).length=0:=rfl;unfold z87;omega⟩
end Tr
namespace Tr
open PySem PySem.Spec PyProof.Rows L2
set_option linter.all false
def Fz.oJ (x:Fz):V:=match x.f.sec with
 |some _=>.ref x.e
 |none=>.non
structure GJ (Hb H0 H:Hp) (s0 s1 s2:Addr) (z:List Fz):Prop where
 zc:ZC Hb H0 H [s0,s1,s2] z
 c0:H s0=some (.lst ((z.map fun x=>V.ref x.c).reverse))
 c1:H s1=some (.lst ((z.map Fz.oJ).reverse))
 c2:H s2=some (.lst ((z.map fun x=>V.bl x.f.shut).reverse))
section
variable {Hb H0 H0' H H' H1:Hp}{s0 s1 s2:Addr}{z:List Fz}
theorem GJ.same (G:GJ Hb H0 H s0 s1 s2 z) (e:z0f H H1):GJ Hb H0 H1 s0 s1 s2 z:=⟨G.zc.same e,e _ _ G.c0,e _ _ G.c1,e _ _ G.c2⟩
theorem GJ.ss (G:GJ Hb H0 H s0 s1 s2 z):s0≠s1/\s0≠s2/\s1≠s2:=by
 have nd:=(List.nodup_append.mp G.zc.nd).1
 simp only[List.nodup_cons,qB,List.not_mem_nil,or_false,not_or]at nd
 exact⟨nd.1.1,nd.1.2,nd.2.1⟩
theorem GJ.ne (G:GJ Hb H0 H s0 s1 s2 z) {m:Addr}(h:m∈z.flatMap Fz.muts):m≠s0/\m≠s1/\m≠s2:=by
 have:=G.zc.off h
 simp only[qB,List.not_mem_nil,or_false,not_or]at this
 exact this
theorem z8v {vs ws us:List V}(h0:H s0=some (.lst vs)) (h1:H s1=some (.lst ws)) (h2:H s2=some (.lst us)):∀m∈[s0,s1,s2],∃vs,H m=some (.lst vs):=fun m hm=>by
 simp only[qB,List.not_mem_nil,or_false]at hm
 rcases hm with rfl|rfl|rfl
 ·exact⟨_,h0⟩
 ·exact⟨_,h1⟩
 ·exact⟨_,h2⟩
theorem GJ.push {x:Fz}{r:List Fz}{vs xs:List V}{p:Addr}{d:z0c}(G:GJ Hb H0 H s0 s1 s2 (x::r)) (hc:H x.c=some (.lst vs)) (hp:H p=some (.tup xs)) (hp0:H0 p=none) (hd:RD (upd H0 p (.tup xs)) (.ref p) d):
 GJ Hb (upd H0 p (.tup xs)) (upd H x.c (.lst (vs++[.ref p]))) s0 s1 s2 ({ x with f:=x.f.add d }::r):=by
 have n:=G.ne (z2i (x:=x) (r:=r))
 exact⟨G.zc.push hc hp hp0 hd,by rw[z06 n.1.symm];exact G.c0,by rw[z06 n.2.1.symm];exact G.c1,by rw[z06 n.2.2.symm];exact G.c2⟩
theorem GJ.elsed {x:Fz}{r:List Fz}{vs:List V}{n:Str}(G:GJ Hb H0 H s0 s1 s2 (x::r)) (q:x.f.op=.ifT n) (hc:H x.c=some (.lst vs))
 (k:∀b u,b≠s0->b≠s1->H b=some u->H' b=some u) (k0:H' s0=some (.lst ((r.map fun x=>V.ref x.c).reverse++[.ref x.e]))) (k1:H' s1=some (.lst ((r.map Fz.oJ).reverse++[.non]))):
 GJ Hb (upd H0 x.c (.lst vs)) H' s0 s1 s2 (⟨⟨.ifO n x.f.ds,[],x.f.shut,0⟩,x.e,x.p,x.c⟩::r):=by
 have sn:=G.ss
 have h2:=k _ _ sn.2.1.symm sn.2.2.symm G.c2
 refine⟨G.zc.elsed (t:=0) q hc (fun b u hb h=>?_) (z8v k0 k1 h2),?_,?_,?_⟩
 ·simp only[qB,List.not_mem_nil,or_false,not_or]at hb
  exact k b u hb.1 hb.2.1 h
 ·rw[k0];simp
 ·rw[k1];simp[Fz.oJ,Fr.sec]
 ·rw[h2];simp
theorem GJ.closed {x g:Fz}{r:List Fz}(G:GJ Hb H0 H s0 s1 s2 (x::g::r)) (k:∀b u,b≠s0->b≠s1->b≠s2->H b=some u->H' b=some u) (k0:H' s0=some (.lst (((g::r).map fun x=>V.ref x.c).reverse))) (k1:H' s1=some (.lst (((g::r).map Fz.oJ).reverse))) (k2:H' s2=some (.lst (((g::r).map fun x=>V.bl x.f.shut).reverse))):
 ∃H0',GJ Hb H0' H' s0 s1 s2 ({ g with f:=g.f.add x.f.deed }::r):=by
 obtain⟨H0',Z⟩:=G.zc.closed (H':=H') (fun b u hb h=>by
  simp only[qB,List.not_mem_nil,or_false,not_or]at hb
  exact k b u hb.1 hb.2.1 hb.2.2 h) (z8v k0 k1 k2)
 exact⟨H0',Z,k0,k1,k2⟩
theorem GJ.opened {x:Fz}{r:List Fz}{vs vy:List V}{m:Int}{nm:Str}{c p e:Addr}(G:GJ Hb H0 H s0 s1 s2 (x::r)) (hx:H x.c=some (.lst vs)) (fc:H0 c=none/\c∉[s0,s1,s2]++(x::r).flatMap Fz.muts) (fe:m % 8=4->H0 e=none/\e∉[s0,s1,s2]++(x::r).flatMap Fz.muts/\e≠c/\H e=some (.lst []))
 (hc:H c=some (.lst vy)) (hp:H p=some (.tup (⟨⟨opF m nm,[],false,0⟩,c,p,e⟩:Fz).tupV)) (hv:(vy=[]/\odF m nm=[])\/∃q xs,vy=[.ref q]/\H0 q=none/\H q=some (.tup xs)/\∀H0:Hp,H0 q=some (.tup xs)->RDs H0 [.ref q] (odF m nm)):
 ∃H0',GJ Hb H0' (upd (upd (upd (upd H x.c (.lst (vs++[.ref p]))) s1 (.lst ((((x::r).map Fz.oJ).reverse)++[if z68 m=1 then .ref e else .non]))) s2 (.lst ((((x::r).map fun x=>V.bl x.f.shut).reverse)++[.bl (z7Y m x.f.shut)]))) s0 (.lst ((((x::r).map fun x=>V.ref x.c).reverse)++[.ref c]))) s0 s1 s2 (⟨⟨opF m nm,odF m nm,z7Y m x.f.shut,z68 m⟩,c,p,e⟩::x::r):=by
 obtain⟨n01,n02,n12⟩:=G.ss
 obtain⟨x0,x1,x2⟩:=G.ne (z2i (x:=x) (r:=r))
 have pt:∀{q:Addr}{xs:List V},H q=some (.tup xs)->q≠x.c/\q≠s0/\q≠s1/\q≠s2:=fun h=>⟨z1J h hx,z1J h G.c0,z1J h G.c1,z1J h G.c2⟩
 have nin:∀{d:Addr},d∉[s0,s1,s2]++(x::r).flatMap Fz.muts->d≠x.c/\d≠s0/\d≠s1/\d≠s2:=fun h=>by
  simp only[qk,qB,List.not_mem_nil,or_false,not_or]at h
  exact⟨fun z=>h.2 (z▸z2i),h.1.1,h.1.2.1,h.1.2.2⟩
 generalize hH':upd (upd (upd (upd H x.c (.lst (vs++[.ref p]))) s1 (.lst ((((x::r).map Fz.oJ).reverse)++[if z68 m=1 then .ref e else .non]))) s2 (.lst ((((x::r).map fun x=>V.bl x.f.shut).reverse)++[.bl (z7Y m x.f.shut)]))) s0 (.lst ((((x::r).map fun x=>V.ref x.c).reverse)++[.ref c]))=H'
 have off:∀b,b≠x.c->b≠s0->b≠s1->b≠s2->H' b=H b:=fun b h1 h2 h3 h4=>by rw[<- hH',z06 h2,z06 h4,z06 h3,z06 h1]
 have k0:H' s0=some (.lst ((((x::r).map fun x=>V.ref x.c).reverse)++[.ref c])):=by rw[<- hH'];exact z01
 have k2:H' s2=some (.lst ((((x::r).map fun x=>V.bl x.f.shut).reverse)++[.bl (z7Y m x.f.shut)])):=by rw[<- hH',z06 n02.symm];exact z01
 have k1:H' s1=some (.lst ((((x::r).map Fz.oJ).reverse)++[if z68 m=1 then .ref e else .non])):=by rw[<- hH',z06 n01.symm,z06 n12];exact z01
 have kx:H' x.c=some (.lst (vs++[.ref p])):=by rw[<- hH',z06 x0,z06 x2,z06 x1];exact z01
 have tp:∀{q:Addr}{xs:List V},H q=some (.tup xs)->H' q=some (.tup xs):=fun h=>by
  obtain⟨a,b,c,d⟩:=pt h
  rw[off _ a b c d]
  exact h
 have lp:∀{d:Addr}{ws:List V},d∉[s0,s1,s2]++(x::r).flatMap Fz.muts->H d=some (.lst ws)->H' d=some (.lst ws):=fun hd h=>by
  obtain⟨a,b,c,e⟩:=nin hd
  rw[off _ a b c e]
  exact h
 have same0:z0f H0 H':=fun b u hb=>by
  have nb:∀m∈[s0,s1,s2]++(x::r).flatMap Fz.muts,b≠m:=fun m hm=>z0t hb (G.zc.fz m hm)
  rw[off b (nb _ (qP _ z2i)) (nb _ (by simp)) (nb _ (by simp)) (nb _ (by simp))]
  exact G.zc.h0 _ _ hb
 obtain⟨H0',g,g',hf,fc',fe',hds⟩:∃H0',z0f H0 H0'/\z0f H0' H'/\(∀d∈[s0,s1,s2]++(x::r).flatMap Fz.muts,H0' d=none)/\H0' c=none/\(m % 8=4->H0' e=none)/\RDs H0' vy (odF m nm):=by
  rcases hv with⟨rfl,e0⟩|⟨q,xs,rfl,nq,hq,rq⟩
  ·exact⟨H0,z0f.refl _,same0,G.zc.fz,fc.1,fun h=>(fe h).1,by rw[e0];exact .nil⟩
  ·have lq:∀{d:Addr}{ws:List V},H d=some (.lst ws)->d≠q:=fun h=>Ne.symm (z1J hq h)
   refine⟨upd H0 q (.tup xs),z0f.new nq _,fun b u hb=>?_,fun d hd=>?_,?_,fun h=>?_,rq _ z01⟩
   ·by_cases eq:b=q
    ·subst eq
     rw[z01]at hb
     cases hb
     exact tp hq
    ·rw[z06 eq]at hb
     exact same0 _ _ hb
   ·obtain⟨ws,hw⟩:=G.zc.lsts d hd
    rw[z06 (lq hw)]
    exact G.zc.fz d hd
   ·rw[z06 (lq hc)]
    exact fc.1
   ·rw[z06 (lq (fe h).2.2.2)]
    exact(fe h).1
 have ops:(∃y,opF m nm=.ifT y)↔m % 8=4:=by
  unfold opF
  constructor
  ·rintro⟨y,h⟩
   split at h
   ·assumption
   ·split at h<;>cases h
  ·intro h
   exact⟨nm,if_pos h⟩
 have noO:∀n t,opF m nm≠.ifO n t:=fun n t h=>by
  unfold opF at h
  split at h
  ·cases h
  ·split at h<;>cases h
 have noR:opF m nm≠.root:=fun h=>by
  unfold opF at h
  split at h
  ·cases h
  ·split at h<;>cases h
 have mc:∀d∈(⟨⟨opF m nm,odF m nm,z7Y m x.f.shut,z68 m⟩,c,p,e⟩:Fz).muts,d=c\/(m % 8=4/\d=e):=fun d hd=>by
  unfold Fz.muts at hd
  dsimp only at hd
  split at hd
  ·rename_i y hy
   simp at hd
   exact hd.imp id fun z=>⟨ops.mp ⟨y,hy⟩,z⟩
  ·simp at hd
   exact .inl hd
 refine⟨H0',G.zc.opened (vy:=vy) hx g g' hf (fun b u h1 h2 h=>?_) (z8v k0 k1 k2) (fun d hd=>?_) ?_ (lp fc.2 hc) hds ?_ (tp hp) noR kx,?_,?_,?_⟩
 ·simp only[qB,List.not_mem_nil,or_false,not_or]at h2
  rw[off b h1 h2.1 h2.2.1 h2.2.2]
  exact h
 ·rcases mc d hd with rfl|⟨h4,rfl⟩
  ·exact⟨fc',fc.2⟩
  ·exact⟨fe' h4,(fe h4).2.1⟩
 ·unfold Fz.muts
  dsimp only
  split
  ·rename_i y hy
   have:=(fe (ops.mp ⟨y,hy⟩)).2.2.1
   simp
   exact this.symm
  ·simp
 ·unfold Fz.side
  dsimp only
  split
  ·rename_i y hy
   have h4:=ops.mp ⟨y,hy⟩
   exact lp (fe h4).2.1 (fe h4).2.2.2
  ·rename_i n t hy
   exact absurd hy (noO n t)
  ·trivial
 ·rw[k0];simp
 ·rw[k1]
  have:(⟨⟨opF m nm,odF m nm,z7Y m x.f.shut,z68 m⟩,c,p,e⟩:Fz).oJ=if z68 m=1 then .ref e else .non:=by
   unfold Fz.oJ Fr.sec
   dsimp only
   by_cases h4:m % 8=4
   ·rw[show opF m nm=.ifT nm from if_pos h4]
    dsimp only
    by_cases h1:z68 m=1
    ·rw[if_pos h1,if_pos h1]
    ·rw[if_neg h1,if_neg h1]
   ·have:¬ z68 m=1:=fun z=>by
     unfold z68 at z
     rw[if_neg (fun y=>h4 y.1)]at z
     cases z
    rw[if_neg this]
    cases q:opF m nm with
    |ifT y=>exact absurd (ops.mp ⟨y,q⟩) h4
    |_=>rfl
  rw[List.map_cons (a:=(⟨⟨opF m nm,odF m nm,z7Y m x.f.shut,z68 m⟩,c,p,e⟩:Fz)),List.reverse_cons,this]
 ·rw[k2];simp
end
end Tr
namespace L2
open PySem PySem.Spec PyProof.Rows PySem.W
def z9o (K:PySem.W.Frag) (iy im inn:Nat) (C0:Addr) (sp:Sp) (dvs:List V) (t:TA):TS:=fun D σ H=>t σ H fun vs H1=>sp (vs++dvs) H1 (fun v H2=>D.nx (σ.set iy (some v)) H2)
 (fun cls od H2=>∃C dx v,cls=.ref C/\od=some dx/\zeB K C C0/\ze0 K C/\H2 dx=some (.xd [("place",v)])/\∀a,H2 a=none->D.nx (((σ.set inn (some (.ref a))).set im (some v)).set inn none) (upd H2 a (XO2 C a dx)))
section
variable {X:Cx}{k:Nat}{f C0:Addr}{fd:FuncData}{ps:List Str}{sp:Sp}{dvs:List V}{ds:List Value}{fx cx y m n:Str}{iy im inn:Nat}{p pos apos py cp pm pn pl pa hpos tpos:Pos}{e:Expr}{es:List Expr}{t:TA}
theorem z7K (F:z1B X.prog X.w X.K X.mg X.base (CXX X.prog X.w) k f fd ps sp) (hr:z3B k X.A) (hg:Gl X fx) (hm:X.mg fx=some (.ref f)) (hk:keepIn X.K (.ref f)=true) (hb:z0G X.K fd ps ds) (hd:z19 dvs ds)
 (hN:X.N.Nodup) (hiy:X.N[iy]?=some y) (hly:Loc X.env.scope y) (him:X.N[im]?=some m) (hlm:Loc X.env.scope m) (hin:X.N[inn]?=some n) (hln:X.env.scope.names.lookup n=some .local) (hgc:Gl X cx) (hmc:X.mg cx=some (.ref C0)) (hc0:IsX X.K C0)
 (ha:∀EW,PA (X.wish EW) (e::es) t) (est:X.stack=X.env::X.outer:=by rfl) (efr:X.env.frame=some X.env.locals:=by rfl) (hdb:(fx == ("__debug__":Str))=false:=by decide) (hdc:(cx == ("__debug__":Str))=false:=by decide) (hdn:(n == ("__debug__":Str))=false:=by decide) (hcd:(n == ("__classdict__":Str))=false:=by decide)
 (he:starEach (e::es) X.env=(false,eval e X.env)::starEach es X.env:=by rfl) (hpl:(backTo pos (starEach es X.env)).any (·.1)=false:=by rfl)
 (hs1:swapsWith (.Call (.Name fx p) (e::es) [] pos) (some (.Name y py)) apos.line X.env=pure false:=by rfl) (hs2:swapsWith (.Attribute (.Name n pn) "place" pl) (some (.Name m pm)) pa.line X.env=pure false:=by rfl)
 (hfy:X.fn y=true\/X.env.scope.names.lookup y=some .local:=by first|exact .inl rfl|exact .inr rfl|assumption) (hfm:X.fn m=true\/X.env.scope.names.lookup m=some .local:=by first|exact .inl rfl|exact .inr rfl|assumption):
 PS X (.Try [.Assign [.Name y py] (.Call (.Name fx p) (e::es) [] pos) apos] [.ExceptHandler (some (.Name cx cp)) (some n) [.Assign [.Name m pm] (.Attribute (.Name n pn) "place" pl) pa] hpos] [] [] tpos) (z9o X.K iy im inn C0 sp dvs t):=by
 intro pins s σ H D I h
 refine wpAny_Try_except ?_
 refine wpAny_execs_cons (wpAny_Assign_Name (wpAny_Call_Name_kw (z58 I hg hm ?_ hdb)) hs1)
 have hA:=ha (fun e s1=>wpAny (model X.prog X.w) X.A (noteFrame e X.env) (fun _ s2=>wpAny (model X.prog X.w) X.A (setFlight e none) (fun _ s3=>wpAny (model X.prog X.w) X.A (handleBy e X.env [.ExceptHandler (some (.Name cx cp)) (some n) [.Assign [.Name m pm] (.Attribute (.Name n pn) "place" pl) pa] hpos]) (SP X pins D) X.xe s3) X.xe s2) X.xe s1)
  pos pins s σ H _ (I.wish _) h
 refine callWith_K (h₀:=X.base) I.ok.mod.kin hk (thn hA fun us s1 hv=>?_) he hpl
 obtain⟨vs,H1,I1',r,q⟩:=hv
 have I1:Inv X pins σ H1 s1:=I1'.unwish
 refine⟨I1.kIn,?_⟩
 have r2:z19 (vs++dvs) (us++ds):=r.append hd
 have hl:(us++ds).length=ps.length:=by rw[<- r2.length];exact F.len _ _ _ _ q
 refine wpAny_call (codeAny_mono (F.run X.A X.stack s1 H1 ⟨us,[]⟩ (us++ds) (vs++dvs) _ _ hr I1.env0 (hb s1 us I1.kIn hl) r2 q) fun r s' hq=>?_)
 cases r with
 |ok fl=>
  cases fl with
  |ret u=>
   obtain⟨v,H',I3,rv,q3⟩:=I1.after hq
   exact z3C I3 hN hiy hly rv (fun s2 I2=>wpAny_execs_nil (wpAny_execs_nil ⟨_,H',I2,q3⟩)) hfy
  |next=>exact False.elim hq
  |brk=>exact False.elim hq
  |cont=>exact False.elim hq
 |error ev=>
  obtain⟨a,C,dx,T,H',rfl,os,bare,un,hok,fly,n1,n2,n3,n4,C',dx',vp,ec,ed,hsub,xg,hxd,qx⟩:=hq
  cases ec
  cases ed
  have J:Inv X pins σ H' s':=I1.call' (ch:=[]) os un hok bare fun b hb=>absurd hb (by simp)
  obtain⟨oe,vv,oT,ts,y1,y2,y3,y4,y5,y6,y7,y8,y9⟩:=fly
  have fA:z5y X pins H' a:=I1.fpOk n1 n3
  have fT:z5y X pins H' T:=I1.fpOk n2 n4
  have szA:X.s₀.heap.objs.size<=a:=qG I1.sz n1
  have szT:X.s₀.heap.objs.size<=T:=qG I1.sz n2
  have hsz:1<vv.size:=(Array.getElem?_eq_some_iff.mp y5).1
  have hl2:s'.heap.FunFrames X.base X.stack:=J.stack
  have hfr:X.A.frames=some X.stack:=J.ok.frames
  rw[est]at hl2 hfr
  show wpAny (model X.prog X.w) X.A (noteFrame (.ref a) X.env) _ _ s'
  refine z9X (T:=T) hfr hl2 efr y1 y4 y5 y6 y7 y8 y9 fun h1 z1=>?_
  refine z81 z1 hl2 y1 y4 hsz fun h2 z2=>?_
  have z2':Lft X.stack a oe vv [T] .none s'.heap h2:=by rw[est];exact z2
  have J2:Inv X pins σ H' { s' with heap:=h2 }:=J.lft z2' fun b hb=>by
   rcases qB.mp hb with rfl|hb
   ·exact⟨n3,szA,fA⟩
   ·cases List.mem_singleton.mp hb
    exact⟨n4,szT,fT⟩
  obtain⟨T2,hT2,oe2,vv2,oT2,ts2,x1,x2,x3,x4,x5,x6,x7,x8,x9⟩:=Lft.fly (C:=C) (dx:=dx) z2 y2 y3 hsz
  have fT2:z5y X pins H' T2:=J.fpOk hT2 (J.hok.fresh hT2)
  obtain⟨nm,q,N,bs,bm,hdct,sn,sub,ab,col,dd,k0,k1,k2,k3,k5,newId,lk,ct⟩:=hsub
  obtain⟨nm',q',N',bs',bm',hdct',sn',sub',ab',col',dd',k0',k1',k2',k3',k5',newId',lk',ct'⟩:=hc0
  refine wpAny_handleBy_cons (codeAny_handlers_test ?_) (by intro q;cases q)
  refine Calls.Name_function_global J2.ok.kind hgc (Calls.loadGlobal_global (by rw[J2.ok.glob];exact J2.mod.glob.keeps J2.bk) hmc ?_) hdc
  refine zaO (J2.kIn _ _ lk) (J2.kIn _ _ lk') ct' ct x1 x2 ?_
  refine codeAny_handlers_suite_as ?_
  refine wpAny_setFlight_none x1 x4 x5 x7 x8 (Array.getElem?_eq_some_iff.mp x9).1 ?_
  have J3:Inv X pins σ H' { s' with heap:=h2.update T2 (Obj.mapFields (·.setIfInBounds 3 .none)) }:=Inv.turnedL (s:={ s' with heap:=h2 }) (h':=h2.update T2 (Obj.mapFields (·.setIfInBounds 3 .none))) (t':=s'.toks) (ch:=[T2]) J2 (fun b o hb e=>(Heap.get?_update_other _ _ (fun z=>hb (by rw[<- z];exact List.mem_singleton.mpr rfl))).trans e) fun b hb=>by
   cases List.mem_singleton.mp hb
   exact fT2
  have x1':(h2.update T2 (Obj.mapFields (·.setIfInBounds 3 .none))).get? a=some oe2:=(Heap.get?_update_other _ _ x6).trans x1
  have J4:=J3.track (o:=XO2 C a dx) fA szA (XO2.ok x1' x2 x3 x4)
  refine z3C J4 hN hin (.inl hln) (v:=.ref a) rfl (fun s4 I4=>?_) (.inr hln)
  have hiσ:inn<σ.length:=by rw[J4.len];exact(qi.mp hin).1
  refine wpAny_execs_cons (wpAny_Assign_Name ?_ hs2)
  obtain⟨mm,hn4,hl4⟩:=I4.loc
  obtain⟨u4,ru4,lk4⟩:=hl4 inn n (.ref a) hin (List.getElem?_set_self hiσ) (.inl hln)
  cases ru4
  rcases lk4 with⟨_,hu4⟩|⟨hk4,_⟩
  rotate_left
  ·rcases hk4 with z|z
   ·rw[show X.env.kindOf n=X.env.scope.names.lookup n from rfl,hln]at z;cases z
   ·rw[show X.env.kindOf n=X.env.scope.names.lookup n from rfl,hln]at z;cases z
  have hda:dx≠a:=fun z=>by rw[z,n3]at hxd;cases hxd
  refine PyProof.Rows.Attribute_name ?_
  refine wpAny_Name (wpAny_loadName_local I4.ok.kind hln hn4 hu4 ?_) hdn
  refine zc0 I4 z01 (by rw[z06 hda];exact hxd) xg fun u5 s5 I5 ru5=>?_
  refine z3C I5 hN him hlm (v:=vp) ru5 (fun s6 I6=>wpAny_execs_nil ?_) hfm
  refine z9Y I6 hN hin hln fun s7 I7=>?_
  exact⟨_,_,I7,qx a n3⟩
end
end L2
namespace Tr
open PySem PySem.Spec PyProof.Rows L2
set_option linter.all false
theorem z2l.mono {m m':Nat}(h:m<=m') {p p':List Pf}{B B':Bk}{k k':Nat}(g:z2l m p B k p' B' k'):z2l m' p B k p' B' k':=by
 induction g with
 |refl=>exact .refl
 |pop _ ih=>exact .pop ih
 |step lt e _ ih=>exact .step (qK lt h) e ih
theorem z2l.pops {m k:Nat}{B:Bk}:∀p:List Pf,∃S,z2l m p B k S B k/\(S=[]\/∃d r c q,S=⟨d::r,c⟩::q)
 |[]=>⟨[],.refl,.inl rfl⟩
 |⟨[],c⟩::p=>by
  obtain⟨S,g,h⟩:=z2l.pops (m:=m) (k:=k) (B:=B) p
  exact⟨S,.pop g,h⟩
 |⟨d::r,c⟩::p=>⟨_,.refl,.inr ⟨d,r,c,p,rfl⟩⟩
def Rst (B:Bk) (s:Str):List Int:=(B.q s).drop (B.g s)
inductive One (B B':Bk):Prop
 |set (x:Str):(∀z,z≠x->B'.f z=B.f z)->B'.o=B.o->(∀s,Rst B' s=Rst B s)->One B B'
 |put (so:Str) (v:Int):(∀z,B'.f z=B.f z)->B'.o=B.o->(∀s,s≠so->Rst B' s=Rst B s)->Rst B' so=Rst B so++[v]->One B B'
 |get (so x:Str) (v:Int):(∀z,z≠x->B'.f z=B.f z)->B'.o=B.o->(∀s,s≠so->Rst B' s=Rst B s)->Rst B so=v::Rst B' so->One B B'
 |give (v:Int):(∀z,B'.f z=B.f z)->B'.o=B.o++[v]->(∀s,Rst B' s=Rst B s)->One B B'
theorem One.same {B:Bk}:One B B:=.set "" (fun _ _=>rfl) rfl fun _=>rfl
theorem zca {B B':Bk}{n:Nat}{d:z0c}(h:z4v B n) (e:stp B d=some B'):One B B':=by
 cases d with
 |set x a sg b=>
  cases e
  exact .set x (fun z hz=>if_neg hz) rfl fun _=>rfl
 |put s x=>
  cases e
  refine .put s (B.f x) (fun _=>rfl) rfl (fun t ht=>?_) ?_
  ·unfold Rst
   simp only[ht,if_false]
  ·unfold Rst
   simp only[if_true]
   exact List.drop_append_of_le_length (h.le s)
 |get s x=>
  unfold stp at e
  dsimp only at e
  cases ev:(B.q s)[B.g s]? with
  |none=>rw[ev]at e;cases e
  |some v=>
   rw[ev]at e
   cases e
   obtain⟨lt,eg⟩:=qi.mp ev
   refine .get s x v (fun z hz=>if_neg hz) rfl (fun t ht=>?_) ?_
   ·unfold Rst
    simp only[ht,if_false]
   ·unfold Rst
    simp only[if_true]
    rw[List.drop_eq_getElem_cons lt,eg]
 |give x=>
  cases e
  exact .give (B.f x) (fun _=>rfl) rfl fun _=>rfl
 |cond x t o=>cases e
 |whl x b=>cases e
 |rep k b=>cases e
theorem z9v {B B1:Bk}{n:Nat}{d:z0c}{r:List z0c}{c:Option Int}{p p1:List Pf}(h:z4v B n) (e:z2B B d r c p=some (p1,B1)):One B B1:=by
 have plain:∀d',(stp B d').map (fun B'=>((⟨r,none⟩:Pf)::p,B'))=some (p1,B1)->One B B1:=fun d' z=>by
  obtain⟨B',e1,z⟩:=Option.map_eq_some_iff.mp z
  cases z
  exact zca h e1
 cases d with
 |rep n b=>
  unfold z2B at e
  dsimp only at e
  split at e<;>(cases e;exact .same)
 |whl x b=>
  unfold z2B at e
  dsimp only at e
  split at e<;>(cases e;exact .same)
 |cond x t o=>
  cases e
  exact .same
 |set x a sg b=>exact plain (.set x a sg b) e
 |put s x=>exact plain (.put s x) e
 |get s x=>exact plain (.get s x) e
 |give x=>exact plain (.give x) e
theorem zb0 {B B':Bk}{d:z0c}(h:∀x,OnW (B.f x)) (ho:∀v∈B.o,OnW v) (e:stp B d=some B'):∀v∈B'.o,OnW v:=by
 cases d with
 |set x a sg b=>cases e;exact ho
 |put s x=>cases e;exact ho
 |get s x=>
  unfold stp at e
  dsimp only at e
  cases ev:(B.q s)[B.g s]? with
  |none=>rw[ev]at e;cases e
  |some v=>rw[ev]at e;cases e;exact ho
 |give x=>
  cases e
  intro v hv
  rcases qk.mp hv with z|z
  ·exact ho v z
  ·rw[List.mem_singleton.mp z]
   exact h x
 |cond x t o=>cases e
 |whl x b=>cases e
 |rep k b=>cases e
theorem z8R {B B1:Bk}{d:z0c}{r:List z0c}{c:Option Int}{p p1:List Pf}(h:∀x,OnW (B.f x)) (ho:∀v∈B.o,OnW v) (e:z2B B d r c p=some (p1,B1)):∀v∈B1.o,OnW v:=by
 have plain:∀d',(stp B d').map (fun B'=>((⟨r,none⟩:Pf)::p,B'))=some (p1,B1)->∀v∈B1.o,OnW v:=fun d' z=>by
  obtain⟨B',e1,z⟩:=Option.map_eq_some_iff.mp z
  cases z
  exact zb0 h ho e1
 cases d with
 |rep n b=>
  unfold z2B at e
  dsimp only at e
  split at e<;>(cases e;exact ho)
 |whl x b=>
  unfold z2B at e
  dsimp only at e
  split at e<;>(cases e;exact ho)
 |cond x t o=>
  cases e
  exact ho
 |set x a sg b=>exact plain (.set x a sg b) e
 |put s x=>exact plain (.put s x) e
 |get s x=>exact plain (.get s x) e
 |give x=>exact plain (.give x) e
theorem z2l.outs {C S:List Str}{m:Nat}{p p':List Pf}{B B':Bk}{k k':Nat}(h:z2l m p B k p' B' k'):z3T C S p->z4v B k->(∀v∈B.o,OnW v)->∀v∈B'.o,OnW v:=by
 induction h with
 |refl=>exact fun _ _ h=>h
 |pop _ ih=>exact fun h1 h2 h3=>ih (fun y hy=>h1 y (qt _ hy)) h2 h3
 |step _ e _ ih=>exact fun h1 h2 h3=>ih (z4z h1 h2 e).1 (z4z h1 h2 e).2 (z8R h2.on h3 e)
end Tr
namespace Tr
open PySem PySem.Spec PyProof.Rows L2
set_option linter.all false
def z7w (ks:List Str) (f:z4E):List PyData:=ks.map fun z=>.tuple [.str z,.int (f z)]
def z7x (ss:List Str) (B:Bk):List PyData:=ss.map fun s=>.tuple [.str s,.list ((Rst B s).map PyData.int)]
def zaW (ks ss:List Str) (e:Bool) (B:Bk) (k:Int):PyData:=.tuple [.bool e,.int k,.list (B.o.map PyData.int),.list (z7w ks B.f),.list (z7x ss B)]
theorem zao {K:PySem.W.Frag}{H:Hp}:∀{vs:List V}{ds:List PyData},vs.length=ds.length->(∀(j:Nat) v d,vs[j]?=some v->ds[j]?=some d->Dt K H v d)->z1G K H vs ds
 |[],[],_,_=>.nil
 |[],_::_,h,_=>by simp at h
 |_::_,[],h,_=>by simp at h
 |v::vs,d::ds,h,k=>.cons (k 0 v d rfl rfl) (zao (by simpa using h) fun j v' d' h1 h2=>k (j+1) v' d' (by simpa using h1) (by simpa using h2))
theorem z13 {K:PySem.W.Frag}{H:Hp}:∀xs:List Int,z1G K H (xs.map V.int) (xs.map PyData.int)
 |[]=>.nil
 |x::r=>.cons (.int _) (z13 r)
theorem z3P:∀xs:List Int,PyData.canLayAll0 (xs.map PyData.int)=true/\PyData.depthAll (xs.map PyData.int)<=1
 |[]=>by simp[PyData.canLayAll0,PyData.depthAll]
 |x::r=>by
  obtain⟨h1,h2⟩:=z3P r
  simp[PyData.canLayAll0,PyData.depthAll,PyData.canLay0,PyData.depth,h1]
  omega
theorem z7V:∀(ks:List Str) (f:z4E),(∀s∈ks,PyData.strOk s=true)->PyData.canLayAll0 (z7w ks f)=true/\PyData.depthAll (z7w ks f)<=2
 |[],_,_=>by simp[z7w,PyData.canLayAll0,PyData.depthAll]
 |x::r,f,h=>by
  have h1:=h x qv
  obtain⟨h2,h3⟩:=z7V r f fun s hs=>h s (qt _ hs)
  unfold z7w at h2 h3 ⊢
  simp[PyData.canLayAll0,PyData.canLay0,PyData.depthAll,PyData.depth,h1]
  exact⟨h2,by omega⟩
theorem z7W:∀(ss:List Str) (B:Bk),(∀s∈ss,PyData.strOk s=true)->PyData.canLayAll0 (z7x ss B)=true/\PyData.depthAll (z7x ss B)<=3
 |[],_,_=>by simp[z7x,PyData.canLayAll0,PyData.depthAll]
 |x::r,B,h=>by
  have h1:=h x qv
  obtain⟨h2,h3⟩:=z7W r B fun s hs=>h s (qt _ hs)
  obtain⟨h4,h5⟩:=z3P (Rst B x)
  unfold z7x at h2 h3 ⊢
  simp[PyData.canLayAll0,PyData.canLay0,PyData.depthAll,PyData.depth,h1,h4]
  exact⟨h2,by omega⟩
theorem z0B (xs:List Int):SeqAt.shaped (.list (xs.map PyData.int))=true:=by
 obtain⟨h1,h2⟩:=z3P xs
 unfold SeqAt.shaped
 simp[PyData.canLay0,PyData.depth,h1]
 omega
theorem z3s (ks:List Str) (f:z4E) (h:∀s∈ks,PyData.strOk s=true):SeqAt.shaped (.list (z7w ks f))=true:=by
 obtain⟨h1,h2⟩:=z7V ks f h
 unfold SeqAt.shaped
 simp[PyData.canLay0,PyData.depth,h1]
 omega
theorem z3u (ss:List Str) (B:Bk) (h:∀s∈ss,PyData.strOk s=true):SeqAt.shaped (.list (z7x ss B))=true:=by
 obtain⟨h1,h2⟩:=z7W ss B h
 unfold SeqAt.shaped
 simp[PyData.canLay0,PyData.depth,h1]
 omega
theorem z2J (ks ss:List Str) (e:Bool) (B:Bk) (k:Int) (h:∀s∈ks,PyData.strOk s=true) (h':∀s∈ss,PyData.strOk s=true):SeqAt.shaped (zaW ks ss e B k)=true:=by
 obtain⟨h1,h2⟩:=z7V ks B.f h
 obtain⟨h3,h4⟩:=z7W ss B h'
 obtain⟨h5,h6⟩:=z3P B.o
 unfold SeqAt.shaped zaW
 simp[PyData.canLay0,PyData.canLayAll0,PyData.depth,PyData.depthAll,h1,h3,h5]
 omega
theorem z3t {s:Str}(n:Int) (h:PyData.strOk s=true):SeqAt.shaped (.tuple [.str s,.int n])=true:=by
 unfold SeqAt.shaped
 simp[PyData.canLay0,PyData.canLayAll0,PyData.depth,PyData.depthAll,h]
theorem zbu (ds:List z0c):PyData.eqv (.list (z2Y ds)) (.list [])=ds.isEmpty:=by
 cases ds with
 |nil=>rfl
 |cons d r=>rfl
theorem z8G (xs:List Int):z6C (xs.map V.int) none (some (-1))=xs.dropLast.map V.int:=by
 unfold z6C
 rw[HT.sIx_none]
 rw[List.drop_zero,Nat.sub_zero]
 cases xs with
 |nil=>rfl
 |cons x r=>
  have e:HT.sIx ((x::r).map V.int).length ((x::r).map V.int).length (some (-1))=r.length:=by
   unfold HT.sIx
   simp
   omega
  rw[e,List.dropLast_eq_take,List.map_take]
  simp
end Tr
namespace L2
open PySem PySem.Spec PyProof.Rows
theorem zct {X:Cx}{K:PySem.W.Frag}(e:X.K=K) (hu:X.A.units+64<cLine):OpR X (compareOp .NotEq) (fun x y H Q=>∃d e,Dt K H x d/\Dt K H y e/\SeqAt.shaped d=true/\SeqAt.shaped e=true/\Q (.bl (!PyData.eqv d e)) H):=by
 subst e
 exact z3J hu
theorem z0f.seqT {K:PySem.W.Frag}{H H':Hp}{a:Addr}{xs:List V}(e:z0f H H') (h:SqT K H a xs):SqT K H' a xs:=by
 rcases h with(h|⟨o,h⟩)|h
 ·exact .inl (.inl (e _ _ h))
 ·exact .inl (.inr ⟨o,e _ _ h⟩)
 ·exact .inr h
mutual
theorem Dt.same {K:PySem.W.Frag}{H H':Hp}(e:z0f H H'):∀{v:V}{d:PyData},Dt K H v d->Dt K H' v d
 |_,_,.non=>.non
 |_,_,.bl b=>.bl b
 |_,_,.int i=>.int i
 |_,_,.str x=>.str x
 |_,_,.lst h r=>.lst (z0f.seq e h) (z1G.same e r)
 |_,_,.tup h r=>.tup (z0f.seqT e h) (z1G.same e r)
theorem z1G.same {K:PySem.W.Frag}{H H':Hp}(e:z0f H H'):∀{vs:List V}{ds:List PyData},z1G K H vs ds->z1G K H' vs ds
 |_,_,.nil=>.nil
 |_,_,.cons a b=>.cons (Dt.same e a) (z1G.same e b)
end
theorem z1G.snoc {K:PySem.W.Frag}{H:Hp}{v:V}{d:PyData}(h:Dt K H v d):∀{vs:List V}{ds:List PyData},z1G K H vs ds->z1G K H (vs++[v]) (ds++[d])
 |_,_,.nil=>.cons h .nil
 |_,_,.cons a b=>.cons a (z1G.snoc h b)
theorem z1G.len {K:PySem.W.Frag}{H:Hp}:∀{vs:List V}{ds:List PyData},z1G K H vs ds->vs.length=ds.length
 |_,_,.nil=>rfl
 |_,_,.cons _ b=>congrArg (·+1) (z1G.len b)
theorem zdm {P:Program}{w:World}{X:Cx}:z3U (CXX P w) X E0:=by
 intro _ _ _ _ _ _ _ h
 obtain⟨_,_,_,_,_,_,_,_,_,_,_,_,_,_,_,z⟩:=h
 exact z.elim
end L2
set_option Elab.async false
set_option maxRecDepth 100000
set_option maxHeartbeats 4000000
namespace K14
open PySem L2 Tr
seal PE PT PW PA PS PSs PG PGs PI PTs PO OpR UnR z5f zfg IxR SlR
local macro_rules|`(tactic| walk_at "rds")=>`(tactic| first|assumption|decide|omega)
local macro_rules|`(tactic| walk_at "rd")=>`(tactic| repeat (first|refine⟨_,rfl,?_⟩|refine⟨_,_,rfl,rfl,?_⟩|refine⟨rfl,_,rfl,?_⟩|refine⟨_,_,rfl,rfl,by walk_at "rds",?_⟩|refine And.intro (by walk_at "rds") ?_))
local macro_rules|`(tactic| walk_at "yes")=>`(tactic| refine z1a (by decide +kernel) ?_)
local macro_rules|`(tactic| walk_at "no")=>`(tactic| refine z0X (by decide +kernel) ?_)
abbrev z0E:Stmt:=inClass (top 2) 0
abbrev z0T:Stmt:=inClass (top 5) 0
abbrev z0S:Stmt:=inClass (top 5) 1
abbrev z25:Stmt:=inClass (top 5) 3
abbrev z1T:Stmt:=inClass (top 5) 4
abbrev z1U:Stmt:=inClass (top 5) 5
abbrev z44:Stmt:=top 9
abbrev z1g:Stmt:=top 10
abbrev z22:Stmt:=top 11
abbrev z15:Stmt:=top 12
abbrev z21:Stmt:=top 13
abbrev z5A:Stmt:=top 16
abbrev z2n:Stmt:=top 17
abbrev z1p:Stmt:=top 18
abbrev z11:Stmt:=inClass (top 20) 0
abbrev z1l:Stmt:=inClass (top 20) 1
abbrev z1z:Stmt:=inClass (top 20) 2
abbrev z24:Stmt:=inClass (top 20) 3
abbrev z1j:Stmt:=inClass (top 20) 4
abbrev z17:Stmt:=inClass (top 20) 5
abbrev z1y:Stmt:=inClass (top 20) 6
abbrev z1h:Stmt:=inClass (top 20) 7
abbrev z1k:Stmt:=inClass (top 20) 8
abbrev z16:Stmt:=inClass (top 20) 9
abbrev z1i:Stmt:=inClass (top 20) 10
abbrev z6W:Stmt:=top 21
abbrev z23:Stmt:=top 23
abbrev z1P:Stmt:=top 24
abbrev z1q:Stmt:=top 25
abbrev z1x:Stmt:=top 26
abbrev z1N:Stmt:=top 27
abbrev z1v:Stmt:=top 28
abbrev z1R:Stmt:=top 29
abbrev z1w:Stmt:=top 30
abbrev z1Q:Stmt:=top 31
abbrev z1O:Stmt:=top 32
abbrev z1M:Stmt:=top 33
abbrev z1c:Stmt:=top 34
abbrev z0U:Stmt:=top 35
abbrev z1b:Stmt:=top 36
abbrev z1S:Stmt:=top 37
abbrev z1r:Stmt:=top 38
abbrev z4s:Stmt:=top 39
theorem z36:z0m ["self","words","place"] ["self","words","place"] (z02 z0E):=⟨rfl,rfl,rfl,by decide +kernel,rfl,by decide +kernel,by decide +kernel⟩
theorem z43:z0m ["self","things"] ["self","things"] (z02 z0T):=⟨rfl,rfl,rfl,by decide +kernel,rfl,by decide +kernel,by decide +kernel⟩
theorem z42:z0m ["self"] ["self"] (z02 z0S):=⟨rfl,rfl,rfl,by decide +kernel,rfl,by decide +kernel,by decide +kernel⟩
theorem z6V:z0m ["self","thing"] ["self","thing"] (z02 z25):=⟨rfl,rfl,rfl,by decide +kernel,rfl,by decide +kernel,by decide +kernel⟩
theorem z3E:z0m ["self","thing"] ["self"] (z02 z1T):=⟨rfl,rfl,rfl,by decide +kernel,rfl,by decide +kernel,by decide +kernel⟩
theorem z6d:z0m ["self"] ["self"] (z02 z1U):=⟨rfl,rfl,rfl,by decide +kernel,rfl,by decide +kernel,by decide +kernel⟩
theorem z69:z0m ["block","names","deed"] ["block"] (z02 z44):=⟨rfl,rfl,rfl,by decide +kernel,rfl,by decide +kernel,by decide +kernel⟩
theorem z4M:z0m ["program"] ["program"] (z02 z1g):=⟨rfl,rfl,rfl,by decide +kernel,rfl,by decide +kernel,by decide +kernel⟩
theorem z2d:z0m ["block","found","deed","inner"] ["block"] (z02 z22):=⟨rfl,rfl,rfl,by decide +kernel,rfl,by decide +kernel,by decide +kernel⟩
theorem z4q:z0m ["deed"] ["deed"] (z02 z15):=⟨rfl,rfl,rfl,by decide +kernel,rfl,by decide +kernel,by decide +kernel⟩
theorem z4N:z0m ["deed","kind"] ["deed"] (z02 z21):=⟨rfl,rfl,rfl,by decide +kernel,rfl,by decide +kernel,by decide +kernel⟩
theorem zci:z0m ["sign","a","b"] ["sign","a","b"] (z02 z5A):=⟨rfl,rfl,rfl,by decide +kernel,rfl,by decide +kernel,by decide +kernel⟩
theorem z7I:z0m ["sign","a","b"] ["sign","a","b"] (z02 z2n):=⟨rfl,rfl,rfl,by decide +kernel,rfl,by decide +kernel,by decide +kernel⟩
theorem z2g:z0m ["program","numbers","begun","name","number"] ["program","numbers"] (z02 z1p):=⟨rfl,rfl,rfl,by decide +kernel,rfl,by decide +kernel,by decide +kernel⟩
theorem z4R:z0m ["self","numbers","stores","most"] ["self","numbers","stores","most"] (z02 z11):=⟨rfl,rfl,rfl,by decide +kernel,rfl,by decide +kernel,by decide +kernel⟩
theorem z2o:z0m ["self","block","deed"] ["self","block"] (z02 z1l):=⟨rfl,rfl,rfl,by decide +kernel,rfl,by decide +kernel,by decide +kernel⟩
theorem z3l:z0m ["self","deed","kind"] ["self","deed"] (z02 z1z):=⟨rfl,rfl,rfl,by decide +kernel,rfl,by decide +kernel,by decide +kernel⟩
theorem z6U:z0m ["self","name","then","other"] ["self","name","then","other"] (z02 z24):=⟨rfl,rfl,rfl,by decide +kernel,rfl,by decide +kernel,by decide +kernel⟩
theorem z4Q:z0m ["self","name","body"] ["self","name","body"] (z02 z1j):=⟨rfl,rfl,rfl,by decide +kernel,rfl,by decide +kernel,by decide +kernel⟩
theorem z2R:z0m ["self","rounds","body","count"] ["self","rounds","body"] (z02 z17):=⟨rfl,rfl,rfl,by decide +kernel,rfl,by decide +kernel,by decide +kernel⟩
theorem z5q:z0m ["self"] ["self"] (z02 z1y):=⟨rfl,rfl,rfl,by decide +kernel,rfl,by decide +kernel,by decide +kernel⟩
theorem z4O:z0m ["self"] ["self"] (z02 z1h):=⟨rfl,rfl,rfl,by decide +kernel,rfl,by decide +kernel,by decide +kernel⟩
theorem z35:z0m ["self","deed","kind"] ["self","deed"] (z02 z1k):=⟨rfl,rfl,rfl,by decide +kernel,rfl,by decide +kernel,by decide +kernel⟩
theorem z4r:z0m ["self","value"] ["self","value"] (z02 z16):=⟨rfl,rfl,rfl,by decide +kernel,rfl,by decide +kernel,by decide +kernel⟩
theorem z4P:z0m ["self","store"] ["self","store"] (z02 z1i):=⟨rfl,rfl,rfl,by decide +kernel,rfl,by decide +kernel,by decide +kernel⟩
theorem z5z:z0m ["program","numbers","most","stores","running","ended","finals","left"] ["program","numbers","most"] (z02 z6W):=⟨rfl,rfl,rfl,by decide +kernel,rfl,by decide +kernel,by decide +kernel⟩
theorem z6T:z0m ["_law_script","_law_k"] ["_law_script","_law_k"] (z02 z23):=⟨rfl,rfl,rfl,by decide +kernel,rfl,by decide +kernel,by decide +kernel⟩
theorem z3D:z0m ["_law_cell_here","_law_k","_law_m"] ["_law_cell_here","_law_k"] (z02 z1P):=⟨rfl,rfl,rfl,by decide +kernel,rfl,by decide +kernel,by decide +kernel⟩
theorem z0C:z0m ["_law_cell_here","_law_many","_law_letters","_law_m","_law_base","_law_size","_law_at","_law_out","_law_k","_law_sign","_law_name"] ["_law_cell_here","_law_many"] (z02 z1q):=⟨rfl,rfl,rfl,by decide +kernel,rfl,by decide +kernel,by decide +kernel⟩
theorem z3k:z0m ["_law_cell_here","_law_way","_law_c"] ["_law_cell_here","_law_way"] (z02 z1x):=⟨rfl,rfl,rfl,by decide +kernel,rfl,by decide +kernel,by decide +kernel⟩
theorem z6b:z0m ["_law_cell_here","_law_way","_law_names_here"] ["_law_cell_here","_law_way","_law_names_here"] (z02 z1N):=⟨rfl,rfl,rfl,by decide +kernel,rfl,by decide +kernel,by decide +kernel⟩
theorem z1f:z0m ["_law_cell_here","_law_m","_law_names_here","_law_shelves","_law_hidden","_law_x","_law_kind","_law_a","_law_b"] ["_law_cell_here","_law_m","_law_names_here","_law_shelves","_law_hidden"] (z02 z1v):=⟨rfl,rfl,rfl,by decide +kernel,rfl,by decide +kernel,by decide +kernel⟩
theorem z6c:z0m ["_law_m","_law_x"] ["_law_m","_law_x"] (z02 z1R):=⟨rfl,rfl,rfl,by decide +kernel,rfl,by decide +kernel,by decide +kernel⟩
theorem z5p:z0m ["_law_deed","_law_m","_law_rows","_law_others","_law_hidden"] ["_law_deed","_law_m","_law_rows","_law_others","_law_hidden"] (z02 z1w):=⟨rfl,rfl,rfl,by decide +kernel,rfl,by decide +kernel,by decide +kernel⟩
theorem z0D:z0m ["_law_cells","_law_names_here","_law_shelves","_law_top","_law_rows","_law_others","_law_hidden","_law_k","_law_cell_here","_law_m","_law_x","_law_second","_law_deed"] ["_law_cells","_law_names_here","_law_shelves"] (z02 z1Q):=⟨rfl,rfl,rfl,by decide +kernel,rfl,by decide +kernel,by decide +kernel⟩
theorem z1u:z0m ["_law_body","_law_asks","_law_seen","_law_name","_law_todo","_law_deed","_law_side"] ["_law_body","_law_asks"] (z02 z1O):=⟨rfl,rfl,rfl,by decide +kernel,rfl,by decide +kernel,by decide +kernel⟩
theorem z6a:z0m ["_law_found"] ["_law_found"] (z02 z1M):=⟨rfl,rfl,rfl,by decide +kernel,rfl,by decide +kernel,by decide +kernel⟩
theorem z1D:z0m ["_law_found","_law_names_here","_law_shelves","_law_name","_law_pair","_law_thing"] ["_law_found","_law_names_here","_law_shelves"] (z02 z1c):=⟨rfl,rfl,rfl,by decide +kernel,rfl,by decide +kernel,by decide +kernel⟩
theorem z2a:z0m ["_law_found","_law_body","_law_asks","_law_numbers","_law_shelves","_law_worth","_law_name","_law_k"] ["_law_found","_law_body","_law_asks","_law_numbers","_law_shelves"] (z02 z0U):=⟨rfl,rfl,rfl,by decide +kernel,rfl,by decide +kernel,by decide +kernel⟩
theorem z10:z0m ["_law_old","_law_new","_law_more","_law_turned","_law_moved","_law_one","_law_other"] ["_law_old","_law_new"] (z02 z1b):=⟨rfl,rfl,rfl,by decide +kernel,rfl,by decide +kernel,by decide +kernel⟩
theorem z2h:z0m ["_law_program","_law_numbers","_law_most","_law_found","_law_place","error"] ["_law_program","_law_numbers","_law_most"] (z02 z1S):=⟨rfl,rfl,rfl,by decide +kernel,rfl,by decide +kernel,by decide +kernel⟩
theorem z0I:z0m ["_law_program","_law_numbers","_law_bound","_law_names_here","_law_shelves","_law_old","_law_hungry","_law_most","_law_new","_law_place"] ["_law_program","_law_numbers","_law_bound"] (z02 z1r):=⟨rfl,rfl,rfl,by decide +kernel,rfl,by decide +kernel,by decide +kernel⟩
theorem z34:z0m ["_law_script","_law_m","_law_names_here","_law_shelves","_law_asks","_law_numbers","_law_body","_law_program","_law_x","_law_endless","_law_found"] ["_law_script"] (z02 z4s):=⟨rfl,rfl,rfl,by decide +kernel,rfl,by decide +kernel,by decide +kernel⟩
structure Adr where
 FlowError___init__:Addr
 fd_FlowError___init__:FuncData
 Queue___init__:Addr
 fd_Queue___init__:FuncData
 Queue_standing:Addr
 fd_Queue_standing:FuncData
 Queue_lay:Addr
 fd_Queue_lay:FuncData
 Queue_take:Addr
 fd_Queue_take:FuncData
 Queue_rest:Addr
 fd_Queue_rest:FuncData
 named:Addr
 fd_named:FuncData
 variables_of:Addr
 fd_variables_of:FuncData
 all_deeds:Addr
 fd_all_deeds:FuncData
 blocks_within:Addr
 fd_blocks_within:FuncData
 names_in:Addr
 fd_names_in:FuncData
 done:Addr
 fd_done:FuncData
 reckoned:Addr
 fd_reckoned:FuncData
 beginnings:Addr
 fd_beginnings:FuncData
 Run___init__:Addr
 fd_Run___init__:FuncData
 Run_do_block:Addr
 fd_Run_do_block:FuncData
 Run_do_deed:Addr
 fd_Run_do_deed:FuncData
 Run_do_if:Addr
 fd_Run_do_if:FuncData
 Run_do_while:Addr
 fd_Run_do_while:FuncData
 Run_do_repeat:Addr
 fd_Run_do_repeat:FuncData
 Run_do_step:Addr
 fd_Run_do_step:FuncData
 Run_is_spent:Addr
 fd_Run_is_spent:FuncData
 Run_do_plain:Addr
 fd_Run_do_plain:FuncData
 Run_number_of:Addr
 fd_Run_number_of:FuncData
 Run_got_from:Addr
 fd_Run_got_from:FuncData
 run:Addr
 fd_run:FuncData
 dv_run:Tok
 _law_cell:Addr
 fd__law_cell:FuncData
 _law_mixed:Addr
 fd__law_mixed:FuncData
 _law_names:Addr
 fd__law_names:FuncData
 _law_number:Addr
 fd__law_number:FuncData
 _law_value:Addr
 fd__law_value:FuncData
 _law_simple:Addr
 fd__law_simple:FuncData
 _law_block:Addr
 fd__law_block:FuncData
 _law_opened:Addr
 fd__law_opened:FuncData
 _law_grown:Addr
 fd__law_grown:FuncData
 _law_named:Addr
 fd__law_named:FuncData
 _law_whole:Addr
 fd__law_whole:FuncData
 _law_formed:Addr
 fd__law_formed:FuncData
 _law_begins:Addr
 fd__law_begins:FuncData
 _law_onward:Addr
 fd__law_onward:FuncData
 _law_asked:Addr
 fd__law_asked:FuncData
 _law_chain:Addr
 fd__law_chain:FuncData
 law:Addr
 fd_law:FuncData
 LOOPS:Addr
 LOOKERS:Addr
 tk_WHEEL:Tok
 C_Queue:Addr
 C_Run:Addr
 C_FlowError:Addr
 C_Starved:Addr
structure Tx (P:Program) (w:World) (K:W.Frag) (mg:Str->Option Value) (a:Adr):Prop where
 F_FlowError___init__:Fun K "__init__" "FlowError.__init__" z0E a.FlowError___init__ a.fd_FlowError___init__
 b_FlowError___init__:z0G K a.fd_FlowError___init__ ["self","words","place"] []
 F_Queue___init__:Fun K "__init__" "Queue.__init__" z0T a.Queue___init__ a.fd_Queue___init__
 b_Queue___init__:z0G K a.fd_Queue___init__ ["self","things"] []
 F_Queue_standing:Fun K "standing" "Queue.standing" z0S a.Queue_standing a.fd_Queue_standing
 b_Queue_standing:z0G K a.fd_Queue_standing ["self"] []
 F_Queue_lay:Fun K "lay" "Queue.lay" z25 a.Queue_lay a.fd_Queue_lay
 b_Queue_lay:z0G K a.fd_Queue_lay ["self","thing"] []
 F_Queue_take:Fun K "take" "Queue.take" z1T a.Queue_take a.fd_Queue_take
 b_Queue_take:z0G K a.fd_Queue_take ["self"] []
 F_Queue_rest:Fun K "rest" "Queue.rest" z1U a.Queue_rest a.fd_Queue_rest
 b_Queue_rest:z0G K a.fd_Queue_rest ["self"] []
 F_named:Fun K "named" "named" z44 a.named a.fd_named
 b_named:z0G K a.fd_named ["block"] []
 m_named:mg "named"=some (.ref a.named)
 F_variables_of:Fun K "variables_of" "variables_of" z1g a.variables_of a.fd_variables_of
 b_variables_of:z0G K a.fd_variables_of ["program"] []
 m_variables_of:mg "variables_of"=some (.ref a.variables_of)
 F_all_deeds:Fun K "all_deeds" "all_deeds" z22 a.all_deeds a.fd_all_deeds
 b_all_deeds:z0G K a.fd_all_deeds ["block"] []
 m_all_deeds:mg "all_deeds"=some (.ref a.all_deeds)
 F_blocks_within:Fun K "blocks_within" "blocks_within" z15 a.blocks_within a.fd_blocks_within
 b_blocks_within:z0G K a.fd_blocks_within ["deed"] []
 m_blocks_within:mg "blocks_within"=some (.ref a.blocks_within)
 F_names_in:Fun K "names_in" "names_in" z21 a.names_in a.fd_names_in
 b_names_in:z0G K a.fd_names_in ["deed"] []
 m_names_in:mg "names_in"=some (.ref a.names_in)
 F_done:Fun K "done" "done" z5A a.done a.fd_done
 b_done:z0G K a.fd_done ["sign","a","b"] []
 m_done:mg "done"=some (.ref a.done)
 F_reckoned:Fun K "reckoned" "reckoned" z2n a.reckoned a.fd_reckoned
 b_reckoned:z0G K a.fd_reckoned ["sign","a","b"] []
 m_reckoned:mg "reckoned"=some (.ref a.reckoned)
 F_beginnings:Fun K "beginnings" "beginnings" z1p a.beginnings a.fd_beginnings
 b_beginnings:z0G K a.fd_beginnings ["program","numbers"] []
 m_beginnings:mg "beginnings"=some (.ref a.beginnings)
 F_Run___init__:Fun K "__init__" "Run.__init__" z11 a.Run___init__ a.fd_Run___init__
 b_Run___init__:z0G K a.fd_Run___init__ ["self","numbers","stores","most"] []
 F_Run_do_block:Fun K "do_block" "Run.do_block" z1l a.Run_do_block a.fd_Run_do_block
 b_Run_do_block:z0G K a.fd_Run_do_block ["self","block"] []
 F_Run_do_deed:Fun K "do_deed" "Run.do_deed" z1z a.Run_do_deed a.fd_Run_do_deed
 b_Run_do_deed:z0G K a.fd_Run_do_deed ["self","deed"] []
 F_Run_do_if:Fun K "do_if" "Run.do_if" z24 a.Run_do_if a.fd_Run_do_if
 b_Run_do_if:z0G K a.fd_Run_do_if ["self","name","then","other"] []
 F_Run_do_while:Fun K "do_while" "Run.do_while" z1j a.Run_do_while a.fd_Run_do_while
 b_Run_do_while:z0G K a.fd_Run_do_while ["self","name","body"] []
 F_Run_do_repeat:Fun K "do_repeat" "Run.do_repeat" z17 a.Run_do_repeat a.fd_Run_do_repeat
 b_Run_do_repeat:z0G K a.fd_Run_do_repeat ["self","rounds","body"] []
 F_Run_do_step:Fun K "do_step" "Run.do_step" z1y a.Run_do_step a.fd_Run_do_step
 b_Run_do_step:z0G K a.fd_Run_do_step ["self"] []
 F_Run_is_spent:Fun K "is_spent" "Run.is_spent" z1h a.Run_is_spent a.fd_Run_is_spent
 b_Run_is_spent:z0G K a.fd_Run_is_spent ["self"] []
 F_Run_do_plain:Fun K "do_plain" "Run.do_plain" z1k a.Run_do_plain a.fd_Run_do_plain
 b_Run_do_plain:z0G K a.fd_Run_do_plain ["self","deed"] []
 F_Run_number_of:Fun K "number_of" "Run.number_of" z16 a.Run_number_of a.fd_Run_number_of
 b_Run_number_of:z0G K a.fd_Run_number_of ["self","value"] []
 F_Run_got_from:Fun K "got_from" "Run.got_from" z1i a.Run_got_from a.fd_Run_got_from
 b_Run_got_from:z0G K a.fd_Run_got_from ["self","store"] []
 F_run:zd1 K "run" "run" z6W a.run a.fd_run (.int 5000 a.dv_run)
 bd_run:z0G K a.fd_run ["program","numbers","most"] [.int 5000 a.dv_run]
 b_run:z0G K a.fd_run ["program","numbers","most"] []
 m_run:mg "run"=some (.ref a.run)
 F__law_cell:Fun K "_law_cell" "_law_cell" z23 a._law_cell a.fd__law_cell
 b__law_cell:z0G K a.fd__law_cell ["_law_script","_law_k"] []
 m__law_cell:mg "_law_cell"=some (.ref a._law_cell)
 F__law_mixed:Fun K "_law_mixed" "_law_mixed" z1P a._law_mixed a.fd__law_mixed
 b__law_mixed:z0G K a.fd__law_mixed ["_law_cell_here","_law_k"] []
 m__law_mixed:mg "_law_mixed"=some (.ref a._law_mixed)
 F__law_names:Fun K "_law_names" "_law_names" z1q a._law_names a.fd__law_names
 b__law_names:z0G K a.fd__law_names ["_law_cell_here","_law_many"] []
 m__law_names:mg "_law_names"=some (.ref a._law_names)
 F__law_number:Fun K "_law_number" "_law_number" z1x a._law_number a.fd__law_number
 b__law_number:z0G K a.fd__law_number ["_law_cell_here","_law_way"] []
 m__law_number:mg "_law_number"=some (.ref a._law_number)
 F__law_value:Fun K "_law_value" "_law_value" z1N a._law_value a.fd__law_value
 b__law_value:z0G K a.fd__law_value ["_law_cell_here","_law_way","_law_names_here"] []
 m__law_value:mg "_law_value"=some (.ref a._law_value)
 F__law_simple:Fun K "_law_simple" "_law_simple" z1v a._law_simple a.fd__law_simple
 b__law_simple:z0G K a.fd__law_simple ["_law_cell_here","_law_m","_law_names_here","_law_shelves","_law_hidden"] []
 m__law_simple:mg "_law_simple"=some (.ref a._law_simple)
 F__law_block:Fun K "_law_block" "_law_block" z1R a._law_block a.fd__law_block
 b__law_block:z0G K a.fd__law_block ["_law_m","_law_x"] []
 m__law_block:mg "_law_block"=some (.ref a._law_block)
 F__law_opened:Fun K "_law_opened" "_law_opened" z1w a._law_opened a.fd__law_opened
 b__law_opened:z0G K a.fd__law_opened ["_law_deed","_law_m","_law_rows","_law_others","_law_hidden"] []
 m__law_opened:mg "_law_opened"=some (.ref a._law_opened)
 F__law_grown:Fun K "_law_grown" "_law_grown" z1Q a._law_grown a.fd__law_grown
 b__law_grown:z0G K a.fd__law_grown ["_law_cells","_law_names_here","_law_shelves"] []
 m__law_grown:mg "_law_grown"=some (.ref a._law_grown)
 F__law_named:Fun K "_law_named" "_law_named" z1O a._law_named a.fd__law_named
 b__law_named:z0G K a.fd__law_named ["_law_body","_law_asks"] []
 m__law_named:mg "_law_named"=some (.ref a._law_named)
 F__law_whole:Fun K "_law_whole" "_law_whole" z1M a._law_whole a.fd__law_whole
 b__law_whole:z0G K a.fd__law_whole ["_law_found"] []
 m__law_whole:mg "_law_whole"=some (.ref a._law_whole)
 F__law_formed:Fun K "_law_formed" "_law_formed" z1c a._law_formed a.fd__law_formed
 b__law_formed:z0G K a.fd__law_formed ["_law_found","_law_names_here","_law_shelves"] []
 m__law_formed:mg "_law_formed"=some (.ref a._law_formed)
 F__law_begins:Fun K "_law_begins" "_law_begins" z0U a._law_begins a.fd__law_begins
 b__law_begins:z0G K a.fd__law_begins ["_law_found","_law_body","_law_asks","_law_numbers","_law_shelves"] []
 m__law_begins:mg "_law_begins"=some (.ref a._law_begins)
 F__law_onward:Fun K "_law_onward" "_law_onward" z1b a._law_onward a.fd__law_onward
 b__law_onward:z0G K a.fd__law_onward ["_law_old","_law_new"] []
 m__law_onward:mg "_law_onward"=some (.ref a._law_onward)
 F__law_asked:Fun K "_law_asked" "_law_asked" z1S a._law_asked a.fd__law_asked
 b__law_asked:z0G K a.fd__law_asked ["_law_program","_law_numbers","_law_most"] []
 m__law_asked:mg "_law_asked"=some (.ref a._law_asked)
 F__law_chain:Fun K "_law_chain" "_law_chain" z1r a._law_chain a.fd__law_chain
 b__law_chain:z0G K a.fd__law_chain ["_law_program","_law_numbers","_law_bound"] []
 m__law_chain:mg "_law_chain"=some (.ref a._law_chain)
 F_law:Fun K "law" "law" z4s a.law a.fd_law
 b_law:z0G K a.fd_law ["_law_script"] []
 m_law:mg "law"=some (.ref a.law)
 z_ValueError:mg "ValueError"=none
 z_bool:mg "bool"=none
 z_dict:mg "dict"=none
 z_enumerate:mg "enumerate"=none
 z_int:mg "int"=none
 z_isinstance:mg "isinstance"=none
 z_len:mg "len"=none
 z_list:mg "list"=none
 z_range:mg "range"=none
 z_set:mg "set"=none
 z_sorted:mg "sorted"=none
 z_str:mg "str"=none
 z_tuple:mg "tuple"=none
 z_zip:mg "zip"=none
 c_LOOPS:mg "LOOPS"=some (.ref a.LOOPS)
 t_LOOPS:∀H:Hp,SqT K H a.LOOPS [.str "while",.str "repeat"]
 c_LOOKERS:mg "LOOKERS"=some (.ref a.LOOKERS)
 t_LOOKERS:∀H:Hp,SqT K H a.LOOKERS [.str "if",.str "while"]
 c_WHEEL:mg "WHEEL"=some (.int 1000000000000000000000000000000 a.tk_WHEEL)
 m_Queue:mg "Queue"=some (.ref a.C_Queue)
 cl_Queue:Cls K a.C_Queue
 k_Queue:Mk K a.C_Queue a.Queue___init__
 mt_Queue_standing:z3r K a.C_Queue "standing" a.Queue_standing
 mt_Queue_lay:z3r K a.C_Queue "lay" a.Queue_lay
 mt_Queue_take:z3r K a.C_Queue "take" a.Queue_take
 mt_Queue_rest:z3r K a.C_Queue "rest" a.Queue_rest
 nf_Queue_laid:z2I K a.C_Queue "laid"
 nf_Queue_gone:z2I K a.C_Queue "gone"
 m_Run:mg "Run"=some (.ref a.C_Run)
 cl_Run:Cls K a.C_Run
 k_Run:Mk K a.C_Run a.Run___init__
 mt_Run_do_block:z3r K a.C_Run "do_block" a.Run_do_block
 mt_Run_do_deed:z3r K a.C_Run "do_deed" a.Run_do_deed
 mt_Run_do_if:z3r K a.C_Run "do_if" a.Run_do_if
 mt_Run_do_while:z3r K a.C_Run "do_while" a.Run_do_while
 mt_Run_do_repeat:z3r K a.C_Run "do_repeat" a.Run_do_repeat
 mt_Run_do_step:z3r K a.C_Run "do_step" a.Run_do_step
 mt_Run_is_spent:z3r K a.C_Run "is_spent" a.Run_is_spent
 mt_Run_do_plain:z3r K a.C_Run "do_plain" a.Run_do_plain
 mt_Run_number_of:z3r K a.C_Run "number_of" a.Run_number_of
 mt_Run_got_from:z3r K a.C_Run "got_from" a.Run_got_from
 nf_Run_numbers:z2I K a.C_Run "numbers"
 nf_Run_queues:z2I K a.C_Run "queues"
 nf_Run_outs:z2I K a.C_Run "outs"
 nf_Run_steps:z2I K a.C_Run "steps"
 nf_Run_most:z2I K a.C_Run "most"
 m_FlowError:mg "FlowError"=some (.ref a.C_FlowError)
 m_Starved:mg "Starved"=some (.ref a.C_Starved)
 x_Starved:zcS K a.C_Starved a.FlowError___init__
 g_Starved:ze0 K a.C_Starved
 i_Starved:XIs K a.C_Starved
 s_Starved_Starved:zeB K a.C_Starved a.C_Starved
 ki_Starved_FlowError:W.kitOne K (.ref a.C_Starved) (.ref a.C_FlowError)=some true
 ki_Starved_Starved:W.kitOne K (.ref a.C_Starved) (.ref a.C_Starved)=some true
 ki_Starved_ValueError:W.kitOne K (.ref a.C_Starved) (.type "ValueError")=some true
 ix_Starved:IsX K a.C_Starved
theorem Tx.r_LOOPS {P:Program}{w:World}{K:W.Frag}{mg:Str->Option Value}{a:Adr}(_:Tx P w K mg a):z1C (.ref a.LOOPS) (.ref a.LOOPS):=rfl
theorem Tx.r_LOOKERS {P:Program}{w:World}{K:W.Frag}{mg:Str->Option Value}{a:Adr}(_:Tx P w K mg a):z1C (.ref a.LOOKERS) (.ref a.LOOKERS):=rfl
theorem Tx.r_WHEEL {P:Program}{w:World}{K:W.Frag}{mg:Str->Option Value}{a:Adr}(_:Tx P w K mg a):z1C (.int 1000000000000000000000000000000) (.int 1000000000000000000000000000000 a.tk_WHEEL):=⟨_,rfl⟩
theorem p30:(10:Int) ^ (30:Int).toNat=1000000000000000000000000000000:=by decide +kernel
theorem p60:(10:Int) ^ (60:Int).toNat=1000000000000000000000000000000000000000000000000000000000000:=by decide +kernel
def z7E:Sp:=fun vs H Q _=>∃(sg:Str) (a b:Int),vs=[.str sg,.int a,.int b]/\OnW a/\OnW b/\Q (.int (zeg sg a b)) H
def zce:Sp:=fun vs H Q _=>∃(sg:Str) (a b:Int),vs=[.str sg,.int a,.int b]/\OnW a/\OnW b/\Q (.int (zaq sg a b)) H
def z6N (K:W.Frag):Sp:=fun vs H Q _=>∃(l:Addr) (ns:List Int) (k:Int),vs=[.ref l,.int k]/\SqL K H l (ns.map V.int)/\0<=k/\∀c:Int,Q (.int c) H
def z5Z:Sp:=fun vs H Q _=>∃c k:Int,vs=[.int c,.int k]/\(0<=k/\k<=2000)/\∀m:Int,m=z7R c k->0<=m->m<2147483647->Q (.int m) H
def z5l:Sp:=fun vs H Q _=>∃c k:Int,vs=[.int c,.int k]/\(0<=k/\k<=2000)/\Q (.int (zcz c k)) H
def z5X:Sp:=fun vs H Q _=>∃c n:Int,vs=[.int c,.int n]/\(0<=n/\n<=6)/\∀H' l (zs:List Str),z0f H H'->H l=none->H' l=some (.lst (zs.map V.str))->(zs.length:Int)=n->(∀z∈zs,Low z)->zs.Nodup->(∀z∈zs,z.length<=1000)->Q (.ref l) H'
def Prs (H:Hp) (l:Addr) (zs:List Str) (f:z4E):Prop:=∃ts:List Addr,H l=some (.lst (ts.map V.ref))/\ts.length=zs.length/\∀(j:Nat) (t:Addr) (z:Str),ts[j]?=some t->zs[j]?=some z->H t=some (.tup [.str z,.int (f z)])
structure Nms (ds:List z0c) (zs:List Str):Prop where
 nd:zs.Nodup
 mem:∀k,k∈zs↔k∈ds.flatMap z0c.names
 so:PyProof.Rows.sortedS zs=true
def z7F:Sp:=fun vs H Q _=>∃(H0:Hp) (v:V) (d:z0c),vs=[v]/\z0f H0 H/\RD H0 v d/\∀H' l,z0f H H'->H l=none->H' l=some (.lst (d.names.map V.str))->Q (.ref l) H'
def z4o:Sp:=fun vs H Q _=>∃(H0:Hp) (v:V) (d:z0c),vs=[v]/\z0f H0 H/\RD H0 v d/\∀H' l bs,z0f H H'->H l=none->H' l=some (.lst (bs.map V.ref))->RLs H0 bs d.inner->Q (.ref l) H'
def z6M (n:Nat):Sp:=fun vs H Q _=>∃(H0:Hp) (b:Addr) (ds:List z0c),vs=[.ref b]/\z0f H0 H/\RL H0 b ds/\z0o ds<n/\(z0k ds).length<=1000/\∀H' l us,z0f H H'->H l=none->H' l=some (.lst us)->RDs H0 us (z0k ds)->Q (.ref l) H'
def z4D (a:Adr) (dx dn dq lo:Addr) (k m:Int):HO:=.ins a.C_Run dx [("numbers",.ref dn),("queues",.ref dq),("outs",.ref lo),("steps",.int k),("most",.int m)]
def z5L (a:Adr) (dx l:Addr) (g:Nat):HO:=.ins a.C_Queue dx [("laid",.ref l),("gone",.int g)]
def z40 (a:Adr):Sp:=fun vs H Q _=>∃(p dx t:Addr),vs=[.ref p,.ref t]/\H p=some (.ins a.C_Queue dx [])/\H t=some (.lst [])/\∀H' l,(∀b o,b≠p->H b=some o->H' b=some o)->H l=none->H' p=some (z5L a dx l 0)->H' l=some (.lst [])->Q .non H'
def z3Z (a:Adr):Sp:=fun vs H Q _=>∃(p dx l:Addr) (xs:List Int) (g:Nat),vs=[.ref p]/\H p=some (z5L a dx l g)/\H l=some (.lst (xs.map V.int))/\Q (.int ((xs.length:Int)-g)) H
def z6O (a:Adr):Sp:=fun vs H Q _=>∃(p dx l:Addr) (xs:List Int) (g:Nat) (v:Int),vs=[.ref p,.int v]/\H p=some (z5L a dx l g)/\H l=some (.lst (xs.map V.int))/\xs.length<10000/\Q .non (upd H l (.lst ((xs++[v]).map V.int)))
def z64 (a:Adr):Sp:=fun vs H Q _=>∃(p dx l:Addr) (xs:List Int) (g:Nat) (v:Int),vs=[.ref p]/\H p=some (z5L a dx l g)/\H l=some (.lst (xs.map V.int))/\xs[g]?=some v/\Q (.int v) (upd H p (z5L a dx l (g+1)))
def z65 (a:Adr):Sp:=fun vs H Q _=>∃(p dx l:Addr) (xs:List Int) (g:Nat),vs=[.ref p]/\H p=some (z5L a dx l g)/\H l=some (.lst (xs.map V.int))/\∀l2,H l2=none->Q (.ref l2) (upd H l2 (.lst ((xs.drop g).map V.int)))
def z31 (K:W.Frag) (a:Adr):Sp:=fun vs H Q _=>∃(e C:Addr) (z y:V),vs=[.ref e,z,y]/\H e=some (XO0 C e)/\zcS K C a.FlowError___init__/\∀dx,H dx=none->Q .non (upd (upd H dx (.xd [("place",y)])) e (XO1 C e dx))
def z4H (a:Adr):Sp:=fun vs H Q _=>∃(r dx dn dq lo:Addr) (k m:Int),vs=[.ref r]/\H r=some (z4D a dx dn dq lo k m)/\Q (.bl (decide (m<=k))) H
def z4p (a:Adr):Sp:=fun vs H Q _=>∃(r dx dn dq lo:Addr) (k m:Int) (va:Val) (zs:List Str) (f:z4E),vs=[.ref r,va.v]/\H r=some (z4D a dx dn dq lo k m)/\H dn=some (.dK (tab zs f))/\(∀x∈va.names,x∈zs)/\Q (.int (zdR f va)) H
structure z5x (a:Adr) (H:Hp) (r dx dn dq lo:Addr) (qa qd ql:Str->Addr) (zs ss:List Str) (k m:Int) (B:Bk):Prop where
 ro:H r=some (z4D a dx dn dq lo k m)
 no:H dn=some (.dK (tab zs B.f))
 qo:H dq=some (.dK (z1X ss fun s=>.ref (qa s)))
 oo:H lo=some (.lst (B.o.map V.int))
 qu:∀s∈ss,H (qa s)=some (z5L a (qd s) (ql s) (B.g s))
 qs:∀s∈ss,H (ql s)=some (.lst ((B.q s).map V.int))
 ja:∀s∈ss,∀t∈ss,s≠t->qa s≠qa t
 jl:∀s∈ss,∀t∈ss,s≠t->ql s≠ql t
 dl:∀s∈ss,ql s≠lo
 dr:∀s∈ss,qa s≠r
 dd:dq≠dn
def z5M (r dn lo:Addr) (qa ql:Str->Addr) (ss:List Str) (c:Addr):Prop:=c=r\/c=dn\/c=lo\/∃s∈ss,c=qa s\/c=ql s
def z7u (own:Addr->Prop) (H H':Hp):Prop:=∀c o,¬ own c->H c=some o->H' c=some o
def z4I (a:Adr):Sp:=fun vs H Q E=>∃(r dx dn dq lo:Addr) (qa qd ql:Str->Addr) (zs ss:List Str) (k m:Int) (B:Bk) (n:Nat) (s:Str),vs=[.ref r,.str s]/\z5x a H r dx dn dq lo qa qd ql zs ss k m B/\s∈ss/\s.length<=1000/\z4v B n /\
 (∀v,(B.q s)[B.g s]?=some v->Q (.int v) (upd H (qa s) (z5L a (qd s) (ql s) (B.g s+1))))/\((B.q s)[B.g s]?=none->∀H' d,z0f H H'->H' d=some (.xd [("place",.int k)])->E (.ref a.C_Starved) (some d) H')
structure zaK (a:Adr) (H H':Hp) (qa qd ql:Str->Addr) (ss:List Str):Prop where
 qu:∀s∈ss,H' (qa s)=some (z5L a (qd s) (ql s) 0)
 qs:∀s∈ss,H' (ql s)=some (.lst [])
 na:∀s∈ss,H (qa s)=none
 nl:∀s∈ss,H (ql s)=none
 ja:∀s∈ss,∀t∈ss,s≠t->qa s≠qa t
 jl:∀s∈ss,∀t∈ss,s≠t->ql s≠ql t
def z4K (a:Adr):Sp:=fun vs H Q _=>∃(r dx dn ls:Addr) (ss:List Str) (m:Int),vs=[.ref r,.ref dn,.ref ls,.int m]/\H r=some (.ins a.C_Run dx [])/\H ls=some (.lst (ss.map V.str))/\ss.Nodup/\ss.length<=6 /\
 ∀H' dq lo qa qd ql,(∀b o,b≠r->H b=some o->H' b=some o)->H' r=some (z4D a dx dn dq lo 0 m)->H' dq=some (.dK (z1X ss fun s=>.ref (qa s)))->H' lo=some (.lst [])->H dq=none->H lo=none->zaK a H H' qa qd ql ss->(∀s∈ss,ql s≠lo)->Q .non H'
def Sto (H:Hp) (l:Addr) (ss:List Str):Prop:=∃ts:List Addr,H l=some (.lst (ts.map V.ref))/\ts.length=ss.length/\∀(j:Nat) (t:Addr) (s:Str),ts[j]?=some t->ss[j]?=some s->∃c:Int,H t=some (.tup [.str s,.int c])
def Lef (H:Hp) (l:Addr) (ss:List Str) (B:Bk):Prop:=∃us:List Addr,H l=some (.lst (us.map V.ref))/\us.length=ss.length/\∀(j:Nat) (u:Addr) (s:Str),us[j]?=some u->ss[j]?=some s->∃x,H u=some (.tup [.str s,.ref x])/\H x=some (.lst (((B.q s).drop (B.g s)).map V.int))
def z5o (a:Adr):Sp:=fun vs H Q _=>∃(r dx dn dq lo:Addr) (k m:Int),vs=[.ref r]/\H r=some (z4D a dx dn dq lo k m)/\(m<=k->Q (.bl false) H)/\(k<m->Q (.bl true) (upd H r (z4D a dx dn dq lo (k+1) m)))
def z9I:z0c->Prop
 |.cond _ _ _=>False
 |.whl _ _=>False
 |.rep _ _=>False
 |_=>True
def z4J (a:Adr):Sp:=fun vs H Q E=>∃(r dx dn dq lo p:Addr) (qa qd ql:Str->Addr) (zs ss:List Str) (k m:Int) (B:Bk) (n:Nat) (d:z0c),vs=[.ref r,.ref p]/\z5x a H r dx dn dq lo qa qd ql zs ss k m B/\RD H (.ref p) d/\PlW zs ss d/\z9I d/\zs.Nodup/\zs.length<900/\(∀s∈ss,s.length<=1000)/\z4v B n/\n<9000 /\
 (∀B' H',stp B d=some B'->z7u (z5M r dn lo qa ql ss) H H'->z5x a H' r dx dn dq lo qa qd ql zs ss k m B'->Q .non H')/\(stp B d=none->∀H' x,z0f H H'->H' x=some (.xd [("place",.int k)])->E (.ref a.C_Starved) (some x) H')
def zbD:List Pf->Prop
 |⟨_::_,_⟩::_=>True
 |_=>False
def z3V (B:Bk):List Pf->Prop
 |⟨d::r,c⟩::p=>z2B B d r c p=none
 |_=>False
structure z7t (a:Adr) (H0 H:Hp) (r dx dn dq lo:Addr) (qa qd ql:Str->Addr) (zs ss:List Str) (k m:Nat) (B:Bk):Prop where
 same:z0f H0 H
 own:∀c,z5M r dn lo qa ql ss c->H0 c=none
 run:z5x a H r dx dn dq lo qa qd ql zs ss k m B
 bk:z4v B k
 km:k<=m
 m9:m<9000
 nd:zs.Nodup
 few:zs.length<900
 sl:∀s∈ss,s.length<=1000
def z9c (a:Adr) (H0 H:Hp) (r dx dn dq lo:Addr) (qa qd ql:Str->Addr) (zs ss:List Str) (k m:Nat) (B:Bk) (F G:List z0c->List Pf->List Pf) (Q:VK) (E:XK):Prop:=
 (∀B' k' H',(∀r' p',z2l m (F r' p') B k (G r' p') B' k')->z7u (z5M r dn lo qa ql ss) H H'->z7t a H0 H' r dx dn dq lo qa qd ql zs ss k' m B'->Q (.bl true) H') /\
 (∀B' H',(∀r' p',∃S,z2l m (F r' p') B k S B' m/\zbD S)->z7u (z5M r dn lo qa ql ss) H H'->z7t a H0 H' r dx dn dq lo qa qd ql zs ss m m B'->Q (.bl false) H') /\
 (∀B' k' H' x,(∀r' p',∃S,z2l m (F r' p') B k S B' k'/\z3V B' S)->k'<m->z7u (z5M r dn lo qa ql ss) H H'->H' x=some (.xd [("place",.int k')])->E (.ref a.C_Starved) (some x) H')
def onD (d:z0c):List z0c->List Pf->List Pf:=fun r p=>⟨d::r,none⟩::p
def zbL:List z0c->List Pf->List Pf:=fun r p=>⟨r,none⟩::p
def onB (ds:List z0c):List z0c->List Pf->List Pf:=fun _ p=>⟨ds,none⟩::p
def zeM:List z0c->List Pf->List Pf:=fun _ p=>p
def z3j (a:Adr) (n:Nat):Sp:=fun vs H Q E=>∃(H0:Hp) (r dx dn dq lo p:Addr) (qa qd ql:Str->Addr) (zs ss:List Str) (k m:Nat) (B:Bk) (d:z0c),vs=[.ref r,.ref p]/\z7t a H0 H r dx dn dq lo qa qd ql zs ss k m B/\RD H0 (.ref p) d/\z1W zs ss [d]/\d.depth<n/\z9c a H0 H r dx dn dq lo qa qd ql zs ss k m B (onD d) zbL Q E
def z14 (a:Adr) (n:Nat):Sp:=fun vs H Q E=>∃(H0:Hp) (r dx dn dq lo b:Addr) (qa qd ql:Str->Addr) (zs ss:List Str) (k m:Nat) (B:Bk) (ds:List z0c),vs=[.ref r,.ref b]/\z7t a H0 H r dx dn dq lo qa qd ql zs ss k m B/\RL H0 b ds/\z1W zs ss ds/\z0o ds<n/\z9c a H0 H r dx dn dq lo qa qd ql zs ss k m B (onB ds) zeM Q E
def z4h (a:Adr) (n:Nat):Sp:=fun vs H Q E=>∃(H0:Hp) (r dx dn dq lo t o:Addr) (qa qd ql:Str->Addr) (zs ss:List Str) (k m:Nat) (B:Bk) (x:Str) (ts os:List z0c),vs=[.ref r,.str x,.ref t,.ref o]/\z7t a H0 H r dx dn dq lo qa qd ql zs ss k m B/\RL H0 t ts/\RL H0 o os/\z1W zs ss [.cond x ts os]/\(z0c.cond x ts os).depth<n/\z9c a H0 H r dx dn dq lo qa qd ql zs ss k m B (onD (.cond x ts os)) zbL Q E
def z30 (a:Adr) (n:Nat):Sp:=fun vs H Q E=>∃(H0:Hp) (r dx dn dq lo b:Addr) (qa qd ql:Str->Addr) (zs ss:List Str) (k m:Nat) (B:Bk) (x:Str) (bs:List z0c),vs=[.ref r,.str x,.ref b]/\z7t a H0 H r dx dn dq lo qa qd ql zs ss k m B/\RL H0 b bs/\z1W zs ss [.whl x bs]/\(z0c.whl x bs).depth<n/\z9c a H0 H r dx dn dq lo qa qd ql zs ss k m B (onD (.whl x bs)) zbL Q E
def z2Q (a:Adr) (n:Nat):Sp:=fun vs H Q E=>∃(H0:Hp) (r dx dn dq lo b:Addr) (qa qd ql:Str->Addr) (zs ss:List Str) (k m:Nat) (B:Bk) (c:Int) (bs:List z0c),vs=[.ref r,.int c,.ref b]/\z7t a H0 H r dx dn dq lo qa qd ql zs ss k m B/\RL H0 b bs/\z1W zs ss [.rep c bs]/\(z0c.rep c bs).depth<n/\z9c a H0 H r dx dn dq lo qa qd ql zs ss k m B (onD (.rep c bs)) zbL Q E
def zb1:Sp:=fun vs H Q _=>∃(b:Addr) (ds:List z0c) (C:List Str),vs=[.ref b]/\RL H b ds/\z0o ds<=12/\(z0k ds).length<=300/\(∀k∈(z0k ds).flatMap z0c.names,k∈C)/\C.length<64/\∀H' l zs,z0f H H'->H l=none->H' l=some (.lst (zs.map V.str))->zs.Nodup->(∀k,k∈zs↔k∈(z0k ds).flatMap z0c.names)->PyProof.Rows.sortedS zs=true->Q (.ref l) H'
structure Vrs (ak:List Str) (ds:List z0c) (zs:List Str):Prop where
 nd:zs.Nodup
 mem:∀k,k∈zs↔k∈ak\/k∈(z0k ds).flatMap z0c.names
 so:PyProof.Rows.sortedS zs=true
 few:zs.length<=2000
def z4G:Sp:=fun vs H Q _=>∃(p a0 a1 b:Addr) (ak:List Str) (ds:List z0c) (C:List Str),vs=[.ref p]/\H p=some (.tup [.ref a0,.ref a1,.ref b])/\H a0=some (.lst (ak.map V.str))/\RL H b ds/\z0o ds<=12/\(z0k ds).length<=300/\ak.length<=300/\(∀x∈ak,x∈C)/\(∀k∈(z0k ds).flatMap z0c.names,k∈C)/\C.length<64/\∀H' l zs,z0f H H'->H l=none->H' l=some (.lst (zs.map V.str))->Vrs ak ds zs->Q (.ref l) H'
def z2z (ps:List (Str×Int)):z4E:=ps.foldl (fun f p=>z6B f p.1 (p.2 % 1000000000000000000000000000000)) fun _=>0
def z5U:Sp:=fun vs H Q _=>∃(p a0 a1 b ln:Addr) (ak:List Str) (ns:List Int) (ds:List z0c) (C:List Str),vs=[.ref p,.ref ln]/\H p=some (.tup [.ref a0,.ref a1,.ref b])/\H a0=some (.lst (ak.map V.str))/\H ln=some (.lst (ns.map V.int))/\RL H b ds/\z0o ds<=12/\(z0k ds).length<=300/\ak.length<=300/\ns.length<=300/\(∀x∈ak,x∈C)/\(∀k∈(z0k ds).flatMap z0c.names,k∈C)/\C.length<64/\∀H' d zs,z0f H H'->H d=none->H' d=some (.dK (tab zs (z2z (ak.zip ns))))->Vrs ak ds zs->Q (.ref d) H'
def Bg (f:z4E):Bk:=⟨f,fun _=>[],fun _=>0,[]⟩
def zdf (a:Adr):Sp:=fun vs H Q E=>∃(p a0 a1 b ln:Addr) (m:Nat) (ak:List Str) (ns:List Int) (ds:List z0c) (C ss:List Str),vs=[.ref p,.ref ln,.int m]/\H p=some (.tup [.ref a0,.ref a1,.ref b])/\H a0=some (.lst (ak.map V.str))/\Sto H a1 ss/\H ln=some (.lst (ns.map V.int))/\RL H b ds/\z0o ds<=12/\(z0k ds).length<=300/\ak.length<=300/\ns.length<=300/\(∀x∈ak,x∈C)/\z1W C ss ds/\C.length<64/\ss.Nodup/\ss.length<=6/\(∀s∈ss,s.length<=1000)/\m<9000 /\
 (∀B' k' S H' x,z2l m [⟨ds,none⟩] (Bg (z2z (ak.zip ns))) 0 S B' k'->z3V B' S->k'<m->z0f H H'->H' x=some (.xd [("place",.int k')])->E (.ref a.C_Starved) (some x) H') /\
 (∀e B' (k':Nat) S H' t lo lf ll zs,z2l m [⟨ds,none⟩] (Bg (z2z (ak.zip ns))) 0 S B' k'->((e=true/\S=[])\/(e=false/\zbD S/\k'=m))->z4v B' k'->k'<=m->z0f H H'->H' t=some (.tup [.bl e,.int k',.ref lo,.ref lf,.ref ll])->H' lo=some (.lst (B'.o.map V.int))->Prs H' lf zs B'.f->Vrs ak ds zs->Lef H' ll ss B'->Q (.ref t) H')
def z5W:Sp:=fun vs H Q _=>∃(c k:Int) (l:Addr) (zs:List Str),vs=[.int c,.int k,.ref l]/\(0<=k/\k<=2000)/\H l=some (.lst (zs.map V.str))/\0<zs.length/\Q (zaU c k zs).v H
def z5i:Sp:=fun vs H Q _=>∃(c m:Int) (ln lr:Addr) (zs ss:List Str) (hid:Bool),vs=[.int c,.int m,.ref ln,.ref lr,.bl hid]/\H ln=some (.lst (zs.map V.str))/\H lr=some (.lst (ss.map V.str))/\0<zs.length/\0<=m /\
 ∀p xs,H p=none->(∀H0:Hp,H0 p=some (.tup xs)->RD H0 (.ref p) (z7v c m zs ss hid))->Q (.ref p) (upd H p (.tup xs))
def z62:Sp:=fun vs H Q _=>∃(m:Int) (x:Str),vs=[.int m,.str x]/\0<=m /\
 ∀H' c p e vy,z0f H H'->H c=none->H p=none->(m % 8=4->H e=none/\e≠c/\H' e=some (.lst []))->H' c=some (.lst vy)->H' p=some (.tup (⟨⟨opF m x,[],false,0⟩,c,p,e⟩:Fz).tupV)->
  ((vy=[]/\odF m x=[])\/∃q xs,vy=[.ref q]/\H q=none/\H' q=some (.tup xs)/\∀H0:Hp,H0 q=some (.tup xs)->RDs H0 [.ref q] (odF m x))->Q (.ref p) H'
def z5j:Sp:=fun vs H Q _=>∃(p s0 s1 s2 c0:Addr) (m:Int) (y:Fz) (nm:Str) (ws rs os hs:List V) (h:Bool),vs=[.ref p,.int m,.ref s0,.ref s1,.ref s2]/\0<=m/\H p=some (.tup y.tupV)/\y.f.op=opF m nm/\H s0=some (.lst (rs++[.ref c0]))/\H s1=some (.lst os)/\H s2=some (.lst (hs++[.bl h]))/\H c0=some (.lst ws)/\s0≠s1/\s0≠s2/\s1≠s2/\c0≠s0/\c0≠s1/\c0≠s2/\rs.length<=100/\os.length<=100/\hs.length<=100/\ws.length<=1000 /\
 Q .non (upd (upd (upd (upd H c0 (.lst (ws++[.ref p]))) s1 (.lst (os++[if z68 m=1 then .ref y.e else .non]))) s2 (.lst ((hs++[.bl h])++[.bl (z7Y m h)]))) s0 (.lst ((rs++[.ref c0])++[.ref y.c])))
def z60:Sp:=fun vs H Q _=>∃(lc ln lr:Addr) (cells:List Int) (zs ss:List Str),vs=[.ref lc,.ref ln,.ref lr]/\H lc=some (.lst (cells.map V.int))/\cells.length<=63/\H ln=some (.lst (zs.map V.str))/\H lr=some (.lst (ss.map V.str))/\0<zs.length/\∀H' b,z0f H H'->H b=none->RL H' b (z87 zs ss cells)->Q (.ref b) H'
def z5Y:Sp:=fun vs H Q _=>∃(b la:Addr) (ds:List z0c) (ak C ss:List Str),vs=[.ref b,.ref la]/\RL H b ds/\(z0k ds).length<=300/\H la=some (.lst (ak.map V.str))/\(∀x∈ak,x∈C)/\z1W C ss ds/\C.length<64/\∀H' l zs,z0f H H'->H l=none->H' l=some (.lst (zs.map V.str))->Vrs ak ds zs->Q (.ref l) H'
def z9b (e:Bool) (S:List Pf) (k m:Nat):Prop:=(e=true/\S=[])\/(e=false/\zbD S/\k=m)
def z2G (H:Hp) (u:Addr) (ks ss:List Str) (e:Bool) (B:Bk) (k:Nat):Prop:=∃lo lf ll,H u=some (.tup [.bl e,.int k,.ref lo,.ref lf,.ref ll])/\H lo=some (.lst (B.o.map V.int))/\Prs H lf ks B.f/\Lef H ll ss B
def zaL (H:Hp) (fv pv:V) (m:Nat) (ks ss:List Str) (S:List Pf) (B:Bk) (k:Nat):Prop:=(z3V B S/\k<m/\fv=.non/\pv=.int k)\/∃e u,z9b e S k m/\fv=.ref u/\pv=.non/\z2G H u ks ss e B k
def z5V:Sp:=fun vs H Q _=>∃n:Int,vs=[.int n]/\Q (.bl true) H
def z5m:Sp:=fun vs H Q _=>∃(u lk lsh:Addr) (ks ss:List Str) (e:Bool) (B:Bk) (k:Nat),vs=[.ref u,.ref lk,.ref lsh]/\z2G H u ks ss e B k/\H lk=some (.lst (ks.map V.str))/\H lsh=some (.lst (ss.map V.str))/\ks.length<=6/\ss.length<=6/\z4v B k/\k<=100/\(∀v∈B.o,OnW v)/\∀H',z0f H H'->Q (.bl true) H'
def z5n:Sp:=fun vs H Q _=>∃(u b la ln lsh:Addr) (ks ss ak C:List Str) (ds:List z0c) (nu:List Int) (e:Bool),vs=[.ref u,.ref b,.ref la,.ref ln,.ref lsh]/\z2G H u ks ss e (Bg (z2z (ak.zip nu))) 0/\e=ds.isEmpty/\RL H b ds/\(z0k ds).length<=300/\SeqAt.shaped (.list (z2Y ds))=true/\H la=some (.lst (ak.map V.str))/\H ln=some (.lst (nu.map V.int))/\ak.length=nu.length/\(∀x∈ak,x∈C)/\z1W C ss ds/\C.length<64/\ak.length<=300/\Vrs ak ds ks/\H lsh=some (.lst (ss.map V.str))/\ss.length<=6/\(∀s∈ks,PyData.strOk s=true)/\(∀s∈ss,PyData.strOk s=true)/\∀H',z0f H H'->Q (.bl true) H'
def z5k:Sp:=fun vs H Q _=>∃(u v:Addr) (ks ss:List Str) (e:Bool) (B B':Bk) (k n:Nat),vs=[.ref u,.ref v]/\z2G H u ks ss false B k/\z2G H v ks ss e B' (k+1)/\One B B'/\ks.Nodup/\ss.Nodup/\ks.length<=6/\ss.length<=6/\z4v B n/\n<=100/\(∀s∈ks,PyData.strOk s=true)/\∀H',z0f H H'->Q (.bl true) H'
structure zd0 (H:Hp) (p a0 a1 b ln:Addr) (ak:List Str) (nu:List Int) (ds:List z0c) (C ss:List Str):Prop where
 top:H p=some (.tup [.ref a0,.ref a1,.ref b])
 h0:H a0=some (.lst (ak.map V.str))
 sto:Sto H a1 ss
 hn:H ln=some (.lst (nu.map V.int))
 rl:RL H b ds
 dp:z0o ds<=12
 fl:(z0k ds).length<=300
 al:ak.length<=300
 nl:ak.length=nu.length
 akC:∀x∈ak,x∈C
 bo:z1W C ss ds
 c6:C.length<=6
 snd:ss.Nodup
 s6:ss.length<=6
 sl:∀s∈ss,s.length<=1000
 kok:∀s∈C,PyData.strOk s=true
 sok:∀s∈ss,PyData.strOk s=true
 shb:SeqAt.shaped (.list (z2Y ds))=true
def z63:Sp:=fun vs H Q _=>∃(p a0 a1 b ln:Addr) (m:Nat) (ak:List Str) (nu:List Int) (ds:List z0c) (C ss:List Str),vs=[.ref p,.ref ln,.int m]/\zd0 H p a0 a1 b ln ak nu ds C ss/\m<9000 /\
 ∀q fv pv S B (k:Nat) ks H',z2l m [⟨ds,none⟩] (Bg (z2z (ak.zip nu))) 0 S B k->zaL H' fv pv m ks ss S B k->(fv=.non\/Vrs ak ds ks)->z0f H H'->H' q=some (.tup [fv,pv])->Q (.ref q) H'
def z61:Sp:=fun vs H Q _=>∃(p a0 a1 b ln:Addr) (m:Nat) (ak:List Str) (nu:List Int) (ds:List z0c) (C ss:List Str),vs=[.ref p,.ref ln,.int m]/\zd0 H p a0 a1 b ln ak nu ds C ss/\m<=30/\∀H',z0f H H'->Q (.bl true) H'
def z8f (K:W.Frag):Sp:=fun vs H Q _=>∃(a:Addr) (ns:List Int),vs=[.ref a]/\SqL K H a (ns.map V.int)/\ns.length<=63/\(∀n∈ns,Builtin.Int.intBits n<=2 ^ 20)/\ze1 H/\∀H',Q (.bl true) H'
theorem ln1:1<=sizeLine:=by decide
theorem ln2:2<=sizeLine:=by decide
theorem ln3:3<=sizeLine:=by decide
theorem ln4:4<=sizeLine:=by decide
theorem ln5:5<=sizeLine:=by decide
theorem z9g {x:Int}(h:OnW x):Builtin.Int.intBits x<=2 ^ 20:=qG ((PySem.intBits_le_iff (m:=100)).mpr (by have:=h.lo;have:=h.hi;omega)) (by decide)
theorem zd3 {x:Int}(h:OnW x):x.natAbs.log2<9000:=Nat.lt_trans (zdC (by have:=h.lo;have:=h.hi;omega)) (by decide)
theorem z5g {x:V}{r:List V}:atI (x::r) 0=some x:=show atI (x::r) ((0:Nat):Int)=some x from z0A rfl
theorem z8I {x y:V}{r:List V}:atI (x::y::r) 1=some y:=show atI (x::y::r) ((1:Nat):Int)=some y from z0A rfl
theorem z6D {x y z:V}{r:List V}:atI (x::y::z::r) 2=some z:=show atI (x::y::z::r) ((2:Nat):Int)=some z from z0A rfl
theorem zbJ {a b c d e:V}:List.lookup ("numbers":Str) [(("numbers":Str),a),("queues",b),("outs",c),("steps",d),("most",e)]=some a:=z27
theorem zeI {a b c d e:V}:List.lookup ("outs":Str) [(("numbers":Str),a),("queues",b),("outs",c),("steps",d),("most",e)]=some c:=(z0u (by decide +kernel)).trans ((z0u (by decide +kernel)).trans z27)
theorem zdU {a b c d e:V}:List.lookup ("steps":Str) [(("numbers":Str),a),("queues",b),("outs",c),("steps",d),("most",e)]=some d:=(z0u (by decide +kernel)).trans ((z0u (by decide +kernel)).trans ((z0u (by decide +kernel)).trans z27))
theorem zf3 {a b c d e:V}:List.lookup ("most":Str) [(("numbers":Str),a),("queues",b),("outs",c),("steps",d),("most",e)]=some e:=(z0u (by decide +kernel)).trans ((z0u (by decide +kernel)).trans ((z0u (by decide +kernel)).trans ((z0u (by decide +kernel)).trans z27)))
theorem z1d {k:Str}{a b c d e:V}(h:((k == ("numbers":Str)) || (k == ("queues":Str)) || (k == ("outs":Str)) || (k == ("steps":Str)) || (k == ("most":Str)))=false):List.lookup k [(("numbers":Str),a),("queues",b),("outs",c),("steps",d),("most",e)]=none:=by
 simp only[Bool.or_eq_false_iff]at h
 rw[z0u h.1.1.1.1,z0u h.1.1.1.2,z0u h.1.1.2,z0u h.1.2,z0u h.2]
 rfl
section
variable {P:Program}{w:World}{K:W.Frag}{mg:Str->Option Value}{base:Heap}{a:Adr}
theorem z7M (T:Tx P w K mg a):z1B P w K mg base CX0 1 a.reckoned a.fd_reckoned ["sign","a","b"] z7E:=by
 refine T.F_reckoned.ok z7I (fun vs H Q E h=>?_) (fun cdv A outer s H vs Q E hr h=>?_)
 ·obtain⟨_,_,_,rfl,_⟩:=h
  rfl
 obtain⟨sg,x,y,rfl,hx,hy,k⟩:=h
 refine⟨_,(z04 (z0v (z0b z0W (pv 0) z0x (z0h _)) (z05 (z0e (z0g z1Z (pv 1) (pv 2)))) z0i)
  (z04 (z0v (z0b z0W (pv 0) z0x (z0h _)) (z05 (z0e (z0g z51 (pv 1) (pv 2)))) z0i)
  (z04 (z0v (z0b z0W (pv 0) z0x (z0h _)) (z05 (z0e (z0g z3p (pv 1) (pv 2)))) z0i)
  (z04 (z0v (z0b z0W (pv 0) z0x (z0h _)) (z05 (z0e (z0g zdA (pv 1) (pv 2)))) z0i)
  (z04 (z0v (z0b z0W (pv 0) z0x (z0h _)) (z05 (z0e (z0g zep (pv 1) (pv 2)))) z0i)
  (z05 (z0e (z0g zdz (pv 1) (pv 2))))))))),?_⟩
 unfold zeg at k
 walk_at "rd"
 refine z2X (fun c=>?_) (fun c=>?_)
 ·rw[if_pos (z2Z c)]at k
  walk_at "rd"
  exact k
 rw[if_neg (z4g c)]at k
 walk_at "rd"
 refine z2X (fun c=>?_) (fun c=>?_)
 ·rw[if_pos (z2Z c)]at k
  walk_at "rd"
  exact k
 rw[if_neg (z4g c)]at k
 walk_at "rd"
 refine z2X (fun c=>?_) (fun c=>?_)
 ·rw[if_pos (z2Z c)]at k
  walk_at "rd"
  exact⟨IntMulOk.of_bits (z9g hx) (z9g hy),k⟩
 rw[if_neg (z4g c)]at k
 walk_at "rd"
 refine z2X (fun c=>?_) (fun c=>?_)
 ·rw[if_pos (z2Z c)]at k
  walk_at "rd"
  exact k
 rw[if_neg (z4g c)]at k
 walk_at "rd"
 refine z2X (fun c=>?_) (fun c=>?_)
 ·rw[if_pos (z2Z c)]at k
  walk_at "rd"
  exact k
 rw[if_neg (z4g c)]at k
 walk_at "rd"
 exact k
theorem zcw (T:Tx P w K mg a):z1B P w K mg base CX0 2 a.done a.fd_done ["sign","a","b"] zce:=by
 refine T.F_done.ok zci (fun vs H Q E h=>?_) (fun cdv A outer s H vs Q E hr h=>?_)
 ·obtain⟨_,_,_,rfl,_⟩:=h
  rfl
 obtain⟨sg,x,y,rfl,hx,hy,k⟩:=h
 refine⟨_,(z04 (z0v (z0b z0W (pv 0) z0x (z0h _)) (z05 (z0e (z3h (z0b z0W (pv 2) z03 (z0h _)) z03 (z0g zbd (pv 1) (pv 2))))) z0i)
  (z04 (z0v (z0b z0W (pv 0) z0x (z0h _)) (z05 (z0e (z3h (z0b z9S (pv 1) (pv 2) (z0h _)) z03 z03))) z0i)
  (z04 (z0v (z0b z0W (pv 0) z0x (z0h _)) (z05 (z0e (z3h (z0b z0W (pv 1) (pv 2) (z0h _)) z03 z03))) z0i)
  (z05 (z0e (z0g z0w (z0q (z7M T) (hr.mono (by decide)) rfl T.m_reckoned T.F_reckoned.kp T.b_reckoned .nil z0K (z00 (pv 0) (z00 (pv 1) (z00 (pv 2) z07)))) (z6g rfl T.c_WHEEL T.r_WHEEL))))))),?_⟩
 unfold zaq at k
 walk_at "rd"
 refine z2X (fun c=>?_) (fun c=>?_)
 ·rw[if_pos (z2Z c)]at k
  walk_at "rd"
  refine z2X (fun c=>?_) (fun c=>?_)
  ·rw[if_pos (z1L c)]at k
   exact k
  ·have c':=z2F c
   rw[if_neg c']at k
   walk_at "rd"
   exact⟨⟨by have:=hy.lo;omega,zd3 hy⟩,k⟩
 rw[if_neg (z4g c)]at k
 walk_at "rd"
 refine z2X (fun c=>?_) (fun c=>?_)
 ·rw[if_pos (z2Z c)]at k
  walk_at "rd"
  refine z2X (fun c=>?_) (fun c=>?_)
  ·rw[if_pos (of_decide_eq_true c)]at k
   exact k
  ·rw[if_neg (fun z=>c (decide_eq_true z))]at k
   exact k
 rw[if_neg (z4g c)]at k
 walk_at "rd"
 refine z2X (fun c=>?_) (fun c=>?_)
 ·rw[if_pos (z2Z c)]at k
  walk_at "rd"
  refine z2X (fun c=>?_) (fun c=>?_)
  ·rw[if_pos (z1L c)]at k
   exact k
  ·rw[if_neg (z2F c)]at k
   exact k
 rw[if_neg (z4g c)]at k
 walk_at "rd"
 refine⟨sg,x,y,rfl,hx,hy,?_⟩
 walk_at "rd"
 exact k
theorem z4t (T:Tx P w K mg a):z1B P w K mg base CX0 1 a.blocks_within a.fd_blocks_within ["deed"] z4o:=by
 refine T.F_blocks_within.ok z4q (fun vs H Q E h=>?_) (fun cdv A outer s H vs Q E hr h=>?_)
 ·obtain⟨_,_,_,rfl,_⟩:=h
  rfl
 obtain⟨H0,v,d,rfl,e0,hd,k⟩:=h
 refine⟨_,(z04 (z0v (z0b z0W (z0j z0d (pv 0) z03 (fun _ _=>rfl)) z0x (z0h _)) (z05 (z0e (z0N (z00 (z0j z0d (pv 0) z03 (fun _ _=>rfl)) (z00 (z0j z0d (pv 0) z03 (fun _ _=>rfl)) z07))))) z0i)
  (z04 (z0v (z0b z3K (z0j z0d (pv 0) z03 (fun _ _=>rfl)) (z6g rfl T.c_LOOPS T.r_LOOPS) (by with_unfolding_all rfl)) (z05 (z0e (z0N (z00 (z0j z0d (pv 0) z03 (fun _ _=>rfl)) z07)))) z0i)
  (z05 (z0e (z0N z07))))),?_⟩
 have nil:∀p,H p=none->d.inner=[]->Q (.ref p) (upd H p (.lst [])):=fun p hp z=>k _ p [] (z0f.new hp _) hp z01 (by rw[z];exact .nil)
 have one:∀p b bs,H p=none->d.inner=[bs]->RL H0 b bs->Q (.ref p) (upd H p (.lst [.ref b])):=fun p b bs hp z hb=>k _ p [b] (z0f.new hp _) hp z01 (by rw[z];exact .cons hb .nil)
 cases hd with
 |cond h h1 h2=>
  refine⟨_,rfl,_,_,_,_,rfl,rfl,SqT.of (e0 _ _ h),rfl,rfl,_,rfl,?_⟩
  walk_at "yes"
  refine⟨_,rfl,_,_,_,_,rfl,rfl,SqT.of (e0 _ _ h),rfl,_,rfl,_,_,_,_,rfl,rfl,SqT.of (e0 _ _ h),rfl,ln2,fun p hp=>?_⟩
  exact k _ p [_,_] (z0f.new hp _) hp z01 (.cons h1 (.cons h2 .nil))
 |whl h h1=>
  refine⟨_,rfl,_,_,_,_,rfl,rfl,SqT.of (e0 _ _ h),rfl,rfl,_,rfl,?_⟩
  walk_at "no"
  refine⟨_,rfl,_,_,_,_,rfl,rfl,SqT.of (e0 _ _ h),rfl,_,_,rfl,.inr (T.t_LOOPS _),rfl,rfl,_,rfl,?_⟩
  walk_at "yes"
  exact⟨_,rfl,_,_,_,_,rfl,rfl,SqT.of (e0 _ _ h),rfl,ln1,fun p hp=>one p _ _ hp rfl h1⟩
 |rep h h1=>
  refine⟨_,rfl,_,_,_,_,rfl,rfl,SqT.of (e0 _ _ h),rfl,rfl,_,rfl,?_⟩
  walk_at "no"
  refine⟨_,rfl,_,_,_,_,rfl,rfl,SqT.of (e0 _ _ h),rfl,_,_,rfl,.inr (T.t_LOOPS _),rfl,rfl,_,rfl,?_⟩
  walk_at "yes"
  exact⟨_,rfl,_,_,_,_,rfl,rfl,SqT.of (e0 _ _ h),rfl,ln1,fun p hp=>one p _ _ hp rfl h1⟩
 |set h=>
  refine⟨_,rfl,_,_,_,_,rfl,rfl,SqT.of (e0 _ _ h),rfl,rfl,_,rfl,?_⟩
  walk_at "no"
  refine⟨_,rfl,_,_,_,_,rfl,rfl,SqT.of (e0 _ _ h),rfl,_,_,rfl,.inr (T.t_LOOPS _),rfl,rfl,_,rfl,?_⟩
  walk_at "no"
  exact⟨qA _,fun p hp=>nil p hp rfl⟩
 |put h=>
  refine⟨_,rfl,_,_,_,_,rfl,rfl,SqT.of (e0 _ _ h),rfl,rfl,_,rfl,?_⟩
  walk_at "no"
  refine⟨_,rfl,_,_,_,_,rfl,rfl,SqT.of (e0 _ _ h),rfl,_,_,rfl,.inr (T.t_LOOPS _),rfl,rfl,_,rfl,?_⟩
  walk_at "no"
  exact⟨qA _,fun p hp=>nil p hp rfl⟩
 |get h=>
  refine⟨_,rfl,_,_,_,_,rfl,rfl,SqT.of (e0 _ _ h),rfl,rfl,_,rfl,?_⟩
  walk_at "no"
  refine⟨_,rfl,_,_,_,_,rfl,rfl,SqT.of (e0 _ _ h),rfl,_,_,rfl,.inr (T.t_LOOPS _),rfl,rfl,_,rfl,?_⟩
  walk_at "no"
  exact⟨qA _,fun p hp=>nil p hp rfl⟩
 |give h=>
  refine⟨_,rfl,_,_,_,_,rfl,rfl,SqT.of (e0 _ _ h),rfl,rfl,_,rfl,?_⟩
  walk_at "no"
  refine⟨_,rfl,_,_,_,_,rfl,rfl,SqT.of (e0 _ _ h),rfl,_,_,rfl,.inr (T.t_LOOPS _),rfl,rfl,_,rfl,?_⟩
  walk_at "no"
  exact⟨qA _,fun p hp=>nil p hp rfl⟩
def z9r (vs:List V):List V:=vs.filter fun v=>match v with|.str _=>true|_=>false
theorem z7N (T:Tx P w K mg a):z1B P w K mg base CX0 1 a.names_in a.fd_names_in ["deed"] z7F:=by
 refine T.F_names_in.ok z4N (fun vs H Q E h=>?_) (fun cdv A outer s H vs Q E hr h=>?_)
 ·obtain⟨_,_,_,rfl,_⟩:=h
  rfl
 obtain⟨H0,v,d,rfl,e0,hd,k⟩:=h
 refine⟨_,(z04 (z0p (i:=1) z4N.nd rfl (Or.inl rfl) (z0j z0d (pv 0) z03 (fun _ _=>rfl)))
  (z04 (z0v (z0b z0W (pv 1) z0x (z0h _)) (z05 (z0e (z2M (k:=1) (Nc:=["word"]) (js:=[]) (show z0J (z02 z21) ["deed","kind"] _ 1 ["word"] []from z0J.mk rfl (by decide +kernel) (by decide +kernel) (by decide +kernel) rfl (by decide +kernel)) rfl (zbK (z0V (z00 (z0j z0d (pv 0) z03 (fun _ _=>rfl)) (z00 (z0j z0d (pv 0) z03 (fun _ _=>rfl)) (z00 (z0j z0d (pv 0) z03 (fun _ _=>rfl)) z07))))) (fun _ _ _ _ _=>(z0s (i:=0) (show List.Nodup (["word"]:List Str)from by decide +kernel) rfl (Or.inl rfl))) (fun _ _ _ _ _=>(z9G (z0M (z0n (zaE (K:=K) rfl) rfl T.z_isinstance PyProof.Rows.Boot.«isinstance» (z00 (pv 0) (z00 (z2f (v:=.ty "str") rfl T.z_str PyProof.Rows.Boot.«str» rfl) z07)))))) (fun _ _ _ _ _=>(pv 0))))) z0i)
  (z04 (z0v (z0b z0W (pv 1) z0x (z0h _)) (z05 (z0e (z0N z07))) z0i)
  (z05 (z0e (z3h (z0b z3K (pv 1) (z6g rfl T.c_LOOKERS T.r_LOOKERS) (by with_unfolding_all rfl)) (z0N (z00 (z0j z0d (pv 0) z03 (fun _ _=>rfl)) z07)) (z0N (z00 (z0j z0d (pv 0) (z72 z4f z03) (fun _ _=>rfl)) z07)))))))),?_⟩
 have fin:∀H1 p xs,z0f H H1->H1 p=none->d.names.map V.str=xs->Q (.ref p) (upd H1 p (.lst xs)):=fun H1 p xs h1 hp z=>by
  subst z
  refine k _ p (h1.trans (z0f.new hp _)) ?_ z01
  cases q:H p with
  |none=>rfl
  |some o=>rw[h1 _ _ q]at hp;cases hp
 cases hd with
 |set h=>
  rename_i p x va sg vb
  refine⟨_,rfl,_,_,_,_,rfl,rfl,SqT.of (e0 _ _ h),rfl,?_⟩
  refine⟨_,rfl,rfl,_,rfl,?_⟩
  walk_at "yes"
  refine⟨_,rfl,_,_,_,_,rfl,rfl,SqT.of (e0 _ _ h),rfl,_,rfl,_,_,_,_,rfl,rfl,SqT.of (e0 _ _ h),rfl,_,rfl,_,_,_,_,rfl,rfl,SqT.of (e0 _ _ h),rfl,ln3,fun t ht=>⟨t,rfl,⟨_,SqT.of z01⟩,?_⟩⟩
  refine zbA (K:=K) (a:=t) (xs:=[.str x,va.v,vb.v]) (fun i ys σ H2=>H2=upd H t (.tup [.str x,va.v,vb.v])/\(∃u,σ=[u])/\ys=z9r (([.str x,va.v,vb.v]:List V).take i)) ⟨rfl,⟨_,rfl⟩,rfl⟩ ?_ ln3 ?_ ?_ ?_
  ·rintro i ys σ H2 hi ⟨_,_,rfl⟩
   refine qG (List.length_filter_le _ _) ?_
   rw[qR]
   omega
  ·rintro i ys σ H2 ⟨rfl,_⟩
   exact SqT.of z01
  ·rintro i z ys σ H2 hz ⟨rfl,⟨u,rfl⟩,rfl⟩
   have hz':z=.str x\/z=va.v\/z=vb.v:=by simpa using qH hz
   have kind:(∃y,z=.str y)\/∃n,z=.int n:=by
    rcases hz' with rfl|rfl|rfl
    ·exact .inl ⟨_,rfl⟩
    ·cases va<;>simp[Val.v]
    ·cases vb<;>simp[Val.v]
   rcases kind with⟨y,rfl⟩|⟨n,rfl⟩
   ·refine⟨_,rfl,_,_,_,true,rfl,.str y,rfl,_,rfl,?_⟩
    refine zfa ⟨_,rfl,rfl,⟨_,rfl⟩,?_⟩
    rw[qz,hz]
    simp[z9r]
   ·refine⟨_,rfl,_,_,_,false,rfl,.int n,rfl,_,rfl,?_⟩
    refine zdZ ⟨rfl,⟨_,rfl⟩,?_⟩
    rw[qz,hz]
    simp[z9r]
  ·rintro ys σ H2 ⟨rfl,_,rfl⟩ D hD
   refine fin _ D _ (z0f.new ht _) hD ?_
   cases va<;>cases vb<;>rfl
 |rep h h1=>
  refine⟨_,rfl,_,_,_,_,rfl,rfl,SqT.of (e0 _ _ h),rfl,?_⟩
  refine⟨_,rfl,rfl,_,rfl,?_⟩
  walk_at "no"
  refine⟨_,rfl,rfl,_,rfl,?_⟩
  walk_at "yes"
  exact⟨qA _,fun p hp=>fin H p _ (z0f.refl H) hp rfl⟩
 |cond h h1 h2=>
  refine⟨_,rfl,_,_,_,_,rfl,rfl,SqT.of (e0 _ _ h),rfl,?_⟩
  refine⟨_,rfl,rfl,_,rfl,?_⟩
  walk_at "no"
  refine⟨_,rfl,rfl,_,rfl,?_⟩
  walk_at "no"
  refine⟨_,rfl,_,_,rfl,.inr (T.t_LOOKERS _),rfl,rfl,_,rfl,?_⟩
  walk_at "yes"
  exact⟨_,rfl,_,_,_,_,rfl,rfl,SqT.of (e0 _ _ h),rfl,ln1,fun p hp=>fin H p _ (z0f.refl H) hp rfl⟩
 |whl h h1=>
  refine⟨_,rfl,_,_,_,_,rfl,rfl,SqT.of (e0 _ _ h),rfl,?_⟩
  refine⟨_,rfl,rfl,_,rfl,?_⟩
  walk_at "no"
  refine⟨_,rfl,rfl,_,rfl,?_⟩
  walk_at "no"
  refine⟨_,rfl,_,_,rfl,.inr (T.t_LOOKERS _),rfl,rfl,_,rfl,?_⟩
  walk_at "yes"
  exact⟨_,rfl,_,_,_,_,rfl,rfl,SqT.of (e0 _ _ h),rfl,ln1,fun p hp=>fin H p _ (z0f.refl H) hp rfl⟩
 |put h=>
  refine⟨_,rfl,_,_,_,_,rfl,rfl,SqT.of (e0 _ _ h),rfl,?_⟩
  refine⟨_,rfl,rfl,_,rfl,?_⟩
  walk_at "no"
  refine⟨_,rfl,rfl,_,rfl,?_⟩
  walk_at "no"
  refine⟨_,rfl,_,_,rfl,.inr (T.t_LOOKERS _),rfl,rfl,_,rfl,?_⟩
  walk_at "no"
  exact⟨_,rfl,_,rfl,_,_,_,_,rfl,rfl,SqT.of (e0 _ _ h),rfl,ln1,fun p hp=>fin H p _ (z0f.refl H) hp rfl⟩
 |get h=>
  refine⟨_,rfl,_,_,_,_,rfl,rfl,SqT.of (e0 _ _ h),rfl,?_⟩
  refine⟨_,rfl,rfl,_,rfl,?_⟩
  walk_at "no"
  refine⟨_,rfl,rfl,_,rfl,?_⟩
  walk_at "no"
  refine⟨_,rfl,_,_,rfl,.inr (T.t_LOOKERS _),rfl,rfl,_,rfl,?_⟩
  walk_at "no"
  exact⟨_,rfl,_,rfl,_,_,_,_,rfl,rfl,SqT.of (e0 _ _ h),rfl,ln1,fun p hp=>fin H p _ (z0f.refl H) hp rfl⟩
 |give h=>
  refine⟨_,rfl,_,_,_,_,rfl,rfl,SqT.of (e0 _ _ h),rfl,?_⟩
  refine⟨_,rfl,rfl,_,rfl,?_⟩
  walk_at "no"
  refine⟨_,rfl,rfl,_,rfl,?_⟩
  walk_at "no"
  refine⟨_,rfl,_,_,rfl,.inr (T.t_LOOKERS _),rfl,rfl,_,rfl,?_⟩
  walk_at "no"
  exact⟨_,rfl,_,rfl,_,_,_,_,rfl,rfl,SqT.of (e0 _ _ h),rfl,ln1,fun p hp=>fin H p _ (z0f.refl H) hp rfl⟩
theorem z98 {ds:List z0c}{i:Nat}{d:z0c}(h:ds[i]?=some d):z0k (ds.take (i+1))=z0k (ds.take i)++(d::d.inner.flatMap z0k):=by
 rw[qz,h,z0Z]
 show _++z0k [d]=_
 rw[z0k,z0k,qF,z1V]
theorem z5F:∀{ds:List z0c}{i:Nat}{d:z0c},ds[i]?=some d->d.depth<=z0o ds
 |[],i,d,h=>by simp at h
 |x::r,0,d,h=>by simp at h;subst h;rw[z0o];omega
 |x::r,i+1,d,h=>by
  simp only[List.getElem?_cons_succ]at h
  have:=z5F h
  rw[z0o]
  omega
theorem z7X {d:z0c}{j:Nat}{b:List z0c}(h:d.inner[j]?=some b):z0o b<d.depth:=by
 have hm:=qH h
 cases d<;>simp[z0c.inner]at hm
 ·rcases hm with rfl|rfl<;>rw[z0c.depth]<;>omega
 ·subst hm;rw[z0c.depth];omega
 ·subst hm;rw[z0c.depth];omega
theorem z7h {ds:List z0c}{i:Nat}:(z0k (ds.take i)).length<=(z0k ds).length:=by
 have:z0k ds=z0k (ds.take i)++z0k (ds.drop i):=by rw[<- z0Z,List.take_append_drop]
 rw[this,qe]
 omega
theorem z74 (T:Tx P w K mg a):∀n:Nat,z1B P w K mg base CX0 (n+2) a.all_deeds a.fd_all_deeds ["block"] (z6M n):=by
 intro n
 induction n with
 |zero=>
  refine T.F_all_deeds.ok z2d (fun vs H Q E h=>?_) (fun cdv A outer s H vs Q E hr h=>?_)
  ·obtain⟨_,_,_,rfl,_⟩:=h
   rfl
  ·obtain⟨_,_,_,_,_,_,h0,_⟩:=h
   exact absurd h0 (Nat.not_lt_zero _)
 |succ n ih=>
  refine T.F_all_deeds.ok z2d (fun vs H Q E h=>?_) (fun cdv A outer s H vs Q E hr h=>?_)
  ·obtain⟨_,_,_,rfl,_⟩:=h
   rfl
  obtain⟨H0,b,ds,rfl,e0,hb,hdp,hfl,k⟩:=h
  refine⟨_,(z04 (z0p (i:=1) z2d.nd rfl (Or.inl rfl) (z0N z07))
   (z04 (z1Y PassesOwn.never rfl (z1m (pv 0)) (z0s (i:=2) z2d.nd rfl (Or.inl rfl))
   (z04 (z0P (z2W qj qC qD z0O (pv 1) (z00 (pv 2) z07)))
   (z05 (z1Y PassesOwn.never rfl (z1m (z0q (z4t T) (hr.mono (by omega)) rfl T.m_blocks_within T.F_blocks_within.kp T.b_blocks_within .nil z0K (z00 (pv 2) z07))) (z0s (i:=3) z2d.nd rfl (Or.inl rfl))
   (z05 (z0P (z2W qj PySem.F.slot_list_extend PySem.F.type_list_extend z79 (pv 1) (z00 (z0q ih (hr.mono (by omega)) rfl T.m_all_deeds T.F_all_deeds.kp T.b_all_deeds .nil z0K (z00 (pv 3) z07)) z07))))))))
   (z05 (z0e (pv 1))))),?_⟩
  obtain⟨hb1,hds⟩:=hb
  rename_i vs
  refine⟨qA _,fun f hf=>?_⟩
  have hf0:=z0f.none e0 hf
  refine⟨_,rfl,b,rfl,⟨_,SqL.of ((z0f.new hf _) _ _ (e0 _ _ hb1))⟩,?_⟩
  refine z2j (K:=K) (a:=b) (xs:=vs) (fun i σ H2=>∃us v2 v3,σ=[some (.ref b),some (.ref f),v2,v3]/\z0f H H2/\H2 f=some (.lst us)/\RDs H0 us (z0k (ds.take i))) ⟨[],_,_,rfl,z0f.new hf _,z01,.nil⟩ ?_ ?_ ?_
  ·rintro i σ H2 _ ⟨us,v2,v3,_,s2,_,_⟩
   exact SqL.of (s2 _ _ (e0 _ _ hb1))
  ·rintro i x σ H2 hx ⟨us,v2,v3,rfl,s2,hf2,hus⟩
   obtain⟨d,hd,hrd⟩:=hds.at i x hx
   have lu:us.length<=1000:=by rw[hus.len];exact qG z7h hfl
   refine⟨_,rfl,.inl ⟨rfl,_,SqL.of hf2⟩,_,rfl,f,_,_,rfl,rfl,hf2,z08 (m:=1001) (by omega),?_⟩
   have s3:z0f H0 (upd H2 f (.lst (us++[x]))):=z0f.over (e0.trans s2) hf0
   refine⟨_,rfl,H0,x,d,rfl,s3,hrd,fun H4 l bs s4 nl hl hbs=>⟨l,rfl,⟨_,SqL.of hl⟩,?_⟩⟩
   have lf:l≠f:=fun z=>by rw[z,z01]at nl;cases nl
   have all:z0k (ds.take (i+1))=z0k (ds.take i)++([d]++d.inner.flatMap z0k):=z98 hd
   refine z2j (K:=K) (a:=l) (xs:=bs.map V.ref) (fun j σ H5=>∃us' v3,σ=[some (.ref b),some (.ref f),some x,v3]/\z0f H H5/\H5 f=some (.lst us')/\H5 l=some (.lst (bs.map V.ref))/\RDs H0 us' (z0k (ds.take i)++([d]++(d.inner.take j).flatMap z0k)))
    ⟨us++[x],_,rfl,(z0f.over s2 hf).trans s4,s4 _ _ z01,hl,hus.app (.cons hrd .nil)⟩ ?_ ?_ ?_
   ·rintro j σ H5 _ ⟨us',v3,_,_,_,hl5,_⟩
    exact SqL.of hl5
   ·rintro j z σ H5 hz ⟨us',v3,rfl,s5,hf5,hl5,hus'⟩
    rw[qL]at hz
    obtain⟨bj,hbj,rfl⟩:=Option.map_eq_some_iff.mp hz
    obtain⟨dj,hdj,hrj⟩:=hbs.at j bj hbj
    have dd:=z5F hd
    have di:=z7X hdj
    have st:(d.inner.take (j+1)).flatMap z0k=(d.inner.take j).flatMap z0k++z0k dj:=by
     rw[qz,hdj,List.flatMap_append]
     simp
    have pre:(z0k (ds.take i)++([d]++(d.inner.take (j+1)).flatMap z0k)).length<=1000:=by
     have e:d.inner.flatMap z0k=(d.inner.take (j+1)).flatMap z0k++(d.inner.drop (j+1)).flatMap z0k:=by rw[<- List.flatMap_append,List.take_append_drop]
     have:=z7h (ds:=ds) (i:=i+1)
     rw[all,e]at this
     simp only[qe]at this ⊢
     omega
    rw[st]at pre
    simp only[qe]at pre
    have lu':us'.length<=1000:=by rw[hus'.len];simp only[qe];omega
    refine⟨_,rfl,.inl ⟨rfl,_,SqL.of hf5⟩,_,rfl,H0,bj,dj,rfl,e0.trans s5,hrj,by omega,by omega,fun H6 l6 us6 s6 n6 h6 r6=>?_⟩
    have f6:l6≠f:=fun z=>by rw[z,hf5]at n6;cases n6
    refine⟨f,l6,_,_,rfl,rfl,s6 _ _ hf5,h6,z08 (m:=2000) (by rw[r6.len];omega),?_⟩
    refine⟨us'++us6,_,rfl,z0f.over (s5.trans s6) hf,z01,?_,?_⟩
    ·rw[z06 lf]
     exact s6 _ _ hl5
    ·rw[st,<- List.append_assoc,<- List.append_assoc]
     rw[<- List.append_assoc]at hus'
     exact hus'.app r6
   ·rintro σ H5 ⟨us',v3,rfl,s5,hf5,hl5,hus'⟩
    refine⟨us',_,_,rfl,s5,hf5,?_⟩
    rw[all]
    rw[qb,hbs.len,qO]at hus'
    exact hus'
  ·rintro σ H2 ⟨us,v2,v3,rfl,s2,hf2,hus⟩
   rw[hds.len,qO]at hus
   exact⟨_,rfl,k H2 f us s2 hf hf2 hus⟩
theorem z53:∀(l:List z0c),(l.flatMap z0c.names).length<=3 * l.length
 |[]=>by simp
 |d::r=>by
  have h1:d.names.length<=3:=by
   cases d with
   |set x a sg b=>cases a<;>cases b<;>simp[z0c.names,Val.names]
   |_=>simp[z0c.names]
  have h2:=z53 r
  rw[qM,qe,qI]
  omega
theorem zbb (T:Tx P w K mg a):z1B P w K mg base CX0 16 a.named a.fd_named ["block"] zb1:=by
 refine T.F_named.ok z69 (fun vs H Q E h=>?_) (fun cdv A outer s H vs Q E hr h=>?_)
 ·obtain⟨_,_,_,rfl,_⟩:=h
  rfl
 obtain⟨b,ds,C,rfl,hb,dp,hln,nC,c64,k⟩:=h
 refine⟨_,(z04 (z0p (i:=1) z69.nd rfl (Or.inl rfl) (z0N z07))
  (z04 (z1Y PassesOwn.never rfl (z1m (z0q (z74 T 13) (hr.mono (by decide)) rfl T.m_all_deeds T.F_all_deeds.kp T.b_all_deeds .nil z0K (z00 (pv 0) z07))) (z0s (i:=2) z69.nd rfl (Or.inl rfl))
  (z05 (z0P (z2W qj PySem.F.slot_list_extend PySem.F.type_list_extend z79 (pv 1) (z00 (z0q (z7N T) (hr.mono (by decide)) rfl T.m_names_in T.F_names_in.kp T.b_names_in .nil z0K (z00 (pv 2) z07)) z07)))))
  (z05 (z0e (z0n (z3q rfl) rfl T.z_sorted PyProof.Rows.Boot.«sorted» (z00 (z2D (z3z rfl) rfl T.z_set PyProof.Rows.Boot.«set» (z00 (pv 1) z07)) z07)))))),?_⟩
 refine⟨qA _,fun c hc=>?_⟩
 refine⟨_,rfl,H,b,ds,rfl,z0f.new hc _,hb,by omega,by omega,fun H2 l us s2 nl hl hus=>⟨l,rfl,⟨_,SqL.of hl⟩,?_⟩⟩
 generalize hfl:z0k ds=fl at *
 have lc:l≠c:=fun z=>by rw[z,z01]at nl;cases nl
 have few:∀i,((fl.take i).flatMap z0c.names).length<=900:=fun i=>by
  have:=z53 (fl.take i)
  rw[qR]at this
  omega
 refine z2j (K:=K) (a:=l) (xs:=us) (fun i σ H3=>∃v,σ=[some (.ref b),some (.ref c),v]/\z0f H H3/\H3 c=some (.lst (((fl.take i).flatMap z0c.names).map V.str))/\H3 l=some (.lst us)) ⟨_,rfl,(z0f.new hc _).trans s2,s2 _ _ z01,hl⟩ ?_ ?_ ?_
 ·rintro i σ H3 _ ⟨v,_,_,_,h⟩
  exact SqL.of h
 ·rintro i x σ H3 hx ⟨v,rfl,s3,hc3,hl3⟩
  obtain⟨d,hd,hrd⟩:=hus.at i x hx
  have f1:=few (i+1)
  rw[qz,hd]at f1
  have f1':((fl.take i).flatMap z0c.names).length+d.names.length<=900:=by
   simpa[List.flatMap_append]using f1
  refine⟨_,rfl,.inl ⟨rfl,_,SqL.of hc3⟩,_,rfl,H,x,d,rfl,s3,hrd,fun H4 l4 s4 n4 h4=>?_⟩
  refine⟨c,l4,_,_,rfl,rfl,s4 _ _ hc3,h4,z08 (m:=3000) (by rw[qb,qb];omega),?_⟩
  refine⟨_,rfl,z0f.over (s3.trans s4) hc,?_,?_⟩
  ·rw[z01,qz,hd]
   simp[List.flatMap_append]
  ·rw[z06 lc]
   exact s4 _ _ hl3
 ·rintro σ H3 ⟨v,rfl,s3,hc3,hl3⟩
  rw[hus.len,qO]at hc3
  have f1:=few fl.length
  rw[qO]at f1
  refine⟨_,rfl,c,fl.flatMap z0c.names,rfl,SqL.of hc3,by omega,fun p hp=>?_⟩
  refine⟨p,fl.flatMap z0c.names,C,rfl,z01,nC,c64,fun r zs hr' nd hm so=>?_⟩
  have p0:=z0f.none s3 hp
  have r0:H r=none:=by
   refine z0f.none s3 ?_
   cases q:H3 r with
   |none=>rfl
   |some o=>
    have:r≠p:=z0t q hp
    rw[z06 this,q]at hr'
    cases hr'
  exact k _ r zs (z0f.over (z0f.over s3 p0) r0) r0 z01 nd hm so
theorem z4V (T:Tx P w K mg a):z1B P w K mg base CX0 17 a.variables_of a.fd_variables_of ["program"] z4G:=by
 refine T.F_variables_of.ok z4M (fun vs H Q E h=>?_) (fun cdv A outer s H vs Q E hr h=>?_)
 ·obtain⟨_,_,_,_,_,_,_,rfl,_⟩:=h
  rfl
 obtain⟨p,a0,a1,b,ak,ds,C,rfl,hp,h0,hb,dp,hl,al,akC,nC,c64,q⟩:=h
 refine⟨_,(z05 (z0e (z0n (z3q rfl) rfl T.z_sorted PyProof.Rows.Boot.«sorted» (z00 (z0g zds (z2D (z3z rfl) rfl T.z_set PyProof.Rows.Boot.«set» (z00 (z0j z0d (pv 0) z03 (fun _ _=>rfl)) z07)) (z2D (z3z rfl) rfl T.z_set PyProof.Rows.Boot.«set» (z00 (z0q (zbb T) (hr.mono (by decide)) rfl T.m_named T.F_named.kp T.b_named .nil z0K (z00 (z0j z0d (pv 0) z03 (fun _ _=>rfl)) z07)) z07))) z07)))),?_⟩
 refine⟨_,rfl,p,_,_,_,rfl,rfl,SqT.of hp,z5g,a0,ak,rfl,SqL.of h0,by omega,fun s1 hs1=>?_⟩
 have m1:=z0f.new hs1 (z2H P w s1 ak)
 have o1:upd H s1 (z2H P w s1 ak) s1=some (z2H P w s1 ak):=z01
 refine⟨_,rfl,p,_,_,_,rfl,rfl,SqT.of (m1 _ _ hp),z6D,b,ds,C,rfl,RL.same m1 hb,dp,hl,nC,c64,fun H2 l2 zs m2 n2 o2 nd mem so=>?_⟩
 have nf:zs.length<=900:=by
  have l1:=z2T nd fun x hx=>(mem x).mp hx
  have:=z53 (z0k ds)
  omega
 refine⟨l2,zs,rfl,SqL.of o2,by omega,fun s2 hs2=>?_⟩
 have m3:=z0f.new hs2 (z2H P w s2 zs)
 have o3:upd H2 s2 (z2H P w s2 zs) s2=some (z2H P w s2 zs):=z01
 have n3:s1≠s2:=fun z=>by rw[<- z,m2 _ _ o1]at hs2;cases hs2
 refine⟨s1,s2,ak,zs,ak,zs,rfl,rfl,n3,m3 _ _ (m2 _ _ o1),o3,fun k hk=>hk,by omega,fun k hk=>hk,by omega,fun s3 hs3=>?_⟩
 have m4:=z0f.new hs3 (z2H P w s3 (ak++zs))
 have o4:upd (upd H2 s2 (z2H P w s2 zs)) s3 (z2H P w s3 (ak++zs)) s3=some (z2H P w s3 (ak++zs)):=z01
 have m14:=m1.trans (m2.trans (m3.trans m4))
 refine⟨s3,ak++zs,C,rfl,o4,fun k hk=>(qk.mp hk).elim (akC k) (fun h=>nC k ((mem k).mp h)),c64,fun l5 ys hl5 nd5 mem5 so5=>?_⟩
 have few5:ys.length<=2000:=by
  have:=z2T nd5 fun x hx=>(mem5 x).mp hx
  rw[qe]at this
  omega
 exact q _ l5 ys (m14.trans (z0f.new hl5 _)) (z0f.none m14 hl5) z01 ⟨nd5,fun k=>by rw[mem5 k,qk,mem k],so5,few5⟩
theorem z0y {H:Hp}{x b:Addr}{o:HO}(h:upd H x o b=none):H b=none:=by
 by_cases e:b=x
 ·rw[e,z01]at h;cases h
 ·rwa [z06 e]at h
theorem z7s (ps:List (Str×Int)) (p:Str×Int):z2z (ps++[p])=z6B (z2z ps) p.1 (p.2 % 1000000000000000000000000000000):=by
 unfold z2z
 rw[List.foldl_append]
 rfl
theorem z6h (T:Tx P w K mg a):z1B P w K mg base CX0 18 a.beginnings a.fd_beginnings ["program","numbers"] z5U:=by
 refine T.F_beginnings.ok z2g (fun vs H Q E h=>?_) (fun cdv A outer s H vs Q E hr h=>?_)
 ·obtain⟨_,_,_,_,_,_,_,_,_,rfl,_⟩:=h
  rfl
 obtain⟨p,a0,a1,b,ln,ak,ns,ds,C,rfl,hp,h0,hn,hb,dp,hln,al,nl',akC,nC,c64,q⟩:=h
 refine⟨_,(z04 (z0p (i:=2) z2g.nd rfl (Or.inl rfl) (z2D (z4n rfl) rfl T.z_dict PyProof.Rows.Boot.«dict» (z00 (z2M (k:=1) (Nc:=["name"]) (js:=[]) (show z0J (z02 z1p) ["program","numbers","begun","name","number"] _ 1 ["name"] []from z0J.mk rfl (by decide +kernel) (by decide +kernel) (by decide +kernel) rfl (by decide +kernel)) rfl (z1m (z0q (z4V T) (hr.mono (by decide)) rfl T.m_variables_of T.F_variables_of.kp T.b_variables_of .nil z0K (z00 (pv 0) z07))) (fun _ _ _ _ _=>(z0s (i:=0) (show List.Nodup (["name"]:List Str)from by decide +kernel) rfl (Or.inl rfl))) (fun _ _ _ _ _=>z2p) (fun _ _ _ _ _=>(z0V (z00 (pv 0) (z00 z03 z07))))) z07)))
  (z04 (z1Y PassesOwn.never rfl (z9K rfl T.z_zip (z00 (z0j z0d (pv 0) z03 (fun _ _=>rfl)) (z00 (pv 1) z07))) (z5C rfl (z1H (z0s (i:=3) z2g.nd rfl (Or.inl rfl)) (z1H (z0s (i:=4) z2g.nd rfl (Or.inl rfl)) z46)))
  (z05 (z2L (hr.one) (pv 2) (pv 3) (z0g z0w (pv 4) (z6g rfl T.c_WHEEL T.r_WHEEL)) rfl)))
  (z05 (z0e (pv 2))))),?_⟩
 refine⟨_,rfl,p,a0,a1,b,ak,ds,C,rfl,hp,h0,hb,dp,hln,al,akC,nC,c64,fun H2 l zs m2 nl hl vr=>⟨l,rfl,⟨_,SqL.of hl⟩,?_⟩⟩
 refine z1A (K:=K) (a:=l) (xs:=zs.map V.str) (fun i ys σ H3=>(∃v,σ=[v])/\z0f H2 H3/\∃ts:List Addr,ys=ts.map V.ref/\ts.length=i/\∀(j:Nat) (t:Addr) (z:Str),ts[j]?=some t->zs[j]?=some z->H3 t=some (.tup [.str z,.int 0])) ⟨⟨_,rfl⟩,z0f.refl _,[],rfl,rfl,fun j t z h=>by simp at h⟩ ?_ (z08 (m:=2000) (by rw[qb];exact vr.few)) ?_ ?_ ?_
 ·rintro i ys σ H3 _ ⟨_,_,ts,rfl,h,_⟩
  rw[qb,h]
  exact qh _
 ·rintro i ys σ H3 ⟨_,s3,_⟩
  exact SqL.of (s3 _ _ hl)
 ·rintro i x ys σ H3 hx ⟨⟨v,rfl⟩,s3,ts,rfl,hl3,ht⟩
  rw[qL]at hx
  obtain⟨z,hzi,rfl⟩:=Option.map_eq_some_iff.mp hx
  refine⟨_,rfl,ln2,fun p4 hp4=>?_⟩
  refine⟨⟨_,rfl⟩,s3.trans (z0f.new hp4 _),ts++[p4],by rw[List.map_append];rfl,by rw[qe,hl3];rfl,fun j t y hj hy=>?_⟩
  rcases Nat.lt_or_ge j ts.length with lt|ge
  ·rw[List.getElem?_append_left lt]at hj
   exact z0f.new hp4 _ _ _ (ht j t y hj hy)
  ·rw[qS ge]at hj
   have e0:j-ts.length=0:=by
    have:=(qi.mp hj).1
    simpa using this
   rw[e0]at hj
   obtain rfl:p4=t:=by simpa using hj
   have:j=i:=by omega
   subst this
   rw[hzi]at hy
   cases hy
   exact z01
 ·rintro ys σ H3 ⟨_,s3,ts,rfl,hl3,ht⟩ lc hlc
  rw[qb]at hl3
  have mH:=m2.trans s3
  have nlc:=z0f.none mH hlc
  refine⟨lc,ts.map V.ref,zs.map fun z=>(.inr z,.int 0),rfl,z01,by rw[qb,qb,hl3],z08 (m:=2000) (by rw[qb];exact vr.few),fun i p hp'=>?_,fun d hd=>?_⟩
  ·rw[qL]at hp'
   obtain⟨z,hzi,rfl⟩:=Option.map_eq_some_iff.mp hp'
   have lt:i<ts.length:=by
    have:=(qi.mp hzi).1
    omega
   exact⟨ts[i],by rw[qL,qf lt];rfl,z0f.new hlc _ _ _ (ht i _ z (qf lt) hzi)⟩
  rw[z8Z vr.nd]
  have nd0:H d=none:=z0f.none mH (z0y hd)
  have mD:z0f H (upd (upd H3 lc (.lst (ts.map V.ref))) d (.dK (tab zs fun _=>0))):=z0f.over (z0f.over mH nlc) nd0
  refine⟨_,rfl,_,_,_,_,rfl,rfl,SqT.of (mD _ _ hp),rfl,_,rfl,false,false,a0,ln,ak.map V.str,ns.map V.int,rfl,SqL.of (mD _ _ h0),SqL.of (mD _ _ hn),?_⟩
  have o8:upd (upd H3 lc (.lst (ts.map V.ref))) d (.dK (tab zs fun _=>0)) d=some (.dK (tab zs fun _=>0)):=z01
  generalize upd (upd H3 lc (.lst (ts.map V.ref))) d (.dK (tab zs fun _=>0))=H8 at mD o8 ⊢
  refine z80 (K:=K) (b1:=false) (b2:=false) (l1:=a0) (l2:=ln) (xs:=ak.map V.str) (ys:=ns.map V.int) (fun i σ H4=>(∃v3 v4,σ=[some (.ref p),some (.ref ln),some (.ref d),v3,v4])/\z0f H H4/\H4 d=some (.dK (tab zs (z2z ((ak.zip ns).take i))))) ⟨⟨_,_,rfl⟩,mD,o8⟩ ?_ ?_ ?_
  ·rintro i σ H4 ⟨_,s4,_⟩
   exact⟨SqL.of (s4 _ _ h0),SqL.of (s4 _ _ hn)⟩
  ·rintro i x y σ H4 p5 hx hy ⟨⟨v3,v4,rfl⟩,s4,d4⟩ hp5
   rw[qL]at hx hy
   obtain⟨x,hx',rfl⟩:=Option.map_eq_some_iff.mp hx
   obtain⟨y,hy',rfl⟩:=Option.map_eq_some_iff.mp hy
   have xz:x∈zs:=(vr.mem x).mpr (.inl (qH hx'))
   have hzip:(ak.zip ns)[i]?=some (x,y):=by rw[List.getElem?_zip_eq_some];exact⟨hx',hy'⟩
   have n5:d≠p5:=fun z=>by rw[<- z,d4]at hp5;cases hp5
   have s5:=s4.trans (z0f.new hp5 (.tup [.str x,.int y]))
   have d5:upd H4 p5 (.tup [.str x,.int y]) d=some (.dK (tab zs (z2z ((ak.zip ns).take i)))):=by rw[z06 n5];exact d4
   have p5':upd H4 p5 (.tup [.str x,.int y]) p5=some (.tup [.str x,.int y]):=z01
   generalize upd H4 p5 (.tup [.str x,.int y])=H5 at s5 d5 p5' ⊢
   refine⟨p5,_,rfl,.inl (.inl p5'),rfl,_,_,rfl,_,_,rfl,rfl,?_⟩
   refine⟨_,rfl,_,_,rfl,rfl,(by decide),_,rfl,_,rfl,d,_,rfl,.inl ⟨_,.inr x,d5,rfl,qK (show _<1000000 by rw[z3Y];have:=vr.few;omega) (by decide),rfl⟩,?_⟩
   rw[z5R vr.nd,show z2U zs x=zs from if_pos xz]
   refine⟨⟨_,_,rfl⟩,z0f.over s5 nd0,?_⟩
   rw[z01,qz,hzip]
   show some (HO.dK (tab zs (z6B _ x (y % _))))=some (HO.dK (tab zs (z2z (_++[(x,y)]))))
   rw[z7s]
  ·rintro σ H4 ⟨⟨v3,v4,rfl⟩,s4,d4⟩
   rw[qb,qb,List.take_of_length_le (by rw[List.length_zip];exact qh _)]at d4
   exact⟨_,rfl,q _ d zs s4 nd0 d4 vr⟩
theorem z3c (T:Tx P w K mg a):z1B P w K mg base CX0 1 a.FlowError___init__ a.fd_FlowError___init__ ["self","words","place"] (z31 K a):=by
 refine T.F_FlowError___init__.ok z36 (fun vs H Q E h=>?_) (fun cdv A outer s H vs Q E hr h=>?_)
 ·obtain⟨_,_,_,_,rfl,_⟩:=h
  rfl
 obtain⟨e,C,z,y,rfl,he,hC,k⟩:=h
 refine⟨_,(z04 (z0P (zb8 rfl T.z_ValueError (z00 (pv 0) (z00 (pv 1) z07))))
  (z05 (zcn (pv 0) (pv 2) rfl))),?_⟩
 refine⟨_,rfl,_,rfl,e,C,_,z,rfl,he,hC,?_⟩
 exact⟨_,rfl,_,rfl,e,C,_,rfl,he,hC,k⟩
theorem zdW {x y:V}:List.lookup ("laid":Str) [(("laid":Str),x),("gone",y)]=some x:=z27
theorem zdX {x y:V}:List.lookup ("gone":Str) [(("laid":Str),x),("gone",y)]=some y:=(z0u (by decide +kernel)).trans z27
theorem z6e {k:Str}{x y:V}(h:((k == ("laid":Str)) || (k == ("gone":Str)))=false):List.lookup k [(("laid":Str),x),("gone",y)]=none:=by
 simp only[Bool.or_eq_false_iff]at h
 rw[z0u h.1,z0u h.2]
 rfl
theorem z4a (T:Tx P w K mg a):z1B P w K mg base CX0 1 a.Queue___init__ a.fd_Queue___init__ ["self","things"] (z40 a):=by
 refine T.F_Queue___init__.ok z43 (fun vs H Q E h=>?_) (fun cdv A outer s H vs Q E hr h=>?_)
 ·obtain⟨_,_,_,rfl,_⟩:=h
  rfl
 obtain⟨p,dx,t,rfl,h1,h2,q⟩:=h
 refine⟨_,(z04 (z3G (pv 0) (z2D z7n rfl T.z_list PyProof.Rows.Boot.«list» (z00 (pv 1) z07)) rfl)
  (z05 (z3G (pv 0) z03 rfl))),?_⟩
 refine⟨_,rfl,t,[],rfl,.inl (SqL.of h2),fun l hl=>?_⟩
 have np:p≠l:=fun z=>by rw[<- z,h1]at hl;cases hl
 refine⟨_,rfl,p,a.C_Queue,dx,[],rfl,by rw[z06 np];exact h1,T.cl_Queue,T.nf_Queue_laid,by simp,?_⟩
 rw[z2s [] rfl (by decide +kernel),List.nil_append]
 refine⟨_,rfl,p,a.C_Queue,dx,_,rfl,z01,T.cl_Queue,T.nf_Queue_gone,by simp,?_⟩
 rw[z2s ["laid"] rfl (by decide +kernel)]
 refine q _ l (fun c o nc hc=>?_) hl z01 ?_
 ·have f1:c≠l:=fun z=>by rw[z,hl]at hc;cases hc
  rw[z06 nc,z06 nc,z06 f1]
  exact hc
 ·rw[z06 np.symm,z06 np.symm]
  exact z01
theorem z49 (T:Tx P w K mg a):z1B P w K mg base CX0 1 a.Queue_standing a.fd_Queue_standing ["self"] (z3Z a):=by
 refine T.F_Queue_standing.ok z42 (fun vs H Q E h=>?_) (fun cdv A outer s H vs Q E hr h=>?_)
 ·obtain⟨_,_,_,_,_,rfl,_⟩:=h
  rfl
 obtain⟨p,dx,l,xs,g,rfl,h1,h2,q⟩:=h
 refine⟨_,(z05 (z0e (z0g z51 (z0n z0l rfl T.z_len PySem.boot_len (z00 (z18 (pv 0) rfl) z07)) (z18 (pv 0) rfl)))),?_⟩
 refine⟨_,rfl,p,_,_,_,_,rfl,h1,T.cl_Queue,T.nf_Queue_laid,zdW,l,_,rfl,.inl (SqL.of h2),_,rfl,p,_,_,_,_,rfl,h1,T.cl_Queue,T.nf_Queue_gone,zdX,_,_,rfl,rfl,?_⟩
 rw[qb]
 exact q
theorem z76 (T:Tx P w K mg a):z1B P w K mg base CX0 1 a.Queue_lay a.fd_Queue_lay ["self","thing"] (z6O a):=by
 refine T.F_Queue_lay.ok z6V (fun vs H Q E h=>?_) (fun cdv A outer s H vs Q E hr h=>?_)
 ·obtain⟨_,_,_,_,_,_,rfl,_⟩:=h
  rfl
 obtain⟨p,dx,l,xs,g,v,rfl,h1,h2,hl,q⟩:=h
 refine⟨_,(z05 (z0P (z2W qj qC qD z0O (z18 (pv 0) rfl) (z00 (pv 1) z07)))),?_⟩
 refine⟨_,rfl,p,_,_,_,_,rfl,h1,T.cl_Queue,T.nf_Queue_laid,zdW,.inl ⟨rfl,_,SqL.of h2⟩,_,rfl,l,_,_,rfl,rfl,h2,z08 (m:=20000) (by rw[qb];omega),?_⟩
 rw[show xs.map V.int++[V.int v]=(xs++[v]).map V.int by rw[List.map_append];rfl]
 exact q
theorem z6m (T:Tx P w K mg a):z1B P w K mg base CX0 1 a.Queue_take a.fd_Queue_take ["self"] (z64 a):=by
 refine T.F_Queue_take.ok z3E (fun vs H Q E h=>?_) (fun cdv A outer s H vs Q E hr h=>?_)
 ·obtain⟨_,_,_,_,_,_,rfl,_⟩:=h
  rfl
 obtain⟨p,dx,l,xs,g,v,rfl,h1,h2,hv,q⟩:=h
 refine⟨_,(z04 (z0p (i:=1) z3E.nd rfl (Or.inl rfl) (z0j z1K (z18 (pv 0) rfl) (z18 (pv 0) rfl) (fun _ _=>rfl)))
  (z04 (z3G (pv 0) (z0g z1Z (z18 (pv 0) rfl) z03) rfl)
  (z05 (z0e (pv 1))))),?_⟩
 refine⟨_,rfl,p,_,_,_,_,rfl,h1,T.cl_Queue,T.nf_Queue_laid,zdW,_,rfl,p,_,_,_,_,rfl,h1,T.cl_Queue,T.nf_Queue_gone,zdX,l,_,_,_,rfl,rfl,SqL.of h2,z0A (by rw[qL,hv];rfl),?_⟩
 refine⟨_,rfl,p,_,_,_,_,rfl,h1,T.cl_Queue,T.nf_Queue_gone,zdX,_,_,rfl,rfl,_,rfl,p,_,_,_,rfl,h1,T.cl_Queue,T.nf_Queue_gone,by simp,?_⟩
 have e2:z4j ("gone":Str) (V.int ((g:Int)+1)) [(("laid":Str),V.ref l),("gone",.int g)]=[(("laid":Str),V.ref l),("gone",.int ((g+1:Nat):Int))]:=by
  rw[z4j,if_neg (by decide +kernel),z4j,if_pos rfl]
  rfl
 rw[e2]
 exact⟨_,rfl,q⟩
theorem z6n (T:Tx P w K mg a):z1B P w K mg base CX0 1 a.Queue_rest a.fd_Queue_rest ["self"] (z65 a):=by
 refine T.F_Queue_rest.ok z6d (fun vs H Q E h=>?_) (fun cdv A outer s H vs Q E hr h=>?_)
 ·obtain⟨_,_,_,_,_,rfl,_⟩:=h
  rfl
 obtain⟨p,dx,l,xs,g,rfl,h1,h2,q⟩:=h
 refine⟨_,(z05 (z0e (z3g z41 (z18 (pv 0) rfl) (z3v (z18 (pv 0) rfl)) z4U))),?_⟩
 refine⟨_,rfl,p,_,_,_,_,rfl,h1,T.cl_Queue,T.nf_Queue_laid,zdW,_,rfl,p,_,_,_,_,rfl,h1,T.cl_Queue,T.nf_Queue_gone,zdX,_,rfl,l,_,rfl,SqL.of h2,fun l2 hl2=>?_⟩
 rw[z8F xs (Int.natCast_nonneg g)]
 exact q l2 hl2
theorem z3b (T:Tx P w K mg a):z1B P w K mg base CX0 1 a.Run_is_spent a.fd_Run_is_spent ["self"] (z4H a):=by
 refine T.F_Run_is_spent.ok z4O (fun vs H Q E h=>?_) (fun cdv A outer s H vs Q E hr h=>?_)
 ·obtain⟨_,_,_,_,_,_,_,rfl,_⟩:=h
  rfl
 obtain⟨r,dx,dn,dq,lo,k,m,rfl,h1,q⟩:=h
 refine⟨_,(z05 (z0e (z2x zeq (z18 (pv 0) rfl) (z18 (pv 0) rfl) (z0h _)))),?_⟩
 exact⟨_,rfl,r,_,_,_,_,rfl,h1,T.cl_Run,T.nf_Run_steps,zdU,_,rfl,r,_,_,_,_,rfl,h1,T.cl_Run,T.nf_Run_most,zf3,_,_,rfl,rfl,q⟩
theorem z1E (T:Tx P w K mg a):z1B P w K mg base CX0 2 a.Run_do_step a.fd_Run_do_step ["self"] (z5o a):=by
 refine T.F_Run_do_step.ok z5q (fun vs H Q E h=>?_) (fun cdv A outer s H vs Q E hr h=>?_)
 ·obtain⟨_,_,_,_,_,_,_,rfl,_⟩:=h
  rfl
 obtain⟨r,dx,dn,dq,lo,k,m,rfl,h1,q0,q⟩:=h
 refine⟨_,(z04 (z0v (z0M (z2b (pv 0) T.cl_Run T.mt_Run_is_spent (z3b T) (hr.mono (by decide)) T.b_Run_is_spent .nil z0K)) (z05 (z0e z1n)) z0i)
  (z04 (z3G (pv 0) (z0g z1Z (z18 (pv 0) rfl) z03) rfl)
  (z05 (z0e z1n)))),?_⟩
 refine⟨_,rfl,r,_,_,rfl,h1,z1d (by decide +kernel),r,dx,dn,dq,lo,k,m,rfl,h1,_,rfl,?_⟩
 refine z2X (fun c=>q0 (of_decide_eq_true c)) (fun c=>?_)
 have lt:k<m:=by
  rcases Int.lt_or_le k m with z|z
  ·exact z
  ·exact absurd (decide_eq_true z) c
 refine⟨_,rfl,r,_,_,_,_,rfl,h1,T.cl_Run,T.nf_Run_steps,zdU,_,_,rfl,rfl,_,rfl,r,_,_,_,rfl,h1,T.cl_Run,T.nf_Run_steps,by simp,?_⟩
 have e2:z4j ("steps":Str) (V.int (k+1)) [(("numbers":Str),V.ref dn),("queues",.ref dq),("outs",.ref lo),("steps",.int k),("most",.int m)]=[(("numbers":Str),V.ref dn),("queues",.ref dq),("outs",.ref lo),("steps",.int (k+1)),("most",.int m)]:=by
  rw[z4j,if_neg (by decide +kernel),z4j,if_neg (by decide +kernel),z4j,if_neg (by decide +kernel),z4j,if_pos rfl]
 rw[e2]
 exact q lt
theorem z2S (T:Tx P w K mg a):z1B P w K mg base CX0 1 a.Run_number_of a.fd_Run_number_of ["self","value"] (z4p a):=by
 refine T.F_Run_number_of.ok z4r (fun vs H Q E h=>?_) (fun cdv A outer s H vs Q E hr h=>?_)
 ·obtain⟨_,_,_,_,_,_,_,_,_,_,rfl,_⟩:=h
  rfl
 obtain⟨r,dx,dn,dq,lo,k,m,va,zs,f,rfl,h1,h2,hv,q⟩:=h
 refine⟨_,(z05 (z0e (z3h (z0M (z0n z1I rfl T.z_isinstance PyProof.Rows.Boot.«isinstance» (z00 (pv 1) (z00 (z2f (v:=.ty "str") rfl T.z_str PyProof.Rows.Boot.«str» rfl) z07)))) (z3a hr.one (z18 (pv 0) rfl) (pv 1) (fun _ _=>rfl)) (pv 1)))),?_⟩
 cases va with
 |num n=>exact⟨_,rfl,_,_,_,false,rfl,.int n,rfl,_,rfl,z0X rfl ⟨_,rfl,q⟩⟩
 |nm x=>exact⟨_,rfl,_,_,_,true,rfl,.str x,rfl,_,rfl,z1a rfl ⟨_,rfl,r,_,_,_,_,rfl,h1,T.cl_Run,T.nf_Run_numbers,zbJ,_,rfl,dn,_,rfl,(by have:=z7y.k (k:=.inr x) h2;rw[z3X (hv x (by simp[Val.names]))]at this;exact this),q⟩⟩
theorem zdV {a b c d e:V}:List.lookup ("queues":Str) [(("numbers":Str),a),("queues",b),("outs",c),("steps",d),("most",e)]=some b:=(z0u (by decide +kernel)).trans z27
theorem z4W (T:Tx P w K mg a):z1B P w K mg base (CXX P w) 3 a.Run_got_from a.fd_Run_got_from ["self","store"] (z4I a):=by
 refine T.F_Run_got_from.okX z4P (fun vs H Q E h=>?_) (fun cdv A outer s H vs Q E hr h=>?_)
 ·obtain⟨_,_,_,_,_,_,_,_,_,_,_,_,_,_,_,rfl,_⟩:=h
  rfl
 obtain⟨r,dx,dn,dq,lo,qa,qd,ql,zs,ss,k,m,B,n,st,rfl,R,hs,hl,bo,kv,kx⟩:=h
 refine⟨_,(z04 (z0v (z0b z0W (z2b (z3a hr.one (z18 (pv 0) rfl) (pv 1) (fun _ _=>rfl)) T.cl_Queue T.mt_Queue_standing (z49 T) (hr.mono (by decide)) T.b_Queue_standing .nil z0K) z03 (z0h _)) (z05 (zb7 T.x_Starved (z3c T) (hr.mono (by decide)) T.b_FlowError___init__ rfl T.m_Starved rfl zcj (z00 (zb9 z0x (pv 1)) (z00 (z18 (pv 0) rfl) z07)))) z0i)
  (z05 (z0e (z2b (z3a hr.one (z18 (pv 0) rfl) (pv 1) (fun _ _=>rfl)) T.cl_Queue T.mt_Queue_take (z6m T) (hr.mono (by decide)) T.b_Queue_take .nil z0K)))),?_⟩
 have hget:z7y H dq (.str st) (some (.ref (qa st))):=by
  have:=z7y.k (k:=.inr st) R.qo
  rw[z4y hs]at this
  exact this
 refine⟨_,rfl,r,_,_,_,_,rfl,R.ro,T.cl_Run,T.nf_Run_queues,zdV,_,rfl,dq,_,rfl,hget,qa st,_,_,rfl,R.qu st hs,z6e (by decide +kernel),qa st,_,_,_,_,rfl,R.qu st hs,R.qs st hs,?_⟩
 have le:=bo.le st
 refine⟨rfl,_,rfl,z2X (fun c=>?_) (fun c=>?_)⟩
 ·have z:V.int (((B.q st).length:Int)-B.g st)=V.int 0:=of_decide_eq_true c
  injection z with z
  have none':(B.q st)[B.g st]?=none:=List.getElem?_eq_none (by omega)
  refine⟨_,rfl,st,rfl,hl,fun z=>?_⟩
  refine⟨_,rfl,r,_,_,_,_,rfl,R.ro,T.cl_Run,T.nf_Run_steps,zdU,by show 2<=sizeLine;decide,fun b hb=>?_⟩
  refine⟨b,a.C_Starved,_,_,rfl,z01,T.x_Starved,fun d hd=>⟨rfl,d,z01,?_⟩⟩
  have nb:d≠b:=fun z=>by rw[z,z01]at hd;cases hd
  have nd:H d=none:=by rw[z06 nb]at hd;exact hd
  refine kx none' _ d (fun c o hc=>?_) (by rw[z5G nb,z06 nb];exact z01)
  have n1:c≠b:=fun z=>by rw[z,hb]at hc;cases hc
  have n2:c≠d:=fun z=>by rw[z,nd]at hc;cases hc
  rw[z5G n1,z06 n1,z06 n2,z06 n1]
  exact hc
 ·have lt:B.g st<(B.q st).length:=by
   rcases Nat.lt_or_ge (B.g st) (B.q st).length with z|z
   ·exact z
   ·exact absurd (decide_eq_true (by rw[show((B.q st).length:Int)-B.g st=0 by omega])) c
  have ev:(B.q st)[B.g st]?=some (B.q st)[B.g st]:=qf lt
  refine⟨_,rfl,r,_,_,_,_,rfl,R.ro,T.cl_Run,T.nf_Run_queues,zdV,_,rfl,dq,_,rfl,hget,qa st,_,_,rfl,R.qu st hs,z6e (by decide +kernel),qa st,_,_,_,_,_,rfl,R.qu st hs,R.qs st hs,ev,kv _ ev⟩
theorem z2e {H:Hp}{c d:Addr}{x y:HO}(h1:H c=some x) (h2:H d=some y) (h:x≠y):c≠d:=fun z=>by
 rw[z,h2]at h1
 exact h (qQ h1).symm
section
variable {H:Hp}{r dx dn dq lo:Addr}{qa qd ql:Str->Addr}{zs ss:List Str}{k m:Int}{B:Bk}
theorem z5x.setN (R:z5x a H r dx dn dq lo qa qd ql zs ss k m B) (f:z4E):z5x a (upd H dn (.dK (tab zs f))) r dx dn dq lo qa qd ql zs ss k m { B with f:=f }:=by
 have n1:r≠dn:=z2e R.ro R.no (by simp[z4D])
 have n2:lo≠dn:=z2e R.oo R.no (by simp)
 have n3:∀s∈ss,qa s≠dn:=fun s hs=>z2e (R.qu s hs) R.no (by simp[z5L])
 have n4:∀s∈ss,ql s≠dn:=fun s hs=>z2e (R.qs s hs) R.no (by simp)
 exact⟨by rw[z06 n1];exact R.ro,z01,by rw[z06 R.dd];exact R.qo,by rw[z06 n2];exact R.oo,fun s hs=>by rw[z06 (n3 s hs)];exact R.qu s hs,fun s hs=>by rw[z06 (n4 s hs)];exact R.qs s hs,R.ja,R.jl,R.dl,R.dr,R.dd⟩
theorem z5x.setO (R:z5x a H r dx dn dq lo qa qd ql zs ss k m B) (o:List Int):z5x a (upd H lo (.lst (o.map V.int))) r dx dn dq lo qa qd ql zs ss k m { B with o:=o }:=by
 have n1:r≠lo:=z2e R.ro R.oo (by simp[z4D])
 have n2:dn≠lo:=z2e R.no R.oo (by simp)
 have n3:dq≠lo:=z2e R.qo R.oo (by simp)
 have n4:∀s∈ss,qa s≠lo:=fun s hs=>z2e (R.qu s hs) R.oo (by simp[z5L])
 exact⟨by rw[z06 n1];exact R.ro,by rw[z06 n2];exact R.no,by rw[z06 n3];exact R.qo,z01,fun s hs=>by rw[z06 (n4 s hs)];exact R.qu s hs,fun s hs=>by rw[z06 (R.dl s hs)];exact R.qs s hs,R.ja,R.jl,R.dl,R.dr,R.dd⟩
theorem z5x.setQ (R:z5x a H r dx dn dq lo qa qd ql zs ss k m B) {s:Str}(h:s∈ss) (xs:List Int):z5x a (upd H (ql s) (.lst (xs.map V.int))) r dx dn dq lo qa qd ql zs ss k m { B with q:=fun z=>if z=s then xs else B.q z }:=by
 have n1:r≠ql s:=z2e R.ro (R.qs s h) (by simp[z4D])
 have n2:dn≠ql s:=z2e R.no (R.qs s h) (by simp)
 have n3:dq≠ql s:=z2e R.qo (R.qs s h) (by simp)
 have n4:∀t∈ss,qa t≠ql s:=fun t ht=>z2e (R.qu t ht) (R.qs s h) (by simp[z5L])
 refine⟨by rw[z06 n1];exact R.ro,by rw[z06 n2];exact R.no,by rw[z06 n3];exact R.qo,by rw[z06 (R.dl s h).symm];exact R.oo,fun t ht=>by rw[z06 (n4 t ht)];exact R.qu t ht,fun t ht=>?_,R.ja,R.jl,R.dl,R.dr,R.dd⟩
 by_cases e:t=s
 ·subst e
  rw[z01]
  simp
 ·rw[z06 (R.jl t ht s h e)]
  simp only[e,if_false]
  exact R.qs t ht
theorem z5x.setG (R:z5x a H r dx dn dq lo qa qd ql zs ss k m B) {s:Str}(h:s∈ss) (g:Nat):z5x a (upd H (qa s) (z5L a (qd s) (ql s) g)) r dx dn dq lo qa qd ql zs ss k m { B with g:=fun z=>if z=s then g else B.g z }:=by
 have n1:dn≠qa s:=z2e R.no (R.qu s h) (by simp[z5L])
 have n2:dq≠qa s:=z2e R.qo (R.qu s h) (by simp[z5L])
 have n3:lo≠qa s:=z2e R.oo (R.qu s h) (by simp[z5L])
 have n4:∀t∈ss,ql t≠qa s:=fun t ht=>z2e (R.qs t ht) (R.qu s h) (by simp[z5L])
 refine⟨by rw[z06 (R.dr s h).symm];exact R.ro,by rw[z06 n1];exact R.no,by rw[z06 n2];exact R.qo,by rw[z06 n3];exact R.oo,fun t ht=>?_,fun t ht=>by rw[z06 (n4 t ht)];exact R.qs t ht,R.ja,R.jl,R.dl,R.dr,R.dd⟩
 by_cases e:t=s
 ·subst e
  rw[z01]
  simp
 ·rw[z06 (R.ja t ht s h e)]
  simp only[e,if_false]
  exact R.qu t ht
theorem z5x.setR (R:z5x a H r dx dn dq lo qa qd ql zs ss k m B) (k':Int):z5x a (upd H r (z4D a dx dn dq lo k' m)) r dx dn dq lo qa qd ql zs ss k' m B:=by
 have n1:dn≠r:=z2e R.no R.ro (by simp[z4D])
 have n2:dq≠r:=z2e R.qo R.ro (by simp[z4D])
 have n3:lo≠r:=z2e R.oo R.ro (by simp[z4D])
 have n4:∀t∈ss,ql t≠r:=fun t ht=>z2e (R.qs t ht) R.ro (by simp[z4D])
 exact⟨z01,by rw[z06 n1];exact R.no,by rw[z06 n2];exact R.qo,by rw[z06 n3];exact R.oo,fun t ht=>by rw[z06 (R.dr t ht)];exact R.qu t ht,fun t ht=>by rw[z06 (n4 t ht)];exact R.qs t ht,R.ja,R.jl,R.dl,R.dr,R.dd⟩
end
theorem z2c {own:Addr->Prop}{H H1:Hp}{c:Addr}{o:HO}(h:z7u own H H1) (hc:own c):z7u own H (upd H1 c o):=fun d x hd hx=>by
 rw[z06 (fun z=>hd (by rw[z];exact hc))]
 exact h d x hd hx
theorem z1F {own:Addr->Prop}{H:Hp}:z7u own H H:=fun _ _ _ h=>h
theorem z4Y (T:Tx P w K mg a):z1B P w K mg base (CXX P w) 4 a.Run_do_plain a.fd_Run_do_plain ["self","deed"] (z4J a):=by
 refine T.F_Run_do_plain.okX z35 (fun vs H Q E h=>?_) (fun cdv A outer s H vs Q E hr h=>?_)
 ·obtain⟨_,_,_,_,_,_,_,_,_,_,_,_,_,_,_,_,rfl,_⟩:=h
  rfl
 obtain⟨r,dx,dn,dq,lo,p,qa,qd,ql,zs,ss,k,m,B,n,d,rfl,R,hd,po,pl,nd,h8,sl,bo,n9,kv,kx⟩:=h
 refine⟨_,(z04 (z0p (i:=2) z35.nd rfl (Or.inl rfl) (z0j z0d (pv 1) z03 (fun _ _=>rfl)))
  (z05 (z0v (z0b z0W (pv 2) z0x (z0h _)) (z05 (z2L (hr.one) (z18 (pv 0) rfl) (z0j z0d (pv 1) z03 (fun _ _=>rfl)) (z0q (zcw T) (hr.mono (by decide)) rfl T.m_done T.F_done.kp T.b_done .nil z0K (z00 (z0j z0d (pv 1) z03 (fun _ _=>rfl)) (z00 (z26 (pv 0) T.cl_Run T.mt_Run_number_of (z2S T) (hr.mono (by decide)) T.b_Run_number_of .nil z0K (z00 (z0j z0d (pv 1) z03 (fun _ _=>rfl)) z07)) (z00 (z26 (pv 0) T.cl_Run T.mt_Run_number_of (z2S T) (hr.mono (by decide)) T.b_Run_number_of .nil z0K (z00 (z0j z0d (pv 1) z03 (fun _ _=>rfl)) z07)) z07)))) rfl)) (z05 (z0v (z0b z0W (pv 2) z0x (z0h _)) (z05 (z0P (z26 (z3a hr.one (z18 (pv 0) rfl) (z0j z0d (pv 1) z03 (fun _ _=>rfl)) (fun _ _=>rfl)) T.cl_Queue T.mt_Queue_lay (z76 T) (hr.mono (by decide)) T.b_Queue_lay .nil z0K (z00 (z3a hr.one (z18 (pv 0) rfl) (z0j z0d (pv 1) z03 (fun _ _=>rfl)) (fun _ _=>rfl)) z07)))) (z05 (z0v (z0b z0W (pv 2) z0x (z0h _)) (z05 (z2L (hr.one) (z18 (pv 0) rfl) (z0j z0d (pv 1) z03 (fun _ _=>rfl)) (z26 (pv 0) T.cl_Run T.mt_Run_got_from (z4W T) (hr.mono (by decide)) T.b_Run_got_from .nil z5r (z00 (z0j z0d (pv 1) z03 (fun _ _=>rfl)) z07)) rfl)) (z05 (z0P (z2W qj qC qD z0O (z18 (pv 0) rfl) (z00 (z3a hr.one (z18 (pv 0) rfl) (z0j z0d (pv 1) z03 (fun _ _=>rfl)) (fun _ _=>rfl)) z07))))))))))),?_⟩
 have own0:z5M r dn lo qa ql ss dn:=.inr (.inl rfl)
 have ownO:z5M r dn lo qa ql ss lo:=.inr (.inr (.inl rfl))
 have ownA:∀s∈ss,z5M r dn lo qa ql ss (qa s):=fun s hs=>.inr (.inr (.inr ⟨s,hs,.inl rfl⟩))
 have ownL:∀s∈ss,z5M r dn lo qa ql ss (ql s):=fun s hs=>.inr (.inr (.inr ⟨s,hs,.inr rfl⟩))
 have numN:∀x∈zs,z7y H dn (.str x) (some (.int (B.f x))):=fun x hx=>by
  have:=z7y.k (k:=.inr x) R.no
  rw[z3X hx]at this
  exact this
 cases d with
 |cond _ _ _=>exact pl.elim
 |whl _ _=>exact pl.elim
 |rep _ _=>exact pl.elim
 |set x va sg vb=>
  obtain⟨hx,ha,hb⟩:=po
  have na:∀y∈va.names,y∈zs:=fun y hy=>by
   cases va with
   |num n=>simp[Val.names]at hy
   |nm z=>rw[List.mem_singleton.mp hy];exact ha
  have nb:∀y∈vb.names,y∈zs:=fun y hy=>by
   cases vb with
   |num n=>simp[Val.names]at hy
   |nm z=>rw[List.mem_singleton.mp hy];exact hb
  cases hd with
  |set h=>
   refine⟨_,rfl,_,_,_,_,rfl,rfl,SqT.of h,rfl,?_⟩
   refine⟨_,rfl,rfl,_,rfl,?_⟩
   walk_at "yes"
   refine⟨_,rfl,_,_,_,_,rfl,rfl,SqT.of h,rfl,?_⟩
   refine⟨_,rfl,r,_,_,rfl,R.ro,z1d (by decide +kernel),_,rfl,_,_,_,_,rfl,rfl,SqT.of h,rfl,r,dx,dn,dq,lo,k,m,va,zs,B.f,rfl,R.ro,R.no,na,?_⟩
   refine⟨_,rfl,r,_,_,rfl,R.ro,z1d (by decide +kernel),_,rfl,_,_,_,_,rfl,rfl,SqT.of h,rfl,r,dx,dn,dq,lo,k,m,vb,zs,B.f,rfl,R.ro,R.no,nb,?_⟩
   refine⟨_,_,_,rfl,z5Q bo.on ha,z5Q bo.on hb,?_⟩
   refine⟨_,rfl,r,_,_,_,_,rfl,R.ro,T.cl_Run,T.nf_Run_numbers,zbJ,_,rfl,_,_,_,_,rfl,rfl,SqT.of h,rfl,dn,_,rfl,.inl ⟨_,.inr _,R.no,rfl,by rw[z3Y];exact z08 (m:=20000) (by omega),rfl⟩,?_⟩
   rw[z5R nd,show z2U zs _=zs from if_pos hx]
   exact kv _ _ rfl (z2c z1F own0) (R.setN _)
 |put st x=>
  obtain⟨hs,hx⟩:=po
  cases hd with
  |put h=>
   refine⟨_,rfl,_,_,_,_,rfl,rfl,SqT.of h,rfl,?_⟩
   refine⟨_,rfl,rfl,_,rfl,?_⟩
   walk_at "no"
   refine⟨_,rfl,rfl,_,rfl,?_⟩
   walk_at "yes"
   have hget:z7y H dq (.str st) (some (.ref (qa st))):=by
    have:=z7y.k (k:=.inr st) R.qo
    rw[z4y hs]at this
    exact this
   refine⟨_,rfl,r,_,_,_,_,rfl,R.ro,T.cl_Run,T.nf_Run_queues,zdV,_,rfl,_,_,_,_,rfl,rfl,SqT.of h,rfl,dq,_,rfl,hget,qa st,_,_,rfl,R.qu st hs,z6e (by decide +kernel),?_⟩
   refine⟨_,rfl,r,_,_,_,_,rfl,R.ro,T.cl_Run,T.nf_Run_numbers,zbJ,_,rfl,_,_,_,_,rfl,rfl,SqT.of h,rfl,dn,_,rfl,numN x hx,?_⟩
   have:=bo.ql st
   exact⟨qa st,_,_,_,_,_,rfl,R.qu st hs,R.qs st hs,by omega,kv _ _ rfl (z2c z1F (ownL st hs)) (R.setQ hs _)⟩
 |get st x=>
  obtain⟨hs,hx⟩:=po
  cases hd with
  |get h=>
   refine⟨_,rfl,_,_,_,_,rfl,rfl,SqT.of h,rfl,?_⟩
   refine⟨_,rfl,rfl,_,rfl,?_⟩
   walk_at "no"
   refine⟨_,rfl,rfl,_,rfl,?_⟩
   walk_at "no"
   refine⟨_,rfl,rfl,_,rfl,?_⟩
   walk_at "yes"
   refine⟨_,rfl,r,_,_,rfl,R.ro,z1d (by decide +kernel),_,rfl,_,_,_,_,rfl,rfl,SqT.of h,rfl,r,dx,dn,dq,lo,qa,qd,ql,zs,ss,k,m,B,n,st,rfl,R,hs,sl st hs,bo,fun v ev=>?_,fun en=>?_⟩
   ·have R2:=R.setG hs (B.g st+1)
    have np:p≠qa st:=z2e h (R.qu st hs) (by simp[z5L])
    have h2:upd H (qa st) (z5L a (qd st) (ql st) (B.g st+1)) p=some (.tup [.str "get",.str st,.str x]):=by rw[z06 np];exact h
    refine⟨_,rfl,r,_,_,_,_,rfl,R2.ro,T.cl_Run,T.nf_Run_numbers,zbJ,_,rfl,_,_,_,_,rfl,rfl,SqT.of h2,rfl,dn,_,rfl,.inl ⟨_,.inr _,R2.no,rfl,by rw[z3Y];exact z08 (m:=20000) (by omega),rfl⟩,?_⟩
    rw[z5R nd,show z2U zs _=zs from if_pos hx]
    exact kv _ _ (by unfold stp;dsimp only;rw[ev]) (z2c (z2c z1F (ownA st hs)) own0) (R2.setN _)
   ·exact kx (by unfold stp;dsimp only;rw[en])
 |give x=>
  have hx:=po
  cases hd with
  |give h=>
   refine⟨_,rfl,_,_,_,_,rfl,rfl,SqT.of h,rfl,?_⟩
   refine⟨_,rfl,rfl,_,rfl,?_⟩
   walk_at "no"
   refine⟨_,rfl,rfl,_,rfl,?_⟩
   walk_at "no"
   refine⟨_,rfl,rfl,_,rfl,?_⟩
   walk_at "no"
   refine⟨_,rfl,r,_,_,_,_,rfl,R.ro,T.cl_Run,T.nf_Run_outs,zeI,.inl ⟨rfl,_,SqL.of R.oo⟩,?_⟩
   refine⟨_,rfl,r,_,_,_,_,rfl,R.ro,T.cl_Run,T.nf_Run_numbers,zbJ,_,rfl,_,_,_,_,rfl,rfl,SqT.of h,rfl,dn,_,rfl,numN x hx,?_⟩
   have:=bo.ol
   refine⟨lo,_,_,rfl,rfl,R.oo,z08 (m:=20000) (by rw[qb];omega),?_⟩
   rw[show B.o.map V.int++[V.int (B.f x)]=(B.o++[B.f x]).map V.int by rw[List.map_append];rfl]
   exact kv _ _ rfl (z2c z1F ownO) (R.setO _)
theorem z75 (T:Tx P w K mg a) {n L:Nat}(l4:4<=L) (hB:z1B P w K mg base (CXX P w) L a.Run_do_block a.fd_Run_do_block ["self","block"] (z14 a n)):z1B P w K mg base (CXX P w) (L+1) a.Run_do_if a.fd_Run_do_if ["self","name","then","other"] (z4h a (n+1)):=by
 refine T.F_Run_do_if.okX z6U (fun vs H Q E h=>?_) (fun cdv A outer s H vs Q E hr h=>?_)
 ·obtain⟨_,_,_,_,_,_,_,_,_,_,_,_,_,_,_,_,_,_,_,rfl,_⟩:=h
  rfl
 obtain⟨H0,r,dx,dn,dq,lo,t,o,qa,qd,ql,zs,ss,k,m,B,x,ts,os,rfl,R,ht,ho,bo,dp,kt,kf,kx⟩:=h
 refine⟨_,(z04 (z0v (z1s (z0M (z2b (pv 0) T.cl_Run T.mt_Run_do_step (z1E T) (hr.mono (by omega)) T.b_Run_do_step .nil z0K))) (z05 (z0e z1n)) z0i)
  (z05 (z0e (z26 (pv 0) T.cl_Run T.mt_Run_do_block hB (hr.mono (by omega)) T.b_Run_do_block .nil z5r (z00 (z3h (z0b z0W (z3a hr.one (z18 (pv 0) rfl) (pv 1) (fun _ _=>rfl)) z03 (z0h _)) (pv 3) (pv 2)) z07))))),?_⟩
 have hx:x∈zs:=bo.head.1
 have numN:z7y (upd H r (z4D a dx dn dq lo (k+1) m)) dn (.str x) (some (.int (B.f x))):=by
  have:=z7y.k (k:=.inr x) (R.run.setR (k+1)).no
  rw[z3X hx]at this
  exact this
 refine⟨_,rfl,r,_,_,rfl,R.run.ro,z1d (by decide +kernel),r,dx,dn,dq,lo,k,m,rfl,R.run.ro,fun c=>?_,fun c=>?_⟩
 ·obtain rfl:k=m:=by have:=R.km;omega
  exact⟨_,rfl,z1a rfl (kf B H (fun r' p'=>⟨_,.refl,trivial⟩) z1F R)⟩
 ·have R2:z7t a H0 (upd H r (z4D a dx dn dq lo (k+1) m)) r dx dn dq lo qa qd ql zs ss (k+1) m B:=⟨z0f.over R.same (R.own r (.inl rfl)),R.own,R.run.setR _,R.bk.up,by omega,R.m9,R.nd,R.few,R.sl⟩
  have kp:z7u (z5M r dn lo qa ql ss) H (upd H r (z4D a dx dn dq lo (k+1) m)):=z2c z1F (.inl rfl)
  have go:∀r' p',z2l m (onD (.cond x ts os) r' p') B k (onB (if B.f x=0 then os else ts) r' (zbL r' p')) B (k+1):=fun r' p'=>.step (by omega) rfl .refl
  refine⟨_,rfl,z0X rfl ?_⟩
  have fin:∀(ds:List z0c) (b:Addr),RL H0 b ds->z1W zs ss ds->z0o ds<n->ds=(if B.f x=0 then os else ts)->z14 a n [.ref r,.ref b] (upd H r (z4D a dx dn dq lo (k+1) m)) Q E:=fun ds b hb bb dd e=>by
   subst e
   exact⟨H0,r,dx,dn,dq,lo,b,qa,qd,ql,zs,ss,k+1,m,B,_,rfl,R2,hb,bb,dd,fun B' k' H' g kp' R'=>kt B' k' H' (fun r' p'=>(go r' p').trans (g r' (zbL r' p'))) (fun c o hc h=>kp' c o hc (kp c o hc h)) R',fun B' H' g kp' R'=>kf B' H' (fun r' p'=>by
    obtain⟨S,g1,g2⟩:=g r' (zbL r' p')
    exact⟨S,(go r' p').trans g1,g2⟩) (fun c o hc h=>kp' c o hc (kp c o hc h)) R',fun B' k' H' y g kk kp' hy=>kx B' k' H' y (fun r' p'=>by
    obtain⟨S,g1,g2⟩:=g r' (zbL r' p')
    exact⟨S,(go r' p').trans g1,g2⟩) kk (fun c o hc h=>kp' c o hc (kp c o hc h)) hy⟩
  have dd:max (z0o ts) (z0o os)+1<n+1:=dp
  refine⟨_,rfl,r,_,_,rfl,R2.run.ro,z1d (by decide +kernel),_,rfl,r,_,_,_,_,rfl,R2.run.ro,T.cl_Run,T.nf_Run_numbers,zbJ,_,rfl,dn,_,rfl,numN,rfl,_,rfl,z2X (fun c=>?_) (fun c=>?_)⟩
  ·have z:B.f x=0:=by rw[z4e]at c;simpa using c
   exact⟨_,rfl,fin os o ho (bo.head.2.2 os (by simp[z0c.inner])) (by omega) (by rw[if_pos z])⟩
  ·have z:¬ B.f x=0:=by rw[z4e]at c;simpa using c
   exact⟨_,rfl,fin ts t ht (bo.head.2.2 ts (by simp[z0c.inner])) (by omega) (by rw[if_neg z])⟩
theorem zco {m k:Nat}{c:Option Int}{p:List Pf}{B:Bk}:z2l m (⟨[],c⟩::p) B k p B k:=.pop .refl
theorem z4Z (T:Tx P w K mg a) {n L:Nat}(l4:4<=L) (hD:z1B P w K mg base (CXX P w) L a.Run_do_deed a.fd_Run_do_deed ["self","deed"] (z3j a n)):z1B P w K mg base (CXX P w) (L+1) a.Run_do_block a.fd_Run_do_block ["self","block"] (z14 a n):=by
 refine T.F_Run_do_block.okX z2o (fun vs H Q E h=>?_) (fun cdv A outer s H vs Q E hr h=>?_)
 ·obtain⟨_,_,_,_,_,_,_,_,_,_,_,_,_,_,_,_,rfl,_⟩:=h
  rfl
 obtain⟨H0,r,dx,dn,dq,lo,b,qa,qd,ql,zs,ss,k,m,B,ds,rfl,R,hb,bo,dp,kt,kf,kx⟩:=h
 refine⟨_,(z04 (z1Y PassesOwn.leaving rfl (z1m (pv 1)) (z0s (i:=2) z2o.nd rfl (Or.inl rfl))
  (z05 (z0v (z1s (z0M (z26 (pv 0) T.cl_Run T.mt_Run_do_deed hD (hr.mono (by omega)) T.b_Run_do_deed .nil z5r (z00 (pv 2) z07)))) (z05 (z0e z1n)) z0i)))
  (z05 (z0e z1n))),?_⟩
 obtain⟨hb1,hds⟩:=hb
 rename_i us
 have each:∀{ds:List z0c}{i:Nat}{d:z0c},ds[i]?=some d->z1W zs ss ds->z0o ds<n->z1W zs ss [d]/\d.depth<n:=by
  intro ds
  induction ds with
  |nil=>intro i d h;simp at h
  |cons e r ih=>
   intro i d h hb hd
   rw[z0o]at hd
   cases i with
   |zero=>
    simp at h
    subst h
    refine⟨fun y hy=>hb y ?_,by omega⟩
    rw[z0k,z0k,qF]at hy
    rw[z0k]
    exact qk.mpr (.inl hy)
   |succ i=>exact ih (by simpa using h) hb.head.2.1 (by omega)
 refine⟨_,rfl,b,rfl,⟨_,SqL.of (R.same _ _ hb1)⟩,?_⟩
 refine z2j (K:=K) (a:=b) (xs:=us) (fun i σ H2=>∃v B2 k2,σ=[some (.ref r),some (.ref b),v]/\z7u (z5M r dn lo qa ql ss) H H2/\z7t a H0 H2 r dx dn dq lo qa qd ql zs ss k2 m B2/\∀p',z2l m (⟨ds,none⟩::p') B k (⟨ds.drop i,none⟩::p') B2 k2) ⟨_,B,k,rfl,z1F,R,fun p'=>.refl⟩ ?_ ?_ ?_
 ·rintro i σ H2 _ ⟨v,B2,k2,_,kp,R2,_⟩
  exact SqL.of (R2.same _ _ hb1)
 ·rintro i x σ H2 hx ⟨v,B2,k2,rfl,kp,R2,go⟩
  obtain⟨d,hd,hrd⟩:=hds.at i x hx
  have il:i<ds.length:=(qi.mp hd).1
  have dr:ds.drop i=d::ds.drop (i+1):=by
   rw[List.drop_eq_getElem_cons il]
   congr 1
   rw[qf il]at hd
   exact qQ hd
  obtain⟨b1,d1⟩:=each hd bo dp
  have ref:∃p,x=.ref p:=by cases hrd<;>exact⟨_,rfl⟩
  obtain⟨p,rfl⟩:=ref
  rw[dr]at go
  refine⟨_,rfl,r,_,_,rfl,R2.run.ro,z1d (by decide +kernel),_,rfl,H0,r,dx,dn,dq,lo,p,qa,qd,ql,zs,ss,k2,m,B2,d,rfl,R2,hrd,b1,d1,fun B' k' H' g kp' R'=>?_,fun B' H' g kp' R'=>?_,fun B' k' H' y g kk kp' hy=>?_⟩
  ·exact⟨_,rfl,z0X rfl ⟨_,B',k',rfl,fun c o hc h=>kp' c o hc (kp c o hc h),R',fun p'=>(go p').trans (g _ p')⟩⟩
  ·refine⟨_,rfl,z1a rfl (kf B' H' (fun r' p'=>?_) (fun c o hc h=>kp' c o hc (kp c o hc h)) R')⟩
   obtain⟨S,g1,g2⟩:=g (ds.drop (i+1)) p'
   exact⟨S,(go p').trans g1,g2⟩
  ·refine kx B' k' H' y (fun r' p'=>?_) kk (fun c o hc h=>kp' c o hc (kp c o hc h)) hy
   obtain⟨S,g1,g2⟩:=g (ds.drop (i+1)) p'
   exact⟨S,(go p').trans g1,g2⟩
 ·rintro σ H2 ⟨v,B2,k2,rfl,kp,R2,go⟩
  rw[hds.len,List.drop_length]at go
  exact kt B2 k2 H2 (fun r' p'=>(go p').trans zco) kp R2
theorem z5w (T:Tx P w K mg a) {n L:Nat}(l4:4<=L) (hI:z1B P w K mg base (CXX P w) L a.Run_do_if a.fd_Run_do_if ["self","name","then","other"] (z4h a n)) (hW:z1B P w K mg base (CXX P w) L a.Run_do_while a.fd_Run_do_while ["self","name","body"] (z30 a n)) (hR:z1B P w K mg base (CXX P w) L a.Run_do_repeat a.fd_Run_do_repeat ["self","rounds","body"] (z2Q a n)):z1B P w K mg base (CXX P w) (L+1) a.Run_do_deed a.fd_Run_do_deed ["self","deed"] (z3j a n):=by
 refine T.F_Run_do_deed.okX z3l (fun vs H Q E h=>?_) (fun cdv A outer s H vs Q E hr h=>?_)
 ·obtain⟨_,_,_,_,_,_,_,_,_,_,_,_,_,_,_,_,rfl,_⟩:=h
  rfl
 obtain⟨H0,r,dx,dn,dq,lo,p,qa,qd,ql,zs,ss,k,m,B,d,rfl,R,hd,bo,dp,com⟩:=h
 refine⟨_,(z04 (z0p (i:=2) z3l.nd rfl (Or.inl rfl) (z0j z0d (pv 1) z03 (fun _ _=>rfl)))
  (z04 (z0v (z0b z0W (pv 2) z0x (z0h _)) (z05 (z0e (z26 (pv 0) T.cl_Run T.mt_Run_do_if hI (hr.mono (by omega)) T.b_Run_do_if .nil z5r (z00 (z0j z0d (pv 1) z03 (fun _ _=>rfl)) (z00 (z0j z0d (pv 1) z03 (fun _ _=>rfl)) (z00 (z0j z0d (pv 1) z03 (fun _ _=>rfl)) z07)))))) z0i)
  (z04 (z0v (z0b z0W (pv 2) z0x (z0h _)) (z05 (z0e (z26 (pv 0) T.cl_Run T.mt_Run_do_while hW (hr.mono (by omega)) T.b_Run_do_while .nil z5r (z00 (z0j z0d (pv 1) z03 (fun _ _=>rfl)) (z00 (z0j z0d (pv 1) z03 (fun _ _=>rfl)) z07))))) z0i)
  (z04 (z0v (z0b z0W (pv 2) z0x (z0h _)) (z05 (z0e (z26 (pv 0) T.cl_Run T.mt_Run_do_repeat hR (hr.mono (by omega)) T.b_Run_do_repeat .nil z5r (z00 (z0j z0d (pv 1) z03 (fun _ _=>rfl)) (z00 (z0j z0d (pv 1) z03 (fun _ _=>rfl)) z07))))) z0i)
  (z04 (z0v (z0M (z2b (pv 0) T.cl_Run T.mt_Run_is_spent (z3b T) (hr.mono (by omega)) T.b_Run_is_spent .nil z0K)) (z05 (z0e z1n)) z0i)
  (z04 (z0P (z26 (pv 0) T.cl_Run T.mt_Run_do_plain (z4Y T) (hr.mono (by omega)) T.b_Run_do_plain .nil z5r (z00 (pv 1) z07)))
  (z05 (z0e (z2b (pv 0) T.cl_Run T.mt_Run_do_step (z1E T) (hr.mono (by omega)) T.b_Run_do_step .nil z0K))))))))),?_⟩
 have plain:z9I d->∃kd xs,H p=some (.tup (.str kd::xs))/\kd≠("if":Str)/\kd≠("while":Str)/\kd≠("repeat":Str):=fun pl=>by
  cases hd with
  |set h=>exact⟨_,_,R.same _ _ h,by decide +kernel,by decide +kernel,by decide +kernel⟩
  |put h=>exact⟨_,_,R.same _ _ h,by decide +kernel,by decide +kernel,by decide +kernel⟩
  |get h=>exact⟨_,_,R.same _ _ h,by decide +kernel,by decide +kernel,by decide +kernel⟩
  |give h=>exact⟨_,_,R.same _ _ h,by decide +kernel,by decide +kernel,by decide +kernel⟩
  |cond=>exact pl.elim
  |whl=>exact pl.elim
  |rep=>exact pl.elim
 by_cases pl:z9I d
 ·obtain⟨kd,xs,h,i1,i2,i3⟩:=plain pl
  have ne:∀x:Str,kd≠x->decide (V.str kd=V.str x)=false:=fun x hx=>decide_eq_false fun z=>hx (by injection z)
  refine⟨_,rfl,_,_,_,_,rfl,rfl,SqT.of h,z0A (j:=0) rfl,?_⟩
  refine⟨_,rfl,rfl,_,rfl,z0X (ne _ i1) ?_⟩
  refine⟨_,rfl,rfl,_,rfl,z0X (ne _ i2) ?_⟩
  refine⟨_,rfl,rfl,_,rfl,z0X (ne _ i3) ?_⟩
  obtain⟨kt,kf,kx⟩:=com
  refine⟨_,rfl,r,_,_,rfl,R.run.ro,z1d (by decide +kernel),r,dx,dn,dq,lo,k,m,rfl,R.run.ro,_,rfl,z2X (fun c=>?_) (fun c=>?_)⟩
  ·have c:=of_decide_eq_true c
   obtain rfl:k=m:=by have:=R.km;omega
   exact kf B H (fun r' p'=>⟨_,.refl,trivial⟩) z1F R
  have lt:k<m:=by
   rcases Nat.lt_or_ge k m with z|z
   ·exact z
   ·exact absurd (decide_eq_true (by omega)) c
  have km:=R.km
  have m9:=R.m9
  have st:∀r' p',z2B B d r' none p'=(stp B d).map fun B'=>(⟨r',none⟩::p',B'):=fun r' p'=>by
   cases d<;>first|rfl|exact pl.elim
  refine⟨_,rfl,r,_,_,rfl,R.run.ro,z1d (by decide +kernel),_,rfl,r,dx,dn,dq,lo,p,qa,qd,ql,zs,ss,k,m,B,k,d,rfl,R.run,hd.same R.same,bo.head.1,pl,R.nd,R.few,R.sl,R.bk,by omega,fun B' H' e kp R'=>?_,fun e H' y s' hy=>?_⟩
  ·refine⟨_,rfl,r,_,_,rfl,R'.ro,z1d (by decide +kernel),r,dx,dn,dq,lo,k,m,rfl,R'.ro,fun c=>by omega,fun _=>?_⟩
   have kp2:=z2c (o:=z4D a dx dn dq lo (k+1) m) kp (.inl rfl)
   refine kt B' (k+1) _ (fun r' p'=>.step lt (by rw[st,e];rfl) .refl) kp2 ⟨fun c o hc=>kp2 c o (fun z=>by rw[R.own c z]at hc;cases hc) (R.same c o hc),R.own,R'.setR _,z9s R.bk bo.head.1 e,by omega,R.m9,R.nd,R.few,R.sl⟩
  ·exact kx B k H' y (fun r' p'=>⟨_,.refl,by show z2B B d r' none p'=none;rw[st,e];rfl⟩) lt (fun c o _ h=>s' c o h) hy
 ·cases hd with
  |set=>exact(pl trivial).elim
  |put=>exact(pl trivial).elim
  |get=>exact(pl trivial).elim
  |give=>exact(pl trivial).elim
  |cond h ht ho=>
   have h:=R.same _ _ h
   refine⟨_,rfl,_,_,_,_,rfl,rfl,SqT.of h,z0A (j:=0) rfl,?_⟩
   refine⟨_,rfl,rfl,_,rfl,z1a (by decide +kernel) ?_⟩
   exact⟨_,rfl,r,_,_,rfl,R.run.ro,z1d (by decide +kernel),_,rfl,_,_,_,_,rfl,rfl,SqT.of h,z0A (j:=1) rfl,_,rfl,_,_,_,_,rfl,rfl,SqT.of h,z0A (j:=2) rfl,_,rfl,_,_,_,_,rfl,rfl,SqT.of h,z0A (j:=3) rfl,H0,r,dx,dn,dq,lo,_,_,qa,qd,ql,zs,ss,k,m,B,_,_,_,rfl,R,ht,ho,bo,dp,com⟩
  |whl h hb=>
   have h:=R.same _ _ h
   refine⟨_,rfl,_,_,_,_,rfl,rfl,SqT.of h,z0A (j:=0) rfl,?_⟩
   refine⟨_,rfl,rfl,_,rfl,z0X (by decide +kernel) ?_⟩
   refine⟨_,rfl,rfl,_,rfl,z1a (by decide +kernel) ?_⟩
   exact⟨_,rfl,r,_,_,rfl,R.run.ro,z1d (by decide +kernel),_,rfl,_,_,_,_,rfl,rfl,SqT.of h,z0A (j:=1) rfl,_,rfl,_,_,_,_,rfl,rfl,SqT.of h,z0A (j:=2) rfl,H0,r,dx,dn,dq,lo,_,qa,qd,ql,zs,ss,k,m,B,_,_,rfl,R,hb,bo,dp,com⟩
  |rep h hb=>
   have h:=R.same _ _ h
   refine⟨_,rfl,_,_,_,_,rfl,rfl,SqT.of h,z0A (j:=0) rfl,?_⟩
   refine⟨_,rfl,rfl,_,rfl,z0X (by decide +kernel) ?_⟩
   refine⟨_,rfl,rfl,_,rfl,z0X (by decide +kernel) ?_⟩
   refine⟨_,rfl,rfl,_,rfl,z1a (by decide +kernel) ?_⟩
   exact⟨_,rfl,r,_,_,rfl,R.run.ro,z1d (by decide +kernel),_,rfl,_,_,_,_,rfl,rfl,SqT.of h,z0A (j:=1) rfl,_,rfl,_,_,_,_,rfl,rfl,SqT.of h,z0A (j:=2) rfl,H0,r,dx,dn,dq,lo,_,qa,qd,ql,zs,ss,k,m,B,_,_,rfl,R,hb,bo,dp,com⟩
theorem z4u (T:Tx P w K mg a) {n L:Nat}(l4:4<=L) (hB:z1B P w K mg base (CXX P w) L a.Run_do_block a.fd_Run_do_block ["self","block"] (z14 a n)):z1B P w K mg base (CXX P w) (L+1) a.Run_do_repeat a.fd_Run_do_repeat ["self","rounds","body"] (z2Q a (n+1)):=by
 refine T.F_Run_do_repeat.okX z2R (fun vs H Q E h=>?_) (fun cdv A outer s H vs Q E hr h=>?_)
 ·obtain⟨_,_,_,_,_,_,_,_,_,_,_,_,_,_,_,_,_,rfl,_⟩:=h
  rfl
 obtain⟨H0,r,dx,dn,dq,lo,b,qa,qd,ql,zs,ss,k,m,B,c,bs,rfl,R,hb,bo,dp,kt,kf,kx⟩:=h
 refine⟨_,(z04 (z1Y PassesOwn.leaving rfl (z2C rfl T.z_range (z00 (pv 1) z07)) (z0s (i:=3) z2R.nd rfl (Or.inl rfl))
  (z05 (z0v (PW.pt (z38 (z1s (z0M (z2b (pv 0) T.cl_Run T.mt_Run_do_step (z1E T) (hr.mono (by omega)) T.b_Run_do_step .nil z0K))) (z37 (z1s (z0M (z26 (pv 0) T.cl_Run T.mt_Run_do_block hB (hr.mono (by omega)) T.b_Run_do_block .nil z5r (z00 (pv 2) z07))))))) (z05 (z0e z1n)) z0i)))
  (z05 (z0e (z2b (pv 0) T.cl_Run T.mt_Run_do_step (z1E T) (hr.mono (by omega)) T.b_Run_do_step .nil z0K)))),?_⟩
 have hc:0<=c/\c<=1000:=bo.head.1
 have dd:z0o bs+1<n+1:=dp
 have bb:z1W zs ss bs:=bo.head.2.2 bs (by simp[z0c.inner])
 have km:=R.km
 have up:∀{k2:Nat}{B2:Bk}{H2:Hp},k2<m->z7t a H0 H2 r dx dn dq lo qa qd ql zs ss k2 m B2->z7t a H0 (upd H2 r (z4D a dx dn dq lo (k2+1) m)) r dx dn dq lo qa qd ql zs ss (k2+1) m B2:=fun{k2 B2 H2} lt R2=>⟨z0f.over R2.same (R2.own r (.inl rfl)),R2.own,R2.run.setR _,R2.bk.up,by omega,R2.m9,R2.nd,R2.few,R2.sl⟩
 refine⟨_,rfl,c,rfl,by omega,by omega,z3S (fun i σ H2=>∃v B2 k2 ci,σ=[some (.ref r),some (.int c),some (.ref b),v]/\z7u (z5M r dn lo qa ql ss) H H2/\z7t a H0 H2 r dx dn dq lo qa qd ql zs ss k2 m B2/\Option.getD ci c=c-i/\∀r' p',z2l m (⟨.rep c bs::r',none⟩::p') B k (⟨.rep c bs::r',ci⟩::p') B2 k2) ⟨_,B,k,none,rfl,z1F,R,by show c=c-0;omega,fun r' p'=>.refl⟩ ?_ ?_⟩
 ·rintro i σ H2 hi ⟨v,B2,k2,ci,rfl,kp,R2,hci,go⟩
  have km2:=R2.km
  refine⟨_,rfl,r,_,_,rfl,R2.run.ro,z1d (by decide +kernel),r,dx,dn,dq,lo,k2,m,rfl,R2.run.ro,fun z=>?_,fun z=>?_⟩
  ·obtain rfl:k2=m:=by omega
   exact⟨_,rfl,z1a rfl (z1a rfl (kf B2 H2 (fun r' p'=>⟨_,go r' p',trivial⟩) kp R2))⟩
  ·have lt:k2<m:=by omega
   have R3:=up lt R2
   have kp3:z7u (z5M r dn lo qa ql ss) H (upd H2 r (z4D a dx dn dq lo (k2+1) m)):=z2c kp (.inl rfl)
   have go3:∀r' p',z2l m (⟨.rep c bs::r',none⟩::p') B k (⟨bs,none⟩::⟨.rep c bs::r',some (c-i-1)⟩::p') B2 (k2+1):=fun r' p'=>(go r' p').trans (.step lt (by unfold z2B;dsimp only;rw[hci,if_pos (by omega)]) .refl)
   refine⟨_,rfl,z0X rfl ?_⟩
   refine⟨_,rfl,r,_,_,rfl,R3.run.ro,z1d (by decide +kernel),_,rfl,H0,r,dx,dn,dq,lo,b,qa,qd,ql,zs,ss,k2+1,m,B2,bs,rfl,R3,hb,bb,by omega,fun B' k' H' g kp' R'=>?_,fun B' H' g kp' R'=>?_,fun B' k' H' y g kk kp' hy=>?_⟩
   ·exact⟨_,rfl,z0X rfl ⟨_,B',k',some (c-i-1),rfl,fun c o hc h=>kp' c o hc (kp3 c o hc h),R',by show c-i-1=c-((i+1:Nat):Int);omega,fun r' p'=>(go3 r' p').trans (g r' (⟨.rep c bs::r',some (c-i-1)⟩::p'))⟩⟩
   ·refine⟨_,rfl,z1a rfl (kf B' H' (fun r' p'=>?_) (fun c o hc h=>kp' c o hc (kp3 c o hc h)) R')⟩
    obtain⟨S,g1,g2⟩:=g r' (⟨.rep c bs::r',some (c-i-1)⟩::p')
    exact⟨S,(go3 r' p').trans g1,g2⟩
   ·refine kx B' k' H' y (fun r' p'=>?_) kk (fun c o hc h=>kp' c o hc (kp3 c o hc h)) hy
    obtain⟨S,g1,g2⟩:=g r' (⟨.rep c bs::r',some (c-i-1)⟩::p')
    exact⟨S,(go3 r' p').trans g1,g2⟩
 ·rintro σ H2 ⟨v,B2,k2,ci,rfl,kp,R2,hci,go⟩
  have km2:=R2.km
  refine⟨_,rfl,r,_,_,rfl,R2.run.ro,z1d (by decide +kernel),r,dx,dn,dq,lo,k2,m,rfl,R2.run.ro,fun z=>?_,fun z=>?_⟩
  ·obtain rfl:k2=m:=by omega
   exact kf B2 H2 (fun r' p'=>⟨_,go r' p',trivial⟩) kp R2
  ·have lt:k2<m:=by omega
   refine kt B2 (k2+1) _ (fun r' p'=>(go r' p').trans (.step lt ?_ .refl)) (z2c kp (.inl rfl)) (up lt R2)
   unfold z2B
   dsimp only
   rw[hci,if_neg (by omega)]
   rfl
theorem z4X (T:Tx P w K mg a) {n L:Nat}(l4:4<=L) (hB:z1B P w K mg base (CXX P w) L a.Run_do_block a.fd_Run_do_block ["self","block"] (z14 a n)):z1B P w K mg base (CXX P w) (L+1) a.Run_do_while a.fd_Run_do_while ["self","name","body"] (z30 a (n+1)):=by
 refine T.F_Run_do_while.okX z4Q (fun vs H Q E h=>?_) (fun cdv A outer s H vs Q E hr h=>?_)
 ·obtain⟨_,_,_,_,_,_,_,_,_,_,_,_,_,_,_,_,_,rfl,_⟩:=h
  rfl
 obtain⟨H0,r,dx,dn,dq,lo,b,qa,qd,ql,zs,ss,k,m,B,x,bs,rfl,R,hb,bo,dp,kt,kf,kx⟩:=h
 refine⟨_,(z04 (z8l PassesOwn.leaving (z0M (z2b (pv 0) T.cl_Run T.mt_Run_do_step (z1E T) (hr.mono (by omega)) T.b_Run_do_step .nil z0K)) (z04 (z0v (z0b z0W (z3a hr.one (z18 (pv 0) rfl) (pv 1) (fun _ _=>rfl)) z03 (z0h _)) (z05 (z0e z1n)) z0i)
  (z05 (z0v (z1s (z0M (z26 (pv 0) T.cl_Run T.mt_Run_do_block hB (hr.mono (by omega)) T.b_Run_do_block .nil z5r (z00 (pv 2) z07)))) (z05 (z0e z1n)) z0i))))
  (z05 (z0e z1n))),?_⟩
 have hx:x∈zs:=bo.head.1
 have dd:z0o bs+1<n+1:=dp
 have bb:z1W zs ss bs:=bo.head.2.2 bs (by simp[z0c.inner])
 refine⟨fun j σ H2=>∃B2 k2,j=m-k2/\σ=[some (.ref r),some (.str x),some (.ref b)]/\z7u (z5M r dn lo qa ql ss) H H2/\z7t a H0 H2 r dx dn dq lo qa qd ql zs ss k2 m B2/\∀r' p',z2l m (⟨.whl x bs::r',none⟩::p') B k (⟨.whl x bs::r',none⟩::p') B2 k2,⟨_,B,k,rfl,rfl,z1F,R,fun r' p'=>.refl⟩,?_⟩
 rintro j σ H2 ⟨B2,k2,rfl,rfl,kp,R2,go⟩
 have km2:=R2.km
 refine⟨_,rfl,r,_,_,rfl,R2.run.ro,z1d (by decide +kernel),r,dx,dn,dq,lo,k2,m,rfl,R2.run.ro,fun z=>?_,fun z=>?_⟩
 ·obtain rfl:k2=m:=by omega
  exact⟨_,rfl,z0X rfl (kf B2 H2 (fun r' p'=>⟨_,go r' p',trivial⟩) kp R2)⟩
 have lt:k2<m:=by omega
 have R3:z7t a H0 (upd H2 r (z4D a dx dn dq lo (k2+1) m)) r dx dn dq lo qa qd ql zs ss (k2+1) m B2:=⟨z0f.over R2.same (R2.own r (.inl rfl)),R2.own,R2.run.setR _,R2.bk.up,by omega,R2.m9,R2.nd,R2.few,R2.sl⟩
 have kp3:z7u (z5M r dn lo qa ql ss) H (upd H2 r (z4D a dx dn dq lo (k2+1) m)):=z2c kp (.inl rfl)
 have numN:z7y (upd H2 r (z4D a dx dn dq lo (k2+1) m)) dn (.str x) (some (.int (B2.f x))):=by
  have:=z7y.k (k:=.inr x) R3.run.no
  rw[z3X hx]at this
  exact this
 refine⟨_,rfl,z1a rfl ⟨fun σ H4=>∃B4 k4,k2<k4/\σ=[some (.ref r),some (.str x),some (.ref b)]/\z7u (z5M r dn lo qa ql ss) H H4/\z7t a H0 H4 r dx dn dq lo qa qd ql zs ss k4 m B4/\∀r' p',z2l m (⟨.whl x bs::r',none⟩::p') B k (⟨.whl x bs::r',none⟩::p') B4 k4,?_,?_⟩⟩
 ·rintro σ' H' ⟨B4,k4,l4,rfl,kp4,R4,go4⟩
  have:=R4.km
  exact⟨m-k4,by omega,B4,k4,rfl,rfl,kp4,R4,go4⟩
 refine⟨_,rfl,r,_,_,_,_,rfl,R3.run.ro,T.cl_Run,T.nf_Run_numbers,zbJ,_,rfl,dn,_,rfl,numN,rfl,_,rfl,z2X (fun c=>?_) (fun c=>?_)⟩
 ·have z:B2.f x=0:=by rw[z4e]at c;simpa using c
  exact kt B2 (k2+1) _ (fun r' p'=>(go r' p').trans (.step lt (by unfold z2B;dsimp only;rw[if_pos z];rfl) .refl)) kp3 R3
 ·have z:¬ B2.f x=0:=by rw[z4e]at c;simpa using c
  have go3:∀r' p',z2l m (⟨.whl x bs::r',none⟩::p') B k (⟨bs,none⟩::⟨.whl x bs::r',none⟩::p') B2 (k2+1):=fun r' p'=>(go r' p').trans (.step lt (by unfold z2B;dsimp only;rw[if_neg z]) .refl)
  refine⟨_,rfl,r,_,_,rfl,R3.run.ro,z1d (by decide +kernel),_,rfl,H0,r,dx,dn,dq,lo,b,qa,qd,ql,zs,ss,k2+1,m,B2,bs,rfl,R3,hb,bb,by omega,fun B' k' H' g kp' R'=>?_,fun B' H' g kp' R'=>?_,fun B' k' H' y g kk kp' hy=>?_⟩
  ·exact⟨_,rfl,z0X rfl ⟨B',k',by have:=(g [] [⟨.whl x bs::[],none⟩]).le;omega,rfl,fun c o hc h=>kp' c o hc (kp3 c o hc h),R',fun r' p'=>(go3 r' p').trans (g r' (⟨.whl x bs::r',none⟩::p'))⟩⟩
  ·refine⟨_,rfl,z1a rfl (kf B' H' (fun r' p'=>?_) (fun c o hc h=>kp' c o hc (kp3 c o hc h)) R')⟩
   obtain⟨S,g1,g2⟩:=g r' (⟨.whl x bs::r',none⟩::p')
   exact⟨S,(go3 r' p').trans g1,g2⟩
  ·refine kx B' k' H' y (fun r' p'=>?_) kk (fun c o hc h=>kp' c o hc (kp3 c o hc h)) hy
   obtain⟨S,g1,g2⟩:=g r' (⟨.whl x bs::r',none⟩::p')
   exact⟨S,(go3 r' p').trans g1,g2⟩
theorem z9R (T:Tx P w K mg a):∀n:Nat,z1B P w K mg base (CXX P w) (3 * n+4) a.Run_do_block a.fd_Run_do_block ["self","block"] (z14 a n):=by
 intro n
 induction n with
 |zero=>
  refine T.F_Run_do_block.okX z2o (fun vs H Q E h=>?_) (fun cdv A outer s H vs Q E hr h=>?_)
  ·obtain⟨_,_,_,_,_,_,_,_,_,_,_,_,_,_,_,_,rfl,_⟩:=h
   rfl
  obtain⟨_,_,_,_,_,_,_,_,_,_,_,_,_,_,_,_,_,_,_,_,dp,_⟩:=h
  exact absurd dp (Nat.not_lt_zero _)
 |succ n ih=>exact z4Z T (by omega) (z5w T (by omega) (z75 T (by omega) ih) (z4X T (by omega) ih) (z4u T (by omega) ih))
theorem zaK.add {a:Adr}{H H1 H2:Hp}{qa qd ql:Str->Addr}{ss:List Str}(F:zaK a H H1 qa qd ql ss) (e:z0f H1 H2) {s:Str}(hs:s∉ss) {p d l:Addr}(np:H1 p=none) (nl:H1 l=none) (np0:H p=none) (nl0:H l=none) (h1:H2 p=some (z5L a d l 0)) (h2:H2 l=some (.lst [])):
 zaK a H H2 (fun z=>if z=s then p else qa z) (fun z=>if z=s then d else qd z) (fun z=>if z=s then l else ql z) (ss++[s]):=by
 have ne:∀z∈ss,z≠s:=fun z hz e=>hs (e▸hz)
 have cs:∀z∈ss++[s],z∈ss\/z=s:=fun z hz=>by simpa using hz
 have pa:∀z∈ss,p≠qa z:=fun z hz e=>by rw[e,F.qu z hz]at np;cases np
 have pl:∀z∈ss,l≠ql z:=fun z hz e=>by rw[e,F.qs z hz]at nl;cases nl
 refine⟨fun z hz=>?_,fun z hz=>?_,fun z hz=>?_,fun z hz=>?_,fun z hz t ht zt=>?_,fun z hz t ht zt=>?_⟩
 ·rcases cs z hz with q|q
  ·simp only[ne z q,if_false];exact e _ _ (F.qu z q)
  ·simp only[q,if_true];exact h1
 ·rcases cs z hz with q|q
  ·simp only[ne z q,if_false];exact e _ _ (F.qs z q)
  ·simp only[q,if_true];exact h2
 ·rcases cs z hz with q|q
  ·simp only[ne z q,if_false];exact F.na z q
  ·simp only[q,if_true];exact np0
 ·rcases cs z hz with q|q
  ·simp only[ne z q,if_false];exact F.nl z q
  ·simp only[q,if_true];exact nl0
 ·rcases cs z hz with q|q<;>rcases cs t ht with u|u
  ·simp only[ne z q,ne t u,if_false];exact F.ja z q t u zt
  ·simp only[ne z q,u,if_false,if_true];exact(pa z q).symm
  ·simp only[q,ne t u,if_false,if_true];exact pa t u
  ·exact absurd (q.trans u.symm) zt
 ·rcases cs z hz with q|q<;>rcases cs t ht with u|u
  ·simp only[ne z q,ne t u,if_false];exact F.jl z q t u zt
  ·simp only[ne z q,u,if_false,if_true];exact(pl z q).symm
  ·simp only[q,ne t u,if_false,if_true];exact pl t u
  ·exact absurd (q.trans u.symm) zt
theorem z50 (T:Tx P w K mg a):z1B P w K mg base CX0 3 a.Run___init__ a.fd_Run___init__ ["self","numbers","stores","most"] (z4K a):=by
 refine T.F_Run___init__.ok z4R (fun vs H Q E h=>?_) (fun cdv A outer s H vs Q E hr h=>?_)
 ·obtain⟨_,_,_,_,_,_,rfl,_⟩:=h
  rfl
 obtain⟨r,dx,dn,ls,ss,m,rfl,h1,h2,nd,s6,q⟩:=h
 refine⟨_,(z04 (z3G (pv 0) (pv 1) rfl)
  (z04 (z3G (pv 0) (z2D (z4n rfl) rfl T.z_dict PyProof.Rows.Boot.«dict» (z00 (z2M (k:=1) (Nc:=["store"]) (js:=[]) (show z0J (z02 z11) ["self","numbers","stores","most"] _ 1 ["store"] []from z0J.mk rfl (by decide +kernel) (by decide +kernel) (by decide +kernel) rfl (by decide +kernel)) rfl (z1m (pv 2)) (fun _ _ _ _ _=>(z0s (i:=0) (show List.Nodup (["store"]:List Str)from by decide +kernel) rfl (Or.inl rfl))) (fun _ _ _ _ _=>z2p) (fun _ _ _ _ _=>(z0V (z00 (pv 0) (z00 (z9M T.k_Queue (z4a T) (hr.mono (by decide)) rfl T.m_Queue T.b_Queue___init__ .nil z0K (z00 (z0N z07) z07)) z07))))) z07)) rfl)
  (z04 (z3G (pv 0) (z0N z07) rfl)
  (z04 (z3G (pv 0) z03 rfl)
  (z05 (z3G (pv 0) (pv 3) rfl)))))),?_⟩
 refine⟨_,rfl,_,rfl,r,a.C_Run,dx,[],rfl,h1,T.cl_Run,T.nf_Run_numbers,by simp,?_⟩
 rw[z2s [] rfl (by decide +kernel),List.nil_append]
 have nr:ls≠r:=fun z=>by rw[z,h1]at h2;cases h2
 have g2:upd H r (.ins a.C_Run dx [("numbers",.ref dn)]) ls=some (.lst (ss.map V.str)):=by rw[z06 nr];exact h2
 have gr:upd H r (.ins a.C_Run dx [("numbers",.ref dn)]) r=some (.ins a.C_Run dx [("numbers",.ref dn)]):=z01
 have gk:∀b o,b≠r->H b=some o->upd H r (.ins a.C_Run dx [("numbers",.ref dn)]) b=some o:=fun b o hb h=>by rw[z06 hb];exact h
 have gn:∀b,upd H r (.ins a.C_Run dx [("numbers",.ref dn)]) b=none->H b=none:=fun b hb=>z0y hb
 generalize upd H r (.ins a.C_Run dx [("numbers",.ref dn)])=H1 at g2 gr gk gn ⊢
 refine⟨_,rfl,ls,rfl,⟨_,SqL.of g2⟩,?_⟩
 refine z1A (K:=K) (a:=ls) (xs:=ss.map V.str) (fun i ys σ H3=>(∃v,σ=[v])/\z0f H1 H3/\∃(ts:List Addr) (qa qd ql:Str->Addr),ys=ts.map V.ref/\ts.length=i/\(∀(j:Nat) (t:Addr) (z:Str),ts[j]?=some t->ss[j]?=some z->H3 t=some (.tup [.str z,.ref (qa z)]))/\zaK a H1 H3 qa qd ql (ss.take i)) ⟨⟨_,rfl⟩,z0f.refl _,[],fun _=>0,fun _=>0,fun _=>0,rfl,rfl,fun j t z h=>by simp at h,⟨fun s h=>by simp at h,fun s h=>by simp at h,fun s h=>by simp at h,fun s h=>by simp at h,fun s h=>by simp at h,fun s h=>by simp at h⟩⟩ ?_ (z08 (m:=100) (by rw[qb];omega)) ?_ ?_ ?_
 ·rintro i ys σ H3 _ ⟨_,_,ts,_,_,_,rfl,h,_⟩
  rw[qb,h]
  exact qh _
 ·rintro i ys σ H3 ⟨_,s3,_⟩
  exact SqL.of (s3 _ _ g2)
 ·rintro i x ys σ H3 hx ⟨⟨v,rfl⟩,s3,ts,qa,qd,ql,rfl,hl3,ht,F⟩
  rw[qL]at hx
  obtain⟨z,hzi,rfl⟩:=Option.map_eq_some_iff.mp hx
  refine⟨_,rfl,qA _,fun t0 ht0 p d hp hd ne=>?_⟩
  have pt:t0≠p:=fun e=>by rw[<- e,z01]at hp;cases hp
  have dt:t0≠d:=fun e=>by rw[<- e,z01]at hd;cases hd
  have np:H3 p=none:=z0y hp
  have nd3:H3 d=none:=z0y hd
  refine⟨p,d,t0,rfl,z01,by rw[z06 pt,z06 dt];exact z01,fun H5 l keep nl hp5 hl5=>⟨rfl,ln2,fun p4 hp4=>?_⟩⟩
  have s35:z0f H3 H5:=fun b o hb=>by
   have b1:b≠t0:=fun e=>by rw[e,ht0]at hb;cases hb
   have b2:b≠d:=fun e=>by rw[e,nd3]at hb;cases hb
   have b3:b≠p:=fun e=>by rw[e,np]at hb;cases hb
   exact keep b o b3 (by rw[z06 b3,z06 b2,z06 b1];exact hb)
  have nl3:H3 l=none:=z0y (z0y (z0y nl))
  have e4:=z0f.new hp4 (.tup [.str z,.ref p])
  have s34:=s35.trans e4
  have zn:z∉ss.take i:=fun hm=>by
   obtain⟨j,hj,ej⟩:=List.mem_take_iff_getElem.mp hm
   have:j=i:=z2u nd (show ss[j]?=some z by rw[qf (by omega),ej]) hzi
   omega
  refine⟨⟨_,rfl⟩,s3.trans s34,ts++[p4],fun y=>if y=z then p else qa y,fun y=>if y=z then d else qd y,fun y=>if y=z then l else ql y,by rw[List.map_append];rfl,by rw[qe,hl3];rfl,fun j t y hj hy=>?_,?_⟩
  ·rcases Nat.lt_or_ge j ts.length with lt|ge
   ·rw[List.getElem?_append_left lt]at hj
    have yz:y≠z:=fun e=>by
     rw[e]at hy
     have:=z2u nd hy hzi
     omega
    simp only[yz,if_false]
    exact s34 _ _ (ht j t y hj hy)
   ·rw[qS ge]at hj
    have e0:j-ts.length=0:=by
     have:=(qi.mp hj).1
     simpa using this
    rw[e0]at hj
    obtain rfl:p4=t:=by simpa using hj
    have:j=i:=by omega
    subst this
    rw[hzi]at hy
    cases hy
    simp only[if_true]
    exact z01
  ·rw[qz,hzi]
   exact F.add s34 zn np nl3 (z0f.none s3 np) (z0f.none s3 nl3) (e4 _ _ hp5) (e4 _ _ hl5)
 ·rintro ys σ H3 ⟨_,s3,ts,qa,qd,ql,rfl,hl3,ht,F⟩ lc hlc
  rw[qb]at hl3 F
  rw[qO]at F
  refine⟨lc,ts.map V.ref,ss.map fun z=>(.inr z,.ref (qa z)),rfl,z01,by rw[qb,qb,hl3],z08 (m:=100) (by rw[qb];omega),fun i p hp'=>?_,fun dq hdq=>?_⟩
  ·rw[qL]at hp'
   obtain⟨z,hzi,rfl⟩:=Option.map_eq_some_iff.mp hp'
   have lt:i<ts.length:=by
    have:=(qi.mp hzi).1
    omega
   exact⟨ts[i],by rw[qL,qf lt];rfl,z0f.new hlc _ _ _ (ht i _ z (qf lt) hzi)⟩
  rw[z7J (f:=fun z=>V.ref (qa z)) nd]
  have f0:=z0f.new hlc (.lst (ts.map V.ref))
  have f1:=f0.trans (z0f.new hdq (.dK (z1X ss fun z=>.ref (qa z))))
  have r1:=f1 _ _ (s3 _ _ gr)
  have q1:upd (upd H3 lc (.lst (ts.map V.ref))) dq (.dK (z1X ss fun z=>.ref (qa z))) dq=some (.dK (z1X ss fun z=>.ref (qa z))):=z01
  have ndq:H1 dq=none:=z0f.none s3 (z0y hdq)
  have qr:dq≠r:=fun z=>by rw[z,gr]at ndq;cases ndq
  generalize upd (upd H3 lc (.lst (ts.map V.ref))) dq (.dK (z1X ss fun z=>.ref (qa z)))=H5 at f1 r1 q1 ⊢
  refine⟨_,rfl,r,a.C_Run,dx,_,rfl,r1,T.cl_Run,T.nf_Run_queues,by simp,?_⟩
  rw[z2s ["numbers"] rfl (by decide +kernel)]
  refine⟨qA _,fun lo hlo=>?_⟩
  have lr:lo≠r:=fun z=>by rw[z,z01]at hlo;cases hlo
  have nlo:H5 lo=none:=z0y hlo
  refine⟨_,rfl,r,a.C_Run,dx,_,rfl,by rw[z06 lr.symm];exact z01,T.cl_Run,T.nf_Run_outs,by simp,?_⟩
  rw[z2s ["numbers","queues"] rfl (by decide +kernel)]
  refine⟨_,rfl,r,a.C_Run,dx,_,rfl,z01,T.cl_Run,T.nf_Run_steps,by simp,?_⟩
  rw[z2s ["numbers","queues","outs"] rfl (by decide +kernel)]
  refine⟨_,rfl,_,rfl,r,a.C_Run,dx,_,rfl,z01,T.cl_Run,T.nf_Run_most,by simp,?_⟩
  rw[z2s ["numbers","queues","outs","steps"] rfl (by decide +kernel)]
  have last:∀c o,c≠r->H5 c=some o->∀x1 x2 x3 x4,upd (upd (upd (upd (upd H5 r x1) lo (.lst [])) r x2) r x3) r x4 c=some o:=fun c o hc h x1 x2 x3 x4=>by
   have cl:c≠lo:=fun z=>by rw[z,nlo]at h;cases h
   rw[z06 hc,z06 hc,z06 hc,z06 cl,z06 hc]
   exact h
  have sF:=s3.trans f1
  have na:∀s∈ss,qa s≠r:=fun s hs z=>by have:=F.na s hs;rw[z,gr]at this;cases this
  have nq:∀s∈ss,ql s≠r:=fun s hs z=>by have:=F.nl s hs;rw[z,gr]at this;cases this
  refine q _ dq lo qa qd ql (fun c o nc hc=>last c o nc (sF _ _ (gk c o nc hc)) _ _ _ _) z01 (last _ _ qr q1 _ _ _ _) ?_ (gn _ ndq) (gn _ (z0f.none sF nlo)) ⟨fun s hs=>last _ _ (na s hs) (f1 _ _ (F.qu s hs)) _ _ _ _,fun s hs=>last _ _ (nq s hs) (f1 _ _ (F.qs s hs)) _ _ _ _,fun s hs=>gn _ (F.na s hs),fun s hs=>gn _ (F.nl s hs),F.ja,F.jl⟩ (fun s hs z=>by have:=f1 _ _ (F.qs s hs);rw[z,nlo]at this;cases this)
  rw[z06 lr,z06 lr,z06 lr]
  exact z01
theorem z39 {C S:List Str}{d:z0c}(h:PlW C S d):∀x∈d.names,x∈C:=by
 cases d with
 |set x a sg b=>
  intro z hz
  simp only[z0c.names,qB,qk]at hz
  rcases hz with rfl|hz|hz
  ·exact h.1
  ·exact h.2.1.names _ hz
  ·exact h.2.2.names _ hz
 |put s x=>intro z hz;simp[z0c.names]at hz;rw[hz];exact h.2
 |get s x=>intro z hz;simp[z0c.names]at hz;rw[hz];exact h.2
 |give x=>intro z hz;simp[z0c.names]at hz;rw[hz];exact h
 |cond x t o=>intro z hz;simp[z0c.names]at hz;rw[hz];exact h
 |whl x b=>intro z hz;simp[z0c.names]at hz;rw[hz];exact h
 |rep n b=>intro z hz;simp[z0c.names]at hz
theorem z8b {C zs:List Str}{a:Val}(h:z5d C a) (hz:∀x∈a.names,x∈zs):z5d zs a:=by
 cases a with
 |num n=>exact h
 |nm x=>exact hz x (by simp[Val.names])
theorem zdj {C zs S:List Str}{d:z0c}(h:PlW C S d) (hz:∀x∈d.names,x∈zs):PlW zs S d:=by
 cases d with
 |set x a sg b=>exact⟨hz x (by simp[z0c.names]),z8b h.2.1 fun y hy=>hz y (by simp[z0c.names,hy]),z8b h.2.2 fun y hy=>hz y (by simp[z0c.names,hy])⟩
 |put s x=>exact⟨h.1,hz x (by simp[z0c.names])⟩
 |get s x=>exact⟨h.1,hz x (by simp[z0c.names])⟩
 |give x=>exact hz x (by simp[z0c.names])
 |cond x t o=>exact hz x (by simp[z0c.names])
 |whl x b=>exact hz x (by simp[z0c.names])
 |rep n b=>exact h
theorem zaG (ps:List (Str×Int)) (x:Str):OnW (z2z ps x):=by
 have:∀(ps:List (Str×Int)) (f:z4E),(∀x,OnW (f x))->∀x,OnW (ps.foldl (fun f p=>z6B f p.1 (p.2 % 1000000000000000000000000000000)) f x):=by
  intro ps
  induction ps with
  |nil=>exact fun f h=>h
  |cons p r ih=>
   intro f h
   refine ih _ fun x=>?_
   show OnW (if x=p.1 then _ else _)
   split
   ·exact⟨Int.emod_nonneg _ (by decide),Int.emod_lt_of_pos _ (by decide)⟩
   ·exact h x
 exact this ps _ (fun _=>on0) x
theorem zdN {f:z4E}(h:∀x,OnW (f x)):z4v (Bg f) 0:=⟨h,fun _ _ h=>by simp[Bg]at h,fun _=>qh _,fun _=>qh _,qh _⟩
theorem zaz {H0 H:Hp}{r dx dn dq lo:Addr}{qa qd ql:Str->Addr}{zs ss:List Str}{k m:Nat}{B:Bk}{ds:List z0c}{Q:VK}{E:XK}
 (hx:∀B' k' S H' x,z2l m [⟨ds,none⟩] B k S B' k'->z3V B' S->k'<m->z7u (z5M r dn lo qa ql ss) H H'->H' x=some (.xd [("place",.int k')])->E (.ref a.C_Starved) (some x) H')
 (hv:∀(e:Bool) B' k' S H',z2l m [⟨ds,none⟩] B k S B' k'->((e=true/\S=[])\/(e=false/\zbD S/\k'=m))->z7u (z5M r dn lo qa ql ss) H H'->z7t a H0 H' r dx dn dq lo qa qd ql zs ss k' m B'->Q (.bl e) H'):z9c a H0 H r dx dn dq lo qa qd ql zs ss k m B (onB ds) zeM Q E:=by
 refine⟨fun B' k' H' go kp R=>hv true B' k' [] H' (go [] []) (.inl ⟨rfl,rfl⟩) kp R,fun B' H' go kp R=>?_,fun B' k' H' x go kk kp hx'=>?_⟩
 ·obtain⟨S,g,sp⟩:=go [] []
  exact hv false B' m S H' g (.inr ⟨rfl,sp,rfl⟩) kp R
 ·obtain⟨S,g,hu⟩:=go [] []
  exact hx B' k' S H' x g hu kk kp hx'
theorem z9Q (T:Tx P w K mg a):z1B P w K mg base (CXX P w) 44 a.run a.fd_run ["program","numbers","most"] (zdf a):=by
 have hB:=z9R (base:=base) T 13
 refine T.F_run.okX z5z (fun vs H Q E h=>?_) (fun cdv A outer s H vs Q E hr h=>?_)
 ·obtain⟨_,_,_,_,_,_,_,_,_,_,_,rfl,_⟩:=h
  rfl
 obtain⟨p,a0,a1,b,ln,m,ak,ns,ds,C,ss,rfl,hp,h0,ha1,hn,hb,dp,fl,al,nl',akC,hP,c9,snd,s6,sl,m9,kx,kv⟩:=h
 refine⟨_,(z04 (z3f (i:=3) z5z.nd rfl (Or.inl rfl) (k:=2) (Nc:=["store","length"]) (js:=[]) (show z0J (z02 z6W) ["program","numbers","most","stores","running","ended","finals","left"] _ 2 ["store","length"] []from z0J.mk rfl (by decide +kernel) (by decide +kernel) (by decide +kernel) rfl (by decide +kernel)) rfl (z1m (z0j z0d (pv 0) z03 (fun _ _=>rfl))) (fun _ _ _ _ _=>(zcq 2 rfl (z1H (z0s (i:=0) (show List.Nodup (["store","length"]:List Str)from by decide +kernel) rfl (Or.inl rfl)) (z1H (z0s (i:=1) (show List.Nodup (["store","length"]:List Str)from by decide +kernel) rfl (Or.inl rfl)) z46)))) (fun _ _ _ _ _=>z2p) (fun _ _ _ _ _=>(pv 0)))
  (z04 (z0p (i:=4) z5z.nd rfl (Or.inr rfl) (z9M T.k_Run (z50 T) (hr.mono (by decide)) rfl T.m_Run T.b_Run___init__ .nil z0K (z00 (z0q (z6h T) (hr.mono (by decide)) rfl T.m_beginnings T.F_beginnings.kp T.b_beginnings .nil z0K (z00 (pv 0) (z00 (pv 1) z07))) (z00 (pv 3) (z00 (pv 2) z07)))))
  (z04 (z0p (i:=5) z5z.nd rfl (Or.inl rfl) (z26 (pv 4) T.cl_Run T.mt_Run_do_block hB (hr.mono (by decide)) T.b_Run_do_block .nil z5r (z00 (z0j z0d (pv 0) z03 (fun _ _=>rfl)) z07)))
  (z04 (z0p (i:=6) z5z.nd rfl (Or.inl rfl) (z73 rfl rfl T.z_list (z18 (pv 4) rfl)))
  (z04 (z3f (i:=7) z5z.nd rfl (Or.inl rfl) (k:=1) (Nc:=["store","running"]) (js:=[4]) (show z0J (z02 z6W) ["program","numbers","most","stores","running","ended","finals","left"] _ 1 ["store","running"] [4]from z0J.mk rfl (by decide +kernel) (by decide +kernel) (by decide +kernel) rfl (by decide +kernel)) rfl (z1m (pv 3)) (fun _ _ _ _ _=>(z0s (i:=0) (show List.Nodup (["store","running"]:List Str)from by decide +kernel) rfl (Or.inl rfl))) (fun _ _ _ _ _=>z2p) (fun _ _ _ _ _=>(z0V (z00 (pv 0) (z00 (z2b (z0j zdH (zcr (K:=K) rfl (pv 1) rfl) (pv 0) (fun _ _=>rfl)) T.cl_Queue T.mt_Queue_rest (z6n T) (hr.mono (by decide)) T.b_Queue_rest .nil z0K) z07)))))
  (z05 (z0e (z0V (z00 (pv 5) (z00 (z18 (pv 4) rfl) (z00 (z18 (pv 4) rfl) (z00 (pv 6) (z00 (pv 7) z07))))))))))))),?_⟩
 obtain⟨ts,ht1,htl,hts⟩:=ha1
 refine⟨_,rfl,_,_,_,_,rfl,rfl,SqT.of hp,rfl,a1,rfl,⟨_,SqL.of ht1⟩,?_⟩
 refine z1A (K:=K) (a:=a1) (xs:=ts.map V.ref) (fun i ys σ H3=>(∃v0 v1,σ=[v0,v1])/\H3=H/\ys=(ss.take i).map V.str) ⟨⟨_,_,rfl⟩,rfl,rfl⟩ ?_ (z08 (m:=100) (by rw[qb];omega)) ?_ ?_ ?_
 ·rintro i ys σ H3 _ ⟨_,_,rfl⟩
  rw[qb,qR]
  omega
 ·rintro i ys σ H3 ⟨_,rfl,_⟩
  exact SqL.of ht1
 ·rintro i x ys σ H3 hx ⟨⟨v0,v1,rfl⟩,rfl,rfl⟩
  rw[qL]at hx
  obtain⟨t,ht,rfl⟩:=Option.map_eq_some_iff.mp hx
  have il:i<ss.length:=by
   have:=(qi.mp ht).1
   omega
  have hs:ss[i]?=some ss[i]:=qf il
  obtain⟨c,hc⟩:=hts i t _ ht hs
  refine⟨t,_,rfl,SqT.of hc,rfl,_,_,rfl,_,_,rfl,rfl,?_⟩
  refine⟨_,rfl,⟨_,_,rfl⟩,rfl,?_⟩
  rw[qz,hs,List.map_append]
  rfl
 rintro ys σ H3 ⟨_,rfl,rfl⟩ ls hls
 rw[qb,htl,qO]
 have m1:=z0f.new hls (.lst (ss.map V.str))
 have nC:∀k∈(z0k ds).flatMap z0c.names,k∈C:=fun k hk=>by
  obtain⟨d,hd,hz'⟩:=List.mem_flatMap.mp hk
  exact z39 (hP d hd) k hz'
 refine⟨_,rfl,_,rfl,p,a0,a1,b,ln,ak,ns,ds,C,rfl,m1 _ _ hp,m1 _ _ h0,m1 _ _ hn,hb.same m1,dp,fl,al,nl',akC,nC,c9,fun H4 dn zs m4 nd4 hd4 vr=>?_⟩
 have zC:∀z∈zs,z∈C:=fun z hm=>by
  rcases(vr.mem z).mp hm with hz|hz
  ·exact akC z hz
  ·obtain⟨d,hd,hz'⟩:=List.mem_flatMap.mp hz
   exact z39 (hP d hd) z hz'
 have zl:zs.length<=C.length:=z2T vr.nd zC
 have m34:=m1.trans m4
 have ndn:H3 dn=none:=z0y nd4
 refine⟨_,rfl,_,rfl,fun r dx hr0 hdx0 ne=>?_⟩
 have l4:H4 ls=some (.lst (ss.map V.str)):=m4 _ _ z01
 have k4:∀c o,H4 c=some o->c≠r/\c≠dx:=fun c o hc=>⟨fun z=>(by rw[z,hr0]at hc;cases hc),fun z=>(by rw[z,hdx0]at hc;cases hc)⟩
 refine⟨r,dx,dn,ls,ss,m,rfl,z01,by rw[z06 (k4 _ _ l4).1,z06 (k4 _ _ l4).2];exact l4,snd,s6,fun H5 dq lo qa qd ql keep hR hdq hlo ndq nlo F dlo=>⟨rfl,?_⟩⟩
 have none4:∀c,upd (upd H4 dx (.own r)) r (.ins a.C_Run dx []) c=none->H4 c=none:=fun c h=>z0y (z0y h)
 have k5:z0f H4 H5:=fun c o hc=>keep c o (k4 c o hc).1 (by rw[z06 (k4 c o hc).1,z06 (k4 c o hc).2];exact hc)
 have m5:=m34.trans k5
 have nr3:H3 r=none:=z0f.none m34 hr0
 have up3:∀c,H4 c=none->H3 c=none:=fun c h=>z0f.none m34 h
 have own3:∀c,z5M r dn lo qa ql ss c->H3 c=none:=fun c hc=>by
  rcases hc with rfl|rfl|rfl|⟨s,hs,rfl|rfl⟩
  ·exact nr3
  ·exact ndn
  ·exact up3 _ (none4 _ nlo)
  ·exact up3 _ (none4 _ (F.na s hs))
  ·exact up3 _ (none4 _ (F.nl s hs))
 have hPz:z1W zs ss ds:=fun d hd=>zdj (hP d hd) fun x hx=>(vr.mem x).mpr (.inr (List.mem_flatMap.mpr ⟨d,hd,hx⟩))
 have dr:∀s∈ss,qa s≠r:=fun s hs z=>by
  have:=F.na s hs
  rw[z,z01]at this
  cases this
 have dd:dq≠dn:=fun z=>by
  have:=none4 _ ndq
  rw[z,hd4]at this
  cases this
 have RH:z5x a H5 r dx dn dq lo qa qd ql zs ss ((0:Nat):Int) m (Bg (z2z (ak.zip ns))):=⟨hR,k5 _ _ hd4,hdq,hlo,F.qu,F.qs,F.ja,F.jl,dlo,dr,dd⟩
 have bk0':z4v (Bg (z2z (ak.zip ns))) 0:=zdN (zaG _)
 have pil:z3T zs ss [⟨ds,none⟩]:=z3T.cons hPz (fun y hy=>by simp at hy)
 have RW:z7t a H3 H5 r dx dn dq lo qa qd ql zs ss 0 m (Bg (z2z (ak.zip ns))):=⟨m5,own3,RH,bk0',qA _,m9,vr.nd,by omega,sl⟩
 have keep3:∀H6,z7u (z5M r dn lo qa ql ss) H5 H6->z0f H3 H6:=fun H6 kp c o hc=>kp c o (fun z=>by rw[own3 c z]at hc;cases hc) (m5 c o hc)
 refine⟨_,rfl,r,_,_,rfl,hR,z1d (by decide +kernel),_,rfl,_,_,_,_,rfl,rfl,SqT.of (m5 _ _ hp),rfl,H3,r,dx,dn,dq,lo,b,qa,qd,ql,zs,ss,0,m,_,ds,rfl,RW,hb,hPz,by omega,zaz (fun B' k' S H' x go hu kk kp hx=>kx B' k' S H' x go hu kk (keep3 H' kp) hx) (fun e B' k' S H6 go he kp R6w=>?_)⟩
 have R6:=R6w.run
 have m6:z0f H3 H6:=keep3 H6 kp
 have ls6:H6 ls=some (.lst (ss.map V.str)):=kp _ _ (fun z=>by
  have l4':=l4
  rcases z with rfl|rfl|rfl|⟨s,hs,rfl|rfl⟩
  ·exact(k4 _ _ l4).1 rfl
  ·rw[hd4]at l4';cases l4'
  ·rw[none4 _ nlo]at l4';cases l4'
  ·rw[none4 _ (F.na s hs)]at l4';cases l4'
  ·rw[none4 _ (F.nl s hs)]at l4';cases l4') (k5 _ _ l4)
 refine⟨_,rfl,r,_,_,_,_,rfl,R6.ro,T.cl_Run,T.nf_Run_numbers,zbJ,dn,_,rfl,R6.no,fun H7 lf us m7 nlf hlf tl hu=>?_⟩
 refine⟨_,rfl,ls,rfl,⟨_,SqL.of (m7 _ _ ls6)⟩,?_⟩
 have R7:z5x a H7 r dx dn dq lo qa qd ql zs ss k' m B':=⟨m7 _ _ R6.ro,m7 _ _ R6.no,m7 _ _ R6.qo,m7 _ _ R6.oo,fun s hs=>m7 _ _ (R6.qu s hs),fun s hs=>m7 _ _ (R6.qs s hs),R6.ja,R6.jl,R6.dl,R6.dr,R6.dd⟩
 refine z1A (K:=K) (a:=ls) (xs:=ss.map V.str) (fun i ys σ H8=>(∃v0,σ=[v0,some (.ref r)])/\z0f H7 H8/\∃us:List Addr,ys=us.map V.ref/\us.length=i/\∀(j:Nat) (u:Addr) (s:Str),us[j]?=some u->ss[j]?=some s->∃x,H8 u=some (.tup [.str s,.ref x])/\H8 x=some (.lst (((B'.q s).drop (B'.g s)).map V.int))) ⟨⟨_,rfl⟩,z0f.refl _,[],rfl,rfl,fun j u s h=>by simp at h⟩ ?_ (z08 (m:=100) (by rw[qb];omega)) ?_ ?_ ?_
 ·rintro i ys σ H8 _ ⟨_,_,us,rfl,h,_⟩
  rw[qb,h]
  exact qh _
 ·rintro i ys σ H8 ⟨_,s8,_⟩
  exact SqL.of (s8 _ _ (m7 _ _ ls6))
 ·rintro i x ys σ H8 hx ⟨⟨v0,rfl⟩,s8,vs,rfl,hl8,ht⟩
  rw[qL]at hx
  obtain⟨z,hzi,rfl⟩:=Option.map_eq_some_iff.mp hx
  have zin:z∈ss:=qH hzi
  refine⟨_,rfl,_,rfl,r,_,_,_,_,rfl,s8 _ _ R7.ro,T.cl_Run,T.nf_Run_queues,zdV,_,rfl,dq,_,.inr z,_,rfl,s8 _ _ R7.qo,rfl,z4y zin,qa z,_,_,rfl,s8 _ _ (R7.qu z zin),z6e (by decide +kernel),qa z,_,_,_,_,rfl,s8 _ _ (R7.qu z zin),s8 _ _ (R7.qs z zin),fun l2 hl2=>⟨ln2,fun p4 hp4=>?_⟩⟩
  have e1:=z0f.new hl2 (.lst (((B'.q z).drop (B'.g z)).map V.int))
  have e2:=z0f.new hp4 (.tup [.str z,.ref l2])
  refine⟨⟨_,rfl⟩,s8.trans (e1.trans e2),vs++[p4],by rw[List.map_append];rfl,by rw[qe,hl8];rfl,fun j u y hj hy=>?_⟩
  rcases Nat.lt_or_ge j vs.length with lt|ge
  ·rw[List.getElem?_append_left lt]at hj
   obtain⟨x,x1,x2⟩:=ht j u y hj hy
   exact⟨x,e2 _ _ (e1 _ _ x1),e2 _ _ (e1 _ _ x2)⟩
  ·rw[qS ge]at hj
   have e0:j-vs.length=0:=by
    have:=(qi.mp hj).1
    simpa using this
   rw[e0]at hj
   obtain rfl:p4=u:=by simpa using hj
   have:j=i:=by omega
   subst this
   rw[hzi]at hy
   cases hy
   exact⟨l2,z01,e2 _ _ z01⟩
 rintro ys σ8 H8 ⟨_,s8,vs,rfl,hl8,hv⟩ ll hll
 rw[qb]at hl8
 have m8:=z0f.new hll (.lst (vs.map V.ref))
 have r8:=m8 _ _ (s8 _ _ R7.ro)
 refine⟨_,rfl,_,rfl,r,_,_,_,_,rfl,r8,T.cl_Run,T.nf_Run_steps,zdU,_,rfl,r,_,_,_,_,rfl,r8,T.cl_Run,T.nf_Run_outs,zeI,_,rfl,_,rfl,ln5,fun t ht9=>?_⟩
 have m9:=z0f.new ht9 (.tup [V.bl e,V.int k',V.ref lo,V.ref lf,V.ref ll])
 have mm:=(m6.trans m7).trans (s8.trans (m8.trans m9))
 have m789:=s8.trans (m8.trans m9)
 rw[z3Y]at tl
 refine kv e B' k' S _ t lo lf ll zs go he R6w.bk R6w.km mm z01 (m789 _ _ R7.oo) ⟨us,m789 _ _ hlf,tl,fun j u z hj hzj=>?_⟩ vr ⟨vs,m9 _ _ z01,hl8,fun j u s hj hs=>?_⟩
 ·exact m789 _ _ (hu j u (.inr z,.int (B'.f z)) hj (by unfold tab;rw[qL,hzj];rfl)).1
 ·obtain⟨x,x1,x2⟩:=hv j u s hj hs
  exact⟨x,m9 _ _ (m8 _ _ x1),m9 _ _ (m8 _ _ x2)⟩
theorem z2t (T:Tx P w K mg a):z1B P w K mg base CX0 1 a._law_cell a.fd__law_cell ["_law_script","_law_k"] (z6N K):=by
 refine T.F__law_cell.ok z6T (fun vs H Q E h=>?_) (fun cdv A outer s H vs Q E hr h=>?_)
 ·obtain⟨_,_,_,rfl,_⟩:=h
  rfl
 obtain⟨l,ns,k,rfl,hS,k0,q⟩:=h
 refine⟨_,(z04 (z0v (z0b z9S (pv 1) (z0n z0l rfl T.z_len PySem.boot_len (z00 (pv 0) z07)) (z0h _)) (z05 (z0e (z0j z1K (pv 0) (pv 1) (fun _ _=>rfl)))) z0i)
  (z05 (z0e z03))),?_⟩
 refine⟨_,rfl,_,rfl,l,_,rfl,.inl hS,_,_,rfl,rfl,_,rfl,z2X (fun c=>?_) (fun c=>?_)⟩
 ·have lt:k.toNat<ns.length:=by
   have:=of_decide_eq_true c
   rw[qb]at this
   omega
  exact⟨_,rfl,_,rfl,l,_,_,_,rfl,rfl,hS,zaH k0 (by rw[qL,qf lt];rfl),q _⟩
 ·exact q _
theorem z2O (T:Tx P w K mg a):z1B P w K mg base CX0 1 a._law_mixed a.fd__law_mixed ["_law_cell_here","_law_k"] z5Z:=by
 refine T.F__law_mixed.ok z3D (fun vs H Q E h=>?_) (fun cdv A outer s H vs Q E hr h=>?_)
 ·obtain⟨_,_,rfl,_⟩:=h
  rfl
 obtain⟨c,k,rfl,hk,q⟩:=h
 refine⟨_,(z04 (z0p (i:=2) z3D.nd rfl (Or.inl rfl) (z0g z0w (z0g z1Z (z0g z3p (z0g z0w (pv 0) z03) z03) (z0g z3p (z0g z1Z (z0g z1Z (z0g z3p (pv 1) (pv 1)) (z0g z3p z03 (pv 1))) z03) z03)) z03))
  (z05 (z0e (z0g z0w (z0g z3p (pv 2) (pv 2)) z03)))),?_⟩
 have kb:Builtin.Int.intBits k<=64:=intBits_le_64 (by omega) (by omega)
 walk_at "rd"
 refine⟨IntMulOk.of_right (intBits_le_64 (by decide) (by decide)),?_⟩
 walk_at "rd"
 refine⟨IntMulOk.of_right kb,?_⟩
 walk_at "rd"
 refine⟨IntMulOk.of_right kb,?_⟩
 walk_at "rd"
 refine⟨IntMulOk.of_right (intBits_le_64 (by decide) (by decide)),?_⟩
 walk_at "rd"
 have m0:=Int.emod_nonneg (c % 2147483647 * 48271+(k * k+3 * k+7) * 69621) (show(2147483647:Int)≠0 by decide)
 have m1:=Int.emod_lt_of_pos (c % 2147483647 * 48271+(k * k+3 * k+7) * 69621) (show(0:Int)<2147483647 by decide)
 generalize hm:(c % 2147483647 * 48271+(k * k+3 * k+7) * 69621) % 2147483647=m at m0 m1 ⊢
 refine⟨IntMulOk.of_right (intBits_le_64 (by omega) (by omega)),?_⟩
 walk_at "rd"
 exact q _ (by unfold z7R;rw[hm]) (Int.emod_nonneg _ (by decide)) (Int.emod_lt_of_pos _ (by decide))
local macro_rules|`(tactic| walk_at "rds")=>`(tactic| ((show(0:Int)<_);(simp only[p30,p60]);decide))
theorem z3n (T:Tx P w K mg a):z1B P w K mg base CX0 1 a._law_number a.fd__law_number ["_law_cell_here","_law_way"] z5l:=by
 refine T.F__law_number.ok z3k (fun vs H Q E h=>?_) (fun cdv A outer s H vs Q E hr h=>?_)
 ·obtain⟨_,_,rfl,_⟩:=h
  rfl
 obtain⟨c,k,rfl,hk,q⟩:=h
 refine⟨_,(z04 (z0p (i:=2) z3k.nd rfl (Or.inl rfl) (z0g z0w (pv 0) (z0g z5E z03 z03)))
  (z04 (z0v (z0b z0W (z0g z0w (pv 1) z03) z03 (z0h _)) (z05 (z0e (z0g z0w (pv 2) z03))) z0i)
  (z04 (z0v (z0b z0W (z0g z0w (pv 1) z03) z03 (z0h _)) (z05 (z0e (z0g z51 (z0g z51 (z0g z5E z03 z03) z03) (z0g z0w (pv 2) z03)))) z0i)
  (z04 (z0v (z0b z0W (z0g z0w (pv 1) z03) z03 (z0h _)) (z05 (z0e (z0g z0w (pv 2) (z0g z5E z03 z03)))) z0i)
  (z05 (z0e (z0g z0w (z0g z3p (z0g z3p (z0g z1Z (pv 2) z03) (z0g z1Z (z0g z3p (pv 1) (pv 1)) z03)) z03) (z0g z5E z03 z03)))))))),?_⟩
 have go:∀z,zcz c k=z->Q (.int z) H:=fun z e=>e▸q
 walk_at "rd"
 rw[p60]
 have m0:=Int.emod_nonneg c (show(1000000000000000000000000000000000000000000000000000000000000:Int)≠0 by decide)
 have m1:=Int.emod_lt_of_pos c (show(0:Int)<1000000000000000000000000000000000000000000000000000000000000 by decide)
 unfold zcz at go
 generalize c % (1000000000000000000000000000000000000000000000000000000000000:Int)=m at m0 m1 go ⊢
 refine z2X (fun c1=>?_) (fun c1=>?_)
 ·have c1:=z1L c1
  walk_at "rd"
  exact go _ (if_pos c1)
 have c1:=z2F c1
 rw[if_neg c1]at go
 walk_at "rd"
 refine z2X (fun c2=>?_) (fun c2=>?_)
 ·have c2:=z1L c2
  walk_at "rd"
  rw[p30]
  exact go _ (if_pos c2)
 have c2:=z2F c2
 rw[if_neg c2]at go
 walk_at "rd"
 refine z2X (fun c3=>?_) (fun c3=>?_)
 ·have c3:=z1L c3
  walk_at "rd"
  rw[p30]
  exact go _ (if_pos c3)
 have c3:=z2F c3
 rw[if_neg c3]at go
 walk_at "rd"
 refine⟨IntMulOk.of_right (intBits_le_64 (by omega) (by omega)),?_⟩
 have k2:0<=k * k:=Int.mul_nonneg hk.1 hk.1
 have k3:k * k<=2000 * 2000:=Int.mul_le_mul hk.2 hk.2 hk.1 (by decide)
 generalize k * k=y at k2 k3 go
 walk_at "rd"
 have b1:Builtin.Int.intBits (m+1)<=2 ^ 20:=qG ((PySem.intBits_le_iff (m:=250)).mpr (by omega)) (by decide)
 have b2:Builtin.Int.intBits (y+11)<=2 ^ 20:=qG ((PySem.intBits_le_iff (m:=250)).mpr (by omega)) (by decide)
 refine⟨IntMulOk.of_bits b1 b2,?_⟩
 have y2:0<=(m+1) * (y+11):=Int.mul_nonneg (by omega) (by omega)
 have y3:(m+1) * (y+11)<=1000000000000000000000000000000000000000000000000000000000000 * 4000011:=Int.mul_le_mul (by omega) (by omega) (by omega) (by decide)
 generalize (m+1) * (y+11)=z at y2 y3 go ⊢
 walk_at "rd"
 refine⟨IntMulOk.of_bits (qG ((PySem.intBits_le_iff (m:=300)).mpr (by omega)) (by decide)) (by decide +kernel),?_⟩
 walk_at "rd"
 rw[p30]
 exact go _ rfl
theorem z8z (c:Array Nat) (hc:∀x∈c.toList,x<128):∀(k:Nat) (acc:Array Nat),(∀x∈acc.toList,x<128)->∀x∈((List.replicate k c).foldl (·++·) acc).toList,x<128
 |0,acc,h=>h
 |k+1,acc,h=>by
  rw[List.replicate_succ,List.foldl_cons]
  refine z8z c hc k _ fun x hx=>?_
  rw[Array.toList_append,qk]at hx
  exact hx.elim (h x) (hc x)
theorem z7U {z:Str}(h:Low z) (n:Int):Low (Txt.mul z n):=by
 unfold Txt.mul
 split
 ·intro c hc
  simp[Str.empty]at hc
 ·split
  ·exact h
  ·exact z8z z.cps h _ _ (by simp)
theorem zcE {c:Nat}(h:c<128):Low ⟨#[c]⟩:=fun x hx=>by
 simp at hx
 omega
def nmB (c:Nat) (t z:Int) (v:Nat):Str:=if Txt.mul ⟨#[c]⟩ t++⟨#[v]⟩++Txt.mul ⟨#[c]⟩ (z-t-1)=("if":Str)then("fi":Str)else Txt.mul ⟨#[c]⟩ t++⟨#[v]⟩++Txt.mul ⟨#[c]⟩ (z-t-1)
theorem zcA {c:Nat}{t z:Int}{v u:Nat}(h:v≠u):nmB c t z v≠nmB c t z u:=by
 have app:∀k,Tr.sl (Txt.mul ⟨#[c]⟩ t++⟨#[k]⟩++Txt.mul ⟨#[c]⟩ (z-t-1))=Tr.sl (Txt.mul ⟨#[c]⟩ t)++[k]++Tr.sl (Txt.mul ⟨#[c]⟩ (z-t-1)):=fun k=>by rw[Tr.zbH,Tr.zbH]
 unfold nmB
 generalize Tr.sl (Txt.mul ⟨#[c]⟩ t)=A at app
 generalize Tr.sl (Txt.mul ⟨#[c]⟩ (z-t-1))=B at app
 have a1:=app v
 have a2:=app u
 generalize Txt.mul ⟨#[c]⟩ t++⟨#[v]⟩++Txt.mul ⟨#[c]⟩ (z-t-1)=x at a1
 generalize Txt.mul ⟨#[c]⟩ t++⟨#[u]⟩++Txt.mul ⟨#[c]⟩ (z-t-1)=y at a2
 have xy:x≠y:=fun e=>by
  rw[e,a2]at a1
  rw[List.append_assoc,List.append_assoc]at a1
  have:=List.append_cancel_left a1
  injection this with q
  exact h q.symm
 have no:x=("if":Str)->y=("fi":Str)->False:=fun e1 e2=>by
  rw[e1,show Tr.sl ("if":Str)=[105,102]by decide +kernel]at a1
  rw[e2,show Tr.sl ("fi":Str)=[102,105]by decide +kernel]at a2
  cases A with
  |nil=>simp at a1 a2;rw[<- a1.2]at a2;simp at a2
  |cons p r=>simp at a1 a2;omega
 have no2:y=("if":Str)->x=("fi":Str)->False:=fun e1 e2=>by
  rw[e1,show Tr.sl ("if":Str)=[105,102]by decide +kernel]at a2
  rw[e2,show Tr.sl ("fi":Str)=[102,105]by decide +kernel]at a1
  cases A with
  |nil=>simp at a1 a2;rw[<- a1.2]at a2;simp at a2
  |cons p r=>simp at a1 a2;omega
 split<;>split
 ·rename_i e1 e2
  exact absurd (e1.trans e2.symm) xy
 ·rename_i e1 _
  exact fun e=>no e1 e.symm
 ·rename_i _ e2
  exact fun e=>no2 e2 e
 ·exact xy
theorem z3M (T:Tx P w K mg a):z1B P w K mg base CX0 2 a._law_names a.fd__law_names ["_law_cell_here","_law_many"] z5X:=by
 refine T.F__law_names.ok z0C (fun vs H Q E h=>?_) (fun cdv A outer s H vs Q E hr h=>?_)
 ·obtain⟨_,_,rfl,_⟩:=h
  rfl
 obtain⟨c,n,rfl,hn,q⟩:=h
 refine⟨_,(z04 (z0p (i:=2) z0C.nd rfl (Or.inl rfl) z0x)
  (z04 (z0p (i:=3) z0C.nd rfl (Or.inl rfl) (z0q (z2O T) (hr.mono (by decide)) rfl T.m__law_mixed T.F__law_mixed.kp T.b__law_mixed .nil z0K (z00 (pv 0) (z00 z03 z07))))
  (z04 (z0p (i:=4) z0C.nd rfl (Or.inr rfl) (z0j za9 (pv 2) (z0g z0w (pv 3) z03) (fun _ _=>rfl)))
  (z04 (z0v (z0b z0W (z0g z0w (z0g z0H (pv 3) z03) z03) z03 (z0h _)) (z05 (z0e (z2M (k:=1) (Nc:=["_law_k","_law_base","_law_many"]) (js:=[4,1]) (show z0J (z02 z1q) ["_law_cell_here","_law_many","_law_letters","_law_m","_law_base","_law_size","_law_at","_law_out","_law_k","_law_sign","_law_name"] _ 1 ["_law_k","_law_base","_law_many"] [4,1]from z0J.mk rfl (by decide +kernel) (by decide +kernel) (by decide +kernel) rfl (by decide +kernel)) rfl (z2C rfl T.z_range (z00 (pv 1) z07)) (fun _ _ _ _ _=>(z0s (i:=0) (show List.Nodup (["_law_k","_law_base","_law_many"]:List Str)from by decide +kernel) rfl (Or.inl rfl))) (fun _ _ _ _ _=>z2p) (fun _ _ _ _ _=>(z0g z48 (pv 1) (z0g z51 (pv 2) (pv 0))))))) z0i)
  (z04 (z0p (i:=5) z0C.nd rfl (Or.inl rfl) (z0g z1Z z03 (z0g z0w (z0g z0H (pv 3) z03) z03)))
  (z04 (z0p (i:=6) z0C.nd rfl (Or.inl rfl) (z0g z0w (z0g z0H (pv 3) z03) (pv 5)))
  (z04 (z0p (i:=7) z0C.nd rfl (Or.inl rfl) (z0N z07))
  (z04 (z1Y PassesOwn.never rfl (z2C rfl T.z_range (z00 (pv 1) z07)) (z0s (i:=8) z0C.nd rfl (Or.inl rfl))
  (z04 (z0p (i:=9) z0C.nd rfl (Or.inl rfl) (z0j za9 (pv 2) (z0g z0w (z0g z1Z (z0g z0H (pv 3) z03) (z0g z3p z03 (pv 8))) z03) (fun _ _=>rfl)))
  (z04 (z0p (i:=10) z0C.nd rfl (Or.inl rfl) (z0g z5D (z0g z5D (z0g z48 (pv 4) (pv 6)) (pv 9)) (z0g z48 (pv 4) (z0g z51 (z0g z51 (pv 5) (pv 6)) z03))))
  (z04 (z0v (z0b z0W (pv 10) z0x (z0h _)) (z05 (z0p (i:=10) z0C.nd rfl (Or.inl rfl) z0x)) z0i)
  (z05 (z0P (z2W qj qC qD z0O (pv 7) (z00 (pv 10) z07))))))))
  (z05 (z0e (pv 7))))))))))),?_⟩
 refine⟨_,rfl,_,_,rfl,⟨by omega,by omega⟩,fun m _ m0 m1=>?_⟩
 have lt26:∀i:Int,atI ("abcdefghijklmnopqrstuvwxyz":Str).cps.toList (i % 26)=some (97+(i % 26).toNat)/\Low ⟨#[97+(i % 26).toNat]⟩:=fun i=>by
  have al:∀j:Fin 26,("abcdefghijklmnopqrstuvwxyz":Str).cps.toList[j.val]?=some (97+j.val):=by decide +kernel
  obtain⟨q0,q1⟩:0<=i % 26/\i % 26<26:=⟨Int.emod_nonneg _ (by decide),Int.emod_lt_of_pos _ (by decide)⟩
  exact⟨zaH q0 (al ⟨(i % 26).toNat,by omega⟩),zcE (by omega)⟩
 obtain⟨e1,w1⟩:=lt26 m
 generalize 97+(m % 26).toNat=c1 at e1 w1
 refine⟨_,rfl,_,rfl,_,_,rfl,rfl,by decide,_,_,c1,rfl,rfl,by decide +kernel,e1,?_⟩
 refine⟨_,rfl,_,_,rfl,rfl,⟨by decide,by decide⟩,_,_,rfl,rfl,by decide,rfl,_,rfl,z2X (fun _=>?_) (fun _=>?_)⟩
 ·refine⟨_,rfl,_,rfl,by omega,by omega,?_⟩
  refine z5b (fun i ys σ H3=>(∃v,σ=[v,some (.str ⟨#[c1]⟩),some (.int n)])/\H3=H/\∃zs:List Str,ys=zs.map V.str/\zs.length=i/\(∀z∈zs,Low z)/\zs.Nodup/\∀z∈zs,n-i<z.length/\z.length<=10) ⟨⟨none,rfl⟩,rfl,[],rfl,rfl,(fun z h=>by simp at h),List.nodup_nil,fun z h=>by simp at h⟩ ?_ (z08 (m:=100) (by omega)) ?_ ?_
  ·rintro i ys σ H3 _ ⟨_,_,zs,rfl,h,_⟩
   rw[qb,h]
   exact qh _
  ·rintro i ys σ H3 hi ⟨⟨v,rfl⟩,rfl,zs,rfl,hl,hw,nd,big⟩
   have ln:(Txt.mul ⟨#[c1]⟩ (n-i)).length=(n-i).toNat:=by
    rw[z7Q _ (by omega)]
    show 1 * _=_
    omega
   refine⟨_,rfl,_,rfl,_,rfl,_,_,rfl,rfl,_,_,rfl,rfl,z9Z (by show 1<=1000;decide) (by omega) (by omega),⟨_,rfl⟩,rfl,zs++[Txt.mul ⟨#[c1]⟩ (n-i)],by rw[List.map_append];rfl,by rw[qe,hl];rfl,fun z hz=>(qk.mp hz).elim (hw z) fun e=>by rw[List.mem_singleton.mp e];exact z7U w1 _,z6p nd fun hm=>?_,fun z hz=>?_⟩
   ·have:=(big _ hm).1
    omega
   ·rcases qk.mp hz with z1|z1
    ·have:=big z z1
     exact⟨by push_cast;omega,this.2⟩
    ·rw[List.mem_singleton.mp z1]
     exact⟨by push_cast;omega,by omega⟩
  ·rintro ys σ H3 ⟨_,rfl,zs,rfl,hl,hw,nd,big⟩ l hl'
   exact q _ l zs (z0f.new hl' _) hl' z01 (by omega) hw nd fun z hz=>qG (big z hz).2 (by decide)
 refine⟨_,rfl,_,_,rfl,rfl,⟨by decide,by decide⟩,_,_,rfl,rfl,by decide,_,_,rfl,rfl,?_⟩
 obtain⟨s0,s1⟩:1<=1+m / 78 % 8/\1+m / 78 % 8<=8:=by omega
 generalize 1+m / 78 % 8=sz at s0 s1 ⊢
 refine⟨_,rfl,_,_,rfl,rfl,⟨by decide,by decide⟩,_,rfl,_,_,rfl,rfl,by omega,?_⟩
 obtain⟨t0,t1⟩:0<=m / 624 % sz/\m / 624 % sz<sz:=⟨Int.emod_nonneg _ (by omega),Int.emod_lt_of_pos _ (by omega)⟩
 generalize m / 624 % sz=tt at t0 t1 ⊢
 refine⟨qA _,fun lo hlo=>?_⟩
 refine⟨_,rfl,n,rfl,by omega,by omega,z3S (fun i σ H2=>∃(v8 v9 v10:Option V) (zs:List Str),σ=[some (.int c),some (.int n),some (.str "abcdefghijklmnopqrstuvwxyz"),some (.int m),some (.str ⟨#[c1]⟩),some (.int sz),some (.int tt),some (.ref lo),v8,v9,v10]/\z0f H H2/\H2 lo=some (.lst (zs.map V.str))/\zs.length=i/\(∀z∈zs,Low z)/\zs.Nodup/\∀z∈zs,z.length<=1000/\∃k:Nat,k<i/\z=nmB c1 tt sz (97+((m / 4992+5 * (0+(k:Int))) % 26).toNat)) ⟨_,_,_,[],rfl,z0f.new hlo _,z01,rfl,(fun z h=>by simp at h),List.nodup_nil,fun z h=>by simp at h⟩ ?_ ?_⟩
 ·rintro i σ H2 hi ⟨v8,v9,v10,zs,rfl,h2,h3,hz,hw,nd,big⟩
  obtain⟨e2,w2⟩:=lt26 (m / 4992+5 * (0+(i:Int)))
  obtain⟨c2,ec2⟩:∃c2,c2=97+((m / 4992+5 * (0+(i:Int))) % 26).toNat:=⟨_,rfl⟩
  rw[<- ec2]at e2 w2
  have l1:(Txt.mul ⟨#[c1]⟩ tt).length<=10:=by
   rw[z7Q _ t0]
   show 1 * _<=_
   omega
  have l2:(Txt.mul ⟨#[c1]⟩ (sz-tt-1)).length<=10:=by
   rw[z7Q _ (by omega)]
   show 1 * _<=_
   omega
  refine⟨_,rfl,_,rfl,_,_,rfl,rfl,⟨by decide,by decide⟩,_,rfl,_,_,rfl,rfl,IntMulOk.of_right (intBits_le_64 (by omega) (by omega)),_,_,rfl,rfl,_,_,rfl,rfl,by decide,_,_,c2,rfl,rfl,by decide +kernel,e2,?_⟩
  refine⟨_,rfl,_,rfl,_,_,rfl,rfl,z9Z (by show 1<=1000;decide) (by omega) (by omega),_,rfl,_,_,rfl,rfl,z08 (m:=1000) (by show _+1<=1000;omega),?_⟩
  refine⟨_,rfl,_,rfl,_,rfl,_,_,rfl,rfl,_,_,rfl,rfl,_,_,rfl,rfl,z9Z (by show 1<=1000;decide) (by omega) (by omega),_,_,rfl,rfl,z08 (m:=1000) (by rw[z1e];show _+1+_<=1000;omega),?_⟩
  have app:∀nm:Str,Low nm->nm.length<=1000->nm=nmB c1 tt sz c2->∃zs':List Str,zs.map V.str++[V.str nm]=zs'.map V.str/\zs'.length=i+1/\(∀z∈zs',Low z)/\zs'.Nodup/\∀z∈zs',z.length<=1000/\∃k:Nat,k<i+1/\z=nmB c1 tt sz (97+((m / 4992+5 * (0+(k:Int))) % 26).toNat):=fun nm hn ln en=>by
   refine⟨zs++[nm],by rw[List.map_append];rfl,by rw[qe,hz];rfl,fun z hz=>(qk.mp hz).elim (hw z) fun e=>by rw[List.mem_singleton.mp e];exact hn,z6p nd fun hm=>?_,fun z hz=>?_⟩
   ·obtain⟨_,k,ki,ek⟩:=big _ hm
    rw[en,ec2]at ek
    exact zcA (by omega) ek
   ·rcases qk.mp hz with z1|z1
    ·obtain⟨l',k,ki,ek⟩:=big z z1
     exact⟨l',k,by omega,ek⟩
    ·rw[List.mem_singleton.mp z1]
     exact⟨ln,i,by omega,by rw[en,ec2]⟩
  refine⟨_,rfl,rfl,_,rfl,z2X (fun c=>?_) (fun c=>?_)⟩
  ·have ci:Txt.mul ⟨#[c1]⟩ tt++⟨#[c2]⟩++Txt.mul ⟨#[c1]⟩ (sz-tt-1)=("if":Str):=by
    have:=of_decide_eq_true c
    injection this
   refine⟨_,rfl,.inl ⟨rfl,_,SqL.of h3⟩,_,rfl,lo,_,_,rfl,rfl,h3,z08 (m:=1000) (by rw[qb];omega),?_⟩
   obtain⟨zs',ez,lz⟩:=app "fi" (by unfold Low;decide +kernel) (by decide +kernel) (by unfold nmB;rw[if_pos ci])
   exact⟨_,_,_,zs',rfl,z0f.over h2 hlo,by rw[z01];exact congrArg (fun z=>some (HO.lst z)) ez,lz⟩
  ·have ci:¬ Txt.mul ⟨#[c1]⟩ tt++⟨#[c2]⟩++Txt.mul ⟨#[c1]⟩ (sz-tt-1)=("if":Str):=fun e=>c (by rw[e];rfl)
   refine⟨_,rfl,.inl ⟨rfl,_,SqL.of h3⟩,_,rfl,lo,_,_,rfl,rfl,h3,z08 (m:=1000) (by rw[qb];omega),?_⟩
   obtain⟨zs',ez,lz⟩:=app (Txt.mul ⟨#[c1]⟩ tt++⟨#[c2]⟩++Txt.mul ⟨#[c1]⟩ (sz-tt-1)) (((z7U w1 _).app w2).app (z7U w1 _)) (by rw[z1e,z1e];show _+1+_<=1000;omega) (by unfold nmB;rw[if_neg ci])
   exact⟨_,_,_,zs',rfl,z0f.over h2 hlo,by rw[z01];exact congrArg (fun z=>some (HO.lst z)) ez,lz⟩
 ·rintro σ H2 ⟨v8,v9,v10,zs,rfl,h2,h3,hz,hw,nd,big⟩
  exact⟨_,rfl,q H2 lo zs h2 hlo h3 (by omega) hw nd fun z hz=>(big z hz).1⟩
theorem z78 {l:List Str}(h:0<l.length) (i:Int):atI (l.map V.str) (i % ((l.map V.str).length:Int))=some (.str (nth l i)):=by
 have e:((l.map V.str).length:Int)=(l.length:Int):=by rw[qb]
 rw[e]
 have h1:0<=i % (l.length:Int):=Int.emod_nonneg _ (by omega)
 have h2:i % (l.length:Int)<l.length:=Int.emod_lt_of_pos _ (by omega)
 have lt:(i % (l.length:Int)).toNat<l.length:=by omega
 have:=z0A (xs:=l.map V.str) (j:=(i % (l.length:Int)).toNat) (v:=.str (nth l i)) (by unfold nth;rw[qL,qp,qf lt];rfl)
 rwa [Int.toNat_of_nonneg h1]at this
theorem zcg (i:Int):atI ("+-*/<=&|^":Str).cps.toList (i % 9)=some (("+-*/<=&|^":Str).cps.toList.getD (i % 9).toNat 0):=by
 have h1:0<=i % 9:=Int.emod_nonneg _ (by decide)
 have h2:i % 9<9:=Int.emod_lt_of_pos _ (by decide)
 have ln:("+-*/<=&|^":Str).cps.toList.length=9:=by decide +kernel
 have lt:(i % 9).toNat<("+-*/<=&|^":Str).cps.toList.length:=by omega
 have:=z0A (xs:=("+-*/<=&|^":Str).cps.toList) (j:=(i % 9).toNat) (v:=("+-*/<=&|^":Str).cps.toList.getD (i % 9).toNat 0) (by rw[qp,qf lt];rfl)
 rwa [Int.toNat_of_nonneg h1]at this
theorem z3L (T:Tx P w K mg a):z1B P w K mg base CX0 2 a._law_value a.fd__law_value ["_law_cell_here","_law_way","_law_names_here"] z5W:=by
 refine T.F__law_value.ok z6b (fun vs H Q E h=>?_) (fun cdv A outer s H vs Q E hr h=>?_)
 ·obtain⟨_,_,_,_,rfl,_⟩:=h
  rfl
 obtain⟨c,k,l,zs,rfl,hk,hl,hz,q⟩:=h
 refine⟨_,(z04 (z0v (z0b z9S (z0g z0w (pv 1) z03) z03 (z0h _)) (z05 (z0e (z0j z1K (pv 2) (z0g z0w (z0g z0H (pv 1) z03) (z0n z0l rfl T.z_len PySem.boot_len (z00 (pv 2) z07))) (fun _ _=>rfl)))) z0i)
  (z05 (z0e (z0q (z3n T) (hr.mono (by decide)) rfl T.m__law_number T.F__law_number.kp T.b__law_number .nil z0K (z00 (pv 0) (z00 (z0g z0H (pv 1) z03) z07)))))),?_⟩
 refine⟨_,rfl,_,_,rfl,rfl,by decide,_,_,rfl,rfl,_,rfl,z2X (fun c1=>?_) (fun c1=>?_)⟩
 ·have e:(zaU c k zs)=.nm (nth zs (k / 5)):=if_pos (of_decide_eq_true c1)
  rw[e]at q
  exact⟨_,rfl,_,rfl,_,_,rfl,rfl,⟨by decide,by decide⟩,_,rfl,l,_,rfl,.inl (SqL.of hl),_,_,rfl,rfl,by rw[qb];omega,l,_,_,_,rfl,rfl,SqL.of hl,z78 hz _,q⟩
 ·have e:(zaU c k zs)=.num (zcz c (k / 5)):=if_neg fun z=>c1 (decide_eq_true z)
  rw[e]at q
  exact⟨_,rfl,_,rfl,_,_,rfl,rfl,⟨by decide,by decide⟩,_,_,rfl,⟨by omega,by omega⟩,q⟩
theorem z5s (T:Tx P w K mg a):z1B P w K mg base CX0 3 a._law_simple a.fd__law_simple ["_law_cell_here","_law_m","_law_names_here","_law_shelves","_law_hidden"] z5i:=by
 refine T.F__law_simple.ok z1f (fun vs H Q E h=>?_) (fun cdv A outer s H vs Q E hr h=>?_)
 ·obtain⟨_,_,_,_,_,_,_,rfl,_⟩:=h
  rfl
 obtain⟨c,m,ln,lr,zs,ss,hid,rfl,hn,hs,z0,m0,q⟩:=h
 refine⟨_,(z04 (z0p (i:=5) z1f.nd rfl (Or.inl rfl) (z0j z1K (pv 2) (z0g z0w (z0g z0H (pv 1) z03) (z0n z0l rfl T.z_len PySem.boot_len (z00 (pv 2) z07))) (fun _ _=>rfl)))
  (z04 (z0v (z0b z0W (z0g z0w (pv 1) z03) z03 (z0h _)) (z05 (z0e (z0V (z00 z0x (z00 (pv 5) z07))))) z0i)
  (z04 (z0v (PW.pt (z3m (z0b z0W (z0g z0w (pv 1) z03) z03 (z0h _)) (z3m (z1s (z0M (pv 4))) (z2K (z0b zbc (z0n z0l rfl T.z_len PySem.boot_len (z00 (pv 3) z07)) z03 (z0h _)))))) (z04 (z0p (i:=6) z1f.nd rfl (Or.inl rfl) z0x)
  (z04 (z0v (z0b z0W (z0g z0w (z0g z0H (pv 1) z03) z03) z03 (z0h _)) (z05 (z0p (i:=6) z1f.nd rfl (Or.inl rfl) z0x)) z0i)
  (z05 (z0e (z0V (z00 (pv 6) (z00 (z0j z1K (pv 3) (z0g z0w (z0g z0H (pv 1) z03) (z0n z0l rfl T.z_len PySem.boot_len (z00 (pv 3) z07))) (fun _ _=>rfl)) (z00 (pv 5) z07)))))))) z0i)
  (z04 (z0v (z0b z0W (z0g z0w (pv 1) z03) z03 (z0h _)) (z05 (z0e (z0V (z00 z0x (z00 (pv 5) (z00 (z0g z0w (z0g z0H (pv 1) z03) z03) (z00 z0x (z00 z03 z07)))))))) z0i)
  (z04 (z0p (i:=7) z1f.nd rfl (Or.inl rfl) (z0q (z3L T) (hr.mono (by decide)) rfl T.m__law_value T.F__law_value.kp T.b__law_value .nil z0K (z00 (pv 0) (z00 (z0g z0w (z0g z0H (pv 1) z03) z03) (z00 (pv 2) z07)))))
  (z04 (z0p (i:=8) z1f.nd rfl (Or.inl rfl) (z0q (z3L T) (hr.mono (by decide)) rfl T.m__law_value T.F__law_value.kp T.b__law_value .nil z0K (z00 (pv 0) (z00 (z0g z0w (z0g z0H (pv 1) z03) z03) (z00 (pv 2) z07)))))
  (z05 (z0e (z0V (z00 z0x (z00 (pv 5) (z00 (pv 7) (z00 (z0j za9 z0x (z0g z0w (z0g z0H (pv 1) z03) z03) (fun _ _=>rfl)) (z00 (pv 8) z07)))))))))))))),?_⟩
 refine⟨_,rfl,_,rfl,_,_,rfl,rfl,⟨by decide,by decide⟩,_,rfl,ln,_,rfl,.inl (SqL.of hn),_,_,rfl,rfl,by rw[qb];omega,ln,_,_,_,rfl,rfl,SqL.of hn,z78 z0 _,?_⟩
 refine⟨_,rfl,_,_,rfl,rfl,by decide,rfl,_,rfl,z2X (fun c2=>?_) (fun c2=>?_)⟩
 ·have c2:=z1L c2
  have e:z7v c m zs ss hid=.give (nth zs (m / 8)):=if_pos c2
  exact⟨_,rfl,ln2,fun p hp=>q p _ hp fun H0 h0=>by rw[e];exact .give h0⟩
 have c2:=z2F c2
 refine⟨_,rfl,_,_,rfl,rfl,by decide,rfl,_,rfl,?_⟩
 refine za8 (Pc:=¬ (m % 8=3/\hid=false/\0<ss.length)) (fun c3 z=>c3 (decide_eq_true (by rw[z.1]))) ?_ fun c3 go=>?_
 ·intro n3
  refine zdZ ?_
  refine⟨_,rfl,_,_,rfl,rfl,by decide,rfl,_,rfl,z2X (fun c7=>?_) (fun c7=>?_)⟩
  ·have c7:=z1L c7
   have e:z7v c m zs ss hid=.set (nth zs (m / 8)) (.num (m / 512 % 4)) "+" (.num 0):=by unfold z7v;rw[if_neg c2,if_neg n3,if_pos c7]
   exact⟨_,rfl,_,rfl,_,_,rfl,rfl,⟨by decide,by decide⟩,_,_,rfl,rfl,by decide,ln5,fun p hp=>q p _ hp fun H0 h0=>by rw[e];exact .set h0⟩
  ·have c7:=z2F c7
   have e:z7v c m zs ss hid=.set (nth zs (m / 8)) (zaU c (m / 64 % 1009) zs) (z6Q (m / 57)) (zaU c (m / 4096 % 997) zs):=by unfold z7v;rw[if_neg c2,if_neg n3,if_neg c7]
   refine⟨_,rfl,_,rfl,_,_,rfl,rfl,⟨by decide,by decide⟩,_,_,rfl,rfl,by decide,_,rfl,c,_,ln,zs,rfl,⟨by omega,by omega⟩,hn,z0,?_⟩
   refine⟨_,rfl,_,rfl,_,_,rfl,rfl,⟨by decide,by decide⟩,_,_,rfl,rfl,by decide,_,rfl,c,_,ln,zs,rfl,⟨by omega,by omega⟩,hn,z0,?_⟩
   exact⟨_,rfl,_,rfl,_,rfl,_,_,rfl,rfl,⟨by decide,by decide⟩,_,_,rfl,rfl,by decide,_,_,_,rfl,rfl,(by decide +kernel),zcg _,_,rfl,ln5,fun p hp=>q p _ hp fun H0 h0=>by rw[e];exact .set h0⟩
 ·have c3:=z1L c3
  refine⟨_,rfl,_,rfl,?_⟩
  refine z2X (fun ch=>?_) (fun ch=>by have h:=go fun z=>ch (by rw[z.2.1];rfl);exact h)
  have ch:hid=false:=by simpa using ch
  refine⟨_,rfl,lr,_,rfl,.inl (SqL.of hs),_,_,rfl,rfl,_,rfl,?_⟩
  refine z2X (fun cl=>?_) (fun cl=>by have h:=go fun z=>cl (decide_eq_true (by rw[qb];have:=z.2.2;omega));exact h)
  have cl:0<ss.length:=by
   have:=of_decide_eq_true cl
   rw[qb]at this
   omega
  refine⟨_,rfl,_,_,rfl,rfl,⟨by decide,by decide⟩,_,_,rfl,rfl,by decide,rfl,_,rfl,z2X (fun cg=>?_) (fun cg=>?_)⟩
  ·have cg:=z1L cg
   have e:z7v c m zs ss hid=.get (nth ss (m / 2048)) (nth zs (m / 8)):=by unfold z7v;rw[if_neg c2,if_pos ⟨c3,ch,cl⟩,if_pos cg]
   exact⟨_,rfl,_,rfl,_,rfl,_,_,rfl,rfl,⟨by decide,by decide⟩,_,rfl,lr,_,rfl,.inl (SqL.of hs),_,_,rfl,rfl,by rw[qb];omega,lr,_,_,_,rfl,rfl,SqL.of hs,z78 cl _,_,rfl,ln3,fun p hp=>q p _ hp fun H0 h0=>by rw[e];exact .get h0⟩
  ·have cg:=z2F cg
   have e:z7v c m zs ss hid=.put (nth ss (m / 2048)) (nth zs (m / 8)):=by unfold z7v;rw[if_neg c2,if_pos ⟨c3,ch,cl⟩,if_neg cg]
   exact⟨_,rfl,_,rfl,_,rfl,_,_,rfl,rfl,⟨by decide,by decide⟩,_,rfl,lr,_,rfl,.inl (SqL.of hs),_,_,rfl,rfl,by rw[qb];omega,lr,_,_,_,rfl,rfl,SqL.of hs,z78 cl _,_,rfl,ln3,fun p hp=>q p _ hp fun H0 h0=>by rw[e];exact .put h0⟩
theorem z6k (T:Tx P w K mg a):z1B P w K mg base CX0 1 a._law_block a.fd__law_block ["_law_m","_law_x"] z62:=by
 refine T.F__law_block.ok z6c (fun vs H Q E h=>?_) (fun cdv A outer s H vs Q E hr h=>?_)
 ·obtain⟨_,_,rfl,_⟩:=h
  rfl
 obtain⟨m,x,rfl,m0,q⟩:=h
 refine⟨_,(z04 (z0v (z0b z0W (z0g z0w (pv 0) z03) z03 (z0h _)) (z05 (z0e (z0V (z00 z0x (z00 (pv 1) (z00 (z0N z07) (z00 (z0N z07) z07))))))) z0i)
  (z04 (z0v (z0b z0W (z0g z0w (z0g z0H (pv 0) z03) z03) z03 (z0h _)) (z04 (z0v (z0b z0W (z0g z0w (z0g z0H (pv 0) z03) z03) z03 (z0h _)) (z05 (z0e (z0V (z00 z0x (z00 (pv 1) (z00 (z0N z07) z07)))))) z0i)
  (z05 (z0e (z0V (z00 z0x (z00 (pv 1) (z00 (z0N (z00 (z0V (z00 z0x (z00 (pv 1) (z00 (pv 1) (z00 z0x (z00 z03 z07)))))) z07)) z07))))))) z0i)
  (z04 (z0v (z0b z0W (z0g z0w (z0g z0H (pv 0) z03) z03) z03 (z0h _)) (z05 (z0e (z0V (z00 z0x (z00 (z0g z0w (z0g z0H (pv 0) z03) z03) (z00 (z0N z07) z07)))))) z0i)
  (z05 (z0e (z0V (z00 z0x (z00 (z0g z0w (z0g z0H (pv 0) z03) z03) (z00 (z0N z07) z07))))))))),?_⟩
 refine⟨_,rfl,_,_,rfl,rfl,by decide,rfl,_,rfl,z2X (fun c4=>?_) (fun c4=>?_)⟩
 ·have c4:=z1L c4
  refine⟨_,rfl,qA _,fun c hc=>⟨qA _,fun e he=>⟨ln4,fun p hp=>?_⟩⟩⟩
  have ce:e≠c:=fun z=>by rw[z,z01]at he;cases he
  have he':=z0y he
  have pe:p≠e:=fun z=>by rw[z,z01]at hp;cases hp
  have hp1:=z0y hp
  have pc:p≠c:=fun z=>by rw[z,z01]at hp1;cases hp1
  have s1:=z0f.new hc (.lst [])
  have s2:=s1.trans (z0f.new he (.lst []))
  have s3:=s2.trans (z0f.new hp (.tup [.str "if",.str x,.ref c,.ref e]))
  refine q _ c p e [] s3 hc (z0y hp1) (fun _=>⟨he',ce,by rw[z06 pe.symm];exact z01⟩) (by rw[z06 pc.symm,z06 ce.symm];exact z01) ?_ (.inl ⟨rfl,if_pos c4⟩)
  unfold Fz.tupV opF
  dsimp only
  rw[if_pos c4]
  exact z01
 have c4:=z2F c4
 refine⟨_,rfl,_,_,rfl,rfl,⟨by decide,by decide⟩,_,_,rfl,rfl,by decide,rfl,_,rfl,z2X (fun c5=>?_) (fun c5=>?_)⟩
 ·have c5:=z1L c5
  refine⟨_,rfl,_,_,rfl,rfl,⟨by decide,by decide⟩,_,_,rfl,rfl,by decide,rfl,_,rfl,z2X (fun c6=>?_) (fun c6=>?_)⟩
  ·have c6:=z1L c6
   refine⟨_,rfl,qA _,fun c hc=>⟨ln3,fun p hp=>?_⟩⟩
   have pc:p≠c:=fun z=>by rw[z,z01]at hp;cases hp
   have s3:=(z0f.new hc (.lst [])).trans (z0f.new hp (.tup [.str "while",.str x,.ref c]))
   refine q _ c p c [] s3 hc (z0y hp) (fun z=>absurd z c4) (by rw[z06 pc.symm];exact z01) ?_ (.inl ⟨rfl,by unfold odF;rw[if_neg c4,if_pos c5,if_pos c6]⟩)
   unfold Fz.tupV opF
   dsimp only
   rw[if_neg c4,if_pos c5]
   exact z01
  ·have c6:=z2F c6
   refine⟨_,rfl,_,rfl,_,rfl,ln5,fun t ht=>⟨ln1,fun c hc=>⟨ln3,fun p hp=>?_⟩⟩⟩
   have hc':=z0y hc
   have ct:c≠t:=fun z=>by rw[z,z01]at hc;cases hc
   have hp1:=z0y hp
   have pc:p≠c:=fun z=>by rw[z,z01]at hp;cases hp
   have pt:p≠t:=fun z=>by rw[z,z01]at hp1;cases hp1
   have s3:=((z0f.new ht (.tup [.str "set",.str x,.str x,.str "-",.int 1])).trans (z0f.new hc (.lst [.ref t]))).trans (z0f.new hp (.tup [.str "while",.str x,.ref c]))
   refine q _ c p c [.ref t] s3 hc' (z0y hp1) (fun z=>absurd z c4) (by rw[z06 pc.symm];exact z01) ?_ (.inr ⟨t,_,rfl,ht,by rw[z06 pt.symm,z06 ct.symm];exact z01,fun H0 h0=>by unfold odF;rw[if_neg c4,if_pos c5,if_neg c6];exact .cons (.set (a:=.nm x) (b:=.num 1) h0) .nil⟩)
   unfold Fz.tupV opF
   dsimp only
   rw[if_neg c4,if_pos c5]
   exact z01
 ·have c5:=z2F c5
  have fin:∀(n:Int) (c p:Addr),(if m / 1024 % 16=0 then m / 16384 % 100 else m / 1024 % 4)=n->H c=none->upd H c (.lst []) p=none->Q (.ref p) (upd (upd H c (.lst [])) p (.tup [.str "repeat",.int n,.ref c])):=fun n c p en hc hp=>by
   have pc:p≠c:=fun z=>by rw[z,z01]at hp;cases hp
   have s3:=(z0f.new hc (.lst [])).trans (z0f.new hp (.tup [.str "repeat",.int n,.ref c]))
   refine q _ c p c [] s3 hc (z0y hp) (fun z=>absurd z c4) (by rw[z06 pc.symm];exact z01) ?_ (.inl ⟨rfl,by unfold odF;rw[if_neg c4,if_neg c5]⟩)
   unfold Fz.tupV opF
   dsimp only
   rw[if_neg c4,if_neg c5,en]
   exact z01
  refine⟨_,rfl,_,_,rfl,rfl,⟨by decide,by decide⟩,_,_,rfl,rfl,by decide,rfl,_,rfl,z2X (fun c6=>?_) (fun c6=>?_)⟩
  ·exact⟨_,rfl,_,_,rfl,rfl,⟨by decide,by decide⟩,_,_,rfl,rfl,by decide,qA _,fun c hc=>⟨ln3,fun p hp=>fin _ c p (if_pos (z1L c6)) hc hp⟩⟩
  ·exact⟨_,rfl,_,_,rfl,rfl,⟨by decide,by decide⟩,_,_,rfl,rfl,by decide,qA _,fun c hc=>⟨ln3,fun p hp=>fin _ c p (if_neg (z2F c6)) hc hp⟩⟩
theorem z5t (T:Tx P w K mg a):z1B P w K mg base CX0 1 a._law_opened a.fd__law_opened ["_law_deed","_law_m","_law_rows","_law_others","_law_hidden"] z5j:=by
 refine T.F__law_opened.ok z5p (fun vs H Q E h=>?_) (fun cdv A outer s H vs Q E hr h=>?_)
 ·obtain⟨_,_,_,_,_,_,_,_,_,_,_,_,_,rfl,_⟩:=h
  rfl
 obtain⟨p,s0,s1,s2,c0,m,y,nm,ws,rs,os,hs,h,rfl,m0,hp,hop,h0,h1,h2,hc,n01,n02,n12,nc0,nc1,nc2,l0,l1,l2,lw,q⟩:=h
 refine⟨_,(z04 (z0P (z2W qj qC qD z0O (z0j z1K (pv 2) (z72 z4f z03) (fun _ _=>rfl)) (z00 (pv 0) z07)))
  (z04 (z0v (PW.pt (z3m (z0b z0W (z0j z0d (pv 0) z03 (fun _ _=>rfl)) z0x (z0h _)) (z2K (z0b z0W (z0g z0w (z0g z0H (pv 1) z03) z03) z03 (z0h _))))) (z05 (z0P (z2W qj qC qD z0O (pv 3) (z00 (z0j z0d (pv 0) z03 (fun _ _=>rfl)) z07)))) (z05 (z0P (z2W qj qC qD z0O (pv 3) (z00 z3I z07)))))
  (z04 (z0P (z2W qj qC qD z0O (pv 4) (z00 (zei (z0j z1K (pv 4) (z72 z4f z03) (fun _ _=>rfl)) (z8o (z2x z47 (z0j z0d (pv 0) z03 (fun _ _=>rfl)) z0x (z0h _)))) z07)))
  (z05 (z0P (z2W qj qC qD z0O (pv 2) (z00 (z0j z0d (pv 0) z03 (fun _ _=>rfl)) z07))))))),?_⟩
 refine⟨_,rfl,_,rfl,s0,_,_,_,rfl,rfl,SqL.of h0,z2y,.inl ⟨rfl,_,SqL.of hc⟩,_,rfl,c0,_,_,rfl,rfl,hc,z08 (m:=2000) (by omega),?_⟩
 have pc:p≠c0:=z1J hp hc
 have p0:p≠s0:=z1J hp h0
 have p1:p≠s1:=z1J hp h1
 have p2:p≠s2:=z1J hp h2
 generalize hA:upd H c0 (.lst (ws++[.ref p]))=A1 at q ⊢
 have a0:A1 s0=some (.lst (rs++[.ref c0])):=by rw[<- hA,z06 nc0.symm];exact h0
 have a1:A1 s1=some (.lst os):=by rw[<- hA,z06 nc1.symm];exact h1
 have a2:A1 s2=some (.lst (hs++[.bl h])):=by rw[<- hA,z06 nc2.symm];exact h2
 have ap:A1 p=some (.tup y.tupV):=by rw[<- hA,z06 pc];exact hp
 generalize hB:upd A1 s1 (.lst (os++[if z68 m=1 then .ref y.e else .non]))=A2 at q
 have b0:A2 s0=some (.lst (rs++[.ref c0])):=by rw[<- hB,z06 n01];exact a0
 have b2:A2 s2=some (.lst (hs++[.bl h])):=by rw[<- hB,z06 n12.symm];exact a2
 have bp:A2 p=some (.tup y.tupV):=by rw[<- hB,z06 p1];exact ap
 generalize hC:upd A2 s2 (.lst ((hs++[.bl h])++[.bl (z7Y m h)]))=A3 at q
 have d0:A3 s0=some (.lst (rs++[.ref c0])):=by rw[<- hC,z06 n02];exact b0
 have dp:A3 p=some (.tup y.tupV):=by rw[<- hC,z06 p2];exact bp
 unfold Fz.tupV at ap bp dp
 rw[hop]at ap bp dp
 unfold opF at ap bp dp
 unfold z68 at hB
 unfold z7Y at hC
 by_cases c4:m % 8=4
 ·rw[if_pos c4]at ap bp dp
  rw[show(h || !decide (¬ m % 8=4/\¬ m / 512 % 2=0))=true by simp[c4]]at hC
  refine⟨_,rfl,_,_,_,_,rfl,rfl,SqT.of ap,z5g,rfl,_,rfl,z1a (by decide +kernel) ⟨_,rfl,_,_,rfl,rfl,⟨by decide,by decide⟩,_,_,rfl,rfl,by decide,rfl,_,rfl,z2X (fun c5=>?_) (fun c5=>?_)⟩⟩
  ·have c5:=z1L c5
   rw[show(if m % 8=4/\m / 512 % 2=0 then(1:Int)else 0)=1 from if_pos ⟨c4,c5⟩,if_pos rfl]at hB
   refine⟨_,rfl,.inl ⟨rfl,_,SqL.of a1⟩,_,rfl,_,_,_,_,rfl,rfl,SqT.of ap,z0A (j:=3) rfl,s1,_,_,rfl,rfl,a1,z08 (m:=2000) (by omega),?_⟩
   rw[hB]
   cases h with
   |true=>
    refine⟨_,rfl,.inl ⟨rfl,_,SqL.of b2⟩,_,rfl,_,rfl,s2,_,_,_,rfl,rfl,SqL.of b2,z2y,_,rfl,z1a rfl ⟨s2,_,_,rfl,rfl,b2,z08 (m:=2000) (by rw[qe];show hs.length+1+1<=2000;omega),?_⟩⟩
    rw[hC]
    exact⟨_,rfl,.inl ⟨rfl,_,SqL.of d0⟩,_,rfl,_,_,_,_,rfl,rfl,SqT.of dp,z6D,s0,_,_,rfl,rfl,d0,z08 (m:=2000) (by rw[qe];show rs.length+1+1<=2000;omega),q⟩
   |false=>
    refine⟨_,rfl,.inl ⟨rfl,_,SqL.of b2⟩,_,rfl,_,rfl,s2,_,_,_,rfl,rfl,SqL.of b2,z2y,_,rfl,z0X rfl ⟨_,rfl,_,_,_,_,rfl,rfl,SqT.of bp,z5g,rfl,s2,_,_,rfl,rfl,b2,z08 (m:=2000) (by rw[qe];show hs.length+1+1<=2000;omega),?_⟩⟩
    rw[show(!decide (V.str ("if":Str)=V.str ("repeat":Str)))=true by decide +kernel,hC]
    exact⟨_,rfl,.inl ⟨rfl,_,SqL.of d0⟩,_,rfl,_,_,_,_,rfl,rfl,SqT.of dp,z6D,s0,_,_,rfl,rfl,d0,z08 (m:=2000) (by rw[qe];show rs.length+1+1<=2000;omega),q⟩
  ·have c5:=z2F c5
   rw[show(if m % 8=4/\m / 512 % 2=0 then(1:Int)else 0)=0 from if_neg fun z=>c5 z.2,if_neg (by decide)]at hB
   refine⟨_,rfl,.inl ⟨rfl,_,SqL.of a1⟩,s1,_,_,rfl,rfl,a1,z08 (m:=2000) (by omega),?_⟩
   rw[hB]
   cases h with
   |true=>
    refine⟨_,rfl,.inl ⟨rfl,_,SqL.of b2⟩,_,rfl,_,rfl,s2,_,_,_,rfl,rfl,SqL.of b2,z2y,_,rfl,z1a rfl ⟨s2,_,_,rfl,rfl,b2,z08 (m:=2000) (by rw[qe];show hs.length+1+1<=2000;omega),?_⟩⟩
    rw[hC]
    exact⟨_,rfl,.inl ⟨rfl,_,SqL.of d0⟩,_,rfl,_,_,_,_,rfl,rfl,SqT.of dp,z6D,s0,_,_,rfl,rfl,d0,z08 (m:=2000) (by rw[qe];show rs.length+1+1<=2000;omega),q⟩
   |false=>
    refine⟨_,rfl,.inl ⟨rfl,_,SqL.of b2⟩,_,rfl,_,rfl,s2,_,_,_,rfl,rfl,SqL.of b2,z2y,_,rfl,z0X rfl ⟨_,rfl,_,_,_,_,rfl,rfl,SqT.of bp,z5g,rfl,s2,_,_,rfl,rfl,b2,z08 (m:=2000) (by rw[qe];show hs.length+1+1<=2000;omega),?_⟩⟩
    rw[show(!decide (V.str ("if":Str)=V.str ("repeat":Str)))=true by decide +kernel,hC]
    exact⟨_,rfl,.inl ⟨rfl,_,SqL.of d0⟩,_,rfl,_,_,_,_,rfl,rfl,SqT.of dp,z6D,s0,_,_,rfl,rfl,d0,z08 (m:=2000) (by rw[qe];show rs.length+1+1<=2000;omega),q⟩
 ·rw[if_neg c4]at ap bp dp
  rw[show(if m % 8=4/\m / 512 % 2=0 then(1:Int)else 0)=0 from if_neg fun z=>c4 z.1,if_neg (by decide)]at hB
  by_cases c5:m / 512 % 2=0
  ·rw[if_pos c5]at ap bp dp
   rw[show(h || !decide (¬ m % 8=4/\¬ m / 512 % 2=0))=true by simp[c5]]at hC
   refine⟨_,rfl,_,_,_,_,rfl,rfl,SqT.of ap,z5g,rfl,_,rfl,z0X (by decide +kernel) ?_⟩
   refine⟨_,rfl,.inl ⟨rfl,_,SqL.of a1⟩,s1,_,_,rfl,rfl,a1,z08 (m:=2000) (by omega),?_⟩
   rw[hB]
   cases h with
   |true=>
    refine⟨_,rfl,.inl ⟨rfl,_,SqL.of b2⟩,_,rfl,_,rfl,s2,_,_,_,rfl,rfl,SqL.of b2,z2y,_,rfl,z1a rfl ⟨s2,_,_,rfl,rfl,b2,z08 (m:=2000) (by rw[qe];show hs.length+1+1<=2000;omega),?_⟩⟩
    rw[hC]
    exact⟨_,rfl,.inl ⟨rfl,_,SqL.of d0⟩,_,rfl,_,_,_,_,rfl,rfl,SqT.of dp,z6D,s0,_,_,rfl,rfl,d0,z08 (m:=2000) (by rw[qe];show rs.length+1+1<=2000;omega),q⟩
   |false=>
    refine⟨_,rfl,.inl ⟨rfl,_,SqL.of b2⟩,_,rfl,_,rfl,s2,_,_,_,rfl,rfl,SqL.of b2,z2y,_,rfl,z0X rfl ⟨_,rfl,_,_,_,_,rfl,rfl,SqT.of bp,z5g,rfl,s2,_,_,rfl,rfl,b2,z08 (m:=2000) (by rw[qe];show hs.length+1+1<=2000;omega),?_⟩⟩
    rw[show(!decide (V.str ("while":Str)=V.str ("repeat":Str)))=true by decide +kernel,hC]
    exact⟨_,rfl,.inl ⟨rfl,_,SqL.of d0⟩,_,rfl,_,_,_,_,rfl,rfl,SqT.of dp,z6D,s0,_,_,rfl,rfl,d0,z08 (m:=2000) (by rw[qe];show rs.length+1+1<=2000;omega),q⟩
  ·rw[if_neg c5]at ap bp dp
   rw[show(h || !decide (¬ m % 8=4/\¬ m / 512 % 2=0))=h by simp[c4,c5]]at hC
   refine⟨_,rfl,_,_,_,_,rfl,rfl,SqT.of ap,z5g,rfl,_,rfl,z0X (by decide +kernel) ?_⟩
   refine⟨_,rfl,.inl ⟨rfl,_,SqL.of a1⟩,s1,_,_,rfl,rfl,a1,z08 (m:=2000) (by omega),?_⟩
   rw[hB]
   cases h with
   |true=>
    refine⟨_,rfl,.inl ⟨rfl,_,SqL.of b2⟩,_,rfl,_,rfl,s2,_,_,_,rfl,rfl,SqL.of b2,z2y,_,rfl,z1a rfl ⟨s2,_,_,rfl,rfl,b2,z08 (m:=2000) (by rw[qe];show hs.length+1+1<=2000;omega),?_⟩⟩
    rw[hC]
    exact⟨_,rfl,.inl ⟨rfl,_,SqL.of d0⟩,_,rfl,_,_,_,_,rfl,rfl,SqT.of dp,z6D,s0,_,_,rfl,rfl,d0,z08 (m:=2000) (by rw[qe];show rs.length+1+1<=2000;omega),q⟩
   |false=>
    refine⟨_,rfl,.inl ⟨rfl,_,SqL.of b2⟩,_,rfl,_,rfl,s2,_,_,_,rfl,rfl,SqL.of b2,z2y,_,rfl,z0X rfl ⟨_,rfl,_,_,_,_,rfl,rfl,SqT.of bp,z5g,rfl,s2,_,_,rfl,rfl,b2,z08 (m:=2000) (by rw[qe];show hs.length+1+1<=2000;omega),?_⟩⟩
    rw[show(!decide (V.str ("repeat":Str)=V.str ("repeat":Str)))=false by decide +kernel,hC]
    exact⟨_,rfl,.inl ⟨rfl,_,SqL.of d0⟩,_,rfl,_,_,_,_,rfl,rfl,SqT.of dp,z6D,s0,_,_,rfl,rfl,d0,z08 (m:=2000) (by rw[qe];show rs.length+1+1<=2000;omega),q⟩
theorem zeN {n:Int}:inV (.int n) [V.int 4,.int 5]=true↔n=4\/n=5:=by
 simp[inV,eqV]
 constructor
 ·rintro(h|h)
  ·exact .inl h.symm
  ·exact .inr h.symm
 ·rintro(h|h)
  ·exact .inl h.symm
  ·exact .inr h.symm
theorem z6i (T:Tx P w K mg a):z1B P w K mg base CX0 4 a._law_grown a.fd__law_grown ["_law_cells","_law_names_here","_law_shelves"] z60:=by
 refine T.F__law_grown.ok z0D (fun vs H Q E h=>?_) (fun cdv A outer s H vs Q E hr h=>?_)
 ·obtain⟨_,_,_,_,_,_,rfl,_⟩:=h
  rfl
 obtain⟨lc,ln,lr,cells,zs,ss,rfl,hc,c63,hn,hs,z0,q⟩:=h
 refine⟨_,(z04 (z0p (i:=3) z0D.nd rfl (Or.inl rfl) (z0N z07))
  (z04 (z0p (i:=4) z0D.nd rfl (Or.inl rfl) (z0N (z00 (pv 3) z07)))
  (z04 (z0p (i:=5) z0D.nd rfl (Or.inl rfl) (z0N (z00 z3I z07)))
  (z04 (z0p (i:=6) z0D.nd rfl (Or.inl rfl) (z0N (z00 z1n z07)))
  (z04 (z1Y PassesOwn.never rfl (zcp rfl T.z_enumerate (z00 (pv 0) z07)) (z5C rfl (z1H (z0s (i:=7) z0D.nd rfl (Or.inl rfl)) (z1H (z0s (i:=8) z0D.nd rfl (Or.inl rfl)) z46)))
  (z04 (z0p (i:=9) z0D.nd rfl (Or.inl rfl) (z0q (z2O T) (hr.mono (by decide)) rfl T.m__law_mixed T.F__law_mixed.kp T.b__law_mixed .nil z0K (z00 (pv 8) (z00 (pv 7) z07))))
  (z04 (z0p (i:=10) z0D.nd rfl (Or.inl rfl) (z0j z1K (pv 1) (z0g z0w (z0g z0H (pv 9) z03) (z0n z0l rfl T.z_len PySem.boot_len (z00 (pv 1) z07))) (fun _ _=>rfl)))
  (z05 (z0v (PW.pt (z3m (z0b z0W (z0g z0w (pv 9) z03) z03 (z0h _)) (z2K (z0b zbc (z0n z0l rfl T.z_len PySem.boot_len (z00 (pv 4) z07)) z03 (z0h _))))) (z04 (z0P (z8q qj PySem.F.slot_list_pop PySem.F.type_list_pop z8t (pv 4)))
  (z04 (z0p (i:=11) z0D.nd rfl (Or.inl rfl) (z8q qj PySem.F.slot_list_pop PySem.F.type_list_pop z8t (pv 5)))
  (z05 (z0v (z0b z9O (pv 11) z3I (z0h _)) (z04 (z0P (z2W qj qC qD z0O (pv 4) (z00 (pv 11) z07)))
  (z05 (z0P (z2W qj qC qD z0O (pv 5) (z00 z3I z07))))) (z05 (z0P (z8q qj PySem.F.slot_list_pop PySem.F.type_list_pop z8t (pv 6)))))))) (z05 (z0v (PW.pt (z3m (z0b z3K (z0g z0w (pv 9) z03) (z0V (z00 z03 (z00 z03 z07))) (by with_unfolding_all rfl)) (z2K (z0b z9S (z0n z0l rfl T.z_len PySem.boot_len (z00 (pv 4) z07)) z03 (z0h _))))) (z04 (z0p (i:=12) z0D.nd rfl (Or.inl rfl) (z0q (z6k T) (hr.mono (by decide)) rfl T.m__law_block T.F__law_block.kp T.b__law_block .nil z0K (z00 (pv 9) (z00 (pv 10) z07))))
  (z04 (z0v (PW.pt (z3m (z0b z0W (z0j z0d (pv 12) z03 (fun _ _=>rfl)) z0x (z0h _)) (z2K (z0b z47 (z0g z0w (z0g z0H (pv 9) z03) z03) z03 (z0h _))))) (z05 (z0P (z2W qj qC qD z0O (z0j z1K (pv 4) (z72 z4f z03) (fun _ _=>rfl)) (z00 (z0V (z00 z0x (z00 (pv 10) (z00 (z0g z0w (z0g z0H (pv 9) z03) z03) (z00 z0x (z00 z03 z07)))))) z07)))) z0i)
  (z05 (z0P (z0q (z5t T) (hr.mono (by decide)) rfl T.m__law_opened T.F__law_opened.kp T.b__law_opened .nil z0K (z00 (pv 12) (z00 (pv 9) (z00 (pv 4) (z00 (pv 5) (z00 (pv 6) z07)))))))))) (z05 (z0P (z2W qj qC qD z0O (z0j z1K (pv 4) (z72 z4f z03) (fun _ _=>rfl)) (z00 (z0q (z5s T) (hr.mono (by decide)) rfl T.m__law_simple T.F__law_simple.kp T.b__law_simple .nil z0K (z00 (pv 8) (z00 (pv 9) (z00 (pv 1) (z00 (pv 2) (z00 (z0j z1K (pv 6) (z72 z4f z03) (fun _ _=>rfl)) z07)))))) z07)))))))))))
  (z05 (z0e (pv 3)))))))),?_⟩
 refine⟨qA _,fun b hb=>⟨_,rfl,ln1,fun s0 hs0=>⟨ln1,fun s1 hs1=>⟨ln1,fun s2 hs2=>?_⟩⟩⟩⟩
 have n0b:s0≠b:=fun z=>by rw[z,z01]at hs0;cases hs0
 have hs1':=z0y hs1
 have n10:s1≠s0:=fun z=>by rw[z,z01]at hs1;cases hs1
 have n1b:s1≠b:=fun z=>by rw[z,z01]at hs1';cases hs1'
 have hs2':=z0y hs2
 have hs2'':=z0y hs2'
 have n21:s2≠s1:=fun z=>by rw[z,z01]at hs2;cases hs2
 have n20:s2≠s0:=fun z=>by rw[z,z01]at hs2';cases hs2'
 have n2b:s2≠b:=fun z=>by rw[z,z01]at hs2'';cases hs2''
 have e1:=(((z0f.new hb (.lst [])).trans (z0f.new hs0 (.lst [.ref b]))).trans (z0f.new hs1 (.lst [.non]))).trans (z0f.new hs2 (.lst [.bl false]))
 have k0:upd (upd (upd (upd H b (.lst [])) s0 (.lst [.ref b])) s1 (.lst [.non])) s2 (.lst [.bl false]) s0=some (.lst [.ref b]):=by rw[z06 n20.symm,z06 n10.symm];exact z01
 have k1:upd (upd (upd (upd H b (.lst [])) s0 (.lst [.ref b])) s1 (.lst [.non])) s2 (.lst [.bl false]) s1=some (.lst [.non]):=by rw[z06 n21.symm];exact z01
 have k2:upd (upd (upd (upd H b (.lst [])) s0 (.lst [.ref b])) s1 (.lst [.non])) s2 (.lst [.bl false]) s2=some (.lst [.bl false]):=z01
 have kb:upd (upd (upd (upd H b (.lst [])) s0 (.lst [.ref b])) s1 (.lst [.non])) s2 (.lst [.bl false]) b=some (.lst []):=by rw[z06 n2b.symm,z06 n1b.symm,z06 n0b.symm];exact z01
 generalize upd (upd (upd (upd H b (.lst [])) s0 (.lst [.ref b])) s1 (.lst [.non])) s2 (.lst [.bl false])=H1 at e1 k0 k1 k2 kb ⊢
 have G0:GJ H H H1 s0 s1 s2 [⟨⟨.root,[],false,0⟩,b,0,0⟩]:=by
  refine⟨ZC.begin rfl rfl ?_ kb (fun m hm=>?_) e1 (z8v k0 k1 k2),k0,k1,k2⟩
  ·simp only[List.cons_append,List.nil_append,List.nodup_cons,qB,List.not_mem_nil,or_false,not_or]
   exact⟨⟨n10.symm,n20.symm,n0b⟩,⟨n21.symm,n1b⟩,n2b,by simp,List.nodup_nil⟩
  ·simp only[List.cons_append,List.nil_append,qB,List.not_mem_nil,or_false]at hm
   rcases hm with rfl|rfl|rfl|rfl
   ·exact z0y hs0
   ·exact z0y hs1'
   ·exact z0y hs2''
   ·exact hb
 refine⟨_,rfl,lc,_,rfl,SqL.of (e1 _ _ hc),?_⟩
 refine zbq (K:=K) (l:=lc) (xs:=cells.map V.int) (fun i σ H3=>∃H0 z v7 v8 v9 v10 v11 v12,σ=[some (.ref lc),some (.ref ln),some (.ref lr),some (.ref b),some (.ref s0),some (.ref s1),some (.ref s2),v7,v8,v9,v10,v11,v12]/\GJ H H0 H3 s0 s1 s2 z/\z.map (·.f)=stN zs ss cells i/\z5K z=b) ⟨H,_,_,_,_,_,_,_,rfl,G0,rfl,rfl⟩ ?_ ?_ ?_
 ·rintro i σ H3 ⟨_,_,_,_,_,_,_,_,_,G,_⟩
  exact SqL.of (G.zc.hbH _ _ hc)
 ·rintro i x σ H2 p hx ⟨H0,z,v7,v8,v9,v10,v11,v12,rfl,G,hz,hbt⟩ hp
  rw[qL]at hx
  obtain⟨c,hci,rfl⟩:=Option.map_eq_some_iff.mp hx
  have i63:i<63:=by
   have:=(qi.mp hci).1
   omega
  obtain⟨x,r,vs,rfl,hxc,hrd⟩:=G.zc.top
  have gd:cells.getD i 0=c:=by rw[qp,hci];rfl
  obtain⟨ok1,ok2,ok3⟩:=zcc (ss:=ss) z0 cells i
  have nxt:stN zs ss cells (i+1)=z6J zs ss (x.f::r.map (·.f)) i c:=by rw[stN,<- hz,gd];rfl
  generalize stN zs ss cells (i+1)=st' at nxt ⊢
  rw[<- hz]at ok1 ok2 ok3
  have rl:r.length<=12:=by
   simp at ok2
   omega
  have rml:(r.map (·.f)).length=r.length:=qb _
  have vl:vs.length<=200:=by
   have:=zc6 (f:=x.f) (r:=r.map (·.f))
   rw[hrd.len]
   simp only[List.map_cons]at ok3
   omega
  clear hz gd ok1 ok2 ok3
  have G1:=G.same (z0f.new hp (.tup [.int i,.int c]))
  have hx1:=z0f.new hp (.tup [.int i,.int c]) _ _ hxc
  have tp1:upd H2 p (.tup [.int i,.int c]) p=_:=z01
  clear G hxc
  generalize upd H2 p (.tup [.int i,.int c])=H3 at G1 hx1 tp1 ⊢
  refine⟨p,_,rfl,SqT.of tp1,rfl,_,_,rfl,_,_,rfl,rfl,?_⟩
  have hn3:=G1.zc.hbH _ _ hn
  have hs3:=G1.zc.hbH _ _ hs
  refine⟨_,rfl,_,rfl,c,i,rfl,⟨by omega,by omega⟩,fun m em m0 m1=>?_⟩
  unfold z6J at nxt
  dsimp only at nxt
  rw[<- em,rml]at nxt
  clear em
  refine⟨_,rfl,_,rfl,_,_,rfl,rfl,⟨by decide,by decide⟩,_,rfl,ln,_,rfl,.inl (SqL.of hn3),_,_,rfl,rfl,by rw[qb];omega,ln,_,_,_,rfl,rfl,SqL.of hn3,z78 z0 _,?_⟩
  have l0:((((x::r).map fun x=>V.ref x.c).reverse).length:Int)=(r.length:Int)+1:=by simp
  generalize hnm:nth zs (m / 8)=nm at nxt ⊢
  refine⟨_,rfl,_,_,rfl,rfl,by decide,rfl,_,rfl,?_⟩
  refine za8 (Pc:=¬ (m % 8=6/\0<r.length)) (fun cc z=>cc (decide_eq_true (by rw[z.1]))) ?_ fun cc go=>?_
  ·intro n6
   refine zdZ ?_
   rw[if_neg n6]at nxt
   refine⟨_,rfl,_,_,rfl,rfl,by decide,ln2,fun t ht=>?_⟩
   have e4:=z0f.new ht (.tup [.int 4,.int 5])
   refine⟨t,[.int 4,.int 5],rfl,.inr (SqT.of z01),rfl,rfl,_,rfl,?_⟩
   have G4:=G1.same e4
   have hx4:=e4 _ _ hx1
   have hn4:=e4 _ _ hn3
   have hs4:=e4 _ _ hs3
   clear G1 hx1 hn3 hs3
   generalize upd H3 t (.tup [.int 4,.int 5])=H4 at G4 hx4 hn4 hs4 ⊢
   refine za8 (Pc:=¬ ((m % 8=4\/m % 8=5)/\r.length<12)) (fun cc z=>cc (zeN.mpr z.1)) ?_ fun cc go=>?_
   ·intro n45
    refine zdZ ?_
    rw[if_neg n45]at nxt
    refine⟨_,rfl,_,rfl,s0,_,_,_,rfl,rfl,SqL.of G4.c0,z6r,.inl ⟨rfl,_,SqL.of hx4⟩,_,rfl,_,rfl,_,rfl,_,rfl,_,rfl,_,rfl,s2,_,_,_,rfl,rfl,SqL.of G4.c2,z6r,c,m,ln,lr,zs,ss,x.f.shut,rfl,hn4,hs4,z0,m0,fun p5 xs hp5 hd=>?_⟩
    have e5:=z0f.new hp5 (.tup xs)
    refine⟨x.c,_,_,rfl,rfl,e5 _ _ hx4,z08 (m:=1000) (by omega),?_⟩
    exact⟨_,_,_,_,_,_,_,_,rfl,(G4.same e5).push (e5 _ _ hx4) z01 (z0f.none G4.zc.h0 hp5) (hd _ z01),by rw[nxt];rfl,by rw[<- hbt];exact z6A rfl⟩
   ·have c45:=zeN.mp cc
    refine⟨_,rfl,s0,_,rfl,.inl (SqL.of G4.c0),_,_,rfl,rfl,_,rfl,?_⟩
    rw[l0]
    refine z2X (fun cr=>?_) (fun cr=>by have h:=go fun z=>cr (decide_eq_true (by have:=z.2;omega));exact h)
    have r12:r.length<12:=by
     have:=of_decide_eq_true cr
     omega
    rw[if_pos ⟨c45,r12⟩]at nxt
    have nf:∀d,H4 d=none->H0 d=none/\d∉[s0,s1,s2]++(x::r).flatMap Fz.muts:=fun d hd=>⟨z0f.none G4.zc.h0 hd,fun hm=>by
     obtain⟨ws,hw⟩:=G4.zc.lsts d hm
     rw[hd]at hw
     cases hw⟩
    obtain⟨n01,n02,n12⟩:=G4.ss
    obtain⟨x0,x1,x2⟩:=G4.ne (z2i (x:=x) (r:=r))
    refine⟨_,rfl,_,rfl,m,nm,rfl,m0,fun H5 c5 p5 e5 vy s5 nc np ne hc5 hp5 hv=>?_⟩
    have G5:=G4.same s5
    have hx5:=s5 _ _ hx4
    have ht5:=hp5
    unfold Fz.tupV opF at ht5
    dsimp only at ht5
    by_cases c4:m % 8=4
    ·rw[if_pos c4]at ht5
     have ep:z91 m nm=[]:=if_pos c4
     refine⟨_,rfl,_,_,_,_,rfl,rfl,SqT.of ht5,z5g,rfl,_,rfl,z0X (by decide +kernel) ?_⟩
     refine⟨_,rfl,_,rfl,_,rfl,_,rfl,_,rfl,p5,s0,s1,s2,x.c,m,⟨⟨opF m nm,odF m nm,z7Y m x.f.shut,z68 m⟩,c5,p5,e5⟩,nm,_,(r.map fun x=>V.ref x.c).reverse,(r.map Fz.oJ).reverse++[x.oJ],(r.map fun x=>V.bl x.f.shut).reverse,x.f.shut,rfl,m0,hp5,rfl,by rw[G5.c0];exact congrArg (fun z=>some (HO.lst z)) List.reverse_cons,by rw[G5.c1];exact congrArg (fun z=>some (HO.lst z)) List.reverse_cons,by rw[G5.c2];exact congrArg (fun z=>some (HO.lst z)) List.reverse_cons,hx5,n01,n02,n12,x0,x1,x2,by simp;omega,by simp;omega,by simp;omega,by omega,?_⟩
     obtain⟨H0',G'⟩:=G5.opened (nm:=nm) (m:=m) (c:=c5) (p:=p5) (e:=e5) hx5 (nf _ nc) (fun h=>⟨(nf _ (ne h).1).1,(nf _ (ne h).1).2,(ne h).2.1,(ne h).2.2⟩) hc5 hp5 (hv.imp id fun⟨q6,xs,a1,a2,a3,a4⟩=>⟨q6,xs,a1,(nf _ a2).1,a3,a4⟩)
     simp only[List.map_cons,List.reverse_cons]at G'
     exact⟨H0',_,_,_,_,_,_,_,rfl,G',by rw[nxt];rw[ep,qF];rfl,hbt⟩
    rw[if_neg c4]at ht5
    by_cases c8:m / 512 % 2=0
    ·rw[if_pos c8]at ht5
     refine⟨_,rfl,_,_,_,_,rfl,rfl,SqT.of ht5,z5g,rfl,_,rfl,z1a (by decide +kernel) ⟨_,rfl,_,_,rfl,rfl,⟨by decide,by decide⟩,_,_,rfl,rfl,by decide,rfl,_,rfl,?_⟩⟩
     by_cases c9:m / 1024 % 4=0
     ·have ep:z91 m nm=[]:=by unfold z91;rw[if_neg c4,if_pos c8,if_pos c9]
      refine z0X (by simp[c9]) ?_
      refine⟨_,rfl,_,rfl,_,rfl,_,rfl,_,rfl,p5,s0,s1,s2,x.c,m,⟨⟨opF m nm,odF m nm,z7Y m x.f.shut,z68 m⟩,c5,p5,e5⟩,nm,_,(r.map fun x=>V.ref x.c).reverse,(r.map Fz.oJ).reverse++[x.oJ],(r.map fun x=>V.bl x.f.shut).reverse,x.f.shut,rfl,m0,hp5,rfl,by rw[G5.c0];exact congrArg (fun z=>some (HO.lst z)) List.reverse_cons,by rw[G5.c1];exact congrArg (fun z=>some (HO.lst z)) List.reverse_cons,by rw[G5.c2];exact congrArg (fun z=>some (HO.lst z)) List.reverse_cons,hx5,n01,n02,n12,x0,x1,x2,by simp;omega,by simp;omega,by simp;omega,by omega,?_⟩
      obtain⟨H0',G'⟩:=G5.opened (nm:=nm) (m:=m) (c:=c5) (p:=p5) (e:=e5) hx5 (nf _ nc) (fun h=>⟨(nf _ (ne h).1).1,(nf _ (ne h).1).2,(ne h).2.1,(ne h).2.2⟩) hc5 hp5 (hv.imp id fun⟨q6,xs,a1,a2,a3,a4⟩=>⟨q6,xs,a1,(nf _ a2).1,a3,a4⟩)
      simp only[List.map_cons,List.reverse_cons]at G'
      exact⟨H0',_,_,_,_,_,_,_,rfl,G',by rw[nxt];rw[ep,qF];rfl,hbt⟩
     ·have ep:z91 m nm=[.set nm (.num (m / 4096 % 4)) "+" (.num 0)]:=by unfold z91;rw[if_neg c4,if_pos c8,if_neg c9]
      refine z1a (by simp[c9]) ?_
      refine⟨_,rfl,_,rfl,s0,_,_,_,rfl,rfl,SqL.of G5.c0,z6r,.inl ⟨rfl,_,SqL.of hx5⟩,_,rfl,_,rfl,_,_,rfl,rfl,⟨by decide,by decide⟩,_,_,rfl,rfl,by decide,ln5,fun t6 ht6=>?_⟩
      have e6:=z0f.new ht6 (.tup [.str "set",.str nm,.int (m / 4096 % 4),.str "+",.int 0])
      refine⟨x.c,_,_,rfl,rfl,e6 _ _ hx5,z08 (m:=1000) (by omega),?_⟩
      have n6:H0 t6=none:=z0f.none G5.zc.h0 ht6
      have G6:=(G5.same e6).push (d:=.set nm (.num (m / 4096 % 4)) "+" (.num 0)) (e6 _ _ hx5) z01 n6 (.set z01)
      have off:∀d o,d≠x.c->H5 d=some o->upd (upd H5 t6 (.tup [.str "set",.str nm,.int (m / 4096 % 4),.str "+",.int 0])) x.c (.lst (vs++[.ref t6])) d=some o:=fun d o h1 h2=>by rw[z06 h1];exact e6 _ _ h2
      have nx:∀d,H4 d=none->d≠x.c:=fun d hd z=>by rw[z,hx4]at hd;cases hd
      have hx6:upd (upd H5 t6 (.tup [.str "set",.str nm,.int (m / 4096 % 4),.str "+",.int 0])) x.c (.lst (vs++[.ref t6])) x.c=some (.lst (vs++[.ref t6])):=z01
      have hp6:=off p5 _ (nx _ np) hp5
      have hc6:=off c5 _ (nx _ nc) hc5
      have nt:∀d o,H5 d=some o->d≠t6:=fun d o h z=>by rw[z,ht6]at h;cases h
      have nf6:∀d o,H4 d=none->H5 d=some o->upd H0 t6 (.tup [.str "set",.str nm,.int (m / 4096 % 4),.str "+",.int 0]) d=none:=fun d o h1 h2=>by rw[z06 (nt d o h2)];exact(nf d h1).1
      have mt:({ x with f:=x.f.add (.set nm (.num (m / 4096 % 4)) "+" (.num 0)) }::r:List Fz).flatMap Fz.muts=(x::r).flatMap Fz.muts:=rfl
      generalize upd (upd H5 t6 (.tup [.str "set",.str nm,.int (m / 4096 % 4),.str "+",.int 0])) x.c (.lst (vs++[.ref t6]))=H6 at G6 off hx6 hp6 hc6 ⊢
      refine⟨_,rfl,_,rfl,_,rfl,_,rfl,_,rfl,p5,s0,s1,s2,x.c,m,⟨⟨opF m nm,odF m nm,z7Y m x.f.shut,z68 m⟩,c5,p5,e5⟩,nm,_,(r.map fun x=>V.ref x.c).reverse,(r.map Fz.oJ).reverse++[x.oJ],(r.map fun x=>V.bl x.f.shut).reverse,x.f.shut,rfl,m0,hp6,rfl,by rw[G6.c0];exact congrArg (fun z=>some (HO.lst z)) List.reverse_cons,by rw[G6.c1];exact congrArg (fun z=>some (HO.lst z)) List.reverse_cons,by rw[G6.c2];exact congrArg (fun z=>some (HO.lst z)) List.reverse_cons,hx6,n01,n02,n12,x0,x1,x2,by simp;omega,by simp;omega,by simp;omega,by rw[qe];show vs.length+1<=1000;omega,?_⟩
      obtain⟨H0',G'⟩:=G6.opened (nm:=nm) (m:=m) (c:=c5) (p:=p5) (e:=e5) hx6 ⟨nf6 _ _ nc hc5,(nf _ nc).2⟩ (fun h=>absurd h c4) hc6 hp6 (hv.imp id fun⟨q6,xs,a1,a2,a3,a4⟩=>⟨q6,xs,a1,nf6 _ _ a2 a3,off q6 _ (nx _ a2) a3,a4⟩)
      simp only[List.map_cons,List.reverse_cons]at G'
      exact⟨H0',_,_,_,_,_,_,_,rfl,G',by rw[nxt];rw[ep];rfl,(z6A (x:=x) (x':={ x with f:=x.f.add (.set nm (.num (m / 4096 % 4)) "+" (.num 0)) }) (r:=r) rfl).trans hbt⟩
    ·rw[if_neg c8]at ht5
     have ep:z91 m nm=[]:=by unfold z91;rw[if_neg c4,if_neg c8]
     refine⟨_,rfl,_,_,_,_,rfl,rfl,SqT.of ht5,z5g,rfl,_,rfl,z0X (by decide +kernel) ?_⟩
     refine⟨_,rfl,_,rfl,_,rfl,_,rfl,_,rfl,p5,s0,s1,s2,x.c,m,⟨⟨opF m nm,odF m nm,z7Y m x.f.shut,z68 m⟩,c5,p5,e5⟩,nm,_,(r.map fun x=>V.ref x.c).reverse,(r.map Fz.oJ).reverse++[x.oJ],(r.map fun x=>V.bl x.f.shut).reverse,x.f.shut,rfl,m0,hp5,rfl,by rw[G5.c0];exact congrArg (fun z=>some (HO.lst z)) List.reverse_cons,by rw[G5.c1];exact congrArg (fun z=>some (HO.lst z)) List.reverse_cons,by rw[G5.c2];exact congrArg (fun z=>some (HO.lst z)) List.reverse_cons,hx5,n01,n02,n12,x0,x1,x2,by simp;omega,by simp;omega,by simp;omega,by omega,?_⟩
     obtain⟨H0',G'⟩:=G5.opened (nm:=nm) (m:=m) (c:=c5) (p:=p5) (e:=e5) hx5 (nf _ nc) (fun h=>⟨(nf _ (ne h).1).1,(nf _ (ne h).1).2,(ne h).2.1,(ne h).2.2⟩) hc5 hp5 (hv.imp id fun⟨q6,xs,a1,a2,a3,a4⟩=>⟨q6,xs,a1,(nf _ a2).1,a3,a4⟩)
     simp only[List.map_cons,List.reverse_cons]at G'
     exact⟨H0',_,_,_,_,_,_,_,rfl,G',by rw[nxt];rw[ep,qF];rfl,hbt⟩
  ·have c6:=z1L cc
   refine⟨_,rfl,s0,_,rfl,.inl (SqL.of G1.c0),_,_,rfl,rfl,_,rfl,?_⟩
   rw[l0]
   refine z2X (fun cr=>?_) (fun cr=>by have h:=go fun z=>cr (decide_eq_true (by omega));exact h)
   have r0:0<r.length:=by
    have:=of_decide_eq_true cr
    omega
   rw[if_pos ⟨c6,r0⟩]at nxt
   cases r with
   |nil=>exact absurd r0 (by simp)
   |cons g r=>
   obtain⟨n01,n02,n12⟩:=G1.ss
   refine⟨_,rfl,.inl ⟨rfl,_,SqL.of G1.c0⟩,s0,_,_,rfl,rfl,G1.c0,z6s,?_⟩
   rw[z6w]
   generalize hA:upd H3 s0 (.lst (((g::r).map fun x=>V.ref x.c).reverse))=A1
   have a0:A1 s0=some (.lst (((g::r).map fun x=>V.ref x.c).reverse)):=by rw[<- hA];exact z01
   have a1:A1 s1=some (.lst (((x::g::r).map Fz.oJ).reverse)):=by rw[<- hA,z06 n01.symm];exact G1.c1
   have a2:A1 s2=some (.lst (((x::g::r).map fun x=>V.bl x.f.shut).reverse)):=by rw[<- hA,z06 n02.symm];exact G1.c2
   refine⟨_,rfl,.inl ⟨rfl,_,SqL.of a1⟩,s1,_,_,rfl,rfl,a1,z6s,?_⟩
   rw[z6w]
   generalize hB:upd A1 s1 (.lst (((g::r).map Fz.oJ).reverse))=A2
   have b0:A2 s0=some (.lst (((g::r).map fun x=>V.ref x.c).reverse)):=by rw[<- hB,z06 n01];exact a0
   have b1:A2 s1=some (.lst (((g::r).map Fz.oJ).reverse)):=by rw[<- hB];exact z01
   have b2:A2 s2=some (.lst (((x::g::r).map fun x=>V.bl x.f.shut).reverse)):=by rw[<- hB,z06 n12.symm];exact a2
   have rlen:∀{β:Type}(f:Fz->β),(((g::r).map f).reverse).length<sizeLine:=fun f=>by
    rw[List.length_reverse,qb]
    exact z08 (m:=1000) (by omega)
   refine⟨_,rfl,rfl,_,rfl,?_⟩
   cases hsec:x.f.sec with
   |some y=>
    have xo:x.oJ=.ref x.e:=by unfold Fz.oJ;rw[hsec]
    rw[xo]
    obtain⟨q1,q2⟩:=zbI hsec
    rw[hsec]at nxt
    refine z1a (by simp) ?_
    refine⟨_,rfl,.inl ⟨rfl,_,SqL.of b0⟩,_,rfl,s0,_,_,rfl,rfl,b0,rlen _,?_⟩
    generalize hC:upd A2 s0 (.lst ((((g::r).map fun x=>V.ref x.c).reverse)++[.ref x.e]))=A3
    have d1:A3 s1=some (.lst (((g::r).map Fz.oJ).reverse)):=by rw[<- hC,z06 n01.symm];exact b1
    have d0:A3 s0=some (.lst ((((g::r).map fun x=>V.ref x.c).reverse)++[.ref x.e])):=by rw[<- hC];exact z01
    refine⟨_,rfl,.inl ⟨rfl,_,SqL.of d1⟩,s1,_,_,rfl,rfl,d1,rlen _,?_⟩
    refine⟨_,_,_,_,_,_,_,_,rfl,G1.elsed q1 hx1 (fun b u h1 h2 h=>?_) (by rw[z06 n01];exact d0) z01,by rw[nxt];rfl,hbt⟩
    rw[z06 h2,<- hC,z06 h1,<- hB,z06 h2,<- hA,z06 h1]
    exact h
   |none=>
    have xo:x.oJ=.non:=by unfold Fz.oJ;rw[hsec]
    rw[xo]
    rw[hsec]at nxt
    refine z0X (by simp) ?_
    refine⟨_,rfl,.inl ⟨rfl,_,SqL.of b2⟩,s2,_,_,rfl,rfl,b2,z6s,?_⟩
    rw[z6w]
    obtain⟨H0',G'⟩:=G1.closed (H':=upd A2 s2 (.lst (((g::r).map fun x=>V.bl x.f.shut).reverse))) (fun b u h1 h2 h3 h=>by rw[z06 h3,<- hB,z06 h2,<- hA,z06 h1];exact h) (by rw[z06 n02];exact b0) (by rw[z06 n12];exact b1) z01
    exact⟨H0',_,_,_,_,_,_,_,rfl,G',by rw[nxt];rfl,by rw[<- hbt];exact z6A rfl⟩
 ·rintro σ H3 ⟨H0,z,v7,v8,v9,v10,v11,v12,rfl,G,hz,hbt⟩
  rw[qb]at hz
  refine⟨_,rfl,q H3 b G.zc.hbH hb ?_⟩
  have w:=G.zc.whole
  rw[hbt,hz]at w
  exact w
def tot:List (List z0c)->Nat
 |[]=>0
 |b::r=>(z0k b).length+tot r
theorem z7B:∀a b:List (List z0c),tot (a++b)=tot a+tot b
 |[],b=>by simp[tot]
 |x::a,b=>by rw[List.cons_append,tot,tot,z7B a b];omega
theorem z9n (d:z0c):(z0k [d]).length=1+tot d.inner:=by
 cases d<;>simp[z0k,z0c.flat,z0c.inner,tot]<;>omega
theorem zaf (d:z0c):d.inner.length<=2:=by cases d<;>simp[z0c.inner]
theorem RLs.snoc {H:Hp}:∀{st:List Addr}{bds:List (List z0c)},RLs H st bds->0<st.length->∃st' t bds' dt,st=st'++[t]/\bds=bds'++[dt]/\RLs H st' bds'/\RL H t dt
 |_,_,.nil,h=>absurd h (by simp)
 |_,_,.cons (l:=l) (d:=d) a .nil,_=>⟨[],l,[],d,rfl,rfl,.nil,a⟩
 |_,_,.cons (l:=l) (d:=d) a (.cons b c),_=>by
  obtain⟨st',t,bds',dt,e1,e2,h1,h2⟩:=RLs.snoc (.cons b c) (by simp)
  exact⟨l::st',t,d::bds',dt,by rw[e1];rfl,by rw[e2];rfl,.cons a h1,h2⟩
def z4b (b:List z0c):List Str:=(z0k b).flatMap z0c.names
theorem zbf {dt:List z0c}{i:Nat}{d:z0c}(hd:dt[i]?=some d) (k:Str):k∈z4b (dt.drop i)↔k∈d.names\/(∃b∈d.inner,k∈z4b b)\/k∈z4b (dt.drop (i+1)):=by
 have dr:dt.drop i=d::dt.drop (i+1):=List.drop_eq_getElem?_toList_append .. |>.trans (by rw[hd];rfl)
 unfold z4b
 rw[dr,z0k,z1V,List.cons_append,qM,List.flatMap_append,qk,qk,List.flatMap_assoc,List.mem_flatMap]
theorem z3N (T:Tx P w K mg a):z1B P w K mg base CX0 1 a._law_named a.fd__law_named ["_law_body","_law_asks"] z5Y:=by
 refine T.F__law_named.ok z1u (fun vs H Q E h=>?_) (fun cdv A outer s H vs Q E hr h=>?_)
 ·obtain⟨_,_,_,_,_,_,rfl,_⟩:=h
  rfl
 obtain⟨b,la,ds,ak,C,ss,rfl,hb,fl,ha,akC,hP,c9,q⟩:=h
 refine⟨_,(z04 (z0p (i:=2) z1u.nd rfl (Or.inl rfl) z8p)
  (z04 (z1Y PassesOwn.never rfl (z1m (pv 1)) (z0s (i:=3) z1u.nd rfl (Or.inl rfl))
  (z05 (z2L (hr.one) (pv 2) (pv 3) z1n rfl)))
  (z04 (z0p (i:=4) z1u.nd rfl (Or.inl rfl) (z0N (z00 (pv 0) z07)))
  (z04 (z8l PassesOwn.never (z0b zbc (z0n z0l rfl T.z_len PySem.boot_len (z00 (pv 4) z07)) z03 (z0h _)) (z05 (z1Y PassesOwn.never rfl (z1m (z8q qj PySem.F.slot_list_pop PySem.F.type_list_pop z8t (pv 4))) (z0s (i:=5) z1u.nd rfl (Or.inl rfl))
  (z05 (z0v (z0b z0W (z0j z0d (pv 5) z03 (fun _ _=>rfl)) z0x (z0h _)) (z05 (z1Y PassesOwn.never rfl (zbK (z0V (z00 (z0j z0d (pv 5) z03 (fun _ _=>rfl)) (z00 (z0j z0d (pv 5) z03 (fun _ _=>rfl)) (z00 (z0j z0d (pv 5) z03 (fun _ _=>rfl)) z07))))) (z0s (i:=6) z1u.nd rfl (Or.inl rfl))
  (z05 (z0v (z0M (z0n z1I rfl T.z_isinstance PyProof.Rows.Boot.«isinstance» (z00 (pv 6) (z00 (z2f (v:=.ty "str") rfl T.z_str PyProof.Rows.Boot.«str» rfl) z07)))) (z05 (z2L (hr.one) (pv 2) (pv 6) z1n rfl)) z0i)))) (z05 (z0v (z0b z3K (z0j z0d (pv 5) z03 (fun _ _=>rfl)) (z0V (z00 z0x (z00 z0x z07))) (by with_unfolding_all rfl)) (z05 (z2L (hr.one) (pv 2) (z0j z0d (pv 5) z03 (fun _ _=>rfl)) z1n rfl)) (z05 (z0v (z0b z0W (z0j z0d (pv 5) z03 (fun _ _=>rfl)) z0x (z0h _)) (z05 (z0P (z2W qj qC qD z0O (pv 4) (z00 (z0j z0d (pv 5) z03 (fun _ _=>rfl)) z07)))) (z04 (z2L (hr.one) (pv 2) (z0j z0d (pv 5) z03 (fun _ _=>rfl)) z1n rfl)
  (z04 (z0v (z0b z47 (z0j z0d (pv 5) z03 (fun _ _=>rfl)) z0x (z0h _)) (z05 (z0P (z2W qj qC qD z0O (pv 4) (z00 (z0j z0d (pv 5) z03 (fun _ _=>rfl)) z07)))) z0i)
  (z05 (z0v (z0b z0W (z0j z0d (pv 5) z03 (fun _ _=>rfl)) z0x (z0h _)) (z05 (z0P (z2W qj qC qD z0O (pv 4) (z00 (z0j z0d (pv 5) z03 (fun _ _=>rfl)) z07)))) z0i)))))))))))))
  (z05 (z0e (z0n (z4m rfl) rfl T.z_sorted PyProof.Rows.Boot.«sorted» (z00 (pv 2) z07)))))))),?_⟩
 refine fun d hd=>?_
 have e1:=z0f.new hd (.dK [])
 have kl:∀(ks:List Str) (f:Str->V),ks.Nodup->(∀k∈ks,k∈C)->(z1X ks f).length<sizeLine:=fun ks f h1 h2=>by
  rw[zaZ]
  have:=z2T h1 h2
  exact z4L (by omega)
 have put:∀(ks:List Str) (x:Str),ks.Nodup->z45 (z1X ks fun _=>V.bl true) (.inr x) (.bl true)=z1X (z2U ks x) fun _=>V.bl true:=fun ks x h=>by
  rw[zaX h]
  exact z8O fun k _=>by unfold zcZ;split<;>rfl
 refine⟨_,rfl,la,rfl,⟨_,SqL.of (e1 _ _ ha)⟩,?_⟩
 refine z2j (K:=K) (a:=la) (xs:=ak.map V.str) (fun i σ H2=>∃v3 v4 v5 v6,σ=[some (.ref b),some (.ref la),some (.ref d),v3,v4,v5,v6]/\z0f H H2/\∃ks,H2 d=some (.dK (z1X ks fun _=>.bl true))/\ks.Nodup/\∀k,k∈ks↔k∈ak.take i) ⟨_,_,_,_,rfl,e1,[],z01,List.nodup_nil,fun k=>by simp⟩ ?_ ?_ ?_
 ·rintro i σ H2 _ ⟨_,_,_,_,_,s2,_⟩
  exact SqL.of (s2 _ _ ha)
 ·rintro i x σ H2 hx ⟨v3,v4,v5,v6,rfl,s2,ks,hk,nd,mem⟩
  rw[qL]at hx
  obtain⟨z,hz,rfl⟩:=Option.map_eq_some_iff.mp hx
  refine⟨_,rfl,_,rfl,d,_,rfl,.inl ⟨_,.inr z,hk,rfl,kl ks _ nd fun k hk'=>akC k (List.mem_of_mem_take ((mem k).mp hk')),rfl⟩,?_⟩
  rw[put ks z nd]
  refine⟨_,_,_,_,rfl,z0f.over s2 hd,z2U ks z,z01,z3w nd,fun k=>?_⟩
  rw[z2v,mem k,qz,hz]
  simp
 rintro σ H2 ⟨v3,v4,v5,v6,rfl,s2,ks,hk,nd,mem⟩
 rw[qb,qO]at mem
 have hd2:=s2
 have nd0:∀k∈ks,k∈C:=fun k hk'=>akC k ((mem k).mp hk')
 refine⟨_,rfl,ln1,fun bl hbl=>?_⟩
 have dbl:d≠bl:=fun z=>by rw[z,hbl]at hk;cases hk
 have bl0:=z0f.none s2 hbl
 refine⟨fun m σ H3=>∃(ks:List Str) (st:List Addr) (bds:List (List z0c)) (v3 v5 v6:Option V),σ=[some (.ref b),some (.ref la),some (.ref d),v3,some (.ref bl),v5,v6]/\z0f H H3/\H3 d=some (.dK (z1X ks fun _=>.bl true))/\ks.Nodup/\(∀k∈ks,k∈C)/\H3 bl=some (.lst (st.map V.ref))/\RLs H st bds/\(∀x∈bds,z1W C ss x)/\(∀k,(k∈ks\/∃x∈bds,k∈z4b x)↔(k∈ak\/k∈z4b ds))/\m=2 * tot bds+bds.length/\m<=1000,
  ⟨2 * tot [ds]+1,ks,[b],[ds],_,_,_,rfl,z0f.over s2 bl0,by rw[z06 dbl];exact hk,nd,nd0,z01,.cons hb .nil,fun x hx=>by rw[List.mem_singleton.mp hx];exact hP,fun k=>by rw[mem k];simp,rfl,by simp[tot];omega⟩,?_⟩
 clear hk mem nd nd0 hbl s2 hd2
 rintro m σ H3 ⟨ks,st,bds,v3,v5,v6,rfl,s3,hk,nd,kC,hbl,hst,hbo,mem,rfl,hm⟩
 refine⟨_,rfl,bl,_,rfl,.inl (SqL.of hbl),_,_,rfl,rfl,_,rfl,z2X (fun cd=>?_) (fun cd=>?_)⟩
 ·have pos:0<st.length:=by
   have:=of_decide_eq_true cd
   rw[qb]at this
   omega
  obtain⟨st',t,bds',dt,rfl,rfl,hst',ht⟩:=RLs.snoc hst pos
  refine⟨_,fun σ' H' h=>h,?_⟩
  obtain⟨ht1,hdt⟩:=ht
  rename_i us
  refine⟨_,rfl,.inl ⟨rfl,_,SqL.of hbl⟩,bl,_,.ref t,rfl,rfl,hbl,by simp,?_⟩
  have e3:((st'++[t]).map V.ref).dropLast=st'.map V.ref:=by simp
  rw[e3]
  have s4:z0f H (upd H3 bl (.lst (st'.map V.ref))):=z0f.over s3 bl0
  have k4:(upd H3 bl (.lst (st'.map V.ref))) d=some (.dK (z1X ks fun _=>.bl true)):=by rw[z06 dbl];exact hk
  have b4:(upd H3 bl (.lst (st'.map V.ref))) bl=some (.lst (st'.map V.ref)):=z01
  clear hk hbl s3
  generalize upd H3 bl (.lst (st'.map V.ref))=H4 at s4 k4 b4 ⊢
  refine⟨t,rfl,⟨_,SqL.of (s4 _ _ ht1)⟩,?_⟩
  have tt1:tot (bds'++[dt])=tot bds'+(z0k dt).length:=by rw[z7B];simp[tot]
  rw[tt1]at hm
  simp only[qe,qI,List.length_nil]at hm
  have hbd:z1W C ss dt:=hbo dt (by simp)
  refine z2j (K:=K) (a:=t) (xs:=us) (fun i σ H5=>∃(ks:List Str) (st2:List Addr) (bds2:List (List z0c)) (v3 v5 v6:Option V),σ=[some (.ref b),some (.ref la),some (.ref d),v3,some (.ref bl),v5,v6]/\z0f H H5/\H5 d=some (.dK (z1X ks fun _=>.bl true))/\ks.Nodup/\(∀k∈ks,k∈C)/\H5 bl=some (.lst (st2.map V.ref))/\RLs H st2 bds2/\(∀x∈bds2,z1W C ss x)/\(∀k,(k∈ks\/(∃x∈bds2,k∈z4b x)\/k∈z4b (dt.drop i))↔(k∈ak\/k∈z4b ds))/\2 * tot bds2+bds2.length+2 * (z0k (dt.drop i)).length<=2 * (tot bds'+(z0k dt).length)+bds'.length)
   ⟨ks,st',bds',_,_,_,rfl,s4,k4,nd,kC,b4,hst',fun x hx=>hbo x (by simp[hx]),fun k=>?_,by rw[List.drop_zero];omega⟩ ?_ ?_ ?_
  ·rw[<- mem k,List.drop_zero]
   constructor
   ·rintro(h|⟨x,hx,h⟩|h)
    ·exact .inl h
    ·exact .inr ⟨x,List.mem_append_left _ hx,h⟩
    ·exact .inr ⟨dt,by simp,h⟩
   ·rintro(h|⟨x,hx,h⟩)
    ·exact .inl h
    ·rcases qk.mp hx with hx|hx
     ·exact .inr (.inl ⟨x,hx,h⟩)
     ·rw[List.mem_singleton]at hx
      subst hx
      exact .inr (.inr h)
  ·rintro i σ H5 _ ⟨_,_,_,_,_,_,_,s5,_⟩
   exact SqL.of (s5 _ _ ht1)
  ·clear hst mem k4 b4 s4 nd kC cd pos
   rintro i x σ H5 hxi ⟨ks,st2,bds2,v3,v5,v6,rfl,s5,hk,nd,kC,hbl,hst2,hbo2,mem,hm2⟩
   obtain⟨dd,hd',hrd⟩:=hdt.at i x hxi
   have fl1:(z0k (dt.drop i)).length=1+tot dd.inner+(z0k (dt.drop (i+1))).length:=by
    have dr:dt.drop i=dd::dt.drop (i+1):=List.drop_eq_getElem?_toList_append .. |>.trans (by rw[hd'];rfl)
    rw[dr,show dd::dt.drop (i+1)=[dd]++dt.drop (i+1)from rfl,z0Z,qe,z9n]
   have i2:=zaf dd
   have b2:st2.length<=1001:=by rw[hst2.len];omega
   have dm:dd∈dt:=qH hd'
   have flm:∀(l:List z0c) (y:z0c),y∈l->∀e∈y.flat,e∈z0k l:=by
    intro l
    induction l with
    |nil=>intro y hy;simp at hy
    |cons z r ih=>
     intro y hy e he
     rw[z0k,qk]
     rcases qB.mp hy with rfl|hy
     ·exact .inl he
     ·exact .inr (ih y hy e he)
   have pw:PlW C ss dd:=hbd dd (flm dt dd dm dd (by rw[z1V];simp))
   have bi:∀x∈dd.inner,z1W C ss x:=fun x hx e he=>hbd e (flm dt dd dm e (by rw[z1V];exact qt _ (List.mem_flatMap.mpr ⟨x,hx,he⟩)))
   have nC:=z39 pw
   have next:∀(ks3:List Str) (st3:List Addr) (H6:Hp) (v5 v6:Option V),(∀k,k∈ks3↔k∈ks\/k∈dd.names)->ks3.Nodup->z0f H H6->H6 d=some (.dK (z1X ks3 fun _=>.bl true))->H6 bl=some (.lst (st3.map V.ref))->RLs H st3 (bds2++dd.inner)->
    ∃(ks:List Str) (st2:List Addr) (bds2:List (List z0c)) (v3' v5' v6':Option V),[some (V.ref b),some (.ref la),some (.ref d),v3,some (.ref bl),v5,v6]=[some (.ref b),some (.ref la),some (.ref d),v3',some (.ref bl),v5',v6']/\z0f H H6/\H6 d=some (.dK (z1X ks fun _=>.bl true))/\ks.Nodup/\(∀k∈ks,k∈C)/\H6 bl=some (.lst (st2.map V.ref))/\RLs H st2 bds2/\(∀x∈bds2,z1W C ss x)/\(∀k,(k∈ks\/(∃x∈bds2,k∈z4b x)\/k∈z4b (dt.drop (i+1)))↔(k∈ak\/k∈z4b ds))/\2 * tot bds2+bds2.length+2 * (z0k (dt.drop (i+1))).length<=2 * (tot bds'+(z0k dt).length)+bds'.length:=fun ks3 st3 H6 v5 v6 m3 n3 s6 k6 b6 r6=>by
    refine⟨ks3,st3,bds2++dd.inner,_,_,_,rfl,s6,k6,n3,fun k hk'=>((m3 k).mp hk').elim (kC k) (nC k),b6,r6,fun x hx=>(qk.mp hx).elim (hbo2 x) (bi x),fun k=>?_,by rw[z7B,qe];omega⟩
    rw[<- mem k,m3 k,zbf hd' k]
    simp only[qk]
    constructor
    ·rintro((h|h)|⟨y,hy|hy,h⟩|h)
     ·exact .inl h
     ·exact .inr (.inr (.inl h))
     ·exact .inr (.inl ⟨y,hy,h⟩)
     ·exact .inr (.inr (.inr (.inl ⟨y,hy,h⟩)))
     ·exact .inr (.inr (.inr (.inr h)))
    ·rintro(h|⟨y,hy,h⟩|(h|(⟨y,hy,h⟩|h)))
     ·exact .inl (.inl h)
     ·exact .inr (.inl ⟨y,.inl hy,h⟩)
     ·exact .inl (.inr h)
     ·exact .inr (.inl ⟨y,.inr hy,h⟩)
     ·exact .inr (.inr h)
   have h5:∀{p:Addr}{o:HO},H p=some o->H5 p=some o:=fun h=>s5 _ _ h
   have lb:(st2.map V.ref).length<=1001:=by rw[qb];exact b2
   have apb:∀(y:Addr),st2.map V.ref++[V.ref y]=(st2++[y]).map V.ref:=fun y=>by simp
   cases hrd with
   |set h=>
    rename_i p x va sg vb
    refine⟨_,rfl,_,_,_,_,rfl,rfl,SqT.of (h5 h),rfl,rfl,_,rfl,z1a (by decide +kernel) ?_⟩
    refine⟨_,rfl,_,_,_,_,rfl,rfl,SqT.of (h5 h),rfl,_,rfl,_,_,_,_,rfl,rfl,SqT.of (h5 h),rfl,_,rfl,_,_,_,_,rfl,rfl,SqT.of (h5 h),rfl,ln3,fun t2 ht2=>⟨t2,rfl,⟨_,SqT.of z01⟩,?_⟩⟩
    have e6:=z0f.new ht2 (.tup [.str x,va.v,vb.v])
    have td:t2≠d:=fun z=>by rw[z,hk]at ht2;cases ht2
    refine zcL (K:=K) (a:=t2) (xs:=[.str x,va.v,vb.v]) (fun j σ H6=>∃v6 ks',σ=[some (.ref b),some (.ref la),some (.ref d),v3,some (.ref bl),some (.ref p),v6]/\z0f H H6/\H6 t2=some (.tup [.str x,va.v,vb.v])/\H6 bl=some (.lst (st2.map V.ref))/\H6 d=some (.dK (z1X ks' fun _=>.bl true))/\ks'.Nodup/\(∀k∈ks',k∈C)/\∀k,k∈ks'↔k∈ks\/k∈([Val.nm x,va,vb].take j).flatMap Val.names)
     ⟨_,ks,rfl,s5.trans e6,z01,e6 _ _ hbl,e6 _ _ hk,nd,kC,fun k=>by simp⟩ ?_ ?_ ?_
    ·rintro j σ H6 _ ⟨_,_,_,_,ht6,_⟩
     exact SqT.of ht6
    ·rintro j z σ H6 hz ⟨v6,ks',rfl,s6,t6,b6,k6,n6,c6,m6⟩
     obtain⟨v,hv,rfl,ov⟩:∃v,[Val.nm x,va,vb][j]?=some v/\z=v.v/\∀y∈v.names,y∈C:=by
      rcases j with _|_|_|j
      ·simp at hz
       exact⟨.nm x,rfl,hz.symm,fun y hy=>nC y (by simp[Val.names]at hy;simp[z0c.names,hy])⟩
      ·simp at hz
       exact⟨va,rfl,hz.symm,fun y hy=>nC y (by simp[z0c.names,hy])⟩
      ·simp at hz
       exact⟨vb,rfl,hz.symm,fun y hy=>nC y (by simp[z0c.names,hy])⟩
      ·simp at hz
     have tk:[Val.nm x,va,vb].take (j+1)=[Val.nm x,va,vb].take j++[v]:=by rw[qz,hv];rfl
     cases v with
     |num n=>
      refine⟨_,rfl,_,_,_,false,rfl,.int n,rfl,_,rfl,z0X rfl ?_⟩
      exact⟨_,ks',rfl,s6,t6,b6,k6,n6,c6,fun k=>by rw[m6,tk,List.flatMap_append];simp[Val.names]⟩
     |nm y=>
      refine⟨_,rfl,_,_,_,true,rfl,.str y,rfl,_,rfl,z1a rfl ?_⟩
      refine⟨_,rfl,_,rfl,d,_,rfl,.inl ⟨_,.inr y,k6,rfl,kl ks' _ n6 c6,rfl⟩,?_⟩
      rw[put ks' y n6]
      refine⟨_,z2U ks' y,rfl,z0f.over s6 hd,by rw[z06 td];exact t6,by rw[z06 dbl.symm];exact b6,z01,z3w n6,fun k hk'=>?_,fun k=>?_⟩
      ·rcases z2v.mp hk' with h|h
       ·exact c6 k h
       ·rw[h]
        exact ov y (by simp[Val.names])
      ·rw[z2v,m6,tk,List.flatMap_append,qk,or_assoc]
       simp[Val.names]
    ·rintro σ H6 ⟨v6,ks',rfl,s6,t6,b6,k6,n6,c6,m6⟩
     refine next ks' st2 H6 _ _ (fun k=>?_) n6 s6 k6 b6 (by simpa[z0c.inner]using hst2)
     rw[m6]
     simp[z0c.names,Val.names]
   |put h=>
    rename_i p so x
    refine⟨_,rfl,_,_,_,_,rfl,rfl,SqT.of (h5 h),rfl,rfl,_,rfl,z0X (by decide +kernel) ?_⟩
    refine⟨_,rfl,_,_,_,_,rfl,rfl,SqT.of (h5 h),rfl,ln2,fun tp htp=>⟨tp,_,rfl,.inr (SqT.of z01),rfl,rfl,_,rfl,z1a (by decide +kernel) ?_⟩⟩
    have e6:=z0f.new htp (.tup [.str "put",.str "get"])
    refine⟨_,rfl,_,rfl,_,_,_,_,rfl,rfl,SqT.of (e6 _ _ (h5 h)),rfl,d,_,rfl,.inl ⟨_,.inr _,e6 _ _ hk,rfl,kl ks _ nd kC,rfl⟩,?_⟩
    rw[put ks x nd]
    exact next (z2U ks x) st2 _ _ _ (fun k=>by rw[z2v];simp[z0c.names]) (z3w nd) (z0f.over (s5.trans e6) hd) z01 (by rw[z06 dbl.symm];exact e6 _ _ hbl) (by simpa[z0c.inner]using hst2)
   |get h=>
    rename_i p so x
    refine⟨_,rfl,_,_,_,_,rfl,rfl,SqT.of (h5 h),rfl,rfl,_,rfl,z0X (by decide +kernel) ?_⟩
    refine⟨_,rfl,_,_,_,_,rfl,rfl,SqT.of (h5 h),rfl,ln2,fun tp htp=>⟨tp,_,rfl,.inr (SqT.of z01),rfl,rfl,_,rfl,z1a (by decide +kernel) ?_⟩⟩
    have e6:=z0f.new htp (.tup [.str "put",.str "get"])
    refine⟨_,rfl,_,rfl,_,_,_,_,rfl,rfl,SqT.of (e6 _ _ (h5 h)),rfl,d,_,rfl,.inl ⟨_,.inr _,e6 _ _ hk,rfl,kl ks _ nd kC,rfl⟩,?_⟩
    rw[put ks x nd]
    exact next (z2U ks x) st2 _ _ _ (fun k=>by rw[z2v];simp[z0c.names]) (z3w nd) (z0f.over (s5.trans e6) hd) z01 (by rw[z06 dbl.symm];exact e6 _ _ hbl) (by simpa[z0c.inner]using hst2)
   |give h=>
    rename_i p x
    refine⟨_,rfl,_,_,_,_,rfl,rfl,SqT.of (h5 h),rfl,rfl,_,rfl,z0X (by decide +kernel) ?_⟩
    refine⟨_,rfl,_,_,_,_,rfl,rfl,SqT.of (h5 h),rfl,ln2,fun tp htp=>⟨tp,_,rfl,.inr (SqT.of z01),rfl,rfl,_,rfl,z0X (by decide +kernel) ?_⟩⟩
    have e6:=z0f.new htp (.tup [.str "put",.str "get"])
    have hp6:=e6 _ _ (h5 h)
    have hk6:=e6 _ _ hk
    have hb6:=e6 _ _ hbl
    have s6:=s5.trans e6
    generalize upd H5 tp (.tup [.str "put",.str "get"])=H6 at hp6 hk6 hb6 s6 ⊢
    refine⟨_,rfl,_,_,_,_,rfl,rfl,SqT.of hp6,rfl,rfl,_,rfl,z0X (by decide +kernel) ?_⟩
    refine⟨_,rfl,_,rfl,_,_,_,_,rfl,rfl,SqT.of hp6,rfl,d,_,rfl,.inl ⟨_,.inr _,hk6,rfl,kl ks _ nd kC,rfl⟩,?_⟩
    rw[put ks x nd]
    have pd:p≠d:=z2e hp6 hk6 (by simp)
    have hp7:upd H6 d (.dK (z1X (z2U ks x) fun _=>.bl true)) p=_:=(z06 pd).trans hp6
    have hk7:upd H6 d (.dK (z1X (z2U ks x) fun _=>.bl true)) d=_:=z01
    have hb7:upd H6 d (.dK (z1X (z2U ks x) fun _=>.bl true)) bl=_:=(z06 dbl.symm).trans hb6
    have s7:z0f H (upd H6 d (.dK (z1X (z2U ks x) fun _=>.bl true))):=z0f.over s6 hd
    generalize upd H6 d (.dK (z1X (z2U ks x) fun _=>.bl true))=H7 at hp7 hk7 hb7 s7 ⊢
    have am:∀k,k∈z2U ks x↔k∈ks\/k∈[x]:=fun k=>by rw[z2v];simp
    refine⟨_,rfl,_,_,_,_,rfl,rfl,SqT.of hp7,rfl,rfl,_,rfl,z0X (by decide +kernel) ?_⟩
    refine⟨_,rfl,_,_,_,_,rfl,rfl,SqT.of hp7,rfl,rfl,_,rfl,z0X (by decide +kernel) ?_⟩
    exact next (z2U ks x) st2 _ _ _ am (z3w nd) s7 hk7 hb7 (by simpa[z0c.inner]using hst2)
   |cond h h1 h2=>
    rename_i p t1 o1 x ts os
    refine⟨_,rfl,_,_,_,_,rfl,rfl,SqT.of (h5 h),rfl,rfl,_,rfl,z0X (by decide +kernel) ?_⟩
    refine⟨_,rfl,_,_,_,_,rfl,rfl,SqT.of (h5 h),rfl,ln2,fun tp htp=>⟨tp,_,rfl,.inr (SqT.of z01),rfl,rfl,_,rfl,z0X (by decide +kernel) ?_⟩⟩
    have e6:=z0f.new htp (.tup [.str "put",.str "get"])
    have hp6:=e6 _ _ (h5 h)
    have hk6:=e6 _ _ hk
    have hb6:=e6 _ _ hbl
    have s6:=s5.trans e6
    generalize upd H5 tp (.tup [.str "put",.str "get"])=H6 at hp6 hk6 hb6 s6 ⊢
    refine⟨_,rfl,_,_,_,_,rfl,rfl,SqT.of hp6,rfl,rfl,_,rfl,z0X (by decide +kernel) ?_⟩
    refine⟨_,rfl,_,rfl,_,_,_,_,rfl,rfl,SqT.of hp6,rfl,d,_,rfl,.inl ⟨_,.inr _,hk6,rfl,kl ks _ nd kC,rfl⟩,?_⟩
    rw[put ks x nd]
    have pd:p≠d:=z2e hp6 hk6 (by simp)
    have hp7:upd H6 d (.dK (z1X (z2U ks x) fun _=>.bl true)) p=_:=(z06 pd).trans hp6
    have hk7:upd H6 d (.dK (z1X (z2U ks x) fun _=>.bl true)) d=_:=z01
    have hb7:upd H6 d (.dK (z1X (z2U ks x) fun _=>.bl true)) bl=_:=(z06 dbl.symm).trans hb6
    have s7:z0f H (upd H6 d (.dK (z1X (z2U ks x) fun _=>.bl true))):=z0f.over s6 hd
    generalize upd H6 d (.dK (z1X (z2U ks x) fun _=>.bl true))=H7 at hp7 hk7 hb7 s7 ⊢
    have am:∀k,k∈z2U ks x↔k∈ks\/k∈[x]:=fun k=>by rw[z2v];simp
    refine⟨_,rfl,_,_,_,_,rfl,rfl,SqT.of hp7,rfl,rfl,_,rfl,z1a (by decide +kernel) ?_⟩
    refine⟨_,rfl,.inl ⟨rfl,_,SqL.of hb7⟩,_,rfl,_,_,_,_,rfl,rfl,SqT.of hp7,rfl,bl,_,_,rfl,rfl,hb7,z08 (m:=3000) (by omega),?_⟩
    rw[apb]
    have pb:p≠bl:=z2e hp7 hb7 (by simp)
    have hp8:upd H7 bl (.lst ((st2++[t1]).map V.ref)) p=_:=(z06 pb).trans hp7
    have hb8:upd H7 bl (.lst ((st2++[t1]).map V.ref)) bl=_:=z01
    refine⟨_,rfl,_,_,_,_,rfl,rfl,SqT.of hp8,rfl,rfl,_,rfl,z1a (by decide +kernel) ?_⟩
    refine⟨_,rfl,.inl ⟨rfl,_,SqL.of hb8⟩,_,rfl,_,_,_,_,rfl,rfl,SqT.of hp8,rfl,bl,_,_,rfl,rfl,hb8,z08 (m:=3000) (by rw[qb,qe];show _+1+1<=3000;omega),?_⟩
    rw[show(st2++[t1]).map V.ref++[V.ref o1]=(st2++[t1,o1]).map V.ref by simp]
    exact next (z2U ks x) (st2++[t1,o1]) _ _ _ am (z3w nd) (z0f.over (z0f.over s7 bl0) bl0) (by rw[z06 dbl,z06 dbl];exact hk7) z01 (hst2.app (.cons h1 (.cons h2 .nil)))
   |whl h h1=>
    rename_i p t1 x ts
    refine⟨_,rfl,_,_,_,_,rfl,rfl,SqT.of (h5 h),rfl,rfl,_,rfl,z0X (by decide +kernel) ?_⟩
    refine⟨_,rfl,_,_,_,_,rfl,rfl,SqT.of (h5 h),rfl,ln2,fun tp htp=>⟨tp,_,rfl,.inr (SqT.of z01),rfl,rfl,_,rfl,z0X (by decide +kernel) ?_⟩⟩
    have e6:=z0f.new htp (.tup [.str "put",.str "get"])
    have hp6:=e6 _ _ (h5 h)
    have hk6:=e6 _ _ hk
    have hb6:=e6 _ _ hbl
    have s6:=s5.trans e6
    generalize upd H5 tp (.tup [.str "put",.str "get"])=H6 at hp6 hk6 hb6 s6 ⊢
    refine⟨_,rfl,_,_,_,_,rfl,rfl,SqT.of hp6,rfl,rfl,_,rfl,z0X (by decide +kernel) ?_⟩
    refine⟨_,rfl,_,rfl,_,_,_,_,rfl,rfl,SqT.of hp6,rfl,d,_,rfl,.inl ⟨_,.inr _,hk6,rfl,kl ks _ nd kC,rfl⟩,?_⟩
    rw[put ks x nd]
    have pd:p≠d:=z2e hp6 hk6 (by simp)
    have hp7:upd H6 d (.dK (z1X (z2U ks x) fun _=>.bl true)) p=_:=(z06 pd).trans hp6
    have hk7:upd H6 d (.dK (z1X (z2U ks x) fun _=>.bl true)) d=_:=z01
    have hb7:upd H6 d (.dK (z1X (z2U ks x) fun _=>.bl true)) bl=_:=(z06 dbl.symm).trans hb6
    have s7:z0f H (upd H6 d (.dK (z1X (z2U ks x) fun _=>.bl true))):=z0f.over s6 hd
    generalize upd H6 d (.dK (z1X (z2U ks x) fun _=>.bl true))=H7 at hp7 hk7 hb7 s7 ⊢
    have am:∀k,k∈z2U ks x↔k∈ks\/k∈[x]:=fun k=>by rw[z2v];simp
    refine⟨_,rfl,_,_,_,_,rfl,rfl,SqT.of hp7,rfl,rfl,_,rfl,z1a (by decide +kernel) ?_⟩
    refine⟨_,rfl,.inl ⟨rfl,_,SqL.of hb7⟩,_,rfl,_,_,_,_,rfl,rfl,SqT.of hp7,rfl,bl,_,_,rfl,rfl,hb7,z08 (m:=3000) (by omega),?_⟩
    rw[apb]
    have pb:p≠bl:=z2e hp7 hb7 (by simp)
    have hp8:upd H7 bl (.lst ((st2++[t1]).map V.ref)) p=_:=(z06 pb).trans hp7
    refine⟨_,rfl,_,_,_,_,rfl,rfl,SqT.of hp8,rfl,rfl,_,rfl,z0X (by decide +kernel) ?_⟩
    exact next (z2U ks x) (st2++[t1]) _ _ _ am (z3w nd) (z0f.over s7 bl0) (by rw[z06 dbl];exact hk7) z01 (hst2.app (.cons h1 .nil))
   |rep h h1=>
    rename_i p t1 n ts
    refine⟨_,rfl,_,_,_,_,rfl,rfl,SqT.of (h5 h),rfl,rfl,_,rfl,z0X (by decide +kernel) ?_⟩
    refine⟨_,rfl,_,_,_,_,rfl,rfl,SqT.of (h5 h),rfl,ln2,fun tp htp=>⟨tp,_,rfl,.inr (SqT.of z01),rfl,rfl,_,rfl,z0X (by decide +kernel) ?_⟩⟩
    have e6:=z0f.new htp (.tup [.str "put",.str "get"])
    have hp6:=e6 _ _ (h5 h)
    have hk6:=e6 _ _ hk
    have hb6:=e6 _ _ hbl
    have s6:=s5.trans e6
    generalize upd H5 tp (.tup [.str "put",.str "get"])=H6 at hp6 hk6 hb6 s6 ⊢
    refine⟨_,rfl,_,_,_,_,rfl,rfl,SqT.of hp6,rfl,rfl,_,rfl,z1a (by decide +kernel) ?_⟩
    refine⟨_,rfl,.inl ⟨rfl,_,SqL.of hb6⟩,_,rfl,_,_,_,_,rfl,rfl,SqT.of hp6,rfl,bl,_,_,rfl,rfl,hb6,z08 (m:=3000) (by omega),?_⟩
    rw[apb]
    exact next ks (st2++[t1]) _ _ _ (fun k=>by simp[z0c.names]) nd (z0f.over s6 bl0) (by rw[z06 dbl];exact hk6) z01 (hst2.app (.cons h1 .nil))
  ·rintro σ H5 ⟨ks,st2,bds2,v3,v5,v6,rfl,s5,hk,nd,kC,hbl,hst2,hbo2,mem,hm2⟩
   have e0:dt.drop us.length=[]:=by rw[hdt.len];exact List.drop_length
   rw[e0]at mem hm2
   have f0:(z0k ([]:List z0c)).length=0:=rfl
   refine⟨_,by rw[tt1];simp only[qe,qI,List.length_nil];rw[f0]at hm2;show 2 * tot bds2+bds2.length<_;omega,ks,st2,bds2,_,_,_,rfl,s5,hk,nd,kC,hbl,hst2,hbo2,fun k=>?_,rfl,by omega⟩
   rw[<- mem k]
   simp[z4b,z0k]
 ·have st0:st=[]:=by
   have:=of_decide_eq_false (by simpa using cd:decide ((0:Int)<((st.map V.ref).length:Int))=false)
   rw[qb]at this
   exact List.length_eq_zero_iff.mp (by omega)
  subst st0
  cases hst
  simp only[List.not_mem_nil,false_and,exists_false,or_false]at mem
  have few:=z2T nd kC
  refine⟨_,rfl,d,_,ks,rfl,hk,z6H _ _,by omega,fun lz zs2 hlz perm so=>?_⟩
  refine q _ lz zs2 (s3.trans (z0f.new hlz _)) (z0f.none s3 hlz) z01 ⟨perm.nodup_iff.mpr nd,fun k=>?_,so,by rw[perm.length_eq];omega⟩
  rw[perm.mem_iff,mem k]
  rfl
theorem zbz (xs:List Int) (lo hi:Option Int):∃ys:List Int,z6C (xs.map V.int) lo hi=ys.map V.int/\ys.length<=xs.length:=by
 unfold z6C
 refine⟨(xs.drop _).take _,by rw[<- List.map_drop,<- List.map_take],?_⟩
 rw[qR,List.length_drop]
 omega
theorem z8K {H:Hp}:∀{us:List V}{ps:List (Str×Int)},RSs H us ps->∃ts:List Addr,us=ts.map V.ref/\ts.length=ps.length/\∀(j:Nat) (t:Addr) (s:Str×Int),ts[j]?=some t->ps[j]?=some s->H t=some (.tup [.str s.1,.int s.2])
 |_,_,.nil=>⟨[],rfl,rfl,fun j t s h=>by simp at h⟩
 |_,_,.cons (p:=p) h r=>by
  obtain⟨ts,e,l,f⟩:=z8K r
  refine⟨p::ts,by rw[e];rfl,by rw[qI,qI,l],fun j t s hj hs=>?_⟩
  rcases j with _|j
  ·simp at hj hs
   subst hj hs
   exact h
  ·exact f j t s (by simpa using hj) (by simpa using hs)
theorem Sto.same {H H':Hp}(e:z0f H H') {l:Addr}{ss:List Str}(h:Sto H l ss):Sto H' l ss:=by
 obtain⟨ts,h1,h2,h3⟩:=h
 exact⟨ts,e _ _ h1,h2,fun j t s a b=>(h3 j t s a b).imp fun c hc=>e _ _ hc⟩
theorem zcV {H:Hp}{l:Addr}{us:List V}{ss:List Str}{c:Int}(h:RSs H us (ss.map fun s=>(s,c))) (hl:H l=some (.lst us)):Sto H l ss:=by
 obtain⟨ts,rfl,e,f⟩:=z8K h
 rw[qb]at e
 exact⟨ts,hl,e,fun j t s hj hs=>⟨c,f j t (s,c) hj (by rw[qL,hs];rfl)⟩⟩
theorem Prs.same {H H':Hp}(e:z0f H H') {l:Addr}{zs:List Str}{f:z4E}(h:Prs H l zs f):Prs H' l zs f:=by
 obtain⟨ts,h1,h2,h3⟩:=h
 exact⟨ts,e _ _ h1,h2,fun j t z a b=>e _ _ (h3 j t z a b)⟩
theorem Lef.same {H H':Hp}(e:z0f H H') {l:Addr}{ss:List Str}{B:Bk}(h:Lef H l ss B):Lef H' l ss B:=by
 obtain⟨ts,h1,h2,h3⟩:=h
 refine⟨ts,e _ _ h1,h2,fun j t z a b=>?_⟩
 obtain⟨x,k1,k2⟩:=h3 j t z a b
 exact⟨x,e _ _ k1,e _ _ k2⟩
theorem z4c {B:Bk}{m k:Nat}:∀{S:List Pf},z3V B S->k<m->z2V m S B k
 |⟨_::_,_⟩::_,h,lt=>.starved lt h
 |⟨[],_⟩::_,h,_=>h.elim
 |[],h,_=>h.elim
theorem z82 {B:Bk}{m k:Nat}{e:Bool}:∀{S:List Pf},z9b e S k m->z2V m S B k
 |_,.inl ⟨_,rfl⟩=>.all
 |⟨_::_,_⟩::_,.inr ⟨_,_,h⟩=>.spent (by omega)
 |⟨[],_⟩::_,.inr ⟨_,h,_⟩=>h.elim
 |[],.inr ⟨_,h,_⟩=>h.elim
theorem zan {B:Bk}{m k:Nat}{e:Bool}{S:List Pf}(h:z9b e S k m) (g:z3V B S) (lt:k<m):False:=by
 rcases h with⟨_,rfl⟩|⟨_,_,z⟩
 ·exact g
 ·omega
theorem z2G.same {H H':Hp}(e:z0f H H') {u:Addr}{ks ss:List Str}{b:Bool}{B:Bk}{k:Nat}(h:z2G H u ks ss b B k):z2G H' u ks ss b B k:=by
 obtain⟨lo,lf,ll,h1,h2,h3,h4⟩:=h
 exact⟨lo,lf,ll,e _ _ h1,e _ _ h2,h3.same e,h4.same e⟩
theorem z2N (T:Tx P w K mg a):z1B P w K mg base CX0 1 a._law_whole a.fd__law_whole ["_law_found"] z5V:=by
 refine T.F__law_whole.ok z6a (fun vs H Q E h=>?_) (fun cdv A outer s H vs Q E hr h=>?_)
 ·obtain⟨_,rfl,_⟩:=h
  rfl
 obtain⟨n,rfl,q⟩:=h
 refine⟨_,(z05 (z0e (z9N (z0n z1I rfl T.z_isinstance PyProof.Rows.Boot.«isinstance» (z00 (pv 0) (z00 (z2f (v:=.ty "int") rfl T.z_int PyProof.Rows.Boot.«int» rfl) z07))) (z8o (zdl (z0n z1I rfl T.z_isinstance PyProof.Rows.Boot.«isinstance» (z00 (pv 0) (z00 (z2f (v:=.ty "bool") rfl T.z_bool PyProof.Rows.Boot.«bool» rfl) z07)))))))),?_⟩
 exact⟨_,rfl,_,_,_,true,rfl,.int n,rfl,_,rfl,z1a rfl ⟨_,rfl,_,_,_,false,rfl,.int n,rfl,_,rfl,q⟩⟩
theorem zcs {H:Hp}{lf ll:Addr}{ks ss:List Str}{B:Bk}{ts us:List Addr}(h1:ts.length=ks.length) (h2:∀(j:Nat) (t:Addr) (z:Str),ts[j]?=some t->ks[j]?=some z->H t=some (.tup [.str z,.int (B.f z)])) (g1:us.length=ss.length) (g2:∀(j:Nat) (u:Addr) (s:Str),us[j]?=some u->ss[j]?=some s->∃x,H u=some (.tup [.str s,.ref x])/\H x=some (.lst (((B.q s).drop (B.g s)).map V.int))) {i:Nat}{x y:V}(hx:(ks.map V.str++ss.map V.str)[i]?=some x) (hy:(ts.map V.ref++us.map V.ref)[i]?=some y):∃z p w,x=.str z/\y=.ref p/\H p=some (.tup [.str z,w]):=by
 rcases Nat.lt_or_ge i ks.length with lt|ge
 ·rw[List.getElem?_append_left (by rw[qb];exact lt),qL]at hx
  rw[List.getElem?_append_left (by rw[qb];omega),qL]at hy
  obtain⟨z,hz,rfl⟩:=Option.map_eq_some_iff.mp hx
  obtain⟨p,hp,rfl⟩:=Option.map_eq_some_iff.mp hy
  exact⟨z,p,_,rfl,rfl,h2 i p z hp hz⟩
 ·rw[qS (by rw[qb];exact ge),qL,qb]at hx
  rw[qS (by rw[qb];omega),qL,qb,h1]at hy
  obtain⟨z,hz,rfl⟩:=Option.map_eq_some_iff.mp hx
  obtain⟨p,hp,rfl⟩:=Option.map_eq_some_iff.mp hy
  obtain⟨x,h,_⟩:=g2 _ p z hp hz
  exact⟨z,p,_,rfl,rfl,h⟩
theorem z3o (T:Tx P w K mg a):z1B P w K mg base CX0 2 a._law_formed a.fd__law_formed ["_law_found","_law_names_here","_law_shelves"] z5m:=by
 refine T.F__law_formed.ok z1D (fun vs H Q E h=>?_) (fun cdv A outer s H vs Q E hr h=>?_)
 ·obtain⟨_,_,_,_,_,_,_,_,rfl,_⟩:=h
  rfl
 obtain⟨u,lk,lsh,ks,ss,e,B,k,rfl,⟨lo,lf,ll,hu,hlo,hf,hl⟩,hk,hs,k6,s6,bk,k1,oo,q⟩:=h
 refine⟨_,(z04 (z0v (PW.pt (z38 (z1s (z0M (z0n z1I rfl T.z_isinstance PyProof.Rows.Boot.«isinstance» (z00 (pv 0) (z00 (z2f (v:=.ty "tuple") rfl T.z_tuple PyProof.Rows.Boot.«tuple» rfl) z07))))) (z38 (z0b z47 (z0n z0l rfl T.z_len PySem.boot_len (z00 (pv 0) z07)) z03 (z0h _)) (z37 (z1s (z0M (z0n z1I rfl T.z_isinstance PyProof.Rows.Boot.«isinstance» (z00 (z0j z0d (pv 0) z03 (fun _ _=>rfl)) (z00 (z2f (v:=.ty "bool") rfl T.z_bool PyProof.Rows.Boot.«bool» rfl) z07))))))))) (z05 (z0e z1n)) z0i)
  (z04 (z0v (PW.pt (z38 (z1s (z0M (z0q (z2N T) (hr.mono (by decide)) rfl T.m__law_whole T.F__law_whole.kp T.b__law_whole .nil z0K (z00 (z0j z0d (pv 0) z03 (fun _ _=>rfl)) z07)))) (z38 (z1s (z0M (z0n z1I rfl T.z_isinstance PyProof.Rows.Boot.«isinstance» (z00 (z0j z0d (pv 0) z03 (fun _ _=>rfl)) (z00 (z2f (v:=.ty "list") rfl T.z_list PyProof.Rows.Boot.«list» rfl) z07))))) (z37 (z1s (z0M (z0n z1I rfl T.z_isinstance PyProof.Rows.Boot.«isinstance» (z00 (z0j z0d (pv 0) z03 (fun _ _=>rfl)) (z00 (z2f (v:=.ty "list") rfl T.z_list PyProof.Rows.Boot.«list» rfl) z07))))))))) (z05 (z0e z1n)) z0i)
  (z04 (z0v (PW.pt (z38 (z1s (z0M (z0n z1I rfl T.z_isinstance PyProof.Rows.Boot.«isinstance» (z00 (z0j z0d (pv 0) z03 (fun _ _=>rfl)) (z00 (z2f (v:=.ty "list") rfl T.z_list PyProof.Rows.Boot.«list» rfl) z07))))) (z38 (z0b z47 (z0n z0l rfl T.z_len PySem.boot_len (z00 (z0j z0d (pv 0) z03 (fun _ _=>rfl)) z07)) (z0n z0l rfl T.z_len PySem.boot_len (z00 (pv 1) z07)) (z0h _)) (z37 (z0b z47 (z0n z0l rfl T.z_len PySem.boot_len (z00 (z0j z0d (pv 0) z03 (fun _ _=>rfl)) z07)) (z0n z0l rfl T.z_len PySem.boot_len (z00 (pv 2) z07)) (z0h _)))))) (z05 (z0e z1n)) z0i)
  (z04 (z1Y PassesOwn.never rfl (z9K rfl T.z_zip (z00 (z0g z7L (pv 1) (pv 2)) (z00 (z0g z7L (z0j z0d (pv 0) z03 (fun _ _=>rfl)) (z0j z0d (pv 0) z03 (fun _ _=>rfl))) z07))) (z5C rfl (z1H (z0s (i:=3) z1D.nd rfl (Or.inl rfl)) (z1H (z0s (i:=4) z1D.nd rfl (Or.inl rfl)) z46)))
  (z05 (z0v (PW.pt (z38 (z1s (z0M (z0n z1I rfl T.z_isinstance PyProof.Rows.Boot.«isinstance» (z00 (pv 4) (z00 (z2f (v:=.ty "tuple") rfl T.z_tuple PyProof.Rows.Boot.«tuple» rfl) z07))))) (z38 (z0b z47 (z0n z0l rfl T.z_len PySem.boot_len (z00 (pv 4) z07)) z03 (z0h _)) (z37 (z0b z47 (z0j z0d (pv 4) z03 (fun _ _=>rfl)) (pv 3) (z0h _)))))) (z05 (z0e z1n)) z0i)))
  (z04 (z1Y PassesOwn.never rfl (z1m (z0j z0d (pv 0) z03 (fun _ _=>rfl))) (z0s (i:=4) z1D.nd rfl (Or.inl rfl))
  (z05 (z0v (z1s (z0M (z0n z1I rfl T.z_isinstance PyProof.Rows.Boot.«isinstance» (z00 (z0j z0d (pv 4) z03 (fun _ _=>rfl)) (z00 (z2f (v:=.ty "list") rfl T.z_list PyProof.Rows.Boot.«list» rfl) z07))))) (z05 (z0e z1n)) z0i)))
  (z04 (z1Y PassesOwn.never rfl (z1m (z0g z7L (z0j z0d (pv 0) z03 (fun _ _=>rfl)) (z2M (k:=1) (Nc:=["_law_pair"]) (js:=[]) (show z0J (z02 z1c) ["_law_found","_law_names_here","_law_shelves","_law_name","_law_pair","_law_thing"] _ 1 ["_law_pair"] []from z0J.mk rfl (by decide +kernel) (by decide +kernel) (by decide +kernel) rfl (by decide +kernel)) rfl (z1m (z0j z0d (pv 0) z03 (fun _ _=>rfl))) (fun _ _ _ _ _=>(z0s (i:=0) (show List.Nodup (["_law_pair"]:List Str)from by decide +kernel) rfl (Or.inl rfl))) (fun _ _ _ _ _=>z2p) (fun _ _ _ _ _=>(z0j (z6t (K:=K) rfl) (pv 0) z03 (fun _ _=>rfl)))))) (z0s (i:=5) z1D.nd rfl (Or.inl rfl))
  (z05 (z0v (PW.pt (z38 (z1s (z0M (z0q (z2N T) (hr.mono (by decide)) rfl T.m__law_whole T.F__law_whole.kp T.b__law_whole .nil z0K (z00 (pv 5) z07)))) (z37 (z1s (zb6 zcx z9S z03 (pv 5) (z0g z5E z03 z03)))))) (z05 (z0e z1n)) z0i)))
  (z05 (z0e z1n)))))))),?_⟩
 obtain⟨ts,hts1,hts2,hts3⟩:=hf
 obtain⟨us,hus1,hus2,hus3⟩:=hl
 have at3:atI [V.bl e,.int k,.ref lo,.ref lf,.ref ll] 3=some (.ref lf):=z0A (j:=3) rfl
 have at4:atI [V.bl e,.int k,.ref lo,.ref lf,.ref ll] 4=some (.ref ll):=z0A (j:=4) rfl
 refine⟨_,rfl,_,_,_,true,rfl,.tup hu,rfl,_,rfl,z0X rfl ?_⟩
 refine⟨_,rfl,u,_,rfl,.inr (SqT.of hu),rfl,_,rfl,z0X rfl ?_⟩
 refine⟨_,rfl,u,_,_,_,rfl,rfl,SqT.of hu,z5g,_,_,_,true,rfl,.bl e,rfl,_,rfl,z0X rfl ?_⟩
 refine⟨_,rfl,u,_,_,_,rfl,rfl,SqT.of hu,z8I,k,rfl,_,rfl,z0X rfl ?_⟩
 refine⟨_,rfl,u,_,_,_,rfl,rfl,SqT.of hu,z6D,_,_,_,true,rfl,.lst hlo,rfl,_,rfl,z0X rfl ?_⟩
 refine⟨_,rfl,u,_,_,_,rfl,rfl,SqT.of hu,at3,_,_,_,true,rfl,.lst hts1,rfl,_,rfl,z0X rfl ?_⟩
 refine⟨_,rfl,u,_,_,_,rfl,rfl,SqT.of hu,at4,_,_,_,true,rfl,.lst hus1,rfl,_,rfl,z0X rfl ?_⟩
 refine⟨_,rfl,u,_,_,_,rfl,rfl,SqT.of hu,at3,lf,_,rfl,.inl (SqL.of hts1),_,rfl,lk,_,rfl,.inl (SqL.of hk),rfl,_,rfl,z0X (by simp[hts2]) ?_⟩
 refine⟨_,rfl,u,_,_,_,rfl,rfl,SqT.of hu,at4,ll,_,rfl,.inl (SqL.of hus1),_,rfl,lsh,_,rfl,.inl (SqL.of hs),rfl,_,rfl,z0X (by simp[hus2]) ?_⟩
 refine⟨_,rfl,_,rfl,lk,lsh,_,_,rfl,rfl,SqL.of hk,SqL.of hs,z08 (m:=100) (by rw[qb,qb];omega),fun c1 hc1=>?_⟩
 have e1:=z0f.new hc1 (.lst (ks.map V.str++ss.map V.str))
 have v1:upd H c1 (.lst (ks.map V.str++ss.map V.str)) c1=_:=z01
 generalize upd H c1 (.lst (ks.map V.str++ss.map V.str))=H1 at e1 v1 ⊢
 refine⟨_,rfl,u,_,_,_,rfl,rfl,SqT.of (e1 _ _ hu),at3,_,rfl,u,_,_,_,rfl,rfl,SqT.of (e1 _ _ hu),at4,lf,ll,_,_,rfl,rfl,SqL.of (e1 _ _ hts1),SqL.of (e1 _ _ hus1),z08 (m:=100) (by rw[qb,qb];omega),fun c2 hc2=>?_⟩
 have e2:=z0f.new hc2 (.lst (ts.map V.ref++us.map V.ref))
 have v2:upd H1 c2 (.lst (ts.map V.ref++us.map V.ref)) c2=_:=z01
 have v12:=e2 _ _ v1
 have s2:=e1.trans e2
 generalize upd H1 c2 (.lst (ts.map V.ref++us.map V.ref))=H2 at e2 v2 v12 s2 ⊢
 refine⟨false,false,c1,c2,_,_,rfl,SqL.of v12,SqL.of v2,?_⟩
 refine z80 (K:=K) (b1:=false) (b2:=false) (l1:=c1) (l2:=c2) (xs:=ks.map V.str++ss.map V.str) (ys:=ts.map V.ref++us.map V.ref) (fun i σ H3=>(∃v3 v4 v5,σ=[some (.ref u),some (.ref lk),some (.ref lsh),v3,v4,v5])/\z0f H2 H3) ⟨⟨_,_,_,rfl⟩,z0f.refl _⟩ ?_ ?_ ?_
 ·rintro i σ H3 ⟨_,s3⟩
  exact⟨SqL.of (s3 _ _ v12),SqL.of (s3 _ _ v2)⟩
 ·rintro i x y σ H3 p hx hy ⟨⟨v3,v4,v5,rfl⟩,s3⟩ hp
  obtain⟨z,pt,wv,rfl,rfl,hpt⟩:=zcs (lf:=lf) (ll:=ll) hts2 hts3 hus2 hus3 hx hy
  have e4:=z0f.new hp (.tup [.str z,.ref pt])
  have hpt4:=e4 _ _ (s3 _ _ (s2 _ _ hpt))
  have p4:upd H3 p (.tup [.str z,.ref pt]) p=_:=z01
  have s4:=s3.trans e4
  generalize upd H3 p (.tup [.str z,.ref pt])=H4 at hpt4 p4 s4 ⊢
  refine⟨p,_,rfl,SqT.of p4,rfl,_,_,rfl,_,_,rfl,rfl,?_⟩
  refine⟨_,rfl,_,_,_,true,rfl,.tup hpt4,rfl,_,rfl,z0X rfl ?_⟩
  refine⟨_,rfl,pt,_,rfl,.inr (SqT.of hpt4),rfl,_,rfl,z0X rfl ?_⟩
  exact⟨_,rfl,pt,_,_,_,rfl,rfl,SqT.of hpt4,z5g,_,rfl,rfl,_,rfl,z0X (by simp) ⟨⟨_,_,_,rfl⟩,s4⟩⟩
 rintro σ H3 ⟨⟨v3,v4,v5,rfl⟩,s3⟩
 have s03:=s2.trans s3
 refine⟨_,rfl,u,_,_,_,rfl,rfl,SqT.of (s03 _ _ hu),at4,ll,rfl,⟨_,SqL.of (s03 _ _ hus1)⟩,?_⟩
 refine z2j (K:=K) (a:=ll) (xs:=us.map V.ref) (fun i σ H4=>(∃v3 v4 v5,σ=[some (.ref u),some (.ref lk),some (.ref lsh),v3,v4,v5])/\H4=H3) ⟨⟨_,_,_,rfl⟩,rfl⟩ ?_ ?_ ?_
 ·rintro i σ H4 _ ⟨_,rfl⟩
  exact SqL.of (s03 _ _ hus1)
 ·rintro i x σ H4 hx ⟨⟨v3,v4,v5,rfl⟩,rfl⟩
  rw[qL]at hx
  obtain⟨t,ht,rfl⟩:=Option.map_eq_some_iff.mp hx
  have il:i<ss.length:=by
   have:=(qi.mp ht).1
   omega
  obtain⟨xl,x1,x2⟩:=hus3 i t _ ht (qf il)
  exact⟨_,rfl,t,_,_,_,rfl,rfl,SqT.of (s03 _ _ x1),z8I,_,_,_,true,rfl,.lst (s03 _ _ x2),rfl,_,rfl,z0X rfl ⟨⟨_,_,_,rfl⟩,rfl⟩⟩
 rintro σ H4 ⟨⟨v3,v4,v5,rfl⟩,rfl⟩
 refine⟨_,rfl,u,_,_,_,rfl,rfl,SqT.of (s03 _ _ hu),z6D,_,rfl,u,_,_,_,rfl,rfl,SqT.of (s03 _ _ hu),at3,lf,rfl,⟨_,SqL.of (s03 _ _ hts1)⟩,?_⟩
 refine z1A (K:=K) (a:=lf) (xs:=ts.map V.ref) (fun i ys σ H5=>(∃v,σ=[v])/\H5=H4/\ys=(ks.take i).map fun z=>V.int (B.f z)) ⟨⟨_,rfl⟩,rfl,rfl⟩ ?_ (z08 (m:=100) (by rw[qb];omega)) ?_ ?_ ?_
 ·rintro i ys σ H5 _ ⟨_,_,rfl⟩
  rw[qb,qR]
  omega
 ·rintro i ys σ H5 ⟨_,rfl,_⟩
  exact SqL.of (s03 _ _ hts1)
 ·rintro i x ys σ H5 hx ⟨⟨v,rfl⟩,rfl,rfl⟩
  rw[qL]at hx
  obtain⟨t,ht,rfl⟩:=Option.map_eq_some_iff.mp hx
  have il:i<ks.length:=by
   have:=(qi.mp ht).1
   omega
  have hz:ks[i]?=some ks[i]:=qf il
  refine⟨_,rfl,t,_,_,_,rfl,rfl,SqT.of (s03 _ _ (hts3 i t _ ht hz)),z8I,⟨_,rfl⟩,rfl,?_⟩
  rw[qz,hz,List.map_append]
  rfl
 rintro ys σ H5 ⟨_,rfl,rfl⟩ lc hlc
 rw[qb,hts2,qO]
 have e5:=z0f.new hlc (.lst (ks.map fun z=>V.int (B.f z)))
 have v5':upd H5 lc (.lst (ks.map fun z=>V.int (B.f z))) lc=_:=z01
 have s05:=s03.trans e5
 generalize upd H5 lc (.lst (ks.map fun z=>V.int (B.f z)))=H6 at e5 v5' s05 ⊢
 have ol:=bk.ol
 refine⟨lo,lc,_,_,rfl,rfl,SqL.of (s05 _ _ hlo),SqL.of v5',z08 (m:=1000) (by rw[qb,qb];omega),fun c3 hc3=>?_⟩
 have e6:=z0f.new hc3 (.lst (B.o.map V.int++ks.map fun z=>V.int (B.f z)))
 have v6:upd H6 c3 (.lst (B.o.map V.int++ks.map fun z=>V.int (B.f z))) c3=_:=z01
 have s06:=s05.trans e6
 generalize upd H6 c3 (.lst (B.o.map V.int++ks.map fun z=>V.int (B.f z)))=H7 at e6 v6 s06 ⊢
 refine⟨c3,rfl,⟨_,SqL.of v6⟩,?_⟩
 refine z2j (K:=K) (a:=c3) (xs:=B.o.map V.int++ks.map fun z=>V.int (B.f z)) (fun i σ H8=>(∃v3 v4 v5,σ=[some (.ref u),some (.ref lk),some (.ref lsh),v3,v4,v5])/\H8=H7) ⟨⟨_,_,_,rfl⟩,rfl⟩ ?_ ?_ ?_
 ·rintro i σ H8 _ ⟨_,rfl⟩
  exact SqL.of v6
 ·rintro i x σ H8 hx ⟨⟨v3,v4,v5,rfl⟩,rfl⟩
  obtain⟨n,rfl,on⟩:∃n,x=.int n/\OnW n:=by
   rcases qk.mp (qH hx)with h|h
   ·obtain⟨n,hn,rfl⟩:=List.mem_map.mp h
    exact⟨n,rfl,oo n hn⟩
   ·obtain⟨z,_,rfl⟩:=List.mem_map.mp h
    exact⟨_,rfl,bk.on z⟩
  refine⟨_,rfl,n,rfl,_,rfl,z0X rfl ?_⟩
  refine⟨_,rfl,_,_,rfl,rfl,_,rfl,z1a (decide_eq_true on.lo) ⟨_,_,rfl,rfl,⟨by decide,by decide,by decide⟩,?_⟩⟩
  rw[p30]
  exact⟨_,_,rfl,rfl,_,rfl,z0X (by rw[decide_eq_true on.hi];rfl) ⟨⟨_,_,_,rfl⟩,rfl⟩⟩
 ·rintro σ H8 ⟨⟨v3,v4,v5,rfl⟩,rfl⟩
  exact q _ s06
theorem z5v (T:Tx P w K mg a):z1B P w K mg base CX0 2 a._law_begins a.fd__law_begins ["_law_found","_law_body","_law_asks","_law_numbers","_law_shelves"] z5n:=by
 refine T.F__law_begins.ok z2a (fun vs H Q E h=>?_) (fun cdv A outer s H vs Q E hr h=>?_)
 ·obtain⟨_,_,_,_,_,_,_,_,_,_,_,_,rfl,_⟩:=h
  rfl
 obtain⟨u,b,la,ln,lsh,ks,ss,ak,C,ds,nu,e,rfl,⟨lo,lf,ll,hu,hlo,hf,hl⟩,he,hb,fl,shb,ha,hn,len,akC,hP,c9,al,vr0,hs,s6,kok,sok,q⟩:=h
 refine⟨_,(z04 (z0p (i:=5) z2a.nd rfl (Or.inr rfl) z8p)
  (z04 (z1Y PassesOwn.never rfl (z1m (z0q (z3N T) (hr.mono (by decide)) rfl T.m__law_named T.F__law_named.kp T.b__law_named .nil z0K (z00 (pv 1) (z00 (pv 2) z07)))) (z0s (i:=6) z2a.nd rfl (Or.inl rfl))
  (z05 (z2L (hr.one) (pv 5) (pv 6) z03 rfl)))
  (z04 (z1Y PassesOwn.never rfl (z2C rfl T.z_range (z00 (z0n z0l rfl T.z_len PySem.boot_len (z00 (pv 2) z07)) z07)) (z0s (i:=7) z2a.nd rfl (Or.inl rfl))
  (z05 (z2L (hr.one) (pv 5) (z0j z1K (pv 2) (pv 7) (fun _ _=>rfl)) (z0g z0w (z0j z1K (pv 3) (pv 7) (fun _ _=>rfl)) (z0g z5E z03 z03)) rfl)))
  (z04 (z0v (PW.pt (z38 (z0b z47 (z0j z0d (pv 0) z03 (fun _ _=>rfl)) (z2x (z9P hr.units) (pv 1) (z0N z07) (z0h _)) (z0h _)) (z38 (z0b z47 (z0j z0d (pv 0) z03 (fun _ _=>rfl)) z03 (z0h _)) (z37 (z0b (z3J hr.units) (z0j z0d (pv 0) z03 (fun _ _=>rfl)) (z0N z07) (z0h _)))))) (z05 (z0e z1n)) z0i)
  (z04 (z0v (z0b (z3J hr.units) (z0j z0d (pv 0) z03 (fun _ _=>rfl)) (z2M (k:=1) (Nc:=["_law_store"]) (js:=[]) (show z0J (z02 z0U) ["_law_found","_law_body","_law_asks","_law_numbers","_law_shelves","_law_worth","_law_name","_law_k"] _ 1 ["_law_store"] []from z0J.mk rfl (by decide +kernel) (by decide +kernel) (by decide +kernel) rfl (by decide +kernel)) rfl (z1m (pv 4)) (fun _ _ _ _ _=>(z0s (i:=0) (show List.Nodup (["_law_store"]:List Str)from by decide +kernel) rfl (Or.inl rfl))) (fun _ _ _ _ _=>z2p) (fun _ _ _ _ _=>(z0V (z00 (pv 0) (z00 (z0N z07) z07))))) (z0h _)) (z05 (z0e z1n)) z0i)
  (z05 (z0e (z2x (z9P hr.units) (z0j z0d (pv 0) z03 (fun _ _=>rfl)) (z2M (k:=1) (Nc:=["_law_name","_law_worth"]) (js:=[5]) (show z0J (z02 z0U) ["_law_found","_law_body","_law_asks","_law_numbers","_law_shelves","_law_worth","_law_name","_law_k"] _ 1 ["_law_name","_law_worth"] [5]from z0J.mk rfl (by decide +kernel) (by decide +kernel) (by decide +kernel) rfl (by decide +kernel)) rfl (z1m (z0n (z4m rfl) rfl T.z_sorted PyProof.Rows.Boot.«sorted» (z00 (pv 5) z07))) (fun _ _ _ _ _=>(z0s (i:=0) (show List.Nodup (["_law_name","_law_worth"]:List Str)from by decide +kernel) rfl (Or.inl rfl))) (fun _ _ _ _ _=>z2p) (fun _ _ _ _ _=>(z0V (z00 (pv 0) (z00 (z0j zdH (pv 1) (pv 0) (fun _ _=>rfl)) z07))))) (z0h _))))))))),?_⟩
 refine fun d hd=>?_
 have e1:=z0f.new hd (.dK [])
 refine⟨_,rfl,_,rfl,b,la,ds,ak,C,ss,rfl,hb.same e1,fl,e1 _ _ ha,akC,hP,c9,fun H2 l zs s2 nl hl2 vr=>⟨l,rfl,⟨_,SqL.of hl2⟩,?_⟩⟩
 have zz:zs=ks:=z2m vr.nd vr0.nd vr.so vr0.so fun z=>(vr.mem z).trans (vr0.mem z).symm
 subst zz
 have zC:∀z∈zs,z∈C:=fun z hm=>by
  rcases(vr.mem z).mp hm with hz|hz
  ·exact akC z hz
  ·obtain⟨x,hx,hz'⟩:=List.mem_flatMap.mp hz
   exact z39 (hP x hx) z hz'
 have zl:zs.length<=C.length:=z2T vr.nd zC
 have ld:l≠d:=fun z=>by rw[z,z01]at nl;cases nl
 refine z2j (K:=K) (a:=l) (xs:=zs.map V.str) (fun i σ H3=>∃v4 v5,σ=[some (.ref u),some (.ref b),some (.ref la),some (.ref ln),some (.ref lsh),some (.ref d),v4,v5]/\z0f H H3/\H3 l=some (.lst (zs.map V.str))/\H3 d=some (.dK (tab (zs.take i) fun _=>0))) ⟨_,_,rfl,e1.trans s2,hl2,s2 _ _ z01⟩ ?_ ?_ ?_
 ·rintro i σ H3 _ ⟨_,_,_,_,h,_⟩
  exact SqL.of h
 ·rintro i x σ H3 hx ⟨v4,v5,rfl,s3,l3,d3⟩
  rw[qL]at hx
  obtain⟨z,hz,rfl⟩:=Option.map_eq_some_iff.mp hx
  have il:i<zs.length:=(qi.mp hz).1
  refine⟨_,rfl,_,rfl,d,_,rfl,.inl ⟨_,.inr z,d3,rfl,by rw[z3Y,qR];exact z4L (by omega),rfl⟩,?_⟩
  have zn:z∉zs.take i:=fun hm=>by
   obtain⟨j,hj,ej⟩:=List.mem_take_iff_getElem.mp hm
   have:j=i:=z2u vr.nd (show zs[j]?=some z by rw[qf (by omega),ej]) hz
   omega
  refine⟨_,_,rfl,z0f.over s3 hd,by rw[z06 ld];exact l3,?_⟩
  rw[z01,z3F _ (z5S zn),qz,hz]
  simp[tab]
 rintro σ H3 ⟨v4,v5,rfl,s3,l3,d3⟩
 rw[qb,qO]at d3
 have begS:∀i z n,ak[i]?=some z->nu[i]?=some n->z2z ((ak.zip nu).take (i+1))=z6B (z2z ((ak.zip nu).take i)) z (n % 1000000000000000000000000000000):=fun i z n h1 h2=>by
  have hzip:(ak.zip nu)[i]?=some (z,n):=by rw[List.getElem?_zip_eq_some];exact⟨h1,h2⟩
  rw[qz,hzip]
  show z2z (_++[(z,n)])=_
  rw[z7s]
 refine⟨_,rfl,la,_,rfl,.inl (SqL.of (s3 _ _ ha)),_,rfl,by omega,by rw[qb];omega,?_⟩
 refine z3S (fun i σ H4=>∃v4 v5,σ=[some (.ref u),some (.ref b),some (.ref la),some (.ref ln),some (.ref lsh),some (.ref d),v4,v5]/\z0f H H4/\H4 d=some (.dK (tab zs (z2z ((ak.zip nu).take i))))) ⟨_,_,rfl,s3,d3⟩ ?_ ?_
 ·rintro i σ H4 hi ⟨v4,v5,rfl,s4,d4⟩
  have il:i<ak.length:=by
   rw[qb]at hi
   omega
  have hz:ak[i]?=some ak[i]:=qf il
  have hn':nu[i]?=some nu[i]:=qf (by omega)
  have zin:ak[i]∈zs:=(vr.mem _).mpr (.inl (List.getElem_mem il))
  refine⟨_,rfl,_,rfl,ln,_,_,_,rfl,rfl,SqL.of (s4 _ _ hn),by rw[Int.zero_add];exact z0A (by rw[qL,hn'];rfl),_,_,rfl,rfl,⟨by decide,by decide,by decide⟩,_,_,rfl,rfl,by rw[p30];decide,?_⟩
  rw[p30]
  refine⟨_,rfl,_,rfl,_,rfl,la,_,_,_,rfl,rfl,SqL.of (s4 _ _ ha),by rw[Int.zero_add];exact z0A (by rw[qL,hz];rfl),d,_,rfl,.inl ⟨_,.inr ak[i],d4,rfl,by rw[z3Y];exact z4L (by omega),rfl⟩,?_⟩
  rw[z5R vr.nd,show z2U zs ak[i]=zs from if_pos zin]
  exact⟨_,_,rfl,z0f.over s4 hd,by rw[z01,begS i _ _ hz hn']⟩
 rintro σ H4 ⟨v4,v5,rfl,s4,d4⟩
 rw[List.take_of_length_le (by rw[List.length_zip,qb];omega)]at d4
 obtain⟨ts,hts1,hts2,hts3⟩:=hf
 obtain⟨us,hus1,hus2,hus3⟩:=hl
 have at3:atI [V.bl e,.int ((0:Nat):Int),.ref lo,.ref lf,.ref ll] 3=some (.ref lf):=z0A (j:=3) rfl
 have at4:atI [V.bl e,.int ((0:Nat):Int),.ref lo,.ref lf,.ref ll] 4=some (.ref ll):=z0A (j:=4) rfl
 refine⟨_,rfl,u,_,_,_,rfl,rfl,SqT.of (s4 _ _ hu),z5g,_,rfl,qA _,fun n1 hn1=>?_⟩
 have e5:=z0f.new hn1 (.lst [])
 refine⟨_,_,((hb.same s4).same e5).dt,.lst (SqL.of z01) .nil,shb,z0B [],?_⟩
 rw[zbu,<- he]
 have s5:=s4.trans e5
 have d5:=e5 _ _ d4
 generalize upd H4 n1 (.lst [])=H5 at s5 d5 ⊢
 refine⟨rfl,_,rfl,z0X (by simp) ?_⟩
 refine⟨_,rfl,u,_,_,_,rfl,rfl,SqT.of (s5 _ _ hu),z8I,rfl,_,rfl,z0X (by simp) ?_⟩
 refine⟨_,rfl,u,_,_,_,rfl,rfl,SqT.of (s5 _ _ hu),z6D,qA _,fun n2 hn2=>?_⟩
 have e6:=z0f.new hn2 (.lst [])
 refine⟨_,_,.lst (SqL.of (e6 _ _ (s5 _ _ hlo))) (z13 _),.lst (SqL.of z01) .nil,z0B _,z0B [],_,rfl,z0X rfl ?_⟩
 have s6':=s5.trans e6
 have d6:=e6 _ _ d5
 generalize upd H5 n2 (.lst [])=H6 at s6' d6 ⊢
 refine⟨_,rfl,u,_,_,_,rfl,rfl,SqT.of (s6' _ _ hu),at4,_,rfl,lsh,rfl,⟨_,SqL.of (s6' _ _ hs)⟩,?_⟩
 refine z1A (K:=K) (a:=lsh) (xs:=ss.map V.str) (fun i ys σ H7=>(∃v,σ=[v])/\z0f H6 H7/\z1G K H7 ys (z7x (ss.take i) (Bg (z2z (ak.zip nu))))) ⟨⟨_,rfl⟩,z0f.refl _,.nil⟩ ?_ (z08 (m:=100) (by rw[qb];omega)) ?_ ?_ ?_
 ·rintro i ys σ H7 _ ⟨_,_,h⟩
  rw[h.len]
  unfold z7x
  rw[qb,qR]
  omega
 ·rintro i ys σ H7 ⟨_,s7,_⟩
  exact SqL.of (s7 _ _ (s6' _ _ hs))
 ·rintro i x ys σ H7 hx ⟨⟨v,rfl⟩,s7,hd7⟩
  rw[qL]at hx
  obtain⟨z,hz,rfl⟩:=Option.map_eq_some_iff.mp hx
  refine⟨_,rfl,qA _,fun n3 hn3=>⟨ln2,fun n4 hn4=>?_⟩⟩
  have f1:=z0f.new hn3 (.lst [])
  have f2:=z0f.new hn4 (.tup [.str z,.ref n3])
  refine⟨⟨_,rfl⟩,s7.trans (f1.trans f2),?_⟩
  rw[qz,hz]
  unfold z7x at hd7 ⊢
  rw[List.map_append]
  exact z1G.snoc (.tup (SqT.of z01) (.cons (.str z) (.cons (.lst (SqL.of (f2 _ _ z01)) .nil) .nil))) (hd7.same (f1.trans f2))
 rintro ys σ H7 ⟨_,s7,hd7⟩ lc hlc
 rw[qb,qO]at hd7
 have f3:=z0f.new hlc (.lst ys)
 have sA:=s6'.trans (s7.trans f3)
 have tells:z1G K (upd H7 lc (.lst ys)) (us.map V.ref) (z7x ss (Bg (z2z (ak.zip nu)))):=by
  refine zao (by unfold z7x;rw[qb,qb,hus2]) fun j v dd hv hdd=>?_
  rw[qL]at hv
  unfold z7x at hdd
  rw[qL]at hdd
  obtain⟨t,ht,rfl⟩:=Option.map_eq_some_iff.mp hv
  obtain⟨z,hz,rfl⟩:=Option.map_eq_some_iff.mp hdd
  obtain⟨x,x1,x2⟩:=hus3 j t z ht hz
  exact .tup (SqT.of (sA _ _ x1)) (.cons (.str z) (.cons (.lst (SqL.of (sA _ _ x2)) (z13 _)) .nil))
 refine⟨.list (z7x ss (Bg (z2z (ak.zip nu)))),.list (z7x ss (Bg (z2z (ak.zip nu)))),.lst (SqL.of (sA _ _ hus1)) tells,.lst (SqL.of z01) (hd7.same f3),z3u _ _ sok,z3u _ _ sok,?_⟩
 rw[SeqAt.eqv_refl _ (SeqAt.canLay_of_shaped (z3u _ _ sok))]
 refine⟨_,rfl,z0X rfl ?_⟩
 have d8:=(s7.trans f3) _ _ d6
 clear tells
 generalize upd H7 lc (.lst ys)=H8 at sA d8 ⊢
 refine⟨_,rfl,u,_,_,_,rfl,rfl,SqT.of (sA _ _ hu),at3,?_⟩
 refine⟨_,rfl,d,_,zs,rfl,d8,z8d _ _,by omega,fun lz zs2 hlz perm so2=>?_⟩
 have zz2:zs2=zs:=z2m (perm.nodup_iff.mpr vr.nd) vr.nd so2 vr.so fun z=>perm.mem_iff
 subst zz2
 have f4:=z0f.new hlz (.lst (zs2.map V.str))
 have v9:upd H8 lz (.lst (zs2.map V.str)) lz=_:=z01
 have d9:=f4 _ _ d8
 have sB:=sA.trans f4
 generalize upd H8 lz (.lst (zs2.map V.str))=H9 at v9 d9 sB ⊢
 refine⟨lz,rfl,⟨_,SqL.of v9⟩,?_⟩
 refine z1A (K:=K) (a:=lz) (xs:=zs2.map V.str) (fun i ys σ H10=>(∃v,σ=[v,some (.ref d)])/\z0f H9 H10/\z1G K H10 ys (z7w (zs2.take i) (z2z (ak.zip nu)))) ⟨⟨_,rfl⟩,z0f.refl _,.nil⟩ ?_ (z08 (m:=1000) (by rw[qb];omega)) ?_ ?_ ?_
 ·rintro i ys σ H10 _ ⟨_,_,h⟩
  rw[h.len]
  unfold z7w
  rw[qb,qR]
  omega
 ·rintro i ys σ H10 ⟨_,s10,_⟩
  exact SqL.of (s10 _ _ v9)
 ·rintro i x ys σ H10 hx ⟨⟨v,rfl⟩,s10,hd10⟩
  rw[qL]at hx
  obtain⟨z,hz,rfl⟩:=Option.map_eq_some_iff.mp hx
  refine⟨_,rfl,_,rfl,_,rfl,d,_,.inr z,_,rfl,s10 _ _ d9,rfl,z3X (qH hz),ln2,fun n5 hn5=>?_⟩
  have f5:=z0f.new hn5 (.tup [.str z,.int (z2z (ak.zip nu) z)])
  refine⟨⟨_,rfl⟩,s10.trans f5,?_⟩
  rw[qz,hz]
  unfold z7w at hd10 ⊢
  rw[List.map_append]
  exact z1G.snoc (.tup (SqT.of z01) (.cons (.str z) (.cons (.int _) .nil))) (hd10.same f5)
 rintro ys σ H10 ⟨_,s10,hd10⟩ ld2 hld2
 rw[qb,qO]at hd10
 have f6:=z0f.new hld2 (.lst ys)
 have sC:=sB.trans (s10.trans f6)
 have tells:z1G K (upd H10 ld2 (.lst ys)) (ts.map V.ref) (z7w zs2 (z2z (ak.zip nu))):=by
  refine zao (by unfold z7w;rw[qb,qb,hts2]) fun j v dd hv hdd=>?_
  rw[qL]at hv
  unfold z7w at hdd
  rw[qL]at hdd
  obtain⟨t,ht,rfl⟩:=Option.map_eq_some_iff.mp hv
  obtain⟨z,hz,rfl⟩:=Option.map_eq_some_iff.mp hdd
  exact .tup (SqT.of (sC _ _ (hts3 j t z ht hz))) (.cons (.str z) (.cons (.int _) .nil))
 refine⟨.list (z7w zs2 (z2z (ak.zip nu))),.list (z7w zs2 (z2z (ak.zip nu))),.lst (SqL.of (sC _ _ hts1)) tells,.lst (SqL.of z01) (hd10.same f6),z3s _ _ kok,z3s _ _ kok,?_⟩
 rw[SeqAt.eqv_refl _ (SeqAt.canLay_of_shaped (z3s _ _ kok))]
 exact q _ sC
theorem zba {B B':Bk}(h:One B B'):∃(X Y:Option Str),(∀z,some z≠X->B'.f z=B.f z)/\(∀s,some s≠Y->Rst B' s=Rst B s)/\(B'.o=B.o\/((∃v,B'.o=B.o++[v])/\X=none/\Y=none))/\(∀s,some s=Y->(∃v,Rst B' s=Rst B s++[v])\/(∃v,Rst B s=v::Rst B' s)):=by
 cases h with
 |set x h1 h2 h3=>exact⟨some x,none,fun z hz=>h1 z fun e=>hz (by rw[e]),fun s _=>h3 s,.inl h2,fun s hs=>by cases hs⟩
 |put so v h1 h2 h3 h4=>exact⟨none,some so,fun z _=>h1 z,fun s hs=>h3 s fun e=>hs (by rw[e]),.inl h2,fun s hs=>by cases hs;exact .inl ⟨v,h4⟩⟩
 |get so x v h1 h2 h3 h4=>exact⟨some x,some so,fun z hz=>h1 z fun e=>hz (by rw[e]),fun s hs=>h3 s fun e=>hs (by rw[e]),.inl h2,fun s hs=>by cases hs;exact .inr ⟨v,h4⟩⟩
 |give v h1 h2 h3=>exact⟨none,none,fun z _=>h1 z,fun s _=>h3 s,.inr ⟨⟨v,h2⟩,rfl,rfl⟩,fun s hs=>by cases hs⟩
theorem zdK (xs:List Int):PyData.eqv (.list (xs.map PyData.int)) (.list (xs.map PyData.int))=true:=SeqAt.eqv_refl _ (SeqAt.canLay_of_shaped (z0B xs))
theorem zeG {A' B':TS}{D:z9d}{σ:St}{H:Hp}(Pv:St->Hp->Prop) (hb:∀σ' H',Pv σ' H'->B' D σ' H') (ha:∀N:St->Hp->Prop,(∀σ' H',Pv σ' H'->N σ' H')->A' { D with nx:=N } σ H):ze3 A' B' D σ H:=ha _ hb
theorem zdT {v:V}{n:Nat}{B':TS}{D:z9d}{σ:St}{H:Hp}(h:B' D (σ.set n (some v)) H):ze3 (zdS (tC v) (z7Z n)) B' D σ H:=h
theorem z5u (T:Tx P w K mg a):z1B P w K mg base CX0 1 a._law_onward a.fd__law_onward ["_law_old","_law_new"] z5k:=by
 refine T.F__law_onward.ok z10 (fun vs H Q E h=>?_) (fun cdv A outer s H vs Q E hr h=>?_)
 ·obtain⟨_,_,_,_,_,_,_,_,_,rfl,_⟩:=h
  rfl
 obtain⟨u,v,ks,ss,e,B,B',k,n,rfl,⟨lo,lf,ll,hu,hlo,hf,hl⟩,⟨lo',lf',ll',hu',hlo',hf',hl'⟩,one,knd,snd,k6,s6,bk,n1,kok,q⟩:=h
 refine⟨_,(z04 (z0v (PW.pt (z38 (z0b z47 (z0j z0d (pv 1) z03 (fun _ _=>rfl)) (z0g z1Z (z0j z0d (pv 0) z03 (fun _ _=>rfl)) z03) (z0h _)) (z37 (z0M (z0j z0d (pv 0) z03 (fun _ _=>rfl)))))) (z05 (z0e z1n)) z0i)
  (z04 (z0p (i:=2) z10.nd rfl (Or.inl rfl) (z2x (z3J hr.units) (z0j z0d (pv 1) z03 (fun _ _=>rfl)) (z0j z0d (pv 0) z03 (fun _ _=>rfl)) (z0h _)))
  (z04 (z0v (PW.pt (z3m (z0M (pv 2)) (z2K (z0b (z3J hr.units) (z3g z41 (z0j z0d (pv 1) z03 (fun _ _=>rfl)) z4U (z3v (z72 z4f z03))) (z0j z0d (pv 0) z03 (fun _ _=>rfl)) (z0h _))))) (z05 (z0e z1n)) z0i)
  (z04 (z0p (i:=3) z10.nd rfl (Or.inl rfl) (z0n z0l rfl T.z_len PySem.boot_len (z00 (z2M (k:=1) (Nc:=["_law_k","_law_old","_law_new"]) (js:=[0,1]) (show z0J (z02 z1b) ["_law_old","_law_new","_law_more","_law_turned","_law_moved","_law_one","_law_other"] _ 1 ["_law_k","_law_old","_law_new"] [0,1]from z0J.mk rfl (by decide +kernel) (by decide +kernel) (by decide +kernel) rfl (by decide +kernel)) rfl (z2C rfl T.z_range (z00 (z0n z0l rfl T.z_len PySem.boot_len (z00 (z0j z0d (pv 0) z03 (fun _ _=>rfl)) z07)) z07)) (fun _ _ _ _ _=>(z0s (i:=0) (show List.Nodup (["_law_k","_law_old","_law_new"]:List Str)from by decide +kernel) rfl (Or.inl rfl))) (fun _ _ _ _ _=>(z9G (z0b (zct (K:=K) rfl hr.units) (z0j (z8y (K:=K) rfl) (z0j (z6t (K:=K) rfl) (pv 1) z03 (fun _ _=>rfl)) (pv 0) (fun _ _=>rfl)) (z0j (z8y (K:=K) rfl) (z0j (z6t (K:=K) rfl) (pv 2) z03 (fun _ _=>rfl)) (pv 0) (fun _ _=>rfl)) (z0h _)))) (fun _ _ _ _ _=>(pv 0))) z07)))
  (z04 (z0p (i:=4) z10.nd rfl (Or.inl rfl) z03)
  (z04 (z1Y PassesOwn.never rfl (z9K rfl T.z_zip (z00 (z0j z0d (pv 0) z03 (fun _ _=>rfl)) (z00 (z0j z0d (pv 1) z03 (fun _ _=>rfl)) z07))) (z5C rfl (z1H (z0s (i:=5) z10.nd rfl (Or.inl rfl)) (z1H (z0s (i:=6) z10.nd rfl (Or.inl rfl)) z46)))
  (z05 (z0v (z0b (z3J hr.units) (z0j z0d (pv 5) z03 (fun _ _=>rfl)) (z0j z0d (pv 6) z03 (fun _ _=>rfl)) (z0h _)) (z04 (z0p (i:=4) z10.nd rfl (Or.inl rfl) (z0g z1Z (pv 4) z03))
  (z05 (z0v (PW.pt (z3m (z0b (z3J hr.units) (z0j z0d (pv 5) z03 (fun _ _=>rfl)) (z3g z41 (z0j z0d (pv 6) z03 (fun _ _=>rfl)) z4U (z3v (z72 z4f z03))) (z0h _)) (z2K (PW.pt (z38 (z0b zbc (pv 3) z03 (z0h _)) (z37 (z0b (z3J hr.units) (z3g z41 (z0j z0d (pv 5) z03 (fun _ _=>rfl)) (z3v z03) z4U) (z0j z0d (pv 6) z03 (fun _ _=>rfl)) (z0h _)))))))) (z05 (z0e z1n)) z0i))) z0i)))
  (z04 (z0v (z0M (pv 2)) (z05 (z0e (z9N (z2x z0W (pv 4) z03 (z0h _)) (z8o (z2x z0W (pv 3) z03 (z0h _)))))) z0i)
  (z05 (z0e (z9N (z2x zcx (pv 4) z03 (z0h _)) (z8o (z2x zcx (pv 3) z03 (z0h _))))))))))))),?_⟩
 obtain⟨X,Y,vX,vY,vo,vs⟩:=zba one
 obtain⟨ts,hts1,hts2,hts3⟩:=hf
 obtain⟨us,hus1,hus2,hus3⟩:=hl
 obtain⟨ts',hts1',hts2',hts3'⟩:=hf'
 obtain⟨us',hus1',hus2',hus3'⟩:=hl'
 have at3:∀{x0 x1 x2 x3 x4:V},atI [x0,x1,x2,x3,x4] 3=some x3:=z0A (j:=3) rfl
 have at4:∀{x0 x1 x2 x3 x4:V},atI [x0,x1,x2,x3,x4] 4=some x4:=z0A (j:=4) rfl
 refine⟨_,rfl,v,_,_,_,rfl,rfl,SqT.of hu',z8I,_,rfl,u,_,_,_,rfl,rfl,SqT.of hu,z8I,_,_,rfl,rfl,rfl,_,rfl,z0X (by simp) ?_⟩
 refine⟨_,rfl,u,_,_,_,rfl,rfl,SqT.of hu,z5g,_,rfl,z0X rfl ?_⟩
 refine⟨_,rfl,v,_,_,_,rfl,rfl,SqT.of hu',z6D,_,rfl,u,_,_,_,rfl,rfl,SqT.of hu,z6D,_,_,.lst (SqL.of hlo') (z13 _),.lst (SqL.of hlo) (z13 _),z0B _,z0B _,?_⟩
 have hm:B'.o=B.o->(!PyData.eqv (.list (B'.o.map PyData.int)) (.list (B.o.map PyData.int)))=false:=fun z=>by rw[z,zdK];rfl
 generalize (!PyData.eqv (.list (B'.o.map PyData.int)) (.list (B.o.map PyData.int)))=mb at hm ⊢
 dsimp only[z7Z]
 refine zeG (fun σ' H1=>σ'=[some (.ref u),some (.ref v),some (.bl mb),none,none,none,none]/\z0f H H1) ?_ fun N go=>?_
 rotate_left
 ·cases mb with
  |false=>exact⟨_,rfl,_,rfl,z0X rfl (z0X rfl (go _ _ ⟨rfl,z0f.refl _⟩))⟩
  |true=>
   obtain⟨⟨w',ew⟩,_,_⟩:(∃w',B'.o=B.o++[w'])/\X=none/\Y=none:=by
    rcases vo with z|z
    ·have:=hm z
     cases this
    ·exact z
   refine⟨_,rfl,_,rfl,z1a rfl ?_⟩
   refine⟨_,rfl,v,_,_,_,rfl,rfl,SqT.of hu',z6D,_,rfl,_,rfl,lo',_,rfl,SqL.of hlo',fun l hl=>?_⟩
   have e1:=z0f.new hl (.lst (z6C (B'.o.map V.int) none (some (-1))))
   refine⟨_,rfl,u,_,_,_,rfl,rfl,SqT.of (e1 _ _ hu),z6D,.list (B.o.map PyData.int),.list (B.o.map PyData.int),?_,.lst (SqL.of (e1 _ _ hlo)) (z13 _),z0B _,z0B _,?_⟩
   ·refine .lst (SqL.of z01) ?_
    rw[z8G,ew,List.dropLast_concat]
    exact z13 _
   rw[zdK]
   exact⟨_,rfl,z0X rfl (go _ _ ⟨rfl,e1⟩)⟩
 rintro σ' H1 ⟨rfl,s1⟩
 refine⟨_,rfl,u,_,_,_,rfl,rfl,SqT.of (s1 _ _ hu),at3,lf,_,rfl,.inl (SqL.of (s1 _ _ hts1)),_,rfl,by omega,by rw[qb];omega,?_⟩
 have tl:((ts.map V.ref).length:Int).toNat=ks.length:=by rw[qb];omega
 refine z5I (fun i ys σ H2=>(∃w,σ=[w,some (.ref u),some (.ref v)])/\H2=H1/\ys.length<=1/\ys.length<=i/\((∀z∈ks.take i,some z≠X)->ys=[])) ⟨⟨_,rfl⟩,rfl,by simp,by simp,fun _=>rfl⟩ ?_ (z08 (m:=100) (by rw[qb];omega)) ?_ ?_
 ·rintro i ys σ H2 _ ⟨_,_,_,h,_⟩
  exact h
 ·rintro i ys σ H2 hi ⟨⟨w',rfl⟩,rfl,y1,y2,y3⟩
  have il:i<ks.length:=by omega
  have hz:ks[i]?=some ks[i]:=qf il
  have ht:ts[i]?=some (ts[i]'(by omega)):=qf _
  have ht':ts'[i]?=some (ts'[i]'(by omega)):=qf _
  have p1:=s1 _ _ (hts3 i _ _ ht hz)
  have p2:=s1 _ _ (hts3' i _ _ ht' hz)
  have ok:=kok ks[i] (List.getElem_mem il)
  refine⟨_,rfl,u,_,_,_,rfl,rfl,SqT.of (s1 _ _ hu),at3,_,rfl,lf,_,_,_,rfl,rfl,SqL.of (s1 _ _ hts1),z0A (by rw[qL,ht];rfl),_,rfl,v,_,_,_,rfl,rfl,SqT.of (s1 _ _ hu'),at3,_,rfl,lf',_,_,_,rfl,rfl,SqL.of (s1 _ _ hts1'),z0A (by rw[qL,ht'];rfl),_,_,.tup (SqT.of p1) (.cons (.str _) (.cons (.int _) .nil)),.tup (SqT.of p2) (.cons (.str _) (.cons (.int _) .nil)),z3t _ ok,z3t _ ok,?_⟩
  have same:some ks[i]≠X->(!PyData.eqv (.tuple [.str ks[i],.int (B.f ks[i])]) (.tuple [.str ks[i],.int (B'.f ks[i])]))=false:=fun z=>by
   rw[vX _ z,SeqAt.eqv_refl _ (SeqAt.canLay_of_shaped (z3t _ ok))]
   rfl
  generalize (!PyData.eqv (.tuple [.str ks[i],.int (B.f ks[i])]) (.tuple [.str ks[i],.int (B'.f ks[i])]))=bb at same ⊢
  have tk:ks.take (i+1)=ks.take i++[ks[i]]:=by rw[qz,hz];rfl
  cases bb with
  |false=>
   refine⟨_,rfl,z0X rfl ⟨⟨_,rfl⟩,rfl,y1,by omega,fun z=>y3 fun x hx=>z x (by rw[tk];exact List.mem_append_left _ hx)⟩⟩
  |true=>
   have ex:some ks[i]=X:=Decidable.byContradiction fun z=>by
    have:=same z
    cases this
   have y0:ys=[]:=y3 fun x hx z=>by
    rw[<- ex]at z
    cases z
    obtain⟨j,hj,ej⟩:=List.mem_take_iff_getElem.mp hx
    have:j=i:=z2u knd (show ks[j]?=some ks[i]by rw[qf (by omega),ej]) hz
    omega
   subst y0
   exact⟨_,rfl,z1a rfl ⟨_,rfl,⟨_,rfl⟩,rfl,by simp,by simp,fun z=>absurd ex (z ks[i] (by rw[tk];exact qP _ (List.mem_singleton.mpr rfl)))⟩⟩
 rintro ys σ H2 ⟨_,rfl,y1,_,y3⟩ lt hlt
 rw[tl,qO]at y3
 have e3:=z0f.new hlt (.lst ys)
 refine⟨lt,_,rfl,.inl (SqL.of z01),?_⟩
 have s3:=s1.trans e3
 generalize upd H2 lt (.lst ys)=H3 at s3 ⊢
 obtain⟨tn,etn,tn1,tn0⟩:∃tn:Int,tn=ys.length/\tn<=1/\(X=none->tn=0):=⟨_,rfl,by omega,fun z=>by rw[y3 fun x _ h=>by rw[z]at h;cases h];rfl⟩
 rw[<- etn]
 clear etn y3 y1
 dsimp only[z7Z]
 refine zdT ?_
 refine⟨_,rfl,u,_,_,_,rfl,rfl,SqT.of (s3 _ _ hu),at4,_,rfl,v,_,_,_,rfl,rfl,SqT.of (s3 _ _ hu'),at4,false,false,ll,ll',_,_,rfl,SqL.of (s3 _ _ hus1),SqL.of (s3 _ _ hus1'),?_⟩
 refine z80 (K:=K) (b1:=false) (b2:=false) (l1:=ll) (l2:=ll') (xs:=us.map V.ref) (ys:=us'.map V.ref) (fun i σ H4=>∃(mv:Int) (v5 v6:Option V),σ=[some (.ref u),some (.ref v),some (.bl mb),some (.int tn),some (.int mv),v5,v6]/\z0f H H4/\mv<=1/\((∀z∈ss.take i,some z≠Y)->mv=0)) ⟨0,_,_,rfl,s3,by decide,fun _=>rfl⟩ ?_ ?_ ?_
 ·rintro i σ H4 ⟨_,_,_,_,s4,_⟩
  exact⟨SqL.of (s4 _ _ hus1),SqL.of (s4 _ _ hus1')⟩
 ·rintro i x y σ H4 p hx hy ⟨mv,v5,v6,rfl,s4,m1,m0⟩ hp
  rw[qL]at hx hy
  obtain⟨t,ht,rfl⟩:=Option.map_eq_some_iff.mp hx
  obtain⟨t',ht',rfl⟩:=Option.map_eq_some_iff.mp hy
  have il:i<ss.length:=by
   have:=(qi.mp ht).1
   omega
  have hz:ss[i]?=some ss[i]:=qf il
  obtain⟨xl,x1,x2⟩:∃x,H t=some (.tup [.str ss[i],.ref x])/\H x=some (.lst ((Rst B ss[i]).map V.int)):=hus3 i t _ ht hz
  obtain⟨xl',x1',x2'⟩:∃x,H t'=some (.tup [.str ss[i],.ref x])/\H x=some (.lst ((Rst B' ss[i]).map V.int)):=hus3' i t' _ ht' hz
  have e5:=z0f.new hp (.tup [.ref t,.ref t'])
  have p5:upd H4 p (.tup [.ref t,.ref t']) p=_:=z01
  have s5:=s4.trans e5
  generalize upd H4 p (.tup [.ref t,.ref t'])=H5 at p5 s5 ⊢
  refine⟨p,_,rfl,SqT.of p5,rfl,_,_,rfl,_,_,rfl,rfl,?_⟩
  have tk:ss.take (i+1)=ss.take i++[ss[i]]:=by rw[qz,hz];rfl
  refine⟨_,rfl,t,_,_,_,rfl,rfl,SqT.of (s5 _ _ x1),z8I,_,rfl,t',_,_,_,rfl,rfl,SqT.of (s5 _ _ x1'),z8I,.list ((Rst B ss[i]).map PyData.int),.list ((Rst B' ss[i]).map PyData.int),.lst (SqL.of (s5 _ _ x2)) (z13 _),.lst (SqL.of (s5 _ _ x2')) (z13 _),z0B _,z0B _,?_⟩
  have same:some ss[i]≠Y->(!PyData.eqv (.list ((Rst B ss[i]).map PyData.int)) (.list ((Rst B' ss[i]).map PyData.int)))=false:=fun z=>by
   rw[vY _ z,zdK]
   rfl
  generalize (!PyData.eqv (.list ((Rst B ss[i]).map PyData.int)) (.list ((Rst B' ss[i]).map PyData.int)))=bb at same ⊢
  cases bb with
  |false=>exact⟨_,rfl,z0X rfl ⟨mv,_,_,rfl,s5,m1,fun z=>m0 fun x hx=>z x (by rw[tk];exact List.mem_append_left _ hx)⟩⟩
  |true=>
   have ex:some ss[i]=Y:=Decidable.byContradiction fun z=>by
    have:=same z
    cases this
   have y0:mv=0:=m0 fun x hx z=>by
    rw[<- ex]at z
    cases z
    obtain⟨j,hj,ej⟩:=List.mem_take_iff_getElem.mp hx
    have:j=i:=z2u snd (show ss[j]?=some ss[i]by rw[qf (by omega),ej]) hz
    omega
   subst y0
   refine⟨_,rfl,z1a rfl ?_⟩
   refine⟨_,rfl,_,_,rfl,rfl,?_⟩
   have fin:∀(H6:Hp) (v5 v6:Option V),z0f H H6->∃(mv:Int) (v5' v6':Option V),[some (V.ref u),some (.ref v),some (.bl mb),some (.int tn),some (.int (0+1)),v5,v6]=[some (.ref u),some (.ref v),some (.bl mb),some (.int tn),some (.int mv),v5',v6']/\z0f H H6/\mv<=1/\((∀z∈ss.take (i+1),some z≠Y)->mv=0):=fun H6 v5 v6 s6'=>⟨1,_,_,rfl,s6',by decide,fun z=>absurd ex (z ss[i] (by rw[tk];exact qP _ (List.mem_singleton.mpr rfl)))⟩
   refine⟨_,rfl,t,_,_,_,rfl,rfl,SqT.of (s5 _ _ x1),z8I,_,rfl,t',_,_,_,rfl,rfl,SqT.of (s5 _ _ x1'),z8I,_,rfl,_,rfl,xl',_,rfl,SqL.of (s5 _ _ x2'),fun l6 hl6=>?_⟩
   have e6:=z0f.new hl6 (.lst (z6C ((Rst B' ss[i]).map V.int) none (some (-1))))
   have v6':upd H5 l6 (.lst (z6C ((Rst B' ss[i]).map V.int) none (some (-1)))) l6=some (.lst ((Rst B' ss[i]).dropLast.map V.int)):=by rw[z01,z8G]
   have s6':=s5.trans e6
   refine⟨.list ((Rst B ss[i]).map PyData.int),.list ((Rst B' ss[i]).dropLast.map PyData.int),.lst (SqL.of (e6 _ _ (s5 _ _ x2))) (z13 _),.lst (SqL.of v6') (z13 _),z0B _,z0B _,?_⟩
   generalize upd H5 l6 (.lst (z6C ((Rst B' ss[i]).map V.int) none (some (-1))))=H6 at s6' ⊢
   rcases vs _ ex with⟨w',ew⟩|⟨w',ew⟩
   ·rw[ew,List.dropLast_concat,zdK]
    exact⟨_,rfl,z0X rfl (z0X rfl (fin _ _ _ s6'))⟩
   ·generalize (!PyData.eqv (.list ((Rst B ss[i]).map PyData.int)) (.list ((Rst B' ss[i]).dropLast.map PyData.int)))=b2
    cases b2 with
    |false=>exact⟨_,rfl,z0X rfl (z0X rfl (fin _ _ _ s6'))⟩
    |true=>
     refine⟨_,rfl,z1a rfl ?_⟩
     refine⟨_,rfl,_,_,rfl,rfl,_,rfl,z0X (decide_eq_false (by omega)) ?_⟩
     refine⟨_,rfl,t,_,_,_,rfl,rfl,SqT.of (s6' _ _ x1),z8I,_,rfl,xl,_,rfl,SqL.of (s6' _ _ x2),fun l7 hl7=>?_⟩
     have e7:=z0f.new hl7 (.lst (z6C ((Rst B ss[i]).map V.int) (some 1) none))
     have v7':upd H6 l7 (.lst (z6C ((Rst B ss[i]).map V.int) (some 1) none)) l7=some (.lst ((Rst B' ss[i]).map V.int)):=by
      rw[z01,z8F (Rst B ss[i]) (by decide),ew]
      rfl
     refine⟨_,rfl,t',_,_,_,rfl,rfl,SqT.of (e7 _ _ (s6' _ _ x1')),z8I,.list ((Rst B' ss[i]).map PyData.int),.list ((Rst B' ss[i]).map PyData.int),.lst (SqL.of v7') (z13 _),.lst (SqL.of (e7 _ _ (s6' _ _ x2'))) (z13 _),z0B _,z0B _,?_⟩
     rw[zdK]
     exact⟨_,rfl,z0X rfl (fin _ _ _ (s6'.trans e7))⟩
 rintro σ H4 ⟨mv,v5,v6,rfl,s4,m1,m0⟩
 rw[qb,qb,hus2,hus2',Nat.min_self,qO]at m0
 cases mb with
 |true=>
  obtain⟨_,x0,y0⟩:(∃w',B'.o=B.o++[w'])/\X=none/\Y=none:=by
   rcases vo with z|z
   ·have:=hm z
    cases this
   ·exact z
  have t0:=tn0 x0
  have mv0:=m0 fun z _ h=>by rw[y0]at h;cases h
  subst t0 mv0
  exact⟨_,rfl,_,rfl,z1a rfl ⟨_,rfl,rfl,_,rfl,z1a (by decide) ⟨_,rfl,rfl,q _ s4⟩⟩⟩
 |false=>
  refine⟨_,rfl,_,rfl,z0X rfl ⟨_,rfl,_,_,rfl,rfl,_,rfl,z1a (decide_eq_true m1) ⟨_,rfl,_,_,rfl,rfl,?_⟩⟩⟩
  rw[decide_eq_true tn1]
  exact q _ s4
theorem zd0.same {H H':Hp}(e:z0f H H') {p a0 a1 b ln:Addr}{ak:List Str}{nu:List Int}{ds:List z0c}{C ss:List Str}(h:zd0 H p a0 a1 b ln ak nu ds C ss):zd0 H' p a0 a1 b ln ak nu ds C ss:=
 ⟨e _ _ h.top,e _ _ h.h0,h.sto.same e,e _ _ h.hn,h.rl.same e,h.dp,h.fl,h.al,h.nl,h.akC,h.bo,h.c6,h.snd,h.s6,h.sl,h.kok,h.sok,h.shb⟩
theorem z6l (T:Tx P w K mg a):z1B P w K mg base CX0 45 a._law_asked a.fd__law_asked ["_law_program","_law_numbers","_law_most"] z63:=by
 refine T.F__law_asked.ok z2h (fun vs H Q E h=>?_) (fun cdv A outer s H vs Q E hr h=>?_)
 ·obtain⟨_,_,_,_,_,_,_,_,_,_,_,rfl,_⟩:=h
  rfl
 obtain⟨p,a0,a1,b,ln,m,ak,nu,ds,C,ss,rfl,G,m9,q⟩:=h
 refine⟨_,(z04 (z0p (i:=3) z2h.nd rfl (Or.inl rfl) z3I)
  (z04 (z0p (i:=4) z2h.nd rfl (Or.inl rfl) z3I)
  (z04 (z7K (iy:=3) (im:=4) (inn:=5) (z9Q T) (hr.mono (by decide)) rfl T.m_run T.F_run.kp T.b_run .nil z2h.nd rfl (Or.inl rfl) rfl (Or.inl rfl) rfl rfl rfl T.m_Starved T.ix_Starved (fun _=>(z00 (pv 0) (z00 (pv 1) (z00 (pv 2) z07)))))
  (z05 (z0e (z0V (z00 (pv 3) (z00 (pv 4) z07)))))))),?_⟩
 have al:=G.al
 have nl:=G.nl
 refine zdT (zdT ?_)
 refine zeG (fun σ' H1=>∃(fv pv:V) (S2:List Pf) (B2:Bk) (k2:Nat) (ks2:List Str),σ'=[some (.ref p),some (.ref ln),some (.int m),some fv,some pv,none]/\z0f H H1/\z2l m [⟨ds,none⟩] (Bg (z2z (ak.zip nu))) 0 S2 B2 k2/\zaL H1 fv pv m ks2 ss S2 B2 k2/\(fv=.non\/Vrs ak ds ks2)) ?_ fun N go=>?_
 ·rintro σ' H1 ⟨fv,pv,S2,B2,k2,ks2,rfl,s1,g,fnd,vr⟩
  refine⟨_,rfl,_,rfl,ln2,fun t ht=>?_⟩
  have e1:=z0f.new ht (.tup [fv,pv])
  refine q t fv pv S2 B2 k2 ks2 _ g ?_ vr (s1.trans e1) z01
  rcases fnd with h|⟨e,u,h1,h2,h3,h4⟩
  ·exact .inl h
  ·exact .inr ⟨e,u,h1,h2,h3,h4.same e1⟩
 ·refine⟨_,rfl,_,rfl,_,rfl,p,a0,a1,b,ln,m,ak,nu,ds,C,ss,rfl,G.top,G.h0,G.sto,G.hn,G.rl,G.dp,G.fl,G.al,by omega,G.akC,G.bo,by have:=G.c6;omega,G.snd,G.s6,G.sl,m9,fun B' k' S H' x g hu lt sm hx=>?_,fun e B' k' S H' t lo lf ll ks2 g he bk km sm ht h1 h2 vr2 h4=>?_⟩
  ·exact⟨a.C_Starved,x,_,rfl,rfl,T.s_Starved_Starved,T.g_Starved,hx,fun ea hea=>go _ _ ⟨.non,.int k',S,B',k',[],rfl,sm.trans (z0f.new hea _),g,.inl ⟨hu,lt,rfl,rfl⟩,.inl rfl⟩⟩
  ·exact go _ _ ⟨.ref t,.non,S,B',k',ks2,rfl,sm,g,.inr ⟨e,t,he,rfl,rfl,lo,lf,ll,ht,h1,h2,h4⟩,.inr vr2⟩
theorem zbg {m:Nat}{p:List Pf}{B0 B B':Bk}{S S':List Pf}{k k':Nat}{e:Bool}(g:z2l m p B0 0 S B k) (he:z9b e S k m) (bk:z4v B k) (g':z2l (m+1) p B0 0 S' B' k') (en:z2V (m+1) S' B' k'):
 (e=true/\S'=[]/\B'=B/\k'=k)\/(e=false/\S'=S/\B'=B/\k'=k/\k=m/\z3V B S)\/(e=false/\k'=k+1/\k=m/\One B B'):=by
 have gm:=g.mono (Nat.le_succ m)
 rcases he with⟨rfl,rfl⟩|⟨rfl,sp,rfl⟩
 ·obtain⟨h1,h2,h3⟩:=gm.one .all g' en
  exact .inl ⟨rfl,h1.symm,h2.symm,h3.symm⟩
 ·match S,sp with
  |⟨d::r,c⟩::q,_=>
   cases est:z2B B d r c q with
   |none=>
    obtain⟨h1,h2,h3⟩:=gm.one (.starved (Nat.lt_succ_self _) est) g' en
    exact .inr (.inl ⟨rfl,h1.symm,h2.symm,h3.symm,rfl,est⟩)
   |some r1=>
    obtain⟨p1,B1⟩:=r1
    obtain⟨S2,gp,h2⟩:=z2l.pops (m:=k+1) (k:=k+1) (B:=B1) p1
    have G:=gm.trans (.step (Nat.lt_succ_self _) est gp)
    have en2:z2V (k+1) S2 B1 (k+1):=by
     rcases h2 with rfl|⟨_,_,_,_,rfl⟩
     ·exact .all
     ·exact .spent (qh _)
    obtain⟨_,h3,h4⟩:=G.one en2 g' en
    exact .inr (.inr ⟨rfl,h4.symm,rfl,h3▸z9v bk est⟩)
theorem z7C {K:W.Frag}{H:Hp}{u:Addr}{ks ss:List Str}{e:Bool}{B:Bk}{k:Nat}(h:z2G H u ks ss e B k):Dt K H (.ref u) (zaW ks ss e B k):=by
 obtain⟨lo,lf,ll,hu,hlo,⟨ts,hts1,hts2,hts3⟩,⟨us,hus1,hus2,hus3⟩⟩:=h
 refine .tup (SqT.of hu) (.cons (.bl _) (.cons (.int _) (.cons (.lst (SqL.of hlo) (z13 _)) (.cons (.lst (SqL.of hts1) ?_) (.cons (.lst (SqL.of hus1) ?_) .nil)))))
 ·refine zao (by unfold z7w;rw[qb,qb,hts2]) fun j v dd hv hdd=>?_
  rw[qL]at hv
  unfold z7w at hdd
  rw[qL]at hdd
  obtain⟨t,ht,rfl⟩:=Option.map_eq_some_iff.mp hv
  obtain⟨z,hz,rfl⟩:=Option.map_eq_some_iff.mp hdd
  exact .tup (SqT.of (hts3 j t z ht hz)) (.cons (.str z) (.cons (.int _) .nil))
 ·refine zao (by unfold z7x;rw[qb,qb,hus2]) fun j v dd hv hdd=>?_
  rw[qL]at hv
  unfold z7x at hdd
  rw[qL]at hdd
  obtain⟨t,ht,rfl⟩:=Option.map_eq_some_iff.mp hv
  obtain⟨z,hz,rfl⟩:=Option.map_eq_some_iff.mp hdd
  obtain⟨x,x1,x2⟩:=hus3 j t z ht hz
  exact .tup (SqT.of x1) (.cons (.str z) (.cons (.lst (SqL.of x2) (z13 _)) .nil))
theorem z6j (T:Tx P w K mg a):z1B P w K mg base CX0 46 a._law_chain a.fd__law_chain ["_law_program","_law_numbers","_law_bound"] z61:=by
 refine T.F__law_chain.ok z0I (fun vs H Q E h=>?_) (fun cdv A outer s H vs Q E hr h=>?_)
 ·obtain⟨_,_,_,_,_,_,_,_,_,_,_,rfl,_⟩:=h
  rfl
 obtain⟨p,a0,a1,b,ln,m,ak,nu,ds,C,ss,rfl,G,m3,q⟩:=h
 refine⟨_,(z04 (z0p (i:=3) z0I.nd rfl (Or.inl rfl) (z0q (z3N T) (hr.mono (by decide)) rfl T.m__law_named T.F__law_named.kp T.b__law_named .nil z0K (z00 (z0j z0d (pv 0) z03 (fun _ _=>rfl)) (z00 (z0j z0d (pv 0) z03 (fun _ _=>rfl)) z07))))
  (z04 (z3f (i:=4) z0I.nd rfl (Or.inl rfl) (k:=1) (Nc:=["_law_store"]) (js:=[]) (show z0J (z02 z1r) ["_law_program","_law_numbers","_law_bound","_law_names_here","_law_shelves","_law_old","_law_hungry","_law_most","_law_new","_law_place"] _ 1 ["_law_store"] []from z0J.mk rfl (by decide +kernel) (by decide +kernel) (by decide +kernel) rfl (by decide +kernel)) rfl (z1m (z0j z0d (pv 0) z03 (fun _ _=>rfl))) (fun _ _ _ _ _=>(z0s (i:=0) (show List.Nodup (["_law_store"]:List Str)from by decide +kernel) rfl (Or.inl rfl))) (fun _ _ _ _ _=>z2p) (fun _ _ _ _ _=>(z0j (z6t (K:=K) rfl) (pv 0) z03 (fun _ _=>rfl))))
  (z04 (z0p (i:=5) z0I.nd rfl (Or.inl rfl) (z0q (z9Q T) (hr.mono (by decide)) rfl T.m_run T.F_run.kp T.b_run .nil zdm (z00 (pv 0) (z00 (pv 1) (z00 z03 z07)))))
  (z04 (z0v (z1s (z0M (z0q (z3o T) (hr.mono (by decide)) rfl T.m__law_formed T.F__law_formed.kp T.b__law_formed .nil z0K (z00 (pv 5) (z00 (pv 3) (z00 (pv 4) z07)))))) (z05 (z0e z1n)) z0i)
  (z04 (z0v (z1s (z0M (z0q (z5v T) (hr.mono (by decide)) rfl T.m__law_begins T.F__law_begins.kp T.b__law_begins .nil z0K (z00 (pv 5) (z00 (z0j z0d (pv 0) z03 (fun _ _=>rfl)) (z00 (z0j z0d (pv 0) z03 (fun _ _=>rfl)) (z00 (pv 1) (z00 (pv 4) z07)))))))) (z05 (z0e z1n)) z0i)
  (z04 (z0p (i:=6) z0I.nd rfl (Or.inl rfl) z3I)
  (z04 (z1Y PassesOwn.never rfl (z9L rfl T.z_range (z00 z03 (z00 (z0g z1Z (pv 2) z03) z07))) (z0s (i:=7) z0I.nd rfl (Or.inl rfl))
  (z04 (zdi (z0q (z6l T) (hr.mono (by decide)) rfl T.m__law_asked T.F__law_asked.kp T.b__law_asked .nil z0K (z00 (pv 0) (z00 (pv 1) (z00 (pv 7) z07)))) (z5C rfl (z1H (z0s (i:=8) z0I.nd rfl (Or.inl rfl)) (z1H (z0s (i:=9) z0I.nd rfl (Or.inl rfl)) z46))))
  (z05 (z0v (z0b zdu (pv 8) z3I (z0h _)) (z04 (z0v (PW.pt (z38 (z1s (z0M (z0q (z2N T) (hr.mono (by decide)) rfl T.m__law_whole T.F__law_whole.kp T.b__law_whole .nil z0K (z00 (pv 9) z07)))) (z38 (z0M (z0j z0d (pv 5) z03 (fun _ _=>rfl))) (z37 (z0b z47 (pv 9) (z0j z0d (pv 5) z03 (fun _ _=>rfl)) (z0h _)))))) (z05 (z0e z1n)) z0i)
  (z05 (z0p (i:=6) z0I.nd rfl (Or.inl rfl) (pv 9)))) (z05 (z0v (PW.pt (z38 (z0b z9O (pv 6) z3I (z0h _)) (z37 (z1s (z0M (z0q (z3o T) (hr.mono (by decide)) rfl T.m__law_formed T.F__law_formed.kp T.b__law_formed .nil z0K (z00 (pv 8) (z00 (pv 3) (z00 (pv 4) z07))))))))) (z05 (z0e z1n)) (z05 (z0v (PW.pt (z3m (z0M (z0j z0d (pv 5) z03 (fun _ _=>rfl))) (z2K (z0b (z3J hr.units) (pv 8) (pv 5) (z0h _))))) (z05 (z0e z1n)) (z05 (z0v (PW.pt (z3m (z1s (z0M (z0j z0d (pv 5) z03 (fun _ _=>rfl)))) (z2K (z1s (z0M (z0q (z5u T) (hr.mono (by decide)) rfl T.m__law_onward T.F__law_onward.kp T.b__law_onward .nil z0K (z00 (pv 5) (z00 (pv 8) z07)))))))) (z05 (z0e z1n)) (z05 (z0p (i:=5) z0I.nd rfl (Or.inl rfl) (pv 8)))))))))))))
  (z05 (z0e z1n))))))))),?_⟩
 have al:=G.al
 have nl:=G.nl
 have c6:=G.c6
 refine⟨_,rfl,p,_,_,_,rfl,rfl,SqT.of G.top,z6D,_,rfl,p,_,_,_,rfl,rfl,SqT.of G.top,z5g,b,a0,ds,ak,C,ss,rfl,G.rl,G.fl,G.h0,G.akC,G.bo,by omega,fun H1 lk ks s1 nlk hlk vr=>?_⟩
 have G1:=G.same s1
 have ksC:∀x∈ks,x∈C:=fun z hm=>by
  rcases(vr.mem z).mp hm with hz|hz
  ·exact G.akC z hz
  ·obtain⟨x,hx,hz'⟩:=List.mem_flatMap.mp hz
   exact z39 (G.bo x hx) z hz'
 have ks6:ks.length<=6:=qG (z2T vr.nd ksC) c6
 have kok:∀s∈ks,PyData.strOk s=true:=fun s hs=>G.kok s (ksC s hs)
 obtain⟨ts,ht1,ht2,ht3⟩:=G1.sto
 refine⟨_,rfl,p,_,_,_,rfl,rfl,SqT.of G1.top,z8I,a1,rfl,⟨_,SqL.of ht1⟩,?_⟩
 have s6:=G.s6
 refine z1A (K:=K) (a:=a1) (xs:=ts.map V.ref) (fun i ys σ H2=>(∃v,σ=[v])/\H2=H1/\ys=(ss.take i).map V.str) ⟨⟨_,rfl⟩,rfl,rfl⟩ ?_ (z08 (m:=100) (by rw[qb];omega)) ?_ ?_ ?_
 ·rintro i ys σ H2 _ ⟨_,_,rfl⟩
  rw[qb,qR]
  omega
 ·rintro i ys σ H2 ⟨_,rfl,_⟩
  exact SqL.of ht1
 ·rintro i x ys σ H2 hx ⟨⟨v,rfl⟩,rfl,rfl⟩
  rw[qL]at hx
  obtain⟨t,ht,rfl⟩:=Option.map_eq_some_iff.mp hx
  have il:i<ss.length:=by
   have:=(qi.mp ht).1
   omega
  have hs:ss[i]?=some ss[i]:=qf il
  obtain⟨c,hc⟩:=ht3 i t _ ht hs
  refine⟨_,rfl,t,_,_,_,rfl,rfl,SqT.of hc,z5g,⟨_,rfl⟩,rfl,?_⟩
  rw[qz,hs,List.map_append]
  rfl
 rintro ys σ H2 ⟨_,rfl,rfl⟩ lsh hlsh
 rw[qb,ht2,qO]
 have e2:=z0f.new hlsh (.lst (ss.map V.str))
 have sh2:upd H2 lsh (.lst (ss.map V.str)) lsh=_:=z01
 have s2:=s1.trans e2
 have lk2:=e2 _ _ hlk
 clear ht1 ht2 ht3
 generalize upd H2 lsh (.lst (ss.map V.str))=H3 at sh2 s2 lk2 ⊢
 have G3:=G.same s2
 have pil:z3T C ss [⟨ds,none⟩]:=z3T.cons G.bo (fun y hy=>by simp at hy)
 have bk0':z4v (Bg (z2z (ak.zip nu))) 0:=zdN (zaG _)
 have outs0:∀v∈(Bg (z2z (ak.zip nu))).o,OnW v:=fun v hv=>by simp[Bg]at hv
 refine⟨_,rfl,_,rfl,p,a0,a1,b,ln,0,ak,nu,ds,C,ss,rfl,G3.top,G3.h0,G3.sto,G3.hn,G3.rl,G3.dp,G3.fl,G3.al,by omega,G3.akC,G3.bo,by omega,G3.snd,G3.s6,G3.sl,by decide,fun B' k' S H' x g hu lt sm hx=>absurd lt (Nat.not_lt_zero _),fun e B' k' S H4 t lo lf ll ks2 g he bk km s4 ht h1 h2 vr2 h4=>?_⟩
 have kk:ks2=ks:=z2m vr2.nd vr.nd vr2.so vr.so fun z=>(vr2.mem z).trans (vr.mem z).symm
 subst kk
 have T4:z2G H4 t ks2 ss e B' k':=⟨lo,lf,ll,ht,h1,h2,h4⟩
 have k0:k'=0:=by omega
 subst k0
 have nostep:B'=Bg (z2z (ak.zip nu))/\e=ds.isEmpty:=by
  obtain⟨S2,gp,hS⟩:=z2l.pops (m:=0) (k:=0) (B:=Bg (z2z (ak.zip nu))) [⟨ds,none⟩]
  have en2:z2V 0 S2 (Bg (z2z (ak.zip nu))) 0:=by
   rcases hS with rfl|⟨_,_,_,_,rfl⟩
   ·exact .all
   ·exact .spent (qh _)
  obtain⟨hA,hB,_⟩:=g.one (z82 he) gp en2
  refine⟨hB,?_⟩
  cases ds with
  |nil=>
   have:S=[]:=by
    rw[hA]
    cases gp with
    |refl=>rcases hS with h|⟨_,_,_,_,h⟩<;>cases h
    |pop gq=>cases gq;rfl
   rcases he with⟨rfl,_⟩|⟨_,h,_⟩
   ·rfl
   ·rw[this]at h
    exact h.elim
  |cons d r=>
   have:S=[⟨d::r,none⟩]:=by
    rw[hA]
    cases gp with
    |refl=>rfl
    |step lt _ _=>exact absurd lt (Nat.not_lt_zero _)
   rcases he with⟨_,h⟩|⟨rfl,_,_⟩
   ·rw[this]at h
    cases h
   ·rfl
 obtain⟨rfl,ee⟩:=nostep
 refine⟨_,rfl,_,rfl,_,rfl,t,lk,lsh,ks2,ss,e,_,0,rfl,T4,s4 _ _ lk2,s4 _ _ sh2,ks6,s6,bk,by decide,outs0,fun H5 s5=>⟨_,rfl,z0X rfl ?_⟩⟩
 have s45:=s4.trans s5
 have G5:=G3.same s45
 refine⟨_,rfl,_,rfl,p,_,_,_,rfl,rfl,SqT.of G5.top,z6D,_,rfl,p,_,_,_,rfl,rfl,SqT.of G5.top,z5g,_,rfl,_,rfl,t,b,a0,ln,lsh,ks2,ss,ak,C,ds,nu,e,rfl,T4.same s5,ee,G5.rl,G5.fl,G5.shb,G5.h0,G5.hn,nl,G5.akC,G5.bo,by omega,G5.al,vr,s45 _ _ sh2,s6,kok,G.sok,fun H6 s6'=>⟨_,rfl,z0X rfl ?_⟩⟩
 have s46:=s45.trans s6'
 dsimp only[z7Z]
 refine zdT ?_
 refine⟨_,rfl,_,_,rfl,rfl,1,(m:Int)+1,rfl,⟨by omega,by omega,by omega,by omega⟩,?_⟩
 refine z3S (fun i σ H7=>∃(hv:V) (u:Addr) (e:Bool) (S:List Pf) (B:Bk) (k i0:Nat) (v7 v8 v9:Option V),σ=[some (.ref p),some (.ref ln),some (.int m),some (.ref lk),some (.ref lsh),some (.ref u),some hv,v7,v8,v9]/\z0f H3 H7/\z2G H7 u ks2 ss e B k/\z2l i0 [⟨ds,none⟩] (Bg (z2z (ak.zip nu))) 0 S B k/\z9b e S k i0/\((hv=.non/\i0=i)\/(hv=.int k/\e=false/\i0<i/\z3V B S))) ⟨.non,t,e,S,_,0,0,_,_,_,rfl,s46,T4.same (s5.trans s6'),g,he,.inl ⟨rfl,rfl⟩⟩ ?_ ?_
 ·rintro i σ H7 hi ⟨hv,u,e,S,B,k,i0,v7,v8,v9,rfl,s7,T7,g7,he7,st⟩
  have i30:i<31:=by omega
  have G7:=G3.same s7
  have bk7:=(g7.ok pil bk0').2
  refine⟨_,rfl,_,rfl,_,rfl,p,a0,a1,b,ln,i+1,ak,nu,ds,C,ss,by rw[show(1:Int)+(i:Int)=((i+1:Nat):Int)by omega];rfl,G7,by omega,fun qa fv pv S' B' k' ks' H8 g8 fnd vr8 s8 hq=>?_⟩
  refine⟨qa,_,rfl,SqT.of hq,rfl,_,_,rfl,_,_,rfl,rfl,?_⟩
  have s78:=s7.trans s8
  have T8:=T7.same s8
  have en8:z2V (i+1) S' B' k':=by
   rcases fnd with⟨h1,h2,_⟩|⟨_,_,h1,_⟩
   ·exact z4c h1 h2
   ·exact z82 h1
  have cas:(fv=.non/\pv=.int k/\e=false/\z3V B S/\i0<i+1)\/(hv=.non/\i0=i/\∃e' u',z9b e' S' k' (i+1)/\fv=.ref u'/\z2G H8 u' ks' ss e' B' k'/\((e=true/\e'=true/\B'=B/\k'=k)\/(e=false/\k'=k+1/\One B B'))):=by
   rcases st with⟨h0,hi0⟩|⟨h0,ef,lt,hu⟩
   ·subst hi0
    rcases zbg g7 he7 bk7 g8 en8 with⟨e1,hS,hB,hk⟩|⟨e1,hS,hB,hk,hm,hu⟩|⟨e1,hk,hm,on⟩
    ·rcases fnd with⟨h1,_⟩|⟨e',u',h1,h2,_,h4⟩
     ·rw[hS]at h1
      exact h1.elim
     ·refine .inr ⟨h0,rfl,e',u',h1,h2,h4,.inl ⟨e1,?_,hB,hk⟩⟩
      rcases h1 with⟨x,_⟩|⟨_,x,_⟩
      ·exact x
      ·rw[hS]at x
       exact x.elim
    ·rcases fnd with⟨h1,h2,h3,h4⟩|⟨e',u',h1,_⟩
     ·exact .inl ⟨h3,by rw[h4,hk],e1,hu,Nat.lt_succ_self _⟩
     ·rw[hS]at h1
      exact(zan h1 hu (by omega)).elim
    ·rcases fnd with⟨h1,h2,_⟩|⟨e',u',h1,h2,_,h4⟩
     ·omega
     ·exact .inr ⟨h0,rfl,e',u',h1,h2,h4,.inr ⟨e1,hk,on⟩⟩
   ·have ki:k=i0:=by
     rcases he7 with⟨z,_⟩|⟨_,_,z⟩
     ·rw[ef]at z
      cases z
     ·exact z
    obtain⟨hS,hB,hk⟩:=(g7.mono (show i0<=i+1 by omega)).one (z4c hu (by omega)) g8 en8
    subst hS hB hk
    rcases fnd with⟨h1,h2,h3,h4⟩|⟨e',u',h1,_⟩
    ·exact .inl ⟨h3,h4,ef,hu,by omega⟩
    ·exact(zan h1 hu (by omega)).elim
  rcases cas with⟨rfl,rfl,rfl,hu,lt⟩|⟨rfl,hi0,e',u',h1,rfl,T',alt⟩
  ·have T8':=T8
   obtain⟨lo,lf,ll,hu8,_⟩:=T8'
   refine⟨_,rfl,rfl,_,rfl,z1a (by decide) ?_⟩
   refine⟨_,rfl,k,rfl,_,rfl,z0X rfl ?_⟩
   refine⟨_,rfl,u,_,_,_,rfl,rfl,SqT.of hu8,z5g,_,rfl,z0X rfl ?_⟩
   refine⟨_,rfl,_,rfl,u,_,_,_,rfl,rfl,SqT.of hu8,z8I,rfl,_,rfl,z0X (by simp) ?_⟩
   exact⟨_,rfl,.int k,u,false,S,B,k,i0,_,_,_,rfl,s78,T8,g7,he7,.inr ⟨rfl,rfl,lt,hu⟩⟩
  ·have vr8':Vrs ak ds ks':=by
    rcases vr8 with z|z
    ·cases z
    ·exact z
   have kk8:ks'=ks2:=z2m vr8'.nd vr.nd vr8'.so vr.so fun z=>(vr8'.mem z).trans (vr.mem z).symm
   subst kk8
   have bk8:=(g8.ok pil bk0').2
   have k8:=g8.most (qA _)
   refine⟨_,rfl,rfl,_,rfl,z0X (decide_eq_false fun z=>by cases z) ?_⟩
   refine⟨_,rfl,rfl,_,rfl,z0X (by decide) ?_⟩
   refine⟨_,rfl,_,rfl,_,rfl,u',lk,lsh,ks',ss,e',B',k',rfl,T',s78 _ _ lk2,s78 _ _ sh2,ks6,s6,bk8,by omega,g8.outs pil bk0' outs0,fun H9 s9=>⟨_,rfl,z0X rfl ?_⟩⟩
   have s79:=s78.trans s9
   have T9:=T'.same s9
   have O9:=T8.same s9
   have O9':=O9
   obtain⟨lo,lf,ll,hu9,_⟩:=O9'
   refine⟨_,rfl,u,_,_,_,rfl,rfl,SqT.of hu9,z5g,_,rfl,?_⟩
   rcases alt with⟨rfl,rfl,rfl,rfl⟩|⟨rfl,rfl,on⟩
   ·refine z1a rfl ⟨_,rfl,_,rfl,_,_,z7C T9,z7C O9,z2J _ _ _ _ _ kok G.sok,z2J _ _ _ _ _ kok G.sok,?_⟩
    rw[SeqAt.eqv_refl _ (SeqAt.canLay_of_shaped (z2J _ _ _ _ _ kok G.sok))]
    refine⟨_,rfl,z0X rfl ?_⟩
    refine⟨_,rfl,u,_,_,_,rfl,rfl,SqT.of hu9,z5g,_,rfl,z0X rfl (z0X rfl ?_)⟩
    exact⟨_,rfl,.non,u',true,S',_,_,i+1,_,_,_,rfl,s79,T9,g8,h1,.inl ⟨rfl,rfl⟩⟩
   ·refine z0X rfl (z0X rfl ?_)
    refine⟨_,rfl,u,_,_,_,rfl,rfl,SqT.of hu9,z5g,_,rfl,z1a rfl ?_⟩
    refine⟨_,rfl,_,rfl,u,u',ks',ss,e',B,B',k,k,rfl,O9,T9,on,vr.nd,G.snd,ks6,s6,bk7,by omega,kok,fun H10 s10=>⟨_,rfl,z0X rfl ?_⟩⟩
    exact⟨_,rfl,.non,u',e',S',B',k+1,i+1,_,_,_,rfl,s79.trans s10,T9.same s10,g8,h1,.inl ⟨rfl,rfl⟩⟩
 ·rintro σ H7 ⟨hv,u,e,S,B,k,i0,v7,v8,v9,rfl,s7,T7,g7,he7,st⟩
  exact q _ (s2.trans s7)
theorem zdM (xs:List V) {m:Int}(h:0<=m):z6C xs none (some m)=xs.take m.toNat:=by
 obtain⟨k,rfl⟩:=Int.eq_ofNat_of_zero_le h
 unfold z6C
 rw[HT.sIx_none,show(some (k:Int))=some ((k:Nat):Int)from rfl,HT.sIx_nat]
 show(xs.drop 0).take _=xs.take k
 rw[List.drop_zero,Nat.sub_zero]
 rcases Nat.le_total k xs.length with c|c
 ·rw[Nat.min_eq_left c]
 ·rw[Nat.min_eq_right c,List.take_of_length_le (qh _),List.take_of_length_le c]
theorem zaF {C S:List Str}{ds:List z0c}(h:BlX C S ds):zdP (sgL++(C++S)) ds:=fun d hd s hs=>by
 obtain⟨h1,h2⟩:=h d hd
 rw[qk,qk]
 cases d with
 |set x a sg b=>
  have e:s=x\/s∈a.names\/s=sg\/s∈b.names:=by
   simp only[z0c.strs,qB,qk,List.not_mem_nil,or_false]at hs
   rcases hs with h|h|h|h
   ·exact .inl h
   ·exact .inr (.inr (.inl h))
   ·exact .inr (.inl h)
   ·exact .inr (.inr (.inr h))
  rcases e with rfl|h|rfl|h
  ·exact .inr (.inl h1.1)
  ·exact .inr (.inl (h1.2.1.names s h))
  ·exact .inl h2
  ·exact .inr (.inl (h1.2.2.names s h))
 |put q x=>
  simp only[z0c.strs,qB,List.not_mem_nil,or_false]at hs
  rcases hs with rfl|rfl
  ·exact .inr (.inr h1.1)
  ·exact .inr (.inl h1.2)
 |get q x=>
  simp only[z0c.strs,qB,List.not_mem_nil,or_false]at hs
  rcases hs with rfl|rfl
  ·exact .inr (.inr h1.1)
  ·exact .inr (.inl h1.2)
 |give x=>
  simp only[z0c.strs,qB,List.not_mem_nil,or_false]at hs
  rw[hs]
  exact .inr (.inl h1)
 |cond x t o=>
  simp only[z0c.strs,qB,List.not_mem_nil,or_false]at hs
  rw[hs]
  exact .inr (.inl h1)
 |whl x b=>
  simp only[z0c.strs,qB,List.not_mem_nil,or_false]at hs
  rw[hs]
  exact .inr (.inl h1)
 |rep n b=>simp[z0c.strs]at hs
theorem zed:∀s∈sgL,PyData.strOk s=true:=by decide +kernel
theorem zam {x:Str}{f:z4E}(hf:¬ f x=0) (m:Nat):∀j:Nat,2 * j<=m->z2l m [⟨[.whl x [.give x]],none⟩] (Bg f) 0 [⟨[.whl x [.give x]],none⟩] { Bg f with o:=List.replicate j (f x) } (2 * j)
 |0,_=>.refl
 |j+1,h=>by
  refine(zam hf m j (by omega)).trans (.step (p1:=[⟨[.give x],none⟩,⟨[.whl x [.give x]],none⟩]) (B1:={ Bg f with o:=List.replicate j (f x) }) (by omega) ?_ (.step (p1:=[⟨[],none⟩,⟨[.whl x [.give x]],none⟩]) (B1:={ Bg f with o:=List.replicate (j+1) (f x) }) (by omega) ?_ (.pop ?_)))
  ·exact if_neg hf
  ·unfold z2B stp
   dsimp only[Bg]
   rw[List.replicate_succ']
   rfl
  ·rw[show 2 * (j+1)=2 * j+1+1 by omega]
   exact .refl
theorem zdy (T:Tx P w K mg a):z1B P w K mg base CX0 47 a.law a.fd_law ["_law_script"] (z8f K):=by
 refine T.F_law.ok z34 (fun vs H Q E h=>?_) (fun cdv A outer s H vs Q E hr h=>?_)
 ·obtain⟨_,_,rfl,_⟩:=h
  rfl
 obtain⟨sa,ns,rfl,hS,hl63,hbits,only,k⟩:=h
 refine⟨_,(z04 (z0p (i:=1) z34.nd rfl (Or.inr rfl) (z0q (z2O T) (hr.mono (by decide)) rfl T.m__law_mixed T.F__law_mixed.kp T.b__law_mixed .nil z0K (z00 (z0q (z2t T) (hr.mono (by decide)) rfl T.m__law_cell T.F__law_cell.kp T.b__law_cell .nil z0K (z00 (pv 0) (z00 z03 z07))) (z00 z03 z07))))
  (z04 (z0p (i:=2) z34.nd rfl (Or.inl rfl) (z0q (z3M T) (hr.mono (by decide)) rfl T.m__law_names T.F__law_names.kp T.b__law_names .nil z0K (z00 (z0q (z2t T) (hr.mono (by decide)) rfl T.m__law_cell T.F__law_cell.kp T.b__law_cell .nil z0K (z00 (pv 0) (z00 z03 z07))) (z00 (z0g z1Z z03 (z0g z0w (pv 1) z03)) z07))))
  (z04 (z0p (i:=3) z34.nd rfl (Or.inl rfl) (z0q (z3M T) (hr.mono (by decide)) rfl T.m__law_names T.F__law_names.kp T.b__law_names .nil z0K (z00 (z0q (z2t T) (hr.mono (by decide)) rfl T.m__law_cell T.F__law_cell.kp T.b__law_cell .nil z0K (z00 (pv 0) (z00 z03 z07))) (z00 (z0g z0w (z0g z0H (pv 1) z03) z03) z07))))
  (z04 (z0p (i:=4) z34.nd rfl (Or.inl rfl) (z3g z41 (pv 2) z4U (z3v (z0g z0w (z0g z0H (pv 1) z03) (z0g z1Z (z0n z0l rfl T.z_len PySem.boot_len (z00 (pv 2) z07)) z03)))))
  (z04 (z3f (i:=5) z34.nd rfl (Or.inl rfl) (k:=1) (Nc:=["_law_k","_law_script","_law_m"]) (js:=[0,1]) (show z0J (z02 z4s) ["_law_script","_law_m","_law_names_here","_law_shelves","_law_asks","_law_numbers","_law_body","_law_program","_law_x","_law_endless","_law_found"] _ 1 ["_law_k","_law_script","_law_m"] [0,1]from z0J.mk rfl (by decide +kernel) (by decide +kernel) (by decide +kernel) rfl (by decide +kernel)) rfl (z2C rfl T.z_range (z00 (z0n z0l rfl T.z_len PySem.boot_len (z00 (pv 4) z07)) z07)) (fun _ _ _ _ _=>(z0s (i:=0) (show List.Nodup (["_law_k","_law_script","_law_m"]:List Str)from by decide +kernel) rfl (Or.inl rfl))) (fun _ _ _ _ _=>z2p) (fun _ _ _ _ _=>(z0q (z3n T) (hr.mono (by decide)) rfl T.m__law_number T.F__law_number.kp T.b__law_number .nil z0K (z00 (z0g z1Z (z0q (z2t T) (hr.mono (by decide)) rfl T.m__law_cell T.F__law_cell.kp T.b__law_cell .nil z0K (z00 (pv 1) (z00 z03 z07))) (pv 0)) (z00 (z0g z1Z (z0g z0w (z0g z0H (pv 2) z03) z03) (pv 0)) z07)))))
  (z04 (z0p (i:=6) z34.nd rfl (Or.inl rfl) (z0q (z6i T) (hr.mono (by decide)) rfl T.m__law_grown T.F__law_grown.kp T.b__law_grown .nil z0K (z00 (z3g z41 (pv 0) (z3v z03) (z3v z03)) (z00 (pv 2) (z00 (pv 3) z07)))))
  (z04 (z0p (i:=7) z34.nd rfl (Or.inl rfl) (z0V (z00 (pv 4) (z00 (z2M (k:=1) (Nc:=["_law_store"]) (js:=[]) (show z0J (z02 z4s) ["_law_script","_law_m","_law_names_here","_law_shelves","_law_asks","_law_numbers","_law_body","_law_program","_law_x","_law_endless","_law_found"] _ 1 ["_law_store"] []from z0J.mk rfl (by decide +kernel) (by decide +kernel) (by decide +kernel) rfl (by decide +kernel)) rfl (z1m (pv 3)) (fun _ _ _ _ _=>(z0s (i:=0) (show List.Nodup (["_law_store"]:List Str)from by decide +kernel) rfl (Or.inl rfl))) (fun _ _ _ _ _=>z2p) (fun _ _ _ _ _=>(z0V (z00 (pv 0) (z00 z03 z07))))) (z00 (pv 6) z07)))))
  (z04 (z0v (z1s (z0M (z0q (z6j T) (hr.mono (by decide)) rfl T.m__law_chain T.F__law_chain.kp T.b__law_chain .nil z0K (z00 (pv 7) (z00 (pv 5) (z00 (z0g z1Z z03 (z0g z0w (z0g z0H (pv 1) z03) z03)) z07)))))) (z05 (z0e z1n)) z0i)
  (z04 (z0v (z0b z47 (z0g z0w (z0g z0H (pv 1) z03) z03) z03 (z0h _)) (z05 (z0e z1n)) z0i)
  (z04 (z0p (i:=8) z34.nd rfl (Or.inl rfl) (z0j z1K (pv 2) z03 (fun _ _=>rfl)))
  (z04 (z0p (i:=9) z34.nd rfl (Or.inl rfl) (z0V (z00 (z0N (z00 (pv 8) z07)) (z00 (z0N z07) (z00 (z0N (z00 (z0V (z00 z0x (z00 (pv 8) (z00 (z0N (z00 (z0V (z00 z0x (z00 (pv 8) z07))) z07)) z07)))) z07)) z07)))))
  (z04 (z0p (i:=10) z34.nd rfl (Or.inl rfl) (z0q (z9Q T) (hr.mono (by decide)) rfl T.m_run T.F_run.kp T.bd_run (show z19 [.int 5000] [.int 5000 a.dv_run]from .cons ⟨_,rfl⟩ .nil) zdm (z00 (pv 9) (z00 (z0N (z00 z03 z07)) z07))))
  (z05 (z0e (z2x (z9P hr.units) (pv 10) (z0V (z00 z1n (z00 z03 (z00 (z0g zdq (z0N (z00 z03 z07)) z03) (z00 (z0N (z00 (z0V (z00 (pv 8) (z00 z03 z07))) z07)) (z00 (z0N z07) z07)))))) (z0h _)))))))))))))))),?_⟩
 refine⟨_,rfl,sa,ns,0,rfl,hS,by decide,fun c0=>⟨_,_,rfl,⟨by decide,by decide⟩,fun m _ m0 m1=>?_⟩⟩
 refine⟨_,rfl,sa,ns,1,rfl,hS,by decide,fun c1=>⟨_,rfl,_,_,rfl,rfl,by decide,_,_,rfl,rfl,_,_,rfl,⟨by omega,by omega⟩,fun H1 ln zs s1 nln hln hzl hlow hnd hlen=>?_⟩⟩
 refine⟨_,rfl,sa,ns,2,rfl,s1.seq hS,by decide,fun c2=>⟨_,rfl,_,_,rfl,rfl,⟨by decide,by decide⟩,_,_,rfl,rfl,by decide,_,_,rfl,⟨by omega,by omega⟩,fun H2 lsh ss s2 nlsh hlsh hsl hslow hsnd hslen=>?_⟩⟩
 have ss6:ss.length<=6:=by omega
 have z0:0<zs.length:=by omega
 have z6:zs.length<=6:=by omega
 have hln2:=s2 _ _ hln
 have s02:=s1.trans s2
 refine⟨_,rfl,_,rfl,_,_,rfl,rfl,⟨by decide,by decide⟩,_,rfl,ln,_,rfl,.inl (SqL.of hln2),_,_,rfl,rfl,_,_,rfl,rfl,by omega,_,rfl,ln,_,rfl,SqL.of hln2,fun la hla=>?_⟩
 have it0:0<=m / 15 % (((zs.map V.str).length:Int)+1):=Int.emod_nonneg _ (by omega)
 rw[zdM _ it0,<- List.map_take]
 have akz:∀x∈zs.take (m / 15 % (((zs.map V.str).length:Int)+1)).toNat,x∈zs:=fun x hx=>List.mem_of_mem_take hx
 have akl:(zs.take (m / 15 % (((zs.map V.str).length:Int)+1)).toNat).length<=6:=by rw[qR];omega
 generalize zs.take (m / 15 % (((zs.map V.str).length:Int)+1)).toNat=ak at akz akl ⊢
 have e3:=z0f.new hla (.lst (ak.map V.str))
 have hla3:upd H2 la (.lst (ak.map V.str)) la=_:=z01
 have hln3:=e3 _ _ hln2
 have hlsh3:=e3 _ _ hlsh
 have s03:=s02.trans e3
 generalize upd H2 la (.lst (ak.map V.str))=H3 at e3 hla3 hln3 hlsh3 s03 ⊢
 refine⟨_,rfl,la,_,rfl,.inl (SqL.of hla3),_,rfl,by omega,by rw[qb];omega,?_⟩
 refine z5b (fun i ys σ H4=>(∃v,σ=[v,some (.ref sa),some (.int m)])/\H4=H3/\∃es:List Int,ys=es.map V.int/\es.length=i/\∀n∈es,OnW n) ⟨⟨none,rfl⟩,rfl,[],rfl,rfl,fun n h=>by simp at h⟩ ?_ (z08 (m:=100) (by rw[qb];omega)) ?_ ?_
 ·rintro i ys σ H4 _ ⟨_,_,es,rfl,h,_⟩
  rw[qb,h]
  exact qh _
 ·rintro i ys σ H4 hi ⟨⟨v,rfl⟩,rfl,es,rfl,hel,hon⟩
  have i6:(i:Int)<6+1:=by
   rw[qb]at hi
   omega
  refine⟨_,rfl,sa,ns,3,rfl,s03.seq hS,by decide,fun c3=>⟨_,rfl,_,_,rfl,rfl,_,rfl,_,_,rfl,rfl,⟨by decide,by decide⟩,_,_,rfl,rfl,by decide,_,rfl,_,_,rfl,rfl,_,_,rfl,⟨by omega,by omega⟩,?_⟩⟩
  refine⟨⟨_,rfl⟩,rfl,es++[_],by rw[List.map_append];rfl,by rw[qe,hel];rfl,fun n hn=>?_⟩
  rcases qk.mp hn with h|h
  ·exact hon n h
  ·rw[List.mem_singleton.mp h]
   exact z9W _ _
 rintro ys σ H4 ⟨_,rfl,nu,rfl,hnl,hon⟩ lnu hlnu
 have nul:nu.length=ak.length:=by
  rw[hnl,qb]
  omega
 clear hnl
 have e5:=z0f.new hlnu (.lst (nu.map V.int))
 have hnu5:upd H4 lnu (.lst (nu.map V.int)) lnu=_:=z01
 have hla5:=e5 _ _ hla3
 have hln5:=e5 _ _ hln3
 have hlsh5:=e5 _ _ hlsh3
 have s05:=s03.trans e5
 clear hla3 hln3 hlsh3 s03 hln2 hlsh e3
 generalize upd H4 lnu (.lst (nu.map V.int))=H5 at hnu5 hla5 hln5 hlsh5 s05 e5 ⊢
 obtain⟨es,ees,elen⟩:=zbz ns (some 4) (some 204)
 obtain⟨bX,bD,bF⟩:=zcO (ss:=ss) z0 es
 have bF3:(z0k (z87 zs ss es)).length<=300:=by omega
 refine⟨_,rfl,_,rfl,_,rfl,sa,_,rfl,s05.seq hS,fun le1 hle1=>?_⟩
 rw[ees]
 have f1:=z0f.new hle1 (.lst (es.map V.int))
 refine⟨_,rfl,_,rfl,le1,ln,lsh,es,zs,ss,rfl,z01,by omega,f1 _ _ hln5,f1 _ _ hlsh5,z0,fun H8 b s8 nb rl8=>?_⟩
 have s58:=f1.trans s8
 have hla8:=s58 _ _ hla5
 have hnu8:=s58 _ _ hnu5
 have hln8:=s58 _ _ hln5
 have hlsh8:=s58 _ _ hlsh5
 have s08:=s05.trans s58
 clear hla5 hnu5 hln5 hlsh5 s05 f1 s8
 generalize z87 zs ss es=ds at bX bD bF3 rl8
 have bO:z1W zs ss ds:=fun d hd=>(bX d hd).1
 have shb:SeqAt.shaped (.list (z2Y ds))=true:=by
  refine z6R (D:=sgL++(zs++ss)) (fun s hs=>?_) (zaF bX) bD
  rcases qk.mp hs with h|h
  ·exact zed s h
  ·rcases qk.mp h with h|h
   ·exact z7a (hlow s h)
   ·exact z7a (hslow s h)
 refine⟨_,rfl,_,rfl,lsh,rfl,⟨_,SqL.of hlsh8⟩,?_⟩
 refine z1A (K:=K) (a:=lsh) (xs:=ss.map V.str) (fun i ys σ H6=>(∃v,σ=[v])/\z0f H8 H6/\RSs H6 ys ((ss.take i).map fun s=>(s,2))) ⟨⟨_,rfl⟩,z0f.refl _,.nil⟩ ?_ (z08 (m:=100) (by rw[qb];omega)) ?_ ?_ ?_
 ·rintro i ys σ H6 hi ⟨_,_,h⟩
  rw[h.len,qb,qR]
  exact Nat.min_le_left _ _
 ·rintro i ys σ H6 ⟨_,s4,_⟩
  exact SqL.of (s4 _ _ hlsh8)
 ·rintro i x ys σ H6 hx ⟨⟨v,rfl⟩,s4,hr⟩
  rw[qL]at hx
  obtain⟨z,hzi,rfl⟩:=Option.map_eq_some_iff.mp hx
  refine⟨_,rfl,ln2,fun p4 hp4=>?_⟩
  refine⟨⟨_,rfl⟩,s4.trans (z0f.new hp4 _),?_⟩
  rw[qz,hzi,List.map_append]
  exact RSs.snoc z01 (hr.same (z0f.new hp4 _))
 rintro vs σ H6 ⟨_,s6,hr⟩ lst hlst
 rw[qb,qO]at hr
 have e9:=z0f.new hlst (.lst vs)
 have st9:upd H6 lst (.lst vs) lst=some (.lst vs):=z01
 have hr9:=hr.same e9
 have s9:=s6.trans e9
 clear hr
 generalize upd H6 lst (.lst vs)=H9 at st9 hr9 s9 ⊢
 refine⟨_,rfl,ln3,fun p hp=>?_⟩
 have e10:=z0f.new hp (.tup [.ref la,.ref lst,.ref b])
 have p10:upd H9 p (.tup [.ref la,.ref lst,.ref b]) p=_:=z01
 have s10:=s9.trans e10
 have hr10:=hr9.same e10
 have st10:=e10 _ _ st9
 generalize upd H9 p (.tup [.ref la,.ref lst,.ref b])=H10 at p10 s10 hr10 st10 ⊢
 have G:zd0 H10 p la lst b lnu ak nu ds zs ss:=⟨p10,s10 _ _ hla8,zcV hr10 st10,s10 _ _ hnu8,rl8.same s10,bD,bF3,by omega,nul.symm,akz,bO,z6,hsnd,ss6,hslen,fun s hs=>z7a (hlow s hs),fun s hs=>z7a (hslow s hs),shb⟩
 obtain⟨M,eM⟩:=Int.eq_ofNat_of_zero_le (show 0<=1+m / 450 % 24 by omega)
 refine⟨_,rfl,_,rfl,_,rfl,_,_,rfl,rfl,⟨by decide,by decide⟩,_,_,rfl,rfl,by decide,_,_,rfl,rfl,p,la,lst,b,lnu,M,ak,nu,ds,zs,ss,by rw[eM];rfl,G,by omega,fun H11 s11=>⟨_,rfl,z0X rfl ?_⟩⟩
 refine⟨_,rfl,_,_,rfl,rfl,⟨by decide,by decide⟩,_,_,rfl,rfl,by decide,rfl,_,rfl,z2X (fun _=>k _) (fun _=>?_)⟩
 have hz0:zs[0]?=some zs[0]:=qf z0
 have hln11:=s11 _ _ (s10 _ _ hln8)
 refine⟨_,rfl,ln,_,_,_,rfl,rfl,SqL.of hln11,z0A (j:=0) (by rw[qL,hz0];rfl),?_⟩
 have xlow:=hlow zs[0] (List.getElem_mem z0)
 generalize zs[0]=x at xlow ⊢
 have xok:=z7a xlow
 refine⟨_,rfl,ln1,fun q0 h0=>?_⟩
 have f0:=z0f.new h0 (.lst [.str x])
 have v0:upd H11 q0 (.lst [.str x]) q0=_:=z01
 generalize upd H11 q0 (.lst [.str x])=J0 at f0 v0 ⊢
 refine⟨qA _,fun q1 h1=>?_⟩
 have f1:=z0f.new h1 (.lst [])
 have v1:upd J0 q1 (.lst []) q1=_:=z01
 generalize upd J0 q1 (.lst [])=J1 at f1 v1 ⊢
 refine⟨_,rfl,_,rfl,ln2,fun q2 h2=>?_⟩
 have f2:=z0f.new h2 (.tup [.str "give",.str x])
 have v2:upd J1 q2 (.tup [.str "give",.str x]) q2=_:=z01
 generalize upd J1 q2 (.tup [.str "give",.str x])=J2 at f2 v2 ⊢
 refine⟨ln1,fun q3 h3=>?_⟩
 have f3:=z0f.new h3 (.lst [.ref q2])
 have v3:upd J2 q3 (.lst [.ref q2]) q3=_:=z01
 generalize upd J2 q3 (.lst [.ref q2])=J3 at f3 v3 ⊢
 refine⟨ln3,fun q4 h4=>?_⟩
 have f4:=z0f.new h4 (.tup [.str "while",.str x,.ref q3])
 have v4:upd J3 q4 (.tup [.str "while",.str x,.ref q3]) q4=_:=z01
 generalize upd J3 q4 (.tup [.str "while",.str x,.ref q3])=J4 at f4 v4 ⊢
 refine⟨ln1,fun q5 h5=>?_⟩
 have f5:=z0f.new h5 (.lst [.ref q4])
 have v5:upd J4 q5 (.lst [.ref q4]) q5=_:=z01
 generalize upd J4 q5 (.lst [.ref q4])=J5 at f5 v5 ⊢
 refine⟨ln3,fun q6 h6=>?_⟩
 have f6:=z0f.new h6 (.tup [.ref q0,.ref q1,.ref q5])
 have v6:upd J5 q6 (.tup [.ref q0,.ref q1,.ref q5]) q6=_:=z01
 generalize upd J5 q6 (.tup [.ref q0,.ref q1,.ref q5])=J6 at f6 v6 ⊢
 refine⟨_,rfl,ln1,fun q7 h7=>?_⟩
 have f7:=z0f.new h7 (.lst [.int 7])
 have v7:upd J6 q7 (.lst [.int 7]) q7=_:=z01
 generalize upd J6 q7 (.lst [.int 7])=J7 at f7 v7 ⊢
 have s57:=f6.trans f7
 have s47:=f5.trans s57
 have s37:=f4.trans s47
 have s27:=f3.trans s37
 have s17:=f2.trans s27
 have rl7:RL J7 q5 [.whl x [.give x]]:=.mk (s57 _ _ v5) (.cons (.whl (s47 _ _ v4) (.mk (s37 _ _ v3) (.cons (.give (s27 _ _ v2)) .nil))) .nil)
 have bx7:z1W [x] [] [.whl x [.give x]]:=fun d hd=>by
  simp[z0k,z0c.flat]at hd
  rcases hd with rfl|rfl
  ·exact List.mem_singleton.mpr rfl
  ·exact List.mem_singleton.mpr rfl
 have f7':z2z (([x]:List Str).zip [7]) x=7:=by
  show z6B (fun _=>0) x (7 % 1000000000000000000000000000000) x=7
  unfold z6B
  rw[if_pos rfl]
  rfl
 have run5:=zam (x:=x) (f:=z2z (([x]:List Str).zip [7])) (by rw[f7'];decide) 5000 2500 (by decide)
 rw[f7']at run5
 have end5:z2V 5000 [⟨[.whl x [.give x]],none⟩] { Bg (z2z (([x]:List Str).zip [7]))with o:=List.replicate 2500 7 } (2 * 2500):=.spent (by decide)
 refine⟨q6,q0,q1,q5,q7,5000,[x],[7],[.whl x [.give x]],[x],[],rfl,f7 _ _ v6,(f1.trans s17) _ _ v0,⟨[],s17 _ _ v1,rfl,fun j t s h=>by simp at h⟩,v7,rl7,by show 1<=12;decide,by show 2<=300;decide,by show 1<=300;decide,by decide,fun y hy=>hy,bx7,by show 1<64;decide,List.nodup_nil,by decide,fun s hs=>by simp at hs,by decide,fun B' k' S H' y g hu lt sm hy=>?_,fun e B' k' S H' t lo lf ll ks g he bk km sm ht h1 h2 vr h4=>?_⟩
 ·obtain⟨_,_,h⟩:=run5.one end5 g (z4c hu lt)
  omega
 obtain⟨hS,hB,hk⟩:=run5.one end5 g (z82 he)
 subst hS hB hk
 have ef:e=false:=by
  rcases he with⟨_,z⟩|⟨z,_⟩
  ·cases z
  ·exact z
 subst ef
 have kx:ks=[x]:=z2m vr.nd (by simp) vr.so rfl fun z=>by
  rw[vr.mem z]
  simp[z0k,z0c.flat,z0c.names]
 subst kx
 have T8:z2G H' t [x] [] false { Bg (z2z (([x]:List Str).zip [7]))with o:=List.replicate 2500 7 } (2 * 2500):=⟨lo,lf,ll,ht,h1,h2,h4⟩
 refine⟨_,rfl,ln1,fun r0 hr0=>⟨r0,2500,_,rfl,rfl,z01,by decide,by decide,z08 (m:=3000) (by decide),fun r1 hr1=>?_⟩⟩
 have g0:=z0f.new hr0 (.lst [.int 7])
 generalize upd H' r0 (.lst [.int 7])=L0 at g0 hr1 ⊢
 have g1:=z0f.new hr1 (.lst (List.replicate (2500:Int).toNat [V.int 7]).flatten)
 have w1:upd L0 r1 (.lst (List.replicate (2500:Int).toNat [V.int 7]).flatten) r1=some (.lst ((List.replicate 2500 (7:Int)).map V.int)):=by
  rw[z01,List.map_replicate,List.flatten_replicate_singleton]
  rfl
 generalize upd L0 r1 (.lst (List.replicate (2500:Int).toNat [V.int 7]).flatten)=L1 at g1 w1 ⊢
 refine⟨_,rfl,ln2,fun r2 hr2=>?_⟩
 have g2:=z0f.new hr2 (.tup [.str x,.int 7])
 have w2:upd L1 r2 (.tup [.str x,.int 7]) r2=_:=z01
 generalize upd L1 r2 (.tup [.str x,.int 7])=L2' at g2 w2 ⊢
 refine⟨ln1,fun r3 hr3=>?_⟩
 have g3:=z0f.new hr3 (.lst [.ref r2])
 have w3:upd L2' r3 (.lst [.ref r2]) r3=_:=z01
 generalize upd L2' r3 (.lst [.ref r2])=L3 at g3 w3 ⊢
 refine⟨qA _,fun r4 hr4=>?_⟩
 have g4:=z0f.new hr4 (.lst [])
 have w4:upd L3 r4 (.lst []) r4=_:=z01
 generalize upd L3 r4 (.lst [])=L4 at g4 w4 ⊢
 refine⟨ln5,fun r5 hr5=>?_⟩
 have g5:=z0f.new hr5 (.tup [.bl false,.int 5000,.ref r1,.ref r3,.ref r4])
 have w5:upd L4 r5 (.tup [.bl false,.int 5000,.ref r1,.ref r3,.ref r4]) r5=_:=z01
 generalize upd L4 r5 (.tup [.bl false,.int 5000,.ref r1,.ref r3,.ref r4])=L5 at g5 w5 ⊢
 have kok1:∀s∈[x],PyData.strOk s=true:=fun s hs=>by rw[List.mem_singleton.mp hs];exact xok
 have sh:=z2J [x] [] false { Bg (z2z (([x]:List Str).zip [7]))with o:=List.replicate 2500 7 } ((2 * 2500:Nat):Int) kok1 (fun s hs=>by simp at hs)
 have s25:=g3.trans (g4.trans g5)
 refine⟨_,zaW [x] [] false { Bg (z2z (([x]:List Str).zip [7]))with o:=List.replicate 2500 7 } ((2 * 2500:Nat):Int),z7C (T8.same (g0.trans (g1.trans (g2.trans s25)))),?_,sh,sh,?_⟩
 ·refine .tup (SqT.of w5) (.cons (.bl _) (.cons (.int _) (.cons (.lst (SqL.of ((g2.trans s25) _ _ w1)) (z13 _)) (.cons (.lst (SqL.of ((g4.trans g5) _ _ w3)) (.cons (.tup (SqT.of (s25 _ _ w2)) (.cons (.str x) (.cons ?_ .nil))) .nil)) (.cons (.lst (SqL.of (g5 _ _ w4)) .nil) .nil)))))
  show Dt K L5 (.int 7) (.int (z2z (([x]:List Str).zip [7]) x))
  rw[f7']
  exact .int _
 rw[SeqAt.eqv_refl _ (SeqAt.canLay_of_shaped sh)]
 exact k _
end
theorem zdO {l:W.OpenLaw}{w:World}{K:W.Frag}{h:Heap}{mg:Str->Option Value}{fa:Addr}(X:K.In h) (G:h.Ns mainGlobals mg) (hfa:mg "law"=some (.ref fa))
 (ua0:W.nsIn K mainGlobals "Queue"=some (some (.ref c_Queue)))
 (ua1:W.plainGet K c_Queue Str.empty=true)
 (ua2:W.hasDictIn K c_Queue=true)
 (ua3:W.plainOver K c_Queue=true)
 (ua4:W.findIn K (.ref c_Queue) "__setattr__"=some (some (.builtin "object.__setattr__")))
 (ua5:W.makesIn K c_Queue=true)
 (ua6:W.keepIn K (.ref c_Queue)=true)
 (ua7:W.findIn K (.ref c_Queue) "laid"=some none)
 (ua8:W.findIn K (.ref c_Queue) "gone"=some none)
 (ua9:W.nsIn K mainGlobals "Run"=some (some (.ref c_Run)))
 (uaa:W.plainGet K c_Run Str.empty=true)
 (uab:W.hasDictIn K c_Run=true)
 (uac:W.plainOver K c_Run=true)
 (uad:W.findIn K (.ref c_Run) "__setattr__"=some (some (.builtin "object.__setattr__")))
 (uae:W.makesIn K c_Run=true)
 (uaf:W.keepIn K (.ref c_Run)=true)
 (uag:W.findIn K (.ref c_Run) "numbers"=some none)
 (uah:W.findIn K (.ref c_Run) "queues"=some none)
 (uai:W.findIn K (.ref c_Run) "outs"=some none)
 (uaj:W.findIn K (.ref c_Run) "steps"=some none)
 (uak:W.findIn K (.ref c_Run) "most"=some none)
 (ual:W.nsIn K mainGlobals "FlowError"=some (some (.ref c_0)))
 (uam:W.nsIn K mainGlobals "Starved"=some (some (.ref c_6)))
 (uan:W.findIn K (.ref c_6) "__init__"=some (some (.ref f0)))
 (uao:W.isFn K (.ref f0)=true)
 (l0:K.lookup f0=some ⟨oc0,od0,.func (W.fnOf "__init__" "FlowError.__init__" (z0a z0E) (z09 z0E) (z02 z0E) .none kV0 dc0 pm0 an0 cd0 ct0),sl0⟩)
 (c0:W.codeIn K cd0 "FlowError.__init__"=true)
 (k0:W.keepIn K (.ref f0)=true)
 (q1:W.findIn K (.ref c_Queue) "__init__"=some (some (.ref f1)))
 (fn1:W.isFn K (.ref f1)=true)
 (l1:K.lookup f1=some ⟨oc1,od1,.func (W.fnOf "__init__" "Queue.__init__" (z0a z0T) (z09 z0T) (z02 z0T) .none kV1 dc1 pm1 an1 cd1 ct1),sl1⟩)
 (c1:W.codeIn K cd1 "Queue.__init__"=true)
 (k1:W.keepIn K (.ref f1)=true)
 (q2:W.findIn K (.ref c_Queue) "standing"=some (some (.ref f2)))
 (fn2:W.isFn K (.ref f2)=true)
 (l2:K.lookup f2=some ⟨oc2,od2,.func (W.fnOf "standing" "Queue.standing" (z0a z0S) (z09 z0S) (z02 z0S) .none kV2 dc2 pm2 an2 cd2 ct2),sl2⟩)
 (c2:W.codeIn K cd2 "Queue.standing"=true)
 (k2:W.keepIn K (.ref f2)=true)
 (q3:W.findIn K (.ref c_Queue) "lay"=some (some (.ref f3)))
 (fn3:W.isFn K (.ref f3)=true)
 (l3:K.lookup f3=some ⟨oc3,od3,.func (W.fnOf "lay" "Queue.lay" (z0a z25) (z09 z25) (z02 z25) .none kV3 dc3 pm3 an3 cd3 ct3),sl3⟩)
 (c3:W.codeIn K cd3 "Queue.lay"=true)
 (k3:W.keepIn K (.ref f3)=true)
 (q4:W.findIn K (.ref c_Queue) "take"=some (some (.ref f4)))
 (fn4:W.isFn K (.ref f4)=true)
 (l4:K.lookup f4=some ⟨oc4,od4,.func (W.fnOf "take" "Queue.take" (z0a z1T) (z09 z1T) (z02 z1T) .none kV4 dc4 pm4 an4 cd4 ct4),sl4⟩)
 (c4:W.codeIn K cd4 "Queue.take"=true)
 (k4:W.keepIn K (.ref f4)=true)
 (q5:W.findIn K (.ref c_Queue) "rest"=some (some (.ref f5)))
 (fn5:W.isFn K (.ref f5)=true)
 (l5:K.lookup f5=some ⟨oc5,od5,.func (W.fnOf "rest" "Queue.rest" (z0a z1U) (z09 z1U) (z02 z1U) .none kV5 dc5 pm5 an5 cd5 ct5),sl5⟩)
 (c5:W.codeIn K cd5 "Queue.rest"=true)
 (k5:W.keepIn K (.ref f5)=true)
 (a6:W.nsIn K mainGlobals "named"=some (some (.ref f6)))
 (l6:K.lookup f6=some ⟨oc6,od6,.func (W.fnOf "named" "named" (z0a z44) (z09 z44) (z02 z44) .none kV6 dc6 pm6 an6 cd6 ct6),sl6⟩)
 (c6:W.codeIn K cd6 "named"=true)
 (k6:W.keepIn K (.ref f6)=true)
 (a7:W.nsIn K mainGlobals "variables_of"=some (some (.ref f7)))
 (l7:K.lookup f7=some ⟨oc7,od7,.func (W.fnOf "variables_of" "variables_of" (z0a z1g) (z09 z1g) (z02 z1g) .none kV7 dc7 pm7 an7 cd7 ct7),sl7⟩)
 (c7:W.codeIn K cd7 "variables_of"=true)
 (k7:W.keepIn K (.ref f7)=true)
 (a8:W.nsIn K mainGlobals "all_deeds"=some (some (.ref f8)))
 (l8:K.lookup f8=some ⟨oc8,od8,.func (W.fnOf "all_deeds" "all_deeds" (z0a z22) (z09 z22) (z02 z22) .none kV8 dc8 pm8 an8 cd8 ct8),sl8⟩)
 (c8:W.codeIn K cd8 "all_deeds"=true)
 (k8:W.keepIn K (.ref f8)=true)
 (a9:W.nsIn K mainGlobals "blocks_within"=some (some (.ref f9)))
 (l9:K.lookup f9=some ⟨oc9,od9,.func (W.fnOf "blocks_within" "blocks_within" (z0a z15) (z09 z15) (z02 z15) .none kV9 dc9 pm9 an9 cd9 ct9),sl9⟩)
 (c9:W.codeIn K cd9 "blocks_within"=true)
 (k9:W.keepIn K (.ref f9)=true)
 (a10:W.nsIn K mainGlobals "names_in"=some (some (.ref f10)))
 (l10:K.lookup f10=some ⟨oc10,od10,.func (W.fnOf "names_in" "names_in" (z0a z21) (z09 z21) (z02 z21) .none kV10 dc10 pm10 an10 cd10 ct10),sl10⟩)
 (c10:W.codeIn K cd10 "names_in"=true)
 (k10:W.keepIn K (.ref f10)=true)
 (a11:W.nsIn K mainGlobals "done"=some (some (.ref f11)))
 (l11:K.lookup f11=some ⟨oc11,od11,.func (W.fnOf "done" "done" (z0a z5A) (z09 z5A) (z02 z5A) .none kV11 dc11 pm11 an11 cd11 ct11),sl11⟩)
 (c11:W.codeIn K cd11 "done"=true)
 (k11:W.keepIn K (.ref f11)=true)
 (a12:W.nsIn K mainGlobals "reckoned"=some (some (.ref f12)))
 (l12:K.lookup f12=some ⟨oc12,od12,.func (W.fnOf "reckoned" "reckoned" (z0a z2n) (z09 z2n) (z02 z2n) .none kV12 dc12 pm12 an12 cd12 ct12),sl12⟩)
 (c12:W.codeIn K cd12 "reckoned"=true)
 (k12:W.keepIn K (.ref f12)=true)
 (a13:W.nsIn K mainGlobals "beginnings"=some (some (.ref f13)))
 (l13:K.lookup f13=some ⟨oc13,od13,.func (W.fnOf "beginnings" "beginnings" (z0a z1p) (z09 z1p) (z02 z1p) .none kV13 dc13 pm13 an13 cd13 ct13),sl13⟩)
 (c13:W.codeIn K cd13 "beginnings"=true)
 (k13:W.keepIn K (.ref f13)=true)
 (q14:W.findIn K (.ref c_Run) "__init__"=some (some (.ref f14)))
 (uce:W.isFn K (.ref f14)=true)
 (l14:K.lookup f14=some ⟨oc14,od14,.func (W.fnOf "__init__" "Run.__init__" (z0a z11) (z09 z11) (z02 z11) .none kV14 dc14 pm14 an14 cd14 ct14),sl14⟩)
 (c14:W.codeIn K cd14 "Run.__init__"=true)
 (k14:W.keepIn K (.ref f14)=true)
 (q15:W.findIn K (.ref c_Run) "do_block"=some (some (.ref f15)))
 (ucj:W.isFn K (.ref f15)=true)
 (l15:K.lookup f15=some ⟨oc15,od15,.func (W.fnOf "do_block" "Run.do_block" (z0a z1l) (z09 z1l) (z02 z1l) .none kV15 dc15 pm15 an15 cd15 ct15),sl15⟩)
 (c15:W.codeIn K cd15 "Run.do_block"=true)
 (k15:W.keepIn K (.ref f15)=true)
 (q16:W.findIn K (.ref c_Run) "do_deed"=some (some (.ref f16)))
 (uco:W.isFn K (.ref f16)=true)
 (l16:K.lookup f16=some ⟨oc16,od16,.func (W.fnOf "do_deed" "Run.do_deed" (z0a z1z) (z09 z1z) (z02 z1z) .none kV16 dc16 pm16 an16 cd16 ct16),sl16⟩)
 (c16:W.codeIn K cd16 "Run.do_deed"=true)
 (k16:W.keepIn K (.ref f16)=true)
 (q17:W.findIn K (.ref c_Run) "do_if"=some (some (.ref f17)))
 (uct:W.isFn K (.ref f17)=true)
 (l17:K.lookup f17=some ⟨oc17,od17,.func (W.fnOf "do_if" "Run.do_if" (z0a z24) (z09 z24) (z02 z24) .none kV17 dc17 pm17 an17 cd17 ct17),sl17⟩)
 (c17:W.codeIn K cd17 "Run.do_if"=true)
 (k17:W.keepIn K (.ref f17)=true)
 (q18:W.findIn K (.ref c_Run) "do_while"=some (some (.ref f18)))
 (ucy:W.isFn K (.ref f18)=true)
 (l18:K.lookup f18=some ⟨oc18,od18,.func (W.fnOf "do_while" "Run.do_while" (z0a z1j) (z09 z1j) (z02 z1j) .none kV18 dc18 pm18 an18 cd18 ct18),sl18⟩)
 (c18:W.codeIn K cd18 "Run.do_while"=true)
 (k18:W.keepIn K (.ref f18)=true)
 (q19:W.findIn K (.ref c_Run) "do_repeat"=some (some (.ref f19)))
 (ud3:W.isFn K (.ref f19)=true)
 (l19:K.lookup f19=some ⟨oc19,od19,.func (W.fnOf "do_repeat" "Run.do_repeat" (z0a z17) (z09 z17) (z02 z17) .none kV19 dc19 pm19 an19 cd19 ct19),sl19⟩)
 (c19:W.codeIn K cd19 "Run.do_repeat"=true)
 (k19:W.keepIn K (.ref f19)=true)
 (q20:W.findIn K (.ref c_Run) "do_step"=some (some (.ref f20)))
 (ud8:W.isFn K (.ref f20)=true)
 (l20:K.lookup f20=some ⟨oc20,od20,.func (W.fnOf "do_step" "Run.do_step" (z0a z1y) (z09 z1y) (z02 z1y) .none kV20 dc20 pm20 an20 cd20 ct20),sl20⟩)
 (c20:W.codeIn K cd20 "Run.do_step"=true)
 (k20:W.keepIn K (.ref f20)=true)
 (q21:W.findIn K (.ref c_Run) "is_spent"=some (some (.ref f21)))
 (udd:W.isFn K (.ref f21)=true)
 (l21:K.lookup f21=some ⟨oc21,od21,.func (W.fnOf "is_spent" "Run.is_spent" (z0a z1h) (z09 z1h) (z02 z1h) .none kV21 dc21 pm21 an21 cd21 ct21),sl21⟩)
 (c21:W.codeIn K cd21 "Run.is_spent"=true)
 (k21:W.keepIn K (.ref f21)=true)
 (q22:W.findIn K (.ref c_Run) "do_plain"=some (some (.ref f22)))
 (udi:W.isFn K (.ref f22)=true)
 (l22:K.lookup f22=some ⟨oc22,od22,.func (W.fnOf "do_plain" "Run.do_plain" (z0a z1k) (z09 z1k) (z02 z1k) .none kV22 dc22 pm22 an22 cd22 ct22),sl22⟩)
 (c22:W.codeIn K cd22 "Run.do_plain"=true)
 (k22:W.keepIn K (.ref f22)=true)
 (q23:W.findIn K (.ref c_Run) "number_of"=some (some (.ref f23)))
 (udn:W.isFn K (.ref f23)=true)
 (l23:K.lookup f23=some ⟨oc23,od23,.func (W.fnOf "number_of" "Run.number_of" (z0a z16) (z09 z16) (z02 z16) .none kV23 dc23 pm23 an23 cd23 ct23),sl23⟩)
 (c23:W.codeIn K cd23 "Run.number_of"=true)
 (k23:W.keepIn K (.ref f23)=true)
 (q24:W.findIn K (.ref c_Run) "got_from"=some (some (.ref f24)))
 (uds:W.isFn K (.ref f24)=true)
 (l24:K.lookup f24=some ⟨oc24,od24,.func (W.fnOf "got_from" "Run.got_from" (z0a z1i) (z09 z1i) (z02 z1i) .none kV24 dc24 pm24 an24 cd24 ct24),sl24⟩)
 (c24:W.codeIn K cd24 "Run.got_from"=true)
 (k24:W.keepIn K (.ref f24)=true)
 (a25:W.nsIn K mainGlobals "run"=some (some (.ref f25)))
 (l25:K.lookup f25=some ⟨oc25,od25,.func (W.fnOf "run" "run" (z0a z6W) (z09 z6W) (z02 z6W) (.ref dt25) kV25 dc25 pm25 an25 cd25 ct25),sl25⟩)
 (udy:K.lookup dt25=some ⟨.type "tuple",dd25,.seq di25 dn25,de25⟩) (udz:di25=#[.int 5000 dv25])
 (c25:W.codeIn K cd25 "run"=true)
 (k25:W.keepIn K (.ref f25)=true)
 (a26:W.nsIn K mainGlobals "_law_cell"=some (some (.ref f26)))
 (l26:K.lookup f26=some ⟨oc26,od26,.func (W.fnOf "_law_cell" "_law_cell" (z0a z23) (z09 z23) (z02 z23) .none kV26 dc26 pm26 an26 cd26 ct26),sl26⟩)
 (c26:W.codeIn K cd26 "_law_cell"=true)
 (k26:W.keepIn K (.ref f26)=true)
 (a27:W.nsIn K mainGlobals "_law_mixed"=some (some (.ref f27)))
 (l27:K.lookup f27=some ⟨oc27,od27,.func (W.fnOf "_law_mixed" "_law_mixed" (z0a z1P) (z09 z1P) (z02 z1P) .none kV27 dc27 pm27 an27 cd27 ct27),sl27⟩)
 (c27:W.codeIn K cd27 "_law_mixed"=true)
 (k27:W.keepIn K (.ref f27)=true)
 (a28:W.nsIn K mainGlobals "_law_names"=some (some (.ref f28)))
 (l28:K.lookup f28=some ⟨oc28,od28,.func (W.fnOf "_law_names" "_law_names" (z0a z1q) (z09 z1q) (z02 z1q) .none kV28 dc28 pm28 an28 cd28 ct28),sl28⟩)
 (c28:W.codeIn K cd28 "_law_names"=true)
 (k28:W.keepIn K (.ref f28)=true)
 (a29:W.nsIn K mainGlobals "_law_number"=some (some (.ref f29)))
 (l29:K.lookup f29=some ⟨oc29,od29,.func (W.fnOf "_law_number" "_law_number" (z0a z1x) (z09 z1x) (z02 z1x) .none kV29 dc29 pm29 an29 cd29 ct29),sl29⟩)
 (c29:W.codeIn K cd29 "_law_number"=true)
 (k29:W.keepIn K (.ref f29)=true)
 (a30:W.nsIn K mainGlobals "_law_value"=some (some (.ref f30)))
 (l30:K.lookup f30=some ⟨oc30,od30,.func (W.fnOf "_law_value" "_law_value" (z0a z1N) (z09 z1N) (z02 z1N) .none kV30 dc30 pm30 an30 cd30 ct30),sl30⟩)
 (c30:W.codeIn K cd30 "_law_value"=true)
 (k30:W.keepIn K (.ref f30)=true)
 (a31:W.nsIn K mainGlobals "_law_simple"=some (some (.ref f31)))
 (l31:K.lookup f31=some ⟨oc31,od31,.func (W.fnOf "_law_simple" "_law_simple" (z0a z1v) (z09 z1v) (z02 z1v) .none kV31 dc31 pm31 an31 cd31 ct31),sl31⟩)
 (c31:W.codeIn K cd31 "_law_simple"=true)
 (k31:W.keepIn K (.ref f31)=true)
 (a32:W.nsIn K mainGlobals "_law_block"=some (some (.ref f32)))
 (l32:K.lookup f32=some ⟨oc32,od32,.func (W.fnOf "_law_block" "_law_block" (z0a z1R) (z09 z1R) (z02 z1R) .none kV32 dc32 pm32 an32 cd32 ct32),sl32⟩)
 (c32:W.codeIn K cd32 "_law_block"=true)
 (k32:W.keepIn K (.ref f32)=true)
 (a33:W.nsIn K mainGlobals "_law_opened"=some (some (.ref f33)))
 (l33:K.lookup f33=some ⟨oc33,od33,.func (W.fnOf "_law_opened" "_law_opened" (z0a z1w) (z09 z1w) (z02 z1w) .none kV33 dc33 pm33 an33 cd33 ct33),sl33⟩)
 (c33:W.codeIn K cd33 "_law_opened"=true)
 (k33:W.keepIn K (.ref f33)=true)
 (a34:W.nsIn K mainGlobals "_law_grown"=some (some (.ref f34)))
 (l34:K.lookup f34=some ⟨oc34,od34,.func (W.fnOf "_law_grown" "_law_grown" (z0a z1Q) (z09 z1Q) (z02 z1Q) .none kV34 dc34 pm34 an34 cd34 ct34),sl34⟩)
 (c34:W.codeIn K cd34 "_law_grown"=true)
 (k34:W.keepIn K (.ref f34)=true)
 (a35:W.nsIn K mainGlobals "_law_named"=some (some (.ref f35)))
 (l35:K.lookup f35=some ⟨oc35,od35,.func (W.fnOf "_law_named" "_law_named" (z0a z1O) (z09 z1O) (z02 z1O) .none kV35 dc35 pm35 an35 cd35 ct35),sl35⟩)
 (c35:W.codeIn K cd35 "_law_named"=true)
 (k35:W.keepIn K (.ref f35)=true)
 (a36:W.nsIn K mainGlobals "_law_whole"=some (some (.ref f36)))
 (l36:K.lookup f36=some ⟨oc36,od36,.func (W.fnOf "_law_whole" "_law_whole" (z0a z1M) (z09 z1M) (z02 z1M) .none kV36 dc36 pm36 an36 cd36 ct36),sl36⟩)
 (c36:W.codeIn K cd36 "_law_whole"=true)
 (k36:W.keepIn K (.ref f36)=true)
 (a37:W.nsIn K mainGlobals "_law_formed"=some (some (.ref f37)))
 (l37:K.lookup f37=some ⟨oc37,od37,.func (W.fnOf "_law_formed" "_law_formed" (z0a z1c) (z09 z1c) (z02 z1c) .none kV37 dc37 pm37 an37 cd37 ct37),sl37⟩)
 (c37:W.codeIn K cd37 "_law_formed"=true)
 (k37:W.keepIn K (.ref f37)=true)
 (a38:W.nsIn K mainGlobals "_law_begins"=some (some (.ref f38)))
 (l38:K.lookup f38=some ⟨oc38,od38,.func (W.fnOf "_law_begins" "_law_begins" (z0a z0U) (z09 z0U) (z02 z0U) .none kV38 dc38 pm38 an38 cd38 ct38),sl38⟩)
 (c38:W.codeIn K cd38 "_law_begins"=true)
 (k38:W.keepIn K (.ref f38)=true)
 (a39:W.nsIn K mainGlobals "_law_onward"=some (some (.ref f39)))
 (l39:K.lookup f39=some ⟨oc39,od39,.func (W.fnOf "_law_onward" "_law_onward" (z0a z1b) (z09 z1b) (z02 z1b) .none kV39 dc39 pm39 an39 cd39 ct39),sl39⟩)
 (c39:W.codeIn K cd39 "_law_onward"=true)
 (k39:W.keepIn K (.ref f39)=true)
 (a40:W.nsIn K mainGlobals "_law_asked"=some (some (.ref f40)))
 (l40:K.lookup f40=some ⟨oc40,od40,.func (W.fnOf "_law_asked" "_law_asked" (z0a z1S) (z09 z1S) (z02 z1S) .none kV40 dc40 pm40 an40 cd40 ct40),sl40⟩)
 (c40:W.codeIn K cd40 "_law_asked"=true)
 (k40:W.keepIn K (.ref f40)=true)
 (a41:W.nsIn K mainGlobals "_law_chain"=some (some (.ref f41)))
 (l41:K.lookup f41=some ⟨oc41,od41,.func (W.fnOf "_law_chain" "_law_chain" (z0a z1r) (z09 z1r) (z02 z1r) .none kV41 dc41 pm41 an41 cd41 ct41),sl41⟩)
 (c41:W.codeIn K cd41 "_law_chain"=true)
 (k41:W.keepIn K (.ref f41)=true)
 (a42:W.nsIn K mainGlobals "law"=some (some (.ref f42)))
 (l42:K.lookup f42=some ⟨oc42,od42,.func (W.fnOf "law" "law" (z0a z4s) (z09 z4s) (z02 z4s) .none kV42 dc42 pm42 an42 cd42 ct42),sl42⟩)
 (c42:W.codeIn K cd42 "law"=true)
 (k42:W.keepIn K (.ref f42)=true)
 (ufy:K.lookup c_6=some (excClassObj nm_6 q_6 c_6 N_6 bs_6 bm_6 true sn_6 su_6 ab_6 col_6 dd_6 k0_6 k1_6 k2_6 k3_6 k5_6 "ValueError.__new__"))
 (ufz:bm_6.contains (.type "ValueError")=true)
 (ug0:bm_6.contains (.type "BaseException")=true)
 (ug1:bm_6.contains (.type "object")=true)
 (ug2:bm_6.contains (.type "AttributeError")=false)
 (ug3:bm_6.contains (.type "NameError")=false)
 (ug4:∀self,refuseLoop self "__setattr__" bm_6=pure ())
 (ug5:W.findIn K (.ref c_6) "__setattr__"=some (some (.builtin "object.__setattr__")))
 (ug6:W.findIn K (.ref c_6) "place"=some none)
 (ug7:W.keepIn K (.ref c_6)=true)
 (ug8:W.findIn K (.ref c_6) "__getattribute__"=some (some (.builtin "BaseException.__getattribute__")))
 (ug9:W.findIn K (.ref c_6) "__getattr__"=some none)
 (uga:W.findIn K (.ref c_6) "__class__"=some (some (.builtin "object.__class__")))
 (ugb:(Value.ref c_6::bm_6).contains (.ref c_6)=true)
 (ugc:W.kitOne K (.ref c_6) (.ref c_0)=some true)
 (ugd:W.kitOne K (.ref c_6) (.ref c_6)=some true)
 (uge:W.kitOne K (.ref c_6) (.type "ValueError")=some true)
 (ugf:W.nsIn K mainGlobals "ValueError"=some none)
 (ugg:W.nsIn K mainGlobals "bool"=some none)
 (ugh:W.nsIn K mainGlobals "dict"=some none)
 (ugi:W.nsIn K mainGlobals "enumerate"=some none)
 (ugj:W.nsIn K mainGlobals "int"=some none)
 (ugk:W.nsIn K mainGlobals "isinstance"=some none)
 (ugl:W.nsIn K mainGlobals "len"=some none)
 (ugm:W.nsIn K mainGlobals "list"=some none)
 (ugn:W.nsIn K mainGlobals "range"=some none)
 (ugo:W.nsIn K mainGlobals "set"=some none)
 (ugp:W.nsIn K mainGlobals "sorted"=some none)
 (ugq:W.nsIn K mainGlobals "str"=some none)
 (ugr:W.nsIn K mainGlobals "tuple"=some none)
 (ugs:W.nsIn K mainGlobals "zip"=some none)
 (ugt:W.nsIn K mainGlobals "LOOPS"=some (some (.ref A_LOOPS))) (ugu:K.lookup A_LOOPS=some ⟨.type "tuple",d_LOOPS,.seq i_LOOPS n_LOOPS,e_LOOPS⟩) (ugv:i_LOOPS.size<=sizeLine/\z19 [.str "while",.str "repeat"] i_LOOPS.toList)
 (ugw:W.nsIn K mainGlobals "LOOKERS"=some (some (.ref A_LOOKERS))) (ugx:K.lookup A_LOOKERS=some ⟨.type "tuple",d_LOOKERS,.seq i_LOOKERS n_LOOKERS,e_LOOKERS⟩) (ugy:i_LOOKERS.size<=sizeLine/\z19 [.str "if",.str "while"] i_LOOKERS.toList)
 (ugz:W.nsIn K mainGlobals "WHEEL"=some (some (.int 1000000000000000000000000000000 tk_WHEEL))):
 ∃fd:FuncData,(∀(s:Shared) (v:Value),BindsTo s fd ⟨[v],[]⟩ [("_law_script",v)])/\∀base:Heap,K.In base->base.Ns mainGlobals mg->z1B l.prog w K mg base CX0 47 fa fd ["_law_script"] (z8f K):=by
 have e:=hfa.symm.trans (W.mg_of X G a42)
 cases e
 have F0:=z0z (st:=z0E) l0 c0 k0
 have b0:=F0.binds (ps:=["self","words","place"]) fun _ _ _ _ _ _ us hl=>match us,hl with|[_,_,_],_=>rfl
 have F1:=z0z (st:=z0T) l1 c1 k1
 have b1:=F1.binds (ps:=["self","things"]) fun _ _ _ _ _ _ us hl=>match us,hl with|[_,_],_=>rfl
 have F2:=z0z (st:=z0S) l2 c2 k2
 have b2:=F2.binds (ps:=["self"]) fun _ _ _ _ _ _ us hl=>match us,hl with|[_],_=>rfl
 have F3:=z0z (st:=z25) l3 c3 k3
 have b3:=F3.binds (ps:=["self","thing"]) fun _ _ _ _ _ _ us hl=>match us,hl with|[_,_],_=>rfl
 have F4:=z0z (st:=z1T) l4 c4 k4
 have b4:=F4.binds (ps:=["self"]) fun _ _ _ _ _ _ us hl=>match us,hl with|[_],_=>rfl
 have F5:=z0z (st:=z1U) l5 c5 k5
 have b5:=F5.binds (ps:=["self"]) fun _ _ _ _ _ _ us hl=>match us,hl with|[_],_=>rfl
 have F6:=z0z (st:=z44) l6 c6 k6
 have b6:=F6.binds (ps:=["block"]) fun _ _ _ _ _ _ us hl=>match us,hl with|[_],_=>rfl
 have F7:=z0z (st:=z1g) l7 c7 k7
 have b7:=F7.binds (ps:=["program"]) fun _ _ _ _ _ _ us hl=>match us,hl with|[_],_=>rfl
 have F8:=z0z (st:=z22) l8 c8 k8
 have b8:=F8.binds (ps:=["block"]) fun _ _ _ _ _ _ us hl=>match us,hl with|[_],_=>rfl
 have F9:=z0z (st:=z15) l9 c9 k9
 have b9:=F9.binds (ps:=["deed"]) fun _ _ _ _ _ _ us hl=>match us,hl with|[_],_=>rfl
 have F10:=z0z (st:=z21) l10 c10 k10
 have b10:=F10.binds (ps:=["deed"]) fun _ _ _ _ _ _ us hl=>match us,hl with|[_],_=>rfl
 have F11:=z0z (st:=z5A) l11 c11 k11
 have b11:=F11.binds (ps:=["sign","a","b"]) fun _ _ _ _ _ _ us hl=>match us,hl with|[_,_,_],_=>rfl
 have F12:=z0z (st:=z2n) l12 c12 k12
 have b12:=F12.binds (ps:=["sign","a","b"]) fun _ _ _ _ _ _ us hl=>match us,hl with|[_,_,_],_=>rfl
 have F13:=z0z (st:=z1p) l13 c13 k13
 have b13:=F13.binds (ps:=["program","numbers"]) fun _ _ _ _ _ _ us hl=>match us,hl with|[_,_],_=>rfl
 have F14:=z0z (st:=z11) l14 c14 k14
 have b14:=F14.binds (ps:=["self","numbers","stores","most"]) fun _ _ _ _ _ _ us hl=>match us,hl with|[_,_,_,_],_=>rfl
 have F15:=z0z (st:=z1l) l15 c15 k15
 have b15:=F15.binds (ps:=["self","block"]) fun _ _ _ _ _ _ us hl=>match us,hl with|[_,_],_=>rfl
 have F16:=z0z (st:=z1z) l16 c16 k16
 have b16:=F16.binds (ps:=["self","deed"]) fun _ _ _ _ _ _ us hl=>match us,hl with|[_,_],_=>rfl
 have F17:=z0z (st:=z24) l17 c17 k17
 have b17:=F17.binds (ps:=["self","name","then","other"]) fun _ _ _ _ _ _ us hl=>match us,hl with|[_,_,_,_],_=>rfl
 have F18:=z0z (st:=z1j) l18 c18 k18
 have b18:=F18.binds (ps:=["self","name","body"]) fun _ _ _ _ _ _ us hl=>match us,hl with|[_,_,_],_=>rfl
 have F19:=z0z (st:=z17) l19 c19 k19
 have b19:=F19.binds (ps:=["self","rounds","body"]) fun _ _ _ _ _ _ us hl=>match us,hl with|[_,_,_],_=>rfl
 have F20:=z0z (st:=z1y) l20 c20 k20
 have b20:=F20.binds (ps:=["self"]) fun _ _ _ _ _ _ us hl=>match us,hl with|[_],_=>rfl
 have F21:=z0z (st:=z1h) l21 c21 k21
 have b21:=F21.binds (ps:=["self"]) fun _ _ _ _ _ _ us hl=>match us,hl with|[_],_=>rfl
 have F22:=z0z (st:=z1k) l22 c22 k22
 have b22:=F22.binds (ps:=["self","deed"]) fun _ _ _ _ _ _ us hl=>match us,hl with|[_,_],_=>rfl
 have F23:=z0z (st:=z16) l23 c23 k23
 have b23:=F23.binds (ps:=["self","value"]) fun _ _ _ _ _ _ us hl=>match us,hl with|[_,_],_=>rfl
 have F24:=z0z (st:=z1i) l24 c24 k24
 have b24:=F24.binds (ps:=["self","store"]) fun _ _ _ _ _ _ us hl=>match us,hl with|[_,_],_=>rfl
 have F25:=zcK (st:=z6W) l25 c25 k25 udy udz
 have bd25:=F25.binds (ps:=["program","numbers","most"]) [.int 5000 dv25] fun _ _ _ _ _ _ _ _ _ _ us hg hd hl=>match us,(show us.length=2 from by simpa using hl)with|[_,_],_=>BindsTo.of_defaults rfl hg hd rfl rfl
 have b25:=F25.binds (ps:=["program","numbers","most"]) [] fun _ _ _ _ _ _ _ _ _ _ us hg hd hl=>match us,(show us.length=3 from by simpa using hl)with|[_,_,_],_=>BindsTo.of_defaults rfl hg hd rfl rfl
 have F26:=z0z (st:=z23) l26 c26 k26
 have b26:=F26.binds (ps:=["_law_script","_law_k"]) fun _ _ _ _ _ _ us hl=>match us,hl with|[_,_],_=>rfl
 have F27:=z0z (st:=z1P) l27 c27 k27
 have b27:=F27.binds (ps:=["_law_cell_here","_law_k"]) fun _ _ _ _ _ _ us hl=>match us,hl with|[_,_],_=>rfl
 have F28:=z0z (st:=z1q) l28 c28 k28
 have b28:=F28.binds (ps:=["_law_cell_here","_law_many"]) fun _ _ _ _ _ _ us hl=>match us,hl with|[_,_],_=>rfl
 have F29:=z0z (st:=z1x) l29 c29 k29
 have b29:=F29.binds (ps:=["_law_cell_here","_law_way"]) fun _ _ _ _ _ _ us hl=>match us,hl with|[_,_],_=>rfl
 have F30:=z0z (st:=z1N) l30 c30 k30
 have b30:=F30.binds (ps:=["_law_cell_here","_law_way","_law_names_here"]) fun _ _ _ _ _ _ us hl=>match us,hl with|[_,_,_],_=>rfl
 have F31:=z0z (st:=z1v) l31 c31 k31
 have b31:=F31.binds (ps:=["_law_cell_here","_law_m","_law_names_here","_law_shelves","_law_hidden"]) fun _ _ _ _ _ _ us hl=>match us,hl with|[_,_,_,_,_],_=>rfl
 have F32:=z0z (st:=z1R) l32 c32 k32
 have b32:=F32.binds (ps:=["_law_m","_law_x"]) fun _ _ _ _ _ _ us hl=>match us,hl with|[_,_],_=>rfl
 have F33:=z0z (st:=z1w) l33 c33 k33
 have b33:=F33.binds (ps:=["_law_deed","_law_m","_law_rows","_law_others","_law_hidden"]) fun _ _ _ _ _ _ us hl=>match us,hl with|[_,_,_,_,_],_=>rfl
 have F34:=z0z (st:=z1Q) l34 c34 k34
 have b34:=F34.binds (ps:=["_law_cells","_law_names_here","_law_shelves"]) fun _ _ _ _ _ _ us hl=>match us,hl with|[_,_,_],_=>rfl
 have F35:=z0z (st:=z1O) l35 c35 k35
 have b35:=F35.binds (ps:=["_law_body","_law_asks"]) fun _ _ _ _ _ _ us hl=>match us,hl with|[_,_],_=>rfl
 have F36:=z0z (st:=z1M) l36 c36 k36
 have b36:=F36.binds (ps:=["_law_found"]) fun _ _ _ _ _ _ us hl=>match us,hl with|[_],_=>rfl
 have F37:=z0z (st:=z1c) l37 c37 k37
 have b37:=F37.binds (ps:=["_law_found","_law_names_here","_law_shelves"]) fun _ _ _ _ _ _ us hl=>match us,hl with|[_,_,_],_=>rfl
 have F38:=z0z (st:=z0U) l38 c38 k38
 have b38:=F38.binds (ps:=["_law_found","_law_body","_law_asks","_law_numbers","_law_shelves"]) fun _ _ _ _ _ _ us hl=>match us,hl with|[_,_,_,_,_],_=>rfl
 have F39:=z0z (st:=z1b) l39 c39 k39
 have b39:=F39.binds (ps:=["_law_old","_law_new"]) fun _ _ _ _ _ _ us hl=>match us,hl with|[_,_],_=>rfl
 have F40:=z0z (st:=z1S) l40 c40 k40
 have b40:=F40.binds (ps:=["_law_program","_law_numbers","_law_most"]) fun _ _ _ _ _ _ us hl=>match us,hl with|[_,_,_],_=>rfl
 have F41:=z0z (st:=z1r) l41 c41 k41
 have b41:=F41.binds (ps:=["_law_program","_law_numbers","_law_bound"]) fun _ _ _ _ _ _ us hl=>match us,hl with|[_,_,_],_=>rfl
 have F42:=z0z (st:=z4s) l42 c42 k42
 have b42:=F42.binds (ps:=["_law_script"]) fun _ _ _ _ _ _ us hl=>match us,hl with|[_],_=>rfl
 have T:Tx l.prog w K mg (Adr.mk f0 _ f1 _ f2 _ f3 _ f4 _ f5 _ f6 _ f7 _ f8 _ f9 _ f10 _ f11 _ f12 _ f13 _ f14 _ f15 _ f16 _ f17 _ f18 _ f19 _ f20 _ f21 _ f22 _ f23 _ f24 _ f25 _ dv25 f26 _ f27 _ f28 _ f29 _ f30 _ f31 _ f32 _ f33 _ f34 _ f35 _ f36 _ f37 _ f38 _ f39 _ f40 _ f41 _ f42 _ A_LOOPS A_LOOKERS tk_WHEEL c_Queue c_Run c_0 c_6):=Tx.mk F0 b0 F1 b1 F2 b2 F3 b3 F4 b4 F5 b5 F6 b6 (W.mg_of X G a6) F7 b7 (W.mg_of X G a7) F8 b8 (W.mg_of X G a8) F9 b9 (W.mg_of X G a9) F10 b10 (W.mg_of X G a10) F11 b11 (W.mg_of X G a11) F12 b12 (W.mg_of X G a12) F13 b13 (W.mg_of X G a13) F14 b14 F15 b15 F16 b16 F17 b17 F18 b18 F19 b19 F20 b20 F21 b21 F22 b22 F23 b23 F24 b24 F25 bd25 b25 (W.mg_of X G a25) F26 b26 (W.mg_of X G a26) F27 b27 (W.mg_of X G a27) F28 b28 (W.mg_of X G a28) F29 b29 (W.mg_of X G a29) F30 b30 (W.mg_of X G a30) F31 b31 (W.mg_of X G a31) F32 b32 (W.mg_of X G a32) F33 b33 (W.mg_of X G a33) F34 b34 (W.mg_of X G a34) F35 b35 (W.mg_of X G a35) F36 b36 (W.mg_of X G a36) F37 b37 (W.mg_of X G a37) F38 b38 (W.mg_of X G a38) F39 b39 (W.mg_of X G a39) F40 b40 (W.mg_of X G a40) F41 b41 (W.mg_of X G a41) F42 b42 (W.mg_of X G a42) (W.mg_none_of X G ugf) (W.mg_none_of X G ugg) (W.mg_none_of X G ugh) (W.mg_none_of X G ugi) (W.mg_none_of X G ugj) (W.mg_none_of X G ugk) (W.mg_none_of X G ugl) (W.mg_none_of X G ugm) (W.mg_none_of X G ugn) (W.mg_none_of X G ugo) (W.mg_none_of X G ugp) (W.mg_none_of X G ugq) (W.mg_none_of X G ugr) (W.mg_none_of X G ugs) (W.mg_of X G ugt) (fun _=>.inr ⟨_,_,_,ugu,rfl,rfl,ugv.1,ugv.2⟩) (W.mg_of X G ugw) (fun _=>.inr ⟨_,_,_,ugx,rfl,rfl,ugy.1,ugy.2⟩) (W.mg_of X G ugz) (W.mg_of X G ua0) (Cls.mk ua1 ua2 ua3 ua4) (Mk.mk ua5 q1 fn1 ua6) (z3r.mk q2 fn2 k2) (z3r.mk q3 fn3 k3) (z3r.mk q4 fn4 k4) (z3r.mk q5 fn5 k5) ua7 ua8 (W.mg_of X G ua9) (Cls.mk uaa uab uac uad) (Mk.mk uae q14 uce uaf) (z3r.mk q15 ucj k15) (z3r.mk q16 uco k16) (z3r.mk q17 uct k17) (z3r.mk q18 ucy k18) (z3r.mk q19 ud3 k19) (z3r.mk q20 ud8 k20) (z3r.mk q21 udd k21) (z3r.mk q22 udi k22) (z3r.mk q23 udn k23) (z3r.mk q24 uds k24) uag uah uai uaj uak (W.mg_of X G ual) (W.mg_of X G uam) (zcS.mk ⟨_,_,_,_,_,_,_,_,_,_,_,_,_,_,_,ufy,ufz,ug0,ug1,ug2,ug3,ug4⟩ uan uao ug5 ug6 ug7) (ze0.mk ⟨_,_,_,_,_,_,_,_,_,_,_,_,_,_,_,_,ufy,ug0⟩ ug8 ug9 ug6) (XIs.mk ⟨_,_,_,_,_,_,_,_,_,_,_,_,_,_,_,_,ufy,ug0,ug1⟩ uga ug8 ug9) ((⟨_,_,_,_,_,_,_,_,_,_,_,_,_,_,_,_,_,ufy,ugb⟩:zeB _ _ _)) ugc ugd uge ((⟨_,_,_,_,_,_,_,_,_,_,_,_,_,_,_,_,_,ufy,ug0⟩:IsX _ _))
 exact⟨_,fun s v=>.of_eq rfl,fun base _ _=>zdy T⟩
theorem zeS {l:W.OpenLaw}{q:Program}{loose:List Str}{XP:(Str->Option Value)->Heap->Prop}{YP:World->Heap->Prop}{d:DefRec}{K:Params->W.Frag}(hn:l.most=some 63) (hdf:d.params.defaults=[])
 (hY:∀(w:World) (h:Heap),YP w h->(K w.params).In h)
 (F:∀(w:World) (mg:Str->Option Value) (fa:Addr) (h:Heap),(K w.params).In h->h.Ns mainGlobals mg->mg d.name=some (.ref fa)->
  ∃fd:FuncData,(∀(s:Shared) (u:Value),BindsTo s fd ⟨[u],[]⟩ [("_law_script",u)])/\∀base:Heap,(K w.params).In base->base.Ns mainGlobals mg->z1B l.prog w (K w.params) mg base CX0 47 fa fd ["_law_script"] (z8f (K w.params))):
 W.WalkO q loose XP YP l.row.toRowW d [] (fun f vs=>PySem.call f vs):=
 L2.zaS (n:=63) (k:=47) (x:="_law_script") (CX:=fun _=>CX0) (sp:=fun w=>z8f (K w.params)) hn (by decide) hdf ⟨rfl,by decide,by decide⟩ hY F (fun _ _ a ns hl hb hO hS=>⟨a,ns,rfl,hS,hl,hb,hO,fun _=>rfl⟩) fun _ _ _ _ _ z=>z
noncomputable def zfe:PySem.DefRec:=⟨"law",z0a z4s,z09 z4s,z02 z4s,defPos z4s⟩
theorem zah {p:Program}{w:World}{A:Option Value}:∀{m:Nat}{x x':W.SharedT}{y:Thread},goT p w A m x y=some x'->W.topRun PySem.treeTable p w 11 A m x.abs y=some x'.abs
 |0,_,_,_,h=>nomatch h
 |m+1,x,x',y,h=>by
  unfold goT at h;unfold W.topRun
  cases a:W.through y with
  |true=>rw[a]at h;cases h;rfl
  |false=>
   rw[a]at h
   cases b:W.stepOk 11 A y with
   |false=>rw[b]at h;cases h
   |true=>
    rw[b]at h
    cases c:W.stepT (denote PySem.treeTable) p w x y with
    |none=>rw[c]at h;cases h
    |some z=>rw[c]at h;rw[W.stepT_spec c];exact zah h
theorem za3 {p q:Program}{loose:List Str}{Xt:Shared->Bool}{α:Type}{Yf:Shared->α}{Ya:World->α}{N:Nat}(e:W.opening p=W.plainProg p.main.scope.names) (hN:Nat.ble 600 N=true) (f:∀s,fenceModules? p s=some s)
 (H:∀w,EndsT p q loose Xt Yf Ya N w):W.LeftO p q loose Xt Yf Ya N:=fun w=>by
 obtain⟨⟨h,gs,d,k,os⟩,u,u'⟩:=Option.map_eq_some_iff.mp (W.boot_open e hN f w)
 obtain⟨rfl,rfl,rfl,rfl⟩:h=W.boot_heap w.params/\gs=#[]/\d=W.boot_drawn/\k=W.boot_toks:=by simpa using u'
 obtain⟨s,r,l⟩:=Option.map_eq_some_iff.mp (H w os)
 have r:=zah r
 rw[bs_is]at r
 obtain⟨l1,l2,l3⟩:_/\_/\_:=by simpa only[Prod.mk.injEq]using l
 have z1:((W.boot_heap w.params).isNs mainGlobals && (#[]:Array GenState).size == 0)=true:=by kernel_rfl
 have z2:(W.boot_heap w.params).objs.size=11:=by kernel_rfl
 have t:W.topFrom PySem.treeTable p w N ⟨W.boot_heap w.params,#[],W.boot_drawn,W.boot_toks,os⟩=some s.abs:=by
  unfold W.topFrom
  dsimp only
  rw[z1,z2,r]
  show(match W.staticsOk (PySem.importedModules p.main.body) (W.boot_heap w.params) s.abs.heap && W.namesBound p s.abs.heap && W.gensDone s.abs && W.laidKept (W.boot_heap w.params) s.abs.heap with|true=>_|false=>_)=_
  rw[l1]
 unfold W.openEnds
 rw[u]
 show(W.topFrom PySem.treeTable p w N _).map _=_
 rw[t]
 exact congrArg some (Prod.ext l2 l3)
set_option maxHeartbeats 0 in
theorem left:W.LeftO PySem.Challenge.pw_handflow_k14_step_by_step vw [("run":Str)] xt hkH.obs hkH.val 4640:=za3 (by kernel_rfl) (by decide) (fun _=>by kernel_rfl) leftF
set_option maxHeartbeats 0 in
theorem said:W.OpenLaw.wellSaid PySem.Challenge.rw_handflow_k14_step_by_step=true:=by kernel_rfl
end K14
open PySem PySem.W PyProof.Rows
set_option maxRecDepth 100000 in
set_option maxHeartbeats 0 in
theorem PySem.Challenge.cw_handflow_k14_step_by_step_holds : PySem.Challenge.rw_handflow_k14_step_by_step.Holds := by
 w_on;refine holds_law K14.said fun said=>?_
 refine holds_open (q:=K14.vw) (loose:=[("run":Str)]) (Xt:=K14.xt) (XP:=XL K14.vw []) (Yf:=Hook.obs K14.hkH) (Ya:=Hook.val K14.hkH) (YP:=Hook.says K14.hkH) (d:=K14.zfe) (kwd:=[]) (N:=4640) K14.left (Hook.of K14.hkH) (Hook.keeps K14.hkH) (fun s e=>xl_of s (Bool.and_eq_true_iff.mp e).1) XL.keeps (by kernel_rfl) (by kernel_rfl) (by kernel_rfl) (fun s e=>recFacts_of (Bool.and_eq_true_iff.mp e).2) (by rfl) (by first|assumption|decide +kernel) (by decide +kernel) ⟨rfl,rfl,rfl,rfl,rfl,by decide +kernel⟩ ?hw ?hc
 (case hw=>w_witness2)
 refine K14.zeS (l:=PySem.Challenge.rw_handflow_k14_step_by_step) rfl (by kernel_rfl) (K:=K14.hk) (fun w h Y=>PySem.W.kIn_of (K:=K14.hk) (as:=K14.hks) (e:=K14.hk_as) Y) ?F
 case F=>
  k_fill
  intro w mg fa h KX G hmg
  refine' K14.zdO KX G hmg ?ua0 ?ua1 ?ua2 ?ua3 ?ua4 ?ua5 ?ua6 ?ua7 ?ua8 ?ua9 ?uaa ?uab ?uac ?uad ?uae ?uaf ?uag ?uah ?uai ?uaj ?uak ?ual ?uam ?uan ?uao ?l0 ?c0 ?k0 ?q1 ?fn1 ?l1 ?c1 ?k1 ?q2 ?fn2 ?l2 ?c2 ?k2 ?q3 ?fn3 ?l3 ?c3 ?k3 ?q4 ?fn4 ?l4 ?c4 ?k4 ?q5 ?fn5 ?l5 ?c5 ?k5 ?a6 ?l6 ?c6 ?k6 ?a7 ?l7 ?c7 ?k7 ?a8 ?l8 ?c8 ?k8 ?a9 ?l9 ?c9 ?k9 ?a10 ?l10 ?c10 ?k10 ?a11 ?l11 ?c11 ?k11 ?a12 ?l12 ?c12 ?k12 ?a13 ?l13 ?c13 ?k13 ?q14 ?uce ?l14 ?c14 ?k14 ?q15 ?ucj ?l15 ?c15 ?k15 ?q16 ?uco ?l16 ?c16 ?k16 ?q17 ?uct ?l17 ?c17 ?k17 ?q18 ?ucy ?l18 ?c18 ?k18 ?q19 ?ud3 ?l19 ?c19 ?k19 ?q20 ?ud8 ?l20 ?c20 ?k20 ?q21 ?udd ?l21 ?c21 ?k21 ?q22 ?udi ?l22 ?c22 ?k22 ?q23 ?udn ?l23 ?c23 ?k23 ?q24 ?uds ?l24 ?c24 ?k24 ?a25 ?l25 ?udy ?udz ?c25 ?k25 ?a26 ?l26 ?c26 ?k26 ?a27 ?l27 ?c27 ?k27 ?a28 ?l28 ?c28 ?k28 ?a29 ?l29 ?c29 ?k29 ?a30 ?l30 ?c30 ?k30 ?a31 ?l31 ?c31 ?k31 ?a32 ?l32 ?c32 ?k32 ?a33 ?l33 ?c33 ?k33 ?a34 ?l34 ?c34 ?k34 ?a35 ?l35 ?c35 ?k35 ?a36 ?l36 ?c36 ?k36 ?a37 ?l37 ?c37 ?k37 ?a38 ?l38 ?c38 ?k38 ?a39 ?l39 ?c39 ?k39 ?a40 ?l40 ?c40 ?k40 ?a41 ?l41 ?c41 ?k41 ?a42 ?l42 ?c42 ?k42 ?ufy ?ufz ?ug0 ?ug1 ?ug2 ?ug3 ?ug4 ?ug5 ?ug6 ?ug7 ?ug8 ?ug9 ?uga ?ugb ?ugc ?ugd ?uge ?ugf ?ugg ?ugh ?ugi ?ugj ?ugk ?ugl ?ugm ?ugn ?ugo ?ugp ?ugq ?ugr ?ugs ?ugt ?ugu ?ugv ?ugw ?ugx ?ugy ?ugz
  (case ua0=>k_is)
  (case ua1=>k_is)
  (case ua2=>k_is)
  (case ua3=>k_is)
  (case ua4=>k_is)
  (case ua5=>k_is)
  (case ua6=>k_is)
  (case ua7=>k_is)
  (case ua8=>k_is)
  (case ua9=>k_is)
  (case uaa=>k_is)
  (case uab=>k_is)
  (case uac=>k_is)
  (case uad=>k_is)
  (case uae=>k_is)
  (case uaf=>k_is)
  (case uag=>k_is)
  (case uah=>k_is)
  (case uai=>k_is)
  (case uaj=>k_is)
  (case uak=>k_is)
  (case ual=>k_is)
  (case uam=>k_is)
  (case uan=>k_is)
  (case uao=>k_is)
  (case l0=>k_is)
  (case c0=>k_is)
  (case k0=>k_is)
  (case q1=>k_is)
  (case fn1=>k_is)
  (case l1=>k_is)
  (case c1=>k_is)
  (case k1=>k_is)
  (case q2=>k_is)
  (case fn2=>k_is)
  (case l2=>k_is)
  (case c2=>k_is)
  (case k2=>k_is)
  (case q3=>k_is)
  (case fn3=>k_is)
  (case l3=>k_is)
  (case c3=>k_is)
  (case k3=>k_is)
  (case q4=>k_is)
  (case fn4=>k_is)
  (case l4=>k_is)
  (case c4=>k_is)
  (case k4=>k_is)
  (case q5=>k_is)
  (case fn5=>k_is)
  (case l5=>k_is)
  (case c5=>k_is)
  (case k5=>k_is)
  (case a6=>k_is)
  (case l6=>k_is)
  (case c6=>k_is)
  (case k6=>k_is)
  (case a7=>k_is)
  (case l7=>k_is)
  (case c7=>k_is)
  (case k7=>k_is)
  (case a8=>k_is)
  (case l8=>k_is)
  (case c8=>k_is)
  (case k8=>k_is)
  (case a9=>k_is)
  (case l9=>k_is)
  (case c9=>k_is)
  (case k9=>k_is)
  (case a10=>k_is)
  (case l10=>k_is)
  (case c10=>k_is)
  (case k10=>k_is)
  (case a11=>k_is)
  (case l11=>k_is)
  (case c11=>k_is)
  (case k11=>k_is)
  (case a12=>k_is)
  (case l12=>k_is)
  (case c12=>k_is)
  (case k12=>k_is)
  (case a13=>k_is)
  (case l13=>k_is)
  (case c13=>k_is)
  (case k13=>k_is)
  (case q14=>k_is)
  (case uce=>k_is)
  (case l14=>k_is)
  (case c14=>k_is)
  (case k14=>k_is)
  (case q15=>k_is)
  (case ucj=>k_is)
  (case l15=>k_is)
  (case c15=>k_is)
  (case k15=>k_is)
  (case q16=>k_is)
  (case uco=>k_is)
  (case l16=>k_is)
  (case c16=>k_is)
  (case k16=>k_is)
  (case q17=>k_is)
  (case uct=>k_is)
  (case l17=>k_is)
  (case c17=>k_is)
  (case k17=>k_is)
  (case q18=>k_is)
  (case ucy=>k_is)
  (case l18=>k_is)
  (case c18=>k_is)
  (case k18=>k_is)
  (case q19=>k_is)
  (case ud3=>k_is)
  (case l19=>k_is)
  (case c19=>k_is)
  (case k19=>k_is)
  (case q20=>k_is)
  (case ud8=>k_is)
  (case l20=>k_is)
  (case c20=>k_is)
  (case k20=>k_is)
  (case q21=>k_is)
  (case udd=>k_is)
  (case l21=>k_is)
  (case c21=>k_is)
  (case k21=>k_is)
  (case q22=>k_is)
  (case udi=>k_is)
  (case l22=>k_is)
  (case c22=>k_is)
  (case k22=>k_is)
  (case q23=>k_is)
  (case udn=>k_is)
  (case l23=>k_is)
  (case c23=>k_is)
  (case k23=>k_is)
  (case q24=>k_is)
  (case uds=>k_is)
  (case l24=>k_is)
  (case c24=>k_is)
  (case k24=>k_is)
  (case a25=>k_is)
  (case l25=>k_is)
  (case udy=>k_is)
  (case udz=>rfl)
  (case c25=>k_is)
  (case k25=>k_is)
  (case a26=>k_is)
  (case l26=>k_is)
  (case c26=>k_is)
  (case k26=>k_is)
  (case a27=>k_is)
  (case l27=>k_is)
  (case c27=>k_is)
  (case k27=>k_is)
  (case a28=>k_is)
  (case l28=>k_is)
  (case c28=>k_is)
  (case k28=>k_is)
  (case a29=>k_is)
  (case l29=>k_is)
  (case c29=>k_is)
  (case k29=>k_is)
  (case a30=>k_is)
  (case l30=>k_is)
  (case c30=>k_is)
  (case k30=>k_is)
  (case a31=>k_is)
  (case l31=>k_is)
  (case c31=>k_is)
  (case k31=>k_is)
  (case a32=>k_is)
  (case l32=>k_is)
  (case c32=>k_is)
  (case k32=>k_is)
  (case a33=>k_is)
  (case l33=>k_is)
  (case c33=>k_is)
  (case k33=>k_is)
  (case a34=>k_is)
  (case l34=>k_is)
  (case c34=>k_is)
  (case k34=>k_is)
  (case a35=>k_is)
  (case l35=>k_is)
  (case c35=>k_is)
  (case k35=>k_is)
  (case a36=>k_is)
  (case l36=>k_is)
  (case c36=>k_is)
  (case k36=>k_is)
  (case a37=>k_is)
  (case l37=>k_is)
  (case c37=>k_is)
  (case k37=>k_is)
  (case a38=>k_is)
  (case l38=>k_is)
  (case c38=>k_is)
  (case k38=>k_is)
  (case a39=>k_is)
  (case l39=>k_is)
  (case c39=>k_is)
  (case k39=>k_is)
  (case a40=>k_is)
  (case l40=>k_is)
  (case c40=>k_is)
  (case k40=>k_is)
  (case a41=>k_is)
  (case l41=>k_is)
  (case c41=>k_is)
  (case k41=>k_is)
  (case a42=>k_is)
  (case l42=>k_is)
  (case c42=>k_is)
  (case k42=>k_is)
  (case ufy=>k_is)
  (case ufz=>rfl)
  (case ug0=>rfl)
  (case ug1=>rfl)
  (case ug2=>rfl)
  (case ug3=>rfl)
  (case ug4=>exact fun _=>rfl)
  (case ug5=>k_is)
  (case ug6=>k_is)
  (case ug7=>k_is)
  (case ug8=>k_is)
  (case ug9=>k_is)
  (case uga=>k_is)
  (case ugb=>rfl)
  (case ugc=>kit_is)
  (case ugd=>kit_is)
  (case uge=>kit_is)
  (case ugf=>k_is)
  (case ugg=>k_is)
  (case ugh=>k_is)
  (case ugi=>k_is)
  (case ugj=>k_is)
  (case ugk=>k_is)
  (case ugl=>k_is)
  (case ugm=>k_is)
  (case ugn=>k_is)
  (case ugo=>k_is)
  (case ugp=>k_is)
  (case ugq=>k_is)
  (case ugr=>k_is)
  (case ugs=>k_is)
  (case ugt=>k_is)
  (case ugu=>k_is)
  (case ugv=>exact⟨by decide,.cons ⟨_,rfl⟩ (.cons ⟨_,rfl⟩ (.nil))⟩)
  (case ugw=>k_is)
  (case ugx=>k_is)
  (case ugy=>exact⟨by decide,.cons ⟨_,rfl⟩ (.cons ⟨_,rfl⟩ (.nil))⟩)
  (case ugz=>k_is)
