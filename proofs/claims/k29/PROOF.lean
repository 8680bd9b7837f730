import PyProof.Rows.All
import Wide.All
import OpenK.AllK
import Wide.FinOn
import Lean
import PyProof.EqAt
import PyProof.EqKinds
import PyProof.TupleCall
import PySem.Challenge.RW_handflow_k29_whole_deeds_and_the_run
set_option Elab.async false
set_option maxRecDepth 100000
set_option linter.all false
set_option genSizeOf false
theorem U{α:Sort u}{a:α}:a=a:=rfl
theorem Oi{p:Prop}{α:Sort u}{a:α}:a=a\/p:=.inl rfl
theorem Oy{α:Sort u}{β:Sort v}{γ:Sort w}{f:α->β->γ}:∀a b,f a b=f a b:=λ_ _=>rfl
section
open PySem PySem.Spec PyProof.Rows PySem.W
theorem Yd{p:Prop}(h:p:=by decide +kernel):p:=h
theorem Yk{p:Prop}(h:p:=by decide):p:=h
theorem Yo{p:Prop}(h:p:=by omega):p:=h
abbrev Yq:=Value->Shared->Prop
def qb:=@wpAny_bind
def qc:=@List.length_map
def qe:=@Heap.get?_push_of_some
def qf:=@List.length_append
def qg:=@List.getElem?_eq_getElem
def qh:=@wpAny_pure
def qi:=@Nat.le_refl
def qj:=@List.getElem?_eq_some_iff
def qk:=@PySem.F.plainAttrs_list
def qp:=@List.mem_append
def qt:=@Bool.false_ne_true
def qv:=@List.getD_eq_getElem?_getD
def qw:=@List.mem_cons_of_mem
def qy:=@List.mem_cons_self
def qz:=@Heap.get?_push_size
def qA:=@Heap.lt_size
def qC:=@List.take_add_one
def qD:=@Nat.zero_le
def qF:=@List.mem_cons
def qG:=@PySem.F.slot_list_append
def qH:=@PySem.F.type_list_append
def qI:=@List.append_nil
def qJ:=@Nat.le_trans
def qK:=@List.mem_of_getElem?
def qL:=@List.length_cons
def qM:=@List.size_toArray
def qN:=@Nat.lt_of_lt_of_le
def qO:=@List.getElem?_map
def qP:=@List.flatMap_cons
def qQ:=@Nat.ne_of_lt
def qR:=@List.take_length
def qS:=@List.mem_append_right
def qT:=@Option.some.inj
def qU:=@List.length_take
def qV:=@List.getElem?_append_right
def qW:=@Array.length_toList
def qX:=@List.append_assoc
def qY:=@List.map_append
def qZ:=@Option.map_eq_some_iff
def Q0:=@List.not_mem_nil
def Q3:=@List.map_cons
def Q4:=@List.mem_singleton
def Q5:=@Array.getElem?_toList
def Q6:=@List.flatMap_append
def Q7:=@List.mem_append_left
def Q8:=@wpAny_setState_of
def Q9:=@Int.toNat_natCast
def Qa:=@List.length_drop
def Qb:=@if_neg
def Qc:=@if_pos
def Qd:=@decide_eq_true
def Qe:=@decide_eq_false
def Qf:=@absurd
def Qg:=@List.getElem?_append_left
def Qh:=@List.length_singleton
def Qi:=@PySem.boot_len
def Qj:=@List.find?_cons
def Qk:=@Int.emod_nonneg
def Ql:=@Nat.lt_succ_self
def Qm:=@Nat.lt_irrefl
def Qn:=@of_decide_eq_true
def Qo:=@List.length_range
def Qp:=@Int.emod_lt_of_pos
def Qq:=@Heap.size_push
def Qr:=@Heap.get?_update_self
def Qs:=@PySem.mem_of_lookup
def Qt:=@wpAny_call_entry
def Qu:=@Bool.false_eq_true
def Qv:=@List.nil_append
def Qw:=@List.cons_append
def Qy:=@PySem.F.type_list_extend
def Qz:=@PySem.F.slot_list_extend
def QA:=@List.getElem?_eq_none
def QB:=@Nat.lt_succ_of_lt
def QD:=@List.filter_append
def QE:=@Heap.get?_update_other
def QF:=@List.take_append_drop
def QG:=@wpAny_holding
def QH:=@wpAny_seqItems
def QI:=@PySem.W.kia_one
def QJ:=@Nat.not_lt_zero
def QK:=@List.foldl_cons
def QL:=@List.length_dropLast
end
namespace L2
open PySem PySem.Spec PyProof.Rows PySem.W
def inClass(s:Stmt)(j:Nat):Stmt:=match s with
 |.ClassDef _ _ _ body _ _ _ _ _ _ _=>body.getD j (.Pass ⟨0,0,0,0⟩)
 |_=>.Pass ⟨0,0,0,0⟩
def dO(s:Stmt):Arguments:=match s with
 |.FunctionDef _ a _ _ _ _ _ _ _ _=>a
 |_=>{ posonlyargs:=[],args:=[],vararg:=none,kwonlyargs:=[],kw_defaults:=[],kwarg:=none,defaults:=[] }
def d9(s:Stmt):List Stmt:=match s with
 |.FunctionDef _ _ b _ _ _ _ _ _ _=>b
 |_=>[]
def ax(s:Stmt):Scope:=match s with
 |.FunctionDef _ _ _ _ _ _ sc _ _ _=>sc
 |_=>{ kind:=.function,names:=[],isGenerator:=false,isCoroutine:=false }
end L2
namespace K29
open PySem L2
set_option maxHeartbeats 0 in
theorem said:PySem.W.OpenLaw.wellSaid PySem.Challenge.rw_handflow_k29_whole_deeds_and_the_run=true:=by kernel_rfl
def top(i:Nat):Stmt:=PySem.Challenge.pw_handflow_k29_whole_deeds_and_the_run.main.body.getD i (.Pass ⟨0,0,0,0⟩)
noncomputable def defPos(s:Stmt):Pos:=match s with
 |.FunctionDef _ _ _ _ _ _ _ _ _ p=>p
 |_=>⟨0,0,0,0⟩
abbrev vs(x:String)(t:Nat):Value:=.str (Str.ofString x) t
abbrev de(P:Params)(x:String)(t:Nat)(v:Value):DictEntry:=⟨PyData.keyHash P (Str.ofString x),vs x t,v⟩
abbrev co(a b:String)(t l n r:Nat)(x y z u:Value)(m:Nat):Obj:=Obj.mk (.type "code") none (Data.fields #[vs a t,vs b (t+1),vs "/claim/cut.py" (t+2),.int l 0,.int n 0,.int 0 0,.int 0 0,.int 3 0,.ref r,.bool true,.int 181 0,.ref (r+1),x,y,z,u,.int m 0,.int l 0,vs "/claim/cut.py" (m+1)]) #[]
abbrev fo(a b:String)(s:Stmt)(m:String)(t c:Nat):Obj:=Obj.mk (.type "function") none (.func (PySem.W.fnOf a b (dO s) (d9 s) (ax s) .none .none .none (vs m t) none (.ref c) .none)) #[]
noncomputable def hk:Params->PySem.W.Frag:=λP=>
 (nat_lit 2,Obj.mk .none none (Data.dict #[]) #[]) ::
 (nat_lit 3,Obj.mk (.type "dict") none (Data.dict #[de P "__name__" 165 (vs "law_handflow_k29_whole_deeds_and_the_run" 647),de P "__doc__" 166 .none,de P "__package__" 167 .none,de P "__loader__" 168 (.builtin "__main__.__loader__#opaque"),de P "__spec__" 169 .none,de P "__annotations__" 170 (.ref 6),de P "__builtins__" 171 (.ref 4),de P "__file__" 173 (vs "/claim/cut.py" 172),de P "__cached__" 174 .none,de P "_wall" 193 (.ref 21),de P "LOOPS" 198 (.ref 22),de P "LOOKERS" 201 (.ref 23),de P "named" 210 (.ref 30),de P "variables_of" 217 (.ref 37),de P "all_deeds" 227 (.ref 44),de P "blocks_within" 234 (.ref 51),de P "names_in" 240 (.ref 56),de P "read_by_set" 247 (.ref 63),de P "OUTLET" 251 (vs ">" 250),de P "OUTLET_KEEPERS" 254 (.ref 64),de P "touched" 263 (.ref 71),de P "other_cards_in" 270 (.ref 78),de P "put_card" 277 (.ref 85),de P "get_card" 284 (.ref 92),de P "cards_of" 294 (.ref 99),de P "FlowError" 324 (.ref 116),de P "Starved" 340 (.ref 129),de P "TooMuch" 356 (.ref 141),de P "MOST_DEEDS" 360 (.int 2000 359),de P "deeds_of" 368 (.ref 150),de P "counted" 377 (.ref 157),de P "written" 386 (.ref 164),de P "written_rounds" 395 (.ref 171),de P "written_once" 403 (.ref 178),de P "owner_of" 411 (.ref 185),de P "check_gets" 423 (.ref 192),de P "Queue" 492 (.ref 244),de P "WHEEL" 496 (.int 1000000000000000000000000000000 495),de P "done" 505 (.ref 255),de P "reckoned" 514 (.ref 262),de P "beginnings" 520 (.ref 267),de P "Run" 639 (.ref 352),de P "run" 646 (.ref 362),de P "_law_cell_at" 656 (.ref 369),de P "_law_mixed" 665 (.ref 376),de P "_law_whole" 672 (.ref 383),de P "_law_letters" 683 (.ref 390),de P "_law_spelt" 691 (.ref 397),de P "_law_pool" 708 (.ref 404),de P "_law_simple" 723 (.ref 411),de P "_law_opened" 741 (.ref 418),de P "_law_block" 758 (.ref 425),de P "_law_moves" 769 (.ref 432),de P "_law_reach" 782 (.ref 439),de P "_law_program" 788 (.ref 444),de P "_law_starved" 795 (.ref 451),de P "_law_leaves" 801 (.ref 456),de P "_law_ends" 817 (.ref 463),de P "law" 823 (.ref 468)] 59) #[]) ::
 (nat_lit 20,co "_wall" "_wall" 187 1 1 15 .none (.ref 17) (.ref 18) (.ref 19) 191) ::
 (nat_lit 21,fo "_wall" "_wall" (top 0) "__main__" 164 20) ::
 (nat_lit 22,Obj.mk (.type "tuple") none (Data.seq #[vs "while" 196,vs "repeat" 197]) #[]) ::
 (nat_lit 23,Obj.mk (.type "tuple") none (Data.seq #[vs "if" 199,vs "while" 200]) #[]) ::
 (nat_lit 29,co "named" "named" 202 7 1 24 .none (.ref 26) (.ref 27) (.ref 28) 208) ::
 (nat_lit 30,fo "named" "named" (top 4) "handflow.tree" 194 29) ::
 (nat_lit 36,co "variables_of" "variables_of" 211 12 1 31 .none (.ref 33) (.ref 34) (.ref 35) 215) ::
 (nat_lit 37,fo "variables_of" "variables_of" (top 5) "handflow.tree" 194 36) ::
 (nat_lit 43,co "all_deeds" "all_deeds" 218 14 1 38 .none (.ref 40) (.ref 41) (.ref 42) 225) ::
 (nat_lit 44,fo "all_deeds" "all_deeds" (top 6) "handflow.tree" 194 43) ::
 (nat_lit 50,co "blocks_within" "blocks_within" 228 21 1 45 .none (.ref 47) (.ref 48) (.ref 49) 232) ::
 (nat_lit 51,fo "blocks_within" "blocks_within" (top 7) "handflow.tree" 194 50) ::
 (nat_lit 55,co "names_in" "names_in" 235 27 1 52 .none .none .none (.ref 54) 238) ::
 (nat_lit 56,fo "names_in" "names_in" (top 8) "handflow.tree" 194 55) ::
 (nat_lit 62,co "read_by_set" "read_by_set" 241 34 1 57 .none (.ref 59) (.ref 60) (.ref 61) 245) ::
 (nat_lit 63,fo "read_by_set" "read_by_set" (top 9) "handflow.tree" 194 62) ::
 (nat_lit 64,Obj.mk (.type "tuple") none (Data.seq #[vs "give" 252,vs "while" 253]) #[]) ::
 (nat_lit 70,co "touched" "touched" 255 39 1 65 .none (.ref 67) (.ref 68) (.ref 69) 261) ::
 (nat_lit 71,fo "touched" "touched" (top 13) "handflow.cards" 248 70) ::
 (nat_lit 77,co "other_cards_in" "other_cards_in" 264 45 1 72 .none (.ref 74) (.ref 75) (.ref 76) 268) ::
 (nat_lit 78,fo "other_cards_in" "other_cards_in" (top 14) "handflow.cards" 248 77) ::
 (nat_lit 84,co "put_card" "put_card" 271 51 1 79 .none (.ref 81) (.ref 82) (.ref 83) 275) ::
 (nat_lit 85,fo "put_card" "put_card" (top 15) "handflow.cards" 248 84) ::
 (nat_lit 91,co "get_card" "get_card" 278 53 1 86 .none (.ref 88) (.ref 89) (.ref 90) 282) ::
 (nat_lit 92,fo "get_card" "get_card" (top 16) "handflow.cards" 248 91) ::
 (nat_lit 98,co "cards_of" "cards_of" 285 55 1 93 .none (.ref 95) (.ref 96) (.ref 97) 292) ::
 (nat_lit 99,fo "cards_of" "cards_of" (top 17) "handflow.cards" 248 98) ::
 (nat_lit 100,Obj.mk (.type "tuple") none (Data.seq #[.type "ValueError"]) #[]) ::
 (nat_lit 112,co "__init__" "FlowError.__init__" 309 63 3 107 .none (.ref 109) (.ref 110) (.ref 111) 315) ::
 (nat_lit 113,fo "__init__" "FlowError.__init__" (inClass (top 19) 0) "handflow.errors" 295 112) ::
 (nat_lit 114,Obj.mk (.type "tuple") none (Data.seq #[vs "place" 318]) #[]) ::
 (nat_lit 115,Obj.mk (.type "dict") none (Data.dict #[de P "__module__" 304 (vs "handflow.errors" 295),de P "__firstlineno__" 308 (.int 61 307),de P "__init__" 317 (.ref 113),de P "__static_attributes__" 319 (.ref 114),de P "__weakref__" 321 (.ref 117),de P "__doc__" 322 .none] 3) #[]) ::
 (nat_lit 116,Obj.mk (.type "type") none (Data.cls (ClassData.mk (Str.ofString "FlowError") [.type "ValueError"] [.ref 116,.type "ValueError",.type "Exception",.type "BaseException",.type "object"] 115 (Str.ofString "FlowError") true [] [.ref 129,.ref 141] false none false)) #[some (.ref 100),none,some (vs "FlowError" 297),some (vs "FlowError" 305),some (.builtin "ValueError.__new__"),some (.bool true)]) ::
 (nat_lit 117,Obj.mk (.type "getset_descriptor") none (Data.fields #[vs "__weakref__" 320,.ref 116,.builtin "ExceptionGroup.__weakref__",.none]) #[]) ::
 (nat_lit 120,Obj.mk (.type "tuple") none (Data.seq #[.ref 116]) #[]) ::
 (nat_lit 127,Obj.mk (.type "tuple") none (Data.seq #[]) #[]) ::
 (nat_lit 128,Obj.mk (.type "dict") none (Data.dict #[de P "__module__" 332 (vs "handflow.errors" 295),de P "__firstlineno__" 336 (.int 66 335),de P "__static_attributes__" 337 (.ref 127),de P "__doc__" 338 .none] 2) #[]) ::
 (nat_lit 129,Obj.mk (.type "type") none (Data.cls (ClassData.mk (Str.ofString "Starved") [.ref 116] [.ref 129,.ref 116,.type "ValueError",.type "Exception",.type "BaseException",.type "object"] 128 (Str.ofString "Starved") true [] [] false none false)) #[some (.ref 120),none,some (vs "Starved" 325),some (vs "Starved" 333),some (.builtin "ValueError.__new__"),some (.bool true)]) ::
 (nat_lit 132,Obj.mk (.type "tuple") none (Data.seq #[.ref 116]) #[]) ::
 (nat_lit 139,Obj.mk (.type "tuple") none (Data.seq #[]) #[]) ::
 (nat_lit 140,Obj.mk (.type "dict") none (Data.dict #[de P "__module__" 348 (vs "handflow.errors" 295),de P "__firstlineno__" 352 (.int 68 351),de P "__static_attributes__" 353 (.ref 139),de P "__doc__" 354 .none] 2) #[]) ::
 (nat_lit 141,Obj.mk (.type "type") none (Data.cls (ClassData.mk (Str.ofString "TooMuch") [.ref 116] [.ref 141,.ref 116,.type "ValueError",.type "Exception",.type "BaseException",.type "object"] 140 (Str.ofString "TooMuch") true [] [] false none false)) #[some (.ref 132),none,some (vs "TooMuch" 341),some (vs "TooMuch" 349),some (.builtin "ValueError.__new__"),some (.bool true)]) ::
 (nat_lit 149,co "deeds_of" "deeds_of" 361 72 1 144 .none (.ref 146) (.ref 147) (.ref 148) 366) ::
 (nat_lit 150,fo "deeds_of" "deeds_of" (top 24) "handflow.deeds" 357 149) ::
 (nat_lit 156,co "counted" "counted" 369 79 1 151 .none (.ref 153) (.ref 154) (.ref 155) 375) ::
 (nat_lit 157,fo "counted" "counted" (top 25) "handflow.deeds" 357 156) ::
 (nat_lit 163,co "written" "written" 378 85 1 158 .none (.ref 160) (.ref 161) (.ref 162) 384) ::
 (nat_lit 164,fo "written" "written" (top 26) "handflow.deeds" 357 163) ::
 (nat_lit 170,co "written_rounds" "written_rounds" 387 93 2 165 .none (.ref 167) (.ref 168) (.ref 169) 393) ::
 (nat_lit 171,fo "written_rounds" "written_rounds" (top 27) "handflow.deeds" 357 170) ::
 (nat_lit 177,co "written_once" "written_once" 396 98 1 172 .none (.ref 174) (.ref 175) (.ref 176) 401) ::
 (nat_lit 178,fo "written_once" "written_once" (top 28) "handflow.deeds" 357 177) ::
 (nat_lit 184,co "owner_of" "owner_of" 404 109 2 179 .none (.ref 181) (.ref 182) (.ref 183) 409) ::
 (nat_lit 185,fo "owner_of" "owner_of" (top 29) "handflow.deeds" 357 184) ::
 (nat_lit 191,co "check_gets" "check_gets" 412 111 1 186 .none (.ref 188) (.ref 189) (.ref 190) 421) ::
 (nat_lit 192,fo "check_gets" "check_gets" (top 30) "handflow.deeds" 357 191) ::
 (nat_lit 205,co "__init__" "Queue.__init__" 438 125 2 200 .none (.ref 202) (.ref 203) (.ref 204) 443) ::
 (nat_lit 206,fo "__init__" "Queue.__init__" (inClass (top 32) 0) "handflow.queues" 424 205) ::
 (nat_lit 212,co "standing" "Queue.standing" 446 129 1 207 .none (.ref 209) (.ref 210) (.ref 211) 450) ::
 (nat_lit 213,fo "standing" "Queue.standing" (inClass (top 32) 1) "handflow.queues" 424 212) ::
 (nat_lit 219,co "head" "Queue.head" 453 132 1 214 .none (.ref 216) (.ref 217) (.ref 218) 457) ::
 (nat_lit 220,fo "head" "Queue.head" (inClass (top 32) 2) "handflow.queues" 424 219) ::
 (nat_lit 226,co "lay" "Queue.lay" 460 135 2 221 .none (.ref 223) (.ref 224) (.ref 225) 465) ::
 (nat_lit 227,fo "lay" "Queue.lay" (inClass (top 32) 3) "handflow.queues" 424 226) ::
 (nat_lit 233,co "take" "Queue.take" 468 138 1 228 .none (.ref 230) (.ref 231) (.ref 232) 473) ::
 (nat_lit 234,fo "take" "Queue.take" (inClass (top 32) 4) "handflow.queues" 424 233) ::
 (nat_lit 240,co "rest" "Queue.rest" 476 143 1 235 .none (.ref 237) (.ref 238) (.ref 239) 480) ::
 (nat_lit 241,fo "rest" "Queue.rest" (inClass (top 32) 5) "handflow.queues" 424 240) ::
 (nat_lit 242,Obj.mk (.type "tuple") none (Data.seq #[vs "gone" 483,vs "laid" 484]) #[]) ::
 (nat_lit 243,Obj.mk (.type "dict") none (Data.dict #[de P "__module__" 433 (vs "handflow.queues" 424),de P "__firstlineno__" 437 (.int 123 436),de P "__init__" 445 (.ref 206),de P "standing" 452 (.ref 213),de P "head" 459 (.ref 220),de P "lay" 467 (.ref 227),de P "take" 475 (.ref 234),de P "rest" 482 (.ref 241),de P "__static_attributes__" 485 (.ref 242),de P "__dict__" 487 (.ref 245),de P "__weakref__" 489 (.ref 246),de P "__doc__" 490 .none] 4) #[]) ::
 (nat_lit 244,Obj.mk (.type "type") none (Data.cls (ClassData.mk (Str.ofString "Queue") [.type "object"] [.ref 244,.type "object"] 243 (Str.ofString "Queue") true [] [] false none false)) #[none,none,some (vs "Queue" 426),some (vs "Queue" 434),some (.builtin "object.__new__"),some (.bool true)]) ::
 (nat_lit 245,Obj.mk (.type "getset_descriptor") none (Data.fields #[vs "__dict__" 486,.ref 244,.builtin "function.__dict__",.builtin "function.__dict__#set"]) #[]) ::
 (nat_lit 246,Obj.mk (.type "getset_descriptor") none (Data.fields #[vs "__weakref__" 488,.ref 244,.builtin "ExceptionGroup.__weakref__",.none]) #[]) ::
 (nat_lit 254,co "done" "done" 497 147 3 249 .none (.ref 251) (.ref 252) (.ref 253) 503) ::
 (nat_lit 255,fo "done" "done" (top 35) "handflow.wheel" 493 254) ::
 (nat_lit 261,co "reckoned" "reckoned" 506 155 3 256 .none (.ref 258) (.ref 259) (.ref 260) 512) ::
 (nat_lit 262,fo "reckoned" "reckoned" (top 36) "handflow.wheel" 493 261) ::
 (nat_lit 266,co "beginnings" "beginnings" 515 167 2 263 .none .none .none (.ref 265) 518) ::
 (nat_lit 267,fo "beginnings" "beginnings" (top 37) "handflow.wheel" 493 266) ::
 (nat_lit 278,co "__init__" "Run.__init__" 535 175 4 275 .none .none .none (.ref 277) 538) ::
 (nat_lit 279,fo "__init__" "Run.__init__" (inClass (top 39) 0) "handflow.plain" 521 278) ::
 (nat_lit 285,co "do_block" "Run.do_block" 541 182 2 280 .none (.ref 282) (.ref 283) (.ref 284) 547) ::
 (nat_lit 286,fo "do_block" "Run.do_block" (inClass (top 39) 1) "handflow.plain" 521 285) ::
 (nat_lit 292,co "do_deed" "Run.do_deed" 550 188 2 287 .none (.ref 289) (.ref 290) (.ref 291) 556) ::
 (nat_lit 293,fo "do_deed" "Run.do_deed" (inClass (top 39) 2) "handflow.plain" 521 292) ::
 (nat_lit 299,co "do_if" "Run.do_if" 559 201 4 294 .none (.ref 296) (.ref 297) (.ref 298) 566) ::
 (nat_lit 300,fo "do_if" "Run.do_if" (inClass (top 39) 3) "handflow.plain" 521 299) ::
 (nat_lit 306,co "do_while" "Run.do_while" 569 206 3 301 .none (.ref 303) (.ref 304) (.ref 305) 575) ::
 (nat_lit 307,fo "do_while" "Run.do_while" (inClass (top 39) 4) "handflow.plain" 521 306) ::
 (nat_lit 313,co "do_repeat" "Run.do_repeat" 578 214 3 308 .none (.ref 310) (.ref 311) (.ref 312) 585) ::
 (nat_lit 314,fo "do_repeat" "Run.do_repeat" (inClass (top 39) 5) "handflow.plain" 521 313) ::
 (nat_lit 320,co "do_step" "Run.do_step" 588 220 1 315 .none (.ref 317) (.ref 318) (.ref 319) 592) ::
 (nat_lit 321,fo "do_step" "Run.do_step" (inClass (top 39) 6) "handflow.plain" 521 320) ::
 (nat_lit 327,co "is_spent" "Run.is_spent" 595 226 1 322 .none (.ref 324) (.ref 325) (.ref 326) 599) ::
 (nat_lit 328,fo "is_spent" "Run.is_spent" (inClass (top 39) 7) "handflow.plain" 521 327) ::
 (nat_lit 334,co "do_plain" "Run.do_plain" 602 229 2 329 .none (.ref 331) (.ref 332) (.ref 333) 608) ::
 (nat_lit 335,fo "do_plain" "Run.do_plain" (inClass (top 39) 8) "handflow.plain" 521 334) ::
 (nat_lit 341,co "number_of" "Run.number_of" 611 240 2 336 .none (.ref 338) (.ref 339) (.ref 340) 616) ::
 (nat_lit 342,fo "number_of" "Run.number_of" (inClass (top 39) 9) "handflow.plain" 521 341) ::
 (nat_lit 348,co "got_from" "Run.got_from" 619 243 2 343 .none (.ref 345) (.ref 346) (.ref 347) 624) ::
 (nat_lit 349,fo "got_from" "Run.got_from" (inClass (top 39) 10) "handflow.plain" 521 348) ::
 (nat_lit 350,Obj.mk (.type "tuple") none (Data.seq #[vs "most" 627,vs "numbers" 628,vs "outs" 629,vs "queues" 630,vs "steps" 631]) #[]) ::
 (nat_lit 351,Obj.mk (.type "dict") none (Data.dict #[de P "__module__" 530 (vs "handflow.plain" 521),de P "__firstlineno__" 534 (.int 173 533),de P "__init__" 540 (.ref 279),de P "do_block" 549 (.ref 286),de P "do_deed" 558 (.ref 293),de P "do_if" 568 (.ref 300),de P "do_while" 577 (.ref 307),de P "do_repeat" 587 (.ref 314),de P "do_step" 594 (.ref 321),de P "is_spent" 601 (.ref 328),de P "do_plain" 610 (.ref 335),de P "number_of" 618 (.ref 342),de P "got_from" 626 (.ref 349),de P "__static_attributes__" 632 (.ref 350),de P "__dict__" 634 (.ref 353),de P "__weakref__" 636 (.ref 354),de P "__doc__" 637 .none] 4) #[]) ::
 (nat_lit 352,Obj.mk (.type "type") none (Data.cls (ClassData.mk (Str.ofString "Run") [.type "object"] [.ref 352,.type "object"] 351 (Str.ofString "Run") true [] [] false none false)) #[none,none,some (vs "Run" 523),some (vs "Run" 531),some (.builtin "object.__new__"),some (.bool true)]) ::
 (nat_lit 353,Obj.mk (.type "getset_descriptor") none (Data.fields #[vs "__dict__" 633,.ref 352,.builtin "function.__dict__",.builtin "function.__dict__#set"]) #[]) ::
 (nat_lit 354,Obj.mk (.type "getset_descriptor") none (Data.fields #[vs "__weakref__" 635,.ref 352,.builtin "ExceptionGroup.__weakref__",.none]) #[]) ::
 (nat_lit 357,Obj.mk (.type "tuple") none (Data.seq #[.int 5000 640]) #[]) ::
 (nat_lit 361,co "run" "run" 641 247 3 358 .none .none .none (.ref 360) 644) ::
 (nat_lit 362,Obj.mk (.type "function") none (.func (PySem.W.fnOf "run" "run" (dO (top 40)) (d9 (top 40)) (ax (top 40)) (.ref 357) .none .none (vs "handflow.plain" 521) none (.ref 361) .none)) #[]) ::
 (nat_lit 368,co "_law_cell_at" "_law_cell_at" 649 255 2 363 .none (.ref 365) (.ref 366) (.ref 367) 654) ::
 (nat_lit 369,fo "_law_cell_at" "_law_cell_at" (top 42) "law_handflow_k29_whole_deeds_and_the_run" 647 368) ::
 (nat_lit 375,co "_law_mixed" "_law_mixed" 657 259 2 370 .none (.ref 372) (.ref 373) (.ref 374) 663) ::
 (nat_lit 376,fo "_law_mixed" "_law_mixed" (top 43) "law_handflow_k29_whole_deeds_and_the_run" 647 375) ::
 (nat_lit 382,co "_law_whole" "_law_whole" 666 262 1 377 .none (.ref 379) (.ref 380) (.ref 381) 670) ::
 (nat_lit 383,fo "_law_whole" "_law_whole" (top 44) "law_handflow_k29_whole_deeds_and_the_run" 647 382) ::
 (nat_lit 389,co "_law_letters" "_law_letters" 673 264 2 384 .none (.ref 386) (.ref 387) (.ref 388) 681) ::
 (nat_lit 390,fo "_law_letters" "_law_letters" (top 45) "law_handflow_k29_whole_deeds_and_the_run" 647 389) ::
 (nat_lit 396,co "_law_spelt" "_law_spelt" 684 271 1 391 .none (.ref 393) (.ref 394) (.ref 395) 689) ::
 (nat_lit 397,fo "_law_spelt" "_law_spelt" (top 46) "law_handflow_k29_whole_deeds_and_the_run" 647 396) ::
 (nat_lit 403,co "_law_pool" "_law_pool" 692 276 2 398 .none (.ref 400) (.ref 401) (.ref 402) 706) ::
 (nat_lit 404,fo "_law_pool" "_law_pool" (top 47) "law_handflow_k29_whole_deeds_and_the_run" 647 403) ::
 (nat_lit 410,co "_law_simple" "_law_simple" 709 295 4 405 .none (.ref 407) (.ref 408) (.ref 409) 721) ::
 (nat_lit 411,fo "_law_simple" "_law_simple" (top 48) "law_handflow_k29_whole_deeds_and_the_run" 647 410) ::
 (nat_lit 417,co "_law_opened" "_law_opened" 724 310 4 412 .none (.ref 414) (.ref 415) (.ref 416) 739) ::
 (nat_lit 418,fo "_law_opened" "_law_opened" (top 49) "law_handflow_k29_whole_deeds_and_the_run" 647 417) ::
 (nat_lit 424,co "_law_block" "_law_block" 742 334 5 419 .none (.ref 421) (.ref 422) (.ref 423) 756) ::
 (nat_lit 425,fo "_law_block" "_law_block" (top 50) "law_handflow_k29_whole_deeds_and_the_run" 647 424) ::
 (nat_lit 431,co "_law_moves" "_law_moves" 759 351 1 426 .none (.ref 428) (.ref 429) (.ref 430) 767) ::
 (nat_lit 432,fo "_law_moves" "_law_moves" (top 51) "law_handflow_k29_whole_deeds_and_the_run" 647 431) ::
 (nat_lit 438,co "_law_reach" "_law_reach" 770 361 2 433 .none (.ref 435) (.ref 436) (.ref 437) 780) ::
 (nat_lit 439,fo "_law_reach" "_law_reach" (top 52) "law_handflow_k29_whole_deeds_and_the_run" 647 438) ::
 (nat_lit 443,co "_law_program" "_law_program" 783 371 2 440 .none .none .none (.ref 442) 786) ::
 (nat_lit 444,fo "_law_program" "_law_program" (top 53) "law_handflow_k29_whole_deeds_and_the_run" 647 443) ::
 (nat_lit 450,co "_law_starved" "_law_starved" 789 385 1 445 .none (.ref 447) (.ref 448) (.ref 449) 793) ::
 (nat_lit 451,fo "_law_starved" "_law_starved" (top 54) "law_handflow_k29_whole_deeds_and_the_run" 647 450) ::
 (nat_lit 455,co "_law_leaves" "_law_leaves" 796 387 3 452 .none .none .none (.ref 454) 799) ::
 (nat_lit 456,fo "_law_leaves" "_law_leaves" (top 55) "law_handflow_k29_whole_deeds_and_the_run" 647 455) ::
 (nat_lit 462,co "_law_ends" "_law_ends" 802 399 5 457 .none (.ref 459) (.ref 460) (.ref 461) 815) ::
 (nat_lit 463,fo "_law_ends" "_law_ends" (top 56) "law_handflow_k29_whole_deeds_and_the_run" 647 462) ::
 (nat_lit 467,co "law" "law" 818 410 1 464 .none .none .none (.ref 466) 821) ::
 (nat_lit 468,fo "law" "law" (top 57) "law_handflow_k29_whole_deeds_and_the_run" 647 467) ::
 []
noncomputable def hks:List Addr:=[2,3,20,21,22,23,29,30,36,37,43,44,50,51,55,56,62,63,64,70,71,77,78,84,85,91,92,98,99,100,112,113,114,115,116,117,120,127,128,129,132,139,140,141,149,150,156,157,163,164,170,171,177,178,184,185,191,192,205,206,212,213,219,220,226,227,233,234,240,241,242,243,244,245,246,254,255,261,262,266,267,278,279,285,286,292,293,299,300,306,307,313,314,320,321,327,328,334,335,341,342,348,349,350,351,352,353,354,357,361,362,368,369,375,376,382,383,389,390,396,397,403,404,410,411,417,418,424,425,431,432,438,439,443,444,450,451,455,456,462,463,467,468]
theorem hk_as:∀P,hks=(hk P).map (·.1):=λ_=>by kernel_rfl
noncomputable def vw:Program:=PySem.W.view PySem.Challenge.pw_handflow_k29_whole_deeds_and_the_run [0,2,3,4,5,6,7,8,9,11,12,13,14,15,16,17,19,20,21,23,24,25,26,27,28,29,30,32,34,35,36,37,39,42,43,44,45,46,47,48,49,50,51,52,53,54,55,56,57]
noncomputable def hkH:PySem.W.Hook:=PySem.W.kHook hk hks hk_as
noncomputable def xt(s:Shared):Bool:=PySem.W.xlAt vw [] s && PySem.W.recOk (PySem.W.RowW.records (PySem.W.OpenRow.toRowW (PySem.W.OpenLaw.row PySem.Challenge.rw_handflow_k29_whole_deeds_and_the_run))) s
noncomputable def bt(P:Params):PySem.W.BT:=(.node (PySem.W.boot_o_0 P) (.node (PySem.W.boot_o_1 P) (.node (PySem.W.boot_o_3 P) (.node (PySem.W.boot_o_7 P) .nil .nil) .nil) (.node (PySem.W.boot_o_5 P) (.node (PySem.W.boot_o_9 P) .nil .nil) .nil)) (.node (PySem.W.boot_o_2 P) (.node (PySem.W.boot_o_4 P) (.node (PySem.W.boot_o_8 P) .nil .nil) .nil) (.node (PySem.W.boot_o_6 P) (.node (PySem.W.boot_o_10 P) .nil .nil) .nil)))
theorem bt_is(P:Params):PySem.W.absHeap (bt P) 11 {}=PySem.W.boot_heap P:=by kernel_rfl
noncomputable def bs(P:Params)(os:OsState):PySem.W.SharedT:=⟨bt P,11,{},#[],PySem.W.boot_drawn,PySem.W.boot_toks,os⟩
theorem bs_is(P:Params)(os:OsState):(bs P os).abs=⟨PySem.W.boot_heap P,#[],PySem.W.boot_drawn,PySem.W.boot_toks,os⟩:=by
 unfold bs PySem.W.SharedT.abs;rw[bt_is]
def goT(p:Program)(w:World)(A:Option Value):Nat->PySem.W.SharedT->Thread->Option PySem.W.SharedT
 |0,_,_=>none
 |m+1,x,y=>match PySem.W.through y with
  |true=>some x
  |false=>match PySem.W.stepOk 11 A y with
   |false=>none
   |true=>match PySem.W.stepT (denote PySem.treeTable) p w x y with
    |none=>none
    |some (x',y')=>goT p w A m x' y'
noncomputable abbrev annB(w:World):Option Value:=(PySem.W.boot_heap w.params).nsMap mainGlobals "__annotations__"
def EndsT(p q:Program)(loose:List Str)(Xt:Shared->Bool){α:Type}(Yf:Shared->α)(Ya:World->α)(N:Nat)(w:World):Prop:=
 ∀os:OsState,(goT p w (annB w) N (bs w.params os) (PySem.W.topStub p)).map (λs=>(PySem.W.staticsOk (PySem.importedModules p.main.body) (PySem.W.boot_heap w.params) s.abs.heap && PySem.W.namesBound p s.abs.heap && PySem.W.gensDone s.abs && PySem.W.laidKept (PySem.W.boot_heap w.params) s.abs.heap,PySem.W.openSeen q loose (PySem.importedModules p.main.body) Xt true s.abs,Yf s.abs))=some (true,PySem.W.openGood q loose,Ya w)
set_option maxHeartbeats 0 in
theorem leftF:∀w:World,EndsT PySem.Challenge.pw_handflow_k29_whole_deeds_and_the_run vw [("run":Str)] xt hkH.obs hkH.val 5960 w:=λw os=>by kernel_rfl
end K29
namespace L2
open PySem PySem.Spec PyProof.Rows
abbrev Key:=Sum Int Str
noncomputable def gQ:Key->Value->Bool
 |.inl k,v=>Value.isInt k v
 |.inr x,v=>Value.isStrOf x v
noncomputable def Ek(w:World):Key->Int
 |.inl k=>hashInt k
 |.inr x=>hashStr w x
theorem fq:∀{k:Key}{v:Value},gQ k v=true->(∃i t,k=Sum.inl i/\v=Value.int i t)\/(∃x t,k=Sum.inr x/\v=Value.str x t)
 |.inl i,v,h=>by
  obtain⟨t,e⟩:=Value.isInt_shape (k:=i) (v:=v) h;exact .inl ⟨i,t,U,e⟩
 |.inr x,v,h=>by
  obtain⟨t,e⟩:=Value.isStrOf_shape (x:=x) (v:=v) h;exact .inr ⟨x,t,U,e⟩
theorem Ej(i:Int)(t:Tok):gQ (.inl i) (.int i t)=true:=by simp[gQ,Value.isInt]
theorem Ei(x:Str)(t:Tok):gQ (.inr x) (.str x t)=true:=by simp[gQ,Value.isStrOf]
theorem Eh(a b:Int):decide ((Sum.inl a:Key)=Sum.inl b)=(a == b):=by
 by_cases e:a=b
 .subst e;simp
 .have h:¬ (Sum.inl a:Key)=Sum.inl b:=λq=>e (Sum.inl.inj q);rw[Qe h];exact(beq_eq_false_iff_ne.mpr e).symm
theorem Ee(a b:Str):decide ((Sum.inr a:Key)=Sum.inr b)=decide (a=b):=by
 by_cases e:a=b
 .subst e;simp
 .have h:¬ (Sum.inr a:Key)=Sum.inr b:=λq=>e (Sum.inr.inj q);rw[Qe h,Qe e]
theorem Eg(a:Int)(b:Str):decide ((Sum.inl a:Key)=Sum.inr b)=false:=Qe (λq=>nomatch q)
theorem Ef(a:Str)(b:Int):decide ((Sum.inr a:Key)=Sum.inl b)=false:=Qe (λq=>nomatch q)
noncomputable def cN(prog:Program)(w:World):PySem.KeyKind prog w Key where
 is:=gQ
 hash:=Ek w
 inj:=λv a b ha hb=>by
  rcases fq ha with⟨i,t,rfl,rfl⟩|⟨x,t,rfl,rfl⟩
  .rcases fq hb with⟨j,u,rfl,e⟩|⟨y,u,rfl,e⟩
   .injection e with e1 _;rw[e1]
   .exact nomatch e
  .rcases fq hb with⟨j,u,rfl,e⟩|⟨y,u,rfl,e⟩
   .exact nomatch e
   .injection e with e1 _;rw[e1]
 byValue:=λk v h=>by
  rcases fq h with⟨i,t,rfl,rfl⟩|⟨x,t,rfl,rfl⟩<;>rfl
 pyHash:=λhv h=>by
  rcases fq hv with⟨i,t,rfl,rfl⟩|⟨x,t,rfl,rfl⟩
  .exact wpAny_pyHash_int h
  .exact wpAny_pyHash_str h
 eqBool:=λhu hv h=>by
  rcases fq hu with⟨i,t,rfl,rfl⟩|⟨x,t,rfl,rfl⟩
  .rcases fq hv with⟨j,u,rfl,rfl⟩|⟨y,u,rfl,rfl⟩
   .rw[Eh]at h;exact wpAny_eqBool_int h
   .rw[Eg]at h;exact SeqAt.EqAt.int_str i t y u _ _ _ _ h
  .rcases fq hv with⟨j,u,rfl,rfl⟩|⟨y,u,rfl,rfl⟩
   .rw[Ef]at h;exact SeqAt.EqAt.str_int x t j u _ _ _ _ h
   .rw[Ee]at h;exact wpAny_eqBool_str h
 «strs»:=λk x t v h=>by
  rcases fq h with⟨i,u,rfl,e⟩|⟨y,u,rfl,e⟩
  .exact nomatch e
  .injection e with e1 _;subst e1;cases v<;>rfl
theorem DP(prog:Program)(w:World)(i:Int)(t:Tok):(cN prog w).is (.inl i) (.int i t)=true:=Ej i t
theorem DO(prog:Program)(w:World)(x:Str)(t:Tok):(cN prog w).is (.inr x) (.str x t)=true:=Ei x t
inductive V where
 |non|bl (b:Bool)|int (i:Int)|str (x:Str)|byt (b:Array UInt8)|flt (b:UInt64)|ref (a:Addr)|ty (n:String)
 deriving DecidableEq
def aF:V->Value->Prop
 |.non,u=>u=Value.none
 |.bl b,u=>u=Value.bool b
 |.int i,u=>∃t,u=Value.int i t
 |.str x,u=>∃t,u=Value.str x t
 |.byt b,u=>∃t,u=Value.bytes b t
 |.flt b,u=>∃t,u=Value.float b t
 |.ref a,u=>u=Value.ref a
 |.ty n,u=>u=Value.type n
abbrev aw:List V->List Value->Prop:=Paired aF
theorem aw.length{xs:List V}{us:List Value}(r:aw xs us):xs.length=us.length:=Paired.length r
theorem aw.get:∀{xs:List V}{us:List Value}{i:Nat}{x:V},aw xs us->xs[i]?=some x->∃u,us[i]?=some u/\aF x u
 |_,_,_,_,.nil,e=>by simp at e
 |_,_,0,_,.cons r _,e=>by simp at e;subst e;exact⟨_,U,r⟩
 |_,_,i+1,x,.cons _ t,e=>by
  obtain⟨u,h1,h2⟩:=aw.get (i:=i) (x:=x) t (by simpa using e);exact⟨u,by simpa using h1,h2⟩
theorem aw.set{x:V}{u:Value}(r:aF x u):∀{xs:List V}{us:List Value}(i:Nat),aw xs us->aw (xs.set i x) (us.set i u)
 |_,_,_,.nil=>.nil
 |_,_,0,.cons _ t=>.cons r t
 |_,_,i+1,.cons q t=>.cons q (aw.set r i t)
theorem aw.append:∀{xs ys:List V}{us ws:List Value},aw xs us->aw ys ws->aw (xs++ys) (us++ws)
 |_,_,_,_,.nil,s=>s
 |_,_,_,_,.cons r t,s=>.cons r (aw.append t s)
theorem aw.take:∀{xs:List V}{us:List Value}(n:Nat),aw xs us->aw (xs.take n) (us.take n)
 |_,_,0,_=>.nil
 |_,_,_+1,.nil=>.nil
 |_,_,n+1,.cons r t=>.cons r (aw.take n t)
theorem aw.drop:∀{xs:List V}{us:List Value}(n:Nat),aw xs us->aw (xs.drop n) (us.drop n)
 |_,_,0,r=>r
 |_,_,_+1,.nil=>.nil
 |_,_,n+1,.cons _ t=>aw.drop n t
def cQ:Option V->Option Value->Prop
 |some v,some u=>aF v u
 |none,none=>True
 |_,_=>False
def KV{κ:Type}:List (κ×V)->List (κ×Value)->Prop:=Paired λ(p:κ×V)(q:κ×Value)=>p.1=q.1/\aF p.2 q.2
noncomputable def kV:Key->V
 |.inl i=>.int i
 |.inr x=>.str x
inductive HO where
 |lst (xs:List V)
 |tup (xs:List V)
 |dK (kvs:List (Key×V))|dT (kvs:List (List Key×V))
 |set (S:Int->Bool) (n:Nat)
 |ins (C dx:Addr) (fs:List (Str×V))
 |own (x:Addr)
 |xd (fs:List (Str×V))
 |met (f x:Addr)
 |rng (lo hi:Int)
 |frz (o:Obj) (u:HO)
 |tbl (ps:Array Value)
 |ext (φ:Heap->Prop)
abbrev Hp:=Addr->Option HO
noncomputable def upd(H:Hp)(a:Addr)(o:HO):Hp:=λb=>if b=a then some o else H b
theorem ag{H:Hp}{a:Addr}{o:HO}:upd H a o a=some o:=by unfold upd;rw[Qc U]
theorem ae{H:Hp}{a b:Addr}{o:HO}(h:b≠a):upd H a o b=H b:=by unfold upd;rw[Qb h]
theorem vy{H:Hp}{a b:Addr}{o u:HO}(h:H a=some o)(h':H b=some u)(d:o≠u):a≠b:=by
 intro e;subst e;rw[h]at h';exact d (qT h')
theorem bW{H:Hp}{a b:Addr}{o:HO}(h:H a=some o)(h':H b=none):a≠b:=by
 intro e;subst e;rw[h]at h';cases h'
section
variable (P:Program) (w:World)
def bp(H:Hp)(h:Heap)(a:Addr):HO->Prop
 |.lst xs=>xs.length<=sizeLine/\∃(its:List Value)(n:Nat),aw xs its/\h.get? a=some { cls:=.type "list",data:=.seq its.toArray n }
 |.tup xs=>xs.length<=sizeLine/\∃its:List Value,aw xs its/\IsTup h a its.toArray
 |.dK kvs=>kvs.length<=sizeLine/\(a == sysModules)=false/\∃vs,KV kvs vs/\h.DictOf (cN P w) a vs
 |.dT kvs=>kvs.length<=sizeLine/\(a == sysModules)=false/\∃xs:List (List Key×Addr×Value),
  Paired (λ(p:List Key×V)(q:List Key×Addr×Value)=>p.1=q.1/\H q.2.1=some (.tup (p.1.map kV))/\aF p.2 q.2.2) kvs xs /\
  ∃o es ep,h.get? a=some o/\o.ExactDict/\o.data=.dict es ep/\es.toList=xs.map (entryOfKey (tupleKind (cN P w)))/\(xs.map (·.1)).Nodup
 |.set S n=>h.SetOf (intKind P w) a S n
 |.ins C dx fs=>H dx=some (.own a)/\fs.length<=1000/\dx≠a/\h.get? a=some (PySem.W.instObj C dx) /\
  ∃mA,h.Ns1 dx mA/\(∀f,cQ (fs.lookup f) (mA f))/\PySem.Within mA (fs.map (·.1))
 |.own _=>∃o,h.get? a=some o
 |.xd fs=>∃mA,h.Ns1 a mA/\∀f,cQ (fs.lookup f) (mA f)
 |.rng lo hi=>∃t u v,h.get? a=some { cls:=.type "range",data:=.fields #[.int lo t,.int hi u,.int 1 v] }
 |.frz o u=>h.get? a=some o/\bp H h a u
 |.tbl ps=>h.get? a=some { cls:=.none,data:=.fields ps }
 |.met f x=>h.get? a=some (PySem.W.methodObj (.ref f) (.ref x))
 |.ext φ=>φ h/\(∃o,h.get? a=some o)/\∀h1 h2:Heap,φ h1->(∀o,h1.get? a=some o->h2.get? a=some o)->φ h2
def HOk(H:Hp)(h:Heap):Prop:=∀a o,H a=some o->bp P w H h a o
end
section
variable {P:Program}{w:World}{H H':Hp}{h h':Heap}{a:Addr}{o:HO}
theorem bp.lt(x:bp P w H h a o):a<h.objs.size:=by
 cases o with
 |lst xs=>obtain⟨_,_,_,_,e⟩:=x;exact qA e
 |tup xs=>obtain⟨_,_,_,p⟩:=x;exact p.lt
 |dK kvs=>obtain⟨_,_,_,_,o,_,_,e,_⟩:=x;exact qA e
 |dT kvs=>obtain⟨_,_,_,_,o,_,_,e,_⟩:=x;exact qA e
 |set S n=>obtain⟨o,_,_,_,e,_⟩:=x;exact qA e
 |ins C dx fs=>obtain⟨_,_,_,e,_⟩:=x;exact qA e
 |own y=>obtain⟨_,e⟩:=x;exact qA e
 |xd fs=>obtain⟨_,⟨_,_,_,e,_⟩,_⟩:=x;exact qA e
 |rng lo hi=>obtain⟨_,_,_,e⟩:=x;exact qA e
 |frz ob u=>obtain⟨e,_⟩:=x;exact qA e
 |tbl ps=>exact qA (show h.get? a=some _ from x)
 |met f y=>exact qA (show h.get? a=some _ from x)
 |ext φ=>obtain⟨_,⟨_,e⟩,_⟩:=x;exact qA e
theorem Paired.mapP{α β:Type}{F G:α->β->Prop}:∀{l₁:List α}{l₂:List β},Paired F l₁ l₂->(∀a b,F a b->G a b)->Paired G l₁ l₂
 |_,_,.nil,_=>.nil
 |_,_,.cons r t,f=>.cons (f _ _ r) (Paired.mapP t f)
theorem bp.stay(x:bp P w H h a o)(k:∀b u,(b=a\/H b=some (.own a))->h.get? b=some u->h'.get? b=some u)
 (ho:∀b,H b=some (.own a)->H' b=some (.own a)) (ht:∀b xs,H b=some (.tup xs)->H' b=some (.tup xs)):bp P w H' h' a o:=by
 induction o with
 |lst xs=>obtain⟨z,its,n,r,e⟩:=x;exact⟨z,its,n,r,k _ _ (.inl U) e⟩
 |tup xs=>obtain⟨z,its,r,ob,e,c⟩:=x;exact⟨z,its,r,ob,k _ _ (.inl U) e,c⟩
 |dK kvs=>obtain⟨z,y,vs,r,ob,es,ep,e,c⟩:=x;exact⟨z,y,vs,r,ob,es,ep,k _ _ (.inl U) e,c⟩
 |dT kvs=>
  obtain⟨z,y,xs,r,ob,es,ep,e,c⟩:=x;exact⟨z,y,xs,Paired.mapP r λp q z=>⟨z.1,ht _ _ z.2.1,z.2.2⟩,ob,es,ep,k _ _ (.inl U) e,c⟩
 |set S n=>obtain⟨ob,es,ep,t,e,c⟩:=x;exact⟨ob,es,ep,t,k _ _ (.inl U) e,c⟩
 |ins C dx fs=>
  obtain⟨d,z,ne,e,mA,⟨od,es,ep,e2,c⟩,r⟩:=x;exact⟨ho _ d,z,ne,k _ _ (.inl U) e,mA,⟨od,es,ep,k _ _ (.inr d) e2,c⟩,r⟩
 |own y=>obtain⟨ob,e⟩:=x;exact⟨ob,k _ _ (.inl U) e⟩
 |xd fs=>obtain⟨mA,⟨od,es,ep,e,c⟩,r⟩:=x;exact⟨mA,⟨od,es,ep,k _ _ (.inl U) e,c⟩,r⟩
 |rng lo hi=>obtain⟨t,u,v,e⟩:=x;exact⟨t,u,v,k _ _ (.inl U) e⟩
 |frz ob u ih=>obtain⟨e,q⟩:=x;exact⟨k _ _ (.inl U) e,ih q⟩
 |tbl ps=>
  have e:h.get? a=some { cls:=.none,data:=.fields ps }:=x;show h'.get? a=some { cls:=.none,data:=.fields ps };exact k a _ (.inl U) e
 |met f y=>
  have e:h.get? a=some (PySem.W.methodObj (.ref f) (.ref y)):=x;show h'.get? a=some (PySem.W.methodObj (.ref f) (.ref y));exact k a _ (.inl U) e
 |ext φ=>obtain⟨p,⟨o,e⟩,st⟩:=x;exact⟨st _ _ p λo q=>k _ _ (.inl U) q,⟨o,k _ _ (.inl U) e⟩,st⟩
theorem HOk.lt(x:HOk P w H h)(e:H a=some o):a<h.objs.size:=(x a o e).lt
theorem HOk.fresh(x:HOk P w H h)(e:h.objs.size<=a):H a=none:=by
 cases q:H a with
 |none=>rfl
 |some u=>exact Qf (qN (x.lt q) e) (Qm _)
theorem HOk.kept(x:HOk P w H h)(k:∀b u,h.get? b=some u->h'.get? b=some u):HOk P w H h':=λa o e=>
 (x a o e).stay (λb u _ q=>k b u q) (λ_ q=>q) λ_ _ q=>q
theorem HOk.laid(x:HOk P w H h)(k:∀b u,h.get? b=some u->h'.get? b=some u)(hp:h.objs.size<=a)(new:bp P w (upd H a o) h' a o):HOk P w (upd H a o) h':=λb u e=>by
 have hn:=x.fresh hp;by_cases hb:b=a
 .subst hb;rw[ag]at e;cases e;exact new
 .rw[ae hb]at e;exact(x b u e).stay (λc v _ q=>k c v q) (λc q=>by rw[ae (bW q hn)];exact q) λc xs q=>by rw[ae (bW q hn)];exact q
end
def Rd(H:Hp)(a:Addr)(u:HO):Prop:=H a=some u\/∃o,H a=some (.frz o u)
theorem Rd.ok{P:Program}{w:World}{H:Hp}{h:Heap}{a:Addr}{u:HO}(r:Rd H a u)(x:HOk P w H h):bp P w H h a u:=by
 rcases r with r|⟨o,r⟩
 .exact x a u r
 .obtain⟨_,q⟩:=x a _ r;exact q
def Mut:Option HO->Prop
 |some (.lst _)=>True
 |some (.dK _)=>True
 |some (.dT _)=>True
 |some (.set _ _)=>True
 |some (.ins _ _ _)=>True
 |some (.ext _)=>True
 |_=>False
section
variable {P:Program}{w:World}{H:Hp}{h h':Heap}{x e:Addr}{o':HO}
theorem HOk.write(ok:HOk P w H h)(mu:Mut (H x))(he:e=x\/H e=some (.own x))(k:∀b u,b≠e->h.get? b=some u->h'.get? b=some u)(heo:∃u,h'.get? e=some u)
 (new:bp P w (upd H x o') h' x o'):HOk P w (upd H x o') h':=λb u q=>by
 have nown:∀c y,H c=some (.own y)->c≠x:=λc y r z=>by subst z;rw[r]at mu;exact mu
 have ntup:∀c xs,H c=some (.tup xs)->c≠x:=λc xs r z=>by subst z;rw[r]at mu;exact mu
 by_cases hb:b=x
 .subst hb;rw[ag]at q;cases q;exact new
 .rw[ae hb]at q;by_cases hbe:b=e
  .have q':H b=some (.own x):=by
    rcases he with z|z
    .exact Qf (hbe.trans z) hb
    .rw[hbe];exact z
   rw[q]at q';cases q';obtain⟨v,hv⟩:=heo;exact⟨v,by rw[hbe];exact hv⟩
  .refine(ok b u q).stay (λc v hc r=>k c v ?_ r) (λc r=>by rw[ae (nown c b r)];exact r) λc xs r=>by rw[ae (ntup c xs r)];exact r
   rcases hc with rfl|hc
   .exact hbe
   .rintro rfl;rcases he with z|z
    .exact nown c b hc z
    .rw[hc]at z;cases z;exact hb U
end
structure Un(fs ex:List Addr)(H H':Hp)(h h':Heap):Prop where
 keep:∀b o,h.get? b=some o->H b=none->b∉fs->b∉ex->h'.get? b=some o
 slot:∀b o,h.get? b=some o->H b=none->b∈fs->b∉ex->∃sl,h'.get? b=some { o with slots:=sl }
 free:∀b o,h.get? b=some o->H b=none->b∉ex->H' b=none
 there:∀b o,h.get? b=some o->b∉ex->∃o',h'.get? b=some o'
 tups:∀b xs,H b=some (.tup xs)->H' b=some (.tup xs)
 frzs:∀b o u,H b=some (.frz o u)->H' b=some (.frz o u)
 tbls:∀b ps,H b=some (.tbl ps)->∃more,H' b=some (.tbl (ps++more))
section
variable {fs fs' ex ex':List Addr}{H H1 H2:Hp}{h h1 h2 h':Heap}{a x e:Addr}{o:HO}
theorem Un.any(u:Un fs ex H H1 h h1){b:Addr}{ob:Obj}(q:h.get? b=some ob)(n:H b=none)(hx:b∉ex):∃sl,h1.get? b=some { ob with slots:=sl }:=by
 by_cases hb:b∈fs
 .exact u.slot b ob q n hb hx
 .exact⟨ob.slots,u.keep b ob q n hb hx⟩
theorem Un.kept(k:∀b u,h.get? b=some u->h'.get? b=some u):Un fs ex H H h h':=
 ⟨λb ob q _ _ _=>k b ob q,λb ob q _ _ _=>⟨ob.slots,k b ob q⟩,λ_ _ _ n _=>n,λb ob q _=>⟨ob,k b ob q⟩,λ_ _ q=>q,λ_ _ _ q=>q,λ_ ps q=>⟨#[],by rw[q];simp⟩⟩
theorem Un.refl:Un fs ex H H h h:=Un.kept λ_ _ q=>q
theorem Un.laid(k:∀b u,h.get? b=some u->h'.get? b=some u)(hp:h.objs.size<=a)(hn:H a=none):Un fs ex H (upd H a o) h h' where
 keep:=λb u q _ _ _=>k b u q
 slot:=λb u q _ _ _=>⟨u.slots,k b u q⟩
 free:=λb u q n _=>by rw[ae (qQ (qN (qA q) hp))];exact n
 there:=λb u q _=>⟨u,k b u q⟩
 tups:=λb xs q=>by rw[ae (bW q hn)];exact q
 frzs:=λb u xs q=>by rw[ae (bW q hn)];exact q
 tbls:=λb ps q=>⟨#[],by rw[ae (bW q hn),q];simp⟩
theorem Un.write(mu:Mut (H x))(he:e=x\/H e=some (.own x))(k:∀b u,b≠e->h.get? b=some u->h'.get? b=some u)(heo:∃u,h'.get? e=some u):Un fs ex H (upd H x o) h h':=by
 have hx:∀b,H b=none->b≠x:=λb n z=>by subst z;rw[n]at mu;exact mu
 have hb:∀b,H b=none->b≠e:=λb n z=>by
  subst z;rcases he with r|r
  .exact hx b n r
  .rw[n]at r;cases r
 have hm:∀b u,H b=some u->¬ Mut (some u)->b≠x:=λb u q nm z=>by subst z;rw[q]at mu;exact nm mu
 refine⟨λb u q n _ _=>k b u (hb b n) q,λb u q n _ _=>⟨u.slots,k b u (hb b n) q⟩,λb u q n _=>by rw[ae (hx b n)];exact n,λb u q _=>?_,
  λb xs q=>by rw[ae (hm b _ q λz=>z)];exact q,λb u xs q=>by rw[ae (hm b _ q λz=>z)];exact q,λb ps q=>⟨#[],by rw[ae (hm b _ q λz=>z),q];simp⟩⟩
 by_cases hbe:b=e
 .subst hbe;exact heo
 .exact⟨u,k b u hbe q⟩
end
noncomputable def trk(h:Heap)(H:Hp):List Addr:=(List.range h.objs.size).filter λa=>(H a).isSome
noncomputable def fR(h:Heap)(H:Hp):Heap:=PySem.W.hideAll h (trk h H)
theorem EF(h:Heap)(H:Hp):(fR h H).objs.size=h.objs.size:=PySem.W.hideAll_size _ _
theorem EG{h:Heap}{H:Hp}{b:Addr}{o:Obj}(e:h.get? b=some o)(n:H b=none):(fR h H).get? b=some o:=
 PySem.W.hideAll_get _ e λhm=>by
  have q:(H b).isSome=true:=(List.mem_filter.mp hm).2;rw[n]at q;simp at q
theorem DD{h:Heap}{H:Hp}{b:Addr}{o:Obj}(e:(fR h H).get? b=some o):h.get? b=some o/\H b=none:=by
 have e':h.get? b=some o:=PySem.W.of_hideAll (trk h H) e;refine⟨e',?_⟩
 cases q:H b with
 |none=>rfl
 |some x=>
  have hm:b∈trk h H:=List.mem_filter.mpr ⟨List.mem_range.mpr (qA e'),by simp[q]⟩;have z:(fR h H).get? b=none:=PySem.W.hideAll_none (trk h H) hm;rw[z]at e;cases e
structure Mod(K:W.Frag)(mg:Str->Option Value)(base:Heap):Prop where
 kin:K.In base
 glob:base.Ns mainGlobals mg
 blt:∃mb,base.Ns builtinsNs mb/\∀x:Str,x≠"__name__"->mb x=bootBuiltins x
 nolimit:base.NoLimit
structure Cx where
 prog:Program
 w:World
 K:W.Frag
 mg:Str->Option Value
 base:Heap
 A:Around
 N:List Str
 s₀:Shared
 H₀:Hp
 env:Env
 outer:List Env
 stack:List Env
 ex:List Addr
 fn:Str->Bool
 calm:Bool
 pn:List (Addr×Obj)
 xe:Value->Shared->Prop
noncomputable def frs(l:List Env):List Addr:=l.filterMap (·.frame)
noncomputable abbrev Cx.fs(X:Cx):List Addr:=frs X.outer
def Vis(sc:Scope)(x:Str):Prop:=sc.names.lookup x=some .local\/sc.names.lookup x=some .cell\/sc.names.lookup x=some .free
def Loc(sc:Scope)(x:Str):Prop:=sc.names.lookup x=some .local\/sc.names.lookup x=some .cell
def Gm(env:Env)(h:Heap)(m:Str->Option Value)(x:Str)(u:Value):Prop:=
 (env.kindOf x=some .local/\m x=some u)\/((env.kindOf x=some .cell\/env.kindOf x=some .free)/\∃c,env.cells.lookup x=some c/\h.IsCell c (some u))
structure Cx.Ok(X:Cx):Prop where
 mod:Mod X.K X.mg X.base
 kind:X.env.scope.kind=.function
 glob:X.env.globals=mainGlobals
 blt:X.env.builtins=builtinsNs
 above:X.s₀.heap.objs.size<=X.env.locals
 inj:∀x y c,X.env.cells.lookup x=some c->X.env.cells.lookup y=some c->x=y
 has:∀x,(X.env.kindOf x=some .cell\/X.env.kindOf x=some .free)->∃c,X.env.cells.lookup x=some c
 cab:∀x c,X.fn x=true->X.env.cells.lookup x=some c->X.s₀.heap.objs.size<=c
 hd:X.calm=true->X.A.handled=none
 frames:X.A.frames=some X.stack
 stk:X.stack=X.outer\/(X.stack=X.env::X.outer/\X.env.frame=some X.env.locals)
 exf:∀b∈X.ex,b≠X.env.locals/\∀x c,X.env.cells.lookup x=some c->c≠b
 bs:∀b o,X.base.get? b=some o->X.s₀.heap.get? b=some o/\X.H₀ b=none
 bsz:X.base.objs.size<=X.s₀.heap.objs.size
 noex:∀b o,X.base.get? b=some o->b∉X.ex
 exfs:∀b∈X.ex,b∉X.fs
 funs:X.s₀.heap.FunFrames X.base X.outer
 frf:∀b∈X.fs,X.H₀ b=none
structure Inv(X:Cx)(pins:List (Addr×Obj))(Y:List (Option V))(H:Hp)(s:Shared):Prop where
 ok:X.Ok
 os:s.os=X.s₀.os
 bare:AllBare s.gens
 base:Un X.fs X.ex X.H₀ H X.s₀.heap s.heap
 loc:∃m,s.heap.Ns X.env.locals m/\∀(i:Nat)(x:Str)(v:V),X.N[i]?=some x->Y[i]?=some (some v)->Vis X.env.scope x->∃u,aF v u/\Gm X.env s.heap m x u
 cell:∀x c,X.env.cells.lookup x=some c->∃v,s.heap.IsCell c v
 free:H X.env.locals=none
 freeC:∀x c,X.env.cells.lookup x=some c->H c=none
 pin:∀p∈X.pn++pins,s.heap.get? p.1=some p.2/\H p.1=none/\p.1≠X.env.locals/\p.1∉X.fs/\∀v,p.2.data≠.cell v
 hok:HOk X.prog X.w H s.heap
 len:Y.length=X.N.length
section
variable {X:Cx}{pins:List (Addr×Obj)}{Y:List (Option V)}{H H':Hp}{s:Shared}{h':Heap}
theorem Cx.Ok.nofr(ok:X.Ok){b:Addr}{o:Obj}(e:X.base.get? b=some o):b∉X.fs:=λhb=>by
 have:=(ok.funs.mem hb).1;rw[e]at this;cases this
theorem Inv.bs(I:Inv X pins Y H s):∀b o,X.base.get? b=some o->s.heap.get? b=some o/\H b=none:=λb o e=>
 ⟨I.base.keep b o (I.ok.bs b o e).1 (I.ok.bs b o e).2 (I.ok.nofr e) (I.ok.noex b o e),I.base.free b o (I.ok.bs b o e).1 (I.ok.bs b o e).2 (I.ok.noex b o e)⟩
theorem Inv.bk(I:Inv X pins Y H s):∀b o,X.base.get? b=some o->s.heap.get? b=some o:=λb o e=>(I.bs b o e).1
theorem Inv.mod(I:Inv X pins Y H s):Mod X.K X.mg X.base:=I.ok.mod
theorem Inv.kIn(I:Inv X pins Y H s):X.K.In s.heap:=I.ok.mod.kin.keeps I.bk
theorem Inv.fr(I:Inv X pins Y H s):∃m,Fr X.base X.env.locals s.heap m:=
 let ⟨m,hn,_⟩:=I.loc
 ⟨m,hn,I.bk,qJ I.ok.bsz I.ok.above⟩
theorem Inv.lt(I:Inv X pins Y H s):X.env.locals<s.heap.objs.size:=let ⟨_,hn,_⟩:=I.loc;hn.lt
theorem Inv.sz(I:Inv X pins Y H s):X.s₀.heap.objs.size<=s.heap.objs.size:=qJ I.ok.above (Nat.le_of_lt I.lt)
theorem Inv.nofs(I:Inv X pins Y H s){a:Addr}(h:s.heap.objs.size<=a):a∉X.fs:=λhb=>by
 obtain⟨_,o,ho,_⟩:=I.ok.funs.mem hb;exact Qf (qN (qA ho) (qJ I.sz h)) (Qm _)
theorem Inv.cne(I:Inv X pins Y H s):∀x c,X.env.cells.lookup x=some c->c≠X.env.locals:=λx c e z=>by
 obtain⟨v,o,ho,hd⟩:=I.cell x c e;obtain⟨m,⟨o',es,ep,ho',hd',_⟩,_⟩:=I.loc;rw[z,ho']at ho;cases ho;rw[hd']at hd;cases hd
theorem Inv.funs(I:Inv X pins Y H s):s.heap.FunFrames X.base X.outer:=by
 have all:∀(l:List Env),(∀b∈frs l,b∈X.fs)->X.s₀.heap.FunFrames X.base l->s.heap.FunFrames X.base l:=by
  intro l
  induction l with
  |nil=>intro _ _;trivial
  |cons env r ih=>
   intro hs hl;obtain⟨hk,⟨L,o,hf,hn,ho,hd⟩,hr⟩:=hl;have hL:L∈X.fs:=hs L (by unfold frs;rw[List.filterMap_cons,hf];exact qy);obtain⟨sl,e⟩:=I.base.slot L o ho (I.ok.frf L hL) hL λz=>I.ok.exfs L z hL;exact⟨hk,⟨L,_,hf,hn,e,hd⟩,ih (λb hb=>hs b (by unfold frs;rw[List.filterMap_cons,hf];exact qw _ hb)) hr⟩
 exact all X.outer (λ_ hb=>hb) I.ok.funs
theorem Inv.stack(I:Inv X pins Y H s):s.heap.FunFrames X.base X.stack:=by
 rcases I.ok.stk with e|⟨e,hf⟩
 .rw[e];exact I.funs
 .rw[e];obtain⟨m,hn,_⟩:=I.loc;refine .cons (by rw[I.ok.kind];decide) hf hn ?_ I.funs;exact Heap.get?_none_of_le (qJ I.ok.bsz I.ok.above)
theorem Inv.stkSub(I:Inv X pins Y H s):∀b∈frs X.stack,b∈X.env.locals::X.fs:=λb hb=>by
 rcases I.ok.stk with e|⟨e,hf⟩
 .rw[e]at hb;exact qw _ hb
 .rw[e]at hb;unfold frs at hb;rw[List.filterMap_cons,hf]at hb;exact hb
theorem Inv.stkFree(I:Inv X pins Y H s):∀b∈frs X.stack,H b=none:=λb hb=>by
 rcases qF.mp (I.stkSub b hb)with e|hb
 .rw[e];exact I.free
 .obtain⟨_,o,ho,_⟩:=I.ok.funs.mem hb;exact I.base.free b o ho (I.ok.frf b hb) λz=>I.ok.exfs b z hb
theorem Inv.step{g':Array GenState}{t':Nat}{d':Drawn}{ch:List Addr}(I:Inv X pins Y H s)
 (hch:∀b∈ch,(b∈X.ex\/X.s₀.heap.objs.size<=b)/\b≠X.env.locals/\(∀x c,X.env.cells.lookup x=some c->c≠b)/\∀p∈X.pn++pins,p.1≠b)
 (keep:∀b o,b≠X.env.locals->b∉X.fs->b∉ch->s.heap.get? b=some o->H b=none->h'.get? b=some o)
 (slot:∀b o,b≠X.env.locals->b∈X.fs->b∉ch->s.heap.get? b=some o->H b=none->∃sl,h'.get? b=some { o with slots:=sl }) (free:∀b o,b∉ch->s.heap.get? b=some o->H b=none->H' b=none)
 (there:∀b o,b∉ch->s.heap.get? b=some o->∃o',h'.get? b=some o')
 (tups:∀b xs,H b=some (.tup xs)->H' b=some (.tup xs)) (frzs:∀b o u,H b=some (.frz o u)->H' b=some (.frz o u)) (tbls:∀b ps,H b=some (.tbl ps)->∃more,H' b=some (.tbl (ps++more)))
 (ns:∀m,s.heap.Ns X.env.locals m->h'.Ns X.env.locals m) (hok:HOk X.prog X.w H' h') (hg:AllBare g'):
 Inv X pins Y H' { s with heap:=h',gens:=g',drawn:=d',toks:=t' }:=by
 have neL:∀b o,X.s₀.heap.get? b=some o->b≠X.env.locals:=λb o e=>qQ (qN (qA e) I.ok.above)
 have neC:∀b o,X.s₀.heap.get? b=some o->b∉X.ex->b∉ch:=λb o e hx hb=>by
  rcases(hch b hb).1 with z|z
  .exact hx z
  .exact Qf (qN (qA e) z) (Qm _)
 have cellK:∀x c,X.env.cells.lookup x=some c->∀v,s.heap.IsCell c v->h'.IsCell c v:=λx c e v ⟨o,ho,hd⟩=>by
  have nch:c∉ch:=λz=>(hch c z).2.2.1 x c e U;by_cases hc:c∈X.fs
  .obtain⟨sl,q⟩:=slot c o (I.cne x c e) hc nch ho (I.freeC x c e);exact⟨_,q,hd⟩
  .exact⟨o,keep c o (I.cne x c e) hc nch ho (I.freeC x c e),hd⟩
 refine⟨I.ok,I.os,hg,⟨λb o e n hb hx=>?_,λb o e n hb hx=>?_,λb o e n hx=>?_,λb o e hx=>?_,λb xs e=>tups b xs (I.base.tups b xs e),λb o xs e=>frzs b o xs (I.base.frzs b o xs e),λb ps e=>?_⟩,?_,λx c e=>?_,?_,λx c e=>?_,λp hp=>?_,hok,I.len⟩
 .exact keep b o (neL b o e) hb (neC b o e hx) (I.base.keep b o e n hb hx) (I.base.free b o e n hx)
 .obtain⟨sl,e1⟩:=I.base.slot b o e n hb hx;obtain⟨sl',e2⟩:=slot b _ (neL b o e) hb (neC b o e hx) e1 (I.base.free b o e n hx);exact⟨sl',e2⟩
 .obtain⟨o',e1⟩:=I.base.there b o e hx;exact free b o' (neC b o e hx) e1 (I.base.free b o e n hx)
 .obtain⟨o',e1⟩:=I.base.there b o e hx;exact there b o' (neC b o e hx) e1
 .obtain⟨m1,e1⟩:=I.base.tbls b ps e;obtain⟨m2,e2⟩:=tbls b _ e1;exact⟨m1++m2,by rw[e2,Array.append_assoc]⟩
 .obtain⟨m,hn,hl⟩:=I.loc;refine⟨m,ns m hn,λi x v e1 e2 e3=>?_⟩;obtain⟨u,r,l⟩:=hl i x v e1 e2 e3;refine⟨u,r,?_⟩;rcases l with l|⟨k,c,e,z⟩
  .exact .inl l
  .exact .inr ⟨k,c,e,cellK x c e _ z⟩
 .obtain⟨v,z⟩:=I.cell x c e;exact⟨v,cellK x c e v z⟩
 .obtain⟨m,⟨o,_,_,ho,_⟩,_⟩:=I.loc;exact free _ o (λz=>(hch _ z).2.1 U) ho I.free
 .obtain⟨v,o,ho,hd⟩:=I.cell x c e;exact free c o (λz=>(hch c z).2.2.1 x c e U) ho (I.freeC x c e)
 .obtain⟨e,n,ne,nf,d⟩:=I.pin p hp;have nch:p.1∉ch:=λz=>(hch p.1 z).2.2.2 p hp U;exact⟨keep p.1 p.2 ne nf nch e n,free p.1 p.2 nch e n,ne,nf,d⟩
theorem Inv.un{t':Nat}(I:Inv X pins Y H s)(u:Un X.fs [] H H' s.heap h')(hok:HOk X.prog X.w H' h'):Inv X pins Y H' { s with heap:=h',toks:=t' }:=by
 obtain⟨m,⟨o,es,ep,ho,r⟩,_⟩:=id I.loc;obtain⟨sl,hL⟩:=u.any ho I.free (by simp)
 exact I.step (g':=s.gens) (d':=s.drawn) (ch:=[]) (λ_ z=>nomatch z) (λb o _ hb _ e n=>u.keep b o e n hb (by simp)) (λb o _ hb _ e n=>u.slot b o e n hb (by simp)) (λb o _ e n=>u.free b o e n (by simp)) (λb o _ e=>u.there b o e (by simp)) u.tups u.frzs u.tbls (λm' hm=>by
  obtain⟨o',es',ep',ho',r'⟩:=hm;rw[ho]at ho';cases ho'
  exact⟨_,es',ep',hL,r'⟩) hok I.bare
theorem Inv.call{g':Array GenState}{t':Nat}{d':Drawn}{ch:List Addr}(I:Inv X pins Y H s)(u:Un (frs X.stack) ch H H' s.heap h')(hok:HOk X.prog X.w H' h')(hg:AllBare g')
 (hch:∀b∈ch,(b∈X.ex\/X.s₀.heap.objs.size<=b)/\b≠X.env.locals/\(∀x c,X.env.cells.lookup x=some c->c≠b)/\∀p∈X.pn++pins,p.1≠b):
 Inv X pins Y H' { s with heap:=h',gens:=g',drawn:=d',toks:=t' }:=by
 obtain⟨m,⟨o,es,ep,ho,r⟩,_⟩:=id I.loc;obtain⟨sl,hL⟩:=u.any ho I.free λz=>(hch _ z).2.1 U
 exact I.step (ch:=ch) hch (λb o hL hb hc e n=>u.keep b o e n (λz=>(qF.mp (I.stkSub b z)).elim hL hb) hc) (λb o _ _ hc e n=>u.any e n hc) (λb o hc e n=>u.free b o e n hc) (λb o hc e=>u.there b o e hc) u.tups u.frzs u.tbls (λm' hm=>by
  obtain⟨o',es',ep',ho',r'⟩:=hm;rw[ho]at ho';cases ho'
  exact⟨_,es',ep',hL,r'⟩) hok hg
theorem Inv.turned{t':Nat}{it:Addr}(I:Inv X pins Y H s)(k:∀b o,b≠it->s.heap.get? b=some o->h'.get? b=some o)(hn:H it=none)(hL:it≠X.env.locals)
 (h1:it∈X.ex\/X.s₀.heap.objs.size<=it) (h2:∀x c,X.env.cells.lookup x=some c->c≠it) (h3:∀p∈X.pn++pins,p.1≠it):Inv X pins Y H { s with heap:=h',toks:=t' }:=by
 have nit:∀b u,H b=some u->b≠it:=λb u e z=>by rw[z,hn]at e;cases e
 refine I.step (g':=s.gens) (d':=s.drawn) (ch:=[it]) (λb hb=>?_) (λb o _ _ hc e _=>k b o (λz=>hc (by simp[z])) e) (λb o _ _ hc e _=>⟨o.slots,k b o (λz=>hc (by simp[z])) e⟩) (λ_ _ _ _ n=>n)
  (λb o hc e=>⟨o,k b o (λz=>hc (by simp[z])) e⟩) (λ_ _ e=>e) (λ_ _ _ e=>e) (λb ps e=>⟨#[],by rw[e];simp⟩) (λm hm=>?_) (λb u e=>?_) I.bare
 .have e:b=it:=by simpa using hb
  subst e;exact⟨h1,hL,h2,h3⟩
 .obtain⟨o,es,ep,ho,r⟩:=hm;exact⟨o,es,ep,k _ o (Ne.symm hL) ho,r⟩
 .refine(I.hok b u e).stay (λc v hc q=>k c v ?_ q) (λ_ q=>q) λ_ _ q=>q;rcases hc with z|z
  .rw[z];exact nit b u e
  .exact nit c _ z
theorem Inv.tok(I:Inv X pins Y H s)(t:Nat):Inv X pins Y H { s with toks:=t }:=I.un (h':=s.heap) (t':=t) Un.refl I.hok
theorem Inv.kept{t':Nat}(I:Inv X pins Y H s)(k:∀b u,s.heap.get? b=some u->h'.get? b=some u):Inv X pins Y H { s with heap:=h',toks:=t' }:=I.un (Un.kept k) (I.hok.kept k)
theorem Inv.laid{a:Addr}{o:HO}{t':Nat}(I:Inv X pins Y H s)(k:∀b u,s.heap.get? b=some u->h'.get? b=some u)(hp:s.heap.objs.size<=a)(new:bp X.prog X.w (upd H a o) h' a o):
 Inv X pins Y (upd H a o) { s with heap:=h',toks:=t' }:=I.un (Un.laid k hp (I.hok.fresh hp)) (I.hok.laid k hp new)
theorem Inv.write{x e:Addr}{o:HO}{t':Nat}(I:Inv X pins Y H s)(mu:Mut (H x))(he:e=x\/H e=some (.own x))(k:∀b u,b≠e->s.heap.get? b=some u->h'.get? b=some u)(heo:∃u,h'.get? e=some u)
 (new:bp X.prog X.w (upd H x o) h' x o):Inv X pins Y (upd H x o) { s with heap:=h',toks:=t' }:=I.un (Un.write mu he k heo) (I.hok.write mu he k heo new)
theorem Inv.pins_of{pins':List (Addr×Obj)}(I:Inv X pins Y H s)(h:∀p∈pins',s.heap.get? p.1=some p.2/\H p.1=none/\p.1≠X.env.locals/\p.1∉X.fs/\∀v,p.2.data≠.cell v):Inv X pins' Y H s:=
 ⟨I.ok,I.os,I.bare,I.base,I.loc,I.cell,I.free,I.freeC,λp hp=>(qp.mp hp).elim (λz=>I.pin p (Q7 _ z)) (h p),I.hok,I.len⟩
theorem jk{N:List Str}(hN:N.Nodup){i j:Nat}{x:Str}(a:N[i]?=some x)(b:N[j]?=some x):i=j:=by
 obtain⟨h1,e1⟩:=qj.mp a;obtain⟨h2,e2⟩:=qj.mp b;exact(List.getElem_inj hN).mp (e1.trans e2.symm)
theorem sx{M:Model}{A:Around}{E:Yq}{i:Nat}{x:Str}{v:V}{u:Value}{Q:Unit->Shared->Prop}(I:Inv X pins Y H s)(hN:X.N.Nodup)(hi:X.N[i]?=some x)(hx:Loc X.env.scope x)(r:aF v u)
 (h:∀s',Inv X pins (Y.set i (some v)) H s'->(∃a,Heap.SameBut a s.heap s'.heap/\(a=X.env.locals\/X.env.cells.lookup x=some a))->Q () s') (hf:X.fn x=true\/X.env.scope.names.lookup x=some .local:=by first|exact .inl U|exact .inr U|assumption):wpAny M A (storeName X.env x u) Q E s:=by
 obtain⟨m,hn,hl⟩:=id I.loc;have hcls:(X.env.scope.kind == .class || (X.env.scope.kind == .module && X.env.locals != X.env.globals))=false:=by rw[I.ok.kind];rfl
 have hiY:i<Y.length:=by rw[I.len];exact(qj.mp hi).1
 have cne:=I.cne
 have tracked:∀{a:Addr}{h':Heap},(∃o,s.heap.get? a=some o/\H a=none)->Heap.SameBut a s.heap h'->HOk X.prog X.w H h':=λ{a h'} ha hs b ob e=>by
  obtain⟨_,_,hfree⟩:=ha;refine(I.hok b ob e).stay (λc w' hc q=>(hs.2 c ?_).trans q) (λ_ q=>q) λ_ _ q=>q;rintro rfl;rcases hc with rfl|hc
  .rw[hfree]at e;cases e
  .rw[hfree]at hc;cases hc
 rcases hx with hk|hk
 .refine wpAny_storeName_local hk hn (λh' hn' hs=>?_) hcls;obtain⟨oL,_,_,hoL,_⟩:=id hn;refine h _ ⟨I.ok,I.os,I.bare,⟨λb o e n hb hx=>?_,λb o e n hb hx=>?_,I.base.free,λb o e hx=>?_,I.base.tups,I.base.frzs,I.base.tbls⟩,⟨_,hn',λj y v' e1 e2 e3=>?_⟩,λy c e=>?_,I.free,I.freeC,λp hp=>?_,tracked ⟨oL,hoL,I.free⟩ hs,by simpa using I.len⟩ ⟨_,hs,.inl U⟩
  .exact(hs.2 b (qQ (qN (qA e) I.ok.above))).trans (I.base.keep b o e n hb hx)
  .obtain⟨sl,e1⟩:=I.base.slot b o e n hb hx;exact⟨sl,(hs.2 b (qQ (qN (qA e) I.ok.above))).trans e1⟩
  .obtain⟨o',e1⟩:=I.base.there b o e hx;exact⟨o',(hs.2 b (qQ (qN (qA e) I.ok.above))).trans e1⟩
  .by_cases hj:j=i
   .subst hj;rw[hi]at e1;cases e1;rw[List.getElem?_set_self hiY]at e2;cases e2;exact⟨u,r,.inl ⟨hk,by simp⟩⟩
   .rw[List.getElem?_set_ne (Ne.symm hj)]at e2;obtain⟨u',r',q⟩:=hl j y v' e1 e2 e3;refine⟨u',r',?_⟩;rcases q with⟨k,e⟩|⟨k,c,e,z⟩
    .refine .inl ⟨k,?_⟩;have:y≠x:=λe=>hj (jk hN e1 (e▸hi));simp[this,e]
    .exact .inr ⟨k,c,e,z.sameBut hs (cne y c e)⟩
  .obtain⟨w',z⟩:=I.cell y c e;exact⟨w',z.sameBut hs (cne y c e)⟩
  .obtain⟨e,n,ne,nf,d⟩:=I.pin p hp;exact⟨(hs.2 p.1 ne).trans e,n,ne,nf,d⟩
 .have hfn:X.fn x=true:=by
   rcases hf with z|z
   .exact z
   .rw[z]at hk;cases hk
  obtain⟨c,hc⟩:=I.ok.has x (.inl hk);obtain⟨w',z⟩:=I.cell x c hc;refine wpAny_storeName_cell I.ok.kind hk hc z (λh' hc' hs=>?_);obtain⟨oc,hoc,hocd⟩:=id z;refine h { s with heap:=h' } ⟨I.ok,I.os,I.bare,⟨λb o e n hb hx=>?_,λb o e n hb hx=>?_,I.base.free,λb o e hx=>?_,I.base.tups,I.base.frzs,I.base.tbls⟩,⟨m,hn.sameBut hs (Ne.symm (cne x c hc)),λj y v' e1 e2 e3=>?_⟩,λy c' e=>?_,I.free,I.freeC,λp hp=>?_,tracked ⟨oc,hoc,I.freeC x c hc⟩ hs,by simpa using I.len⟩ ⟨c,hs,.inr hc⟩
  .exact(hs.2 b (qQ (qN (qA e) (I.ok.cab x c hfn hc)))).trans (I.base.keep b o e n hb hx)
  .obtain⟨sl,e1⟩:=I.base.slot b o e n hb hx;exact⟨sl,(hs.2 b (qQ (qN (qA e) (I.ok.cab x c hfn hc)))).trans e1⟩
  .obtain⟨o',e1⟩:=I.base.there b o e hx;exact⟨o',(hs.2 b (qQ (qN (qA e) (I.ok.cab x c hfn hc)))).trans e1⟩
  .by_cases hj:j=i
   .subst hj;rw[hi]at e1;cases e1;rw[List.getElem?_set_self hiY]at e2;cases e2;exact⟨u,r,.inr ⟨.inl hk,c,hc,hc'⟩⟩
   .rw[List.getElem?_set_ne (Ne.symm hj)]at e2;obtain⟨u',r',q⟩:=hl j y v' e1 e2 e3;refine⟨u',r',?_⟩;rcases q with q|⟨k,c',e,z'⟩
    .exact .inl q
    .refine .inr ⟨k,c',e,z'.sameBut hs ?_⟩;rintro rfl;exact hj (jk hN e1 (I.ok.inj _ _ _ e hc▸hi))
  .by_cases hcc:c'=c
   .subst hcc;exact⟨_,hc'⟩
   .obtain⟨w2,z2⟩:=I.cell y c' e;exact⟨w2,z2.sameBut hs hcc⟩
  .obtain⟨e,n,ne,nf,d⟩:=I.pin p hp;refine⟨(hs.2 p.1 ?_).trans e,n,ne,nf,d⟩;intro q;rw[q,hoc]at e;have q':oc=p.2:=qT e;exact d w' (by rw[<- q'];exact hocd)
theorem iV{M:Model}{A:Around}{E:Yq}{i:Nat}{x:Str}{v:V}{u:Value}{Q:Unit->Shared->Prop}(I:Inv X pins Y H s)(hN:X.N.Nodup)(hi:X.N[i]?=some x)(hx:Loc X.env.scope x)(r:aF v u)
 (h:∀s',Inv X pins (Y.set i (some v)) H s'->Q () s') (hf:X.fn x=true\/X.env.scope.names.lookup x=some .local:=by first|exact .inl U|exact .inr U|assumption):wpAny M A (storeName X.env x u) Q E s:=
 sx I hN hi hx r (λs' I' _=>h s' I') hf
theorem Inv.call'{s':Shared}{ch:List Addr}(I:Inv X pins Y H s)(ho:s'.os=s.os)(u:Un (frs X.stack) ch H H' s.heap s'.heap)(hok:HOk X.prog X.w H' s'.heap)(hg:AllBare s'.gens)
 (hch:∀b∈ch,(b∈X.ex\/X.s₀.heap.objs.size<=b)/\b≠X.env.locals/\(∀x c,X.env.cells.lookup x=some c->c≠b)/\∀p∈X.pn++pins,p.1≠b):Inv X pins Y H' s':=by
 obtain⟨h',g',d',t',o'⟩:=s';have e:o'=s.os:=ho;subst e;exact I.call (g':=g') (t':=t') (d':=d') u hok hg hch
end
abbrev XK:=Value->Option Addr->Hp->Prop
abbrev St:=List (Option V)
abbrev VK:=V->Hp->Prop
abbrev TE:=St->Hp->VK->Prop
abbrev TT:=St->Hp->(Bool->Hp->Prop)->Prop
abbrev TA:=St->Hp->(List V->Hp->Prop)->Prop
structure fG where
 nx:St->Hp->Prop
 rt:VK
 bk:St->Hp->Prop:=λ_ _=>False
 ct:St->Hp->Prop:=λ_ _=>False
abbrev TS:=fG->St->Hp->Prop
def EP(X:Cx)(pins:List (Addr×Obj))(Y:St)(Q:VK)(u:Value)(s':Shared):Prop:=∃v H',Inv X pins Y H' s'/\aF v u/\Q v H'
def TP(X:Cx)(pins:List (Addr×Obj))(Y:St)(Q:Bool->Hp->Prop)(b:Bool)(s':Shared):Prop:=∃H',Inv X pins Y H' s'/\Q b H'
def AP(X:Cx)(pins:List (Addr×Obj))(Y:St)(Q:List V->Hp->Prop)(us:List Value)(s':Shared):Prop:=∃vs H',Inv X pins Y H' s'/\aw vs us/\Q vs H'
def SP(X:Cx)(pins:List (Addr×Obj))(D:fG)(f:Flow)(s':Shared):Prop:=
 match f with
 |.next=>∃Y' H',Inv X pins Y' H' s'/\D.nx Y' H'
 |.brk=>∃Y' H',Inv X pins Y' H' s'/\D.bk Y' H'
 |.cont=>∃Y' H',Inv X pins Y' H' s'/\D.ct Y' H'
 |.ret u=>∃v Y' H',Inv X pins Y' H' s'/\aF v u/\D.rt v H'
def PE(X:Cx)(e:Expr)(t:TE):Prop:=
 ∀(pins:List (Addr×Obj))(s:Shared)(Y:St)(H:Hp)(Q:VK),Inv X pins Y H s->t Y H Q->wpAny (model X.prog X.w) X.A (eval e X.env) (EP X pins Y Q) X.xe s
def PT(X:Cx)(e:Expr)(t:TT):Prop:=
 ∀(pins:List (Addr×Obj))(s:Shared)(Y:St)(H:Hp)(Q:Bool->Hp->Prop),Inv X pins Y H s->t Y H Q->wpAny (model X.prog X.w) X.A (isTrue e X.env (eval e X.env)) (TP X pins Y Q) X.xe s
def PW(X:Cx)(e:Expr)(t:TT):Prop:=
 ∀(whole:Sem Value)(pins:List (Addr×Obj))(s:Shared)(Y:St)(H:Hp)(Q:Bool->Hp->Prop),Inv X pins Y H s->t Y H Q->wpAny (model X.prog X.w) X.A (isTrue e X.env whole) (TP X pins Y Q) X.xe s
theorem PW.pt{X:Cx}{e:Expr}{t:TT}(h:PW X e t):PT X e t:=h _
def PA(X:Cx)(es:List Expr)(t:TA):Prop:=
 ∀(pos:Pos)(pins:List (Addr×Obj))(s:Shared)(Y:St)(H:Hp)(Q:List V->Hp->Prop),Inv X pins Y H s->t Y H Q->wpAny (model X.prog X.w) X.A (spliced (backTo pos (starEach es X.env))) (AP X pins Y Q) X.xe s
def PS(X:Cx)(st:Stmt)(t:TS):Prop:=
 ∀(pins:List (Addr×Obj))(s:Shared)(Y:St)(H:Hp)(D:fG),Inv X pins Y H s->t D Y H->wpAny (model X.prog X.w) X.A (exec st X.env) (SP X pins D) X.xe s
def PSs(X:Cx)(st:List Stmt)(t:TS):Prop:=
 ∀(pins:List (Addr×Obj))(s:Shared)(Y:St)(H:Hp)(D:fG),Inv X pins Y H s->t D Y H->wpAny (model X.prog X.w) X.A (execs st X.env) (SP X pins D) X.xe s
theorem thn{α:Type}{t:Sem α}{Q Q':α->Shared->Prop}{M:Model}{A:Around}{E:Yq}{s:Shared}(h:wpAny M A t Q E s)(hQ:∀a s,Q a s->Q' a s):wpAny M A t Q' E s:=wpAny_mono h hQ λ_ _ x=>x
section
variable {X:Cx}
theorem bin{a b:Expr}{ta tb:TE}(ha:PE X a ta)(hb:PE X b tb){pins:List (Addr×Obj)}{s:Shared}{Y:St}{H:Hp}{R:V->V->Hp->Prop}(I:Inv X pins Y H s)(h:ta Y H λx H1=>tb Y H1 λy H2=>R x y H2)
 {α:Type}{Q:α->Shared->Prop}{f:Value->Value->Sem α}
 (hf:∀v u s2 x y H2,Inv X pins Y H2 s2->aF x v->aF y u->R x y H2->wpAny (model X.prog X.w) X.A (f v u) Q X.xe s2):
 wpAny (model X.prog X.w) X.A (eval a X.env) (λv s₁=>wpAny (model X.prog X.w) X.A (eval b X.env) (λu s₂=>wpAny (model X.prog X.w) X.A (f v u) Q X.xe s₂) X.xe s₁) X.xe s:=by
 refine thn (ha pins s Y H _ I h) λv s1 ⟨x,H1,I1,r1,q1⟩=>?_;refine thn (hb pins s1 Y H1 _ I1 q1) λu s2 ⟨y,H2,I2,r2,q2⟩=>?_;exact hf v u s2 x y H2 I2 r1 r2 q2
def rV(i:Nat):TE:=λY H Q=>∃v,Y[i]?=some (some v)/\Q v H
def tC(v:V):TE:=λ_ H Q=>Q v H
theorem C2{i:Nat}{x:Str}{pos:Pos}(hN:X.N[i]?=some x)(hv:Vis X.env.scope x)(hd:(x == ("__debug__":Str))=false:=by decide)(hcd:(x == ("__classdict__":Str))=false:=by decide):PE X (.Name x pos) (rV i):=by
 intro pins s Y H Q I h;obtain⟨v,e,h⟩:=h;obtain⟨m,hn,hl⟩:=I.loc;obtain⟨u,r,l⟩:=hl i x v hN e hv;have fin:EP X pins Y Q u s:=⟨v,H,I,r,h⟩;rcases l with⟨hk,hm⟩|⟨hk,c,hc,hcell⟩
 .exact wpAny_Name (wpAny_loadName_local I.ok.kind hk hn hm fin) hd
 .rcases hk with hk|hk
  .exact wpAny_Name (wpAny_loadName_cell I.ok.kind hk hc hcell fin) hd
  .exact wpAny_Name (wpAny_loadName_free I.ok.kind hk hc hcell fin hcd) hd
theorem ac{i j pos}:PE X (.Constant (.int i) j pos) (tC (.int i)):=λ_ _ _ H _ I h=>wpAny_Constant_int ⟨.int i,H,I.tok _,⟨_,U⟩,h⟩
theorem bZ{b j pos}:PE X (.Constant (.bool b) j pos) (tC (.bl b)):=λ_ _ _ H _ I h=>Constant_bool ⟨.bl b,H,I,U,h⟩
theorem cr{j pos}:PE X (.Constant .none j pos) (tC .non):=λ_ _ _ H _ I h=>Constant_none ⟨.non,H,I,U,h⟩
theorem aP{x j pos}:PE X (.Constant (.str x) j pos) (tC (.str x)):=λ_ _ _ H _ I h=>Calls.Constant_str ⟨.str x,H,I.tok _,⟨_,U⟩,h⟩
def Gl(X:Cx)(x:Str):Prop:=X.env.kindOf x=some .globalImplicit
theorem jq{E:Yq}{pins:List (Addr×Obj)}{s:Shared}{Y:St}{H:Hp}{x:Str}{u:Value}{pos:Pos}{Q:Yq}(I:Inv X pins Y H s)(hg:Gl X x)(hm:X.mg x=some u)(h:Q u s)
 (hd:(x == ("__debug__":Str))=false:=by decide):wpAny (model X.prog X.w) X.A (eval (.Name x pos) X.env) Q E s:=
 Calls.Name_function_global I.ok.kind hg (Calls.loadGlobal_global (by rw[I.ok.glob];exact I.mod.glob.keeps I.bk) hm h) hd
theorem fk{E:Yq}{pins:List (Addr×Obj)}{s:Shared}{Y:St}{H:Hp}{x:Str}{u:Value}{pos:Pos}{Q:Yq}(I:Inv X pins Y H s)(hg:Gl X x)(hm:X.mg x=none)(hv:bootBuiltins x=some u)(h:Q u s)
 (hn:x≠"__name__":=by decide) (hd:(x == ("__debug__":Str))=false:=by decide):wpAny (model X.prog X.w) X.A (eval (.Name x pos) X.env) Q E s:=by
 obtain⟨mb,h1,h2⟩:=I.mod.blt;exact Calls.Name_function_global I.ok.kind hg (Calls.loadGlobal_builtin (by rw[I.ok.glob];exact I.mod.glob.keeps I.bk) hm (by rw[I.ok.blt];exact h1.keeps I.bk) ((h2 x hn).trans hv) h) hd
theorem eJ{x:Str}{v:V}{u:Value}{pos:Pos}(hg:Gl X x)(hm:X.mg x=some u)(r:aF v u)(hd:(x == ("__debug__":Str))=false:=by decide):PE X (.Name x pos) (tC v):=
 λ_ _ _ H _ I h=>jq I hg hm ⟨v,H,I,r,h⟩ hd
theorem eX{x:Str}{v:V}{u:Value}{pos:Pos}(hg:Gl X x)(hm:X.mg x=none)(hv:bootBuiltins x=some u)(r:aF v u)(hn:x≠"__name__":=by decide)(hd:(x == ("__debug__":Str))=false:=by decide):PE X (.Name x pos) (tC v):=
 λ_ _ _ H _ I h=>fk I hg hm hv ⟨v,H,I,r,h⟩ hn hd
variable {a b:Expr}{ta tb:TE}{pos:Pos}
def PC(X:Cx)(op:CmpOp)(a b:Expr)(t:TE):Prop:=
 ∀(pins:List (Addr×Obj))(s:Shared)(Y:St)(H:Hp)(Q:VK),Inv X pins Y H s->t Y H Q->
  wpAny (model X.prog X.w) X.A (eval a X.env) (λv s₁=>wpAny (model X.prog X.w) X.A (eval b X.env) (λu s₂=>wpAny (model X.prog X.w) X.A (compareOp op v u) (EP X pins Y Q) X.xe s₂) X.xe s₁) X.xe s
def tB(t:TE):TT:=λY H Q=>t Y H λx H1=>∃c,x=.bl c/\Q c H1
theorem Gq{op:CmpOp}{t:TE}(h:PC X op a b t)(h1:behindInMarks op b=false:=by first|exact nobehind _ Yk Yk|rfl):PT X (.Compare a [op] [b] pos) (tB t):=by
 intro pins s Y H Q I hw;refine wpAny_isTrue_Compare1 (thn (h pins s Y H _ I hw) λv s1 h1=>thn h1 λu s2 h2=>thn h2 λc s3 ⟨x,H1,I1,r1,q1⟩=>?_) h1;obtain⟨d,rfl,q⟩:=q1;cases r1;exact wpAny_truthy_bool ⟨H1,I1,q⟩
theorem BG{e:Expr}{t:TE}(h:PE X e t)(he:∀whole,isTrue e X.env whole=(do let v <- whole;standAt e.pos;holding [v] (truthy v)):=by intro _;rfl):PT X e (tB t):=by
 intro pins s Y H Q I hw;refine isTrue_plain (thn (h pins s Y H _ I hw) λv s1 ⟨x,H1,I1,r1,q1⟩=>?_) (he _);obtain⟨d,rfl,q⟩:=q1;cases r1;exact wpAny_truthy_bool ⟨H1,I1,q⟩
variable {tA tB':TT}{rest:List Expr}
def zd(t u:TT):TT:=λY H Q=>t Y H λc H1=>if c=true then u Y H1 Q else Q false H1
def tOr(t u:TT):TT:=λY H Q=>t Y H λc H1=>if c=true then Q true H1 else u Y H1 Q
def yL(t:TT):TT:=λY H Q=>t Y H λc H1=>Q (!c) H1
theorem gc(ha:PT X a tA):PW X (.BoolOp .And [a] pos) tA:=by
 intro wh pins s Y H Q I h;refine isTrue_and (thn (ha pins s Y H Q I h) λc s1 e=>?_)
 cases c with
 |true=>exact isTrue_and_nil e
 |false=>exact e
theorem eU(ha:PT X a tA):PW X (.BoolOp .Or [a] pos) tA:=by
 intro wh pins s Y H Q I h;refine isTrue_or (thn (ha pins s Y H Q I h) λc s1 e=>?_)
 cases c with
 |false=>exact isTrue_or_nil e
 |true=>exact e
theorem fg(ha:PT X a tA)(hb:PW X (.BoolOp .And (b::rest) pos) tB'):PW X (.BoolOp .And (a::b::rest) pos) (zd tA tB'):=by
 intro wh pins s Y H Q I h;refine isTrue_and (thn (ha pins s Y H _ I h) λc s1 ⟨H1,I1,q1⟩=>?_)
 cases c with
 |true=>exact hb wh pins s1 Y H1 Q I1 q1
 |false=>exact⟨H1,I1,q1⟩
theorem dF(ha:PT X a tA)(hb:PW X (.BoolOp .Or (b::rest) pos) tB'):PW X (.BoolOp .Or (a::b::rest) pos) (tOr tA tB'):=by
 intro wh pins s Y H Q I h;refine isTrue_or (thn (ha pins s Y H _ I h) λc s1 ⟨H1,I1,q1⟩=>?_)
 cases c with
 |true=>exact⟨H1,I1,q1⟩
 |false=>exact hb wh pins s1 Y H1 Q I1 q1
theorem dg(ha:PT X a tA):PT X (.UnaryOp .Not a pos) (yL tA):=by
 intro pins s Y H Q I h;exact isTrue_not (ha pins s Y H (λc H1=>Q (!c) H1) I h)
def zc(ta tb:TE):TE:=λY H Q=>ta Y H λx H1=>∃c,x=.bl c/\if c=true then tb Y H1 Q else Q (.bl false) H1
def yJ(ta tb:TE):TE:=λY H Q=>ta Y H λx H1=>∃c,x=.bl c/\if c=true then Q (.bl true) H1 else tb Y H1 Q
def yK(ta:TE):TE:=λY H Q=>ta Y H λx H1=>∃c,x=.bl c/\Q (.bl (!c)) H1
theorem gj{op}{t:TE}(h:PE X a t):PE X (.BoolOp op [a] pos) t:=λpins s Y H Q I hw=>BoolOp_one (h pins s Y H Q I hw)
theorem gM(ha:PE X a ta)(hb:PE X (.BoolOp .And (b::rest) pos) tb):PE X (.BoolOp .And (a::b::rest) pos) (zc ta tb):=by
 intro pins s Y H Q I h;refine BoolOp_and (thn (ha pins s Y H _ I h) λv s1 ⟨x,H1,I1,r1,q1⟩=>?_);obtain⟨c,rfl,q1⟩:=q1;cases r1;refine wpAny_truthy_bool ?_
 cases c with
 |true=>exact hb pins s1 Y H1 Q I1 q1
 |false=>exact⟨.bl false,H1,I1,U,q1⟩
theorem uT(ha:PE X a ta)(hb:PE X (.BoolOp .Or (b::rest) pos) tb):PE X (.BoolOp .Or (a::b::rest) pos) (yJ ta tb):=by
 intro pins s Y H Q I h;refine BoolOp_or (thn (ha pins s Y H _ I h) λv s1 ⟨x,H1,I1,r1,q1⟩=>?_);obtain⟨c,rfl,q1⟩:=q1;cases r1;refine wpAny_truthy_bool ?_
 cases c with
 |false=>exact hb pins s1 Y H1 Q I1 q1
 |true=>exact⟨.bl true,H1,I1,U,q1⟩
theorem C4(ha:PE X a ta):PE X (.UnaryOp .Not a pos) (yK ta):=by
 intro pins s Y H Q I h;refine UnaryOp_ (thn (ha pins s Y H _ I h) λv s1 ⟨x,H1,I1,r1,q1⟩=>?_);obtain⟨c,rfl,q1⟩:=q1;cases r1;exact not_of (wpAny_truthy_bool ⟨.bl (!c),H1,I1,U,q1⟩)
def tIf(t:TT)(ta tb:TE):TE:=λY H Q=>t Y H λc H1=>if c=true then ta Y H1 Q else tb Y H1 Q
theorem eI{c:Expr}(hc:PT X c tA)(ha:PE X a ta)(hb:PE X b tb):PE X (.IfExp c a b pos) (tIf tA ta tb):=by
 intro pins s Y H Q I h;refine wpAny_IfExp (thn (hc pins s Y H _ I h) λd s1 ⟨H1,I1,q1⟩=>?_)
 cases d with
 |true=>exact ha pins s1 Y H1 Q I1 q1
 |false=>exact hb pins s1 Y H1 Q I1 q1
end
def SqL(K:W.Frag)(H:Hp)(a:Addr)(xs:List V):Prop:=
 Rd H a (.lst xs) \/
  ∃(o:Obj)(its:Array Value)(n:Nat),K.lookup a=some o/\o.cls=.type "list"/\o.dict=none/\o.data=.seq its n/\its.size<=sizeLine/\aw xs its.toList
def SqT(K:W.Frag)(H:Hp)(a:Addr)(xs:List V):Prop:=
 Rd H a (.tup xs) \/
  ∃(o:Obj)(its:Array Value)(n:Nat),K.lookup a=some o/\o.cls=.type "tuple"/\o.data=.seq its n/\its.size<=sizeLine/\aw xs its.toList
noncomputable def Gh:Value->Option V
 |.none=>some .non
 |.bool b=>some (.bl b)
 |.int i _=>some (.int i)
 |.str x _=>some (.str x)
 |.bytes b _=>some (.byt b)
 |.float b _=>some (.flt b)
 |.ref a=>some (.ref a)
 |.type n=>some (.ty n)
 |_=>none
theorem aF.abs{x:V}{u:Value}(r:aF x u):Gh u=some x:=by
 cases x with
 |non=>cases r;rfl
 |bl _=>cases r;rfl
 |int _=>obtain⟨t,rfl⟩:=r;rfl
 |str _=>obtain⟨t,rfl⟩:=r;rfl
 |byt _=>obtain⟨t,rfl⟩:=r;rfl
 |flt _=>obtain⟨t,rfl⟩:=r;rfl
 |ref _=>cases r;rfl
 |ty _=>cases r;rfl
theorem aF.inj{x y:V}{u:Value}(r:aF x u)(q:aF y u):x=y:=qT (r.abs.symm.trans q.abs)
theorem aw.inj:∀{xs ys:List V}{us:List Value},aw xs us->aw ys us->xs=ys
 |_,_,_,.nil,.nil=>rfl
 |_,_,_,.cons r t,.cons r' t'=>by rw[r.inj r',aw.inj t t']
section
variable {X:Cx}{pins:List (Addr×Obj)}{Y:St}{H:Hp}{s:Shared}{a:Addr}{xs ys:List V}
theorem SqL.of{K:W.Frag}(h:H a=some (.lst xs)):SqL K H a xs:=.inl (.inl h)
theorem SqT.of{K:W.Frag}(h:H a=some (.tup xs)):SqT K H a xs:=.inl (.inl h)
theorem Inv.list(I:Inv X pins Y H s)(h:SqL X.K H a xs):∃its:List Value,aw xs its/\PlainL s.heap a its.toArray/\xs.length<=sizeLine:=by
 rcases h with h|⟨o,its,n,hk,hc,hd,hs,hz,r⟩
 .obtain⟨z,its,n,r,e⟩:=h.ok I.hok;exact⟨its,r,⟨_,n,e,U,U,U⟩,z⟩
 .refine⟨its.toList,r,⟨o,n,I.kIn a o hk,hc,hd,by simpa using hs⟩,?_⟩;have e:=r.length;simp only[qW]at e;omega
theorem Inv.tuple(I:Inv X pins Y H s)(h:SqT X.K H a xs):∃its:List Value,aw xs its/\IsTup s.heap a its.toArray/\xs.length<=sizeLine:=by
 rcases h with h|⟨o,its,n,hk,hc,hs,hz,r⟩
 .obtain⟨z,its,r,p⟩:=h.ok I.hok;exact⟨its,r,p,z⟩
 .refine⟨its.toList,r,⟨o,I.kIn a o hk,hc,n,by simpa using hs⟩,?_⟩;have e:=r.length;simp only[qW]at e;omega
theorem Inv.list_inj(I:Inv X pins Y H s)(h:SqL X.K H a xs)(h':SqL X.K H a ys):xs=ys:=by
 obtain⟨its,r,⟨o,n,e,_,_,d⟩,_⟩:=I.list h;obtain⟨its',r',⟨o',n',e',_,_,d'⟩,_⟩:=I.list h';rw[e]at e';cases e';rw[d]at d';injection d' with d1 _;have:its=its':=by simpa using congrArg Array.toList d1
 subst this;exact r.inj r'
theorem Inv.tuple_inj(I:Inv X pins Y H s)(h:SqT X.K H a xs)(h':SqT X.K H a ys):xs=ys:=by
 obtain⟨its,r,⟨o,e,_,n,d⟩,_⟩:=I.tuple h;obtain⟨its',r',⟨o',e',_,n',d'⟩,_⟩:=I.tuple h';rw[e]at e';cases e';rw[d]at d';injection d' with d1 _;have:its=its':=by simpa using congrArg Array.toList d1
 subst this;exact r.inj r'
end
noncomputable abbrev Cx.wish(X:Cx)(E:Yq):Cx:={ X with xe:=E }
noncomputable abbrev Cx.nox(X:Cx):Cx:=X.wish λ_ _=>False
theorem Cx.Ok.wish{X:Cx}(ok:X.Ok)(E:Yq):(X.wish E).Ok:=
 ⟨ok.mod,ok.kind,ok.glob,ok.blt,ok.above,ok.inj,ok.has,ok.cab,ok.hd,ok.frames,ok.stk,ok.exf,ok.bs,ok.bsz,ok.noex,ok.exfs,ok.funs,ok.frf⟩
theorem Cx.Ok.unwish{X:Cx}{E:Yq}(ok:(X.wish E).Ok):X.Ok:=
 ⟨ok.mod,ok.kind,ok.glob,ok.blt,ok.above,ok.inj,ok.has,ok.cab,ok.hd,ok.frames,ok.stk,ok.exf,ok.bs,ok.bsz,ok.noex,ok.exfs,ok.funs,ok.frf⟩
section
variable {X:Cx}{pins:List (Addr×Obj)}{Y:St}{H:Hp}{s:Shared}{E:Yq}
theorem Inv.wish(I:Inv X pins Y H s)(E:Yq):Inv (X.wish E) pins Y H s:=⟨I.ok.wish E,I.os,I.bare,I.base,I.loc,I.cell,I.free,I.freeC,I.pin,I.hok,I.len⟩
theorem Inv.unwish(I:Inv (X.wish E) pins Y H s):Inv X pins Y H s:=⟨I.ok.unwish,I.os,I.bare,I.base,I.loc,I.cell,I.free,I.freeC,I.pin,I.hok,I.len⟩
theorem SP.unwish{D:fG}{f:Flow}{s':Shared}(h:SP (X.wish E) pins D f s'):SP X pins D f s':=by
 cases f with
 |next=>obtain⟨Y',H',I,q⟩:=h;exact⟨Y',H',I.unwish,q⟩
 |brk=>obtain⟨Y',H',I,q⟩:=h;exact⟨Y',H',I.unwish,q⟩
 |cont=>obtain⟨Y',H',I,q⟩:=h;exact⟨Y',H',I.unwish,q⟩
 |ret u=>obtain⟨v,Y',H',I,r,q⟩:=h;exact⟨v,Y',H',I.unwish,r,q⟩
theorem PSs.nox{st:List Stmt}{t:TS}(h:PSs X.nox st t):PSs X st t:=λpins s Y H D I hw=>
 wpAny_mono (h pins s Y H D (I.wish _) hw) (λ_ _ q=>q.unwish) λ_ _ z=>False.elim z
end
section
variable {X:Cx}{st:Stmt}{rest:List Stmt}{t u:TS}{e:Expr}{te:TE}{pos:Pos}
def fb:TS:=λD Y H=>D.nx Y H
def rW(t u:TS):TS:=λD Y H=>t { D with nx:=u D } Y H
theorem aO:PSs X [] fb:=λ_ _ Y H _ I h=>wpAny_execs_nil ⟨Y,H,I,h⟩
theorem ah(h1:PS X st t)(h2:PSs X rest u):PSs X (st::rest) (rW t u):=by
 intro pins s Y H D I h;refine wpAny_execs_cons (thn (h1 pins s Y H { D with nx:=u D } I h) λf s1 q=>?_)
 cases f with
 |next=>
  obtain⟨Y',H',I',q⟩:=q;exact h2 pins s1 Y' H' D I' q
 |ret v=>exact q
 |brk=>exact q
 |cont=>exact q
theorem aj(h1:PS X st t):PSs X [st] t:=by
 intro pins s Y H D I h;refine wpAny_execs_cons (thn (h1 pins s Y H D I h) λf s1 q=>?_)
 cases f with
 |next=>exact wpAny_execs_nil q
 |ret v=>exact q
 |brk=>exact q
 |cont=>exact q
theorem Inv.quiet{pins:List (Addr×Obj)}{Y:St}{H:Hp}{s:Shared}(I:Inv X pins Y H s):interactive X.env=false:=by simp[interactive,I.ok.kind]
def yV(te:TE):TS:=λD Y H=>te Y H λ_ H1=>D.nx Y H1
theorem bK(he:PE X e te)(hs:swapsWith e none pos.line X.env=pure false:=by rfl):PS X (.Expr e pos) (yV te):=by
 intro pins s Y H D I h;exact wpAny_Expr_any (thn (he pins s Y H _ I h) λv s1 ⟨x,H1,I1,r1,q1⟩=>⟨Y,H1,I1,q1⟩) I.quiet hs
def yG(te:TE):TS:=λD Y H=>te Y H D.rt
theorem ar(he:PE X e te):PS X (.Return (some e) pos) (yG te):=by
 intro pins s Y H D I h;exact wpAny_Return_some (thn (he pins s Y H _ I h) λv s1 ⟨x,H1,I1,r1,q1⟩=>⟨x,Y,H1,I1,r1,q1⟩)
def yQ(c:TT)(t u:TS):TS:=λD Y H=>c Y H λb H1=>if b=true then t D Y H1 else u D Y H1
theorem aI{c:Expr}{a b:List Stmt}{tc:TT}(hc:PT X c tc)(ha:PSs X a t)(hb:PSs X b u):PS X (.If c a b pos) (yQ tc t u):=by
 intro pins s Y H D I h;refine wpAny_If (thn (hc pins s Y H _ I h) λd s1 ⟨H1,I1,q1⟩=>?_)
 cases d with
 |true=>exact ha pins s1 Y H1 D I1 q1
 |false=>exact hb pins s1 Y H1 D I1 q1
end
abbrev TG:=V->St->Hp->(St->Hp->Prop)->Prop
abbrev TGs:=List V->St->Hp->(St->Hp->Prop)->Prop
def PG(X:Cx)(target:Expr)(t:TG):Prop:=
 ∀(pins:List (Addr×Obj))(s:Shared)(Y:St)(H:Hp)(v:V)(u:Value)(Q:St->Hp->Prop),Inv X pins Y H s->aF v u->t v Y H Q->
  wpAny (model X.prog X.w) X.A (assign target X.env u) (λ_ s'=>∃Y' H',Inv X pins Y' H' s'/\Q Y' H') X.xe s
def PGs(X:Cx)(ts:List Expr)(t:TGs):Prop:=
 ∀(pins:List (Addr×Obj))(s:Shared)(Y:St)(H:Hp)(vs:List V)(us:List Value)(Q:St->Hp->Prop),Inv X pins Y H s->aw vs us->t vs Y H Q->
  wpAny (model X.prog X.w) X.A (assignInOrder ((assignEach ts X.env).map (·.2)) us) (λ_ s'=>∃Y' H',Inv X pins Y' H' s'/\Q Y' H') X.xe s
abbrev pZ:=V->V->V->Hp->(Hp->Prop)->Prop
def xA(X:Cx)(t:pZ):Prop:=
 ∀(pins:List (Addr×Obj))(s:Shared)(Y:St)(H:Hp)(o i v:V)(ov iv u:Value)(Q:Hp->Prop),Inv X pins Y H s->aF o ov->aF i iv->aF v u->t o i v H Q->
  wpAny (model X.prog X.w) X.A (setItem ov iv u) (λ_ s'=>∃H',Inv X pins Y H' s'/\Q H') X.xe s
section
variable {X:Cx}{pos:Pos}
def dL(i:Nat):TG:=λv Y H Q=>Q (Y.set i (some v)) H
theorem aW{i:Nat}{x:Str}(hN:X.N.Nodup)(hi:X.N[i]?=some x)(hx:Loc X.env.scope x)(hf:X.fn x=true\/X.env.scope.names.lookup x=some .local:=by first|exact .inl U|exact .inr U|assumption):PG X (.Name x pos) (dL i):=by
 intro pins s Y H v u Q I r h;exact wpAny_assign_Name (iV I hN hi hx r (λs' I'=>⟨_,H,I',h⟩) hf)
def EL:TGs:=λvs Y H Q=>vs=[]/\Q Y H
def EM(t:TG)(u:TGs):TGs:=λvs Y H Q=>∃v r,vs=v::r/\t v Y H λY' H'=>u r Y' H' Q
theorem ix:PGs X [] EL:=by
 intro pins s Y H vs us Q I r h;obtain⟨e,h⟩:=h;subst e;cases r;exact assignInOrder_nil ⟨Y,H,I,h⟩
theorem dG{e:Expr}{es:List Expr}{t:TG}{u:TGs}(h1:PG X e t)(h2:PGs X es u)
 (hs:(assignEach (e::es) X.env).map (·.2)=assign e X.env::(assignEach es X.env).map (·.2):=by rfl):PGs X (e::es) (EM t u):=by
 intro pins s Y H vs us Q I r h;obtain⟨v,vr,e1,h⟩:=h;subst e1
 cases r with
 |cons r rr=>
  rw[hs];refine assignInOrder_cons (thn (h1 pins s Y H _ _ _ I r h) λ_ s1 ⟨Y1,H1,I1,q1⟩=>?_);exact h2 pins s1 Y1 H1 _ _ Q I1 rr q1
def wf(K:W.Frag)(n:Nat)(t:TGs):TG:=λv Y H Q=>∃a xs,v=.ref a/\SqT K H a xs/\xs.length=n/\t xs Y H Q
theorem iz{es:List Expr}{k:Nat}{t:TGs}{n:Nat}(hc:X.calm=true)(h:PGs X es t)
 (hn:(assignEach es X.env).length=n:=by rfl) (hst:(assignEach es X.env).findIdx? (·.1)=none:=by rfl):PG X (.Tuple es k pos) (wf X.K n t):=by
 intro pins s Y H v u Q I r hw;obtain⟨a,xs,e1,hq,hl,hw⟩:=hw;subst e1;cases r;obtain⟨its,rv,ht,hz⟩:=I.tuple hq;refine assign_Tuple_tuple (I.ok.hd hc) ht (by simp[hn,<- hl,rv.length]) hst λh' hx=>?_;have I1:Inv X pins Y H { s with heap:=h' }:=I.kept (t':=s.toks) λb o e=>hx b o (qQ (qA e)) e;exact h pins _ Y H xs _ Q I1 (by simpa using rv) hw
def EK(to ti:TE)(t:pZ):TG:=λv Y H Q=>to Y H λo H1=>ti Y H1 λi H2=>t o i v H2 λH3=>Q Y H3
theorem uR{o i:Expr}{to ti:TE}{t:pZ}(ho:PE X o to)(hi:PE X i ti)(hs:xA X t)
 (ha:∀v,assign (.Subscript o i pos) X.env v=(do
  let ov <- holding [v] (eval o X.env)
  let iv <- holding [v,ov] (eval i X.env)
  standAt pos
  holding [v,ov,iv] (setItem ov iv v)
  release [v,ov,iv] []):=by intro _;rfl):PG X (.Subscript o i pos) (EK to ti t):=by
 intro pins s Y H v u Q I r h;rw[ha];refine qb (QG (thn (ho pins s Y H _ I h) λov s1 ⟨x,H1,I1,r1,q1⟩=>?_));refine qb (QG (thn (hi pins s1 Y H1 _ I1 q1) λiv s2 ⟨y,H2,I2,r2,q2⟩=>?_));refine qb (wpAny_standAt (qb (QG (thn (hs pins s2 Y H2 x y v ov iv u _ I2 r1 r2 r q2) λ_ s3 ⟨H3,I3,q3⟩=>?_))));exact wpAny_release ⟨Y,H3,I3,q3⟩
def lH(te:TE)(g:TG):TS:=λD Y H=>te Y H λx H1=>g x Y H1 D.nx
theorem oy{tg e:Expr}{te:TE}{g:TG}(he:PE X e te)(hg:PG X tg g)(hs:swapsWithSole [tg] e pos.line X.env=pure false:=by rfl)(hw:swappedStores [tg] e X.env=pure none:=by rfl)
 (h1:(assignEach [tg] X.env).map (·.2)=[assign tg X.env]:=by rfl):PS X (.Assign [tg] e pos) (lH te g):=by
 intro pins s Y H D I h;refine wpAny_Assign_stores (thn (he pins s Y H _ I h) λv s1 ⟨x,H1,I1,r1,q1⟩=>?_) hs hw;rw[h1];exact thn (hg pins s1 Y H1 x v _ I1 r1 q1) λ_ s2 q=>q
theorem az{i:Nat}{x:Str}{e:Expr}{te:TE}{pos':Pos}(hN:X.N.Nodup)(hi:X.N[i]?=some x)(hx:Loc X.env.scope x)(he:PE X e te)(hs:swapsWith e (some (.Name x pos')) pos.line X.env=pure false:=by rfl)(hf:X.fn x=true\/X.env.scope.names.lookup x=some .local:=by first|exact .inl U|exact .inr U|assumption):
 PS X (.Assign [.Name x pos'] e pos) (lH te (dL i)):=by
 intro pins s Y H D I h;refine wpAny_Assign_Name (thn (he pins s Y H _ I h) λv s1 ⟨y,H1,I1,r1,q1⟩=>?_) hs;exact iV I1 hN hi hx r1 (λs2 I2=>⟨_,H1,I2,q1⟩) hf
end
section
variable {X:Cx}{pos:Pos}
def yD(c:TT)(tb:TS):TS:=λD Y H=>∃W:Nat->St->Hp->Prop,(∃m,W m Y H)/\∀m Y H,W m Y H->
 c Y H λb H1=>if b=true then ∃N:St->Hp->Prop,(∀Y' H',N Y' H'->∃m',m'<m/\W m' Y' H')/\tb { D with nx:=N,ct:=N,bk:=D.nx } Y H1 else D.nx Y H1
theorem BK{c:Expr}{body:List Stmt}{tc:TT}{tb:TS}(hp:PassesOwn (model X.prog X.w) X.A X.env X.xe)(hc:PT X c tc)(hb:PSs X body tb):PS X (.While c body [] pos) (yD tc tb):=by
 intro pins s Y H D I h;obtain⟨W,⟨m0,w0⟩,turn⟩:=h;refine wpAny_While (codeAny_whileLoop (λn s'=>∃Y' H',Inv X pins Y' H' s'/\W n Y' H') ?_ m0 ⟨Y,H,I,w0⟩);rintro n s1 ⟨Y1,H1,I1,w1⟩;refine wpAny_passesOwn hp (thn (hc pins s1 Y1 H1 _ I1 (turn n Y1 H1 w1)) λb s2 ⟨H2,I2,q2⟩=>?_)
 cases b with
 |true=>
  obtain⟨N,hN,q2⟩:=q2;rw[Qc U];refine wpAny_passesOwn hp (thn (hb pins s2 Y1 H2 _ I2 q2) λf s3 q3=>?_)
  cases f with
  |next=>
   obtain⟨Y3,H3,I3,n3⟩:=q3;obtain⟨m',hm,w3⟩:=hN Y3 H3 n3;exact⟨m',hm,Y3,H3,I3,w3⟩
  |cont=>
   obtain⟨Y3,H3,I3,n3⟩:=q3;obtain⟨m',hm,w3⟩:=hN Y3 H3 n3;exact⟨m',hm,Y3,H3,I3,w3⟩
  |brk=>exact q3
  |ret v=>exact q3
 |false=>
  rw[Qb qt];exact wpAny_execs_nil ⟨Y1,H2,I2,q2⟩
end
structure It where
 go:Nat->Hp->Prop
 yld:Nat->Hp->V->Hp->Prop
 stop:Nat->Hp->Prop
def cG(X:Cx)(pins:List (Addr×Obj))(H:Hp)(b:Addr):Prop:=
 H b=none/\b≠X.env.locals/\b∉X.fs/\(b∈X.ex\/X.s₀.heap.objs.size<=b)/\(∀x c,X.env.cells.lookup x=some c->c≠b)/\∀p∈X.pn++pins,p.1≠b
theorem Inv.fpOk{X:Cx}{pins:List (Addr×Obj)}{Y:St}{H H':Hp}{s:Shared}{b:Addr}(I:Inv X pins Y H s)(hb:s.heap.objs.size<=b)(hn:H' b=none):cG X pins H' b:=by
 refine⟨hn,Nat.ne_of_gt (qN I.lt hb),I.nofs hb,.inr (qJ I.sz hb),λx c e z=>?_,λp hp z=>?_⟩
 .obtain⟨v,q⟩:=I.cell x c e;exact Qf (qN q.lt (by rw[z];exact hb)) (Qm _)
 .exact Qf (qN (qA (I.pin p hp).1) (by rw[z];exact hb)) (Qm _)
structure gZ(P:Program)(w:World)(K:W.Frag)(tg:Expr)(J:It)(fp:List Addr)(it:Addr)(tn:Nat->Heap->Prop):Prop where
 mem:it∈fp
 obj:∀i h,tn i h->∀b∈fp,∃o,h.get? b=some o/\∀v,o.data≠.cell v
 keep:∀i h h',tn i h->(∀b∈fp,∀o,h.get? b=some o->h'.get? b=some o)->tn i h'
 item:∀(X:Cx),X.prog=P->X.w=w->X.K=K->X.calm=true->∀(i:Nat)(pins:List (Addr×Obj))(s:Shared)(Y:St)(H:Hp)(E:Yq),Inv X pins Y H s->(∀b∈fp,cG X pins H b)->tn i s.heap->J.go i H->
  wpAny (model P w) X.A (pyNext (.ref it)) (λr s1=>∃u,r=some u /\
   wpAny (model P w) X.A (letOwnedTupleGo tg (.ref it) u) (λ_ s2=>∃x H',Inv X pins Y H' s2/\aF x u/\J.yld i H x H'/\tn (i+1) s2.heap/\∀b∈fp,H' b=none) E s1) E s
 done:∀(X:Cx),X.prog=P->X.w=w->X.K=K->X.calm=true->∀(i:Nat)(pins:List (Addr×Obj))(s:Shared)(Y:St)(H:Hp)(E:Yq),Inv X pins Y H s->(∀b∈fp,cG X pins H b)->tn i s.heap->J.stop i H->
  wpAny (model P w) X.A (pyNext (.ref it)) (λr s1=>r=none/\Inv X pins Y H s1) E s
 self:∀(A:Around)(i:Nat)(s:Shared)(Q:Yq)(E:Yq),tn i s.heap->Q (.ref it) s->wpAny (model P w) A (pyIter (.ref it)) Q E s
abbrev TI:=St->Hp->(It->Hp->Prop)->Prop
def PIE(X:Cx)(pins:List (Addr×Obj))(Y:St)(tg:Expr)(R:It->Hp->Prop)(itv:Value)(s2:Shared):Prop:=
 ∃(it:Addr)(fp:List Addr)(tn:Nat->Heap->Prop)(J:It)(H':Hp),itv=.ref it/\Inv X pins Y H' s2/\gZ X.prog X.w X.K tg J fp it tn/\tn 0 s2.heap/\(∀b∈fp,cG X pins H' b)/\R J H'
def PI(X:Cx)(tg iter:Expr)(wi:TI):Prop:=
 ∀(pins:List (Addr×Obj))(s:Shared)(Y:St)(H:Hp)(R:It->Hp->Prop),Inv X pins Y H s->wi Y H R->
  wpAny (model X.prog X.w) X.A (eval iter X.env) (λv s1=>wpAny (model X.prog X.w) X.A (pyIter v) (PIE X pins Y tg R) X.xe s1) X.xe s
theorem pj{M:Model}{A:Around}{E:Yq}{s:Shared}{tg:Expr}{it:Addr}{u:Value}{o:Obj}{n:String}{vs:Array Value}{Q:Unit->Shared->Prop}(ho:s.heap.get? it=some o)(hc:o.cls=.type n)(hd:o.data=.fields vs)
 (hn:["enumerate","zip","dict_itemiterator","dict_reverseitemiterator","odict_iterator","itertools.zip_longest","itertools.pairwise"].contains n=false) (hQ:Q () s):wpAny M A (letOwnedTupleGo tg (.ref it) u) Q E s:=by
 unfold letOwnedTupleGo
 cases tg<;>first
  |exact qh hQ
  |(cases u<;>first
   |exact qh hQ
   |(refine qb (wpAny_load ho ?_)
     rw[hc,hd];show wpAny M A (if(["enumerate","zip","dict_itemiterator","dict_reverseitemiterator","odict_iterator","itertools.zip_longest","itertools.pairwise"].contains n && vs[0]? == some (rawInt _))=true then _ else _) Q E s;rw[Qb (by intro h;rw[hn,Bool.false_and]at h;cases h)]
     exact qh hQ))
noncomputable def Itl(K:W.Frag)(a:Addr):It:=
 ⟨λi H=>∃xs x,SqL K H a xs/\xs[i]?=some x,λi H x H'=>H'=H/\∀xs,SqL K H a xs->xs[i]?=some x,λi H=>∃xs,SqL K H a xs/\xs.length<=i⟩
noncomputable def Itt(K:W.Frag)(a:Addr):It:=
 ⟨λi H=>∃xs x,SqT K H a xs/\xs[i]?=some x,λi H x H'=>H'=H/\∀xs,SqT K H a xs->xs[i]?=some x,λi H=>∃xs,SqT K H a xs/\xs.length<=i⟩
noncomputable def Itr(lo:Int)(n:Nat):It:=⟨λi _=>i<n,λi H x H'=>H'=H/\x=.int (lo+i),λi _=>n<=i⟩
theorem yq{P:Program}{w:World}{K:W.Frag}{tg:Expr}(a it:Addr):gZ P w K tg (Itl K a) [it] it (λi h=>h.IsListIter it a i) where
 mem:=by simp
 obj:=λi h st b hb=>by
  have e:b=it:=by simpa using hb
  subst e;obtain⟨o,e,c,d⟩:=st;exact⟨o,e,λv z=>by rw[d]at z;cases z⟩
 keep:=λi h h' st k=>st.at λo e=>k it (by simp) o e
 item:=by
  intro X hP hw hK hc i pins s Y H E I hf st hg;subst hP hw hK;obtain⟨xs,x,hq,hx⟩:=hg;obtain⟨its,rv,p,hz⟩:=I.list hq;obtain⟨u,hu,ru⟩:=rv.get hx;obtain⟨f0,f1,f2,f3,f4,f5⟩:=hf it (by simp);refine wpAny_pyNext_list_item st p.isList (x:=u) (by simpa using hu) λh' st' sb=>?_;have I1:Inv X pins Y H { s with heap:=h' }:=I.turned (t':=s.toks) (λb o hb e=>(sb.2 b hb).trans e) f0 f1 f3 f4 f5;obtain⟨o,e,c,d⟩:=id st';exact⟨u,U,pj (s:={ s with heap:=h' }) e c d Yk ⟨x,H,I1,ru,⟨U,λys hy=>by rw[I.list_inj hy hq];exact hx⟩,st',λb hb=>(hf b hb).1⟩⟩
 done:=by
  intro X hP hw hK hc i pins s Y H E I hf st hg;subst hP hw hK;obtain⟨xs,hq,hx⟩:=hg;obtain⟨its,rv,p,hz⟩:=I.list hq;obtain⟨f0,f1,f2,f3,f4,f5⟩:=hf it (by simp);have hl:=rv.length;exact wpAny_pyNext_list_end (I.ok.hd hc) st p.isList (by simp;omega) λh' eb=>⟨U,I.turned (t':=s.toks) (λb o hb e=>eb b o hb e) f0 f1 f3 f4 f5⟩
 self:=λ_ _ _ _ _ st h=>wpAny_pyIter_listiter st h
theorem yo{P:Program}{w:World}{K:W.Frag}{tg:Expr}(a it:Addr):gZ P w K tg (Itt K a) [it] it (λi h=>h.IsTupleIter it a i) where
 mem:=by simp
 obj:=λi h st b hb=>by
  have e:b=it:=by simpa using hb
  subst e;obtain⟨o,e,c,d⟩:=st;exact⟨o,e,λv z=>by rw[d]at z;cases z⟩
 keep:=λi h h' st k=>st.at λo e=>k it (by simp) o e
 item:=by
  intro X hP hw hK hc i pins s Y H E I hf st hg;subst hP hw hK;obtain⟨xs,x,hq,hx⟩:=hg;obtain⟨its,rv,p,hz⟩:=I.tuple hq;obtain⟨u,hu,ru⟩:=rv.get hx;obtain⟨f0,f1,f2,f3,f4,f5⟩:=hf it (by simp);refine wpAny_pyNext_tuple_item st (show s.heap.IsTuple a its.toArray from p) (x:=u) (by simpa using hu) λh' st' sb=>?_;have I1:Inv X pins Y H { s with heap:=h' }:=I.turned (t':=s.toks) (λb o hb e=>(sb.2 b hb).trans e) f0 f1 f3 f4 f5;obtain⟨o,e,c,d⟩:=id st';exact⟨u,U,pj (s:={ s with heap:=h' }) e c d Yk ⟨x,H,I1,ru,⟨U,λys hy=>by rw[I.tuple_inj hy hq];exact hx⟩,st',λb hb=>(hf b hb).1⟩⟩
 done:=by
  intro X hP hw hK hc i pins s Y H E I hf st hg;subst hP hw hK;obtain⟨xs,hq,hx⟩:=hg;obtain⟨its,rv,p,hz⟩:=I.tuple hq;obtain⟨f0,f1,f2,f3,f4,f5⟩:=hf it (by simp);have hl:=rv.length;exact wpAny_pyNext_tuple_end (I.ok.hd hc) st (show s.heap.IsTuple a its.toArray from p) (by simp;omega) λh' eb=>⟨U,I.turned (t':=s.toks) (λb o hb e=>eb b o hb e) f0 f1 f3 f4 f5⟩
 self:=λ_ _ _ _ _ st h=>wpAny_pyIter_tupleiter st h
theorem yp{P:Program}{w:World}{K:W.Frag}{tg:Expr}(it:Addr)(lo:Int)(n:Nat):gZ P w K tg (Itr lo n) [it] it (λi h=>IsRangeIter h it (lo+(i:Nat) * 1) ((n:Int)-(i:Nat)) 1) where
 mem:=by simp
 obj:=λi h st b hb=>by
  have e:b=it:=by simpa using hb
  subst e
  exact⟨_,st,λv z=>by
   have z':Data.fields _=Data.cell v:=z
   cases z'⟩
 keep:=λi h h' st k=>k it (by simp) _ st
 item:=by
  intro X hP hw hK hc i pins s Y H E I hf st hg;subst hP hw hK;obtain⟨f0,f1,f2,f3,f4,f5⟩:=hf it (by simp);have W:=Walks.range (prog:=X.prog) (w:=X.w) (I.ok.hd hc) it lo 1 n;refine W.item i s _ _ hg st λv h' tk hv st' kk=>?_;obtain⟨t,rfl⟩:=hv;have I1:Inv X pins Y H { s with heap:=h',toks:=tk }:=I.turned (λb o hb e=>kk b o (by simpa using hb) e) f0 f1 f3 f4 f5;refine⟨_,U,pj (s:={ s with heap:=h',toks:=tk }) (n:="range_iterator") st' U U Yk ⟨.int (lo+i),H,I1,⟨t,?_⟩,⟨U,U⟩,st',λb hb=>(hf b hb).1⟩⟩;rw[Int.mul_one]
 done:=by
  intro X hP hw hK hc i pins s Y H E I hf st hg;subst hP hw hK;obtain⟨f0,f1,f2,f3,f4,f5⟩:=hf it (by simp);exact wpAny_pyNext_range_end (I.ok.hd hc) st (by have:n<=i:=hg;omega) λh' eb=>⟨U,I.turned (t':=s.toks) (λb o hb e=>eb b o hb e) f0 f1 f3 f4 f5⟩
 self:=λ_ _ _ _ _ st h=>wpAny_pyIter_rangeiter st h
section
variable {X:Cx}{tg:Expr}
def EC(K:W.Frag)(tl:TE):TI:=λY H R=>tl Y H λx H1=>∃a,x=.ref a/\(∃xs,SqL K H1 a xs)/\R (Itl K a) H1
def EB(K:W.Frag)(tl:TE):TI:=λY H R=>tl Y H λx H1=>∃a,x=.ref a/\(∃xs,SqT K H1 a xs)/\R (Itt K a) H1
theorem cD{l:Expr}{tl:TE}(hl:PE X l tl):PI X tg l (EC X.K tl):=by
 intro pins s Y H R I h;refine thn (hl pins s Y H _ I h) λv s1 ⟨x,H1,I1,r1,q1⟩=>?_;obtain⟨a,e,⟨xs,hq⟩,q⟩:=q1;subst e;cases r1;obtain⟨its,rv,p,hz⟩:=I1.list hq;refine wpAny_pyIter_list p.isList ?_;refine⟨s1.heap.objs.size,[s1.heap.objs.size],_,_,H1,U,I1.kept (t':=s1.toks) λb o e=>qe _ e,yq a _,⟨_,qz _ U,U,U⟩,λb hb=>?_,q⟩;have e:b=s1.heap.objs.size:=by simpa using hb
 subst e;exact I1.fpOk (qi _) (I1.hok.fresh (qi _))
theorem BW{l:Expr}{tl:TE}(hl:PE X l tl):PI X tg l (EB X.K tl):=by
 intro pins s Y H R I h;refine thn (hl pins s Y H _ I h) λv s1 ⟨x,H1,I1,r1,q1⟩=>?_;obtain⟨a,e,⟨xs,hq⟩,q⟩:=q1;subst e;cases r1;obtain⟨its,rv,p,hz⟩:=I1.tuple hq;refine wpAny_pyIter_tuple (show s1.heap.IsTuple a its.toArray from p) ?_;refine⟨s1.heap.objs.size,[s1.heap.objs.size],_,_,H1,U,I1.kept (t':=s1.toks) λb o e=>qe _ e,yo a _,⟨_,qz _ U,U,U⟩,λb hb=>?_,q⟩;have e:b=s1.heap.objs.size:=by simpa using hb
 subst e;exact I1.fpOk (qi _) (I1.hok.fresh (qi _))
theorem Bb{pins:List (Addr×Obj)}{Y:St}{H:Hp}{s:Shared}{R:It->Hp->Prop}{E:Yq}{lo hi:Int}{t u v:Tok}{tk:Nat}(I:Inv X pins Y H s)(h1:-(2 ^ 62)<=lo)(h2:lo<2 ^ 62)(h3:-(2 ^ 62)<=hi)(h4:hi<2 ^ 62)
 (q:R (Itr lo (hi-lo).toNat) H):wpAny (model X.prog X.w) X.A (pyIter (.ref s.heap.objs.size)) (PIE X pins Y tg R) E { s with heap:=s.heap.push { cls:=.type "range",data:=.fields #[.int lo t,.int hi u,.int 1 v] },toks:=tk }:=by
 refine wpAny_pyIter_range (IsRange.new ..) (small_one h1 h2 h3 h4) ?_;have I1:Inv X pins Y H { s with heap:=s.heap.push { cls:=.type "range",data:=.fields #[.int lo t,.int hi u,.int 1 v] },toks:=tk }:=I.kept λb o e=>qe _ e
 refine⟨(s.heap.push { cls:=.type "range",data:=.fields #[.int lo t,.int hi u,.int 1 v] }).objs.size,[(s.heap.push { cls:=.type "range",data:=.fields #[.int lo t,.int hi u,.int 1 v] }).objs.size],_,_,H,U,
  I1.kept (t':=tk) λb o e=>qe _ e,yp _ lo (hi-lo).toNat,?_,λb hb=>?_,q⟩
 .have e1:lo+((0:Nat):Int) * 1=lo:=by simp
  have e2:(((hi-lo).toNat:Nat):Int)-((0:Nat):Int)=Builtin.Range.rangeSize lo hi 1:=by rw[rangeSize_one];split<;>omega
  show IsRangeIter _ _ (lo+((0:Nat):Int) * 1) ((((hi-lo).toNat:Nat):Int)-((0:Nat):Int)) 1;rw[e1,e2];exact qz _ U
 .have e:b=(s.heap.push { cls:=.type "range",data:=.fields #[.int lo t,.int hi u,.int 1 v] }).objs.size:=by simpa using hb
  subst e;exact I1.fpOk (qi _) (I1.hok.fresh (qi _))
def ph(ta:TA):TI:=λY H R=>ta Y H λvs H1=>∃j:Int,vs=[.int j]/\-(2 ^ 62)<=j/\j<2 ^ 62/\R (Itr 0 j.toNat) H1
theorem BX{a:Expr}{ta:TA}{p pos:Pos}(hg:Gl X "range")(hm:X.mg "range"=none)(ha:PA X [a] ta)(hs:starEach [a] X.env=[(false,eval a X.env)]:=by rfl):PI X tg (.Call (.Name "range" p) [a] [] pos) (ph ta):=by
 intro pins s Y H R I h;refine Call_ (fk I hg hm boot_range (PyProof.Rows.callWith_type1 (thn (ha pos pins s Y H _ I h) λus s1 ⟨vs,H1,I1,r1,q1⟩=>?_) hs U));obtain⟨j,e,q1,q2,q⟩:=q1;subst e
 cases r1 with
 |cons r rr=>
  cases rr;obtain⟨t,rfl⟩:=r;exact call_range_1 (Bb I1 Yo Yo q1 q2 (by simpa using q))
def yU(wi:TI)(g:TG)(tb:TS):TS:=λD Y H=>wi Y H λJ H1=>∃W:Nat->Nat->St->Hp->Prop,(∃m,W 0 m Y H1)/\∀i m Y H,W i m Y H->
 (J.stop i H/\D.nx Y H)\/(J.go i H/\∃N:St->Hp->Prop,(∀Y' H',N Y' H'->∃m',m'<m/\W (i+1) m' Y' H')/\∀x H',J.yld i H x H'->g x Y H' λY2 H2=>tb { D with nx:=N,ct:=N,bk:=D.nx } Y2 H2)
noncomputable def jh(fp:List Addr)(h:Heap):List (Addr×Obj):=fp.filterMap λb=>(h.get? b).map λo=>(b,o)
theorem kQ{fp:List Addr}{h:Heap}{b:Addr}{o:Obj}(hb:b∈fp)(e:h.get? b=some o):(b,o)∈jh fp h:=List.mem_filterMap.mpr ⟨b,hb,by rw[e];rfl⟩
theorem DC{fp:List Addr}{h:Heap}{p:Addr×Obj}(hp:p∈jh fp h):p.1∈fp/\h.get? p.1=some p.2:=by
 obtain⟨b,hb,e⟩:=List.mem_filterMap.mp hp
 cases q:h.get? b with
 |none=>rw[q]at e;cases e
 |some o=>
  rw[q]at e;have e':(b,o)=p:=qT e;subst e';exact⟨hb,q⟩
theorem Inv.pinned{pins:List (Addr×Obj)}{Y:St}{H:Hp}{s:Shared}{fp:List Addr}(I:Inv X pins Y H s)(hf:∀b∈fp,cG X pins H b)(ho:∀b∈fp,∃o,s.heap.get? b=some o/\∀v,o.data≠.cell v):Inv X (pins++jh fp s.heap) Y H s:=
 I.pins_of λp hp=>(qp.mp hp).elim (λz=>I.pin p (qS _ z)) λz=>by
  obtain⟨hb,e⟩:=DC z;obtain⟨f0,f1,f2,_⟩:=hf p.1 hb;obtain⟨o,e',d⟩:=ho p.1 hb;rw[e]at e';cases e';exact⟨e,f0,f1,f2,d⟩
theorem Inv.unpinned{pins pl:List (Addr×Obj)}{Y:St}{H:Hp}{s:Shared}(I:Inv X (pins++pl) Y H s):Inv X pins Y H s:=I.pins_of λp hp=>I.pin p (qS _ (Q7 _ hp))
theorem cM{iter:Expr}{body:List Stmt}{wi:TI}{g:TG}{tb:TS}{pos:Pos}(hp:PassesOwn (model X.prog X.w) X.A X.env X.xe)(hc:X.calm=true)(hi:PI X tg iter wi)(hg:PG X tg g)(hb:PSs X body tb)
 (hs:∀x,foldedSetIterable iter X.env x=pure x:=by intro _;rfl):PS X (.For tg iter body [] pos) (yU wi g tb):=by
 intro pins s Y H D I h;refine wpAny_For (thn (hi pins s Y H _ I h) λv s1 h1=>thn h1 λitv s2 h2=>?_) hs;obtain⟨it,fp,tn,J,H2,e,I2,T,st2,f2,W,⟨m0,w0⟩,turn⟩:=h2;subst e;have stat:∀{H':Hp},(∀b∈fp,H' b=none)->∀b∈fp,cG X pins H' b:=λhn b hb=>⟨hn b hb,(f2 b hb).2⟩;refine codeAny_forLoop_any (λn s'=>∃i Y' H',Inv X pins Y' H' s'/\tn i s'.heap/\(∀b∈fp,H' b=none)/\W i n Y' H') ?_ m0 ⟨0,Y,H2,I2,st2,λb hb=>(f2 b hb).1,w0⟩;rintro n s3 ⟨i,Y3,H3,I3,st3,fr3,w3⟩;rcases turn i n Y3 H3 w3 with⟨stop,qn⟩|⟨go,N,hN,step⟩
 .refine wpAny_passesOwn hp (thn (T.done X U U U hc i pins s3 Y3 H3 X.xe I3 (stat fr3) st3 stop) λr s4 ⟨hr,I4⟩=>?_);subst hr;exact wpAny_execs_nil ⟨Y3,H3,I4,qn⟩
 .refine wpAny_passesOwn hp (thn (T.item X U U U hc i pins s3 Y3 H3 X.xe I3 (stat fr3) st3 go) λr s4 ⟨u,hr,h4⟩=>?_);subst hr;refine wpAny_passesOwn hp (thn h4 λ_ s5 ⟨x,H5,I5,r5,y5,st5,fr5⟩=>?_);have I5':=I5.pinned (stat fr5) (T.obj _ _ st5);refine wpAny_passesOwn hp (thn (hg _ s5 Y3 H5 x u _ I5' r5 (step x H5 y5)) λ_ s6 ⟨Y6,H6,I6,q6⟩=>?_);refine wpAny_passesOwn hp (thn (hb _ s6 Y6 H6 _ I6 q6) λf s7 q7=>?_)
  have again:∀{Y7:St}{H7:Hp},Inv X (pins++jh fp s5.heap) Y7 H7 s7->N Y7 H7->∃m,m<n/\∃i Y' H',Inv X pins Y' H' s7/\tn i s7.heap/\(∀b∈fp,H' b=none)/\W i m Y' H':=λ{Y7 H7} I7 n7=>by
   obtain⟨m',hm,w7⟩:=hN Y7 H7 n7;refine⟨m',hm,i+1,Y7,H7,I7.unpinned,T.keep _ _ _ st5 λb hb o e=>(I7.pin (b,o) (qS _ (qS _ (kQ hb e)))).1,λb hb=>?_,w7⟩;obtain⟨o,e,d⟩:=T.obj _ _ st5 b hb;exact(I7.pin (b,o) (qS _ (qS _ (kQ hb e)))).2.1
  cases f with
  |next=>obtain⟨Y7,H7,I7,n7⟩:=q7;exact again I7 n7
  |cont=>obtain⟨Y7,H7,I7,n7⟩:=q7;exact again I7 n7
  |brk=>obtain⟨Y7,H7,I7,q7⟩:=q7;exact⟨Y7,H7,I7.unpinned,q7⟩
  |ret v=>obtain⟨x7,Y7,H7,I7,r7,q7⟩:=q7;exact⟨x7,Y7,H7,I7.unpinned,r7,q7⟩
end
theorem eD{K:W.Frag}{a:Addr}{xs:List V}{g:TG}{tb:TS}{D:fG}{Y:St}{H:Hp}(Pv:Nat->St->Hp->Prop)(h0:Pv 0 Y H)(hl:∀i Y H,i<=xs.length->Pv i Y H->SqL K H a xs)
 (hs:∀i x Y H,xs[i]?=some x->Pv i Y H->g x Y H λY2 H2=>tb { D with nx:=Pv (i+1),ct:=Pv (i+1),bk:=D.nx } Y2 H2) (hd:∀Y H,Pv xs.length Y H->D.nx Y H):
 ∃W:Nat->Nat->St->Hp->Prop,(∃m,W 0 m Y H)/\∀i m Y H,W i m Y H->
  ((Itl K a).stop i H/\D.nx Y H)\/((Itl K a).go i H/\∃N:St->Hp->Prop,(∀Y' H',N Y' H'->∃m',m'<m/\W (i+1) m' Y' H')/\∀x H',(Itl K a).yld i H x H'->g x Y H' λY2 H2=>tb { D with nx:=N,ct:=N,bk:=D.nx } Y2 H2):=by
 refine⟨λi m Y H=>m=xs.length-i/\i<=xs.length/\Pv i Y H,⟨xs.length,by simp,qD _,h0⟩,?_⟩;rintro i m Y H ⟨rfl,hi,p⟩;have q:=hl i Y H hi p;by_cases hlt:i<xs.length
 .refine .inr ⟨⟨xs,xs[i],q,by simp[hlt]⟩,Pv (i+1),λY' H' p'=>⟨xs.length-(i+1),Yo,U,hlt,p'⟩,λx H' y=>?_⟩;obtain⟨e,y⟩:=y;subst e;exact hs i x Y _ (y xs q) p
 .have e:i=xs.length:=by omega
  subst e;exact .inl ⟨⟨xs,q,qi _⟩,hd Y H p⟩
theorem jt{lo:Int}{n:Nat}{g:TG}{tb:TS}{D:fG}{Y:St}{H:Hp}(Pv:Nat->St->Hp->Prop)(h0:Pv 0 Y H)
 (hs:∀i Y H,i<n->Pv i Y H->g (.int (lo+i)) Y H λY2 H2=>tb { D with nx:=Pv (i+1),ct:=Pv (i+1),bk:=D.nx } Y2 H2) (hd:∀Y H,Pv n Y H->D.nx Y H):
 ∃W:Nat->Nat->St->Hp->Prop,(∃m,W 0 m Y H)/\∀i m Y H,W i m Y H->
  ((Itr lo n).stop i H/\D.nx Y H)\/((Itr lo n).go i H/\∃N:St->Hp->Prop,(∀Y' H',N Y' H'->∃m',m'<m/\W (i+1) m' Y' H')/\∀x H',(Itr lo n).yld i H x H'->g x Y H' λY2 H2=>tb { D with nx:=N,ct:=N,bk:=D.nx } Y2 H2):=by
 refine⟨λi m Y H=>m=n-i/\i<=n/\Pv i Y H,⟨n,by simp,qD _,h0⟩,?_⟩;rintro i m Y H ⟨rfl,hi,p⟩;by_cases hlt:i<n
 .refine .inr ⟨hlt,Pv (i+1),λY' H' p'=>⟨n-(i+1),Yo,U,hlt,p'⟩,λx H' y=>?_⟩;obtain⟨e,y⟩:=y;subst e y;exact hs i Y _ hlt p
 .have e:i=n:=by omega
  subst e;exact .inl ⟨qi _,hd Y H p⟩
abbrev R2:=V->V->Hp->VK->Prop
def OpR(X:Cx)(f:Value->Value->Sem Value)(r:R2):Prop:=
 ∀(pins:List (Addr×Obj))(s:Shared)(Y:St)(H:Hp)(x y:V)(v u:Value)(Q:VK),Inv X pins Y H s->aF x v->aF y u->r x y H Q->
  wpAny (model X.prog X.w) X.A (f v u) (EP X pins Y Q) X.xe s
def UnR(X:Cx)(f:Value->Sem Value)(r:V->Hp->VK->Prop):Prop:=
 ∀(pins:List (Addr×Obj))(s:Shared)(Y:St)(H:Hp)(x:V)(v:Value)(Q:VK),Inv X pins Y H s->aF x v->r x H Q->
  wpAny (model X.prog X.w) X.A (f v) (EP X pins Y Q) X.xe s
def cJ(X:Cx)(f:Value)(r:List V->Hp->VK->Prop):Prop:=
 ∀(pins:List (Addr×Obj))(s:Shared)(Y:St)(H:Hp)(xs:List V)(us:List Value)(Q:VK),Inv X pins Y H s->aw xs us->r xs H Q->
  wpAny (model X.prog X.w) X.A (call f us) (EP X pins Y Q) X.xe s
def TruR(X:Cx)(r:V->Hp->(Bool->Hp->Prop)->Prop):Prop:=
 ∀(pins:List (Addr×Obj))(s:Shared)(Y:St)(H:Hp)(x:V)(v:Value)(Q:Bool->Hp->Prop),Inv X pins Y H s->aF x v->r x H Q->
  wpAny (model X.prog X.w) X.A (truthy v) (TP X pins Y Q) X.xe s
def tOp(r:R2)(ta tb:TE):TE:=λY H Q=>ta Y H λx H1=>tb Y H1 λy H2=>r x y H2 Q
def tUn(r:V->Hp->VK->Prop)(ta:TE):TE:=λY H Q=>ta Y H λx H1=>r x H1 Q
def rI(C:Int->Int->Prop)(g:Int->Int->V):R2:=λx y H Q=>∃i j,x=.int i/\y=.int j/\C i j/\Q (g i j) H
def rI0(g:Int->Int->V):R2:=λx y H Q=>∃i j,x=.int i/\y=.int j/\Q (g i j) H
def rU(g:Int->V):V->Hp->VK->Prop:=λx H Q=>∃i,x=.int i/\Q (g i) H
section
variable {X:Cx}{a b c:Expr}{ta tb tc:TE}{pos:Pos}
theorem pP(ha:PE X a ta)(hb:PE X b tb){pins:List (Addr×Obj)}{s:Shared}{Y:St}{H:Hp}{R:V->V->Hp->Prop}(I:Inv X pins Y H s)
 (h:ta Y H λx H1=>tb Y H1 λy H2=>R x y H2) {Q:Yq}{f:Value->Value->Sem Value}
 (hf:∀v u s2 x y H2,Inv X pins Y H2 s2->aF x v->aF y u->R x y H2->wpAny (model X.prog X.w) X.A (f v u) Q X.xe s2):
 wpAny (model X.prog X.w) X.A (eval a X.env) (λv s₁=>wpAny (model X.prog X.w) X.A (eval b X.env) (λu s₂=>wpAny (model X.prog X.w) X.A (f v u) Q X.xe s₂) X.xe s₁) X.xe s:=by
 refine thn (ha pins s Y H _ I h) λv s1 ⟨x,H1,I1,r1,q1⟩=>?_;refine thn (hb pins s1 Y H1 _ I1 q1) λu s2 ⟨y,H2,I2,r2,q2⟩=>?_;exact hf v u s2 x y H2 I2 r1 r2 q2
theorem aq{op:Operator}{r:R2}(ho:OpR X (binaryOp op) r)(ha:PE X a ta)(hb:PE X b tb):PE X (.BinOp a op b pos) (tOp r ta tb):=by
 intro pins s Y H Q I h;exact wpAny_BinOp (pP ha hb I h λv u s2 x y H2 I2 rx ry q=>ho pins s2 Y H2 x y v u Q I2 rx ry q)
theorem dh{op:UnaryOp}{r:V->Hp->VK->Prop}(ho:UnR X (unaryOp op) r)(ha:PE X a ta):PE X (.UnaryOp op a pos) (tUn r ta):=by
 intro pins s Y H Q I h;exact UnaryOp_ (thn (ha pins s Y H _ I h) λv s1 ⟨x,H1,I1,r1,q1⟩=>ho pins s1 Y H1 x v Q I1 r1 q1)
theorem opI{f:Value->Value->Sem Value}{C:Int->Int->Prop}{g:Int->Int->Int}
 (rule:∀(i j:Int)(t u:Tok)(s:Shared)(Q:Yq)(E:Yq),C i j->Q (.int (g i j) s.toks) { s with toks:=s.toks+1 }->wpAny (model X.prog X.w) X.A (f (.int i t) (.int j u)) Q E s):
 OpR X f (rI C λi j=>.int (g i j)):=by
 intro pins s Y H x y v u Q I rx ry h;obtain⟨i,j,rfl,rfl,hc,q⟩:=h;obtain⟨t,rfl⟩:=rx;obtain⟨t',rfl⟩:=ry;exact rule i j t t' s _ _ hc ⟨.int (g i j),H,I.tok _,⟨_,U⟩,q⟩
theorem ji{f:Value->Value->Sem Value}{g:Int->Int->Int}
 (rule:∀(i j:Int)(t u:Tok)(s:Shared)(Q:Yq)(E:Yq),Q (.int (g i j) s.toks) { s with toks:=s.toks+1 }->wpAny (model X.prog X.w) X.A (f (.int i t) (.int j u)) Q E s):
 OpR X f (rI0 λi j=>.int (g i j)):=by
 intro pins s Y H x y v u Q I rx ry h;obtain⟨i,j,rfl,rfl,q⟩:=h;obtain⟨t,rfl⟩:=rx;obtain⟨t',rfl⟩:=ry;exact rule i j t t' s _ _ ⟨.int (g i j),H,I.tok _,⟨_,U⟩,q⟩
theorem kN{f:Value->Value->Sem Value}{g:Int->Int->Bool}
 (rule:∀(i j:Int)(t u:Tok)(s:Shared)(Q:Yq)(E:Yq),Q (.bool (g i j)) s->wpAny (model X.prog X.w) X.A (f (.int i t) (.int j u)) Q E s):
 OpR X f (rI0 λi j=>.bl (g i j)):=by
 intro pins s Y H x y v u Q I rx ry h;obtain⟨i,j,rfl,rfl,q⟩:=h;obtain⟨t,rfl⟩:=rx;obtain⟨t',rfl⟩:=ry;exact rule i j t t' s _ _ ⟨.bl (g i j),H,I,U,q⟩
def Gp(i j:Int):Prop:=0<j/\j<1073741824
def Gn(i j:Int):Prop:=0<=j/\j<=1000000/\i.natAbs<2 ^ 64
def rn(i j:Int):Prop:=(-(2 ^ 64)<i/\i<2 ^ 64)\/(-(2 ^ 64)<j/\j<2 ^ 64)
theorem rn.ok{i j:Int}(h:rn i j):IntMulOk i j:=by
 rcases h with⟨h1,h2⟩|⟨h1,h2⟩
 .exact .of_left (intBits_le_64 h1 h2)
 .exact .of_right (intBits_le_64 h1 h2)
theorem CI:OpR X (binaryOp .Add) (rI0 λi j=>.int (i+j)):=ji λ_ _ _ _ _ _ _ q=>add_int q
theorem Ck:OpR X (binaryOp .Sub) (rI0 λi j=>.int (i-j)):=ji λ_ _ _ _ _ _ _ q=>sub_int q
theorem CC:OpR X (binaryOp .FloorDiv) (rI Gp λi j=>.int (i / j)):=opI λi j _ _ _ _ _ hc q=>by
 have h1:(0:Int)<j:=hc.1;have h2:j<1073741824:=hc.2;exact floordiv_int Yo (by rw[Int.fdiv_eq_ediv_of_nonneg i Yo];exact q) (.inl (PyProof.noPylong_small Yo))
theorem Cu:OpR X (binaryOp .Mod) (rI (λ_ j=>0<j) λi j=>.int (i % j)):=opI λi j _ _ _ _ _ hc q=>by
 have h1:(0:Int)<j:=hc;exact mod_int' Yo (by rw[Int.fmod_eq_emod_of_nonneg i Yo];exact q)
theorem Cm:OpR X (binaryOp .Pow) (rI Gn λi j=>.int (i ^ j.toNat)):=opI λ_ _ _ _ _ _ _ hc q=>pow_int_small hc.1 hc.2.1 hc.2.2 q
theorem CG:OpR X (binaryOp .BitAnd) (rI0 λi j=>.int (Builtin.bitAnd i j)):=ji λ_ _ _ _ _ _ _ q=>and_int q
theorem Cp:OpR X (binaryOp .BitOr) (rI0 λi j=>.int (Builtin.bitOr i j)):=ji λ_ _ _ _ _ _ _ q=>or_int q
theorem Ci:OpR X (binaryOp .BitXor) (rI0 λi j=>.int (Builtin.bitXor i j)):=ji λ_ _ _ _ _ _ _ q=>xor_int q
theorem unI{f:Value->Sem Value}{g:Int->Int}
 (rule:∀(i:Int)(t:Tok)(s:Shared)(Q:Yq)(E:Yq),Q (.int (g i) s.toks) { s with toks:=s.toks+1 }->wpAny (model X.prog X.w) X.A (f (.int i t)) Q E s):
 UnR X f (rU λi=>.int (g i)):=by
 intro pins s Y H x v Q I rx h;obtain⟨i,rfl,q⟩:=h;obtain⟨t,rfl⟩:=rx;exact rule i t s _ _ ⟨.int (g i),H,I.tok _,⟨_,U⟩,q⟩
theorem dc:UnR X (unaryOp .USub) (rU λi=>.int (-i)):=unI λ_ _ _ _ _ q=>neg_int q
end
noncomputable def j1:V->V->Bool
 |.non,.non=>true|.non,.int _=>true|.int _,.non=>true|.non,.bl _=>true|.bl _,.non=>true|.non,.str _=>true|.str _,.non=>true
 |.int _,.int _=>true|.bl _,.bl _=>true|.str _,.str _=>true|.byt _,.byt _=>true
 |.int _,.str _=>true|.str _,.int _=>true|.bl _,.str _=>true|.str _,.bl _=>true
 |_,_=>false
def rEq:R2:=λx y H Q=>j1 x y=true/\Q (.bl (decide (x=y))) H
def rNe:R2:=λx y H Q=>j1 x y=true/\Q (.bl (!decide (x=y))) H
theorem iM{i j:Int}:decide (V.int i=V.int j)=(i == j):=by
 rw[Bool.eq_iff_iff];simp
theorem wV{i j:Bool}:decide (V.bl i=V.bl j)=(i == j):=by
 rw[Bool.eq_iff_iff];simp
theorem wR{i j:Str}:decide (V.str i=V.str j)=(i == j):=by
 rw[Bool.eq_iff_iff];simp
theorem wU{i j:Array UInt8}:decide (V.byt i=V.byt j)=(i.toList == j.toList):=by
 rw[Bool.eq_iff_iff];cases i;cases j;simp
section
variable {X:Cx}{a b c:Expr}{ta tb tc:TE}{pos:Pos}
theorem bB{pins:List (Addr×Obj)}{Y:St}{H:Hp}{s:Shared}{Q:VK}{k k':Bool}(I:Inv X pins Y H s)(q:Q (.bl k) H)(e:k=k'):EP X pins Y Q (.bool k') s:=by
 subst e;exact⟨.bl k,H,I,U,q⟩
theorem CD:OpR X (compareOp .Eq) rEq:=by
 intro pins s Y H x y v u Q I rx ry h;obtain⟨hs,q⟩:=h
 cases x with
 |non=>
  cases rx
  cases y with
  |non=>cases ry;exact PySem.EqNone.eq_none_none (bB I q (by simp))
  |bl j=>cases ry;exact PySem.EqNone.eq_none_bool (bB I q (by simp))
  |int j=>obtain⟨t',rfl⟩:=ry;exact PySem.EqNone.eq_none_int (bB I q (by simp))
  |str j=>obtain⟨t',rfl⟩:=ry;exact PySem.EqNone.eq_none_str (bB I q (by simp))
  |_=>exact Qf (show false=true from hs) qt
 |bl i=>
  cases rx
  cases y with
  |non=>cases ry;exact PySem.EqNone.eq_bool_none (bB I q (by simp))
  |bl j=>cases ry;exact eq_bool (bB I q wV)
  |str j=>obtain⟨t',rfl⟩:=ry;exact PySem.EqMixed.eq_bool_str (bB I q (by simp))
  |_=>exact Qf (show false=true from hs) qt
 |int i=>
  obtain⟨t,rfl⟩:=rx
  cases y with
  |non=>cases ry;exact PySem.EqNone.eq_int_none (bB I q (by simp))
  |int j=>obtain⟨t',rfl⟩:=ry;exact eq_int (bB I q iM)
  |str j=>obtain⟨t',rfl⟩:=ry;exact PySem.EqMixed.eq_int_str (bB I q (by simp))
  |_=>exact Qf (show false=true from hs) qt
 |str i=>
  obtain⟨t,rfl⟩:=rx
  cases y with
  |non=>cases ry;exact PySem.EqNone.eq_str_none (bB I q (by simp))
  |bl j=>cases ry;exact PySem.EqMixed.eq_str_bool (bB I q (by simp))
  |int j=>obtain⟨t',rfl⟩:=ry;exact PySem.EqMixed.eq_str_int (bB I q (by simp))
  |str j=>obtain⟨t',rfl⟩:=ry;exact eq_str (bB I q wR)
  |_=>exact Qf (show false=true from hs) qt
 |byt i=>
  obtain⟨t,rfl⟩:=rx
  cases y with
  |byt j=>obtain⟨t',rfl⟩:=ry;exact PySem.W.eq_bytes (bB I q wU)
  |_=>exact Qf (show false=true from hs) qt
 |_=>cases y<;>exact Qf (show false=true from hs) qt
theorem Cs:OpR X (compareOp .NotEq) rNe:=by
 intro pins s Y H x y v u Q I rx ry h;obtain⟨hs,q⟩:=h
 cases x with
 |non=>
  cases rx
  cases y with
  |non=>cases ry;exact PySem.EqNone.ne_none_none (bB I q (by simp))
  |bl j=>cases ry;exact PySem.EqNone.ne_none_bool (bB I q (by simp))
  |int j=>obtain⟨t',rfl⟩:=ry;exact PySem.EqNone.ne_none_int (bB I q (by simp))
  |str j=>obtain⟨t',rfl⟩:=ry;exact PySem.EqNone.ne_none_str (bB I q (by simp))
  |_=>exact Qf (show false=true from hs) qt
 |bl i=>
  cases rx
  cases y with
  |non=>cases ry;exact PySem.EqNone.ne_bool_none (bB I q (by simp))
  |bl j=>cases ry;exact ne_bool (bB I q (congrArg not wV))
  |str j=>obtain⟨t',rfl⟩:=ry;exact PySem.EqMixed.ne_bool_str (bB I q (by simp))
  |_=>exact Qf (show false=true from hs) qt
 |int i=>
  obtain⟨t,rfl⟩:=rx
  cases y with
  |non=>cases ry;exact PySem.EqNone.ne_int_none (bB I q (by simp))
  |int j=>obtain⟨t',rfl⟩:=ry;exact ne_int (bB I q (congrArg not iM))
  |str j=>obtain⟨t',rfl⟩:=ry;exact PySem.EqMixed.ne_int_str (bB I q (by simp))
  |_=>exact Qf (show false=true from hs) qt
 |str i=>
  obtain⟨t,rfl⟩:=rx
  cases y with
  |non=>cases ry;exact PySem.EqNone.ne_str_none (bB I q (by simp))
  |bl j=>cases ry;exact PySem.EqMixed.ne_str_bool (bB I q (by simp))
  |int j=>obtain⟨t',rfl⟩:=ry;exact PySem.EqMixed.ne_str_int (bB I q (by simp))
  |str j=>obtain⟨t',rfl⟩:=ry;exact ne_str (bB I q (congrArg not wR))
  |_=>exact Qf (show false=true from hs) qt
 |byt i=>
  obtain⟨t,rfl⟩:=rx
  cases y with
  |byt j=>obtain⟨t',rfl⟩:=ry;exact PySem.W.ne_bytes (bB I q (congrArg not wU))
  |_=>exact Qf (show false=true from hs) qt
 |_=>cases y<;>exact Qf (show false=true from hs) qt
theorem Cv:OpR X (compareOp .Lt) (rI0 λi j=>.bl (decide (i<j))):=kN λ_ _ _ _ _ _ _ q=>lt_int q
theorem Cw:OpR X (compareOp .LtE) (rI0 λi j=>.bl (decide (i<=j))):=kN λ_ _ _ _ _ _ _ q=>le_int q
theorem CA:OpR X (compareOp .Gt) (rI0 λi j=>.bl (decide (j<i))):=kN λ_ _ _ _ _ _ _ q=>gt_int q
theorem CB:OpR X (compareOp .GtE) (rI0 λi j=>.bl (decide (j<=i))):=kN λ_ _ _ _ _ _ _ q=>ge_int q
theorem Cy:OpR X (compareOp .Is) (λx y H Q=>y=.non/\Q (.bl (decide (x=.non))) H):=by
 intro pins s Y H x y v u Q I rx ry h;obtain⟨rfl,q⟩:=h;cases ry;refine is_none_gen (bB I q ?_)
 cases x<;>first
  |(cases rx;rfl)
  |(obtain⟨t,rfl⟩:=rx;rfl)
theorem Cq:OpR X (compareOp .IsNot) (λx y H Q=>y=.non/\Q (.bl (!decide (x=.non))) H):=by
 intro pins s Y H x y v u Q I rx ry h;obtain⟨rfl,q⟩:=h;cases ry;refine isnot_none_gen (bB I q ?_)
 cases x<;>first
  |(cases rx;rfl)
  |(obtain⟨t,rfl⟩:=rx;rfl)
theorem au(b:Expr){op:CmpOp}(h:op≠.In:=by decide)(h2:op≠.NotIn:=by decide):behindInMarks op b=false:=by
 have e1:(op == CmpOp.In)=false:=by cases op<;>first|rfl|exact Qf U h
 have e2:(op == CmpOp.NotIn)=false:=by cases op<;>first|rfl|exact Qf U h2
 cases b<;>simp[behindInMarks,e1,e2]
theorem eK{op:CmpOp}{r:R2}(ho:OpR X (compareOp op) r)(ha:PE X a ta)(hb:PE X b tb)(hm:behindInMarks op b=false):PE X (.Compare a [op] [b] pos) (tOp r ta tb):=by
 intro pins s Y H Q I h;exact wpAny_Compare1 (pP ha hb I h λv u s2 x y H2 I2 rx ry q=>ho pins s2 Y H2 x y v u Q I2 rx ry q) hm
def jT(t:TE):TT:=λY H Q=>t Y H λx H'=>∃k,x=.bl k/\Q k H'
theorem BH{op:CmpOp}{r:R2}(ho:OpR X (compareOp op) r)(ha:PE X a ta)(hb:PE X b tb)(hm:behindInMarks op b=false):PT X (.Compare a [op] [b] pos) (jT (tOp r ta tb)):=by
 intro pins s Y H Q I h
 refine wpAny_isTrue_Compare1 (thn (ha pins s Y H _ I h) λv s1 ⟨x,H1,I1,r1,q1⟩=>thn (hb pins s1 Y H1 _ I1 q1) λu s2 ⟨y,H2,I2,r2,q2⟩=>
  thn (ho pins s2 Y H2 x y v u _ I2 r1 r2 q2) λc s3 ⟨z,H3,I3,r3,k,e,q3⟩=>?_) hm
 subst e;cases r3;exact wpAny_truthy_bool ⟨H3,I3,q3⟩
def z9(r r':R2)(ta tb tc:TE):TE:=λY H Q=>ta Y H λx H1=>tb Y H1 λy H2=>r x y H2 λz H3=>∃k,z=.bl k /\
 (if k=true then tc Y H3 λw' H4=>r' y w' H4 Q else Q (.bl false) H3)
theorem BI{op op':CmpOp}{r r':R2}(ho:OpR X (compareOp op) r)(ho':OpR X (compareOp op') r')(ha:PE X a ta)(hb:PE X b tb)(hc:PE X c tc)
 (hm:lastMarks [op,op'] [b,c]=false:=by with_unfolding_all rfl):PT X (.Compare a [op,op'] [b,c] pos) (jT (z9 r r' ta tb tc)):=by
 intro pins s Y H Q I h
 refine isTrue_chain (thn (ha pins s Y H _ I h) λv s1 ⟨x,H1,I1,r1,q1⟩=>test_link (thn (hb pins s1 Y H1 _ I1 q1) λu s2 ⟨y,H2,I2,r2,q2⟩=>
  thn (ho pins s2 Y H2 x y v u _ I2 r1 r2 q2) λd s3 ⟨z,H3,I3,r3,k,e,q3⟩=>?_)) hm
 subst e;cases r3;refine wpAny_truthy_bool ?_
 cases k with
 |false=>
  obtain⟨k',e',q'⟩:=q3;cases e';exact ite_ff ⟨H3,I3,q'⟩
 |true=>
  refine ite_tt (test_last (thn (hc pins s3 Y H3 _ I3 q3) λw' s4 ⟨z',H4,I4,r4,q4⟩=>thn (ho' pins s4 Y H4 y z' u w' _ I4 r2 r4 q4) λd' s5 ⟨z2,H5,I5,r5,k2,e2,q5⟩=>?_));subst e2;cases r5;exact wpAny_truthy_bool ⟨H5,I5,q5⟩
theorem jn:(sizeLine:Nat)<2 ^ 63:=by rw[sizeLine_eq];decide
theorem CH:OpR X (binaryOp .Add) (λx y H Q=>∃i j,x=.str i/\y=.str j/\i.length+j.length<=sizeLine/\Q (.str (i++j)) H):=by
 intro pins s Y H x y v u Q I rx ry h;obtain⟨i,j,rfl,rfl,hz,q⟩:=h;obtain⟨t,rfl⟩:=rx;obtain⟨t',rfl⟩:=ry;exact add_str (λt' tk=>⟨.str (i++j),H,I.tok _,⟨_,U⟩,q⟩) hz
theorem fH{x:V}{us:List Value}(r:aw [x] us):∃u,us=[u]/\aF x u:=by
 cases r with
 |cons r1 r2=>cases r2;exact⟨_,U,r1⟩
theorem gB{x y:V}{us:List Value}(r:aw [x,y] us):∃u w',us=[u,w']/\aF x u/\aF y w':=by
 cases r with
 |cons r1 r2=>
  cases r2 with
  |cons r3 r4=>cases r4;exact⟨_,_,U,r1,r3⟩
theorem FM(hc:X.calm=true):cJ X (.builtin "max") (λxs H Q=>∃i j,xs=[.int i,.int j]/\Q (.int (if j > i then j else i)) H):=by
 intro pins s Y H xs us Q I r h;obtain⟨i,j,rfl,q⟩:=h;obtain⟨u,w',rfl,⟨t,rfl⟩,⟨t',rfl⟩⟩:=gB r;refine max_two_ints (I.ok.hd hc) λh' tk k=>⟨_,H,I.kept k,?_,q⟩;by_cases hj:j > i
 .rw[Qc hj,Qc hj];exact⟨_,U⟩
 .rw[Qb hj,Qb hj];exact⟨_,U⟩
theorem FL(hc:X.calm=true):cJ X (.builtin "min") (λxs H Q=>∃i j,xs=[.int i,.int j]/\Q (.int (if j<i then j else i)) H):=by
 intro pins s Y H xs us Q I r h;obtain⟨i,j,rfl,q⟩:=h;obtain⟨u,w',rfl,⟨t,rfl⟩,⟨t',rfl⟩⟩:=gB r;refine min_two_ints (I.ok.hd hc) λh' tk k=>⟨_,H,I.kept k,?_,q⟩;by_cases hj:j<i
 .rw[Qc hj,Qc hj];exact⟨_,U⟩
 .rw[Qb hj,Qb hj];exact⟨_,U⟩
end
structure hJ(h:Heap)(x dx C:Addr)(mA:Str->Option Value):Prop where
 obj:h.get? x=some (PySem.W.instObj C dx)
 ns:h.Ns1 dx mA
 ne:dx≠x
theorem E3{h:Heap}{dx:Addr}{mA:Str->Option Value}(n:h.Ns1 dx mA):∃od,h.get? dx=some od/\∀name,PySem.W.lookIn name od=some (mA name):=by
 obtain⟨o,es,ep,ho,hd,hk,_,hm⟩:=n;refine⟨o,ho,λname=>?_⟩;have e:=hm name;unfold nsFind findBy at e;rw[<- Array.find?_toList]at e;unfold PySem.W.lookIn;rw[hd];dsimp only;split
 .rename_i y q;rw[q]at e;exact congrArg some e
 .rename_i q;rw[q]at e
  have a:es.toList.any (·.refKey)=false:=by
   rw[List.any_eq_false];intro y hy;obtain⟨z,t,hkey⟩:=hk y (Array.mem_toList_iff.mp hy);simp[DictEntry.refKey,hkey]
  have a':¬ es.toList.any (·.refKey)=true:=by rw[a];exact qt
  rw[Qb a'];exact congrArg some e
theorem hJ.look{h:Heap}{x dx C:Addr}{mA:Str->Option Value}(I:hJ h x dx C mA):∃od,PySem.W.InstAt h x (PySem.W.instObj C dx) C (some od)/\∀name,PySem.W.lookIn name od=some (mA name):=
 let ⟨od,ho,hl⟩:=E3 I.ns
 ⟨od,⟨I.obj,U,U,ho⟩,hl⟩
section
variable {prog:Program}{w:World}{A:Around}{E:Yq}{s:Shared}{K:W.Frag}{x dx C f:Addr}{mA:Str->Option Value}{name:Str}{v:Value}
theorem EJ{expr:Bool}{Q:Yq}(X:K.In s.heap)(I:hJ s.heap x dx C mA)(hg:PySem.W.plainGet K C name=true)(hh:PySem.W.hasDictIn K C=true)
 (ha:PySem.W.findIn K (.ref C) name=some none) (hv:mA name=some v) (hv':PySem.W.handedIn v=true) (h:Q v { s with toks:=s.toks+1 }):
 wpAny (model prog w) A (getAttr (.ref x) name expr) Q E s:=by
 obtain⟨od,J,hl⟩:=I.look;exact PySem.W.get_value X J (PySem.W.plainGet_of hg).1 (PySem.W.findObj_own hh ha U (by rw[hl,hv])) hv' h
theorem EI{pl:Sem Bool}{Q:Value×List Value->Shared->Prop}(X:K.In s.heap)(I:hJ s.heap x dx C mA)(hg:PySem.W.plainGet K C name=true)
 (hf:PySem.W.findIn K (.ref C) name=some (some (.ref f))) (ht:PySem.W.isFn K (.ref f)=true) (hv:mA name=none) (h:Q (.ref f,[.ref x]) s):
 wpAny (model prog w) A (getMethod (.ref x) name pl) Q E s:=by
 obtain⟨od,J,hl⟩:=I.look;exact PySem.W.method_fn X J (PySem.W.plainGet_of hg).1 (PySem.W.plainGet_of hg).2 hf (beq_iff_eq.mp ht) (by show(PySem.W.lookIn name od).map (·.isSome)=some false;rw[hl,hv];rfl) h
theorem Ag{ns:List Str}{Q:Unit->Shared->Prop}(X:K.In s.heap)(I:hJ s.heap x dx C mA)
 (hs:PySem.W.findIn K (.ref C) "__setattr__"=some (some (.builtin "object.__setattr__"))) (hp:PySem.W.plainOver K C=true) (ht:PySem.W.takerIn K C name=some none) (hh:PySem.W.hasDictIn K C=true)
 (hw:PySem.Within mA ns) (hsz:ns.length<=sizeLine)
 (h:∀h',hJ h' x dx C (λy=>if y=name then some v else mA y)->Heap.SameBut dx s.heap h'->Q () { s with heap:=h',toks:=s.toks+2 }):
 wpAny (model prog w) A (setAttr (.ref x) name v) Q E s:=by
 obtain⟨od,J,hl⟩:=I.look;refine PySem.W.set_plain X J hs (PySem.W.osa_open (s:={ s with toks:=s.toks+1 }) (r:=none) X J hp ht λb=>?_);obtain⟨cd,hc,hd'⟩:=PySem.W.any_some hh;have hx:s.heap.get? x=some ⟨.ref C,some dx,.plain,#[]⟩:=I.obj;refine qb (qh (qb (qb (wpAny_loadPart hx (qb (PySem.W.Looks.here (s:={ s with toks:=s.toks+1 }) (PySem.W.looks_clsIn X hc) ?_))))));rw[hd'];refine qh (a:=some dx) (qb (qh (qb ?_)));refine wpAny_nsSet1 (s:={ s with toks:=s.toks+1 }) I.ns λh' hn2 hs2=>?_;obtain⟨oD,esD,epD,hoD,hdD,hcD⟩:=hn2.count (PySem.Within.cons name v hw);refine qb (wpAny_lookBehind hoD (by rw[hdD];exact pastItsLine_dict (qJ hcD (by rw[qL];omega))) ?_);exact qh (h _ ⟨(hs2.2 _ (Ne.symm I.ne)).trans I.obj,hn2,I.ne⟩ hs2)
theorem DT{R:Result->Shared->Prop}{vs:List Value}{kw:List (Str×Value)}(X:K.In s.heap)(hm:PySem.W.makesIn K C=true)
 (hi:PySem.W.findIn K (.ref C) "__init__"=some (some (.ref f))) (hf:PySem.W.typeIn K (.ref f)=some (.type "function"))
 (h:codeAny (model prog w) (A.under (.builtin "type.__call__" ⟨.ref C::vs,kw⟩)) (.call (.ref f) ⟨.ref (s.heap.objs.size+1)::vs,kw⟩) (PySem.W.InitBack (s.heap.objs.size+1) R)
  { s with heap:=(s.heap.push PySem.W.emptyDict).push (PySem.W.instObj C s.heap.objs.size) }):
 codeAny (model prog w) A (.call (.ref C) ⟨vs,kw⟩) R s:=by
 obtain⟨hh,g,d,t,os⟩:=s;exact PySem.W.make_core (PySem.W.makes_of X hm) (PySem.W.looks_findIn X hi) (λself=>PySem.W.bind_fn X self hf) (.inl U) h
end
noncomputable def bQ(f:Str)(v:V):List (Str×V)->List (Str×V)
 |[]=>[(f,v)]
 |(g,x)::r=>if g=f then(g,v)::r else(g,x)::bQ f v r
theorem vK(f g:Str)(v:V):∀fs:List (Str×V),(bQ f v fs).lookup g=if g=f then some v else fs.lookup g
 |[]=>by
  show List.lookup g [(f,v)]=_;by_cases h:g=f
  .have hb:(g == f)=true:=beq_iff_eq.mpr h;simp only[List.lookup,hb,Qc h]
  .have hb:(g == f)=false:=beq_eq_false_iff_ne.mpr h;simp only[List.lookup,hb,Qb h]
 |(k,x)::r=>by
  have ih:=vK f g v r;rw[show bQ f v ((k,x)::r)=(if k=f then(k,v)::r else(k,x)::bQ f v r)from rfl];by_cases hk:k=f
  .rw[Qc hk];by_cases h:g=k
   .have hb:(g == k)=true:=beq_iff_eq.mpr h;simp only[List.lookup,hb,Qc (h.trans hk)]
   .have hb:(g == k)=false:=beq_eq_false_iff_ne.mpr h;simp only[List.lookup,hb,Qb (λe:g=f=>h (e.trans hk.symm))]
  .rw[Qb hk];by_cases h:g=k
   .have hb:(g == k)=true:=beq_iff_eq.mpr h;simp only[List.lookup,hb,Qb (λe:g=f=>hk (h.symm.trans e))]
   .have hb:(g == k)=false:=beq_eq_false_iff_ne.mpr h;simp only[List.lookup,hb];exact ih
theorem oV(f:Str)(v:V):∀fs:List (Str×V),f∈(bQ f v fs).map (·.1)/\∀g,g∈fs.map (·.1)->g∈(bQ f v fs).map (·.1)
 |[]=>⟨by simp[bQ],λg h=>by simp at h⟩
 |(k,x)::r=>by
  obtain⟨i1,i2⟩:=oV f v r;rw[show bQ f v ((k,x)::r)=(if k=f then(k,v)::r else(k,x)::bQ f v r)from rfl];by_cases hk:k=f
  .rw[Qc hk];subst hk;exact⟨by simp,λg h=>by simpa using h⟩
  .rw[Qb hk];refine⟨?_,λg h=>?_⟩
   .rw[Q3];exact qw _ i1
   .rw[Q3]at h ⊢;rcases qF.mp h with e|e
    .exact qF.mpr (.inl e)
    .exact qw _ (i2 g e)
theorem vM(f:Str)(v:V):∀fs:List (Str×V),(bQ f v fs).length<=fs.length+1
 |[]=>by simp[bQ]
 |(k,x)::r=>by
  have ih:=vM f v r;rw[show bQ f v ((k,x)::r)=(if k=f then(k,v)::r else(k,x)::bQ f v r)from rfl];by_cases hk:k=f
  .rw[Qc hk,qL,qL];omega
  .rw[Qb hk,qL,qL];omega
theorem cQ.some_of{v:V}{o:Option Value}(r:cQ (some v) o):∃u,o=some u/\aF v u:=by
 cases o with
 |none=>exact(show False from r).elim
 |some u=>exact⟨u,U,r⟩
theorem cQ.none_of{o:Option Value}(r:cQ none o):o=none:=by
 cases o with
 |none=>rfl
 |some u=>exact(show False from r).elim
theorem wb{v:V}{u:Value}(r:aF v u):PySem.W.handedIn u=true:=by
 cases v with
 |non=>cases(show u=Value.none from r);rfl
 |bl b=>cases(show u=Value.bool b from r);rfl
 |int i=>obtain⟨t,e⟩:=(show ∃t,u=Value.int i t from r);cases e;rfl
 |str x=>obtain⟨t,e⟩:=(show ∃t,u=Value.str x t from r);cases e;rfl
 |byt b=>obtain⟨t,e⟩:=(show ∃t,u=Value.bytes b t from r);cases e;rfl
 |flt b=>obtain⟨t,e⟩:=(show ∃t,u=Value.float b t from r);cases e;rfl
 |ref a=>cases(show u=Value.ref a from r);rfl
 |ty n=>cases(show u=Value.type n from r);rfl
section
variable {P:Program}{w:World}{H H':Hp}{h h':Heap}{a C dx:Addr}{fs fs':List (Str×V)}
theorem kZ(hok:HOk P w H h)(e:H a=some (.ins C dx fs)):∃mA,hJ h a dx C mA/\(∀f,cQ (fs.lookup f) (mA f))/\PySem.Within mA (fs.map (·.1))/\fs.length<=1000/\H dx=some (.own a):=by
 obtain⟨d,z,ne,ob,mA,n,r,q⟩:=(show bp P w H h a (.ins C dx fs)from hok a _ e);exact⟨mA,⟨ob,n,ne⟩,r,q,z,d⟩
end
structure Cls(K:W.Frag)(C:Addr):Prop where
 pg:PySem.W.plainGet K C Str.empty=true
 hd:PySem.W.hasDictIn K C=true
 po:PySem.W.plainOver K C=true
 sa:PySem.W.findIn K (.ref C) "__setattr__"=some (some (.builtin "object.__setattr__"))
theorem Cls.get{K:W.Frag}{C:Addr}(c:Cls K C)(f:Str):PySem.W.plainGet K C f=true:=c.pg
def dC(K:W.Frag)(C:Addr)(f:Str):Prop:=PySem.W.findIn K (.ref C) f=some none
theorem dC.taker{K:W.Frag}{C:Addr}{f:Str}(n:dC K C f):PySem.W.takerIn K C f=some none:=by
 unfold PySem.W.takerIn;rw[show PySem.W.findIn K (.ref C) f=some none from n]
 rfl
structure bD(K:W.Frag)(C:Addr)(m:Str)(f:Addr):Prop where
 at_:PySem.W.findIn K (.ref C) m=some (some (.ref f))
 fn:PySem.W.isFn K (.ref f)=true
 kp:PySem.W.keepIn K (.ref f)=true
section
variable {X:Cx}{pins:List (Addr×Obj)}{Y:St}{H:Hp}{s:Shared}{a C dx:Addr}{fs:List (Str×V)}{f:Str}{v:V}{A:Around}{E:Yq}
theorem EH{b:Bool}{Q:Yq}(I:Inv X pins Y H s)(e:H a=some (.ins C dx fs))(c:Cls X.K C)(n:dC X.K C f)(l:fs.lookup f=some v)
 (h:∀u s',Inv X pins Y H s'->aF v u->Q u s'):wpAny (model X.prog X.w) A (getAttr (.ref a) f b) Q E s:=by
 obtain⟨mA,O,r,_,_,_⟩:=kZ I.hok e;obtain⟨u,hu,ru⟩:=cQ.some_of (v:=v) (o:=mA f) (by rw[<- l];exact r f);exact EJ I.kIn O (c.get f) c.hd n hu (wb ru) (h u _ (I.tok _) ru)
theorem pk{m:Str}{g:Addr}{pl:Sem Bool}{Q:Value×List Value->Shared->Prop}(I:Inv X pins Y H s)(e:H a=some (.ins C dx fs))(c:Cls X.K C)(k:bD X.K C m g)(l:fs.lookup m=none)
 (h:Q (.ref g,[.ref a]) s):wpAny (model X.prog X.w) A (getMethod (.ref a) m pl) Q E s:=by
 obtain⟨mA,O,r,_,_,_⟩:=kZ I.hok e;have hn:mA m=none:=cQ.none_of (by rw[<- l];exact r m);exact EI I.kIn O (c.get m) k.at_ k.fn hn h
theorem Ad{y:V}{u:Value}{Q:Unit->Shared->Prop}(I:Inv X pins Y H s)(e:H a=some (.ins C dx fs))(c:Cls X.K C)(n:dC X.K C f)(hl:fs.length<1000)(ry:aF y u)
 (h:∀s',Inv X pins Y (upd H a (.ins C dx (bQ f y fs))) s'->Q () s'):wpAny (model X.prog X.w) A (setAttr (.ref a) f u) Q E s:=by
 obtain⟨mA,O,r,wi,_,ho⟩:=kZ I.hok e;have hz:(fs.map (·.1)).length<=sizeLine:=by rw[qc,sizeLine_eq];omega
 refine Ag I.kIn O c.sa c.po n.taker c.hd wi hz λh' O' sb=>h _ ?_;have hd:∃o,h'.get? dx=some o:=let ⟨o,_,_,e',_⟩:=O'.ns;⟨o,e'⟩;refine I.write (x:=a) (e:=dx) (by rw[e];exact True.intro) (.inr ho) (λb q hb z=>(sb.2 b hb).trans z) hd ?_;refine⟨by rw[ae O.ne];exact ho,?_,O.ne,O'.obj,_,O'.ns,λg=>?_,λg hg=>?_⟩
 .have:=vM f y fs;omega
 .show cQ ((bQ f y fs).lookup g) (if g=f then some u else mA g);rw[vK];by_cases q:g=f
  .rw[Qc q,Qc q];exact ry
  .rw[Qb q,Qb q];exact r g
 .by_cases q:g=f
  .rw[q];exact(oV f y fs).1
  .refine(oV f y fs).2 g (wi g λz=>hg ?_);show(if g=f then some u else mA g)=none;rw[Qb q];exact z
theorem Inv.made(I:Inv X pins Y H s):Inv X pins Y (upd (upd H s.heap.objs.size (.own (s.heap.objs.size+1))) (s.heap.objs.size+1) (.ins C s.heap.objs.size []))
 { s with heap:=(s.heap.push PySem.W.emptyDict).push (PySem.W.instObj C s.heap.objs.size) }:=by
 have e1:(s.heap.push PySem.W.emptyDict).get? s.heap.objs.size=some PySem.W.emptyDict:=qz s.heap U
 have e2:((s.heap.push PySem.W.emptyDict).push (PySem.W.instObj C s.heap.objs.size)).get? (s.heap.objs.size+1)=some (PySem.W.instObj C s.heap.objs.size):=by
  have:=qz (s.heap.push PySem.W.emptyDict) (o:=PySem.W.instObj C s.heap.objs.size) U
  rwa [Qq]at this
 have e3:(s.heap.push PySem.W.emptyDict).Ns s.heap.objs.size (λ_=>none):=⟨PySem.W.emptyDict,#[],_,e1,U,(λe he=>Qf he (by simp)),λ_=>U⟩;have I1:=I.laid (a:=s.heap.objs.size) (o:=.own (s.heap.objs.size+1)) (h':=s.heap.push PySem.W.emptyDict) (t':=s.toks) (λb u q=>qe _ q) (qi _) ⟨_,e1⟩;refine I1.laid (a:=s.heap.objs.size+1) (o:=.ins C s.heap.objs.size []) (t':=s.toks) (λb u q=>qe _ q) (Nat.le_of_eq (Qq _ _)) ?_;have ne:s.heap.objs.size≠s.heap.objs.size+1:=qQ (Ql _);refine⟨by rw[ae ne,ag],qD _,ne,e2,λ_=>none,(Heap.Ns1.of_empty e3).at λo q=>qe _ q,λ_=>True.intro,λy hy=>Qf U hy⟩
theorem Gb{prog:Program}{w:World}{env:Env}{e:Expr}{f:Str}{pos:Pos}{s:Shared}{Q:Yq}(hb:attributeBase e f env (eval e env)=eval e env)
 (h:wpAny (model prog w) A (eval e env) (λo s₁=>wpAny (model prog w) A (getAttr o f true) Q E s₁) E s):wpAny (model prog w) A (eval (.Attribute e f pos) env) Q E s:=
 Attribute_any_ h (by rw[arm_eval_Attribute,hb])
end
def jU(K:W.Frag)(ta:TE)(f:Str):TE:=λY H Q=>ta Y H λx H1=>∃a C dx fs v,x=.ref a/\H1 a=some (.ins C dx fs)/\Cls K C/\dC K C f/\fs.lookup f=some v/\Q v H1
def AL(K:W.Frag)(ta tv:TE)(f:Str):TS:=λD Y H=>tv Y H λy H1=>ta Y H1 λx H2=>∃a C dx fs,x=.ref a/\H2 a=some (.ins C dx fs)/\Cls K C/\dC K C f/\fs.length<1000 /\
 D.nx Y (upd H2 a (.ins C dx (bQ f y fs)))
section
variable {X:Cx}{o e value:Expr}{f:Str}{pos pos' tpos:Pos}{ta tv:TE}
theorem uV(he:PE X e ta)(hb:attributeBase e f X.env (eval e X.env)=eval e X.env):PE X (.Attribute e f pos) (jU X.K ta f):=by
 intro pins s Y H Q I h;refine Gb hb (thn (he pins s Y H _ I h) λu s1 ⟨x,H1,I1,rx,a,C,dx,fs,v,ex,ea,c,n,l,q⟩=>?_);subst ex;obtain rfl:u=Value.ref a:=rx;exact EH I1 ea c n l λu' s2 I2 ru=>⟨v,H1,I2,ru,q⟩
theorem fK(ha:PE X o ta)(hv:PE X value tv)(hs:swapsWith value (some (.Attribute o f pos')) pos.line X.env=pure false):PS X (.Assign [.Attribute o f pos'] value pos) (AL X.K ta tv f):=by
 intro pins s Y H D I h;refine plainObj_wpAny_Assign_Attribute (thn (hv pins s Y H _ I h) λu s1 ⟨y,H1,I1,ry,q⟩=>thn (ha pins s1 Y H1 _ I1 q) λov s2 ⟨x,H2,I2,rx,a,C,dx,fs,ex,ea,c,n,l,q2⟩=>?_) hs;subst ex;obtain rfl:ov=Value.ref a:=rx;exact Ad I2 ea c n l ry λs3 I3=>⟨Y,_,I3,q2⟩
theorem Gr{pl:Sem Bool}{m:Str}{apos:Pos}{args:List Expr}{pins:List (Addr×Obj)}{s:Shared}{Y:St}{H:Hp}{Q:Yq}{te:TE}(he:PE X e te)(I:Inv X pins Y H s)
 (h:te Y H λx H1=>∃a C dx fs g,x=.ref a/\H1 a=some (.ins C dx fs)/\Cls X.K C/\bD X.K C m g/\fs.lookup m=none /\
  ∀s1,Inv X pins Y H1 s1->wpAny (model X.prog X.w) X.A (callWith pos (.ref g) [.ref a] (backTo pos (starEach args X.env)) (backToKw pos (keywordEach [] X.env))) Q X.xe s1)
 (ht:eval (.Call (.Attribute e m apos) args [] pos) X.env=(do
  let ov <- eval e X.env
  standAt apos.atName
  let (f,first) <- holding [ov] (getMethod ov m pl)
  callWith pos f first (backTo pos (starEach args X.env)) (backToKw pos (keywordEach [] X.env)))):
 wpAny (model X.prog X.w) X.A (eval (.Call (.Attribute e m apos) args [] pos) X.env) Q X.xe s:=by
 refine PySem.W.methodCall_KW (pl:=pl) (thn (he pins s Y H _ I h) λu s1 ⟨x,H1,I1,rx,a,C,dx,fs,g,ex,ea,c,k,l,q⟩=>?_) ht;subst ex;obtain rfl:u=Value.ref a:=rx;exact pk I1 ea c k l (q s1 I1)
end
section
variable {X:Cx}{pins:List (Addr×Obj)}{Y:St}{H:Hp}{s:Shared}{A:Around}{E:Yq}{Q:Yq}{c:Value}{b:Bool}
inductive e5(K:W.Frag)(H:Hp):V->Value->Prop where
 |non:e5 K H .non (.type "NoneType")
 |bl (x:Bool):e5 K H (.bl x) (.type "bool")
 |int (i:Int):e5 K H (.int i) (.type "int")
 |str (x:Str):e5 K H (.str x) (.type "str")
 |flt (x:UInt64):e5 K H (.flt x) (.type "float")
 |lst {a:Addr}{xs:List V}(e:H a=some (.lst xs)):e5 K H (.ref a) (.type "list")
 |frz {a:Addr}{o:Obj}{xs:List V}(e:H a=some (.frz o (.lst xs))):e5 K H (.ref a) (.type "list")
 |tup {a:Addr}{xs:List V}(e:H a=some (.tup xs)):e5 K H (.ref a) (.type "tuple")
 |dK {a:Addr}{kvs:List (Key×V)}(e:H a=some (.dK kvs)):e5 K H (.ref a) (.type "dict")
 |dT {a:Addr}{kvs:List (List Key×V)}(e:H a=some (.dT kvs)):e5 K H (.ref a) (.type "dict")
 |ins {a C dx:Addr}{fs:List (Str×V)}(e:H a=some (.ins C dx fs)) (cl:Cls K C) (ha:PySem.W.findIn K (.ref C) "__class__"=some (some (.builtin "object.__class__")))
  (hn:PySem.W.specialIn K (.builtin "object.__class__") "__get__"=some (some (.builtin "getset_descriptor.__get__"))) (htk:PySem.W.takesIn K (.builtin "object.__class__")=some true)
  (hm:PySem.W.mroIn K C (.type "object")=some true):e5 K H (.ref a) (.ref C)
theorem Eu{x:V}{u t:Value}(I:Inv X pins Y H s)(rx:aF x u)(ty:e5 X.K H x t)(e:PySem.W.kitOne X.K t c=some b)(h:∀tk,Q (.bool b) { s with toks:=tk }):
 wpAny (model X.prog X.w) A (call (.builtin "isinstance") [u,c]) Q E s:=by
 cases ty with
 |non=>cases(show u=Value.none from rx);exact QI PySem.W.kitx_none I.kIn True.intro e (λz=>nomatch z) h
 |bl y=>cases(show u=Value.bool y from rx);exact QI PySem.W.kitx_bool I.kIn True.intro e (λz=>nomatch z) h
 |int i=>obtain⟨t,q⟩:=(show ∃t,u=Value.int i t from rx);cases q;exact QI PySem.W.kitx_int I.kIn True.intro e (λz=>nomatch z) h
 |str y=>obtain⟨t,q⟩:=(show ∃t,u=Value.str y t from rx);cases q;exact QI PySem.W.kitx_str I.kIn True.intro e (λz=>nomatch z) h
 |flt y=>obtain⟨t,q⟩:=(show ∃t,u=Value.float y t from rx);cases q;exact QI PySem.W.kitx_float I.kIn True.intro e (λz=>nomatch z) h
 |@lst a xs ea=>
  cases(show u=Value.ref a from rx);obtain⟨_,_,n,_,h1⟩:=(show bp X.prog X.w H s.heap a (.lst xs)from I.hok a _ ea);exact QI PySem.W.kitx_list I.kIn ⟨_,h1,U⟩ e (λz=>nomatch z) h
 |@frz a ob xs ea=>
  cases(show u=Value.ref a from rx);obtain⟨_,_,_,n,_,h1⟩:=(show bp X.prog X.w H s.heap a (.frz ob (.lst xs))from I.hok a _ ea);exact QI PySem.W.kitx_list I.kIn ⟨_,h1,U⟩ e (λz=>nomatch z) h
 |@tup a xs ea=>
  cases(show u=Value.ref a from rx);obtain⟨_,_,_,p⟩:=(show bp X.prog X.w H s.heap a (.tup xs)from I.hok a _ ea);obtain⟨o,h1,h2,_⟩:=p;exact QI PySem.W.kitx_tuple I.kIn ⟨o,h1,h2⟩ e (λz=>nomatch z) h
 |@dK a kvs ea=>
  cases(show u=Value.ref a from rx);obtain⟨_,_,vs,_,p⟩:=(show bp X.prog X.w H s.heap a (.dK kvs)from I.hok a _ ea);obtain⟨o,es,ep,h1,h2,_⟩:=p;exact QI PySem.W.kitx_dict I.kIn ⟨o,h1,h2.1⟩ e (λz=>nomatch z) h
 |@dT a kvs ea=>
  cases(show u=Value.ref a from rx);obtain⟨_,_,xs,_,o,es,ep,h1,h2,_⟩:=(show bp X.prog X.w H s.heap a (.dT kvs)from I.hok a _ ea);exact QI PySem.W.kitx_dict I.kIn ⟨o,h1,h2.1⟩ e (λz=>nomatch z) h
 |@ins a C dx fs ea cl ha hn htk hm=>
  cases(show u=Value.ref a from rx);obtain⟨mA,O,_⟩:=kZ I.hok ea;obtain⟨od,J,_⟩:=O.look;exact QI (PySem.W.kitx_own (cl.get _) cl.hd ha hn htk hm) I.kIn J e (λz=>nomatch z) h
end
structure bG(k:Nat)(A:Around):Prop where
 hd:A.handled=none
 dp:A.depth+3 * k+5<recursionLimit
 un:A.units+16 * k+200<cLine
 gd:A.guards=some []
theorem bG.mono{j k:Nat}{A:Around}(r:bG k A)(h:j<=k):bG j A:=⟨r.hd,by have:=r.dp;omega,by have:=r.un;omega,r.gd⟩
theorem bG.deeper{k:Nat}{A:Around}(r:bG (k+1) A)(env:Env):bG k (A.deeper env):=
 ⟨r.hd,by have:=r.dp;show A.depth+1+3 * k+5<_;omega,by have:=r.un;show A.units+3+16 * k+200<_;omega,r.gd⟩
theorem DV{A:Around}{C:Addr}{us:List Value}{kw:List (Str×Value)}:(A.under (.builtin "type.__call__" ⟨.ref C::us,kw⟩)).depth=A.depth+1:=by
 first|rfl|simp[Around.under,Code.weight,Code.isCreation,Code.isGuard,Code.isCaller,Code.frames,Code.isFrame,guardIds]
theorem DS{A:Around}{C:Addr}{us:List Value}{kw:List (Str×Value)}:(A.under (.builtin "type.__call__" ⟨.ref C::us,kw⟩)).units=A.units+1:=by
 first|rfl|simp[Around.under,Code.cUnits,Code.frames,Code.isFrame]
theorem DU{A:Around}{C:Addr}{us:List Value}{kw:List (Str×Value)}:(A.under (.builtin "type.__call__" ⟨.ref C::us,kw⟩)).guards=A.guards:=by
 first|rfl|simp[Around.under,Code.guards,Code.isGuard,guardIds,Around.pushGuards]
theorem bG.make{k:Nat}{A:Around}(r:bG (k+1) A)(C:Addr)(us:List Value)(kw:List (Str×Value)):bG k (A.under (.builtin "type.__call__" ⟨.ref C::us,kw⟩)):=
 ⟨r.hd,by have:=r.dp;rw[DV];omega,by have:=r.un;rw[DS];omega,by rw[DU];exact r.gd⟩
theorem bG.depth{k:Nat}{A:Around}(r:bG k A):A.depth<recursionLimit:=by have:=r.dp;omega
theorem bG.units{k:Nat}{A:Around}(r:bG k A):A.units+64<cLine:=by have:=r.un;omega
def rX:TA:=λ_ H Q=>Q [] H
def yZ(ta:TE)(tr:TA):TA:=λY H Q=>ta Y H λx H1=>tr Y H1 λxs H2=>Q (x::xs) H2
section
variable {X:Cx}{e:Expr}{es:List Expr}{te:TE}{t:TA}{pos:Pos}
theorem af:PA X [] rX:=λ_ _ _ _ H Q I h=>Calls.spliced_nil ⟨[],H,I,.nil,h⟩
theorem a9(ha:PE X e te)(hr:PA X es t)(hs:starEach (e::es) X.env=(false,eval e X.env)::starEach es X.env:=by rfl):PA X (e::es) (yZ te t):=by
 intro pos pins s Y H Q I h;rw[hs];show wpAny _ _ (spliced ((false,eval e X.env)::backTo pos (starEach es X.env))) _ _ s;refine Calls.spliced_cons (thn (ha pins s Y H _ I h) λu s1 ⟨x,H1,I1,r1,q1⟩=>?_);exact thn (hr pos pins s1 Y H1 _ I1 q1) λus s2 ⟨xs,H2,I2,r2,q2⟩=>⟨x::xs,H2,I2,.cons r1 r2,q2⟩
def lF(t:TA):TE:=λY H Q=>t Y H λxs H1=>xs.length<=sizeLine/\∀p,H1 p=none->Q (.ref p) (upd H1 p (.tup xs))
def lG(t:TA):TE:=λY H Q=>t Y H λxs H1=>xs.length<=sizeLine/\∀p,H1 p=none->Q (.ref p) (upd H1 p (.lst xs))
theorem C3{x1}(h:PA X es t):PE X (.Tuple es x1 pos) (lF t):=by
 intro pins s Y H Q I hq;refine wpAny_Tuple_spliced (thn (h pos pins s Y H _ I hq) λus s1 ⟨xs,H1,I1,r,z,q⟩=>⟨by rw[<- r.length];exact z,?_⟩);have hf:H1 s1.heap.objs.size=none:=I1.hok.fresh (qi _);refine⟨.ref s1.heap.objs.size,upd H1 s1.heap.objs.size (.tup xs),I1.laid (t':=s1.toks) (λb u e=>qe _ e) (qi _) ?_,U,q _ hf⟩;exact⟨z,us,r,⟨_,qz _ U,U,_,U⟩⟩
theorem C5(h:PA X es t):PE X (.List es pos) (lG t):=by
 intro pins s Y H Q I hq;refine wpAny_List_spliced (thn (h pos pins s Y H _ I hq) λus s1 ⟨xs,H1,I1,r,z,q⟩=>⟨by rw[<- r.length];exact z,?_⟩);have hf:H1 s1.heap.objs.size=none:=I1.hok.fresh (qi _);refine⟨.ref s1.heap.objs.size,upd H1 s1.heap.objs.size (.lst xs),I1.laid (t':=s1.toks) (λb u e=>qe _ e) (qi _) ?_,U,q _ hf⟩;exact⟨z,us,0,r,qz _ U⟩
end
abbrev Sp:=List V->Hp->VK->XK->Prop
abbrev CXT:=List Env->Hp->Shared->XK->Value->Shared->Prop
structure hX(P:Program)(w:World)(K:W.Frag)(mg:Str->Option Value)(base:Heap)(A:Around)(outer:List Env)(s:Shared)(H:Hp):Prop where
 frames:A.frames=some outer
 mod:Mod K mg base
 bs:∀b o,base.get? b=some o->s.heap.get? b=some o/\H b=none
 bsz:base.objs.size<=s.heap.objs.size
 funs:s.heap.FunFrames base outer
 frf:∀b∈frs outer,H b=none
 hok:HOk P w H s.heap
 bare:AllBare s.gens
def CE(outer:List Env)(P:Program)(w:World)(H:Hp)(s:Shared)(Q:VK)(u:Value)(s':Shared):Prop:=
 ∃v H',s'.os=s.os/\AllBare s'.gens/\Un (frs outer) [] H H' s.heap s'.heap/\HOk P w H' s'.heap/\aF v u/\Q v H'
def CR(CX:CXT)(outer:List Env)(P:Program)(w:World)(H:Hp)(s:Shared)(Q:VK)(E:XK)(r:Result)(s':Shared):Prop:=
 match r with
 |.ok (.ret u)=>CE outer P w H s Q u s'
 |.ok _=>False
 |.error e=>CX outer H s E e s'
structure aB(P:Program)(w:World)(K:W.Frag)(mg:Str->Option Value)(base:Heap)(CX:CXT)(k:Nat)(f:Addr)(fd:FuncData)(ps:List Str)(sp:Sp):Prop where
 len:∀vs H Q E,sp vs H Q E->vs.length=ps.length
 dz:∀(A:Around)(outer:List Env)(s:Shared)(H:Hp)(args:Args)(us:List Value)(vs:List V)(Q:VK)(E:XK),bG k A->hX P w K mg base A outer s H->BindsTo s fd args (ps.zip us)->aw vs us->sp vs H Q E->
  codeAny (model P w) A (.call (.ref f) args) (CR CX outer P w H s Q E) s
theorem hX.make{P:Program}{w:World}{K:W.Frag}{mg:Str->Option Value}{base:Heap}{A:Around}{outer:List Env}{s:Shared}{H:Hp}(e:hX P w K mg base A outer s H)(C:Addr)(us:List Value)(kw:List (Str×Value)):
 hX P w K mg base (A.under (.builtin "type.__call__" ⟨.ref C::us,kw⟩)) outer s H:=⟨by first|exact e.frames|(simpa[Around.under,Code.envs,Code.isFrame,pushEnvs]using e.frames),e.mod,e.bs,e.bsz,e.funs,e.frf,e.hok,e.bare⟩
section
variable {X:Cx}{pins:List (Addr×Obj)}{Y:St}{H:Hp}{s s':Shared}
theorem Inv.env0(I:Inv X pins Y H s):hX X.prog X.w X.K X.mg X.base X.A X.stack s H:=
 ⟨I.ok.frames,I.ok.mod,I.bs,qJ I.ok.bsz I.sz,I.stack,I.stkFree,I.hok,I.bare⟩
theorem Inv.after{Q:VK}{u:Value}(I:Inv X pins Y H s)(h:CE X.stack X.prog X.w H s Q u s'):EP X pins Y Q u s':=by
 obtain⟨v,H',os,bare,un,hok,r,q⟩:=h;obtain⟨hh,g,d,t,os'⟩:=s';obtain rfl:os'=s.os:=os;exact⟨v,H',I.call (h':=hh) (g':=g) (d':=d) (t':=t) (ch:=[]) un hok bare (λb z=>Qf z (by simp)),r,q⟩
end
def za(sp:Sp)(dvs:List V)(E:XK)(t:TA):TE:=λY H Q=>t Y H λvs H1=>sp (vs++dvs) H1 Q E
def rY(C:Addr)(m:Str)(sp:Sp)(dvs:List V)(E:XK)(ta:TE)(t:TA):TE:=λY H Q=>ta Y H λx H1=>∃a dx fs,x=.ref a/\H1 a=some (.ins C dx fs)/\fs.lookup m=none /\
 t Y H1 λvs H2=>sp (x::(vs++dvs)) H2 Q E
def yN(C:Addr)(sp:Sp)(dvs:List V)(E:XK)(t:TA):TE:=λY H Q=>t Y H λvs H1=>∀x dx,H1 x=none->H1 dx=none->dx≠x->
 sp (.ref x::(vs++dvs)) (upd (upd H1 dx (.own x)) x (.ins C dx [])) (λv H2=>v=.non/\Q (.ref x) H2) E
def aJ(K:W.Frag)(fd:FuncData)(ps:List Str)(ds:List Value):Prop:=
 ∀(s:Shared)(us:List Value),K.In s.heap->(us++ds).length=ps.length->BindsTo s fd ⟨us,[]⟩ (ps.zip (us++ds))
theorem aJ.all{K:W.Frag}{fd:FuncData}{ps:List Str}(h:∀us:List Value,us.length=ps.length->bindArgs fd ⟨us,[]⟩=pure (ps.zip us)):aJ K fd ps []:=λs us _ hl=>by
 rw[qI]at hl ⊢;exact .of_eq (h us hl)
def gA(CX:CXT)(X:Cx)(E:XK):Prop:=∀(pins:List (Addr×Obj))(Y:St)(H:Hp)(s:Shared)(e:Value)(s':Shared),Inv X pins Y H s->CX X.stack H s E e s'->X.xe e s'
section
variable {X:Cx}{CX:CXT}{k:Nat}{f C:Addr}{fd:FuncData}{ps:List Str}{sp:Sp}{dvs:List V}{ds:List Value}{E:XK}{x m:Str}{p pos apos:Pos}{e o:Expr}{es:List Expr}{ta:TE}{t:TA}
theorem nK{pins:List (Addr×Obj)}{Y:St}{H:Hp}{s:Shared}{Q:VK}{us:List Value}{vs:List V}(F:aB X.prog X.w X.K X.mg X.base CX k f fd ps sp)(hr:bG k X.A)(hb:aJ X.K fd ps ds)(hd:aw dvs ds)(hx:gA CX X E)
 (I:Inv X pins Y H s) (r:aw vs us) (h:sp (vs++dvs) H Q E):wpAny (model X.prog X.w) X.A (call (.ref f) us) (EP X pins Y Q) X.xe s:=by
 have r2:aw (vs++dvs) (us++ds):=r.append hd;have hl:(us++ds).length=ps.length:=by rw[<- r2.length];exact F.len _ _ _ _ h
 refine wpAny_call (codeAny_mono (F.dz X.A X.stack s H ⟨us,[]⟩ (us++ds) (vs++dvs) Q E hr I.env0 (hb s us I.kIn hl) r2 h) λr s' hq=>?_)
 cases r with
 |error e=>exact hx pins Y H s e s' I hq
 |ok fl=>
  cases fl with
  |ret u=>exact I.after hq
  |next=>exact False.elim hq
  |brk=>exact False.elim hq
  |cont=>exact False.elim hq
theorem aK(F:aB X.prog X.w X.K X.mg X.base CX k f fd ps sp)(hr:bG k X.A)(hg:Gl X x)(hm:X.mg x=some (.ref f))(hk:PySem.W.keepIn X.K (.ref f)=true)(hb:aJ X.K fd ps ds)(hd:aw dvs ds)(hx:gA CX X E)
 (ha:PA X (e::es) t) (hdb:(x == ("__debug__":Str))=false:=by decide) (he:starEach (e::es) X.env=(false,eval e X.env)::starEach es X.env:=by rfl) (hpl:(backTo pos (starEach es X.env)).any (·.1)=false:=by rfl):
 PE X (.Call (.Name x p) (e::es) [] pos) (za sp dvs E t):=by
 intro pins s Y H Q I h;refine wpAny_Call_Name_kw (jq I hg hm ?_ hdb);refine PySem.W.callWith_K (h₀:=X.base) I.ok.mod.kin hk (thn (ha pos pins s Y H _ I h) λus s1 ⟨vs,H1,I1,r,q⟩=>⟨I1.kIn,?_⟩) he hpl;exact nK F hr hb hd hx I1 r q
theorem eA{pl:Sem Bool}(he:PE X o ta)(c:Cls X.K C)(hm:bD X.K C m f)(F:aB X.prog X.w X.K X.mg X.base CX k f fd ps sp)(hr:bG k X.A)(hb:aJ X.K fd ps ds)(hd:aw dvs ds)(hx:gA CX X E)(ha:PA X (e::es) t)
 (hst:starEach (e::es) X.env=(false,eval e X.env)::starEach es X.env:=by rfl) (hpl:(backTo pos (starEach es X.env)).any (·.1)=false:=by rfl)
 (ht:eval (.Call (.Attribute o m apos) (e::es) [] pos) X.env=(do
  let ov <- eval o X.env
  standAt apos.atName
  let (f,first) <- holding [ov] (getMethod ov m pl)
  callWith pos f first (backTo pos (starEach (e::es) X.env)) (backToKw pos (keywordEach [] X.env))):=by rfl):
 PE X (.Call (.Attribute o m apos) (e::es) [] pos) (rY C m sp dvs E ta t):=by
 intro pins s Y H Q I h;refine PySem.W.methodCall_KW (pl:=pl) (thn (he pins s Y H _ I h) λu s1 ⟨x,H1,I1,rx,a,dx,fs,ex,ea,l,q⟩=>?_) ht;subst ex;obtain rfl:u=Value.ref a:=rx;refine pk I1 ea c hm l ?_;refine PySem.W.callWith_K (first:=[.ref a]) (h₀:=X.base) I.ok.mod.kin hm.kp (thn (ha pos pins s1 Y H1 _ I1 q) λus s2 ⟨vs,H2,I2,r,q2⟩=>⟨I2.kIn,?_⟩) hst hpl;exact nK (us:=.ref a::us) (vs:=.ref a::vs) F hr hb hd hx I2 (.cons U r) q2
theorem fi{pl:Sem Bool}(he:PE X o ta)(c:Cls X.K C)(hm:bD X.K C m f)(F:aB X.prog X.w X.K X.mg X.base CX k f fd ps sp)(hr:bG k X.A)(hb:aJ X.K fd ps ds)(hd:aw dvs ds)(hx:gA CX X E)
 (ht:eval (.Call (.Attribute o m apos) [] [] pos) X.env=(do
  let ov <- eval o X.env
  standAt apos.atName
  let (f,first) <- holding [ov] (getMethod ov m pl)
  callWith pos f first (backTo pos (starEach [] X.env)) (backToKw pos (keywordEach [] X.env))):=by rfl):
 PE X (.Call (.Attribute o m apos) [] [] pos) (rY C m sp dvs E ta rX):=by
 intro pins s Y H Q I h;refine PySem.W.methodCall_KW (pl:=pl) (thn (he pins s Y H _ I h) λu s1 ⟨x,H1,I1,rx,a,dx,fs,ex,ea,l,q⟩=>?_) ht;subst ex;obtain rfl:u=Value.ref a:=rx;refine pk I1 ea c hm l ?_;exact PySem.W.callWith_K0 (first:=[.ref a]) I1.kIn hm.kp (nK (us:=[.ref a]) (vs:=[.ref a]) F hr hb hd hx I1 (.cons U .nil) q)
structure Mk(K:W.Frag)(C f:Addr):Prop where
 makes:PySem.W.makesIn K C=true
 init:PySem.W.findIn K (.ref C) "__init__"=some (some (.ref f))
 fn:PySem.W.isFn K (.ref f)=true
 kp:PySem.W.keepIn K (.ref C)=true
theorem AO{pins:List (Addr×Obj)}{Y:St}{H:Hp}{s:Shared}{Q:VK}{us:List Value}{vs:List V}(M:Mk X.K C f)(F:aB X.prog X.w X.K X.mg X.base CX k f fd ps sp)(hr:bG (k+1) X.A)(hb:aJ X.K fd ps ds)(hd:aw dvs ds)
 (hx:gA CX X E) (I:Inv X pins Y H s) (r:aw vs us)
 (h:∀x dx,H x=none->H dx=none->dx≠x->sp (.ref x::(vs++dvs)) (upd (upd H dx (.own x)) x (.ins C dx [])) (λv H2=>v=.non/\Q (.ref x) H2) E):
 wpAny (model X.prog X.w) X.A (call (.ref C) us) (EP X pins Y Q) X.xe s:=by
 have hq:=h (s.heap.objs.size+1) s.heap.objs.size (I.hok.fresh (Nat.le_succ _)) (I.hok.fresh (qi _)) (qQ (Ql _));have I2:=Inv.made (C:=C) I;have r2:aw (V.ref (s.heap.objs.size+1)::(vs++dvs)) (Value.ref (s.heap.objs.size+1)::(us++ds)):=.cons U (r.append hd)
 have hl:(Value.ref (s.heap.objs.size+1)::us++ds).length=ps.length:=by
  have e:=r2.length;rw[F.len _ _ _ _ hq]at e;exact e.symm
 refine wpAny_call (DT (f:=f) I.kIn M.makes M.init (beq_iff_eq.mp M.fn) (codeAny_mono (F.dz _ X.stack _ _ ⟨Value.ref (s.heap.objs.size+1)::us,[]⟩ (Value.ref (s.heap.objs.size+1)::(us++ds)) _ _ E (hr.make C us [])
  (I2.env0.make C us []) (hb _ (Value.ref (s.heap.objs.size+1)::us) I2.kIn hl) r2 hq) λr s' hq'=>?_))
 cases r with
 |error e=>exact hx pins Y _ _ e s' I2 hq'
 |ok fl=>
  cases fl with
  |ret u=>
   obtain⟨v,H',I3,rv,ev,q3⟩:=I2.after hq';subst ev;exact⟨rv,⟨V.ref (s.heap.objs.size+1),H',I3,U,q3⟩⟩
  |next=>exact False.elim hq'
  |brk=>exact False.elim hq'
  |cont=>exact False.elim hq'
theorem uU(M:Mk X.K C f)(F:aB X.prog X.w X.K X.mg X.base CX k f fd ps sp)(hr:bG (k+1) X.A)(hg:Gl X x)(hm:X.mg x=some (.ref C))(hb:aJ X.K fd ps ds)(hd:aw dvs ds)(hx:gA CX X E)
 (ha:PA X (e::es) t) (hdb:(x == ("__debug__":Str))=false:=by decide) (he:starEach (e::es) X.env=(false,eval e X.env)::starEach es X.env:=by rfl) (hpl:(backTo pos (starEach es X.env)).any (·.1)=false:=by rfl):
 PE X (.Call (.Name x p) (e::es) [] pos) (yN C sp dvs E t):=by
 intro pins s Y H Q I h;refine wpAny_Call_Name_kw (jq I hg hm ?_ hdb);refine PySem.W.callWith_K (h₀:=X.base) I.ok.mod.kin M.kp (thn (ha pos pins s Y H _ I h) λus s1 ⟨vs,H1,I1,r,q⟩=>⟨I1.kIn,?_⟩) he hpl;exact AO M F hr hb hd hx I1 r q
end
section
variable {X:Cx}{CX:CXT}{k:Nat}{f C:Addr}{fd:FuncData}{ps ks:List Str}{sp:Sp}{E:XK}{x m:Str}{p pos apos kpos:Pos}{e o:Expr}{es:List Expr}{kws:List Keyword}{te ta:TE}{t tk:TA}{nm:Option Str}
variable {g:List Value->List Value->List Value}{gV:List V->List V->List V}
end
structure aN(N P:List Str)(sc:Scope):Prop where
 kind:sc.kind=.function
 co:sc.isCoroutine=false
 gen:sc.isGenerator=false
 nd:N.Nodup
 pre:N.take P.length=P
 par:∀x∈P,sc.names.lookup x=some .local\/sc.names.lookup x=some .cell
 nofree:∀y∈sc.names,y.2≠.free
theorem xj{kindOf:Str->Option NameKind}{x:Str}:∀{binds:List (Str×Value)}{m:Str->Option Value},(∀v,(x,v)∉binds)->bindL kindOf binds m x=m x
 |[],_,_=>rfl
 |(n,v)::r,m,h=>by
  unfold bindL;rw[xj λw hw=>h w (qw _ hw)];split
  .have:x≠n:=by rintro rfl;exact h v qy
   simp[this]
  .rfl
theorem xl{kindOf:Str->Option NameKind}{x:Str}:∀{binds:List (Str×Value)}{m:Str->Option Value},(∀v,(x,v)∉binds)->bindC kindOf binds m x=m x
 |[],_,_=>rfl
 |(n,v)::r,m,h=>by
  unfold bindC;rw[xl λw hw=>h w (qw _ hw)];split
  .rfl
  .have:x≠n:=by rintro rfl;exact h v qy
   simp[this]
theorem xk{kindOf:Str->Option NameKind}{x:Str}{v:Value}:∀{P:List Str}{vs:List Value}{i:Nat}{m:Str->Option Value},P.Nodup->P[i]?=some x->vs[i]?=some v->kindOf x=some .local->
 bindL kindOf (P.zip vs) m x=some v
 |[],_,_,_,_,h,_,_=>by simp at h
 |_::_,[],_,_,_,_,h,_=>by simp at h
 |p::P,w::vs,0,m,nd,h1,h2,hk=>by
  simp at h1 h2;subst h1;subst h2;show bindL kindOf ((p,w)::P.zip vs) m p=_;unfold bindL;rw[xj λv hv=>(List.nodup_cons.mp nd).1 (List.of_mem_zip hv).1,Qc hk];simp
 |p::P,w::vs,i+1,m,nd,h1,h2,hk=>by
  show bindL kindOf ((p,w)::P.zip vs) m x=_;unfold bindL;exact xk (i:=i) (List.nodup_cons.mp nd).2 (by simpa using h1) (by simpa using h2) hk
theorem xn{kindOf:Str->Option NameKind}{x:Str}{v:Value}:∀{P:List Str}{vs:List Value}{i:Nat}{m:Str->Option Value},P.Nodup->P[i]?=some x->vs[i]?=some v->kindOf x≠some .local->
 bindC kindOf (P.zip vs) m x=some v
 |[],_,_,_,_,h,_,_=>by simp at h
 |_::_,[],_,_,_,_,h,_=>by simp at h
 |p::P,w::vs,0,m,nd,h1,h2,hk=>by
  simp at h1 h2;subst h1;subst h2;show bindC kindOf ((p,w)::P.zip vs) m p=_;unfold bindC;rw[xl λv hv=>(List.nodup_cons.mp nd).1 (List.of_mem_zip hv).1,Qb hk];simp
 |p::P,w::vs,i+1,m,nd,h1,h2,hk=>by
  show bindC kindOf ((p,w)::P.zip vs) m x=_;unfold bindC;exact xn (i:=i) (List.nodup_cons.mp nd).2 (by simpa using h1) (by simpa using h2) hk
noncomputable def fc(N:List Str)(vs:List V):St:=vs.map some++List.replicate (N.length-vs.length) none
noncomputable def bN(CX:CXT)(P:Program)(w:World)(K:W.Frag)(mg:Str->Option Value)(base:Heap)(N:List Str)(qual:Str)(scope:Scope)(f:Addr)(cd:Value)(A:Around)(outer:List Env)(s:Shared)(H:Hp)(E:XK):Cx where
 prog:=P
 w:=w
 K:=K
 mg:=mg
 base:=base
 A:=A.deeper (envOfC qual scope s.heap.objs.size f cd)
 N:=N
 s₀:=s
 H₀:=H
 env:=envOfC qual scope s.heap.objs.size f cd
 outer:=outer
 stack:=envOfC qual scope s.heap.objs.size f cd::outer
 ex:=[]
 calm:=true
 fn:=λ_=>true
 pn:=[]
 xe:=λe s'=>wpAny (model P w) (A.deeper (envOfC qual scope s.heap.objs.size f cd)) (leaving (envOfC qual scope s.heap.objs.size f cd) e) (λ_ s''=>CX outer H s E e s'') (λe' s''=>CX outer H s E e' s'') s'
theorem xa{sc:Scope}{n:Nat}{x:Str}(h:sc.names.lookup x=some .cell):∃c,(cellsFrom n sc.names []).lookup x=some c:=by
 have q:=PySem.W.cellsFrom_some sc.names n [] (.inl h);exact Option.isSome_iff_exists.mp q
theorem Ex{CX:CXT}{P:Program}{w:World}{K:W.Frag}{mg:Str->Option Value}{base:Heap}{N ps:List Str}{qual:Str}{scope:Scope}{f:Addr}{cd:Value}{A:Around}{outer:List Env}{s s1:Shared}{H:Hp}{E:XK}{us:List Value}{vs:List V}
 (S:aN N ps scope) (hd:A.handled=none) (e0:hX P w K mg base A outer s H) (hl:vs.length=ps.length) (r:aw vs us)
 (x:InCallC s s.heap.objs.size (bindL (envOfC qual scope s.heap.objs.size f cd).kindOf (ps.zip us) λ_=>none) (cellsFrom (s.heap.objs.size+1) scope.names []) (bindC (envOfC qual scope s.heap.objs.size f cd).kindOf (ps.zip us) λ_=>none) s1):
 Inv (bN CX P w K mg base N qual scope f cd A outer s H E) [] (fc N vs) H s1:=by
 have hpl:ps.length<=N.length:=by have:=congrArg List.length S.pre;rw[qU]at this;omega
 obtain⟨h1,tk,rfl,hk⟩:=x.done;have noA:∀b:Addr,b∉(bN CX P w K mg base N qual scope f cd A outer s H E).ex:=λb z=>Qf (show b∈([]:List Addr)from z) (by simp)
 refine⟨⟨e0.mod,S.kind,U,U,qi _,λy z c h1 h2=>?_,λy hy=>?_,λy c _ h=>?_,λ_=>hd,Around.frames_deeper e0.frames,.inr ⟨U,U⟩,λb z=>Qf z (noA b),e0.bs,e0.bsz,λb _ _=>noA b,λb z=>Qf z (noA b),e0.funs,e0.frf⟩,
  rfl,e0.bare,Un.kept hk,⟨_,x.toInCall.ns,λi y v h1 h2 h3=>?_⟩,λy c h=>⟨_,x.cell y c h⟩,e0.hok.fresh (qi _),λy c h=>?_,λp hp=>Qf (show p∈([]:List (Addr×Obj))from hp) (by simp),e0.hok.kept hk,?_⟩
 .exact name_of_addr x.apart (Qs h1) (Qs h2)
 .have hy:scope.names.lookup y=some .cell\/scope.names.lookup y=some .free:=hy;rcases hy with hy|hy
  .exact xa hy
  .exact Qf U (S.nofree _ (Qs hy))
 .exact Nat.le_of_lt (x.above y c (Qs h))
 .have hi:i<vs.length:=by
   unfold fc at h2;by_cases hi:i<vs.length
   .exact hi
   .rw[qV (by simpa using hi)]at h2;rw[List.getElem?_replicate]at h2;split at h2<;>cases h2
  have ha:vs[i]?=some v:=by
   unfold fc at h2;rw[Qg (by simpa using hi),qO]at h2
   cases e:vs[i]? with
   |none=>rw[e]at h2;cases h2
   |some a=>rw[e]at h2;cases h2;rfl
  obtain⟨u,hu,rv⟩:=r.get ha
  have hp:ps[i]?=some y:=by
   rw[<- S.pre,List.getElem?_take_of_lt Yo];exact h1
  have ndP:ps.Nodup:=by rw[<- S.pre];exact S.nd.sublist (List.take_sublist _ _)
  refine⟨u,rv,?_⟩;rcases S.par y (qK hp)with k|k
  .exact .inl ⟨k,xk ndP hp hu k⟩
  .obtain⟨c,e⟩:=xa (n:=s.heap.objs.size+1) k;refine .inr ⟨.inl k,c,e,?_⟩;have q:=x.cell y c e;rw[xn ndP hp hu (by show scope.names.lookup y≠_;rw[k];decide)]at q;exact q
 .exact e0.hok.fresh (Nat.le_of_lt (x.above y c (Qs h)))
 .unfold fc;show _=N.length;rw[qf,qc,List.length_replicate];omega
theorem pB{CX:CXT}{P:Program}{w:World}{K:W.Frag}{mg:Str->Option Value}{base:Heap}{k:Nat}{f:Addr}{name qual:Str}{params:Arguments}{body:List Stmt}{scope:Scope}{dV kV doc pm cdv ct oc:Value}{an od:Option Addr}
 {osl:Array (Option Value)}{N ps:List Str}{sp:Sp}(lk:K.lookup f=some ⟨oc,od,.func (PySem.W.fnOf name qual params body scope dV kV doc pm an cdv ct),osl⟩) (hcd:PySem.W.codeIn K cdv qual=true) (S:aN N ps scope)
 (len:∀vs H Q E,sp vs H Q E->vs.length=ps.length)
 (hbody:∀(A:Around)(outer:List Env)(s:Shared)(H:Hp)(vs:List V)(Q:VK)(E:XK),bG k (A.deeper (envOfC qual scope s.heap.objs.size f cdv))->sp vs H Q E->
  ∃t,PSs (bN CX P w K mg base N qual scope f cdv A outer s H E) body t/\t { nx:=λ_ H'=>Q .non H',rt:=Q } (fc N vs) H):
 aB P w K mg base CX (k+1) f (PySem.W.fnOf name qual params body scope dV kV doc pm an cdv ct) ps sp:=by
 refine⟨len,λA outer s H args us vs Q E hr e0 hb r hsp=>?_⟩;have hl:=len _ _ _ _ hsp;have KX:K.In s.heap:=e0.mod.kin.keeps λb o e=>(e0.bs b o e).1;have lim:s.heap.NoLimit:=e0.mod.nolimit.keeps λb o e=>(e0.bs b o e).1
 have hkind:∀y∈ps.zip us,scope.names.lookup y.1=some .local\/(scope.names.lookup y.1=some .cell/\((cellsFrom (s.heap.objs.size+1) scope.names []).lookup y.1).isSome=true):=λ⟨n,v⟩ hy=>by
  rcases S.par n (List.of_mem_zip hy).1 with q|q
  .exact .inl q
  .exact .inr ⟨q,PySem.W.cellsFrom_some _ _ _ (.inl q)⟩
 refine codeAny_call_function hr.depth (KX _ _ lk) U S.co S.gen U (PySem.W.codeRec_of KX hcd) (hb _ _ _ _ ?_);refine wpAny_newFunctionEnv_cells S.kind hkind λenv he s1 x=>?_;subst he;refine⟨lim.keeps x.toInCall.keep,codeAny_func ?_⟩;obtain⟨t,ht,hq⟩:=hbody A outer s H vs Q E (hr.deeper _) hsp;have I:Inv (bN CX P w K mg base N qual scope f cdv A outer s H E) [] (fc N vs) H s1:=Ex S hr.hd e0 hl r x;refine wpAny_mono (ht [] s1 (fc N vs) H _ I hq) (λfl s' hs=>?_) λe s' hs=>hs
 have fin:∀{Y':St}{H':Hp}{v:V}{u:Value},Inv (bN CX P w K mg base N qual scope f cdv A outer s H E) [] Y' H' s'->aF v u->Q v H'->CE outer P w H s Q u s':=
  λ{Y' H' v u} J rv q=>⟨v,H',J.os,J.bare,J.base,J.hok,rv,q⟩
 cases fl with
 |ret u=>
  obtain⟨v,Y',H',J,rv,q⟩:=hs;exact fin J rv q
 |next=>
  obtain⟨Y',H',J,q⟩:=hs;exact fin (v:=V.non) (u:=Value.none) J U q
 |brk=>
  obtain⟨_,_,_,q⟩:=hs;exact False.elim q
 |cont=>
  obtain⟨_,_,_,q⟩:=hs;exact False.elim q
section
variable {X:Cx}{x:Str}{p pos:Pos}{e:Expr}{es:List Expr}{t:TA}{id T:String}{r:List V->Hp->VK->Prop}
def tCB(r:List V->Hp->VK->Prop)(t:TA):TE:=λY H Q=>t Y H λvs H1=>r vs H1 Q
theorem aU(hc:cJ X (.builtin id) r)(hg:Gl X x)(hm:X.mg x=none)(hv:bootBuiltins x=some (.builtin id))(ha:PA X (e::es) t)(hn:x≠"__name__":=by decide)(hdb:(x == ("__debug__":Str))=false:=by decide)
 (he:starEach (e::es) X.env=(false,eval e X.env)::starEach es X.env:=by rfl) (hpl:(backTo pos (starEach es X.env)).any (·.1)=false:=by rfl):PE X (.Call (.Name x p) (e::es) [] pos) (tCB r t):=by
 intro pins s Y H Q I h;refine wpAny_Call_Name_kw (fk I hg hm hv ?_ hn hdb);exact PyProof.Rows.callWith_builtin1 (thn (ha pos pins s Y H _ I h) λus s1 ⟨vs,H1,I1,r1,q1⟩=>hc pins s1 Y H1 vs us Q I1 r1 q1) he hpl
theorem eB(hc:cJ X (.type T) r)(hg:Gl X x)(hm:X.mg x=none)(hv:bootBuiltins x=some (.type T))(ha:PA X (e::es) t)(hn:x≠"__name__":=by decide)(hdb:(x == ("__debug__":Str))=false:=by decide)
 (he:starEach (e::es) X.env=(false,eval e X.env)::starEach es X.env:=by rfl) (hpl:(backTo pos (starEach es X.env)).any (·.1)=false:=by rfl):PE X (.Call (.Name x p) (e::es) [] pos) (tCB r t):=by
 intro pins s Y H Q I h;refine wpAny_Call_Name_kw (fk I hg hm hv ?_ hn hdb);exact PyProof.Rows.callWith_type1 (thn (ha pos pins s Y H _ I h) λus s1 ⟨vs,H1,I1,r1,q1⟩=>hc pins s1 Y H1 vs us Q I1 r1 q1) he hpl
end
end L2
namespace HT
open PySem PyProof.Rows
section
open PySem.SeqAt
open PySem.AutoSeq1 (wpAny_loadPart')
open PySem.MeetsSeq PySem.MeetsSeq2 PySem.MeetsSeq3
end
section
variable {prog:Program}{w:World}{A:Around}{E:Yq}{s:Shared}
noncomputable def sIx(n d:Nat):Option Int->Nat
 |none=>d
 |some v=>if v<0 then(v+(n:Int)).toNat else min v.toNat n
theorem sIx_none(n d:Nat):sIx n d none=d:=U
theorem sIx_nat(n d k:Nat):sIx n d (some (k:Int))=min k n:=by
 show(if(k:Int)<0 then((k:Int)+(n:Int)).toNat else min (k:Int).toNat n)=min k n;rw[Qb Yo,Q9]
theorem sIx_le(n d:Nat)(hd:d<=n)(o:Option Int):sIx n d o<=n:=by
 cases o with
 |none=>exact hd
 |some v=>
  show(if v<0 then(v+(n:Int)).toNat else min v.toNat n)<=n;by_cases hv:v<0
  .rw[Qc hv];omega
  .rw[Qb hv];exact Nat.min_le_right _ _
end
end HT
namespace L2
open PySem PySem.Spec PyProof.Rows
abbrev TO:=St->Hp->(Option Int->Hp->Prop)->Prop
def PO(X:Cx)(e:Option Expr)(t:TO):Prop:=
 ∀(pins:List (Addr×Obj))(s:Shared)(Y:St)(H:Hp)(Q:Option Int->Hp->Prop),Inv X pins Y H s->t Y H Q->
  wpAny (model X.prog X.w) X.A (evalPart e X.env) (λu s'=>∃o H',Inv X pins Y H' s'/\IsPart u o/\Q o H') X.xe s
def yM:TO:=λ_ H Q=>Q none H
def yI(t:TE):TO:=λY H Q=>t Y H λx H1=>∃i,x=.int i/\Q (some i) H1
section
variable {X:Cx}{e:Expr}{te:TE}{lo hi:Option Expr}{tl th:TO}{pos p2:Pos}
theorem iu:PO X none yM:=by
 intro pins s Y H Q I h;rw[evalPart_none];exact qh ⟨none,H,I,.none,h⟩
theorem fh(h:PE X e te):PO X (some e) (yI te):=by
 intro pins s Y H Q I hw;rw[evalPart_some];refine thn (h pins s Y H _ I hw) λu s1 ⟨x,H1,I1,r1,q1⟩=>?_;obtain⟨i,rfl,q⟩:=q1;obtain⟨t,rfl⟩:=r1;exact⟨some i,H1,I1,.int i t,q⟩
def SlR(X:Cx)(r:V->Option Int->Option Int->Hp->VK->Prop):Prop:=
 ∀(pins:List (Addr×Obj))(s:Shared)(Y:St)(H:Hp)(x:V)(v vl vu:Value)(lo hi:Option Int)(sl:Addr)(Q:VK),Inv X pins Y H s->aF x v->s.heap.IsSliceOf sl vl vu .none->IsPart vl lo->IsPart vu hi->r x lo hi H Q->
  ∃T id,typeLookup (.type T) "__getitem__"=pure (some (.builtin id))/\s.TypeIs v T/\wpAny (model X.prog X.w) X.A (getItem v (.ref sl)) (EP X pins Y Q) X.xe s
def tSl(r:V->Option Int->Option Int->Hp->VK->Prop)(te:TE)(tl th:TO):TE:=λY H Q=>te Y H λx H1=>tl Y H1 λl H2=>th Y H2 λu H3=>r x l u H3 Q
theorem gi{r:V->Option Int->Option Int->Hp->VK->Prop}(hr:SlR X r)(he:PE X e te)(hl:PO X lo tl)(hu:PO X hi th):PE X (.Subscript e (.Slice lo hi none p2) pos) (tSl r te tl th):=by
 intro pins s Y H Q I h;refine Subscript_ (thn (he pins s Y H _ I h) λv s1 ⟨x,H1,I1,r1,q1⟩=>?_);refine wpAny_Slice (thn (hl pins s1 Y H1 _ I1 q1) λvl s2 ⟨l,H2,I2,pl,q2⟩=>thn (hu pins s2 Y H2 _ I2 q2) λvu s3 ⟨u,H3,I3,pu,q3⟩=>?_);rw[evalPart_none];refine qh ?_;have I4:Inv X pins Y H3 { s3 with heap:=s3.heap.push { cls:=.type "slice",data:=.fields #[vl,vu,.none] } }:=I3.kept (t':=s3.toks) λb ob q=>qe _ q;obtain⟨T,id,hT,ht,hg⟩:=hr pins { s3 with heap:=s3.heap.push { cls:=.type "slice",data:=.fields #[vl,vu,.none] } } Y H3 x v vl vu l u s3.heap.objs.size Q I4 r1 (Heap.IsSliceOf.new ..) pl pu q3;show wpAny (model X.prog X.w) X.A (subscriptTail e (.Slice lo hi none p2) v (.ref s3.heap.objs.size)) (EP X pins Y Q) X.xe { s3 with heap:=s3.heap.push { cls:=.type "slice",data:=.fields #[vl,vu,.none] } };exact tail_any (ops:=[.ref s3.heap.objs.size,v]) ht hT hg (by with_unfolding_all rfl)
noncomputable def fE(xs:List V)(lo hi:Option Int):List V:=(xs.drop (HT.sIx xs.length 0 lo)).take (HT.sIx xs.length xs.length hi-HT.sIx xs.length 0 lo)
theorem Fu(xs:List V)(lo hi:Option Int):(fE xs lo hi).length<=xs.length:=by
 unfold fE;rw[qU,Qa];omega
end
noncomputable def ixN(n:Nat)(i:Int):Option Nat:=if 0<=i then(if i<n then some i.toNat else none)else if -(n:Int)<=i then some (i+n).toNat else none
noncomputable def atI{α:Type}(xs:List α)(i:Int):Option α:=(ixN xs.length i).bind λj=>xs[j]?
theorem vX{n:Nat}{i:Int}{j:Nat}(h:ixN n i=some j):seqIndex? i n=some j/\j<n/\-(n:Int)<=i/\i<n:=by
 unfold ixN at h;by_cases h0:0<=i
 .rw[Qc h0]at h;by_cases h1:i<n
  .rw[Qc h1]at h;have e:i.toNat=j:=qT h;exact⟨by rw[seqIndex_of h0 h1,e],Yo,Yo,h1⟩
  .rw[Qb h1]at h;cases h
 .rw[Qb h0]at h;by_cases h1:-(n:Int)<=i
  .rw[Qc h1]at h;have e:(i+n).toNat=j:=qT h;exact⟨by rw[seqIndex_neg Yo h1,e],Yo,h1,Yo⟩
  .rw[Qb h1]at h;cases h
theorem pS{α:Type}{xs:List α}{i:Int}{v:α}(h:atI xs i=some v):∃j,seqIndex? i xs.length=some j/\xs[j]?=some v/\j<xs.length/\-(xs.length:Int)<=i/\i<xs.length:=by
 unfold atI at h
 cases e:ixN xs.length i with
 |none=>rw[e]at h;cases h
 |some j=>
  rw[e]at h;obtain⟨h1,h2,h3,h4⟩:=vX e;exact⟨j,h1,h,h2,h3,h4⟩
theorem cy{α:Type}{xs:List α}{j:Nat}{v:α}(h:xs[j]?=some v):atI xs (j:Int)=some v:=by
 have hj:j<xs.length:=(qj.mp h).1
 have e:ixN xs.length (j:Int)=some j:=by
  unfold ixN;rw[Qc Yo,Qc Yo];simp
 unfold atI;rw[e];exact h
def Gj(b:Expr):Prop:=∀o i,subscripted b false o i=operate [o,i] (getItem o i)
def IxR(X:Cx)(r:R2):Prop:=
 ∀(value slice:Expr)(pins:List (Addr×Obj))(s:Shared)(Y:St)(H:Hp)(x y:V)(v u:Value)(Q:VK),Inv X pins Y H s->aF x v->aF y u->r x y H Q->
  subscripted slice false v u=operate [v,u] (getItem v u)->wpAny (model X.prog X.w) X.A (subscriptTail value slice v u) (EP X pins Y Q) X.xe s
def MtR(X:Cx)(id:String)(r:V->List V->Hp->VK->Prop):Prop:=
 ∀(pins:List (Addr×Obj))(s:Shared)(Y:St)(H:Hp)(x:V)(xs:List V)(v:Value)(us:List Value)(Q:VK),Inv X pins Y H s->aF x v->aw xs us->r x xs H Q->
  wpAny (model X.prog X.w) X.A (call (.builtin id) (v::us)) (EP X pins Y Q) X.xe s
section
variable {X:Cx}{a b:Expr}{ta tb:TE}{pos:Pos}
theorem ao{r:R2}(hr:IxR X r)(ha:PE X a ta)(hb:PE X b tb)(hs:Gj b):PE X (.Subscript a b pos) (tOp r ta tb):=by
 intro pins s Y H Q I h;exact Subscript_ (pP ha hb I h λv u s2 x y H2 I2 rx ry q=>hr a b pins s2 Y H2 x y v u Q I2 rx ry q (hs _ _))
def Bo(K:W.Frag):R2:=λx y H Q=>∃p xs i v,x=.ref p/\y=.int i/\SqL K H p xs/\atI xs i=some v/\Q v H
def Bm(K:W.Frag):R2:=λx y H Q=>∃p xs i v,x=.ref p/\y=.int i/\SqT K H p xs/\atI xs i=some v/\Q v H
def Bn:R2:=λx y H Q=>∃z i c,x=.str z/\y=.int i/\z.length<=sizeLine/\atI z.cps.toList i=some c/\Q (.str ⟨#[c]⟩) H
theorem Eo:IxR X (Bo X.K):=by
 intro value slice pins s Y H x y v u Q I rx ry h hs;obtain⟨p,xs,i,z,rfl,rfl,hq,he,q⟩:=h;cases rx;obtain⟨t,rfl⟩:=ry;obtain⟨its,r,pl,hz⟩:=I.list hq;obtain⟨j,h1,h2,h3,h4,h5⟩:=pS he;obtain⟨w,ew,rw'⟩:=r.get h2;have hl:=r.length;have hn:=jn;have fin:EP X pins Y Q w s:=⟨z,H,I,rw',q⟩;by_cases h0:0<=i
 .have hj:i.toNat=j:=by
   rw[seqIndex_of h0 h5]at h1;exact qT h1
  exact item_listR pl.isList h0 Yo (by rw[hj];simpa using ew) fin hs
 .have hj:(i+(its.toArray.size:Int)).toNat=j:=by
   rw[seqIndex_neg Yo h4]at h1;rw[qM,<- hl];exact qT h1
  exact subscriptTail_builtinR (x:=w) pl.isList.typeIs slot_list_getitem.lookup
   (wpAny_getItem_list_neg (Q:=λr s'=>r=w/\EP X pins Y Q r s') pl.isList Yo (by rw[qM]<;>omega) Yo (by rw[hj];simpa using ew) ⟨U,fin⟩) hs
theorem En:IxR X (Bm X.K):=by
 intro value slice pins s Y H x y v u Q I rx ry h hs;obtain⟨p,xs,i,z,rfl,rfl,hq,he,q⟩:=h;cases rx;obtain⟨t,rfl⟩:=ry;obtain⟨its,r,pl,hz⟩:=I.tuple hq;obtain⟨j,h1,h2,h3,h4,h5⟩:=pS he;obtain⟨w,ew,rw'⟩:=r.get h2;have hl:=r.length;have hn:=jn;have fin:EP X pins Y Q w s:=⟨z,H,I,rw',q⟩
 exact subscriptTail_builtinR (x:=w) pl.typeIs slot_tuple_getitem.lookup
  (getItem_tuple (j:=j) (Q:=λr s'=>r=w/\EP X pins Y Q r s') pl Yo Yo (by rw[qM,<- hl];exact h1) (by simpa using ew) ⟨U,fin⟩) hs
theorem jr:IxR X Bn:=by
 intro value slice pins s Y H x y v u Q I rx ry h hs;obtain⟨z,i,c,rfl,rfl,hz,he,q⟩:=h;obtain⟨t,rfl⟩:=rx;obtain⟨t',rfl⟩:=ry;obtain⟨j,h1,h2,h3,h4,h5⟩:=pS he;have hl:z.cps.toList.length=z.length:=by simp[Str.length]
 rw[hl]at h1 h4 h5;have hn:=jn
 exact tail_any (typeIs_str s z t) slot_str_getitem.lookup (getItem_str (c:=c) (by
  have e1:decide (i < -(2 ^ 63:Int))=false:=Qe Yo;have e2:decide (i >= 2 ^ 63)=false:=Qe Yo
  rw[e1,e2,Bool.or_false]) (by rw[h1];simpa using h2) ⟨.str ⟨#[c]⟩,H,I.tok _,⟨_,U⟩,q⟩) hs
theorem DR(its:List Value)(n j:Nat)(u:Value):Obj.mapSeq (·.setIfInBounds j u) { cls:=.type "list",data:=.seq its.toArray n }={ cls:=.type "list",data:=.seq (its.set j u).toArray n }:=by
 simp[Obj.mapSeq]
theorem Inv.lst{pins:List (Addr×Obj)}{Y:St}{H:Hp}{s:Shared}{p:Addr}{xs:List V}(I:Inv X pins Y H s)(h:H p=some (.lst xs)):
 ∃(its:List Value)(n:Nat),aw xs its/\s.heap.get? p=some { cls:=.type "list",data:=.seq its.toArray n }/\xs.length<=sizeLine:=by
 obtain⟨z,its,n,r,e⟩:=I.hok p _ h;exact⟨its,n,r,e,z⟩
theorem Inv.lstUpd{pins:List (Addr×Obj)}{Y:St}{H:Hp}{s:Shared}{p:Addr}{xs ys:List V}{its its':List Value}{n n':Nat}{f:Obj->Obj}(I:Inv X pins Y H s)(h:H p=some (.lst xs))
 (ho:s.heap.get? p=some { cls:=.type "list",data:=.seq its.toArray n }) (hf:f { cls:=.type "list",data:=.seq its.toArray n }={ cls:=.type "list",data:=.seq its'.toArray n' }) (r:aw ys its') (hz:ys.length<=sizeLine) (t:Nat):
 Inv X pins Y (upd H p (.lst ys)) { s with heap:=s.heap.update p f,toks:=t }:=by
 have e:(s.heap.update p f).get? p=some { cls:=.type "list",data:=.seq its'.toArray n' }:=by
  rw[Qr f ho (by rw[hf]<;>rfl),hf]
 refine I.write (x:=p) (e:=p) (by rw[h];trivial) (.inl U) (λb u hb q=>(QE _ _ (Ne.symm hb)).trans q) ⟨_,e⟩ ?_;exact⟨hz,its',n',r,e⟩
def Bh:V->V->V->Hp->(Hp->Prop)->Prop:=λo i v H Q=>∃p xs k j,o=.ref p/\i=.int k/\H p=some (.lst xs)/\ixN xs.length k=some j/\Q (upd H p (.lst (xs.set j v)))
theorem u6:xA X Bh:=by
 intro pins s Y H o i v ov iv u Q I ro ri rv h;obtain⟨p,xs,k,j,rfl,rfl,hp,hj,q⟩:=h;cases ro;obtain⟨t,rfl⟩:=ri;obtain⟨its,n,r,ho,hz⟩:=I.lst hp;obtain⟨h1,h2,h3,h4⟩:=vX hj;have hl:=r.length;have hn:=jn
 have I':Inv X pins Y (upd H p (.lst (xs.set j v))) { s with heap:=s.heap.update p (Obj.mapSeq (·.setIfInBounds j u)) }:=
  I.lstUpd hp ho (DR its n j u) (r.set rv j) (by rw[List.length_set];exact hz) s.toks
 by_cases h0:0<=k
 .have hk:k.toNat=j:=by
   rw[seqIndex_of h0 h4]at h1;exact qT h1
  exact PySem.W.ki_setAt ho h0 Yo (by rw[qM,<- hl];exact h4) (by rw[hk];exact⟨_,I',q⟩)
 .have hk:(k+(its.toArray.size:Int)).toNat=j:=by
   rw[seqIndex_neg Yo h3]at h1;rw[qM,<- hl];exact qT h1
  exact PySem.W.ki_setBack ho Yo (by rw[qM,<- hl];exact h3) Yo (by rw[hk];exact⟨_,I',q⟩)
theorem zI(lo hi:Option Int)(n:Nat):(sliceBounds lo hi none n).1=((HT.sIx n 0 lo:Nat):Int)/\(sliceBounds lo hi none n).2.1=((HT.sIx n n hi:Nat):Int)/\(sliceBounds lo hi none n).2.2=1:=by
 refine⟨?_,?_,U⟩
 .cases lo with
  |none=>simp[sliceBounds,HT.sIx]
  |some i=>
   simp only[sliceBounds,HT.sIx,Option.getD_none,show(1:Int) > 0 by decide,if_true];by_cases h:i<0
   .simp only[h,if_true]<;>omega
   .simp only[h,if_false]<;>omega
 .cases hi with
  |none=>simp[sliceBounds,HT.sIx]
  |some i=>
   simp only[sliceBounds,HT.sIx,Option.getD_none,show(1:Int) > 0 by decide,if_true];by_cases h:i<0
   .simp only[h,if_true]<;>omega
   .simp only[h,if_false]<;>omega
theorem zJ(its:List Value)(lo hi:Option Int):slicePick its.toArray lo hi none=((its.drop (HT.sIx its.length 0 lo)).take (HT.sIx its.length its.length hi-HT.sIx its.length 0 lo)).toArray:=by
 obtain⟨h1,h2,h3⟩:=zI lo hi its.toArray.size;unfold slicePick;rw[h1,h2,h3];simp only[sliceRange_one,pick_run,qM]<;>rfl
def Bf(K:W.Frag):V->Option Int->Option Int->Hp->VK->Prop:=λx lo hi H Q=>∃a xs,x=.ref a/\SqL K H a xs/\∀p,H p=none->Q (.ref p) (upd H p (.lst (fE xs lo hi)))
theorem lR:SlR X (Bf X.K):=by
 intro pins s Y H x v vl vu lo hi sl Q I rx hs pl pu h;obtain⟨a,xs,rfl,hx,q⟩:=h;cases rx;obtain⟨its,r,ht,hz⟩:=I.list hx;have hlen:=r.length;refine⟨"list",_,slot_list_getitem.lookup,ht.isList.typeIs,?_⟩;refine wpAny_getItem_list_slice ht.isList hs pl pu .none (by simp) ?_ (by rw[qM]<;>omega);rw[zJ,<- hlen];refine⟨.ref s.heap.objs.size,_,I.laid (t':=s.toks) (o:=.lst (fE xs lo hi)) (λb ob q=>qe _ q) (qi _) ?_,U,q _ (I.hok.fresh (qi _))⟩;exact⟨qJ (Fu xs lo hi) hz,_,0,(r.drop (HT.sIx xs.length 0 lo)).take (HT.sIx xs.length xs.length hi-HT.sIx xs.length 0 lo),qz _ U⟩
noncomputable def gy:V->Bool
 |.non=>true
 |.bl _=>true
 |.int _=>true
 |.str _=>true
 |_=>false
noncomputable def eqV:V->V->Bool
 |.non,.non=>true
 |.bl a,.bl b=>a == b
 |.bl a,.int b=>(if a then 1 else 0) == b
 |.int a,.bl b=>a == (if b then 1 else 0)
 |.int a,.int b=>a == b
 |.str a,.str b=>a == b
 |_,_=>false
theorem Fb{A:Around}{s:Shared}{y x:V}{u v:Value}(ry:aF y u)(rx:aF x v)(fy:gy y=true)(fx:gy x=true):SeqAt.EqAt A s u v (eqV y x):=by
 cases y with
 |non=>
  cases ry
  cases x with
  |non=>cases rx;exact SeqAt.EqAt.same _
  |bl b=>cases rx;exact SeqAt.EqAt.none_bool b
  |int b=>obtain⟨t,rfl⟩:=rx;exact SeqAt.EqAt.none_int b t
  |str b=>obtain⟨t,rfl⟩:=rx;exact SeqAt.EqAt.none_str b t
  |_=>exact Qf (show false=true from fx) qt
 |bl a=>
  cases ry
  cases x with
  |non=>cases rx;exact SeqAt.EqAt.bool_none a
  |bl b=>cases rx;exact SeqAt.EqAt.bool_bool a b
  |int b=>obtain⟨t,rfl⟩:=rx;exact SeqAt.EqAt.bool_int a b t
  |str b=>obtain⟨t,rfl⟩:=rx;exact SeqAt.EqAt.bool_str a b t
  |_=>exact Qf (show false=true from fx) qt
 |int a=>
  obtain⟨t',rfl⟩:=ry
  cases x with
  |non=>cases rx;exact SeqAt.EqAt.int_none a t'
  |bl b=>cases rx;exact SeqAt.EqAt.int_bool a t' b
  |int b=>obtain⟨t,rfl⟩:=rx;exact SeqAt.EqAt.int_int a t' b t
  |str b=>obtain⟨t,rfl⟩:=rx;exact SeqAt.EqAt.int_str a t' b t
  |_=>exact Qf (show false=true from fx) qt
 |str a=>
  obtain⟨t',rfl⟩:=ry
  cases x with
  |non=>cases rx;exact SeqAt.EqAt.str_none a t'
  |bl b=>cases rx;exact SeqAt.EqAt.str_bool a t' b
  |int b=>obtain⟨t,rfl⟩:=rx;exact SeqAt.EqAt.str_int a t' b t
  |str b=>obtain⟨t,rfl⟩:=rx;exact SeqAt.EqAt.str_str a t' b t
  |_=>exact Qf (show false=true from fx) qt
 |_=>exact Qf (show false=true from fy) qt
noncomputable def eqU(x:V)(u:Value):Bool:=match u with
 |.none=>eqV .non x
 |.bool b=>eqV (.bl b) x
 |.int i _=>eqV (.int i) x
 |.str z _=>eqV (.str z) x
 |_=>false
theorem wH{x y:V}{u:Value}(r:aF y u)(f:gy y=true):eqU x u=eqV y x:=by
 cases y with
 |non=>cases r;rfl
 |bl b=>cases r;rfl
 |int i=>obtain⟨t,rfl⟩:=r;rfl
 |str z=>obtain⟨t,rfl⟩:=r;rfl
 |_=>exact Qf (show false=true from f) qt
theorem pV{x:V}:∀{xs:List V}{us:List Value},aw xs us->xs.all gy=true->us.any (eqU x)=xs.any λy=>eqV y x
 |_,_,.nil,_=>rfl
 |y::xs,u::us,.cons r t,f=>by
  rw[List.all_cons,Bool.and_eq_true]at f;rw[List.any_cons,List.any_cons,wH r f.1,pV t f.2]
theorem oQ{A:Around}{s:Shared}{x:V}{v:Value}(rx:aF x v)(fx:gy x=true):∀{xs:List V}{us:List Value},aw xs us->xs.all gy=true->∀u∈us,SeqAt.EqAt A s u v (eqU x u)
 |_,_,.nil,_=>λu hu=>by cases hu
 |y::xs,u::us,.cons r t,f=>λu' hu=>by
  rw[List.all_cons,Bool.and_eq_true]at f;rcases qF.mp hu with rfl|hu
  .rw[wH r f.1];exact Fb r rx f.1 fx
  .exact oQ rx fx t f.2 u' hu
noncomputable def inV(x:V)(xs:List V):Bool:=xs.any λy=>eqV y x
def rIn(K:W.Frag)(neg:Bool):R2:=λx y H Q=>∃p xs,y=.ref p/\(SqL K H p xs\/SqT K H p xs)/\gy x=true/\xs.all gy=true/\Q (.bl (if neg then !inV x xs else inV x xs)) H
theorem iC:OpR X (compareOp .In) (rIn X.K false):=by
 intro pins s Y H x y v u Q I rx ry h;obtain⟨p,xs,rfl,hq,fx,fs,q⟩:=h;cases ry;rcases hq with hq|hq
 .obtain⟨its,r,pl,hz⟩:=I.list hq;refine SeqAt.in_listAt (eqU x) pl.isList (λw hw=>oQ rx fx r fs w (by simpa using hw)) ⟨.bl _,H,I,U,?_⟩;rw[show its.toArray.any (eqU x)=its.any (eqU x)by simp,pV r fs];exact q
 .obtain⟨its,r,pl,hz⟩:=I.tuple hq;refine SeqAt.in_tupleAt (eqU x) pl (λw hw=>oQ rx fx r fs w (by simpa using hw)) ⟨.bl _,H,I,U,?_⟩;rw[show its.toArray.any (eqU x)=its.any (eqU x)by simp,pV r fs];exact q
theorem FO:cJ X (.builtin "len") (λxs H Q=>∃p ys,xs=[.ref p]/\(SqL X.K H p ys\/SqT X.K H p ys)/\Q (.int ys.length) H):=by
 intro pins s Y H xs us Q I r h;obtain⟨p,ys,rfl,hq,q⟩:=h;obtain⟨u,rfl,rx⟩:=fH r;cases rx;have hn:=jn;rcases hq with hq|hq
 .obtain⟨its,r',pl,hz⟩:=I.list hq;have hlen:=r'.length;exact Calls.call_len_list pl.isList (by simp only[qM]<;>omega) ⟨.int ys.length,H,I.tok _,⟨s.toks+1,by rw[qM,hlen]⟩,q⟩
 .obtain⟨its,r',pl,hz⟩:=I.tuple hq;have hlen:=r'.length;exact len_tuple pl (by simp only[qM]<;>omega) ⟨.int ys.length,H,I.tok _,⟨s.toks+1,by rw[qM,hlen]⟩,q⟩
theorem FN:cJ X (.type "list") (λxs H Q=>∃p ys,xs=[.ref p]/\(SqL X.K H p ys\/SqT X.K H p ys)/\∀l,H l=none->Q (.ref l) (upd H l (.lst ys))):=by
 intro pins s Y H xs us Q I r h;obtain⟨p,ys,rfl,hq,q⟩:=h;obtain⟨u,rfl,rx⟩:=fH r;cases rx
 have fin:∀(its:List Value),aw ys its->ys.length<=sizeLine->∀(h':Heap)(c':Nat),(∀b o',s.heap.get? b=some o'->h'.get? b=some o')->
  h'.get? s.heap.objs.size=some { cls:=.type "list",dict:=none,data:=.seq its.toArray c',slots:=#[] }->EP X pins Y Q (.ref s.heap.objs.size) { s with heap:=h' }:=λits r' hz h' c' kp e=>
  ⟨.ref s.heap.objs.size,_,I.laid (t':=s.toks) kp (qi _) (show bp X.prog X.w _ h' _ (.lst ys)from⟨hz,its,c',r',e⟩),U,q _ (I.hok.fresh (qi _))⟩
 rcases hq with hq|hq
 .obtain⟨its,r',pl,hz⟩:=I.list hq;have hlen:=r'.length;obtain⟨o,ho,hc,n,hd⟩:=pl.isList;exact call_list_seq p (.inl U) ho hc hd (λh' c' kp e=>fin its r' hz h' c' kp e) (by simp only[qM]<;>omega)
 .obtain⟨its,r',pl,hz⟩:=I.tuple hq;have hlen:=r'.length;obtain⟨o,ho,hc,n,hd⟩:=pl;exact call_list_seq p (.inr U) ho hc hd (λh' c' kp e=>fin its r' hz h' c' kp e) (by simp only[qM]<;>omega)
theorem pM:cJ X (.type "tuple") (λxs H Q=>∃p ys,xs=[.ref p]/\((SqL X.K H p ys/\∀l,H l=none->Q (.ref l) (upd H l (.tup ys)))\/(SqT X.K H p ys/\Q (.ref p) H))):=by
 intro pins s Y H xs us Q I r h;obtain⟨p,ys,rfl,h⟩:=h;obtain⟨u,rfl,rx⟩:=fH r;cases rx;rcases h with⟨hq,q⟩|⟨hq,q⟩
 .obtain⟨its,r',pl,hz⟩:=I.list hq;have hlen:=r'.length;refine call_tuple_list pl.isList (λh' kp=>?_) (by simp only[qM]<;>omega);have I1:Inv X pins Y H { s with heap:=h' }:=I.kept (t':=s.toks) kp
  have I2:Inv X pins Y (upd H h'.objs.size (.tup ys)) { s with heap:=h'.push { cls:=.type "tuple",data:=.seq its.toArray } }:=
   I1.laid (t':=s.toks) (λb o e=>qe _ e) (qi _) (show bp X.prog X.w _ _ _ (.tup ys)from⟨hz,its,r',IsTup.new _ _⟩)
  exact⟨.ref h'.objs.size,_,I2,U,q _ (I1.hok.fresh (qi _))⟩
 .obtain⟨its,r',pl,hz⟩:=I.tuple hq;exact call_tuple_same pl ⟨.ref p,H,I,U,q⟩
def tyV(K:W.Frag)(T:String)(x:V)(H:Hp):Prop:=match x with
 |.str _=>T="str"
 |.int _=>T="int"
 |.ref p=>(T="list"/\∃xs,SqL K H p xs)\/(T="tuple"/\∃o,K.lookup p=some o/\o.cls=.type "tuple"/\o.dict=none) \/
  (T="dict"/\((∃kvs,H p=some (.dK kvs))\/∃kvs,H p=some (.dT kvs)))\/(T="set"/\∃S n,H p=some (.set S n))
 |_=>False
theorem rQ{pins:List (Addr×Obj)}{Y:St}{H:Hp}{s:Shared}{T:String}{x:V}{v:Value}(I:Inv X pins Y H s)(r:aF x v)(ty:tyV X.K T x H):
 s.TypeIs v T/\∀a,v=.ref a->∃ob,s.heap.get? a=some ob/\ob.dict=none:=by
 cases x with
 |str z=>
  obtain⟨t,rfl⟩:=r;cases(show T="str" from ty);exact⟨typeIs_str s z t,λ_ e=>nomatch e⟩
 |int i=>
  obtain⟨t,rfl⟩:=r;cases(show T="int" from ty);exact⟨typeIs_int s i t,λ_ e=>nomatch e⟩
 |ref p=>
  cases r;rcases ty with⟨rfl,xs,hq⟩|⟨rfl,o,hk,hc,hd⟩|⟨rfl,hk⟩|⟨rfl,S,n,hk⟩
  .obtain⟨its,_,pl,_⟩:=I.list hq;refine⟨pl.isList.typeIs,λa e=>?_⟩;cases e;obtain⟨o,n,e,c,hd,_⟩:=pl;exact⟨o,e,hd⟩
  .refine⟨⟨o,I.kIn p o hk,hc⟩,λa e=>?_⟩;cases e;exact⟨o,I.kIn _ o hk,hd⟩
  .have z:∃o,s.heap.get? p=some o/\o.ExactDict:=by
    rcases hk with⟨kvs,hk⟩|⟨kvs,hk⟩
    .obtain⟨_,_,_,_,o,_,_,e,ex,_⟩:=I.hok p _ hk;exact⟨o,e,ex⟩
    .obtain⟨_,_,_,_,o,_,_,e,ex,_⟩:=I.hok p _ hk;exact⟨o,e,ex⟩
   obtain⟨o,e,ex⟩:=z;refine⟨⟨o,e,ex.1⟩,λa e2=>?_⟩;cases e2;exact⟨o,e,ex.2.1⟩
  .obtain⟨o,_,_,_,e,ex,_⟩:=I.hok p _ hk;refine⟨⟨o,e,ex.1⟩,λa e2=>?_⟩;cases e2;exact⟨o,e,ex.2.1⟩
 |_=>exact False.elim ty
def zb(K:W.Frag)(T:String)(r:V->List V->Hp->VK->Prop)(to:TE):TE:=λY H Q=>to Y H λx H1=>tyV K T x H1/\r x [] H1 Q
def tBM(K:W.Frag)(T:String)(r:V->List V->Hp->VK->Prop)(to:TE)(t:TA):TE:=λY H Q=>to Y H λx H1=>tyV K T x H1/\t Y H1 λxs H2=>r x xs H2 Q
variable {o e:Expr}{es:List Expr}{to:TE}{t:TA}{name:Str}{apos cpos:Pos}{T id:String}{r:V->List V->Hp->VK->Prop}
theorem Ce(pa:PlainAttrs T)(slot:Slot T name id)(hty:typeOf (.builtin id)=pure (.type "method_descriptor"))(hm:MtR X id r)(ho:PE X o to)
 (hbase:attributeBase o name X.env (eval o X.env)=eval o X.env:=by rfl) (hline:(apos.endLine == cpos.line)=true:=by rfl):PE X (.Call (.Attribute o name apos) [] [] cpos) (zb X.K T r to):=by
 intro pins s Y H Q I h;refine wpAny_Call_method0_late hbase hline (thn (ho pins s Y H _ I h) λv s1 ⟨x,H1,I1,r1,ty,q1⟩=>?_);obtain⟨h1,h2⟩:=rQ I1 r1 ty;exact⟨T,id,pa,slot,hty,h1,h2,Calls.callWith_builtin U (PySem.evalArgs_none (hm pins s1 Y H1 x [] v [] Q I1 r1 .nil q1))⟩
theorem Cf(pa:PlainAttrs T)(slot:Slot T name id)(hty:typeOf (.builtin id)=pure (.type "method_descriptor"))(hm:MtR X id r)(ho:PE X o to)(ha:PA X (e::es) t)
 (hbase:attributeBase o name X.env (eval o X.env)=eval o X.env:=by rfl)
 (hfew:((backTo cpos (starEach (e::es) X.env)).all (λx=>!x.1) && (backToKw cpos (keywordEach [] X.env)).all (λx=>x.1.isSome)
  && decide ((e::es).length+([]:List Keyword).length+(if([]:List Keyword).isEmpty then 0 else 1)<30))=true:=by rfl)
 (hline:(apos.endLine == cpos.line)=true:=by rfl) (hs:starEach (e::es) X.env=(false,eval e X.env)::starEach es X.env:=by rfl) (hplain:(backTo cpos (starEach es X.env)).any (·.1)=false:=by rfl):
 PE X (.Call (.Attribute o name apos) (e::es) [] cpos) (tBM X.K T r to t):=by
 intro pins s Y H Q I h;refine wpAny_Call_method_late hbase hfew hline U (thn (ho pins s Y H _ I h) λv s1 ⟨x,H1,I1,r1,ty,q1⟩=>?_);obtain⟨h1,h2⟩:=rQ I1 r1 ty;refine⟨T,id,pa,slot,hty,h1,h2,?_⟩;have hA:=ha cpos pins s1 Y H1 _ I1 q1;rw[hs]at hA ⊢;refine Calls.callWith_builtin (by show(false || (backTo cpos (starEach es X.env)).any (·.1))=false;rw[hplain]<;>rfl) (Calls.evalArgs_plain ?_);exact thn hA λus s2 ⟨vs,H2,I2,r2,q2⟩=>hm pins s2 Y H2 x vs v us Q I2 r1 r2 q2
end
def MtM(X:Cx)(id:String)(r:V->List V->Hp->VK->Prop):Prop:=
 ∀(pins:List (Addr×Obj))(s:Shared)(Y:St)(H:Hp)(x:V)(xs:List V)(v:Value)(us:List Value)(Q:VK),Inv X pins Y H s->aF x v->aw xs us->r x xs H Q->
  wpAny (model X.prog X.w) X.A (call (.builtin id) (v::us)) (EP X pins Y Q) X.xe s
theorem aw.one:∀{x:V}{us:List Value},aw [x] us->∃u,us=[u]/\aF x u
 |_,_,.cons r .nil=>⟨_,U,r⟩
theorem aw.zero:∀{us:List Value},aw [] us->us=[]
 |_,.nil=>rfl
theorem aw.dropLast{xs:List V}{us:List Value}(h:aw xs us):aw xs.dropLast us.dropLast:=by
 induction h with
 |nil=>exact .nil
 |cons r t ih=>
  cases t with
  |nil=>exact .nil
  |cons q t'=>exact .cons r ih
theorem aw.rep{xs:List V}{us:List Value}(h:aw xs us):∀k:Nat,aw (List.replicate k xs).flatten (List.replicate k us).flatten
 |0=>.nil
 |k+1=>by
  rw[List.replicate_succ,List.replicate_succ,List.flatten_cons,List.flatten_cons];exact aw.append h (aw.rep h k)
theorem Fa{α:Type}(l:List α):l.eraseIdx (l.length-1)=l.dropLast:=by
 induction l with
 |nil=>rfl
 |cons a r ih=>
  cases r with
  |nil=>rfl
  |cons b r=>
   have e:(a::b::r).length-1=((b::r).length-1)+1:=by
    have h1:(a::b::r).length=r.length+2:=U;have h2:(b::r).length=r.length+1:=U;omega
   rw[e,List.eraseIdx_cons_succ,ih]
   all_goals rfl
theorem wv(its:List Value):∀(k:Nat)(acc:List Value),
 List.foldl (λx1 x2=>x1++x2) acc.toArray (List.replicate k its.toArray)=(acc++(List.replicate k its).flatten).toArray
 |0,acc=>by simp
 |k+1,acc=>by
  have e:acc.toArray++its.toArray=(acc++its).toArray:=by simp
  have e2:(acc++its)++(List.replicate k its).flatten=acc++(List.replicate (k+1) its).flatten:=by
   rw[List.replicate_succ,List.flatten_cons,qX]
  rw[<- e2,<- wv its k (acc++its),<- e,List.replicate_succ,QK]
section
variable {X:Cx}{pins:List (Addr×Obj)}{Y:St}{H:Hp}{s:Shared}{l b:Addr}{xs ys zs:List V}
theorem Inv.lset{its its':List Value}{n:Nat}{f:Array Value->Array Value}{t':Nat}(I:Inv X pins Y H s)(hH:H l=some (.lst xs))
 (e:s.heap.get? l=some { cls:=.type "list",data:=.seq its.toArray n }) (hf:f its.toArray=its'.toArray) (hv:aw ys its') (hz:ys.length<=sizeLine):
 Inv X pins Y (upd H l (.lst ys)) { s with heap:=s.heap.update l (Obj.mapSeq f),toks:=t' }:=by
 have q:=PySem.IsL.update e f;rw[hf]at q;refine I.write (x:=l) (e:=l) (by rw[hH];exact trivial) (.inl U) (λb' u hb hu=>(QE s.heap (Obj.mapSeq f) (Ne.symm hb)).trans hu) ⟨_,q⟩ ?_;exact⟨hz,its',_,hv,q⟩
theorem Inv.lnew{its:List Value}{t':Nat}(I:Inv X pins Y H s)(hv:aw ys its)(hz:ys.length<=sizeLine):
 Inv X pins Y (upd H s.heap.objs.size (.lst ys)) { s with heap:=s.heap.push { cls:=.type "list",data:=.seq its.toArray },toks:=t' }:=
 I.laid (λ_ _ q=>qe _ q) (qi _) ⟨hz,its,0,hv,qz _ U⟩
theorem Inv.fresh(I:Inv X pins Y H s):H s.heap.objs.size=none:=I.hok.fresh (qi _)
theorem Inv.lstM(I:Inv X pins Y H s)(hH:H l=some (.lst xs)):xs.length<=sizeLine/\∃(its:List Value)(n:Nat),aw xs its/\xs.length=its.length/\s.heap.get? l=some { cls:=.type "list",data:=.seq its.toArray n }:=by
 obtain⟨z,its,n,r,e⟩:=I.hok l _ hH;exact⟨z,its,n,r,r.length,e⟩
theorem vx{n:Nat}(h:n<=sizeLine):Builtin.List.listTooLong n=false:=by
 unfold Builtin.List.listTooLong;exact Qe Yo
end
section
variable {X:Cx}
def Bs:V->List V->Hp->VK->Prop:=λx vs H Q=>∃l xs y,x=.ref l/\vs=[y]/\H l=some (.lst xs)/\xs.length<sizeLine/\Q .non (upd H l (.lst (xs++[y])))
theorem DM:MtM X "list.append" Bs:=by
 intro pins s Y H x vs v us Q I rx rv h;obtain⟨l,xs,y,rfl,rfl,hH,hz,q⟩:=h;cases rx;obtain⟨u,rfl,ru⟩:=rv.one;obtain⟨z,its,n,r,hl,e⟩:=I.lstM hH;refine call_meets F.slot_list_append ⟨_,e,U⟩ F.entry_list_append (F.args_list_append_2 _ _) (PySem.list_append l its.toArray n u (by rw[qM];omega)) ⟨e,?_⟩;refine⟨.non,_,I.lset (its':=its++[u]) hH e (by simp) (r.append (.cons ru .nil)) ?_,U,q⟩;rw[qf,Qh];omega
def Bp:V->List V->Hp->VK->Prop:=λx vs H Q=>∃l b xs zs,x=.ref l/\vs=[.ref b]/\H l=some (.lst xs)/\H b=some (.lst zs)/\xs.length+zs.length<=sizeLine/\Q .non (upd H l (.lst (xs++zs)))
theorem gu:MtM X "list.extend" Bp:=by
 intro pins s Y H x vs v us Q I rx rv h;obtain⟨l,b,xs,zs,rfl,rfl,hH,hB,hz,q⟩:=h;cases rx;obtain⟨u,rfl,ru⟩:=rv.one;cases ru;obtain⟨z,its,n,r,hl,e⟩:=I.lstM hH;obtain⟨z2,its2,n2,r2,hl2,e2⟩:=I.lstM hB;have hsz:its.toArray.size+its2.toArray.size<=sizeLine:=by rw[qM,qM];omega
 have hlong:¬ (!its.toArray.isEmpty && Builtin.List.listTooLong (its.toArray.size+its2.toArray.size))=true:=by
  rw[vx hsz,Bool.and_false];exact qt
 refine call_meets F.slot_list_extend ⟨_,e,U⟩ F.entry_list_extend (F.args_list_extend_2 _ _)
  (AutoSeq1.list_extend_list_list_0 l its.toArray n b its2.toArray n2 hlong (by rw[qM];omega) Yo) ⟨e,e2,?_⟩
 refine⟨.non,_,I.lset (its':=its++its2) hH e (by simp) (r.append r2) ?_,U,q⟩;rw[qf];omega
def Bj:V->List V->Hp->VK->Prop:=λx vs H Q=>∃l xs y,x=.ref l/\vs=[]/\H l=some (.lst xs)/\xs[xs.length-1]?=some y/\Q y (upd H l (.lst xs.dropLast))
theorem DK:MtM X "list.pop" Bj:=by
 intro pins s Y H x vs v us Q I rx rv h;obtain⟨l,xs,y,rfl,rfl,hH,hy,q⟩:=h;cases rx;have hus:=rv.zero;subst hus;obtain⟨z,its,n,r,hl,e⟩:=I.lstM hH;obtain⟨u,hu,ru⟩:=r.get hy
 have hy':its.toArray[its.toArray.size-1]?=some u:=by
  show its.toArray[its.length-1]?=some u;rw[<- Q5,<- hl];exact hu
 refine call_meets F.slot_list_pop ⟨_,e,U⟩ F.entry_list_pop (F.args_list_pop_1 _) (MeetsSeq.list_pop_last l its.toArray n u hy' (by rw[qM];omega)) ⟨e,?_⟩;refine⟨y,_,I.lset (its':=its.dropLast) hH e ?_ r.dropLast ?_,ru,q⟩
 .show its.toArray.eraseIdxIfInBounds (its.toArray.size-1)=its.dropLast.toArray;rw[qM,List.eraseIdxIfInBounds_toArray,Fa]
 .rw[QL];omega
def Bi:R2:=λx y H Q=>∃l k xs,x=.ref l/\y=.int k/\H l=some (.lst xs)/\-(2 ^ 63)<=k/\k<2 ^ 63/\xs.length * k.toNat<=sizeLine /\
 ∀p,H p=none->Q (.ref p) (upd H p (.lst (List.replicate k.toNat xs).flatten))
theorem E6{α:Type}(xs:List α)(k:Nat):(List.replicate k xs).flatten.length=k * xs.length:=by
 induction k with
 |zero=>simp
 |succ k ih=>rw[List.replicate_succ,List.flatten_cons,qf,ih,Nat.succ_mul,Nat.add_comm]
theorem vc:OpR X (binaryOp .Mult) Bi:=by
 intro pins s Y H x y v u Q I rx ry h;obtain⟨l,k,xs,rfl,rfl,hH,h1,h2,hz,q⟩:=h;cases rx;obtain⟨t,rfl⟩:=ry;obtain⟨z,its,n,r,hl,e⟩:=I.lstM hH;have hlen:its.toArray.size * k.toNat<=sizeLine:=by rw[qM,<- hl];exact hz
 have hcap:¬ its.toArray.size * k.toNat > (2 ^ 63-1) / 8:=by
  have:(sizeLine:Nat)<=(2 ^ 63-1) / 8:=Yk;omega
 have hfit:¬ (!Builtin.List.listFitsIndex k)=true:=by
  rw[fitsIndex_both h1 h2];exact qt
 have hlong:¬ Builtin.List.listTooLong (its.toArray.size * k.toNat)=true:=by
  rw[vx hlen];exact qt
 have hnew:List.foldl (λx1 x2=>x1++x2) #[] (List.replicate (if its.toArray.isEmpty=true then 0 else k.toNat) its.toArray)=(List.replicate k.toNat its).flatten.toArray:=by
  have f0:∀m:Nat,List.foldl (λx1 x2=>x1++x2) #[] (List.replicate m its.toArray)=(List.replicate m its).flatten.toArray:=λm=>by
   have:=wv its m [];rw[Qv]at this;exact this
  rw[f0]
  cases its with
  |nil=>simp
  |cons a r'=>rw[Qb (by simp)]
 refine wpAny_binaryOp_repeat_ref (T:="list") (U:="int") Yk ⟨_,e,U⟩ (λs'=>typeIs_int s' k t) noFill_list_mul F.fills_int_mul F.slot_int_rmul repeat_list F.slot_int_index.lookup
  (call_meets F.slot_int_rmul (typeIs_int s k t) F.entry_int_rmul (F.args_int_rmul_2 _ _) (int___rmul___int_list k t l its.toArray n)
   ⟨e,U,⟨_,e,U⟩,call_meets F.slot_list_mul ⟨_,e,U⟩ F.entry_list_mul (F.args_list_mul_2 _ _) (AutoListH.list___mul___list_int_3 l its.toArray n k t hfit hcap hlong) ⟨e,?_⟩⟩)
 rw[hnew];exact⟨.ref _,_,I.lnew (t':=s.toks) (r.rep k.toNat) (by rw[E6,Nat.mul_comm];exact hz),U,q _ I.fresh⟩
end
section
variable {prog:Program}{w:World}{A:Around}{E:Yq}{s:Shared}
set_option maxRecDepth 100000 in
end
section
variable {X:Cx}
end
section
variable {κ:Type} [DecidableEq κ]
noncomputable def bn(kvs:List (κ×V))(k:κ):Option V:=(kvs.find? λkv=>decide (kv.1=k)).map (·.2)
noncomputable def bO(kvs:List (κ×V))(k:κ)(v:V):List (κ×V):=
 if(kvs.any λkv=>decide (kv.1=k))=true then kvs.map (λkv=>if kv.1=k then(kv.1,v)else kv)else kvs++[(k,v)]
theorem eP{p:κ×V}{r:List (κ×V)}{k:κ}(e:p.1=k):bn (p::r) k=some p.2:=by simp[bn,Qj,e]
theorem eQ{p:κ×V}{r:List (κ×V)}{k:κ}(e:¬ p.1=k):bn (p::r) k=bn r k:=by simp[bn,Qj,e]
theorem i5(k:κ):∀kvs:List (κ×V),(kvs.any λkv=>decide (kv.1=k))=(bn kvs k).isSome
 |[]=>rfl
 |p::r=>by
  rw[List.any_cons];by_cases e:p.1=k
  .simp only[eP e,Qd e,Bool.true_or,Option.isSome_some]
  .rw[eQ e,Qe e,Bool.false_or];exact i5 k r
theorem rO(k j:κ)(y:V):∀kvs:List (κ×V),bn (kvs.map λkv=>if kv.1=k then(kv.1,y)else kv) j=(bn kvs j).map λx=>if j=k then y else x
 |[]=>rfl
 |p::r=>by
  have ih:=rO k j y r;rw[Q3];by_cases h:p.1=k
  .rw[Qc h];by_cases e:p.1=j
   .rw[eP (p:=(p.1,y)) e,eP e,Option.map_some,Qc (e.symm.trans h)]
   .rw[eQ (p:=(p.1,y)) e,eQ e,ih]
  .rw[Qb h];by_cases e:p.1=j
   .rw[eP (p:=p) e,eP e,Option.map_some,Qb (λz=>h (e.trans z))]
   .rw[eQ (p:=p) e,eQ e,ih]
theorem rM(k j:κ)(y:V):∀kvs:List (κ×V),bn kvs k=none->bn (kvs++[(k,y)]) j=if j=k then some y else bn kvs j
 |[],_=>by
  by_cases e:k=j
  .rw[Qc e.symm];exact eP (p:=(k,y)) e
  .rw[Qb (λz=>e z.symm)];exact eQ (p:=(k,y)) e
 |p::r,hn=>by
  rw[Qw];have hk:¬ p.1=k:=λz=>by rw[eP z]at hn;cases hn
  rw[eQ hk]at hn;have ih:=rM k j y r hn;by_cases e:p.1=j
  .rw[eP e,eP e,Qb (λz=>hk (e.trans z))]
  .rw[eQ e,eQ e,ih]
theorem rN(kvs:List (κ×V))(k j:κ)(y:V):bn (bO kvs k y) j=if j=k then some y else bn kvs j:=by
 unfold bO;by_cases a:(kvs.any λkv=>decide (kv.1=k))=true
 .rw[Qc a,rO];rw[i5]at a;by_cases e:j=k
  .obtain⟨x,hx⟩:=Option.isSome_iff_exists.mp a;rw[Qc e,e,hx,Option.map_some,Qc U]
  .rw[Qb e]
   cases bn kvs j with
   |none=>rfl
   |some x=>rw[Option.map_some,Qb e]
 .rw[Qb a];refine rM k j y kvs ?_;rw[i5]at a
  cases q:bn kvs k with
  |none=>rfl
  |some x=>rw[q]at a;exact(a U).elim
theorem jp(kvs:List (κ×V))(k:κ)(v:V):(bO kvs k v).length<=kvs.length+1:=by
 unfold bO;split
 .rw[qc];omega
 .rw[qf,qL,List.length_nil];omega
theorem ou{kvs:List (κ×V)}{k:κ}(v:V)(h:bn kvs k=none):bO kvs k v=kvs++[(k,v)]:=by
 unfold bO;rw[i5,h];exact Qb Yk
theorem cQ.isSome_eq{o:Option V}{u:Option Value}(r:cQ o u):o.isSome=u.isSome:=by
 cases o with
 |none=>cases u with
  |none=>rfl
  |some _=>exact(show False from r).elim
 |some _=>cases u with
  |none=>exact(show False from r).elim
  |some _=>rfl
theorem cQ.getD{o:Option V}{u:Option Value}{d:V}{d':Value}(r:cQ o u)(rd:aF d d'):aF (o.getD d) (u.getD d'):=by
 cases o with
 |none=>cases u with
  |none=>exact rd
  |some _=>exact(show False from r).elim
 |some _=>cases u with
  |none=>exact(show False from r).elim
  |some _=>exact r
theorem KV.val{kvs:List (κ×V)}{vs:List (κ×Value)}(r:KV kvs vs)(k:κ):cQ (bn kvs k) (valueAt vs k):=by
 unfold KV at r
 induction r with
 |nil=>exact True.intro
 |@cons p q ps qs h t ih=>
  obtain⟨h1,h2⟩:=h;by_cases e:p.1=k
  .have e':q.1=k:=h1.symm.trans e;have b:valueAt (q::qs) k=some q.2:=by simp[valueAt,Qj,e']
   rw[eP e,b];exact h2
  .have e':¬ q.1=k:=λz=>e (h1.trans z);have b:valueAt (q::qs) k=valueAt qs k:=by simp[valueAt,Qj,e']
   rw[eQ e,b];exact ih
theorem KV.any{kvs:List (κ×V)}{vs:List (κ×Value)}(r:KV kvs vs)(k:κ):(kvs.any λkv=>decide (kv.1=k))=vs.any λkv=>decide (kv.1=k):=by
 unfold KV at r
 induction r with
 |nil=>rfl
 |cons h t ih=>rw[List.any_cons,List.any_cons,ih,h.1]
theorem KV.repl{kvs:List (κ×V)}{vs:List (κ×Value)}(r:KV kvs vs)(k:κ){y:V}{u:Value}(ry:aF y u):
 KV (kvs.map λkv=>if kv.1=k then(kv.1,y)else kv) (vs.map λkv=>if kv.1=k then(kv.1,u)else kv):=by
 unfold KV at r ⊢
 induction r with
 |nil=>exact .nil
 |@cons p q ps qs h t ih=>
  rw[Q3,Q3];refine .cons ?_ ih;obtain⟨h1,h2⟩:=h;by_cases e:p.1=k
  .rw[Qc e,Qc (h1.symm.trans e)];exact⟨h1,ry⟩
  .rw[Qb e,Qb (λz=>e (h1.trans z))];exact⟨h1,h2⟩
theorem KV.put{kvs:List (κ×V)}{vs:List (κ×Value)}(r:KV kvs vs)(k:κ){y:V}{u:Value}(ry:aF y u):KV (bO kvs k y) (stored vs k u):=by
 unfold bO stored;rw[r.any k];by_cases e:(vs.any λkv=>decide (kv.1=k))=true
 .rw[Qc e,Qc e];exact r.repl k ry
 .rw[Qb e,Qb e];exact Paired.snoc r ⟨U,ry⟩
theorem KV.length{kvs:List (κ×V)}{vs:List (κ×Value)}(r:KV kvs vs):kvs.length=vs.length:=Paired.length r
end
theorem iI{P:Program}{w:World}{k:Key}{u:Value}(r:aF (kV k) u):(cN P w).is k u=true:=by
 cases k with
 |inl i=>obtain⟨t,e⟩:=(show ∃t,u=Value.int i t from r);subst e;exact DP P w i t
 |inr x=>obtain⟨t,e⟩:=(show ∃t,u=Value.str x t from r);subst e;exact DO P w x t
theorem w8{P:Program}{w:World}:∀{ks:List Key}{us:List Value},aw (ks.map kV) us->ItemsAre (cN P w) ks us
 |[],_,r=>by rw[List.map_nil]at r;cases r;exact .nil
 |k::ks,_,r=>by
  rw[Q3]at r
  cases r with
  |cons h t=>exact .cons (iI h) (w8 t)
abbrev KT(H:Hp):List (List Key×V)->List (List Key×Addr×Value)->Prop:=Paired λp q=>p.1=q.1/\H q.2.1=some (.tup (p.1.map kV))/\aF p.2 q.2.2
theorem KT.val{H:Hp}{kvs:List (List Key×V)}{xs:List (List Key×Addr×Value)}(r:KT H kvs xs)(k:List Key):cQ (bn kvs k) ((atKey xs k).map (·.2)):=by
 induction r with
 |nil=>exact True.intro
 |@cons p q ps qs h t ih=>
  obtain⟨h1,_,h2⟩:=h;by_cases e:p.1=k
  .have e':q.1=k:=h1.symm.trans e;have b:atKey (q::qs) k=some q.2:=by simp[atKey,Qj,e']
   rw[eP e,b];exact h2
  .have e':¬ q.1=k:=λz=>e (h1.trans z);have b:atKey (q::qs) k=atKey qs k:=by simp[atKey,Qj,e']
   rw[eQ e,b];exact ih
theorem KT.repl{H:Hp}{kvs:List (List Key×V)}{xs:List (List Key×Addr×Value)}(r:KT H kvs xs)(k:List Key){y:V}{u:Value}(ry:aF y u):
 KT H (kvs.map λkv=>if kv.1=k then(kv.1,y)else kv) (xs.map (putAt k u)):=by
 induction r with
 |nil=>exact .nil
 |@cons p q ps qs h t ih=>
  rw[Q3,Q3];refine .cons ?_ ih;obtain⟨h1,h2,h3⟩:=h;unfold putAt;by_cases e:p.1=k
  .rw[Qc e,Qc (h1.symm.trans e)];exact⟨h1,h2,ry⟩
  .rw[Qb e,Qb (λz=>e (h1.trans z))];exact⟨h1,h2,h3⟩
theorem KT.put{H:Hp}{kvs:List (List Key×V)}{xs:List (List Key×Addr×Value)}(r:KT H kvs xs)(k:List Key){b:Addr}{y:V}{u:Value}(hb:H b=some (.tup (k.map kV)))(ry:aF y u):
 KT H (bO kvs k y) (storedH xs k b u):=by
 have e:(kvs.any λkv=>decide (kv.1=k))=(atKey xs k).isSome:=by
  rw[i5,(r.val k).isSome_eq,Option.isSome_map]
 unfold bO storedH;rw[e];by_cases q:(atKey xs k).isSome=true
 .rw[Qc q,Qc q];exact r.repl k ry
 .rw[Qb q,Qb q];exact Paired.snoc r ⟨U,hb,ry⟩
theorem KT.keeps{H H':Hp}{kvs:List (List Key×V)}{xs:List (List Key×Addr×Value)}(r:KT H kvs xs)(ht:∀b ys,H b=some (.tup ys)->H' b=some (.tup ys)):KT H' kvs xs:=
 Paired.mapP r λ_ _ z=>⟨z.1,ht _ _ z.2.1,z.2.2⟩
section
variable {P:Program}{w:World}{H:Hp}{h:Heap}{a:Addr}
theorem uw{u:HO}(ok:HOk P w H h)(e:Rd H a u):bp P w H h a u:=e.ok ok
theorem jw{kvs:List (Key×V)}(ok:HOk P w H h)(e:Rd H a (.dK kvs)):kvs.length<=sizeLine/\(a == sysModules)=false/\∃vs,KV kvs vs/\h.DictOf (cN P w) a vs:=
 show bp P w H h a (.dK kvs)from uw ok e
theorem pH{kvs:List (Key×V)}(ok:HOk P w H h)(e:H a=some (.dK kvs)):kvs.length<=sizeLine/\(a == sysModules)=false/\∃vs,KV kvs vs/\h.DictOf (cN P w) a vs:=jw ok (.inl e)
theorem kW{ks:List Key}(ok:HOk P w H h)(e:H a=some (.tup (ks.map kV))):(tupleKind (cN P w)).is h ks a:=by
 obtain⟨_,its,r,o,h1,h2,n,h3⟩:=(show bp P w H h a (.tup (ks.map kV))from ok a _ e);exact⟨o,its.toArray,n,h1,h2,h3,by simpa using w8 r⟩
theorem ju{kvs:List (List Key×V)}(ok:HOk P w H h)(e:Rd H a (.dT kvs)):kvs.length<=sizeLine/\(a == sysModules)=false /\
 ∃xs,KT H kvs xs/\h.DictOfH (tupleKind (cN P w)) a xs:=by
 obtain⟨z,y,xs,r,o,es,ep,h1,h2,h3,h4,h5⟩:=(show bp P w H h a (.dT kvs)from uw ok e);refine⟨z,y,xs,r,o,es,ep,h1,h2,h3,h4,λx hx=>?_,h5⟩
 have all:∀{l:List (List Key×V)}{m:List (List Key×Addr×Value)},KT H l m->∀x∈m,(tupleKind (cN P w)).is h x.1 x.2.1:=by
  intro l m q
  induction q with
  |nil=>intro x hx;exact nomatch hx
  |@cons p q ps qs hq t ih=>
   intro x hx;rcases qF.mp hx with e|hx
   .subst e;exact kW ok (by rw[<- hq.1];exact hq.2.1)
   .exact ih x hx
 exact all r x hx
theorem Fc{kvs:List (List Key×V)}(ok:HOk P w H h)(e:H a=some (.dT kvs)):kvs.length<=sizeLine/\(a == sysModules)=false /\
 ∃xs,KT H kvs xs/\h.DictOfH (tupleKind (cN P w)) a xs:=ju ok (.inl e)
end
def cH(H:Hp)(a:Addr)(y:V)(r:Option V):Prop:=
 (∃kvs k,Rd H a (.dK kvs)/\y=kV k/\r=bn kvs k)\/∃kvs k b,Rd H a (.dT kvs)/\y=.ref b/\H b=some (.tup (k.map kV))/\r=bn kvs k
def iQ(H:Hp)(a:Addr)(y v:V)(H':Hp):Prop:=
 (∃kvs k,H a=some (.dK kvs)/\y=kV k/\kvs.length<sizeLine/\H'=upd H a (.dK (bO kvs k v))) \/
 ∃kvs k b,H a=some (.dT kvs)/\y=.ref b/\H b=some (.tup (k.map kV))/\kvs.length<sizeLine/\H'=upd H a (.dT (bO kvs k v))
theorem cH.k{H:Hp}{a:Addr}{kvs:List (Key×V)}{k:Key}(e:H a=some (.dK kvs)):cH H a (kV k) (bn kvs k):=.inl ⟨kvs,k,.inl e,U,U⟩
theorem iQ.k{H:Hp}{a:Addr}{kvs:List (Key×V)}{k:Key}{v:V}(e:H a=some (.dK kvs))(hl:kvs.length<sizeLine):iQ H a (kV k) v (upd H a (.dK (bO kvs k v))):=.inl ⟨kvs,k,e,U,hl,U⟩
section
variable {X:Cx}{pins:List (Addr×Obj)}{Y:St}{H:Hp}{s:Shared}{a:Addr}{y v:V}{u r:Value}{o:Option V}{A:Around}{E:Yq}
theorem Inv.big(I:Inv X pins Y H s):sysModules<s.heap.objs.size:=by
 have h:mainGlobals<s.heap.objs.size:=(I.mod.glob.keeps I.bk).lt;exact Nat.lt_trans Yk h
theorem Fo{Q:Yq}(hu:A.units+1<cLine)(I:Inv X pins Y H s)(g:cH H a y (some v))(ry:aF y u)(h:∀w' s',Inv X pins Y H s'->aF v w'->Q w' s'):
 wpAny (model X.prog X.w) A (getItem (.ref a) u) Q E s:=by
 rcases g with⟨kvs,k,e,ey,l⟩|⟨kvs,k,b,e,ey,eb,l⟩
 .subst ey;obtain⟨z,hd,vs,rel,dd⟩:=jw I.hok e;obtain⟨w',hw,rw'⟩:=cQ.some_of (v:=v) (o:=valueAt vs k) (by rw[l];exact rel.val k);exact wpAny_getItem_of (iI ry) dd.mapOf hw (h w' _ (I.tok _) rw')
 .subst ey;cases(show u=Value.ref b from ry);obtain⟨z,hd,xs,rel,dd⟩:=ju I.hok e;obtain⟨w',hw,rw'⟩:=cQ.some_of (v:=v) (o:=(atKey xs k).map (·.2)) (by rw[l];exact rel.val k);obtain⟨p,hp,hp2⟩:=qZ.mp hw;refine wpAny_getItem_heap (tupleKind_room_in1 hu) (kW I.hok eb) dd hp ?_;rw[hp2];exact h w' _ (I.tok _) rw'
theorem wW{h':Heap}{t':Nat}{ob:HO}(I:Inv X pins Y H s)(mu:Mut (H a))(hs:Heap.SameBut a s.heap h')(he:∃q,h'.get? a=some q)(new:bp X.prog X.w (upd H a ob) h' a ob):
 Inv X pins Y (upd H a ob) { s with heap:=h',toks:=t' }:=
 I.write (x:=a) (e:=a) mu (.inl U) (λb q hb z=>(hs.2 b hb).trans z) he new
theorem wL{P:Program}{w:World}{H':Hp}{h':Heap}{kvs:List (Key×V)}{vs:List (Key×Value)}(z:kvs.length<=sizeLine)(hd:(a == sysModules)=false)(rel:KV kvs vs)(dd:h'.DictOf (cN P w) a vs):
 bp P w H' h' a (.dK kvs):=⟨z,hd,vs,rel,dd⟩
theorem Fn{H':Hp}{Q:Unit->Shared->Prop}(hu:A.units+1<cLine)(I:Inv X pins Y H s)(g:iQ H a y v H')(ry:aF y u)(rv:aF v r)(h:∀s',Inv X pins Y H' s'->Q () s'):
 wpAny (model X.prog X.w) A (setItem (.ref a) u r) Q E s:=by
 rcases g with⟨kvs,k,e,ey,l,eH⟩|⟨kvs,k,b,e,ey,eb,l,eH⟩
 .subst ey eH;obtain⟨z,hd,vs,rel,dd⟩:=pH I.hok e;have hz:vs.length<=sizeLine:=by rw[<- rel.length];exact z
  have hl:(bO kvs k v).length<=sizeLine:=by have:=jp kvs k v;omega
  refine wpAny_setItem_pairs (hsz:=hz) (iI ry) dd λh' dd' hs=>h _ ?_;have he:∃q,h'.get? a=some q:=let ⟨q,_,_,hq,_⟩:=dd';⟨q,hq⟩;exact wW I (by rw[e];exact True.intro) hs he (wL hl hd (rel.put k rv) dd')
 .subst ey eH;cases(show u=Value.ref b from ry);obtain⟨z,hd,xs,rel,dd⟩:=Fc I.hok e;have hz:xs.length<=sizeLine:=by rw[<- Paired.length rel];exact z
  have hl:(bO kvs k v).length<=sizeLine:=by have:=jp kvs k v;omega
  refine wpAny_setItem_heap (hsz:=hz) (tupleKind_room_in1 hu) (kW I.hok eb) dd λh' dd' hs=>h _ ?_;obtain⟨q,es,ep,hq,h2,h3,h4,_,h5⟩:=dd';refine wW I (by rw[e];exact True.intro) hs ⟨q,hq⟩ ⟨hl,hd,_,(rel.put k eb rv).keeps λc ys ec=>?_,q,es,ep,hq,h2,h3,h4,h5⟩;rw[ae (vy ec e (λz=>nomatch z))];exact ec
end
section
variable {X:Cx}{pins:List (Addr×Obj)}{Y:St}{H:Hp}{s:Shared}{a:Addr}{kvs:List (Key×V)}{k:Key}{u:Value}{A:Around}{E:Yq}
end
def xB(i:Expr):Prop:=∀ov iv,subscripted i false ov iv=operate [ov,iv] (getItem ov iv)
theorem zf{prog:Program}{w:World}{A:Around}{E:Yq}{s:Shared}{env:Env}{value slice:Expr}{pos:Pos}{T id:String}{Q:Yq}
 (hl:typeLookup (.type T) "__getitem__"=pure (some (.builtin id))) (hs:xB slice)
 (h:wpAny (model prog w) A (eval value env) (λo s₁=>wpAny (model prog w) A (eval slice env) (λi s₂=>s₂.TypeIs o T/\wpAny (model prog w) A (getItem o i) Q E s₂) E s₁) E s):
 wpAny (model prog w) A (eval (.Subscript value slice pos) env) Q E s:=by
 refine Subscript_ (wpAny_mono h (λo s₁ h₁=>wpAny_mono h₁ (λi s₂ h₂=>?_) λ_ _ x=>x) λ_ _ x=>x);obtain⟨hT,h₂⟩:=h₂;unfold subscriptTail;refine qb ?_;rw[getitemInPython_of_ne hT.not_modules];refine qb (wpAny_specialOf hT hl ?_)
 have fin:wpAny (model prog w) A (subscripted slice false o i) (λr s₃=>wpAny (model prog w) A (letTemporaryGo value o r >>= λ_=>pure r) Q E s₃) E s₂:=by
  rw[hs o i];exact wpAny_operating (wpAny_mono h₂ (λr s₃ h₃=>qb (wpAny_letTemporaryGo (qh h₃))) λ_ _ x=>x)
 first
  |exact qh (qb fin)
  |exact qb (qh (qb fin))
  |exact qb fin
theorem Fe{X:Cx}{pins:List (Addr×Obj)}{Y:St}{H:Hp}{s:Shared}{a:Addr}{y:V}{o:Option V}(I:Inv X pins Y H s)(g:cH H a y o):s.TypeIs (.ref a) "dict":=by
 rcases g with⟨kvs,k,e,_,_⟩|⟨kvs,k,b,e,_,_,_⟩
 .obtain⟨_,_,vs,_,dd⟩:=jw I.hok e;exact dd.typeIs
 .obtain⟨_,_,xs,_,dd⟩:=ju I.hok e;exact dd.typeIs
def yY(td ty:TE):TE:=λY H Q=>td Y H λx H1=>ty Y H1 λy H2=>∃a v,x=.ref a/\cH H2 a y (some v)/\Q v H2
def AM(td ty tv:TE):TS:=λD Y H=>tv Y H λv H1=>td Y H1 λx H2=>ty Y H2 λy H3=>∃a H4,x=.ref a/\iQ H3 a y v H4/\D.nx Y H4
section
variable {X:Cx}{o i e value:Expr}{pos pos' tpos:Pos}{td ty tv:TE}
theorem fN(hu:X.A.units+1<cLine)(ho:PE X o td)(hi:PE X i ty)(hs:xB i):PE X (.Subscript o i pos) (yY td ty):=by
 intro pins s Y H Q I h;refine zf PySem.F.slot_dict_getitem.lookup hs (thn (ho pins s Y H _ I h) λu s1 ⟨x,H1,I1,rx,q1⟩=>thn (hi pins s1 Y H1 _ I1 q1) λiv s2 ⟨y,H2,I2,ry,a,v,ex,g,q2⟩=>?_);subst ex;obtain rfl:u=Value.ref a:=rx;exact⟨Fe I2 g,Fo hu I2 g ry λw' s3 I3 rw'=>⟨v,H2,I3,rw',q2⟩⟩
theorem je(hu:X.A.units+1<cLine)(ho:PE X o td)(hi:PE X i ty)(hv:PE X value tv)(hs:swapsWith value (some (.Subscript o i pos')) pos.line X.env=pure false):
 PS X (.Assign [.Subscript o i pos'] value pos) (AM td ty tv):=by
 intro pins s Y H D I h;refine wpAny_Assign_Subscript (thn (hv pins s Y H _ I h) λr s1 ⟨v,H1,I1,rv,q1⟩=>thn (ho pins s1 Y H1 _ I1 q1) λu s2 ⟨x,H2,I2,rx,q2⟩=>thn (hi pins s2 Y H2 _ I2 q2) λiv s3 ⟨y,H3,I3,ry,a,H4,ex,g,q3⟩=>?_) hs;subst ex;obtain rfl:u=Value.ref a:=rx;exact Fn hu I3 g ry rv λs4 I4=>⟨Y,H4,I4,q3⟩
end
theorem wM{P:Program}{w:World}{H:Hp}(h:Heap)(hb:sysModules<h.objs.size):bp P w H (h.push { cls:=.type "dict",data:=.dict #[] }) h.objs.size (.dK []):=
 ⟨qD _,beq_eq_false_iff_ne.mpr (Ne.symm (qQ hb)),[],.nil,Heap.DictOf.new h⟩
def yW:TE:=λ_ H Q=>∀p,H p=none->Q (.ref p) (upd H p (.dK []))
section
variable {X:Cx}{pos:Pos}
theorem Cc:PE X (.Dict [] [] pos) yW:=λpins s Y H Q I h=>
 wpAny_Dict_empty ⟨.ref s.heap.objs.size,_,I.laid (a:=s.heap.objs.size) (o:=.dK []) (t':=s.toks) (λ_ _ q=>qe _ q) (qi _) (wM s.heap I.big),U,h _ (I.hok.fresh (qi _))⟩
end
structure M2(X:Cx)(o:Expr)(m:Str)(apos:Pos)(e f:Expr)(cpos:Pos):Prop where
 base:attributeBase o m X.env (eval o X.env)=eval o X.env
 few:((backTo cpos (starEach [e,f] X.env)).all (λx=>!x.1) && (backToKw cpos (keywordEach [] X.env)).all (λx=>x.1.isSome)
  && decide (([e,f]:List Expr).length+([]:List Keyword).length+(if([]:List Keyword).isEmpty then 0 else 1)<30))=true
 line:(apos.endLine == cpos.line)=true
 trees:backTo cpos (starEach [e,f] X.env)=[(false,eval e X.env),(false,eval f X.env)]
def IsD(H:Hp)(a:Addr):Prop:=(∃kvs,Rd H a (.dK kvs))\/∃kvs,Rd H a (.dT kvs)
theorem wa{X:Cx}{pins:List (Addr×Obj)}{Y:St}{H:Hp}{s:Shared}{a:Addr}(I:Inv X pins Y H s)(d:IsD H a):
 s.TypeIs (.ref a) "dict"/\(∀b,Value.ref a=.ref b->∃ob,s.heap.get? b=some ob/\ob.dict=none)/\(a == sysModules)=false:=by
 rcases d with⟨kvs,e⟩|⟨kvs,e⟩
 .obtain⟨_,hd,vs,_,dd⟩:=jw I.hok e;refine⟨dd.typeIs,λb q=>?_,hd⟩;cases q;obtain⟨ob,_,_,h1,h2,_⟩:=dd;exact⟨ob,h1,h2.2.1⟩
 .obtain⟨_,hd,xs,_,dd⟩:=ju I.hok e;refine⟨dd.typeIs,λb q=>?_,hd⟩;cases q;obtain⟨ob,_,_,h1,h2,_⟩:=dd;exact⟨ob,h1,h2.2.1⟩
section
variable {X:Cx}{pins:List (Addr×Obj)}{Y:St}{H:Hp}{s:Shared}{a:Addr}{y d:V}{u r:Value}{o:Option V}{A:Around}{E:Yq}
theorem Fp{Q:Yq}(hu:A.units+1<cLine)(I:Inv X pins Y H s)(g:cH H a y o)(ry:aF y u)(rd:aF d r)(h:∀w' s',Inv X pins Y H s'->aF (o.getD d) w'->Q w' s'):
 wpAny (model X.prog X.w) A (call (.builtin "dict.get") [.ref a,u,r]) Q E s:=by
 rcases g with⟨kvs,k,e,ey,l⟩|⟨kvs,k,b,e,ey,eb,l⟩
 .subst ey;obtain⟨z,hd,vs,rel,dd⟩:=jw I.hok e;refine call_meetsIn PySem.F.slot_dict_get dd.typeIs PySem.F.entry_dict_get (PySem.F.args_dict_get_3 _ _ _) (meets_dict_get_default (cN X.prog X.w) a (iI ry) hd r) ⟨_,dd.mapOf,h _ _ (I.tok _) ?_⟩;rw[l];exact(rel.val k).getD rd
 .subst ey;cases(show u=Value.ref b from ry);obtain⟨z,hd,xs,rel,dd⟩:=ju I.hok e;refine call_meetsIn PySem.F.slot_dict_get dd.typeIs PySem.F.entry_dict_get (PySem.F.args_dict_get_3 _ _ _) (meetsH_dict_get_default (tupleKind (cN X.prog X.w)) a b hd r) ⟨tupleKind_room_in1 hu,k,xs,kW I.hok eb,dd,h _ _ (I.tok _) ?_⟩;rw[l];exact(rel.val k).getD rd
end
def yX(td ty tx:TE):TE:=λY H Q=>td Y H λx H1=>∃a,x=.ref a/\IsD H1 a/\ty Y H1 λy H2=>tx Y H2 λz H3=>∃o,cH H3 a y o/\Q (o.getD z) H3
section
variable {X:Cx}{o e f:Expr}{apos cpos:Pos}{td ty tx:TE}
theorem uW(hu:X.A.units+1<cLine)(ho:PE X o td)(he:PE X e ty)(hf:PE X f tx)(m:M2 X o "get" apos e f cpos):PE X (.Call (.Attribute o "get" apos) [e,f] [] cpos) (yX td ty tx):=by
 intro pins s Y H Q I h;refine wpAny_Call_method m.base m.few m.line PySem.F.plainAttrs_dict PySem.F.slot_dict_get PySem.F.type_dict_get (thn (ho pins s Y H _ I h) λu s1 ⟨x,H1,I1,rx,a,ex,d,q1⟩=>?_);subst ex;obtain rfl:u=Value.ref a:=rx;obtain⟨t1,t2,_⟩:=wa I1 d;refine⟨t1,t2,?_⟩;rw[m.trees]
 refine Calls.callWith_builtin U (Calls.evalArgs_plain (Calls.spliced_cons (thn (he pins s1 Y H1 _ I1 q1) λiv s2 ⟨y,H2,I2,ry,q2⟩=>
  Calls.spliced_cons (thn (hf pins s2 Y H2 _ I2 q2) λfv s3 ⟨z,H3,I3,rz,ov,g,q3⟩=>Calls.spliced_nil ?_))))
 exact Fp hu I3 g ry rz λw' s4 I4 rw'=>⟨_,H3,I4,rw',q3⟩
end
section
variable {X:Cx}{pins:List (Addr×Obj)}{Y:St}{H:Hp}{s:Shared}{a:Addr}{kvs:List (Key×V)}{A:Around}{E:Yq}
end
section
variable {X:Cx}{pins:List (Addr×Obj)}{Y:St}{H:Hp}{s:Shared}{a:Addr}{y:V}{u:Value}{A:Around}{E:Yq}
end
end L2
namespace Att
open PySem PySem.W PySem.Calls PyProof.Rows
theorem Ey{P:Params}{h:Heap}:∀(ns:List Int)(vs:List Value),WellAll P h vs (ns.map WData.int)->IntsAre vs ns:=by
 intro ns
 induction ns with
 |nil=>
  intro vs w;rw[List.map_nil]at w;cases w;exact .nil
 |cons n ns ih=>
  intro vs w;rw[Q3]at w
  cases w with
  |cons a b=>
   cases a;exact .cons _ _ (ih _ b)
theorem Aj{l:OpenLaw}{n:Nat}(hn:l.most=some n){P:Params}{h:Heap}{args:List WData}{vals:List Value}
 (hpre:l.row.toRowW.claim.pre args=true) (hwl:WellAll P h vals args):
 ∃a vs ns,vals=[Value.ref a]/\args=[WData.list (ns.map WData.int)]/\h.get? a=some { cls:=.type "list",data:=.seq vs.toArray }/\IntsAre vs ns/\ns.length<=n:=by
 have hsh:WShape.hasAll [] args [.list .int]=true:=(pre_splitW hpre).1;have hc:l.pre.holds [] { args:=args }=true:=(pre_splitW hpre).2;obtain⟨d,r,rfl,h1,h2⟩:=hasAllW_cons hsh;obtain rfl:=hasAllW_nil h2;obtain⟨xs,rfl,h3⟩:=hasW_list h1;obtain⟨ns,rfl⟩:=items_int h3
 have hlen:ns.length<=n:=by
  unfold OpenLaw.pre at hc
  have h4:(WTm.not (.lt (.lit (.int (n:Int))) (.len (.arg 0)))).holds [] { args:=[.list (ns.map .int)] }=true:=by
   have h4:=(holds_andW hc).1;rw[hn]at h4;exact h4
  have h5:=condW_of h4 (w_not (w_lt w_lit (w_len_list (w_arg U))));rw[qc]at h5;refine Nat.le_of_not_lt λq=>?_;have q':(n:Int)<((ns.length:Nat):Int):=Yo
  first
   |(rw[Qd q']at h5;exact Qf h5 Yk)
   |(simp at h5;omega)
 cases hwl with
 |cons w1 w2=>
  cases w2
  cases w1 with
  |list ho hall=>exact⟨_,_,ns,U,U,ho,Ey ns _ hall,hlen⟩
theorem BM(l:OpenLaw)(args:List WData):l.row.toRowW.claim.post args (.bool true) args=true:=
 postW_of (r:=l.row.toRowW) (X:=(true == true))
  (show WShape.has [] (.bool true) .bool=true by first|rfl|decide|simp[WShape.has,WShape.arms,WShape.armsAll])
  (show(WTm.eq .res (.lit (.bool true))).value [] { args:=args,res:=some (.bool true),after:=args }=some (.bool (true == true))from w_eq_bool (w_res U) w_lit) U
section
variable {prog:Program}{w:World}{A:Around}{E:Yq}{s:Shared}{K:Frag}
end
end Att
namespace L2
open PySem PySem.Spec PyProof.Rows
theorem rJ:∀{vs:List Value}{ns:List Int},IntsAre vs ns->aw (ns.map V.int) vs
 |_,_,.nil=>.nil
 |_,_,.cons n t h=>.cons ⟨t,U⟩ (rJ h)
def lA(H:Hp):Prop:=∀b,H b=none\/∃o xs,H b=some (.frz o (.lst xs))
theorem Ea{P:Program}{w:World}{K:W.Frag}{mg mb:Str->Option Value}{CX:CXT}{k:Nat}{fa a:Addr}{fd:FuncData}{x:Str}{sp:Sp}{s₁:Shared}{vs:List Value}{ns:List Int}
 (KX:K.In s₁.heap) (hns:s₁.heap.Ns mainGlobals mg) (hb:s₁.heap.Ns builtinsNs mb) (hbb:∀x:Str,x≠"__name__"->mb x=bootBuiltins x) (hlim:s₁.heap.NoLimit) (hg:s₁.gens=#[])
 (ha:s₁.heap.get? a=some { cls:=.type "list",data:=.seq vs.toArray }) (hi:IntsAre vs ns) (hl:ns.length<=sizeLine) (hr:bG k callerA)
 (F:∀base:Heap,K.In base->base.Ns mainGlobals mg->aB P w K mg base CX k fa fd [x] sp) (hbind:∀(s:Shared)(u:Value),BindsTo s fd ⟨[u],[]⟩ [(x,u)])
 (hsp:∀H:Hp,lA H->SqL K H a (ns.map V.int)->sp [.ref a] H (λv _=>v=.bl true) λ_ _ _=>False)
 (hCX:∀H e s',CX [] H s₁ (λ_ _ _=>False) e s'->False):
 codeAny (model P w) callerA (.call (.ref fa) ⟨[.ref a],[]⟩) (λr s'=>r=.ok (.ret (.bool true))/\OldK s₁.heap s'.heap/\s'.os=s₁.os/\AllBare s'.gens) s₁:=by
 have rv:=rJ hi;have lenV:=hi.length
 have core:∀H:Hp,lA H->SqL K H a (ns.map V.int)->HOk P w H s₁.heap->(∀b,H b≠none->b=a)->(H a≠none->K.lookup a=none)->
  codeAny (model P w) callerA (.call (.ref fa) ⟨[.ref a],[]⟩) (λr s'=>r=.ok (.ret (.bool true))/\OldK s₁.heap s'.heap/\s'.os=s₁.os/\AllBare s'.gens) s₁:=by
  intro H hO hS hok hA hK;have base_of:∀{b:Addr}{o:Obj},s₁.heap.get? b=some o->H b=none->(fR s₁.heap H).get? b=some o:=λe n=>EG e n
  have noA:∀{b:Addr}{o:Obj}{es:Array DictEntry}{ep:Nat},s₁.heap.get? b=some o->o.data=.dict es ep->H b=none:=λ{b o es ep} e d=>by
   cases q:H b with
   |none=>rfl
   |some u=>
    have e':b=a:=hA b (by rw[q];simp);subst e';rw[ha]at e;cases e;have d':Data.seq vs.toArray _=Data.dict es ep:=d;cases d'
  have nsK:∀{b:Addr}{m:Str->Option Value},s₁.heap.Ns b m->(fR s₁.heap H).Ns b m:=λ{b m}⟨o,es,ep,e,d,r⟩=>⟨o,es,ep,base_of e (noA e d),d,r⟩
  have hKb:K.In (fR s₁.heap H):=λb o e=>base_of (KX b o e) (by
   cases q:H b with
   |none=>rfl
   |some u=>
    have e':b=a:=hA b (by rw[q];simp);subst e'
    rw[hK (by rw[q];simp)]at e;cases e)
  have hM:Mod K mg (fR s₁.heap H):=⟨hKb,nsK hns,⟨mb,nsK hb,hbb⟩,let ⟨mc,h1,h2⟩:=hlim;⟨mc,nsK h1,h2⟩⟩;have e0:hX P w K mg (fR s₁.heap H) callerA [] s₁ H:=⟨U,hM,λb o e=>DD e,Nat.le_of_eq (EF _ _),trivial,λb hb=>Qf (show b∈([]:List Addr)from hb) (by simp),hok,.of_eq hg⟩;refine codeAny_mono ((F _ hKb (nsK hns)).dz callerA [] s₁ H ⟨[.ref a],[]⟩ [.ref a] [.ref a] _ _ hr e0 (hbind s₁ (.ref a)) (.cons U .nil) (hsp H hO hS)) λr s' h=>?_
  cases r with
  |error e=>exact(hCX H e s' h).elim
  |ok fl=>
   cases fl with
   |next=>exact False.elim h
   |brk=>exact False.elim h
   |cont=>exact False.elim h
   |ret u=>
    obtain⟨v,H',os,bare,un,hok',r',q⟩:=h;have q':v=.bl true:=q;subst q';obtain rfl:u=Value.bool true:=r';refine⟨U,OldK.of_keep λb o e=>?_,os,bare⟩
    cases q:H b with
    |none=>exact un.keep b o e q (by intro z;exact Qf (show b∈([]:List Addr)from z) (by simp)) (by simp)
    |some u=>
     rcases hO b with z|⟨ob,xs,z⟩
     .rw[q]at z;cases z
     .have z2:=un.frzs b ob _ z;obtain⟨e1,_⟩:=hok b _ z;obtain⟨e2,_⟩:=hok' b _ z2;rw[e]at e1;cases e1;exact e2
 cases hk:K.lookup a with
 |some o=>
  have e:=KX a o hk;rw[ha]at e;cases e;refine core (λ_=>none) (λ_=>.inl U) (.inr ⟨_,vs.toArray,_,hk,U,U,U,by rw[qM,lenV];exact hl,by simpa using rv⟩) (λb u z=>by have z':(none:Option HO)=some u:=z;cases z') (λb z=>Qf U z) λz=>Qf U z
 |none=>
  refine core (λb=>if b=a then some (.frz { cls:=.type "list",data:=.seq vs.toArray } (.lst (ns.map V.int)))else none) (λb=>?_) (.inl (.inr ⟨{ cls:=.type "list",data:=.seq vs.toArray },Qc U⟩)) (λb u z=>?_) (λb z=>?_) λ_=>hk
  .by_cases hb:b=a
   .exact .inr ⟨_,_,Qc hb⟩
   .exact .inl (Qb hb)
  .by_cases hb:b=a
   .have z':=(Qc hb).symm.trans z;cases z';subst hb;exact⟨ha,by rw[qc];exact hl,vs,_,rv,ha⟩
   .have z':=(Qb hb).symm.trans z;cases z'
  .by_cases hb:b=a
   .exact hb
   .exact Qf (Qb hb) z
abbrev CX0:CXT:=λ_ _ _ _ _ _=>False
abbrev E0:XK:=λ_ _ _=>False
theorem aA{X:Cx}:gA CX0 X E0:=λ_ _ _ _ _ _ _ h=>h.elim
structure Fun(K:W.Frag)(x qual:Str)(st:Stmt)(f:Addr)(fd:FuncData):Prop where
 ex:∃(oc:Value)(od:Option Addr)(kV doc pm:Value)(an:Option Addr)(cdv ct:Value)(osl:Array (Option Value)),
  fd=PySem.W.fnOf x qual (dO st) (d9 st) (ax st) .none kV doc pm an cdv ct/\K.lookup f=some ⟨oc,od,.func fd,osl⟩/\PySem.W.codeIn K cdv qual=true
 kp:PySem.W.keepIn K (.ref f)=true
section
variable {P:Program}{w:World}{K:W.Frag}{mg:Str->Option Value}{base:Heap}
theorem Fun.ok{x qual:Str}{st:Stmt}{f:Addr}{fd:FuncData}{N ps:List Str}{k:Nat}{sp:Sp}(F:Fun K x qual st f fd)(S:aN N ps (ax st))(len:∀vs H Q E,sp vs H Q E->vs.length=ps.length)
 (hbody:∀(cdv:Value)(A:Around)(outer:List Env)(s:Shared)(H:Hp)(vs:List V)(Q:VK)(E:XK),bG k (A.deeper (envOfC qual (ax st) s.heap.objs.size f cdv))->sp vs H Q E->
  ∃t,PSs (bN CX0 P w K mg base N qual (ax st) f cdv A outer s H E).nox (d9 st) t/\t { nx:=λ_ H'=>Q .non H',rt:=Q } (fc N vs) H):aB P w K mg base CX0 (k+1) f fd ps sp:=by
 obtain⟨oc,od,kV,doc,pm,an,cdv,ct,osl,rfl,lk,hcd⟩:=F.ex;refine pB lk hcd S len λA outer s H vs Q E hr hsp=>?_;obtain⟨t,h,q⟩:=hbody cdv A outer s H vs Q E hr hsp;exact⟨t,h.nox,q⟩
theorem Fun.binds{x qual:Str}{st:Stmt}{f:Addr}{fd:FuncData}{ps:List Str}(F:Fun K x qual st f fd)
 (h:∀(kV doc pm:Value)(an:Option Addr)(cdv ct:Value)(us:List Value),us.length=ps.length->bindArgs (PySem.W.fnOf x qual (dO st) (d9 st) (ax st) .none kV doc pm an cdv ct) ⟨us,[]⟩=pure (ps.zip us)):aJ K fd ps []:=by
 obtain⟨oc,od,kV,doc,pm,an,cdv,ct,osl,rfl,lk,hcd⟩:=F.ex;exact .all (h kV doc pm an cdv ct)
theorem EO{x qual:Str}{st:Stmt}{f:Addr}{oc:Value}{od an:Option Addr}{osl:Array (Option Value)}{kV doc pm cdv ct:Value}(l:K.lookup f=some ⟨oc,od,.func (PySem.W.fnOf x qual (dO st) (d9 st) (ax st) .none kV doc pm an cdv ct),osl⟩)
 (c:PySem.W.codeIn K cdv qual=true) (k:PySem.W.keepIn K (.ref f)=true):Fun K x qual st f (PySem.W.fnOf x qual (dO st) (d9 st) (ax st) .none kV doc pm an cdv ct):=⟨⟨oc,od,kV,doc,pm,an,cdv,ct,osl,U,l,c⟩,k⟩
end
section
variable {X:Cx}
end
theorem iJ{A B:Prop}(h:B):if false=true then A else B:=by
 rw[Qb qt];exact h
theorem oY{A B:Prop}(h:A):if true=true then A else B:=by
 rw[Qc U];exact h
theorem be{c A B:Prop}[Decidable c](h1:c->A)(h2:¬ c->B):if c then A else B:=by
 by_cases h:c
 .rw[Qc h];exact h1 h
 .rw[Qb h];exact h2 h
def aa(H H':Hp):Prop:=∀b o,H b=some o->H' b=some o
theorem aa.refl(H:Hp):aa H H:=λ_ _ h=>h
theorem aa.trans{H H1 H2:Hp}(a:aa H H1)(b:aa H1 H2):aa H H2:=λc o h=>b c o (a c o h)
theorem aa.seq{K:W.Frag}{H H':Hp}{a:Addr}{xs:List V}(e:aa H H')(h:SqL K H a xs):SqL K H' a xs:=by
 rcases h with(h|⟨o,h⟩)|h
 .exact .inl (.inl (e _ _ h))
 .exact .inl (.inr ⟨o,e _ _ h⟩)
 .exact .inr h
section
variable {X:Cx}
end
section
variable {κ:Type} [DecidableEq κ]
theorem rP{kvs:List (κ×V)}{k:κ}{v:V}(h:bn kvs k=some v):k∈kvs.map (·.1):=by
 have q:(kvs.any λkv=>decide (kv.1=k))=true:=by
  rw[i5,h]
  all_goals rfl
 obtain⟨p,hp,e⟩:=List.any_eq_true.mp q;exact List.mem_map.mpr ⟨p,hp,Qn e⟩
end
noncomputable def dX(cells:List (Str×Addr)):List (Str×NameKind)->List (Str×Addr)->List (Str×Addr)
 |[],acc=>acc
 |(n,k)::r,acc=>dX cells r (if k == .free then(match cells.lookup n with|some c=>(n,c)::acc|none=>acc)else acc)
theorem FF{scope:Scope}{env:Env}(h:∀y∈scope.names,y.2=.free->∃c,env.cells.lookup y.1=some c):closureFor scope env=pure (dX env.cells scope.names []):=by
 simp only[closureFor];generalize ([]:List (Str×Addr))=acc
 revert h
 generalize scope.names=l;intro h
 induction l generalizing acc with
 |nil=>simp[dX]
 |cons x r ih=>
  obtain⟨n,k⟩:=x;rw[List.forIn_cons];have hr:∀y∈r,y.2=NameKind.free->∃c,env.cells.lookup y.1=some c:=λy hy=>h y (qw _ hy);by_cases hk:k=.free
  .subst hk;obtain⟨c,e⟩:=h (n,.free) qy U;have e':List.lookup n env.cells=some c:=e;have e2:cellOf env n=pure c:=by unfold cellOf;rw[e']
   simp only[beq_self_eq_true,if_true,e2,pure_bind,dX,e'];exact ih _ hr
  .have hb:(k == NameKind.free)=false:=by simpa using hk
   simp only[hb,Qu,if_false,pure_bind,dX];exact ih _ hr
theorem wq(cells:List (Str×Addr)):∀(l:List (Str×NameKind))(acc:List (Str×Addr))(p:Str×Addr),p∈dX cells l acc->p∈acc\/(p.1,NameKind.free)∈l/\cells.lookup p.1=some p.2
 |[],_,_,h=>.inl h
 |(n,k)::r,acc,p,h=>by
  have h':p∈dX cells r (if k == .free then(match cells.lookup n with|some c=>(n,c)::acc|none=>acc)else acc):=h;rcases wq cells r _ p h' with q|⟨q1,q2⟩
  .by_cases hk:k=.free
   .subst hk;simp only[beq_self_eq_true,if_true]at q
    cases e:cells.lookup n with
    |none=>rw[e]at q;exact .inl q
    |some c=>
     rw[e]at q;rcases qF.mp q with rfl|q
     .exact .inr ⟨qy,e⟩
     .exact .inl q
   .have hb:(k == NameKind.free)=false:=by simpa using hk
    simp only[hb,Qu,if_false]at q;exact .inl q
  .exact .inr ⟨qw _ q1,q2⟩
theorem vJ{α β:Type}[BEq α][LawfulBEq α]{x:α}:∀{l:List (α×β)}{c:β},(x,c)∈l->∃d,l.lookup x=some d
 |(a,b)::r,c,h=>by
  by_cases e:x=a
  .subst e;exact⟨b,by simp⟩
  .rcases qF.mp h with q|q
   .cases q;exact Qf U e
   .obtain⟨d,hd⟩:=vJ q;refine⟨d,?_⟩;have e':(x == a)=false:=by simpa using e
    simp only[List.lookup_cons,e'];exact hd
theorem wt(cells:List (Str×Addr))(x:Str)(c:Addr)(e:cells.lookup x=some c):∀(l:List (Str×NameKind))(acc:List (Str×Addr)),((x,NameKind.free)∈l\/(x,c)∈acc)->(x,c)∈dX cells l acc
 |[],_,h=>h.elim (λq=>nomatch q) id
 |(n,k)::r,acc,h=>by
  refine wt cells x c e r _ ?_;rcases h with h|h
  .rcases qF.mp h with q|q
   .cases q;refine .inr ?_;rw[e];exact qy
   .exact .inl q
  .refine .inr ?_;by_cases hk:(k == NameKind.free)=true
   .rw[Qc hk]
    cases cells.lookup n with
    |none=>exact h
    |some _=>exact qw _ h
   .rw[Qb hk];exact h
theorem gx{cells:List (Str×Addr)}{names:List (Str×NameKind)}{x:Str}{c:Addr}(h:(dX cells names []).lookup x=some c):cells.lookup x=some c:=by
 have hm:=Qs h;rcases wq cells names [] _ hm with q|⟨_,q⟩
 .exact nomatch q
 .exact q
theorem wu{cells:List (Str×Addr)}{names:List (Str×NameKind)}{x:Str}{c:Addr}(hm:(x,NameKind.free)∈names)(e:cells.lookup x=some c):(dX cells names []).lookup x=some c:=by
 obtain⟨d,hd⟩:=vJ (wt cells x c e names [] (.inl hm));have:=gx hd;rw[e]at this;rw[hd,this]
theorem uu{scope:Scope}{env:Env}{x:Str}{k:NameKind}(h:(relabel scope env).names.lookup x=some k):∃k',scope.names.lookup x=some k'/\(k'=k\/(k'=.free/\k=.cell)):=by
 have go:∀(l:List (Str×NameKind)),(l.map λ(n,k)=>if(k == NameKind.free && env.scope.kind == .function && env.kindOf n == some .cell)then(n,NameKind.cell)else(n,k)).lookup x=some k->∃k',l.lookup x=some k'/\(k'=k\/(k'=.free/\k=.cell)):=by
  intro l
  induction l with
  |nil=>intro h;simp at h
  |cons p r ih=>
   obtain⟨n,kk⟩:=p;intro h;simp only[Q3]at h;by_cases hx:x=n
   .subst hx;by_cases hc:(kk == NameKind.free && env.scope.kind == .function && env.kindOf x == some .cell)=true
    .rw[Qc hc]at h;simp at h
     have:kk=.free:=by
      simp only[Bool.and_eq_true,beq_iff_eq]at hc;exact hc.1.1
     exact⟨kk,by simp,.inr ⟨this,h.symm⟩⟩
    .rw[Qb hc]at h;simp at h;exact⟨kk,by simp,.inl h⟩
   .have e':(x == n)=false:=by simpa using hx
    have:∀b:Bool,(if b=true then(n,NameKind.cell)else(n,kk)).1=n:=λb=>by cases b<;>rfl
    rw[List.lookup_cons,this,e']at h;obtain⟨k',h1,h2⟩:=ih h;exact⟨k',by rw[List.lookup_cons,e'];exact h1,h2⟩
 exact go scope.names h
theorem B9{scope:Scope}{env:Env}{x:Str}(h:scope.names.lookup x=some .free):(relabel scope env).names.lookup x=some .cell\/(relabel scope env).names.lookup x=some .free:=by
 have go:∀(l:List (Str×NameKind)),l.lookup x=some .free->(l.map λ(n,k)=>if(k == NameKind.free && env.scope.kind == .function && env.kindOf n == some .cell)then(n,NameKind.cell)else(n,k)).lookup x=some .cell\/(l.map λ(n,k)=>if(k == NameKind.free && env.scope.kind == .function && env.kindOf n == some .cell)then(n,NameKind.cell)else(n,k)).lookup x=some .free:=by
  intro l
  induction l with
  |nil=>intro h;simp at h
  |cons p r ih=>
   obtain⟨n,kk⟩:=p;intro h;simp only[Q3];by_cases hx:x=n
   .subst hx;simp at h;by_cases hc:(kk == NameKind.free && env.scope.kind == .function && env.kindOf x == some .cell)=true
    .rw[Qc hc];simp
    .rw[Qb hc];simp[h]
   .have e':(x == n)=false:=by simpa using hx
    have t:∀b:Bool,(if b=true then(n,NameKind.cell)else(n,kk)).1=n:=λb=>by cases b<;>rfl
    rw[List.lookup_cons,e']at h;rw[List.lookup_cons,t,e'];exact ih h
 exact go scope.names h
section
variable {prog:Program}{w:World}{A:Around}{R:Result->Shared->Prop}{s:Shared}
theorem FC{elt target iter:Expr}{ifs:List Expr}{scope:Scope}{pos:Pos}{it acc:Value}{env:Env}(I:Nat->Shared->Prop)
 (turn:∀n s,I n s->wpAny (model prog w) A (pyNext it) (λr s₁=>match r with
  |none=>R (.ok .next) s₁
  |some v=>wpAny (model prog w) A (letOwnedTupleGo target it v) (λ_ s₁'=>wpAny (model prog w) A (assign target env v) (λ_ s₂=>
   wpAny (model prog w) A (forIn ifs true λc r=>if r=true then do let ok <- isTrue c env (eval c env);pure (ForInStep.yield ok)else pure (ForInStep.yield r)) (λok s₃=>
    if ok=true then wpAny (model prog w) A (eval elt env) (λx s₄=>
     wpAny (model prog w) A (call (.builtin "list.append") [acc,x]) (λ_ s₅=>∃m,m<n/\I m s₅) (λ_ _=>False) s₄) (λ_ _=>False) s₃
    else ∃m,m<n/\I m s₃) (λ_ _=>False) s₂) (λ_ _=>False) s₁') (λ_ _=>False) s₁) (λ_ _=>False) s)
 (n:Nat) (h:I n s):
 codeAny (model prog w) A (.compLoop (.ListComp elt [⟨target,iter,ifs,0⟩] scope pos) 0 it acc env) R s:=by
 refine codeAny_loop U I (λn s hI=>?_) n h;show wpAny _ A ((compTurn (.ListComp elt [⟨target,iter,ifs,0⟩] scope pos) 0 it acc env).onRaise (λx=>do noteFrame x env;theTreesLotGoes x)) _ _ s;refine wpAny_noted ?_;rw[compTurn_list];refine qb (wpAny_standAt (qb (wpAny_mono (turn n s hI) (λr s₁ h₁=>?_) λ_ _ h'=>h'.elim)))
 cases r with
 |none=>exact qh h₁
 |some v=>
  refine qb (wpAny_mono h₁ (λ_ s₁' h₁'=>?_) λ_ _ h'=>h'.elim);refine qb (wpAny_mono h₁' (λ_ s₂ h₂=>qb (wpAny_mono h₂ (λok s₃ h₃=>?_) λ_ _ h'=>h'.elim)) λ_ _ h'=>h'.elim)
  cases ok with
  |false=>exact qh ⟨U,h₃⟩
  |true=>
   exact qb (qb (wpAny_mono h₃ (λx s₄ h₄=>qb (wpAny_mono h₄ (λ_ s₅ h₅=>qh (qh ⟨U,h₅⟩)) λ_ _ h'=>h'.elim)) λ_ _ h'=>h'.elim))
end
structure bM(esc:Scope)(N:List Str)(scope:Scope)(k:Nat)(Nc:List Str)(js:List Nat):Prop where
 kind:scope.kind=.function
 cell:∀y∈scope.names,y.2≠.cell
 names:∀y∈scope.names,y.2=.local->scope.names.lookup y.1=some .local
 free:∀y∈scope.names,y.2=.free->esc.names.lookup y.1=some .cell\/esc.names.lookup y.1=some .free
 len:Nc.length=k+js.length
 out:∀p∈(Nc.drop k).zip js,N[p.2]?=some p.1/\scope.names.lookup p.1=some .free
noncomputable def gU(k:Nat)(js:List Nat)(Y:St):St:=List.replicate k none++js.map λj=>(Y[j]?).join
noncomputable def Cx.comp(X:Cx)(pins:List (Addr×Obj))(Nc:List Str)(scope:Scope)(fp:List Addr)(s:Shared)(H:Hp)(C:Addr):Cx:=
 { X with N:=Nc,s₀:=s,H₀:=H,env:=compEnvC scope (dX X.env.cells scope.names []) C X.env,outer:=X.stack,stack:=X.stack,ex:=fp,fn:=λ_=>false,pn:=X.pn++pins,xe:=λ_ _=>False }
section
variable {X:Cx}{pins:List (Addr×Obj)}{Y:St}{H:Hp}{s:Shared}{scope:Scope}{Nc:List Str}{js:List Nat}{k:Nat}
theorem bM.some(S:bM X.env.scope X.N scope k Nc js)(I:Inv X pins Y H s):∀y∈scope.names,y.2=.free->∃c,X.env.cells.lookup y.1=some c:=λy hy hk=>I.ok.has y.1 (S.free y hy hk)
theorem bM.clos(S:bM X.env.scope X.N scope k Nc js)(I:Inv X pins Y H s):closureFor scope X.env=pure (dX X.env.cells scope.names []):=FF (S.some I)
theorem Fx(S:bM X.env.scope X.N scope k Nc js)(I:Inv X pins Y H s){fp:List Addr}(hf:∀b∈fp,cG X pins H b)(hlt:∀b∈fp,b<s.heap.objs.size){C:Addr}(hC:s.heap.objs.size<=C):(X.comp pins Nc scope fp s H C).Ok:=by
 have ltC:∀b,b<s.heap.objs.size->b≠C:=λb hb=>qQ (qN hb hC)
 have notstk:∀b∈fp,b∉frs X.stack:=λb hb z=>by
  rcases qF.mp (I.stkSub b z)with e|e
  .exact(hf b hb).2.1 e
  .exact(hf b hb).2.2.1 e
 refine⟨I.ok.mod,S.kind,I.ok.glob,I.ok.blt,hC,λx y c h1 h2=>I.ok.inj x y c (gx h1) (gx h2),λx hx=>?_,λx c h=>?_,I.ok.hd,I.ok.frames,.inl U,λb hb=>⟨?_,λx c e=>(hf b hb).2.2.2.2.1 x c (gx e)⟩,
  λb o e=>⟨(I.bs b o e).1,(I.bs b o e).2⟩,qJ I.ok.bsz I.sz,λb o e hb=>?_,notstk,I.stack,I.stkFree⟩
 .have hx':(relabel scope X.env).names.lookup x=some .cell\/(relabel scope X.env).names.lookup x=some .free:=hx
  have hfree:(x,NameKind.free)∈scope.names:=by
   rcases hx' with h|h
   .obtain⟨k',h1,h2⟩:=uu h;rcases h2 with rfl|⟨rfl,_⟩
    .exact Qf U (S.cell _ (Qs h1))
    .exact Qs h1
   .obtain⟨k',h1,h2⟩:=uu h;rcases h2 with rfl|⟨rfl,_⟩
    .exact Qs h1
    .exact Qs h1
  obtain⟨c,hc⟩:=S.some I (x,.free) hfree U;exact⟨c,wu hfree hc⟩
 .exact Qf (show false=true from h) qt
 .exact ltC b (hlt b hb)
 .rcases(hf b hb).2.2.2.1 with q|q
  .exact I.ok.noex b o e q
  .exact Qf (qN (qA e) (qJ I.ok.bsz q)) (Qm _)
theorem Fy(S:bM X.env.scope X.N scope k Nc js)(I:Inv X pins Y H s){fp:List Addr}(hf:∀b∈fp,cG X pins H b)(hlt:∀b∈fp,b<s.heap.objs.size){C:Addr}(hC:s.heap.objs.size<=C){s1:Shared}
 (os:s1.os=s.os) (bare:AllBare s1.gens) (kept:∀b o,s.heap.get? b=some o->s1.heap.get? b=some o) (ns:∃m,s1.heap.Ns C m):Inv (X.comp pins Nc scope fp s H C) [] (gU k js Y) H s1:=by
 have ltC:∀b,b<s.heap.objs.size->b≠C:=λb hb=>qQ (qN hb hC);refine⟨Fx S I hf hlt hC,os,bare,Un.kept kept,?_,λx c e=>?_,I.hok.fresh hC,λx c e=>I.freeC x c (gx e),λp hp=>?_,I.hok.kept kept,?_⟩
 .obtain⟨mc,hns⟩:=ns;refine⟨mc,hns,λi x v e1 e2 e3=>?_⟩;have e1':Nc[i]?=some x:=e1;by_cases hi:i<k
  .unfold gU at e2;rw[Qg (by simpa using hi),List.getElem?_replicate,Qc hi]at e2;cases e2
  .obtain⟨i',rfl⟩:∃i',i=k+i':=⟨i-k,Yo⟩;unfold gU at e2;rw[qV (by simp),List.length_replicate,Nat.add_sub_cancel_left,qO]at e2
   cases ej:js[i']? with
   |none=>rw[ej]at e2;cases e2
   |some j=>
    rw[ej]at e2;have e2':(Y[j]?).join=some v:=qT e2
    have e4:Y[j]?=some (some v):=by
     cases q:Y[j]? with
     |none=>rw[q]at e2';cases e2'
     |some z=>rw[q]at e2';cases z with
      |none=>cases e2'
      |some z=>cases e2';rfl
    have hm:(x,j)∈(Nc.drop k).zip js:=qK (i:=i') (List.getElem?_zip_eq_some.mpr ⟨by rw[List.getElem?_drop];exact e1',ej⟩);obtain⟨hN,hfr⟩:=S.out _ hm;have hfm:(x,NameKind.free)∈scope.names:=Qs hfr;have hk:=S.free _ hfm U;obtain⟨m,hn,hl⟩:=I.loc;obtain⟨u,r,l⟩:=hl j x v hN e4 (.inr hk);refine⟨u,r,?_⟩;rcases l with⟨hk',_⟩|⟨_,c,hc,o,ho,hd⟩
    .have hk'':X.env.scope.names.lookup x=some .local:=hk';rcases hk with hk|hk
     .rw[hk]at hk'';cases hk''
     .rw[hk]at hk'';cases hk''
    .exact .inr ⟨B9 hfr,c,wu hfm hc,o,kept _ _ ho,hd⟩
 .obtain⟨v,o,ho,hd⟩:=I.cell x c (gx e);exact⟨v,o,kept _ _ ho,hd⟩
 .have hp':p∈X.pn++pins:=by
   rcases qp.mp hp with z|z
   .exact z
   .exact nomatch z
  obtain⟨e,n,ne,nf,d⟩:=I.pin p hp';refine⟨kept _ _ e,n,ltC _ (qA e),λz=>?_,d⟩;rcases qF.mp (I.stkSub _ z)with q|q
  .exact ne q
  .exact nf q
 .show(gU k js Y).length=Nc.length;unfold gU;rw[qf,List.length_replicate,qc,S.len]
theorem FA(I:Inv X pins Y H s){fp:List Addr}(hf:∀b∈fp,cG X pins H b){C D:Addr}(hDs:s.heap.objs.size<=D){pins':List (Addr×Obj)}{Y':St}{H':Hp}{s':Shared}{ys:List V}{its:List Value}{n:Nat}
 (J:Inv (X.comp pins Nc scope fp s H C) pins' Y' H' s') (hD:H' D=none) (hz:ys.length<=sizeLine) (hv:aw ys its) (ho:s'.heap.get? D=some { cls:=.type "list",data:=.seq its.toArray n }):
 Inv X pins Y (upd H' D (.lst ys)) s':=by
 have B:Un (frs X.stack) fp H H' s.heap s'.heap:=J.base;have neD:∀b o,s.heap.get? b=some o->b≠D:=λb o e=>qQ (qN (qA e) hDs);refine I.call' (ch:=fp) J.os ⟨B.keep,B.slot,λb o e n hx=>?_,B.there,λb xs e=>?_,λb o u e=>?_,λb ps e=>?_⟩ (λb o e=>?_) J.bare λb hb=>⟨(hf b hb).2.2.2.1,(hf b hb).2.1,(hf b hb).2.2.2.2.1,(hf b hb).2.2.2.2.2⟩
 .rw[ae (neD b o e)];exact B.free b o e n hx
 .rw[ae (bW (B.tups b xs e) hD)];exact B.tups b xs e
 .rw[ae (bW (B.frzs b o u e) hD)];exact B.frzs b o u e
 .obtain⟨more,q⟩:=B.tbls b ps e;exact⟨more,by rw[ae (bW q hD)];exact q⟩
 .by_cases hb:b=D
  .subst hb;rw[ag]at e;cases e;exact⟨hz,its,n,hv,ho⟩
  .rw[ae hb]at e;exact(J.hok b o e).stay (λc v _ q=>q) (λc q=>by rw[ae (bW q hD)];exact q) λc xs q=>by rw[ae (bW q hD)];exact q
end
def PTs(X0:Cx)(ifs:List Expr)(t:TT):Prop:=
 ∀(pins:List (Addr×Obj))(s:Shared)(Y:St)(H:Hp)(Q:Bool->Hp->Prop),Inv X0 pins Y H s->t Y H Q->
  wpAny (model X0.prog X0.w) X0.A (forIn ifs true λc r=>if r=true then do let ok <- isTrue c X0.env (eval c X0.env);pure (ForInStep.yield ok)else pure (ForInStep.yield r)) (TP X0 pins Y Q) X0.xe s
def jS:TT:=λ_ H Q=>Q true H
theorem ip{X0:Cx}:PTs X0 [] jS:=λ_ _ _ H _ I h=>wpAny_tests_nil ⟨H,I,h⟩
theorem kH{X0:Cx}{c:Expr}{t:TT}(h:PT X0 c t):PTs X0 [c] t:=λpins s Y H Q I hq=>wpAny_tests_one (h pins s Y H Q I hq)
def iR(J:It)(g:TG)(tt:TT)(te:TE)(Fin:List V->Hp->Prop)(W:Nat->Nat->List V->St->Hp->Prop):Prop:=
 ∀i m ys Y H,W i m ys Y H->(J.stop i H/\ys.length<=sizeLine/\Fin ys H)\/(J.go i H/\ys.length<sizeLine/\∃N:List V->St->Hp->Prop,(∀ys' Y' H',N ys' Y' H'->∃m',m'<m/\W (i+1) m' ys' Y' H') /\
  ∀x H',J.yld i H x H'->g x Y H' λY2 H2=>tt Y2 H2 λb H3=>if b=true then te Y2 H3 λy H4=>N (ys++[y]) Y2 H4 else N ys Y2 H3)
section
variable {X:Cx}{pins:List (Addr×Obj)}{Y:St}{H:Hp}{s:Shared}{scope:Scope}{Nc:List Str}{js:List Nat}{k:Nat}{tg iter elt:Expr}{ifs:List Expr}{pos:Pos}{g:TG}{tt:TT}{te:TE}
theorem wX{J:It}{fp:List Addr}{it:Addr}{tn:Nat->Heap->Prop}{Fin:List V->Hp->Prop}{W:Nat->Nat->List V->St->Hp->Prop}{RR:Value->Addr->Result->Shared->Prop}{E:Yq}{m0:Nat}
 (S:bM X.env.scope X.N scope k Nc js) (hc:X.calm=true) (I:Inv X pins Y H s) (T:gZ X.prog X.w X.K tg J fp it tn) (st:tn 0 s.heap) (hf:∀b∈fp,cG X pins H b)
 (hg:∀pins fp s H C,PG (X.comp pins Nc scope fp s H C) tg g) (ht:∀pins fp s H C,PTs (X.comp pins Nc scope fp s H C) ifs tt) (he:∀pins fp s H C,PE (X.comp pins Nc scope fp s H C) elt te)
 (w0:W 0 m0 [] (gU k js Y) H) (turn:iR J g tt te Fin W)
 (hRR:∀D C s' ys H',Inv X pins Y (upd H' D (.lst ys)) s'->cG X pins (upd H' D (.lst ys)) C->(∃m,s'.heap.Ns C m)->H' D=none->Fin ys H'->RR (.ref D) C (.ok .next) s'):
 wpAny (model X.prog X.w) X.A (newList []) (λacc s₃=>wpAny (model X.prog X.w) X.A (newFunctionEnv scope X.env.globals (dX X.env.cells scope.names []) [] X.env.qual none .none (some X.env)) (λcenv s₄=>
  codeAny (model X.prog X.w) X.A (.compStart (.ListComp elt [⟨tg,iter,ifs,0⟩] scope pos) 0 (.ref it) acc { cenv with scope:=relabel scope X.env }) (RR acc cenv.locals) s₄) E s₃) E s:=by
 refine wpAny_newObj_type (wpAny_newFunctionEnv S.cell (by intro y hy;simp at hy) (λh₁ hns₁ hsb₁=>?_) S.kind);dsimp only at hns₁ hsb₁ ⊢;generalize hH2:s.heap.push { cls:=.type "list",dict:=none,data:=.seq ([]:List Value).toArray }=H2 at hns₁ hsb₁ ⊢;have hC:H2.objs.size=s.heap.objs.size+1:=by rw[<- hH2,Qq]
 have hCle:s.heap.objs.size<=H2.objs.size:=by rw[hC];exact Nat.le_succ _
 have hDC:s.heap.objs.size≠H2.objs.size:=by rw[hC];exact qQ (Ql _)
 have old:∀b o,s.heap.get? b=some o->h₁.get? b=some o:=λb o e=>
  hsb₁.extBut b o (qQ (qN (qA e) hCle)) (qe _ (hH2▸qe _ e))
 have hacc:h₁.get? s.heap.objs.size=some { cls:=.type "list",data:=.seq ([]:List Value).toArray 0 }:=hsb₁.extBut _ _ hDC (qe _ (hH2▸qz _ U));have hob:∀b∈fp,∃o,s.heap.get? b=some o:=λb hb=>let ⟨o,e,_⟩:=T.obj 0 _ st b hb;⟨o,e⟩;have hlt:∀b∈fp,b<s.heap.objs.size:=λb hb=>let ⟨_,e⟩:=hob b hb;qA e
 have notstk:∀b∈fp,b∉frs X.stack:=λb hb z=>by
  rcases qF.mp (I.stkSub b z)with e|e
  .exact(hf b hb).2.1 e
  .exact(hf b hb).2.2.1 e
 have hDstk:s.heap.objs.size∉frs X.stack:=λz=>by
  rcases qF.mp (I.stkSub _ z)with e|e
  .have:=I.lt;rw[<- e]at this;exact Qm _ this
  .exact I.nofs (qi _) e
 let dpin:List Value->Nat->List (Addr×Obj):=λits n=>[(s.heap.objs.size,{ cls:=.type "list",data:=.seq its.toArray n })]
 have fpok:∀{H':Hp}{its:List Value}{n:Nat},(∀b∈fp,H' b=none)->∀b∈fp,cG (X.comp pins Nc scope fp s H H2.objs.size) (dpin its n) H' b:=λ{H' its n} hn b hb=>
  ⟨hn b hb,qQ (qN (hlt b hb) hCle),notstk b hb,.inl hb,λx c e=>(hf b hb).2.2.2.2.1 x c (gx e),λp hp z=>by
   rcases qp.mp hp with q|q
   .exact(hf b hb).2.2.2.2.2 p q z
   .have e:p=(s.heap.objs.size,_):=Q4.mp q;rw[e]at z
    exact Qf (hlt b hb) (by rw[<- z];exact Qm _)⟩
 have loop:∀s₃:Shared,s₃={ s with heap:=h₁,toks:=s.toks+([]:List (Str×Value)).length }->
  codeAny (model X.prog X.w) X.A (.compLoop (.ListComp elt [⟨tg,iter,ifs,0⟩] scope pos) 0 (.ref it) (.ref s.heap.objs.size) (compEnvC scope (dX X.env.cells scope.names []) H2.objs.size X.env)) (RR (.ref s.heap.objs.size) H2.objs.size) s₃:=by
  rintro s₃ rfl
  refine FC (λn s'=>∃i ys its nn Yc H',Inv (X.comp pins Nc scope fp s H H2.objs.size) [] Yc H' s'/\tn i s'.heap/\(∀b∈fp,H' b=none)/\H' s.heap.objs.size=none/\aw ys its /\
   s'.heap.get? s.heap.objs.size=some { cls:=.type "list",data:=.seq its.toArray nn }/\W i n ys Yc H') ?_ m0 ?_
  .rintro n s3 ⟨i,ys,its,nn,Y3,H3,I3,st3,fr3,hD3,hv3,ho3,w3⟩
   have I3':Inv (X.comp pins Nc scope fp s H H2.objs.size) (dpin its nn) Y3 H3 s3:=I3.pins_of λp hp=>by
    have e:p=(s.heap.objs.size,_):=Q4.mp hp;subst e;exact⟨ho3,hD3,hDC,hDstk,λv z=>by cases z⟩
   rcases turn i n ys Y3 H3 w3 with⟨stop,hz,fin⟩|⟨go,hz,N,hN,step⟩
   .refine thn (T.done (X.comp pins Nc scope fp s H H2.objs.size) U U U hc i (dpin its nn) s3 Y3 H3 (λ_ _=>False) I3' (fpok fr3) st3 stop) λr s4 ⟨hr,I4⟩=>?_;subst hr;have ho4:=(I4.pin _ (qS _ (Q4.mpr U))).1;obtain⟨m4,hn4,_⟩:=I4.loc;refine hRR _ _ s4 ys H3 (FA I hf (qi _) I4 hD3 hz hv3 ho4) (I.fpOk hCle ?_) ⟨m4,hn4⟩ hD3 fin;rw[ae (Ne.symm hDC)];exact I4.free
   .refine thn (T.item (X.comp pins Nc scope fp s H H2.objs.size) U U U hc i (dpin its nn) s3 Y3 H3 (λ_ _=>False) I3' (fpok fr3) st3 go) λr s4 ⟨u,hr,h4⟩=>?_;subst hr;refine thn h4 λ_ s5 ⟨x,H5,I5,r5,y5,st5,fr5⟩=>?_;have I5':=I5.pinned (fpok fr5) (T.obj _ _ st5);refine thn (hg pins fp s H H2.objs.size _ s5 Y3 H5 x u _ I5' r5 (step x H5 y5)) λ_ s6 ⟨Y6,H6,I6,q6⟩=>?_;refine thn (ht pins fp s H H2.objs.size _ s6 Y6 H6 _ I6 q6) λok s7 ⟨H7,I7,q7⟩=>?_
    have keepIt:∀{Y':St}{H':Hp}{s':Shared},Inv (X.comp pins Nc scope fp s H H2.objs.size) (dpin its nn++jh fp s5.heap) Y' H' s'->
     s'.heap.get? s.heap.objs.size=some { cls:=.type "list",data:=.seq its.toArray nn }/\H' s.heap.objs.size=none/\(∀b∈fp,H' b=none)/\(∀b∈fp,∀o,s5.heap.get? b=some o->s'.heap.get? b=some o):=λ{Y' H' s'} J=>by
     have p1:=J.pin (s.heap.objs.size,_) (qS _ (Q7 _ (Q4.mpr U)));refine⟨p1.1,p1.2.1,λb hb=>?_,λb hb o e=>(J.pin (b,o) (qS _ (qS _ (kQ hb e)))).1⟩;obtain⟨o,e,_⟩:=T.obj _ _ st5 b hb;exact(J.pin (b,o) (qS _ (qS _ (kQ hb e)))).2.1
    cases ok with
    |true=>
     rw[Qc U]at q7 ⊢;refine thn (he pins fp s H H2.objs.size _ s7 Y6 H7 _ I7 q7) λy s8 ⟨v,H8,I8,r8,q8⟩=>?_;obtain⟨ho8,hD8,fr8,k8⟩:=keepIt I8;refine append_at (hsz:=by have:=hv3.length;show its.toArray.size<=sizeLine;rw[qM,<- this];exact Nat.le_of_lt hz) ho8 λh9 hs9 ho9=>?_;obtain⟨m',hm',w9⟩:=hN _ _ _ q8;have I8u:Inv (X.comp pins Nc scope fp s H H2.objs.size) [] Y6 H8 s8:=I8.pins_of λp hp=>nomatch hp
     have I9:Inv (X.comp pins Nc scope fp s H H2.objs.size) [] Y6 H8 { s8 with heap:=h9 }:=I8u.turned (t':=s8.toks) (it:=s.heap.objs.size) (λb o hb e=>(hs9.2 b hb).trans e) hD8 hDC (.inr (qi _)) (λx c e z=>by
      obtain⟨v,q⟩:=I.cell x c (gx e)
      exact Qf q.lt (by rw[z];exact Qm _)) λp hp z=>by
       have hp':p∈X.pn++pins:=by
        rcases qp.mp hp with q|q
        .exact q
        .exact nomatch q
       exact Qf (qA (I.pin p hp').1) (by rw[z];exact Qm _)
     refine⟨m',hm',i+1,ys++[v],its++[y],nn+1,Y6,H8,I9,T.keep _ _ _ st5 λb hb o e=>(hs9.2 b (qQ (hlt b hb))).trans (k8 b hb o e),fr8,hD8,hv3.append (.cons r8 .nil),?_,w9⟩;show h9.get? s.heap.objs.size=_;rw[ho9];simp
    |false=>
     rw[Qb qt]at q7 ⊢;obtain⟨ho8,hD8,fr8,k8⟩:=keepIt I7;obtain⟨m',hm',w9⟩:=hN _ _ _ q7;exact⟨m',hm',i+1,ys,its,nn,Y6,H7,I7.pins_of λp hp=>(nomatch hp),T.keep _ _ _ st5 k8,fr8,hD8,hv3,ho8,w9⟩
  .exact⟨0,[],[],0,_,H,Fy S I hf hlt hCle U I.bare old ⟨_,hns₁⟩,T.keep _ _ _ st λb _ o e=>old b o e,λb hb=>(hf b hb).1,I.hok.fresh (qi _),.nil,hacc,w0⟩
 exact codeAny_compStart_list (loop _ U) (T.self X.A 0 _ _ _ (T.keep _ _ _ st λb _ o e=>old b o e) (loop _ U))
def rZ(wi:TI)(k:Nat)(js:List Nat)(g:TG)(tt:TT)(te:TE):TE:=λY H Q=>wi Y H λJ H1=>∃W:Nat->Nat->List V->St->Hp->Prop,(∃m,W 0 m [] (gU k js Y) H1) /\
 iR J g tt te (λys H=>∀D,H D=none->Q (.ref D) (upd H D (.lst ys))) W
theorem iA{wi:TI}(S:bM X.env.scope X.N scope k Nc js)(hc:X.calm=true)(hi:PI X tg iter wi)
 (hg:∀pins fp s H C,PG (X.comp pins Nc scope fp s H C) tg g) (ht:∀pins fp s H C,PTs (X.comp pins Nc scope fp s H C) ifs tt) (he:∀pins fp s H C,PE (X.comp pins Nc scope fp s H C) elt te)
 (hs:∀x,foldedSetIterable iter X.env x=pure x:=by intro _;rfl):PE X (.ListComp elt [⟨tg,iter,ifs,0⟩] scope pos) (rZ wi k js g tt te):=by
 intro pins s Y H Q I h;rw[eval_ListComp];refine wpAny_comprehension_free (use:=none) U hs (S.clos I) S.kind S.names (thn (hi pins s Y H _ I h) λxv s1 h1=>thn h1 λitv s2 h2=>?_);obtain⟨it,fp,tn,J,H2,e,I2,T,st2,f2,W,⟨m0,w0⟩,turn⟩:=h2;subst e;refine wX (RR:=λacc C=>compPost (model X.prog X.w) X.A X.xe none (EP X pins Y Q) acc C) S hc I2 T st2 f2 hg ht he w0 turn λD C s' ys H' I' fC ns hD fin=>?_;obtain⟨m,hn⟩:=ns;exact⟨m,hn,λh' hs'=>⟨.ref D,_,I'.turned (t':=s'.toks) (λb o hb e=>(hs'.2 b hb).trans e) fC.1 fC.2.1 fC.2.2.2.1 fC.2.2.2.2.1 fC.2.2.2.2.2,U,fin D hD⟩⟩
theorem kI{wi:TI}{i:Nat}{x:Str}{px spos:Pos}(hN:X.N.Nodup)(hi':X.N[i]?=some x)(hx:Loc X.env.scope x)(S:bM X.env.scope X.N scope k Nc js)(hc:X.calm=true)(hi:PI X tg iter wi)
 (hg:∀pins fp s H C,PG (X.comp pins Nc scope fp s H C) tg g) (ht:∀pins fp s H C,PTs (X.comp pins Nc scope fp s H C) ifs tt) (he:∀pins fp s H C,PE (X.comp pins Nc scope fp s H C) elt te)
 (hsw:swapsWith (.ListComp elt [⟨tg,iter,ifs,0⟩] scope pos) (some (.Name x px)) spos.line X.env=pure true:=by rfl)
 (hs:∀x,foldedSetIterable iter X.env x=pure x:=by intro _;rfl) (hf:X.fn x=true\/X.env.scope.names.lookup x=some .local:=by first|exact .inl U|exact .inr U|assumption):
 PS X (.Assign [.Name x px] (.ListComp elt [⟨tg,iter,ifs,0⟩] scope pos) spos) (lH (rZ wi k js g tt te) (dL i)):=by
 intro pins s Y H D I h;rw[exec_Assign_Name_used _ _ _ _ hsw];refine qb (wpAny_standAt (qb ?_));show wpAny _ X.A (do let _ <- comprehension (.ListComp elt [⟨tg,iter,ifs,0⟩] scope pos) scope X.env _ (newList []) false (eval iter X.env) (some (assign (.Name x px) X.env))) _ _ s
 refine qb (wpAny_mono (wpAny_comprehension_free (use:=some (assign (.Name x px) X.env)) (Q:=λ_ s'=>SP X pins D .next s') U hs (S.clos I) S.kind S.names
  (thn (hi pins s Y H _ I h) λxv s1 h1=>thn h1 λitv s2 h2=>?_)) (λ_ s' hq=>qh (qh hq)) λ_ _ e=>e)
 obtain⟨it,fp,tn,J,H2,e,I2,T,st2,f2,W,⟨m0,w0⟩,turn⟩:=h2;subst e;refine wX (RR:=λacc C=>compPost (model X.prog X.w) X.A X.xe (some (assign (.Name x px) X.env)) (λ_ s'=>SP X pins D .next s') acc C) S hc I2 T st2 f2 hg ht he w0 turn λA C s' ys H' I' fC ns hD fin=>?_;obtain⟨m,hn⟩:=ns;show wpAny _ X.A (assign (.Name x px) X.env (.ref A)) _ _ _;refine wpAny_assign_Name (sx I' hN hi' hx (v:=.ref A) U (λs'' I'' ⟨a,sb,ha⟩=>?_) hf)
 have hCa:C≠a:=by
  rcases ha with ha|ha
  .rw[ha];exact fC.2.1
  .exact λz=>fC.2.2.2.2.1 x a ha z.symm
 exact⟨m,hn.sameBut sb hCa,λh' hs'=>⟨_,_,I''.turned (t':=s''.toks) (λb o hb e=>(hs'.2 b hb).trans e) fC.1 fC.2.1 fC.2.2.2.1 fC.2.2.2.2.1 fC.2.2.2.2.2,fin A hD⟩⟩
end
section
variable {X:Cx}{tg:Expr}
def Be:V->Option Int->Option Int->Hp->VK->Prop:=λx lo hi H Q=>∃z,x=.str z/\z.length<=sizeLine/\Q (.str (Txt.slice z lo hi)) H
theorem iX:SlR X Be:=by
 intro pins s Y H x v vl vu lo hi sl Q I rx hs pl pu h;obtain⟨z,rfl,hz,q⟩:=h;obtain⟨t,rfl⟩:=rx;refine⟨"str",_,PySem.F.slot_str_getitem.lookup,typeIs_str _ _ _,?_⟩;have fin:∀t' k,EP X pins Y Q (.str (Txt.slice z lo hi) t') { s with toks:=k }:=λt' k=>⟨.str _,H,I.tok k,⟨t',U⟩,q⟩
 cases pl with
 |none=>
  cases pu with
  |none=>exact wpAny_getItem_str_slice (l:=none) (u:=none) (st:=none) hs U (post_val_or_str ⟨qJ (Txt.slice_le z _ _) hz,fin⟩)
  |int j tj=>exact wpAny_getItem_str_slice (l:=none) (u:=some (j,tj)) (st:=none) hs U (post_val_or_str ⟨qJ (Txt.slice_le z _ _) hz,fin⟩)
 |int i ti=>
  cases pu with
  |none=>exact wpAny_getItem_str_slice (l:=some (i,ti)) (u:=none) (st:=none) hs U (post_val_or_str ⟨qJ (Txt.slice_le z _ _) hz,fin⟩)
  |int j tj=>exact wpAny_getItem_str_slice (l:=some (i,ti)) (u:=some (j,tj)) (st:=none) hs U (post_val_or_str ⟨qJ (Txt.slice_le z _ _) hz,fin⟩)
theorem Ct:OpR X (binaryOp .Mult) (rI IntMulOk λi j=>.int (i * j)):=opI λ_ _ _ _ _ _ _ hc q=>mul_int q hc
theorem FQ:cJ X (.builtin "isinstance") (λxs H Q=>∃x t T b,xs=[x,.ty T]/\e5 X.K H x t/\PySem.W.kitOne X.K t (.type T)=some b/\Q (.bl b) H):=by
 intro pins s Y H xs us Q I r h;obtain⟨x,t,T,b,rfl,ty,e,q⟩:=h;obtain⟨u,c,rfl,ru,rc⟩:=gB r;have ec:c=.type T:=rc;subst ec;exact Eu I ru ty e λtk=>⟨.bl b,H,I.tok tk,U,q⟩
def Br(K:W.Frag):R2:=λx y H Q=>∃l b xs zs,x=.ref l/\y=.ref b/\SqL K H l xs/\SqL K H b zs/\xs.length+zs.length<=sizeLine/\∀p,H p=none->Q (.ref p) (upd H p (.lst (xs++zs)))
theorem CF:OpR X (binaryOp .Add) (Br X.K):=by
 intro pins s Y H x y v u Q I rx ry h;obtain⟨l,b,xs,zs,rfl,rfl,hH,hB,hz,q⟩:=h;cases rx;cases ry;obtain⟨its,r,pl,z1⟩:=I.list hH;obtain⟨its2,r2,pl2,z2⟩:=I.list hB;have hl1:=r.length;have hl2:=r2.length;obtain⟨⟨cls,dd,data,sl⟩,n,ho,hc,_,hd⟩:=pl;obtain⟨⟨cls2,dd2,data2,sl2⟩,n2,ho2,hc2,_,hd2⟩:=pl2;simp only at hc hd hc2 hd2;subst hc hd hc2 hd2;refine concat_meets ⟨_,ho,U⟩ ⟨_,ho2,U⟩ noFill_list_add seq_list_add PySem.F.slot_list_add PySem.F.entry_list_add (PySem.F.args_list_add_2 _ _) (list_addW l b its.toArray its2.toArray n n2 dd dd2 sl sl2 (by rw[qM,qM];omega)) ⟨ho,ho2,?_⟩;have ea:its.toArray++its2.toArray=(its++its2).toArray:=by simp
 rw[ea];exact⟨.ref _,_,I.lnew (t':=s.toks) (r.append r2) (by rw[qf];omega),U,q _ I.fresh⟩
end
section
variable {X:Cx}
end
theorem xJ{te:TE}{N N':V->St->Hp->Prop}{M:St->Hp->Prop}:(λ(Y2:St)(H2:Hp)=>jS Y2 H2 λb H3=>if b=true then te Y2 H3 λy H4=>N y Y2 H4 else M Y2 H3)=λY2 H2=>te Y2 H2 λy H4=>N y Y2 H4:=by
 funext Y2 H2
 unfold jS;dsimp only;rw[Qc U]
noncomputable def pK(e:Expr):Option V:=match e with
 |.Constant (.str x) _ _=>some (.str x)
 |.Constant (.int i) _ _=>some (.int i)
 |.Constant (.bool b) _ _=>some (.bl b)
 |.Constant .none _ _=>some .non
 |_=>none
noncomputable def pJ:List Expr->Option (List V)
 |[]=>some []
 |e::es=>match pK e,pJ es with
  |some v,some vs=>some (v::vs)
  |_,_=>none
def yE(vs:List V):TA:=λ_ H Q=>Q vs H
theorem Cd{X:Cx}{e:Expr}{v:V}(h:pK e=some v):PE X e (tC v)/\∀es,starEach (e::es) X.env=(false,eval e X.env)::starEach es X.env:=by
 unfold pK at h;split at h
 .cases h;exact⟨aP,λ_=>U⟩
 .cases h;exact⟨ac,λ_=>U⟩
 .cases h;exact⟨bZ,λ_=>U⟩
 .cases h;exact⟨cr,λ_=>U⟩
 .cases h
theorem kL{X:Cx}:∀{es:List Expr}{vs:List V},pJ es=some vs->PA X es (yE vs)
 |[],vs,h=>by cases h;exact af
 |e::es,vs,h=>by
  unfold pJ at h;split at h
  .rename_i v ws h1 h2;cases h;obtain⟨p,s⟩:=Cd (X:=X) h1;exact a9 p (kL h2) (s es)
  .cases h
section
variable {X:Cx}
theorem DB:OpR X (binaryOp .Add) (λx y H Q=>∃i j,x=.int i/\y=.int j/\Q (.int (i+j)) H):=CI
theorem Dq:OpR X (binaryOp .Sub) (λx y H Q=>∃i j,x=.int i/\y=.int j/\Q (.int (i-j)) H):=Ck
theorem dU:OpR X (binaryOp .Mult) (λx y H Q=>∃i j,x=.int i/\y=.int j/\IntMulOk i j/\Q (.int (i * j)) H):=Ct
theorem Dz:OpR X (binaryOp .FloorDiv) (λx y H Q=>∃i j,x=.int i/\y=.int j/\(0<j/\j<1073741824)/\Q (.int (i / j)) H):=CC
theorem Ds:OpR X (binaryOp .Mod) (λx y H Q=>∃i j,x=.int i/\y=.int j/\0<j/\Q (.int (i % j)) H):=Cu
theorem kP:OpR X (binaryOp .Pow) (λx y H Q=>∃i j,x=.int i/\y=.int j/\(0<=j/\j<=1000000/\i.natAbs<2 ^ 64)/\Q (.int (i ^ j.toNat)) H):=Cm
theorem Du:OpR X (compareOp .Lt) (λx y H Q=>∃i j,x=.int i/\y=.int j/\Q (.bl (decide (i<j))) H):=Cv
theorem Dv:OpR X (compareOp .LtE) (λx y H Q=>∃i j,x=.int i/\y=.int j/\Q (.bl (decide (i<=j))) H):=Cw
theorem Dw:OpR X (compareOp .Gt) (λx y H Q=>∃i j,x=.int i/\y=.int j/\Q (.bl (decide (j<i))) H):=CA
theorem Dx:OpR X (compareOp .GtE) (λx y H Q=>∃i j,x=.int i/\y=.int j/\Q (.bl (decide (j<=i))) H):=CB
end
end L2
namespace Att
open PySem PySem.W PySem.Calls PyProof.Rows
theorem Ak{ns:List Int}(h:WData.layableAll [WData.list (ns.map WData.int)]=true):∀n∈ns,Builtin.Int.intBits n<=2 ^ 20:=λn hn=>by
 have h1:=layableW_arg h _ (Q4.mpr U);have h2:=layableW_item h1 (WData.int n) (List.mem_map.mpr ⟨n,hn,U⟩);exact PyData.bits_of_layable (layable0_of_all (lay0_int h2))
theorem attach_callB{l:OpenLaw}{n:Nat}{q:Program}{loose:List Str}{XP:(Str->Option Value)->Heap->Prop}{YP:World->Heap->Prop}{d:DefRec}
 (hn:l.most=some n) (hdf:d.params.defaults=[])
 (call:∀(w:World)(s₀ s₁:Shared)(mg mb:Str->Option Value)(fa:Addr)(o:Obj)(pm cd doc:Value)(a:Addr)(vs:List Value)(ns:List Int),
  Ground q loose [] XP w s₀ mg mb s₁.heap->YP w s₁.heap->
  s₁.heap.get? fa=some o->o.data=.func (docDef d.name d.params d.body d.scope pm cd doc)->s₁.heap.CodeRec cd d.name->mg d.name=some (.ref fa)->
  s₁.heap.get? a=some { cls:=.type "list",data:=.seq vs.toArray }->IntsAre vs ns->ns.length<=n->(∀k∈ns,Builtin.Int.intBits k<=2 ^ 20)->s₁.gens=#[]->
  codeAny (model l.prog w) callerA (.call (.ref fa) ⟨[.ref a],[]⟩) (λr s'=>r=.ok (.ret (.bool true))/\OldK s₁.heap s'.heap/\s'.os=s₁.os/\AllBare s'.gens) s₁):
 WalkO q loose XP YP l.row.toRowW d [] (λf vs=>PySem.call f vs):=by
 intro w s₀ s₁ mg mb G X0 fa o pm cd doc dV kV ho hd hcd hD hmg hg args vals as hpre hlay hrd hwl hlo;obtain rfl:dV=.none:=Dflts.none hD hdf;obtain rfl:kV=.none:=Dflts.noKw hD;obtain⟨a,vs,ns,rfl,rfl,hobj,hints,hlen⟩:=Aj hn hpre hwl;refine enter_call (codeAny_mono (call w s₀ s₁ mg mb fa o pm cd doc a vs ns G X0 ho (fd_plain hd) hcd hmg hobj hints hlen (Ak hlay) hg) λr s' hq=>?_);obtain⟨rfl,h2,h3,h4⟩:=hq;exact⟨.inl ⟨.bool true,.bool true,[],U,λ_=>U,.bool true,BM l _,λ_=>⟨List.Pairwise.nil,λ_ hm=>(nomatch hm)⟩⟩,h2,h3,h4⟩
end Att
namespace L2
open PySem PySem.Spec PyProof.Rows
theorem ye{l:PySem.W.OpenLaw}{n k:Nat}{q:Program}{loose:List Str}{XP:(Str->Option Value)->Heap->Prop}{YP:World->Heap->Prop}{d:DefRec}{K:Params->PySem.W.Frag}{CX:World->CXT}{sp:World->Sp}{x:Str}
 (hn:l.most=some n) (hn2:n<=sizeLine) (hdf:d.params.defaults=[]) (hr:bG k callerA)
 (hY:∀(w:World)(h:Heap),YP w h->(K w.params).In h)
 (F:∀(w:World)(mg:Str->Option Value)(fa:Addr)(h:Heap),(K w.params).In h->h.Ns mainGlobals mg->mg d.name=some (.ref fa)->
  ∃fd:FuncData,(∀(s:Shared)(u:Value),BindsTo s fd ⟨[u],[]⟩ [(x,u)]) /\
   ∀base:Heap,(K w.params).In base->base.Ns mainGlobals mg->aB l.prog w (K w.params) mg base (CX w) k fa fd [x] (sp w))
 (hsp:∀(w:World)(H:Hp)(a:Addr)(ns:List Int),ns.length<=n->(∀k∈ns,Builtin.Int.intBits k<=2 ^ 20)->lA H->SqL (K w.params) H a (ns.map V.int)->sp w [.ref a] H (λv _=>v=.bl true) λ_ _ _=>False)
 (hCX:∀(w:World)(H:Hp)(s:Shared)(e:Value)(s':Shared),CX w [] H s (λ_ _ _=>False) e s'->False):
 PySem.W.WalkO q loose XP YP l.row.toRowW d [] (λf vs=>PySem.call f vs):=by
 refine Att.attach_callB hn hdf λw s₀ s₁ mg mb fa o pm cd doc a vs ns G X0 ho hd hcd hmg hobj hints hlen hbits hg=>?_;have KX:=hY w _ X0;obtain⟨fd,hb,hF⟩:=F w mg fa _ KX G.T.g hmg;exact Ea KX G.T.g G.T.b G.T.builtins G.T.nolimit hg hobj hints (qJ hlen hn2) hr hF hb (λH hO hS=>hsp w H a ns hlen hbits hO hS) λH e s'=>hCX w H s₁ e s'
theorem aa.new{H:Hp}{p:Addr}(h:H p=none)(o:HO):aa H (upd H p o):=λb u q=>by rw[ae (bW q h)];exact q
theorem aR{n m:Nat}(h:n<=m)(hm:m<=1000000:=by decide):n<=sizeLine:=qJ h (qJ hm (by rw[sizeLine_eq];decide))
theorem ba(x y:Str):(x++y).length=x.length+y.length:=strLen_append x y
theorem kX{L Pc c A B:Prop}{inst:Decidable c}(hw:¬ c->Pc)(rest:Pc->L)(h:c->(Pc->L)->A)(e:B=L:=by rfl):@ite Prop c inst A B:=by
 subst e;by_cases hc:c
 .rw[Qc hc];exact h hc rest
 .rw[Qb hc];exact rest (hw hc)
theorem kR{i:Int}(h:i.natAbs<2 ^ 1000):i.natAbs.log2<1920:=by
 by_cases h0:i.natAbs=0
 .rw[h0];decide
 .exact Nat.lt_trans ((Nat.log2_lt h0).mpr h) Yk
theorem vo{i:Int}(h:i.natAbs<2 ^ 1000):(Str.ofString (toString i)).length<=1921:=int_text_len_1921 (kR h)
def SIt(h:Heap):Bool->Addr->Addr->Nat->Prop
 |false,it,l,k=>h.IsListIter it l k
 |true,it,l,k=>h.IsTupleIter it l k
def SSq(h:Heap):Bool->Addr->Array Value->Prop
 |false,l,xs=>h.IsList l xs
 |true,l,xs=>h.IsTuple l xs
theorem SIt.obj{h:Heap}:∀{b:Bool}{it l:Addr}{k:Nat},SIt h b it l k->∃o,h.get? it=some o/\∃vs,o.data=.fields vs
 |false,_,_,_,⟨o,e,_,d⟩=>⟨o,e,_,d⟩
 |true,_,_,_,⟨o,e,_,d⟩=>⟨o,e,_,d⟩
theorem SIt.keep{h h':Heap}:∀{b:Bool}{it l:Addr}{k:Nat},SIt h b it l k->(∀o,h.get? it=some o->h'.get? it=some o)->SIt h' b it l k
 |false,_,_,_,⟨o,e,r⟩,f=>⟨o,f o e,r⟩
 |true,_,_,_,⟨o,e,r⟩,f=>⟨o,f o e,r⟩
theorem SSq.keep{h h':Heap}:∀{b:Bool}{l:Addr}{xs:Array Value},SSq h b l xs->(∀o,h.get? l=some o->h'.get? l=some o)->SSq h' b l xs
 |false,_,_,⟨o,e,r⟩,f=>⟨o,f o e,r⟩
 |true,_,_,⟨o,e,r⟩,f=>⟨o,f o e,r⟩
theorem SSq.obj{h:Heap}:∀{b:Bool}{l:Addr}{xs:Array Value},SSq h b l xs->∃o,h.get? l=some o/\∃n,o.data=.seq xs n
 |false,_,_,⟨o,e,_,n,d⟩=>⟨o,e,n,d⟩
 |true,_,_,⟨o,e,_,n,d⟩=>⟨o,e,n,d⟩
section
variable {prog:Program}{w:World}{A:Around}{E:Yq}{s:Shared}
theorem DE{it t:Addr}{k:Nat}{xs:Array Value}{x:Value}{Q:Yq}(hi:s.heap.IsTupleIter it t k)(ht:s.heap.IsTuple t xs)(hx:xs[k]?=some x)
 (q:∀g,g.IsTupleIter it t (k+1)->Heap.SameBut it s.heap g->Q x { s with heap:=g }):wpAny (model prog w) A (Builtin.SmallTypes.nextOf (.ref it)) Q E s:=by
 obtain⟨o,e,c,d⟩:=id hi;obtain⟨ot,et,_,nt,dt⟩:=ht;unfold Builtin.SmallTypes.nextOf;refine qb (wpAny_callSpecial?_slot (name:=Str.ofString "__next__") hi.typeIs PySem.F.slot_tuple_iterator_next (Qt PySem.F.slot_tuple_iterator_next hi.typeIs PySem.F.entry_tuple_iterator_next ?_ (PySem.F.args_tuple_iterator_next_1 _)));show wpAny _ _ (field (.ref it) 0 >>= _) _ _ _;refine qb (wpAny_field e d (x:=.ref t) U ?_);show wpAny _ _ (if(Value.ref t == Value.none)=true then _ else _) _ _ _;rw[Qb (show ¬ (Value.ref t == Value.none)=true from qt)];show wpAny _ _ (field (.ref it) 1 >>= _) _ _ _;refine qb (wpAny_field e d (x:=.int k 0) U ?_);show wpAny _ _ (seqItems? (.ref t) >>= _) _ _ _;refine qb (QH et dt ?_);simp only[Q9,hx];refine qb (wpAny_setField e d (by simp) (qh ⟨x,U,qh (q _ ?_ (Heap.SameBut.update ..))⟩));exact⟨_,Qr _ e (Obj.isFreed_of_fields (Obj.data_mapFields d _)),(Obj.cls_mapFields ..).trans c,by rw[Obj.data_mapFields d];simp[rawInt]⟩
theorem DF{it t:Addr}{k:Nat}{xs:Array Value}{Q:Yq}(hh:A.handled=none)(hi:s.heap.IsTupleIter it t k)(ht:s.heap.IsTuple t xs)(hx:xs[k]?=none)
 (q:∀g x,Heap.ExtBut it s.heap g->(∃o,g.get? x=some o/\o.cls=.type "StopIteration")->E (.ref x) { s with heap:=g }):wpAny (model prog w) A (Builtin.SmallTypes.nextOf (.ref it)) Q E s:=by
 obtain⟨o,e,c,d⟩:=id hi;obtain⟨ot,et,_,nt,dt⟩:=ht;unfold Builtin.SmallTypes.nextOf;refine qb (wpAny_callSpecial?_slot (name:=Str.ofString "__next__") hi.typeIs PySem.F.slot_tuple_iterator_next (Qt PySem.F.slot_tuple_iterator_next hi.typeIs PySem.F.entry_tuple_iterator_next ?_ (PySem.F.args_tuple_iterator_next_1 _)));show wpAny _ _ (field (.ref it) 0 >>= _) _ _ _;refine qb (wpAny_field e d (x:=.ref t) U ?_);show wpAny _ _ (if(Value.ref t == Value.none)=true then _ else _) _ _ _;rw[Qb (show ¬ (Value.ref t == Value.none)=true from qt)];show wpAny _ _ (field (.ref it) 1 >>= _) _ _ _;refine qb (wpAny_field e d (x:=.int k 0) U ?_);show wpAny _ _ (seqItems? (.ref t) >>= _) _ _ _;refine qb (QH et dt ?_);simp only[Q9,hx];refine qb (wpAny_rule (qb (wpAny_setField e d (by simp) ?_)));show wpAny _ _ (newExc (.type "StopIteration") [] >>= _) _ _ _;refine qb ?_;simp only[newExc,newTuple];refine qb (wpAny_newObj_type ?_ (by size_fits));refine qb (m:=firstArgMember _ _) (wpAny_of_eq (a:=Value.none) (by first|rfl|(simp only[firstArgMember];rfl)) (wpAny_newObj_type ?_ (by size_fits)));simp only[raiseNew];refine qb (wpAny_handled ?_);first|rw[show A.in1.handled=none from hh]|rw[hh]
 refine qb (qh (wpAny_throw (q _ _ (((Heap.SameBut.update ..).extBut.push _).push _) ⟨_,qz _ U,U⟩)))
theorem oN{it l:Addr}{k:Nat}{xs:Array Value}{x:Value}{Q:Yq}:∀{b:Bool},SIt s.heap b it l k->SSq s.heap b l xs->xs[k]?=some x->
 (∀g,SIt g b it l (k+1)->Heap.SameBut it s.heap g->Q x { s with heap:=g })->wpAny (model prog w) A (Builtin.SmallTypes.nextOf (.ref it)) Q E s
 |false,a,c,d,q=>wpAny_nextOf_list_item a c d q
 |true,a,c,d,q=>DE a c d q
theorem vn{it l:Addr}{k:Nat}{xs:Array Value}{Q:Yq}(hh:A.handled=none):∀{b:Bool},SIt s.heap b it l k->SSq s.heap b l xs->xs[k]?=none->
 (∀g x,Heap.ExtBut it s.heap g->(∃o,g.get? x=some o/\o.cls=.type "StopIteration")->E (.ref x) { s with heap:=g })->wpAny (model prog w) A (Builtin.SmallTypes.nextOf (.ref it)) Q E s
 |false,a,c,d,q=>wpAny_nextOf_list_end hh a c d q
 |true,a,c,d,q=>DF hh a c d q
structure ZAp(z TI TO i1 i2 l1 l2:Addr):Prop where
 a:TI≠z/\TO≠z/\i1≠z/\i2≠z/\TI≠TO/\TI≠i1/\TI≠i2/\TO≠i1/\TO≠i2/\i1≠i2
 l:∀c,c=l1\/c=l2->c≠z/\c≠TO/\c≠i1/\c≠i2/\c≠TI
theorem xH{z TI TO i1 i2 l1 l2:Addr}{b1 b2:Bool}{k1 k2:Nat}{xs ys:Array Value}{x y a b:Value}{Q:Yq}(D:ZAp z TI TO i1 i2 l1 l2)
 (hz:IsZip s.heap z TI TO .none) (hI:IsPair s.heap TI (.ref i1) (.ref i2)) (hO:IsPair s.heap TO a b) (t1:SIt s.heap b1 i1 l1 k1) (t2:SIt s.heap b2 i2 l2 k2) (q1:SSq s.heap b1 l1 xs) (q2:SSq s.heap b2 l2 ys) (ex:xs[k1]?=some x) (ey:ys[k2]?=some y)
 (q:∀g,IsZip g z TI TO (rawInt s.heap.objs.size)->IsPair g TO x y->SIt g b1 i1 l1 (k1+1)->SIt g b2 i2 l2 (k2+1)->IsPair g s.heap.objs.size x y->(∀c o,c≠z->c≠TO->c≠i1->c≠i2->s.heap.get? c=some o->g.get? c=some o)->Q (.ref s.heap.objs.size) { s with heap:=g }):
 wpAny (model prog w) A (Builtin.«zip.__next__» ⟨[.ref z],[]⟩) (λfin s'=>∃v,fin=.done (.ret v)/\Q v s') E s:=by
 obtain⟨⟨nIz,nOz,n1z,n2z,nIO,nI1,nI2,nO1,nO2,n12⟩,lne⟩:=D;obtain⟨m1z,m1O,m11,m12,m1I⟩:=lne l1 (.inl U);obtain⟨m2z,m2O,m21,m22,m2I⟩:=lne l2 (.inr U);show wpAny _ _ (field (.ref z) 2 >>= _) _ _ _;refine qb (wpAny_field hz U (x:=.bool false) U ?_);show wpAny _ _ (field (.ref z) 3 >>= _) _ _ _;refine qb (wpAny_field hz U (x:=.ref TI) U (qb (QH hI U ?_)));show wpAny _ _ (Builtin.SmallTypes.ownedTupleIsFree (.ref z) >>= _) _ _ _;refine qb ?_;unfold Builtin.SmallTypes.ownedTupleIsFree;refine qb (wpAny_field hz U (x:=.none) U (qh ?_));simp only[if_true];refine qb (wpAny_rule (qb (wpAny_field hz U (x:=.ref TO) U (qb (wpAny_setField_rec hz (by simp) λg1 z1 s1=>?_)))));replace z1:IsZip g1 z TI TO .ellipsis:=z1;refine qb ?_;simp only[List.zipIdx_cons,List.zipIdx_nil,List.forIn_cons,List.forIn_nil];refine qb (qb (wpAny_onRaise ?_));show wpAny _ _ (Builtin.SmallTypes.nextOf (.ref i1) >>= _) _ _ _;refine qb (oN (b:=b1) (t1.keep λo e=>s1.extBut _ _ n1z e) (q1.keep λo e=>s1.extBut _ _ m1z e) ex λg2 u1 s2=>qh ?_);have o2:IsPair g2 TO a b:=s2.extBut _ _ nO1 (s1.extBut _ _ nOz hO);refine qb (QH o2 U (qb (wpAny_updateSeq_pair o2 λg3 o3 s3=>qb (wpAny_letGo (qh ?_)))));replace o3:IsPair g3 TO x b:=o3;refine qb (qb (wpAny_onRaise ?_));show wpAny _ _ (Builtin.SmallTypes.nextOf (.ref i2) >>= _) _ _ _;refine qb (oN (b:=b2) (t2.keep λo e=>s3.extBut _ _ nO2.symm (s2.extBut _ _ n12.symm (s1.extBut _ _ n2z e))) (q2.keep λo e=>s3.extBut _ _ m2O (s2.extBut _ _ m21 (s1.extBut _ _ m2z e))) ey λg4 u2 s4=>qh ?_);have o4:IsPair g4 TO x b:=s4.extBut _ _ nO2 o3;refine qb (QH o4 U (qb (wpAny_updateSeq_pair o4 λg5 o5 s5=>qb (wpAny_letGo (qh (qh ?_))))));replace o5:IsPair g5 TO x y:=o5;refine qb (QH o5 U (qb (wpAny_newTuple ?_)));have sz:g5.objs.size=s.heap.objs.size:=by rw[s5.1,s4.1,s3.1,s2.1,s1.1]
 have z5:IsZip g5 z TI TO .ellipsis:=s5.extBut _ _ nOz.symm (s4.extBut _ _ n2z.symm (s3.extBut _ _ nOz.symm (s2.extBut _ _ n1z.symm z1)));have k5:∀c o,c≠z->c≠TO->c≠i1->c≠i2->s.heap.get? c=some o->g5.get? c=some o:=λc o h1 h2 h3 h4 e=>s5.extBut _ _ h2 (s4.extBut _ _ h4 (s3.extBut _ _ h2 (s2.extBut _ _ h3 (s1.extBut _ _ h1 e))));have v1:SIt g5 b1 i1 l1 (k1+1):=u1.keep λo e=>s5.extBut _ _ nO1.symm (s4.extBut _ _ n12 (s3.extBut _ _ nO1.symm e));have v2:SIt g5 b2 i2 l2 (k2+1):=u2.keep λo e=>s5.extBut _ _ nO2.symm e;have zlt:z<g5.objs.size:=qA z5;show wpAny _ _ (Builtin.SmallTypes.ownedTupleHandOut (.ref z) (.ref g5.objs.size) >>= _) _ _ _;refine qb ?_;unfold Builtin.SmallTypes.ownedTupleHandOut;have z6:IsZip (g5.push { cls:=.type "tuple",data:=.seq #[x,y] }) z TI TO .ellipsis:=qe _ z5;refine qb (wpAny_setField_rec z6 (by simp) λg7 z7 s7=>?_);replace z7:IsZip g7 z TI TO (rawInt g5.objs.size):=z7;refine wpAny_setField_rec z7 (by simp) λg8 z8 s8=>?_;replace z8:IsZip g8 z TI TO (rawInt g5.objs.size):=z8;have up:∀c o,c≠z->g5.get? c=some o->g8.get? c=some o:=λc o h1 e=>s8.extBut _ _ h1 (s7.extBut _ _ h1 (qe _ e));have t8:IsPair g8 g5.objs.size x y:=s8.extBut _ _ (Nat.ne_of_gt zlt) (s7.extBut _ _ (Nat.ne_of_gt zlt) (qz _ U));rw[sz]at z8 t8;refine qh ⟨_,U,?_⟩;show Q (.ref g5.objs.size) _;rw[sz];exact q g8 z8 (up _ _ nOz o5) (v1.keep λo e=>up _ o n1z e) (v2.keep λo e=>up _ o n2z e) t8 λc o h1 h2 h3 h4 e=>up c o h1 (k5 c o h1 h2 h3 h4 e)
theorem xI{z TI TO i1 i2 l1 l2:Addr}{b1 b2:Bool}{k1 k2:Nat}{xs ys:Array Value}{a b:Value}{Q:Fin->Shared->Prop}(hh:A.handled=none)(D:ZAp z TI TO i1 i2 l1 l2)
 (hz:IsZip s.heap z TI TO .none) (hI:IsPair s.heap TI (.ref i1) (.ref i2)) (hO:IsPair s.heap TO a b) (t1:SIt s.heap b1 i1 l1 k1) (t2:SIt s.heap b2 i2 l2 k2) (q1:SSq s.heap b1 l1 xs) (q2:SSq s.heap b2 l2 ys) (hend:xs[k1]?=none\/ys[k2]?=none)
 (q:∀g e,(∀c o,c≠z->c≠TO->c≠i1->c≠i2->s.heap.get? c=some o->g.get? c=some o)->(∃o,g.get? e=some o/\o.cls=.type "StopIteration")->E (.ref e) { s with heap:=g }):
 wpAny (model prog w) A (Builtin.«zip.__next__» ⟨[.ref z],[]⟩) Q E s:=by
 obtain⟨⟨nIz,nOz,n1z,n2z,nIO,nI1,nI2,nO1,nO2,n12⟩,lne⟩:=D;obtain⟨m1z,m1O,m11,m12,m1I⟩:=lne l1 (.inl U);obtain⟨m2z,m2O,m21,m22,m2I⟩:=lne l2 (.inr U);show wpAny _ _ (field (.ref z) 2 >>= _) _ _ _;refine qb (wpAny_field hz U (x:=.bool false) U ?_);show wpAny _ _ (field (.ref z) 3 >>= _) _ _ _;refine qb (wpAny_field hz U (x:=.ref TI) U (qb (QH hI U ?_)));show wpAny _ _ (Builtin.SmallTypes.ownedTupleIsFree (.ref z) >>= _) _ _ _;refine qb ?_;unfold Builtin.SmallTypes.ownedTupleIsFree;refine qb (wpAny_field hz U (x:=.none) U (qh ?_));simp only[if_true];refine qb (wpAny_rule (qb (wpAny_field hz U (x:=.ref TO) U (qb (wpAny_setField_rec hz (by simp) λg1 z1 s1=>?_)))));replace z1:IsZip g1 z TI TO .ellipsis:=z1;refine qb ?_;simp only[List.zipIdx_cons,List.zipIdx_nil,List.forIn_cons,List.forIn_nil];refine qb (qb (wpAny_onRaise ?_));show wpAny _ _ (Builtin.SmallTypes.nextOf (.ref i1) >>= _) _ _ _
 cases ex:xs[k1]? with
 |none=>
  refine qb (vn (b:=b1) hh (t1.keep λo e=>s1.extBut _ _ n1z e) (q1.keep λo e=>s1.extBut _ _ m1z e) ex λg2 v s2 hv=>?_);obtain⟨ov,ev,cv⟩:=hv;have z2:IsZip g2 z TI TO .ellipsis:=s2 _ _ n1z.symm z1;have nv:v≠z:=λh=>by subst h;rw[z2]at ev;cases ev;simp at cv
  exact wpAny_setField_rec z2 (by simp) λg3 _ s3=>q g3 v (λc o h1 _ h3 _ e=>s3.extBut _ _ h1 (s2 _ _ h3 (s1.extBut _ _ h1 e))) ⟨ov,s3.extBut _ _ nv ev,cv⟩
 |some x=>
  have ey:ys[k2]?=none:=by rcases hend with h|h;rw[ex]at h;cases h;exact h
  refine qb (oN (b:=b1) (t1.keep λo e=>s1.extBut _ _ n1z e) (q1.keep λo e=>s1.extBut _ _ m1z e) ex λg2 u1 s2=>qh ?_);have o2:IsPair g2 TO a b:=s2.extBut _ _ nO1 (s1.extBut _ _ nOz hO);refine qb (QH o2 U (qb (wpAny_updateSeq_pair o2 λg3 o3 s3=>qb (wpAny_letGo (qh ?_)))));refine qb (qb (wpAny_onRaise ?_));show wpAny _ _ (Builtin.SmallTypes.nextOf (.ref i2) >>= _) _ _ _;refine qb (vn (b:=b2) hh (t2.keep λo e=>s3.extBut _ _ nO2.symm (s2.extBut _ _ n12.symm (s1.extBut _ _ n2z e))) (q2.keep λo e=>s3.extBut _ _ m2O (s2.extBut _ _ m21 (s1.extBut _ _ m2z e))) ey λg4 v s4 hv=>?_);obtain⟨ov,ev,cv⟩:=hv;have z4:IsZip g4 z TI TO .ellipsis:=s4 _ _ n2z.symm (s3.extBut _ _ nOz.symm (s2.extBut _ _ n1z.symm z1));have nv:v≠z:=λh=>by subst h;rw[z4]at ev;cases ev;simp at cv
  exact wpAny_setField_rec z4 (by simp) λg5 _ s5=>q g5 v (λc o h1 h2 h3 h4 e=>s5.extBut _ _ h1 (s4 _ _ h4 (s3.extBut _ _ h2 (s2.extBut _ _ h3 (s1.extBut _ _ h1 e))))) ⟨ov,s5.extBut _ _ nv ev,cv⟩
end
section
variable {X:Cx}{pins:List (Addr×Obj)}{Y:St}{H:Hp}{s:Shared}{h':Heap}
theorem Inv.turnedL{t':Nat}{ch:List Addr}(I:Inv X pins Y H s)(k:∀b o,b∉ch->s.heap.get? b=some o->h'.get? b=some o)(hf:∀b∈ch,cG X pins H b):Inv X pins Y H { s with heap:=h',toks:=t' }:=by
 have nit:∀b u,H b=some u->b∉ch:=λb u e z=>by rw[(hf b z).1]at e;cases e
 have hL:X.env.locals∉ch:=λz=>(hf _ z).2.1 U
 refine I.step (g':=s.gens) (d':=s.drawn) (ch:=ch) (λb hb=>⟨(hf b hb).2.2.2.1,(hf b hb).2.1,(hf b hb).2.2.2.2.1,(hf b hb).2.2.2.2.2⟩) (λb o _ _ hc e _=>k b o hc e) (λb o _ _ hc e _=>⟨o.slots,k b o hc e⟩) (λ_ _ _ _ n=>n)
  (λb o hc e=>⟨o,k b o hc e⟩) (λ_ _ e=>e) (λ_ _ _ e=>e) (λb ps e=>⟨#[],by rw[e];simp⟩) (λm hm=>?_) (λb u e=>?_) I.bare
 .obtain⟨o,es,ep,ho,r⟩:=hm;exact⟨o,es,ep,k _ o hL ho,r⟩
 .refine(I.hok b u e).stay (λc v hc q=>k c v ?_ q) (λ_ q=>q) λ_ _ q=>q;rcases hc with z|z
  .rw[z];exact nit b u e
  .exact nit c _ z
theorem Inv.track{T:Addr}{o:HO}(I:Inv X pins Y H s)(f:cG X pins H T)(hs:X.s₀.heap.objs.size<=T)(new:bp X.prog X.w (upd H T o) s.heap T o):Inv X pins Y (upd H T o) s:=by
 obtain⟨f0,f1,f2,_,f4,f5⟩:=f;have old:∀b u,X.s₀.heap.get? b=some u->b≠T:=λb u e=>qQ (qN (qA e) hs);refine⟨I.ok,I.os,I.bare,⟨I.base.keep,I.base.slot,λb u e n hx=>?_,I.base.there,λb xs e=>?_,λb u v e=>?_,λb ps e=>?_⟩,I.loc,I.cell,?_,λx c e=>?_,λp hp=>?_,λb u e=>?_,I.len⟩
 .rw[ae (old b u e)];exact I.base.free b u e n hx
 .rw[ae (bW (I.base.tups b xs e) f0)];exact I.base.tups b xs e
 .rw[ae (bW (I.base.frzs b u v e) f0)];exact I.base.frzs b u v e
 .obtain⟨more,q⟩:=I.base.tbls b ps e;exact⟨more,by rw[ae (bW q f0)];exact q⟩
 .rw[ae (Ne.symm f1)];exact I.free
 .rw[ae (f4 x c e)];exact I.freeC x c e
 .obtain⟨e,n,ne,nf,d⟩:=I.pin p hp;exact⟨e,by rw[ae (f5 p hp)];exact n,ne,nf,d⟩
 .by_cases hb:b=T
  .subst hb;rw[ag]at e;cases e;exact new
  .rw[ae hb]at e;exact(I.hok b u e).stay (λc v _ q=>q) (λc q=>by rw[ae (bW q f0)];exact q) λc xs q=>by rw[ae (bW q f0)];exact q
end
def SqB(K:W.Frag)(H:Hp):Bool->Addr->List V->Prop
 |false,a,xs=>SqL K H a xs
 |true,a,xs=>SqT K H a xs
theorem SqB.at{X:Cx}{pins:List (Addr×Obj)}{Y:St}{H:Hp}{s:Shared}(I:Inv X pins Y H s):∀{b:Bool}{a:Addr}{xs:List V},SqB X.K H b a xs->∃its:List Value,aw xs its/\SSq s.heap b a its.toArray/\xs.length<=sizeLine
 |false,_,_,h=>let ⟨its,r,p,z⟩:=I.list h;⟨its,r,p.isList,z⟩
 |true,_,_,h=>let ⟨its,r,p,z⟩:=I.tuple h;⟨its,r,p,z⟩
theorem SqB.inj{X:Cx}{pins:List (Addr×Obj)}{Y:St}{H:Hp}{s:Shared}(I:Inv X pins Y H s):∀{b:Bool}{a:Addr}{xs ys:List V},SqB X.K H b a xs->SqB X.K H b a ys->xs=ys
 |false,_,_,_,h,h'=>I.list_inj h h'
 |true,_,_,_,h,h'=>I.tuple_inj h h'
noncomputable def Itz(K:W.Frag)(b1 b2:Bool)(l1 l2:Addr):It:=
 ⟨λi H=>∃xs ys x y,SqB K H b1 l1 xs/\SqB K H b2 l2 ys/\xs[i]?=some x/\ys[i]?=some y,
  λi H v H'=>∃p x y,H p=none/\v=.ref p/\H'=upd H p (.tup [x,y])/\(∀xs,SqB K H b1 l1 xs->xs[i]?=some x)/\∀ys,SqB K H b2 l2 ys->ys[i]?=some y,
  λi H=>∃xs ys,SqB K H b1 l1 xs/\SqB K H b2 l2 ys/\(xs.length<=i\/ys.length<=i)⟩
section
variable {prog:Program}{w:World}{A:Around}{E:Yq}{s:Shared}
theorem xF{z TI TO i1 i2 l1 l2:Addr}{b1 b2:Bool}{k1 k2:Nat}{xs ys:Array Value}{x y a b:Value}{Q:Option Value->Shared->Prop}(D:ZAp z TI TO i1 i2 l1 l2)
 (hz:IsZip s.heap z TI TO .none) (hI:IsPair s.heap TI (.ref i1) (.ref i2)) (hO:IsPair s.heap TO a b) (t1:SIt s.heap b1 i1 l1 k1) (t2:SIt s.heap b2 i2 l2 k2) (q1:SSq s.heap b1 l1 xs) (q2:SSq s.heap b2 l2 ys) (ex:xs[k1]?=some x) (ey:ys[k2]?=some y)
 (q:∀g,IsZip g z TI TO (rawInt s.heap.objs.size)->IsPair g TO x y->SIt g b1 i1 l1 (k1+1)->SIt g b2 i2 l2 (k2+1)->IsPair g s.heap.objs.size x y->(∀c o,c≠z->c≠TO->c≠i1->c≠i2->s.heap.get? c=some o->g.get? c=some o)->Q (some (.ref s.heap.objs.size)) { s with heap:=g }):
 wpAny (model prog w) A (pyNext (.ref z)) Q E s:=by
 have ty:s.TypeIs (.ref z) "zip":=⟨_,hz,U⟩;unfold pyNext;exact qb (wpAny_attempt (wpAny_callSpecial?_slot (name:=Str.ofString "__next__") ty PySem.F.slot_zip_next (Qt PySem.F.slot_zip_next ty PySem.F.entry_zip_next (xH D hz hI hO t1 t2 q1 q2 ex ey λg a1 a2 a3 a4 a5 a6=>qh (q g a1 a2 a3 a4 a5 a6)) (PySem.F.args_zip_next_1 _))))
theorem xG{z TI TO i1 i2 l1 l2:Addr}{b1 b2:Bool}{k1 k2:Nat}{xs ys:Array Value}{a b:Value}{Q:Option Value->Shared->Prop}(hh:A.handled=none)(D:ZAp z TI TO i1 i2 l1 l2)
 (hz:IsZip s.heap z TI TO .none) (hI:IsPair s.heap TI (.ref i1) (.ref i2)) (hO:IsPair s.heap TO a b) (t1:SIt s.heap b1 i1 l1 k1) (t2:SIt s.heap b2 i2 l2 k2) (q1:SSq s.heap b1 l1 xs) (q2:SSq s.heap b2 l2 ys) (hend:xs[k1]?=none\/ys[k2]?=none)
 (q:∀g,(∀c o,c≠z->c≠TO->c≠i1->c≠i2->s.heap.get? c=some o->g.get? c=some o)->Q none { s with heap:=g }):wpAny (model prog w) A (pyNext (.ref z)) Q E s:=by
 have ty:s.TypeIs (.ref z) "zip":=⟨_,hz,U⟩;unfold pyNext;refine qb (wpAny_attempt (wpAny_callSpecial?_slot (name:=Str.ofString "__next__") ty PySem.F.slot_zip_next (Qt PySem.F.slot_zip_next ty PySem.F.entry_zip_next (xI hh D hz hI hO t1 t2 q1 q2 hend λg e hk he=>?_) (PySem.F.args_zip_next_1 _))));obtain⟨o,ho,hc⟩:=he;exact qb (wpAny_isInstance (T:="StopIteration") (b:=true) ⟨o,ho,hc⟩ isSubtype_stop (qh (q _ hk)))
end
theorem yn{P:Program}{w:World}{K:W.Frag}{elts:List Expr}{kk:Nat}{tp:Pos}{b1 b2:Bool}(z TI TO i1 i2 l1 l2:Addr)(D:ZAp z TI TO i1 i2 l1 l2):
 gZ P w K (.Tuple elts kk tp) (Itz K b1 b2 l1 l2) [z,TI,TO,i1,i2] z (λi h=>IsZip h z TI TO .none/\IsPair h TI (.ref i1) (.ref i2)/\(∃a b,IsPair h TO a b)/\SIt h b1 i1 l1 i/\SIt h b2 i2 l2 i) where
 mem:=by simp
 obj:=λi h st b hb=>by
  obtain⟨hz,hI,⟨a,c,hO⟩,t1,t2⟩:=st;simp only[qF,Q0,or_false]at hb;rcases hb with rfl|rfl|rfl|rfl|rfl
  .exact⟨_,hz,λv q=>by cases q⟩
  .exact⟨_,hI,λv q=>by cases q⟩
  .exact⟨_,hO,λv q=>by cases q⟩
  .obtain⟨o,e,vs,d⟩:=t1.obj;exact⟨o,e,λv q=>by rw[d]at q;cases q⟩
  .obtain⟨o,e,vs,d⟩:=t2.obj;exact⟨o,e,λv q=>by rw[d]at q;cases q⟩
 keep:=λi h h' st k=>by
  obtain⟨hz,hI,⟨a,c,hO⟩,t1,t2⟩:=st;exact⟨k z (by simp) _ hz,k TI (by simp) _ hI,⟨a,c,k TO (by simp) _ hO⟩,t1.keep λo e=>k i1 (by simp) o e,t2.keep λo e=>k i2 (by simp) o e⟩
 item:=by
  intro X hP hw hK hc i pins s Y H E I hf st hg;subst hP hw hK;obtain⟨hz,hI,⟨a,c,hO⟩,t1,t2⟩:=st;obtain⟨xs,ys,x,y,hx,hy,ex,ey⟩:=hg;obtain⟨its,rv,q1,z1⟩:=SqB.at I hx;obtain⟨jts,rw',q2,z2⟩:=SqB.at I hy;obtain⟨u,hu,ru⟩:=rv.get ex;obtain⟨v,hv,rv'⟩:=rw'.get ey;refine xF D hz hI hO t1 t2 q1 q2 (x:=u) (y:=v) (by simpa using hu) (by simpa using hv) λg a1 a2 a3 a4 a5 a6=>⟨_,U,?_⟩;refine wpAny_letOwnedTupleGo_zip a1 λg' a1' sb=>?_;obtain⟨⟨nIz,nOz,n1z,n2z,nIO,nI1,nI2,nO1,nO2,n12⟩,lne⟩:=id D
  have hT:∀b∈[z,TI,TO,i1,i2],s.heap.objs.size≠b:=λb hb=>by
   have:∃o,s.heap.get? b=some o:=by
    simp only[qF,Q0,or_false]at hb;rcases hb with rfl|rfl|rfl|rfl|rfl
    .exact⟨_,hz⟩
    .exact⟨_,hI⟩
    .exact⟨_,hO⟩
    .obtain⟨o,e,_⟩:=t1.obj;exact⟨o,e⟩
    .obtain⟨o,e,_⟩:=t2.obj;exact⟨o,e⟩
   obtain⟨o,e⟩:=this;exact Nat.ne_of_gt (qA e)
  have kk:∀b o,b∉[z,TI,TO,i1,i2]->s.heap.get? b=some o->g'.get? b=some o:=λb o hb e=>by
   simp only[qF,Q0,or_false,not_or]at hb;exact sb.extBut _ _ hb.1 (a6 b o hb.1 hb.2.2.1 hb.2.2.2.1 hb.2.2.2.2 e)
  have I1:Inv X pins Y H { s with heap:=g' }:=I.turnedL (t':=s.toks) kk hf;have pT:IsPair g' s.heap.objs.size u v:=sb.extBut _ _ (hT z (by simp)) a5;have fT:cG X pins H s.heap.objs.size:=I.fpOk (qi _) (I.hok.fresh (qi _));have I2:Inv X pins Y (upd H s.heap.objs.size (.tup [x,y])) { s with heap:=g' }:=I1.track fT I.sz ⟨by show 2<=sizeLine;decide,[u,v],.cons ru (.cons rv' .nil),⟨_,pT,U,_,U⟩⟩;refine⟨.ref s.heap.objs.size,_,I2,U,⟨_,x,y,I.hok.fresh (qi _),U,U,λxs' h=>by rw[SqB.inj I h hx];exact ex,λys' h=>by rw[SqB.inj I h hy];exact ey⟩,?_,λb hb=>?_⟩
  .exact⟨a1',sb.extBut _ _ nIz (a6 TI _ nIz nIO nI1 nI2 hI),⟨u,v,sb.extBut _ _ nOz a2⟩,a3.keep λo e=>sb.extBut _ _ n1z e,a4.keep λo e=>sb.extBut _ _ n2z e⟩
  .rw[ae (Ne.symm (hT b hb))];exact(hf b hb).1
 done:=by
  intro X hP hw hK hc i pins s Y H E I hf st hg;subst hP hw hK;obtain⟨hz,hI,⟨a,c,hO⟩,t1,t2⟩:=st;obtain⟨xs,ys,hx,hy,hend⟩:=hg;obtain⟨its,rv,q1,z1⟩:=SqB.at I hx;obtain⟨jts,rw',q2,z2⟩:=SqB.at I hy;have e1:=rv.length;have e2:=rw'.length
  refine xG (I.ok.hd hc) D hz hI hO t1 t2 q1 q2 (by
   rcases hend with h|h
   .exact .inl (by simp;omega)
   .exact .inr (by simp;omega)) λg k=>⟨U,I.turnedL (t':=s.toks) (ch:=[z,TI,TO,i1,i2]) (λb o hb e=>?_) hf⟩
  simp only[qF,Q0,or_false,not_or]at hb;exact k b o hb.1 hb.2.2.1 hb.2.2.2.1 hb.2.2.2.2 e
 self:=λ_ _ _ _ _ st h=>wpAny_pyIter_zip st.1 h
noncomputable def fQ(b:Bool)(l:Addr):Obj:={ cls:=.type (if b=true then "tuple_iterator" else "list_iterator"),data:=.fields #[.ref l,.int 0 0] }
theorem SIt.new{h:Heap}:∀{b:Bool}{it l:Addr},h.get? it=some (fQ b l)->SIt h b it l 0
 |false,_,_,e=>⟨_,e,U,U⟩
 |true,_,_,e=>⟨_,e,U,U⟩
noncomputable def zg2(h:Heap)(b1 b2:Bool)(l1 l2:Addr):Heap:=(h.push (fQ b1 l1)).push (fQ b2 l2)
noncomputable def zg3(h:Heap)(b1 b2:Bool)(l1 l2:Addr):Heap:=(zg2 h b1 b2 l1 l2).push { cls:=.type "tuple",data:=.seq #[.ref h.objs.size,.ref (h.push (fQ b1 l1)).objs.size] }
noncomputable def zg4(h:Heap)(b1 b2:Bool)(l1 l2:Addr):Heap:=(zg3 h b1 b2 l1 l2).push { cls:=.type "tuple",data:=.seq #[.none,.none] }
noncomputable def zg5(h:Heap)(b1 b2:Bool)(l1 l2:Addr):Heap:=(zg4 h b1 b2 l1 l2).push { cls:=.type "zip",data:=.fields #[.none,.bool false,.bool false,.ref (zg2 h b1 b2 l1 l2).objs.size,.ref (zg3 h b1 b2 l1 l2).objs.size] }
theorem w6{prog:Program}{w:World}{A:Around}{E:Yq}{s:Shared}{l:Addr}{xs:Array Value}{Q:Yq}:∀{b:Bool},SSq s.heap b l xs->Q (.ref s.heap.objs.size) { s with heap:=s.heap.push (fQ b l) }->wpAny (model prog w) A (pyIter (.ref l)) Q E s
 |false,h,q=>wpAny_pyIter_list h q
 |true,h,q=>wpAny_pyIter_tuple h q
theorem SSq.push{h:Heap}{b:Bool}{l:Addr}{xs:Array Value}(x:SSq h b l xs)(o:Obj):SSq (h.push o) b l xs:=x.keep λ_ e=>qe _ e
set_option maxHeartbeats 8000000 in
theorem xE(b1 b2:Bool)(l1 l2:Addr)(xs ys:Array Value):
 Meets (Builtin.«zip.__new__» ⟨[.type "zip",.ref l1,.ref l2],[]⟩) (λ_ R s=>SSq s.heap b1 l1 xs/\SSq s.heap b2 l2 ys/\R (.ok (.ret (.ref (zg4 s.heap b1 b2 l1 l2).objs.size))) { s with heap:=zg5 s.heap b1 b2 l1 l2 }):=
 .of_wp λprog w A R s h=>by
  obtain⟨hp,g,d,tk,os⟩:=s;obtain⟨h1,h2,h⟩:=h;have hsub:=PySem.sub_zip;have e1:SSq (Shared.heap ⟨hp,g,d,tk,os⟩) b1 l1 xs:=h1;have e2:SSq (Shared.heap ⟨hp.push (fQ b1 l1),g,d,tk,os⟩) b2 l2 ys:=SSq.push h2 _
  wp_walk using w6 e1,w6 e2
  exact⟨_,U,h⟩
section
variable {prog:Program}{w:World}{A:Around}{E:Yq}{s:Shared}
theorem FI{b1 b2:Bool}{l1 l2:Addr}{xs ys:Array Value}{Q:Yq}(h1:SSq s.heap b1 l1 xs)(h2:SSq s.heap b2 l2 ys)
 (h:∀g n,n=s.heap.objs.size->IsZip g (n+4) (n+2) (n+3) .none->IsPair g (n+2) (.ref n) (.ref (n+1))->IsPair g (n+3) .none .none->SIt g b1 n l1 0->SIt g b2 (n+1) l2 0->
  (∀c o,s.heap.get? c=some o->g.get? c=some o)->Q (.ref (n+4)) { s with heap:=g }):wpAny (model prog w) A (call (.type "zip") [.ref l1,.ref l2]) Q E s:=by
 refine callType_new PySem.F.called_zip Yk (PySem.F.typeCall_zip_2 _ _) (PySem.F.newCall_zip_2 _ _) (λobj=>PySem.F.args_object_init_3 obj _ _) PySem.F.entry_zip_new (xE b1 b2 l1 l2 xs ys) ⟨h1,h2,?_⟩;have e1:(s.heap.push (fQ b1 l1)).objs.size=s.heap.objs.size+1:=Qq ..;have e2:(zg2 s.heap b1 b2 l1 l2).objs.size=s.heap.objs.size+2:=by unfold zg2;rw[Qq,e1]
 have e3:(zg3 s.heap b1 b2 l1 l2).objs.size=s.heap.objs.size+3:=by unfold zg3;rw[Qq,e2]
 have e4:(zg4 s.heap b1 b2 l1 l2).objs.size=s.heap.objs.size+4:=by unfold zg4;rw[Qq,e3]
 have p:∀{c:Addr}{o:Obj},(zg4 s.heap b1 b2 l1 l2).get? c=some o->(zg5 s.heap b1 b2 l1 l2).get? c=some o:=λq=>qe _ q;have p4:∀{c:Addr}{o:Obj},(zg3 s.heap b1 b2 l1 l2).get? c=some o->(zg4 s.heap b1 b2 l1 l2).get? c=some o:=λq=>qe _ q;have p3:∀{c:Addr}{o:Obj},(zg2 s.heap b1 b2 l1 l2).get? c=some o->(zg3 s.heap b1 b2 l1 l2).get? c=some o:=λq=>qe _ q;have p2:∀{c:Addr}{o:Obj},(s.heap.push (fQ b1 l1)).get? c=some o->(zg2 s.heap b1 b2 l1 l2).get? c=some o:=λq=>qe _ q;have g5:(zg5 s.heap b1 b2 l1 l2).get? (zg4 s.heap b1 b2 l1 l2).objs.size=some _:=qz _ U;have g4:(zg5 s.heap b1 b2 l1 l2).get? (zg3 s.heap b1 b2 l1 l2).objs.size=some _:=p (qz _ U);have g3:(zg5 s.heap b1 b2 l1 l2).get? (zg2 s.heap b1 b2 l1 l2).objs.size=some _:=p (p4 (qz _ U));have g2:(zg5 s.heap b1 b2 l1 l2).get? (s.heap.push (fQ b1 l1)).objs.size=some _:=p (p4 (p3 (qz _ U)));have g1:(zg5 s.heap b1 b2 l1 l2).get? s.heap.objs.size=some _:=p (p4 (p3 (p2 (qz _ U))));show _/\_;rw[e2,e3,e4]at g5;rw[e1,e2]at g3;rw[e3]at g4;rw[e1]at g2;rw[e4];exact⟨⟨_,g5,U⟩,h _ _ U g5 g3 g4 (SIt.new g1) (SIt.new g2) λc o x=>p (p4 (p3 (p2 (qe _ x))))⟩
end
section
variable {X:Cx}
def EA(K:W.Frag)(ta:TA):TI:=λY H R=>ta Y H λvs H1=>∃b1 b2 l1 l2 xs ys,vs=[.ref l1,.ref l2]/\SqB K H1 b1 l1 xs/\SqB K H1 b2 l2 ys/\R (Itz K b1 b2 l1 l2) H1
theorem BV{a b:Expr}{ta:TA}{p pos tp:Pos}{elts:List Expr}{kk:Nat}(hg:Gl X "zip")(hm:X.mg "zip"=none)(ha:PA X [a,b] ta)(hs:starEach [a,b] X.env=[(false,eval a X.env),(false,eval b X.env)]:=by rfl)(hs2:starEach [b] X.env=[(false,eval b X.env)]:=by rfl):
 PI X (.Tuple elts kk tp) (.Call (.Name "zip" p) [a,b] [] pos) (EA X.K ta):=by
 intro pins s Y H R I h;refine Call_ (fk I hg hm PyProof.Rows.Boot.«zip» (PyProof.Rows.callWith_type1 (thn (ha pos pins s Y H _ I h) λus s1 ⟨vs,H1,I1,r1,q1⟩=>?_) (by rw[hs,hs2]) (by rw[hs2];rfl)));obtain⟨b1,b2,l1,l2,xs,ys,rfl,hx,hy,q⟩:=q1;obtain⟨u,u',rfl,ru,ru'⟩:=gB r1;cases ru;cases ru';obtain⟨its,rv,s1',z1⟩:=SqB.at I1 hx;obtain⟨jts,rw',s2',z2⟩:=SqB.at I1 hy;refine FI s1' s2' λg n hn a1 a2 a3 a4 a5 k=>?_
 have lt:∀c,c=l1\/c=l2->c<n:=λc hc=>by
  rw[hn];rcases hc with rfl|rfl
  .obtain⟨o,e,_⟩:=s1'.obj;exact qA e
  .obtain⟨o,e,_⟩:=s2'.obj;exact qA e
 refine wpAny_pyIter_zip a1 ⟨n+4,[n+4,n+2,n+3,n,n+1],_,_,H1,U,I1.kept (t':=s1.toks) k,yn (n+4) (n+2) (n+3) n (n+1) l1 l2 ⟨?_,λc hc=>?_⟩,⟨a1,a2,⟨_,_,a3⟩,a4,a5⟩,λb hb=>?_,q⟩
 .have e:∀i j:Nat,i≠j->n+i≠n+j:=λi j h z=>h (Nat.add_left_cancel z);exact⟨e 2 4 Yk,e 3 4 Yk,e 0 4 Yk,e 1 4 Yk,e 2 3 Yk,e 2 0 Yk,e 2 1 Yk,e 3 0 Yk,e 3 1 Yk,e 0 1 Yk⟩
 .have q:=lt c hc;have e:∀i:Nat,c≠n+i:=λi=>qQ (qN q (Nat.le_add_right _ _));exact⟨e 4,e 3,e 0,e 1,e 2⟩
 .have e:∀i:Nat,cG X pins H1 (n+i):=λi=>I1.fpOk (by rw[hn];exact Nat.le_add_right _ _) (I1.hok.fresh (by rw[hn];exact Nat.le_add_right _ _));simp only[qF,Q0,or_false]at hb;rcases hb with rfl|rfl|rfl|rfl|rfl
  .exact e 4
  .exact e 2
  .exact e 3
  .exact e 0
  .exact e 1
end
open PySem.Builtin.Str in
section
variable {X:Cx}
end
@[irreducible] def rStrAny:List V->Hp->VK->Prop:=λxs H Q=>(∃z:Str,xs=[.str z]/\Q (.str z) H)\/∃i:Int,xs=[.int i]/\i.natAbs.log2<1920/\Q (.str (toString i)) H
section
variable {X:Cx}
end
mutual
inductive Dt(K:W.Frag)(H:Hp):V->PyData->Prop
 |non:Dt K H .non .none
 |bl (b:Bool):Dt K H (.bl b) (.bool b)
 |int (i:Int):Dt K H (.int i) (.int i)
 |str (x:Str):Dt K H (.str x) (.str x)
 |lst {a:Addr}{xs:List V}{ds:List PyData}:SqL K H a xs->e6 K H xs ds->Dt K H (.ref a) (.list ds)
 |tup {a:Addr}{xs:List V}{ds:List PyData}:SqT K H a xs->e6 K H xs ds->Dt K H (.ref a) (.tuple ds)
inductive e6(K:W.Frag)(H:Hp):List V->List PyData->Prop
 |nil:e6 K H [] []
 |cons {v:V}{vs:List V}{d:PyData}{ds:List PyData}:Dt K H v d->e6 K H vs ds->e6 K H (v::vs) (d::ds)
end
section
variable {X:Cx}{pins:List (Addr×Obj)}{Y:St}{H:Hp}{s:Shared}
mutual
theorem Dt.reads(I:Inv X pins Y H s):∀{v:V}{d:PyData},Dt X.K H v d->∀{u:Value},aF v u->∃as,Reads s.heap u d as
 |_,_,.non,_,r=>by cases r;exact⟨_,.none⟩
 |_,_,.bl b,_,r=>by cases r;exact⟨_,.bool b⟩
 |_,_,.int i,_,r=>by obtain⟨t,rfl⟩:=r;exact⟨_,.int i t⟩
 |_,_,.str x,_,r=>by obtain⟨t,rfl⟩:=r;exact⟨_,.str x t⟩
 |_,_,.lst hq ha,_,r=>by
  cases r;obtain⟨its,rv,⟨o,n,e,c,_,d⟩,_⟩:=I.list hq;obtain⟨as,z⟩:=e6.reads I ha rv;exact⟨_,.list e c d (by simpa using z)⟩
 |_,_,.tup hq ha,_,r=>by
  cases r;obtain⟨its,rv,⟨o,e,c,n,d⟩,_⟩:=I.tuple hq;obtain⟨as,z⟩:=e6.reads I ha rv;exact⟨_,.tuple e c d (by simpa using z)⟩
theorem e6.reads(I:Inv X pins Y H s):∀{vs:List V}{ds:List PyData},e6 X.K H vs ds->∀{us:List Value},aw vs us->∃as,ReadsAll s.heap us ds as
 |_,_,.nil,_,r=>by cases r;exact⟨_,.nil⟩
 |_,_,.cons h t,_,r=>by
  cases r with
  |cons r1 r2=>
   obtain⟨as,z⟩:=Dt.reads I h r1;obtain⟨bs,z'⟩:=e6.reads I t r2;exact⟨_,.cons z z'⟩
end
end
section
variable {X:Cx}
theorem Cr(hu:X.A.units+64<cLine):OpR X (compareOp .NotEq) (λx y H Q=>∃d e,Dt X.K H x d/\Dt X.K H y e/\SeqAt.shaped d=true/\SeqAt.shaped e=true/\Q (.bl (!PyData.eqv d e)) H):=by
 intro pins s Y H x y v u Q I rx ry h;obtain⟨d,e,h1,h2,s1,s2,q⟩:=h;obtain⟨as,r1⟩:=h1.reads I rx;obtain⟨bs,r2⟩:=h2.reads I ry;exact ne_dataH r1 r2 s1 s2 hu ⟨.bl _,H,I,U,q⟩
end
theorem ER{K:W.Frag}{b1 b2:Bool}{l1 l2:Addr}{xs ys:List V}{g:TG}{tb:TS}{D:fG}{Y:St}{H:Hp}(Pv:Nat->St->Hp->Prop)(h0:Pv 0 Y H)(hl:∀i Y H,Pv i Y H->SqB K H b1 l1 xs/\SqB K H b2 l2 ys)
 (hs:∀i x y Y H p,xs[i]?=some x->ys[i]?=some y->Pv i Y H->H p=none->g (.ref p) Y (upd H p (.tup [x,y])) λY2 H2=>tb { D with nx:=Pv (i+1),ct:=Pv (i+1),bk:=D.nx } Y2 H2) (hd:∀Y H,Pv (min xs.length ys.length) Y H->D.nx Y H):
 ∃W:Nat->Nat->St->Hp->Prop,(∃m,W 0 m Y H)/\∀i m Y H,W i m Y H->
  ((Itz K b1 b2 l1 l2).stop i H/\D.nx Y H)\/((Itz K b1 b2 l1 l2).go i H/\∃N:St->Hp->Prop,(∀Y' H',N Y' H'->∃m',m'<m/\W (i+1) m' Y' H')/\∀x H',(Itz K b1 b2 l1 l2).yld i H x H'->g x Y H' λY2 H2=>tb { D with nx:=N,ct:=N,bk:=D.nx } Y2 H2):=by
 refine⟨λi m Y H=>m=min xs.length ys.length-i/\i<=min xs.length ys.length/\Pv i Y H,⟨_,U,qD _,h0⟩,?_⟩;rintro i m Y H ⟨rfl,hi,p⟩;obtain⟨q1,q2⟩:=hl i Y H p;by_cases hlt:i<min xs.length ys.length
 .have h1:i<xs.length:=by omega
  have h2:i<ys.length:=Yo;refine .inr ⟨⟨xs,ys,xs[i],ys[i],q1,q2,by simp[h1],by simp[h2]⟩,Pv (i+1),λY' H' p'=>⟨_,Yo,U,hlt,p'⟩,λv H' y=>?_⟩;obtain⟨a,x,y,hn,rfl,rfl,e1,e2⟩:=y;exact hs i x y Y H a (e1 xs q1) (e2 ys q2) p hn
 .have e:i=min xs.length ys.length:=by omega
  subst e;exact .inl ⟨⟨xs,ys,q1,q2,Yo⟩,hd Y H p⟩
theorem pL{K:W.Frag}{a:Addr}{xs:List V}{g:TG}{tt:TT}{te:TE}{Fin:List V->Hp->Prop}{Y:St}{H:Hp}(Pv:Nat->List V->St->Hp->Prop)(h0:Pv 0 [] Y H)(hz:∀i ys Y H,i<=xs.length->Pv i ys Y H->ys.length<=i)(hx:xs.length<=sizeLine)(hl:∀i ys Y H,Pv i ys Y H->SqL K H a xs)
 (hs:∀i x ys Y H,xs[i]?=some x->Pv i ys Y H->g x Y H λY2 H2=>tt Y2 H2 λb H3=>if b=true then te Y2 H3 λy H4=>Pv (i+1) (ys++[y]) Y2 H4 else Pv (i+1) ys Y2 H3)
 (hd:∀ys Y H,Pv xs.length ys Y H->Fin ys H):∃W:Nat->Nat->List V->St->Hp->Prop,(∃m,W 0 m [] Y H)/\iR (Itl K a) g tt te Fin W:=by
 refine⟨λi m ys Y H=>m=xs.length-i/\i<=xs.length/\Pv i ys Y H,⟨_,U,qD _,h0⟩,?_⟩;rintro i m ys Y H ⟨rfl,hi,p⟩;have hl':=hz i ys Y H hi p;have q:=hl i ys Y H p;by_cases hlt:i<xs.length
 .refine .inr ⟨⟨xs,xs[i],q,by simp[hlt]⟩,Yo,Pv (i+1),λys' Y' H' p'=>⟨_,Yo,U,hlt,p'⟩,λv H' y=>?_⟩;obtain⟨e,y⟩:=y;subst e;exact hs i v ys Y _ (y xs q) p
 .have e:i=xs.length:=by omega
  subst e;exact .inl ⟨⟨xs,q,qi _⟩,Yo,hd ys Y H p⟩
end L2
namespace L2
open PySem PySem.Spec PyProof.Rows
section
variable {X:Cx}{tg:Expr}
end
section
variable {X:Cx}
end
end L2
namespace L2
open PySem PySem.Spec PyProof.Rows PySem.NumText
theorem BZ{X:Cx}{pins:List (Addr×Obj)}{Nc:List Str}{scope:Scope}{fp:List Addr}{s:Shared}{H:Hp}{C:Addr}{es:List Expr}{k:Nat}{t:TGs}{pos:Pos}(n:Nat)(hc:X.calm=true)(h:PGs (X.comp pins Nc scope fp s H C) es t)
 (hn:(assignEach es (X.comp pins Nc scope fp s H C).env).length=n:=by rfl) (hst:(assignEach es (X.comp pins Nc scope fp s H C).env).findIdx? (·.1)=none:=by rfl):PG (X.comp pins Nc scope fp s H C) (.Tuple es k pos) (wf X.K n t):=
 iz (X:=X.comp pins Nc scope fp s H C) hc h hn hst
theorem oW{α:Type}{P R:α->Prop}{c A B:Prop}{inst:Decidable c}{w:α}(hw:¬ c->P w)(rest:∀w,P w->R w)(h:c->(∀w,P w->R w)->A)(e:B=R w:=by rfl):@ite Prop c inst A B:=by
 subst e;by_cases hc:c
 .rw[Qc hc];exact h hc rest
 .rw[Qb hc];exact rest w (hw hc)
end L2
namespace L2
open PySem PySem.Spec PyProof.Rows PySem.W
section
variable {prog:Program}{w:World}{A:Around}{R:Result->Shared->Prop}{E:Yq}{h:Heap}{g:Array GenState}{d:Drawn}{t:Nat}{os:OsState}
variable {nm q:Str}{C N f:Addr}{bs bm:List Value}{hdct:Bool}{sn:List Str}{sub:List Value}{ab:Bool}{col:Option Bool}{dd:Option Addr}{k0 k1 k2 k3 k5:Option Value}
noncomputable abbrev fS(C t:Addr):Obj:={ cls:=.ref C,data:=.fields #[.ref t,.none,.none,.none,.bool false,.none] }
noncomputable abbrev gT(h:Heap)(C:Addr)(rest:List Value):Heap:=(h.push { cls:=.type "tuple",data:=.seq rest.toArray }).push (fS C h.objs.size)
theorem xV{M:Model}{rest:List Value}{Q:Unit->Shared->Prop}(hV:bm.contains (.type "ValueError")=true)(hC:h.get? C=some (excClassObj nm q C N bs bm hdct sn sub ab col dd k0 k1 k2 k3 k5 "ValueError.__new__"))
 (hq:Q () ⟨h,g,d,t,os⟩):wpAny M A (checkBuiltinCall "ValueError.__new__" ⟨.ref C::rest,[]⟩) Q E ⟨h,g,d,t,os⟩:=by
 have F:=PySem.F.excBase_ValueError
 have hc:(Value.ref C::bm).contains (.type "ValueError")=true:=by
  rw[List.contains_cons,hV];exact Bool.or_true _
 have st:=F.noStar;simp only[checkBuiltinCall,F.newKind,F.newRow,F.newSplit]
 repeat (first|(refine wpAny_isSubtype_exc hC ?_;rw[hc])|refine wpAny_loadPart_at hC ?_|refine wpAny_madeBy_exc hC ?_|refine wpAny_staticBase_exc hC ?_|simp only[Qu,bne_self_eq_false,if_false]|wp_step)
 exact hq
theorem xQ{rest:List Value}(hV:bm.contains (.type "ValueError")=true)(hA:bm.contains (.type "AttributeError")=false)(hN:bm.contains (.type "NameError")=false)
 (hC:h.get? C=some (excClassObj nm q C N bs bm hdct sn sub ab col dd k0 k1 k2 k3 k5 "ValueError.__new__"))
 (hq:R (.ok (.ret (.ref (h.objs.size+1)))) ⟨gT h C rest,g,d,t,os⟩) (hrest:rest.length<=sizeLine):
 codeAny (model prog w) A (.builtin "ValueError.__new__" ⟨.ref C::rest,[]⟩) R ⟨h,g,d,t,os⟩:=by
 have F:=PySem.F.excBase_ValueError;have he:=F.ends
 have c1:(Value.ref C::bm).contains (.type "ValueError")=true:=by
  rw[List.contains_cons,hV];exact Bool.or_true _
 have c2:(Value.ref C::bm).contains (.type "AttributeError")=false:=by
  rw[List.contains_cons,hA]
  rfl
 have c3:(Value.ref C::bm).contains (.type "NameError")=false:=by
  rw[List.contains_cons,hN]
  rfl
 refine codeAny_builtinAt F.entry ?_;unfold Builtin.«BaseException.__new__»;refine PySem.wpAt_bind ?_;show PySem.wpAt _ _ _ (stack >>= _) _ _ _;refine PySem.wpAt_bind (PySem.wpAt_stack λ_ _=>PySem.wpAt_of_wpAny ?_)
 wp_walk
 refine PySem.wpAt_of_wpAny ?_;rw[F.owner]
 repeat (first|with_reducible refine wpAny_loadPart_at hC ?_|with_reducible refine wpAny_madeHere_exc F.canon hC ?_|(with_reducible refine wpAny_isSubtype_exc hC ?_;first|rw[c1]|rw[c2]|rw[c3])|wp_step)
 show R _ _;rw[Qq];exact hq
theorem xW{rest:List Value}(hV:bm.contains (.type "ValueError")=true)(hA:bm.contains (.type "AttributeError")=false)(hN:bm.contains (.type "NameError")=false)
 (hC:h.get? C=some (excClassObj nm q C N bs bm hdct sn sub ab col dd k0 k1 k2 k3 k5 "ValueError.__new__"))
 (hi:Looks (model prog w) h (typeLookup (.ref C) "__init__") (some (.ref f))) (hb:∀self,Looks (model prog w) h (bindSpecial (.ref f) self) (.ref f,[self])) (hrest:rest.length<=sizeLine)
 (hq:codeAny (model prog w) (A.under (.builtin "type.__call__" ⟨.ref C::rest,[]⟩)) (.call (.ref f) ⟨.ref (h.objs.size+1)::rest,[]⟩) (InitBack (h.objs.size+1) R) ⟨gT h C rest,g,d,t,os⟩):
 codeAny (model prog w) A (.call (.ref C) ⟨rest,[]⟩) R ⟨h,g,d,t,os⟩:=by
 have f1:=tc_lookup;have f2:=tc_bind (.ref C);have hT:(⟨h,g,d,t,os⟩:Shared).TypeIs (.ref C) "type":=⟨_,hC,U⟩;refine codeAny_of_tree ?_;show wpAny _ _ (callAny (.ref C) _) _ _ _
 repeat (any_goals (first|assumption|with_reducible refine wpAny_loadPart_at hC ?_|wp_step))
 refine⟨U,?_⟩;refine codeAny_call_builtin_at (Code.quiet_builtin _ Yd) entry_typeCall (wpAny_check_type_call_sub hC ?_)
 repeat (first|with_reducible refine wpAny_madeBy_exc hC ?_|with_reducible refine wpAny_loadPart_at hC ?_|wp_step)
 have F:=PySem.F.excBase_ValueError;refine codeAny_call_builtin_code (Code.quiet_builtin _ F.quiet) (xV hV hC ?_);refine xQ hV hA hN hC ?_ hrest;have kp:∀b o,h.get? b=some o->(gT h C rest).get? b=some o:=λb o e=>qe _ (qe _ e);have hget:(gT h C rest).get? (h.objs.size+1)=some (fS C h.objs.size):=by heap_get
 have c0:(Value.ref C::bm).contains (.ref C)=true:=by simp
 show wpAny _ _ _ _ _ _;unfold isInstance
 repeat (first|with_reducible refine wpAny_loadPart_at hget ?_|wp_step)
 show wpAny _ _ (isSubtype (.ref C) _) _ _ _;refine wpAny_isSubtype_exc (kp _ _ hC) ?_;rw[c0];unfold callSpecial? specialOf
 repeat (first|with_reducible refine wpAny_loadPart_at hget ?_|wp_step)
 show wpAny _ _ (typeLookup (.ref C) _) _ _ _;refine hi.keeps kp _ _ _ _ (λ_ _ e=>e) ?_;refine QG (qb ((hb (.ref (h.objs.size+1))).keeps kp _ _ _ _ (λ_ _ e=>e) ?_));refine qb (wpAny_call (codeAny_mono hq λr s' z=>?_));rcases r with e|(v|_|_|_)<;>first|exact z|exact z.elim|skip
 obtain⟨rfl,z⟩:=z
 wp_walk
 exact z
end
section
variable {prog:Program}{w:World}{A:Around}{R:Result->Shared->Prop}{E:Yq}{h:Heap}{g:Array GenState}{d:Drawn}{t:Nat}{os:OsState}
variable {nm q:Str}{C N x:Addr}{bs bm:List Value}{sn:List Str}{sub:List Value}{ab:Bool}{col:Option Bool}{dd:Option Addr}{k0 k1 k2 k3 k5:Option Value}{newId:String}{name:Str}{v:Value}{o:Obj}{fs:Array Value}
theorem xP{Q:Unit->Shared->Prop}(hx:h.get? x=some o)(hc:o.cls=.ref C)(hdn:o.dict=none)(hdt:o.data=.fields fs)(hC:h.get? C=some (excClassObj nm q C N bs bm true sn sub ab col dd k0 k1 k2 k3 k5 newId))
 (hob:bm.contains (.type "object")=true) (hpass:∀self,refuseLoop self "__setattr__" bm=pure ()) (L1:Looks (model prog w) h (typeLookup (.ref C) name) none) (L2:Looks (model prog w) h (typeLookup (.ref C) "__setattr__") (some (.builtin "object.__setattr__")))
 (hq:∀h' tk',h'.Ns1 h.objs.size (λy=>if y=name then some v else none)->h'.get? x=some { o with dict:=some h.objs.size }->(∀b ob,b≠x->h.get? b=some ob->h'.get? b=some ob)->Q () ⟨h',g,d,tk',os⟩):
 wpAny (model prog w) A (setAttr (.ref x) name v) Q E ⟨h,g,d,t,os⟩:=by
 have SF:=PySem.F.store_ValueError;have f3:=SF.slot.bind (.ref x);have hxs:x≠h.objs.size:=qQ (qA hx)
 have T0:Looks (model prog w) h (typeOf (.ref x)) (.ref C):=by
  have:Looks (model prog w) h (typeOf (.ref x)) o.cls:=(Looks.ld hx).andThen .now;rw[hc]at this;exact this
 have M0:Looks (model prog w) h (mroOf (.ref C)) (.ref C::bm):=((Looks.ld (part:=none) hC).andThen .now).andThen .now
 have S0:Looks (model prog w) h (isInstance (.ref x) (.type "object")) true:=by
  refine T0.andThen ?_;intro A' Q' E' s' kk qq;obtain⟨h2,g2,d2,t2,os2⟩:=s';refine wpAny_isSubtype_exc (kk _ _ hC) ?_;rw[List.contains_cons,hob,Bool.or_true];exact qq
 unfold setAttr callSpecial? specialOf;refine qb (wpAny_mkText ?_);show wpAny _ _ _ _ _ ⟨h,g,d,t+1,os⟩;have here:∀{α:Type}{A':Around}{p:Sem α}{r:α}{Q':α->Shared->Prop}{E':Yq},Looks (model prog w) h p r->Q' r ⟨h,g,d,t+1,os⟩->wpAny (model prog w) A' p Q' E' ⟨h,g,d,t+1,os⟩:=λL qq=>L _ _ _ _ (λ_ _ e=>e) qq;refine qb (qb (qb (here T0 (here L2 ?_))));refine QG (qb (wpAny_of_eq f3 (qb (wpAny_call ?_))));show codeAny (model prog w) A (.call (.builtin "object.__setattr__") ⟨[.ref x,.str name t,v],[]⟩) _ ⟨h,g,d,t+1,os⟩;refine codeAny_call_builtin SF.slot.plain SF.entry (@check_slot (model prog w) _ _ ⟨h,g,d,t+1,os⟩ "object.__setattr__" "object" "__setattr__" (.ref x) [.str name t,v] [] _ SF.kind SF.split S0 (SF.args (.ref x) (.str name t) v) ?_);rw[osa_eq,refuse_eq];refine qb (qb (here T0 (qb (here M0 ?_))));rw[refuseLoop_ref,hpass];refine qh (qb (here T0 (qb (here L1 (qb (qh ?_))))));unfold Builtin.ObjectAttr.storeInOwnDict Builtin.ObjectAttr.ownDictForStores instanceDict
 repeat (first|(with_reducible refine wpAny_loadPart_at hx ?_;rw[hc])|with_reducible refine wpAny_loadPart_at hC ?_|wp_step)
 rw[hdn,hdt];dsimp only;rw[Qb (show ¬ (!true || !typeHasDict (Value.ref C))=true by simp[typeHasDict])];refine qb (wpAny_alloc' ?_);have hx1:(h.push { cls:=.type "dict",data:=.dict #[] }).get? x=some o:=qe _ hx;refine qb (wpAny_update' hx1 ?_);refine qh ?_
 have hx2:((h.push { cls:=.type "dict",data:=.dict #[] }).update x λo=>{ cls:=o.cls,dict:=some h.objs.size,data:=o.data,slots:=o.slots }).get? x=some { o with dict:=some h.objs.size }:=by
  refine Qr _ hx1 ?_;exact Obj.isFreed_of_fields (vs:=fs) hdt
 have hd2:((h.push { cls:=.type "dict",data:=.dict #[] }).update x λo=>{ cls:=o.cls,dict:=some h.objs.size,data:=o.data,slots:=o.slots }).Ns h.objs.size (λ_=>none):=
  ⟨_,#[],_,(Heap.get?_update_ne _ _ _ _ hxs.symm).trans (Heap.get?_push_at U U),U,λe he=>Qf he (by simp),λ_=>U⟩
 show wpAny _ _ (Builtin.ObjectAttr.storeInDict h.objs.size (.str name t) name v) _ _ _;unfold Builtin.ObjectAttr.storeInDict Builtin.ObjectAttr.newKeyGuard;refine qb (qh (qb (wpAny_nsSet1 (Heap.Ns1.of_empty hd2) λh' hn' hs=>?_)));obtain⟨oD,esD,epD,hoD,hdD,hcD⟩:=hn'.count (Within.cons name v Within.nil);refine qb (wpAny_lookBehind hoD (by rw[hdD];exact pastItsLine_dict (qJ hcD (by rw[qL,List.length_nil,sizeLine_eq];omega))) ?_)
 wp_walk
 refine hq h' _ ?_ ((hs.2 x hxs).trans hx2) (λb ob hbx hb=>?_)
 .obtain⟨o',es,ep,e1,e2,e3,eu,e4⟩:=hn';exact⟨o',es,ep,e1,e2,e3,eu,λy=>by rw[e4 y]⟩
 .exact(hs.2 b (qQ (qA hb))).trans ((Heap.get?_update_ne _ _ _ _ hbx).trans (qe _ hb))
end
section
variable {prog:Program}{w:World}{A:Around}{R:Result->Shared->Prop}{E:Yq}{h:Heap}{g:Array GenState}{d:Drawn}{t:Nat}{os:OsState}
variable {nm q:Str}{C N e:Addr}{bs bm:List Value}{hdct:Bool}{sn:List Str}{sub:List Value}{ab:Bool}{col:Option Bool}{dd:Option Addr}{k0 k1 k2 k3 k5:Option Value}{newId:String}{oe:Obj}
theorem xU{M:Model}{rest:List Value}{Q:Unit->Shared->Prop}(hV:bm.contains (.type "ValueError")=true)(hC:h.get? C=some (excClassObj nm q C N bs bm hdct sn sub ab col dd k0 k1 k2 k3 k5 newId))(he:h.get? e=some oe)(hc:oe.cls=.ref C)
 (hq:Q () ⟨h,g,d,t,os⟩):wpAny M A (checkBuiltinCall "ValueError.__init__" ⟨.ref e::rest,[]⟩) Q E ⟨h,g,d,t,os⟩:=by
 have F:=PySem.F.excBase_ValueError
 have c1:(Value.ref C::bm).contains (.type "ValueError")=true:=by
  rw[List.contains_cons,hV];exact Bool.or_true _
 have hs:=F.noStar;simp only[checkBuiltinCall,F.initSplit,F.initKind,F.initRow]
 repeat (first|(with_reducible refine wpAny_isSubtype_exc hC ?_;rw[c1])|with_reducible refine wpAny_loadPart_at hC ?_|(with_reducible refine wpAny_loadPart_at he ?_;rw[hc])|wp_step)
 refine wpAny_onRaise ?_;have z:∀(a b:String)(n:Nat),Bind.check ⟨.positional,"*","ValueError",.self,[⟨"args",.varPos,false⟩]⟩ a b n (List.map (λx=>x.fst) ({ pos:=Value.ref e::rest }:Args).kw)=pure ():=λa b n=>check_star_args _ _ _ _ _ _;rw[z];exact qh hq
theorem xS{z:Value}{t0:Addr}{Q:Yq}(hV:bm.contains (.type "ValueError")=true)(hC:h.get? C=some (excClassObj nm q C N bs bm hdct sn sub ab col dd k0 k1 k2 k3 k5 newId))(he:h.get? e=some (fS C t0))
 (hq:∀h' t1,(∀b o,b≠e->h.get? b=some o->h'.get? b=some o)->h'.get? e=some (fS C t1)->Q .none ⟨h',g,d,t,os⟩):
 wpAny (model prog w) A (call (.builtin "ValueError.__init__") [.ref e,z]) Q E ⟨h,g,d,t,os⟩:=by
 have F:=PySem.F.excBase_ValueError;refine wpAny_call (codeAny_call_builtin F.init.plain F.initEntry (xU hV hC he U ?_))
 wp_walk
 refine hq _ h.objs.size (λb o hb e=>?_) ?_
 .rw[QE _ _ (Ne.symm hb)];exact qe _ e
 .rw[Qr _ (qe _ he) U]
  rfl
end
noncomputable def XO0(C a:Addr):HO:=.ext λh=>∃t,h.get? a=some (fS C t)
noncomputable def XO1(C a dx:Addr):HO:=.ext λh=>∃t,h.get? a=some { fS C t with dict:=some dx }
structure fV(K:W.Frag)(C f:Addr):Prop where
 ob:∃nm q N bs bm sn sub ab col dd k0 k1 k2 k3 k5,K.lookup C=some (excClassObj nm q C N bs bm true sn sub ab col dd k0 k1 k2 k3 k5 "ValueError.__new__")/\bm.contains (.type "ValueError")=true/\bm.contains (.type "BaseException")=true /\
  bm.contains (.type "object")=true/\bm.contains (.type "AttributeError")=false/\bm.contains (.type "NameError")=false/\∀self,refuseLoop self "__setattr__" bm=pure ()
 init:findIn K (.ref C) "__init__"=some (some (.ref f))
 fn:isFn K (.ref f)=true
 sa:findIn K (.ref C) "__setattr__"=some (some (.builtin "object.__setattr__"))
 pl:findIn K (.ref C) "place"=some none
 kp:keepIn K (.ref C)=true
theorem yi:Manifest.isStub "ValueError"=false:=Yd
theorem yh:typeOf (.type "ValueError")=pure (.type "type"):=by kernel_rfl
theorem yk{K:W.Frag}:findCls K (.type "ValueError") (.type "type") "__init__"=some (.val (.builtin "ValueError.__init__")):=by rfl
theorem yj:handedIn (.builtin "ValueError.__init__")=true:=Yd
section
variable {X:Cx}{pins:List (Addr×Obj)}{Y:St}{H:Hp}{s:Shared}{a C f dx:Addr}
theorem ym(e:H a=some o):upd H a o=H:=by
 funext b
 by_cases hb:b=a
 .rw[hb,ag,e]
 .rw[ae hb]
theorem XO0.ok{P:Program}{w:World}{h:Heap}{t:Addr}(e:h.get? a=some (fS C t)):bp P w H h a (XO0 C a):=
 ⟨⟨t,e⟩,⟨_,e⟩,λh1 h2 ⟨t,q⟩ k=>⟨t,k _ q⟩⟩
theorem XO1.ok{P:Program}{w:World}{h:Heap}{t:Addr}(e:h.get? a=some { fS C t with dict:=some dx }):bp P w H h a (XO1 C a dx):=
 ⟨⟨t,e⟩,⟨_,e⟩,λh1 h2 ⟨t,q⟩ k=>⟨t,k _ q⟩⟩
def yC(K:W.Frag)(t:TA):TE:=λY H Q=>t Y H λvs H1=>∃a C f z,vs=[.ref a,z]/\H1 a=some (XO0 C a)/\fV K C f/\Q .non H1
theorem C1{pl:Sem Bool}{e1 e2:Expr}{p ap pos:Pos}{t:TA}(hg:Gl X "ValueError")(hm:X.mg "ValueError"=none)(ha:PA X [e1,e2] t)
 (ht:eval (.Call (.Attribute (.Name "ValueError" p) "__init__" ap) [e1,e2] [] pos) X.env=(do
  let ov <- eval (.Name "ValueError" p) X.env
  standAt ap.atName
  let (f,first) <- holding [ov] (getMethod ov "__init__" pl)
  callWith pos f first (backTo pos (starEach [e1,e2] X.env)) (backToKw pos (keywordEach [] X.env))):=by rfl)
 (hs:starEach [e1,e2] X.env=(false,eval e1 X.env)::starEach [e2] X.env:=by rfl) (hpl:(backTo pos (starEach [e2] X.env)).any (·.1)=false:=by rfl):
 PE X (.Call (.Attribute (.Name "ValueError" p) "__init__" ap) [e1,e2] [] pos) (yC X.K t):=by
 intro pins s Y H Q I h;refine methodCall_KW (pl:=pl) (fk I hg hm PyProof.Rows.Boot.«ValueError» ?_) ht;obtain⟨m,F⟩:=I.fr;refine method_type (T:="ValueError") (K:=X.K) (name:="__init__") (v:=.builtin "ValueError.__init__") (pl:=pl) F I.ok.mod.kin yh yi yk yj ?_;have hA:=ha pos pins { s with toks:=s.toks+1 } Y H _ (I.tok _) h;rw[hs]at hA ⊢;refine Calls.callWith_builtin (by show(false || (backTo pos (starEach [e2] X.env)).any (·.1))=false;rw[hpl]<;>rfl) (Calls.evalArgs_plain ?_);refine thn hA λus s2 ⟨vs,H2,I2,r2,a,C,f,z,ev,ea,c,q2⟩=>?_;subst ev;obtain⟨u1,u2,rfl,r1,_⟩:=gB r2;obtain rfl:u1=Value.ref a:=r1;obtain⟨⟨t0,he⟩,_,_⟩:=I2.hok a _ ea;obtain⟨nm,q,N,bs,bm,sn,sub,ab,col,dd,k0,k1,k2,k3,k5,lk,b1,b2,b3,b4,b5,b6⟩:=c.ob;obtain⟨hh,g,d,t,os⟩:=s2;refine xS (t0:=t0) b1 (I2.kIn _ _ lk) he λh' t1 kk he'=>?_;have I3:=I2.write (x:=a) (e:=a) (o:=XO0 C a) (h':=h') (t':=t) (by rw[ea];exact True.intro) (.inl U) kk ⟨_,he'⟩ (XO0.ok he');rw[ym ea]at I3;exact⟨.non,H2,I3,U,q2⟩
end
section
variable {X:Cx}{pins:List (Addr×Obj)}{Y:St}{H:Hp}{s:Shared}{a C f dx:Addr}{h':Heap}
theorem Inv.xset{o1 o2:HO}{t':Nat}{φ:Heap->Prop}(I:Inv X pins Y H s)(ea:H a=some (.ext φ))(hdx:s.heap.objs.size<=dx)(k:∀b u,b≠a->s.heap.get? b=some u->h'.get? b=some u)(ha:∃u,h'.get? a=some u)
 (n1:bp X.prog X.w (upd (upd H dx o1) a o2) h' dx o1) (n2:bp X.prog X.w (upd (upd H dx o1) a o2) h' a o2):Inv X pins Y (upd (upd H dx o1) a o2) { s with heap:=h',toks:=t' }:=by
 have hn:H dx=none:=I.hok.fresh hdx;have nea:dx≠a:=λe=>by rw[e,ea]at hn;cases hn
 have at_:∀b,b≠a->b≠dx->upd (upd H dx o1) a o2 b=H b:=λb h1 h2=>by rw[ae h1,ae h2]
 have nb:∀b,H b=none->b≠a:=λb e z=>by rw[z,ea]at e;cases e
 have lt:∀b o,s.heap.get? b=some o->b≠dx:=λb o e=>qQ (qN (qA e) hdx)
 have tr:∀b (o:HO),H b=some o->(∀ψ,o≠.ext ψ)->upd (upd H dx o1) a o2 b=some o:=λb o e hne=>by
  rw[at_ b (λz=>by rw[z,ea]at e;exact hne φ (qT e).symm) (bW e hn)];exact e
 refine I.un ⟨λb u q n _ _=>k b u (nb b n) q,λb u q n _ _=>⟨u.slots,k b u (nb b n) q⟩,λb u q n _=>by rw[at_ b (nb b n) (lt b u q)];exact n,λb u q _=>?_,λb xs e=>tr b _ e (λ_ z=>by cases z),λb o u e=>tr b _ e (λ_ z=>by cases z),
  λb ps e=>⟨#[],by rw[tr b _ e (λ_ z=>by cases z)];simp⟩⟩ ?_
 .by_cases hb:b=a
  .rw[hb];exact ha
  .exact⟨u,k b u hb q⟩
 .intro c u e;by_cases h1:c=a
  .subst h1;rw[ag]at e;cases e;exact n2
  .by_cases h2:c=dx
   .subst h2;rw[ae h1,ag]at e;cases e;exact n1
   .rw[at_ c h1 h2]at e;refine(I.hok c u e).stay (λb v hb q=>k b v ?_ q) (λb q=>tr b _ q (λ_ z=>by cases z)) λb xs q=>tr b _ q (λ_ z=>by cases z);rcases hb with rfl|hb
    .exact h1
    .intro z;rw[z,ea]at hb;cases hb
def AK(K:W.Frag)(ta tv:TE):TS:=λD Y H=>tv Y H λy H1=>ta Y H1 λx H2=>∃a C f,x=.ref a/\H2 a=some (XO0 C a)/\fV K C f/\∀dx,H2 dx=none->D.nx Y (upd (upd H2 dx (.xd [("place",y)])) a (XO1 C a dx))
theorem BJ{o value:Expr}{ta tv:TE}{pos' pos:Pos}(ha:PE X o ta)(hv:PE X value tv)(hs:swapsWith value (some (.Attribute o "place" pos')) pos.line X.env=pure false):PS X (.Assign [.Attribute o "place" pos'] value pos) (AK X.K ta tv):=by
 intro pins s Y H D I h;refine plainObj_wpAny_Assign_Attribute (thn (hv pins s Y H _ I h) λu s1 ⟨y,H1,I1,ry,q⟩=>thn (ha pins s1 Y H1 _ I1 q) λov s2 ⟨x,H2,I2,rx,a,C,f,ex,ea,c,q2⟩=>?_) hs;subst ex;obtain rfl:ov=Value.ref a:=rx;obtain⟨⟨t0,he⟩,_,_⟩:=I2.hok a _ ea;obtain⟨nm,q,N,bs,bm,sn,sub,ab,col,dd,k0,k1,k2,k3,k5,lk,b1,b2,b3,b4,b5,b6⟩:=c.ob;obtain⟨hh,g,d,t,os⟩:=s2;refine xP (fs:=#[.ref t0,.none,.none,.none,.bool false,.none]) he U U U (I2.kIn _ _ lk) b3 b6 (looks_findIn I2.kIn c.pl) (looks_findIn I2.kIn c.sa) λh' tk' ns hx kk=>?_;have hdx:H2 hh.objs.size=none:=I2.hok.fresh (qi _);refine⟨Y,_,Inv.xset (dx:=hh.objs.size) (o1:=.xd [("place",y)]) (o2:=XO1 C a hh.objs.size) (t':=tk') I2 ea (qi _) kk ⟨_,hx⟩ ⟨_,ns,λz=>?_⟩ (XO1.ok hx),q2 _ hdx⟩;by_cases hz:z="place"
 .subst hz;rw[Qc U];exact ry
 .rw[Qb hz]
  have:([("place",y)]:List (Str×V)).lookup z=none:=by
   simp[List.lookup];split
   .rename_i hh;exact Qf (by simpa using hh) hz
   .rfl
  rw[this]
  trivial
end
section
variable {M:Model}{A:Around}{E:Yq}{s:Shared}{base:Heap}{env:Env}{outer:List Env}{L e:Addr}{oe:Obj}{vs:Array Value}
structure Lft(l:List Env)(e:Addr)(oe:Obj)(vs:Array Value)(ex:List Addr)(fl:Value)(h h':Heap):Prop where
 keep:∀b o,h.get? b=some o->b≠e->b∉ex->b∉frs l->h'.get? b=some o
 slot:∀b o,h.get? b=some o->b∈frs l->∃sl,h'.get? b=some { o with slots:=sl }
 there:∃T oT ts,h.objs.size<=T/\T≠e/\h'.get? e=some { oe with data:=.fields (vs.setIfInBounds 1 (.ref T)) }/\h'.get? T=some oT/\oT.data=.fields ts/\ts[3]?=some fl
theorem vz(hl:s.heap.FunFrames base (env::outer))(he:s.heap.get? e=some oe)(hd:oe.data=.fields vs):e∉frs (env::outer):=λhm=>by
 obtain⟨_,o,ho,hnf⟩:=hl.mem hm;rw[he]at ho;cases ho;exact hnf vs hd
theorem vH{head:Value}{hadNext:Bool}{Q:Unit->Shared->Prop}(hfr:A.frames=some (env::outer))(hl:s.heap.FunFrames base (env::outer))(hf:env.frame=some L)(he:s.heap.get? e=some oe)(hd:oe.data=.fields vs)(hz:1<vs.size)
 (hq:∀h',Lft (env::outer) e oe vs [] (rawInt L) s.heap h'->Q () { s with heap:=h' }):
 wpAny M A (do let a <- frameOf env;let pl <- entryPlaceOf L hadNext;let b <- EntryCells.newEntry head a .none (rawInt L) .none pl;setField (.ref e) 1 b) Q E s:=by
 have hne:=vz hl he hd;refine qb (wpAny_frameOf_fun hfr hl hf λh1 hs=>?_);refine qb (wpAny_entryPlaceOf λpl hp=>?_);unfold EntryCells.newEntry newFields;refine qb (wpAny_newObj_type ?_ (hp.sizeOk5 _ _ _ _ _));have e1:h1.get? e=some oe:=(hs.2.1 e hne).trans he;have e2:=qe (h:=h1) { cls:=.type "traceback",dict:=none,data:=.fields ([head,.ref L,.none,rawInt L,.none]++(if pl.isEmpty then List.replicate 6 Value.none else pl)).toArray } e1;refine wpAny_setField e2 hd hz (hq _ ?_);have nT:h1.objs.size≠e:=Nat.ne_of_gt (qA e1);have d3:=Obj.data_mapFields hd (·.setIfInBounds 1 (Value.ref h1.objs.size))
 have fresh:s.heap.objs.size<=h1.objs.size:=by
  first|exact Nat.le_of_eq hs.1|exact Nat.le_of_eq hs.1.symm
 refine⟨λb o hb h2 _ h3=>?_,λb o hb hm=>?_,h1.objs.size,{ cls:=.type "traceback",dict:=none,data:=.fields ([head,.ref L,.none,rawInt L,.none]++(if pl.isEmpty then List.replicate 6 Value.none else pl)).toArray },([head,.ref L,.none,rawInt L,.none]++(if pl.isEmpty then List.replicate 6 Value.none else pl)).toArray,fresh,nT,?_,?_,U,?_⟩
 .rw[QE _ _ (Ne.symm h2)];exact qe _ ((hs.2.1 b h3).trans hb)
 .obtain⟨sl,z⟩:=hs.2.2 b o hb;refine⟨sl,?_⟩;have h2:b≠e:=λq=>hne (q▸hm);rw[QE _ _ (Ne.symm h2)];exact qe _ z
 .refine(Qr _ e2 (Obj.isFreed_of_fields d3)).trans ?_
  congr 1
  obtain⟨c1,c2,c3,c4⟩:=oe;cases hd
  rfl
 .exact(QE _ _ (Ne.symm nT)).trans (qz h1 U)
 .first|(simp;done)|(rcases hp with rfl|⟨_,_,_,_,_,_,_,rfl⟩<;>simp)
theorem DH{Q:Unit->Shared->Prop}(hfr:A.frames=some (env::outer))(hl:s.heap.FunFrames base (env::outer))(hf:env.frame=some L)(he:s.heap.get? e=some oe)(hd:oe.data=.fields vs)(h1:vs[1]?=some .none)
 (hq:∀h',Lft (env::outer) e oe vs [] (rawInt L) s.heap h'->Q () { s with heap:=h' }):wpAny M A (noteFrame (.ref e) env) Q E s:=by
 unfold noteFrame;simp only[hf];refine qb (wpAny_field he hd h1 ?_);rw[Qb Yk];exact vH hfr hl hf he hd (Array.getElem?_eq_some_iff.mp h1).1 hq
theorem vq{T:Addr}{oT:Obj}{ts:Array Value}{Q:Unit->Shared->Prop}(hfr:A.frames=some (env::outer))(hl:s.heap.FunFrames base (env::outer))(hf:env.frame=some L)(he:s.heap.get? e=some oe)(hd:oe.data=.fields vs)
 (h1:vs[1]?=some (.ref T)) (hTe:T≠e) (hT:s.heap.get? T=some oT) (hdT:oT.data=.fields ts) (h3:ts[3]?=some .none)
 (hq:∀h',Lft (env::outer) e oe vs [T] (rawInt L) s.heap h'->Q () { s with heap:=h' }):wpAny M A (noteFrame (.ref e) env) Q E s:=by
 unfold noteFrame;simp only[hf];refine qb (wpAny_field he hd h1 ?_);rw[Qc (by simp:(Value.ref T != Value.none)=true)];refine qb (wpAny_field hT hdT h3 ?_);rw[Qb (by simp[rawInt]:¬ (Value.none == rawInt L)=true)];refine qb (wpAny_setField hT hdT (Array.getElem?_eq_some_iff.mp h3).1 ?_);have oth:∀b,b≠T->(s.heap.update T (Obj.mapFields (·.setIfInBounds 3 Value.none))).get? b=s.heap.get? b:=λb hb=>QE _ _ (Ne.symm hb)
 have nf:∀b o,s.heap.get? b=some o->(∀vs,o.data≠.fields vs)->b≠T:=λb o hb hn z=>by
  rw[z,hT]at hb;cases hb;exact hn ts hdT
 have hTfr:=vz (e:=T) hl hT hdT;refine vH (s:={ s with heap:=s.heap.update T (Obj.mapFields (·.setIfInBounds 3 Value.none)) }) hfr (hl.of_keeps λb o hb hn=>⟨o,(oth b (nf b o hb hn)).trans hb,U⟩) hf ((oth e (Ne.symm hTe)).trans he) hd (Array.getElem?_eq_some_iff.mp h1).1 λh' z=>hq h' ?_;obtain⟨z1,z2,T2,o2,t2,y1,y2,y3,y4,y5,y6⟩:=z;refine⟨λb o hb q1 q2 q3=>z1 b o ((oth b (by simpa using q2)).trans hb) q1 (by simp) q3,λb o hb hm=>z2 b o ((oth b λq=>hTfr (q▸hm)).trans hb) hm,T2,o2,t2,?_,y2,y3,y4,y5,y6⟩;have y1':(s.heap.update T (Obj.mapFields (·.setIfInBounds 3 Value.none))).objs.size<=T2:=y1;rw[Heap.size_update]at y1';exact y1'
theorem pE{h0:Heap}{ex:List Addr}{fl:Value}{Q:Unit->Shared->Prop}(z:Lft (env::outer) e oe vs ex fl h0 s.heap)(hl:h0.FunFrames base (env::outer))(he0:h0.get? e=some oe)(hd:oe.data=.fields vs)(hsz:1<vs.size)
 (hq:∀h',Lft (env::outer) e oe vs ex .none h0 h'->Q () { s with heap:=h' }):wpAny M A (setFlight (.ref e) none) Q E s:=by
 obtain⟨z1,z2,T,oT,ts,y1,y2,y3,y4,y5,y6⟩:=z;unfold setFlight;refine qb (wpAny_field y3 U (x:=.ref T) (by simp[hsz]) ?_);rw[Qc (by simp:(Value.ref T != Value.none)=true)];refine wpAny_setField y4 y5 (Array.getElem?_eq_some_iff.mp y6).1 (hq _ ?_);have nb:∀b o,h0.get? b=some o->b≠T:=λb o hb q=>Qf (qA hb) (by rw[q];exact Nat.not_lt.mpr y1);refine⟨λb o hb q1 q2 q3=>(QE _ _ (Ne.symm (nb b o hb))).trans (z1 b o hb q1 q2 q3),λb o hb hm=>?_,T,_,_,y1,y2,(QE _ _ y2).trans y3,Qr _ y4 (Obj.isFreed_of_fields (Obj.data_mapFields y5 _)),Obj.data_mapFields y5 _,?_⟩
 .obtain⟨sl,w⟩:=z2 b o hb hm;exact⟨sl,(QE _ _ (Ne.symm (nb b o hb))).trans w⟩
 .have:=(Array.getElem?_eq_some_iff.mp y6).1;simp[this]
theorem DX{Q:Unit->Shared->Prop}(hfr:A.frames=some (env::outer))(hl:s.heap.FunFrames base (env::outer))(hf:env.frame=some L)(he:s.heap.get? e=some oe)(hd:oe.data=.fields vs)(h1:vs[1]?=some .none)
 (hq:∀h',Lft (env::outer) e oe vs [] .none s.heap h'->Q () { s with heap:=h' }):wpAny M A (leaving env (.ref e)) Q E s:=by
 unfold leaving;exact qb (DH hfr hl hf he hd h1 λh1' z=>pE z hl he hd (Array.getElem?_eq_some_iff.mp h1).1 hq)
theorem DW{T:Addr}{oT:Obj}{ts:Array Value}{Q:Unit->Shared->Prop}(hfr:A.frames=some (env::outer))(hl:s.heap.FunFrames base (env::outer))(hf:env.frame=some L)(he:s.heap.get? e=some oe)(hd:oe.data=.fields vs)
 (h1:vs[1]?=some (.ref T)) (hTe:T≠e) (hT:s.heap.get? T=some oT) (hdT:oT.data=.fields ts) (h3:ts[3]?=some .none)
 (hq:∀h',Lft (env::outer) e oe vs [T] .none s.heap h'->Q () { s with heap:=h' }):wpAny M A (leaving env (.ref e)) Q E s:=by
 unfold leaving;exact qb (vq hfr hl hf he hd h1 hTe hT hdT h3 λh1' z=>pE z hl he hd (Array.getElem?_eq_some_iff.mp h1).1 hq)
end
noncomputable def del(H:Hp)(a:Addr):Hp:=λb=>if b=a then none else H b
theorem lq{H:Hp}{a:Addr}:del H a a=none:=by unfold del;rw[Qc U]
theorem gz{H:Hp}{a b:Addr}(h:b≠a):del H a b=H b:=by unfold del;rw[Qb h]
theorem Fi{H:Hp}{a b:Addr}{o:HO}(h:del H a b=some o):b≠a/\H b=some o:=by
 by_cases e:b=a
 .rw[e,lq]at h;cases h
 .rw[gz e]at h;exact⟨e,h⟩
theorem wQ{H:Hp}{a b:Addr}(h:H b=none):del H a b=none:=by
 by_cases e:b=a
 .rw[e,lq]
 .rw[gz e];exact h
def xu(h:Heap)(a C dx T:Addr):Prop:=∃oe vs oT ts,h.get? a=some oe/\oe.cls=.ref C/\oe.dict=some dx/\oe.data=.fields vs/\vs[1]?=some (.ref T)/\T≠a/\h.get? T=some oT/\oT.data=.fields ts/\ts[3]?=some .none
def CXX(P:Program)(w:World):CXT:=λouter H s E e s'=>∃a C dx T H',e=.ref a/\s'.os=s.os/\AllBare s'.gens/\Un (frs outer) [] H H' s.heap s'.heap/\HOk P w H' s'.heap/\xu s'.heap a C dx T /\
 s.heap.objs.size<=a/\s.heap.objs.size<=T/\H' a=none/\H' T=none/\E (.ref C) (some dx) H'
theorem Lft.fly{l:List Env}{e C dx:Addr}{oe:Obj}{vs:Array Value}{ex:List Addr}{h h':Heap}(z:Lft l e oe vs ex .none h h')(hc:oe.cls=.ref C)(hd:oe.dict=some dx)(hz:1<vs.size):∃T,h.objs.size<=T/\xu h' e C dx T:=by
 obtain⟨T,oT,ts,y1,y2,y3,y4,y5,y6⟩:=z.there;exact⟨T,y1,_,_,oT,ts,y3,hc,hd,U,by simp[hz],y2,y4,y5,y6⟩
section
variable {P:Program}{w:World}{K:W.Frag}{mg:Str->Option Value}{base:Heap}{N:List Str}{qual:Str}{scope:Scope}{f:Addr}{cdv:Value}{A:Around}{outer:List Env}{s0:Shared}{H0:Hp}{E:XK}
theorem vP{pins:List (Addr×Obj)}{Y:St}{H H':Hp}{s:Shared}{h':Heap}{e:Addr}{oe:Obj}{vs:Array Value}{ex:List Addr}(I:Inv (bN (CXX P w) P w K mg base N qual scope f cdv A outer s0 H0 E) pins Y H s)(z:Lft (bN (CXX P w) P w K mg base N qual scope f cdv A outer s0 H0 E).stack e oe vs ex .none s.heap h')
 (he:s0.heap.get? e=none) (hex:∀b∈ex,s0.heap.get? b=none/\H b=none) (hH:H'=del H e) (hext:H e=none\/∃φ,H e=some (.ext φ)):
 Un (frs outer) [] H0 H' s0.heap h'/\HOk P w H' h':=by
 subst hH;have B:Un (frs outer) [] H0 H s0.heap s.heap:=I.base
 have nL:∀b o,s0.heap.get? b=some o->b∉frs outer->b∉frs (bN (CXX P w) P w K mg base N qual scope f cdv A outer s0 H0 E).stack:=λb o hb hn hm=>by
  have hm':b∈s0.heap.objs.size::frs outer:=hm;rcases qF.mp hm' with q|q
  .exact Qf (qA hb) (by rw[q];exact Qm _)
  .exact hn q
 have inL:∀b,b∈frs outer->b∈frs (bN (CXX P w) P w K mg base N qual scope f cdv A outer s0 H0 E).stack:=λb hb=>qw (a:=b) s0.heap.objs.size hb;have ne:∀b o,s0.heap.get? b=some o->b≠e:=λb o hb q=>by rw[q,he]at hb;cases hb
 have nex:∀b o,s0.heap.get? b=some o->b∉ex:=λb o hb q=>by rw[(hex b q).1]at hb;cases hb
 have tr:∀b (o:HO),H b=some o->(∀ψ,o≠.ext ψ)->del H e b=some o:=λb o hb hne=>by
  rw[gz]
  .exact hb
  .intro q;rw[q]at hb;rcases hext with z|⟨φ,z⟩
   .rw[z]at hb;cases hb
   .rw[z]at hb;exact hne φ (qT hb).symm
 refine⟨⟨λb o hb hn h1 h2=>z.keep b o (B.keep b o hb hn h1 h2) (ne b o hb) (nex b o hb) (nL b o hb h1),λb o hb hn h1 h2=>?_,λb o hb hn h2=>wQ (B.free b o hb hn h2),λb o hb h2=>?_,λb xs q=>tr b _ (B.tups b xs q) (λ_ y=>by cases y),
  λb o u q=>tr b _ (B.frzs b o u q) (λ_ y=>by cases y),λb ps q=>?_⟩,λc u q=>?_⟩
 .obtain⟨sl,y⟩:=B.slot b o hb hn h1 h2;obtain⟨sl',y'⟩:=z.slot b _ y (inL b h1);exact⟨sl',y'⟩
 .obtain⟨o',y⟩:=B.there b o hb h2;by_cases hm:b∈frs (bN (CXX P w) P w K mg base N qual scope f cdv A outer s0 H0 E).stack
  .obtain⟨sl,y'⟩:=z.slot b o' y hm;exact⟨_,y'⟩
  .exact⟨o',z.keep b o' y (ne b o hb) (nex b o hb) hm⟩
 .obtain⟨more,y⟩:=B.tbls b ps q;exact⟨more,tr b _ y (λ_ y=>by cases y)⟩
 .obtain⟨ce,q⟩:=Fi q;refine(I.hok c u q).stay (λb v hb hv=>z.keep b v hv ?_ ?_ ?_) (λb y=>tr b _ y (λ_ y=>by cases y)) λb xs y=>tr b _ y (λ_ y=>by cases y)
  .rcases hb with rfl|hb
   .exact ce
   .intro y;rw[y]at hb;rcases hext with z|⟨φ,z⟩<;>· rw[z]at hb;cases hb
  .intro y;have:=(hex b y).2;rcases hb with rfl|hb
   .rw[q]at this;cases this
   .rw[hb]at this;cases this
  .intro y;have:=I.stkFree b y;rcases hb with rfl|hb
   .rw[q]at this;cases this
   .rw[hb]at this;cases this
theorem Bc{pins:List (Addr×Obj)}{Y:St}{H:Hp}{s:Shared}{a C dx:Addr}(I:Inv (bN (CXX P w) P w K mg base N qual scope f cdv A outer s0 H0 E) pins Y H s)(ea:H a=some (XO1 C a dx))(hnew:s0.heap.objs.size<=a)(q:E (.ref C) (some dx) (del H a)):(bN (CXX P w) P w K mg base N qual scope f cdv A outer s0 H0 E).xe (.ref a) s:=by
 have sz:s0.heap.objs.size<=s.heap.objs.size:=I.sz;obtain⟨⟨t0,he⟩,_,_⟩:=I.hok a _ ea;have hl:s.heap.FunFrames base (bN (CXX P w) P w K mg base N qual scope f cdv A outer s0 H0 E).stack:=I.stack;have hfr:(bN (CXX P w) P w K mg base N qual scope f cdv A outer s0 H0 E).A.frames=some (bN (CXX P w) P w K mg base N qual scope f cdv A outer s0 H0 E).stack:=I.ok.frames;show wpAny (model P w) (bN (CXX P w) P w K mg base N qual scope f cdv A outer s0 H0 E).A (leaving (bN (CXX P w) P w K mg base N qual scope f cdv A outer s0 H0 E).env (.ref a)) _ _ s;refine DX (vs:=#[.ref t0,.none,.none,.none,.bool false,.none]) hfr hl U he U U λh' z=>?_;obtain⟨T,hT,fly⟩:=Lft.fly (C:=C) (dx:=dx) z U U (show 1<6 by decide);obtain⟨un,hok⟩:=vP I z (Heap.get?_none_of_le hnew) (λb hb=>Qf hb (by simp)) U (.inr ⟨_,ea⟩);exact⟨a,C,dx,T,del H a,U,I.os,I.bare,un,hok,fly,hnew,qJ sz hT,lq,wQ (I.hok.fresh hT),q⟩
theorem eY:gA (CXX P w) (bN (CXX P w) P w K mg base N qual scope f cdv A outer s0 H0 E) E:=by
 intro pins Y H s e s' I h;obtain⟨a,C,dx,T,H',rfl,os,bare,un,hok,fly,n1,n2,n3,n4,q⟩:=h;have J:Inv (bN (CXX P w) P w K mg base N qual scope f cdv A outer s0 H0 E) pins Y H' s':=I.call' (ch:=[]) os un hok bare λb hb=>Qf hb (by simp);obtain⟨oe,vs,oT,ts,y1,y2,y3,y4,y5,y6,y7,y8,y9⟩:=fly;have hl:s'.heap.FunFrames base (bN (CXX P w) P w K mg base N qual scope f cdv A outer s0 H0 E).stack:=J.stack;have hfr:(bN (CXX P w) P w K mg base N qual scope f cdv A outer s0 H0 E).A.frames=some (bN (CXX P w) P w K mg base N qual scope f cdv A outer s0 H0 E).stack:=J.ok.frames;have sz:s0.heap.objs.size<=s.heap.objs.size:=I.sz;have sz2:s0.heap.objs.size<=s'.heap.objs.size:=J.sz;have hsz:1<vs.size:=(Array.getElem?_eq_some_iff.mp y5).1;show wpAny (model P w) (bN (CXX P w) P w K mg base N qual scope f cdv A outer s0 H0 E).A (leaving (bN (CXX P w) P w K mg base N qual scope f cdv A outer s0 H0 E).env (.ref a)) _ _ s';refine DW (T:=T) hfr hl U y1 y4 y5 y6 y7 y8 y9 λh' z=>?_;obtain⟨T2,hT2,fly2⟩:=Lft.fly (C:=C) (dx:=dx) z y2 y3 hsz
 obtain⟨un2,hok2⟩:=vP J z (Heap.get?_none_of_le (qJ sz n1)) (λb hb=>by cases Q4.mp hb;exact⟨Heap.get?_none_of_le (qJ sz n2),n4⟩) (H':=H') (by
  funext b
  by_cases hb:b=a
  .rw[hb,lq,n3]
  .rw[gz hb]) (.inl n3)
 exact⟨a,C,dx,T2,H',U,J.os,J.bare,un2,hok2,fly2,qJ sz n1,qJ sz2 hT2,n3,J.hok.fresh hT2,q⟩
end
section
variable {M:Model}{A:Around}{E:Yq}{env:Env}
variable {nm q:Str}{C N:Addr}{bs bm:List Value}{hdct:Bool}{sn:List Str}{sub:List Value}{ab:Bool}{col:Option Bool}{dd:Option Addr}{k0 k1 k2 k3 k5:Option Value}{newId:String}
theorem xK{s:Shared}{x:Sem Value}{Q:Flow->Shared->Prop}(hb:bm.contains (.type "BaseException")=true)(hh:A.handled=none)
 (h:wpAny M A x (λv s1=>∃e t0 dx,v=.ref e/\s1.heap.get? C=some (excClassObj nm q C N bs bm hdct sn sub ab col dd k0 k1 k2 k3 k5 newId)/\s1.heap.get? e=some { cls:=.ref C,dict:=some dx,data:=.fields #[.ref t0,.none,.none,.none,.bool false,.none] }/\E (.ref e) s1) E s):
 wpAny M A (raiseStmt env (some x) none) Q E s:=by
 have c1:(Value.ref C::bm).contains (.type "BaseException")=true:=by
  rw[List.contains_cons,hb];exact Bool.or_true _
 unfold raiseStmt;refine qb (wpAny_mono h (λv s1 h1=>?_) λ_ _ y=>y);obtain⟨e,t0,dx,rfl,hC,he,hE⟩:=h1;obtain⟨hp,g,d,tk,os⟩:=s1
 repeat (first|with_reducible refine wpAny_loadPart_at hC ?_|with_reducible refine wpAny_loadPart_at he ?_|(with_reducible refine wpAny_isSubtype_exc hC ?_;rw[c1])|wp_step)
 exact wpAny_raiseNew_none hh hE
end
section
variable {X:Cx}{CX:CXT}{k:Nat}{f C:Addr}{fd:FuncData}{ps:List Str}{sp:Sp}{x:Str}{p pos cpos:Pos}{e:Expr}{es:List Expr}{t:TA}
theorem AN{pins:List (Addr×Obj)}{Y:St}{H:Hp}{s:Shared}{us:List Value}{vs:List V}{Qx:Addr->Addr->Hp->Prop}(c:fV X.K C f)(F:aB X.prog X.w X.K X.mg X.base CX0 k f fd ps sp)(hr:bG (k+1) X.A)(hb:aJ X.K fd ps [])
 (I:Inv X pins Y H s) (r:aw vs us) (hz:vs.length<=sizeLine)
 (h:∀a,H a=none->sp (.ref a::vs) (upd H a (XO0 C a)) (λv H2=>v=.non/\∃dx,H2 a=some (XO1 C a dx)/\Qx a dx H2) E0):
 wpAny (model X.prog X.w) X.A (call (.ref C) us) (λv s'=>∃a dx H2,v=.ref a/\s.heap.objs.size<=a/\Inv X pins Y H2 s'/\H2 a=some (XO1 C a dx)/\Qx a dx H2) X.xe s:=by
 obtain⟨nm,q,N,bs,bm,sn,sub,ab,col,dd,k0,k1,k2,k3,k5,lk,b1,b2,b3,b4,b5,b6⟩:=c.ob;have hq:=h (s.heap.objs.size+1) (I.hok.fresh (Nat.le_succ _));have kk:∀b o,s.heap.get? b=some o->(gT s.heap C us).get? b=some o:=λb o e=>qe _ (qe _ e);have hget:(gT s.heap C us).get? (s.heap.objs.size+1)=some (fS C s.heap.objs.size):=by heap_get
 have I2:Inv X pins Y (upd H (s.heap.objs.size+1) (XO0 C (s.heap.objs.size+1))) { s with heap:=gT s.heap C us }:=I.laid (t':=s.toks) kk (Nat.le_succ _) (XO0.ok hget);have r2:aw (V.ref (s.heap.objs.size+1)::vs) (Value.ref (s.heap.objs.size+1)::us):=.cons U r
 have hl:((Value.ref (s.heap.objs.size+1)::us)++[]).length=ps.length:=by
  rw[qI,<- r2.length];exact F.len _ _ _ _ hq
 have dz:=F.dz _ X.stack _ _ ⟨Value.ref (s.heap.objs.size+1)::us,[]⟩ (Value.ref (s.heap.objs.size+1)::us) _ _ E0 (hr.make C us []) (I2.env0.make C us []) (by have:=hb _ (Value.ref (s.heap.objs.size+1)::us) I2.kIn hl;rw[qI]at this;exact this) r2 hq;refine wpAny_call ?_;obtain⟨hh,g,d,t,os⟩:=s;refine xW (f:=f) b1 b4 b5 (I.kIn _ _ lk) (looks_findIn I.kIn c.init) (λself=>bind_fn I.kIn self (beq_iff_eq.mp c.fn)) (by rw[<- r.length];exact hz) (codeAny_mono dz λr s' hq'=>?_)
 cases r with
 |error e=>exact False.elim hq'
 |ok fl=>
  cases fl with
  |ret u=>
   obtain⟨v,H',I3,rv,ev,dx,q3,q4⟩:=I2.after hq';subst ev;exact⟨rv,_,dx,H',U,Nat.le_succ _,I3,q3,q4⟩
  |next=>exact False.elim hq'
  |brk=>exact False.elim hq'
  |cont=>exact False.elim hq'
def xx(X:Cx)(E:XK):Prop:=∀(pins:List (Addr×Obj))(Y:St)(H:Hp)(s:Shared)(a C dx:Addr),Inv X pins Y H s->H a=some (XO1 C a dx)->X.s₀.heap.objs.size<=a->E (.ref C) (some dx) (del H a)->X.xe (.ref a) s
def yH(C:Addr)(sp:Sp)(E:XK)(t:TA):TS:=λ_ Y H=>t Y H λvs H1=>vs.length<=sizeLine/\∀a,H1 a=none->sp (.ref a::vs) (upd H1 a (XO0 C a)) (λv H2=>v=.non/\∃dx,H2 a=some (XO1 C a dx)/\E (.ref C) (some dx) (del H2 a)) E0
theorem ox{E:XK}(c:fV X.K C f)(F:aB X.prog X.w X.K X.mg X.base CX0 k f fd ps sp)(hr:bG (k+1) X.A)(hb:aJ X.K fd ps [])(hg:Gl X x)(hm:X.mg x=some (.ref C))(hc:X.calm=true)(hE:xx X E)(ha:PA X (e::es) t)
 (hdb:(x == ("__debug__":Str))=false:=by decide) (he:starEach (e::es) X.env=(false,eval e X.env)::starEach es X.env:=by rfl) (hpl:(backTo cpos (starEach es X.env)).any (·.1)=false:=by rfl):
 PS X (.Raise (some (.Call (.Name x p) (e::es) [] cpos)) none pos) (yH C sp E t):=by
 intro pins s Y H D I h;obtain⟨nm,q,N,bs,bm,sn,sub,ab,col,dd,k0,k1,k2,k3,k5,lk,b1,b2,b3,b4,b5,b6⟩:=c.ob;rw[arm_exec_Raise];refine qb (wpAny_standAt ?_);refine xK (C:=C) (nm:=nm) (q:=q) (N:=N) (bs:=bs) (bm:=bm) (hdct:=true) (sn:=sn) (sub:=sub) (ab:=ab) (col:=col) (dd:=dd) (k0:=k0) (k1:=k1) (k2:=k2) (k3:=k3) (k5:=k5) (newId:="ValueError.__new__") b2 (I.ok.hd hc) ?_;refine qb (wpAny_mono (wpAny_Call_Name_kw (jq I hg hm ?_ hdb)) (λv s1 hv=>qb (wpAny_standAt (qh hv))) λ_ _ y=>y);refine callWith_K (h₀:=X.base) I.ok.mod.kin c.kp (thn (ha cpos pins s Y H _ I h) λus s1 ⟨vs,H1,I1,r,hz,q1⟩=>⟨I1.kIn,?_⟩) he hpl;refine thn (AN c F hr hb I1 r hz q1) λv s2 ⟨a,dx,H2,ev,hnew,I2,ea,qE⟩=>?_;obtain⟨⟨t0,hx⟩,_,_⟩:=I2.hok a _ ea;refine⟨a,t0,dx,ev,I2.kIn _ _ lk,hx,hE pins Y H2 s2 a C dx I2 ea ?_ qE⟩;exact qJ I1.sz hnew
end
noncomputable def XO2(C a dx:Addr):HO:=.ext λh=>∃oe fs,h.get? a=some oe/\oe.cls=.ref C/\oe.dict=some dx/\oe.data=.fields fs
theorem XO2.ok{P:Program}{w:World}{H:Hp}{h:Heap}{a C dx:Addr}{oe:Obj}{fs:Array Value}(e:h.get? a=some oe)(hc:oe.cls=.ref C)(hd:oe.dict=some dx)(hf:oe.data=.fields fs):bp P w H h a (XO2 C a dx):=
 ⟨⟨oe,fs,e,hc,hd,hf⟩,⟨_,e⟩,λh1 h2 ⟨oe,fs,q,r⟩ k=>⟨oe,fs,k _ q,r⟩⟩
section
variable {M:Model}{A:Around}{E:Yq}{h:Heap}{g:Array GenState}{d:Drawn}{t:Nat}{os:OsState}{e:Addr}{oe:Obj}
variable {nm q:Str}{C N:Addr}{bs bm:List Value}{hdct:Bool}{sn:List Str}{sub:List Value}{ab:Bool}{col:Option Bool}{dd:Option Addr}{k0 k1 k2 k3 k5:Option Value}{newId:String}
variable {nm' q':Str}{C' N':Addr}{bs' bm':List Value}{hdct':Bool}{sn':List Str}{sub':List Value}{ab':Bool}{col':Option Bool}{dd':Option Addr}{k0' k1' k2' k3' k5':Option Value}{newId':String}
theorem xL{Q:Bool->Shared->Prop}(hC:h.get? C=some (excClassObj nm q C N bs bm hdct sn sub ab col dd k0 k1 k2 k3 k5 newId))(hC':h.get? C'=some (excClassObj nm' q' C' N' bs' bm' hdct' sn' sub' ab' col' dd' k0' k1' k2' k3' k5' newId'))
 (hb:bm'.contains (.type "BaseException")=true) (hs:(Value.ref C::bm).contains (.ref C')=true) (he:h.get? e=some oe) (hc:oe.cls=.ref C) (hq:Q true ⟨h,g,d,t,os⟩):wpAny M A (excMatches (.ref e) (.ref C')) Q E ⟨h,g,d,t,os⟩:=by
 have c1:(Value.ref C'::bm').contains (.type "BaseException")=true:=by
  rw[List.contains_cons,hb];exact Bool.or_true _
 have f:=tc_notTuple;unfold excMatches
 repeat (first|with_reducible refine wpAny_loadPart_at hC' ?_|(with_reducible refine wpAny_loadPart_at he ?_;rw[hc])|(with_reducible refine wpAny_isSubtype_exc hC' ?_;rw[c1])|(with_reducible refine wpAny_isSubtype_exc hC ?_;rw[hs])|wp_step)
 exact hq
end
section
variable {X:Cx}{pins:List (Addr×Obj)}{Y:St}{H:Hp}{s:Shared}{a:Addr}{oe:Obj}{vs:Array Value}{ex:List Addr}{fl:Value}{h':Heap}
theorem Inv.lft(I:Inv X pins Y H s)(z:Lft X.stack a oe vs ex fl s.heap h')(hch:∀b∈a::ex,H b=none/\X.s₀.heap.objs.size<=b/\cG X pins H b):Inv X pins Y H { s with heap:=h' }:=by
 have nn:∀b,b∉a::ex->b≠a/\b∉ex:=λb hb=>⟨λq=>hb (by rw[q];exact qy),λq=>hb (qw _ q)⟩
 refine I.call' (s':={ s with heap:=h' }) (ch:=a::ex) U ⟨λb o q n h1 h2=>z.keep b o q (nn b h2).1 (nn b h2).2 h1,λb o q n h1 h2=>z.slot b o q h1,λ_ _ _ n _=>n,λb o q h2=>?_,λ_ _ q=>q,λ_ _ _ q=>q,λb ps q=>⟨#[],by rw[q];simp⟩⟩ (λc u e=>?_) I.bare
  λb hb=>⟨.inr (hch b hb).2.1,(hch b hb).2.2.2.1,(hch b hb).2.2.2.2.2.2.1,(hch b hb).2.2.2.2.2.2.2⟩
 .by_cases hm:b∈frs X.stack
  .obtain⟨sl,y⟩:=z.slot b o q hm;exact⟨_,y⟩
  .exact⟨o,z.keep b o q (nn b h2).1 (nn b h2).2 hm⟩
 .have tracked:∀b o',H b=some o'->b∉a::ex:=λb o' q y=>by rw[(hch b y).1]at q;cases q
  refine(I.hok c u e).stay (λb v hb hv=>?_) (λ_ q=>q) λ_ _ q=>q
  have hbt:∃o',H b=some o':=by
   rcases hb with rfl|hb
   .exact⟨_,e⟩
   .exact⟨_,hb⟩
  obtain⟨o',ho'⟩:=hbt;have h2:=nn b (tracked b o' ho');refine z.keep b v hv h2.1 h2.2 λy=>?_;rw[I.stkFree b y]at ho';cases ho'
theorem DJ{M:Model}{A:Around}{E:Yq}{i:Nat}{n:Str}{pos:Pos}{Q:Unit->Shared->Prop}(I:Inv X pins Y H s)(hN:X.N.Nodup)(hi:X.N[i]?=some n)(hk:X.env.kindOf n=some .local)
 (h:∀s',Inv X pins (Y.set i none) H s'->Q () s'):wpAny M A (do bindName X.env n .none;unbindBehindTheSuite X.env n pos) Q E s:=by
 obtain⟨m,hn,hl⟩:=id I.loc;have hcls:(X.env.scope.kind == .class || (X.env.scope.kind == .module && X.env.locals != X.env.globals))=false:=by rw[I.ok.kind];rfl
 have hiY:i<Y.length:=by rw[I.len];exact(qj.mp hi).1
 have cne:=I.cne;refine wpAny_nameGoes_keeps hk hn hcls λh' v hn' hs=>?_;have lt:∀b o,X.s₀.heap.get? b=some o->b≠X.env.locals:=λb o e=>qQ (qN (qA e) I.ok.above);refine h _ ⟨I.ok,I.os,I.bare,⟨λb o e n hb hx=>(hs.2 b (lt b o e)).trans (I.base.keep b o e n hb hx),λb o e n hb hx=>?_,I.base.free,λb o e hx=>?_,I.base.tups,I.base.frzs,I.base.tbls⟩,⟨_,hn',λj y v' e1 e2 e3=>?_⟩,λy c e=>?_,I.free,I.freeC,λp hp=>?_,λb ob e=>?_,by simpa using I.len⟩
 .obtain⟨sl,e1⟩:=I.base.slot b o e n hb hx;exact⟨sl,(hs.2 b (lt b o e)).trans e1⟩
 .obtain⟨o',e1⟩:=I.base.there b o e hx;exact⟨o',(hs.2 b (lt b o e)).trans e1⟩
 .by_cases hj:j=i
  .subst hj;rw[List.getElem?_set_self hiY]at e2;cases e2
  .rw[List.getElem?_set_ne (Ne.symm hj)]at e2;obtain⟨u',r',q⟩:=hl j y v' e1 e2 e3;refine⟨u',r',?_⟩;rcases q with⟨k,e⟩|⟨k,c,e,z⟩
   .refine .inl ⟨k,?_⟩;have hne:y≠n:=λe=>hj (jk hN e1 (e▸hi));show(if y=n then v else m y)=some u';rw[Qb hne];exact e
   .exact .inr ⟨k,c,e,z.sameBut hs (cne y c e)⟩
 .obtain⟨w',z⟩:=I.cell y c e;exact⟨w',z.sameBut hs (cne y c e)⟩
 .obtain⟨e,n,ne,nf,d⟩:=I.pin p hp;exact⟨(hs.2 p.1 ne).trans e,n,ne,nf,d⟩
 .refine(I.hok b ob e).stay (λc w' hc q=>(hs.2 c ?_).trans q) (λ_ q=>q) λ_ _ q=>q;intro z;subst z;rcases hc with rfl|hc
  .rw[I.free]at e;cases e
  .rw[I.free]at hc;cases hc
end
def jE(K:W.Frag)(C C0:Addr):Prop:=∃nm q N bs bm hdct sn sub ab col dd k0 k1 k2 k3 k5 newId,K.lookup C=some (excClassObj nm q C N bs bm hdct sn sub ab col dd k0 k1 k2 k3 k5 newId)/\(Value.ref C::bm).contains (.ref C0)=true
def IsX(K:W.Frag)(C:Addr):Prop:=∃nm q N bs bm hdct sn sub ab col dd k0 k1 k2 k3 k5 newId,K.lookup C=some (excClassObj nm q C N bs bm hdct sn sub ab col dd k0 k1 k2 k3 k5 newId)/\bm.contains (.type "BaseException")=true
def yF(K:W.Frag)(iy im inn:Nat)(C0:Addr)(sp:Sp)(dvs:List V)(t:TA):TS:=λD Y H=>t Y H λvs H1=>sp (vs++dvs) H1 (λv H2=>D.nx (Y.set iy (some v)) H2)
 (λcls od H2=>∃C dx,cls=.ref C/\od=some dx/\jE K C C0/\∀a,H2 a=none->D.nx (((Y.set inn (some (.ref a))).set im (some (.ref a))).set inn none) (upd H2 a (XO2 C a dx)))
section
variable {X:Cx}{k:Nat}{f C0:Addr}{fd:FuncData}{ps:List Str}{sp:Sp}{dvs:List V}{ds:List Value}{fx cx y m n:Str}{iy im inn:Nat}{p pos apos py cp pm pn pa hpos tpos:Pos}{e:Expr}{es:List Expr}{t:TA}
theorem uK(F:aB X.prog X.w X.K X.mg X.base (CXX X.prog X.w) k f fd ps sp)(hr:bG k X.A)(hg:Gl X fx)(hm:X.mg fx=some (.ref f))(hk:keepIn X.K (.ref f)=true)(hb:aJ X.K fd ps ds)(hd:aw dvs ds)
 (hN:X.N.Nodup) (hiy:X.N[iy]?=some y) (hly:Loc X.env.scope y) (him:X.N[im]?=some m) (hlm:Loc X.env.scope m) (hin:X.N[inn]?=some n) (hln:X.env.scope.names.lookup n=some .local) (hgc:Gl X cx) (hmc:X.mg cx=some (.ref C0)) (hc0:IsX X.K C0)
 (ha:∀EW,PA (X.wish EW) (e::es) t) (est:X.stack=X.env::X.outer:=by rfl) (efr:X.env.frame=some X.env.locals:=by rfl) (hdb:(fx == ("__debug__":Str))=false:=by decide) (hdc:(cx == ("__debug__":Str))=false:=by decide) (hdn:(n == ("__debug__":Str))=false:=by decide) (hcd:(n == ("__classdict__":Str))=false:=by decide)
 (he:starEach (e::es) X.env=(false,eval e X.env)::starEach es X.env:=by rfl) (hpl:(backTo pos (starEach es X.env)).any (·.1)=false:=by rfl)
 (hs1:swapsWith (.Call (.Name fx p) (e::es) [] pos) (some (.Name y py)) apos.line X.env=pure false:=by rfl) (hs2:swapsWith (.Name n pn) (some (.Name m pm)) pa.line X.env=pure false:=by rfl)
 (hfy:X.fn y=true\/X.env.scope.names.lookup y=some .local:=by first|exact .inl U|exact .inr U|assumption) (hfm:X.fn m=true\/X.env.scope.names.lookup m=some .local:=by first|exact .inl U|exact .inr U|assumption):
 PS X (.Try [.Assign [.Name y py] (.Call (.Name fx p) (e::es) [] pos) apos] [.ExceptHandler (some (.Name cx cp)) (some n) [.Assign [.Name m pm] (.Name n pn) pa] hpos] [] [] tpos) (yF X.K iy im inn C0 sp dvs t):=by
 intro pins s Y H D I h;refine wpAny_Try_except ?_;refine wpAny_execs_cons (wpAny_Assign_Name (wpAny_Call_Name_kw (jq I hg hm ?_ hdb)) hs1)
 have hA:=ha (λe s1=>wpAny (model X.prog X.w) X.A (noteFrame e X.env) (λ_ s2=>wpAny (model X.prog X.w) X.A (setFlight e none) (λ_ s3=>wpAny (model X.prog X.w) X.A (handleBy e X.env [.ExceptHandler (some (.Name cx cp)) (some n) [.Assign [.Name m pm] (.Name n pn) pa] hpos]) (SP X pins D) X.xe s3) X.xe s2) X.xe s1)
  pos pins s Y H _ (I.wish _) h
 refine callWith_K (h₀:=X.base) I.ok.mod.kin hk (thn hA λus s1 hv=>?_) he hpl;obtain⟨vs,H1,I1',r,q⟩:=hv;have I1:Inv X pins Y H1 s1:=I1'.unwish;refine⟨I1.kIn,?_⟩;have r2:aw (vs++dvs) (us++ds):=r.append hd;have hl:(us++ds).length=ps.length:=by rw[<- r2.length];exact F.len _ _ _ _ q
 refine wpAny_call (codeAny_mono (F.dz X.A X.stack s1 H1 ⟨us,[]⟩ (us++ds) (vs++dvs) _ _ hr I1.env0 (hb s1 us I1.kIn hl) r2 q) λr s' hq=>?_)
 cases r with
 |ok fl=>
  cases fl with
  |ret u=>
   obtain⟨v,H',I3,rv,q3⟩:=I1.after hq;exact iV I3 hN hiy hly rv (λs2 I2=>wpAny_execs_nil (wpAny_execs_nil ⟨_,H',I2,q3⟩)) hfy
  |next=>exact False.elim hq
  |brk=>exact False.elim hq
  |cont=>exact False.elim hq
 |error ev=>
  obtain⟨a,C,dx,T,H',rfl,os,bare,un,hok,fly,n1,n2,n3,n4,C',dx',ec,ed,hsub,qx⟩:=hq;cases ec;cases ed;have J:Inv X pins Y H' s':=I1.call' (ch:=[]) os un hok bare λb hb=>Qf hb (by simp);obtain⟨oe,vv,oT,ts,y1,y2,y3,y4,y5,y6,y7,y8,y9⟩:=fly;have fA:cG X pins H' a:=I1.fpOk n1 n3;have fT:cG X pins H' T:=I1.fpOk n2 n4;have szA:X.s₀.heap.objs.size<=a:=qJ I1.sz n1;have szT:X.s₀.heap.objs.size<=T:=qJ I1.sz n2;have hsz:1<vv.size:=(Array.getElem?_eq_some_iff.mp y5).1;have hl2:s'.heap.FunFrames X.base X.stack:=J.stack;have hfr:X.A.frames=some X.stack:=J.ok.frames;rw[est]at hl2 hfr;show wpAny (model X.prog X.w) X.A (noteFrame (.ref a) X.env) _ _ s';refine vq (T:=T) hfr hl2 efr y1 y4 y5 y6 y7 y8 y9 λh1 z1=>?_;refine pE z1 hl2 y1 y4 hsz λh2 z2=>?_;have z2':Lft X.stack a oe vv [T] .none s'.heap h2:=by rw[est];exact z2
  have J2:Inv X pins Y H' { s' with heap:=h2 }:=J.lft z2' λb hb=>by
   rcases qF.mp hb with rfl|hb
   .exact⟨n3,szA,fA⟩
   .cases Q4.mp hb;exact⟨n4,szT,fT⟩
  obtain⟨T2,hT2,oe2,vv2,oT2,ts2,x1,x2,x3,x4,x5,x6,x7,x8,x9⟩:=Lft.fly (C:=C) (dx:=dx) z2 y2 y3 hsz;have fT2:cG X pins H' T2:=J.fpOk hT2 (J.hok.fresh hT2);obtain⟨nm,q,N,bs,bm,hdct,sn,sub,ab,col,dd,k0,k1,k2,k3,k5,newId,lk,ct⟩:=hsub;obtain⟨nm',q',N',bs',bm',hdct',sn',sub',ab',col',dd',k0',k1',k2',k3',k5',newId',lk',ct'⟩:=hc0;refine wpAny_handleBy_cons (codeAny_handlers_test ?_) (by intro q;cases q);refine Calls.Name_function_global J2.ok.kind hgc (Calls.loadGlobal_global (by rw[J2.ok.glob];exact J2.mod.glob.keeps J2.bk) hmc ?_) hdc;refine xL (J2.kIn _ _ lk) (J2.kIn _ _ lk') ct' ct x1 x2 ?_;refine codeAny_handlers_suite_as ?_;refine wpAny_setFlight_none x1 x4 x5 x7 x8 (Array.getElem?_eq_some_iff.mp x9).1 ?_
  have J3:Inv X pins Y H' { s' with heap:=h2.update T2 (Obj.mapFields (·.setIfInBounds 3 .none)) }:=Inv.turnedL (s:={ s' with heap:=h2 }) (h':=h2.update T2 (Obj.mapFields (·.setIfInBounds 3 .none))) (t':=s'.toks) (ch:=[T2]) J2 (λb o hb e=>(QE _ _ (λz=>hb (by rw[<- z];exact Q4.mpr U))).trans e) λb hb=>by
   cases Q4.mp hb;exact fT2
  have x1':(h2.update T2 (Obj.mapFields (·.setIfInBounds 3 .none))).get? a=some oe2:=(QE _ _ x6).trans x1;have J4:=J3.track (o:=XO2 C a dx) fA szA (XO2.ok x1' x2 x3 x4);refine iV J4 hN hin (.inl hln) (v:=.ref a) U (λs4 I4=>?_) (.inr hln);have hiY:inn<Y.length:=by rw[J4.len];exact(qj.mp hin).1
  refine wpAny_execs_cons (wpAny_Assign_Name ?_ hs2);obtain⟨mm,hn4,hl4⟩:=I4.loc;obtain⟨u4,ru4,lk4⟩:=hl4 inn n (.ref a) hin (List.getElem?_set_self hiY) (.inl hln);cases ru4;rcases lk4 with⟨_,hu4⟩|⟨hk4,_⟩
  rotate_left
  .rcases hk4 with z|z
   .rw[show X.env.kindOf n=X.env.scope.names.lookup n from rfl,hln]at z;cases z
   .rw[show X.env.kindOf n=X.env.scope.names.lookup n from rfl,hln]at z;cases z
  refine wpAny_Name (wpAny_loadName_local I4.ok.kind hln hn4 hu4 ?_) hdn;refine iV I4 hN him hlm (v:=.ref a) U (λs5 I5=>wpAny_execs_nil ?_) hfm;refine DJ I5 hN hin hln λs6 I6=>?_;exact⟨_,_,I6,qx a n3⟩
end
section
variable {prog:Program}{w:World}{A:Around}{E:Yq}{h:Heap}{g:Array GenState}{d:Drawn}{t:Nat}{os:OsState}{a dx:Addr}{o:Obj}{vs:Array Value}
 {nm q:Str}{C N:Addr}{bs bm:List Value}{sn:List Str}{sub:List Value}{ab:Bool}{col:Option Bool}{dd:Option Addr}{k0 k1 k2 k3 k5:Option Value}{newId:String}{mA:Str->Option Value}{name:Str}{v:Value}
theorem iF{α:Type}{M:Model}{p:Sem α}{r:α}{Q:α->Shared->Prop}(x:Looks M h p r)(z:Q r ⟨h,g,d,t,os⟩):wpAny M A p Q E ⟨h,g,d,t,os⟩:=x _ _ _ _ (λ_ _ e=>e) z
theorem rq{M:Model}{nv:Value}{Q:Unit->Shared->Prop}(hC:h.get? C=some (excClassObj nm q C N bs bm true sn sub ab col dd k0 k1 k2 k3 k5 newId))(hB:bm.contains (.type "BaseException")=true)(hx:h.get? a=some o)(hc:o.cls=.ref C)
 (hq:Q () ⟨h,g,d,t,os⟩):wpAny M A (checkBuiltinCall "BaseException.__getattribute__" ⟨[.ref a,nv],[]⟩) Q E ⟨h,g,d,t,os⟩:=by
 have c1:(Value.ref C::bm).contains (.type "BaseException")=true:=by
  rw[List.contains_cons,hB];exact Bool.or_true _
 have e1:builtinKind "BaseException.__getattribute__"=some .slot:=Yd;have e2:splitId "BaseException.__getattribute__"=some ("BaseException","__getattribute__"):=Yd;have ha:=PySem.F.args_bexc_ga (.ref a) nv
 have S0:Looks M h (isInstance (.ref a) (.type "BaseException")) true:=by
  have T0:Looks M h (typeOf (.ref a)) (.ref C):=by
   have:Looks M h (typeOf (.ref a)) o.cls:=(Looks.ld hx).andThen .now;rw[hc]at this;exact this
  refine T0.andThen ?_;intro A' Q' E' s' kk qq;obtain⟨h2,g2,d2,t2,os2⟩:=s';refine wpAny_isSubtype_exc (kk _ _ hC) ?_;rw[c1];exact qq
 exact @check_slot M _ _ ⟨h,g,d,t,os⟩ "BaseException.__getattribute__" "BaseException" "__getattribute__" (.ref a) [nv] [] _ e1 e2 S0 ha hq
theorem xT{tk:Tok}{Q:PySem.Fin->Shared->Prop}(hC:h.get? C=some (excClassObj nm q C N bs bm true sn sub ab col dd k0 k1 k2 k3 k5 newId))(hx:h.get? a=some o)(hc:o.cls=.ref C)(hd:o.data=.fields vs)(hdx:o.dict=some dx)(hns:h.Ns1 dx mA)(hv:mA name=some v)
 (L1:Looks (model prog w) h (typeLookup (.ref C) name) none) (hq:Q (.done (.ret v)) ⟨h,g,d,t,os⟩):wpAny (model prog w) A (Builtin.«object.__getattribute__» ⟨[.ref a,.str name tk],[]⟩) Q E ⟨h,g,d,t,os⟩:=by
 unfold Builtin.«object.__getattribute__»
 repeat (first|(with_reducible refine wpAny_loadPart_at hx ?_;rw[hc])|with_reducible refine iF L1 ?_|wp_step)
 rw[hd];dsimp only;unfold instanceDict
 repeat (first|with_reducible refine wpAny_loadPart_at hC ?_|(with_reducible refine wpAny_loadPart_at hx ?_;rw[hc])|wp_step)
 rw[hdx]
 repeat (first|(with_reducible refine wpAny_nsGet hns.ns ?_;rw[hv])|wp_step)
 exact hq
theorem xR{expr:Bool}{Q:Yq}(hC:h.get? C=some (excClassObj nm q C N bs bm true sn sub ab col dd k0 k1 k2 k3 k5 newId))(hB:bm.contains (.type "BaseException")=true)(hx:h.get? a=some o)(hc:o.cls=.ref C)(hd:o.data=.fields vs)(hdx:o.dict=some dx)
 (hns:h.Ns1 dx mA) (hv:mA name=some v) (L1:Looks (model prog w) h (typeLookup (.ref C) name) none) (L2:Looks (model prog w) h (typeLookup (.ref C) "__getattribute__") (some (.builtin "BaseException.__getattribute__"))) (L3:Looks (model prog w) h (typeLookup (.ref C) "__getattr__") none) (hh:handedOut v=pure v)
 (hq:Q v ⟨h,g,d,t+1,os⟩):wpAny (model prog w) A (getAttr (.ref a) name expr) Q E ⟨h,g,d,t,os⟩:=by
 have FB:=PySem.F.attr_ValueError;have f3:=FB.ga.bind (.ref a);have x0:(expr && onTheHeap (Value.builtin "BaseException.__getattribute__"))=false:=by cases expr<;>rfl
 have x2:(Value.builtin "BaseException.__getattribute__" == Value.builtin "object.__getattribute__")=false:=Yd
 have x1:(onTheHeap (Value.ref C) && Value.builtin "BaseException.__getattribute__" == Value.builtin "object.__getattribute__")=false:=by
  rw[x2]
  rfl
 unfold getAttr getAttrBy
 repeat (any_goals (first|assumption|(with_reducible refine wpAny_loadPart_at hx ?_;rw[hc])|with_reducible refine iF L2 ?_|with_reducible refine iF L3 ?_|wp_step))
 refine codeAny_call_builtin FB.ga.plain PySem.F.entry_bexc_ga (rq hC hB hx hc (xT hC hx hc hd hdx hns hv L1 ?_));show wpAny _ _ (handedOut v) _ _ _;rw[hh];exact qh hq
end
structure iP(K:W.Frag)(C:Addr):Prop where
 ob:∃nm q N bs bm sn sub ab col dd k0 k1 k2 k3 k5 newId,K.lookup C=some (excClassObj nm q C N bs bm true sn sub ab col dd k0 k1 k2 k3 k5 newId)/\bm.contains (.type "BaseException")=true
 ga:findIn K (.ref C) "__getattribute__"=some (some (.builtin "BaseException.__getattribute__"))
 gh:findIn K (.ref C) "__getattr__"=some none
 pl:findIn K (.ref C) "place"=some none
section
variable {X:Cx}{e:Expr}{te:TE}{pos:Pos}
def yB(K:W.Frag)(te:TE):TE:=λY H Q=>te Y H λx H1=>∃a C dx v,x=.ref a/\H1 a=some (XO2 C a dx)/\H1 dx=some (.xd [("place",v)])/\iP K C/\Q v H1
theorem xX{pins:List (Addr×Obj)}{Y:St}{H:Hp}{s:Shared}{a C dx:Addr}{v:V}{b:Bool}{E:Yq}{A:Around}{Q:Yq}(I:Inv X pins Y H s)(ea:H a=some (XO2 C a dx))(ed:H dx=some (.xd [("place",v)]))(c:iP X.K C)
 (h:∀u s',Inv X pins Y H s'->aF v u->Q u s'):wpAny (model X.prog X.w) A (getAttr (.ref a) "place" b) Q E s:=by
 obtain⟨⟨oe,fs,y1,y2,y3,y4⟩,_,_⟩:=I.hok a _ ea;obtain⟨mA,ns,rel⟩:=I.hok dx _ ed;obtain⟨u,hu,ru⟩:=cQ.some_of (v:=v) (o:=mA "place") (rel "place");obtain⟨nm,q,N,bs,bm,sn,sub,ab,col,dd,k0,k1,k2,k3,k5,newId,lk,b2⟩:=c.ob;obtain⟨hh,g,d,t,os⟩:=s;exact xR (I.kIn _ _ lk) b2 y1 y2 y4 y3 ns hu (looks_findIn I.kIn c.pl) (looks_findIn I.kIn c.ga) (looks_findIn I.kIn c.gh) (handedOut_of (wb ru)) (h u _ (I.tok _) ru)
theorem gK{n:Str}{np:Pos}(he:PE X (.Name n np) te):PE X (.Attribute (.Name n np) "place" pos) (yB X.K te):=by
 intro pins s Y H Q I h;refine PyProof.Rows.Attribute_name (thn (he pins s Y H _ I h) λu s1 ⟨x,H1,I1,rx,a,C,dx,v,ex,ea,ed,c,q⟩=>?_);subst ex;obtain rfl:u=Value.ref a:=rx;exact xX I1 ea ed c λu s2 I2 ru=>⟨v,H1,I2,ru,q⟩
end
section
variable {P:Program}{w:World}{K:W.Frag}{mg:Str->Option Value}{base:Heap}
theorem Fun.okX{x qual:Str}{st:Stmt}{f:Addr}{fd:FuncData}{N ps:List Str}{k:Nat}{sp:Sp}(F:Fun K x qual st f fd)(S:aN N ps (ax st))(len:∀vs H Q E,sp vs H Q E->vs.length=ps.length)
 (hbody:∀(cdv:Value)(A:Around)(outer:List Env)(s:Shared)(H:Hp)(vs:List V)(Q:VK)(E:XK),bG k (A.deeper (envOfC qual (ax st) s.heap.objs.size f cdv))->sp vs H Q E->
  ∃t,PSs (bN (CXX P w) P w K mg base N qual (ax st) f cdv A outer s H E) (d9 st) t/\t { nx:=λ_ H'=>Q .non H',rt:=Q } (fc N vs) H):aB P w K mg base (CXX P w) (k+1) f fd ps sp:=by
 obtain⟨oc,od,kV,doc,pm,an,cdv,ct,osl,rfl,lk,hcd⟩:=F.ex;exact pB lk hcd S len λA outer s H vs Q E hr hsp=>hbody cdv A outer s H vs Q E hr hsp
theorem nW{N:List Str}{qual:Str}{scope:Scope}{f:Addr}{cdv:Value}{A:Around}{outer:List Env}{s:Shared}{H:Hp}{E:XK}:xx (bN (CXX P w) P w K mg base N qual scope f cdv A outer s H E) E:=
 λ_ _ _ _ _ _ _ I ea hn q=>Bc I ea hn q
end
section
variable {prog:Program}{w:World}{A:Around}{E:Yq}{h:Heap}{g:Array GenState}{d:Drawn}{t:Nat}{os:OsState}{a:Addr}{o:Obj}{vs:Array Value}
 {nm q:Str}{C N:Addr}{bs bm:List Value}{sn:List Str}{sub:List Value}{ab:Bool}{col:Option Bool}{dd:Option Addr}{k0 k1 k2 k3 k5:Option Value}{newId:String}
theorem xM{R:Result->Shared->Prop}(hC:h.get? C=some (excClassObj nm q C N bs bm true sn sub ab col dd k0 k1 k2 k3 k5 newId))(hO:bm.contains (.type "object")=true)(hx:h.get? a=some o)(hc:o.cls=.ref C)(hd:o.data=.fields vs)
 (hq:R (.ok (.ret (.ref C))) ⟨h,g,d,t,os⟩):codeAny (model prog w) A (.call (.builtin "getset_descriptor.__get__") ⟨[.builtin "object.__class__",.ref a,.ref C],[]⟩) R ⟨h,g,d,t,os⟩:=by
 have T5:(⟨h,g,d,t,os⟩:Shared).TypeIs (.builtin "object.__class__") "getset_descriptor":=PySem.F.typeOf_object_class
 have c1:(Value.ref C::bm).contains (.type (".".intercalate ("object.__class__".cutAt '.').dropLast))=true:=by
  rw[PySem.F.owner_object_class,List.contains_cons,hO];exact Bool.or_true _
 refine codeAny_call_builtin PySem.F.slot_gs_get.plain PySem.F.entry_gs_get (PySem.F.slot_gs_get.check _ _ _ _ _ _ _ _ T5 (PySem.F.args_gs_get _ _ _) ?_)
 repeat (any_goals (first|assumption|(with_reducible refine wpAny_loadPart_at hx ?_;rw[hc])|(with_reducible refine wpAny_isSubtype_exc hC ?_;rw[c1])|wp_step))
 refine⟨Code.quiet_builtin _ Yd,codeAny_builtin PySem.F.entry_object_class ?_⟩
 repeat (any_goals (first|assumption|(with_reducible refine wpAny_loadPart_at hx ?_;rw[hc])|wp_step))
theorem xN{tk:Tok}{Q:PySem.Fin->Shared->Prop}(hC:h.get? C=some (excClassObj nm q C N bs bm true sn sub ab col dd k0 k1 k2 k3 k5 newId))(hO:bm.contains (.type "object")=true)(hx:h.get? a=some o)(hc:o.cls=.ref C)(hd:o.data=.fields vs)
 (L1:Looks (model prog w) h (typeLookup (.ref C) "__class__") (some (.builtin "object.__class__"))) (hq:Q (.done (.ret (.ref C))) ⟨h,g,d,t,os⟩):wpAny (model prog w) A (Builtin.«object.__getattribute__» ⟨[.ref a,.str "__class__" tk],[]⟩) Q E ⟨h,g,d,t,os⟩:=by
 have T5:(⟨h,g,d,t,os⟩:Shared).TypeIs (.builtin "object.__class__") "getset_descriptor":=PySem.F.typeOf_object_class;have f5:=PySem.F.typeOf_object_class;have f6:=PySem.F.slot_gs_get.lookup;have f7:=PySem.F.slot_gs_set.lookup
 repeat (any_goals (first|assumption|(with_reducible refine wpAny_loadPart_at hx ?_;rw[hc])|with_reducible refine iF L1 ?_|wp_step))
 refine xM hC hO hx hc hd ?_
 repeat (any_goals (first|assumption|wp_step))
theorem xO{Q:Option Value->Shared->Prop}(hC:h.get? C=some (excClassObj nm q C N bs bm true sn sub ab col dd k0 k1 k2 k3 k5 newId))(hB:bm.contains (.type "BaseException")=true)(hO:bm.contains (.type "object")=true)(hx:h.get? a=some o)(hc:o.cls=.ref C)(hd:o.data=.fields vs)
 (L1:Looks (model prog w) h (typeLookup (.ref C) "__class__") (some (.builtin "object.__class__"))) (L2:Looks (model prog w) h (typeLookup (.ref C) "__getattribute__") (some (.builtin "BaseException.__getattribute__"))) (L3:Looks (model prog w) h (typeLookup (.ref C) "__getattr__") none)
 (hq:Q (some (.ref C)) ⟨h,g,d,t+1,os⟩):wpAny (model prog w) A (getAttr? (.ref a) "__class__") Q E ⟨h,g,d,t,os⟩:=by
 have FB:=PySem.F.attr_ValueError;have f3:=FB.ga.bind (.ref a);have x2:(Value.builtin "BaseException.__getattribute__" == Value.builtin "object.__getattribute__")=false:=Yd
 have x1:(onTheHeap (Value.ref C) && Value.builtin "BaseException.__getattribute__" == Value.builtin "object.__getattribute__")=false:=by
  rw[x2]
  rfl
 unfold getAttr? getAttrBy? getAttrBy
 repeat (any_goals (first|assumption|(with_reducible refine wpAny_loadPart_at hx ?_;rw[hc])|with_reducible refine iF L2 ?_|with_reducible refine iF L3 ?_|wp_step))
 refine codeAny_call_builtin FB.ga.plain PySem.F.entry_bexc_ga (rq hC hB hx hc (xN hC hO hx hc hd L1 ?_))
 repeat (any_goals (first|assumption|wp_step))
end
structure XIs(K:W.Frag)(C:Addr):Prop where
 ob:∃nm q N bs bm sn sub ab col dd k0 k1 k2 k3 k5 newId,K.lookup C=some (excClassObj nm q C N bs bm true sn sub ab col dd k0 k1 k2 k3 k5 newId)/\bm.contains (.type "BaseException")=true/\bm.contains (.type "object")=true
 cl:findIn K (.ref C) "__class__"=some (some (.builtin "object.__class__"))
 ga:findIn K (.ref C) "__getattribute__"=some (some (.builtin "BaseException.__getattribute__"))
 gh:findIn K (.ref C) "__getattr__"=some none
def XAt(a C:Addr)(h:Heap):Prop:=∃o fs,h.get? a=some o/\o.cls=.ref C/\o.data=.fields fs
theorem Ed{K:W.Frag}{a C:Addr}(c:XIs K C):KitX K (.ref a) (.ref C) (XAt a C) where
 ty:=λM h _ z=>by
  obtain⟨o,fs,e1,e2,_⟩:=z;have y:Looks M h (typeOf (.ref a)) o.cls:=(Looks.ld e1).andThen .now;rw[e2]at y;exact y
 it:=λM h X _=>by
  obtain⟨nm,q,N,bs,bm,sn,sub,ab,col,dd,k0,k1,k2,k3,k5,newId,lk,_⟩:=c.ob;intro A' Q' E' s' kk qq;unfold isType loadHead;exact qb (wpAny_loadPart (kk _ _ (X _ _ lk)) (qh qq))
 ne:=λh tp dd its n sl X htp=>by
  obtain⟨nm,q,N,bs,bm,sn,sub,ab,col,dd',k0,k1,k2,k3,k5,newId,lk,_⟩:=c.ob;refine Bool.eq_false_iff.mpr λz=>?_;have e:C=tp:=Value.ref.inj (beq_iff_eq.mp z);rw[<- e]at htp;have y:=qT ((X _ _ lk).symm.trans htp);have y2:=congrArg Obj.cls y;injection y2 with y3;exact Qf y3 Yk
 ca:=λ{prog w A E Q s} X z k=>by
  obtain⟨nm,q,N,bs,bm,sn,sub,ab,col,dd,k0,k1,k2,k3,k5,newId,lk,b1,b2⟩:=c.ob;obtain⟨o,fs,e1,e2,e3⟩:=z;obtain⟨hh,g,d,t,os⟩:=s;exact xO (X _ _ lk) b1 b2 e1 e2 e3 (looks_findIn X c.cl) (looks_findIn X c.ga) (looks_findIn X c.gh) k
section
variable {X:Cx}
theorem FP:cJ X (.builtin "isinstance") (λxs H Q=>∃a C dx cv tv b,xs=[.ref a,cv]/\H a=some (XO2 C a dx)/\XIs X.K C/\(∀u,aF cv u->u=tv)/\kitOne X.K (.ref C) tv=some b/\Q (.bl b) H):=by
 intro pins s Y H xs us Q I r h;obtain⟨a,C,dx,cv,tv,b,rfl,ea,c,hv,e,q⟩:=h;obtain⟨u,u',rfl,ru,rc⟩:=gB r;obtain rfl:u=Value.ref a:=ru;obtain rfl:=hv u' rc;obtain⟨⟨oe,fs,y1,y2,y3,y4⟩,_,_⟩:=I.hok a _ ea;exact kia_one (Ed c) I.kIn ⟨oe,fs,y1,y2,y4⟩ e (λz=>nomatch z) λtk=>⟨.bl b,H,I.tok _,U,q⟩
end
section
variable {X:Cx}
theorem Dy:OpR X (binaryOp .FloorDiv) (λx y H Q=>∃i j,x=.int i/\y=.int j/\(0<j/\j.natAbs.log2<9000)/\Q (.int (i / j)) H):=by
 have z:OpR X (binaryOp .FloorDiv) (rI (λ_ j=>0<j/\j.natAbs.log2<9000) λi j=>.int (i / j)):=opI λi j _ _ _ _ _ hc q=>by
  have h1:(0:Int)<j:=hc.1;exact floordiv_int Yo (by rw[Int.fdiv_eq_ediv_of_nonneg i Yo];exact q) (.inl (PyProof.noPylong_of_log2 hc.2))
 exact z
theorem DA:OpR X (binaryOp .BitAnd) (λx y H Q=>∃i j,x=.int i/\y=.int j/\Q (.int (Builtin.bitAnd i j)) H):=CG
theorem Dr:OpR X (binaryOp .BitOr) (λx y H Q=>∃i j,x=.int i/\y=.int j/\Q (.int (Builtin.bitOr i j)) H):=Cp
theorem Dp:OpR X (binaryOp .BitXor) (λx y H Q=>∃i j,x=.int i/\y=.int j/\Q (.int (Builtin.bitXor i j)) H):=Ci
end
theorem fW{x y:Str}(c:decide (V.str x=V.str y)=true):x=y:=by injection (Qn c)
theorem fX{x y:Str}(c:¬ decide (V.str x=V.str y)=true):¬ x=y:=λe=>c (Qd (by rw[e]))
theorem dB{x y:Int}(c:decide (V.int x=V.int y)=true):x=y:=by injection (Qn c)
theorem dJ{x y:Int}(c:¬ decide (V.int x=V.int y)=true):¬ x=y:=λe=>c (Qd (by rw[e]))
noncomputable def txt(v:Value):Str:=match v with|.str x _=>x|_=>""
structure aT(P:Program)(w:World)(es:Array (Int×Value))(t:SetTable)(ys:List Str):Prop where
 el:ElemsOf (strKind P w) es.toList
 nd:(es.toList.map λe=>txt e.2).Nodup
 mem:∀k,k∈(es.toList.map λe=>txt e.2)↔k∈ys
 few:es.size<scanBound
 fit:t.fits es.size=true
 led:t.led=!w.params.followText "set-order"
 pl:0<es.size->t.plain=false
theorem kY{P:Program}{w:World}{k:Str}{v:Value}(h:(strKind P w).is k v=true):txt v=k:=by
 obtain⟨t,rfl⟩:=Value.isStrOf_shape h
 rfl
theorem zv(t:SetTable)(n:Nat):(t.orStandIn n).led=t.led/\(t.plain=false->(t.orStandIn n).plain=false):=by
 unfold SetTable.orStandIn;split
 .exact⟨U,λz=>z⟩
 .exact⟨U,λ_=>U⟩
theorem E9(t:SetTable)(es:Array (Int×Value))(h:Int)(x:Value):(layNew t es h x).2.1.led=t.led/\(t.plain=false->(layNew t es h x).2.1.plain=false):=by
 unfold layNew;split
 .exact zv (t.put _).1 _
 .exact⟨U,λ_=>U⟩
theorem B8(t:SetTable)(es:Array (Int×Value))(n:Nat):(relayAll t es n).2.1.led=t.led/\(t.plain=false->(relayAll t es n).2.1.plain=false):=by
 unfold relayAll SetTable.standIn;split
 .rename_i t' order he;unfold SetTable.relaid SetTable.laid at he
  have:t'.led=t.led/\t'.plain=t.plain:=by
   simp only[Option.bind_eq_bind,Option.bind_eq_some_iff]at he;obtain⟨ow,_,he⟩:=he;injection he with he;injection he with h1 h2;rw[<- h1];exact⟨U,U⟩
  dsimp only;split
  .exact⟨this.1,λz=>this.2.trans z⟩
  .exact⟨U,λ_=>U⟩
 .exact⟨U,λ_=>U⟩
noncomputable def aL(es:Array (Int×Value))(ep:Nat)(t:SetTable):Obj:={ cls:=.type "set",dict:=none,data:=.set es ep t }
section
variable {P:Program}{w:World}{A:Around}{E:Yq}{s:Shared}
theorem gC{a:Addr}{es es':Array (Int×Value)}{ep:Nat}{t t':SetTable}(ho:s.heap.get? a=some (aL es ep t)):
 (s.heap.update a (Obj.putSet es' t')).get? a=some (aL es' (ep+1) t'):=by
 have hd:(aL es ep t).data=.set es ep t:=U;have:=Qr (Obj.putSet es' t') ho (by rw[putSet_of es' t' hd];rfl);rw[putSet_of es' t' hd]at this;exact this
theorem pY{a:Addr}{es:Array (Int×Value)}{ep:Nat}{t:SetTable}{ys:List Str}{k:Str}{tk:Tok}{Q:Bool->Shared->Prop}
 (ho:s.heap.get? a=some (aL es ep t)) (T:aT P w es t ys) (room:es.size+1<scanBound)
 (h:∀(b:Bool) h' es' ep' t',Heap.SameBut a s.heap h'->h'.get? a=some (aL es' ep' t')->aT P w es' t' (ys++[k])->es'.size<=es.size+1->Q b { s with heap:=h' }):
 wpAny (model P w) A (setAddHashed a (.str k tk) (hashStr w k)) Q E s:=by
 have hkey:(strKind P w).is k (.str k tk)=true:=by
  show Value.isStrOf k (.str k tk)=true;simp[Value.isStrOf]
 have hsc:(Value.str k tk).scannable=true:=U;have hd:(aL es ep t).data=.set es ep t:=U;unfold setAddHashed setAddHashedIn;refine QG (qb (Q8 ho hd T.fit ?_));dsimp only;rw[byScan_of hsc T.few T.el];simp only[↓reduceIte];unfold setAddByScan;refine qb ?_;refine qb (wpAny_rule ?_);refine qb (wpAny_setScan_of (knd:=strKind P w) (k:=k) hkey ho hd T.fit T.el ?_)
 cases hr:List.findIdx? (λe=>(strKind P w).is k e.2) es.toList with
 |some j=>
  dsimp only;obtain⟨hj,hpj,_⟩:=List.findIdx?_eq_some_iff_getElem.mp hr;refine qh (qh ?_);have:=h false s.heap es ep t (Heap.SameBut.refl a s.heap) ho ⟨T.el,T.nd,λk'=>?_,T.few,T.fit,T.led,T.pl⟩ Yo
  .exact this
  .rw[T.mem k',qp,Q4];refine⟨.inl,λz=>z.elim id λe=>?_⟩;rw[<- T.mem,e,<- kY hpj];exact List.mem_map.mpr ⟨_,List.getElem_mem hj,U⟩
 |none=>
  dsimp only
  have hnew:k∉es.toList.map λe=>txt e.2:=by
   intro hm;obtain⟨e,he,hk⟩:=List.mem_map.mp hm;have hn:=List.findIdx?_eq_none_iff.mp hr e he;obtain⟨⟨k',hk',_⟩,_⟩:=T.el e he;rw[kY hk']at hk;subst hk;rw[hk']at hn;cases hn
  have hgw:∀(b:Bool){s₁:Shared}{Q':Unit->Shared->Prop},Q' () s₁->wpAny (model P w) A (match b with|true=>rule "set.scan.the-table-gave-way"|false=>pure ()) Q' E s₁:=by
   intro b s₁ Q' hq;cases b
   .exact qh hq
   .exact wpAny_rule hq
  have hperm:=layNew_perm t es (hashStr w k) (.str k tk);have hfits:=layNew_fits t es (hashStr w k) (.str k tk);have hled:=E9 t es (hashStr w k) (.str k tk);show wpAny _ _ (match layNew t es (hashStr w k) (.str k tk)with|(es,t,wasDummy,gave)=>_) _ _ _;generalize layNew t es (hashStr w k) (.str k tk)=Ln at hperm hfits hled ⊢;obtain⟨es1,t1,wd,gv⟩:=Ln;dsimp only at hperm hfits hled ⊢;rw[Array.toList_push]at hperm;have hsz1:es1.size=es.size+1:=by rw[<- qW,hperm.length_eq,qf,qW];rfl
  have tab:∀(es2:Array (Int×Value))(t2:SetTable),es2.toList.Perm es1.toList->t2.fits es2.size=true->t2.led=t.led->t2.plain=false->aT P w es2 t2 (ys++[k]):=λes2 t2 hp hf hl hpl=>by
   have hp':=hp.trans hperm;refine⟨(T.el.push hkey hsc).perm hp',?_,λk'=>?_,?_,hf,hl.trans T.led,λ_=>hpl⟩
   .refine(hp'.map _).nodup_iff.mpr ?_;rw[qY,List.nodup_append];refine⟨T.nd,by simp,λx hx y hy=>?_⟩;simp only[Q3,List.map_nil,Q4]at hy;rintro rfl;rw[hy]at hx;exact hnew hx
   .rw[(hp'.map _).mem_iff,qY,qp,T.mem k',qp]
    rfl
   .rw[<- qW,hp'.length_eq,qf,qW];exact room
  refine qb (hgw _ ?_)
  have tail:∀t2:SetTable,t2.fits es1.size=true->t2.led=t.led->t2.plain=false->∀R:Option Bool->Shared->Prop,(∀h' es' ep' t',Heap.SameBut a s.heap h'->h'.get? a=some (aL es' ep' t')->aT P w es' t' (ys++[k])->es'.size<=es.size+1->R (some true) { s with heap:=h' })->
   wpAny (model P w) A (do
    storeSet a es1 t2
    if(!wd && t2.tooFull)=true then do
     (match(relayAll t2 es1 (SetTable.grown es1.size)).2.2 with|true=>rule "set.scan.the-table-gave-way"|false=>pure ())
     storeSet a (relayAll t2 es1 (SetTable.grown es1.size)).1 (relayAll t2 es1 (SetTable.grown es1.size)).2.1
     pure (some true)
    else pure (some true)) R E s:=λt2 hf hl hpl R hR=>by
   have room1:es1.size<=sizeLine:=fits_of_scanBound (by rw[hsz1];exact room);refine qb (wpAny_storeSet_of ho hd ?_ room1);have ho1:=gC (s:=s) (es':=es1) (t':=t2) ho;have sb1:=Heap.SameBut.update s.heap a (Obj.putSet es1 t2);split
   .have hp:=relayAll_perm t2 es1 (SetTable.grown es1.size);have hfr:=relayAll_fits t2 es1 (SetTable.grown es1.size);have hlr:=B8 t2 es1 (SetTable.grown es1.size);generalize relayAll t2 es1 (SetTable.grown es1.size)=Rl at hp hfr hlr ⊢;obtain⟨es2,t3,g2⟩:=Rl;dsimp only at hp hfr hlr ⊢;have hsz2:es2.size=es1.size:=by rw[<- qW,hp.length_eq,qW]
    refine qb (hgw _ ?_);refine qb (wpAny_storeSet_of (s:={ s with heap:=s.heap.update a (Obj.putSet es1 t2) }) ho1 U ?_ (by rw[hsz2];exact room1));exact qh (hR _ es2 _ t3 (sb1.trans (Heap.SameBut.update _ a _)) (gC (s:={ s with heap:=s.heap.update a (Obj.putSet es1 t2) }) ho1) (tab es2 t3 hp hfr (hlr.1.trans hl) (hlr.2 hpl)) Yo)
   .exact qh (hR _ es1 _ t2 sb1 ho1 (tab es1 t2 (.refl _) hf hl hpl) Yo)
  split
  .refine qb ?_;rw[hashByValue_scannable 8 hsc];refine qh ?_;refine tail _ (SetTable.fits_plain_off hfits) hled.1 U _ λh' es' ep' t' a1 a2 a3 a4=>?_;exact qh (h true h' es' ep' t' a1 a2 a3 a4)
  .rename_i hpl;refine qb (qh ?_);simp only[↓reduceIte];refine tail _ hfits hled.1 (by simpa using hpl) _ λh' es' ep' t' a1 a2 a3 a4=>?_;exact qh (h true h' es' ep' t' a1 a2 a3 a4)
end
section
variable {P:Program}{w:World}{A:Around}{E:Yq}{s:Shared}
theorem EZ{R:Result->Shared->Prop}{I:Addr}{fp wr:List Addr}{G:Array GenState->Array GenState->Prop}{n:Nat}{PI:Nat->Value->Prop}{St:Nat->Shared->Prop}
 (W:WalksS P w A.in1 I fp wr G n PI St) (S:Addr) (hSf:S∉fp) (zs:List Str) (hz:∀i v,PI i v->∃k t,zs[i]?=some k/\v=.str k t) (hb:n+1<scanBound):
 ∀(k i:Nat)(s:Shared),n-i=k->i<=n->St i s->
  (∃es ep t,s.heap.get? S=some (aL es ep t)/\aT P w es t (zs.take i)/\es.size<=i)->
  (∀s',Moved (S::wr) G s s'->(∃es ep t,s'.heap.get? S=some (aL es ep t)/\aT P w es t (zs.take n)/\es.size<=n)->R (.ok (.ret .none)) s')->
  codeAny (model P w) A (.builtin "set.update.loop" ⟨[.ref S,.ref I],[]⟩) R s:=by
 have hSw:S∉wr:=λz=>hSf (W.sub _ z);have up:∀b∈wr,b∈S::wr:=λb z=>qw _ z;intro k
 induction k with
 |zero=>
  intro i s hk hi hst hS hR;obtain rfl:i=n:=Yo;refine codeAny_builtin PyProof.Rows.F.entry_set_update_loop ?_;rw[Around.under_plainId PyProof.Rows.F.plain_set_update_loop _];show wpAny _ A.in1 (pyNext (.ref I) >>= _) _ _ s;refine qb (W.done s _ _ hst λs' hm=>?_);show wpAny _ A.in1 (ret Value.none) _ _ s';obtain⟨es,ep,t,h1,h2,h3⟩:=hS;exact qh (hR s' (hm.mono up) ⟨es,ep,t,hm.heap S _ hSw h1,h2,h3⟩)
 |succ k ih=>
  intro i s hk hi hst hS hR;have lt:i<n:=Yo;refine codeAny_builtin PyProof.Rows.F.entry_set_update_loop ?_;rw[Around.under_plainId PyProof.Rows.F.plain_set_update_loop _];show wpAny _ A.in1 (pyNext (.ref I) >>= _) _ _ s;refine qb (W.item i s _ _ lt hst λv s' hP hst' hm=>?_);obtain⟨z,t,hzi,rfl⟩:=hz i v hP;obtain⟨es,ep,tb,h1,h2,h3⟩:=hS;have h1':=hm.heap S _ hSw h1;show wpAny _ A.in1 (holding [Value.str z t] (setAdd S (.str z t)) >>= _) _ _ s';refine qb (QG ?_);unfold setAdd;refine QG ?_;refine qb (wpAny_pyHash_str ?_);refine pY (s:={ s' with toks:=s'.toks+1 }) h1' h2 Yo λb h' es' ep' t' sb g1 g2 g3=>?_;have e:zs.take (i+1)=zs.take i++[z]:=by rw[qC,hzi];rfl
  refine qh ⟨plainId_quiet PyProof.Rows.F.plain_set_update_loop _,ih (i+1) _ Yo lt (W.frame _ s' _ _ hst' (Nat.le_succ _) λb hb o q=>?_) ⟨es',ep',t',g1,by rw[e];exact g2,Yo⟩ λs2 m2 S2=>?_⟩
  .rw[sb.2 b λz:b=S=>hSf (by rw[<- z];exact hb)];exact q
  .refine hR s2 (Moved.trans W.gtrans ((hm.mono up).then_heap (Nat.le_succ _) λb o hb q=>?_) m2) S2;rw[sb.2 b λz:b=S=>hb (by rw[z];exact qy)];exact q
end
theorem fe:Slot "set_iterator" "__next__" "set_iterator.__next__":=
 .of (owner:="set_iterator") (n:="__next__") (by rw[typeLookup_type,builtinLookup_eq_fast];kernel_rfl) Yd Yd Yd (.inl Yd) (by rw[isSubtype_type];kernel_rfl)
theorem k7:entryFor table "set_iterator.__next__"=some Builtin.«set_iterator.__next__»:=entryFor_of_tree (by kernel_rfl)
theorem ka(a:Value):argsOk "set_iterator.__next__" ⟨[a],[]⟩:=by unfold argsOk;kernel_rfl
theorem u5:Slot "set_iterator" "__iter__" "set_iterator.__iter__":=
 .of (owner:="set_iterator") (n:="__iter__") (by rw[typeLookup_type,builtinLookup_eq_fast];kernel_rfl) Yd Yd Yd (by first|exact .inl Yd|exact .inr Yd) (by rw[isSubtype_type];kernel_rfl)
theorem zM:entryFor table "set_iterator.__iter__"=some Builtin.«dict_keyiterator.__iter__»:=entryFor_alias (id':="dict_keyiterator.__iter__") (by kernel_rfl) U Yd (by kernel_rfl)
theorem zN(a:Value):argsOk "set_iterator.__iter__" ⟨[a],[]⟩:=by unfold argsOk;kernel_rfl
theorem Ai:entryFor table "set.__iter__"=some Builtin.«frozenset.__iter__»:=entryFor_alias (id':="frozenset.__iter__") (by kernel_rfl) U Yd (by kernel_rfl)
noncomputable def dR(fst:Value)(i:Nat)(a:Addr)(n ep:Nat):Obj:={ cls:=.type "set_iterator",data:=.fields #[fst,.int i 0,.ref a,.int n 0,.int ep 0] }
section
variable {P:Program}{w:World}{A:Around}{E:Yq}{s:Shared}
theorem fY{a:Addr}{es:Array (Int×Value)}{ep:Nat}{t:SetTable}{Q:Array (Int×Value)->Shared->Prop}(ho:s.heap.get? a=some (aL es ep t))(hf:t.fits es.size=true)(h:Q es s):
 wpAny (model P w) A (setEntries a) Q E s:=by
 unfold setEntries;exact qb (Q8 ho U hf (qh h))
theorem zP{I a tp:Addr}{i p n ep:Nat}{es:Array (Int×Value)}{t:SetTable}{its:Array Value}{x:Int×Value}{nn:Nat}{ot:Obj}{tk:Tok}{Q:Option Value->Shared->Prop}
 (hi:s.heap.get? I=some (dR (.ref tp) i a n ep)) (hs:s.heap.get? a=some (aL es ep t)) (hf:t.fits es.size=true) (hn:es.size=n)
 (ht:s.heap.get? tp=some ot) (htd:ot.data=.seq its nn) (hp:its[i]?=some (.int (p:Int) tk)) (hx:es[p]?=some x)
 (h:∀h',h'.get? I=some (dR (.ref tp) (i+1) a n ep)->Heap.SameBut I s.heap h'->Q (some x.2) { s with heap:=h' }):
 wpAny (model P w) A (pyNext (.ref I)) Q E s:=by
 have ty:s.TypeIs (.ref I) "set_iterator":=⟨_,hi,U⟩;unfold pyNext;refine qb (wpAny_attempt (wpAny_callSpecial?_slot (name:=Str.ofString "__next__") ty fe (Qt fe ty k7 ?_ (ka _))));unfold Builtin.«set_iterator.__next__»;refine qb (qh ?_);refine qb (wpAny_fieldsOf hi U ?_);dsimp only;refine qb (fY hs hf ?_);have ne:((es.size:Int) != (n:Int))=false:=by rw[hn];simp
 rw[ne,Qb qt];refine qb (QH ht htd ?_);dsimp only;rw[Q9,hp];dsimp only;refine qb ?_;unfold setNextDrawn;refine qb (Q8 hs U hf ?_);dsimp only;have ne2:(ep != (ep:Int).toNat)=false:=by rw[Q9];simp
 rw[ne2,Qb qt,Q9,hx];dsimp only;refine qh ?_;refine qb (wpAny_setField hi U (by simp) (qh ⟨_,U,qh (h _ ?_ (Heap.SameBut.update ..))⟩));have:=Qr (Obj.mapFields (·.setIfInBounds 1 (rawInt ((i:Int)+1)))) hi U;exact this
theorem sy{Q:Option Value->Shared->Prop}(hh:A.handled=none)(h:∀h',(∀b o,s.heap.get? b=some o->h'.get? b=some o)->Q none { s with heap:=h' }):
 wpAny (model P w) A.in1 (newExc (.type "StopIteration") [] >>= λx=>(raiseNew x:Sem Fin)) (λfin s'=>∃v,fin=Fin.done (Flow.ret v)/\wpAny (model P w) A (pure (some v)) Q E s')
  (λe s'=>wpAny (model P w) A (do if <- isInstance e (Value.type "StopIteration")then pure none else throw e) Q E s') s:=by
 refine qb ?_;simp only[newExc,newTuple];refine qb (wpAny_newObj_type ?_ (by size_fits));refine qb (m:=firstArgMember _ _) (wpAny_of_eq (a:=Value.none) (by first|rfl|(simp only[firstArgMember];rfl)) ?_);refine wpAny_newObj_type ?_ (by size_fits);simp only[raiseNew];refine qb (wpAny_handled ?_);have hh':A.in1.handled=none:=hh;rw[hh'];refine qb (qh (wpAny_throw ?_));refine qb (wpAny_isInstance (T:="StopIteration") (b:=true) ⟨_,qz _ U,U⟩ isSubtype_stop ?_);exact qh (h _ λb o e=>qe _ (qe _ e))
theorem zO{I a tp:Addr}{i n ep:Nat}{es:Array (Int×Value)}{t:SetTable}{its:Array Value}{nn:Nat}{ot:Obj}{Q:Option Value->Shared->Prop}(hh:A.handled=none)
 (hi:s.heap.get? I=some (dR (.ref tp) i a n ep)) (hs:s.heap.get? a=some (aL es ep t)) (hf:t.fits es.size=true) (hn:es.size=n)
 (ht:s.heap.get? tp=some ot) (htd:ot.data=.seq its nn) (hp:its[i]?=none)
 (h:∀h',(∀b o,b≠I->s.heap.get? b=some o->h'.get? b=some o)->Q none { s with heap:=h' }):
 wpAny (model P w) A (pyNext (.ref I)) Q E s:=by
 have ty:s.TypeIs (.ref I) "set_iterator":=⟨_,hi,U⟩;unfold pyNext;refine qb (wpAny_attempt (wpAny_callSpecial?_slot (name:=Str.ofString "__next__") ty fe (Qt fe ty k7 ?_ (ka _))));unfold Builtin.«set_iterator.__next__»;refine qb (qh ?_);refine qb (wpAny_fieldsOf hi U ?_);dsimp only;refine qb (fY hs hf ?_);have ne:((es.size:Int) != (n:Int))=false:=by rw[hn];simp
 rw[ne,Qb qt];refine qb (QH ht htd ?_);dsimp only;rw[Q9,hp];dsimp only;refine qb (wpAny_setField hi U (by simp) ?_);have g1:=Qr (Obj.mapFields (·.setIfInBounds 0 (rawInt 0))) hi U;refine qb (wpAny_setField g1 U (by simp) ?_);refine sy hh λh' k=>h h' λb o hb e=>k b o ?_;exact(QE _ _ (Ne.symm hb)).trans ((QE _ _ (Ne.symm hb)).trans e)
theorem u0{I a:Addr}{i n ep sl sl':Nat}{es:Array (Int×Value)}{t:SetTable}{x:Value}{Q:Option Value->Shared->Prop}
 (hi:s.heap.get? I=some (dR (.int (sl:Int) 0) i a n ep)) (hs:s.heap.get? a=some (aL es ep t)) (hf:t.fits es.size=true) (hn:es.size=n)
 (hx:∀Q':Option (Value×Nat)->Shared->Prop,∀E',Q' (some (x,sl')) s->wpAny (model P w) A.in1 (setNext a sl i ep) Q' E' s)
 (h:∀h',h'.get? I=some (dR (.int (sl':Int) 0) (i+1) a n ep)->Heap.SameBut I s.heap h'->Q (some x) { s with heap:=h' }):
 wpAny (model P w) A (pyNext (.ref I)) Q E s:=by
 have ty:s.TypeIs (.ref I) "set_iterator":=⟨_,hi,U⟩;unfold pyNext;refine qb (wpAny_attempt (wpAny_callSpecial?_slot (name:=Str.ofString "__next__") ty fe (Qt fe ty k7 ?_ (ka _))));unfold Builtin.«set_iterator.__next__»;refine qb (qh ?_);refine qb (wpAny_fieldsOf hi U ?_);dsimp only;refine qb (fY hs hf ?_);have ne:((es.size:Int) != (n:Int))=false:=by rw[hn];simp
 rw[ne,Qb qt,Q9,Q9,Q9];refine qb (hx _ _ ?_);dsimp only;refine qb (wpAny_setField hi U (by simp) ?_);have g1:=Qr (Obj.mapFields (·.setIfInBounds 0 (rawInt (sl':Int)))) hi U;refine qb (wpAny_setField g1 U (by simp) (qh ⟨_,U,qh (h _ ?_ ((Heap.SameBut.update ..).trans (Heap.SameBut.update ..)))⟩));exact Qr (Obj.mapFields (·.setIfInBounds 1 (rawInt ((i:Int)+1)))) g1 U
theorem lT{I a:Addr}{i n ep sl:Nat}{es:Array (Int×Value)}{t:SetTable}{Q:Option Value->Shared->Prop}(hh:A.handled=none)
 (hi:s.heap.get? I=some (dR (.int (sl:Int) 0) i a n ep)) (hs:s.heap.get? a=some (aL es ep t)) (hf:t.fits es.size=true) (hn:es.size=n)
 (hx:∀Q':Option (Value×Nat)->Shared->Prop,∀E',Q' none s->wpAny (model P w) A.in1 (setNext a sl i ep) Q' E' s)
 (h:∀h',(∀b o,b≠I->s.heap.get? b=some o->h'.get? b=some o)->Q none { s with heap:=h' }):
 wpAny (model P w) A (pyNext (.ref I)) Q E s:=by
 have ty:s.TypeIs (.ref I) "set_iterator":=⟨_,hi,U⟩;unfold pyNext;refine qb (wpAny_attempt (wpAny_callSpecial?_slot (name:=Str.ofString "__next__") ty fe (Qt fe ty k7 ?_ (ka _))));unfold Builtin.«set_iterator.__next__»;refine qb (qh ?_);refine qb (wpAny_fieldsOf hi U ?_);dsimp only;refine qb (fY hs hf ?_);have ne:((es.size:Int) != (n:Int))=false:=by rw[hn];simp
 rw[ne,Qb qt,Q9,Q9,Q9];refine qb (hx _ _ ?_);dsimp only;refine qb (wpAny_setField hi U (by simp) ?_);refine sy hh λh' k=>h h' λb o hb e=>k b o ?_;exact(QE _ _ (Ne.symm hb)).trans e
theorem k6{I a:Addr}{fst:Value}{i n ep:Nat}{Q:Yq}(hi:s.heap.get? I=some (dR fst i a n ep))(h:Q (.ref I) s):wpAny (model P w) A (pyIter (.ref I)) Q E s:=by
 have ty:s.TypeIs (.ref I) "set_iterator":=⟨_,hi,U⟩;refine wpAny_pyIter_slot ty u5 (Qt u5 ty zM ?_ (zN _));show wpAny _ _ (ret (.ref I)) _ _ s;exact qh ⟨_,U,"set_iterator",_,ty,fe.lookup,h⟩
end
section
variable {P:Program}{w:World}{A:Around}{E:Yq}{s:Shared}
theorem ya{src:Source}{n:Nat}{Q:Nat->Shared->Prop}(hn:n≠0)(h:∀i d,i<n->Q i { s with drawn:=d }):wpAny (model P w) A (choose src n) Q E s:=λΓ p _=>by
 show Sem.wp _ _ (.choose src n .pure) _ _ _ _;rw[Sem.wp_choose];refine⟨hn,?_⟩;have:=h ((model P w).w.draws src (s.drawn.get src) % n) (s.drawn.bump src) (Nat.mod_lt _ (Nat.pos_of_ne_zero hn));simpa using this
theorem uS{α:Type}{xs:List α}{i:Nat}{x:α}(h:xs[i]?=some x):(x::xs.eraseIdx i).Perm xs:=by
 induction xs generalizing i with
 |nil=>simp at h
 |cons y r ih=>
  cases i with
  |zero=>simp at h;subst h;exact .refl _
  |succ j=>
   simp only[List.getElem?_cons_succ]at h;exact(List.Perm.swap y x _).trans ((ih h).cons y)
theorem pG{α:Type}:∀(n:Nat)(xs:List α)(s:Shared)(Q:List α->Shared->Prop),xs.length=n->(∀ys d,ys.Perm xs->Q ys { s with drawn:=d })->wpAny (model P w) A (drawOrder n xs) Q E s
 |0,xs,s,Q,hn,h=>by
  obtain rfl:=List.length_eq_zero_iff.mp hn;exact qh (h [] s.drawn (.refl _))
 |n+1,[],s,Q,hn,h=>by cases hn
 |n+1,x::r,s,Q,hn,h=>by
  unfold drawOrder;refine qb (ya (by simp) λi d hi=>?_);have e:(x::r)[i]?=some (x::r)[i]:=qg hi;rw[e];dsimp only;refine qb (pG n _ _ _ (by rw[List.length_eraseIdx_of_lt hi];omega) λys d' hp=>qh ?_);exact h _ d' ((hp.cons _).trans (uS e))
theorem uP{α:Type}(next:Nat->Nat):∀(fuel k:Nat)(left:List α)(out:Array α),left.length=fuel->(pickOrder.go next fuel k left out).toList.Perm (out.toList++left)
 |0,k,left,out,h=>by
  obtain rfl:=List.length_eq_zero_iff.mp h;unfold pickOrder.go;rw[qI]
 |fuel+1,k,left,out,h=>by
  unfold pickOrder.go;have hi:next k % left.length<left.length:=Nat.mod_lt _ Yo
  have e:=qg hi;rw[e];dsimp only;refine(uP next fuel (k+1) _ _ (by rw[List.length_eraseIdx_of_lt hi];omega)).trans ?_;rw[Array.toList_push,qX];exact(List.Perm.refl _).append (uS e)
theorem uO{α:Type}(next:Nat->Nat)(xs:Array α):(pickOrder next xs).toList.Perm xs.toList:=by
 have:=uP next xs.size 0 xs.toList #[] qW
 simpa[pickOrder]using this
theorem fU{Q:Bool->Shared->Prop}(h:Q (w.params.followText "set-order") s):wpAny (model P w) A setsByText Q E s:=by
 unfold setsByText;exact qb (wpAny_askSetting (qh h))
structure Gi(P:Program)(w:World)(es:Array (Int×Value))(a:Addr)(s s':Shared)(I:Addr):Prop where
 ex:∃(fp:List Addr)(vs:List Value)(St:Nat->Heap->Prop),vs.Perm (es.toList.map (·.2))/\(∀A:Around,A.handled=none->Walks P w A I fp [I] vs.length (λi v=>vs[i]?=some v) St)/\St 0 s'.heap/\(∀b∈fp,b<s'.heap.objs.size/\(b=a\/s.heap.get? b=none))/\I∈fp
 old:∀b o,s.heap.get? b=some o->s'.heap.get? b=some o
 new:s.heap.get? I=none
 gens:s'.gens=s.gens
 os:s'.os=s.os
 toks:s'.toks=s.toks
theorem EX{t:SetTable}{n:Nat}(h:t.fits n=true):t.place.size=n:=by
 simp only[SetTable.fits,Bool.and_eq_true,beq_iff_eq]at h;exact h.1
theorem gp{h:Heap}{b:Addr}(k:h.objs.size<=b):h.get? b=none:=by
 cases q:h.get? b with
 |none=>rfl
 |some o=>exact Qf (qN (qA q) k) (Qm _)
theorem Es{a:Addr}{es:Array (Int×Value)}{ep:Nat}{t:SetTable}{ys:List Str}{Q:Yq}(hs:s.heap.get? a=some (aL es ep t))(T:aT P w es t ys)
 (h:∀s' I,Gi P w es a s s' I->Q (.ref I) s'):wpAny (model P w) A (pyIter (.ref a)) Q E s:=by
 have ty:s.TypeIs (.ref a) "set":=⟨_,hs,U⟩;have alt:a<s.heap.objs.size:=qA hs;refine wpAny_pyIter_slot ty F.slot_set_iter (Qt F.slot_set_iter ty Ai ?_ (F.args_set_iter_1 _));unfold Builtin.«frozenset.__iter__»;refine qb (qh ?_);refine qb ?_;unfold Builtin.Frozenset.sizeOf;refine qb (fY hs T.fit (qh ?_));refine qb ?_;unfold setDrawn;refine qb (Q8 hs U T.fit ?_);dsimp only;refine qb (fU (qh ?_))
 have two:∀(fst:Value)(s1:Shared),s1.heap.get? a=some (aL es ep t)->(∀it s',it=.ref s1.heap.objs.size->s'={ s1 with heap:=s1.heap.push (dR fst 0 a es.size ep) }->Q it s')->
  wpAny (model P w) A.in1 (do
   let e <- setEpoch a
   let x <- newFields "set_iterator" [fst,rawInt 0,.ref a,rawInt (es.size:Int),rawInt (e:Int)]
   ret x) (λfin s'=>∃v,fin=Fin.done (Flow.ret v)/\∃T' r,s'.TypeIs v T'/\typeLookup (Value.type T') (Str.ofString "__next__")=pure (some r)/\Q v s') E s1:=λfst s1 h1 hq=>by
  refine qb (wpAny_setEpoch_of h1 U T.fit ?_);unfold newFields;refine qb (wpAny_newObj_type ?_);refine qh ⟨_,U,"set_iterator",_,⟨_,qz _ U,U⟩,fe.lookup,hq _ _ U U⟩
 show wpAny _ _ (if(!w.params.followText "set-order" && (!t.plain && decide (es.size > 1)))=true then _ else _) _ _ _;have hpl:=EX T.fit;by_cases hb:w.params.followText "set-order"=true
 .rw[hb];simp only[Bool.not_true,Bool.false_and,Qu,if_false];refine qb (qh ?_);refine two _ s hs λit s' e1 e2=>?_;subst e1 e2;have pp:=uO (w.params.setOrder a ep) es;have pl:((pickOrder (w.params.setOrder a ep) es).toList.map (·.2)).length=es.size:=by rw[qc,pp.length_eq,qW]
  have nx:∀(A':Around)(i:Nat)(s1:Shared)(Q':Option (Value×Nat)->Shared->Prop) E',s1.heap.get? a=some (aL es ep t)->Q' (((pickOrder (w.params.setOrder a ep) es)[i]?).map λe=>(e.2,0)) s1->wpAny (model P w) A' (setNext a 0 i ep) Q' E' s1:=λA' i s1 Q' E' h1 q=>by
   unfold setNext;refine qb (Q8 h1 U T.fit ?_);dsimp only;refine qb (fU ?_);rw[hb,Qc U];have ne:(ep != ep)=false:=by simp
   rw[ne,Qb qt];refine qb ?_;unfold setWalk;refine qb (Q8 h1 U T.fit ?_);dsimp only;refine qb (fU ?_);rw[hb,Qc U];refine qb (wpAny_askSetting (qh ?_));exact qh q
  have nI:a≠s.heap.objs.size:=qQ alt;refine h _ _ ⟨⟨[s.heap.objs.size,a],(pickOrder (w.params.setOrder a ep) es).toList.map (·.2),λi h'=>h'.get? s.heap.objs.size=some (dR (.int 0 0) i a es.size ep)/\h'.get? a=some (aL es ep t),pp.map _,λA' hh=>?_,⟨qz _ U,qe _ hs⟩,?_,by simp⟩,λb o e=>qe _ e,?_,U,U,U⟩
  .refine⟨λb hb=>by simp at hb;simp[hb],λi h1 h2 st k=>⟨k _ (by simp) _ st.1,k _ (by simp) _ st.2⟩,λi s1 Q' E' hi st q=>?_,λs1 Q' E' st q=>?_,λi s1 Q' E' st q=>k6 st.1 q⟩
   .have hi':i<(pickOrder (w.params.setOrder a ep) es).size:=by rw[qc,qW]at hi;exact hi
    refine u0 (sl:=0) (sl':=0) (x:=(pickOrder (w.params.setOrder a ep) es)[i].2) st.1 st.2 T.fit U (λQ2 E2 q2=>nx _ _ _ _ _ st.2 (by rw[Array.getElem?_eq_getElem hi'];exact q2)) λh' g1 g2=>q _ h' s1.toks ?_ ⟨g1,?_⟩ λb o hb e=>?_
    .simp[hi']
    .rw[g2.2 _ nI];exact st.2
    .rw[g2.2 _ (by simpa using hb)];exact e
   .have hi':(pickOrder (w.params.setOrder a ep) es)[((pickOrder (w.params.setOrder a ep) es).toList.map (·.2)).length]?=none:=by simp
    exact lT (sl:=0) hh st.1 st.2 T.fit U (λQ2 E2 q2=>nx _ _ _ _ _ st.2 (by rw[hi'];exact q2)) λh' g=>q h' s1.toks λb o hb e=>g b o (by simpa using hb) e
  .intro b hb;simp only[qF,Q0,or_false]at hb;rw[Qq];rcases hb with rfl|rfl
   .exact⟨Ql _,.inr (gp (qi _))⟩
   .exact⟨QB alt,.inl U⟩
  .exact gp (qi _)
 .have hb':w.params.followText "set-order"=false:=by simpa using hb
  rw[hb'];have led:t.led=true:=by rw[T.led,hb'];rfl
  by_cases hz:es.size > 1
  .have hp:=T.pl Yo;rw[hp];simp only[Bool.not_false,Bool.true_and,hz,decide_true,if_true];refine qb (pG _ _ _ _ (by simp) λps d hps=>?_);refine qb (wpAny_newTuple ?_ (by rw[qc,hps.length_eq,Qo];exact fits_of_scanBound T.few));refine two _ _ (qe _ hs) λit s' e1 e2=>?_;subst e1 e2;dsimp only;have lt:∀p∈ps,p<es.size:=λp hm=>List.mem_range.mp (hps.mem_iff.mp hm);have sz:(s.heap.push { cls:=.type "tuple",data:=.seq (ps.map λi:Nat=>rawInt i).toArray }).objs.size=s.heap.objs.size+1:=Qq ..
   have vp:(ps.map λp=>(es.toList.map (·.2)).getD p .none).Perm (es.toList.map (·.2)):=by
    refine(hps.map _).trans ?_
    have e:(List.range es.size).map (λp=>(es.toList.map (·.2)).getD p .none)=es.toList.map (·.2):=by
     refine List.ext_getElem (by simp) λi h1 h2=>?_;simp only[List.getElem_map,List.getElem_range];rw[qv,qg h2];simp
    rw[e]
   have nI:a≠(s.heap.push { cls:=.type "tuple",data:=.seq (ps.map λi:Nat=>rawInt i).toArray }).objs.size:=by rw[sz];exact qQ (QB alt)
   have nT:s.heap.objs.size≠(s.heap.push { cls:=.type "tuple",data:=.seq (ps.map λi:Nat=>rawInt i).toArray }).objs.size:=by rw[sz];exact qQ (Ql _)
   refine h _ _ ⟨⟨[(s.heap.push { cls:=.type "tuple",data:=.seq (ps.map λi:Nat=>rawInt i).toArray }).objs.size,a,s.heap.objs.size],ps.map λp=>(es.toList.map (·.2)).getD p .none,
    λi h'=>h'.get? (s.heap.push { cls:=.type "tuple",data:=.seq (ps.map λi:Nat=>rawInt i).toArray }).objs.size=some (dR (.ref s.heap.objs.size) i a es.size ep)/\h'.get? a=some (aL es ep t)/\h'.get? s.heap.objs.size=some { cls:=.type "tuple",data:=.seq (ps.map λi:Nat=>rawInt i).toArray },
    vp,λA' hh=>?_,⟨qz _ U,qe _ (qe _ hs),qe _ (qz _ U)⟩,?_,by simp⟩,λb o e=>qe _ (qe _ e),?_,U,U,U⟩
   .refine⟨λb hb=>by simp at hb;simp[hb],λi h1 h2 st k=>⟨k _ (by simp) _ st.1,k _ (by simp) _ st.2.1,k _ (by simp) _ st.2.2⟩,λi s1 Q' E' hi st q=>?_,λs1 Q' E' st q=>?_,λi s1 Q' E' st q=>k6 st.1 q⟩
    .have hi':i<ps.length:=by rw[qc]at hi;exact hi
     have pl:=lt _ (List.getElem_mem hi');refine zP (p:=ps[i]) (tk:=0) (x:=es[ps[i]]) st.1 st.2.1 T.fit U st.2.2 U (by simp[hi',rawInt]) (Array.getElem?_eq_getElem pl) λh' g1 g2=>q _ h' s1.toks ?_ ⟨g1,?_,?_⟩ λb o hb e=>?_
     .simp[hi',pl]
     .rw[g2.2 _ nI];exact st.2.1
     .rw[g2.2 _ nT];exact st.2.2
     .rw[g2.2 _ (by simpa using hb)];exact e
    .exact zO hh st.1 st.2.1 T.fit U st.2.2 U (by simp) λh' g=>q h' s1.toks λb o hb e=>g b o (by simpa using hb) e
   .intro b hb;simp only[qF,Q0,or_false]at hb;rw[Qq,sz];rcases hb with rfl|rfl|rfl
    .rw[sz];exact⟨Ql _,.inr (gp (Nat.le_succ _))⟩
    .exact⟨QB (QB alt),.inl U⟩
    .exact⟨QB (Ql _),.inr (gp (qi _))⟩
   .rw[sz];exact gp (Nat.le_succ _)
  .have hz':decide (es.size > 1)=false:=Qe hz;rw[hz',Bool.and_false,Bool.and_false,Qb qt];refine qb (qh ?_);refine two _ s hs λit s' e1 e2=>?_;subst e1 e2;have nI:a≠s.heap.objs.size:=qQ alt
   have nx:∀(A':Around)(i sl:Nat)(s1:Shared)(Q':Option (Value×Nat)->Shared->Prop) E',s1.heap.get? a=some (aL es ep t)->Q' (match es[SetTable.below t.place sl]?,t.place[SetTable.below t.place sl]? with|some (_,x),some j=>some (x,j+1)|_,_=>none) s1->wpAny (model P w) A' (setNext a sl i ep) Q' E' s1:=λA' i sl s1 Q' E' h1 q=>by
    unfold setNext;refine qb (Q8 h1 U T.fit ?_);dsimp only;refine qb (fU ?_);rw[hb',Qb qt];show wpAny _ _ (if(!t.plain && decide (es.size > 1))=true then _ else _) _ _ _;rw[hz',Bool.and_false,Qb qt];refine qb ?_;show wpAny _ _ (if(!t.led && !es.isEmpty)=true then _ else _) _ _ _;rw[led,Bool.not_true,Bool.false_and,Qb qt];exact qh (qh q)
   have gofar:∀sl:Nat,es.size=0->SetTable.below t.place sl=0:=λsl h0=>by
    unfold SetTable.below;rw[hpl,h0]
    rfl
   have gone:∀j sl:Nat,t.place=#[j]->SetTable.below t.place sl=if j<sl then 1 else 0:=λj sl e=>by
    rw[e];simp[SetTable.below,SetTable.below.go]
   have old:∀b o,s.heap.get? b=some o->(s.heap.push (dR (rawInt 0) 0 a es.size ep)).get? b=some o:=λb o e=>qe _ e
   have inn:∀b∈[s.heap.objs.size,a],b<(s.heap.push (dR (rawInt 0) 0 a es.size ep)).objs.size/\(b=a\/s.heap.get? b=none):=by
    intro b hb;simp only[qF,Q0,or_false]at hb;rw[Qq];rcases hb with rfl|rfl
    .exact⟨Ql _,.inr (gp (qi _))⟩
    .exact⟨QB alt,.inl U⟩
   by_cases h0:es.size=0
   .have e0:es=#[]:=Array.eq_empty_of_size_eq_zero h0;refine h _ _ ⟨⟨[s.heap.objs.size,a],[],λi h'=>h'.get? s.heap.objs.size=some (dR (.int ((0:Nat):Int) 0) i a es.size ep)/\h'.get? a=some (aL es ep t),by rw[e0];exact .refl _,λA' hh=>?_,⟨qz _ U,old _ _ hs⟩,inn,by simp⟩,old,gp (qi _),U,U,U⟩;refine⟨λb hb=>by simp at hb;simp[hb],λi h1 h2 st k=>⟨k _ (by simp) _ st.1,k _ (by simp) _ st.2⟩,λi s1 Q' E' hi st q=>Qf hi (QJ _),λs1 Q' E' st q=>?_,λi s1 Q' E' st q=>k6 st.1 q⟩;exact lT (sl:=0) hh st.1 st.2 T.fit U (λQ2 E2 q2=>nx _ _ _ _ _ _ st.2 (by rw[gofar 0 h0,e0];exact q2)) λh' g=>q h' s1.toks λb o hb e=>g b o (by simpa using hb) e
   .have h1:es.size=1:=by omega
    obtain⟨x,ex⟩:∃x,es=#[x]:=⟨es[0],by
     refine Array.ext (by simpa using h1) λi hi hj=>?_;have:i=0:=by simp at hj;exact hj
     subst this
     rfl⟩
    obtain⟨j,ej⟩:∃j,t.place=#[j]:=⟨t.place[0]'(by rw[hpl,h1];decide),by
     refine Array.ext (by simp[hpl,h1]) λi hi hj=>?_;have:i=0:=by simp at hj;exact hj
     subst this
     rfl⟩
    refine h _ _ ⟨⟨[s.heap.objs.size,a],[x.2],λi h'=>h'.get? s.heap.objs.size=some (dR (.int ((if i=0 then 0 else j+1:Nat):Int) 0) i a es.size ep)/\h'.get? a=some (aL es ep t),by rw[ex];exact .refl _,λA' hh=>?_,⟨qz _ U,old _ _ hs⟩,inn,by simp⟩,old,gp (qi _),U,U,U⟩;refine⟨λb hb=>by simp at hb;simp[hb],λi h1 h2 st k=>⟨k _ (by simp) _ st.1,k _ (by simp) _ st.2⟩,λi s1 Q' E' hi st q=>?_,λs1 Q' E' st q=>?_,λi s1 Q' E' st q=>k6 st.1 q⟩
    .obtain rfl:i=0:=by simp at hi;exact hi
     refine u0 (sl:=0) (sl':=j+1) (x:=x.2) st.1 st.2 T.fit U (λQ2 E2 q2=>nx _ _ _ _ _ _ st.2 ?_) λh' g1 g2=>q _ h' s1.toks U ⟨g1,?_⟩ λb o hb e=>?_
     .rw[gone j 0 ej,ej,ex];exact q2
     .rw[g2.2 _ nI];exact st.2
     .rw[g2.2 _ (by simpa using hb)];exact e
    .refine lT (sl:=j+1) hh st.1 st.2 T.fit U (λQ2 E2 q2=>nx _ _ _ _ _ _ st.2 ?_) λh' g=>q h' s1.toks λb o hb e=>g b o (by simpa using hb) e;rw[gone j (j+1) ej,Qc (Ql j),ej,ex];exact q2
end
section
variable {P:Program}{w:World}{A:Around}{E:Yq}{s:Shared}
theorem Ah:typeLookup (.type "set") "__len__"=pure (some (.builtin "set.__len__")):=by rw[typeLookup_type,builtinLookup_eq_fast];kernel_rfl
theorem j0:isSubtype (.type "set") (.type "set")=pure true:=by rw[isSubtype_type];kernel_rfl
theorem FE{a:Addr}{es:Array (Int×Value)}{ep:Nat}{t:SetTable}{ys:List Str}{Q:List Value->Shared->Prop}(hh:A.handled=none)(hs:s.heap.get? a=some (aL es ep t))(T:aT P w es t ys)
 (h:∀s' vs,vs.Perm (es.toList.map (·.2))->(∀b o,s.heap.get? b=some o->s'.heap.get? b=some o)->s'.gens=s.gens->s'.os=s.os->s.heap.objs.size<s'.heap.objs.size->Q vs s'):wpAny (model P w) A (collect (.ref a)) Q E s:=by
 unfold collect;refine qb (wpAny_runValue (codeAny_builtin F.entry_proto_collect ?_));rw[Around.under_plainId F.plain_proto_collect _];show wpAny _ A.in1 (newList [] >>= λl=>again (.builtin "list.__iadd__" ⟨[l,.ref a],[]⟩)) _ _ s;refine qb (wpAny_newObj_type ?_);refine qh ⟨plainId_quiet F.plain_list_iadd _,codeAny_builtin F.entry_list_iadd ?_⟩;rw[Around.under_plainId F.plain_list_iadd _];have alt:a<s.heap.objs.size:=qA hs;have hs1:(s.heap.push { cls:=.type "list",data:=.seq ([]:List Value).toArray }).get? a=some (aL es ep t):=qe _ hs;show wpAny _ A.in1 (Builtin.List.listExtendWith (.ref s.heap.objs.size) (.ref a) (.ref s.heap.objs.size)) _ _ _;unfold Builtin.List.listExtendWith;refine qb (wpAny_typeOf (T:="set") ⟨_,hs1,U⟩ ?_)
 have h1:Builtin.List.listSameRef (.ref s.heap.objs.size) (.ref a)=false:=by
  simp only[Builtin.List.listSameRef,beq_eq_false_iff_ne];exact Nat.ne_of_gt alt
 rw[Qb (by rw[h1];decide)];refine qb (Es (A:=A.in1) (s:={ s with heap:=s.heap.push { cls:=.type "list",data:=.seq ([]:List Value).toArray } }) hs1 T λs2 I W=>?_);obtain⟨⟨fp,vs,St,hp,wk,st0,hfp,hI⟩,old,new,eg,eo,et⟩:=W;have hs2:=old _ _ hs1;have l2:=old _ _ (show(s.heap.push { cls:=.type "list",data:=.seq ([]:List Value).toArray }).get? s.heap.objs.size=some { cls:=.type "list",data:=.seq ([]:List Value).toArray }from qz _ U);refine qb (QG ?_);unfold Builtin.List.listLengthHint;refine qb (wpAny_specialOf (T:="set") ⟨_,hs2,U⟩ Ah ?_);have ty2:s2.TypeIs (.ref a) "set":=⟨_,hs2,U⟩
 (generalize hid:("set.__len__":String)=id0;(fail_if_success (clear hid id0));wp_delta;rw[show splitId id0=some ("set","__len__")from by subst hid;decide +kernel];subst hid)
 refine qb (wpAny_isInstance (b:=true) ty2 j0 ?_);rw[Qb Yk];show wpAny _ _ (if _=true then _ else _) _ _ _;rw[Qc Yk];refine qb (wpAny_typeOf ty2 ?_);refine qh ?_;rw[Qc Yk];refine qb (wpAny_rule ?_);refine qb ?_;show wpAny _ A.in1 (updateSeq s.heap.objs.size (·.push .none) >>= λ_=>updateSeq s.heap.objs.size (·.pop)) _ _ _;refine qb (wpAny_updateSeq l2 U ?_);have l3:=Qr (Obj.mapSeq (·.push Value.none)) l2 U;refine wpAny_updateSeq l3 U ?_;have l4:=Qr (Obj.mapSeq (·.pop)) l3 U
 have oth:∀b o,b≠s.heap.objs.size->s2.heap.get? b=some o->((s2.heap.update s.heap.objs.size (Obj.mapSeq (·.push Value.none))).update s.heap.objs.size (Obj.mapSeq (·.pop))).get? b=some o:=λb o hb e=>
  (QE _ _ (Ne.symm hb)).trans ((QE _ _ (Ne.symm hb)).trans e)
 have notin:s.heap.objs.size∉fp:=λhm=>by
  rcases(hfp _ hm).2 with z|z
  .exact Qm _ (z▸alt)
  .rw[show({ s with heap:=s.heap.push { cls:=.type "list",data:=.seq ([]:List Value).toArray } }:Shared).heap.get? s.heap.objs.size=some { cls:=.type "list",data:=.seq ([]:List Value).toArray }from qz _ U]at z;cases z
 have hn:vs.length<=sizeLine:=by rw[hp.length_eq,qc,qW];exact fits_of_scanBound T.few
 have W:=(wk A.in1 (by simp[hh])).toS
 refine qh ⟨plainId_quiet F.plain_extend_loop _,codeAny_extend_loopS W hn _ notin _ vs.length 0 _ _ _ U (qD _)
  (W.frame 0 s2 _ s2.toks st0 (qi _) λb hb o e=>oth b o (λz=>notin (z▸hb)) e) l4 (ItemsOf.nil _) λs' acc c' hm hS' hacc=>?_⟩
 show wpAny _ A (load s.heap.objs.size >>= _) _ _ s';refine qb (wpAny_load hS' (qh ?_))
 have ea:acc.toList=vs:=by
  refine List.ext_getElem? λi=>?_;rw[Q5];by_cases hi:i<acc.size
  .rw[Array.getElem?_eq_getElem hi];exact(hacc.2 i _ (Array.getElem?_eq_getElem hi)).symm
  .rw[Array.getElem?_eq_none (Nat.not_lt.mp hi),QA (by have:=hacc.1;omega)]
 rw[ea];refine h s' vs hp (λb o e=>?_) (hm.gens.trans eg) (hm.os.trans eo) (qA hS');have lb:b≠s.heap.objs.size:=λz=>by rw[z]at e;exact Qm _ (qA e)
 have bI:b≠I:=λz=>by
  rw[z]at e;have e2:(s.heap.push { cls:=.type "list",data:=.seq ([]:List Value).toArray }).get? I=some o:=qe _ e;exact Qf (e2.symm.trans new) (by simp)
 exact hm.heap b o (by simp[lb,bI]) (oth b o lb (old b o (qe _ e)))
theorem zG{a:Addr}{es:Array (Int×Value)}{ep:Nat}{t:SetTable}{ys:List Str}{Q:Yq}(hh:A.handled=none)(hs:s.heap.get? a=some (aL es ep t))(T:aT P w es t ys)(few:es.size<64)
 (h:∀s' l n (zs:List Str) (out:List Value),s.heap.objs.size<=l->s'.heap.get? l=some { cls:=.type "list",data:=.seq out.toArray n }->PyProof.Rows.StrsAre out zs->zs.Nodup->(∀k,k∈zs↔k∈ys)->PyProof.Rows.sortedS zs=true->zs.length=es.size->
  (∀b o,s.heap.get? b=some o->s'.heap.get? b=some o)->s'.gens=s.gens->s'.os=s.os->Q (.ref l) s'):wpAny (model P w) A (call (.builtin "sorted") [.ref a]) Q E s:=by
 refine Calls.call_function_entry PyProof.Rows.kind_sorted PyProof.Rows.plain_sorted PyProof.Rows.entry_sorted (PyProof.Rows.args_sorted1 _) ?_;unfold Builtin.«sorted»;refine qb (m:=checkCount "sorted" 1 1 _) (qh ?_);refine qb (FE (A:=A.in1) (by simpa using hh) hs T λs1 vs hp old eg eo lt1=>?_)
 have str:∀us:List Value,(∀v∈us,∃k tk,v=Value.str k tk)->PyProof.Rows.StrsAre us (us.map txt):=by
  intro us
  induction us with
  |nil=>intro _;exact .nil
  |cons v r ih=>
   intro hv;obtain⟨k,tk,rfl⟩:=hv _ qy;exact .cons k tk (ih λu hu=>hv u (qw _ hu))
 have all:∀v∈vs,∃k tk,v=Value.str k tk:=λv hv=>by
  obtain⟨e,he,rfl⟩:=List.mem_map.mp (hp.mem_iff.mp hv);obtain⟨⟨k,hk,_⟩,_⟩:=T.el e he;obtain⟨tk,e2⟩:=Value.isStrOf_shape hk;exact⟨k,tk,e2⟩
 have hS:=str vs all;have len:vs.length=es.size:=by rw[hp.length_eq,qc,qW]
 refine qb (wpAny_newList ?_ (by rw[len];exact fits_of_scanBound T.few));have ho:(s1.heap.push { cls:=.type "list",data:=.seq vs.toArray }).get? s1.heap.objs.size=some (PyProof.Rows.seqObj "list" vs.toArray 0):=qz _ U;refine qb (QG (Qt PyProof.Rows.slot_list_sort ⟨_,ho,U⟩ PyProof.Rows.entry_list_sort (PyProof.Rows.list_sort_treeK PyProof.Rows.strKind_oneLt ho hS.keysOf (λv1 v2 rest e=>PyProof.Rows.keyKind_strs (by rw[<- e];exact hS)) Yo λst' a1 a2=>⟨_,U,?_⟩) (PyProof.Rows.args_list_sort _)));obtain⟨zs,h1,h2,h3⟩:=PyProof.Rows.sorted_out_str hS a1 a2;obtain⟨n,at1⟩:=PyProof.Rows.sortedHeap_at (out:=(PyProof.Rows.arrOf st').map (·.2)) ho
 have pz:zs.Perm (es.toList.map λe=>txt e.2):=by
  refine h2.trans ((hp.map txt).trans ?_);rw[List.map_map];exact .refl _
 refine qh ⟨_,U,h _ s1.heap.objs.size n zs ((PyProof.Rows.arrOf st').map (·.2)).toList (Nat.le_of_lt lt1) ?_ h1 (pz.nodup_iff.mpr T.nd) (λk=>(pz.mem_iff).trans (T.mem k)) h3 (by rw[pz.length_eq,qc,qW]) (λb o e=>?_) eg eo⟩
 .exact at1
 .have e1:=old b o e;have lt:=qA e1;have e2:=(PyProof.Rows.sortedHeap_old (h:=s1.heap.push { cls:=.type "list",data:=.seq vs.toArray }) (a:=s1.heap.objs.size) (vs:=vs) (out:=(PyProof.Rows.arrOf st').map (·.2)) (qQ lt) (by rw[Qq];exact QB lt));exact e2.trans (qe _ e1)
end
section
variable {P:Program}{w:World}{A:Around}{E:Yq}{s:Shared}
noncomputable def bT(w:World):Obj:=aL #[] 0 (.fresh 0 0 (!w.params.followText "set-order"))
theorem DI(v:Value){Q1:Yq}(h:Q1 (.ref s.heap.objs.size) { s with heap:=s.heap.push (bT w) }):
 codeAny (model P w) A (.call (.builtin "set.__new__") ⟨[.type "set",v],[]⟩) (wants Q1 E) s:=by
 refine codeAny_of_tree ?_;show wpAny _ A.in1 (do checkBuiltinCall "set.__new__" ⟨[.type "set",v],[]⟩;again (.builtin "set.__new__" ⟨[.type "set",v],[]⟩)) _ _ s;have en:=F.entry_set_new;have pl:=F.plain_set_new;refine qb (wpAny_of_eq (F.newCall_set_1 v) (qh ⟨plainId_quiet pl _,codeAny_builtin en ?_⟩));rw[Around.under_plainId pl _];unfold Builtin.«set.__new__» Builtin.Frozenset.newClass;have sub:=sub_set_self;obtain⟨hp,g,d,tk,os⟩:=s;dsimp only
 wp_walk
 refine wpAny_askSetting (qh ?_);dsimp only;simp only[newObj];refine qb (wpAny_alloc (qh ?_));exact qh h
theorem sj:∀{vs:List Value}{zs:List Str},PyProof.Rows.StrsAre vs zs->zs.length=vs.length
 |_,_,.nil=>rfl
 |_,_,.cons _ _ r=>by rw[qL,qL,sj r]
theorem su:∀{vs:List Value}{zs:List Str},PyProof.Rows.StrsAre vs zs->∀(i:Nat)(v:Value),vs[i]?=some v->∃k t,zs[i]?=some k/\v=.str k t
 |_,_,.nil,i,v,h=>by simp at h
 |_,_,.cons x t r,0,v,h=>by simp at h;exact⟨x,t,U,h.symm⟩
 |_,_,.cons x t r,i+1,v,h=>by
  simp only[List.getElem?_cons_succ]at h ⊢;exact su r i v h
theorem jR:aT P w #[] (.fresh 0 0 (!w.params.followText "set-order")) []:=
 { el:=(λe he=>by cases he),nd:=List.nodup_nil,mem:=λ_=>Iff.rfl,few:=(by unfold scanBound;decide),fit:=U,led:=U,pl:=λz=>Qf z (Qm 0) }
set_option maxHeartbeats 3200000 in
theorem FK{l:Addr}{items:Array Value}{zs:List Str}{Q:Yq}(hh:A.handled=none)(hl:s.heap.IsList l items)(hi:PyProof.Rows.StrsAre items.toList zs)(hb:items.size+1<scanBound)
 (h:∀(h':Heap)(tk:Nat) es ep t,h'.get? s.heap.objs.size=some (aL es ep t)->aT P w es t zs->
  (∀b o,b<s.heap.objs.size->s.heap.get? b=some o->h'.get? b=some o)->Q (.ref s.heap.objs.size) { s with heap:=h',toks:=tk }):
 wpAny (model P w) A (call (.type "set") [.ref l]) Q E s:=by
 obtain⟨c,tl,hmro⟩:=F.called_set.mro;have hmade:=F.called_set.made;have hsub:=F.called_set.sub;refine wpAny_call (codeAny_of_tree ?_);show wpAny _ _ (callAny (.type "set") _) _ _ _;refine qh ⟨Code.quiet_builtin _ Yd,codeAny_builtin F.entry_type_call ?_⟩;rw[Around.under_plain (weight_type_call_type "set" [.ref l] []) U];have h1:=F.called_set.notType;have h2:=F.called_set.canCreate;have hct:=F.typeCall_set_1 (.ref l)
 repeat (any_goals (first|assumption|wp_step))
 refine codeAny_mono (DI (P:=P) (w:=w) (E:=E) (s:=s) (.ref l) (Q1:=λob s1=>ob=.ref s.heap.objs.size/\s1={ s with heap:=s.heap.push (bT w) }) ⟨U,U⟩) λr s1 hr=>?_
 cases r with
 |error e=>exact hr
 |ok fl=>
  cases fl with
  |ret ob=>
   obtain⟨rfl,rfl⟩:=hr;have hS:(s.heap.push (bT w)).get? s.heap.objs.size=some (bT w):=qz _ U;have hT:Shared.TypeIs { s with heap:=s.heap.push (bT w) } (.ref s.heap.objs.size) "set":=⟨_,hS,U⟩;have hli:=F.called_set.init.lookup;have hbi:=F.called_set.init.bind (.ref s.heap.objs.size)
   repeat (any_goals (first|assumption|wp_step))
   refine codeAny_mono (codeAny_call_builtin (R:=wants (λr s2=>r=.none/\∃h' tk,s2={ s with heap:=h',toks:=tk }/\(∃es ep t,h'.get? s.heap.objs.size=some (aL es ep t)/\aT P w es t zs) /\
    (∀b o,b<s.heap.objs.size->s.heap.get? b=some o->h'.get? b=some o)) E) F.called_set.init.plain F.entry_set_init (check_set_init_1 hT ?_)) λr2 s2 hr2=>?_
   .obtain⟨ol,hol,hcl,nl,hdl⟩:=hl;obtain⟨ocls,odict,odata,oslots⟩:=ol;simp only at hcl hdl;subst hcl hdl;have hol':(s.heap.push (bT w)).get? l=some { cls:=.type "list",dict:=odict,data:=.seq items nl,slots:=oslots }:=qe _ hol;have k1:=F.sub_list_set;have k2:=F.sub_list_frozenset;have k3:(Value.type "list" == Value.type "dict")=false:=Yk;have hl1:(s.heap.push (bT w)).IsList l items:=⟨_,hol',U,nl,U⟩;unfold Builtin.«set.__init__» noKeywords Builtin.Frozenset.updateFrom;generalize hPI:pyIter=PI
    wp_walk
    subst hPI;refine wpAny_pyIter_list hl1 ?_;refine qb (wpAny_runValue ?_);have lS:l<s.heap.objs.size:=qA hol;have hh3:A.in1.in1.in1.handled=none:=by simp[hh]
    have neI:l≠(s.heap.push (bT w)).objs.size:=by rw[Qq];exact qQ (QB lS)
    have nin:s.heap.objs.size∉[(s.heap.push (bT w)).objs.size,l]:=by
     rw[Qq];simp only[qF,Q0,or_false,not_or];exact⟨qQ (Ql _),Nat.ne_of_gt lS⟩
    have hz:∀(i:Nat)(v:Value),items[i]?=some v->∃k t,zs[i]?=some k/\v=.str k t:=λi v hv=>su hi i v (by rw[Q5];exact hv);have lz:zs.length=items.size:=by rw[<- qW];exact sj hi
    refine EZ ((Walks.list hh3 _ l neI items).toS) s.heap.objs.size nin zs hz hb (items.size-0) 0 _ Yo (qD _) ⟨⟨_,qz _ U,U,U⟩,(hl1.push _)⟩ ⟨#[],0,_,qe _ hS,jR,qi _⟩ λs' hm hS'=>?_;obtain⟨es,ep,t,g1,g2,_⟩:=hS';obtain⟨h',g',d',tk',os'⟩:=s';have eg:g'=s.gens:=hm.gens;have ed:d'=s.drawn:=hm.drawn;have eo:os'=s.os:=hm.os;subst eg ed eo;refine qh ?_;rw[<- lz,qR]at g2;refine qh ⟨U,h',tk',U,⟨es,ep,t,g1,g2⟩,λb o hb e=>?_⟩;have n1:b≠s.heap.objs.size:=qQ hb;have n2:b≠(s.heap.push (bT w)).objs.size:=by rw[Qq];exact qQ (QB hb)
    exact hm.heap b o (by simp only[qF,Q0,or_false,not_or];exact⟨n1,n2⟩) (qe _ (qe _ e))
   .cases r2 with
    |error e=>exact hr2
    |ok fl2=>
     cases fl2 with
     |ret r=>
      obtain⟨rfl,h',tk,rfl,⟨es,ep,t,g1,g2⟩,hk⟩:=hr2
      repeat (any_goals (first|assumption|wp_step))
      exact h _ _ _ _ _ g1 g2 hk
     |_=>exact hr2.elim
  |_=>exact hr.elim
end
noncomputable def bL(P:Program)(w:World)(a:Addr)(ys:List Str):HO:=.ext λh=>∃es ep t,h.get? a=some (aL es ep t)/\aT P w es t ys
theorem bL.ok{P:Program}{w:World}{H:Hp}{h:Heap}{a:Addr}{ys:List Str}{es:Array (Int×Value)}{ep:Nat}{t:SetTable}(e:h.get? a=some (aL es ep t))(T:aT P w es t ys):bp P w H h a (bL P w a ys):=
 ⟨⟨es,ep,t,e,T⟩,⟨_,e⟩,λh1 h2 ⟨es,ep,t,q,T⟩ k=>⟨es,ep,t,k _ q,T⟩⟩
theorem lJ:∀{ys:List Str}{its:List Value},aw (ys.map V.str) its->StrsAre its ys
 |[],_,.nil=>.nil
 |y::ys,_,.cons r t=>by
  obtain⟨k,rfl⟩:=r;exact .cons y k (lJ t)
theorem oK:∀{ys:List Str}{its:List Value},StrsAre its ys->aw (ys.map V.str) its
 |_,_,.nil=>.nil
 |_,_,.cons x t r=>.cons ⟨t,U⟩ (oK r)
theorem fD{zs ds:List Str}(h:zs.Nodup)(k:∀x∈zs,x∈ds):zs.length<=ds.length:=by
 induction zs generalizing ds with
 |nil=>exact qD _
 |cons x r ih=>
  have hx:=k x qy;have h':=List.nodup_cons.mp h;have:=ih (ds:=ds.erase x) h'.2 λy hy=>(List.mem_erase_of_ne (by rintro rfl;exact h'.1 hy)).mpr (k y (qw _ hy));rw[List.length_erase_of_mem hx]at this;have:0<ds.length:=List.length_pos_of_mem hx;simp only[qL];omega
section
variable {X:Cx}
theorem Inv.redrawn{pins:List (Addr×Obj)}{Y:St}{H:Hp}{s s':Shared}(I:Inv X pins Y H { s with heap:=s'.heap })(hg:s'.gens=s.gens)(ho:s'.os=s.os):Inv X pins Y H s':=
 ⟨I.ok,ho.trans I.os,by rw[hg];exact I.bare,I.base,I.loc,I.cell,I.free,I.freeC,I.pin,I.hok,I.len⟩
theorem gX(hc:X.calm=true):cJ X (.type "set") (λxs H Q=>∃p ys,xs=[.ref p]/\SqL X.K H p (ys.map V.str)/\ys.length<4000/\∀l,H l=none->Q (.ref l) (upd H l (bL X.prog X.w l ys))):=by
 intro pins s Y H xs us Q I r h;obtain⟨p,ys,rfl,hq,hz,q⟩:=h;obtain⟨u,rfl,rx⟩:=fH r;cases rx;obtain⟨its,r',pl,_⟩:=I.list hq;have hlen:=r'.length;rw[qc]at hlen;refine FK (I.ok.hd hc) pl.isList (zs:=ys) (by simpa using lJ r') (by simp only[qM];unfold scanBound;omega) λh' tk es ep t e T k=>?_;have kp:∀b o,s.heap.get? b=some o->h'.get? b=some o:=λb o q=>k b o (qA q) q;exact⟨.ref s.heap.objs.size,_,I.laid (t':=tk) kp (qi _) (bL.ok e T),U,q _ (I.hok.fresh (qi _))⟩
theorem jy(hc:X.calm=true):cJ X (.builtin "sorted") (λxs H Q=>∃(p:Addr)(ys ds:List Str),xs=[.ref p]/\H p=some (bL X.prog X.w p ys)/\(∀k∈ys,k∈ds)/\ds.length<64 /\
 ∀l zs,H l=none->zs.Nodup->(∀k,k∈zs↔k∈ys)->sortedS zs=true->Q (.ref l) (upd H l (.lst (zs.map V.str)))):=by
 intro pins s Y H xs us Q I r h;obtain⟨p,ys,ds,rfl,hq,hd,h64,q⟩:=h;obtain⟨u,rfl,rx⟩:=fH r;cases rx;obtain⟨⟨es,ep,t,e,T⟩,_,_⟩:=I.hok p _ hq
 have few:es.size<64:=by
  have:=fD T.nd λx hx=>hd x ((T.mem x).mp hx);rw[qc,qW]at this;omega
 refine zG (I.ok.hd hc) e T few λs' l n zs out hl ho hS nd hm so hzl kp hg hos=>?_;have lz:zs.length<=sizeLine:=by rw[hzl];exact fits_of_scanBound T.few
 have J:=I.laid (t':=s.toks) (h':=s'.heap) (a:=l) (o:=.lst (zs.map V.str)) kp hl ⟨by rw[qc];exact lz,out,n,oK hS,ho⟩;exact⟨.ref l,_,Inv.redrawn (s:=s) J hg hos,U,q l zs (I.hok.fresh hl) nd hm so⟩
end
theorem DZ:typeLookup (.type "list_reverseiterator") "__len__"=pure none:=by rw[typeLookup_type,builtinLookup_eq_fast];kernel_rfl
theorem E1:typeLookup (.type "list_reverseiterator") "__length_hint__"=pure (some (.builtin "list_reverseiterator.__length_hint__")):=by rw[typeLookup_type,builtinLookup_eq_fast];kernel_rfl
section
variable {P:Program}{w:World}{A:Around}{E:Yq}{s:Shared}
theorem E4{I l:Addr}{items:Array Value}{Q:Yq}(hh:A.handled=none)(hne:l≠I)(hI:s.heap.IsRevIter I l ((items.size:Int)-1))(hl:s.heap.IsList l items)(hz:items.size<=sizeLine)
 (h:∀h' tk c',(∀b o,b≠I->s.heap.get? b=some o->h'.get? b=some o)->h'.get? s.heap.objs.size=some { cls:=.type "list",data:=.seq items.toList.reverse.toArray c' }->Q (.ref s.heap.objs.size) { s with heap:=h',toks:=tk }):
 wpAny (model P w) A (call (.type "list") [.ref I]) Q E s:=by
 obtain⟨oI,gI,cI,dI⟩:=id hI;obtain⟨oL,gL,_⟩:=id hl;have lI:=qA gI;have lL:=qA gL;refine callType_codes (Q₁:=λob s1=>ob=.ref s.heap.objs.size/\s1={ s with heap:=s.heap.push { cls:=.type "list",data:=.seq #[] } }) F.called_list (F.typeCall_list_1 _) F.entry_list_init (code_list_new _ ⟨U,U⟩) λob s1 h1=>?_;obtain⟨rfl,rfl⟩:=h1;have hS:(s.heap.push { cls:=.type "list",data:=.seq #[] }).get? s.heap.objs.size=some { cls:=.type "list",data:=.seq #[] }:=qz _ U;refine⟨⟨_,hS,U⟩,F.args_list_init_2 _ _,?_⟩;show wpAny _ _ (do let old <- Builtin.List.listItems (.ref s.heap.objs.size);Builtin.List.listUpdate (.ref s.heap.objs.size) (λ_=>#[]);letGo old.toList.reverse;Builtin.List.listExtendWith (.ref s.heap.objs.size) (.ref I) .none) _ _ _;refine qb ?_;unfold Builtin.List.listItems;refine qb (QH hS U (qh ?_));refine qb ?_;show wpAny _ _ (updateSeq s.heap.objs.size (λ_=>#[])) _ _ _;refine wpAny_updateSeq hS U ?_;have hS2:=Qr (Obj.mapSeq (λ_=>(#[]:Array Value))) hS U
 have oth:∀b o,b≠s.heap.objs.size->s.heap.get? b=some o->((s.heap.push { cls:=.type "list",data:=.seq #[] }).update s.heap.objs.size (Obj.mapSeq (λ_=>(#[]:Array Value)))).get? b=some o:=
  λb o hb e=>(QE _ _ (Ne.symm hb)).trans (qe _ e)
 refine qb (wpAny_letGo ?_);have nI:I≠s.heap.objs.size:=qQ lI;have nL:l≠s.heap.objs.size:=qQ lL;have hI2:=hI.at λo e=>oth I o nI e;have hl2:=hl.at λo e=>oth l o nL e;have ty:=hI2.typeIs (s:={ s with heap:=(s.heap.push { cls:=.type "list",data:=.seq #[] }).update s.heap.objs.size (Obj.mapSeq (λ_=>(#[]:Array Value))) });unfold Builtin.List.listExtendWith;refine qb (wpAny_typeOf ty ?_);have h1:Builtin.List.listSameRef (.ref s.heap.objs.size) (.ref I)=false:=by simp[Builtin.List.listSameRef,Ne.symm nI]
 rw[Qb (by rw[h1];decide)];refine qb (wpAny_pyIter_revIter hI2 ?_);refine qb (QG ?_);unfold Builtin.List.listLengthHint;refine qb (wpAny_specialOf ty DZ ?_);show wpAny _ _ (specialOf (Value.ref I) (Str.ofString "__length_hint__") >>= _) _ _ _;refine qb (wpAny_specialOf ty E1 ?_)
 (generalize hid:("list_reverseiterator.__length_hint__":String)=id0;(fail_if_success (clear hid id0));wp_delta;rw[show splitId id0=some ("list_reverseiterator","__length_hint__")from by subst hid;decide +kernel];subst hid)
 refine qb (wpAny_isInstance (b:=true) ty (by rw[isSubtype_type];kernel_rfl) ?_);refine qh ?_;rw[Qb Yk];have W:=(Walks.listRev (prog:=P) (w:=w) (A:=A.in1.in1) (by simp[hh]) I l hne items).toS;have notin:s.heap.objs.size∉[I,l]:=by simp[Ne.symm nI,Ne.symm nL]
 refine qh ⟨plainId_quiet F.plain_extend_loop _,codeAny_extend_loopS W hz _ notin _ items.size 0 _ _ _ U (qD _) ⟨qD _,by simpa using hI2,hl2⟩ hS2 (ItemsOf.nil _) λs' acc c' hm hS' hacc=>?_⟩;refine⟨U,?_⟩;obtain⟨h',g',d',tk',os'⟩:=s';have eg:g'=s.gens:=hm.gens;have ed:d'=s.drawn:=hm.drawn;have eo:os'=s.os:=hm.os;subst eg ed eo
 have ea:acc=items.toList.reverse.toArray:=by
  refine Array.ext (by simp[hacc.1]) λi h1 h2=>?_;have q:=hacc.2 i _ (Array.getElem?_eq_getElem h1);change items[items.size-1-i]?=some acc[i]at q;have lt:items.size-1-i<items.size:=by have:=hacc.1;omega
  rw[Array.getElem?_eq_getElem lt]at q;simp only[List.getElem_toArray,List.getElem_reverse,Array.getElem_toList,qW];exact(qT q).symm
 subst ea;refine h h' tk' c' (λb o hb e=>?_) hS'
 .have nb:b≠s.heap.objs.size:=qQ (qA e);exact hm.heap b o (by simp[nb,hb]) (oth b o nb e)
end
section
variable {X:Cx}
theorem DL:MtR X "str.index" (λv xs H Q=>∃(z y:Str)(i:Nat)(r:List Nat),v=.str z/\xs=[.str y]/\Builtin.Str.occurrences z y 0 z.length 1=i::r/\Q (.int (i:Int)) H):=by
 intro pins s Y H x xs v us Q I rx r h;obtain⟨z,y,i,l,rfl,rfl,ho,q⟩:=h;obtain⟨t,rfl⟩:=rx;obtain⟨u,rfl,t',rfl⟩:=fH r;exact call_gives PySem.F.slot_str_index (typeIs_str _ _ _) PySem.F.entry_str_index (PySem.F.args_str_index_2 _ _) (gives_str_index z y t t' i l ho) ⟨.int i,H,I.tok _,⟨_,U⟩,q⟩
theorem aw.rev:∀{xs:List V}{us:List Value},aw xs us->aw xs.reverse us.reverse
 |_,_,.nil=>.nil
 |_,_,.cons r t=>by
  rw[List.reverse_cons,List.reverse_cons];exact aw.append (aw.rev t) (.cons r .nil)
def yO(K:W.Frag)(te:TE):TE:=λY H Q=>te Y H λx H1=>∃p ys,x=.ref p/\SqL K H1 p ys/\∀l,H1 l=none->Q (.ref l) (upd H1 l (.lst ys.reverse))
theorem C6{e:Expr}{te:TE}{p1 p2 pos1 pos2:Pos}(hc:X.calm=true)(hg:Gl X "list")(hm:X.mg "list"=none)(hg2:Gl X "reversed")(hm2:X.mg "reversed"=none)(he:PE X e te)
 (hs:starEach [e] X.env=[(false,eval e X.env)]:=by rfl) (hs2:starEach [.Call (.Name "reversed" p2) [e] [] pos2] X.env=[(false,eval (.Call (.Name "reversed" p2) [e] [] pos2) X.env)]:=by rfl):
 PE X (.Call (.Name "list" p1) [.Call (.Name "reversed" p2) [e] [] pos2] [] pos1) (yO X.K te):=by
 intro pins s Y H Q I h;refine wpAny_Call_Name_kw (fk I hg hm PyProof.Rows.Boot.«list» ?_);refine PyProof.Rows.callWith_type1 ?_ (by rw[hs2];rfl) U;rw[hs2];show wpAny _ _ (spliced ((false,eval (.Call (.Name "reversed" p2) [e] [] pos2) X.env)::backTo pos1 [])) _ _ s;refine Calls.spliced_cons ?_;refine wpAny_Call_Name_kw (fk I hg2 hm2 PyProof.Rows.Boot.«reversed» ?_);refine PyProof.Rows.callWith_type1 ?_ (by rw[hs];rfl) U;rw[hs];show wpAny _ _ (spliced ((false,eval e X.env)::backTo pos2 [])) _ _ s;refine Calls.spliced_cons (thn (he pins s Y H _ I h) λu s1 ⟨x,H1,I1,r1,q1⟩=>?_);refine Calls.spliced_nil ?_;obtain⟨p,ys,rfl,hq,q⟩:=q1;cases r1;obtain⟨its,rv,pl,hz⟩:=I1.list hq;have hlen:=rv.length;have hl:=pl.isList;obtain⟨oL,gL,_⟩:=id hl;have lp:=qA gL;refine call_reversed_list hl ?_;refine Calls.spliced_nil ?_;have I2:Inv X pins Y H1 { s1 with heap:=s1.heap.push (revObj p ((its.toArray.size:Int)-1)) }:=I1.kept (t':=s1.toks) λb o e=>qe _ e;have hI:(s1.heap.push (revObj p ((its.toArray.size:Int)-1))).IsRevIter s1.heap.objs.size p ((its.toArray.size:Int)-1):=⟨_,qz _ U,U,U⟩;refine E4 (s:={ s1 with heap:=s1.heap.push (revObj p ((its.toArray.size:Int)-1)) }) (I1.ok.hd hc) (qQ lp) hI (hl.at λo e=>qe _ e) (by simp only[qM];omega) λh' tk c' kp gl=>?_;have kp1:∀b o,s1.heap.get? b=some o->h'.get? b=some o:=λb o e=>kp b o (qQ (qA e)) (qe _ e);have sz:(s1.heap.push (revObj p ((its.toArray.size:Int)-1))).objs.size=s1.heap.objs.size+1:=Qq ..;have J:=I1.laid (t':=tk) (h':=h') (a:=(s1.heap.push (revObj p ((its.toArray.size:Int)-1))).objs.size) (o:=.lst ys.reverse) kp1 (by rw[sz];exact Nat.le_succ _) ⟨by rw[List.length_reverse];exact hz,its.reverse,c',rv.rev,by simpa using gl⟩;exact⟨.ref (s1.heap.push (revObj p ((its.toArray.size:Int)-1))).objs.size,_,J,U,q _ (I1.hok.fresh (by rw[sz];exact Nat.le_succ _))⟩
end
theorem Fv{K:W.Frag}{a:Addr}{xs:List V}{g:TG}{tt:TT}{te:TE}{Fin:List V->Hp->Prop}{Y:St}{H:Hp}(Pv:Nat->List V->St->Hp->Prop)(h0:Pv 0 [] Y H)(hz:∀i ys Y H,i<=xs.length->Pv i ys Y H->ys.length<=i)(hx:xs.length<=sizeLine)(hl:∀i ys Y H,Pv i ys Y H->SqT K H a xs)
 (hs:∀i x ys Y H,xs[i]?=some x->Pv i ys Y H->g x Y H λY2 H2=>tt Y2 H2 λb H3=>if b=true then te Y2 H3 λy H4=>Pv (i+1) (ys++[y]) Y2 H4 else Pv (i+1) ys Y2 H3)
 (hd:∀ys Y H,Pv xs.length ys Y H->Fin ys H):∃W:Nat->Nat->List V->St->Hp->Prop,(∃m,W 0 m [] Y H)/\iR (Itt K a) g tt te Fin W:=by
 refine⟨λi m ys Y H=>m=xs.length-i/\i<=xs.length/\Pv i ys Y H,⟨_,U,qD _,h0⟩,?_⟩;rintro i m ys Y H ⟨rfl,hi,p⟩;have few:=hz i ys Y H hi p;have q:=hl i ys Y H p;by_cases lt:i<xs.length
 .refine .inr ⟨⟨xs,xs[i],q,by simp[lt]⟩,Yo,Pv (i+1),λys' Y' H' p'=>⟨_,Yo,U,lt,p'⟩,λv H' y=>?_⟩;obtain⟨e,y⟩:=y;subst e;exact hs i v ys Y _ (y xs q) p
 .obtain rfl:i=xs.length:=by omega
  exact .inl ⟨⟨xs,q,qi _⟩,Yo,hd ys Y H p⟩
theorem aX{b:Bool}{A B:Prop}(h:b=true)(x:A):if b=true then A else B:=by rw[Qc h];exact x
theorem aG{b:Bool}{A B:Prop}(h:b=false)(x:B):if b=true then A else B:=by rw[Qb (by rw[h];decide)];exact x
theorem ifN{x y:V}{A B:Prop}(h:x≠y)(b:B):if decide (x=y)=true then A else B:=by rw[Qb (by rw[decide_eq_true_iff];exact h)];exact b
end L2
namespace Tr
open PySem PySem.Spec PyProof.Rows L2
inductive Val
 |num (n:Int)
 |nm (x:Str)
inductive a8
 |set (x:Str) (a:Val) (sg:Str) (b:Val)
 |put (q x:Str)
 |get (q x:Str)
 |give (x:Str)
 |cond (x:Str) (t o:List a8)
 |whl (x:Str) (b:List a8)
 |rep (n:Int) (b:List a8)
noncomputable def Val.names:Val->List Str
 |.num _=>[]
 |.nm x=>[x]
noncomputable def a8.names:a8->List Str
 |.set x a _ b=>x::(a.names++b.names)
 |.put _ x|.get _ x|.give x|.cond x _ _|.whl x _=>[x]
 |.rep _ _=>[]
noncomputable def a8.inner:a8->List (List a8)
 |.cond _ t o=>[t,o]
 |.whl _ b|.rep _ b=>[b]
 |_=>[]
noncomputable def a8.others:a8->List Str
 |.put q _=>[q++(">":Str)]
 |.get q _=>[q++("<":Str)]
 |.give _|.whl _ _=>[(">":Str)]
 |_=>[]
mutual
noncomputable def a8.flat:a8->List a8
 |.cond x t o=>.cond x t o::(ai t++ai o)
 |.whl x b=>.whl x b::ai b
 |.rep n b=>.rep n b::ai b
 |.set x a sg b=>[.set x a sg b]
 |.put q x=>[.put q x]
 |.get q x=>[.get q x]
 |.give x=>[.give x]
noncomputable def ai:List a8->List a8
 |[]=>[]
 |d::r=>d.flat++ai r
end
mutual
noncomputable def a8.depth:a8->Nat
 |.cond _ t o=>max (aH t) (aH o)+1
 |.whl _ b=>aH b+1
 |.rep _ b=>aH b+1
 |_=>0
noncomputable def aH:List a8->Nat
 |[]=>0
 |d::r=>max d.depth (aH r)
end
noncomputable def a8.cards(d:a8):List Str:=d.names++d.others
noncomputable def cards(b:List a8):List Str:=(ai b).flatMap a8.cards
theorem f9:∀(a b:List a8),ai (a++b)=ai a++ai b
 |[],b=>rfl
 |d::a,b=>by rw[Qw,ai,ai,f9 a b,qX]
theorem FH(a b:List a8):cards (a++b)=cards a++cards b:=by unfold cards;rw[f9,Q6]
theorem pI:∀(a b:List a8),aH (a++b)=max (aH a) (aH b)
 |[],b=>by rw[Qv,aH,Nat.zero_max]
 |d::a,b=>by rw[Qw,aH,aH,pI a b,Nat.max_assoc]
theorem fB(d:a8):d.flat=d::d.inner.flatMap ai:=by
 cases d<;>simp[a8.flat,a8.inner]
theorem xb(d:a8):cards [d]=d.cards++d.inner.flatMap cards:=by
 unfold cards;rw[ai,ai,qI,fB,qP]
 congr 1
 rw[List.flatMap_assoc]
inductive Op
 |root
 |ifT (x:Str)
 |ifO (x:Str) (t:List a8)
 |whl (x:Str)
 |rep (n:Int)
structure Fr where
 op:Op
 ds:List a8
 shut:Bool
 times:Int
noncomputable def Fr.deed(f:Fr):a8:=match f.op with
 |.root=>.rep 0 f.ds
 |.ifT x=>.cond x f.ds []
 |.ifO x t=>.cond x t f.ds
 |.whl x=>.whl x f.ds
 |.rep n=>.rep n f.ds
noncomputable def Fr.add(g:Fr)(d:a8):Fr:={ g with ds:=g.ds++[d] }
noncomputable def gW:List Fr->List Fr
 |f::g::r=>g.add f.deed::r
 |st=>st
noncomputable def eO:Nat->List Fr->List a8
 |0,st=>(st.head?.map Fr.ds).getD []
 |n+1,st=>eO n (gW st)
noncomputable def hZ(st:List Fr):List a8:=eO (st.length-1) st
noncomputable def Op.extra:Op->List a8
 |.ifO _ t=>t
 |_=>[]
noncomputable def Op.nms:Op->List Str
 |.ifT x|.ifO x _|.whl x=>[x]
 |_=>[]
noncomputable def Op.one:Op->Nat
 |.root=>0
 |_=>1
def eM(C:List Str):List Fr->Prop
 |[]=>False
 |[f]=>f.op=.root/\(∀k∈cards f.ds,k∈C)/\aH f.ds<=12
 |f::g::r=>f.op≠.root/\(∀k∈f.op.nms,k∈C)/\(∀k∈cards f.ds,k∈C)/\(∀k∈cards f.op.extra,k∈C)/\aH f.ds+(r.length+1)<=12/\aH f.op.extra+(r.length+1)<=12/\eM C (g::r)
noncomputable def cnt:List Fr->Nat
 |[]=>0
 |f::r=>(ai f.ds).length+(ai f.op.extra).length+f.op.one+cnt r
theorem Fm{f:Fr}{C:List Str}(h0:f.op≠.root)(hg:(">":Str)∈C)(h1:∀k∈f.op.nms,k∈C)(h2:∀k∈cards f.ds,k∈C)(h3:∀k∈cards f.op.extra,k∈C):∀k∈cards [f.deed],k∈C:=by
 intro k hk;rw[xb]at hk;unfold Fr.deed at hk
 cases e:f.op with
 |root=>exact Qf e h0
 |ifT x=>
  rw[e]at hk h1 h3;simp only[a8.cards,a8.names,a8.others,a8.inner,qP,List.flatMap_nil,qI,qp,Q4]at hk;rcases hk with rfl|hk|hk
  .exact h1 _ (by simp[Op.nms])
  .exact h2 _ hk
  .exact Qf hk (by simp[cards,ai])
 |ifO x t=>
  rw[e]at hk h1 h3;simp only[a8.cards,a8.names,a8.others,a8.inner,qP,List.flatMap_nil,qI,qp,Q4]at hk;rcases hk with rfl|hk|hk
  .exact h1 _ (by simp[Op.nms])
  .exact h3 _ hk
  .exact h2 _ hk
 |whl x=>
  rw[e]at hk h1 h3;simp only[a8.cards,a8.names,a8.others,a8.inner,qP,List.flatMap_nil,qI,qp,Q4]at hk;rcases hk with(rfl|rfl)|hk
  .exact h1 _ (by simp[Op.nms])
  .exact hg
  .exact h2 _ hk
 |rep n=>
  rw[e]at hk;simp only[a8.cards,a8.names,a8.others,a8.inner,qP,List.flatMap_nil,qI,Qv,qp]at hk;exact h2 _ hk
theorem Fk(f:Fr):aH [f.deed]<=max (aH f.ds) (aH f.op.extra)+1:=by
 unfold Fr.deed;cases e:f.op<;>simp only[aH,a8.depth,Op.extra]<;>omega
theorem Fl{f:Fr}(h0:f.op≠.root):(ai [f.deed]).length<=(ai f.ds).length+(ai f.op.extra).length+f.op.one:=by
 unfold Fr.deed
 cases e:f.op with
 |root=>exact Qf e h0
 |_=>simp[ai,a8.flat,Op.extra,Op.one]<;>omega
theorem eM.add{C:List Str}{g:Fr}{r:List Fr}{d:a8}(h:eM C (g::r))(h1:∀k∈cards [d],k∈C)(h2:aH [d]+r.length<=12):eM C (g.add d::r):=by
 have hc:(∀k∈cards g.ds,k∈C)->∀k∈cards (g.add d).ds,k∈C:=λz k hk=>by
  unfold Fr.add at hk;rw[FH,qp]at hk;exact hk.elim (z k) (h1 k)
 have hd:aH (g.add d).ds=max (aH g.ds) (aH [d]):=by unfold Fr.add;rw[pI]
 cases r with
 |nil=>exact⟨h.1,hc h.2.1,by rw[hd];have:=h.2.2;simp at h2;omega⟩
 |cons g' r'=>
  obtain⟨a1,a2,a3,a4,a5,a6,a7⟩:=h;simp only[qL]at h2;exact⟨a1,a2,hc a3,a4,by rw[hd];omega,a6,a7⟩
theorem eM.close{C:List Str}(hg:(">":Str)∈C){f g:Fr}{r:List Fr}(h:eM C (f::g::r)):eM C (gW (f::g::r)):=by
 obtain⟨a1,a2,a3,a4,a5,a6,a7⟩:=h;refine a7.add (Fm a1 hg a2 a3 a4) ?_;have:=Fk f;omega
theorem wZ(g:Fr)(r:List Fr)(d:a8):cnt (g.add d::r)=cnt (g::r)+(ai [d]).length:=by
 simp only[cnt,Fr.add,f9,qf];omega
theorem wY{f g:Fr}{r:List Fr}(h0:f.op≠.root):cnt (gW (f::g::r))<=cnt (f::g::r):=by
 show cnt (g.add f.deed::r)<=_;rw[wZ];have:=Fl h0;simp only[cnt];omega
theorem rC{C:List Str}(hg:(">":Str)∈C):∀(n:Nat)(st:List Fr),st.length=n+1->eM C st->(∀k∈cards (eO n st),k∈C)/\aH (eO n st)<=12/\(ai (eO n st)).length<=cnt st
 |0,[f],_,h=>⟨h.2.1,h.2.2,by simp[eO,cnt];omega⟩
 |n+1,f::g::r,hl,h=>by
  have:=rC hg n (gW (f::g::r)) (by simp[gW]at hl ⊢;omega) (h.close hg);exact⟨this.1,this.2.1,qJ this.2.2 (wY h.1)⟩
noncomputable def aE(c k:Int):Int:=(c % 2147483647 * (48271+1103 * k * k) % 2147483629+k) * (c % 2147483647 * (48271+1103 * k * k) % 2147483629+3 * k) % 2147483587
noncomputable def dk:Str:="abcdefghijklmnopqrstuvwxyz"
noncomputable def jx(n:Int):Nat->Int
 |0=>n
 |i+1=>jx n i / 26
noncomputable def bX(j:Int):Nat:=dk.cps.toList.getD j.toNat 0
noncomputable def sgn(c:Nat):Str:=⟨#[c]⟩
noncomputable def cO(n:Int):Nat->Str
 |0=>""
 |i+1=>cO n i++sgn (bX (jx n i % 26))
noncomputable def kws:List Str:=["ask","store","put","get","give","if","else","while","repeat","end"]
noncomputable def gO(w:Str):Int:=((w.cps.toList.getLastD 97:Nat):Int)-97
noncomputable def cW(w:Str):Str:=if w∈kws then Txt.slice w none (some (-1))++sgn (bX ((gO w+13) % 26))else w
noncomputable def bP(c:Int):Str:=cO (aE c 1 * aE c 1+aE c 1) 8
noncomputable def eW(c k:Int):Str:=sgn (bX ((aE c 1 / 192+k) % 26))
noncomputable def dy(c:Int):Int:=1+aE c 1 / 3 % 8
noncomputable def d6(c:Int):Int:=aE c 1 / 24 % dy c
noncomputable def bR(c k:Int):Str:=
 if aE c 1 % 3=0 then Txt.slice (bP c) none (some (d6 c))++eW c k++Txt.slice (bP c) (some (d6 c+1)) (some (dy c))
 else if aE c 1 % 3=1 then Txt.slice (bP c) none (some (1+(aE c 1 / 24+k) % 8))
 else Txt.slice (eW c k++cO (aE c (k+2)) 7) none (some (1+aE c (k+40) % 8))
noncomputable def dS(c:Int)(n:Nat):List Str:=(List.range n).map λ(k:Nat)=>cW (bR c k)
noncomputable def d0(c:Int)(n:Nat):List Str:=if aE c 1 / 5000 % 2=1 then(dS c n).reverse else dS c n
noncomputable def nth(l:List Str)(i:Int):Str:=l.getD (i % l.length).toNat ""
noncomputable def iZ(i:Int):Str:=sgn (("+-*/<=&|^":Str).cps.toList.getD (i % 9).toNat 0)
noncomputable def bc(n:Int)(names rooms:List Str)(shut:Bool):a8:=
 if n % 14=6 then .give (nth names (n / 14))
 else if(n % 14=1\/n % 14=2\/n % 14=3\/n % 14=4\/n % 14=12\/n % 14=13)/\0<rooms.length/\shut=false then
  (if n % 14=3\/n % 14=4\/n % 14=13 then .get (nth rooms (n / 14 / 5)) (nth names (n / 14))else .put (nth rooms (n / 14 / 5)) (nth names (n / 14)))
 else .set (nth names (n / 14)) (if n / 14 / 125 % 4=0 then .num (n * n * n * 69621 % 1000000000000000000000000000000)else .nm (nth names (n / 14 / 5)))
  (iZ (n / 14 / 1500)) (if n / 14 / 500 % 3=0 then .num (n * n * 48271 % 1000000000000000000000000000000)else .nm (nth names (n / 14 / 25)))
noncomputable def cw(n most times:Int):Int:=if 0<times then n / 70 % (1+most / times)else n / 70 % 100
noncomputable def eZ(n:Int)(x:Str)(most:Int)(st:List Fr):List Fr:=match st with
 |[]=>[]
 |g::r=>(if n % 14=7 then⟨.ifT x,[],true,0⟩else if n % 14=8 then⟨.whl x,[],true,0⟩else⟨.rep (cw n most g.times),[],g.shut,g.times * cw n most g.times⟩)::g::r
noncomputable def Op.ifT?:Op->Option Str
 |.ifT x=>some x
 |_=>none
noncomputable def bx(names rooms:List Str)(most low:Int)(st:List Fr)(n:Int):List Fr:=match st with
 |[]=>[]
 |g::r=>
  if low<=n % 14/\n % 14<=9/\r.length+1<=12/\(n % 14<9\/0<most\/g.shut=true)then eZ n (nth names (n / 14)) most (g::r)
  else match(if n % 14=10 then g.op.ifT? else none)with
   |some x=>{ g with op:=.ifO x g.ds,ds:=[] }::r
   |none=>if 10<=n % 14/\0<r.length then gW (g::r)else g.add (bc n names rooms g.shut)::r
noncomputable def st0:List Fr:=[⟨.root,[],false,1⟩]
noncomputable def cC(names rooms:List Str)(most low:Int)(cells:List Int):List Fr:=cells.foldl (λst c=>bx names rooms most low st (aE c 1)) st0
noncomputable def cY(names rooms:List Str)(most low:Int)(cells:List Int):List a8:=hZ (cC names rooms most low cells)
noncomputable def bg(names rooms:List Str):List Str:=names++rooms.map (·++(">":Str))++rooms.map (·++("<":Str))++[(">":Str)]
theorem fO{l:List Str}(h:0<l.length)(i:Int):nth l i∈l:=by
 unfold nth;have h1:0<=i % (l.length:Int):=Qk _ Yo;have h2:i % (l.length:Int)<l.length:=Qp _ Yo;have h3:(i % (l.length:Int)).toNat<l.length:=Yo;rw[qv,qg h3];exact List.getElem_mem h3
theorem A5{n:Int}{names rooms:List Str}{shut:Bool}(h:0<names.length):∀k∈cards [bc n names rooms shut],k∈bg names rooms:=by
 have hn:∀i,nth names i∈bg names rooms:=λi=>by unfold bg;simp[fO h i]
 have hg:(">":Str)∈bg names rooms:=by unfold bg;simp
 intro k hk;unfold bc at hk;split at hk
 .simp[cards,ai,a8.flat,a8.cards,a8.names,a8.others]at hk;rcases hk with rfl|rfl
  .exact hn _
  .exact hg
 .split at hk
  .rename_i hr;have hm:=fO hr.2.1 (n / 14 / 5);split at hk
   .simp[cards,ai,a8.flat,a8.cards,a8.names,a8.others]at hk;rcases hk with rfl|rfl
    .exact hn _
    .unfold bg;simp only[qp,List.mem_map];exact .inl (.inr ⟨_,hm,U⟩)
   .simp[cards,ai,a8.flat,a8.cards,a8.names,a8.others]at hk;rcases hk with rfl|rfl
    .exact hn _
    .unfold bg;simp only[qp,List.mem_map];exact .inl (.inl (.inr ⟨_,hm,U⟩))
  .simp only[cards,ai,a8.flat,a8.cards,a8.names,a8.others,qI,qP,List.flatMap_nil,qF,qp]at hk;rcases hk with rfl|hk|hk
   .exact hn _
   .split at hk
    .exact Qf hk (by simp[Val.names])
    .simp[Val.names]at hk;subst hk;exact hn _
   .split at hk
    .exact Qf hk (by simp[Val.names])
    .simp[Val.names]at hk;subst hk;exact hn _
theorem A0(n:Int)(names rooms:List Str)(shut:Bool):aH [bc n names rooms shut]=0/\(ai [bc n names rooms shut]).length=1:=by
 unfold bc;split
 .exact⟨U,U⟩
 .split
  .split<;>exact⟨U,U⟩
  .exact⟨U,U⟩
theorem zp{names rooms:List Str}{most low n:Int}{st:List Fr}(h:0<names.length)(hs:eM (bg names rooms) st)(hl:st.length<=13):
 eM (bg names rooms) (bx names rooms most low st n)/\(bx names rooms most low st n).length<=13/\cnt (bx names rooms most low st n)<=cnt st+1:=by
 have hg:(">":Str)∈bg names rooms:=by unfold bg;simp
 have hn:∀i,nth names i∈bg names rooms:=λi=>by unfold bg;simp[fO h i]
 match st,hs,hl with
 |g::r,hs,hl=>
  unfold bx;dsimp only;split
  .rename_i c;unfold eZ;dsimp only;have em:cards []=[]:=U;split
   .exact⟨⟨by simp,by simp[Op.nms,hn],by simp[em],by simp[Op.extra,em],by simp[aH];omega,by simp[aH,Op.extra];omega,hs⟩,by simp;omega,by simp[cnt,ai,Op.extra,Op.one];omega⟩
   .split
    .exact⟨⟨by simp,by simp[Op.nms,hn],by simp[em],by simp[Op.extra,em],by simp[aH];omega,by simp[aH,Op.extra];omega,hs⟩,by simp;omega,by simp[cnt,ai,Op.extra,Op.one];omega⟩
    .exact⟨⟨by simp,by simp[Op.nms],by simp[em],by simp[Op.extra,em],by simp[aH];omega,by simp[aH,Op.extra];omega,hs⟩,by simp;omega,by simp[cnt,ai,Op.extra,Op.one];omega⟩
  .split
   .rename_i x hx
    have e:g.op=.ifT x:=by
     split at hx
     .cases e:g.op<;>rw[e]at hx<;>simp[Op.ifT?]at hx;rw[hx]
     .cases hx
    cases r with
    |nil=>have:=hs.1;rw[e]at this;cases this
    |cons g' r'=>
     obtain⟨a1,a2,a3,a4,a5,a6,a7⟩:=hs;rw[e]at a2;refine⟨⟨by simp,by simpa[Op.nms]using a2,by simp[cards,ai],by simpa[Op.extra]using a3,by simp[aH];omega,by simpa[Op.extra]using a5,a7⟩,hl,?_⟩;simp[cnt,e,Op.extra,Op.one,ai]
   .split
    .rename_i c
     cases r with
     |nil=>exact Qf c.2 (by simp)
     |cons g' r'=>exact⟨hs.close hg,by simp[gW]at hl ⊢;omega,qJ (wY hs.1) (Nat.le_succ _)⟩
    .have sd:=A0 n names rooms g.shut;refine⟨hs.add (A5 h) (by rw[sd.1];simp at hl;omega),by simpa using hl,?_⟩;rw[wZ,sd.2];exact qi _
theorem jW{names rooms:List Str}{most low:Int}(h:0<names.length):∀(cells:List Int)(st:List Fr),eM (bg names rooms) st->st.length<=13->
 eM (bg names rooms) (cells.foldl (λst c=>bx names rooms most low st (aE c 1)) st)/\(cells.foldl (λst c=>bx names rooms most low st (aE c 1)) st).length<=13/\cnt (cells.foldl (λst c=>bx names rooms most low st (aE c 1)) st)<=cnt st+cells.length
 |[],st,hs,hl=>⟨hs,hl,qi _⟩
 |c::cs,st,hs,hl=>by
  obtain⟨b1,b2,b3⟩:=zp (most:=most) (low:=low) (n:=aE c 1) h hs hl;obtain⟨c1,c2,c3⟩:=jW h cs _ b1 b2;exact⟨c1,c2,by simp only[QK,qL];omega⟩
theorem FV{names rooms:List Str}{most low:Int}(h:0<names.length)(cells:List Int):
 (∀k∈cards (cY names rooms most low cells),k∈bg names rooms)/\aH (cY names rooms most low cells)<=12/\(ai (cY names rooms most low cells)).length<=cells.length:=by
 have hg:(">":Str)∈bg names rooms:=by unfold bg;simp
 obtain⟨a1,a2,a3⟩:=jW (rooms:=rooms) (most:=most) (low:=low) h cells st0 ⟨U,by simp[st0,cards,ai],by simp[st0,aH]⟩ (by simp[st0]);have ne:cC names rooms most low cells≠[]:=λz=>by unfold cC at z;rw[z]at a1;exact a1
 have hl:(cC names rooms most low cells).length=((cC names rooms most low cells).length-1)+1:=by
  have:=List.length_pos_iff.mpr ne;omega
 obtain⟨b1,b2,b3⟩:=rC hg _ _ hl a1;refine⟨b1,b2,qJ b3 (qJ a3 ?_)⟩;simp[cnt,st0,ai,Op.extra,Op.one]
noncomputable def Val.v:Val->V
 |.num n=>.int n
 |.nm x=>.str x
mutual
inductive RD(H:Hp):V->a8->Prop
 |set {p:Addr}{x:Str}{a:Val}{sg:Str}{b:Val}:H p=some (.tup [.str "set",.str x,a.v,.str sg,b.v])->RD H (.ref p) (.set x a sg b)
 |put {p:Addr}{q x:Str}:H p=some (.tup [.str "put",.str q,.str x])->RD H (.ref p) (.put q x)
 |get {p:Addr}{q x:Str}:H p=some (.tup [.str "get",.str q,.str x])->RD H (.ref p) (.get q x)
 |give {p:Addr}{x:Str}:H p=some (.tup [.str "give",.str x])->RD H (.ref p) (.give x)
 |cond {p t o:Addr}{x:Str}{ts os:List a8}:H p=some (.tup [.str "if",.str x,.ref t,.ref o])->RL H t ts->RL H o os->RD H (.ref p) (.cond x ts os)
 |whl {p b:Addr}{x:Str}{bs:List a8}:H p=some (.tup [.str "while",.str x,.ref b])->RL H b bs->RD H (.ref p) (.whl x bs)
 |rep {p b:Addr}{n:Int}{bs:List a8}:H p=some (.tup [.str "repeat",.int n,.ref b])->RL H b bs->RD H (.ref p) (.rep n bs)
inductive RL(H:Hp):Addr->List a8->Prop
 |mk {l:Addr}{vs:List V}{ds:List a8}:H l=some (.lst vs)->RDs H vs ds->RL H l ds
inductive RDs(H:Hp):List V->List a8->Prop
 |nil:RDs H [] []
 |cons {v:V}{vs:List V}{d:a8}{ds:List a8}:RD H v d->RDs H vs ds->RDs H (v::vs) (d::ds)
end
mutual
theorem RD.same{H H':Hp}(e:aa H H'):∀{v:V}{d:a8},RD H v d->RD H' v d
 |_,_,.set h=>.set (e _ _ h)
 |_,_,.put h=>.put (e _ _ h)
 |_,_,.get h=>.get (e _ _ h)
 |_,_,.give h=>.give (e _ _ h)
 |_,_,.cond h a b=>.cond (e _ _ h) (RL.same e a) (RL.same e b)
 |_,_,.whl h a=>.whl (e _ _ h) (RL.same e a)
 |_,_,.rep h a=>.rep (e _ _ h) (RL.same e a)
theorem RL.same{H H':Hp}(e:aa H H'):∀{l:Addr}{ds:List a8},RL H l ds->RL H' l ds
 |_,_,.mk h a=>.mk (e _ _ h) (RDs.same e a)
theorem RDs.same{H H':Hp}(e:aa H H'):∀{vs:List V}{ds:List a8},RDs H vs ds->RDs H' vs ds
 |_,_,.nil=>.nil
 |_,_,.cons a b=>.cons (RD.same e a) (RDs.same e b)
end
theorem RDs.app{H:Hp}:∀{us vs:List V}{a b:List a8},RDs H us a->RDs H vs b->RDs H (us++vs) (a++b)
 |_,_,_,_,.nil,h=>h
 |_,_,_,_,.cons x r,h=>.cons x (RDs.app r h)
theorem RDs.len{H:Hp}:∀{vs:List V}{ds:List a8},RDs H vs ds->vs.length=ds.length
 |_,_,.nil=>rfl
 |_,_,.cons _ r=>by rw[qL,qL,RDs.len r]
theorem RDs.at{H:Hp}:∀{vs:List V}{ds:List a8},RDs H vs ds->∀(i:Nat)(v:V),vs[i]?=some v->∃d,ds[i]?=some d/\RD H v d
 |_,_,.nil,i,v,h=>by simp at h
 |_,_,.cons x r,0,v,h=>by simp at h;subst h;exact⟨_,U,x⟩
 |_,_,.cons x r,i+1,v,h=>by
  simp only[List.getElem?_cons_succ]at h ⊢;exact RDs.at r i v h
mutual
noncomputable def a8.data:a8->PyData
 |.set x a sg b=>.tuple [.str "set",.str x,(match a with|.num n=>.int n|.nm y=>.str y),.str sg,(match b with|.num n=>.int n|.nm y=>.str y)]
 |.put q x=>.tuple [.str "put",.str q,.str x]
 |.get q x=>.tuple [.str "get",.str q,.str x]
 |.give x=>.tuple [.str "give",.str x]
 |.cond x t o=>.tuple [.str "if",.str x,.list (dP t),.list (dP o)]
 |.whl x b=>.tuple [.str "while",.str x,.list (dP b)]
 |.rep n b=>.tuple [.str "repeat",.int n,.list (dP b)]
noncomputable def dP:List a8->List PyData
 |[]=>[]
 |d::r=>d.data::dP r
end
theorem rL{K:W.Frag}{H:Hp}:∀a:Val,Dt K H a.v (match a with|.num n=>.int n|.nm y=>.str y)
 |.num n=>.int n
 |.nm x=>.str x
mutual
theorem RD.dt{K:W.Frag}{H:Hp}:∀{v:V}{d:a8},RD H v d->Dt K H v d.data
 |_,_,.set (a:=a) (b:=b) h=>.tup (SqT.of h) (.cons (.str _) (.cons (.str _) (.cons (rL a) (.cons (.str _) (.cons (rL b) .nil)))))
 |_,_,.put h=>.tup (SqT.of h) (.cons (.str _) (.cons (.str _) (.cons (.str _) .nil)))
 |_,_,.get h=>.tup (SqT.of h) (.cons (.str _) (.cons (.str _) (.cons (.str _) .nil)))
 |_,_,.give h=>.tup (SqT.of h) (.cons (.str _) (.cons (.str _) .nil))
 |_,_,.cond h a b=>.tup (SqT.of h) (.cons (.str _) (.cons (.str _) (.cons (RL.dt a) (.cons (RL.dt b) .nil))))
 |_,_,.whl h a=>.tup (SqT.of h) (.cons (.str _) (.cons (.str _) (.cons (RL.dt a) .nil)))
 |_,_,.rep h a=>.tup (SqT.of h) (.cons (.str _) (.cons (.int _) (.cons (RL.dt a) .nil)))
theorem RL.dt{K:W.Frag}{H:Hp}:∀{l:Addr}{ds:List a8},RL H l ds->Dt K H (.ref l) (.list (dP ds))
 |_,_,.mk h a=>.lst (SqL.of h) (RDs.dt a)
theorem RDs.dt{K:W.Frag}{H:Hp}:∀{vs:List V}{ds:List a8},RDs H vs ds->e6 K H vs (dP ds)
 |_,_,.nil=>.nil
 |_,_,.cons a b=>.cons (RD.dt a) (RDs.dt b)
end
inductive RLs(H:Hp):List Addr->List (List a8)->Prop
 |nil:RLs H [] []
 |cons {l:Addr}{ls:List Addr}{d:List a8}{ds:List (List a8)}:RL H l d->RLs H ls ds->RLs H (l::ls) (d::ds)
theorem RLs.same{H H':Hp}(e:aa H H'):∀{ls:List Addr}{ds:List (List a8)},RLs H ls ds->RLs H' ls ds
 |_,_,.nil=>.nil
 |_,_,.cons a b=>.cons (RL.same e a) (RLs.same e b)
theorem RLs.len{H:Hp}:∀{ls:List Addr}{ds:List (List a8)},RLs H ls ds->ls.length=ds.length
 |_,_,.nil=>rfl
 |_,_,.cons _ r=>by rw[qL,qL,RLs.len r]
theorem RLs.at{H:Hp}:∀{ls:List Addr}{ds:List (List a8)},RLs H ls ds->∀(i:Nat)(l:Addr),ls[i]?=some l->∃d,ds[i]?=some d/\RL H l d
 |_,_,.nil,i,v,h=>by simp at h
 |_,_,.cons x r,0,v,h=>by simp at h;subst h;exact⟨_,U,x⟩
 |_,_,.cons x r,i+1,v,h=>by
  simp only[List.getElem?_cons_succ]at h ⊢;exact RLs.at r i v h
theorem j9:∀(r:List Str)(x:Str),risingS x r=true->∀y∈r,x.cps.toList<=y.cps.toList
 |[],_,_,_,h=>nomatch h
 |z::r,x,h,y,hy=>by
  have h':(!ltCps z.cps.toList x.cps.toList && risingS z r)=true:=h;rw[Bool.and_eq_true,Bool.not_eq_true',ltCps_eq,decide_eq_false_iff_not]at h';have xz:x.cps.toList<=z.cps.toList:=List.not_lt.mp h'.1;rcases qF.mp hy with rfl|hy
  .exact xz
  .exact List.le_trans xz (j9 r z h'.2 y hy)
theorem ku{x:Str}:∀{r:List Str},risingS x r=true->sortedS r=true
 |[],_=>rfl
 |z::r,h=>by
  have h':(!ltCps z.cps.toList x.cps.toList && risingS z r)=true:=h;exact(Bool.and_eq_true_iff.mp h').2
theorem sv{x y:Str}(h:x.cps.toList=y.cps.toList):x=y:=PyProof.Rows.ext_toList h
theorem tW:∀{a b:List Str},a.Nodup->b.Nodup->sortedS a=true->sortedS b=true->(∀k,k∈a↔k∈b)->a=b
 |[],[],_,_,_,_,_=>rfl
 |[],y::s,_,_,_,_,h=>Qf ((h y).mpr qy) (by simp)
 |x::r,[],_,_,_,_,h=>Qf ((h x).mp qy) (by simp)
 |x::r,y::s,ha,hb,sa,sb,h=>by
  have ha':=List.nodup_cons.mp ha;have hb':=List.nodup_cons.mp hb
  have e:x=y:=by
   rcases qF.mp ((h x).mp qy)with e|hx
   .exact e
   rcases qF.mp ((h y).mpr qy)with e|hy
   .exact e.symm
   exact sv (List.le_antisymm (j9 r x sa y hy) (j9 s y sb x hx))
  subst e;rw[tW ha'.2 hb'.2 (ku sa) (ku sb) λk=>?_];constructor
  .intro hk;rcases qF.mp ((h k).mp (qw _ hk))with e|z
   .subst e;exact Qf hk ha'.1
   .exact z
  .intro hk;rcases qF.mp ((h k).mpr (qw _ hk))with e|z
   .subst e;exact Qf hk hb'.1
   .exact z
end Tr
namespace Tr
open PySem PySem.Spec PyProof.Rows L2
theorem aa.over{H0 H:Hp}{f:Addr}{o:HO}(h:aa H0 H)(hf:H0 f=none):aa H0 (upd H f o):=λb u q=>by
 rw[ae (bW q hf)];exact h b u q
theorem aa.none{H0 H:Hp}{f:Addr}(h:aa H0 H)(hf:H f=none):H0 f=none:=by
 cases q:H0 f with
 |none=>rfl
 |some o=>rw[h _ _ q]at hf;cases hf
structure Fz where
 f:Fr
 c:Addr
 p:Addr
 e:Addr
noncomputable def Fz.tupV(x:Fz):List V:=match x.f.op with
 |.root=>[]
 |.ifT n=>[.str "if",.str n,.ref x.c,.ref x.e]
 |.ifO n _=>[.str "if",.str n,.ref x.e,.ref x.c]
 |.whl n=>[.str "while",.str n,.ref x.c]
 |.rep n=>[.str "repeat",.int n,.ref x.c]
noncomputable def Fz.o(x:Fz):V:=match x.f.op with
 |.ifT _=>.ref x.e
 |_=>.non
noncomputable def Fz.muts(x:Fz):List Addr:=match x.f.op with
 |.ifT _=>[x.c,x.e]
 |_=>[x.c]
def Fz.side(x:Fz)(H0 H:Hp):Prop:=match x.f.op with
 |.ifT _=>H x.e=some (.lst [])
 |.ifO _ t=>RL H0 x.e t
 |_=>True
def ZR(H0 H:Hp):List Fz->List V->Prop
 |[],_=>False
 |x::r,tl=>(∃vs,H x.c=some (.lst (vs++tl))/\RDs H0 vs x.f.ds)/\x.side H0 H/\((x.f.op=.root/\r=[])\/(x.f.op≠.root/\H x.p=some (.tup x.tupV)/\ZR H0 H r [.ref x.p]))
theorem Fz.c_mem(x:Fz):x.c∈x.muts:=by unfold Fz.muts;split<;>simp
theorem ZR.frame{H0 H H':Hp}:∀{z:List Fz}{tl:List V},ZR H0 H z tl->(∀m∈z.flatMap Fz.muts,H' m=H m)->(∀p xs,H p=some (.tup xs)->H' p=some (.tup xs))->ZR H0 H' z tl
 |[],_,h,_,_=>h
 |x::r,tl,⟨⟨vs,h1,h2⟩,h3,h4⟩,hm,ht=>by
  have mx:∀m∈x.muts,H' m=H m:=λm hm'=>hm m (by simp[hm']);have mr:∀m∈r.flatMap Fz.muts,H' m=H m:=λm hm'=>hm m (by rw[qP];exact qS _ hm');refine⟨⟨vs,by rw[mx _ x.c_mem];exact h1,h2⟩,?_,?_⟩
  .unfold Fz.side at h3 ⊢;split
   .rename_i e;rw[e]at h3;rw[mx x.e (by unfold Fz.muts;rw[e];simp)];exact h3
   .rename_i e;rw[e]at h3;exact h3
   .trivial
  .rcases h4 with h4|⟨h4,h5,h6⟩
   .exact .inl h4
   .exact .inr ⟨h4,ht _ _ h5,ZR.frame h6 mr ht⟩
theorem ZR.grow{H0 H0' H:Hp}(e:aa H0 H0'):∀{z:List Fz}{tl:List V},ZR H0 H z tl->ZR H0' H z tl
 |[],_,h=>h
 |x::r,tl,⟨⟨vs,h1,h2⟩,h3,h4⟩=>by
  refine⟨⟨vs,h1,h2.same e⟩,?_,?_⟩
  .unfold Fz.side at h3 ⊢
   revert h3
   cases x.f.op<;>intro h3<;>first|exact h3|exact RL.same e h3
  .rcases h4 with h4|⟨h4,h5,h6⟩
   .exact .inl h4
   .exact .inr ⟨h4,h5,ZR.grow e h6⟩
noncomputable def wh:List Fr->List a8->List a8
 |[],_=>[]
 |[f],dt=>f.ds++dt
 |f::g::r,dt=>wh (g::r) [({ f with ds:=f.ds++dt }:Fr).deed]
theorem yc:∀(r:List Fr)(g:Fr)(d:a8),wh (g.add d::r) []=wh (g::r) [d]
 |[],g,d=>by simp[wh,Fr.add]
 |g'::r,g,d=>by simp[wh,Fr.add]
theorem i0:∀(n:Nat)(st:List Fr),st.length=n+1->eO n st=wh st []
 |0,[f],_=>by simp[eO,wh]
 |n+1,f::g::r,h=>by
  have e:eO (n+1) (f::g::r)=eO n (g.add f.deed::r):=U;rw[e,i0 n (g.add f.deed::r) (by simp at h ⊢;omega),yc,wh,qI]
noncomputable def jz:List Fz->Addr
 |[]=>0
 |[x]=>x.c
 |_::y::r=>jz (y::r)
theorem ZR.whole{H0 H:Hp}(e:aa H0 H):∀{z:List Fz}{tl:List V}{dt:List a8},ZR H0 H z tl->RDs H tl dt->RL H (jz z) (wh (z.map (·.f)) dt)
 |[],_,_,h,_=>h.elim
 |[x],tl,dt,⟨⟨vs,h1,h2⟩,_,_⟩,ht=>.mk h1 ((h2.same e).app ht)
 |x::y::r,tl,dt,⟨⟨vs,h1,h2⟩,h3,h4⟩,ht=>by
  rcases h4 with⟨_,h4⟩|⟨h4,h5,h6⟩
  .cases h4
  refine ZR.whole (z:=y::r) e h6 (.cons ?_ .nil);have hl:RL H x.c (x.f.ds++dt):=.mk h1 ((h2.same e).app ht);unfold Fz.tupV at h5;unfold Fz.side at h3;unfold Fr.deed
  cases q:x.f.op with
  |root=>exact Qf q h4
  |ifT n=>
   rw[q]at h5 h3;exact .cond h5 hl (.mk h3 .nil)
  |ifO n t=>
   rw[q]at h5 h3;exact .cond h5 (RL.same e h3) hl
  |whl n=>
   rw[q]at h5;exact .whl h5 hl
  |rep n=>
   rw[q]at h5;exact .rep h5 hl
noncomputable def bf(S s0 s1 s2 s3:Addr)(z:List Fz):List Addr:=S::s0::s1::s2::s3::z.flatMap Fz.muts
structure ZI(Hb H0 H:Hp)(S s0 s1 s2 s3:Addr)(z:List Fz):Prop where
 hb:aa Hb H0
 h0:aa H0 H
 fz:∀m∈bf S s0 s1 s2 s3 z,H0 m=none
 nd:(bf S s0 s1 s2 s3 z).Nodup
 cS:H S=some (.lst [.ref s0,.ref s1,.ref s2,.ref s3])
 c0:H s0=some (.lst ((z.map λx=>V.ref x.c).reverse))
 c1:H s1=some (.lst ((z.map Fz.o).reverse))
 c2:H s2=some (.lst ((z.map λx=>V.bl x.f.shut).reverse))
 c3:H s3=some (.lst ((z.map λx=>V.int x.f.times).reverse))
 zr:ZR H0 H z []
section
variable {Hb H0 H H1:Hp}{S s0 s1 s2 s3:Addr}{z:List Fz}
theorem ZI.hbH(Z:ZI Hb H0 H S s0 s1 s2 s3 z):aa Hb H:=Z.hb.trans Z.h0
theorem ZI.top(Z:ZI Hb H0 H S s0 s1 s2 s3 z):∃x r vs,z=x::r/\H x.c=some (.lst vs)/\RDs H0 vs x.f.ds:=by
 have:=Z.zr
 match z,this with
 |x::r,⟨⟨vs,h1,h2⟩,_⟩=>exact⟨x,r,vs,U,by simpa using h1,h2⟩
theorem ZR.lsts{tl:List V}:∀{z:List Fz},ZR H0 H z tl->∀m∈z.flatMap Fz.muts,∃vs,H m=some (.lst vs):=by
 intro z
 induction z generalizing tl with
 |nil=>intro h;exact h.elim
 |cons x r ih=>
  rintro⟨⟨vs,h1,_⟩,h3,h4⟩ m hm;rw[qP]at hm;rcases qp.mp hm with hm|hm
  .unfold Fz.muts at hm;unfold Fz.side at h3;split at hm<;>rename_i q
   .rw[q]at h3;simp at hm;rcases hm with rfl|rfl
    .exact⟨_,h1⟩
    .exact⟨_,h3⟩
   .simp at hm;subst hm;exact⟨_,h1⟩
  .rcases h4 with⟨_,h4⟩|⟨_,_,h6⟩
   .subst h4;simp at hm
   .exact ih h6 m hm
theorem ZI.lsts(Z:ZI Hb H0 H S s0 s1 s2 s3 z):∀m∈bf S s0 s1 s2 s3 z,∃vs,H m=some (.lst vs):=by
 intro m hm;unfold bf at hm;simp only[qF]at hm;rcases hm with rfl|rfl|rfl|rfl|rfl|hm
 .exact⟨_,Z.cS⟩
 .exact⟨_,Z.c0⟩
 .exact⟨_,Z.c1⟩
 .exact⟨_,Z.c2⟩
 .exact⟨_,Z.c3⟩
 .exact Z.zr.lsts m hm
theorem ZI.same(Z:ZI Hb H0 H S s0 s1 s2 s3 z)(e:aa H H1):ZI Hb H0 H1 S s0 s1 s2 s3 z where
 hb:=Z.hb
 h0:=Z.h0.trans e
 fz:=Z.fz
 nd:=Z.nd
 cS:=e _ _ Z.cS
 c0:=e _ _ Z.c0
 c1:=e _ _ Z.c1
 c2:=e _ _ Z.c2
 c3:=e _ _ Z.c3
 zr:=Z.zr.frame (λm hm=>by obtain⟨vs,h⟩:=Z.zr.lsts m hm;rw[h];exact e _ _ h) λp xs h=>e _ _ h
end
section
variable {Hb H0 H H1:Hp}{S s0 s1 s2 s3:Addr}{z:List Fz}
theorem ZI.ne(Z:ZI Hb H0 H S s0 s1 s2 s3 z){m:Addr}(hm:m∈z.flatMap Fz.muts):S≠m/\s0≠m/\s1≠m/\s2≠m/\s3≠m:=by
 have nd:=Z.nd;unfold bf at nd;simp only[List.nodup_cons,qF,not_or]at nd;obtain⟨⟨_,_,_,_,n0⟩,⟨_,_,_,n1⟩,⟨_,_,n2⟩,⟨_,n3⟩,n4,_⟩:=nd;exact⟨(λe=>n0 (e▸hm)),(λe=>n1 (e▸hm)),(λe=>n2 (e▸hm)),(λe=>n3 (e▸hm)),(λe=>n4 (e▸hm))⟩
theorem ZI.ss(Z:ZI Hb H0 H S s0 s1 s2 s3 z):S≠s0/\S≠s1/\S≠s2/\S≠s3/\s0≠s1/\s0≠s2/\s0≠s3/\s1≠s2/\s1≠s3/\s2≠s3:=by
 have nd:=Z.nd;unfold bf at nd;simp only[List.nodup_cons,qF,not_or]at nd;obtain⟨⟨a1,a2,a3,a4,_⟩,⟨b1,b2,b3,_⟩,⟨c1,c2,_⟩,⟨d1,_⟩,_⟩:=nd;exact⟨a1,a2,a3,a4,b1,b2,b3,c1,c2,d1⟩
theorem ZI.ndz(Z:ZI Hb H0 H S s0 s1 s2 s3 z):(z.flatMap Fz.muts).Nodup:=by
 have nd:=Z.nd;unfold bf at nd;simp only[List.nodup_cons]at nd;exact nd.2.2.2.2.2
theorem ZI.fzz(Z:ZI Hb H0 H S s0 s1 s2 s3 z){m:Addr}(hm:m∈z.flatMap Fz.muts):H0 m=none:=Z.fz m (by unfold bf;simp[hm])
theorem cK{p m:Addr}{xs vs:List V}(h1:H p=some (.tup xs))(h2:H m=some (.lst vs)):p≠m:=vy h1 h2 (by intro z;cases z)
theorem gq{x:Fz}{r:List Fz}:x.c∈(x::r).flatMap Fz.muts:=by rw[qP];exact Q7 _ x.c_mem
theorem oO{x:Fz}{r:List Fz}{m:Addr}(h:m∈r.flatMap Fz.muts):m∈(x::r).flatMap Fz.muts:=by rw[qP];exact qS _ h
theorem pN{x:Fz}{r:List Fz}(nd:((x::r).flatMap Fz.muts).Nodup){m:Addr}(h:m∈r.flatMap Fz.muts):m≠x.c:=by
 rw[qP]at nd;intro e;exact(List.nodup_append.mp nd).2.2 x.c x.c_mem m h e.symm
theorem lV{x:Fz}{r:List Fz}(nd:((x::r).flatMap Fz.muts).Nodup){n:Str}(q:x.f.op=.ifT n):x.e≠x.c/\x.e∈x.muts/\∀m∈r.flatMap Fz.muts,m≠x.e:=by
 rw[qP]at nd;have h:=List.nodup_append.mp nd;have e:x.muts=[x.c,x.e]:=by unfold Fz.muts;rw[q]
 rw[e]at h;refine⟨?_,by rw[e];simp,λm hm z=>h.2.2 x.e (by simp) m hm z.symm⟩;have:=h.1;simp at this;exact λz=>this z.symm
theorem ZR.rest{x:Fz}{r:List Fz}{tl:List V}{o:HO}(zr:ZR H0 H (x::r) tl)(nd:((x::r).flatMap Fz.muts).Nodup){vs:List V}(hc:H x.c=some (.lst vs)):
 x.side H0 (upd H x.c o)/\((x.f.op=.root/\r=[])\/(x.f.op≠.root/\(upd H x.c o) x.p=some (.tup x.tupV)/\ZR H0 (upd H x.c o) r [.ref x.p])):=by
 obtain⟨_,h3,h4⟩:=zr;refine⟨?_,?_⟩
 .unfold Fz.side at h3 ⊢
  cases q:x.f.op with
  |ifT n=>
   rw[q]at h3;show(upd H x.c o) x.e=some (.lst []);rw[ae (lV nd q).1];exact h3
  |ifO n t=>rw[q]at h3;exact h3
  |root=>trivial
  |whl n=>trivial
  |rep n=>trivial
 .rcases h4 with h4|⟨h4,h5,h6⟩
  .exact .inl h4
  .refine .inr ⟨h4,by rw[ae (cK h5 hc)];exact h5,h6.frame (λm hm=>ae (pN nd hm)) λp xs h=>by rw[ae (cK h hc)];exact h⟩
theorem ZI.push{x:Fz}{r:List Fz}{vs xs:List V}{p:Addr}{d:a8}(Z:ZI Hb H0 H S s0 s1 s2 s3 (x::r))(hc:H x.c=some (.lst vs))(hp:H p=some (.tup xs))(hp0:H0 p=none)(hd:RD (upd H0 p (.tup xs)) (.ref p) d):
 ZI Hb (upd H0 p (.tup xs)) (upd H x.c (.lst (vs++[.ref p]))) S s0 s1 s2 s3 ({ x with f:=x.f.add d }::r):=by
 have n:=Z.ne (gq (x:=x) (r:=r));have pc:=cK hp hc;have cz:H0 x.c=none:=Z.fzz gq;have g:aa H0 (upd H0 p (.tup xs)):=aa.new hp0 _;have rest:=(Z.zr.rest (o:=.lst (vs++[.ref p])) Z.ndz hc);refine{ hb:=Z.hb.trans g,h0:=?_,fz:=?_,nd:=Z.nd,cS:=?_,c0:=?_,c1:=?_,c2:=?_,c3:=?_,zr:=?_ }
 .intro b u q;by_cases e:b=p
  .subst e;rw[ag]at q;cases q;rw[ae pc];exact hp
  .rw[ae e]at q;rw[ae (bW q cz)];exact Z.h0 _ _ q
 .intro m hm;obtain⟨ws,hw⟩:=Z.lsts m hm;rw[ae (Ne.symm (cK hp hw))];exact Z.fz m hm
 .rw[ae n.1];exact Z.cS
 .rw[ae n.2.1];exact Z.c0
 .rw[ae n.2.2.1];exact Z.c1
 .rw[ae n.2.2.2.1];exact Z.c2
 .rw[ae n.2.2.2.2];exact Z.c3
 .obtain⟨⟨vs',h1,h2⟩,_,_⟩:=Z.zr;rw[qI,hc]at h1;cases h1;refine⟨⟨vs++[.ref p],by rw[qI];exact ag,(h2.same g).app (.cons hd .nil)⟩,?_,?_⟩
  .have q:=rest.1;unfold Fz.side at q ⊢;dsimp only[Fr.add]
   revert q
   cases x.f.op<;>intro q<;>first|exact q|exact RL.same g q
  .rcases rest.2 with h4|⟨h4,h5,h6⟩
   .exact .inl h4
   .exact .inr ⟨h4,h5,h6.grow g⟩
end
section
variable {Hb H0 H H':Hp}{S s0 s1 s2 s3:Addr}{z:List Fz}
theorem ZI.opened{x y:Fz}{r:List Fz}{vs:List V}(Z:ZI Hb H0 H S s0 s1 s2 s3 (x::r))(hc:H x.c=some (.lst vs))
 (k:∀b u,b≠x.c->b≠s0->b≠s1->b≠s2->b≠s3->H b=some u->H' b=some u) (nm:∀m∈y.muts,H m=none/\H' m=some (.lst [])) (ny:y.muts.Nodup) (hp:H' y.p=some (.tup y.tupV))
 (hop:y.f.op≠.root) (hno:∀n t,y.f.op≠.ifO n t) (hds:y.f.ds=[])
 (kc:H' x.c=some (.lst (vs++[.ref y.p]))) (k0:H' s0=some (.lst (((x::r).map λx=>V.ref x.c).reverse++[.ref y.c]))) (k1:H' s1=some (.lst (((x::r).map Fz.o).reverse++[y.o])))
 (k2:H' s2=some (.lst (((x::r).map λx=>V.bl x.f.shut).reverse++[.bl y.f.shut]))) (k3:H' s3=some (.lst (((x::r).map λx=>V.int x.f.times).reverse++[.int y.f.times]))):ZI Hb H0 H' S s0 s1 s2 s3 (y::x::r):=by
 have sn:=Z.ss;have cn:=Z.ne (gq (x:=x) (r:=r))
 have fresh:∀m∈y.muts,∀b∈bf S s0 s1 s2 s3 (x::r),m≠b:=λm hm b hb e=>by
  obtain⟨ws,hw⟩:=Z.lsts b hb;rw[<- e,(nm m hm).1]at hw;cases hw
 have am:bf S s0 s1 s2 s3 (y::x::r)=[S,s0,s1,s2,s3]++(y.muts++(x::r).flatMap Fz.muts):=by simp[bf]
 have am':bf S s0 s1 s2 s3 (x::r)=[S,s0,s1,s2,s3]++(x::r).flatMap Fz.muts:=by simp[bf]
 have h0':aa H0 H':=λb u q=>by
  have nb:∀m∈bf S s0 s1 s2 s3 (x::r),b≠m:=λm hm=>bW q (Z.fz m hm);exact k b u (nb _ (by rw[am'];exact qS _ gq)) (nb _ (by rw[am'];simp)) (nb _ (by rw[am'];simp)) (nb _ (by rw[am'];simp)) (nb _ (by rw[am'];simp)) (Z.h0 _ _ q)
 have oth:∀m,m∈(x::r).flatMap Fz.muts->m≠x.c->H' m=H m:=λm hm hmc=>by
  obtain⟨ws,hw⟩:=Z.zr.lsts m hm;have n:=Z.ne hm;rw[hw];exact k m _ hmc (Ne.symm n.2.1) (Ne.symm n.2.2.1) (Ne.symm n.2.2.2.1) (Ne.symm n.2.2.2.2) hw
 have tp:∀p xs,H p=some (.tup xs)->H' p=some (.tup xs):=λp xs h=>k p _ (cK h hc) (cK h Z.c0) (cK h Z.c1) (cK h Z.c2) (cK h Z.c3) h;refine{ hb:=Z.hb,h0:=h0',fz:=?_,nd:=?_,cS:=k _ _ cn.1 sn.1 sn.2.1 sn.2.2.1 sn.2.2.2.1 Z.cS,c0:=?_,c1:=?_,c2:=?_,c3:=?_,zr:=?_ }
 .intro m hm;rw[am,qp,qp]at hm;rcases hm with hm|hm|hm
  .exact Z.fz m (by rw[am'];exact Q7 _ hm)
  .exact aa.none Z.h0 (nm m hm).1
  .exact Z.fzz hm
 .have nd:=Z.nd;rw[am']at nd;rw[am,List.nodup_append,List.nodup_append];have a:=List.nodup_append.mp nd;refine⟨a.1,⟨ny,a.2.1,λm hm b hb=>fresh m hm b (by rw[am'];exact qS _ hb)⟩,λm hm b hb=>?_⟩;rcases qp.mp hb with hb|hb
  .exact Ne.symm (fresh b hb m (by rw[am'];exact Q7 _ hm))
  .exact a.2.2 m hm b hb
 .rw[k0];simp
 .rw[k1];simp
 .rw[k2];simp
 .rw[k3];simp
 .obtain⟨⟨vs',h1,h2⟩,h3,h4⟩:=Z.zr;rw[qI,hc]at h1;cases h1;refine⟨⟨[],(nm _ y.c_mem).2,by rw[hds];exact .nil⟩,?_,.inr ⟨hop,hp,⟨vs,kc,h2⟩,?_,?_⟩⟩
  .unfold Fz.side
   cases q:y.f.op with
   |ifT n=>exact(nm y.e (by unfold Fz.muts;rw[q];simp)).2
   |ifO n t=>exact Qf q (hno n t)
   |root=>trivial
   |whl n=>trivial
   |rep n=>trivial
  .unfold Fz.side at h3 ⊢
   cases q:x.f.op with
   |ifT n=>
    rw[q]at h3;have se:=lV Z.ndz q;show H' x.e=some (.lst []);rw[oth x.e (by rw[qP];exact Q7 _ se.2.1) se.1];exact h3
   |ifO n t=>rw[q]at h3;exact h3
   |root=>trivial
   |whl n=>trivial
   |rep n=>trivial
  .rcases h4 with h4|⟨h4,h5,h6⟩
   .exact .inl h4
   .exact .inr ⟨h4,tp _ _ h5,h6.frame (λm hm=>oth m (oO hm) (pN Z.ndz hm)) tp⟩
theorem ZI.elsed{x:Fz}{r:List Fz}{vs:List V}{n:Str}(Z:ZI Hb H0 H S s0 s1 s2 s3 (x::r))(q:x.f.op=.ifT n)(hc:H x.c=some (.lst vs))
 (k:∀b u,b≠s0->b≠s1->H b=some u->H' b=some u) (k0:H' s0=some (.lst ((r.map λx=>V.ref x.c).reverse++[.ref x.e]))) (k1:H' s1=some (.lst ((r.map Fz.o).reverse++[.non]))):
 ZI Hb (upd H0 x.c (.lst vs)) H' S s0 s1 s2 s3 (⟨{ x.f with op:=.ifO n x.f.ds,ds:=[] },x.e,x.p,x.c⟩::r):=by
 have sn:=Z.ss;have cn:=Z.ne (gq (x:=x) (r:=r));have se:=lV Z.ndz q;have em:x.e∈(x::r).flatMap Fz.muts:=by rw[qP];exact Q7 _ se.2.1
 have en:=Z.ne em;have g:aa H0 (upd H0 x.c (.lst vs)):=aa.new (Z.fzz gq) _;have mx:x.muts=[x.c,x.e]:=by unfold Fz.muts;rw[q]
 have tp:∀p xs,H p=some (.tup xs)->H' p=some (.tup xs):=λp xs h=>k p _ (cK h Z.c0) (cK h Z.c1) h
 have oth:∀m,m∈(x::r).flatMap Fz.muts->H' m=H m:=λm hm=>by
  obtain⟨ws,hw⟩:=Z.zr.lsts m hm;have n:=Z.ne hm;rw[hw];exact k m _ (Ne.symm n.2.1) (Ne.symm n.2.2.1) hw
 have z0:H0 s0=none:=Z.fz _ (by simp[bf]);have z1:H0 s1=none:=Z.fz _ (by simp[bf]);obtain⟨⟨vs',h1,h2⟩,h3,h4⟩:=Z.zr;rw[qI,hc]at h1;cases h1;unfold Fz.side at h3;rw[q]at h3
 have sub:∀m,m∈bf S s0 s1 s2 s3 (⟨{ x.f with op:=.ifO n x.f.ds,ds:=[] },x.e,x.p,x.c⟩::r)->m∈bf S s0 s1 s2 s3 (x::r)/\m≠x.c:=λm hm=>by
  simp only[bf,qP,Fz.muts,qF,Qw,Qv]at hm;simp only[bf,qP,mx,qF,Qw,Qv];rcases hm with rfl|rfl|rfl|rfl|rfl|rfl|hm
  .exact⟨by simp,cn.1⟩
  .exact⟨by simp,cn.2.1⟩
  .exact⟨by simp,cn.2.2.1⟩
  .exact⟨by simp,cn.2.2.2.1⟩
  .exact⟨by simp,cn.2.2.2.2⟩
  .exact⟨by simp,se.1⟩
  .have hm':m∈r.flatMap Fz.muts:=by simpa using hm
   exact⟨by simp[hm'],pN Z.ndz hm'⟩
 refine{ hb:=Z.hb.trans g,h0:=?_,fz:=?_,nd:=?_,cS:=k _ _ sn.1 sn.2.1 Z.cS,c0:=?_,c1:=?_,c2:=?_,c3:=?_,zr:=?_ }
 .intro b u hb;by_cases e:b=x.c
  .subst e;rw[ag]at hb;cases hb;exact k _ _ (Ne.symm cn.2.1) (Ne.symm cn.2.2.1) hc
  .rw[ae e]at hb;exact k _ _ (bW hb z0) (bW hb z1) (Z.h0 _ _ hb)
 .intro m hm;rw[ae (sub m hm).2];exact Z.fz m (sub m hm).1
 .have nd:=Z.nd;simp only[bf,qP,mx,Qw,Qv,List.nodup_cons,qF,not_or]at nd;simp only[bf,qP,Fz.muts,Qw,Qv,List.nodup_cons,qF,not_or];obtain⟨⟨a1,a2,a3,a4,_,a6,a7⟩,⟨b1,b2,b3,_,b5,b6⟩,⟨c1,c2,_,c4,c5⟩,⟨d1,_,d3,d4⟩,⟨_,e2,e3⟩,_,f2,f3⟩:=nd;exact⟨⟨a1,a2,a3,a4,a6,a7⟩,⟨b1,b2,b3,b5,b6⟩,⟨c1,c2,c4,c5⟩,⟨d1,d3,d4⟩,⟨e2,e3⟩,f2,f3⟩
 .rw[k0];simp
 .rw[k1];simp[Fz.o]
 .refine(k _ _ (Ne.symm sn.2.2.2.2.2.1) (Ne.symm sn.2.2.2.2.2.2.2.1) Z.c2).trans ?_;simp
 .refine(k _ _ (Ne.symm sn.2.2.2.2.2.2.1) (Ne.symm sn.2.2.2.2.2.2.2.2.1) Z.c3).trans ?_;simp
 .refine⟨⟨[],?_,.nil⟩,.mk ag (h2.same g),?_⟩
  .show H' x.e=some (.lst ([]++[]));rw[oth x.e em];exact h3
  .rcases h4 with⟨h4,_⟩|⟨h4,h5,h6⟩
   .rw[q]at h4;cases h4
   .refine .inr ⟨by simp,?_,(h6.frame (λm hm=>oth m (oO hm)) tp).grow g⟩;have:=tp _ _ h5;unfold Fz.tupV at this ⊢;rw[q]at this;exact this
theorem ZI.closed{x g:Fz}{r:List Fz}(Z:ZI Hb H0 H S s0 s1 s2 s3 (x::g::r))
 (k:∀b u,b≠s0->b≠s1->b≠s2->b≠s3->H b=some u->H' b=some u) (k0:H' s0=some (.lst (((g::r).map λx=>V.ref x.c).reverse))) (k1:H' s1=some (.lst (((g::r).map Fz.o).reverse)))
 (k2:H' s2=some (.lst (((g::r).map λx=>V.bl x.f.shut).reverse))) (k3:H' s3=some (.lst (((g::r).map λx=>V.int x.f.times).reverse))):
 ∃H0',ZI Hb H0' H' S s0 s1 s2 s3 ({ g with f:=g.f.add x.f.deed }::r):=by
 have sn:=Z.ss;obtain⟨⟨vs,h1,h2⟩,h3,h4⟩:=Z.zr;rw[qI]at h1;rcases h4 with⟨_,h4⟩|⟨h4,h5,h6⟩
 .cases h4
 have tp:∀p xs,H p=some (.tup xs)->H' p=some (.tup xs):=λp xs h=>k p _ (cK h Z.c0) (cK h Z.c1) (cK h Z.c2) (cK h Z.c3) h
 have oth:∀m,m∈(x::g::r).flatMap Fz.muts->H' m=H m:=λm hm=>by
  obtain⟨ws,hw⟩:=Z.zr.lsts m hm;have n:=Z.ne hm;rw[hw];exact k m _ (Ne.symm n.2.1) (Ne.symm n.2.2.1) (Ne.symm n.2.2.2.1) (Ne.symm n.2.2.2.2) hw
 have mx:∀m∈x.muts,m∈(x::g::r).flatMap Fz.muts:=λm hm=>by rw[qP];exact Q7 _ hm
 let H0':Hp:=λb=>if b∈x.muts\/b=x.p then H b else H0 b
 have e1:∀b,b∈x.muts\/b=x.p->H0' b=H b:=λb hb=>Qc hb;have e2:∀b,¬ (b∈x.muts\/b=x.p)->H0' b=H0 b:=λb hb=>Qb hb
 have gr:aa H0 H0':=λb u hb=>by
  by_cases c:b∈x.muts\/b=x.p
  .rw[e1 b c];exact Z.h0 _ _ hb
  .rw[e2 b c];exact hb
 have hl:RL H0' x.c x.f.ds:=.mk ((e1 _ (.inl x.c_mem)).trans h1) (h2.same gr);have ht:H0' x.p=some (.tup x.tupV):=(e1 _ (.inr U)).trans h5
 have hd:RD H0' (.ref x.p) x.f.deed:=by
  unfold Fz.tupV at ht;unfold Fz.side at h3;unfold Fr.deed
  cases q:x.f.op with
  |root=>exact Qf q h4
  |ifT n=>
   rw[q]at ht h3;exact .cond ht hl (.mk ((e1 _ (.inl (by unfold Fz.muts;rw[q];simp))).trans h3) .nil)
  |ifO n t=>
   rw[q]at ht h3;exact .cond ht (RL.same gr h3) hl
  |whl n=>
   rw[q]at ht;exact .whl ht hl
  |rep n=>
   rw[q]at ht;exact .rep ht hl
 have ndx:=Z.ndz;rw[qP]at ndx;have nd3:=List.nodup_append.mp ndx
 have ex:∀m,m∈bf S s0 s1 s2 s3 (g::r)->H0' m=none:=λm hm=>by
  have hm':m∈bf S s0 s1 s2 s3 (x::g::r):=by
   simp only[bf,qP,qF,qp]at hm ⊢;rcases hm with h|h|h|h|h|h
   .exact .inl h
   .exact .inr (.inl h)
   .exact .inr (.inr (.inl h))
   .exact .inr (.inr (.inr (.inl h)))
   .exact .inr (.inr (.inr (.inr (.inl h))))
   .exact .inr (.inr (.inr (.inr (.inr (.inr h)))))
  rw[e2 m ?_]
  .exact Z.fz m hm'
  .rintro(hx|hx)
   .have n:=Z.ne (mx m hx);simp only[bf,qF]at hm;rcases hm with h|h|h|h|h|h
    .exact n.1 h.symm
    .exact n.2.1 h.symm
    .exact n.2.2.1 h.symm
    .exact n.2.2.2.1 h.symm
    .exact n.2.2.2.2 h.symm
    .exact nd3.2.2 m hx m h U
   .obtain⟨ws,hw⟩:=Z.lsts m hm';exact cK h5 hw hx.symm
 refine⟨H0',{ hb:=Z.hb.trans gr,h0:=?_,fz:=ex,nd:=?_,cS:=k _ _ sn.1 sn.2.1 sn.2.2.1 sn.2.2.2.1 Z.cS,c0:=k0,c1:=k1,c2:=k2,c3:=k3,zr:=?_ }⟩
 .intro b u hb;by_cases c:b∈x.muts\/b=x.p
  .rw[e1 b c]at hb;rcases c with c|c
   .rw[oth b (mx b c)];exact hb
   .subst c;rw[h5]at hb;cases hb;exact tp _ _ h5
  .rw[e2 b c]at hb;have z:∀m,m∈bf S s0 s1 s2 s3 (x::g::r)->b≠m:=λm hm=>bW hb (Z.fz m hm);exact k _ _ (z _ (by simp[bf])) (z _ (by simp[bf])) (z _ (by simp[bf])) (z _ (by simp[bf])) (Z.h0 _ _ hb)
 .have nd:=Z.nd;have am:bf S s0 s1 s2 s3 (x::g::r)=[S,s0,s1,s2,s3]++(x.muts++(g::r).flatMap Fz.muts):=by simp[bf]
  rw[am]at nd;have a:=List.nodup_append.mp nd;show(bf S s0 s1 s2 s3 (g::r)).Nodup;have am':bf S s0 s1 s2 s3 (g::r)=[S,s0,s1,s2,s3]++(g::r).flatMap Fz.muts:=by simp[bf]
  rw[am',List.nodup_append];exact⟨a.1,nd3.2.1,λm hm b hb=>a.2.2 m hm b (qS _ hb)⟩
 .have h7:=(h6.frame (H':=H') (λm hm=>oth m (oO hm)) tp).grow gr;obtain⟨⟨ws,w1,w2⟩,w3,w4⟩:=h7;exact⟨⟨ws++[.ref x.p],by rw[qI];exact w1,w2.app (.cons hd .nil)⟩,w3,w4⟩
end
section
variable {Hb H0 H H4:Hp}{S s0 s1 s2 s3:Addr}
theorem oB{x y:Fz}{r:List Fz}{vs:List V}(Z:ZI Hb H0 H S s0 s1 s2 s3 (x::r))(hc:H x.c=some (.lst vs))(k4:∀b u,b≠x.c->H b=some u->H4 b=some u)(nm:∀m∈y.muts,H m=none/\H4 m=some (.lst []))(ny:y.muts.Nodup)
 (hp:H4 y.p=some (.tup y.tupV)) (hop:y.f.op≠.root) (hno:∀n t,y.f.op≠.ifO n t) (hds:y.f.ds=[]) (kc:H4 x.c=some (.lst (vs++[.ref y.p]))):
 ZI Hb H0 (upd (upd (upd (upd H4 s0 (.lst (((x::r).map λx=>V.ref x.c).reverse++[.ref y.c]))) s1 (.lst (((x::r).map Fz.o).reverse++[y.o]))) s2 (.lst (((x::r).map λx=>V.bl x.f.shut).reverse++[.bl y.f.shut]))) s3 (.lst (((x::r).map λx=>V.int x.f.times).reverse++[.int y.f.times]))) S s0 s1 s2 s3 (y::x::r):=by
 obtain⟨_,_,_,_,n01,n02,n03,n12,n13,n23⟩:=Z.ss;have cn:=Z.ne (gq (x:=x) (r:=r))
 have ms:∀m∈y.muts,m≠s0/\m≠s1/\m≠s2/\m≠s3:=λm hm=>by
  have hn:=(nm m hm).1;exact⟨(λe=>by rw[e,Z.c0]at hn;cases hn),(λe=>by rw[e,Z.c1]at hn;cases hn),(λe=>by rw[e,Z.c2]at hn;cases hn),(λe=>by rw[e,Z.c3]at hn;cases hn)⟩
 have c0:=k4 _ _ cn.2.1 Z.c0;have c1:=k4 _ _ cn.2.2.1 Z.c1;have c2:=k4 _ _ cn.2.2.2.1 Z.c2;have c3:=k4 _ _ cn.2.2.2.2 Z.c3;refine Z.opened (y:=y) hc (λb u h1 h2 h3 h4 h5 hb=>?_) (λm hm=>⟨(nm m hm).1,?_⟩) ny ?_ hop hno hds ?_ ?_ ?_ ?_ ?_
 .rw[ae h5,ae h4,ae h3,ae h2];exact k4 b u h1 hb
 .have h:=ms m hm;rw[ae h.2.2.2,ae h.2.2.1,ae h.2.1,ae h.1];exact(nm m hm).2
 .rw[ae (cK hp c3),ae (cK hp c2),ae (cK hp c1),ae (cK hp c0)];exact hp
 .rw[ae (Ne.symm cn.2.2.2.2),ae (Ne.symm cn.2.2.2.1),ae (Ne.symm cn.2.2.1),ae (Ne.symm cn.2.1)];exact kc
 .rw[ae n03,ae n02,ae n01,ag]
 .rw[ae n13,ae n12,ag]
 .rw[ae n23,ag]
 .rw[ag]
theorem vT{α:Type}{l:List α}{v:α}:atI (l++[v]) (-1)=some v:=by
 unfold atI
 have e:ixN (l++[v]).length (-1)=some l.length:=by
  unfold ixN;simp;omega
 rw[e];simp
theorem fP{α β:Type}{f:α->β}{x:α}{r:List α}:atI (((x::r).map f).reverse) (-1)=some (f x):=by
 rw[Q3,List.reverse_cons];exact vT
end
theorem wJ:∀ds:List a8,ds.length<=(ai ds).length
 |[]=>qi _
 |d::r=>by
  have:=wJ r;rw[ai,qf,qL,fB,qL];omega
theorem yt{f:Fr}{r:List Fr}:f.ds.length<=cnt (f::r):=by
 have:=wJ f.ds;rw[cnt];omega
def ly(st:List Fr):Prop:=∀f∈st,0<=f.times/\f.times<=1000
theorem zk{names rooms:List Str}{most low n:Int}{st:List Fr}(h0:0<=most)(h1:most<=1000)(hn:0<=n)(ht:ly st):ly (bx names rooms most low st n):=by
 match st,ht with
 |[],ht=>exact ht
 |g::r,ht=>
  have hg:=ht g qy;have hr:∀f∈r,0<=f.times/\f.times<=1000:=λf hf=>ht f (qw _ hf);unfold bx;dsimp only;split
  .unfold eZ;dsimp only;intro f hf;rcases qF.mp hf with rfl|hf
   .split
    .exact⟨by simp,by simp⟩
    .split
     .exact⟨by simp,by simp⟩
     .dsimp only;unfold cw;by_cases tp:0<g.times
      .rw[Qc tp];have q0:0<=most / g.times:=Int.ediv_nonneg h0 hg.1;have e0:0<=n / 70 % (1+most / g.times):=Qk _ Yo;have e1:n / 70 % (1+most / g.times)<1+most / g.times:=Qp _ Yo;refine⟨Int.mul_nonneg hg.1 e0,?_⟩;have m1:g.times * (n / 70 % (1+most / g.times))<=g.times * (most / g.times):=Int.mul_le_mul_of_nonneg_left Yo hg.1;have m2:g.times * (most / g.times)<=most:=Int.mul_ediv_self_le Yo;omega
      .have:g.times=0:=by omega
       rw[this];simp
   .exact ht f hf
  .split
   .intro f hf;rcases qF.mp hf with rfl|hf
    .exact hg
    .exact hr f hf
   .split
    .cases r with
     |nil=>exact ht
     |cons g' r'=>
      intro f hf;rcases qF.mp hf with rfl|hf
      .exact hr g' qy
      .exact hr f (qw _ hf)
    .intro f hf;rcases qF.mp hf with rfl|hf
     .exact hg
     .exact hr f hf
theorem zu{names rooms:List Str}{most low:Int}{cells:List Int}{i:Nat}{c:Int}(h:cells[i]?=some c):cC names rooms most low (cells.take (i+1))=bx names rooms most low (cC names rooms most low (cells.take i)) (aE c 1):=by
 unfold cC;rw[qC,h,List.foldl_append]
 rfl
theorem sD{names rooms:List Str}{most low:Int}(h0:0<=most)(h1:most<=1000):∀(cells:List Int)(st:List Fr),ly st->ly (cells.foldl (λst c=>bx names rooms most low st (aE c 1)) st)
 |[],st,h=>h
 |c::cs,st,h=>sD h0 h1 cs _ (zk h0 h1 (by unfold aE;exact Qk _ Yk) h)
theorem xh{x x':Fz}{r:List Fz}(h:x'.c=x.c):jz (x'::r)=jz (x::r):=by
 cases r with
 |nil=>exact h
 |cons y r=>rfl
theorem El{L Pc c A B:Prop}{inst:Decidable c}(hw:c->Pc)(rest:Pc->L)(h:¬ c->(Pc->L)->B)(e:A=L:=by rfl):@ite Prop c inst A B:=by
 subst e;by_cases hc:c
 .rw[Qc hc];exact rest (hw hc)
 .rw[Qb hc];exact h hc rest
theorem vW{α:Type}{l:List α}{v:α}:ixN (l++[v]).length (-1)=some l.length:=by
 unfold ixN;simp;omega
theorem u7{α:Type}{l:List α}{v w:α}:(l++[v]).set l.length w=l++[w]:=by
 induction l with
 |nil=>rfl
 |cons a r ih=>simp[ih]
theorem goB{Pc:Prop}{F:Bool->Prop}(go:Pc->∃k,V.bl false=V.bl k/\F k)(p:Pc):F false:=by
 obtain⟨k,e,h⟩:=go p;cases e;exact h
end Tr
namespace Tr
theorem lg{α β:Type}{f:α->β}{x:α}{r:List α}:(((x::r).map f).reverse).dropLast=(r.map f).reverse:=by
 rw[Q3,List.reverse_cons,List.dropLast_concat]
theorem kU{α β:Type}{f:α->β}{x:α}{r:List α}:(((x::r).map f).reverse)[(((x::r).map f).reverse).length-1]?=some (f x):=by
 rw[Q3,List.reverse_cons];simp
end Tr
namespace Tr
open PySem PySem.Spec PyProof.Rows L2
noncomputable def a8.strs:a8->List Str
 |.set x a sg b=>x::sg::(a.names++b.names)
 |.put q x|.get q x=>[q,x]
 |.give x|.cond x _ _|.whl x _=>[x]
 |.rep _ _=>[]
def cP(D:List Str)(ds:List a8):Prop:=∀d∈ai ds,∀s∈d.strs,s∈D
def FrT(D:List Str)(f:Fr):Prop:=cP D f.ds/\cP D f.op.extra/\∀s∈f.op.nms,s∈D
theorem cP.nil{D:List Str}:cP D []:=λd h=>by simp[ai]at h
theorem cP.app{D:List Str}{a b:List a8}(h1:cP D a)(h2:cP D b):cP D (a++b):=λd h=>by
 rw[f9,qp]at h;exact h.elim (h1 d) (h2 d)
theorem cP.one{D:List Str}{d:a8}(h:∀s∈d.strs,s∈D)(hi:∀b∈d.inner,cP D b):cP D [d]:=λe he=>by
 rw[ai,ai,qI,fB,qF,List.mem_flatMap]at he;rcases he with rfl|⟨b,hb,he⟩
 .exact h
 .exact hi b hb e he
theorem FrT.deed{D:List Str}{f:Fr}(h:FrT D f):cP D [f.deed]:=by
 obtain⟨h1,h2,h3⟩:=h;unfold Fr.deed;cases q:f.op<;>rw[q]at h2 h3
 .exact .one (by simp[a8.strs]) (by simpa[a8.inner]using h1)
 .exact .one (by simpa[a8.strs,Op.nms]using h3) (by simpa[a8.inner]using⟨h1,cP.nil⟩)
 .exact .one (by simpa[a8.strs,Op.nms]using h3) (by simpa[a8.inner]using⟨h2,h1⟩)
 .exact .one (by simpa[a8.strs,Op.nms]using h3) (by simpa[a8.inner]using h1)
 .exact .one (by simp[a8.strs]) (by simpa[a8.inner]using h1)
theorem FrT.add{D:List Str}{g:Fr}{d:a8}(h:FrT D g)(hd:cP D [d]):FrT D (g.add d):=⟨h.1.app hd,h.2.1,h.2.2⟩
noncomputable def ke:List Str:=("+-*/<=&|^":Str).cps.toList.map sgn
noncomputable def cA(names rooms:List Str):List Str:=names++rooms++ke
theorem A9(i:Int):iZ i∈ke:=by
 unfold iZ ke;have h1:0<=i % 9:=Qk _ Yk;have h2:i % 9<9:=Qp _ Yk;have ln:("+-*/<=&|^":Str).cps.toList.length=9:=Yd;have lt:(i % 9).toNat<("+-*/<=&|^":Str).cps.toList.length:=Yo;rw[qv,qg lt];exact List.mem_map.mpr ⟨_,List.getElem_mem lt,U⟩
theorem zR{n:Int}{names rooms:List Str}{shut:Bool}(h:0<names.length):cP (cA names rooms) [bc n names rooms shut]:=by
 have hn:∀i,nth names i∈cA names rooms:=λi=>by unfold cA;simp[fO h i]
 have hs:∀i,iZ i∈cA names rooms:=λi=>by unfold cA;simp[A9 i]
 unfold bc;split
 .exact .one (by simpa[a8.strs]using hn _) (by simp[a8.inner])
 .split
  .rename_i hr;have hm:nth rooms (n / 14 / 5)∈cA names rooms:=by unfold cA;simp[fO hr.2.1]
   split
   .exact .one (by simp only[a8.strs,qF,Q0,or_false];rintro s (rfl|rfl);exact hm;exact hn _) (by simp[a8.inner])
   .exact .one (by simp only[a8.strs,qF,Q0,or_false];rintro s (rfl|rfl);exact hm;exact hn _) (by simp[a8.inner])
  .refine .one ?_ (by simp[a8.inner]);intro s hs';simp only[a8.strs,qF,qp]at hs';rcases hs' with rfl|rfl|hs'|hs'
   .exact hn _
   .exact hs _
   .split at hs'
    .exact Qf hs' (by simp[Val.names])
    .simp[Val.names]at hs';subst hs';exact hn _
   .split at hs'
    .exact Qf hs' (by simp[Val.names])
    .simp[Val.names]at hs';subst hs';exact hn _
theorem zm{names rooms:List Str}{most low n:Int}{st:List Fr}(h:0<names.length)(ht:∀f∈st,FrT (cA names rooms) f):∀f∈bx names rooms most low st n,FrT (cA names rooms) f:=by
 have hn:∀i,nth names i∈cA names rooms:=λi=>by unfold cA;simp[fO h i]
 match st,ht with
 |[],ht=>exact ht
 |g::r,ht=>
  have hg:=ht g qy;have hr:∀f∈r,FrT (cA names rooms) f:=λf hf=>ht f (qw _ hf);unfold bx;dsimp only;split
  .unfold eZ;dsimp only;intro f hf;rcases qF.mp hf with rfl|hf
   .split
    .exact⟨.nil,.nil,by simpa[Op.nms]using hn _⟩
    .split
     .exact⟨.nil,.nil,by simpa[Op.nms]using hn _⟩
     .exact⟨.nil,.nil,by simp[Op.nms]⟩
   .exact ht f hf
  .split
   .rename_i x hx
    have e:g.op=.ifT x:=by
     split at hx
     .cases e:g.op<;>rw[e]at hx<;>simp[Op.ifT?]at hx;rw[hx]
     .cases hx
    intro f hf;rcases qF.mp hf with rfl|hf
    .have:=hg.2.2;rw[e]at this;exact⟨.nil,hg.1,by simpa[Op.nms]using this⟩
    .exact hr f hf
   .split
    .cases r with
     |nil=>exact ht
     |cons g' r'=>
      intro f hf;rcases qF.mp hf with rfl|hf
      .exact(hr g' qy).add hg.deed
      .exact hr f (qw _ hf)
    .intro f hf;rcases qF.mp hf with rfl|hf
     .exact hg.add (zR h)
     .exact hr f hf
theorem sE{names rooms:List Str}{most low:Int}(h:0<names.length):∀(cells:List Int)(st:List Fr),(∀f∈st,FrT (cA names rooms) f)->∀f∈cells.foldl (λst c=>bx names rooms most low st (aE c 1)) st,FrT (cA names rooms) f
 |[],st,ht=>ht
 |c::cs,st,ht=>sE h cs _ (zm h ht)
theorem rD{D:List Str}:∀(st:List Fr)(dt:List a8),(∀f∈st,FrT D f)->cP D dt->cP D (wh st dt)
 |[],_,_,_=>.nil
 |[f],dt,h,hd=>(h f qy).1.app hd
 |f::g::r,dt,h,hd=>by
  have hf:=h f qy;exact rD (g::r) _ (λf' hf'=>h f' (qw _ hf')) (FrT.deed (f:={ f with ds:=f.ds++dt }) ⟨hf.1.app hd,hf.2⟩)
theorem FR{names rooms:List Str}{most low:Int}(h:0<names.length)(cells:List Int):cP (cA names rooms) (cY names rooms most low cells):=by
 unfold cY hZ;have ok:=jW (rooms:=rooms) (most:=most) (low:=low) h cells st0 ⟨U,by simp[st0,cards,ai],by simp[st0,aH]⟩ (by simp[st0])
 have ne:cC names rooms most low cells≠[]:=λz=>by
  have:=ok.1;unfold cC at z;rw[z]at this;exact this
 rw[i0 _ _ (by have:=List.length_pos_iff.mpr ne;omega)];refine rD _ _ (sE h cells st0 ?_) .nil;intro f hf;simp[st0]at hf;subst hf;exact⟨.nil,.nil,by simp[Op.nms]⟩
mutual
theorem E8{D:List Str}(hD:∀s∈D,PyData.strOk s=true):∀d:a8,(∀e∈d.flat,∀s∈e.strs,s∈D)->d.data.canLay0=true
 |.set x a sg b,h=>by
  have q:∀s∈(a8.set x a sg b).strs,PyData.strOk s=true:=λs hs=>hD s (h _ (by simp[a8.flat]) s hs);cases a<;>cases b<;>simp[a8.strs,Val.names]at q<;>simp[a8.data,PyData.canLay0,PyData.canLayAll0,q]<;>decide +kernel
 |.put p x,h=>by
  have q:∀s∈(a8.put p x).strs,PyData.strOk s=true:=λs hs=>hD s (h _ (by simp[a8.flat]) s hs);simp[a8.strs]at q;simp[a8.data,PyData.canLay0,PyData.canLayAll0,q]
  decide +kernel
 |.get p x,h=>by
  have q:∀s∈(a8.get p x).strs,PyData.strOk s=true:=λs hs=>hD s (h _ (by simp[a8.flat]) s hs);simp[a8.strs]at q;simp[a8.data,PyData.canLay0,PyData.canLayAll0,q]
  decide +kernel
 |.give x,h=>by
  have q:∀s∈(a8.give x).strs,PyData.strOk s=true:=λs hs=>hD s (h _ (by simp[a8.flat]) s hs);simp[a8.strs]at q;simp[a8.data,PyData.canLay0,PyData.canLayAll0,q]
  decide +kernel
 |.cond x t o,h=>by
  have q:∀s∈(a8.cond x t o).strs,PyData.strOk s=true:=λs hs=>hD s (h _ (by simp[a8.flat]) s hs);simp[a8.strs]at q;have h1:=iH hD t λe he=>h e (by simp[a8.flat,he]);have h2:=iH hD o λe he=>h e (by simp[a8.flat,he]);simp[a8.data,PyData.canLay0,PyData.canLayAll0,q,h1,h2]
  decide +kernel
 |.whl x b,h=>by
  have q:∀s∈(a8.whl x b).strs,PyData.strOk s=true:=λs hs=>hD s (h _ (by simp[a8.flat]) s hs);simp[a8.strs]at q;have h1:=iH hD b λe he=>h e (by simp[a8.flat,he]);simp[a8.data,PyData.canLay0,PyData.canLayAll0,q,h1]
  decide +kernel
 |.rep n b,h=>by
  have h1:=iH hD b λe he=>h e (by simp[a8.flat,he]);simp[a8.data,PyData.canLay0,PyData.canLayAll0,h1]
  decide +kernel
theorem iH{D:List Str}(hD:∀s∈D,PyData.strOk s=true):∀ds:List a8,(∀e∈ai ds,∀s∈e.strs,s∈D)->PyData.canLayAll0 (dP ds)=true
 |[],_=>by simp[dP,PyData.canLayAll0]
 |d::r,h=>by
  have h1:=E8 hD d λe he=>h e (by simp[ai,he]);have h2:=iH hD r λe he=>h e (by simp[ai,he]);simp[dP,PyData.canLayAll0,h1,h2]
end
mutual
theorem Fh:∀d:a8,d.data.depth<=2 * d.depth+1
 |.set x a sg b=>by cases a<;>cases b<;>simp[a8.data,PyData.depth,PyData.depthAll]
 |.put p x=>by simp[a8.data,PyData.depth,PyData.depthAll]
 |.get p x=>by simp[a8.data,PyData.depth,PyData.depthAll]
 |.give x=>by simp[a8.data,PyData.depth,PyData.depthAll]
 |.cond x t o=>by
  have h1:=iL t;have h2:=iL o;simp[a8.data,PyData.depth,PyData.depthAll,a8.depth];omega
 |.whl x b=>by
  have h1:=iL b;simp[a8.data,PyData.depth,PyData.depthAll,a8.depth];omega
 |.rep n b=>by
  have h1:=iL b;simp[a8.data,PyData.depth,PyData.depthAll,a8.depth];omega
theorem iL:∀ds:List a8,PyData.depthAll (dP ds)<=2 * aH ds+1
 |[]=>by simp[dP,PyData.depthAll]
 |d::r=>by
  have h1:=Fh d;have h2:=iL r;simp[dP,PyData.depthAll,aH];omega
end
end Tr
namespace Tr
open PySem PySem.Spec PyProof.Rows L2
def Low(x:Str):Prop:=∀c∈x.cps.toList,c<128
theorem Low.app{x y:Str}(h1:Low x)(h2:Low y):Low (x++y):=λc hc=>by
 have e:(x++y).cps.toList=x.cps.toList++y.cps.toList:=by
  show(x.cps++y.cps).toList=_;simp
 rw[e,qp]at hc;exact hc.elim (h1 c) (h2 c)
theorem Low.slice{x:Str}(h:Low x)(a b:Option Int):Low (Txt.slice x a b):=λc hc=>by
 unfold Txt.slice at hc;split at hc
 .exact h c hc
 .simp only[List.mem_filterMap]at hc;obtain⟨i,_,hi⟩:=hc;have:=Array.mem_of_getElem? hi;exact h c (by simpa using this)
theorem pW(j:Int):bX j<128:=by
 unfold bX;have all:∀c∈dk.cps.toList,c<128:=Yd;rw[qv]
 cases e:dk.cps.toList[j.toNat]? with
 |none=>decide
 |some c=>exact all c (qK e)
theorem lW{c:Nat}(h:c<128):Low (sgn c):=λd hd=>by
 simp[sgn]at hd;subst hd;exact h
theorem oR(n:Int):∀k,Low (cO n k)
 |0=>λc hc=>by simp[cO]at hc;exact Qf hc (by decide +kernel +revert)
 |k+1=>by rw[cO];exact(oR n k).app (lW (pW _))
theorem zx{w:Str}(h:Low w):Low (cW w):=by
 unfold cW;split
 .exact(h.slice _ _).app (lW (pW _))
 .exact h
theorem BQ(c k:Int):Low (bR c k):=by
 have b:Low (bP c):=oR _ _;have s:Low (eW c k):=lW (pW _);unfold bR;split
 .exact((b.slice _ _).app s).app (b.slice _ _)
 .split
  .exact b.slice _ _
  .exact(s.app (oR _ _)).slice _ _
theorem uL(c:Int)(n:Nat):∀w∈d0 c n,Low w:=by
 have up:∀w∈dS c n,Low w:=λw hw=>by
  unfold dS at hw;obtain⟨k,_,rfl⟩:=List.mem_map.mp hw;exact zx (BQ c k)
 unfold d0;split
 .intro w hw;exact up w (List.mem_reverse.mp hw)
 .exact up
theorem vI{w:Str}(h:Low w):PyData.strOk w=true:=by
 unfold PyData.strOk;rw[<- Array.all_toList,List.all_eq_true];intro c hc;have:=h c hc;simp;omega
theorem A8:∀s∈ke,PyData.strOk s=true:=Yd
theorem yu{c1 c2:Int}{n1 n2:Nat}:∀s∈cA (d0 c1 n1) (d0 c2 n2),PyData.strOk s=true:=by
 intro s hs;unfold cA at hs;simp only[qp]at hs;rcases hs with(hs|hs)|hs
 .exact vI (uL _ _ s hs)
 .exact vI (uL _ _ s hs)
 .exact A8 s hs
theorem zz{w:Str}(h:w.length<=50):(cW w).length<=51:=by
 unfold cW;split
 .have:=Txt.slice_le w none (some (-1));rw[ba];have:(sgn (bX ((gO w+13) % 26))).length=1:=U;omega
 .omega
theorem oU(n:Int):∀k:Nat,(cO n k).length=k
 |0=>rfl
 |k+1=>by rw[cO,ba,oU n k];rfl
theorem BR(c k:Int):(bR c k).length<=50:=by
 unfold bR;have b:(bP c).length=8:=oU _ 8;have s:(eW c k).length=1:=U;split
 .have h1:=Txt.slice_le (bP c) none (some (d6 c));have h2:=Txt.slice_le (bP c) (some (d6 c+1)) (some (dy c));rw[ba,ba];omega
 .split
  .have h1:=Txt.slice_le (bP c) none (some (1+(aE c 1 / 24+k) % 8));omega
  .have h1:=Txt.slice_le (eW c k++cO (aE c (k+2)) 7) none (some (1+aE c (k+40) % 8));rw[ba,oU]at h1;omega
theorem jf(c:Int)(n:Nat):∀w∈d0 c n,w.length<=51:=by
 have up:∀w∈dS c n,w.length<=51:=λw hw=>by
  unfold dS at hw;obtain⟨k,_,rfl⟩:=List.mem_map.mp hw;exact zz (BR c k)
 unfold d0;split
 .intro w hw;exact up w (List.mem_reverse.mp hw)
 .exact up
theorem Gf{c1 c2:Int}{n1 n2:Nat}:∀s∈bg (d0 c1 n1) (d0 c2 n2),s.length<=1000:=by
 intro s hs;unfold bg at hs;simp only[qp,List.mem_map,Q4]at hs;rcases hs with((hs|⟨q,hq,rfl⟩)|⟨q,hq,rfl⟩)|rfl
 .have:=jf _ _ s hs;omega
 .have:=jf _ _ q hq;rw[ba];have:((">":Str)).length=1:=by decide +kernel
  omega
 .have:=jf _ _ q hq;rw[ba];have:(("<":Str)).length=1:=by decide +kernel
  omega
 .decide +kernel
theorem Gg{names rooms:List Str}:(bg names rooms).length=names.length+2 * rooms.length+1:=by
 unfold bg;simp;omega
end Tr
namespace L2
open PySem PySem.Spec PyProof.Rows
theorem Fw{n:Nat}{g:TG}{tt:TT}{te:TE}{Fin:List V->Hp->Prop}{Y:St}{H:Hp}(Pv:Nat->List V->St->Hp->Prop)(h0:Pv 0 [] Y H)(hz:∀i ys Y H,i<=n->Pv i ys Y H->ys.length<=i)(hx:n<=sizeLine)
 (hs:∀i ys Y H,i<n->Pv i ys Y H->g (.int i) Y H λY2 H2=>tt Y2 H2 λb H3=>if b=true then te Y2 H3 λy H4=>Pv (i+1) (ys++[y]) Y2 H4 else Pv (i+1) ys Y2 H3)
 (hd:∀ys Y H,Pv n ys Y H->Fin ys H):∃W:Nat->Nat->List V->St->Hp->Prop,(∃m,W 0 m [] Y H)/\iR (Itr 0 n) g tt te Fin W:=by
 refine⟨λi m ys Y H=>m=n-i/\i<=n/\Pv i ys Y H,⟨_,U,qD _,h0⟩,?_⟩;rintro i m ys Y H ⟨rfl,hi,p⟩;have few:=hz i ys Y H hi p;by_cases lt:i<n
 .refine .inr ⟨lt,Yo,Pv (i+1),λys' Y' H' p'=>⟨_,Yo,U,lt,p'⟩,λv H' y=>?_⟩;obtain⟨e,y⟩:=y;rw[Int.zero_add]at y;subst e y;exact hs i ys Y _ lt p
 .obtain rfl:i=n:=by omega
  exact .inl ⟨qi _,Yo,hd ys Y H p⟩
theorem iN{K:W.Frag}{a:Addr}{xs:List V}{g:TG}{te:TE}{Fin:List V->Hp->Prop}{Y:St}{H:Hp}(Pv:Nat->List V->St->Hp->Prop)(h0:Pv 0 [] Y H)(hz:∀i ys Y H,i<=xs.length->Pv i ys Y H->ys.length<=i)(hx:xs.length<=sizeLine)(hl:∀i ys Y H,Pv i ys Y H->SqL K H a xs)
 (hs:∀i x ys Y H,xs[i]?=some x->Pv i ys Y H->g x Y H λY2 H2=>te Y2 H2 λy H4=>Pv (i+1) (ys++[y]) Y2 H4)
 (hd:∀ys Y H,Pv xs.length ys Y H->Fin ys H):∃W:Nat->Nat->List V->St->Hp->Prop,(∃m,W 0 m [] Y H)/\iR (Itl K a) g jS te Fin W:=
 pL Pv h0 hz hx hl (λi x ys Y H hx p=>by
  rw[xJ (N':=λ_ _ _=>True)]
  exact hs i x ys Y H hx p) hd
end L2
namespace Tr
open PySem PySem.Spec PyProof.Rows L2
inductive RSs(H:Hp):List V->List (Str×Int)->Prop
 |nil:RSs H [] []
 |cons {p:Addr}{vs:List V}{q:Str}{n:Int}{ss:List (Str×Int)}:H p=some (.tup [.str q,.int n])->RSs H vs ss->RSs H (.ref p::vs) ((q,n)::ss)
theorem RSs.same{H H':Hp}(e:aa H H'):∀{vs:List V}{ss:List (Str×Int)},RSs H vs ss->RSs H' vs ss
 |_,_,.nil=>.nil
 |_,_,.cons h r=>.cons (e _ _ h) (RSs.same e r)
theorem RSs.snoc{H:Hp}{p:Addr}{q:Str}{n:Int}(h:H p=some (.tup [.str q,.int n])):∀{vs:List V}{ss:List (Str×Int)},RSs H vs ss->RSs H (vs++[.ref p]) (ss++[(q,n)])
 |_,_,.nil=>.cons h .nil
 |_,_,.cons h' r=>.cons h' (RSs.snoc h r)
theorem RSs.len{H:Hp}:∀{vs:List V}{ss:List (Str×Int)},RSs H vs ss->vs.length=ss.length
 |_,_,.nil=>rfl
 |_,_,.cons _ r=>congrArg (·+1) (RSs.len r)
theorem RSs.at{H:Hp}:∀{vs:List V}{ss:List (Str×Int)},RSs H vs ss->∀(i:Nat)(v:V),vs[i]?=some v->∃p q n,v=.ref p/\ss[i]?=some (q,n)/\H p=some (.tup [.str q,.int n])
 |_,_,.nil,i,v,h=>by simp at h
 |_,_,.cons (p:=p) (q:=q) (n:=n) h' r,0,v,h=>by
  simp at h;exact⟨p,q,n,h.symm,U,h'⟩
 |_,_,.cons h' r,i+1,v,h=>RSs.at r i v (by simpa using h)
noncomputable def i6(s:Str×Int):PyData:=.tuple [.str s.1,.int s.2]
theorem RSs.dt{K:W.Frag}{H:Hp}:∀{vs:List V}{ss:List (Str×Int)},RSs H vs ss->e6 K H vs (ss.map i6)
 |_,_,.nil=>.nil
 |_,_,.cons h r=>.cons (.tup (SqT.of h) (.cons (.str _) (.cons (.int _) .nil))) (RSs.dt r)
theorem sk{K:W.Frag}{H:Hp}:∀xs:List Str,e6 K H (xs.map V.str) (xs.map PyData.str)
 |[]=>.nil
 |x::r=>.cons (.str x) (sk r)
noncomputable def iq(asks:List Str)(ss:List (Str×Int))(ds:List a8):PyData:=.tuple [.list (asks.map PyData.str),.list (ss.map i6),.list (dP ds)]
theorem vR:∀xs:List Str,(∀s∈xs,PyData.strOk s=true)->PyData.canLayAll0 (xs.map PyData.str)=true/\PyData.depthAll (xs.map PyData.str)<=1
 |[],_=>by simp[PyData.canLayAll0,PyData.depthAll]
 |x::r,h=>by
  have h1:=h x qy;have h2:=vR r λs hs=>h s (qw _ hs);simp[PyData.canLayAll0,PyData.canLay0,PyData.depthAll,PyData.depth,h1,h2]
theorem vS:∀ss:List (Str×Int),(∀s∈ss,PyData.strOk s.1=true)->PyData.canLayAll0 (ss.map i6)=true/\PyData.depthAll (ss.map i6)<=2
 |[],_=>by simp[PyData.canLayAll0,PyData.depthAll]
 |x::r,h=>by
  have h1:=h x qy;have h2:=vS r λs hs=>h s (qw _ hs);simp[i6,PyData.canLayAll0,PyData.canLay0,PyData.depthAll,PyData.depth,h1];exact⟨h2.1,by have:=h2.2;omega⟩
theorem Ab{D:List Str}{asks:List Str}{ss:List (Str×Int)}{ds:List a8}(hD:∀s∈D,PyData.strOk s=true)(ha:∀s∈asks,PyData.strOk s=true)(hs:∀s∈ss,PyData.strOk s.1=true)(h:cP D ds)(hd:aH ds<=12):SeqAt.shaped (iq asks ss ds)=true:=by
 have h1:=iH hD ds h;have h2:=iL ds;obtain⟨h3,h4⟩:=vR asks ha;obtain⟨h5,h6⟩:=vS ss hs;unfold SeqAt.shaped iq;simp[PyData.canLay0,PyData.canLayAll0,PyData.depth,PyData.depthAll,h1,h3,h5];omega
structure RP(H:Hp)(p:Addr)(asks:List Str)(ss:List (Str×Int))(ds:List a8)(la ls lb:Addr)(us:List V):Prop where
 top:H p=some (.tup [.ref la,.ref ls,.ref lb])
 as:H la=some (.lst (asks.map V.str))
 st:H ls=some (.lst us)
 ro:RSs H us ss
 bo:RL H lb ds
theorem RP.same{H H':Hp}{p:Addr}{asks:List Str}{ss:List (Str×Int)}{ds:List a8}{la ls lb:Addr}{us:List V}(e:aa H H')(h:RP H p asks ss ds la ls lb us):RP H' p asks ss ds la ls lb us:=
 ⟨e _ _ h.top,e _ _ h.as,e _ _ h.st,h.ro.same e,RL.same e h.bo⟩
theorem RP.dt3{K:W.Frag}{H:Hp}{p:Addr}{asks:List Str}{ss:List (Str×Int)}{ds:List a8}{la ls lb:Addr}{us:List V}(h:RP H p asks ss ds la ls lb us):e6 K H [.ref la,.ref ls,.ref lb] [.list (asks.map PyData.str),.list (ss.map i6),.list (dP ds)]:=
 .cons (.lst (SqL.of h.as) (sk _)) (.cons (.lst (SqL.of h.st) h.ro.dt) (.cons (RL.dt h.bo) .nil))
theorem RP.dt{K:W.Frag}{H:Hp}{p:Addr}{asks:List Str}{ss:List (Str×Int)}{ds:List a8}{la ls lb:Addr}{us:List V}(h:RP H p asks ss ds la ls lb us):Dt K H (.ref p) (iq asks ss ds):=.tup (SqT.of h.top) h.dt3
noncomputable def eV(asks:List Str)(ss:List (Str×Int))(ds:List a8):List Str:=asks++cards ds++[(">":Str)]++ss.flatMap λs=>[s.1++(">":Str),s.1++("<":Str)]
noncomputable def fF(ws:List Str)(t:Int):Nat->List Str
 |0=>[]
 |i+1=>fF ws t i++(if aE t ((i:Int)+10) % 2=1 then[ws.getD i (">":Str)]else[])
theorem pU(ws:List Str)(t:Int):∀i,(fF ws t i).length<=i
 |0=>qi _
 |i+1=>by
  have:=pU ws t i;rw[fF];split<;>simp<;>omega
theorem xr{ws:List Str}{t:Int}:∀{i:Nat},i<=ws.length->∀x∈fF ws t i,x∈ws
 |0,_,x,h=>by simp[fF]at h
 |i+1,hi,x,h=>by
  rw[fF,qp]at h;rcases h with h|h
  .exact xr Yo x h
  .split at h
   .rw[Q4]at h;subst h;rw[qv,qg Yo];exact List.getElem_mem _
   .simp at h
theorem BL{ws rs:List Str}{asks:List Str}{ss:List (Str×Int)}{ds:List a8}(ha:∀x∈asks,x∈ws)(hs:∀s∈ss,s.1∈rs)(hd:∀x∈cards ds,x∈bg ws rs):∀x∈eV asks ss ds,x∈bg ws rs:=λx hx=>by
 unfold eV at hx;simp only[qp,List.mem_flatMap]at hx;rcases hx with((hx|hx)|hx)|⟨s,hs',hx⟩
 .unfold bg;simp only[qp];exact .inl (.inl (.inl (ha x hx)))
 .exact hd x hx
 .unfold bg;simp only[qp];exact .inr hx
 .simp only[qF,Q0,or_false]at hx;unfold bg;simp only[qp,List.mem_map];rcases hx with rfl|rfl
  .exact .inl (.inl (.inr ⟨_,hs s hs',U⟩))
  .exact .inl (.inr ⟨_,hs s hs',U⟩)
theorem xq{ws:List Str}{i:Nat}(h:i<ws.length):atI (ws.map V.str) (i:Int)=some (.str (ws.getD i (">":Str))):=
 cy (by rw[qO,qv,qg h];rfl)
end Tr
namespace L2
open PySem
section
variable {P:Program}{w:World}{A:Around}{E:Yq}{s:Shared}
theorem jO{es:Array (Int×Value)}{t:SetTable}{ys:List Str}(T:aT P w es t ys){e:Int×Value}(he:e∈es.toList):∃k tk,e=(hashStr w k,.str k tk)/\k∈ys:=by
 obtain⟨⟨k,hk,hh⟩,_⟩:=T.el e he;obtain⟨tk,e2⟩:=Value.isStrOf_shape hk;refine⟨k,tk,Prod.ext hh e2,(T.mem k).mp (List.mem_map.mpr ⟨e,he,kY hk⟩)⟩
theorem ux{sets:List Addr}{Q:Bool->Shared->Prop}(h:∀b∈sets,∃es ep t ys,s.heap.get? b=some (aL es ep t)/\aT P w es t ys)(q:Q true s):wpAny (model P w) A (setsQuiet sets) Q E s:=by
 unfold setsQuiet;refine qb (wpAny_forIn_list _ (λrest b s'=>b.1=none/\s=s'/\∀x∈rest,x∈sets) _ ?_ ?_ sets _ ⟨U,U,λ_ h=>h⟩)
 .rintro x rest b s' ⟨hb,rfl,hm⟩;obtain⟨es,ep,t,ys,ho,T⟩:=h x (hm x qy);refine qb (fY ho T.fit ?_);refine qb (PySem.wpAny_forIn_array' _ (λrest b s'=>b.1=none/\s=s'/\∀e∈rest,e∈es.toList) _ ?_ ?_ es _ ⟨U,U,λ_ h=>h⟩)
  .rintro e rest2 b2 s2 ⟨hb2,rfl,hm2⟩;obtain⟨k,tk,rfl,_⟩:=jO T (hm2 e qy);refine qh ⟨U,U,λz hz=>hm2 z (qw _ hz)⟩
  .rintro⟨b1,b2⟩ s2 ⟨hb2,rfl,_⟩;dsimp only at hb2;subst hb2;refine qh ⟨U,U,λz hz=>hm z (qw _ hz)⟩
 .rintro⟨b1,b2⟩ s2 ⟨hb2,rfl,_⟩;dsimp only at hb2;subst hb2;exact qh q
theorem rH{a:Addr}{es:Array (Int×Value)}{ep:Nat}{t:SetTable}{ys:List Str}{Q:Array (Int×Value)->Shared->Prop}(hs:s.heap.get? a=some (aL es ep t))(T:aT P w es t ys)
 (h:∀arr d,arr.toList.Perm es.toList->Q arr { s with drawn:=d }):wpAny (model P w) A (setWalk a) Q E s:=by
 unfold setWalk;refine qb (Q8 hs U T.fit ?_);dsimp only;refine qb (fU ?_);by_cases hb:w.params.followText "set-order"=true
 .rw[Qc hb];exact qb (wpAny_askSetting (qh (h _ s.drawn (uO _ es))))
 .rw[Qb hb];show wpAny _ _ (if(!t.plain && decide (es.size > 1))=true then _ else _) _ _ _;split
  .refine qb (pG es.size es.toList s _ (by simp) λzs d hp=>qh ?_);exact h _ d (by simpa using hp)
  .have hl:t.led=true:=by rw[T.led];simpa using hb
   show wpAny _ _ ((if(!t.led && decide (es.size > 1))=true then _ else _) >>= _) _ _ _;rw[hl];refine qb ?_;simp only[Bool.not_true,Bool.false_and,Qu,if_false];exact qh (qh (h es s.drawn (.refl _)))
end
section
variable {P:Program}{w:World}{A:Around}{E:Yq}{s:Shared}
theorem Ae:entryFor table "set.__sub__"=some Builtin.«frozenset.__sub__»:=entryFor_alias (id':="frozenset.__sub__") (by kernel_rfl) U Yd (by kernel_rfl)
theorem yv{t:SetTable}{l p:Bool}(T:aT P w #[] t [])(hl:l=t.led):aT P w #[] { t with led:=l,plain:=p } []:=
 ⟨T.el,T.nd,T.mem,T.few,T.fit,hl.trans T.led,λz=>Qf z (Qm 0)⟩
theorem yd{a o r:Addr}{es es2:Array (Int×Value)}{ep ep2 er:Nat}{t t2 tr:SetTable}{ys zs:List Str}{Q:Array (Int×Value)->Shared->Prop}(hs:s.heap.get? a=some (aL es ep t))(T:aT P w es t ys)
 (ho:s.heap.get? o=some (aL es2 ep2 t2)) (T2:aT P w es2 t2 zs) (hr:s.heap.get? r=some (aL #[] er tr)) (Tr:aT P w #[] tr [])
 (h:∀arr h' d er' tr',arr.toList.Perm es.toList->Heap.SameBut r s.heap h'->h'.get? r=some (aL #[] er' tr')->aT P w #[] tr' []->Q arr { s with heap:=h',drawn:=d }):wpAny (model P w) A (setWalkUnseen a [o,r] (some r)) Q E s:=by
 have old:∀arr d,arr.toList.Perm es.toList->Q arr { s with drawn:=d }:=λarr d hp=>h arr s.heap d er tr hp (Heap.SameBut.refl r s.heap) hr Tr;unfold setWalkUnseen;refine qb (Q8 hs U T.fit ?_);dsimp only;refine qb (fU ?_);split
 .exact rH hs T old
 .refine qb (ux (λb hb=>?_) ?_)
  .simp only[qF,Q0,or_false]at hb;rcases hb with rfl|rfl|rfl
   .exact⟨_,_,_,_,hs,T⟩
   .exact⟨_,_,_,_,ho,T2⟩
   .exact⟨_,_,_,_,hr,Tr⟩
  .simp only[Bool.not_true,Qu,if_false];refine qb (wpAny_rule ?_);refine qb (Q8 hr U Tr.fit ?_);dsimp only;split
   .refine qb (wpAny_storeSet_of hr U ?_ Yk);refine qh (h es _ s.drawn _ _ (.refl _) (Heap.SameBut.update _ r _) (gC (s:=s) hr) (yv Tr ?_));rw[Tr.led,T.led];simp
   .exact qh (old es s.drawn (.refl _))
theorem EY{o:Addr}{es:Array (Int×Value)}{ep:Nat}{t:SetTable}{zs:List Str}{k:Str}{tk:Tok}{Q:Option Nat->Shared->Prop}(ho:s.heap.get? o=some (aL es ep t))(T:aT P w es t zs)
 (h:∀r:Option Nat,r.isSome=decide (k∈zs)->Q r s):wpAny (model P w) A (setFind o (.str k tk) (hashStr w k)) Q E s:=by
 refine wpAny_setFind_of (knd:=strKind P w) (k:=k) (S:=λk=>decide (k∈zs)) (n:=es.size) (by show Value.isStrOf k (.str k tk)=true;simp[Value.isStrOf]) U ⟨_,es,ep,t,ho,?_,U,T.el,λk'=>?_,T.few,T.fit,U⟩ h
 .exact⟨U,U,U⟩
 .rw[decide_eq_true_iff,<- T.mem,List.mem_map];constructor
  .rintro⟨e,he,rfl⟩;obtain⟨k,tk,rfl,_⟩:=jO T he;exact⟨_,he,by show Value.isStrOf k (.str k tk)=true;simp[Value.isStrOf]⟩
  .rintro⟨e,he,hk⟩;exact⟨e,he,kY hk⟩
theorem iO{v:Value}{Q:Bool->Shared->Prop}(ty:s.TypeIs v "set")(h:Q true s):wpAny (model P w) A (Builtin.Frozenset.isAnySet v) Q E s:=by
 unfold Builtin.Frozenset.isAnySet;exact qb (wpAny_isInstance (b:=true) ty j0 (qh h))
set_option maxHeartbeats 3200000 in
theorem ze{a o:Addr}{es es2:Array (Int×Value)}{ep ep2:Nat}{t t2:SetTable}{ys zs:List Str}{Q:Yq}(hs:s.heap.get? a=some (aL es ep t))(T:aT P w es t ys)
 (ho:s.heap.get? o=some (aL es2 ep2 t2)) (T2:aT P w es2 t2 zs) (few:es.size<4)
 (h:∀h' d es' ep' t',h'.get? s.heap.objs.size=some (aL es' ep' t')->aT P w es' t' (ys.filter λk=>!decide (k∈zs))->
  (∀b ob,s.heap.get? b=some ob->h'.get? b=some ob)->Q (.ref s.heap.objs.size) { s with heap:=h',drawn:=d }):wpAny (model P w) A (binaryOp .Sub (.ref a) (.ref o)) Q E s:=by
 have ta:s.TypeIs (.ref a) "set":=⟨_,hs,U⟩;have to:s.TypeIs (.ref o) "set":=⟨_,ho,U⟩;have k1:=j0;refine wpAny_binaryOp_same (op:=.Sub) (T:="set") ta to F.fills_set_sub F.slot_set_sub (Qt F.slot_set_sub ta Ae ?_ (F.args_set_sub_2 _ _));unfold Builtin.«frozenset.__sub__»;refine qb (m:=Builtin.Frozenset.slot1 "__sub__" ⟨[.ref a,.ref o],[]⟩) (qh ?_);dsimp only;simp only[Qu,if_false];refine qb (qb (iO ta (iO to ?_)));simp only[Bool.not_true,Qu,if_false];refine qb (qh ?_);refine qb ?_;unfold Builtin.Frozenset.difference;refine qb (iO to ?_);simp only[Bool.not_true,Qu,if_false];refine qb (qh ?_);simp only[Bool.false_and,Qu,if_false,if_true];unfold Builtin.Frozenset.sizeOf;refine qb (qb (fY ho T2.fit (qh ?_)));refine qb (qb (fY hs T.fit (qh ?_)));rw[Qb Yo];unfold Builtin.Frozenset.baseOf;refine qb (qb (wpAny_isInstance (b:=true) ta j0 (qh ?_)));simp only[if_true];refine qb ?_;unfold newSet;refine qb (fU ?_);dsimp only;refine wpAny_newObj_type ?_;refine qb (qh ?_);have ga:∀b ob,s.heap.get? b=some ob->(s.heap.push (bT w)).get? b=some ob:=λb ob q=>qe _ q;have gr:(s.heap.push (bT w)).get? s.heap.objs.size=some (bT w):=qz _ U;have na:∀b ob,s.heap.get? b=some ob->b≠s.heap.objs.size:=λb ob q=>qQ (qA q);refine qb (wpAny_setEpoch_of (s:={ s with heap:=s.heap.push (bT w) }) (ga _ _ hs) U T.fit ?_);refine qb (QG ?_);refine qb (yd (s:={ s with heap:=s.heap.push (bT w) }) (ga _ _ hs) T (ga _ _ ho) T2 gr jR λarr h1 d er tr hp sb hr Tr=>?_);refine qb (PySem.wpAny_forIn_array' _ (λrest _ s'=>∃h2 es' ep' t' past,past++rest=arr.toList/\s'={ s with heap:=h2,drawn:=d }/\Heap.SameBut s.heap.objs.size (s.heap.push (bT w)) h2/\h2.get? s.heap.objs.size=some (aL es' ep' t')/\aT P w es' t' ((past.map λe:Int×Value=>txt e.2).filter λk=>!decide (k∈zs))/\es'.size<=past.length) _ ?_ ?_ arr _ ⟨h1,#[],er,tr,[],U,U,sb,hr,Tr,qi _⟩)
 .rintro x rest b s' ⟨h2,es',ep',t',past,hpa,rfl,sb2,hr2,Tr2,hle⟩;have xm:x∈es.toList:=hp.mem_iff.mp (by rw[<- hpa];simp);obtain⟨k,tk,rfl,_⟩:=jO T xm
  have pl:past.length+(rest.length+1)=es.size:=by
   have:=congrArg List.length hpa;rw[hp.length_eq]at this;simpa using this
  have get2:∀b ob,s.heap.get? b=some ob->h2.get? b=some ob:=λb ob q=>by
   rw[sb2.2 _ (na b ob q)];exact ga b ob q
  refine qb (QG ?_);refine qb (EY (s:={ s with heap:=h2,drawn:=d }) (get2 _ _ ho) T2 λr hr=>?_);refine qb (qh ?_);rw[hr]
  have fin:∀h3 es3 ep3 t3,Heap.SameBut s.heap.objs.size (s.heap.push (bT w)) h3->h3.get? s.heap.objs.size=some (aL es3 ep3 t3)->aT P w es3 t3 (((past++[(hashStr w k,Value.str k tk)]).map λe:Int×Value=>txt e.2).filter λk=>!decide (k∈zs))->es3.size<=past.length+1->
   wpAny (model P w) A.in1 (do
    Builtin.Frozenset.unchanged (toString "frozenset."++toString "__sub__") a ep
    pure (ForInStep.yield PUnit.unit)) (λr s'=>match r with
     |.yield b'=>∃h2 es' ep' t' past,past++rest=arr.toList/\s'={ s with heap:=h2,drawn:=d }/\Heap.SameBut s.heap.objs.size (s.heap.push (bT w)) h2/\h2.get? s.heap.objs.size=some (aL es' ep' t')/\aT P w es' t' ((past.map λe:Int×Value=>txt e.2).filter λk=>!decide (k∈zs))/\es'.size<=past.length
     |.done b'=>False) E { s with heap:=h3,drawn:=d }:=λh3 es3 ep3 t3 sb3 hr3 Tr3 hle3=>by
   unfold Builtin.Frozenset.unchanged;have g3:h3.get? a=some (aL es ep t):=by rw[sb3.2 _ (na _ _ hs)];exact ga _ _ hs
   refine qb (qb (wpAny_setEpoch_of (s:={ s with heap:=h3,drawn:=d }) g3 U T.fit ?_));simp only[bne_self_eq_false,Qu,if_false];refine qh (qh ⟨h3,es3,ep3,t3,past++[(hashStr w k,Value.str k tk)],by rw[<- hpa];simp,U,sb3,hr3,Tr3,by simpa using hle3⟩)
  by_cases hk:k∈zs
  .rw[Qd hk];simp only[Bool.not_true,Qu,if_false];refine qh (wpAny_mono (fin h2 es' ep' t' sb2 hr2 ?_ Yo) (λr s' hr=>?_) λ_ _ h=>h)
   .rw[qY,QD];have:([(hashStr w k,Value.str k tk)].map λe:Int×Value=>txt e.2).filter (λk=>!decide (k∈zs))=[]:=by simp[txt,hk]
    rw[this,qI];exact Tr2
   .cases r with
    |done _=>exact hr.elim
    |yield _=>exact hr
  .rw[Qe hk];simp only[Bool.not_false,if_true];refine qb (pY (s:={ s with heap:=h2,drawn:=d }) hr2 Tr2 (by unfold scanBound;omega) λb h3 es3 ep3 t3 sb3 hr3 Tr3 le3=>qh ?_);refine wpAny_mono (fin h3 es3 ep3 t3 (sb2.trans sb3) hr3 ?_ Yo) (λr s' hr=>?_) λ_ _ h=>h
   .rw[qY,QD];have:([(hashStr w k,Value.str k tk)].map λe:Int×Value=>txt e.2).filter (λk=>!decide (k∈zs))=[k]:=by simp[txt,hk]
    rw[this];exact Tr3
   .cases r with
    |done _=>exact hr.elim
    |yield _=>exact hr
 .rintro b s' ⟨h2,es',ep',t',past,hpa,rfl,sb2,hr2,Tr2,hle⟩;rw[qI]at hpa;subst hpa;refine qh (qh (qh ⟨_,U,(λz=>by cases z),h h2 d es' ep' t' hr2 ⟨Tr2.el,Tr2.nd,λk=>?_,Tr2.few,Tr2.fit,Tr2.led,Tr2.pl⟩ λb ob q=>?_⟩))
  .rw[Tr2.mem k,List.mem_filter,List.mem_filter,<- T.mem k];exact and_congr_left' ((hp.map λe:Int×Value=>txt e.2).mem_iff)
  .rw[sb2.2 _ (na b ob q)];exact ga b ob q
end
end L2
namespace L2
open PySem PySem.Spec PyProof.Rows
section
variable {X:Cx}
def Bd(P:Program)(w:World):R2:=λx y H Q=>∃(a o:Addr)(ys zs:List Str),x=.ref a/\y=.ref o/\H a=some (bL P w a ys)/\H o=some (bL P w o zs)/\ys.length<4/\∀p,H p=none->Q (.ref p) (upd H p (bL P w p (ys.filter λk=>!decide (k∈zs))))
theorem Cj:OpR X (binaryOp .Sub) (Bd X.prog X.w):=by
 intro pins s Y H x y v u Q I rx ry h;obtain⟨a,o,ys,zs,rfl,rfl,hA,hO,hz,q⟩:=h;cases rx;cases ry;obtain⟨⟨es,ep,t,e1,T1⟩,_,_⟩:=I.hok a _ hA;obtain⟨⟨es2,ep2,t2,e2,T2⟩,_,_⟩:=I.hok o _ hO
 have few:es.size<4:=by
  have:=fD T1.nd λx hx=>(T1.mem x).mp hx;rw[qc,qW]at this;omega
 refine ze e1 T1 e2 T2 few λh' d es' ep' t' g T' old=>?_;have J:=I.laid (t':=s.toks) (h':=h') (a:=s.heap.objs.size) (o:=bL X.prog X.w s.heap.objs.size (ys.filter λk=>!decide (k∈zs))) old (qi _) (bL.ok g T');exact⟨.ref s.heap.objs.size,_,Inv.redrawn (s:=s) J U U,U,q _ (I.hok.fresh (qi _))⟩
end
section
variable {X:Cx}
theorem FJ(hc:X.calm=true):cJ X (.builtin "sorted") (λxs H Q=>∃(p:Addr)(ys:List Str),xs=[.ref p]/\SqL X.K H p (ys.map V.str)/\ys.length<64 /\
 ∀l zs,H l=none->zs.Perm ys->sortedS zs=true->Q (.ref l) (upd H l (.lst (zs.map V.str)))):=by
 intro pins s Y H xs us Q I r h;obtain⟨p,ys,rfl,hq,hz,q⟩:=h;obtain⟨u,rfl,rx⟩:=fH r;cases rx;obtain⟨its,r',pl,_⟩:=I.list hq;have hlen:=r'.length;rw[qc]at hlen;refine sorted_strs (vs:=its) pl.isList (lJ r') Yo λout zs hS hp so=>?_;obtain⟨n,at1⟩:=sortedAll_at s.heap its out;have lz:zs.length<=sizeLine:=by rw[hp.length_eq];exact qJ (Nat.le_of_lt hz) Yk
 have J:=I.laid (t':=s.toks) (h':=sortedAll s.heap its out) (a:=s.heap.objs.size+1) (o:=.lst (zs.map V.str)) (λb o q=>sortedAll_old q) (Nat.le_succ _) ⟨by rw[qc];exact lz,out.toList,n,oK hS,at1⟩;exact⟨.ref (s.heap.objs.size+1),_,J,U,q _ zs (I.hok.fresh (Nat.le_succ _)) hp so⟩
end
noncomputable def Ite(K:W.Frag)(l:Addr):It:=
 ⟨λi H=>∃xs x,SqL K H l xs/\xs[i]?=some x,
  λi H v H'=>∃p x,H p=none/\v=.ref p/\H'=upd H p (.tup [.int i,x])/\∀xs,SqL K H l xs->xs[i]?=some x,
  λi H=>∃xs,SqL K H l xs/\xs.length<=i⟩
theorem yr{P:Program}{w:World}{K:W.Frag}{elts:List Expr}{kk:Nat}{tp:Pos}(e it l:Addr)(ne:e≠it):
 gZ P w K (.Tuple elts kk tp) (Ite K l) [e,it] e (λi h=>(∃old,IsEnum h e it i old)/\h.IsListIter it l i) where
 mem:=by simp
 obj:=λi h st b hb=>by
  obtain⟨⟨old,he⟩,o,eo,c,d⟩:=st;simp only[qF,Q0,or_false]at hb;rcases hb with rfl|rfl
  .exact⟨_,he,λv q=>by cases q⟩
  .exact⟨o,eo,λv q=>by rw[d]at q;cases q⟩
 keep:=λi h h' st k=>by
  obtain⟨⟨old,he⟩,o,eo,r⟩:=st;exact⟨⟨old,k e (by simp) _ he⟩,o,k it (by simp) o eo,r⟩
 item:=by
  intro X hP hw hK hc i pins s Y H E I hf st hg;subst hP hw hK;obtain⟨⟨old,he⟩,hit⟩:=st;obtain⟨xs,x,hx,ex⟩:=hg;obtain⟨its,rv,pl,z1⟩:=I.list hx;obtain⟨u,hu,ru⟩:=rv.get ex;refine wpAny_pyNext_enum_item he hit pl.isList (x:=u) (by simpa using hu) ne λg a1 a2 a3 a4 a5=>⟨_,U,?_⟩;refine wpAny_letOwnedTupleGo_enum a1 λg' a1' sb=>?_
  have hT:∀b∈[e,it],s.heap.objs.size≠b:=λb hb=>by
   simp only[qF,Q0,or_false]at hb;rcases hb with rfl|rfl
   .exact Nat.ne_of_gt (qA he)
   .obtain⟨o,eo,_⟩:=hit;exact Nat.ne_of_gt (qA eo)
  have ky:∀b o,b∉[e,it]->s.heap.get? b=some o->g'.get? b=some o:=λb o hb q=>by
   simp only[qF,Q0,or_false,not_or]at hb;exact sb.extBut _ _ hb.1 (a5 b o hb.1 hb.2 q)
  have I1:Inv X pins Y H { s with heap:=g',toks:=s.toks+1 }:=I.turnedL (t':=s.toks+1) ky hf;have pT:=sb.extBut _ _ (hT e (by simp)) a3;have fT:cG X pins H s.heap.objs.size:=I.fpOk (qi _) (I.hok.fresh (qi _));have I2:Inv X pins Y (upd H s.heap.objs.size (.tup [.int i,x])) { s with heap:=g',toks:=s.toks+1 }:=I1.track fT I.sz ⟨by show 2<=sizeLine;decide,[.int i s.toks,u],.cons ⟨_,U⟩ (.cons ru .nil),⟨_,pT,U,_,U⟩⟩;refine⟨.ref s.heap.objs.size,_,I2,U,⟨_,x,I.hok.fresh (qi _),U,U,λxs' h=>by rw[I.list_inj h hx];exact ex⟩,⟨⟨u,a1'⟩,?_⟩,λb hb=>?_⟩
  .obtain⟨o,eo,r⟩:=a2;exact⟨o,sb.extBut _ _ (Ne.symm ne) eo,r⟩
  .rw[ae (Ne.symm (hT b hb))];exact(hf b hb).1
 done:=by
  intro X hP hw hK hc i pins s Y H E I hf st hg;subst hP hw hK;obtain⟨⟨old,he⟩,hit⟩:=st;obtain⟨xs,hx,hend⟩:=hg;obtain⟨its,rv,pl,z1⟩:=I.list hx;have e1:=rv.length;refine wpAny_pyNext_enum_end (I.ok.hd hc) he hit pl.isList (by simp;omega) λg k=>⟨U,I.turnedL (t':=s.toks) (ch:=[e,it]) (λb o hb q=>?_) hf⟩;simp only[qF,Q0,or_false,not_or]at hb;exact k b o hb.2 q
 self:=λ_ _ _ _ _ st h=>by
  obtain⟨⟨old,he⟩,_⟩:=st;exact wpAny_pyIter_enum he h
section
variable {X:Cx}
def ED(K:W.Frag)(ta:TA):TI:=λY H R=>ta Y H λvs H1=>∃l xs,vs=[.ref l]/\SqL K H1 l xs/\R (Ite K l) H1
theorem BY{a:Expr}{ta:TA}{p pos tp:Pos}{elts:List Expr}{kk:Nat}(hg:Gl X "enumerate")(hm:X.mg "enumerate"=none)(ha:PA X [a] ta)(hs:starEach [a] X.env=[(false,eval a X.env)]:=by rfl):
 PI X (.Tuple elts kk tp) (.Call (.Name "enumerate" p) [a] [] pos) (ED X.K ta):=by
 intro pins s Y H R I h;refine Call_ (fk I hg hm PyProof.Rows.Boot.«enumerate» (PyProof.Rows.callWith_type1 (thn (ha pos pins s Y H _ I h) λus s1 ⟨vs,H1,I1,r1,q1⟩=>?_) (by rw[hs];rfl) (by rfl)));obtain⟨l,xs,rfl,hx,q⟩:=q1;obtain⟨u,rfl,ru⟩:=fH r1;cases ru;obtain⟨its,rv,pl,z1⟩:=I1.list hx;refine call_enumerate_list pl.isList λg a1 a2 a3 k=>?_;refine wpAny_pyIter_enum a1 ⟨s1.heap.objs.size+1,[s1.heap.objs.size+1,s1.heap.objs.size],_,_,H1,U,I1.kept (t':=s1.toks) k,yr _ _ l (Nat.succ_ne_self _),⟨⟨_,a1⟩,a2⟩,λb hb=>?_,q⟩;simp only[qF,Q0,or_false]at hb;rcases hb with rfl|rfl
 .exact I1.fpOk (Nat.le_succ _) (I1.hok.fresh (Nat.le_succ _))
 .exact I1.fpOk (qi _) (I1.hok.fresh (qi _))
end
theorem ES{K:W.Frag}{l:Addr}{xs:List V}{g:TG}{tb:TS}{D:fG}{Y:St}{H:Hp}(Pv:Nat->St->Hp->Prop)(h0:Pv 0 Y H)(hl:∀i Y H,Pv i Y H->SqL K H l xs)
 (hs:∀i x Y H p,xs[i]?=some x->Pv i Y H->H p=none->g (.ref p) Y (upd H p (.tup [.int i,x])) λY2 H2=>tb { D with nx:=Pv (i+1),ct:=Pv (i+1),bk:=D.nx } Y2 H2)
 (hd:∀Y H,Pv xs.length Y H->D.nx Y H):
 ∃W:Nat->Nat->St->Hp->Prop,(∃m,W 0 m Y H)/\∀i m Y H,W i m Y H->
  ((Ite K l).stop i H/\D.nx Y H)\/((Ite K l).go i H/\∃N:St->Hp->Prop,(∀Y' H',N Y' H'->∃m',m'<m/\W (i+1) m' Y' H')/\∀x H',(Ite K l).yld i H x H'->g x Y H' λY2 H2=>tb { D with nx:=N,ct:=N,bk:=D.nx } Y2 H2):=by
 refine⟨λi m Y H=>m=xs.length-i/\i<=xs.length/\Pv i Y H,⟨_,U,qD _,h0⟩,?_⟩;rintro i m Y H ⟨rfl,hi,p⟩;have q:=hl i Y H p;by_cases lt:i<xs.length
 .refine .inr ⟨⟨xs,xs[i],q,by simp[lt]⟩,Pv (i+1),λY' H' p'=>⟨_,Yo,U,lt,p'⟩,λv H' y=>?_⟩;obtain⟨a,x,hn,rfl,rfl,e1⟩:=y;exact hs i x Y H a (e1 xs q) p hn
 .obtain rfl:i=xs.length:=by omega
  exact .inl ⟨⟨xs,q,qi _⟩,hd Y H p⟩
end L2
namespace L2
theorem bG.one{n:Nat}{A:PySem.Around}(h:bG n A):A.units+1<PySem.cLine:=by
 have:=h.units;omega
end L2
namespace Tr
open PySem PySem.Spec PyProof.Rows L2
theorem tV:∀{a b:List Str},a.Perm b->sortedS a=true->sortedS b=true->a=b
 |[],b,h,_,_=>(List.nil_perm.mp h).symm
 |x::r,[],h,_,_=>Qf h.length_eq (by simp)
 |x::r,y::s,h,sa,sb=>by
  have e:x=y:=by
   rcases qF.mp (h.mem_iff.mp (qy (a:=x)))with e|hx
   .exact e
   rcases qF.mp (h.mem_iff.mpr (qy (a:=y)))with e|hy
   .exact e.symm
   exact sv (List.le_antisymm (j9 r x sa y hy) (j9 s y sb x hx))
  subst e;rw[tV ((List.perm_cons x).mp h) (ku sa) (ku sb)]
noncomputable def srt(l:List Str):List Str:=by
 classical
 exact if h:∃zs:List Str,zs.Nodup/\(∀k,k∈zs↔k∈l)/\sortedS zs=true then Classical.choose h else[]
theorem jX{l zs:List Str}(nd:zs.Nodup)(hm:∀k,k∈zs↔k∈l)(so:sortedS zs=true):zs=srt l:=by
 have h:∃zs:List Str,zs.Nodup/\(∀k,k∈zs↔k∈l)/\sortedS zs=true:=⟨zs,nd,hm,so⟩;unfold srt;rw[dif_pos h];obtain⟨a,b,c⟩:=Classical.choose_spec h;exact tW nd a so c λk=>(hm k).trans (b k).symm
noncomputable def jY(l:List Str):List Str:=by
 classical
 exact if h:∃zs:List Str,zs.Perm l/\sortedS zs=true then Classical.choose h else[]
theorem zw{l zs:List Str}(hp:zs.Perm l)(so:sortedS zs=true):zs=jY l:=by
 have h:∃zs:List Str,zs.Perm l/\sortedS zs=true:=⟨zs,hp,so⟩;unfold jY;rw[dif_pos h];obtain⟨a,b⟩:=Classical.choose_spec h;exact tV (hp.trans a.symm) so b
structure Row where
 kind:Str
 owns:List Str
 reads:List Str
 into:Option Str
 outof:Option Str
noncomputable def iB:Option Str->V
 |none=>.non
 |some q=>.str q
def cR(H:Hp)(v:V)(r:Row):Prop:=∃p po pr,v=.ref p/\H p=some (.tup [.str r.kind,.ref po,.ref pr,iB r.into,iB r.outof])/\H po=some (.tup (r.owns.map V.str))/\H pr=some (.tup (r.reads.map V.str))
theorem cR.same{H H':Hp}{v:V}{r:Row}(e:aa H H')(h:cR H v r):cR H' v r:=by
 obtain⟨p,po,pr,rfl,h1,h2,h3⟩:=h;exact⟨p,po,pr,U,e _ _ h1,e _ _ h2,e _ _ h3⟩
inductive bh(H:Hp):List V->List Row->Prop
 |nil:bh H [] []
 |cons {v:V}{vs:List V}{r:Row}{rs:List Row}:cR H v r->bh H vs rs->bh H (v::vs) (r::rs)
theorem bh.same{H H':Hp}(e:aa H H'):∀{vs:List V}{rs:List Row},bh H vs rs->bh H' vs rs
 |_,_,.nil=>.nil
 |_,_,.cons h r=>.cons (h.same e) (bh.same e r)
theorem bh.snoc{H:Hp}{v:V}{r:Row}(h:cR H v r):∀{vs:List V}{rs:List Row},bh H vs rs->bh H (vs++[v]) (rs++[r])
 |_,_,.nil=>.cons h .nil
 |_,_,.cons h' t=>.cons h' (bh.snoc h t)
theorem bh.len{H:Hp}:∀{vs:List V}{rs:List Row},bh H vs rs->vs.length=rs.length
 |_,_,.nil=>rfl
 |_,_,.cons _ t=>congrArg (·+1) (bh.len t)
theorem bh.at{H:Hp}:∀{vs:List V}{rs:List Row},bh H vs rs->∀(i:Nat)(v:V),vs[i]?=some v->∃r,rs[i]?=some r/\cR H v r
 |_,_,.nil,i,v,h=>by simp at h
 |_,_,.cons (r:=r) h' t,0,v,h=>by
  simp at h;subst h;exact⟨r,U,h'⟩
 |_,_,.cons h' t,i+1,v,h=>bh.at t i v (by simpa using h)
noncomputable def bu:a8->Row
 |.set x a sg b=>⟨"set",[x],srt ((a.names++b.names).filter λy=>!decide (y=x)),none,none⟩
 |.put q x=>⟨"put",[q++(">":Str)],[x],some q,none⟩
 |.get q x=>⟨"get",jY [x,q++("<":Str)],[],none,some q⟩
 |.give x=>⟨"give",[(">":Str)],[x],none,none⟩
 |.cond x t o=>⟨"if",srt (cards [.cond x t o]),[],none,none⟩
 |.whl x b=>⟨"while",srt (cards [.whl x b]),[],none,none⟩
 |.rep n b=>⟨"repeat",srt (cards [.rep n b]),[],none,none⟩
theorem cR.new{H:Hp}{p po pr:Addr}{r:Row}(h1:H po=some (.tup (r.owns.map V.str)))(h2:H pr=some (.tup (r.reads.map V.str)))(hp:H p=none):cR (upd H p (.tup [.str r.kind,.ref po,.ref pr,iB r.into,iB r.outof])) (.ref p) r:=
 ⟨p,po,pr,U,ag,aa.new hp _ _ _ h1,aa.new hp _ _ _ h2⟩
noncomputable def bal(rs:List Row)(q:Str):Int:=((rs.filter λr=>decide (r.into=some q)).length:Int)-((rs.filter λr=>decide (r.outof=some q)).length:Int)
theorem jA(rs:List Row)(r:Row)(q:Str):bal (rs++[r]) q=bal rs q+(if r.into=some q then 1 else 0)-(if r.outof=some q then 1 else 0):=by
 unfold bal;rw[QD,QD,qf,qf];by_cases h1:r.into=some q<;>by_cases h2:r.outof=some q<;>simp[h1,h2]<;>omega
def Fed(rs:List Row):Prop:=∀i r q,rs[i]?=some r->r.outof=some q->0<bal (rs.take i) q
def lB(r:Row):Prop:=r.into=none\/r.outof=none
def xw(kvs:List (Key×V))(rs:List Row):Prop:=∀q:Str,(bn kvs (.inr q)).getD (.int 0)=.int (bal rs q)
def rm(ds:List a8):Prop:=∀d∈ds,∀n b,d≠.rep n b
noncomputable def iK(asks:List Str)(ss:List (Str×Int))(ds:List a8):Row:=⟨"end",srt (eV asks ss ds),[],none,none⟩
theorem AX(d:a8):lB (bu d):=by
 cases d<;>simp[lB,bu]
noncomputable def a8.word:a8->Str
 |.set ..=>"set"
 |.put ..=>"put"
 |.get ..=>"get"
 |.give ..=>"give"
 |.cond ..=>"if"
 |.whl ..=>"while"
 |.rep ..=>"repeat"
theorem RD.tuple{H:Hp}{v:V}{d:a8}(h:RD H v d):∃p r,v=.ref p/\H p=some (.tup (.str d.word::r)):=by
 cases h with
 |set h=>exact⟨_,_,U,h⟩
 |put h=>exact⟨_,_,U,h⟩
 |get h=>exact⟨_,_,U,h⟩
 |give h=>exact⟨_,_,U,h⟩
 |cond h _ _=>exact⟨_,_,U,h⟩
 |whl h _=>exact⟨_,_,U,h⟩
 |rep h _=>exact⟨_,_,U,h⟩
theorem cR.off{H:Hp}{c:Addr}{xs:List V}{o:HO}{v:V}{r:Row}(hc:H c=some (.lst xs))(h:cR H v r):cR (upd H c o) v r:=by
 obtain⟨p,po,pr,rfl,h1,h2,h3⟩:=h;have ne:∀b ys,H b=some (.tup ys)->b≠c:=λb ys q z=>by rw[z,hc]at q;cases q
 exact⟨p,po,pr,U,by rw[ae (ne _ _ h1)];exact h1,by rw[ae (ne _ _ h2)];exact h2,by rw[ae (ne _ _ h3)];exact h3⟩
theorem bh.off{H:Hp}{c:Addr}{xs:List V}{o:HO}(hc:H c=some (.lst xs)):∀{vs:List V}{rs:List Row},bh H vs rs->bh (upd H c o) vs rs
 |_,_,.nil=>.nil
 |_,_,.cons h r=>.cons (h.off hc) (bh.off hc r)
theorem at0{α:Type}{v:α}{r:List α}:atI (v::r) (0:Int)=some v:=cy (j:=0) U
theorem rB{d:a8}(h:∀n b,d≠.rep n b):V.str d.word≠V.str "repeat":=by
 cases d with
 |rep n b=>exact Qf U (h n b)
 |_=>exact λz=>Qf (V.str.inj z) (by simp only[a8.word];decide +kernel)
theorem wO:∀{ds:List a8}{i:Nat}{d:a8},ds[i]?=some d->d.depth<=aH ds
 |[],_,_,h=>by simp at h
 |e::r,0,d,h=>by
  simp at h;subst h;rw[aH];exact Nat.le_max_left _ _
 |e::r,i+1,d,h=>by
  have:=wO (ds:=r) (i:=i) (by simpa using h);rw[aH];omega
theorem pC{ds:List a8}{i:Nat}{d:a8}(h:ds[i]?=some d):d.flat.length<=(ai ds).length/\∀e∈d.flat,e∈ai ds:=by
 have sp:ds=ds.take i++([d]++ds.drop (i+1)):=by
  rw[<- qX,show ds.take i++[d]=ds.take (i+1)by rw[qC,h];rfl,QF]
 have e:ai ds=ai (ds.take i)++(d.flat++ai (ds.drop (i+1))):=by
  conv=>lhs;rw[sp]
  rw[f9,f9,ai,ai,qI]
 rw[e];refine⟨by simp only[qf];omega,λx hx=>by simp[hx]⟩
theorem xc{ds:List a8}{i:Nat}{d:a8}(h:ds[i]?=some d):∀q∈cards [d],q∈cards ds:=λq hq=>by
 unfold cards at *;rw[ai,ai,qI]at hq;obtain⟨e,he,hq⟩:=List.mem_flatMap.mp hq;exact List.mem_flatMap.mpr ⟨e,(pC h).2 e he,hq⟩
end Tr
namespace L2
open PySem PySem.Spec PyProof.Rows
end L2
namespace Tr
open PySem PySem.Spec PyProof.Rows L2
inductive RMs(H:Hp):List V->List (Str×Str)->Prop
 |nil:RMs H [] []
 |cons {p:Addr}{vs:List V}{m:Str×Str}{ms:List (Str×Str)}:H p=some (.tup [.str m.1,.str m.2])->RMs H vs ms->RMs H (.ref p::vs) (m::ms)
theorem RMs.same{H H':Hp}(e:aa H H'):∀{vs:List V}{ms:List (Str×Str)},RMs H vs ms->RMs H' vs ms
 |_,_,.nil=>.nil
 |_,_,.cons h r=>.cons (e _ _ h) (RMs.same e r)
theorem RMs.off{H:Hp}{c:Addr}{xs:List V}{o:HO}(hc:H c=some (.lst xs)):∀{vs:List V}{ms:List (Str×Str)},RMs H vs ms->RMs (upd H c o) vs ms
 |_,_,.nil=>.nil
 |_,_,.cons (p:=p) h r=>.cons (by rw[ae (λz=>by rw[z,hc]at h;cases h)];exact h) (RMs.off hc r)
theorem RMs.snoc{H:Hp}{p:Addr}{m:Str×Str}(h:H p=some (.tup [.str m.1,.str m.2])):∀{vs:List V}{ms:List (Str×Str)},RMs H vs ms->RMs H (vs++[.ref p]) (ms++[m])
 |_,_,.nil=>.cons h .nil
 |_,_,.cons h' r=>.cons h' (RMs.snoc h r)
theorem RMs.len{H:Hp}:∀{vs:List V}{ms:List (Str×Str)},RMs H vs ms->vs.length=ms.length
 |_,_,.nil=>rfl
 |_,_,.cons _ r=>congrArg (·+1) (RMs.len r)
theorem RMs.at{H:Hp}:∀{vs:List V}{ms:List (Str×Str)},RMs H vs ms->∀(i:Nat)(v:V),vs[i]?=some v->∃p m,v=.ref p/\ms[i]?=some m/\H p=some (.tup [.str m.1,.str m.2])
 |_,_,.nil,i,v,h=>by simp at h
 |_,_,.cons (p:=p) (m:=m) h' r,0,v,h=>by
  simp at h;exact⟨p,m,h.symm,U,h'⟩
 |_,_,.cons h' r,i+1,v,h=>RMs.at r i v (by simpa using h)
noncomputable def a8.moves:a8->List (Str×Str)
 |.put q _=>[("put",q)]
 |.get q _=>[("get",q)]
 |_=>[]
noncomputable def gF(s:Int×Int×Int)(m:Str×Str):Int:=s.1+(if m.1="put" then 1 else -1)
noncomputable def ei(q:Str)(s:Int×Int×Int)(m:Str×Str):Int×Int×Int:=
 if m.2=q then(gF s m,if gF s m<s.2.1 then gF s m else s.2.1,if gF s m > s.2.2 then gF s m else s.2.2)else s
noncomputable def bJ(q:Str)(ms:List (Str×Str)):Int×Int×Int:=ms.foldl (ei q) (0,0,0)
theorem Ba(q:Str)(ms:List (Str×Str))(m:Str×Str):bJ q (ms++[m])=ei q (bJ q ms) m:=by
 unfold bJ;rw[List.foldl_append]
 rfl
theorem uv(q:Str):∀ms:List (Str×Str),-(ms.length:Int)<=(bJ q ms).2.1/\(bJ q ms).2.1<=0/\(bJ q ms).2.1<=(bJ q ms).1/\(bJ q ms).1<=(bJ q ms).2.2/\(bJ q ms).2.2<=ms.length:=λms=>by
 have key:∀(l:List (Str×Str))(s:Int×Int×Int)(n:Nat),-(n:Int)<=s.2.1->s.2.1<=0->s.2.1<=s.1->s.1<=s.2.2->s.2.2<=n->
  -((n+l.length:Nat):Int)<=(l.foldl (ei q) s).2.1/\(l.foldl (ei q) s).2.1<=0/\(l.foldl (ei q) s).2.1<=(l.foldl (ei q) s).1/\(l.foldl (ei q) s).1<=(l.foldl (ei q) s).2.2/\(l.foldl (ei q) s).2.2<=((n+l.length:Nat):Int):=by
  intro l
  induction l with
  |nil=>
   intro s n a b c d e;exact⟨a,b,c,d,e⟩
  |cons m r ih=>
   intro s n a b c d e;rw[QK,qL]
   have h:∀t:Int×Int×Int,t=ei q s m->-((n+1:Nat):Int)<=t.2.1/\t.2.1<=0/\t.2.1<=t.1/\t.1<=t.2.2/\t.2.2<=((n+1:Nat):Int):=by
    intro t ht;subst ht;unfold ei gF;split
    .dsimp only;split<;>split<;>split<;>omega
    .omega
   obtain⟨h1,h2,h3,h4,h5⟩:=h _ U;have:=ih (ei q s m) (n+1) h1 h2 h3 h4 h5;rw[show n+1+r.length=n+(r.length+1)by omega]at this;exact this
 have:=key ms (0,0,0) 0 (by simp) (by simp) (by simp) (by simp) (by simp);rw[Nat.zero_add]at this;exact this
noncomputable def gP(q:Str)(ms:List (Str×Str)):Nat:=(-(bJ q ms).2.1).toNat
noncomputable def eC(rs names:List Str)(ms:List (Str×Str)):Nat->List a8
 |0=>[]
 |i+1=>eC rs names ms i++List.replicate (gP (rs.getD i (">":Str)) ms) (.put (rs.getD i (">":Str)) (nth names (i:Int)))
theorem vV(q:Str)(ms:List (Str×Str)):gP q ms<=ms.length:=by
 have:=uv q ms;unfold gP;omega
theorem pv(rs names:List Str)(ms:List (Str×Str)):∀i,(eC rs names ms i).length<=i * ms.length
 |0=>by simp[eC]
 |i+1=>by
  have h1:=pv rs names ms i;have h2:=vV (rs.getD i (">":Str)) ms;rw[eC,qf,List.length_replicate,Nat.succ_mul];omega
theorem wg(rs names:List Str)(ms:List (Str×Str)):∀i,rm (eC rs names ms i)
 |0=>λd h=>by simp[eC]at h
 |i+1=>λd h=>by
  rw[eC,qp]at h;rcases h with h|h
  .exact wg rs names ms i d h
  .rw[(List.mem_replicate.mp h).2];intro n b z;cases z
inductive RPs(H:Hp):List V->List (Str×Str)->Prop
 |nil:RPs H [] []
 |cons {p:Addr}{vs:List V}{m:Str×Str}{ms:List (Str×Str)}:H p=some (.tup [.str "put",.str m.1,.str m.2])->RPs H vs ms->RPs H (.ref p::vs) (m::ms)
theorem RPs.same{H H':Hp}(e:aa H H'):∀{vs:List V}{ms:List (Str×Str)},RPs H vs ms->RPs H' vs ms
 |_,_,.nil=>.nil
 |_,_,.cons h r=>.cons (e _ _ h) (RPs.same e r)
theorem RPs.off{H:Hp}{c:Addr}{xs:List V}{o:HO}(hc:H c=some (.lst xs)):∀{vs:List V}{ms:List (Str×Str)},RPs H vs ms->RPs (upd H c o) vs ms
 |_,_,.nil=>.nil
 |_,_,.cons h r=>.cons (by rw[ae (λz=>by rw[z,hc]at h;cases h)];exact h) (RPs.off hc r)
theorem RPs.app{H:Hp}:∀{us vs:List V}{a b:List (Str×Str)},RPs H us a->RPs H vs b->RPs H (us++vs) (a++b)
 |_,_,_,_,.nil,h=>h
 |_,_,_,_,.cons x r,h=>.cons x (RPs.app r h)
theorem RPs.rep{H:Hp}{p:Addr}{m:Str×Str}(h:H p=some (.tup [.str "put",.str m.1,.str m.2])):∀n:Nat,RPs H (List.replicate n (.ref p)) (List.replicate n m)
 |0=>.nil
 |n+1=>.cons h (RPs.rep h n)
theorem RPs.len{H:Hp}:∀{vs:List V}{ms:List (Str×Str)},RPs H vs ms->vs.length=ms.length
 |_,_,.nil=>rfl
 |_,_,.cons _ r=>congrArg (·+1) (RPs.len r)
theorem RPs.rds{H:Hp}:∀{vs:List V}{ms:List (Str×Str)},RPs H vs ms->RDs H vs (ms.map λm=>.put m.1 m.2)
 |_,_,.nil=>.nil
 |_,_,.cons h r=>.cons (.put h) (RPs.rds r)
noncomputable def gR(rs names:List Str)(ms:List (Str×Str)):Nat->List (Str×Str)
 |0=>[]
 |i+1=>gR rs names ms i++List.replicate (gP (rs.getD i (">":Str)) ms) (rs.getD i (">":Str),nth names (i:Int))
theorem pA(rs names:List Str)(ms:List (Str×Str)):∀i,(gR rs names ms i).map (λm=>a8.put m.1 m.2)=eC rs names ms i
 |0=>rfl
 |i+1=>by rw[gR,eC,qY,pA rs names ms i,List.map_replicate]
theorem EV(n:Nat)(v:V):(List.replicate n [v]).flatten=List.replicate n v:=by
 induction n with
 |zero=>rfl
 |succ n ih=>rw[List.replicate_succ,List.flatten_cons,ih];rfl
theorem zW(n:Int)(names rooms:List Str)(shut:Bool):∀k b,bc n names rooms shut≠.rep k b:=λk b z=>by
 unfold bc at z;split at z
 .cases z
 .split at z
  .split at z<;>cases z
  .cases z
theorem xp(a b:List Row)(q:Str):bal (a++b) q=bal a q+bal b q:=by
 unfold bal;rw[QD,QD,qf,qf];omega
theorem AY{d:a8}{q:Str}(h:(bu d).outof=some q):∃x,d=.get q x:=by
 cases d with
 |get p x=>
  have:p=q:=qT h;exact⟨x,by rw[this]⟩
 |_=>simp[bu]at h
def xC(rooms:List Str)(d:a8):Prop:=∀q x,d=.get q x->q∈rooms
theorem zZ(n:Int)(names rooms:List Str)(shut:Bool):xC rooms (bc n names rooms shut):=λq x z=>by
 unfold bc at z;split at z
 .cases z
 .split at z
  .rename_i c;split at z
   .injection z with z1 z2;rw[<- z1];exact fO c.2.1 _
   .cases z
  .cases z
theorem vN:∀ds:List a8,ds.length<=(ai ds).length
 |[]=>qi _
 |d::r=>by
  have:=vN r;rw[ai,qf,fB,qL,qL];omega
theorem wl(rs names:List Str)(ms:List (Str×Str))(hn:0<names.length):∀i,i<=rs.length->∀d∈eC rs names ms i,∃q x,d=.put q x/\q∈rs/\x∈names
 |0,_,d,h=>by simp[eC]at h
 |i+1,hi,d,h=>by
  rw[eC,qp]at h;rcases h with h|h
  .exact wl rs names ms hn i Yo d h
  .refine⟨_,_,(List.mem_replicate.mp h).2,?_,fO hn _⟩;rw[qv,qg Yo];exact List.getElem_mem _
theorem BC{ds:List a8}(h:∀d∈ds,∃q x,d=.put q x):ai ds=ds/\aH ds=aH ds/\∀d∈ds,d.depth=0:=by
 refine⟨?_,U,λd hd=>?_⟩
 .induction ds with
  |nil=>rfl
  |cons d r ih=>
   obtain⟨q,x,rfl⟩:=h d qy;rw[ai,ih λe he=>h e (qw _ he)]
   rfl
 .obtain⟨q,x,rfl⟩:=h d hd
  rfl
theorem wN:∀{ds:List a8},(∀d∈ds,d.depth=0)->aH ds=0
 |[],_=>rfl
 |d::r,h=>by
  rw[aH,h d qy,wN λe he=>h e (qw _ he)]
  rfl
noncomputable def dW(b:List a8):Row:=⟨"gate",srt (cards b),[],none,none⟩
noncomputable def reps{α:Type}(n:Nat)(l:List α):List α:=(List.replicate n l).flatten
theorem nR{α:Type}(l:List α):reps 0 l=[]:=U
theorem gE{α:Type}(n:Nat)(l:List α):reps (n+1) l=l++reps n l:=by unfold reps;rw[List.replicate_succ,List.flatten_cons]
theorem gb{α:Type}(n:Nat)(l:List α):(reps n l).length=n * l.length:=by
 induction n with
 |zero=>simp[reps]
 |succ n ih=>rw[gE,qf,ih,Nat.succ_mul];omega
theorem B6{α:Type}{n:Nat}{l:List α}{x:α}(h:x∈reps n l):x∈l:=by
 induction n with
 |zero=>simp[reps]at h
 |succ n ih=>rw[gE,qp]at h;exact h.elim id ih
theorem B5{α:Type}(n:Nat)(l:List α):reps (n+1) l=reps n l++l:=by
 induction n with
 |zero=>simp[reps]
 |succ n ih=>
  have e:reps (n+1+1) l=l++(reps n l++l):=by rw[gE,ih]
  rw[e,<- qX,<- gE]
mutual
noncomputable def bE:a8->List Row
 |.rep n b=>dW b::reps n.toNat (av b++[dW b])
 |.set x a sg b=>[bu (.set x a sg b)]
 |.put q x=>[bu (.put q x)]
 |.get q x=>[bu (.get q x)]
 |.give x=>[bu (.give x)]
 |.cond x t o=>[bu (.cond x t o)]
 |.whl x b=>[bu (.whl x b)]
noncomputable def av:List a8->List Row
 |[]=>[]
 |d::r=>bE d++av r
end
theorem nQ{d:a8}(h:∀n b,d≠.rep n b):bE d=[bu d]:=by
 cases d with
 |rep n b=>exact Qf U (h n b)
 |_=>simp[bE]
theorem kr:∀(a b:List a8),av (a++b)=av a++av b
 |[],b=>by simp[av]
 |d::a,b=>by rw[Qw,av,av,kr a b,qX]
theorem AW{ds:List a8}(h:∀d∈ds,∀n b,d≠.rep n b):av ds=ds.map bu:=by
 induction ds with
 |nil=>simp[av]
 |cons d r ih=>rw[av,nQ (h d qy),ih λe he=>h e (qw _ he)];rfl
theorem nP{ds:List a8}{i:Nat}{d:a8}(h:ds[i]?=some d):av (ds.take (i+1))=av (ds.take i)++bE d:=by
 rw[qC,h,kr];simp[av]
theorem AR{n:Int}{b:List a8}(h:0<n):(av b).length+2<=(bE (.rep n b)).length:=by
 rw[bE,qL,gb,qf,Qh];have h1:1<=n.toNat:=Yo;have:=Nat.mul_le_mul_right ((av b).length+1) h1;omega
theorem AU{ds:List a8}{i:Nat}{d:a8}(h:ds[i]?=some d):(bE d).length+(av (ds.take i)).length<=(av ds).length:=by
 have e:ds=ds.take (i+1)++ds.drop (i+1):=(QF _ _).symm
 conv=>rhs;rw[e]
 rw[kr,nP h,qf,qf];omega
mutual
noncomputable def dH:a8->List (Str×Str)
 |.rep n b=>reps n.toNat (bA b)
 |.put q _=>[("put",q)]
 |.get q _=>[("get",q)]
 |.set _ _ _ _=>[]
 |.give _=>[]
 |.cond _ _ _=>[]
 |.whl _ _=>[]
noncomputable def bA:List a8->List (Str×Str)
 |[]=>[]
 |d::r=>dH d++bA r
end
theorem oP:∀(a b:List a8),bA (a++b)=bA a++bA b
 |[],b=>by simp[bA]
 |d::a,b=>by rw[Qw,bA,bA,oP a b,qX]
theorem vC{ds:List a8}{i:Nat}{d:a8}(h:ds[i]?=some d):bA (ds.take (i+1))=bA (ds.take i)++dH d:=by
 rw[qC,h,oP];simp[bA]
theorem DN{ds:List a8}{i:Nat}{d:a8}(h:ds[i]?=some d):(dH d).length+(bA (ds.take i)).length<=(bA ds).length:=by
 have e:ds=ds.take (i+1)++ds.drop (i+1):=(QF _ _).symm
 conv=>rhs;rw[e]
 rw[oP,vC h,qf,qf];omega
mutual
theorem AT:∀(d:a8)(r:Row),r∈bE d->(∃b,r=dW b/\∀e∈ai b,e∈d.flat)\/∃e∈d.flat,r=bu e/\∀n b,e≠.rep n b
 |.rep n b,r,h=>by
  rw[bE,qF]at h
  have g:(∃b',r=dW b'/\∀e∈ai b',e∈(a8.rep n b).flat)\/r∈av b:=by
   rcases h with h|h
   .exact .inl ⟨b,h,λe he=>by simp[a8.flat,he]⟩
   .rcases qp.mp (B6 h)with h|h
    .exact .inr h
    .exact .inl ⟨b,by simpa using h,λe he=>by simp[a8.flat,he]⟩
  rcases g with g|g
  .exact .inl g
  .rcases kq b r g with⟨b',e,h'⟩|⟨e,he,h'⟩
   .exact .inl ⟨b',e,λx hx=>by simp[a8.flat,h' x hx]⟩
   .exact .inr ⟨e,by simp[a8.flat,he],h'⟩
 |.set x a sg b,r,h=>by
  rw[bE,Q4]at h;exact .inr ⟨_,by simp[a8.flat],h,λn b z=>by cases z⟩
 |.put q x,r,h=>by
  rw[bE,Q4]at h;exact .inr ⟨_,by simp[a8.flat],h,λn b z=>by cases z⟩
 |.get q x,r,h=>by
  rw[bE,Q4]at h;exact .inr ⟨_,by simp[a8.flat],h,λn b z=>by cases z⟩
 |.give x,r,h=>by
  rw[bE,Q4]at h;exact .inr ⟨_,by simp[a8.flat],h,λn b z=>by cases z⟩
 |.cond x t o,r,h=>by
  rw[bE,Q4]at h;exact .inr ⟨_,by simp[a8.flat],h,λn b z=>by cases z⟩
 |.whl x b,r,h=>by
  rw[bE,Q4]at h;exact .inr ⟨_,by simp[a8.flat],h,λn b z=>by cases z⟩
theorem kq:∀(ds:List a8)(r:Row),r∈av ds->(∃b,r=dW b/\∀e∈ai b,e∈ai ds)\/∃e∈ai ds,r=bu e/\∀n b,e≠.rep n b
 |[],r,h=>by simp[av]at h
 |d::ds,r,h=>by
  rw[av,qp]at h;rcases h with h|h
  .rcases AT d r h with⟨b,e,h'⟩|⟨e,he,h'⟩
   .exact .inl ⟨b,e,λx hx=>by simp[ai,h' x hx]⟩
   .exact .inr ⟨e,by simp[ai,he],h'⟩
  .rcases kq ds r h with⟨b,e,h'⟩|⟨e,he,h'⟩
   .exact .inl ⟨b,e,λx hx=>by simp[ai,h' x hx]⟩
   .exact .inr ⟨e,by simp[ai,he],h'⟩
end
theorem AQ(ds:List a8):∀r∈av ds,lB r:=λr h=>by
 rcases kq ds r h with⟨b,rfl,_⟩|⟨e,_,rfl,_⟩
 .exact .inl U
 .exact AX e
theorem AS{ds:List a8}{r:Row}{q:Str}(h:r∈av ds)(ho:r.outof=some q):∃x,.get q x∈ai ds:=by
 rcases kq ds r h with⟨b,rfl,_⟩|⟨e,he,rfl,_⟩
 .simp[dW]at ho
 .obtain⟨x,rfl⟩:=AY ho;exact⟨x,he⟩
def eN(d:a8):Prop:=∀n b,d=.rep n b->0<=n/\n<=99
def aS(Pd:a8->Prop)(ds:List a8):Prop:=∀d∈ai ds,Pd d
theorem aS.app{Pd:a8->Prop}{a b:List a8}(h1:aS Pd a)(h2:aS Pd b):aS Pd (a++b):=λd h=>by
 rw[f9,qp]at h;exact h.elim (h1 d) (h2 d)
theorem aS.nil{Pd:a8->Prop}:aS Pd []:=λd h=>by simp[ai]at h
theorem aS.one{Pd:a8->Prop}{d:a8}(h:Pd d)(hi:∀b∈d.inner,aS Pd b):aS Pd [d]:=λe he=>by
 rw[ai,ai,qI,fB,qF,List.mem_flatMap]at he;rcases he with rfl|⟨b,hb,he⟩
 .exact h
 .exact hi b hb e he
def Gk(o:Op):Prop:=∀n,o=.rep n->0<=n/\n<=99
def FrA(Pd:a8->Prop)(f:Fr):Prop:=aS Pd f.ds/\aS Pd f.op.extra/\Gk f.op
structure jI(Pd:a8->Prop):Prop where
 cond:∀x t o,Pd (.cond x t o)
 whl:∀x b,Pd (.whl x b)
 rep:∀n b,0<=n->n<=99->Pd (.rep n b)
theorem FrA.deed{Pd:a8->Prop}(hp:jI Pd){f:Fr}(h:FrA Pd f):aS Pd [f.deed]:=by
 obtain⟨h1,h2,h3⟩:=h;unfold Fr.deed;cases q:f.op<;>rw[q]at h2 h3
 .exact .one (hp.rep _ _ Yk Yk) (by simpa[a8.inner]using h1)
 .exact .one (hp.cond _ _ _) (by simpa[a8.inner]using⟨h1,aS.nil⟩)
 .exact .one (hp.cond _ _ _) (by simpa[a8.inner]using⟨h2,h1⟩)
 .exact .one (hp.whl _ _) (by simpa[a8.inner]using h1)
 .exact .one (hp.rep _ _ (h3 _ U).1 (h3 _ U).2) (by simpa[a8.inner]using h1)
theorem lU(n:Int)(names rooms:List Str)(shut:Bool):(bc n names rooms shut).inner=[]:=by
 unfold bc;split
 .rfl
 .split
  .split<;>rfl
  .rfl
def jD(f g:Fr):Prop:=match f.op with
 |.root=>False
 |.rep n=>f.times=g.times * n
 |_=>f.times=0
def TR(most:Int):List Fr->Prop
 |[]=>False
 |[f]=>f.op=.root/\f.times=1
 |f::g::r=>jD f g/\0<=f.times/\f.times<=most/\TR most (g::r)
theorem TR.head{most:Int}(h1:1<=most){f:Fr}{r:List Fr}(h:TR most (f::r)):0<=f.times/\f.times<=most:=by
 cases r with
 |nil=>rw[h.2];omega
 |cons g r=>exact⟨h.2.1,h.2.2.1⟩
theorem TR.same{most:Int}{f f':Fr}{r:List Fr}(e1:f'.op=f.op)(e2:f'.times=f.times)(h:TR most (f::r)):TR most (f'::r):=by
 cases r with
 |nil=>exact⟨e1.trans h.1,e2.trans h.2⟩
 |cons g r=>
  obtain⟨a,b,c,d⟩:=h;refine⟨?_,by rw[e2];exact b,by rw[e2];exact c,d⟩;unfold jD at a ⊢;rw[e1,e2];exact a
theorem vG{n most t:Int}(h0:0<=most)(h1:most<=98)(ht:0<=t):0<=cw n most t/\cw n most t<=99/\0<=t * cw n most t/\t * cw n most t<=most:=by
 unfold cw;by_cases tp:0<t
 .rw[Qc tp];have q0:0<=most / t:=Int.ediv_nonneg h0 ht;have q1:most / t<=most:=Int.ediv_le_self _ h0;have e0:0<=n / 70 % (1+most / t):=Qk _ Yo;have e1:n / 70 % (1+most / t)<1+most / t:=Qp _ Yo;have m1:t * (n / 70 % (1+most / t))<=t * (most / t):=Int.mul_le_mul_of_nonneg_left Yo ht;have m2:t * (most / t)<=most:=Int.mul_ediv_self_le Yo;exact⟨e0,Yo,Int.mul_nonneg ht e0,Yo⟩
 .rw[Qb tp];obtain rfl:t=0:=Yo;exact⟨Qk _ Yk,Yo,by simp,by simpa using h0⟩
structure Wt where
 g:Int
 e:a8->Int
mutual
noncomputable def Wt.d(w:Wt):a8->Int
 |.rep n b=>w.g+n * (Wt.l w b+w.g)
 |.cond _ _ _=>w.g
 |.whl _ _=>w.g
 |.set x a sg b=>w.e (.set x a sg b)
 |.put q x=>w.e (.put q x)
 |.get q x=>w.e (.get q x)
 |.give x=>w.e (.give x)
noncomputable def Wt.l(w:Wt):List a8->Int
 |[]=>0
 |d::r=>Wt.d w d+Wt.l w r
end
theorem Wt.l_append(w:Wt):∀(a b:List a8),w.l (a++b)=w.l a+w.l b
 |[],b=>by simp[Wt.l]
 |d::a,b=>by rw[Qw,Wt.l,Wt.l,Wt.l_append w a b];omega
noncomputable def Wt.m(w:Wt):List Fr->Int
 |[]=>0
 |[f]=>f.times * w.l f.ds
 |f::g::r=>f.times * w.l f.ds+(g.times * w.g+match f.op with|.rep _=>f.times * w.g|_=>0)+Wt.m w (g::r)
theorem Wt.m_add(w:Wt)(f:Fr)(d:a8)(r:List Fr):w.m (f.add d::r)=w.m (f::r)+f.times * w.d d:=by
 have e:w.l (f.ds++[d])=w.l f.ds+w.d d:=by rw[Wt.l_append];simp[Wt.l]
 cases r with
 |nil=>simp only[Wt.m,Fr.add,e,Int.mul_add]
 |cons g r=>simp only[Wt.m,Fr.add,e,Int.mul_add];omega
theorem Wt.deed(w:Wt){f g:Fr}(h:jD f g):g.times * w.d f.deed=f.times * w.l f.ds+(g.times * w.g+match f.op with|.rep _=>f.times * w.g|_=>0):=by
 unfold jD at h;unfold Fr.deed;cases q:f.op<;>rw[q]at h<;>simp only[Wt.d]at h ⊢
 .rw[h];simp
 .rw[h];simp
 .rw[h];simp
 .rw[h,Int.mul_add,Int.mul_add,Int.mul_add,<- Int.mul_assoc,<- Int.mul_assoc];omega
theorem Wt.wh(w:Wt){most:Int}:∀(f:Fr)(r:List Fr)(dt:List a8),TR most (f::r)->w.l (wh (f::r) dt)=w.m (f::r)+f.times * w.l dt
 |f,[],dt,h=>by
  rw[Tr.wh,Wt.l_append,Wt.m,h.2];omega
 |f,g::r,dt,h=>by
  rw[Tr.wh,Wt.wh w g r _ h.2.2.2];have:=Wt.deed w (f:={ f with ds:=f.ds++dt }) (g:=g) h.1;simp only[Wt.l,Int.add_zero];rw[this,Wt.l_append,Int.mul_add,Wt.m];dsimp only;omega
theorem zQ(w:Wt)(n:Int)(names rooms:List Str)(shut:Bool):w.d (bc n names rooms shut)=w.e (bc n names rooms shut):=by
 unfold bc;split
 .rfl
 .split
  .split<;>rfl
  .rfl
theorem sB{names rooms:List Str}{most low n:Int}{st:List Fr}(w:Wt)(c:Int)(hg:0<=w.g)(hg1:w.g<=1)(he:∀d,0<=w.e d/\w.e d<=1)(hn:0<=n)(h1:1<=most)(h98:most<=98)(ht:TR most st):
 TR most (bx names rooms most low st n)/\w.m (bx names rooms most low st n)<=w.m st+most+most * w.g:=by
 match st,ht with
 |g::r,ht=>
  obtain⟨t0,t1⟩:=ht.head h1;have mw:0<=most * w.g:=Int.mul_nonneg Yo hg;have gw:g.times * w.g<=most * w.g:=Int.mul_le_mul_of_nonneg_right t1 hg;have mw1:most * w.g<=most:=by have:=Int.mul_le_mul_of_nonneg_left hg1 (show 0<=most by omega);omega
  unfold bx;dsimp only;split
  .unfold eZ;dsimp only;split
   .refine⟨⟨U,Int.le_refl _,by show(0:Int)<=most;omega,ht⟩,?_⟩;simp only[Wt.m,Wt.l];omega
   .split
    .refine⟨⟨U,Int.le_refl _,by show(0:Int)<=most;omega,ht⟩,?_⟩;simp only[Wt.m,Wt.l];omega
    .obtain⟨m1,m2,m3,m4⟩:=vG (by omega:0<=most) h98 t0;refine⟨⟨U,m3,m4,ht⟩,?_⟩;have:=Int.mul_le_mul_of_nonneg_right m4 hg;simp only[Wt.m,Wt.l];omega
  .split
   .rename_i x hx
    have e:g.op=.ifT x:=by
     split at hx
     .cases e:g.op<;>rw[e]at hx<;>simp[Op.ifT?]at hx;rw[hx]
     .cases hx
    cases r with
    |nil=>have:=ht.1;rw[e]at this;cases this
    |cons g' r'=>
     have z:g.times=0:=by
      have:=ht.1;unfold jD at this;rw[e]at this;exact this
     refine⟨⟨z,t0,t1,ht.2.2.2⟩,?_⟩;simp only[Wt.m,e,z];omega
   .split
    .rename_i c
     cases r with
     |nil=>exact Qf c.2 (by simp)
     |cons g' r'=>
      show TR most (g'.add g.deed::r')/\w.m (g'.add g.deed::r')<=_;refine⟨TR.same (f:=g') (f':=g'.add g.deed) U U ht.2.2.2,?_⟩;rw[Wt.m_add,Wt.deed w ht.1,Wt.m];omega
    .refine⟨TR.same (f:=g) (f':=g.add (bc n names rooms g.shut)) U U ht,?_⟩;rw[Wt.m_add];obtain⟨e0,e1⟩:=he (bc n names rooms g.shut);rw[zQ];have:=Int.mul_le_mul_of_nonneg_left e1 t0;omega
theorem jV{names rooms:List Str}{most low:Int}(w:Wt)(hg:0<=w.g)(hg1:w.g<=1)(he:∀d,0<=w.e d/\w.e d<=1)(h1:1<=most)(h98:most<=98):∀(cells:List Int)(st:List Fr),TR most st->
 TR most (cells.foldl (λst c=>bx names rooms most low st (aE c 1)) st)/\w.m (cells.foldl (λst c=>bx names rooms most low st (aE c 1)) st)<=w.m st+cells.length * (most+most * w.g)
 |[],st,h=>⟨h,by simp⟩
 |c::cs,st,h=>by
  obtain⟨a,b⟩:=sB (low:=low) (n:=aE c 1) w 0 hg hg1 he (by unfold aE;exact Qk _ Yk) h1 h98 h;obtain⟨a',b'⟩:=jV (low:=low) w hg hg1 he h1 h98 cs _ a;refine⟨a',?_⟩;rw[QK,qL,Int.natCast_add,Int.add_mul];simp only[Int.natCast_one,Int.one_mul];omega
theorem xi{names rooms:List Str}{most low:Int}(w:Wt)(hg:0<=w.g)(hg1:w.g<=1)(he:∀d,0<=w.e d/\w.e d<=1)(h1:1<=most)(h98:most<=98)(cells:List Int):w.l (cY names rooms most low cells)<=cells.length * (most+most * w.g):=by
 obtain⟨a,b⟩:=jV (low:=low) w hg hg1 he h1 h98 cells st0 ⟨U,U⟩;have e:w.m st0=0:=by simp[st0,Wt.m,Wt.l]
 rw[e,Int.zero_add]at b;unfold cY hZ;show w.l (eO ((cC names rooms most low cells).length-1) (cC names rooms most low cells))<=_;have hs:cC names rooms most low cells=cells.foldl (λst c=>bx names rooms most low st (aE c 1)) st0:=U;rw[<- hs]at a b
 cases q:cC names rooms most low cells with
 |nil=>rw[q]at a;exact a.elim
 |cons f r=>
  rw[q]at a b;rw[i0 _ _ (by simp),Wt.wh w f r [] a,Wt.l];omega
theorem zq{Pd:a8->Prop}(hp:jI Pd){names rooms:List Str}{most low n:Int}{st:List Fr}(hs:∀k s,Pd (bc k names rooms s))(hn:0<=n)(h1:1<=most)(h98:most<=98)(ht:TR most st)(ha:∀f∈st,FrA Pd f):∀f∈bx names rooms most low st n,FrA Pd f:=by
 match st,ht,ha with
 |g::r,ht,ha=>
  have hg:=ha g qy;have hr:∀f∈r,FrA Pd f:=λf hf=>ha f (qw _ hf);obtain⟨t0,t1⟩:=ht.head h1;unfold bx;dsimp only;split
  .unfold eZ;dsimp only;intro f hf;rcases qF.mp hf with rfl|hf
   .split
    .exact⟨.nil,.nil,λn z=>by cases z⟩
    .split
     .exact⟨.nil,.nil,λn z=>by cases z⟩
     .obtain⟨m1,m2,_⟩:=vG (by omega:0<=most) h98 t0;exact⟨.nil,.nil,λn z=>by cases z;exact⟨m1,m2⟩⟩
   .exact ha f hf
  .split
   .rename_i x hx;intro f hf;rcases qF.mp hf with rfl|hf
    .exact⟨.nil,hg.1,λn z=>by cases z⟩
    .exact hr f hf
   .split
    .cases r with
     |nil=>exact ha
     |cons g' r'=>
      intro f hf;rcases qF.mp hf with rfl|hf
      .have h':=hr g' qy;exact⟨h'.1.app (hg.deed hp),h'.2⟩
      .exact hr f (qw _ hf)
    .intro f hf;rcases qF.mp hf with rfl|hf
     .exact⟨hg.1.app (.one (hs _ _) (by rw[lU];simp)),hg.2⟩
     .exact hr f hf
theorem sH{Pd:a8->Prop}(hp:jI Pd){names rooms:List Str}{most low:Int}(hs:∀k s,Pd (bc k names rooms s))(h1:1<=most)(h98:most<=98):∀(cells:List Int)(st:List Fr),TR most st->(∀f∈st,FrA Pd f)->
 ∀f∈cells.foldl (λst c=>bx names rooms most low st (aE c 1)) st,FrA Pd f
 |[],st,_,h=>h
 |c::cs,st,ht,h=>by
  have hn:0<=aE c 1:=by unfold aE;exact Qk _ Yk
  exact sH hp hs h1 h98 cs _ (sB (low:=low) (n:=aE c 1) ⟨0,λ_=>0⟩ 0 Yk Yk (λ_=>⟨by simp,by simp⟩) hn h1 h98 ht).1 (zq hp hs hn h1 h98 ht h)
theorem rG{Pd:a8->Prop}(hp:jI Pd):∀(st:List Fr)(dt:List a8),(∀f∈st,FrA Pd f)->aS Pd dt->aS Pd (wh st dt)
 |[],_,_,_=>.nil
 |[f],dt,h,hd=>(h f qy).1.app hd
 |f::g::r,dt,h,hd=>by
  have hf:=h f qy;exact rG hp (g::r) _ (λf' hf'=>h f' (qw _ hf')) (FrA.deed hp (f:={ f with ds:=f.ds++dt }) ⟨hf.1.app hd,hf.2⟩)
theorem lx{Pd:a8->Prop}(hp:jI Pd){names rooms:List Str}{most low:Int}(hs:∀k s,Pd (bc k names rooms s))(h1:1<=most)(h98:most<=98)(cells:List Int):aS Pd (cY names rooms most low cells):=by
 have a:=(jV (names:=names) (rooms:=rooms) (low:=low) ⟨0,λ_=>0⟩ Yk Yk (λ_=>⟨by simp,by simp⟩) h1 h98 cells st0 ⟨U,U⟩).1
 have b:=sH hp (low:=low) hs h1 h98 cells st0 ⟨U,U⟩ λf hf=>by
  simp[st0]at hf;subst hf;exact⟨.nil,.nil,λn z=>by cases z⟩
 have ne:(cC names rooms most low cells).length≠0:=λz=>by
  rw[List.length_eq_zero_iff]at z;unfold cC at z;rw[z]at a;exact a
 unfold cY hZ;rw[i0 _ _ Yo];exact rG hp _ _ b .nil
noncomputable def i4:Wt:=⟨1,λ_=>1⟩
noncomputable def iT:Wt:=⟨0,λd=>d.moves.length⟩
mutual
theorem xY:∀d:a8,(∀e∈d.flat,eN e)->((bE d).length:Int)=i4.d d
 |.rep n b,h=>by
  have h1:=lC b λe he=>h e (by simp[a8.flat,he]);have h2:=(h (.rep n b) (by simp[a8.flat]) n b U).1;rw[bE,Wt.d,qL,gb,qf,Qh,<- h1];have e:(n.toNat:Int)=n:=Int.toNat_of_nonneg h2;simp only[Int.natCast_add,Int.natCast_mul,e];show n * (((av b).length:Int)+1)+1=1+n * (((av b).length:Int)+1);omega
 |.set x a sg b,_=>rfl
 |.put q x,_=>rfl
 |.get q x,_=>rfl
 |.give x,_=>rfl
 |.cond x t o,_=>rfl
 |.whl x b,_=>rfl
theorem lC:∀ds:List a8,(∀e∈ai ds,eN e)->((av ds).length:Int)=i4.l ds
 |[],_=>by simp[av,Wt.l]
 |d::r,h=>by
  rw[av,Wt.l,qf,Int.natCast_add,xY d λe he=>h e (by simp[ai,he]),lC r λe he=>h e (by simp[ai,he])]
end
mutual
theorem xZ:∀d:a8,(∀e∈d.flat,eN e)->((dH d).length:Int)=iT.d d
 |.rep n b,h=>by
  have h1:=lD b λe he=>h e (by simp[a8.flat,he]);have h2:=(h (.rep n b) (by simp[a8.flat]) n b U).1;rw[dH,Wt.d,gb,<- h1];have e:(n.toNat:Int)=n:=Int.toNat_of_nonneg h2;simp only[Int.natCast_mul,e];show n * ((bA b).length:Int)=0+n * (((bA b).length:Int)+0);rw[Int.add_zero,Int.zero_add]
 |.set x a sg b,_=>rfl
 |.put q x,_=>rfl
 |.get q x,_=>rfl
 |.give x,_=>rfl
 |.cond x t o,_=>rfl
 |.whl x b,_=>rfl
theorem lD:∀ds:List a8,(∀e∈ai ds,eN e)->((bA ds).length:Int)=iT.l ds
 |[],_=>by simp[bA,Wt.l]
 |d::r,h=>by
  rw[bA,Wt.l,qf,Int.natCast_add,xZ d λe he=>h e (by simp[ai,he]),lD r λe he=>h e (by simp[ai,he])]
end
theorem pO{names rooms:List Str}{most low:Int}(h1:1<=most)(h98:most<=98)(cells:List Int):aS eN (cY names rooms most low cells):=
 lx ⟨λ_ _ _ n b z=>(by cases z),λ_ _ n b z=>(by cases z),λn b h0 h9 n' b' z=>(by cases z;exact⟨h0,h9⟩)⟩ (λk s n b z=>Qf z (zW _ _ _ _ n b)) h1 h98 cells
theorem FT{names rooms:List Str}{most low:Int}(h1:1<=most)(h98:most<=98)(cells:List Int):((av (cY names rooms most low cells)).length:Int)<=cells.length * (most+most):=by
 rw[lC _ (pO h1 h98 cells)];have:=xi (names:=names) (rooms:=rooms) (low:=low) i4 Yk Yk (λ_=>⟨by simp[i4],by simp[i4]⟩) h1 h98 cells;simpa[i4]using this
theorem FW{names rooms:List Str}{most low:Int}(h1:1<=most)(h98:most<=98)(cells:List Int):((bA (cY names rooms most low cells)).length:Int)<=cells.length * most:=by
 rw[lD _ (pO h1 h98 cells)];have:=xi (names:=names) (rooms:=rooms) (low:=low) iT Yk Yk (λd=>by cases d<;>simp[iT,a8.moves]) h1 h98 cells;simpa[iT]using this
theorem FX{names rooms:List Str}{most low:Int}(h1:1<=most)(h98:most<=98)(cells:List Int):∀q x,.get q x∈ai (cY names rooms most low cells)->q∈rooms:=λq x h=>
 lx (Pd:=xC rooms) ⟨λ_ _ _ q x z=>(by cases z),λ_ _ q x z=>(by cases z),λn b _ _ q x z=>(by cases z)⟩ (λk s=>zZ _ _ _ _) h1 h98 cells _ h q x U
end Tr
namespace Tr
open PySem PySem.Spec PyProof.Rows L2
theorem bh.app{H:Hp}:∀{us vs:List V}{a b:List Row},bh H us a->bh H vs b->bh H (us++vs) (a++b)
 |_,_,_,_,.nil,h=>h
 |_,_,_,_,.cons x r,h=>.cons x (bh.app r h)
theorem bh.reps{H:Hp}{us:List V}{rs:List Row}(h:bh H us rs):∀n:Nat,bh H (reps n us) (reps n rs)
 |0=>.nil
 |n+1=>by rw[gE,gE];exact h.app (bh.reps h n)
theorem RMs.app{H:Hp}:∀{us vs:List V}{a b:List (Str×Str)},RMs H us a->RMs H vs b->RMs H (us++vs) (a++b)
 |_,_,_,_,.nil,h=>h
 |_,_,_,_,.cons x r,h=>.cons x (RMs.app r h)
theorem aS.at{Pd:a8->Prop}{ds:List a8}{i:Nat}{d:a8}(h:aS Pd ds)(hi:ds[i]?=some d):aS Pd [d]:=λe he=>h e (by
 rw[ai,ai,qI]at he
 exact(pC hi).2 e he)
theorem aS.rep{Pd:a8->Prop}{n:Int}{b:List a8}(h:aS Pd [.rep n b]):Pd (.rep n b)/\aS Pd b:=
 ⟨h _ (by simp[ai,a8.flat]),λe he=>h e (by simp[ai,a8.flat,he])⟩
theorem zH{i j:Int}(h0:0<=i)(h1:i<=99):IntMulOk i j:=rn.ok (.inl ⟨Yo,Yo⟩)
end Tr
namespace L2
open PySem PySem.Spec PyProof.Rows
section
variable {X:Cx}{CX:CXT}{k:Nat}{f C:Addr}{fd:FuncData}{ps:List Str}{sp:Sp}{E:XK}{x m:Str}{p pos apos:Pos}{e o:Expr}{es:List Expr}{t:TA}{te ta:TE}{ds:List Value}{dvs:List V}
end
theorem gf{f:Str}{v:V}:∀{fs:List (Str×V)}(ks:List Str),fs.map (·.1)=ks->(ks.all λg=>!decide (g=f))=true->bQ f v fs=fs++[(f,v)]
 |[],_,_,_=>rfl
 |(g,x)::r,ks,e,h=>by
  subst e;simp only[Q3,List.all_cons,Bool.and_eq_true,Bool.not_eq_true',decide_eq_false_iff_not]at h;rw[bQ,Qb h.1,gf (r.map (·.1)) U h.2]
  rfl
theorem gN{k:Str}{v:V}{r:List (Str×V)}:List.lookup k ((k,v)::r)=some v:=by simp[List.lookup]
theorem d7{k g:Str}{v:V}{r:List (Str×V)}(h:(k == g)=false):List.lookup k ((g,v)::r)=List.lookup k r:=by simp[List.lookup,h]
inductive jc(i:Nat)(Y:St)(H:Hp)(Q:VK):Prop
 |mk (v:V) (h:Y[i]?=some (some v)) (q:Q v H):jc i Y H Q
theorem Bv(i:Nat):jc i=rV i:=by
 funext Y H Q
 exact propext ⟨λ⟨v,h,q⟩=>⟨v,h,q⟩,λ⟨v,h,q⟩=>⟨v,h,q⟩⟩
inductive qB(x:V)(H:Hp)(Q:Bool->Hp->Prop):Prop
 |mk (k:Bool) (h:x=.bl k) (q:Q k H):qB x H Q
theorem uG(Q:Bool->Hp->Prop):(λx H=>qB x H Q)=λx H=>∃k,x=V.bl k/\Q k H:=by
 funext x H
 exact propext ⟨λ⟨v,h,q⟩=>⟨v,h,q⟩,λ⟨v,h,q⟩=>⟨v,h,q⟩⟩
def ik(t:TE):TT:=λY H Q=>t Y H λx H'=>qB x H' Q
theorem By(t:TE):ik t=jT t:=by
 funext Y H Q
 unfold ik jT;rw[uG]
theorem Bx(t:TE):ik t=tB t:=by
 funext Y H Q
 unfold ik tB;rw[uG]
inductive uJ(x y:V)(H:Hp)(Q:VK):Prop
 |mk (i j:Int) (h1:x=.int i) (h2:y=.int j) (q:Q (.int (i+j)) H):uJ x y H Q
inductive uy(x y:V)(H:Hp)(Q:VK):Prop
 |mk (i j:Int) (h1:x=.int i) (h2:y=.int j) (q:Q (.int (i-j)) H):uy x y H Q
inductive uE(x y:V)(H:Hp)(Q:VK):Prop
 |mk (i j:Int) (h1:x=.int i) (h2:y=.int j) (c:0<j/\j<1073741824) (q:Q (.int (i / j)) H):uE x y H Q
inductive uA(x y:V)(H:Hp)(Q:VK):Prop
 |mk (i j:Int) (h1:x=.int i) (h2:y=.int j) (c:0<j) (q:Q (.int (i % j)) H):uA x y H Q
inductive qLt(x y:V)(H:Hp)(Q:VK):Prop
 |mk (i j:Int) (h1:x=.int i) (h2:y=.int j) (q:Q (.bl (decide (i<j))) H):qLt x y H Q
inductive qLe(x y:V)(H:Hp)(Q:VK):Prop
 |mk (i j:Int) (h1:x=.int i) (h2:y=.int j) (q:Q (.bl (decide (i<=j))) H):qLe x y H Q
inductive qGt(x y:V)(H:Hp)(Q:VK):Prop
 |mk (i j:Int) (h1:x=.int i) (h2:y=.int j) (q:Q (.bl (decide (j<i))) H):qGt x y H Q
inductive qGe(x y:V)(H:Hp)(Q:VK):Prop
 |mk (i j:Int) (h1:x=.int i) (h2:y=.int j) (q:Q (.bl (decide (j<=i))) H):qGe x y H Q
inductive qEq(x y:V)(H:Hp)(Q:VK):Prop
 |mk (c:j1 x y=true) (q:Q (.bl (decide (x=y))) H):qEq x y H Q
inductive qNe(x y:V)(H:Hp)(Q:VK):Prop
 |mk (c:j1 x y=true) (q:Q (.bl (!decide (x=y))) H):qNe x y H Q
inductive uD(x y:V)(H:Hp)(Q:VK):Prop
 |mk (c:y=.non) (q:Q (.bl (decide (x=.non))) H):uD x y H Q
inductive uz(x y:V)(H:Hp)(Q:VK):Prop
 |mk (c:y=.non) (q:Q (.bl (!decide (x=.non))) H):uz x y H Q
inductive oa(K:W.Frag)(x y:V)(H:Hp)(Q:VK):Prop
 |mk (p:Addr) (xs:List V) (i:Int) (v:V) (h1:x=.ref p) (h2:y=.int i) (h3:SqL K H p xs) (h4:atI xs i=some v) (q:Q v H):oa K x y H Q
inductive o9(K:W.Frag)(x y:V)(H:Hp)(Q:VK):Prop
 |mk (p:Addr) (xs:List V) (i:Int) (v:V) (h1:x=.ref p) (h2:y=.int i) (h3:SqT K H p xs) (h4:atI xs i=some v) (q:Q v H):o9 K x y H Q
inductive uI(x y:V)(H:Hp)(Q:VK):Prop
 |mk (i j:Str) (h1:x=.str i) (h2:y=.str j) (c:i.length+j.length<=sizeLine) (q:Q (.str (i++j)) H):uI x y H Q
inductive uC(K:W.Frag)(xs:List V)(H:Hp)(Q:VK):Prop
 |mk (p:Addr) (ys:List V) (h1:xs=[.ref p]) (h2:SqL K H p ys\/SqT K H p ys) (q:Q (.int ys.length) H):uC K xs H Q
inductive og(K:W.Frag)(xs:List V)(H:Hp)(Q:VK):Prop
 |mk (x:V) (t:Value) (T:String) (b:Bool) (h1:xs=[x,.ty T]) (h2:e5 K H x t) (h3:PySem.W.kitOne K t (.type T)=some b) (q:Q (.bl b) H):og K xs H Q
inductive uB(K:W.Frag)(xs:List V)(H:Hp)(Q:VK):Prop
 |mk (p:Addr) (ys:List V) (h1:xs=[.ref p]) (h2:SqL K H p ys\/SqT K H p ys) (q:∀l,H l=none->Q (.ref l) (upd H l (.lst ys))):uB K xs H Q
inductive uH(x:V)(vs:List V)(H:Hp)(Q:VK):Prop
 |mk (l:Addr) (xs:List V) (y:V) (h1:x=.ref l) (h2:vs=[y]) (h3:H l=some (.lst xs)) (h4:xs.length<sizeLine) (q:Q .non (upd H l (.lst (xs++[y])))):uH x vs H Q
inductive uF(K:W.Frag)(x y:V)(H:Hp)(Q:VK):Prop
 |mk (l b:Addr) (xs zs:List V) (h1:x=.ref l) (h2:y=.ref b) (h3:SqL K H l xs) (h4:SqL K H b zs) (h5:xs.length+zs.length<=sizeLine) (q:∀p,H p=none->Q (.ref p) (upd H p (.lst (xs++zs)))):uF K x y H Q
inductive jd(A B:Prop):Prop
 |mk (h:A) (q:B):jd A B
theorem oq(A B:Prop):jd A B=(A/\B):=propext ⟨λ⟨a,b⟩=>⟨a,b⟩,λ⟨a,b⟩=>⟨a,b⟩⟩
section
variable {X:Cx}
theorem pq(i:Nat){x:Str}{pos:Pos}(hN:X.N[i]?=some x:=by rfl)(hv:Vis X.env.scope x:=by first|exact Or.inl U|exact Or.inr Oi|exact Or.inr (Or.inr U))(hd:(x == ("__debug__":Str))=false:=by decide)
 (hcd:(x == ("__classdict__":Str))=false:=by decide):PE X (.Name x pos) (jc i):=by
 rw[Bv];exact C2 hN hv hd hcd
theorem ay{op:CmpOp}{r:R2}{a b:Expr}{ta tb:TE}{pos:Pos}(ho:OpR X (compareOp op) r)(ha:PE X a ta)(hb:PE X b tb)(hm:behindInMarks op b=false):PT X (.Compare a [op] [b] pos) (ik (tOp r ta tb)):=by
 rw[By];exact BH ho ha hb hm
theorem cq{e:Expr}{t:TE}(h:PE X e t)(he:∀whole,isTrue e X.env whole=(do let v <- whole;standAt e.pos;holding [v] (truthy v)):=by intro _;rfl):PT X e (ik t):=by
 rw[Bx];exact BG h he
theorem OpR.as{f:Value->Value->Sem Value}{r r':R2}(h:OpR X f r)(e:∀x y H Q,r' x y H Q->r x y H Q):OpR X f r':=λpins s Y H x y v u Q I rx ry q=>h pins s Y H x y v u Q I rx ry (e _ _ _ _ q)
theorem cJ.as{f:Value}{r r':List V->Hp->VK->Prop}(h:cJ X f r)(e:∀x H Q,r' x H Q->r x H Q):cJ X f r':=λpins s Y H x u Q I rx q=>h pins s Y H x u Q I rx (e _ _ _ q)
theorem IxR.as{r r':R2}(h:IxR X r)(e:∀x y H Q,r' x y H Q->r x y H Q):IxR X r':=λa b pins s Y H x y v u Q I rx ry q=>h a b pins s Y H x y v u Q I rx ry (e _ _ _ _ q)
theorem bU:OpR X (binaryOp .Add) uJ:=DB.as λ_ _ _ _ ⟨i,j,a,b,q⟩=>⟨i,j,a,b,q⟩
theorem fJ:OpR X (binaryOp .Sub) uy:=Dq.as λ_ _ _ _ ⟨i,j,a,b,q⟩=>⟨i,j,a,b,q⟩
theorem df:OpR X (binaryOp .FloorDiv) uE:=Dz.as λ_ _ _ _ ⟨i,j,a,b,c,q⟩=>⟨i,j,a,b,c,q⟩
theorem aZ:OpR X (binaryOp .Mod) uA:=Ds.as λ_ _ _ _ ⟨i,j,a,b,c,q⟩=>⟨i,j,a,b,c,q⟩
theorem kD:OpR X (compareOp .Lt) qLt:=Du.as λ_ _ _ _ ⟨i,j,a,b,q⟩=>⟨i,j,a,b,q⟩
theorem ij:OpR X (compareOp .LtE) qLe:=Dv.as λ_ _ _ _ ⟨i,j,a,b,q⟩=>⟨i,j,a,b,q⟩
theorem gJ:OpR X (compareOp .Gt) qGt:=Dw.as λ_ _ _ _ ⟨i,j,a,b,q⟩=>⟨i,j,a,b,q⟩
theorem nZ:OpR X (compareOp .GtE) qGe:=Dx.as λ_ _ _ _ ⟨i,j,a,b,q⟩=>⟨i,j,a,b,q⟩
theorem aM:OpR X (compareOp .Eq) qEq:=CD.as λ_ _ _ _ ⟨c,q⟩=>⟨c,q⟩
theorem gG:OpR X (compareOp .NotEq) qNe:=Cs.as λ_ _ _ _ ⟨c,q⟩=>⟨c,q⟩
theorem nY:OpR X (compareOp .Is) uD:=Cy.as λ_ _ _ _ ⟨c,q⟩=>⟨c,q⟩
theorem kC:OpR X (compareOp .IsNot) uz:=Cq.as λ_ _ _ _ ⟨c,q⟩=>⟨c,q⟩
theorem gH:OpR X (binaryOp .Add) uI:=CH.as λ_ _ _ _ ⟨i,j,a,b,c,q⟩=>⟨i,j,a,b,c,q⟩
theorem jb:OpR X (binaryOp .Add) (uF X.K):=CF.as λ_ _ _ _ ⟨l,b,xs,zs,h1,h2,h3,h4,h5,q⟩=>⟨l,b,xs,zs,h1,h2,h3,h4,h5,q⟩
theorem aY:IxR X (oa X.K):=Eo.as λ_ _ _ _ ⟨p,xs,i,v,a,b,c,d,q⟩=>⟨p,xs,i,v,a,b,c,d,q⟩
theorem aD:IxR X (o9 X.K):=En.as λ_ _ _ _ ⟨p,xs,i,v,a,b,c,d,q⟩=>⟨p,xs,i,v,a,b,c,d,q⟩
theorem nX{K:W.Frag}(e:X.K=K):IxR X (oa K):=by
 subst e;exact aY
theorem kB{K:W.Frag}(e:X.K=K):IxR X (o9 K):=by
 subst e;exact aD
theorem ck:cJ X (.builtin "len") (uC X.K):=FO.as λ_ _ _ ⟨p,ys,a,b,q⟩=>⟨p,ys,a,b,q⟩
theorem eT:cJ X (.builtin "isinstance") (og X.K):=FQ.as λ_ _ _ ⟨x,t,T,b,h1,h2,h3,q⟩=>⟨x,t,T,b,h1,h2,h3,q⟩
theorem Bu{K:W.Frag}(e:X.K=K):cJ X (.builtin "isinstance") (og K):=by
 subst e;exact eT
theorem Bt:cJ X (.type "list") (uB X.K):=FN.as λ_ _ _ ⟨p,ys,a,b,q⟩=>⟨p,ys,a,b,q⟩
theorem dE:MtM X "list.append" uH:=λpins s Y H x xs v us Q I rx rv ⟨l,ys,y,h1,h2,h3,h4,q⟩=>DM pins s Y H x xs v us Q I rx rv ⟨l,ys,y,h1,h2,h3,h4,q⟩
inductive oh(K:W.Frag)(f:Str)(x:V)(H:Hp)(Q:VK):Prop
 |mk (a C dx:Addr) (fs:List (Str×V)) (v:V) (h1:x=.ref a) (h2:H a=some (.ins C dx fs)) (h3:Cls K C) (h4:dC K C f) (h5:fs.lookup f=some v) (q:Q v H):oh K f x H Q
def oj(K:W.Frag)(ta:TE)(f:Str):TE:=λY H Q=>ta Y H λx H1=>oh K f x H1 Q
theorem BA(K:W.Frag)(ta:TE)(f:Str):oj K ta f=jU K ta f:=by
 funext Y H Q
 unfold oj jU
 have:(λx H1=>oh K f x H1 Q)=λx H1=>∃a C dx fs v,x=V.ref a/\H1 a=some (.ins C dx fs)/\Cls K C/\dC K C f/\fs.lookup f=some v/\Q v H1:=by
  funext x H1
  exact propext ⟨λ⟨a,C,dx,fs,v,h1,h2,h3,h4,h5,q⟩=>⟨a,C,dx,fs,v,h1,h2,h3,h4,h5,q⟩,λ⟨a,C,dx,fs,v,h1,h2,h3,h4,h5,q⟩=>⟨a,C,dx,fs,v,h1,h2,h3,h4,h5,q⟩⟩
 rw[this]
theorem bS{e:Expr}{ta:TE}{f:Str}{pos:Pos}(he:PE X e ta)(hb:attributeBase e f X.env (eval e X.env)=eval e X.env):PE X (.Attribute e f pos) (oj X.K ta f):=by
 rw[BA];exact uV he hb
def o0(t:TA):TE:=λY H Q=>t Y H λxs H1=>jd (xs.length<=sizeLine) (∀p,H1 p=none->Q (.ref p) (upd H1 p (.tup xs)))
def o7(t:TA):TE:=λY H Q=>t Y H λxs H1=>jd (xs.length<=sizeLine) (∀p,H1 p=none->Q (.ref p) (upd H1 p (.lst xs)))
theorem Bw(t:TA):o0 t=lF t:=by
 funext Y H Q
 unfold o0 lF;simp only[oq]
theorem Bz(t:TA):o7 t=lG t:=by
 funext Y H Q
 unfold o7 lG;simp only[oq]
theorem bF{x1}{es:List Expr}{t:TA}{pos:Pos}(h:PA X es t):PE X (.Tuple es x1 pos) (o0 t):=by
 rw[Bw];exact C3 h
theorem bq{es:List Expr}{t:TA}{pos:Pos}(h:PA X es t):PE X (.List es pos) (o7 t):=by
 rw[Bz];exact C5 h
inductive o6(vs:List V)(H:Hp)(R:It->Hp->Prop):Prop
 |mk (j:Int) (h:vs=[.int j]) (h1:-(2 ^ 62)<=j) (h2:j<2 ^ 62) (q:R (Itr 0 j.toNat) H):o6 vs H R
def oX(ta:TA):TI:=λY H R=>ta Y H λvs H1=>o6 vs H1 R
theorem Em(ta:TA):oX ta=ph ta:=by
 funext Y H R
 unfold oX ph
 have:(λvs H1=>o6 vs H1 R)=λvs H1=>∃j:Int,vs=[V.int j]/\-(2 ^ 62)<=j/\j<2 ^ 62/\R (Itr 0 j.toNat) H1:=by
  funext vs H1
  exact propext ⟨λ⟨j,h,h1,h2,q⟩=>⟨j,h,h1,h2,q⟩,λ⟨j,h,h1,h2,q⟩=>⟨j,h,h1,h2,q⟩⟩
 rw[this]
theorem iw{tg a:Expr}{ta:TA}{p pos:Pos}(hg:Gl X "range")(hm:X.mg "range"=none)(ha:PA X [a] ta)(hs:starEach [a] X.env=[(false,eval a X.env)]:=by rfl):PI X tg (.Call (.Name "range" p) [a] [] pos) (oX ta):=by
 rw[Em];exact BX hg hm ha hs
def qBM(K:W.Frag)(T:String)(r:V->List V->Hp->VK->Prop)(to:TE)(t:TA):TE:=λY H Q=>to Y H λx H1=>jd (tyV K T x H1) (t Y H1 λxs H2=>r x xs H2 Q)
theorem BB(K:W.Frag)(T:String)(r:V->List V->Hp->VK->Prop)(to:TE)(t:TA):qBM K T r to t=tBM K T r to t:=by
 funext Y H Q
 unfold qBM tBM;simp only[oq]
theorem bY{o e:Expr}{es:List Expr}{to:TE}{t:TA}{name:Str}{apos cpos:Pos}{T id:String}{r:V->List V->Hp->VK->Prop}(pa:PlainAttrs T)(slot:Slot T name id)(hty:typeOf (.builtin id)=pure (.type "method_descriptor"))(hm:MtR X id r)(ho:PE X o to)(ha:PA X (e::es) t)
 (hbase:attributeBase o name X.env (eval o X.env)=eval o X.env:=by rfl)
 (hfew:((backTo cpos (starEach (e::es) X.env)).all (λx=>!x.1) && (backToKw cpos (keywordEach [] X.env)).all (λx=>x.1.isSome)
  && decide ((e::es).length+([]:List Keyword).length+(if([]:List Keyword).isEmpty then 0 else 1)<30))=true:=by rfl)
 (hline:(apos.endLine == cpos.line)=true:=by rfl) (hs:starEach (e::es) X.env=(false,eval e X.env)::starEach es X.env:=by rfl) (hplain:(backTo cpos (starEach es X.env)).any (·.1)=false:=by rfl):
 PE X (.Call (.Attribute o name apos) (e::es) [] cpos) (qBM X.K T r to t):=by
 rw[BB];exact Cf pa slot hty hm ho ha hbase hfew hline hs hplain
end
theorem Et{b:Bool}{Y:St}{i j:Nat}{H:Hp}{Q:VK}{x y:Int}(hx:Y[i]?=some (some (.int x)))(hy:Y[j]?=some (some (.int y)))(h:Q (.int (if b=true then x else y)) H):if b=true then jc i Y H Q else jc j Y H Q:=by
 cases b
 .exact⟨_,hy,h⟩
 .exact⟨_,hx,h⟩
section
variable {prog:Program}{w:World}{A:Around}{E:Yq}{s:Shared}
end
section
variable {X:Cx}{pins:List (Addr×Obj)}{Y:St}
theorem rR{H0:Hp}{s0 s:Shared}(I0:Inv X pins Y H0 s0):∀(ts:List Addr)(ps:List (V×V))(H:Hp),Inv X pins Y H s->ts.length=ps.length->ts.Pairwise (·<·)->(∀t∈ts,s0.heap.objs.size<=t/\H t=none)->
 (∀(j:Nat)(t:Addr)(p:V×V),ts[j]?=some t->ps[j]?=some p->∃u v,aF p.1 u/\aF p.2 v/\IsPair s.heap t u v)->
 ∃H',Inv X pins Y H' s/\aa H H'/\(∀b,b∉ts->H' b=H b)/\∀(j:Nat)(t:Addr)(p:V×V),ts[j]?=some t->ps[j]?=some p->H' t=some (.tup [p.1,p.2])
 |[],_,H,I,_,_,_,_=>⟨H,I,aa.refl _,λ_ _=>rfl,λj t p h=>by simp at h⟩
 |t::ts,[],_,_,hl,_,_,_=>by simp at hl
 |t::ts,p::ps,H,I,hl,pw,fr,ob=>by
  obtain⟨u,v,ru,rv,pT⟩:=ob 0 t p U U;obtain⟨ht,hn⟩:=fr t qy;obtain⟨pw1,pw2⟩:=List.pairwise_cons.mp pw;have I2:Inv X pins Y (upd H t (.tup [p.1,p.2])) s:=I.track (I0.fpOk ht hn) (qJ I0.sz ht) ⟨by show 2<=sizeLine;decide,[u,v],.cons ru (.cons rv .nil),⟨_,pT,U,_,U⟩⟩;obtain⟨H',I3,s3,o3,a3⟩:=rR I0 ts ps _ I2 (by simpa using hl) pw2 (λt' ht'=>⟨(fr t' (qw _ ht')).1,by rw[ae (Nat.ne_of_gt (pw1 t' ht'))];exact(fr t' (qw _ ht')).2⟩) λj t' p' h1 h2=>ob (j+1) t' p' (by simpa using h1) (by simpa using h2);refine⟨H',I3,(aa.new hn _).trans s3,λb hb=>?_,λj t' p' h1 h2=>?_⟩
  .have nb:b≠t:=λz=>hb (by rw[z];exact qy);rw[o3 b λz=>hb (qw _ z),ae nb]
  .cases j with
   |zero=>
    simp at h1 h2;subst h1;subst h2;exact s3 _ _ ag
   |succ j=>exact a3 j t' p' (by simpa using h1) (by simpa using h2)
end
section
variable {X:Cx}{pins:List (Addr×Obj)}{Y:St}{H:Hp}{s:Shared}{a:Addr}{kvs:List (Key×V)}{k:Key}{z:V}{u r:Value}{A:Around}{E:Yq}
end
section
variable {X:Cx}{o e f:Expr}{apos cpos:Pos}{td ty tx:TE}
end
theorem DY:typeLookup (.type "list") "keys"=pure none:=by rw[typeLookup_type,builtinLookup_eq_fast];kernel_rfl
section
variable {prog:Program}{w:World}{A:Around}{E:Yq}{s:Shared}
theorem E5{a:Addr}{xs:Array Value}{k:Nat}{sl:Array (Option Value)}{Q:Option Value->Shared->Prop}(hA:A.handled=none)(hx:s.heap.get? a=some { cls:=.type "list",dict:=none,data:=.seq xs k,slots:=sl })
 (h:∀h' tk,(∀b o,s.heap.get? b=some o->h'.get? b=some o)->Q none { s with heap:=h',toks:=tk }):wpAny (model prog w) A (getAttr? (.ref a) "keys") Q E s:=by
 obtain⟨hp,g,d,tk,os⟩:=s;have hT:∀tk',(⟨hp,g,d,tk',os⟩:Shared).TypeIs (.ref a) "list":=λ_=>⟨_,hx,U⟩;have f1:=sub_AttributeError;have f3:=F.slot_list_getattribute.lookup;have f4:=F.slot_list_getattribute.bind (.ref a);have f5:=am_list_getattr_none;unfold getAttr? getAttrBy? getAttrBy
 repeat (any_goals (first|assumption|exact hT _|((with_reducible show wpAny _ _ (call (Value.builtin "list.__getattribute__") _ _) _ _ _);refine call_meets F.slot_list_getattribute (hT _) am_entry_list_getattribute (F.args_list_getattribute_2 _ _) (meets_getattribute_miss_list a xs k sl "keys" _ DY Yd) ⟨hx,hA,λh' tk' e hx'=>?_⟩)|wp_step))
 obtain⟨t',u',he⟩:=hx'.there;show wpAny _ _ (getattributeRaised _ _ _ _ _ _ _) _ _ _;unfold getattributeRaised
 repeat (any_goals (first|assumption|wp_step))
 exact h _ _ hx'.keeps
end
theorem kK:plainId "dict.update.loop"=true:=Yd
theorem wI:entryFor table "dict.update.loop"=some Builtin.«dict.update.loop»:=entryFor_of_fast (by kernel_rfl)
noncomputable def e7{K:Type}[DecidableEq K](ps:List (K×Value)):List (K×Value):=ps.foldl (λkvs p=>stored kvs p.1 p.2) []
theorem zi{K:Type}[DecidableEq K](ps:List (K×Value))(p:K×Value):e7 (ps++[p])=stored (e7 ps) p.1 p.2:=by
 unfold e7;rw[List.foldl_append]
 rfl
section
variable {prog:Program}{w:World}{A:Around}{R:Result->Shared->Prop}{K:Type} [DecidableEq K] {knd:KeyKind prog w K}
def jJ(knd:KeyKind prog w K)(h:Heap)(items:Array Value)(ps:List (K×Value)):Prop:=
 items.size=ps.length/\∀(i:Nat)(p:K×Value),ps[i]?=some p->∃t key,items[i]?=some (.ref t)/\h.IsTuple t #[key,p.2]/\knd.is p.1 key=true
theorem jJ.keep{h h':Heap}{items:Array Value}{ps:List (K×Value)}(x:jJ knd h items ps)(e:∀t o,h.get? t=some o->o.cls=.type "tuple"->h'.get? t=some o):jJ knd h' items ps:=
 ⟨x.1,λi p hp=>let ⟨t,key,a,b,c⟩:=x.2 i p hp;⟨t,key,a,(let ⟨o,e1,e2,r⟩:=b;⟨o,e t o e1 e2,e2,r⟩),c⟩⟩
theorem Fg{it l d:Addr}{items:Array Value}{ps:List (K×Value)}{res:Value}(hh:A.handled=none)(nil':it≠l)(nid:it≠d)(nld:l≠d)(few:ps.length<=sizeLine)
 (small:∀qs,qs.length<=ps.length->(e7 (qs:List (K×Value))).length<=qs.length):
 ∀(m i:Nat)(s:Shared)(tk:Tok),ps.length-i=m->i<=ps.length->s.heap.IsListIter it l i->s.heap.IsList l items->s.heap.DictOf knd d (e7 (ps.take i))->jJ knd s.heap items ps->
 (∀h' tk',(∀b o,b≠it->b≠d->s.heap.get? b=some o->h'.get? b=some o)->h'.DictOf knd d (e7 ps)->R (.ok (.ret res)) { s with heap:=h',toks:=tk' })->
 codeAny (model prog w) A (.builtin "dict.update.loop" ⟨[.ref d,.ref it,.int i tk,res],[]⟩) R s:=by
 intro m
 induction m with
 |zero=>
  intro i s tk hm hi hit hl hd hp hR;have e:i=ps.length:=Yo;subst e;rw[qR]at hd;refine codeAny_builtin wI ?_;rw[Around.under_plainId kK _];show wpAny _ A.in1 (pyNext (.ref it) >>= _) _ _ s;refine qb (wpAny_pyNext_list_end (by simpa using hh) hit hl (Array.getElem?_eq_none (by rw[hp.1];exact qi _)) λh' ex=>?_);show wpAny _ _ (Builtin.Dict.addKeywords d [] >>= _) _ _ _;refine qb (qh (qh (hR h' s.toks (λb o nb _ q=>ex b o nb q) ?_)));obtain⟨o,es,ep,ho,r⟩:=hd;exact⟨o,es,ep,ex d o (Ne.symm nid) ho,r⟩
 |succ m ih=>
  intro i s tk hm hi hit hl hd hp hR;have lt:i<ps.length:=Yo;obtain⟨t,key,e1,e2,e3⟩:=hp.2 i ps[i] (qg lt);refine codeAny_builtin wI ?_;rw[Around.under_plainId kK _];show wpAny _ A.in1 (pyNext (.ref it) >>= _) _ _ s;refine qb (wpAny_pyNext_list_item hit hl e1 λh1 hit1 sb1=>?_);obtain⟨ot,et1,et2,nt,et3⟩:=e2
  have ntit:t≠it:=λz=>by
   obtain⟨oi,q1,q2,_⟩:=hit;rw[z,q1]at et1;cases et1;rw[q2]at et2;exact Qf (Value.type.inj et2) Yk
  have ntd:t≠d:=λz=>by
   obtain⟨od,q1,q2⟩:=(show s.TypeIs (.ref d) "dict" from hd.typeIs);rw[z,q1]at et1;cases et1;rw[q2]at et2;exact Qf (Value.type.inj et2) Yk
  have et1':h1.get? t=some ot:=(sb1.2 t ntit).trans et1;have hd1:h1.DictOf knd d (e7 (ps.take i)):=hd.sameBut sb1 (Ne.symm nid);refine qb (QG (qb (wpAny_tryCatch ?_)));unfold Builtin.Dict.pairItems;refine qb (wpAny_typeOf_ref et1' ?_);rw[et2];refine qb (QH et1' et3 (qh ?_));refine QG (wpAny_dictSet_pairs e3 hd1 (λh2 hd2 sb2=>?_) ?_)
  .refine qh ⟨plainId_quiet kK _,ih (i+1) { s with heap:=h2,toks:=s.toks+1 } 0 Yo Yo ?_ ?_ ?_ ?_ λh' tk' kp dd=>hR h' tk' (λb o n1 n2 q=>kp b o n1 n2 ((sb2.2 b n2).trans ((sb1.2 b n1).trans q))) dd⟩
   .obtain⟨o,q1,r⟩:=hit1;exact⟨o,(sb2.2 it nid).trans q1,r⟩
   .obtain⟨o,q1,r⟩:=hl;exact⟨o,(sb2.2 l nld).trans ((sb1.2 l (Ne.symm nil')).trans q1),r⟩
   .rw[qC,qg lt];show h2.DictOf knd d (e7 (ps.take i++[ps[i]]));rw[zi];exact hd2
   .refine hp.keep λb o q1 q2=>?_
    have nb1:b≠it:=λz=>by
     obtain⟨oi,r1,r2,_⟩:=hit;rw[z,r1]at q1;cases q1;rw[r2]at q2;exact Qf (Value.type.inj q2) Yk
    have nb2:b≠d:=λz=>by
     obtain⟨od,r1,r2⟩:=(show s.TypeIs (.ref d) "dict" from hd.typeIs);rw[z,r1]at q1;cases q1;rw[r2]at q2;exact Qf (Value.type.inj q2) Yk
    exact(sb2.2 b nb2).trans ((sb1.2 b nb1).trans q1)
  .have h1:=small (ps.take i) (by rw[qU];omega);have h2:(ps.take i).length<=ps.length:=by rw[qU];omega
   omega
end
section
variable {prog:Program}{w:World}{A:Around}{E:Yq}{K:Type} [DecidableEq K] {knd:KeyKind prog w K}{s:Shared}
theorem Ff{l:Addr}{xs:Array Value}{k:Nat}{sl:Array (Option Value)}{ps:List (K×Value)}{Q:Yq}(hh:A.handled=none)(hl:s.heap.get? l=some { cls:=.type "list",dict:=none,data:=.seq xs k,slots:=sl })(hp:jJ knd s.heap xs ps)(few:ps.length<=sizeLine)
 (small:∀qs,qs.length<=ps.length->(e7 (qs:List (K×Value))).length<=qs.length)
 (h:∀h' tk,(∀b o,s.heap.get? b=some o->h'.get? b=some o)->h'.DictOf knd s.heap.objs.size (e7 ps)->Q (.ref s.heap.objs.size) { s with heap:=h',toks:=tk }):
 wpAny (model prog w) A (call (.type "dict") [.ref l]) Q E s:=by
 refine callType_codes (Q₁:=λobj s₁=>obj=.ref s.heap.objs.size/\s₁={ s with heap:=s.heap.push { cls:=.type "dict",data:=.dict #[] } }) PySem.F.kt_called_dict (PySem.F.kt_typeCall_dict_1 _) PySem.F.entry_dict_init (kt_code_dict_new _ ⟨U,U⟩) ?_;rintro obj s₁ ⟨rfl,rfl⟩;have hnew:(s.heap.push { cls:=.type "dict",data:=.dict #[] }).DictOf knd s.heap.objs.size []:=Heap.DictOf.new s.heap;refine⟨hnew.typeIs,PySem.F.args_dict_init_2 _ _,?_⟩;unfold Builtin.«dict.__init__»;refine qb ?_;unfold Builtin.Dict.selfAndRest;refine qb (wpAny_notOrdered_dict hnew.typeIs ?_);show wpAny _ _ (pure (s.heap.objs.size,[Value.ref l])) _ _ _;refine qh ?_;show wpAny _ _ (Builtin.Dict.updateFrom "dict.__init__" s.heap.objs.size (.ref l) [] .none) _ _ _;unfold Builtin.Dict.updateFrom;have hl':(s.heap.push { cls:=.type "dict",data:=.dict #[] }).get? l=some { cls:=.type "list",dict:=none,data:=.seq xs k,slots:=sl }:=qe _ hl;refine qb (wpAny_typeOf_ref hl' ?_);rw[Qc (show((Value.type "list":Value) != Value.type "dict")=true by decide)];refine qb (E5 (by simpa using hh) hl' λh1 tk1 kp1=>?_);rw[Qc (show(none:Option Value).isNone=true from rfl)];refine qb (wpAny_rule ?_);have hl1:=kp1 _ _ hl'
 have hd1:h1.DictOf knd s.heap.objs.size []:=by
  obtain⟨o,es,ep,ho,r⟩:=hnew;exact⟨o,es,ep,kp1 _ _ ho,r⟩
 refine qb (wpAny_pyIter_list (items:=xs) ⟨_,hl1,U,_,U⟩ ?_);have nl:l≠s.heap.objs.size:=λz=>Qf (qA hl) (by rw[z];exact Qm _)
 have sz:s.heap.objs.size<h1.objs.size:=by
  obtain⟨o,_,_,ho,_⟩:=hd1;exact qA ho
 have nit:h1.objs.size≠l:=λz=>Qf (qA hl1) (by rw[<- z];exact Qm _);refine qh ⟨plainId_quiet kK _,Fg (knd:=knd) (items:=xs) (ps:=ps) (by simpa using hh) nit (Nat.ne_of_gt sz) nl few small ps.length 0 _ 0 (Nat.sub_zero _) (qD _) ?_ ?_ ?_ ?_ λh' tk' kp dd=>?_⟩
 .exact⟨_,qz _ U,U,U⟩
 .exact⟨_,qe _ hl1,U,_,U⟩
 .exact hd1.push _
 .exact(hp.keep λt o q _=>kp1 _ _ (qe _ q)).keep λt o q _=>qe _ q
 .refine⟨U,h h' tk' (λb o q=>?_) dd⟩;have lt:=qA q;exact kp b o (qQ (Nat.lt_trans lt sz)) (qQ lt) (qe _ (kp1 _ _ (qe _ q)))
end
noncomputable def io(ps:List (Key×V)):List (Key×V):=ps.foldl (λkvs p=>bO kvs p.1 p.2) []
theorem BF(ps:List (Key×V)):(io ps).length<=ps.length:=by
 have:∀(ps kvs:List (Key×V)),(ps.foldl (λkvs p=>bO kvs p.1 p.2) kvs).length<=kvs.length+ps.length:=by
  intro ps
  induction ps with
  |nil=>intro kvs;simp
  |cons p r ih=>
   intro kvs;have h1:=ih (bO kvs p.1 p.2);have h2:=jp kvs p.1 p.2;rw[QK,qL];omega
 have:=this ps [];simpa[io]using this
theorem zh{K:Type}[DecidableEq K](kvs:List (K×Value))(k:K)(v:Value):(stored kvs k v).length<=kvs.length+1:=by
 unfold stored;split<;>simp
theorem zj{K:Type}[DecidableEq K](qs:List (K×Value)):(e7 qs).length<=qs.length:=by
 have:∀(ps kvs:List (K×Value)),(ps.foldl (λkvs p=>stored kvs p.1 p.2) kvs).length<=kvs.length+ps.length:=by
  intro ps
  induction ps with
  |nil=>intro kvs;simp
  |cons p r ih=>
   intro kvs;have h1:=ih (stored kvs p.1 p.2);have h2:=zh kvs p.1 p.2;rw[QK,qL];omega
 have:=this qs [];simpa[e7]using this
section
variable {X:Cx}{pins:List (Addr×Obj)}{Y:St}{H:Hp}{s:Shared}
def Bq(K:W.Frag):List V->Hp->VK->Prop:=λvs H Q=>∃l us ps,vs=[.ref l]/\H l=some (.lst us)/\us.length=ps.length/\ps.length<=sizeLine/\(∀(i:Nat)(p:Key×V),ps[i]?=some p->∃t,us[i]?=some (.ref t)/\H t=some (.tup [kV p.1,p.2]))/\∀d,H d=none->Q (.ref d) (upd H d (.dK (io ps)))
theorem uX{h:Heap}(ok:HOk X.prog X.w H h):∀(us:List V)(its:List Value)(ps:List (Key×V)),aw us its->us.length=ps.length->(∀(i:Nat)(p:Key×V),ps[i]?=some p->∃t,us[i]?=some (.ref t)/\H t=some (.tup [kV p.1,p.2]))->
 ∃qs:List (Key×Value),KV ps qs/\its.length=qs.length/\∀(i:Nat)(q:Key×Value),qs[i]?=some q->∃t key,its[i]?=some (.ref t)/\h.IsTuple t #[key,q.2]/\(cN X.prog X.w).is q.1 key=true
 |[],_,[],.nil,_,_=>⟨[],.nil,U,λi q hq=>by simp at hq⟩
 |u::us,_,[],_,hl,_=>by simp at hl
 |[],_,p::ps,_,hl,_=>by simp at hl
 |u::us,_,p::ps,@Paired.cons _ _ _ _ y _ ys rx r,hl,hp=>by
  obtain⟨t,e1,e2⟩:=hp 0 p U;obtain rfl:u=.ref t:=by simpa using e1
  obtain⟨qs,kv,ln,hq⟩:=uX ok us ys ps r (by simpa using hl) λi p' h'=>by
   obtain⟨t',a,b⟩:=hp (i+1) p' (by simpa using h');exact⟨t',by simpa using a,b⟩
  obtain⟨_,jts,rj,o,h1,h2,n,h3⟩:=(show bp X.prog X.w H h t (.tup [kV p.1,p.2])from ok t _ e2);obtain⟨k1,v1,rfl,r1,r2⟩:=gB rj;cases rx;refine⟨(p.1,v1)::qs,.cons ⟨U,r2⟩ kv,by simp[ln],λi q h'=>?_⟩
  cases i with
  |zero=>
   have e:(p.1,v1)=q:=by simpa using h'
   subst e;exact⟨t,k1,U,⟨o,h1,h2,n,h3⟩,iI r1⟩
  |succ i=>exact hq i q (by simpa using h')
theorem KV.all:∀{ps:List (Key×V)}{qs:List (Key×Value)},KV ps qs->KV (io ps) (e7 qs):=by
 have:∀{ps:List (Key×V)}{qs:List (Key×Value)},KV ps qs->∀{a:List (Key×V)}{b:List (Key×Value)},KV a b->KV (ps.foldl (λkvs p=>bO kvs p.1 p.2) a) (qs.foldl (λkvs p=>stored kvs p.1 p.2) b):=by
  intro ps qs h
  induction h with
  |nil=>intro a b h;exact h
  |cons hx _ ih=>
   intro a b h;obtain⟨e1,e2⟩:=hx;rw[QK,QK,<- e1];exact ih (h.put _ e2)
 intro ps qs h;exact this h .nil
theorem xg(hc:X.calm=true):cJ X (.type "dict") (Bq X.K):=by
 intro pins s Y H xs us Q I r h;obtain⟨l,ys,ps,rfl,hl,ln,few,hp,q⟩:=h;obtain⟨u,rfl,rx⟩:=fH r;cases rx;obtain⟨hz,its,c',r',e⟩:=(show bp X.prog X.w H s.heap l (.lst ys)from I.hok l _ hl);obtain⟨qs,kv,ln',hq⟩:=uX I.hok ys its ps r' ln hp;have kl:=kv.length;refine Ff (knd:=cN X.prog X.w) (ps:=qs) (I.ok.hd hc) e ⟨by simpa using ln',λi p hp=>?_⟩ Yo (λqs _=>zj qs) λh' tk kp dd=>?_
 .obtain⟨t,key,a,b,c⟩:=hq i p hp;exact⟨t,key,by simpa using a,b,c⟩
 .have len:=BF ps;refine⟨.ref s.heap.objs.size,_,I.laid (t':=tk) kp (qi _) (wL Yo ?_ kv.all dd),U,q _ (I.hok.fresh (qi _))⟩;exact(wM s.heap I.big:bp X.prog X.w H _ s.heap.objs.size (.dK [])).2.1
end
end L2
namespace Tr
open PySem PySem.Spec PyProof.Rows L2
noncomputable abbrev sl(x:Str):List Nat:=x.cps.toList
theorem iY(x y:Str):sl (x++y)=sl x++sl y:=by
 show(x.cps++y.cps).toList=_;simp
theorem zK(x:Str):x.length=(sl x).length:=U
theorem tY(x:Str)(l u:Option Int):sl (Txt.slice x l u)=((sl x).drop (HT.sIx x.length 0 l)).take (HT.sIx x.length x.length u-HT.sIx x.length 0 l):=by
 have e:Builtin.Str.strSliceIndices l u 1 x.length=(List.range (HT.sIx x.length x.length u-HT.sIx x.length 0 l)).map (HT.sIx x.length 0 l+·):=by
  rw[<- sliceRange_one];unfold Builtin.Str.strSliceIndices;simp only[show(1:Int) > 0 by decide,if_true]
  congr 1
  .cases l with
   |none=>rfl
   |some i=>
    simp only[HT.sIx];split<;>omega
  .cases u with
   |none=>rfl
   |some i=>
    simp only[HT.sIx];split<;>omega
 unfold Txt.slice;rw[e];split
 .rename_i h;simp only[qc,Qo,Bool.and_eq_true,beq_iff_eq]at h;have h1:=HT.sIx_le x.length 0 (qD _) l;have h2:=HT.sIx_le x.length x.length (qi _) u;by_cases z:x.length=0
  .have:sl x=[]:=List.length_eq_zero_iff.mp z;rw[this];simp
  .have a0:HT.sIx x.length 0 l=0:=by omega
   have b0:HT.sIx x.length x.length u=x.length:=Yo;rw[a0,b0];simp only[List.drop_zero,Nat.sub_zero];exact(qR).symm
 .show(((List.range _).map _).filterMap (x.cps[·]?)).toArray.toList=_;rw[pick_run]
theorem lQ{x:Str}{k:Int}(h:0<=k):sl (Txt.slice x none (some k))=(sl x).take k.toNat:=by
 obtain⟨n,rfl⟩:=Int.eq_ofNat_of_zero_le h;rw[tY];simp only[HT.sIx_none,List.drop_zero,Nat.sub_zero];rw[show(some (n:Int))=some ((n:Nat):Int)from rfl,HT.sIx_nat];show _=(sl x).take n;rw[List.take_eq_take_iff];show min (min n (sl x).length) _=_;omega
theorem jB{j:Int}(h1:0<=j)(h2:j<26):bX j=97+j.toNat:=by
 obtain⟨n,rfl⟩:=Int.eq_ofNat_of_zero_le h1;have all:∀n:_root_.Fin 26,dk.cps.toList.getD n.1 0=97+n.1:=Yd;exact all ⟨n,Yo⟩
theorem Eb:∀w∈kws,sl w=(sl w).dropLast++[(sl w).getLastD 97]/\2<=(sl w).length:=Yd
theorem tX(w:Str):sl (cW w)=sl w\/(2<=(sl w).length/\sl (cW w)=(sl w).dropLast++[bX ((gO w+13) % 26)]):=by
 unfold cW;split
 .rename_i h;obtain⟨e,h2⟩:=Eb w h;refine .inr ⟨h2,?_⟩;rw[iY,tY];simp only[HT.sIx_none,List.drop_zero,Nat.sub_zero]
  have:HT.sIx w.length w.length (some (-1))=(sl w).length-1:=by
   simp only[HT.sIx,show((-1:Int)<0)by decide,if_true];rw[zK];omega
  rw[this,List.dropLast_eq_take]
  rfl
 .exact .inl U
theorem zy(w:Str):(sl (cW w)).length=(sl w).length:=by
 rcases tX w with h|⟨h2,h⟩
 .rw[h]
 .rw[h,qf,QL,Qh];omega
theorem jZ{w:Str}{p:Nat}{m:Int}(h1:0<=m)(h2:m<26)(e:(sl w)[p]?=some (bX m)):(sl (cW w))[p]?=some (bX m)\/(sl (cW w))[p]?=some (bX ((m+13) % 26)):=by
 rcases tX w with h|⟨hl,h⟩
 .rw[h];exact .inl e
 .obtain⟨hp,ep⟩:=qj.mp e;rw[h];by_cases q:p=(sl w).length-1
  .refine .inr ?_
   have hlast:(sl w).getLastD 97=bX m:=by
    rw[<- ep,List.getLastD_eq_getLast?,List.getLast?_eq_getElem?,<- q,e,<- ep]
    rfl
   have:gO w=m:=by
    unfold gO;show(((sl w).getLastD 97:Nat):Int)-97=m;rw[hlast,jB h1 h2];omega
   rw[this,qV (by rw[QL];omega),QL,show p-((sl w).length-1)=0 by omega]
   rfl
  .refine .inl ?_;rw[Qg (by rw[QL];omega),List.getElem?_dropLast,Qc Yo];exact e
theorem apart{q i j:Int}(hi:0<=i/\i<13)(hj:0<=j/\j<13)(ne:i≠j){a b:Nat}(ha:a=bX ((q+i) % 26)\/a=bX (((q+i) % 26+13) % 26))(hb:b=bX ((q+j) % 26)\/b=bX (((q+j) % 26+13) % 26)):a≠b:=by
 intro e;have z1:=jB (j:=(q+i) % 26) Yo Yo;have z2:=jB (j:=((q+i) % 26+13) % 26) Yo Yo;have z3:=jB (j:=(q+j) % 26) Yo Yo;have z4:=jB (j:=((q+j) % 26+13) % 26) Yo Yo;rcases ha with rfl|rfl<;>rcases hb with rfl|rfl<;>omega
theorem vL(n:Int):∀k,(sl (cO n k)).length=k
 |0=>rfl
 |k+1=>by rw[cO,iY,qf,vL n k];rfl
theorem BP(c:Int){i j:Nat}(hi:i<8)(hj:j<8)(ne:i≠j):cW (bR c i)≠cW (bR c j):=by
 intro e;have e':=congrArg sl e;have sg:∀k:Nat,sl (eW c k)=[bX ((aE c 1 / 192+k) % 26)]:=λ_=>U;have bl:(sl (bP c)).length=8:=vL _ 8;by_cases h0:aE c 1 % 3=0
 .have s1:1<=dy c/\dy c<=8:=by unfold dy;omega
  have a1:0<=d6 c/\d6 c<dy c:=by
   unfold d6;exact⟨Qk _ Yo,Qp _ Yo⟩
  have at_:∀k:Nat,(sl (bR c k))[(d6 c).toNat]?=some (bX ((aE c 1 / 192+k) % 26)):=λk=>by
   unfold bR;rw[Qc h0,iY,iY,lQ a1.1,sg,qX,qV (by rw[qU];omega),qU,bl,show(d6 c).toNat-min (d6 c).toNat 8=0 by omega]
   rfl
  have x:=jZ Yo Yo (at_ i);have y:=jZ Yo Yo (at_ j);rw[<- e']at y;rcases x with x|x<;>rcases y with y|y<;>rw[x]at y<;>refine apart (q:=aE c 1 / 192) (i:=i) (j:=j) Yo Yo Yo ?_ ?_ (qT y)<;>simp
 .by_cases h1:aE c 1 % 3=1
  .have ln:∀k:Nat,((sl (cW (bR c k))).length:Int)=1+(aE c 1 / 24+k) % 8:=λk=>by
    rw[zy];unfold bR;rw[Qb h0,Qc h1,lQ Yo,qU,bl];omega
   have x:=ln i;have y:=ln j;rw[e']at x;omega
  .have at_:∀k:Nat,(sl (bR c k))[0]?=some (bX ((aE c 1 / 192+k) % 26)):=λk=>by
    unfold bR;rw[Qb h0,Qb h1,lQ Yo,iY,sg,List.getElem?_take,Qc Yo]
    rfl
   have x:=jZ Yo Yo (at_ i);have y:=jZ Yo Yo (at_ j);rw[<- e']at y;rcases x with x|x<;>rcases y with y|y<;>rw[x]at y<;>refine apart (q:=aE c 1 / 192) (i:=i) (j:=j) Yo Yo Yo ?_ ?_ (qT y)<;>simp
theorem BO(c:Int){n:Nat}(h:n<=8):(d0 c n).Nodup:=by
 have up:(dS c n).Nodup:=by
  unfold dS;refine List.pairwise_map.mpr (List.Pairwise.imp_of_mem (λ{a b} ha hb lt=>?_) (List.pairwise_lt_range (n:=n)));have h1:=List.mem_range.mp ha;have h2:=List.mem_range.mp hb;exact BP c Yo Yo Yo
 unfold d0;split
 .exact List.pairwise_reverse.mpr (List.Pairwise.imp (λh=>Ne.symm h) up)
 .exact up
end Tr
namespace L2
open PySem PySem.Spec PyProof.Rows
section
variable {X:Cx}
theorem Ep:IxR X (λx y H Q=>∃a kvs k v,x=.ref a/\H a=some (.dK kvs)/\y=kV k/\bn kvs k=some v/\Q v H):=by
 intro value slice pins s Y H x y v u Q I rx ry h hs;obtain⟨a,kvs,k,z,rfl,hd,rfl,e,q⟩:=h;cases rx;obtain⟨_,ne,vs,rel,dd⟩:=pH I.hok hd;obtain⟨w',hw,rw'⟩:=cQ.some_of (v:=z) (o:=valueAt vs k) (by rw[<- e];exact rel.val k);exact tail_any dd.typeIs PySem.F.slot_dict_getitem.lookup (wpAny_getItem_of (iI ry) dd.mapOf hw ⟨z,H,I.tok _,rw',q⟩) hs
end
end L2
namespace Tr
open PySem PySem.Spec PyProof.Rows L2
theorem Ft(xs:List Int){n:Int}(h:0<=n):fE (xs.map V.int) (some n) none=(xs.drop n.toNat).map V.int:=by
 obtain⟨k,rfl⟩:=Int.eq_ofNat_of_zero_le h;unfold fE;rw[HT.sIx_none,show(some ((k:Nat):Int))=some ((k:Nat):Int)from rfl,HT.sIx_nat,qc,Q9,<- List.map_drop,<- List.map_take]
 congr 1
 by_cases z:k<=xs.length
 .rw[Nat.min_eq_left z,List.take_of_length_le (by rw[Qa];omega)]
 .rw[Nat.min_eq_right Yo,List.drop_of_length_le (qi _),List.drop_of_length_le Yo];simp
end Tr
namespace L2
open PySem
noncomputable def itr(mask:Nat):Nat->Nat->Nat->Nat
 |0,i,_=>i
 |m+1,i,p=>itr mask m (SetTable.leap mask i p).1 (SetTable.leap mask i p).2
theorem wn{mask:Nat}{ow:Array (Option Nat)}:∀(fuel i p:Nat),i<=mask->SetTable.layClean.free mask ow fuel i p=none->∀m,m<fuel->(ow.getD (itr mask m i p) (some 0)).isNone=false
 |0,_,_,_,_,m,hm=>Qf hm (QJ m)
 |fuel+1,i,p,hi,h,m,hm=>by
  unfold SetTable.layClean.free at h;split at h
  .cases h
  .rename_i hf
   cases m with
   |zero=>
    have:=List.find?_eq_none.mp hf 0 (by
     rw[List.mem_range];unfold SetTable.runEnd
     split<;>omega)
    show(ow.getD i (some 0)).isNone=false;simpa only[Nat.add_zero,Bool.not_eq_true]using this
   |succ m=>exact wn fuel _ _ (Nat.le_of_lt_succ (Nat.mod_lt _ (Nat.succ_pos _))) h m Yo
theorem wo{mask:Nat}{ow:Array (Option Nat)}:∀(fuel i p j:Nat),SetTable.layClean.free mask ow fuel i p=some j->(ow.getD j (some 0)).isNone=true
 |0,_,_,_,h=>by unfold SetTable.layClean.free at h;cases h
 |fuel+1,i,p,j,h=>by
  unfold SetTable.layClean.free at h;split at h
  .rename_i k hk;cases h;exact List.find?_some (p:=λk=>(ow.getD (i+k) (some 0)).isNone) hk
  .exact wo fuel _ _ j h
theorem w5(mask:Nat):∀(a b i p:Nat),itr mask (a+b) i p=itr mask b (itr mask a i p) (p / 32 ^ a)
 |0,b,i,p=>by simp[itr]
 |a+1,b,i,p=>by
  rw[Nat.succ_add];show itr mask (a+b) _ _=itr mask b (itr mask a _ _) _;rw[w5 mask a b];unfold SetTable.leap;rw[Nat.div_div_eq_div_mul,Nat.pow_succ,Nat.mul_comm (32 ^ a) 32]
theorem vY{mask:Nat}:∀(a i p:Nat),i<=mask->itr mask a i p<=mask
 |0,i,p,h=>h
 |a+1,i,p,h=>vY a _ _ (by unfold SetTable.leap;exact Nat.le_of_lt_succ (Nat.mod_lt _ (Nat.succ_pos _)))
theorem wz:∀(l:List (Option Nat))(j k:Nat),l[j]?=some none->((l.set j (some k)).filterMap id).Perm (k::l.filterMap id)
 |[],j,k,h=>by simp at h
 |x::l,0,k,h=>by
  obtain rfl:x=none:=by simpa using h
  exact .refl _
 |x::l,j+1,k,h=>by
  have ih:=wz l j k (by simpa using h)
  cases x with
  |none=>simpa using ih
  |some y=>
   show(y::(l.set j (some k)).filterMap id).Perm (k::y::l.filterMap id);exact(ih.cons y).trans (.swap _ _ _)
theorem wA:∀(l:List (Option Nat)),(l.filterMap id).length<l.length->∃j:Nat,l[j]?=some none
 |[],h=>Qf h (Qm _)
 |none::l,_=>⟨0,U⟩
 |some y::l,h=>by
  obtain⟨j,q⟩:=wA l (by simpa using h);exact⟨j+1,by simpa using q⟩
theorem uQ{α:Type}(es:Array α)(order:Array Nat)(h:order.toList.Perm (List.range es.size)):(order.filterMap (es[·]?)).toList.Perm es.toList:=by
 rw[Array.toList_filterMap];refine(h.filterMap _).trans ?_
 have:∀l:List α,(List.range l.length).filterMap (l[·]?)=l:=λl=>by
  induction l with
  |nil=>rfl
  |cons x l ih=>
   rw[qL,List.range_succ_eq_map,List.filterMap_cons,List.filterMap_map];exact congrArg (x::·) ih
 have q:=this es.toList;rw[qW]at q;simp only[Q5]at q;rw[q]
section
variable {P:Program}{w:World}{A:Around}{E:Yq}{s:Shared}
theorem Af:entryFor table "set.__or__"=some Builtin.«frozenset.__or__»:=entryFor_alias (id':="frozenset.__or__") (by kernel_rfl) U Yd (by kernel_rfl)
theorem rS{es es':Array (Int×Value)}{t t':SetTable}{ys:List Str}(T:aT P w es t ys)(hp:es'.toList.Perm es.toList)(hf:t'.fits es'.size=true)(hl:t'.led=t.led)(hpl:t'.plain=false):aT P w es' t' ys:=by
 have sz:es'.size=es.size:=by rw[<- qW,hp.length_eq,qW]
 exact⟨T.el.perm hp,(hp.map _).nodup_iff.mpr T.nd,λk=>((hp.map _).mem_iff).trans (T.mem k),by rw[sz];exact T.few,hf,hl.trans T.led,λ_=>hpl⟩
end
end L2
namespace L2
open PySem PySem.Spec PyProof.Rows
section
variable {X:Cx}
end
section
variable {P:Program}{w:World}{A:Around}{E:Yq}{s:Shared}
end
section
variable {X:Cx}
theorem KV.get:∀{ps:List (Key×V)}{qs:List (Key×Value)}{i:Nat}{p:Key×V},KV ps qs->ps[i]?=some p->∃q,qs[i]?=some q/\p.1=q.1/\aF p.2 q.2
 |_,_,_,_,.nil,h=>by simp at h
 |_,_,0,_,.cons hx _,h=>by
  simp only[List.getElem?_cons_zero,Option.some.injEq]at h;subst h;exact⟨_,U,hx.1,hx.2⟩
 |_,_,i+1,_,.cons _ r,h=>by
  obtain⟨q,e,z⟩:=KV.get r (by simpa using h);exact⟨q,by simpa using e,z⟩
def yP(td:TE):TE:=λY H Q=>td Y H λx H1=>∃a kvs,x=.ref a/\H1 a=some (.dK kvs) /\
 ∀H' l (ts:List Addr),aa H1 H'->H1 l=none->H' l=some (.lst (ts.map V.ref))->ts.length=kvs.length->(∀(j:Nat)(t:Addr)(p:Key×V),ts[j]?=some t->kvs[j]?=some p->H' t=some (.tup [kV p.1,p.2])/\H1 t=none)->Q (.ref l) H'
theorem Ew{P:Program}{w:World}{k:Key}{u:Value}(h:(cN P w).is k u=true):aF (kV k) u:=by
 have h:gQ k u=true:=h;rcases fq h with⟨i,t,rfl,rfl⟩|⟨x,t,rfl,rfl⟩
 .exact⟨t,U⟩
 .exact⟨t,U⟩
theorem C7{o:Expr}{p1 apos cpos pos1:Pos}{td:TE}(hc:X.calm=true)(hg:Gl X "list")(hm:X.mg "list"=none)(ho:PE X o td)
 (hbase:attributeBase o "items" X.env (eval o X.env)=eval o X.env:=by rfl) (hline:(apos.endLine == cpos.line)=true:=by rfl)
 (hs3:starEach [.Call (.Attribute o "items" apos) [] [] cpos] X.env=[(false,eval (.Call (.Attribute o "items" apos) [] [] cpos) X.env)]:=by rfl):
 PE X (.Call (.Name "list" p1) [.Call (.Attribute o "items" apos) [] [] cpos] [] pos1) (yP td):=by
 intro pins s Y H Q I h;refine wpAny_Call_Name_kw (fk I hg hm PyProof.Rows.Boot.«list» ?_);refine PyProof.Rows.callWith_type1 ?_ (by rw[hs3];rfl) U;rw[hs3];show wpAny _ _ (spliced ((false,eval (.Call (.Attribute o "items" apos) [] [] cpos) X.env)::backTo pos1 [])) _ _ s;refine Calls.spliced_cons ?_;refine wpAny_Call_method0_late hbase hline (thn (ho pins s Y H _ I h) λv s1 ⟨x,H1,I1,r1,a,kvs,ex,eH,q⟩=>?_);subst ex;obtain rfl:v=Value.ref a:=r1;obtain⟨z,hd,vs,rel,dd⟩:=pH I1.hok eH;obtain⟨t1,t2,_⟩:=wa I1 (.inl ⟨kvs,.inl eH⟩);refine⟨"dict","dict.items",PySem.F.plainAttrs_dict,PySem.F.slot_dict_items,PySem.F.type_dict_items,t1,t2,Calls.callWith_builtin U (PySem.evalArgs_none ?_)⟩;refine call_meetsIn PySem.F.slot_dict_items dd.typeIs PySem.F.entry_dict_items (PySem.F.args_dict_items_1 _) (meets_dict_items (cN X.prog X.w) a hd) ⟨⟨vs,dd⟩,?_⟩;refine Calls.spliced_nil ?_;obtain⟨ep,da⟩:=dd.dictAt;have kl:=rel.length;refine PySem.W.kdx_call (s:={ s1 with heap:=s1.heap.push { cls:=.type "dict_items",data:=.fields #[.ref a] } }) (knd:=cN X.prog X.w) (kvs:=vs) (ep:=ep) (I1.ok.hd hc) ⟨_,qz _ U,U,U⟩ (da.push _) Yo λh' tk acc c ts kp gl tl hG ets=>?_;have keep:∀b o,s1.heap.get? b=some o->h'.get? b=some o:=λb o e=>kp b o (qe _ e);have J:Inv X pins Y H1 { s1 with heap:=h',toks:=tk }:=I1.kept keep;have szp:(s1.heap.push ({ cls:=.type "dict_items",data:=.fields #[.ref a] }:Obj)).objs.size=s1.heap.objs.size+1:=Qq _ _
 have old:∀t∈ts,s1.heap.objs.size<=t:=λt ht=>by
  have:=hG.above t ht;have z:s1.heap.objs.size<=(s1.heap.push ({ cls:=.type "dict_items",data:=.fields #[.ref a] }:Obj)).objs.size:=by rw[szp];exact Nat.le_succ _
  exact qJ z (Nat.le_of_lt this)
 obtain⟨H',I3,s3,o3,a3⟩:=rR (s:={ s1 with heap:=h',toks:=tk }) I1 ts (kvs.map λp=>(kV p.1,p.2)) H1 J (by rw[qc];omega) hG.rise (λt ht=>⟨old t ht,I1.hok.fresh (old t ht)⟩) λj t p h1 h2=>by
  obtain⟨key,k,x,e1,e2,e3⟩:=hG.pairs j t h1;rw[qO]at h2;obtain⟨p',hp',rfl⟩:=qZ.mp h2;obtain⟨q',hq',rq1,rq2⟩:=KV.get rel hp';rw[e1]at hq';cases hq';have rq1:p'.1=k:=rq1;subst rq1;exact⟨key,x,Ew e2,rq2,e3⟩
 have lL:s1.heap.objs.size<=(s1.heap.push ({ cls:=.type "dict_items",data:=.fields #[.ref a] }:Obj)).objs.size:=by rw[szp];omega
 generalize (s1.heap.push ({ cls:=.type "dict_items",data:=.fields #[.ref a] }:Obj)).objs.size=L at gl hG lL ⊢;have nL:L∉ts:=λhm=>Qm _ (hG.above _ hm);have fL:H1 L=none:=I1.hok.fresh lL;have hL:H' L=none:=by rw[o3 _ nL];exact fL
 have vr:∀ts:List Addr,aw (ts.map V.ref) (ts.map Value.ref):=λts=>by
  induction ts with
  |nil=>exact .nil
  |cons t ts ih=>exact .cons U ih
 have I4:Inv X pins Y (upd H' L (.lst (ts.map V.ref))) { s1 with heap:=h',toks:=tk }:=I3.track (I1.fpOk lL hL) (qJ I1.sz lL) ⟨by rw[qc];omega,ts.map Value.ref,c,vr ts,by rw[<- ets];simpa using gl⟩;refine⟨.ref L,_,I4,U,q _ L ts (s3.trans (aa.new hL _)) fL ag Yo λj t p h1 h2=>⟨?_,I1.hok.fresh (old t (qK h1))⟩⟩;exact aa.new hL _ _ _ (a3 j t (kV p.1,p.2) h1 (by rw[qO,h2];rfl))
end
structure hU(K:W.Frag)(x qual:Str)(st:Stmt)(f:Addr)(fd:FuncData)(dv:Value):Prop where
 ex:∃(oc:Value)(od:Option Addr)(kV doc pm:Value)(an:Option Addr)(cdv ct:Value)(osl:Array (Option Value))(dt:Addr)(d2:Option Addr)(n:Nat)(e2:Array (Option Value)),
  fd=PySem.W.fnOf x qual (dO st) (d9 st) (ax st) (.ref dt) kV doc pm an cdv ct/\K.lookup f=some ⟨oc,od,.func fd,osl⟩/\PySem.W.codeIn K cdv qual=true/\K.lookup dt=some ⟨.type "tuple",d2,.seq #[dv] n,e2⟩
 kp:PySem.W.keepIn K (.ref f)=true
section
variable {P:Program}{w:World}{K:W.Frag}{mg:Str->Option Value}{base:Heap}
theorem hU.binds{x qual:Str}{st:Stmt}{f:Addr}{fd:FuncData}{dv:Value}{ps:List Str}(F:hU K x qual st f fd dv)(ds:List Value)
 (h:∀(kV doc pm:Value)(an:Option Addr)(cdv ct:Value)(dt:Addr)(o:Obj)(n:Nat)(s:Shared)(us:List Value),s.heap.get? dt=some o->o.data=.seq #[dv] n->(us++ds).length=ps.length->
  BindsTo s (PySem.W.fnOf x qual (dO st) (d9 st) (ax st) (.ref dt) kV doc pm an cdv ct) ⟨us,[]⟩ (ps.zip (us++ds))):aJ K fd ps ds:=by
 obtain⟨oc,od,kV,doc,pm,an,cdv,ct,osl,dt,d2,n,e2,rfl,lk,hcd,lt⟩:=F.ex;exact λs us X hl=>h kV doc pm an cdv ct dt _ n s us (X _ _ lt) U hl
theorem EN{x qual:Str}{st:Stmt}{f dt:Addr}{oc:Value}{od an d2:Option Addr}{osl e2:Array (Option Value)}{n:Nat}{kV doc pm cdv ct dv:Value}{i2:Array Value}(l:K.lookup f=some ⟨oc,od,.func (PySem.W.fnOf x qual (dO st) (d9 st) (ax st) (.ref dt) kV doc pm an cdv ct),osl⟩)
 (c:PySem.W.codeIn K cdv qual=true) (k:PySem.W.keepIn K (.ref f)=true) (t:K.lookup dt=some ⟨.type "tuple",d2,.seq i2 n,e2⟩) (hi:i2=#[dv]):hU K x qual st f (PySem.W.fnOf x qual (dO st) (d9 st) (ax st) (.ref dt) kV doc pm an cdv ct) dv:=by
 subst hi;exact⟨⟨oc,od,kV,doc,pm,an,cdv,ct,osl,dt,d2,n,e2,U,l,c,t⟩,k⟩
end
end L2
namespace Tr
open PySem PySem.Spec PyProof.Rows L2
structure OnW(x:Int):Prop where
 lo:0<=x
 hi:x<1000000000000000000000000000000
noncomputable def nU(sg:Str)(a b:Int):Int:=
 if sg="+" then a+b else if sg="-" then a-b else if sg="*" then a * b else if sg="&" then Builtin.bitAnd a b else if sg="|" then Builtin.bitOr a b else Builtin.bitXor a b
noncomputable def jv(sg:Str)(a b:Int):Int:=
 if sg="/" then(if b=0 then 0 else a / b)else if sg="<" then(if a<b then 1 else 0)else if sg="=" then(if a=b then 1 else 0)else nU sg a b % 1000000000000000000000000000000
theorem wK{sg:Str}{x y:Int}(hx:OnW x)(hy:OnW y):OnW (jv sg x y):=by
 have x0:=hx.lo;have x1:=hx.hi;unfold jv;split
 .split
  .exact⟨Yk,Yk⟩
  .rename_i h;have y0:=hy.lo;have y1:0<y:=Yo;exact⟨Int.ediv_nonneg x0 y0,Int.lt_of_le_of_lt (Int.ediv_le_self y x0) x1⟩
 split
 .split<;>exact⟨Yk,Yk⟩
 split
 .split<;>exact⟨Yk,Yk⟩
 exact⟨Qk _ Yk,Qp _ Yk⟩
abbrev cj:=Str->Int
noncomputable def jN(f:cj):Val->Int
 |.num n=>n
 |.nm x=>f x
noncomputable def dD(f:cj)(x:Str)(v:Int):cj:=λz=>if z=x then v else f z
def gY(C:List Str):Val->Prop
 |.num n=>OnW n
 |.nm x=>x∈C
theorem jM{f:cj}{C:List Str}{a:Val}(hf:∀x,OnW (f x))(h:gY C a):OnW (jN f a):=by
 cases a with
 |num n=>exact h
 |nm x=>exact hf x
theorem gY.names{C:List Str}{a:Val}(h:gY C a):∀x∈a.names,x∈C:=by
 cases a with
 |num n=>intro x hx;simp[Val.names]at hx
 |nm y=>intro x hx;simp[Val.names]at hx;rw[hx];exact h
noncomputable def tab(ks:List Str)(f:cj):List (Key×V):=ks.map λz=>(.inr z,.int (f z))
noncomputable def jC(ks:List Str)(x:Str):List Str:=if x∈ks then ks else ks++[x]
theorem yx(ks:List Str)(f:cj):(tab ks f).map (·.1)=ks.map Sum.inr:=by
 unfold tab;rw[List.map_map]
 rfl
theorem jP(ks:List Str)(f:cj):(tab ks f).length=ks.length:=qc _
theorem iU{f:cj}{x:Str}:∀{ks:List Str},x∈ks->bn (tab ks f) (.inr x)=some (.int (f x))
 |[],h=>by simp at h
 |k::ks,h=>by
  unfold tab bn;rw[Q3,Qj];by_cases e:k=x
  .subst e;simp
  .have h':x∈ks:=by
    rcases qF.mp h with z|z
    .exact Qf z.symm e
    .exact z
   have:=iU (f:=f) h';unfold tab bn at this;simp only[Sum.inr.injEq,e,decide_false];exact this
theorem rT{f:cj}{x:Str}{ks:List Str}(h:x∉ks):bn (tab ks f) (.inr x)=none:=by
 cases e:bn (tab ks f) (.inr x)with
 |none=>rfl
 |some v=>
  have:=rP e;rw[yx]at this;obtain⟨z,hz,ez⟩:=List.mem_map.mp this;cases ez;exact Qf hz h
theorem yw{f:cj}{x:Str}{v:Int}{ks:List Str}(h:x∉ks):tab ks (dD f x v)=tab ks f:=by
 unfold tab;refine List.map_congr_left λz hz=>?_;show(_,V.int (if z=x then v else f z))=_;rw[Qb (λe:z=x=>h (e▸hz))]
theorem lE{f:cj}{x:Str}{v:Int}{ks:List Str}(hn:ks.Nodup):bO (tab ks f) (.inr x) (.int v)=tab (jC ks x) (dD f x v):=by
 unfold jC;split
 .rename_i h;unfold bO
  rw[Qc (by
   rw[List.any_eq_true]
   exact⟨(.inr x,.int (f x)),List.mem_map.mpr ⟨x,h,U⟩,by simp⟩)]
  unfold tab;rw[List.map_map];refine List.map_congr_left λz hz=>?_;show(if _ then _ else _)=_;unfold dD;by_cases e:z=x
  .subst e;simp
  .simp[e]
 .rename_i h;rw[ou _ (rT h)];show _=tab (ks++[x]) (dD f x v);unfold tab;rw[qY];have:=yw (f:=f) (v:=v) h;unfold tab at this;rw[this];simp[dD]
theorem BE{ks:List Str}(hn:ks.Nodup):io (ks.map λz=>((.inr z:Key),V.int 0))=tab ks λ_=>0:=by
 have:∀(ks pre:List Str),(pre++ks).Nodup->(ks.map λz=>((.inr z:Key),V.int 0)).foldl (λkvs p=>bO kvs p.1 p.2) (tab pre λ_=>0)=tab (pre++ks) λ_=>0:=by
  intro ks
  induction ks with
  |nil=>intro pre _;simp
  |cons k r ih=>
   intro pre h;have h':((pre++[k])++r).Nodup:=by simpa using h
   have nk:k∉pre:=λhm=>by
    rw[List.nodup_append]at h;exact h.2.2 k hm k (by simp) U
   rw[Q3,QK]
   have e:bO (tab pre λ_=>0) (.inr k) (V.int 0)=tab (pre++[k]) λ_=>0:=by
    rw[ou _ (rT nk)];simp[tab]
   rw[show bO (tab pre λ_=>0) ((.inr k:Key),V.int 0).1 ((.inr k:Key),V.int 0).2=tab (pre++[k]) λ_=>0 from e,ih _ h'];simp
 exact this ks [] (by simpa using hn)
end Tr
namespace L2
open PySem PySem.Spec PyProof.Rows
section
variable {X:Cx}
def yT(te:TE):TE:=λY H Q=>te Y H λv H1=>∃i:Int,v=.int i/\i.natAbs<2 ^ 1000/\∀z:Str,Q (.str z) H1
theorem Ca{e1 e2 e3:Expr}{c1 c2:Str}{te:TE}{p2 pos:Pos}(h1:PE X e1 (tC (.str c1)))(h2:PE X e2 te)(h3:PE X e3 (tC (.str c2)))(l1:c1.length<=1000:=by decide +kernel)(l2:c2.length<=1000:=by decide +kernel):PE X (.JoinedStr [e1,.FormattedValue e2 (-1) none p2,e3] pos) (yT te):=by
 intro pins s Y H Q I h;refine wpAny_JoinedStr ?_;show Joins (model X.prog X.w) X.A X.xe [eval e1 X.env,eval (.FormattedValue e2 (-1) none p2) X.env,eval e3 X.env] Str.empty _ s;refine thn (h1 pins s Y H (λv H1=>v=.str c1/\H1=H) I ⟨U,U⟩) λu1 s1 ⟨v1,H1,I1,r1,e1,e2⟩=>?_;subst e1 e2;obtain⟨t1,rfl⟩:=r1;refine⟨c1,t1,U,?_,?_⟩
 .exact aR (m:=1000) (by rw[ba];show 0+_<=1000;omega)
 refine wpAny_FormattedValue_plain (thn (h2 pins s1 Y _ _ I1 h) λu2 s2 ⟨v2,H2,I2,r2,i,ev,hi,q⟩=>?_);subst ev;obtain⟨t2,rfl⟩:=r2;have nl:=vo hi;refine wpAny_formatField_int (kR hi) ⟨_,_,U,?_,?_⟩
 .exact aR (m:=3000) (by rw[ba,ba];show 0+_+_<=3000;omega)
 refine thn (h3 pins { s2 with toks:=s2.toks+1+1 } Y H2 (λv H1=>v=.str c2/\H1=H2) (I2.tok _) ⟨U,U⟩) λu3 s3 ⟨v3,H3,I3,r3,e3,e4⟩=>?_;subst e3 e4;obtain⟨t3,rfl⟩:=r3;refine⟨c2,t3,U,?_,?_,?_⟩
 .exact aR (m:=4000) (by rw[ba,ba,ba];show 0+_+_+_<=4000;omega)
 .exact aR (m:=4000) (by rw[ba,ba,ba];show 0+_+_+_<=4000;omega)
 .exact⟨.str _,_,I3.tok _,⟨_,U⟩,q _⟩
end
section
variable {X:Cx}
end
end L2
namespace L2
open PySem PySem.Spec PyProof.Rows PySem.W
section
variable {X:Cx}{k:Nat}{f C0:Addr}{fd:FuncData}{ps:List Str}{sp:Sp}{dvs:List V}{ds:List Value}{fx cx y m n:Str}{iy im inn:Nat}{p pos apos py cp pm pn pa hpos:Pos}{e:Expr}{es:List Expr}{t:TA}
end
section
variable {X:Cx}
def yR(te:TE):TE:=λY H Q=>te Y H λv H1=>∃x:Str,v=.str x/\x.length<=1000/\∀z:Str,Q (.str z) H1
theorem C8{e1 e2:Expr}{c1:Str}{te:TE}{p2 pos:Pos}(h1:PE X e1 (tC (.str c1)))(h2:PE X e2 te)(l1:c1.length<=1000:=by decide +kernel):PE X (.JoinedStr [e1,.FormattedValue e2 (-1) none p2] pos) (yR te):=by
 intro pins s Y H Q I h;refine wpAny_JoinedStr ?_;show Joins (model X.prog X.w) X.A X.xe [eval e1 X.env,eval (.FormattedValue e2 (-1) none p2) X.env] Str.empty _ s;refine thn (h1 pins s Y H (λv H1=>v=.str c1/\H1=H) I ⟨U,U⟩) λu1 s1 ⟨v1,H1,I1,r1,e1,e2⟩=>?_;subst e1 e2;obtain⟨t1,rfl⟩:=r1;refine⟨c1,t1,U,?_,?_⟩
 .exact aR (m:=1000) (by rw[ba];show 0+_<=1000;omega)
 refine wpAny_FormattedValue_plain (thn (h2 pins s1 Y _ _ I1 h) λu2 s2 ⟨v2,H2,I2,r2,x,ev,hx,q⟩=>?_);subst ev;obtain⟨t2,rfl⟩:=r2;have fit:∀c:Str,c.length<=1000->(Str.empty++c++x).length<=sizeLine:=λc hc=>aR (m:=3000) (by rw[ba,ba];show 0+_+_<=3000;omega);refine wpAny_formatField_str ⟨_,_,U,fit _ l1,?_⟩ ⟨_,_,U,fit _ l1,?_⟩ (aR (m:=1000) hx)
 .exact⟨fit _ l1,.str _,_,I2.tok _,⟨_,U⟩,q _⟩
 .exact⟨fit _ l1,.str _,_,(I2.tok _).tok _,⟨_,U⟩,q _⟩
end
end L2
namespace Tr
open PySem PySem.Spec PyProof.Rows L2
noncomputable def cB(ks:List Str)(f:Str->V):List (Key×V):=ks.map λz=>(.inr z,f z)
theorem yA(ks:List Str)(f:Str->V):(cB ks f).map (·.1)=ks.map Sum.inr:=by
 unfold cB;rw[List.map_map]
 rfl
theorem jQ{f:Str->V}{x:Str}:∀{ks:List Str},x∈ks->bn (cB ks f) (.inr x)=some (f x)
 |[],h=>by simp at h
 |k::ks,h=>by
  unfold cB bn;rw[Q3,Qj];by_cases e:k=x
  .subst e;simp
  .have h':x∈ks:=by
    rcases qF.mp h with z|z
    .exact Qf z.symm e
    .exact z
   have:=jQ (f:=f) h';unfold cB bn at this;simp only[Sum.inr.injEq,e,decide_false];exact this
theorem yy{f:Str->V}{x:Str}{ks:List Str}(h:x∉ks):bn (cB ks f) (.inr x)=none:=by
 cases e:bn (cB ks f) (.inr x)with
 |none=>rfl
 |some v=>
  have:=rP e;rw[yA]at this;obtain⟨z,hz,ez⟩:=List.mem_map.mp this;cases ez;exact Qf hz h
theorem BD{ks:List Str}{f:Str->V}(hn:ks.Nodup):io (ks.map λz=>((.inr z:Key),f z))=cB ks f:=by
 have:∀(ks pre:List Str),(pre++ks).Nodup->(ks.map λz=>((.inr z:Key),f z)).foldl (λkvs p=>bO kvs p.1 p.2) (cB pre f)=cB (pre++ks) f:=by
  intro ks
  induction ks with
  |nil=>intro pre _;simp
  |cons k r ih=>
   intro pre h;have h':((pre++[k])++r).Nodup:=by simpa using h
   have nk:k∉pre:=λhm=>by
    rw[List.nodup_append]at h;exact h.2.2 k hm k (by simp) U
   rw[Q3,QK]
   have e:bO (cB pre f) (.inr k) (f k)=cB (pre++[k]) f:=by
    rw[ou _ (yy nk)];simp[cB]
   rw[show bO (cB pre f) ((.inr k:Key),f k).1 ((.inr k:Key),f k).2=cB (pre++[k]) f from e,ih _ h'];simp
 exact this ks [] (by simpa using hn)
structure Bk where
 f:cj
 q:Str->List Int
 g:Str->Nat
 o:List Int
noncomputable def stp(B:Bk):a8->Option Bk
 |.set x a sg b=>some { B with f:=dD B.f x (jv sg (jN B.f a) (jN B.f b)) }
 |.put s x=>some { B with q:=λz=>if z=s then B.q s++[B.f x]else B.q z }
 |.get s x=>match(B.q s)[B.g s]? with
  |none=>none
  |some v=>some { B with f:=dD B.f x v,g:=λz=>if z=s then B.g s+1 else B.g z }
 |.give x=>some { B with o:=B.o++[B.f x] }
 |_=>none
inductive jG(C S:List Str):a8->Prop
 |set {x:Str}{n:Int}:x∈C->OnW n->jG C S (.set x (.num n) "+" (.num 0))
 |put {s x:Str}:s∈S->x∈C->jG C S (.put s x)
 |get {s x:Str}:s∈S->x∈C->jG C S (.get s x)
 |give {x:Str}:x∈C->jG C S (.give x)
structure eE(B:Bk)(n:Nat):Prop where
 on:∀x,OnW (B.f x)
 wh:∀s,∀v∈B.q s,OnW v
 le:∀s,B.g s<=(B.q s).length
 ql:∀s,(B.q s).length<=n
 ol:B.o.length<=n
theorem on0:OnW 0:=⟨Yk,Yk⟩
theorem lM{B B':Bk}{n:Nat}{d:a8}{C S:List Str}(h:eE B n)(hd:jG C S d)(e:stp B d=some B'):eE B' (n+1):=by
 have q':∀s,(B.q s).length<=n+1:=λs=>Nat.le_succ_of_le (h.ql s);have o':B.o.length<=n+1:=Nat.le_succ_of_le h.ol
 have setOn:∀(x:Str)(v:Int),OnW v->∀z,OnW (dD B.f x v z):=λx v hv z=>by
  unfold dD;split
  .exact hv
  .exact h.on z
 cases hd with
 |set hx hn=>
  cases e;exact⟨setOn _ _ (wK hn on0),h.wh,h.le,q',o'⟩
 |put hs hx=>
  cases e;refine⟨h.on,λs v hv=>?_,λs=>?_,λs=>?_,o'⟩
  .dsimp only at hv;split at hv
   .rcases qp.mp hv with z|z
    .exact h.wh _ v z
    .rw[Q4.mp z];exact h.on _
   .exact h.wh _ v hv
  .dsimp only;split
   .subst_vars
    rw[qf];exact qJ (h.le _) (Nat.le_add_right _ _)
   .exact h.le s
  .dsimp only;split
   .rw[qf];exact Nat.succ_le_succ (h.ql _)
   .exact q' s
 |get hs hx=>
  rename_i s x;unfold stp at e;dsimp only at e
  cases ev:(B.q s)[B.g s]? with
  |none=>rw[ev]at e;cases e
  |some v=>
   rw[ev]at e;cases e;have hv:OnW v:=h.wh s v (qK ev);refine⟨setOn _ _ hv,h.wh,λz=>?_,q',o'⟩;dsimp only;split
   .subst_vars
    exact(qj.mp ev).1
   .exact h.le z
 |give hx=>
  cases e;refine⟨h.on,h.wh,h.le,q',?_⟩;show(B.o++[B.f _]).length<=n+1;rw[qf];exact Nat.succ_le_succ h.ol
end Tr
namespace L2
open PySem PySem.Spec PyProof.Rows PySem.W
section
variable {P:Program}{w:World}{K:W.Frag}{mg:Str->Option Value}{base:Heap}
theorem hU.okX{x qual:Str}{st:Stmt}{f:Addr}{fd:FuncData}{dv:Value}{N ps:List Str}{k:Nat}{sp:Sp}(F:hU K x qual st f fd dv)(S:aN N ps (ax st))(len:∀vs H Q E,sp vs H Q E->vs.length=ps.length)
 (hbody:∀(cdv:Value)(A:Around)(outer:List Env)(s:Shared)(H:Hp)(vs:List V)(Q:VK)(E:XK),bG k (A.deeper (envOfC qual (ax st) s.heap.objs.size f cdv))->sp vs H Q E->
  ∃t,PSs (bN (CXX P w) P w K mg base N qual (ax st) f cdv A outer s H E) (d9 st) t/\t { nx:=λ_ H'=>Q .non H',rt:=Q } (fc N vs) H):aB P w K mg base (CXX P w) (k+1) f fd ps sp:=by
 obtain⟨oc,od,kV,doc,pm,an,cdv,ct,osl,dt,d2,n,e2,rfl,lk,hcd,lt⟩:=F.ex;exact pB lk hcd S len λA outer s H vs Q E hr hsp=>hbody cdv A outer s H vs Q E hr hsp
end
theorem Cb{X:Cx}{K:W.Frag}{e:Expr}{f:Str}{ta:TE}{pos:Pos}(hk:X.K=K)(he:PE X e ta)(hb:attributeBase e f X.env (eval e X.env)=eval e X.env):PE X (.Attribute e f pos) (jU K ta f):=by
 subst hk;exact uV he hb
end L2
namespace L2
open PySem PySem.F PySem.Spec PyProof.Rows PySem.W
set_option maxRecDepth 100000
section
variable {prog:Program}{w:World}{A:Around}{E:Yq}{s:Shared}
end
section
variable {X:Cx}
end
section
variable {X:Cx}
end
section
variable {X:Cx}
end
section
variable {X:Cx}
end
section
variable {X:Cx}{pins:List (Addr×Obj)}{Y:St}{H:Hp}{s:Shared}
end
section
variable {X:Cx}{k:Nat}{f C:Addr}{fd:FuncData}{ps:List Str}{sp:Sp}{x:Str}{p pos cpos:Pos}{e:Expr}{es:List Expr}{t:TA}
end
section
variable {X:Cx}
def yS(te tt:TE):TE:=λY H Q=>te Y H λv H1=>∃i:Int,v=.int i/\i.natAbs<2 ^ 1000/\tt Y H1 λv2 H2=>∃x:Str,v2=.str x/\x.length<=1000/\∀z:Str,Q (.str z) H2
theorem C9{e1 e2 e3 e4:Expr}{c1 c2:Str}{te tt:TE}{p2 p4 pos:Pos}(h1:PE X e1 (tC (.str c1)))(h2:PE X e2 te)(h3:PE X e3 (tC (.str c2)))(h4:PE X e4 tt)(l1:c1.length<=1000:=by decide +kernel)(l2:c2.length<=1000:=by decide +kernel):
 PE X (.JoinedStr [e1,.FormattedValue e2 (-1) none p2,e3,.FormattedValue e4 (-1) none p4] pos) (yS te tt):=by
 intro pins s Y H Q I h;refine wpAny_JoinedStr ?_;show Joins (model X.prog X.w) X.A X.xe [eval e1 X.env,eval (.FormattedValue e2 (-1) none p2) X.env,eval e3 X.env,eval (.FormattedValue e4 (-1) none p4) X.env] Str.empty _ s;refine thn (h1 pins s Y H (λv H1=>v=.str c1/\H1=H) I ⟨U,U⟩) λu1 s1 ⟨v1,H1,I1,r1,d1,d2⟩=>?_;subst d1 d2;obtain⟨t1,rfl⟩:=r1;refine⟨c1,t1,U,?_,?_⟩
 .exact aR (m:=1000) (by rw[ba];show 0+_<=1000;omega)
 refine wpAny_FormattedValue_plain (thn (h2 pins s1 Y _ _ I1 h) λu2 s2 ⟨v2,H2,I2,r2,i,ev,hi,q⟩=>?_);subst ev;obtain⟨t2,rfl⟩:=r2;have nl:=vo hi;refine wpAny_formatField_int (kR hi) ⟨_,_,U,?_,?_⟩
 .exact aR (m:=3000) (by rw[ba,ba];show 0+_+_<=3000;omega)
 refine thn (h3 pins { s2 with toks:=s2.toks+1+1 } Y H2 (λv H1=>v=.str c2/\H1=H2) (I2.tok _) ⟨U,U⟩) λu3 s3 ⟨v3,H3,I3,r3,d3,d4⟩=>?_;subst d3 d4;obtain⟨t3,rfl⟩:=r3;refine⟨c2,t3,U,?_,?_⟩
 .exact aR (m:=4000) (by rw[ba,ba,ba];show 0+_+_+_<=4000;omega)
 refine wpAny_FormattedValue_plain (thn (h4 pins s3 Y _ _ I3 q) λu4 s4 ⟨v4,H4,I4,r4,x,ev,hx,q⟩=>?_);subst ev;obtain⟨t4,rfl⟩:=r4;have fit:(Str.empty++c1++Str.ofString (toString i)++c2++x).length<=sizeLine:=aR (m:=8000) (by rw[ba,ba,ba,ba];show 0+_+_+_+_<=8000;omega);refine wpAny_formatField_str ⟨_,_,U,fit,?_⟩ ⟨_,_,U,fit,?_⟩ (aR (m:=1000) hx)
 .exact⟨fit,.str _,_,I4.tok _,⟨_,U⟩,q _⟩
 .exact⟨fit,.str _,_,(I4.tok _).tok _,⟨_,U⟩,q _⟩
end
section
variable {X:Cx}
end
section
variable {X:Cx}{e:Expr}{te:TE}{pos:Pos}
end
section
variable {X:Cx}{K:W.Frag}{o e:Expr}{es:List Expr}{to:TE}{t:TA}{name:Str}{apos cpos:Pos}{T id:String}{r:V->List V->Hp->VK->Prop}
end
section
variable {X:Cx}
end
section
variable {prog:Program}{w:World}{A:Around}{E:Yq}{s:Shared}{κ:KeyKind}
section
variable {left:Bool}{key:Keyed}{arr:Array Keyed}{base n hint:Nat}{st:SortSt}{Q:Option Nat->SortSt->Prop}
end
end
section
variable {prog:Program}{w:World}{A:Around}{E:Yq}{s:Shared}{κ:KeyKind}
section
variable {r:Keyed->Keyed->Prop}{T o X X0 Z:List Keyed}
end
section
variable {a b out:Array Keyed}{ia ib n:Nat}
end
end
section
variable {prog:Program}{w:World}{A:Around}{E:Yq}{s:Shared}{κ:KeyKind}
section
variable {a b out:Array Keyed}{ia ib n:Nat}
end
end
section
variable {prog:Program}{w:World}{A:Around}{E:Yq}{s:Shared}{κ:KeyKind}
section
variable {a b out:Array Keyed}{na nb n:Nat}
end
end
section
variable {prog:Program}{w:World}{A:Around}{E:Yq}{s:Shared}{κ:KeyKind}
section
variable {arr:Array Keyed}{P X X0 R:List Keyed}
end
end
section
variable {prog:Program}{w:World}{A:Around}{E:Yq}{s:Shared}{κ:KeyKind}
section
variable {st0 st:SortSt}{lo:Nat}
end
end
section
variable {prog:Program}{w:World}{A:Around}{E:Yq}{s:Shared}{κ:KeyKind}
section
variable {a₀:Array Keyed}{st:SortSt}{Xs:List (List Keyed)}{R:List Keyed}
end
section
variable {a₀:Array Keyed}{st:SortSt}{Xs:List (List Keyed)}{R:List Keyed}{lo n:Nat}
end
end
section
variable {prog:Program}{w:World}{A:Around}{E:Yq}{s:Shared}
end
section
variable {P:Program}{w:World}{A:Around}{E:Yq}{s:Shared}
end
section
variable {X:Cx}
end
noncomputable def fn5:Nat->Nat->Nat
 |0,x=>x
 |n+1,x=>fn5 n (5 * x+1)
theorem wy:∀(a b x:Nat),fn5 (a+b) x=fn5 b (fn5 a x)
 |0,b,x=>by rw[Nat.zero_add];rfl
 |a+1,b,x=>by rw[Nat.succ_add];exact wy a b _
theorem ww:∀(n x:Nat),4 * fn5 n x+1=5 ^ n * (4 * x+1)
 |0,x=>by simp[fn5]
 |n+1,x=>by
  show 4 * fn5 n (5 * x+1)+1=_;rw[ww n,Nat.pow_succ,Nat.mul_assoc]
  congr 1
  omega
theorem wD:∀k:Nat,∃c,5 ^ (2 ^ k)=1+2 ^ (k+2) * (2 * c+1)
 |0=>⟨0,Yk⟩
 |k+1=>by
  obtain⟨c,hc⟩:=wD k;refine⟨c+2 ^ k * ((2 * c+1) * (2 * c+1)),?_⟩;have e:(5:Nat) ^ (2 ^ (k+1))=5 ^ (2 ^ k) * 5 ^ (2 ^ k):=by rw[<- Nat.pow_add];congr 1;rw[Nat.pow_succ];omega
  have p2:(2:Nat) ^ (k+2)=4 * 2 ^ k:=by rw[Nat.pow_add];omega
  have p3:(2:Nat) ^ (k+1+2)=8 * 2 ^ k:=by rw[Nat.pow_add,Nat.pow_add];omega
  rw[e,hc,p2,p3];generalize 2 ^ k=t;generalize hd:2 * c+1=d;have:2 * (c+t * (d * d))+1=d+2 * (t * (d * d)):=Yo;rw[this]
  have q1:(1+4 * t * d) * (1+4 * t * d)=1+8 * (t * d)+16 * ((t * d) * (t * d)):=by
   rw[Nat.mul_assoc 4 t d];generalize t * d=z;rw[Nat.add_mul,Nat.one_mul,Nat.mul_add,Nat.mul_one,show 4 * z * (4 * z)=16 * (z * z)by rw[Nat.mul_assoc,Nat.mul_left_comm z 4 z];omega];omega
  have q2:8 * t * (d+2 * (t * (d * d)))=8 * (t * d)+16 * ((t * d) * (t * d)):=by
   rw[Nat.mul_add,Nat.mul_assoc 8 t d,Nat.mul_assoc 8 t]
   have:t * (2 * (t * (d * d)))=2 * ((t * d) * (t * d)):=by
    rw[Nat.mul_left_comm t 2,Nat.mul_mul_mul_comm,Nat.mul_assoc t t]
   rw[this];omega
  rw[q1,q2];omega
theorem ET(k x:Nat):∃c,fn5 (2 ^ k) x=x+2 ^ k * (2 * c+1):=by
 obtain⟨c,hc⟩:=wD k;have h:=ww (2 ^ k) x;have p2:(2:Nat) ^ (k+2)=4 * 2 ^ k:=by rw[Nat.pow_add];omega
 rw[hc,p2]at h;refine⟨c * (4 * x+1)+2 * x,?_⟩
 have e:2 * (c * (4 * x+1)+2 * x)+1=(2 * c+1) * (4 * x+1):=by
  rw[Nat.add_mul,Nat.one_mul,Nat.mul_assoc];omega
 rw[e];rw[Nat.add_mul,Nat.one_mul,Nat.mul_assoc,Nat.mul_assoc]at h;generalize 2 ^ k * ((2 * c+1) * (4 * x+1))=z at h ⊢;omega
theorem wx:∀(k i j:Nat),∃m,m<2 ^ k/\fn5 m i % 2 ^ k=j % 2 ^ k
 |0,i,j=>⟨0,Yk,by simp[Nat.mod_one]⟩
 |k+1,i,j=>by
  obtain⟨m,hm,e⟩:=wx k i j;have p:(2:Nat) ^ (k+1)=2 ^ k * 2:=Nat.pow_succ _ _;have t0:0<2 ^ k:=Nat.pow_pos Yk;have two:∀x,x % (2 ^ k * 2)=x % 2 ^ k+2 ^ k * (x / 2 ^ k % 2):=λx=>Nat.mod_mul;by_cases c:fn5 m i % 2 ^ (k+1)=j % 2 ^ (k+1)
  .exact⟨m,Yo,c⟩
  .refine⟨m+2 ^ k,Yo,?_⟩;rw[wy];obtain⟨z,hz⟩:=ET k (fn5 m i);rw[hz];generalize fn5 m i=a at e c ⊢;rw[p,two a,two j,e]at c;rw[p,two (a+2 ^ k * (2 * z+1)),two j,Nat.add_mul_mod_self_left,e,Nat.add_mul_div_left _ _ t0];have a2:=Nat.mod_lt (a / 2 ^ k) (show 0<2 by decide);have j2:=Nat.mod_lt (j / 2 ^ k) (show 0<2 by decide);have ne:a / 2 ^ k % 2≠j / 2 ^ k % 2:=λh=>c (by rw[h]);have:(a / 2 ^ k+(2 * z+1)) % 2=j / 2 ^ k % 2:=Yo;rw[this]
theorem vZ{mask:Nat}:∀(m i:Nat),i<=mask->itr mask m i 0=fn5 m i % (mask+1)
 |0,i,h=>by
  show i=i % (mask+1);rw[Nat.mod_eq_of_lt (Nat.lt_succ_of_le h)]
 |m+1,i,h=>by
  show itr mask m ((i * 5+1+0 / 32) % (mask+1)) (0 / 32)=fn5 m (5 * i+1) % (mask+1);rw[Nat.zero_div,Nat.add_zero,vZ m _ (Nat.le_of_lt_succ (Nat.mod_lt _ (Nat.succ_pos _))),Nat.mul_comm i 5]
  have key:∀(m x:Nat),fn5 m (x % (mask+1)) % (mask+1)=fn5 m x % (mask+1):=λm=>by
   induction m with
   |zero=>intro x;exact Nat.mod_mod _ _
   |succ m ih=>
    intro x;show fn5 m (5 * (x % (mask+1))+1) % (mask+1)=fn5 m (5 * x+1) % (mask+1);rw[<- ih (5 * (x % (mask+1))+1),<- ih (5 * x+1)]
    congr 2
    rw[Nat.add_mod,Nat.mul_mod,Nat.mod_mod,<- Nat.mul_mod,<- Nat.add_mod]
  exact key m _
theorem Er{mask k:Nat}(ek:mask+1=2 ^ k){i j:Nat}(hi:i<=mask)(hj:j<=mask):∃m,m<=mask/\itr mask m i 0=j:=by
 obtain⟨m,hm,e⟩:=wx k i j;refine⟨m,Yo,?_⟩;rw[vZ m i hi,ek,e,<- ek,Nat.mod_eq_of_lt (Nat.lt_succ_of_le hj)]
theorem EQ{mask:Nat}{ow:Array (Option Nat)}(hm:∃k,mask+1=2 ^ k){j:Nat}(hj:j<=mask)(hn:(ow.getD j (some 0)).isNone=true){i p:Nat}(hi:i<=mask)(hp:p<2 ^ 64):
 ∃k,SetTable.layClean.free mask ow (SetTable.turns mask) i p=some k:=by
 cases e:SetTable.layClean.free mask ow (SetTable.turns mask) i p with
 |some k=>exact⟨k,U⟩
 |none=>
  exfalso;have key:=wn _ _ _ hi e;have l:=vY (mask:=mask) 13 i p hi;obtain⟨k,ek⟩:=hm;obtain⟨m,h1,h2⟩:=Er ek l hj;have:=key (13+m) (by unfold SetTable.turns;omega);rw[w5,Nat.div_eq_of_lt (Nat.lt_trans hp Yk),h2,hn]at this;cases this
theorem FG{mask:Nat}(hm:∃k,mask+1=2 ^ k)(hs:Array Int)(hl:hs.size<=mask):∃ow:Array (Option Nat),SetTable.layClean mask hs=some ow/\ow.size=mask+1/\(ow.toList.filterMap id).Perm (List.range hs.size):=by
 unfold SetTable.layClean;rw[<- Array.foldl_toList]
 have key:∀(l:List Int)(ow:Array (Option Nat))(k:Nat),ow.size=mask+1->(ow.toList.filterMap id).Perm (List.range k)->k+l.length<=mask->
  ∃ow',(l.foldl (λ(acc:Option (Array (Option Nat)×Nat)) h=>do
   let (owner,k) <- acc
   let j <- SetTable.layClean.free mask owner (SetTable.turns mask) (SetTable.bits h % (mask+1)) (SetTable.bits h)
   pure (owner.setIfInBounds j (some k),k+1)) (some (ow,k)))=some (ow',k+l.length)/\ow'.size=mask+1/\(ow'.toList.filterMap id).Perm (List.range (k+l.length)):=by
  intro l
  induction l with
  |nil=>intro ow k h1 h2 h3;exact⟨ow,U,h1,h2⟩
  |cons h l ih=>
   intro ow k h1 h2 h3;rw[qL]at h3;have len:=h2.length_eq;rw[Qo]at len;obtain⟨j,hj⟩:=wA ow.toList (by rw[len,qW,h1];omega)
   have jl:j<ow.size:=by
    have:=(qj.mp hj).1
    rwa [qW]at this
   have gn:∀j,(ow.getD j (some 0)).isNone=true↔ow.toList[j]?=some none:=λj=>by
    rw[Q5,Array.getD_eq_getD_getElem?]
    cases ow[j]? with
    |none=>simp
    |some y=>cases y<;>simp
   have bl:SetTable.bits h<2 ^ 64:=by
    unfold SetTable.bits;omega
   obtain⟨q,hq⟩:=EQ (ow:=ow) hm (j:=j) Yo ((gn j).mpr hj) (i:=SetTable.bits h % (mask+1)) (p:=SetTable.bits h) (Nat.le_of_lt_succ (Nat.mod_lt _ (Nat.succ_pos _))) bl;have hq':=(gn q).mp (wo _ _ _ _ hq)
   have:=ih (ow.setIfInBounds q (some k)) (k+1) (by simpa using h1) (by
    rw[Array.toList_setIfInBounds,List.range_succ];refine(wz _ _ _ hq').trans ?_;refine(h2.cons k).trans ?_
    exact(List.perm_append_comm (l₁:=[k]) (l₂:=List.range k))) Yo
   obtain⟨ow',e1,e2,e3⟩:=this;refine⟨ow',?_,e2,?_⟩
   .rw[QK,qL,show k+(l.length+1)=k+1+l.length by omega,<- e1]
    congr 1
    show(SetTable.layClean.free mask ow (SetTable.turns mask) (SetTable.bits h % (mask+1)) (SetTable.bits h)).bind _=_;rw[hq]
    rfl
   .rw[qL,show k+(l.length+1)=k+1+l.length by omega];exact e3
 obtain⟨ow',e1,e2,e3⟩:=key hs.toList (Array.replicate (mask+1) none) 0 (by simp) (by simp) (by simpa using hl);refine⟨ow',?_,e2,by simpa using e3⟩;rw[e1]
 rfl
theorem vU{mask:Nat}(hm:∃k,mask+1=2 ^ k)(f mv:Nat)(led pl:Bool)(hs:Array Int)(hl:hs.size<=mask):
 ∃t order,SetTable.laid mask f mv led pl hs=some (t,order)/\order.toList.Perm (List.range hs.size)/\t.mask=mask/\t.place.size=hs.size/\t.dummies=#[]/\t.led=led/\t.plain=pl:=by
 obtain⟨ow,e,sz,pm⟩:=FG hm hs hl
 have live:((List.range (mask+1)).filterMap λj=>(ow.getD j none).map (j,·)).map (·.2)=ow.toList.filterMap id:=by
  rw[List.map_filterMap]
  have:ow.toList=(List.range (mask+1)).map λj=>ow.getD j none:=by
   refine List.ext_getElem (by simp[sz]) λi h1 h2=>?_;simp at h1;simp[Array.getD_eq_getD_getElem?,h1]
  rw[this,List.filterMap_map]
  congr 1
  funext j
  show Option.map _ (Option.map _ (ow.getD j none))=ow.getD j none;cases ow.getD j none<;>rfl
 have ll:((List.range (mask+1)).filterMap λj=>(ow.getD j none).map (j,·)).length=hs.size:=by
  have:=congrArg List.length live;rw[qc]at this;rw[this,pm.length_eq,Qo]
 unfold SetTable.laid;rw[e];refine⟨_,_,U,?_,U,?_,U,U,U⟩
 .dsimp only;rw[live];exact pm
 .simpa using ll
theorem tZ{n:Nat}:∀(fuel i:Nat),n<2 ^ (i+fuel)->∃k,SetTable.sizeAbove.go n fuel (2 ^ i)=2 ^ k/\n<2 ^ k/\(2 ^ k<=2 ^ i\/2 ^ k<=2 * n)
 |0,i,h=>⟨i,U,h,.inl (qi _)⟩
 |fuel+1,i,h=>by
  unfold SetTable.sizeAbove.go;split
  .rename_i hc;rw[<- Nat.pow_succ];obtain⟨k,e,l,u⟩:=tZ fuel (i+1) (by rw[show i+1+fuel=i+(fuel+1)by omega];exact h);refine⟨k,e,l,.inr ?_⟩;have:(2:Nat) ^ (i+1)=2 ^ i * 2:=Nat.pow_succ _ _;omega
  .exact⟨i,U,Yo,.inl (qi _)⟩
theorem zL{n:Nat}(h:n<2 ^ 60):∃k,SetTable.sizeAbove n=2 ^ k/\n<2 ^ k/\(2 ^ k<=8\/2 ^ k<=2 * n):=tZ 64 3 (Nat.lt_trans h Yk)
section
variable {P:Program}{w:World}{A:Around}{E:Yq}{s:Shared}
theorem wF{t:SetTable}{n:Nat}(h:t.fits n=true):t.place.size=n:=by
 unfold SetTable.fits at h;simp only[Bool.and_eq_true,beq_iff_eq]at h
 first
  |exact h.1.1.symm
  |exact h.1.1
  |exact h.1.symm
  |exact h.1
theorem ut{a:Addr}{es:Array (Int×Value)}{ep:Nat}{t:SetTable}{ys:List Str}{wanted:Nat}{Q:Unit->Shared->Prop}(ha:s.heap.get? a=some (aL es ep t))(T:aT P w es t ys)(h1:es.size<=wanted)(h2:wanted<=20000)
 (h:∀h' es' ep' t',Heap.SameBut a s.heap h'->h'.get? a=some (aL es' ep' t')->aT P w es' t' ys->es'.size=es.size->t'.place.size=es.size->t'.dummies=#[]->wanted<=t'.mask->(∃k,t'.mask+1=2 ^ k)->Q () { s with heap:=h' }):wpAny (model P w) A (setRelay a wanted) Q E s:=by
 have big:(100000:Nat)<=sizeLine:=Yk;obtain⟨k,ek,lk,uk⟩:=zL (n:=wanted) (Nat.lt_of_le_of_lt h2 Yk);unfold setRelay;refine qb (Q8 ha U T.fit ?_);dsimp only;obtain⟨t1,order,e1,pm,mk,pl,dm,ld,pp⟩:=vU (mask:=2 ^ k-1) ⟨k,Yo⟩ t.finger (t.movedTo (2 ^ k-1)) t.led t.plain (es.map (·.1)) (by rw[Array.size_map];omega)
 have e2:t.relaid (es.map (·.1)) wanted=some (t1,order):=by
  unfold SetTable.relaid;rw[ek];exact e1
 rw[Qb (by rw[ek];omega),e2];rw[Array.size_map]at pm pl;have pa:=uQ es order pm;have sz:(order.filterMap (es[·]?)).size=es.size:=by rw[<- qW,pa.length_eq,qW]
 refine qb ?_;show wpAny _ _ (if((order.filterMap (es[·]?)).size != es.size)=true then _ else _) _ _ _;rw[Qb (by rw[sz];simp)];refine qb (qh (qh ?_));dsimp only;have fw:=T.few;refine wpAny_storeSet_of ha U ?_ (by rw[sz];omega)
 have fit1:t1.fits (order.filterMap (es[·]?)).size=true:=by
  unfold SetTable.fits SetTable.fill;rw[pl,dm,sz,mk];simp;omega
 refine h _ _ _ t1 (Heap.SameBut.update _ a _) (gC (s:=s) ha) ?_ sz pl dm (by rw[mk];omega) ⟨k,by rw[mk];omega⟩;exact⟨T.el.perm pa,(pa.map _).nodup_iff.mpr T.nd,λk=>((pa.map _).mem_iff).trans (T.mem k),by rw[sz];exact T.few,fit1,ld.trans T.led,λz=>pp.trans (T.pl Yo)⟩
theorem B0{a:Addr}{n:Nat}{Q:Unit->Shared->Prop}(ha:s.heap.get? a=some (bT w))(few:n<=5000)
 (h:∀h1 ep1 t1,Heap.SameBut a s.heap h1->h1.get? a=some (aL #[] ep1 t1)->t1.place=#[]->t1.dummies=#[]->(∃k,t1.mask+1=2 ^ k)->n<=t1.mask->t1.led=(!w.params.followText "set-order")->Q () { s with heap:=h1 }):
 wpAny (model P w) A (setRoomFor a n) Q E s:=by
 have T0:aT P w #[] (SetTable.fresh 0 0 (!w.params.followText "set-order")) []:=jR;unfold setRoomFor;refine qb (Q8 ha U T0.fit ?_);dsimp only
 have hr:(SetTable.fresh 0 0 (!w.params.followText "set-order")).roomFor n=if n * 5 >= 21 then some (n * 2)else none:=by
  unfold SetTable.roomFor SetTable.fresh SetTable.fill;simp
 rw[hr];by_cases hn:n * 5 >= 21
 .rw[Qc hn];refine ut (wanted:=n * 2) ha T0 (qD _) Yo λh' es' ep' t' sb g T' z pz dm wm pw=>?_;obtain rfl:es'=#[]:=Array.eq_empty_of_size_eq_zero z;exact h h' ep' t' sb g (Array.eq_empty_of_size_eq_zero pz) dm pw Yo T'.led
 .rw[Qb hn];exact qh (h s.heap 0 _ (Heap.SameBut.refl a s.heap) ha U U ⟨3,U⟩ (by show n<=7;omega) U)
theorem vF{a o:Addr}{es:Array (Int×Value)}{ep:Nat}{t:SetTable}{zs:List Str}{each:Sem Unit}{Q:Unit->Shared->Prop}(ne:a≠o)(ha:s.heap.get? a=some (bT w))(ho:s.heap.get? o=some (aL es ep t))(T:aT P w es t zs)(few:es.size<=5000)
 (h:∀h' es' ep' t',Heap.SameBut a s.heap h'->h'.get? a=some (aL es' ep' t')->aT P w es' t' zs->(es.size=0->h'=s.heap)->Q () { s with heap:=h' }):wpAny (model P w) A (setMerge a o each) Q E s:=by
 have T0:aT P w #[] (SetTable.fresh 0 0 (!w.params.followText "set-order")) []:=jR;unfold setMerge;rw[Qb (by simpa using ne)];refine qb (Q8 ho U T.fit ?_);dsimp only;by_cases h0:es.isEmpty=true
 .rw[Qc h0];have e0:es=#[]:=by simpa using h0
  subst e0;exact qh (h s.heap #[] 0 _ (Heap.SameBut.refl a s.heap) ha ⟨T0.el,T0.nd,T.mem,T0.few,T0.fit,T0.led,T0.pl⟩ λ_=>U)
 .rw[Qb h0]
  have pos:0<es.size:=by
   rcases Nat.eq_zero_or_pos es.size with z|z
   .exact Qf (by simpa using z) h0
   .exact z
  have tpl:=T.pl pos;have h1z:∀h':Heap,es.size=0->h'=s.heap:=λ_ z=>Qf z (Nat.ne_of_gt pos);refine qb (B0 ha few λh1 ep1 t1 sb g1 p1 d1 mk le l1=>?_)
  have f1:t1.fits (#[]:Array (Int×Value)).size=true:=by
   unfold SetTable.fits SetTable.fill;rw[p1,d1];simp
  refine qb (Q8 (s:={ s with heap:=h1 }) g1 U f1 ?_);dsimp only
  have fz:¬ (t1.fill != 0)=true:=by
   unfold SetTable.fill;rw[p1,d1]
   decide
  have ll:(t1.led && t.led)=t.led:=by
   rw[l1,T.led];simp
  have pp:(t1.plain && t.plain)=false:=by
   rw[tpl];simp
  unfold SetTable.road;rw[Qb fz];by_cases hr:(t1.mask == t.mask && t.dummies.isEmpty)=true
  .rw[Qc hr];dsimp only;refine wpAny_storeSet_of (s:={ s with heap:=h1 }) g1 U ?_ (qJ few Yk);refine h _ es _ _ (sb.trans (Heap.SameBut.update _ a _)) (gC (s:={ s with heap:=h1 }) g1) (rS T (.refl _) ?_ ll pp) (h1z _);exact T.fit
  .rw[Qb hr];dsimp only;obtain⟨t2,order,e1,pm,mk2,pl,dm,ld,pl2⟩:=vU mk t1.finger t1.moves (t1.led && t.led) (t1.plain && t.plain) (es.map (·.1)) (by simpa using le);rw[Array.size_map]at pm pl;have pa:=uQ es order pm;have sz:(order.filterMap (es[·]?)).size=es.size:=by rw[<- qW,pa.length_eq,qW]
   rw[e1];refine qb ?_;show wpAny _ _ (if((order.filterMap (es[·]?)).size != es.size)=true then _ else _) _ _ _;rw[Qb (by rw[sz];simp)];refine qb (qh (qh ?_));dsimp only;refine wpAny_storeSet_of (s:={ s with heap:=h1 }) g1 U ?_ (by rw[sz];exact qJ few Yk);refine h _ _ _ _ (sb.trans (Heap.SameBut.update _ a _)) (gC (s:={ s with heap:=h1 }) g1) (rS T pa ?_ (ld.trans ll) (pl2.trans pp)) (h1z _);unfold SetTable.fits SetTable.fill;rw[pl,dm,sz,mk2];simpa using le
theorem AZ{a:Addr}{es:Array (Int×Value)}{ep n:Nat}{t:SetTable}{ys:List Str}{Q:Unit->Shared->Prop}(ha:s.heap.get? a=some (aL es ep t))(T:aT P w es t ys)(few:es.size+n<=10000)
 (h:∀h' es' ep' t',Heap.SameBut a s.heap h'->h'.get? a=some (aL es' ep' t')->aT P w es' t' ys->es'.size=es.size->Q () { s with heap:=h' }):wpAny (model P w) A (setRoomFor a n) Q E s:=by
 have pz:=wF T.fit;unfold setRoomFor;refine qb (Q8 ha U T.fit ?_);dsimp only;unfold SetTable.roomFor;by_cases hn:(t.fill+n) * 5 >= t.mask * 3
 .rw[Qc hn];exact ut ha T (by rw[pz];omega) (by rw[pz];omega) λh' es' ep' t' sb g T' z _ _ _ _=>h h' es' ep' t' sb g T' z
 .rw[Qb hn];exact qh (h s.heap es ep t (Heap.SameBut.refl a s.heap) ha T U)
theorem yf{a r:Addr}{es er':Array (Int×Value)}{ep epr:Nat}{t tr:SetTable}{ys zs:List Str}{Q:Array (Int×Value)->Shared->Prop}(hs:s.heap.get? a=some (aL es ep t))(T:aT P w es t ys)
 (hr:s.heap.get? r=some (aL er' epr tr)) (Tr:aT P w er' tr zs) (er0:0<er'.size)
 (h:∀arr h' d ep2 t2,arr.toList.Perm es.toList->Heap.SameBut r s.heap h'->h'.get? r=some (aL er' ep2 t2)->aT P w er' t2 zs->Q arr { s with heap:=h',drawn:=d }):wpAny (model P w) A (setWalkUnseen a [r] (some r)) Q E s:=by
 have old:∀arr d,arr.toList.Perm es.toList->Q arr { s with drawn:=d }:=λarr d hp=>h arr s.heap d epr tr hp (Heap.SameBut.refl r s.heap) hr Tr;have fw:=Tr.few;unfold setWalkUnseen;refine qb (Q8 hs U T.fit ?_);dsimp only;refine qb (fU ?_);split
 .exact rH hs T old
 .refine qb (ux (λb hb=>?_) ?_)
  .simp only[qF,Q0,or_false]at hb;rcases hb with rfl|rfl
   .exact⟨_,_,_,_,hs,T⟩
   .exact⟨_,_,_,_,hr,Tr⟩
  .simp only[Bool.not_true,Qu,if_false];refine qb (wpAny_rule ?_);refine qb (Q8 hr U Tr.fit ?_);dsimp only;split
   .refine qb (wpAny_storeSet_of hr U ?_ (by
     have:scanBound<=sizeLine:=Yk
     omega))
    refine qh (h es _ s.drawn _ _ (.refl _) (Heap.SameBut.update _ r _) (gC (s:=s) hr) ⟨Tr.el,Tr.nd,Tr.mem,Tr.few,Tr.fit,?_,λ_=>?_⟩)
    .show(tr.led && t.led)=_;rw[Tr.led,T.led];simp
    .show(tr.plain && t.plain)=false;rw[Tr.pl er0]
     rfl
   .exact qh (old es s.drawn (.refl _))
theorem DQ{a o:Addr}{ea es:Array (Int×Value)}{epa ep:Nat}{ta t:SetTable}{ys zs:List Str}{each:Sem Unit}{Q:Unit->Shared->Prop}(ne:a≠o)(ha:s.heap.get? a=some (aL ea epa ta))(Ta:aT P w ea ta ys)(a0:0<ea.size)(ho:s.heap.get? o=some (aL es ep t))(T:aT P w es t zs)(few:ea.size<=5000)(few2:es.size<=5000)(room:ea.size+es.size+1<scanBound)
 (he:∀(s':Shared)(R:Unit->Shared->Prop),s'.heap.get? o=some (aL es ep t)->R () s'->wpAny (model P w) A each R E s')
 (h:∀h' d es' ep' t',Heap.SameBut a s.heap h'->h'.get? a=some (aL es' ep' t')->aT P w es' t' (ys++zs)->Q () { s with heap:=h',drawn:=d }):wpAny (model P w) A (setMerge a o each) Q E s:=by
 unfold setMerge;rw[Qb (by simpa using ne)];refine qb (Q8 ho U T.fit ?_);dsimp only;by_cases h0:es.isEmpty=true
 .rw[Qc h0];have e0:es=#[]:=by simpa using h0
  subst e0;refine qh (h s.heap s.drawn ea epa ta (Heap.SameBut.refl a s.heap) ha ⟨Ta.el,Ta.nd,λk=>?_,Ta.few,Ta.fit,Ta.led,Ta.pl⟩);rw[Ta.mem k,qp];have:k∉zs:=λz=>by have:=(T.mem k).mpr z;simp at this
  simp[this]
 .rw[Qb h0];refine qb (AZ ha Ta Yo λh1 e1 ep1 t1 sb g1 T1 z1=>?_);refine qb (Q8 (s:={ s with heap:=h1 }) g1 U T1.fit ?_);dsimp only;have pz:=wF T1.fit
  have fz:(t1.fill != 0)=true:=by
   have:t1.fill≠0:=by
    unfold SetTable.fill;omega
   simpa using this
  unfold SetTable.road;rw[Qc fz];dsimp only;have ho1:h1.get? o=some (aL es ep t):=by rw[sb.2 _ (Ne.symm ne)];exact ho
  refine qb (yf (s:={ s with heap:=h1 }) ho1 T g1 T1 Yo λarr h2 d ep2 t2 hp sb2 g2 T2=>?_);refine qb (PySem.wpAny_forIn_array' _ (λrest _ s'=>∃h3 e3 ep3 t3 past,past++rest=arr.toList/\s'={ s with heap:=h3,drawn:=d }/\Heap.SameBut a s.heap h3/\h3.get? a=some (aL e3 ep3 t3)/\aT P w e3 t3 (ys++past.map λe:Int×Value=>txt e.2)/\e3.size<=e1.size+past.length) _ ?_ ?_ arr _ ⟨h2,e1,ep2,t2,[],U,U,sb.trans sb2,g2,by simpa using T2,qi _⟩)
  .rintro x rest b s' ⟨h3,e3,ep3,t3,past,hpa,rfl,sb3,g3,T3,le3⟩;have xm:x∈es.toList:=hp.mem_iff.mp (by rw[<- hpa];simp);obtain⟨k,tk,rfl,_⟩:=jO T xm
   have pl:past.length+(rest.length+1)=es.size:=by
    have:=congrArg List.length hpa;rw[hp.length_eq]at this;simpa using this
   dsimp only;refine qb (QG (pY (s:={ s with heap:=h3,drawn:=d }) g3 T3 Yo λb h4 e4 ep4 t4 sb4 g4 T4 le4=>?_));have ho4:h4.get? o=some (aL es ep t):=by rw[(sb3.trans sb4).2 _ (Ne.symm ne)];exact ho
   refine qb (he _ _ ho4 ?_);refine qb (Q8 (s:={ s with heap:=h4,drawn:=d }) ho4 U T.fit ?_);simp only[bne_self_eq_false,Qu,if_false];refine qh ⟨h4,e4,ep4,t4,past++[(hashStr w k,Value.str k tk)],by rw[<- hpa];simp,U,sb3.trans sb4,g4,?_,by rw[qf];show _<=_+(_+1);omega⟩;rw[qY,<- qX];exact T4
  .rintro b s' ⟨h3,e3,ep3,t3,past,hpa,rfl,sb3,g3,T3,le3⟩;rw[qI]at hpa;subst hpa;refine qh (h h3 d e3 ep3 t3 sb3 g3 ⟨T3.el,T3.nd,λk=>?_,T3.few,T3.fit,T3.led,T3.pl⟩);rw[T3.mem k,qp,qp,<- T.mem k];exact or_congr_right ((hp.map λe:Int×Value=>txt e.2).mem_iff)
end
section
variable {P:Program}{w:World}{A:Around}{E:Yq}{s:Shared}
theorem Cg{a o:Addr}{ep ep2:Nat}{t t2:SetTable}{es es2:Array (Int×Value)}{ys zs:List Str}{Q:Yq}(ne:a≠o)(hs:s.heap.get? a=some (aL es ep t))(T:aT P w es t ys)
 (ho:s.heap.get? o=some (aL es2 ep2 t2)) (T2:aT P w es2 t2 zs) (few1:es.size<=1500) (few:es2.size<=1500)
 (h:∀h' d es' ep' t',h'.get? s.heap.objs.size=some (aL es' ep' t')->aT P w es' t' (ys++zs)->(∀b ob,s.heap.get? b=some ob->h'.get? b=some ob)->Q (.ref s.heap.objs.size) { s with heap:=h',drawn:=d }):wpAny (model P w) A (binaryOp .BitOr (.ref a) (.ref o)) Q E s:=by
 have ta:s.TypeIs (.ref a) "set":=⟨_,hs,U⟩;have to:s.TypeIs (.ref o) "set":=⟨_,ho,U⟩;refine wpAny_binaryOp_same (op:=.BitOr) (T:="set") ta to F.fills_set_or F.slot_set_or (Qt F.slot_set_or ta Af ?_ (F.args_set_or_2 _ _));unfold Builtin.«frozenset.__or__»;refine qb (m:=Builtin.Frozenset.slot1 "__or__" ⟨[.ref a,.ref o],[]⟩) (qh ?_);dsimp only;simp only[Qu,if_false];refine qb (qb (iO ta (iO to ?_)));simp only[Bool.not_true,Qu,if_false];refine qb (qh ?_);refine qb ?_;refine qb (m:=Builtin.Frozenset.copyOf a) ?_;unfold Builtin.Frozenset.copyOf Builtin.Frozenset.baseOf;refine qb (qb (wpAny_isInstance (b:=true) ta j0 (qh ?_)));simp only[if_true];refine qb ?_;unfold newSet;refine qb (fU ?_);dsimp only;refine wpAny_newObj_type ?_;refine qb (qh ?_);have ga:∀b ob,s.heap.get? b=some ob->(s.heap.push (bT w)).get? b=some ob:=λb ob q=>qe _ q;have gr:(s.heap.push (bT w)).get? s.heap.objs.size=some (bT w):=qz _ U;have na:∀b ob,s.heap.get? b=some ob->s.heap.objs.size≠b:=λb ob q=>Nat.ne_of_gt (qA q);have sb0:scanBound=4096\/4000<=scanBound:=by unfold scanBound;omega
 have mm:∀e1 t1,aT P w e1 t1 ys->e1.size=es.size:=λe1 t1 T1=>by
  have l1:=fD T1.nd λx hx=>(T.mem x).mpr ((T1.mem x).mp hx);have l2:=fD T.nd λx hx=>(T1.mem x).mpr ((T.mem x).mp hx);rw[qc,qc,qW,qW]at l1 l2;omega
 refine qb (vF (s:={ s with heap:=s.heap.push (bT w) }) (na _ _ hs) gr (ga _ _ hs) T Yo λh1 es1 ep1 t1 sb1 g1 T1 z1=>?_);have sz1:=mm es1 t1 T1;have na2:∀b ob,s.heap.get? b=some ob->h1.get? b=some ob:=λb ob q=>(sb1.2 _ (na b ob q).symm).trans (ga b ob q);refine qh ?_;show wpAny _ _ (if((Value.ref o:Value) != .ref a)=true then _ else _) _ _ _
 rw[Qc (by
  have:(Value.ref o == Value.ref a)=false:=by
   rw[beq_eq_false_iff_ne];intro z;cases z;exact ne U
  rw[bne,this]
  rfl)]
 refine qb (qh ?_);refine qb (QG ?_);unfold Builtin.Frozenset.updateFrom;refine qb (iO (s:={ s with heap:=h1 }) ⟨_,na2 _ _ ho,U⟩ ?_);simp only[if_true];refine qb (qh ?_);unfold Builtin.Frozenset.merge;refine qb (wpAny_setEpoch_of (s:={ s with heap:=h1 }) (na2 _ _ ho) U T2.fit ?_);by_cases z:es.size=0
 .have e1:=z1 z;subst e1
  have y0:∀k,k∉ys:=λk hk=>by
   have:=(T.mem k).mpr hk;rw[Array.eq_empty_of_size_eq_zero z]at this;simp at this
  refine vF (s:={ s with heap:=s.heap.push (bT w) }) (na _ _ ho) gr (ga _ _ ho) T2 Yo λh2 es3 ep3 t3 sb3 g3 T3 _=>?_;exact qh (qh ⟨_,U,(λz=>by cases z),h h2 s.drawn es3 ep3 t3 g3 ⟨T3.el,T3.nd,λk=>by rw[T3.mem k,qp];simp[y0 k],T3.few,T3.fit,T3.led,T3.pl⟩ λb ob q=>(sb3.2 _ (na b ob q).symm).trans (ga b ob q)⟩)
 .refine DQ (s:={ s with heap:=h1 }) (na _ _ ho) g1 T1 Yo (na2 _ _ ho) T2 Yo Yo Yo (λs' R hs' hR=>?_) λh2 d es3 ep3 t3 sb3 g3 T3=>?_
  .unfold Builtin.Frozenset.unchanged;refine qb (wpAny_setEpoch_of hs' U T2.fit ?_);simp only[bne_self_eq_false,Qu,if_false];exact qh hR
  .exact qh (qh ⟨_,U,(λz=>by cases z),h h2 d es3 ep3 t3 g3 T3 λb ob q=>(sb3.2 _ (na b ob q).symm).trans (na2 b ob q)⟩)
end
section
variable {X:Cx}
def Bl(P:Program)(w:World):R2:=λx y H Q=>∃(a o:Addr)(ys zs ds fs:List Str),x=.ref a/\y=.ref o/\a≠o/\H a=some (bL P w a ys)/\H o=some (bL P w o zs)/\(∀k∈ys,k∈ds)/\ds.length<=1500/\(∀k∈zs,k∈fs)/\fs.length<=1500/\∀p,H p=none->Q (.ref p) (upd H p (bL P w p (ys++zs)))
theorem Co:OpR X (binaryOp .BitOr) (Bl X.prog X.w):=by
 intro pins s Y H x y v u Q I rx ry h;obtain⟨a,o,ys,zs,ds,fs,rfl,rfl,ne,hA,hO,hd,hl,hf,hl2,q⟩:=h;cases rx;cases ry;obtain⟨⟨es,ep,t,e1,T1⟩,_,_⟩:=I.hok a _ hA;obtain⟨⟨es2,ep2,t2,e2,T2⟩,_,_⟩:=I.hok o _ hO
 have l1:es.size<=1500:=by
  have:=fD T1.nd λx hx=>hd x ((T1.mem x).mp hx);rw[qc,qW]at this;omega
 have l2:es2.size<=1500:=by
  have:=fD T2.nd λx hx=>hf x ((T2.mem x).mp hx);rw[qc,qW]at this;omega
 refine Cg ne e1 T1 e2 T2 l1 l2 λh' d es' ep' t' g T' old=>?_;have J:=I.laid (t':=s.toks) (h':=h') (a:=s.heap.objs.size) (o:=bL X.prog X.w s.heap.objs.size (ys++zs)) old (qi _) (bL.ok g T');exact⟨.ref s.heap.objs.size,_,Inv.redrawn (s:=s) J U U,U,q _ (I.hok.fresh (qi _))⟩
end
section
variable {P:Program}{w:World}{A:Around}{E:Yq}{s:Shared}
end
section
variable {X:Cx}
end
end L2
namespace Tr
open PySem PySem.Spec PyProof.Rows L2
structure Pf where
 ds:List a8
 c:Option Int
noncomputable def cL(B:Bk)(d:a8)(r:List a8)(c:Option Int)(p:List Pf):Option (List Pf×Bk):=
 match d with
 |.rep n b=>if 0<c.getD n then some (⟨b,none⟩::⟨.rep n b::r,some (c.getD n-1)⟩::p,B)else some (⟨r,none⟩::p,B)
 |.whl x b=>if B.f x=0 then some (⟨r,none⟩::p,B)else some (⟨b,none⟩::⟨.whl x b::r,none⟩::p,B)
 |.cond x t o=>some (⟨if B.f x=0 then o else t,none⟩::⟨r,none⟩::p,B)
 |d=>(stp B d).map λB'=>(⟨r,none⟩::p,B')
inductive bw(m:Nat):List Pf->Bk->Nat->List Pf->Bk->Nat->Prop
 |refl {p:List Pf}{B:Bk}{k:Nat}:bw m p B k p B k
 |pop {c:Option Int}{p p':List Pf}{B B':Bk}{k k':Nat}:bw m p B k p' B' k'->bw m (⟨[],c⟩::p) B k p' B' k'
 |step {d:a8}{r:List a8}{c:Option Int}{p p1 p':List Pf}{B B1 B':Bk}{k k':Nat}:k<m->cL B d r c p=some (p1,B1)->bw m p1 B1 (k+1) p' B' k'->bw m (⟨d::r,c⟩::p) B k p' B' k'
theorem bw.trans{m:Nat}{p p' p2:List Pf}{B B' B2:Bk}{k k' k2:Nat}(h:bw m p B k p' B' k'):bw m p' B' k' p2 B2 k2->bw m p B k p2 B2 k2:=by
 induction h with
 |refl=>exact id
 |pop _ ih=>exact λg=>.pop (ih g)
 |step h e _ ih=>exact λg=>.step h e (ih g)
theorem bw.le{m:Nat}{p p':List Pf}{B B':Bk}{k k':Nat}(h:bw m p B k p' B' k'):k<=k':=by
 induction h with
 |refl=>exact qi _
 |pop _ ih=>exact ih
 |step _ _ _ ih=>omega
def PlW(C S:List Str):a8->Prop
 |.set x a _ b=>x∈C/\gY C a/\gY C b
 |.put s x=>s∈S/\x∈C
 |.get s x=>s∈S/\x∈C
 |.give x=>x∈C
 |.cond x _ _=>x∈C
 |.whl x _=>x∈C
 |.rep n _=>0<=n/\n<=1000
theorem zg{B B':Bk}{n:Nat}{d:a8}{C S:List Str}(h:eE B n)(hd:PlW C S d)(e:stp B d=some B'):eE B' (n+1):=by
 cases d with
 |set x a sg b=>
  cases e;refine⟨λz=>?_,h.wh,h.le,λs=>Nat.le_succ_of_le (h.ql s),Nat.le_succ_of_le h.ol⟩;show OnW (dD B.f x _ z);unfold dD;split
  .exact wK (jM h.on hd.2.1) (jM h.on hd.2.2)
  .exact h.on z
 |put s x=>exact lM h (.put hd.1 hd.2) e
 |get s x=>exact lM h (.get hd.1 hd.2) e
 |give x=>exact lM (C:=C) (S:=S) h (.give hd) e
 |cond x t o=>cases e
 |whl x b=>cases e
 |rep k b=>cases e
def cZ(C S:List Str)(ds:List a8):Prop:=∀d∈ai ds,PlW C S d
def jH(C S:List Str)(p:List Pf):Prop:=∀x∈p,cZ C S x.ds
theorem cZ.head{C S:List Str}{d:a8}{r:List a8}(h:cZ C S (d::r)):PlW C S d/\cZ C S r/\∀b∈d.inner,cZ C S b:=by
 have hf:ai (d::r)=d.flat++ai r:=by rw[ai]
 refine⟨h d ?_,λe he=>h e ?_,λb hb e he=>h e ?_⟩
 .rw[hf,fB];exact qp.mpr (.inl qy)
 .rw[hf];exact qp.mpr (.inr he)
 .rw[hf,fB];exact qp.mpr (.inl (qw _ (List.mem_flatMap.mpr ⟨b,hb,he⟩)))
theorem eE.up{B:Bk}{n:Nat}(h:eE B n):eE B (n+1):=⟨h.on,h.wh,h.le,λs=>Nat.le_succ_of_le (h.ql s),Nat.le_succ_of_le h.ol⟩
theorem jH.cons{C S:List Str}{x:Pf}{p:List Pf}(h:cZ C S x.ds)(hp:jH C S p):jH C S (x::p):=λy hy=>by
 rcases qF.mp hy with rfl|hy
 .exact h
 .exact hp y hy
section
variable {Hb H0 H0' H H' H1:Hp}{own:List Addr}{z:List Fz}
end
section
variable {Hb H0 H0' H H' H1:Hp}{s0 s1 s2:Addr}{z:List Fz}
end
end Tr
namespace L2
open PySem PySem.Spec PyProof.Rows PySem.W
section
variable {X:Cx}{k:Nat}{f C0:Addr}{fd:FuncData}{ps:List Str}{sp:Sp}{dvs:List V}{ds:List Value}{fx cx y m n:Str}{iy im inn:Nat}{p pos apos py cp pm pn pl pa hpos tpos:Pos}{e:Expr}{es:List Expr}{t:TA}
end
end L2
namespace Tr
open PySem PySem.Spec PyProof.Rows L2
end Tr
namespace L2
open PySem PySem.Spec PyProof.Rows
section
variable {X:Cx}
end
section
variable {P:Program}{w:World}{A:Around}{E:Yq}{s:Shared}
end
section
variable {X:Cx}
end
section
variable {P:Program}{w:World}{A:Around}{E:Yq}{s:Shared}
end
section
variable {X:Cx}
end
section
variable {X:Cx}
end
end L2
namespace Tr
open PySem PySem.Spec PyProof.Rows L2
section
variable {Hb H0 H0' H H' H1:Hp}{s0 s1 s2:Addr}{z:List Fz}{os:List V}
end
end Tr
namespace L2
open PySem PySem.Spec PyProof.Rows
@[reducible] def intKey:KeyKind where
  α:=Int
  blt a b:=decide (a<b)
  irrefl a:=by simp
  trans a b c h1 h2:=by simp only[decide_eq_true_eq]at *;omega
  negTrans a b c h:=by simp only[decide_eq_true_eq]at *;omega
  total a b h1 h2:=by simp only[decide_eq_false_iff_not]at *;omega
  keyOf v:=match v with|.int n _=>some n|_=>none
  dflt:=0
section
variable {prog:Program}{w:World}{A:Around}{E:Yq}{s:Shared}
end
section
variable {X:Cx}
end
end L2
namespace Tr
open PySem PySem.Spec PyProof.Rows L2
end Tr
namespace L2
open PySem PySem.Spec PyProof.Rows
section
variable {P:Program}{w:World}{A:Around}{E:Yq}{s:Shared}{κ:Type} [DecidableEq κ] {knd:PySem.KeyKind P w κ}
end
section
variable {X:Cx}
end
end L2
namespace Tr
open PySem PySem.Spec PyProof.Rows L2
end Tr
namespace L2
open PySem PySem.Spec PyProof.Rows
section
variable {n m:Nat}{p:Array Nat}
end
section
variable {prog:Program}{w:World}{A:Around}{E:Yq}{s:Shared}
end
section
variable {X:Cx}
end
end L2
namespace Tr
open PySem PySem.Spec PyProof.Rows L2
end Tr
namespace L2
open PySem
section
variable {P:Program}{w:World}{A:Around}{E:Yq}{s:Shared}
set_option maxHeartbeats 3200000 in
end
open PySem.Spec PyProof.Rows
section
variable {X:Cx}
end
end L2
namespace Tr
open PySem PySem.Spec PyProof.Rows L2
end Tr
namespace L2
open PySem PySem.Spec PyProof.Rows
end L2
namespace Tr
open PySem PySem.Spec PyProof.Rows L2 PySem.NumText
end Tr
namespace HT
open PySem PyProof.Rows
section
variable {prog:Program}{w:World}{A:Around}{E:Yq}{s:Shared}
end
end HT
namespace L2
open PySem PySem.Spec PyProof.Rows
section
variable {X:Cx}
end
end L2
namespace Tr
open PySem PySem.Spec PyProof.Rows L2
end Tr
namespace L2
open PySem PySem.Spec PyProof.Rows
section
variable {prog:Program}{w:World}{A:Around}{E:Yq}{s:Shared}
end
section
variable {X:Cx}{pins:List (Addr×Obj)}{Y:St}{H:Hp}{s:Shared}{a:Addr}{A:Around}{E:Yq}
end
section
variable {X:Cx}{o e f i value:Expr}{apos cpos pos pos':Pos}{td ty tx tv:TE}
end
section
variable {X:Cx}
end
end L2
namespace L2
open PySem PySem.Spec PyProof.Rows PySem.W
section
variable {X:Cx}{pins:List (Addr×Obj)}{Y:St}{H:Hp}{s:Shared}{tg:Expr}
end
section
variable {X:Cx}{pins:List (Addr×Obj)}{Y:St}{H:Hp}{s:Shared}{scope:Scope}{x0:Str}{Nc:List Str}{js:List Nat}{k:Nat}
end
section
variable {X:Cx}{pins:List (Addr×Obj)}{Y:St}{H:Hp}{s:Shared}{scope:Scope}{x0:Str}{Nc:List Str}{js:List Nat}{k:Nat}{tg iter elt:Expr}{ifs:List Expr}{pos:Pos}{g:TG}{tt:TT}{te:TE}
end
section
variable {X:Cx}
end
section
variable {P:Program}{w:World}{K:W.Frag}{mg:Str->Option Value}{base:Heap}
end
section
variable {X:Cx}
end
open PySem.SeqAt
open PySem.AutoSeq1 (wpAny_loadPart')
open PySem.MeetsSeq PySem.MeetsSeq2 PySem.MeetsSeq3
section
variable {prog:Program}{w:World}{A:Around}
variable {R:Result->Shared->Prop}{I:Addr}{fp wr:List Addr}{n:Nat}{P:Nat->Value->Prop}{St:Nat->Heap->Prop}
end
section
variable {X:Cx}
end
section
variable {X:Cx}{tg:Expr}
end
end L2
namespace Tr
open PySem PySem.Spec PyProof.Rows L2
def cu(ds:List a8):Prop:=∀d∈ai ds,∀q x,d≠.put q x/\d≠.get q x
def ShD(h:Bool)(d:a8):Prop:=(∀x t o,d=.cond x t o->h=true/\cu t/\cu o)/\∀x b,d=.whl x b->h=true/\cu b
noncomputable def eh:List a8->Option Int->List Row
 |.rep n b::r,c=>dW b::(reps (c.getD n).toNat (av b++[dW b])++av r)
 |ds,_=>av ds
theorem nS(ds:List a8):eh ds none=av ds:=by
 cases ds with
 |nil=>rfl
 |cons d r=>
  cases d with
  |rep n b=>simp[eh,av,bE]
  |_=>rfl
inductive Rem(h:Bool):List Pf->List Row->Prop
 |nil:Rem h [] []
 |vis {ds:List a8}{c:Option Int}{p:List Pf}{rs:List Row}:Rem h p rs->Rem h (⟨ds,c⟩::p) (eh ds c++rs)
 |hid {ds:List a8}{c:Option Int}{p:List Pf}{rs:List Row}:h=true->cu ds->Rem h p rs->Rem h (⟨ds,c⟩::p) rs
noncomputable def stq(B:Bk)(q:Str):Int:=((B.q q).length:Int)-B.g q
structure rg(h:Bool)(B B1:Bk)(p1:List Pf)(rs:List Row)(dn rs1:List Row):Prop where
 e:rs=dn++rs1
 r:Rem h p1 rs1
 l1:dn.length<=1
 l2:h=false->dn.length=1
 fd:∀r∈dn,∀q,r.outof=some q->0<stq B q
 st:∀q,stq B1 q=stq B q+bal dn q
def ShP(h:Bool)(p:List Pf):Prop:=∀f∈p,aS (ShD h) f.ds
theorem l9(d:a8)(r:List a8):ai (d::r)=d.flat++ai r:=by rw[ai]
theorem wC(d:a8):d∈d.flat:=by cases d<;>simp[a8.flat]
theorem aS.hd{Pd:a8->Prop}{d:a8}{r:List a8}(a:aS Pd (d::r)):Pd d/\aS Pd r/\∀b∈d.inner,aS Pd b:=by
 refine⟨a d (by rw[l9];exact Q7 _ (wC d)),λe he=>a e (by rw[l9];exact qS _ he),λb hb e he=>a e ?_⟩;rw[l9,fB];exact Q7 _ (qw _ (List.mem_flatMap.mpr ⟨b,hb,he⟩))
theorem sC{B B1:Bk}{d:a8}{r:List a8}{c:Option Int}{p p1:List Pf}(e:cL B d r c p=some (p1,B1))(h1:∀n b,d≠.rep n b)(h2:∀x b,d≠.whl x b)(h3:∀x t o,d≠.cond x t o):stp B d=some B1/\p1=⟨r,none⟩::p:=by
 have go:(stp B d).map (λB'=>((⟨r,none⟩::p:List Pf),B'))=some (p1,B1):=by
  cases d with
  |rep n b=>exact Qf U (h1 n b)
  |whl x b=>exact Qf U (h2 x b)
  |cond x t o=>exact Qf U (h3 x t o)
  |_=>exact e
 obtain⟨B',q,z⟩:=qZ.mp go;cases z;exact⟨q,U⟩
theorem ShP.step{h:Bool}{B B1:Bk}{d:a8}{r:List a8}{c:Option Int}{p p1:List Pf}(s:ShP h (⟨d::r,c⟩::p))(e:cL B d r c p=some (p1,B1)):ShP h p1:=by
 have a:=s _ qy;obtain⟨_,a2,a3⟩:=aS.hd a;have sp:ShP h p:=λf hf=>s f (qw _ hf)
 have cons:∀{f:Pf}{p':List Pf},aS (ShD h) f.ds->ShP h p'->ShP h (f::p'):=λh1 h2 f hf=>by
  rcases qF.mp hf with rfl|hf
  .exact h1
  .exact h2 f hf
 cases d with
 |rep k b=>
  unfold cL at e;dsimp only at e;split at e<;>cases e
  .exact cons (a3 b (by simp[a8.inner])) (cons a sp)
  .exact cons a2 sp
 |whl x b=>
  unfold cL at e;dsimp only at e;split at e<;>cases e
  .exact cons a2 sp
  .exact cons (a3 b (by simp[a8.inner])) (cons a sp)
 |cond x t o=>
  cases e;refine cons ?_ (cons a2 sp);show aS (ShD h) (if B.f x=0 then o else t);split
  .exact a3 o (by simp[a8.inner])
  .exact a3 t (by simp[a8.inner])
 |_=>
  rw[(sC e (by simp) (by simp) (by simp)).2];exact cons a2 sp
theorem pR(q:Str):bal [] q=0:=U
theorem pQ(r:Row)(q:Str):bal [r] q=(if r.into=some q then 1 else 0)-(if r.outof=some q then 1 else 0):=by
 have:=jA [] r q;rw[pR,Qv,Int.zero_add]at this;exact this
theorem sw{B:Bk}{s:Str}:(B.q s)[B.g s]?=none↔¬ 0<stq B s:=by
 unfold stq;rw[List.getElem?_eq_none_iff];omega
theorem A7{B B1:Bk}{d:a8}(e:stp B d=some B1):(∀q,(bu d).outof=some q->0<stq B q)/\∀q,stq B1 q=stq B q+bal [bu d] q:=by
 have one:=λq=>pQ (bu d) q
 cases d with
 |set x a sg b=>cases e;exact⟨λq z=>(nomatch z),λq=>by rw[one q];simp[bu,stq]⟩
 |give x=>cases e;exact⟨λq z=>(nomatch z),λq=>by rw[one q];simp[bu,stq]⟩
 |put s x=>
  cases e;refine⟨λq z=>(nomatch z),λq=>?_⟩;rw[one q];by_cases z:q=s
  .subst z;simp[bu,stq];omega
  .have z':s≠q:=λy=>z y.symm;simp[bu,stq,z,z']
 |get s x=>
  unfold stp at e
  cases hv:(B.q s)[B.g s]? with
  |none=>simp[hv]at e
  |some v=>
   simp[hv]at e;subst e
   have pos:0<stq B s:=by
    by_cases y:0<stq B s
    .exact y
    .rw[sw.mpr y]at hv;cases hv
   refine⟨λq z=>?_,λq=>?_⟩
   .have:s=q:=by simpa[bu]using z
    exact this▸pos
   .rw[one q];by_cases z:q=s
    .subst z;simp[bu,stq];omega
    .have z':s≠q:=λy=>z y.symm;simp[bu,stq,z,z']
 |cond x t o=>cases e
 |whl x b=>cases e
 |rep n b=>cases e
theorem cu.hd{d:a8}{r:List a8}(h:cu (d::r)):(∀q x,d≠.put q x/\d≠.get q x)/\cu r/\∀b∈d.inner,cu b:=aS.hd (Pd:=λd=>∀q x,d≠.put q x/\d≠.get q x) h
theorem A6{h:Bool}{B B1:Bk}{d:a8}{r:List a8}{c:Option Int}{p p1:List Pf}{rs:List Row}(m:Rem h (⟨d::r,c⟩::p) rs)(s:ShP h (⟨d::r,c⟩::p))(e:cL B d r c p=some (p1,B1)):∃dn rs1,rg h B B1 p1 rs dn rs1:=by
 obtain⟨sd,sr,si⟩:=aS.hd (s _ qy);have zero:∀q,stq B q=stq B q+bal [] q:=λq=>by rw[pR];omega
 have gate:∀(x:Row),x.into=none->x.outof=none->∀q,stq B q=stq B q+bal [x] q:=λx h1 h2 q=>by rw[pQ,h1,h2];simp
 cases m with
 |hid ht nm m=>
  obtain⟨n1,n2,n3⟩:=cu.hd nm;have none':∀{p1:List Pf},Rem h p1 rs->rg h B B p1 rs [] rs:=λm=>⟨U,m,qD _,λz=>(by rw[z]at ht;cases ht),λr hr=>(nomatch hr),zero⟩
  cases d with
  |rep k b=>
   unfold cL at e;dsimp only at e;split at e<;>cases e
   .exact⟨[],rs,none' (.hid ht (n3 b (by simp[a8.inner])) (.hid ht nm m))⟩
   .exact⟨[],rs,none' (.hid ht n2 m)⟩
  |whl x b=>
   unfold cL at e;dsimp only at e;split at e<;>cases e
   .exact⟨[],rs,none' (.hid ht n2 m)⟩
   .exact⟨[],rs,none' (.hid ht (n3 b (by simp[a8.inner])) (.hid ht nm m))⟩
  |cond x t o=>
   cases e;refine⟨[],rs,none' (.hid ht ?_ (.hid ht n2 m))⟩;split
   .exact n3 o (by simp[a8.inner])
   .exact n3 t (by simp[a8.inner])
  |put q x=>exact Qf U (n1 q x).1
  |get q x=>exact Qf U (n1 q x).2
  |set x a sg b=>
   cases e;exact⟨[],rs,⟨U,.hid ht n2 m,qD _,λz=>(by rw[z]at ht;cases ht),λr hr=>(nomatch hr),zero⟩⟩
  |give x=>
   cases e;exact⟨[],rs,⟨U,.hid ht n2 m,qD _,λz=>(by rw[z]at ht;cases ht),λr hr=>(nomatch hr),zero⟩⟩
 |@vis _ _ _ rs0 m=>
  have mv:Rem h (⟨r,none⟩::p) (av r++rs0):=by rw[<- nS];exact .vis m
  have plain:∀{B':Bk},stp B d=some B'->bE d=[bu d]->eh (d::r) c=av (d::r)->∃dn rs1,rg h B B' (⟨r,none⟩::p) (eh (d::r) c++rs0) dn rs1:=λst e1 e2=>by
   obtain⟨h1,h2⟩:=A7 st;refine⟨[bu d],av r++rs0,⟨?_,mv,qi _,λ_=>U,λr hr q hq=>h1 q (by rw[<- Q4.mp hr];exact hq),h2⟩⟩;rw[e2,av,e1];simp
  cases d with
  |rep k b=>
   unfold cL at e;dsimp only at e;split at e<;>cases e
   .rename_i pos;refine⟨[dW b],av b++(eh (.rep k b::r) (some (c.getD k-1))++rs0),⟨?_,?_,qi _,λ_=>U,λr hr q hq=>(by rw[Q4.mp hr]at hq;cases hq),gate _ U U⟩⟩
    .have e1:(c.getD k).toNat=(c.getD k-1).toNat+1:=by omega
     show dW b::(reps (c.getD k).toNat _++av r)++rs0=_;rw[e1,gE];simp[eh]
    .have:=Rem.vis (h:=h) (ds:=b) (c:=none) (Rem.vis (h:=h) (ds:=.rep k b::r) (c:=some (c.getD k-1)) m)
     rwa [nS]at this
   .rename_i pos;refine⟨[dW b],av r++rs0,⟨?_,mv,qi _,λ_=>U,λr hr q hq=>(by rw[Q4.mp hr]at hq;cases hq),gate _ U U⟩⟩;have e1:(c.getD k).toNat=0:=Yo;show dW b::(reps (c.getD k).toNat _++av r)++rs0=_;rw[e1,nR]
    rfl
  |whl x b=>
   unfold cL at e;dsimp only at e;split at e<;>cases e
   .refine⟨[bu (.whl x b)],av r++rs0,⟨by simp[eh,av,bE],mv,qi _,λ_=>U,λr hr q hq=>(by rw[Q4.mp hr]at hq;cases hq),gate _ U U⟩⟩
   .obtain⟨ht,nb⟩:=sd.2 x b U;exact⟨[],_,⟨U,.hid ht nb (.vis m),qD _,λz=>(by rw[z]at ht;cases ht),λr hr=>(nomatch hr),zero⟩⟩
  |cond x t o=>
   cases e;obtain⟨ht,nt,no⟩:=sd.1 x t o U;refine⟨[bu (.cond x t o)],av r++rs0,⟨by simp[eh,av,bE],.hid ht ?_ mv,qi _,λ_=>U,λr hr q hq=>(by rw[Q4.mp hr]at hq;cases hq),gate _ U U⟩⟩;split
   .exact no
   .exact nt
  |_=>
   obtain⟨q,z⟩:=sC e (by simp) (by simp) (by simp);rw[z];exact plain q (by simp[bE]) U
structure Far(h:Bool)(rows:List Row)(p:List Pf)(B:Bk)(k:Nat)(dn rs:List Row):Prop where
 e:rows=dn++rs
 r:Rem h p rs
 s:ShP h p
 le:dn.length<=k
 eq:h=false->dn.length=k
 fd:Fed dn
 st:∀q,stq B q=bal dn q
 nn:∀q,0<=bal dn q
theorem Fed.more{A B:List Row}(h:Fed A)(l1:B.length<=1)(hb:∀r∈B,∀q,r.outof=some q->0<bal A q):Fed (A++B):=λi r q hi ho=>by
 by_cases lt:i<A.length
 .rw[Qg lt]at hi;rw[List.take_append_of_le_length (Nat.le_of_lt lt)];exact h i r q hi ho
 .rw[qV (Nat.not_lt.mp lt)]at hi;have il:=(qj.mp hi).1;rw[show i=A.length by omega,List.take_left];exact hb r (qK hi) q ho
theorem bw.far{h:Bool}{rows:List Row}{m:Nat}{p p':List Pf}{B B':Bk}{k k':Nat}(g:bw m p B k p' B' k'):∀{dn rs:List Row},Far h rows p B k dn rs->∃dn' rs',Far h rows p' B' k' dn' rs':=by
 induction g with
 |refl=>exact λf=>⟨_,_,f⟩
 |pop _ ih=>
  intro dn rs f;have sp:=λx hx=>f.s x (qw _ hx)
  cases hr:f.r with
  |vis m=>exact ih ⟨f.e,m,sp,f.le,f.eq,f.fd,f.st,f.nn⟩
  |hid _ _ m=>exact ih ⟨f.e,m,sp,f.le,f.eq,f.fd,f.st,f.nn⟩
 |step _ e _ ih=>
  intro dn rs f;obtain⟨d1,r1,S⟩:=A6 f.r f.s e;refine ih (dn:=dn++d1) (rs:=r1) ⟨by rw[f.e,S.e,qX],S.r,f.s.step e,?_,λz=>?_,f.fd.more S.l1 λr hr q hq=>by rw[<- f.st];exact S.fd r hr q hq,λq=>by rw[S.st,f.st,xp],λq=>?_⟩
  .rw[qf];have:=f.le;have:=S.l1;omega
  .rw[qf,f.eq z,S.l2 z]
  .rw[xp];have h1:=f.nn q;have l1:=S.l1;have fd:=S.fd
   match d1,l1,fd with
   |[],_,_=>rw[pR];omega
   |[r],_,fd=>
    rw[pQ];have h2:r.outof=some q->0<bal dn q:=λz=>by rw[<- f.st];exact fd r (Q4.mpr U) q z
    by_cases z:r.outof=some q
    .have:=h2 z;rw[Qc z];split<;>omega
    .rw[Qb z];split<;>omega
theorem cu.nil:cu []:=λd h=>by simp[ai]at h
theorem cu.app{a b:List a8}(h1:cu a)(h2:cu b):cu (a++b):=aS.app (Pd:=λd=>∀q x,d≠.put q x/\d≠.get q x) h1 h2
theorem cu.one{d:a8}(h:∀q x,d≠.put q x/\d≠.get q x)(hi:∀b∈d.inner,cu b):cu [d]:=aS.one (Pd:=λd=>∀q x,d≠.put q x/\d≠.get q x) h hi
noncomputable def Op.choice:Op->Bool
 |.ifT _=>true
 |.ifO _ _=>true
 |.whl _=>true
 |_=>false
structure ShF(h:Bool)(f:Fr):Prop where
 a:aS (ShD h) f.ds
 b:aS (ShD h) f.op.extra
 c:f.shut=true->cu f.ds
 d:cu f.op.extra
 e:f.op.choice=true->f.shut=true/\h=true
def ShS(h:Bool):List Fr->Prop
 |[]=>True
 |[f]=>ShF h f
 |f::g::r=>ShF h f/\(g.shut=true->f.shut=true)/\ShS h (g::r)
theorem ShS.head{h:Bool}{f:Fr}{r:List Fr}(s:ShS h (f::r)):ShF h f:=by
 cases r with
 |nil=>exact s
 |cons g r=>exact s.1
theorem ShS.put{h:Bool}{f f':Fr}{r:List Fr}(s:ShS h (f::r))(e:f'.shut=f.shut)(s':ShF h f'):ShS h (f'::r):=by
 cases r with
 |nil=>exact s'
 |cons g r=>exact⟨s',by rw[e];exact s.2.1,s.2.2⟩
theorem ShF.deed{h:Bool}{f:Fr}(s:ShF h f):aS (ShD h) [f.deed]/\(f.shut=true->cu [f.deed]):=by
 unfold Fr.deed;have b:=s.b;have d:=s.d;have e:=s.e;have sh:∀{d':a8},(∀x t o,d'≠.cond x t o)->(∀x b,d'≠.whl x b)->ShD h d':=λh1 h2=>⟨λx t o z=>Qf z (h1 x t o),λx b z=>Qf z (h2 x b)⟩
 cases hop:f.op with
 |root=>exact⟨.one (sh (by simp) (by simp)) (by simp[a8.inner];exact s.a),λz=>.one (by simp) (by simp[a8.inner];exact s.c z)⟩
 |rep n=>exact⟨.one (sh (by simp) (by simp)) (by simp[a8.inner];exact s.a),λz=>.one (by simp) (by simp[a8.inner];exact s.c z)⟩
 |ifT x=>
  obtain⟨e1,e2⟩:=e (by rw[hop];rfl);have n:=s.c e1;exact⟨.one ⟨λx t o z=>by cases z;exact⟨e2,n,.nil⟩,λx b z=>by cases z⟩ (by simp[a8.inner];exact⟨s.a,.nil⟩),λz=>.one (by simp) (by simp[a8.inner];exact⟨n,.nil⟩)⟩
 |ifO x t=>
  rw[hop]at b d;obtain⟨e1,e2⟩:=e (by rw[hop];rfl);have n:=s.c e1;exact⟨.one ⟨λx t o z=>by cases z;exact⟨e2,d,n⟩,λx b z=>by cases z⟩ (by simp[a8.inner];exact⟨b,s.a⟩),λz=>.one (by simp) (by simp[a8.inner];exact⟨d,n⟩)⟩
 |whl x=>
  obtain⟨e1,e2⟩:=e (by rw[hop];rfl);have n:=s.c e1;exact⟨.one ⟨λx t o z=>(by cases z),λx b z=>by cases z;exact⟨e2,n⟩⟩ (by simp[a8.inner];exact s.a),λz=>.one (by simp) (by simp[a8.inner];exact n)⟩
theorem zS(h:Bool)(n:Int)(names rooms:List Str)(s:Bool):aS (ShD h) [bc n names rooms s]/\(s=true->cu [bc n names rooms s]):=by
 refine⟨.one ⟨λx t o z=>?_,λx b z=>?_⟩ (by rw[lU];simp),λst=>.one (λq x=>⟨λz=>?_,λz=>?_⟩) (by rw[lU];simp)⟩
 all_goals
  unfold bc at z;split at z
  .cases z
  .split at z
   .first
     |(split at z<;>cases z;done)
     |(rename_i c;rw[st]at c;exact Qf c.2.2 Yk)
   .cases z
theorem zo{h:Bool}{names rooms:List Str}{most low n:Int}{st:List Fr}(hl:h=true\/9<=low)(s:ShS h st):ShS h (bx names rooms most low st n):=by
 match st,s with
 |[],s=>exact s
 |g::r,s=>
  have sg:=s.head;unfold bx;dsimp only;split
  .rename_i c;unfold eZ;dsimp only;split
   .rename_i c7;have ht:h=true:=hl.resolve_right Yo;exact⟨⟨.nil,.nil,λ_=>.nil,.nil,λ_=>⟨U,ht⟩⟩,λ_=>U,s⟩
   .split
    .rename_i c7;have ht:h=true:=hl.resolve_right Yo;exact⟨⟨.nil,.nil,λ_=>.nil,.nil,λ_=>⟨U,ht⟩⟩,λ_=>U,s⟩
    .exact⟨⟨.nil,.nil,λ_=>.nil,.nil,λz=>(nomatch z)⟩,λz=>z,s⟩
  .split
   .rename_i x hx
    have ho:g.op=.ifT x:=by
     split at hx
     .unfold Op.ifT? at hx;split at hx<;>cases hx
      assumption
     .cases hx
    obtain⟨e1,e2⟩:=sg.e (by rw[ho];rfl);exact s.put U ⟨.nil,sg.a,λ_=>.nil,sg.c e1,λ_=>⟨e1,e2⟩⟩
   .split
    .cases r with
     |nil=>exact s
     |cons g' r'=>
      obtain⟨d1,d2⟩:=sg.deed;have s':=s.2.2.head;exact s.2.2.put U ⟨s'.a.app d1,s'.b,λz=>(s'.c z).app (d2 (s.2.1 z)),s'.d,s'.e⟩
    .obtain⟨d1,d2⟩:=zS h n names rooms g.shut;exact s.put U ⟨sg.a.app d1,sg.b,λz=>(sg.c z).app (d2 z),sg.d,sg.e⟩
theorem sG{h:Bool}{names rooms:List Str}{most low:Int}(hl:h=true\/9<=low):∀(cells:List Int)(st:List Fr),ShS h st->ShS h (cells.foldl (λst c=>bx names rooms most low st (aE c 1)) st)
 |[],_,s=>s
 |_::cs,_,s=>sG hl cs _ (zo hl s)
theorem rE{h:Bool}:∀(st:List Fr)(dt:List a8),ShS h st->aS (ShD h) dt->(∀f r,st=f::r->f.shut=true->cu dt)->aS (ShD h) (wh st dt)
 |[],_,_,_,_=>.nil
 |[f],dt,s,hd,_=>s.a.app hd
 |f::g::r,dt,s,hd,hn=>by
  have sf:ShF h { f with ds:=f.ds++dt }:=⟨s.1.a.app hd,s.1.b,λz=>(s.1.c z).app (hn f _ U z),s.1.d,s.1.e⟩;obtain⟨d1,d2⟩:=sf.deed;exact rE (g::r) _ s.2.2 d1 λf' r' e z=>d2 (s.2.1 (by cases e;exact z))
theorem FS{h:Bool}{names rooms:List Str}{most low:Int}(hl:h=true\/9<=low)(h1:1<=most)(h98:most<=98)(cells:List Int):aS (ShD h) (cY names rooms most low cells):=by
 have a:=(jV (names:=names) (rooms:=rooms) (low:=low) ⟨0,λ_=>0⟩ Yk Yk (λ_=>⟨by simp,by simp⟩) h1 h98 cells st0 ⟨U,U⟩).1;have b:=sG (names:=names) (rooms:=rooms) (most:=most) hl cells st0 (show ShF h _ from⟨.nil,.nil,λ_=>.nil,.nil,λz=>(nomatch z)⟩)
 have ne:(cC names rooms most low cells).length≠0:=λz=>by
  rw[List.length_eq_zero_iff]at z;unfold cC at z;rw[z]at a;exact a
 unfold cY hZ;rw[i0 _ _ Yo];exact rE _ _ b .nil λ_ _ _ _=>.nil
end Tr
namespace L2
open PySem PySem.Spec PyProof.Rows PySem.W
variable {X:Cx}
theorem Cz:OpR X (compareOp .Is) (λx y H Q=>∃b c,x=.bl b/\y=.bl c/\Q (.bl (b == c)) H):=by
 intro pins s Y H x y v u Q I rx ry h;obtain⟨b,c,rfl,rfl,q⟩:=h;cases rx;cases ry;exact qh (bB I q (by cases b<;>cases c<;>rfl))
end L2
set_option Elab.async false
set_option maxRecDepth 100000
set_option maxHeartbeats 4000000
namespace K29
open PySem L2 Tr
seal PE PT PW PA PS PSs PG PGs PI PTs PO OpR UnR cJ TruR IxR SlR
local macro_rules|`(tactic| walk_at "rds")=>`(tactic| first|assumption|decide|omega)
local macro_rules|`(tactic| walk_at "rd")=>`(tactic| repeat (first|refine⟨_,rfl,?_⟩|refine⟨_,_,rfl,rfl,?_⟩|refine⟨rfl,_,rfl,?_⟩|refine⟨_,_,rfl,rfl,by walk_at "rds",?_⟩|refine And.intro (by walk_at "rds") ?_))
local macro_rules|`(tactic| walk_at "yes")=>`(tactic| refine aX (by decide +kernel) ?_)
local macro_rules|`(tactic| walk_at "no")=>`(tactic| refine aG (by decide +kernel) ?_)
abbrev my:Stmt:=top 4
abbrev mf:Stmt:=top 5
abbrev mK:Stmt:=top 6
abbrev mJ:Stmt:=top 7
abbrev kj:Stmt:=top 8
abbrev mj:Stmt:=top 9
abbrev mh:Stmt:=top 13
abbrev mq:Stmt:=top 14
abbrev mn:Stmt:=top 15
abbrev mB:Stmt:=top 16
abbrev mI:Stmt:=top 17
abbrev nJ:Stmt:=inClass (top 19) 0
abbrev mE:Stmt:=top 24
abbrev mF:Stmt:=top 25
abbrev me:Stmt:=top 26
abbrev ma:Stmt:=top 27
abbrev md:Stmt:=top 28
abbrev mo:Stmt:=top 29
abbrev mG:Stmt:=top 30
abbrev nH:Stmt:=inClass (top 32) 0
abbrev nE:Stmt:=inClass (top 32) 1
abbrev nG:Stmt:=inClass (top 32) 3
abbrev nD:Stmt:=inClass (top 32) 4
abbrev nF:Stmt:=inClass (top 32) 5
abbrev mC:Stmt:=top 35
abbrev mi:Stmt:=top 36
abbrev kn:Stmt:=top 37
abbrev ko:Stmt:=inClass (top 39) 0
abbrev nB:Stmt:=inClass (top 39) 1
abbrev nA:Stmt:=inClass (top 39) 2
abbrev nw:Stmt:=inClass (top 39) 3
abbrev nh:Stmt:=inClass (top 39) 4
abbrev nj:Stmt:=inClass (top 39) 5
abbrev ni:Stmt:=inClass (top 39) 6
abbrev n8:Stmt:=inClass (top 39) 7
abbrev nu:Stmt:=inClass (top 39) 8
abbrev mZ:Stmt:=inClass (top 39) 9
abbrev ng:Stmt:=inClass (top 39) 10
abbrev j6:Stmt:=top 40
abbrev mX:Stmt:=top 42
abbrev mU:Stmt:=top 43
abbrev mL:Stmt:=top 44
abbrev mV:Stmt:=top 45
abbrev mO:Stmt:=top 46
abbrev mR:Stmt:=top 47
abbrev mP:Stmt:=top 48
abbrev mS:Stmt:=top 49
abbrev mY:Stmt:=top 50
abbrev mT:Stmt:=top 51
abbrev mQ:Stmt:=top 52
abbrev j7:Stmt:=top 53
abbrev mN:Stmt:=top 54
abbrev j8:Stmt:=top 55
abbrev mW:Stmt:=top 56
abbrev g6:Stmt:=top 57
theorem lY:aN ["block","names","deed"] ["block"] (ax my):=⟨U,U,U,Yd,U,Yd,Yd⟩
theorem Al:aN ["program"] ["program"] (ax mf):=⟨U,U,U,Yd,U,Yd,Yd⟩
theorem j4:aN ["block","found","deed","inner"] ["block"] (ax mK):=⟨U,U,U,Yd,U,Yd,Yd⟩
theorem Au:aN ["deed"] ["deed"] (ax mJ):=⟨U,U,U,Yd,U,Yd,Yd⟩
theorem ub:aN ["deed","kind"] ["deed"] (ax kj):=⟨U,U,U,Yd,U,Yd,Yd⟩
theorem An:aN ["deed"] ["deed"] (ax mj):=⟨U,U,U,Yd,U,Yd,Yd⟩
theorem lX:aN ["block","cards","deed"] ["block"] (ax mh):=⟨U,U,U,Yd,U,Yd,Yd⟩
theorem Aq:aN ["deed"] ["deed"] (ax mq):=⟨U,U,U,Yd,U,Yd,Yd⟩
theorem Ao:aN ["store"] ["store"] (ax mn):=⟨U,U,U,Yd,U,Yd,Yd⟩
theorem Ar:aN ["store"] ["store"] (ax mB):=⟨U,U,U,Yd,U,Yd,Yd⟩
theorem kh:aN ["program","cards","store","length"] ["program"] (ax mI):=⟨U,U,U,Yd,U,Yd,Yd⟩
theorem AJ:aN ["self","words","place"] ["self","words","place"] (ax nJ):=⟨U,U,U,Yd,U,Yd,Yd⟩
theorem uc:aN ["program","deeds"] ["program"] (ax mE):=⟨U,U,U,Yd,U,Yd,Yd⟩
theorem j3:aN ["block","count","deed"] ["block"] (ax mF):=⟨U,U,U,Yd,U,Yd,Yd⟩
theorem kg:aN ["block","deeds","deed"] ["block"] (ax me):=⟨U,U,U,Yd,U,Yd,Yd⟩
theorem u9:aN ["rounds","body","gate"] ["rounds","body"] (ax ma):=⟨U,U,U,Yd,U,Yd,Yd⟩
theorem ua:aN ["deed","kind"] ["deed"] (ax md):=⟨U,U,U,Yd,U,Yd,Yd⟩
theorem Ap:aN ["kind","cards"] ["kind","cards"] (ax mo):=⟨U,U,U,Yd,U,Yd,Yd⟩
theorem ic:aN ["deeds","standing","number","deed","into","outof"] ["deeds"] (ax mG):=⟨U,U,U,Yd,U,Yd,Yd⟩
theorem AI:aN ["self","things"] ["self","things"] (ax nH):=⟨U,U,U,Yd,U,Yd,Yd⟩
theorem AF:aN ["self"] ["self"] (ax nE):=⟨U,U,U,Yd,U,Yd,Yd⟩
theorem AH:aN ["self","thing"] ["self","thing"] (ax nG):=⟨U,U,U,Yd,U,Yd,Yd⟩
theorem uj:aN ["self","thing"] ["self"] (ax nD):=⟨U,U,U,Yd,U,Yd,Yd⟩
theorem AG:aN ["self"] ["self"] (ax nF):=⟨U,U,U,Yd,U,Yd,Yd⟩
theorem As:aN ["sign","a","b"] ["sign","a","b"] (ax mC):=⟨U,U,U,Yd,U,Yd,Yd⟩
theorem Am:aN ["sign","a","b"] ["sign","a","b"] (ax mi):=⟨U,U,U,Yd,U,Yd,Yd⟩
theorem ki:aN ["program","numbers","begun","name","number"] ["program","numbers"] (ax kn):=⟨U,U,U,Yd,U,Yd,Yd⟩
theorem AE:aN ["self","numbers","stores","most"] ["self","numbers","stores","most"] (ax ko):=⟨U,U,U,Yd,U,Yd,Yd⟩
theorem lZ:aN ["self","block","deed"] ["self","block"] (ax nB):=⟨U,U,U,Yd,U,Yd,Yd⟩
theorem ui:aN ["self","deed","kind"] ["self","deed"] (ax nA):=⟨U,U,U,Yd,U,Yd,Yd⟩
theorem AD:aN ["self","name","then","other"] ["self","name","then","other"] (ax nw):=⟨U,U,U,Yd,U,Yd,Yd⟩
theorem AB:aN ["self","name","body"] ["self","name","body"] (ax nh):=⟨U,U,U,Yd,U,Yd,Yd⟩
theorem ug:aN ["self","rounds","body","count"] ["self","rounds","body"] (ax nj):=⟨U,U,U,Yd,U,Yd,Yd⟩
theorem AC:aN ["self"] ["self"] (ax ni):=⟨U,U,U,Yd,U,Yd,Yd⟩
theorem Az:aN ["self"] ["self"] (ax n8):=⟨U,U,U,Yd,U,Yd,Yd⟩
theorem uh:aN ["self","deed","kind"] ["self","deed"] (ax nu):=⟨U,U,U,Yd,U,Yd,Yd⟩
theorem Ay:aN ["self","value"] ["self","value"] (ax mZ):=⟨U,U,U,Yd,U,Yd,Yd⟩
theorem AA:aN ["self","store"] ["self","store"] (ax ng):=⟨U,U,U,Yd,U,Yd,Yd⟩
theorem i9:aN ["program","numbers","most","stores","running","ended","finals","left"] ["program","numbers","most"] (ax j6):=⟨U,U,U,Yd,U,Yd,Yd⟩
theorem Ax:aN ["_law_script","_law_k"] ["_law_script","_law_k"] (ax mX):=⟨U,U,U,Yd,U,Yd,Yd⟩
theorem uf:aN ["_law_cell","_law_k","_law_number"] ["_law_cell","_law_k"] (ax mU):=⟨U,U,U,Yd,U,Yd,Yd⟩
theorem Av:aN ["_law_found"] ["_law_found"] (ax mL):=⟨U,U,U,Yd,U,Yd,Yd⟩
theorem ig:aN ["_law_number","_law_size","_law_some","_law_word","_law_k"] ["_law_number","_law_size"] (ax mV):=⟨U,U,U,Yd,U,Yd,Yd⟩
theorem ud:aN ["_law_word","_law_some"] ["_law_word"] (ax mO):=⟨U,U,U,Yd,U,Yd,Yd⟩
theorem eF:aN ["_law_cell","_law_many","_law_some","_law_number","_law_base","_law_size","_law_at","_law_words","_law_k","_law_sign","_law_word"] ["_law_cell","_law_many"] (ax mR):=⟨U,U,U,Yd,U,Yd,Yd⟩
theorem fZ:aN ["_law_number","_law_names","_law_rooms","_law_shut","_law_kind","_law_rest","_law_x","_law_a","_law_b"] ["_law_number","_law_names","_law_rooms","_law_shut"] (ax mP):=⟨U,U,U,Yd,U,Yd,Yd⟩
theorem ee:aN ["_law_state","_law_number","_law_x","_law_most","_law_kind","_law_rest","_law_inner","_law_other","_law_shut","_law_times","_law_now","_law_many"] ["_law_state","_law_number","_law_x","_law_most"] (ax mS):=⟨U,U,U,Yd,U,Yd,Yd⟩
theorem gD:aN ["_law_cells","_law_names","_law_rooms","_law_most","_law_low","_law_body","_law_state","_law_cell","_law_number","_law_kind","_law_part"] ["_law_cells","_law_names","_law_rooms","_law_most","_law_low"] (ax mY):=⟨U,U,U,Yd,U,Yd,Yd⟩
theorem ie:aN ["_law_block_here","_law_moves_here","_law_one","_law_inner","_law_k"] ["_law_block_here"] (ax mT):=⟨U,U,U,Yd,U,Yd,Yd⟩
theorem fI:aN ["_law_moves_here","_law_q","_law_now","_law_low","_law_high","_law_kind","_law_store"] ["_law_moves_here","_law_q"] (ax mQ):=⟨U,U,U,Yd,U,Yd,Yd⟩
theorem eS:aN ["_law_script","_law_low","_law_first","_law_second","_law_third","_law_names","_law_rooms","_law_body","_law_front","_law_moves_here","_law_q","_law_asks"] ["_law_script","_law_low"] (ax j7):=⟨U,U,U,Yd,U,Yd,Yd⟩
theorem Aw:aN ["_law_caught"] ["_law_caught"] (ax mN):=⟨U,U,U,Yd,U,Yd,Yd⟩
theorem j5:aN ["_law_left","_law_stores","_law_rows","_law_k","_law_one","_law_puts","_law_gets"] ["_law_left","_law_stores","_law_rows"] (ax j8):=⟨U,U,U,Yd,U,Yd,Yd⟩
theorem ii:aN ["_law_rows","_law_told","_law_stores","_law_low","_law_most","_law_ended","_law_steps","_law_outs","_law_finals","_law_left"] ["_law_rows","_law_told","_law_stores","_law_low","_law_most"] (ax mW):=⟨U,U,U,Yd,U,Yd,Yd⟩
theorem e8:aN ["_law_script","_law_third","_law_low","_law_program_here","_law_kept","_law_most","_law_numbers","_law_rows","_law_starved_here","error","_law_told","_law_stopped"] ["_law_script"] (ax g6):=⟨U,U,U,Yd,U,Yd,Yd⟩
set_option genInjectivity false in
structure Adr where
 Hk:Addr
 Hl:FuncData
 Hm:Addr
 Hn:FuncData
 Ho:Addr
 Hq:FuncData
 Hr:Addr
 Hs:FuncData
 Ht:Addr
 Hu:FuncData
 Hv:Addr
 Hw:FuncData
 Hx:Addr
 Hy:FuncData
 Hz:Addr
 HA:FuncData
 HB:Addr
 HC:FuncData
 HD:Addr
 HE:FuncData
 HF:Addr
 HG:FuncData
 GA:Addr
 HH:FuncData
 HI:Addr
 HJ:FuncData
 HK:Addr
 HL:FuncData
 GI:Addr
 GJ:FuncData
 HM:Addr
 HN:FuncData
 HP:Addr
 HQ:FuncData
 HR:Addr
 HS:FuncData
 HU:Addr
 HV:FuncData
 HW:Addr
 HX:FuncData
 HY:Addr
 HZ:FuncData
 Ia:Addr
 Ib:FuncData
 Ic:Addr
 Id:FuncData
 Ie:Addr
 Ig:FuncData
 done:Addr
 Ih:FuncData
 Ii:Addr
 Ij:FuncData
 Ik:Addr
 Il:FuncData
 Im:Addr
 Io:FuncData
 Cl:Addr
 Cn:FuncData
 GK:Addr
 GL:FuncData
 GM:Addr
 GN:FuncData
 GO:Addr
 GP:FuncData
 GQ:Addr
 GR:FuncData
 Ip:Addr
 Iq:FuncData
 Ir:Addr
 Iu:FuncData
 Iv:Addr
 Iw:FuncData
 Ix:Addr
 Iy:FuncData
 Iz:Addr
 IA:FuncData
 dz:Addr
 GS:FuncData
 Jx:Tok
 IB:Addr
 IC:FuncData
 ID:Addr
 IE:FuncData
 IF:Addr
 IG:FuncData
 IH:Addr
 II:FuncData
 IJ:Addr
 IK:FuncData
 IL:Addr
 IM:FuncData
 IN:Addr
 IO:FuncData
 IP:Addr
 IQ:FuncData
 IR:Addr
 IS:FuncData
 IT:Addr
 IU:FuncData
 IV:Addr
 IW:FuncData
 IX:Addr
 IY:FuncData
 IZ:Addr
 J0:FuncData
 J1:Addr
 J5:FuncData
 J6:Addr
 J7:FuncData
 J8:Addr
 J9:FuncData
 GT:Addr
 GU:Addr
 Jy:Tok
 GV:Addr
 Jz:Tok
 JA:Tok
 u8:Addr
 f8:Addr
 Gu:Addr
 mt:Addr
 or:Addr
structure Tx(P:Program)(w:World)(K:W.Frag)(mg:Str->Option Value)(a:Adr):Prop where
 JB:Fun K "named" "named" my a.Hk a.Hl
 Kp:aJ K a.Hl ["block"] []
 Kq:mg "named"=some (.ref a.Hk)
 JC:Fun K "variables_of" "variables_of" mf a.Hm a.Hn
 Kr:aJ K a.Hn ["program"] []
 Ks:mg "variables_of"=some (.ref a.Hm)
 GB:Fun K "all_deeds" "all_deeds" mK a.Ho a.Hq
 Ja:aJ K a.Hq ["block"] []
 Jb:mg "all_deeds"=some (.ref a.Ho)
 JD:Fun K "blocks_within" "blocks_within" mJ a.Hr a.Hs
 Kt:aJ K a.Hs ["deed"] []
 Ku:mg "blocks_within"=some (.ref a.Hr)
 GW:Fun K "names_in" "names_in" kj a.Ht a.Hu
 Jc:aJ K a.Hu ["deed"] []
 Jd:mg "names_in"=some (.ref a.Ht)
 JE:Fun K "read_by_set" "read_by_set" mj a.Hv a.Hw
 Kv:aJ K a.Hw ["deed"] []
 Kw:mg "read_by_set"=some (.ref a.Hv)
 GX:Fun K "touched" "touched" mh a.Hx a.Hy
 Je:aJ K a.Hy ["block"] []
 Jf:mg "touched"=some (.ref a.Hx)
 JF:Fun K "other_cards_in" "other_cards_in" mq a.Hz a.HA
 Kx:aJ K a.HA ["deed"] []
 Ky:mg "other_cards_in"=some (.ref a.Hz)
 GY:Fun K "put_card" "put_card" mn a.HB a.HC
 Jg:aJ K a.HC ["store"] []
 Jh:mg "put_card"=some (.ref a.HB)
 GZ:Fun K "get_card" "get_card" mB a.HD a.HE
 Ji:aJ K a.HE ["store"] []
 Jj:mg "get_card"=some (.ref a.HD)
 JG:Fun K "cards_of" "cards_of" mI a.HF a.HG
 Kz:aJ K a.HG ["program"] []
 KA:mg "cards_of"=some (.ref a.HF)
 KB:Fun K "__init__" "FlowError.__init__" nJ a.GA a.HH
 Jk:aJ K a.HH ["self","words","place"] []
 JH:Fun K "deeds_of" "deeds_of" mE a.HI a.HJ
 KC:aJ K a.HJ ["program"] []
 KD:mg "deeds_of"=some (.ref a.HI)
 Ha:Fun K "counted" "counted" mF a.HK a.HL
 JI:aJ K a.HL ["block"] []
 JJ:mg "counted"=some (.ref a.HK)
 Hc:Fun K "written" "written" me a.GI a.GJ
 JK:aJ K a.GJ ["block"] []
 JL:mg "written"=some (.ref a.GI)
 JM:Fun K "written_rounds" "written_rounds" ma a.HM a.HN
 KE:aJ K a.HN ["rounds","body"] []
 KF:mg "written_rounds"=some (.ref a.HM)
 JN:Fun K "written_once" "written_once" md a.HP a.HQ
 KG:aJ K a.HQ ["deed"] []
 KH:mg "written_once"=some (.ref a.HP)
 Hd:Fun K "owner_of" "owner_of" mo a.HR a.HS
 Jl:aJ K a.HS ["kind","cards"] []
 Jm:mg "owner_of"=some (.ref a.HR)
 JO:Fun K "check_gets" "check_gets" mG a.HU a.HV
 KI:aJ K a.HV ["deeds"] []
 KJ:mg "check_gets"=some (.ref a.HU)
 KK:Fun K "__init__" "Queue.__init__" nH a.HW a.HX
 KL:aJ K a.HX ["self","things"] []
 KM:Fun K "standing" "Queue.standing" nE a.HY a.HZ
 KN:aJ K a.HZ ["self"] []
 KO:Fun K "lay" "Queue.lay" nG a.Ia a.Ib
 KP:aJ K a.Ib ["self","thing"] []
 KQ:Fun K "take" "Queue.take" nD a.Ic a.Id
 KR:aJ K a.Id ["self"] []
 KS:Fun K "rest" "Queue.rest" nF a.Ie a.Ig
 KU:aJ K a.Ig ["self"] []
 JP:Fun K "done" "done" mC a.done a.Ih
 KW:aJ K a.Ih ["sign","a","b"] []
 KY:mg "done"=some (.ref a.done)
 JQ:Fun K "reckoned" "reckoned" mi a.Ii a.Ij
 KZ:aJ K a.Ij ["sign","a","b"] []
 L0:mg "reckoned"=some (.ref a.Ii)
 JR:Fun K "beginnings" "beginnings" kn a.Ik a.Il
 L4:aJ K a.Il ["program","numbers"] []
 L5:mg "beginnings"=some (.ref a.Ik)
 L6:Fun K "__init__" "Run.__init__" ko a.Im a.Io
 L7:aJ K a.Io ["self","numbers","stores","most"] []
 JS:Fun K "do_block" "Run.do_block" nB a.Cl a.Cn
 He:aJ K a.Cn ["self","block"] []
 L8:Fun K "do_deed" "Run.do_deed" nA a.GK a.GL
 L9:aJ K a.GL ["self","deed"] []
 La:Fun K "do_if" "Run.do_if" nw a.GM a.GN
 Lb:aJ K a.GN ["self","name","then","other"] []
 Lc:Fun K "do_while" "Run.do_while" nh a.GO a.GP
 Ld:aJ K a.GP ["self","name","body"] []
 Le:Fun K "do_repeat" "Run.do_repeat" nj a.GQ a.GR
 Lf:aJ K a.GR ["self","rounds","body"] []
 Lg:Fun K "do_step" "Run.do_step" ni a.Ip a.Iq
 GC:aJ K a.Iq ["self"] []
 Lh:Fun K "is_spent" "Run.is_spent" n8 a.Ir a.Iu
 JT:aJ K a.Iu ["self"] []
 Li:Fun K "do_plain" "Run.do_plain" nu a.Iv a.Iw
 Lj:aJ K a.Iw ["self","deed"] []
 Lk:Fun K "number_of" "Run.number_of" mZ a.Ix a.Iy
 JU:aJ K a.Iy ["self","value"] []
 Ll:Fun K "got_from" "Run.got_from" ng a.Iz a.IA
 Lm:aJ K a.IA ["self","store"] []
 JV:hU K "run" "run" j6 a.dz a.GS (.int 5000 a.Jx)
 M9:aJ K a.GS ["program","numbers","most"] [.int 5000 a.Jx]
 Lo:aJ K a.GS ["program","numbers","most"] []
 Lp:mg "run"=some (.ref a.dz)
 GD:Fun K "_law_cell_at" "_law_cell_at" mX a.IB a.IC
 Hf:aJ K a.IC ["_law_script","_law_k"] []
 Hg:mg "_law_cell_at"=some (.ref a.IB)
 wP:Fun K "_law_mixed" "_law_mixed" mU a.ID a.IE
 wS:aJ K a.IE ["_law_cell","_law_k"] []
 wT:mg "_law_mixed"=some (.ref a.ID)
 Jn:Fun K "_law_whole" "_law_whole" mL a.IF a.IG
 JW:aJ K a.IG ["_law_found"] []
 JX:mg "_law_whole"=some (.ref a.IF)
 Jo:Fun K "_law_letters" "_law_letters" mV a.IH a.II
 JY:aJ K a.II ["_law_number","_law_size"] []
 JZ:mg "_law_letters"=some (.ref a.IH)
 K0:Fun K "_law_spelt" "_law_spelt" mO a.IJ a.IK
 Lq:aJ K a.IK ["_law_word"] []
 Lr:mg "_law_spelt"=some (.ref a.IJ)
 Jp:Fun K "_law_pool" "_law_pool" mR a.IL a.IM
 K1:aJ K a.IM ["_law_cell","_law_many"] []
 K2:mg "_law_pool"=some (.ref a.IL)
 K3:Fun K "_law_simple" "_law_simple" mP a.IN a.IO
 Ls:aJ K a.IO ["_law_number","_law_names","_law_rooms","_law_shut"] []
 Lu:mg "_law_simple"=some (.ref a.IN)
 K4:Fun K "_law_opened" "_law_opened" mS a.IP a.IQ
 Lv:aJ K a.IQ ["_law_state","_law_number","_law_x","_law_most"] []
 Lw:mg "_law_opened"=some (.ref a.IP)
 K5:Fun K "_law_block" "_law_block" mY a.IR a.IS
 Lx:aJ K a.IS ["_law_cells","_law_names","_law_rooms","_law_most","_law_low"] []
 Ly:mg "_law_block"=some (.ref a.IR)
 Hh:Fun K "_law_moves" "_law_moves" mT a.IT a.IU
 K6:aJ K a.IU ["_law_block_here"] []
 K7:mg "_law_moves"=some (.ref a.IT)
 K8:Fun K "_law_reach" "_law_reach" mQ a.IV a.IW
 Lz:aJ K a.IW ["_law_moves_here","_law_q"] []
 LA:mg "_law_reach"=some (.ref a.IV)
 Jq:Fun K "_law_program" "_law_program" j7 a.IX a.IY
 K9:aJ K a.IY ["_law_script","_law_low"] []
 Ka:mg "_law_program"=some (.ref a.IX)
 Jr:Fun K "_law_starved" "_law_starved" mN a.IZ a.J0
 Kb:aJ K a.J0 ["_law_caught"] []
 Kc:mg "_law_starved"=some (.ref a.IZ)
 Kd:Fun K "_law_leaves" "_law_leaves" j8 a.J1 a.J5
 LB:aJ K a.J5 ["_law_left","_law_stores","_law_rows"] []
 LC:mg "_law_leaves"=some (.ref a.J1)
 Ke:Fun K "_law_ends" "_law_ends" mW a.J6 a.J7
 LD:aJ K a.J7 ["_law_rows","_law_told","_law_stores","_law_low","_law_most"] []
 LE:mg "_law_ends"=some (.ref a.J6)
 LF:Fun K "law" "law" g6 a.J8 a.J9
 Ma:aJ K a.J9 ["_law_script"] []
 Mb:mg "law"=some (.ref a.J8)
 LG:mg "ValueError"=none
 Kf:mg "bool"=none
 Kg:mg "dict"=none
 LH:mg "enumerate"=none
 LI:mg "int"=none
 wE:mg "isinstance"=none
 om:mg "len"=none
 Gv:mg "list"=none
 LJ:mg "max"=none
 LK:mg "min"=none
 Gw:mg "range"=none
 LL:mg "reversed"=none
 Db:mg "set"=none
 Gx:mg "sorted"=none
 Js:mg "str"=none
 GE:mg "tuple"=none
 LM:mg "zip"=none
 LN:mg "LOOPS"=some (.ref a.GT)
 Ch:∀H:Hp,SqT K H a.GT [.str "while",.str "repeat"]
 LO:mg "LOOKERS"=some (.ref a.GU)
 Ev:∀H:Hp,SqT K H a.GU [.str "if",.str "while"]
 Jt:mg "OUTLET"=some (.str ">" a.Jy)
 LP:mg "OUTLET_KEEPERS"=some (.ref a.GV)
 Go:∀H:Hp,SqT K H a.GV [.str "give",.str "while"]
 Ju:mg "MOST_DEEDS"=some (.int 2000 a.Jz)
 Kh:mg "WHEEL"=some (.int 1000000000000000000000000000000 a.JA)
 LQ:mg "Queue"=some (.ref a.u8)
 pi:Cls K a.u8
 LR:Mk K a.u8 a.HW
 LS:bD K a.u8 "standing" a.HY
 LT:bD K a.u8 "lay" a.Ia
 LU:bD K a.u8 "take" a.Ic
 LV:bD K a.u8 "rest" a.Ie
 GF:dC K a.u8 "laid"
 Gy:dC K a.u8 "gone"
 LW:mg "Run"=some (.ref a.f8)
 ad:Cls K a.f8
 LX:Mk K a.f8 a.Im
 Hi:bD K a.f8 "do_block" a.Cl
 LY:bD K a.f8 "do_deed" a.GK
 LZ:bD K a.f8 "do_if" a.GM
 M1:bD K a.f8 "do_while" a.GO
 M3:bD K a.f8 "do_repeat" a.GQ
 GG:bD K a.f8 "do_step" a.Ip
 Ki:bD K a.f8 "is_spent" a.Ir
 M4:bD K a.f8 "do_plain" a.Iv
 Kj:bD K a.f8 "number_of" a.Ix
 M5:bD K a.f8 "got_from" a.Iz
 At:dC K a.f8 "numbers"
 GH:dC K a.f8 "queues"
 Jv:dC K a.f8 "outs"
 Gz:dC K a.f8 "steps"
 Kk:dC K a.f8 "most"
 Kl:mg "FlowError"=some (.ref a.Gu)
 Jw:mg "Starved"=some (.ref a.mt)
 M6:mg "TooMuch"=some (.ref a.or)
 Hj:fV K a.mt a.GA
 Gs:iP K a.mt
 M7:XIs K a.mt
 Km:jE K a.mt a.Gu
 Mc:W.kitOne K (.ref a.mt) (.ref a.Gu)=some true
 M8:W.kitOne K (.ref a.mt) (.ref a.mt)=some true
 Md:W.kitOne K (.ref a.mt) (.ref a.or)=some false
 Me:W.kitOne K (.ref a.mt) (.type "ValueError")=some true
 Kn:fV K a.or a.GA
 Mf:iP K a.or
 Mg:XIs K a.or
 Mh:jE K a.or a.Gu
 Mi:W.kitOne K (.ref a.or) (.ref a.Gu)=some true
 Mj:W.kitOne K (.ref a.or) (.ref a.mt)=some false
 Ml:W.kitOne K (.ref a.or) (.ref a.or)=some true
 Mm:W.kitOne K (.ref a.or) (.type "ValueError")=some true
 Ko:IsX K a.Gu
theorem Tx.r_LOOPS{P:Program}{w:World}{K:W.Frag}{mg:Str->Option Value}{a:Adr}(_:Tx P w K mg a):aF (.ref a.GT) (.ref a.GT):=U
theorem Tx.r_LOOKERS{P:Program}{w:World}{K:W.Frag}{mg:Str->Option Value}{a:Adr}(_:Tx P w K mg a):aF (.ref a.GU) (.ref a.GU):=U
theorem Tx.r_OUTLET{P:Program}{w:World}{K:W.Frag}{mg:Str->Option Value}{a:Adr}(_:Tx P w K mg a):aF (.str ">") (.str ">" a.Jy):=⟨_,U⟩
theorem Tx.r_OUTLET_KEEPERS{P:Program}{w:World}{K:W.Frag}{mg:Str->Option Value}{a:Adr}(_:Tx P w K mg a):aF (.ref a.GV) (.ref a.GV):=U
theorem Tx.r_MOST_DEEDS{P:Program}{w:World}{K:W.Frag}{mg:Str->Option Value}{a:Adr}(_:Tx P w K mg a):aF (.int 2000) (.int 2000 a.Jz):=⟨_,U⟩
theorem Tx.r_WHEEL{P:Program}{w:World}{K:W.Frag}{mg:Str->Option Value}{a:Adr}(_:Tx P w K mg a):aF (.int 1000000000000000000000000000000) (.int 1000000000000000000000000000000 a.JA):=⟨_,U⟩
inductive sN(vs:List V)(H:Hp)(Q:VK)(E:XK):Prop
 |mk (q:Str) (h0_:vs=[.str q]) (h1_:q.length<=1000) (h2_:Q (.str (q++(">":Str))) H):sN vs H Q E
inductive sR(vs:List V)(H:Hp)(Q:VK)(E:XK):Prop
 |mk (q:Str) (h0_:vs=[.str q]) (h1_:q.length<=1000) (h2_:Q (.str (q++("<":Str))) H):sR vs H Q E
inductive sP(vs:List V)(H:Hp)(Q:VK)(E:XK):Prop
 |mk (H0:Hp) (v:V) (d:a8) (h0_:vs=[v]) (h1_:aa H0 H) (h2_:RD H0 v d) (h3_:∀H' l,aa H H'->H l=none->H' l=some (.lst (d.names.map V.str))->Q (.ref l) H'):sP vs H Q E
inductive sV(vs:List V)(H:Hp)(Q:VK)(E:XK):Prop
 |mk (H0:Hp) (v:V) (d:a8) (h0_:vs=[v]) (h1_:aa H0 H) (h2_:RD H0 v d) (h3_:∀H' l bs,aa H H'->H l=none->H' l=some (.lst (bs.map V.ref))->RLs H0 bs d.inner->Q (.ref l) H'):sV vs H Q E
inductive sO(vs:List V)(H:Hp)(Q:VK)(E:XK):Prop
 |mk (H0:Hp) (v:V) (d:a8) (h0_:vs=[v]) (h1_:aa H0 H) (h2_:RD H0 v d) (h3_:(∀k∈d.others,k.length<=1000)) (h4_:∀H' l,aa H H'->H l=none->H' l=some (.lst (d.others.map V.str))->Q (.ref l) H'):sO vs H Q E
inductive sX(n:Nat)(vs:List V)(H:Hp)(Q:VK)(E:XK):Prop
 |mk (H0:Hp) (b:Addr) (ds:List a8) (h0_:vs=[.ref b]) (h1_:aa H0 H) (h2_:RL H0 b ds) (h3_:aH ds<n) (h4_:(ai ds).length<=1300) (h5_:∀H' l us,aa H H'->H l=none->H' l=some (.lst us)->RDs H0 us (ai ds)->Q (.ref l) H'):sX n vs H Q E
inductive lO(vs:List V)(H:Hp)(Q:VK)(E:XK):Prop
 |mk (H0:Hp) (b:Addr) (ds:List a8) (C:List Str) (h0_:vs=[.ref b]) (h1_:aa H0 H) (h2_:RL H0 b ds) (h3_:aH ds<=12) (h4_:(ai ds).length<=1300) (h5_:(∀k∈cards ds,k∈C)) (h6_:C.length<64) (h7_:(∀k∈C,k.length<=1000) /\
 ∀H' l zs,aa H H'->H l=none->H' l=some (.lst (zs.map V.str))->zs.Nodup->(∀k,k∈zs↔k∈cards ds)->PyProof.Rows.sortedS zs=true->Q (.ref l) H'):lO vs H Q E
inductive tF(K:W.Frag)(vs:List V)(H:Hp)(Q:VK)(E:XK):Prop
 |mk (l:Addr) (ns:List Int) (k:Int) (h0_:vs=[.ref l,.int k]) (h1_:SqL K H l (ns.map V.int)) (h2_:ns.length<=1000) (h3_:0<=k) (h4_:Q (.int (ns.getD k.toNat 0)) H):tF K vs H Q E
inductive tw(vs:List V)(H:Hp)(Q:VK)(E:XK):Prop
 |mk (c k:Int) (h0_:vs=[.int c,.int k]) (h1_:0<=k) (h2_:k<=200) (h3_:Q (.int (aE c k)) H):tw vs H Q E
inductive tz(vs:List V)(H:Hp)(Q:VK)(E:XK):Prop
 |mk (n k:Int) (h0_:vs=[.int n,.int k]) (h1_:0<=k) (h2_:k<=200) (h3_:Q (.str (cO n k.toNat)) H):tz vs H Q E
inductive t5(vs:List V)(H:Hp)(Q:VK)(E:XK):Prop
 |mk (w:Str) (h0_:vs=[.str w]) (h1_:w.length<=200) (h2_:∀H',aa H H'->Q (.str (cW w)) H'):t5 vs H Q E
inductive tm(vs:List V)(H:Hp)(Q:VK)(E:XK):Prop
 |mk (c k:Int) (h0_:vs=[.int c,.int k]) (h1_:0<=k) (h2_:k<=50) (h3_:∀H' l,aa H H'->H l=none->H' l=some (.lst ((d0 c k.toNat).map V.str))->Q (.ref l) H'):tm vs H Q E
inductive t6(K:W.Frag)(vs:List V)(H:Hp)(Q:VK)(E:XK):Prop
 |mk (n:Int) (ln lr:Addr) (names rooms:List Str) (shut:Bool) (h0_:vs=[.int n,.ref ln,.ref lr,.bl shut]) (h1_:SqL K H ln (names.map V.str)) (h2_:SqL K H lr (rooms.map V.str)) (h3_:0<names.length) (h4_:names.length<=100) (h5_:rooms.length<=100) (h6_:0<=n) (h7_:n<2147483648 /\
 ∀H' p xs,aa H H'->H p=none->H' p=some (.tup xs)->(∀H0:Hp,H0 p=some (.tup xs)->RD H0 (.ref p) (bc n names rooms shut))->Q (.ref p) H'):t6 K vs H Q E
inductive tq(vs:List V)(H:Hp)(Q:VK)(E:XK):Prop
 |mk (Hb H0:Hp) (S s0 s1 s2 s3:Addr) (x:Fz) (r:List Fz) (n most:Int) (nm:Str) (h0_:vs=[.ref S,.int n,.str nm,.int most]) (h1_:ZI Hb H0 H S s0 s1 s2 s3 (x::r)) (h2_:(x::r).length<=1000) (h3_:x.f.ds.length<=1000) (h4_:0<=n) (h5_:n<2147483648) (h6_:0<=most) (h7_:most<=1000) (h8_:0<=x.f.times) (h9_:x.f.times<=100000 /\
 ∀H' y,ZI Hb H0 H' S s0 s1 s2 s3 (y::x::r)->y.f::x.f::r.map (·.f)=eZ n nm most (x.f::r.map (·.f))->Q .non H'):tq vs H Q E
inductive tG(K:W.Frag)(vs:List V)(H:Hp)(Q:VK)(E:XK):Prop
 |mk (lc ln lr:Addr) (cells:List Int) (names rooms:List Str) (most low:Int) (h0_:vs=[.ref lc,.ref ln,.ref lr,.int most,.int low]) (h1_:SqL K H lc (cells.map V.int)) (h2_:SqL K H ln (names.map V.str)) (h3_:SqL K H lr (rooms.map V.str)) (h4_:cells.length<=100) (h5_:0<names.length) (h6_:names.length<=100) (h7_:rooms.length<=100) (h8_:0<=most) (h9_:most<=1000 /\
 ∀H' l,aa H H'->H l=none->RL H' l (cY names rooms most low cells)->Q (.ref l) H'):tG K vs H Q E
inductive sU(vs:List V)(H:Hp)(Q:VK)(E:XK):Prop
 |mk (p la ls lb:Addr) (asks:List Str) (ss:List (Str×Int)) (ds:List a8) (us:List V) (C:List Str) (h0_:vs=[.ref p]) (h1_:RP H p asks ss ds la ls lb us) (h2_:aH ds<=12) (h3_:(ai ds).length<=1300) (h4_:asks.length<=100) (h5_:ss.length<=100) (h6_:(∀s∈ss,s.1.length<=1000)) (h7_:(∀k∈eV asks ss ds,k∈C)) (h8_:C.length<64) (h9_:(∀k∈C,k.length<=1000) /\
 ∀H' l zs,aa H H'->H' l=some (.lst (zs.map V.str))->zs.Nodup->(∀k,k∈zs↔k∈eV asks ss ds)->PyProof.Rows.sortedS zs=true->Q (.ref l) H'):sU vs H Q E
noncomputable def nV(x:Str)(va vb:Val):List Str:=srt ((va.names++vb.names).filter λy=>!decide (y=x))
inductive sM(vs:List V)(H:Hp)(Q:VK)(E:XK):Prop
 |mk (H0:Hp) (p:Addr) (x sg:Str) (va vb:Val) (C:List Str) (h0_:vs=[.ref p]) (h1_:aa H0 H) (h2_:H0 p=some (.tup [.str "set",.str x,va.v,.str sg,vb.v])) (h3_:(∀k∈(a8.set x va sg vb).names,k∈C)) (h4_:C.length<64) (h5_:∀H' l,aa H H'->H' l=some (.lst ((nV x va vb).map V.str))->Q (.ref l) H'):sM vs H Q E
inductive lP(vs:List V)(H:Hp)(Q:VK)(E:XK):Prop
 |mk (kd:Str) (l:Addr) (zs:List Str) (h0_:vs=[.str kd,.ref l]) (h1_:H l=some (.lst (zs.map V.str))) (h2_:∀H' v,aa H H'->cR H' v ⟨kd,zs,[],none,none⟩->Q v H'):lP vs H Q E
inductive sJ(vs:List V)(H:Hp)(Q:VK)(E:XK):Prop
 |mk (H0:Hp) (v:V) (d:a8) (C:List Str) (h0_:vs=[v]) (h1_:aa H0 H) (h2_:RD H0 v d) (h3_:d.depth<=12) (h4_:d.flat.length<=1300) (h5_:(∀k∈cards [d],k∈C)) (h6_:C.length<64) (h7_:(∀k∈C,k.length<=1000)) (h8_:(∀n b,d≠.rep n b)) (h9_:∀H' u,aa H H'->cR H' u (bu d)->Q u H'):sJ vs H Q E
def xD(C:List Str)(ds:List a8):Prop:=aH ds<=12/\(ai ds).length<=1300/\(∀k∈cards ds,k∈C)/\C.length<64/\(∀k∈C,k.length<=1000)/\aS eN ds
inductive lN(n:Nat)(vs:List V)(H:Hp)(Q:VK)(E:XK):Prop
 |mk (H0:Hp) (b:Addr) (ds:List a8) (C:List Str) (h0_:vs=[.ref b]) (h1_:aa H0 H) (h2_:RL H0 b ds) (h3_:aH ds<n) (h4_:xD C ds) (h5_:(av ds).length<=2000) (h6_:∀H' l us,aa H H'->H l=none->H' l=some (.lst us)->bh H' us (av ds)->Q (.ref l) H'):lN n vs H Q E
inductive sI(n:Nat)(vs:List V)(H:Hp)(Q:VK)(E:XK):Prop
 |mk (H0:Hp) (r:Int) (b:Addr) (ds:List a8) (C:List Str) (h0_:vs=[.int r,.ref b]) (h1_:0<=r) (h2_:r<=99) (h3_:aa H0 H) (h4_:RL H0 b ds) (h5_:aH ds<n) (h6_:xD C ds) (h7_:(bE (.rep r ds)).length<=2000) (h8_:∀H' l us,aa H H'->H l=none->H' l=some (.lst us)->bh H' us (bE (.rep r ds))->Q (.ref l) H'):sI n vs H Q E
inductive sT(n:Nat)(vs:List V)(H:Hp)(Q:VK)(E:XK):Prop
 |mk (H0:Hp) (b:Addr) (ds:List a8) (h0_:vs=[.ref b]) (h1_:aa H0 H) (h2_:RL H0 b ds) (h3_:aH ds<n) (h4_:aS eN ds) (h5_:Q (.int (av ds).length) H):sT n vs H Q E
inductive t7(vs:List V)(H:Hp)(Q:VK)(E:XK):Prop
 |mk (l:Addr) (us:List V) (ms:List (Str×Str)) (q:Str) (h0_:vs=[.ref l,.str q]) (h1_:H l=some (.lst us)) (h2_:RMs H us ms) (h3_:ms.length<=1000) (h4_:∀p,H p=none->Q (.ref p) (upd H p (.tup [.int (-(bJ q ms).2.1),.int ((bJ q ms).2.2-(bJ q ms).2.1)]))):t7 vs H Q E
inductive tu(n:Nat)(vs:List V)(H:Hp)(Q:VK)(E:XK):Prop
 |mk (H0:Hp) (b:Addr) (ds:List a8) (h0_:vs=[.ref b]) (h1_:aa H0 H) (h2_:RL H0 b ds) (h3_:aH ds<n) (h4_:aS eN ds) (h5_:(bA ds).length<=1000) (h6_:∀H' l us,aa H H'->H l=none->H' l=some (.lst us)->RMs H' us (bA ds)->Q (.ref l) H'):tu n vs H Q E
noncomputable def dY(ns:List Int)(lo hi:Nat):List Int:=(ns.drop (min lo ns.length)).take (min hi ns.length-min lo ns.length)
noncomputable def br(ns:List Int):List Str:=d0 (ns.getD 0 0) (1+aE (ns.getD 1 0) 1 % 4).toNat
noncomputable def aQ(ns:List Int):List Str:=d0 (if aE (ns.getD 1 0) 2 % 3=0 then ns.getD 0 0 else ns.getD 1 0) (1+aE (ns.getD 1 0) 3 % 3).toNat
noncomputable def dQ(ns:List Int)(lo:Int):List a8:=cY (br ns) (aQ ns) 4 lo (dY ns 3 63)
noncomputable def bH(ns:List Int)(lo:Int):List (Str×Str):=bA (dQ ns lo)
noncomputable def dN(ns:List Int):Str:=(br ns).getD 0 (">":Str)
noncomputable def d8(ns:List Int)(lo:Int):List a8:=if aE (ns.getD 1 0) 4 % 2=0 then eC (aQ ns) [dN ns] (bH ns lo) (aQ ns).length else[]
noncomputable def db(ns:List Int):List Str:=fF (br ns) (ns.getD 2 0) (br ns).length
noncomputable def cV(ns:List Int):List (Str×Int):=(aQ ns).map λq=>(q,1)
inductive tf(K:W.Frag)(vs:List V)(H:Hp)(Q:VK)(E:XK):Prop
 |mk (l:Addr) (ns:List Int) (lo:Int) (h0_:vs=[.ref l,.int lo]) (h1_:SqL K H l (ns.map V.int)) (h2_:ns.length<=63) (h3_:aH (dQ ns lo)<=12) (h4_:aS eN (dQ ns lo)) (h5_:(bH ns lo).length<=240) (h6_:(ai (dQ ns lo)).length<=60) (h7_:∀H' p la ls lb us,aa H H'->RP H' p (db ns) (cV ns) (d8 ns lo++dQ ns lo) la ls lb us->Q (.ref p) H'):tf K vs H Q E
def FedN(rs:List Row)(i:Nat):Prop:=∀j r q,j<i->rs[j]?=some r->r.outof=some q->bal (rs.take j) q≠0
def Hungry(rs:List Row)(i:Nat):Prop:=∃r q,rs[i]?=some r/\r.outof=some q/\bal (rs.take i) q=0
def rh(C:Addr)(H:Hp)(E:XK)(i:Int):Prop:=∀H' d,aa H H'->H' d=some (.xd [("place",.int i)])->E (.ref C) (some d) H'
inductive tU(K:W.Frag)(a:Adr)(vs:List V)(H:Hp)(Q:VK)(E:XK):Prop
 |mk (e C:Addr) (z y:V) (h0_:vs=[.ref e,z,y]) (h1_:H e=some (XO0 C e)) (h2_:fV K C a.GA) (h3_:∀d,H d=none->Q .non (upd (upd H d (.xd [("place",y)])) e (XO1 C e d))):tU K a vs H Q E
def zD(a:Adr):Sp:=λvs H Q E=>∃(l:Addr)(us:List V)(rs:List Row),vs=[.ref l]/\H l=some (.lst us)/\bh H us rs/\rs.length<=2000/\(∀r∈rs,lB r)/\(∀r∈rs,∀q,r.outof=some q->q.length<=1000)/\(FedN rs rs.length->∀H',aa H H'->Q .non H')/\(∀i:Nat,FedN rs i->Hungry rs i->rh a.mt H E i)
def zB(a:Adr):Sp:=λvs H Q E=>∃(p la ls lb:Addr)(asks:List Str)(ss:List (Str×Int))(ds:List a8)(us:List V)(C:List Str),vs=[.ref p]/\RP H p asks ss ds la ls lb us/\aH ds<=12/\(ai ds).length<=1300/\asks.length<=100/\ss.length<=100/\(∀s∈ss,s.1.length<=1000)/\(∀k∈eV asks ss ds,k∈C)/\C.length<64/\(∀k∈C,k.length<=1000)/\aS eN ds/\(∀r∈av ds,∀q,r.outof=some q->q.length<=1000) /\
 (2000<=(av ds).length->rh a.or H E 2000)/\((av ds).length<2000->∀i:Nat,FedN (av ds) i->Hungry (av ds) i->rh a.mt H E i) /\
 ((av ds).length<2000->FedN (av ds) (av ds).length->∀H' l us',aa H H'->H' l=some (.lst us')->bh H' us' (av ds++[iK asks ss ds])->Q (.ref l) H')
inductive sY(vs:List V)(H:Hp)(Q:VK)(E:XK):Prop
 |mk (i:Int) (h0_:vs=[.int i]) (h1_:Q (.bl true) H):sY vs H Q E
inductive sL(vs:List V)(H:Hp)(Q:VK)(E:XK):Prop
 |mk (sg:Str) (a b:Int) (h0_:vs=[.str sg,.int a,.int b]) (h1_:OnW a) (h2_:OnW b) (h3_:Q (.int (nU sg a b)) H):sL vs H Q E
inductive sS(vs:List V)(H:Hp)(Q:VK)(E:XK):Prop
 |mk (sg:Str) (a b:Int) (h0_:vs=[.str sg,.int a,.int b]) (h1_:OnW a) (h2_:OnW b) (h3_:Q (.int (jv sg a b)) H):sS vs H Q E
def Prs(H:Hp)(l:Addr)(zs:List Str)(f:cj):Prop:=∃ts:List Addr,H l=some (.lst (ts.map V.ref))/\ts.length=zs.length/\∀(j:Nat)(t:Addr)(z:Str),ts[j]?=some t->zs[j]?=some z->H t=some (.tup [.str z,.int (f z)])
structure Nms(ds:List a8)(zs:List Str):Prop where
 nd:zs.Nodup
 mem:∀k,k∈zs↔k∈ds.flatMap a8.names
 so:PyProof.Rows.sortedS zs=true
noncomputable def cg(a:Adr)(dx dn dq lo:Addr)(k m:Int):HO:=.ins a.f8 dx [("numbers",.ref dn),("queues",.ref dq),("outs",.ref lo),("steps",.int k),("most",.int m)]
noncomputable def cT(a:Adr)(dx l:Addr)(g:Nat):HO:=.ins a.u8 dx [("laid",.ref l),("gone",.int g)]
inductive tT(a:Adr)(vs:List V)(H:Hp)(Q:VK)(E:XK):Prop
 |mk (p dx t:Addr) (h0_:vs=[.ref p,.ref t]) (h1_:H p=some (.ins a.u8 dx [])) (h2_:H t=some (.lst [])) (h3_:∀H' l,(∀b o,b≠p->H b=some o->H' b=some o)->H l=none->H' p=some (cT a dx l 0)->H' l=some (.lst [])->Q .non H'):tT a vs H Q E
inductive tQ(a:Adr)(vs:List V)(H:Hp)(Q:VK)(E:XK):Prop
 |mk (p dx l:Addr) (xs:List Int) (g:Nat) (h0_:vs=[.ref p]) (h1_:H p=some (cT a dx l g)) (h2_:H l=some (.lst (xs.map V.int))) (h3_:Q (.int ((xs.length:Int)-g)) H):tQ a vs H Q E
inductive tS(a:Adr)(vs:List V)(H:Hp)(Q:VK)(E:XK):Prop
 |mk (p dx l:Addr) (xs:List Int) (g:Nat) (v:Int) (h0_:vs=[.ref p,.int v]) (h1_:H p=some (cT a dx l g)) (h2_:H l=some (.lst (xs.map V.int))) (h3_:xs.length<10000) (h4_:Q .non (upd H l (.lst ((xs++[v]).map V.int)))):tS a vs H Q E
inductive tP(a:Adr)(vs:List V)(H:Hp)(Q:VK)(E:XK):Prop
 |mk (p dx l:Addr) (xs:List Int) (g:Nat) (v:Int) (h0_:vs=[.ref p]) (h1_:H p=some (cT a dx l g)) (h2_:H l=some (.lst (xs.map V.int))) (h3_:xs[g]?=some v) (h4_:Q (.int v) (upd H p (cT a dx l (g+1)))):tP a vs H Q E
inductive tR(a:Adr)(vs:List V)(H:Hp)(Q:VK)(E:XK):Prop
 |mk (p dx l:Addr) (xs:List Int) (g:Nat) (h0_:vs=[.ref p]) (h1_:H p=some (cT a dx l g)) (h2_:H l=some (.lst (xs.map V.int))) (h3_:∀l2,H l2=none->Q (.ref l2) (upd H l2 (.lst ((xs.drop g).map V.int)))):tR a vs H Q E
inductive tI(a:Adr)(vs:List V)(H:Hp)(Q:VK)(E:XK):Prop
 |mk (r dx dn dq lo:Addr) (k m:Int) (h0_:vs=[.ref r]) (h1_:H r=some (cg a dx dn dq lo k m)) (h2_:Q (.bl (decide (m<=k))) H):tI a vs H Q E
inductive tH(a:Adr)(vs:List V)(H:Hp)(Q:VK)(E:XK):Prop
 |mk (r dx dn dq lo:Addr) (k m:Int) (va:Val) (zs:List Str) (f:cj) (h0_:vs=[.ref r,va.v]) (h1_:H r=some (cg a dx dn dq lo k m)) (h2_:H dn=some (.dK (tab zs f))) (h3_:(∀x∈va.names,x∈zs)) (h4_:Q (.int (jN f va)) H):tH a vs H Q E
structure cF(a:Adr)(H:Hp)(r dx dn dq lo:Addr)(qa qd ql:Str->Addr)(zs ss:List Str)(k m:Int)(B:Bk):Prop where
 ro:H r=some (cg a dx dn dq lo k m)
 no:H dn=some (.dK (tab zs B.f))
 qo:H dq=some (.dK (cB ss λs=>.ref (qa s)))
 oo:H lo=some (.lst (B.o.map V.int))
 qu:∀s∈ss,H (qa s)=some (cT a (qd s) (ql s) (B.g s))
 qs:∀s∈ss,H (ql s)=some (.lst ((B.q s).map V.int))
 ja:∀s∈ss,∀t∈ss,s≠t->qa s≠qa t
 jl:∀s∈ss,∀t∈ss,s≠t->ql s≠ql t
 dl:∀s∈ss,ql s≠lo
 dr:∀s∈ss,qa s≠r
 dd:dq≠dn
def cU(r dn lo:Addr)(qa ql:Str->Addr)(ss:List Str)(c:Addr):Prop:=c=r\/c=dn\/c=lo\/∃s∈ss,c=qa s\/c=ql s
def dw(own:Addr->Prop)(H H':Hp):Prop:=∀c o,¬ own c->H c=some o->H' c=some o
def zE(a:Adr):Sp:=λvs H Q E=>∃(r dx dn dq lo:Addr)(qa qd ql:Str->Addr)(zs ss:List Str)(k m:Int)(B:Bk)(n:Nat)(s:Str),vs=[.ref r,.str s]/\cF a H r dx dn dq lo qa qd ql zs ss k m B/\s∈ss/\s.length<=1000/\eE B n /\
 (∀v,(B.q s)[B.g s]?=some v->Q (.int v) (upd H (qa s) (cT a (qd s) (ql s) (B.g s+1))))/\((B.q s)[B.g s]?=none->∀H' d,aa H H'->H' d=some (.xd [("place",.int k)])->E (.ref a.mt) (some d) H')
structure jL(a:Adr)(H H':Hp)(qa qd ql:Str->Addr)(ss:List Str):Prop where
 qu:∀s∈ss,H' (qa s)=some (cT a (qd s) (ql s) 0)
 qs:∀s∈ss,H' (ql s)=some (.lst [])
 na:∀s∈ss,H (qa s)=none
 nl:∀s∈ss,H (ql s)=none
 ja:∀s∈ss,∀t∈ss,s≠t->qa s≠qa t
 jl:∀s∈ss,∀t∈ss,s≠t->ql s≠ql t
inductive tO(a:Adr)(vs:List V)(H:Hp)(Q:VK)(E:XK):Prop
 |mk (r dx dn ls:Addr) (ss:List Str) (m:Int) (h0_:vs=[.ref r,.ref dn,.ref ls,.int m]) (h1_:H r=some (.ins a.f8 dx [])) (h2_:H ls=some (.lst (ss.map V.str))) (h3_:ss.Nodup) (h4_:ss.length<=6 /\
 ∀H' dq lo qa qd ql,(∀b o,b≠r->H b=some o->H' b=some o)->H' r=some (cg a dx dn dq lo 0 m)->H' dq=some (.dK (cB ss λs=>.ref (qa s)))->H' lo=some (.lst [])->H dq=none->H lo=none->jL a H H' qa qd ql ss->(∀s∈ss,ql s≠lo)->Q .non H'):tO a vs H Q E
def Sto(H:Hp)(l:Addr)(ss:List Str):Prop:=∃ts:List Addr,H l=some (.lst (ts.map V.ref))/\ts.length=ss.length/\∀(j:Nat)(t:Addr)(s:Str),ts[j]?=some t->ss[j]?=some s->∃c:Int,H t=some (.tup [.str s,.int c])
def Lef(H:Hp)(l:Addr)(ss:List Str)(B:Bk):Prop:=∃us:List Addr,H l=some (.lst (us.map V.ref))/\us.length=ss.length/\∀(j:Nat)(u:Addr)(s:Str),us[j]?=some u->ss[j]?=some s->∃x,H u=some (.tup [.str s,.ref x])/\H x=some (.lst (((B.q s).drop (B.g s)).map V.int))
inductive tK(a:Adr)(vs:List V)(H:Hp)(Q:VK)(E:XK):Prop
 |mk (r dx dn dq lo:Addr) (k m:Int) (h0_:vs=[.ref r]) (h1_:H r=some (cg a dx dn dq lo k m)) (h2_:(m<=k->Q (.bl false) H)) (h3_:(k<m->Q (.bl true) (upd H r (cg a dx dn dq lo (k+1) m)))):tK a vs H Q E
def oA:a8->Prop
 |.cond _ _ _=>False
 |.whl _ _=>False
 |.rep _ _=>False
 |_=>True
def zF(a:Adr):Sp:=λvs H Q E=>∃(r dx dn dq lo p:Addr)(qa qd ql:Str->Addr)(zs ss:List Str)(k m:Int)(B:Bk)(n:Nat)(d:a8),vs=[.ref r,.ref p]/\cF a H r dx dn dq lo qa qd ql zs ss k m B/\RD H (.ref p) d/\PlW zs ss d/\oA d/\zs.Nodup/\zs.length<900/\(∀s∈ss,s.length<=1000)/\eE B n/\n<9000 /\
 (∀B' H',stp B d=some B'->dw (cU r dn lo qa ql ss) H H'->cF a H' r dx dn dq lo qa qd ql zs ss k m B'->Q .non H')/\(stp B d=none->∀H' x,aa H H'->H' x=some (.xd [("place",.int k)])->E (.ref a.mt) (some x) H')
def jF:List Pf->Prop
 |⟨_::_,_⟩::_=>True
 |_=>False
def jK(B:Bk):List Pf->Prop
 |⟨d::r,c⟩::p=>cL B d r c p=none
 |_=>False
structure du(a:Adr)(H0 H:Hp)(r dx dn dq lo:Addr)(qa qd ql:Str->Addr)(zs ss:List Str)(k m:Nat)(B:Bk):Prop where
 same:aa H0 H
 own:∀c,cU r dn lo qa ql ss c->H0 c=none
 dz:cF a H r dx dn dq lo qa qd ql zs ss k m B
 bk:eE B k
 km:k<=m
 m9:m<9000
 nd:zs.Nodup
 few:zs.length<900
 sl:∀s∈ss,s.length<=1000
def iS(a:Adr)(H0 H:Hp)(r dx dn dq lo:Addr)(qa qd ql:Str->Addr)(zs ss:List Str)(k m:Nat)(B:Bk)(F G:List a8->List Pf->List Pf)(Q:VK)(E:XK):Prop:=
 (∀B' k' H',(∀r' p',bw m (F r' p') B k (G r' p') B' k')->dw (cU r dn lo qa ql ss) H H'->du a H0 H' r dx dn dq lo qa qd ql zs ss k' m B'->Q (.bl true) H') /\
 (∀B' H',(∀r' p',∃S,bw m (F r' p') B k S B' m/\jF S)->dw (cU r dn lo qa ql ss) H H'->du a H0 H' r dx dn dq lo qa qd ql zs ss m m B'->Q (.bl false) H') /\
 (∀B' k' H' x,(∀r' p',∃S,bw m (F r' p') B k S B' k'/\jK B' S)->k'<m->dw (cU r dn lo qa ql ss) H H'->H' x=some (.xd [("place",.int k')])->E (.ref a.mt) (some x) H')
noncomputable def onD(d:a8):List a8->List Pf->List Pf:=λr p=>⟨d::r,none⟩::p
noncomputable def gm:List a8->List Pf->List Pf:=λr p=>⟨r,none⟩::p
noncomputable def onB(ds:List a8):List a8->List Pf->List Pf:=λ_ p=>⟨ds,none⟩::p
noncomputable def vm:List a8->List Pf->List Pf:=λ_ p=>p
def tN(a:Adr)(n:Nat):Sp:=λvs H Q E=>∃(H0:Hp)(r dx dn dq lo p:Addr)(qa qd ql:Str->Addr)(zs ss:List Str)(k m:Nat)(B:Bk)(d:a8),vs=[.ref r,.ref p]/\du a H0 H r dx dn dq lo qa qd ql zs ss k m B/\RD H0 (.ref p) d/\cZ zs ss [d]/\d.depth<n/\iS a H0 H r dx dn dq lo qa qd ql zs ss k m B (onD d) gm Q E
def i7(a:Adr)(n:Nat):Sp:=λvs H Q E=>∃(H0:Hp)(r dx dn dq lo b:Addr)(qa qd ql:Str->Addr)(zs ss:List Str)(k m:Nat)(B:Bk)(ds:List a8),vs=[.ref r,.ref b]/\du a H0 H r dx dn dq lo qa qd ql zs ss k m B/\RL H0 b ds/\cZ zs ss ds/\aH ds<n/\iS a H0 H r dx dn dq lo qa qd ql zs ss k m B (onB ds) vm Q E
def tM(a:Adr)(n:Nat):Sp:=λvs H Q E=>∃(H0:Hp)(r dx dn dq lo t o:Addr)(qa qd ql:Str->Addr)(zs ss:List Str)(k m:Nat)(B:Bk)(x:Str)(ts os:List a8),vs=[.ref r,.str x,.ref t,.ref o]/\du a H0 H r dx dn dq lo qa qd ql zs ss k m B/\RL H0 t ts/\RL H0 o os/\cZ zs ss [.cond x ts os]/\(a8.cond x ts os).depth<n/\iS a H0 H r dx dn dq lo qa qd ql zs ss k m B (onD (.cond x ts os)) gm Q E
def tJ(a:Adr)(n:Nat):Sp:=λvs H Q E=>∃(H0:Hp)(r dx dn dq lo b:Addr)(qa qd ql:Str->Addr)(zs ss:List Str)(k m:Nat)(B:Bk)(x:Str)(bs:List a8),vs=[.ref r,.str x,.ref b]/\du a H0 H r dx dn dq lo qa qd ql zs ss k m B/\RL H0 b bs/\cZ zs ss [.whl x bs]/\(a8.whl x bs).depth<n/\iS a H0 H r dx dn dq lo qa qd ql zs ss k m B (onD (.whl x bs)) gm Q E
def tL(a:Adr)(n:Nat):Sp:=λvs H Q E=>∃(H0:Hp)(r dx dn dq lo b:Addr)(qa qd ql:Str->Addr)(zs ss:List Str)(k m:Nat)(B:Bk)(c:Int)(bs:List a8),vs=[.ref r,.int c,.ref b]/\du a H0 H r dx dn dq lo qa qd ql zs ss k m B/\RL H0 b bs/\cZ zs ss [.rep c bs]/\(a8.rep c bs).depth<n/\iS a H0 H r dx dn dq lo qa qd ql zs ss k m B (onD (.rep c bs)) gm Q E
inductive sQ(vs:List V)(H:Hp)(Q:VK)(E:XK):Prop
 |mk (b:Addr) (ds:List a8) (C:List Str) (h0_:vs=[.ref b]) (h1_:RL H b ds) (h2_:aH ds<=12) (h3_:(ai ds).length<=1300) (h4_:(∀k∈(ai ds).flatMap a8.names,k∈C)) (h5_:C.length<64) (h6_:∀H' l zs,aa H H'->H l=none->H' l=some (.lst (zs.map V.str))->zs.Nodup->(∀k,k∈zs↔k∈(ai ds).flatMap a8.names)->PyProof.Rows.sortedS zs=true->Q (.ref l) H'):sQ vs H Q E
structure Vrs(ak:List Str)(ds:List a8)(zs:List Str):Prop where
 nd:zs.Nodup
 mem:∀k,k∈zs↔k∈ak\/k∈(ai ds).flatMap a8.names
 so:PyProof.Rows.sortedS zs=true
 few:zs.length<=2000
inductive sK(vs:List V)(H:Hp)(Q:VK)(E:XK):Prop
 |mk (p a0 a1 b:Addr) (ak:List Str) (ds:List a8) (C:List Str) (h0_:vs=[.ref p]) (h1_:H p=some (.tup [.ref a0,.ref a1,.ref b])) (h2_:H a0=some (.lst (ak.map V.str))) (h3_:RL H b ds) (h4_:aH ds<=12) (h5_:(ai ds).length<=1300) (h6_:ak.length<=300) (h7_:(∀x∈ak,x∈C)) (h8_:(∀k∈(ai ds).flatMap a8.names,k∈C)) (h9_:C.length<64) (h10_:∀H' l zs,aa H H'->H l=none->H' l=some (.lst (zs.map V.str))->Vrs ak ds zs->Q (.ref l) H'):sK vs H Q E
noncomputable def dZ(ps:List (Str×Int)):cj:=ps.foldl (λf p=>dD f p.1 (p.2 % 1000000000000000000000000000000)) λ_=>0
inductive sW(vs:List V)(H:Hp)(Q:VK)(E:XK):Prop
 |mk (p a0 a1 b ln:Addr) (ak:List Str) (ns:List Int) (ds:List a8) (C:List Str) (h0_:vs=[.ref p,.ref ln]) (h1_:H p=some (.tup [.ref a0,.ref a1,.ref b])) (h2_:H a0=some (.lst (ak.map V.str))) (h3_:H ln=some (.lst (ns.map V.int))) (h4_:RL H b ds) (h5_:aH ds<=12) (h6_:(ai ds).length<=1300) (h7_:ak.length<=300) (h8_:ns.length<=300) (h9_:(∀x∈ak,x∈C)) (h10_:(∀k∈(ai ds).flatMap a8.names,k∈C)) (h11_:C.length<64) (h12_:∀H' d zs,aa H H'->H d=none->H' d=some (.dK (tab zs (dZ (ak.zip ns))))->Vrs ak ds zs->Q (.ref d) H'):sW vs H Q E
noncomputable def Bg(f:cj):Bk:=⟨f,λ_=>[],λ_=>0,[]⟩
def zA(a:Adr):Sp:=λvs H Q E=>∃(p a0 a1 b ln:Addr)(m:Nat)(ak:List Str)(ns:List Int)(ds:List a8)(C ss:List Str),vs=[.ref p,.ref ln,.int m]/\H p=some (.tup [.ref a0,.ref a1,.ref b])/\H a0=some (.lst (ak.map V.str))/\Sto H a1 ss/\H ln=some (.lst (ns.map V.int))/\RL H b ds/\aH ds<=12/\(ai ds).length<=1300/\ak.length<=300/\ns.length<=300/\(∀x∈ak,x∈C)/\cZ C ss ds/\C.length<64/\ss.Nodup/\ss.length<=6/\(∀s∈ss,s.length<=1000)/\m<9000 /\
 (∀B' k' S H' x,bw m [⟨ds,none⟩] (Bg (dZ (ak.zip ns))) 0 S B' k'->jK B' S->k'<m->aa H H'->H' x=some (.xd [("place",.int k')])->E (.ref a.mt) (some x) H') /\
 (∀e B' (k':Nat) S H' t lo lf ll zs,bw m [⟨ds,none⟩] (Bg (dZ (ak.zip ns))) 0 S B' k'->((e=true/\S=[])\/(e=false/\jF S/\k'=m))->eE B' k'->k'<=m->aa H H'->H' t=some (.tup [.bl e,.int k',.ref lo,.ref lf,.ref ll])->H' lo=some (.lst (B'.o.map V.int))->Prs H' lf zs B'.f->Vrs ak ds zs->Lef H' ll ss B'->Q (.ref t) H')
inductive sZ(a:Adr)(vs:List V)(H:Hp)(Q:VK)(E:XK):Prop
 |mk (e dx:Addr) (i:Int) (h0_:vs=[.ref e]) (h1_:H e=some (XO2 a.mt e dx)) (h2_:H dx=some (.xd [("place",.int i)])) (h3_:Q (.bl true) H):sZ a vs H Q E
structure LvH(H:Hp)(ll ls lr:Addr)(ur us:List V)(rs:List Row)(ss:List (Str×Int))(B:Bk):Prop where
 hl:Lef H ll (ss.map (·.1)) B
 hs:H ls=some (.lst us)
 ro:RSs H us ss
 hr:H lr=some (.lst ur)
 rr:bh H ur rs
 few:rs.length<=2001
 six:ss.length<=6
inductive tD(vs:List V)(H:Hp)(Q:VK)(E:XK):Prop
 |mk (ll ls lr:Addr) (ur us:List V) (rs:List Row) (ss:List (Str×Int)) (B:Bk) (h0_:vs=[.ref ll,.ref ls,.ref lr]) (h1_:LvH H ll ls lr ur us rs ss B) (h2_:(∀s∈ss,bal rs s.1=stq B s.1/\0<=stq B s.1)) (h3_:∀H',Q (.bl true) H'):tD vs H Q E
inductive tE(vs:List V)(H:Hp)(Q:VK)(E:XK):Prop
 |mk (lr lt ls lo lf ll:Addr) (ur us:List V) (rs:List Row) (ss:List (Str×Int)) (B:Bk) (e:Bool) (k m:Nat) (low:Int) (h0_:vs=[.ref lr,.ref lt,.ref ls,.int low,.int m]) (h1_:H lt=some (.tup [.bl e,.int k,.ref lo,.ref lf,.ref ll])) (h2_:LvH H ll ls lr ur us rs ss B) (h3_:(low=9->e=decide (rs.length<=m+1))) (h4_:(e=false->k=m)) (h5_:(e=true->rs.length<=k+1/\(low=9->rs.length=k+1)/\k<=m/\∀s∈ss,bal rs s.1=stq B s.1/\0<=stq B s.1)) (h6_:∀H',Q (.bl true) H'):tE vs H Q E
inductive iW(K:W.Frag)(vs:List V)(H:Hp)(Q:VK)(E:XK):Prop
 |mk (a:Addr) (ns:List Int) (h0_:vs=[.ref a]) (h1_:SqL K H a (ns.map V.int)) (h2_:ns.length<=63) (h3_:(∀n∈ns,Builtin.Int.intBits n<=2 ^ 20)) (h4_:lA H) (h5_:∀H',Q (.bl true) H'):iW K vs H Q E
theorem ln1:1<=sizeLine:=Yk
theorem ln2:2<=sizeLine:=Yk
theorem ln3:3<=sizeLine:=Yk
theorem ln5:5<=sizeLine:=Yk
theorem rF{x:Int}(h:OnW x):Builtin.Int.intBits x<=2 ^ 20:=qJ ((PySem.intBits_le_iff (m:=100)).mpr (by have:=h.lo;have:=h.hi;omega)) Yk
theorem yb{x:Int}(h:OnW x):x.natAbs.log2<9000:=Nat.lt_trans (kR (by have:=h.lo;have:=h.hi;omega)) Yk
theorem Gd{x:V}{r:List V}:atI (x::r) 0=some x:=show atI (x::r) ((0:Nat):Int)=some x from cy U
theorem Gc{x y z:V}{r:List V}:atI (x::y::z::r) 2=some z:=show atI (x::y::z::r) ((2:Nat):Int)=some z from cy U
theorem g9{a b c d e:V}:List.lookup ("numbers":Str) [(("numbers":Str),a),("queues",b),("outs",c),("steps",d),("most",e)]=some a:=gN
theorem uq{a b c d e:V}:List.lookup ("outs":Str) [(("numbers":Str),a),("queues",b),("outs",c),("steps",d),("most",e)]=some c:=(d7 Yd).trans ((d7 Yd).trans gN)
theorem kz{a b c d e:V}:List.lookup ("steps":Str) [(("numbers":Str),a),("queues",b),("outs",c),("steps",d),("most",e)]=some d:=(d7 Yd).trans ((d7 Yd).trans ((d7 Yd).trans gN))
theorem B3{a b c d e:V}:List.lookup ("most":Str) [(("numbers":Str),a),("queues",b),("outs",c),("steps",d),("most",e)]=some e:=(d7 Yd).trans ((d7 Yd).trans ((d7 Yd).trans ((d7 Yd).trans gN)))
theorem cX{k:Str}{a b c d e:V}(h:((k == ("numbers":Str)) || (k == ("queues":Str)) || (k == ("outs":Str)) || (k == ("steps":Str)) || (k == ("most":Str)))=false):List.lookup k [(("numbers":Str),a),("queues",b),("outs",c),("steps",d),("most",e)]=none:=by
 simp only[Bool.or_eq_false_iff]at h;rw[d7 h.1.1.1.1,d7 h.1.1.1.2,d7 h.1.1.2,d7 h.1.2,d7 h.2]
 rfl
section
variable {P:Program}{w:World}{K:W.Frag}{mg:Str->Option Value}{base:Heap}{a:Adr}
theorem oE(T:Tx P w K mg a):aB P w K mg base CX0 1 a.HB a.HC ["store"] sN:=by
 refine T.GY.ok Ao (λvs H Q E h=>?_) (λcdv A outer s H vs Q E hr h=>?_)
 .obtain⟨_,rfl,_⟩:=h
  rfl
 obtain⟨q,rfl,hq,k⟩:=h;refine⟨_,(aj (ar (aq gH (pq 0) aP))),?_⟩;exact⟨_,U,_,_,U,U,aR (m:=1001) (by show q.length+1<=1001;omega),k⟩
theorem oH(T:Tx P w K mg a):aB P w K mg base CX0 1 a.HD a.HE ["store"] sR:=by
 refine T.GZ.ok Ar (λvs H Q E h=>?_) (λcdv A outer s H vs Q E hr h=>?_)
 .obtain⟨_,rfl,_⟩:=h
  rfl
 obtain⟨q,rfl,hq,k⟩:=h;refine⟨_,(aj (ar (aq gH (pq 0) aP))),?_⟩;exact⟨_,U,_,_,U,U,aR (m:=1001) (by show q.length+1<=1001;omega),k⟩
theorem D0(T:Tx P w K mg a):aB P w K mg base CX0 1 a.Hr a.Hs ["deed"] sV:=by
 refine T.JD.ok Au (λvs H Q E h=>?_) (λcdv A outer s H vs Q E hr h=>?_)
 .obtain⟨_,_,_,rfl,_⟩:=h
  rfl
 obtain⟨H0,v,d,rfl,e0,hd,k⟩:=h
 refine⟨_,(ah (aI (ay aM (ao aD (pq 0) ac Oy) aP (au _)) (aj (ar (bq (a9 (ao aD (pq 0) ac Oy) (a9 (ao aD (pq 0) ac Oy) af))))) aO)
  (ah (aI (ay iC (ao aD (pq 0) ac Oy) (eJ U T.LN T.r_LOOPS) (by with_unfolding_all rfl)) (aj (ar (bq (a9 (ao aD (pq 0) ac Oy) af)))) aO)
  (aj (ar (bq af))))),?_⟩
 have nil:∀p,H p=none->d.inner=[]->Q (.ref p) (upd H p (.lst [])):=λp hp z=>k _ p [] (aa.new hp _) hp ag (by rw[z];exact .nil);have one:∀p b bs,H p=none->d.inner=[bs]->RL H0 b bs->Q (.ref p) (upd H p (.lst [.ref b])):=λp b bs hp z hb=>k _ p [b] (aa.new hp _) hp ag (by rw[z];exact .cons hb .nil)
 cases hd with
 |cond h h1 h2=>
  refine⟨_,rfl,_,_,_,_,rfl,rfl,SqT.of (e0 _ _ h),rfl,rfl,_,rfl,?_⟩;walk_at "yes";refine⟨_,rfl,_,_,_,_,rfl,rfl,SqT.of (e0 _ _ h),rfl,_,rfl,_,_,_,_,rfl,rfl,SqT.of (e0 _ _ h),rfl,ln2,λp hp=>?_⟩;exact k _ p [_,_] (aa.new hp _) hp ag (.cons h1 (.cons h2 .nil))
 |whl h h1=>
  refine⟨_,rfl,_,_,_,_,rfl,rfl,SqT.of (e0 _ _ h),rfl,rfl,_,rfl,?_⟩;walk_at "no";refine⟨_,rfl,_,_,_,_,rfl,rfl,SqT.of (e0 _ _ h),rfl,_,_,rfl,.inr (T.Ch _),rfl,rfl,_,rfl,?_⟩;walk_at "yes";exact⟨_,rfl,_,_,_,_,rfl,rfl,SqT.of (e0 _ _ h),rfl,ln1,λp hp=>one p _ _ hp rfl h1⟩
 |rep h h1=>
  refine⟨_,rfl,_,_,_,_,rfl,rfl,SqT.of (e0 _ _ h),rfl,rfl,_,rfl,?_⟩;walk_at "no";refine⟨_,rfl,_,_,_,_,rfl,rfl,SqT.of (e0 _ _ h),rfl,_,_,rfl,.inr (T.Ch _),rfl,rfl,_,rfl,?_⟩;walk_at "yes";exact⟨_,rfl,_,_,_,_,rfl,rfl,SqT.of (e0 _ _ h),rfl,ln1,λp hp=>one p _ _ hp rfl h1⟩
 |set h=>
  refine⟨_,rfl,_,_,_,_,rfl,rfl,SqT.of (e0 _ _ h),rfl,rfl,_,rfl,?_⟩;walk_at "no";refine⟨_,rfl,_,_,_,_,rfl,rfl,SqT.of (e0 _ _ h),rfl,_,_,rfl,.inr (T.Ch _),rfl,rfl,_,rfl,?_⟩;walk_at "no";exact⟨qD _,λp hp=>nil p hp rfl⟩
 |put h=>
  refine⟨_,rfl,_,_,_,_,rfl,rfl,SqT.of (e0 _ _ h),rfl,rfl,_,rfl,?_⟩;walk_at "no";refine⟨_,rfl,_,_,_,_,rfl,rfl,SqT.of (e0 _ _ h),rfl,_,_,rfl,.inr (T.Ch _),rfl,rfl,_,rfl,?_⟩;walk_at "no";exact⟨qD _,λp hp=>nil p hp rfl⟩
 |get h=>
  refine⟨_,rfl,_,_,_,_,rfl,rfl,SqT.of (e0 _ _ h),rfl,rfl,_,rfl,?_⟩;walk_at "no";refine⟨_,rfl,_,_,_,_,rfl,rfl,SqT.of (e0 _ _ h),rfl,_,_,rfl,.inr (T.Ch _),rfl,rfl,_,rfl,?_⟩;walk_at "no";exact⟨qD _,λp hp=>nil p hp rfl⟩
 |give h=>
  refine⟨_,rfl,_,_,_,_,rfl,rfl,SqT.of (e0 _ _ h),rfl,rfl,_,rfl,?_⟩;walk_at "no";refine⟨_,rfl,_,_,_,_,rfl,rfl,SqT.of (e0 _ _ h),rfl,_,_,rfl,.inr (T.Ch _),rfl,rfl,_,rfl,?_⟩;walk_at "no";exact⟨qD _,λp hp=>nil p hp rfl⟩
theorem CQ(T:Tx P w K mg a):aB P w K mg base CX0 2 a.Hz a.HA ["deed"] sO:=by
 refine T.JF.ok Aq (λvs H Q E h=>?_) (λcdv A outer s H vs Q E hr h=>?_)
 .obtain⟨_,_,_,rfl,_⟩:=h
  rfl
 obtain⟨H0,v,d,rfl,e0,hd,hk,k⟩:=h
 refine⟨_,(ah (aI (ay aM (ao aD (pq 0) ac Oy) aP (au _)) (aj (ar (bq (a9 (aK (oE T) (hr.mono Yk) U T.Jh T.GY.kp T.Jg .nil aA (a9 (ao aD (pq 0) ac Oy) af)) af)))) aO)
  (ah (aI (ay aM (ao aD (pq 0) ac Oy) aP (au _)) (aj (ar (bq (a9 (aK (oH T) (hr.mono Yk) U T.Jj T.GZ.kp T.Ji .nil aA (a9 (ao aD (pq 0) ac Oy) af)) af)))) aO)
  (aj (ar (eI (ay iC (ao aD (pq 0) ac Oy) (eJ U T.LP T.r_OUTLET_KEEPERS) (by with_unfolding_all rfl)) (bq (a9 (eJ U T.Jt T.r_OUTLET) af)) (bq af)))))),?_⟩
 have fin:∀p xs,H p=none->d.others.map V.str=xs->Q (.ref p) (upd H p (.lst xs)):=λp xs hp z=>by
  subst z;exact k _ p (aa.new hp _) hp ag
 have bC:∀q z:Str,q++z∈d.others->q.length<=1000:=λq z hq=>by
  have:=hk _ hq;rw[ba]at this;omega
 cases hd with
 |put h=>
  refine⟨_,rfl,_,_,_,_,rfl,rfl,SqT.of (e0 _ _ h),rfl,rfl,_,rfl,?_⟩;walk_at "yes";exact⟨_,rfl,_,_,_,_,rfl,rfl,SqT.of (e0 _ _ h),rfl,_,rfl,bC _ ">" (by simp[a8.others]),ln1,λp hp=>fin p _ hp rfl⟩
 |get h=>
  refine⟨_,rfl,_,_,_,_,rfl,rfl,SqT.of (e0 _ _ h),rfl,rfl,_,rfl,?_⟩;walk_at "no";refine⟨_,rfl,_,_,_,_,rfl,rfl,SqT.of (e0 _ _ h),rfl,rfl,_,rfl,?_⟩;walk_at "yes";exact⟨_,rfl,_,_,_,_,rfl,rfl,SqT.of (e0 _ _ h),rfl,_,rfl,bC _ "<" (by simp[a8.others]),ln1,λp hp=>fin p _ hp rfl⟩
 |give h=>
  refine⟨_,rfl,_,_,_,_,rfl,rfl,SqT.of (e0 _ _ h),rfl,rfl,_,rfl,?_⟩;walk_at "no";refine⟨_,rfl,_,_,_,_,rfl,rfl,SqT.of (e0 _ _ h),rfl,rfl,_,rfl,?_⟩;walk_at "no";refine⟨_,rfl,_,_,_,_,rfl,rfl,SqT.of (e0 _ _ h),rfl,_,_,rfl,.inr (T.Go _),rfl,rfl,_,rfl,?_⟩;walk_at "yes";exact⟨Yk,λp hp=>fin p _ hp rfl⟩
 |whl h h1=>
  refine⟨_,rfl,_,_,_,_,rfl,rfl,SqT.of (e0 _ _ h),rfl,rfl,_,rfl,?_⟩;walk_at "no";refine⟨_,rfl,_,_,_,_,rfl,rfl,SqT.of (e0 _ _ h),rfl,rfl,_,rfl,?_⟩;walk_at "no";refine⟨_,rfl,_,_,_,_,rfl,rfl,SqT.of (e0 _ _ h),rfl,_,_,rfl,.inr (T.Go _),rfl,rfl,_,rfl,?_⟩;walk_at "yes";exact⟨Yk,λp hp=>fin p _ hp rfl⟩
 |set h=>
  refine⟨_,rfl,_,_,_,_,rfl,rfl,SqT.of (e0 _ _ h),rfl,rfl,_,rfl,?_⟩;walk_at "no";refine⟨_,rfl,_,_,_,_,rfl,rfl,SqT.of (e0 _ _ h),rfl,rfl,_,rfl,?_⟩;walk_at "no";refine⟨_,rfl,_,_,_,_,rfl,rfl,SqT.of (e0 _ _ h),rfl,_,_,rfl,.inr (T.Go _),rfl,rfl,_,rfl,?_⟩;walk_at "no";exact⟨Yk,λp hp=>fin p _ hp rfl⟩
 |cond h h1 h2=>
  refine⟨_,rfl,_,_,_,_,rfl,rfl,SqT.of (e0 _ _ h),rfl,rfl,_,rfl,?_⟩;walk_at "no";refine⟨_,rfl,_,_,_,_,rfl,rfl,SqT.of (e0 _ _ h),rfl,rfl,_,rfl,?_⟩;walk_at "no";refine⟨_,rfl,_,_,_,_,rfl,rfl,SqT.of (e0 _ _ h),rfl,_,_,rfl,.inr (T.Go _),rfl,rfl,_,rfl,?_⟩;walk_at "no";exact⟨Yk,λp hp=>fin p _ hp rfl⟩
 |rep h h1=>
  refine⟨_,rfl,_,_,_,_,rfl,rfl,SqT.of (e0 _ _ h),rfl,rfl,_,rfl,?_⟩;walk_at "no";refine⟨_,rfl,_,_,_,_,rfl,rfl,SqT.of (e0 _ _ h),rfl,rfl,_,rfl,?_⟩;walk_at "no";refine⟨_,rfl,_,_,_,_,rfl,rfl,SqT.of (e0 _ _ h),rfl,_,_,rfl,.inr (T.Go _),rfl,rfl,_,rfl,?_⟩;walk_at "no";exact⟨Yk,λp hp=>fin p _ hp rfl⟩
noncomputable def lK(vs:List V):List V:=vs.filter λv=>match v with|.str _=>true|_=>false
theorem oG(T:Tx P w K mg a):aB P w K mg base CX0 1 a.Ht a.Hu ["deed"] sP:=by
 refine T.GW.ok ub (λvs H Q E h=>?_) (λcdv A outer s H vs Q E hr h=>?_)
 .obtain⟨_,_,_,rfl,_⟩:=h
  rfl
 obtain⟨H0,v,d,rfl,e0,hd,k⟩:=h
 refine⟨_,(ah (az (i:=1) ub.nd U Oi (ao aD (pq 0) ac Oy))
  (ah (aI (ay aM (pq 1) aP (au _)) (aj (ar (iA (k:=1) (Nc:=["word"]) (js:=[]) (show bM (ax kj) ["deed","kind"] _ 1 ["word"] []from bM.mk U (by decide +kernel) (by decide +kernel) (by decide +kernel) U (by decide +kernel)) U (BW (bF (a9 (ao aD (pq 0) ac Oy) (a9 (ao aD (pq 0) ac Oy) (a9 (ao aD (pq 0) ac Oy) af))))) (λ_ _ _ _ _=>(aW (i:=0) (show List.Nodup (["word"]:List Str)from by decide +kernel) U Oi)) (λ_ _ _ _ _=>(kH (cq (aU (Bu (K:=K) U) U T.wE PyProof.Rows.Boot.«isinstance» (a9 (pq 0) (a9 (eX (v:=.ty "str") U T.Js PyProof.Rows.Boot.«str» rfl) af)))))) (λ_ _ _ _ _=>(pq 0))))) aO)
  (ah (aI (ay aM (pq 1) aP (au _)) (aj (ar (bq af))) aO)
  (aj (ar (eI (ay iC (pq 1) (eJ U T.LO T.r_LOOKERS) (by with_unfolding_all rfl)) (bq (a9 (ao aD (pq 0) ac Oy) af)) (bq (a9 (ao aD (pq 0) (dh dc ac) Oy) af)))))))),?_⟩
 have fin:∀H1 p xs,aa H H1->H1 p=none->d.names.map V.str=xs->Q (.ref p) (upd H1 p (.lst xs)):=λH1 p xs h1 hp z=>by
  subst z;refine k _ p (h1.trans (aa.new hp _)) ?_ ag
  cases q:H p with
  |none=>rfl
  |some o=>rw[h1 _ _ q]at hp;cases hp
 cases hd with
 |set h=>
  rename_i p x va sg vb;refine⟨_,rfl,_,_,_,_,rfl,rfl,SqT.of (e0 _ _ h),rfl,?_⟩;refine⟨_,rfl,rfl,_,rfl,?_⟩;walk_at "yes";refine⟨_,rfl,_,_,_,_,rfl,rfl,SqT.of (e0 _ _ h),rfl,_,rfl,_,_,_,_,rfl,rfl,SqT.of (e0 _ _ h),rfl,_,rfl,_,_,_,_,rfl,rfl,SqT.of (e0 _ _ h),rfl,ln3,λt ht=>⟨t,rfl,⟨_,SqT.of ag⟩,?_⟩⟩;refine Fv (K:=K) (a:=t) (xs:=[.str x,va.v,vb.v]) (λi ys Y H2=>H2=upd H t (.tup [.str x,va.v,vb.v])/\(∃u,Y=[u])/\ys=lK (([.str x,va.v,vb.v]:List V).take i)) ⟨rfl,⟨_,rfl⟩,rfl⟩ ?_ ln3 ?_ ?_ ?_
  .rintro i ys Y H2 hi ⟨_,_,rfl⟩;refine qJ (List.length_filter_le _ _) ?_;rw[qU];omega
  .rintro i ys Y H2 ⟨rfl,_⟩;exact SqT.of ag
  .rintro i z ys Y H2 hz ⟨rfl,⟨u,rfl⟩,rfl⟩;have hz':z=.str x\/z=va.v\/z=vb.v:=by simpa using qK hz
   have kind:(∃y,z=.str y)\/∃n,z=.int n:=by
    rcases hz' with rfl|rfl|rfl
    .exact .inl ⟨_,U⟩
    .cases va<;>simp[Val.v]
    .cases vb<;>simp[Val.v]
   rcases kind with⟨y,rfl⟩|⟨n,rfl⟩
   .refine⟨_,U,_,_,_,true,U,.str y,U,_,U,?_⟩;refine oY ⟨_,U,U,⟨_,U⟩,?_⟩;rw[qC,hz];simp[lK]
   .refine⟨_,U,_,_,_,false,U,.int n,U,_,U,?_⟩;refine iJ ⟨U,⟨_,U⟩,?_⟩;rw[qC,hz];simp[lK]
  .rintro ys Y H2 ⟨rfl,_,rfl⟩ D hD;refine fin _ D _ (aa.new ht _) hD ?_;cases va<;>cases vb<;>rfl
 |rep h h1=>
  refine⟨_,rfl,_,_,_,_,rfl,rfl,SqT.of (e0 _ _ h),rfl,?_⟩;refine⟨_,rfl,rfl,_,rfl,?_⟩;walk_at "no";refine⟨_,rfl,rfl,_,rfl,?_⟩;walk_at "yes";exact⟨qD _,λp hp=>fin H p _ (aa.refl H) hp rfl⟩
 |cond h h1 h2=>
  refine⟨_,rfl,_,_,_,_,rfl,rfl,SqT.of (e0 _ _ h),rfl,?_⟩;refine⟨_,rfl,rfl,_,rfl,?_⟩;walk_at "no";refine⟨_,rfl,rfl,_,rfl,?_⟩;walk_at "no";refine⟨_,rfl,_,_,rfl,.inr (T.Ev _),rfl,rfl,_,rfl,?_⟩;walk_at "yes";exact⟨_,rfl,_,_,_,_,rfl,rfl,SqT.of (e0 _ _ h),rfl,ln1,λp hp=>fin H p _ (aa.refl H) hp rfl⟩
 |whl h h1=>
  refine⟨_,rfl,_,_,_,_,rfl,rfl,SqT.of (e0 _ _ h),rfl,?_⟩;refine⟨_,rfl,rfl,_,rfl,?_⟩;walk_at "no";refine⟨_,rfl,rfl,_,rfl,?_⟩;walk_at "no";refine⟨_,rfl,_,_,rfl,.inr (T.Ev _),rfl,rfl,_,rfl,?_⟩;walk_at "yes";exact⟨_,rfl,_,_,_,_,rfl,rfl,SqT.of (e0 _ _ h),rfl,ln1,λp hp=>fin H p _ (aa.refl H) hp rfl⟩
 |put h=>
  refine⟨_,rfl,_,_,_,_,rfl,rfl,SqT.of (e0 _ _ h),rfl,?_⟩;refine⟨_,rfl,rfl,_,rfl,?_⟩;walk_at "no";refine⟨_,rfl,rfl,_,rfl,?_⟩;walk_at "no";refine⟨_,rfl,_,_,rfl,.inr (T.Ev _),rfl,rfl,_,rfl,?_⟩;walk_at "no";exact⟨_,rfl,_,rfl,_,_,_,_,rfl,rfl,SqT.of (e0 _ _ h),rfl,ln1,λp hp=>fin H p _ (aa.refl H) hp rfl⟩
 |get h=>
  refine⟨_,rfl,_,_,_,_,rfl,rfl,SqT.of (e0 _ _ h),rfl,?_⟩;refine⟨_,rfl,rfl,_,rfl,?_⟩;walk_at "no";refine⟨_,rfl,rfl,_,rfl,?_⟩;walk_at "no";refine⟨_,rfl,_,_,rfl,.inr (T.Ev _),rfl,rfl,_,rfl,?_⟩;walk_at "no";exact⟨_,rfl,_,rfl,_,_,_,_,rfl,rfl,SqT.of (e0 _ _ h),rfl,ln1,λp hp=>fin H p _ (aa.refl H) hp rfl⟩
 |give h=>
  refine⟨_,rfl,_,_,_,_,rfl,rfl,SqT.of (e0 _ _ h),rfl,?_⟩;refine⟨_,rfl,rfl,_,rfl,?_⟩;walk_at "no";refine⟨_,rfl,rfl,_,rfl,?_⟩;walk_at "no";refine⟨_,rfl,_,_,rfl,.inr (T.Ev _),rfl,rfl,_,rfl,?_⟩;walk_at "no";exact⟨_,rfl,_,rfl,_,_,_,_,rfl,rfl,SqT.of (e0 _ _ h),rfl,ln1,λp hp=>fin H p _ (aa.refl H) hp rfl⟩
theorem EU{ds:List a8}{i:Nat}{d:a8}(h:ds[i]?=some d):ai (ds.take (i+1))=ai (ds.take i)++(d::d.inner.flatMap ai):=by
 rw[qC,h,f9];show _++ai [d]=_;rw[ai,ai,qI,fB]
theorem lj:∀{ds:List a8}{i:Nat}{d:a8},ds[i]?=some d->d.depth<=aH ds
 |[],i,d,h=>by simp at h
 |x::r,0,d,h=>by simp at h;subst h;rw[aH];omega
 |x::r,i+1,d,h=>by
  simp only[List.getElem?_cons_succ]at h;have:=lj h;rw[aH];omega
theorem Ez{d:a8}{j:Nat}{b:List a8}(h:d.inner[j]?=some b):aH b<d.depth:=by
 have hm:=qK h;cases d<;>simp[a8.inner]at hm
 .rcases hm with rfl|rfl<;>rw[a8.depth]<;>omega
 .subst hm;rw[a8.depth];omega
 .subst hm;rw[a8.depth];omega
theorem wB{ds:List a8}{i:Nat}:(ai (ds.take i)).length<=(ai ds).length:=by
 have:ai ds=ai (ds.take i)++ai (ds.drop i):=by rw[<- f9,QF]
 rw[this,qf];omega
theorem vd(T:Tx P w K mg a):∀n:Nat,aB P w K mg base CX0 (n+2) a.Ho a.Hq ["block"] (sX n):=by
 intro n
 induction n with
 |zero=>
  refine T.GB.ok j4 (λvs H Q E h=>?_) (λcdv A outer s H vs Q E hr h=>?_)
  .obtain⟨_,_,_,rfl,_⟩:=h
   rfl
  .obtain⟨_,_,_,_,_,_,h0,_⟩:=h;exact Qf h0 (QJ _)
 |succ n ih=>
  refine T.GB.ok j4 (λvs H Q E h=>?_) (λcdv A outer s H vs Q E hr h=>?_)
  .obtain⟨_,_,_,rfl,_⟩:=h
   rfl
  obtain⟨H0,b,ds,rfl,e0,hb,hdp,hfl,k⟩:=h
  refine⟨_,(ah (az (i:=1) j4.nd U Oi (bq af))
   (ah (cM PassesOwn.never U (cD (pq 0)) (aW (i:=2) j4.nd U Oi)
   (ah (bK (bY qk qG qH dE (pq 1) (a9 (pq 2) af)))
   (aj (cM PassesOwn.never U (cD (aK (D0 T) (hr.mono Yo) U T.Ku T.JD.kp T.Kt .nil aA (a9 (pq 2) af))) (aW (i:=3) j4.nd U Oi)
   (aj (bK (bY qk Qz Qy gu (pq 1) (a9 (aK ih (hr.mono Yo) U T.Jb T.GB.kp T.Ja .nil aA (a9 (pq 3) af)) af))))))))
   (aj (ar (pq 1))))),?_⟩
  obtain⟨hb1,hds⟩:=hb;rename_i vs;refine⟨qD _,λf hf=>?_⟩;have hf0:=aa.none e0 hf;refine⟨_,U,b,U,⟨_,SqL.of ((aa.new hf _) _ _ (e0 _ _ hb1))⟩,?_⟩;refine eD (K:=K) (a:=b) (xs:=vs) (λi Y H2=>∃us v2 v3,Y=[some (.ref b),some (.ref f),v2,v3]/\aa H H2/\H2 f=some (.lst us)/\RDs H0 us (ai (ds.take i))) ⟨[],_,_,U,aa.new hf _,ag,.nil⟩ ?_ ?_ ?_
  .rintro i Y H2 _ ⟨us,v2,v3,_,s2,_,_⟩;exact SqL.of (s2 _ _ (e0 _ _ hb1))
  .rintro i x Y H2 hx ⟨us,v2,v3,rfl,s2,hf2,hus⟩;obtain⟨d,hd,hrd⟩:=hds.at i x hx;have lu:us.length<=1300:=by rw[hus.len];exact qJ wB hfl
   refine⟨_,U,.inl ⟨U,_,SqL.of hf2⟩,_,U,f,_,_,U,U,hf2,aR (m:=1301) Yo,?_⟩;have s3:aa H0 (upd H2 f (.lst (us++[x]))):=aa.over (e0.trans s2) hf0;refine⟨_,U,H0,x,d,U,s3,hrd,λH4 l bs s4 nl hl hbs=>⟨l,U,⟨_,SqL.of hl⟩,?_⟩⟩;have lf:l≠f:=λz=>by rw[z,ag]at nl;cases nl
   have all:ai (ds.take (i+1))=ai (ds.take i)++([d]++d.inner.flatMap ai):=EU hd
   refine eD (K:=K) (a:=l) (xs:=bs.map V.ref) (λj Y H5=>∃us' v3,Y=[some (.ref b),some (.ref f),some x,v3]/\aa H H5/\H5 f=some (.lst us')/\H5 l=some (.lst (bs.map V.ref))/\RDs H0 us' (ai (ds.take i)++([d]++(d.inner.take j).flatMap ai)))
    ⟨us++[x],_,U,(aa.over s2 hf).trans s4,s4 _ _ ag,hl,hus.app (.cons hrd .nil)⟩ ?_ ?_ ?_
   .rintro j Y H5 _ ⟨us',v3,_,_,_,hl5,_⟩;exact SqL.of hl5
   .rintro j z Y H5 hz ⟨us',v3,rfl,s5,hf5,hl5,hus'⟩;rw[qO]at hz;obtain⟨bj,hbj,rfl⟩:=qZ.mp hz;obtain⟨dj,hdj,hrj⟩:=hbs.at j bj hbj;have dd:=lj hd;have di:=Ez hdj
    have st:(d.inner.take (j+1)).flatMap ai=(d.inner.take j).flatMap ai++ai dj:=by
     rw[qC,hdj,Q6];simp
    have pre:(ai (ds.take i)++([d]++(d.inner.take (j+1)).flatMap ai)).length<=1300:=by
     have e:d.inner.flatMap ai=(d.inner.take (j+1)).flatMap ai++(d.inner.drop (j+1)).flatMap ai:=by rw[<- Q6,QF]
     have:=wB (ds:=ds) (i:=i+1);rw[all,e]at this;simp only[qf]at this ⊢;omega
    rw[st]at pre;simp only[qf]at pre;have lu':us'.length<=1300:=by rw[hus'.len];simp only[qf];omega
    refine⟨_,U,.inl ⟨U,_,SqL.of hf5⟩,_,U,H0,bj,dj,U,e0.trans s5,hrj,Yo,Yo,λH6 l6 us6 s6 n6 h6 r6=>?_⟩;have f6:l6≠f:=λz=>by rw[z,hf5]at n6;cases n6
    refine⟨f,l6,_,_,U,U,s6 _ _ hf5,h6,aR (m:=3000) (by rw[r6.len];omega),?_⟩;refine⟨us'++us6,_,U,aa.over (s5.trans s6) hf,ag,?_,?_⟩
    .rw[ae lf];exact s6 _ _ hl5
    .rw[st,<- qX,<- qX];rw[<- qX]at hus';exact hus'.app r6
   .rintro Y H5 ⟨us',v3,rfl,s5,hf5,hl5,hus'⟩;refine⟨us',_,_,U,s5,hf5,?_⟩;rw[all];rw[qc,hbs.len,qR]at hus';exact hus'
  .rintro Y H2 ⟨us,v2,v3,rfl,s2,hf2,hus⟩;rw[hds.len,qR]at hus;exact⟨_,U,k H2 f us s2 hf hf2 hus⟩
theorem Fj(d:a8):d.cards.length<=3:=by
 cases d with
 |set x a sg b=>cases a<;>cases b<;>simp[a8.cards,a8.names,a8.others,Val.names]
 |_=>simp[a8.cards,a8.names,a8.others]
theorem xf:∀(l:List a8),(l.flatMap a8.cards).length<=3 * l.length
 |[]=>by simp
 |d::r=>by
  have h1:=Fj d;have h2:=xf r;rw[qP,qf,qL];omega
theorem oC(T:Tx P w K mg a):aB P w K mg base CX0 16 a.Hx a.Hy ["block"] lO:=by
 refine T.GX.ok lX (λvs H Q E h=>?_) (λcdv A outer s H vs Q E hr h=>?_)
 .obtain⟨_,_,_,_,rfl,_⟩:=h
  rfl
 obtain⟨H0,b,ds,C,rfl,e0,hb,hdp,hfl,hC,h64,hlen,k⟩:=h
 refine⟨_,(ah (az (i:=1) lX.nd U Oi (bq af))
  (ah (cM PassesOwn.never U (cD (aK (vd T 13) (hr.mono Yk) U T.Jb T.GB.kp T.Ja .nil aA (a9 (pq 0) af))) (aW (i:=2) lX.nd U Oi)
  (ah (bK (bY qk Qz Qy gu (pq 1) (a9 (aK (oG T) (hr.mono Yk) U T.Jd T.GW.kp T.Jc .nil aA (a9 (pq 2) af)) af)))
  (aj (bK (bY qk Qz Qy gu (pq 1) (a9 (aK (CQ T) (hr.mono Yk) U T.Ky T.JF.kp T.Kx .nil aA (a9 (pq 2) af)) af))))))
  (aj (ar (aU (jy U) U T.Gx PyProof.Rows.Boot.«sorted» (a9 (eB (gX U) U T.Db PyProof.Rows.Boot.«set» (a9 (pq 1) af)) af)))))),?_⟩
 refine⟨qD _,λc hc=>?_⟩;have c0:=aa.none e0 hc;refine⟨_,U,H0,b,ds,U,aa.over e0 c0,hb,Yo,hfl,λH2 l us s2 nl hl hus=>⟨l,U,⟨_,SqL.of hl⟩,?_⟩⟩;have lc:l≠c:=λz=>by rw[z,ag]at nl;cases nl
 have few:∀i,(((ai ds).take i).flatMap a8.cards).length<=3900:=λi=>by
  have:=xf ((ai ds).take i);rw[qU]at this;omega
 refine eD (K:=K) (a:=l) (xs:=us) (λi Y H3=>∃v,Y=[some (.ref b),some (.ref c),v]/\aa H H3/\H3 c=some (.lst ((((ai ds).take i).flatMap a8.cards).map V.str))/\H3 l=some (.lst us)) ⟨_,U,(aa.new hc _).trans s2,s2 _ _ ag,hl⟩ ?_ ?_ ?_
 .rintro i Y H3 _ ⟨v,_,_,_,h⟩;exact SqL.of h
 .rintro i x Y H3 hx ⟨v,rfl,s3,hc3,hl3⟩;obtain⟨d,hd,hrd⟩:=hus.at i x hx;have dm:d∈ai ds:=qK hd;have f1:=few (i+1);rw[qC,hd]at f1
  have f1':(((ai ds).take i).flatMap a8.cards).length+(d.names.length+d.others.length)<=3900:=by
   simpa[Q6,a8.cards]using f1
  refine⟨_,U,.inl ⟨U,_,SqL.of hc3⟩,_,U,H0,x,d,U,e0.trans s3,hrd,λH4 l4 s4 n4 h4=>?_⟩;refine⟨c,l4,_,_,U,U,s4 _ _ hc3,h4,aR (m:=3900) (by rw[qc,qc];omega),?_⟩;have s5:aa H (upd H4 c (.lst ((((ai ds).take i).flatMap a8.cards).map V.str++d.names.map V.str))):=aa.over (s3.trans s4) hc;refine⟨_,U,.inl ⟨U,_,SqL.of ag⟩,_,U,H0,x,d,U,e0.trans s5,hrd,λz hz=>hlen _ (hC _ (List.mem_flatMap.mpr ⟨d,dm,qS _ hz⟩)),λH6 l6 s6 n6 h6=>?_⟩;refine⟨c,l6,_,_,U,U,s6 _ _ ag,h6,aR (m:=3900) (by rw[qf,qc,qc,qc];omega),?_⟩;refine⟨_,U,aa.over (s5.trans s6) hc,?_,?_⟩
  .rw[ag,qC,hd];simp[Q6,a8.cards]
  .rw[ae lc];refine s6 _ _ ?_;rw[ae lc];exact s4 _ _ hl3
 .rintro Y H3 ⟨v,rfl,s3,hc3,hl3⟩;rw[hus.len,qR]at hc3;have f1:=few (ai ds).length;rw[qR]at f1;refine⟨_,U,c,(ai ds).flatMap a8.cards,U,SqL.of hc3,Yo,λp hp=>?_⟩;refine⟨p,(ai ds).flatMap a8.cards,C,U,ag,hC,h64,λr zs hr' nd hm so=>?_⟩;have p0:=aa.none s3 hp
  have r0:H r=none:=by
   refine aa.none s3 ?_
   cases q:H3 r with
   |none=>rfl
   |some o=>
    have:r≠p:=bW q hp;rw[ae this,q]at hr';cases hr'
  exact k _ r zs (aa.over (aa.over s3 p0) r0) r0 ag nd hm so
theorem kO(T:Tx P w K mg a):aB P w K mg base CX0 1 a.IB a.IC ["_law_script","_law_k"] (tF K):=by
 refine T.GD.ok Ax (λvs H Q E h=>?_) (λcdv A outer s H vs Q E hr h=>?_)
 .obtain⟨_,_,_,rfl,_⟩:=h
  rfl
 obtain⟨l,ns,k,rfl,hl,hn,h0,q⟩:=h
 refine⟨_,(ah (aI (ay kD (pq 1) (aU ck U T.om Qi (a9 (pq 0) af)) (au _)) (aj (ar (ao aY (pq 0) (pq 1) Oy))) aO)
  (aj (ar ac))),?_⟩
 have len:(ns.map V.int).length=ns.length:=qc _;refine⟨_,U,_,U,l,_,U,.inl hl,_,_,U,U,_,U,?_⟩;refine be (λc=>?_) (λc=>?_)
 .have c:=Qn c;rw[len]at c;have lt:k.toNat<ns.length:=Yo
  have e:atI (ns.map V.int) k=some (.int (ns.getD k.toNat 0)):=by
   have:=cy (xs:=ns.map V.int) (j:=k.toNat) (v:=.int (ns.getD k.toNat 0)) (by rw[qO,qv,qg lt];rfl)
   rwa [Int.toNat_of_nonneg h0]at this
  exact⟨_,U,_,U,l,_,_,_,U,U,hl,e,q⟩
 .have c:¬ k<((ns.map V.int).length:Int):=λz=>c (Qd z);rw[len]at c;have e:ns.getD k.toNat 0=0:=by rw[qv,QA Yo];rfl
  rw[e]at q;exact q
theorem fj(T:Tx P w K mg a):aB P w K mg base CX0 1 a.ID a.IE ["_law_cell","_law_k"] tw:=by
 refine T.wP.ok uf (λvs H Q E h=>?_) (λcdv A outer s H vs Q E hr h=>?_)
 .obtain⟨_,_,rfl,_⟩:=h
  rfl
 obtain⟨c,k,rfl,h0,h1,q⟩:=h;unfold aE at q
 refine⟨_,(ah (az (i:=2) uf.nd U Oi (aq aZ (aq dU (aq aZ (pq 0) ac) (aq bU ac (aq dU (aq dU ac (pq 1)) (pq 1)))) ac))
  (aj (ar (aq aZ (aq dU (aq bU (pq 2) (pq 1)) (aq bU (pq 2) (aq dU ac (pq 1)))) ac)))),?_⟩
 have kb:Builtin.Int.intBits k<=64:=intBits_le_64 Yo Yo;walk_at "rd";refine⟨IntMulOk.of_right kb,?_⟩;walk_at "rd";refine⟨IntMulOk.of_right kb,?_⟩;walk_at "rd";refine⟨IntMulOk.of_left (intBits_le_64 Yo Yo),?_⟩;walk_at "rd";have n0:=Qk (c % 2147483647 * (48271+1103 * k * k)) (show(2147483629:Int)≠0 by decide);have n1:=Qp (c % 2147483647 * (48271+1103 * k * k)) (show(0:Int)<2147483629 by decide);generalize c % 2147483647 * (48271+1103 * k * k) % 2147483629=m at n0 n1 q ⊢;refine⟨IntMulOk.of_right kb,?_⟩;walk_at "rd";refine⟨IntMulOk.of_left (intBits_le_64 Yo Yo),?_⟩;walk_at "rd";exact q
theorem pX{j:Int}(h0:0<=j)(h1:j<26):atI dk.cps.toList j=some (bX j):=by
 have lt:j.toNat<dk.cps.toList.length:=by
  have:dk.cps.toList.length=26:=Yd;omega
 have:=cy (xs:=dk.cps.toList) (j:=j.toNat) (v:=bX j) (by unfold bX;rw[qv,qg lt];rfl)
 rwa [Int.toNat_of_nonneg h0]at this
theorem oS:dk.length<=sizeLine:=Yd
theorem Ac(c:Nat):(sgn c).length=1:=U
theorem jo(n:Int):∀k:Nat,(cO n k).length=k
 |0=>rfl
 |k+1=>by rw[cO,ba,jo n k,Ac]
theorem vi(T:Tx P w K mg a):aB P w K mg base CX0 1 a.IH a.II ["_law_number","_law_size"] tz:=by
 refine T.Jo.ok ig (λvs H Q E h=>?_) (λcdv A outer s H vs Q E hr h=>?_)
 .obtain⟨_,_,rfl,_⟩:=h
  rfl
 obtain⟨n,k,rfl,h0,h1,q⟩:=h
 refine⟨_,(ah (az (i:=2) ig.nd U Oi aP)
  (ah (az (i:=3) ig.nd U Oi aP)
  (ah (cM PassesOwn.never U (iw U T.Gw (a9 (pq 1) af)) (aW (i:=4) ig.nd U Oi)
  (ah (az (i:=3) ig.nd U Oi (aq gH (pq 3) (ao jr (pq 2) (aq aZ (pq 0) ac) Oy)))
  (aj (az (i:=0) ig.nd U Oi (aq df (pq 0) ac)))))
  (aj (ar (pq 3)))))),?_⟩
 refine⟨_,U,k,U,Yo,Yo,jt (λi Y H2=>H2=H/\i<=k.toNat/\∃v:Option V,Y=[some (.int (jx n i)),some (.int k),some (.str dk),some (.str (cO n i)),v]) ⟨U,qD _,_,U⟩ ?_ ?_⟩
 .rintro i Y H2 hi ⟨rfl,hik,v,rfl⟩;have e:=pX (Qk (jx n i) (show(26:Int)≠0 by decide)) (Qp (jx n i) Yk);refine⟨_,U,_,U,_,U,_,_,U,U,Yk,dk,_,_,U,U,oS,e,_,_,U,U,aR (m:=1000) (by rw[jo];show i+1<=1000;omega),?_⟩;exact⟨_,U,_,_,U,U,⟨Yk,Yk⟩,U,hi,_,U⟩
 .rintro Y H2 ⟨rfl,_,v,rfl⟩;exact⟨_,U,q⟩
theorem oZ{w:Str}:∀{ks:List Str},inV (.str w) (ks.map V.str)=decide (w∈ks)
 |[]=>rfl
 |k::ks=>by
  show(eqV (.str k) (.str w) || inV (.str w) (ks.map V.str))=decide (w∈k::ks);rw[oZ];show((k == w) || decide (w∈ks))=_;by_cases e:k=w
  .subst e;simp
  .have e':¬ w=k:=λz=>e z.symm;simp[e,e']
theorem Ec:∀w∈kws,atI w.cps.toList (-1)=some (w.cps.toList.getLastD 97)/\Builtin.Str.occurrences dk ⟨#[w.cps.toList.getLastD 97]⟩ 0 dk.length 1=[w.cps.toList.getLastD 97-97]/\(97<=w.cps.toList.getLastD 97/\w.cps.toList.getLastD 97<=122)/\w.length<=8:=Yd
theorem D3(T:Tx P w K mg a):aB P w K mg base CX0 1 a.IJ a.IK ["_law_word"] t5:=by
 refine T.K0.ok ud (λvs H Q E h=>?_) (λcdv A outer s H vs Q E hr h=>?_)
 .obtain⟨_,rfl,_⟩:=h
  rfl
 obtain⟨x,rfl,hx,q⟩:=h
 refine⟨_,(ah (az (i:=1) ud.nd U Oi aP)
  (ah (aI (ay iC (pq 0) (bF (kL U)) (by with_unfolding_all rfl)) (aj (ar (aq gH (gi iX (pq 0) iu (fh (dh dc ac))) (ao jr (pq 1) (aq aZ (aq bU (bY PySem.F.plainAttrs_str PySem.F.slot_str_index PySem.F.type_str_index DL (pq 1) (a9 (ao jr (pq 0) (dh dc ac) Oy) af)) ac) ac) Oy)))) aO)
  (aj (ar (pq 0))))),?_⟩
 refine⟨_,U,(by show 10<=sizeLine;decide),λp hp=>?_⟩;refine⟨p,kws.map V.str,U,.inr (SqT.of ag),U,U,_,U,?_⟩;have sm:=aa.new hp (.tup (kws.map V.str));have hz:=aR (m:=200) hx;refine be (λc=>?_) (λc=>?_)
 .have c:inV (.str x) (kws.map V.str)=true:=c;rw[oZ]at c;have hk:=Qn c;obtain⟨k1,k2,k3,k4⟩:=Ec x hk;have li:((x.cps.toList.getLastD 97-97:Nat):Int)=gO x:=by unfold gO;omega
  have e:=pX (j:=(((x.cps.toList.getLastD 97-97:Nat):Int)+13) % 26) (Qk _ Yk) (Qp _ Yk);have res:=q _ sm;unfold cW at res;rw[Qc hk,<- li]at res;refine⟨_,U,_,U,_,U,x,U,hz,?_⟩;refine⟨_,U,_,U,U,?_⟩;refine⟨_,U,_,U,x,_,_,U,U,hz,k1,dk,_,_,_,U,U,k2,?_⟩;refine⟨_,_,U,U,_,_,U,U,Yk,dk,_,_,U,U,oS,e,?_⟩;refine⟨_,_,U,U,aR (m:=1000) ?_,res⟩;have:=Txt.slice_le x none (some (-1));show _+1<=1000;omega
 .have c:¬ inV (.str x) (kws.map V.str)=true:=c;rw[oZ]at c;have res:=q _ sm;unfold cW at res;rw[Qb (λz=>c (Qd z))]at res;exact⟨_,U,res⟩
theorem jm(c k:Int):0<=aE c k:=by unfold aE;exact Qk _ Yk
theorem vE(c k:Int):aE c k<2147483587:=by unfold aE;exact Qp _ Yk
theorem i8(z:Str)(a b:Option Int):(Txt.slice z a b).length<=z.length:=Txt.slice_le z a b
theorem uM(c:Int):(bP c).length=8:=by unfold bP;exact jo _ 8
theorem BS(c k:Int):(bR c k).length<=30:=by
 unfold bR;have b:=uM c;split
 .have h1:=i8 (bP c) none (some (d6 c));have h2:=i8 (bP c) (some (d6 c+1)) (some (dy c));rw[ba,ba];have:(eW c k).length=1:=U;omega
 .split
  .have h1:=i8 (bP c) none (some (1+(aE c 1 / 24+k) % 8));omega
  .have h1:=i8 (eW c k++cO (aE c (k+2)) 7) none (some (1+aE c (k+40) % 8));rw[ba,jo]at h1;have:(eW c k).length=1:=U;omega
theorem oz(c:Int)(i:Nat):dS c (i+1)=dS c i++[cW (bR c i)]:=by
 unfold dS;rw[List.range_succ,qY]
 rfl
theorem jg(c:Int)(i:Nat):(dS c i).length=i:=by unfold dS;simp
seal aE cO bP bR cW
theorem vh(T:Tx P w K mg a):aB P w K mg base CX0 2 a.IL a.IM ["_law_cell","_law_many"] tm:=by
 refine T.Jp.ok eF (λvs H Q E h=>?_) (λcdv A outer s H vs Q E hr h=>?_)
 .obtain⟨_,_,rfl,_⟩:=h
  rfl
 obtain⟨c,k,rfl,h0,h1,q⟩:=h
 refine⟨_,(ah (az (i:=2) eF.nd U Oi aP)
  (ah (az (i:=3) eF.nd U Oi (aK (fj T) (hr.mono Yk) U T.wT T.wP.kp T.wS .nil aA (a9 (pq 0) (a9 ac af))))
  (ah (az (i:=4) eF.nd U Oi (aK (vi T) (hr.mono Yk) U T.JZ T.Jo.kp T.JY .nil aA (a9 (aq bU (aq dU (pq 3) (pq 3)) (pq 3)) (a9 ac af))))
  (ah (az (i:=5) eF.nd U Oi (aq bU ac (aq aZ (aq df (pq 3) ac) ac)))
  (ah (az (i:=6) eF.nd U Oi (aq aZ (aq df (pq 3) ac) (pq 5)))
  (ah (az (i:=7) eF.nd U Oi (bq af))
  (ah (cM PassesOwn.never U (iw U T.Gw (a9 (pq 1) af)) (aW (i:=8) eF.nd U Oi)
  (ah (az (i:=9) eF.nd U Oi (ao jr (pq 2) (aq aZ (aq bU (aq df (pq 3) ac) (pq 8)) ac) Oy))
  (ah (aI (ay aM (aq aZ (pq 3) ac) ac (au _)) (aj (az (i:=10) eF.nd U Oi (aq gH (aq gH (gi iX (pq 4) iu (fh (pq 6))) (pq 9)) (gi iX (pq 4) (fh (aq bU (pq 6) ac)) (fh (pq 5)))))) (aj (aI (ay aM (aq aZ (pq 3) ac) ac (au _)) (aj (az (i:=10) eF.nd U Oi (gi iX (pq 4) iu (fh (aq bU ac (aq aZ (aq bU (aq df (pq 3) ac) (pq 8)) ac)))))) (aj (az (i:=10) eF.nd U Oi (gi iX (aq gH (pq 9) (aK (vi T) (hr.mono Yk) U T.JZ T.Jo.kp T.JY .nil aA (a9 (aK (fj T) (hr.mono Yk) U T.wT T.wP.kp T.wS .nil aA (a9 (pq 0) (a9 (aq bU (pq 8) ac) af))) (a9 ac af)))) iu (fh (aq bU ac (aq aZ (aK (fj T) (hr.mono Yk) U T.wT T.wP.kp T.wS .nil aA (a9 (pq 0) (a9 (aq bU (pq 8) ac) af))) ac)))))))))
  (aj (bK (bY qk qG qH dE (pq 7) (a9 (aK (D3 T) (hr.mono Yk) U T.Lr T.K0.kp T.Lq .nil aA (a9 (pq 10) af)) af)))))))
  (ah (aI (ay aM (aq aZ (aq df (pq 3) ac) ac) ac (au _)) (aj (ar (C6 U U T.Gv U T.LL (pq 7)))) aO)
  (aj (ar (pq 7))))))))))),?_⟩
 have n0:=jm c 1;have n1:=vE c 1;have nb:Builtin.Int.intBits (aE c 1)<=64:=intBits_le_64 Yo Yo;refine⟨_,U,c,1,U,Yk,Yk,?_⟩;refine⟨_,U,_,U,_,_,U,U,IntMulOk.of_right nb,_,U,_,_,U,U,_,8,U,Yk,Yk,?_⟩;have base:cO (aE c 1 * aE c 1+aE c 1) (8:Int).toNat=bP c:=by unfold bP;rfl
 rw[base];refine⟨_,U,_,_,U,U,⟨Yk,Yk⟩,_,_,U,U,Yk,_,_,U,U,?_⟩;have size:1+aE c 1 / 3 % 8=dy c:=U;rw[size];have sz:1<=dy c/\dy c<=8:=by unfold dy;omega
 refine⟨_,U,_,_,U,U,⟨Yk,Yk⟩,_,U,_,_,U,U,Yo,?_⟩;have at':aE c 1 / 24 % dy c=d6 c:=U;rw[at'];refine⟨qD _,λl hl=>?_⟩;have bl:=uM c;have bz:(bP c).length<=sizeLine:=aR (m:=100) Yo
 refine⟨_,U,k,U,Yo,Yo,jt (λi Y H2=>aa H H2/\i<=k.toNat/\H2 l=some (.lst ((dS c i).map V.str))/\∃v8 v9 v10:Option V,Y=[some (.int c),some (.int k),some (.str dk),some (.int (aE c 1)),some (.str (bP c)),some (.int (dy c)),some (.int (d6 c)),some (.ref l),v8,v9,v10])
  ⟨aa.new hl _,qD _,ag,_,_,_,U⟩ ?_ ?_⟩
 .rintro i Y H2 hi ⟨s2,hik,hl2,v8,v9,v10,rfl⟩;have e9:=pX (Qk (aE c 1 / 192+(0+(i:Int))) (show(26:Int)≠0 by decide)) (Qp _ Yk);refine⟨_,U,_,U,_,_,U,U,⟨Yk,Yk⟩,_,U,_,_,U,U,_,_,U,U,Yk,dk,_,_,U,U,oS,e9,?_⟩;have z0:(0:Int)+(i:Int)=(i:Int):=Yo;rw[z0];have sg:(⟨#[bX ((aE c 1 / 192+(i:Int)) % 26)]⟩:Str)=eW c i:=U;have sl:(eW c i).length=1:=U;have pw:=BS c i;refine⟨_,U,_,_,U,U,Yk,U,_,U,?_⟩;refine be (λc1=>?_) (λc1=>?_)
  .have c1:=dB c1;have h1:=i8 (bP c) none (some (d6 c));have h2:=i8 (bP c) (some (d6 c+1)) (some (dy c));refine⟨_,U,_,U,_,U,bP c,U,bz,_,U,_,_,U,U,aR (m:=100) (by rw[sg,sl];omega),_,U,_,U,_,_,U,U,_,U,_,U,_,U,bP c,U,bz,_,_,U,U,aR (m:=100) (by rw[ba,sg,sl];omega),?_⟩
   have pe:Txt.slice (bP c) none (some (d6 c))++(⟨#[bX ((aE c 1 / 192+(i:Int)) % 26)]⟩:Str)++Txt.slice (bP c) (some (d6 c+1)) (some (dy c))=bR c i:=by
    rw[sg];unfold bR;rw[Qc c1]
   rw[pe];refine⟨_,U,.inl ⟨U,_,SqL.of hl2⟩,_,U,bR c i,U,Yo,λH3 s3=>?_⟩;refine⟨l,_,_,U,U,s3 _ _ hl2,aR (m:=1000) (by rw[qc,jg];omega),?_⟩;refine⟨aa.over (s2.trans s3) hl,hi,?_,_,_,_,U⟩;rw[ag,oz,qY]
   rfl
  have c1:=dJ c1;refine⟨_,U,_,_,U,U,Yk,U,_,U,?_⟩;refine be (λc2=>?_) (λc2=>?_)
  .have c2:=dB c2;refine⟨_,U,_,U,_,_,U,U,⟨Yk,Yk⟩,_,U,_,_,U,U,_,_,U,U,Yk,_,_,U,U,_,U,bP c,U,bz,?_⟩
   have pe:Txt.slice (bP c) none (some (1+(aE c 1 / 24+(i:Int)) % 8))=bR c i:=by
    unfold bR;rw[Qb c1,Qc c2]
   rw[pe];refine⟨_,U,.inl ⟨U,_,SqL.of hl2⟩,_,U,bR c i,U,Yo,λH3 s3=>?_⟩;refine⟨l,_,_,U,U,s3 _ _ hl2,aR (m:=1000) (by rw[qc,jg];omega),?_⟩;refine⟨aa.over (s2.trans s3) hl,hi,?_,_,_,_,U⟩;rw[ag,oz,qY]
   rfl
  .have c2:=dJ c2;refine⟨_,U,_,U,_,U,_,_,U,U,c,_,U,Yo,Yo,_,7,U,Yk,Yk,?_⟩;have l7:(cO (aE c ((i:Int)+2)) (7:Int).toNat).length=7:=jo _ 7;refine⟨_,_,U,U,aR (m:=100) (by rw[sg,sl,l7];omega),?_⟩;refine⟨_,U,_,U,_,_,U,U,c,_,U,Yo,Yo,_,_,U,U,Yk,_,_,U,U,_,U,_,U,aR (m:=100) (by rw[ba,sg,sl,l7];omega),?_⟩
   have pe:Txt.slice ((⟨#[bX ((aE c 1 / 192+(i:Int)) % 26)]⟩:Str)++cO (aE c ((i:Int)+2)) (7:Int).toNat) none (some (1+aE c ((i:Int)+40) % 8))=bR c i:=by
    rw[sg];unfold bR;rw[Qb c1,Qb c2]
    rfl
   rw[pe];refine⟨_,U,.inl ⟨U,_,SqL.of hl2⟩,_,U,bR c i,U,Yo,λH3 s3=>?_⟩;refine⟨l,_,_,U,U,s3 _ _ hl2,aR (m:=1000) (by rw[qc,jg];omega),?_⟩;refine⟨aa.over (s2.trans s3) hl,hi,?_,_,_,_,U⟩;rw[ag,oz,qY]
   rfl
 .rintro Y H2 ⟨s2,_,hl2,v8,v9,v10,rfl⟩;have hln:(0:Int)+k.toNat=k:=Yo;refine⟨_,U,_,_,U,U,⟨Yk,Yk⟩,_,_,U,U,Yk,U,_,U,?_⟩;refine be (λcc=>?_) (λcc=>?_)
  .have cc:=dB cc;refine⟨_,U,l,_,U,SqL.of hl2,λr hr'=>?_⟩;refine q _ r (aa.over s2 (aa.none s2 hr')) (aa.none s2 hr') ?_;rw[ag];unfold d0;rw[Qc cc,List.map_reverse]
  .have cc:=dJ cc;refine⟨_,U,q _ l s2 hl ?_⟩;unfold d0;rw[Qb cc];exact hl2
theorem iD{l:List Str}(h:0<l.length)(i:Int):atI (l.map V.str) (i % ((l.map V.str).length:Int))=some (.str (nth l i)):=by
 have e:((l.map V.str).length:Int)=(l.length:Int):=by rw[qc]
 rw[e];have h1:0<=i % (l.length:Int):=Qk _ Yo;have h2:i % (l.length:Int)<l.length:=Qp _ Yo;have lt:(i % (l.length:Int)).toNat<l.length:=Yo;have:=cy (xs:=l.map V.str) (j:=(i % (l.length:Int)).toNat) (v:=.str (nth l i)) (by unfold nth;rw[qO,qv,qg lt];rfl)
 rwa [Int.toNat_of_nonneg h1]at this
theorem Aa(i:Int):atI ("+-*/<=&|^":Str).cps.toList (i % 9)=some (("+-*/<=&|^":Str).cps.toList.getD (i % 9).toNat 0):=by
 have h1:0<=i % 9:=Qk _ Yk;have h2:i % 9<9:=Qp _ Yk;have ln:("+-*/<=&|^":Str).cps.toList.length=9:=Yd;have lt:(i % 9).toNat<("+-*/<=&|^":Str).cps.toList.length:=Yo;have:=cy (xs:=("+-*/<=&|^":Str).cps.toList) (j:=(i % 9).toNat) (v:=("+-*/<=&|^":Str).cps.toList.getD (i % 9).toNat 0) (by rw[qv,qg lt];rfl)
 rwa [Int.toNat_of_nonneg h1]at this
theorem pf{n:Int}:∀{ks:List Int},inV (.int n) (ks.map V.int)=decide (n∈ks)
 |[]=>rfl
 |k::ks=>by
  show(eqV (.int k) (.int n) || inV (.int n) (ks.map V.int))=decide (n∈k::ks);rw[pf];show((k == n) || decide (n∈ks))=_;by_cases e:k=n
  .subst e;simp
  .have e':¬ n=k:=λz=>e z.symm;simp[e,e']
theorem p30:(10:Int) ^ (30:Int).toNat=1000000000000000000000000000000:=Yd
noncomputable def aV(n:Int)(names:List Str):Val:=if n / 14 / 125 % 4=0 then .num (n * n * n * 69621 % 1000000000000000000000000000000)else .nm (nth names (n / 14 / 5))
noncomputable def bV(n:Int)(names:List Str):Val:=if n / 14 / 500 % 3=0 then .num (n * n * 48271 % 1000000000000000000000000000000)else .nm (nth names (n / 14 / 25))
abbrev iE(n:Int):Prop:=n % 14=1\/n % 14=2\/n % 14=3\/n % 14=4\/n % 14=12\/n % 14=13
abbrev l8(n:Int):Prop:=n % 14=3\/n % 14=4\/n % 14=13
theorem vB{n:Int}:inV (.int (n % 14)) (([1,2,3,4,12,13]:List Int).map V.int)=true↔iE n:=by rw[pf];simp[iE]
theorem we{n:Int}:inV (.int (n % 14)) (([3,4,13]:List Int).map V.int)=true↔l8 n:=by rw[pf];simp[l8]
theorem zY{n:Int}{names rooms:List Str}{shut:Bool}(h:n % 14=6):bc n names rooms shut=.give (nth names (n / 14)):=by unfold bc;rw[Qc h]
theorem zX{n:Int}{names rooms:List Str}{shut:Bool}(h:iE n)(h2:0<rooms.length)(h3:shut=false):(l8 n->bc n names rooms shut=.get (nth rooms (n / 14 / 5)) (nth names (n / 14)))/\(¬ l8 n->bc n names rooms shut=.put (nth rooms (n / 14 / 5)) (nth names (n / 14))):=by
 have h6:¬ n % 14=6:=by unfold iE at h;omega
 unfold bc;rw[Qb h6,Qc ⟨h,h2,h3⟩];exact⟨λg=>by rw[Qc g],λg=>by rw[Qb g]⟩
theorem zT{n:Int}{names rooms:List Str}{shut:Bool}(h6:¬ n % 14=6)(h:¬ (iE n/\0<rooms.length/\shut=false)):bc n names rooms shut=.set (nth names (n / 14)) (aV n names) (iZ (n / 14 / 1500)) (bV n names):=by
 unfold bc;rw[Qb h6,Qb h]
 rfl
theorem D4(T:Tx P w K mg a):aB P w K mg base CX0 1 a.IN a.IO ["_law_number","_law_names","_law_rooms","_law_shut"] (t6 K):=by
 refine T.K3.ok fZ (λvs H Q E h=>?_) (λcdv A outer s H vs Q E hr h=>?_)
 .obtain⟨_,_,_,_,_,_,rfl,_⟩:=h
  rfl
 obtain⟨n,ln,lr,names,rooms,shut,rfl,hn,hro,n0,n1,r1,b0,b1,q⟩:=h
 refine⟨_,(ah (az (i:=4) fZ.nd U Oi (aq aZ (pq 0) ac))
  (ah (az (i:=5) fZ.nd U Oi (aq df (pq 0) ac))
  (ah (az (i:=6) fZ.nd U Oi (ao aY (pq 1) (aq aZ (pq 5) (aU ck U T.om Qi (a9 (pq 1) af))) Oy))
  (ah (aI (ay aM (pq 4) ac (au _)) (aj (ar (bF (a9 aP (a9 (pq 6) af))))) aO)
  (ah (aI (PW.pt (fg (ay iC (pq 4) (bF (kL U)) (by with_unfolding_all rfl)) (fg (ay gJ (aU ck U T.om Qi (a9 (pq 2) af)) ac (au _)) (gc (dg (cq (pq 3))))))) (aj (ar (bF (a9 (eI (ay iC (pq 4) (bF (kL U)) (by with_unfolding_all rfl)) aP aP) (a9 (ao aY (pq 2) (aq aZ (aq df (pq 5) ac) (aU ck U T.om Qi (a9 (pq 2) af))) Oy) (a9 (pq 6) af)))))) aO)
  (ah (az (i:=7) fZ.nd U Oi (ao aY (pq 1) (aq aZ (aq df (pq 5) ac) (aU ck U T.om Qi (a9 (pq 1) af))) Oy))
  (ah (az (i:=8) fZ.nd U Oi (ao aY (pq 1) (aq aZ (aq df (pq 5) ac) (aU ck U T.om Qi (a9 (pq 1) af))) Oy))
  (ah (aI (ay aM (aq aZ (aq df (pq 5) ac) ac) ac (au _)) (aj (az (i:=7) fZ.nd U Oi (aq aZ (aq dU (aq dU (aq dU (pq 0) (pq 0)) (pq 0)) ac) (aq kP ac ac)))) aO)
  (ah (aI (ay aM (aq aZ (aq df (pq 5) ac) ac) ac (au _)) (aj (az (i:=8) fZ.nd U Oi (aq aZ (aq dU (aq dU (pq 0) (pq 0)) ac) (aq kP ac ac)))) aO)
  (aj (ar (bF (a9 aP (a9 (pq 6) (a9 (pq 7) (a9 (ao jr aP (aq aZ (aq df (pq 5) ac) ac) Oy) (a9 (pq 8) af))))))))))))))))),?_⟩
 have nl:(names.map V.str).length=names.length:=qc _;have rl:(rooms.map V.str).length=rooms.length:=qc _
 have fin:∀(H1:Hp)(p:Addr)(xs:List V),aa H H1->H1 p=none->(∀H0:Hp,H0 p=some (.tup xs)->RD H0 (.ref p) (bc n names rooms shut))->Q (.ref p) (upd H1 p (.tup xs)):=λH1 p xs s1 hp hd=>
  q _ p xs (aa.over s1 (aa.none s1 hp)) (aa.none s1 hp) ag hd
 refine⟨_,U,_,_,U,U,Yk,?_⟩;refine⟨_,U,_,_,U,U,⟨Yk,Yk⟩,?_⟩;refine⟨_,U,_,U,_,U,ln,_,U,.inl hn,_,_,U,U,Yo,ln,_,_,_,U,U,hn,iD n0 _,?_⟩;refine⟨_,U,U,_,U,?_⟩;refine be (λc=>?_) (λc=>?_)
 .have c:=dB c;exact⟨_,U,ln2,λp hp=>fin H p _ (aa.refl H) hp λH0 h0=>by rw[zY c];exact .give h0⟩
 have c6:=dJ c;refine⟨_,U,(by show 6<=sizeLine;decide),λt ht=>?_⟩;refine⟨t,([1,2,3,4,12,13]:List Int).map V.int,U,.inr (SqT.of ag),U,U,_,U,?_⟩;have s1:aa H (upd H t (.tup (([1,2,3,4,12,13]:List Int).map V.int))):=aa.new ht _;have hn1:=s1.seq hn;have hr1:=s1.seq hro;refine kX (Pc:=¬ (iE n/\0<rooms.length/\shut=false)) (λc z=>c (vB.mpr z.1)) ?_ λc go=>?_
 .intro nm;refine iJ ?_;refine⟨_,U,_,U,_,_,U,U,⟨Yk,Yk⟩,_,U,ln,_,U,.inl hn1,_,_,U,U,Yo,ln,_,_,_,U,U,hn1,iD n0 _,?_⟩;refine⟨_,U,_,U,_,_,U,U,⟨Yk,Yk⟩,_,U,ln,_,U,.inl hn1,_,_,U,U,Yo,ln,_,_,_,U,U,hn1,iD n0 _,?_⟩;refine⟨_,U,_,_,U,U,⟨Yk,Yk⟩,_,_,U,U,Yk,U,_,U,?_⟩;have nb:Builtin.Int.intBits n<=64:=intBits_le_64 Yo Yo;have nn0:0<=n * n:=Int.mul_nonneg b0 b0;have nn1:n * n<=2147483648 * 2147483648:=Int.mul_le_mul Yo Yo b0 Yk;generalize hv0:V.str (nth names (n / 14 / 5))=v0;refine oW (P:=λv=>v=(aV n names).v) (w:=v0) (λc=>?_) ?_ λc go=>?_
  .rw[<- hv0];unfold aV;rw[Qb (dJ c)]
   rfl
  .rintro va rfl;refine⟨_,U,_,_,U,U,⟨Yk,Yk⟩,_,_,U,U,Yk,U,_,U,?_⟩;generalize hv1:V.str (nth names (n / 14 / 25))=v1;refine oW (P:=λv=>v=(bV n names).v) (w:=v1) (λc=>?_) ?_ λc go=>?_
   .rw[<- hv1];unfold bV;rw[Qb (dJ c)]
    rfl
   .rintro vb rfl;refine⟨_,U,_,U,_,U,_,_,U,U,⟨Yk,Yk⟩,_,_,U,U,Yk,_,_,_,U,U,Yd,Aa _,_,U,(by show 5<=sizeLine;decide),λp hp=>fin _ p _ s1 hp λH0 h0=>?_⟩;rw[zT c6 nm];exact .set h0
   .refine⟨_,U,_,U,_,_,U,U,IntMulOk.of_right nb,_,_,U,U,IntMulOk.of_right (intBits_le_64 Yk Yk),_,_,U,U,⟨Yk,Yk,Yk⟩,_,_,U,U,by rw[p30];decide,?_⟩;rw[p30];refine go _ ?_;unfold bV;rw[Qc (dB c)]
    rfl
  .refine⟨_,U,_,U,_,_,U,U,IntMulOk.of_right nb,_,U,_,_,U,U,IntMulOk.of_right nb,_,_,U,U,IntMulOk.of_right (intBits_le_64 Yk Yk),_,_,U,U,⟨Yk,Yk,Yk⟩,_,_,U,U,by rw[p30];decide,?_⟩;rw[p30];refine go _ ?_;unfold aV;rw[Qc (dB c)]
   rfl
 .have cm:=vB.mp c;refine⟨_,U,lr,_,U,.inl hr1,_,_,U,U,_,U,?_⟩;refine be (λc2=>?_) (λc2=>?_)
  .have c2:0<rooms.length:=by
    have:=Qn c2;rw[rl]at this;omega
   cases shut with
   |true=>
    refine⟨_,U,_,U,?_⟩;exact go λz=>nomatch z.2.2
   |false=>
    refine⟨_,U,_,U,?_⟩;refine oY ?_;have mv:=zX (names:=names) cm c2 (shut:=false) U;refine⟨_,U,(by show 3<=sizeLine;decide),λu hu=>?_⟩;refine⟨u,([3,4,13]:List Int).map V.int,U,.inr (SqT.of ag),U,U,_,U,?_⟩;have s2:aa H (upd (upd H t (.tup (([1,2,3,4,12,13]:List Int).map V.int))) u (.tup (([3,4,13]:List Int).map V.int))):=aa.over s1 (aa.none s1 hu);have hr2:=s2.seq hro;refine be (λc3=>?_) (λc3=>?_)
    .refine⟨_,U,_,U,_,_,U,U,⟨Yk,Yk⟩,_,U,lr,_,U,.inl hr2,_,_,U,U,Yo,lr,_,_,_,U,U,hr2,iD c2 _,_,U,ln3,λp hp=>fin _ p _ s2 hp λH0 h0=>?_⟩;rw[mv.1 (we.mp c3)];exact .get h0
    .refine⟨_,U,_,U,_,_,U,U,⟨Yk,Yk⟩,_,U,lr,_,U,.inl hr2,_,_,U,U,Yo,lr,_,_,_,U,U,hr2,iD c2 _,_,U,ln3,λp hp=>fin _ p _ s2 hp λH0 h0=>?_⟩;rw[mv.2 λg=>c3 (we.mpr g)];exact .put h0
  .exact go λz=>c2 (Qd (by rw[rl];have:=z.2.1;omega))
theorem D6(T:Tx P w K mg a):aB P w K mg base CX0 1 a.IP a.IQ ["_law_state","_law_number","_law_x","_law_most"] tq:=by
 refine T.K4.ok ee (λvs H Q E h=>?_) (λcdv A outer s H vs Q E hr h=>?_)
 .obtain⟨_,_,_,_,_,_,_,_,_,_,_,_,rfl,_⟩:=h
  rfl
 obtain⟨Hb,H0,S,s0,s1,s2,s3,x,r,n,most,nm,rfl,Z,hlen,hdl,n0,n1,m0,m1,t0,t1,q⟩:=h
 refine⟨_,(ah (az (i:=4) ee.nd U Oi (aq aZ (pq 1) ac))
  (ah (az (i:=5) ee.nd U Oi (aq df (pq 1) ac))
  (ah (az (i:=6) ee.nd U Oi (bq af))
  (ah (az (i:=7) ee.nd U Oi cr)
  (ah (az (i:=8) ee.nd U Oi bZ)
  (ah (az (i:=9) ee.nd U Oi ac)
  (ah (aI (ay aM (pq 4) ac (au _)) (ah (az (i:=7) ee.nd U Oi (bq af))
  (aj (bK (bY qk qG qH dE (ao aY (ao aY (pq 0) ac Oy) (dh dc ac) Oy) (a9 (bF (a9 aP (a9 (pq 2) (a9 (pq 6) (a9 (pq 7) af))))) af))))) (aj (aI (ay aM (pq 4) ac (au _)) (aj (bK (bY qk qG qH dE (ao aY (ao aY (pq 0) ac Oy) (dh dc ac) Oy) (a9 (bF (a9 aP (a9 (pq 2) (a9 (pq 6) af)))) af)))) (ah (az (i:=10) ee.nd U Oi (ao aY (ao aY (pq 0) ac Oy) (dh dc ac) Oy))
  (ah (az (i:=11) ee.nd U Oi (aq aZ (pq 5) ac))
  (ah (aI (ay gJ (pq 10) ac (au _)) (aj (az (i:=11) ee.nd U Oi (aq aZ (pq 5) (aq bU ac (aq df (pq 3) (pq 10)))))) aO)
  (ah (bK (bY qk qG qH dE (ao aY (ao aY (pq 0) ac Oy) (dh dc ac) Oy) (a9 (bF (a9 aP (a9 (pq 11) (a9 (pq 6) af)))) af)))
  (ah (az (i:=8) ee.nd U Oi (ao aY (ao aY (pq 0) ac Oy) (dh dc ac) Oy))
  (aj (az (i:=9) ee.nd U Oi (aq dU (pq 10) (pq 11))))))))))))
  (ah (bK (bY qk qG qH dE (ao aY (pq 0) ac Oy) (a9 (pq 6) af)))
  (ah (bK (bY qk qG qH dE (ao aY (pq 0) ac Oy) (a9 (pq 7) af)))
  (ah (bK (bY qk qG qH dE (ao aY (pq 0) ac Oy) (a9 (pq 8) af)))
  (aj (bK (bY qk qG qH dE (ao aY (pq 0) ac Oy) (a9 (pq 9) af)))))))))))))),?_⟩
 obtain⟨a1,a2,a3,a4,n01,n02,n03,n12,n13,n23⟩:=Z.ss;have cn:=Z.ne (gq (x:=x) (r:=r));obtain⟨x',r',vs,e1,hc,hds⟩:=Z.top;cases e1;have lv:vs.length<=1000:=by rw[hds.len];exact hdl
 have rlen:∀{β:Type}(f:Fz->β),(((x::r).map f).reverse).length<sizeLine:=λf=>by
  rw[List.length_reverse,qc];exact qN (Nat.lt_succ_of_le hlen) Yk
 have lvl:vs.length<sizeLine:=qN (Nat.lt_succ_of_le lv) Yk;refine⟨_,U,_,_,U,U,Yk,?_⟩;refine⟨_,U,_,_,U,U,⟨Yk,Yk⟩,?_⟩;refine⟨qD _,λli hli=>?_⟩;have lic:li≠x.c:=λe=>by rw[e,hc]at hli;cases hli
 have s1':aa H (upd H li (.lst [])):=aa.new hli _;refine⟨_,U,U,_,U,?_⟩;refine be (λc7=>?_) (λc7=>?_)
 .have c7:=dB c7;refine⟨qD _,λoe hoe=>?_⟩;have oel:oe≠li:=λe=>by rw[e,ag]at hoe;cases hoe
  have hoe':H oe=none:=aa.none s1' hoe;have oec:oe≠x.c:=λe=>by rw[e,hc]at hoe';cases hoe'
  have s2':aa H (upd (upd H li (.lst [])) oe (.lst [])):=aa.over s1' hoe';refine⟨_,U,S,_,_,_,U,U,SqL.of (s2' _ _ Z.cS),U,_,U,s0,_,_,_,U,U,SqL.of (s2' _ _ Z.c0),fP,.inl ⟨U,_,SqL.of (s2' _ _ hc)⟩,_,U,_,U,_,U,(by show 4<=sizeLine;decide),λp hp=>?_⟩;have hp':H p=none:=aa.none s2' hp;have s3':aa H (upd (upd (upd H li (.lst [])) oe (.lst [])) p (.tup [.str "if",.str nm,.ref li,.ref oe])):=aa.over s2' hp';have pli:p≠li:=λe=>by rw[e,ae (Ne.symm oel),ag]at hp;cases hp
  have poe:p≠oe:=λe=>by rw[e,ag]at hp;cases hp
  have pc:p≠x.c:=λe=>by rw[e,hc]at hp';cases hp'
  refine⟨x.c,_,_,U,U,s3' _ _ hc,lvl,?_⟩;have k4:∀b u,b≠x.c->H b=some u->(upd (upd (upd (upd H li (.lst [])) oe (.lst [])) p (.tup [.str "if",.str nm,.ref li,.ref oe])) x.c (.lst (vs++[.ref p]))) b=some u:=λb u hb h=>by rw[ae hb];exact s3' _ _ h
  have kc4:(upd (upd (upd (upd H li (.lst [])) oe (.lst [])) p (.tup [.str "if",.str nm,.ref li,.ref oe])) x.c (.lst (vs++[.ref p]))) x.c=some (.lst (vs++[.ref p])):=ag;have kp4:(upd (upd (upd (upd H li (.lst [])) oe (.lst [])) p (.tup [.str "if",.str nm,.ref li,.ref oe])) x.c (.lst (vs++[.ref p]))) p=some (.tup [.str "if",.str nm,.ref li,.ref oe]):=by rw[ae pc,ag]
  have km4:(upd (upd (upd (upd H li (.lst [])) oe (.lst [])) p (.tup [.str "if",.str nm,.ref li,.ref oe])) x.c (.lst (vs++[.ref p]))) li=some (.lst [])/\(upd (upd (upd (upd H li (.lst [])) oe (.lst [])) p (.tup [.str "if",.str nm,.ref li,.ref oe])) x.c (.lst (vs++[.ref p]))) oe=some (.lst []):=
   ⟨by rw[ae lic,ae (Ne.symm pli),ae (Ne.symm oel),ag],by rw[ae oec,ae (Ne.symm poe),ag]⟩
  generalize (upd (upd (upd (upd H li (.lst [])) oe (.lst [])) p (.tup [.str "if",.str nm,.ref li,.ref oe])) x.c (.lst (vs++[.ref p])))=H4 at k4 kc4 kp4 km4 ⊢;have cS4:=k4 _ _ cn.1 Z.cS;have c04:=k4 _ _ cn.2.1 Z.c0;have c14:=k4 _ _ cn.2.2.1 Z.c1;have c24:=k4 _ _ cn.2.2.2.1 Z.c2;have c34:=k4 _ _ cn.2.2.2.2 Z.c3;refine⟨_,U,S,_,_,_,U,U,SqL.of cS4,U,.inl ⟨U,_,SqL.of c04⟩,_,U,s0,_,_,U,U,c04,rlen _,?_⟩;generalize hH5:upd H4 s0 (.lst (((x::r).map λx=>V.ref x.c).reverse++[.ref li]))=H5;have cS5:H5 S=some (.lst [.ref s0,.ref s1,.ref s2,.ref s3]):=by rw[<- hH5,ae a1];exact cS4
  have c15:H5 s1=some (.lst (((x::r).map Fz.o).reverse)):=by rw[<- hH5,ae (Ne.symm n01)];exact c14
  have c25:H5 s2=some (.lst (((x::r).map λx=>V.bl x.f.shut).reverse)):=by rw[<- hH5,ae (Ne.symm n02)];exact c24
  have c35:H5 s3=some (.lst (((x::r).map λx=>V.int x.f.times).reverse)):=by rw[<- hH5,ae (Ne.symm n03)];exact c34
  refine⟨_,U,S,_,_,_,U,U,SqL.of cS5,U,.inl ⟨U,_,SqL.of c15⟩,_,U,s1,_,_,U,U,c15,rlen _,?_⟩;generalize hH6:upd H5 s1 (.lst (((x::r).map Fz.o).reverse++[.ref oe]))=H6;have cS6:H6 S=some (.lst [.ref s0,.ref s1,.ref s2,.ref s3]):=by rw[<- hH6,ae a2];exact cS5
  have c26:H6 s2=some (.lst (((x::r).map λx=>V.bl x.f.shut).reverse)):=by rw[<- hH6,ae (Ne.symm n12)];exact c25
  have c36:H6 s3=some (.lst (((x::r).map λx=>V.int x.f.times).reverse)):=by rw[<- hH6,ae (Ne.symm n13)];exact c35
  refine⟨_,U,S,_,_,_,U,U,SqL.of cS6,U,.inl ⟨U,_,SqL.of c26⟩,_,U,s2,_,_,U,U,c26,rlen _,?_⟩;generalize hH7:upd H6 s2 (.lst (((x::r).map λx=>V.bl x.f.shut).reverse++[.bl true]))=H7;have cS7:H7 S=some (.lst [.ref s0,.ref s1,.ref s2,.ref s3]):=by rw[<- hH7,ae a3];exact cS6
  have c37:H7 s3=some (.lst (((x::r).map λx=>V.int x.f.times).reverse)):=by rw[<- hH7,ae (Ne.symm n23)];exact c36
  refine⟨_,U,S,_,_,_,U,U,SqL.of cS7,U,.inl ⟨U,_,SqL.of c37⟩,_,U,s3,_,_,U,U,c37,rlen _,?_⟩;subst hH7 hH6 hH5;refine q _ ⟨⟨.ifT nm,[],true,0⟩,li,p,oe⟩ (oB (y:=⟨⟨.ifT nm,[],true,0⟩,li,p,oe⟩) Z hc k4 (λm hm=>?_) ?_ kp4 (by simp) (by simp) U kc4) ?_
  .simp[Fz.muts]at hm;rcases hm with rfl|rfl
   .exact⟨hli,km4.1⟩
   .exact⟨hoe',km4.2⟩
  .simp[Fz.muts];exact Ne.symm oel
  .unfold eZ;dsimp only;rw[Qc c7]
 have c7:=dJ c7;refine⟨_,U,U,_,U,?_⟩;refine be (λc8=>?_) (λc8=>?_)
 .have c8:=dB c8;refine⟨_,U,S,_,_,_,U,U,SqL.of (s1' _ _ Z.cS),U,_,U,s0,_,_,_,U,U,SqL.of (s1' _ _ Z.c0),fP,.inl ⟨U,_,SqL.of (s1' _ _ hc)⟩,_,U,_,U,(by show 3<=sizeLine;decide),λp hp=>?_⟩;have hp':H p=none:=aa.none s1' hp;have s3':aa H (upd (upd H li (.lst [])) p (.tup [.str "while",.str nm,.ref li])):=aa.over s1' hp';have pli:p≠li:=λe=>by rw[e,ag]at hp;cases hp
  have pc:p≠x.c:=λe=>by rw[e,hc]at hp';cases hp'
  refine⟨x.c,_,_,U,U,s3' _ _ hc,lvl,?_⟩;have k4:∀b u,b≠x.c->H b=some u->(upd (upd (upd H li (.lst [])) p (.tup [.str "while",.str nm,.ref li])) x.c (.lst (vs++[.ref p]))) b=some u:=λb u hb h=>by rw[ae hb];exact s3' _ _ h
  have kc4:(upd (upd (upd H li (.lst [])) p (.tup [.str "while",.str nm,.ref li])) x.c (.lst (vs++[.ref p]))) x.c=some (.lst (vs++[.ref p])):=ag;have kp4:(upd (upd (upd H li (.lst [])) p (.tup [.str "while",.str nm,.ref li])) x.c (.lst (vs++[.ref p]))) p=some (.tup [.str "while",.str nm,.ref li]):=by rw[ae pc,ag]
  have km4:(upd (upd (upd H li (.lst [])) p (.tup [.str "while",.str nm,.ref li])) x.c (.lst (vs++[.ref p]))) li=some (.lst []):=by rw[ae lic,ae (Ne.symm pli),ag]
  generalize (upd (upd (upd H li (.lst [])) p (.tup [.str "while",.str nm,.ref li])) x.c (.lst (vs++[.ref p])))=H4 at k4 kc4 kp4 km4 ⊢;have cS4:=k4 _ _ cn.1 Z.cS;have c04:=k4 _ _ cn.2.1 Z.c0;have c14:=k4 _ _ cn.2.2.1 Z.c1;have c24:=k4 _ _ cn.2.2.2.1 Z.c2;have c34:=k4 _ _ cn.2.2.2.2 Z.c3;refine⟨_,U,S,_,_,_,U,U,SqL.of cS4,U,.inl ⟨U,_,SqL.of c04⟩,_,U,s0,_,_,U,U,c04,rlen _,?_⟩;generalize hH5:upd H4 s0 (.lst (((x::r).map λx=>V.ref x.c).reverse++[.ref li]))=H5;have cS5:H5 S=some (.lst [.ref s0,.ref s1,.ref s2,.ref s3]):=by rw[<- hH5,ae a1];exact cS4
  have c15:H5 s1=some (.lst (((x::r).map Fz.o).reverse)):=by rw[<- hH5,ae (Ne.symm n01)];exact c14
  have c25:H5 s2=some (.lst (((x::r).map λx=>V.bl x.f.shut).reverse)):=by rw[<- hH5,ae (Ne.symm n02)];exact c24
  have c35:H5 s3=some (.lst (((x::r).map λx=>V.int x.f.times).reverse)):=by rw[<- hH5,ae (Ne.symm n03)];exact c34
  refine⟨_,U,S,_,_,_,U,U,SqL.of cS5,U,.inl ⟨U,_,SqL.of c15⟩,_,U,s1,_,_,U,U,c15,rlen _,?_⟩;generalize hH6:upd H5 s1 (.lst (((x::r).map Fz.o).reverse++[.non]))=H6;have cS6:H6 S=some (.lst [.ref s0,.ref s1,.ref s2,.ref s3]):=by rw[<- hH6,ae a2];exact cS5
  have c26:H6 s2=some (.lst (((x::r).map λx=>V.bl x.f.shut).reverse)):=by rw[<- hH6,ae (Ne.symm n12)];exact c25
  have c36:H6 s3=some (.lst (((x::r).map λx=>V.int x.f.times).reverse)):=by rw[<- hH6,ae (Ne.symm n13)];exact c35
  refine⟨_,U,S,_,_,_,U,U,SqL.of cS6,U,.inl ⟨U,_,SqL.of c26⟩,_,U,s2,_,_,U,U,c26,rlen _,?_⟩;generalize hH7:upd H6 s2 (.lst (((x::r).map λx=>V.bl x.f.shut).reverse++[.bl true]))=H7;have cS7:H7 S=some (.lst [.ref s0,.ref s1,.ref s2,.ref s3]):=by rw[<- hH7,ae a3];exact cS6
  have c37:H7 s3=some (.lst (((x::r).map λx=>V.int x.f.times).reverse)):=by rw[<- hH7,ae (Ne.symm n23)];exact c36
  refine⟨_,U,S,_,_,_,U,U,SqL.of cS7,U,.inl ⟨U,_,SqL.of c37⟩,_,U,s3,_,_,U,U,c37,rlen _,?_⟩;subst hH7 hH6 hH5;refine q _ ⟨⟨.whl nm,[],true,0⟩,li,p,li⟩ (oB (y:=⟨⟨.whl nm,[],true,0⟩,li,p,li⟩) Z hc k4 (λm hm=>?_) (by simp[Fz.muts]) kp4 (by simp) (by simp) U kc4) ?_
  .simp[Fz.muts]at hm;subst hm;exact⟨hli,km4⟩
  .unfold eZ;dsimp only;rw[Qb c7,Qc c8]
 have c8:=dJ c8;refine⟨_,U,S,_,_,_,U,U,SqL.of (s1' _ _ Z.cS),U,_,U,s3,_,_,_,U,U,SqL.of (s1' _ _ Z.c3),fP,?_⟩;refine⟨_,U,_,_,U,U,Yk,?_⟩;refine⟨_,U,_,_,U,U,_,U,?_⟩;generalize hm0:n / 70 % 100=mm;refine oW (P:=λm=>m=cw n most x.f.times) (w:=mm) (λcc=>?_) ?_ λcc go=>?_
 .rw[<- hm0];unfold cw;rw[Qb (λz=>cc (Qd z))]
 .rintro m rfl;refine⟨_,U,S,_,_,_,U,U,SqL.of (s1' _ _ Z.cS),U,_,U,s0,_,_,_,U,U,SqL.of (s1' _ _ Z.c0),fP,.inl ⟨U,_,SqL.of (s1' _ _ hc)⟩,_,U,_,U,(by show 3<=sizeLine;decide),λp hp=>?_⟩;have hp':H p=none:=aa.none s1' hp;have s3':aa H (upd (upd H li (.lst [])) p (.tup [.str "repeat",.int (cw n most x.f.times),.ref li])):=aa.over s1' hp';have pli:p≠li:=λe=>by rw[e,ag]at hp;cases hp
  have pc:p≠x.c:=λe=>by rw[e,hc]at hp';cases hp'
  refine⟨x.c,_,_,U,U,s3' _ _ hc,lvl,?_⟩;have k4:∀b u,b≠x.c->H b=some u->(upd (upd (upd H li (.lst [])) p (.tup [.str "repeat",.int (cw n most x.f.times),.ref li])) x.c (.lst (vs++[.ref p]))) b=some u:=λb u hb h=>by rw[ae hb];exact s3' _ _ h
  have kc4:(upd (upd (upd H li (.lst [])) p (.tup [.str "repeat",.int (cw n most x.f.times),.ref li])) x.c (.lst (vs++[.ref p]))) x.c=some (.lst (vs++[.ref p])):=ag;have kp4:(upd (upd (upd H li (.lst [])) p (.tup [.str "repeat",.int (cw n most x.f.times),.ref li])) x.c (.lst (vs++[.ref p]))) p=some (.tup [.str "repeat",.int (cw n most x.f.times),.ref li]):=by rw[ae pc,ag]
  have km4:(upd (upd (upd H li (.lst [])) p (.tup [.str "repeat",.int (cw n most x.f.times),.ref li])) x.c (.lst (vs++[.ref p]))) li=some (.lst []):=by rw[ae lic,ae (Ne.symm pli),ag]
  refine⟨_,U,S,_,_,_,U,U,SqL.of (k4 _ _ cn.1 Z.cS),U,_,U,s2,_,_,_,U,U,SqL.of (k4 _ _ cn.2.2.2.1 Z.c2),fP,?_⟩;refine⟨_,U,_,U,_,_,U,U,IntMulOk.of_left (intBits_le_64 Yo Yo),?_⟩;generalize (upd (upd (upd H li (.lst [])) p (.tup [.str "repeat",.int (cw n most x.f.times),.ref li])) x.c (.lst (vs++[.ref p])))=H4 at k4 kc4 kp4 km4 ⊢;have cS4:=k4 _ _ cn.1 Z.cS;have c04:=k4 _ _ cn.2.1 Z.c0;have c14:=k4 _ _ cn.2.2.1 Z.c1;have c24:=k4 _ _ cn.2.2.2.1 Z.c2;have c34:=k4 _ _ cn.2.2.2.2 Z.c3;refine⟨_,U,S,_,_,_,U,U,SqL.of cS4,U,.inl ⟨U,_,SqL.of c04⟩,_,U,s0,_,_,U,U,c04,rlen _,?_⟩;generalize hH5:upd H4 s0 (.lst (((x::r).map λx=>V.ref x.c).reverse++[.ref li]))=H5;have cS5:H5 S=some (.lst [.ref s0,.ref s1,.ref s2,.ref s3]):=by rw[<- hH5,ae a1];exact cS4
  have c15:H5 s1=some (.lst (((x::r).map Fz.o).reverse)):=by rw[<- hH5,ae (Ne.symm n01)];exact c14
  have c25:H5 s2=some (.lst (((x::r).map λx=>V.bl x.f.shut).reverse)):=by rw[<- hH5,ae (Ne.symm n02)];exact c24
  have c35:H5 s3=some (.lst (((x::r).map λx=>V.int x.f.times).reverse)):=by rw[<- hH5,ae (Ne.symm n03)];exact c34
  refine⟨_,U,S,_,_,_,U,U,SqL.of cS5,U,.inl ⟨U,_,SqL.of c15⟩,_,U,s1,_,_,U,U,c15,rlen _,?_⟩;generalize hH6:upd H5 s1 (.lst (((x::r).map Fz.o).reverse++[.non]))=H6;have cS6:H6 S=some (.lst [.ref s0,.ref s1,.ref s2,.ref s3]):=by rw[<- hH6,ae a2];exact cS5
  have c26:H6 s2=some (.lst (((x::r).map λx=>V.bl x.f.shut).reverse)):=by rw[<- hH6,ae (Ne.symm n12)];exact c25
  have c36:H6 s3=some (.lst (((x::r).map λx=>V.int x.f.times).reverse)):=by rw[<- hH6,ae (Ne.symm n13)];exact c35
  refine⟨_,U,S,_,_,_,U,U,SqL.of cS6,U,.inl ⟨U,_,SqL.of c26⟩,_,U,s2,_,_,U,U,c26,rlen _,?_⟩;generalize hH7:upd H6 s2 (.lst (((x::r).map λx=>V.bl x.f.shut).reverse++[.bl x.f.shut]))=H7;have cS7:H7 S=some (.lst [.ref s0,.ref s1,.ref s2,.ref s3]):=by rw[<- hH7,ae a3];exact cS6
  have c37:H7 s3=some (.lst (((x::r).map λx=>V.int x.f.times).reverse)):=by rw[<- hH7,ae (Ne.symm n23)];exact c36
  refine⟨_,U,S,_,_,_,U,U,SqL.of cS7,U,.inl ⟨U,_,SqL.of c37⟩,_,U,s3,_,_,U,U,c37,rlen _,?_⟩;subst hH7 hH6 hH5;refine q _ ⟨⟨.rep (cw n most x.f.times),[],x.f.shut,x.f.times * cw n most x.f.times⟩,li,p,li⟩ (oB (y:=⟨⟨.rep (cw n most x.f.times),[],x.f.shut,x.f.times * cw n most x.f.times⟩,li,p,li⟩) Z hc k4 (λm hm=>?_) (by simp[Fz.muts]) kp4 (by simp) (by simp) U kc4) ?_
  .simp[Fz.muts]at hm;subst hm;exact⟨hli,km4⟩
  .unfold eZ;dsimp only;rw[Qb c7,Qb c8]
 .have tp:0<x.f.times:=Qn cc;refine⟨_,U,_,U,_,U,_,_,U,U,⟨tp,Yo⟩,_,_,U,U,_,_,U,U,?_,?_⟩
  .have:=Int.ediv_nonneg m0 t0;omega
  .refine go _ ?_;unfold cw;rw[Qc tp]
abbrev c1P(low n most:Int)(len:Nat)(shut:Bool):Prop:=low<=n % 14/\n % 14<=9/\len+1<=12/\(n % 14<9\/0<most\/shut=true)
theorem Da(T:Tx P w K mg a):aB P w K mg base CX0 2 a.IR a.IS ["_law_cells","_law_names","_law_rooms","_law_most","_law_low"] (tG K):=by
 refine T.K5.ok gD (λvs H Q E h=>?_) (λcdv A outer s H vs Q E hr h=>?_)
 .obtain⟨_,_,_,_,_,_,_,_,rfl,_⟩:=h
  rfl
 obtain⟨lc,ln,lr,cells,names,rooms,most,low,rfl,hcl,hnm,hrm,lc1,nm0,nm1,rm1,m0,m1,q⟩:=h
 refine⟨_,(ah (az (i:=5) gD.nd U Oi (bq af))
  (ah (az (i:=6) gD.nd U Oi (bq (a9 (bq (a9 (pq 5) af)) (a9 (bq (a9 cr af)) (a9 (bq (a9 bZ af)) (a9 (bq (a9 ac af)) af))))))
  (ah (cM PassesOwn.never U (cD (pq 0)) (aW (i:=7) gD.nd U Oi)
  (ah (az (i:=8) gD.nd U Oi (aK (fj T) (hr.mono Yk) U T.wT T.wP.kp T.wS .nil aA (a9 (pq 7) (a9 ac af))))
  (ah (az (i:=9) gD.nd U Oi (aq aZ (pq 8) ac))
  (aj (aI (PW.pt (fg (BI ij ij (pq 4) (pq 9) ac) (fg (ay ij (aU ck U T.om Qi (a9 (ao aY (pq 6) ac Oy) af)) ac (au _)) (gc (PW.pt (dF (ay kD (pq 9) ac (au _)) (dF (ay gJ (pq 3) ac (au _)) (eU (cq (ao aY (ao aY (pq 6) ac Oy) (dh dc ac) Oy)))))))))) (aj (bK (aK (D6 T) (hr.mono Yk) U T.Lw T.K4.kp T.Lv .nil aA (a9 (pq 6) (a9 (pq 8) (a9 (ao aY (pq 1) (aq aZ (aq df (pq 8) ac) (aU ck U T.om Qi (a9 (pq 1) af))) Oy) (a9 (pq 3) af))))))) (aj (aI (PW.pt (fg (ay aM (pq 9) ac (au _)) (gc (ay kC (ao aY (ao aY (pq 6) ac Oy) (dh dc ac) Oy) cr (au _))))) (ah (oy (ao aY (ao aY (pq 6) ac Oy) (dh dc ac) Oy) (uR (ao aY (pq 6) ac Oy) (dh dc ac) u6))
  (aj (oy cr (uR (ao aY (pq 6) ac Oy) (dh dc ac) u6)))) (aj (aI (PW.pt (fg (ay nZ (pq 9) ac (au _)) (gc (ay gJ (aU ck U T.om Qi (a9 (ao aY (pq 6) ac Oy) af)) ac (au _))))) (aj (cM PassesOwn.never U (cD (pq 6)) (aW (i:=10) gD.nd U Oi)
  (aj (bK (Ce qk PySem.F.slot_list_pop PySem.F.type_list_pop DK (pq 10)))))) (aj (bK (bY qk qG qH dE (ao aY (ao aY (pq 6) ac Oy) (dh dc ac) Oy) (a9 (aK (D4 T) (hr.mono Yk) U T.Lu T.K3.kp T.Ls .nil aA (a9 (pq 8) (a9 (pq 1) (a9 (pq 2) (a9 (ao aY (ao aY (pq 6) ac Oy) (dh dc ac) Oy) af))))) af)))))))))))))
  (aj (ar (pq 5)))))),?_⟩
 refine⟨qD _,λb hb=>?_⟩;refine⟨_,U,ln1,λs0 h0=>⟨ln1,λs1 h1=>⟨ln1,λs2 h2=>⟨ln1,λs3 h3=>⟨(by show 4<=sizeLine;decide),λS hS=>?_⟩⟩⟩⟩⟩;have sb:aa H (upd H b (.lst [])):=aa.new hb _;have g0:=aa.none sb h0;have ss0:aa H (upd (upd H b (.lst [])) s0 (.lst [.ref b])):=aa.over sb g0;have g1:=aa.none ss0 h1;have ss1:aa H (upd (upd (upd H b (.lst [])) s0 (.lst [.ref b])) s1 (.lst [.non])):=aa.over ss0 g1;have g2:=aa.none ss1 h2;have ss2:aa H (upd (upd (upd (upd H b (.lst [])) s0 (.lst [.ref b])) s1 (.lst [.non])) s2 (.lst [.bl false])):=aa.over ss1 g2;have g3:=aa.none ss2 h3;have ss3:aa H (upd (upd (upd (upd (upd H b (.lst [])) s0 (.lst [.ref b])) s1 (.lst [.non])) s2 (.lst [.bl false])) s3 (.lst [.int 1])):=aa.over ss2 g3;have gS:=aa.none ss3 hS;have ne:∀{X:Hp}{u v:Addr}{o:HO},(upd X u o) v=none->v≠u:=λh e=>by rw[e,ag]at h;cases h
 have e0b:=ne h0;have e10:=ne h1;have e1b:s1≠b:=ne (by rw[ae e10]at h1;exact h1);have e21:=ne h2;have h2':(upd (upd H b (.lst [])) s0 (.lst [.ref b])) s2=none:=by rw[ae e21]at h2;exact h2
 have e20:=ne h2';have e2b:s2≠b:=ne (by rw[ae e20]at h2';exact h2');have e32:=ne h3;have h3':(upd (upd (upd H b (.lst [])) s0 (.lst [.ref b])) s1 (.lst [.non])) s3=none:=by rw[ae e32]at h3;exact h3
 have e31:=ne h3';have h3'':(upd (upd H b (.lst [])) s0 (.lst [.ref b])) s3=none:=by rw[ae e31]at h3';exact h3'
 have e30:=ne h3'';have e3b:s3≠b:=ne (by rw[ae e30]at h3'';exact h3'');have eS3:=ne hS;have hS':(upd (upd (upd (upd H b (.lst [])) s0 (.lst [.ref b])) s1 (.lst [.non])) s2 (.lst [.bl false])) S=none:=by rw[ae eS3]at hS;exact hS
 have eS2:=ne hS';have hS2:(upd (upd (upd H b (.lst [])) s0 (.lst [.ref b])) s1 (.lst [.non])) S=none:=by rw[ae eS2]at hS';exact hS'
 have eS1:=ne hS2;have hS1:(upd (upd H b (.lst [])) s0 (.lst [.ref b])) S=none:=by rw[ae eS1]at hS2;exact hS2
 have eS0:=ne hS1;have eSb:S≠b:=ne (by rw[ae eS0]at hS1;exact hS1)
 have Z0:ZI H H (upd (upd (upd (upd (upd (upd H b (.lst [])) s0 (.lst [.ref b])) s1 (.lst [.non])) s2 (.lst [.bl false])) s3 (.lst [.int 1])) S (.lst [.ref s0,.ref s1,.ref s2,.ref s3])) S s0 s1 s2 s3 [⟨⟨.root,[],false,1⟩,b,b,b⟩]:=by
  refine{ hb:=aa.refl H,h0:=aa.over ss3 gS,fz:=?_,nd:=?_,cS:=ag,c0:=?_,c1:=?_,c2:=?_,c3:=?_,zr:=?_ }
  .intro m hm;simp[bf,Fz.muts]at hm;rcases hm with rfl|rfl|rfl|rfl|rfl|rfl<;>assumption
  .simp[bf,Fz.muts];exact⟨⟨eS0,eS1,eS2,eS3,eSb⟩,⟨Ne.symm e10,Ne.symm e20,Ne.symm e30,e0b⟩,⟨Ne.symm e21,Ne.symm e31,e1b⟩,⟨Ne.symm e32,e2b⟩,e3b⟩
  .rw[ae (Ne.symm eS0),ae (Ne.symm e30),ae (Ne.symm e20),ae (Ne.symm e10),ag];rfl
  .rw[ae (Ne.symm eS1),ae (Ne.symm e31),ae (Ne.symm e21),ag];rfl
  .rw[ae (Ne.symm eS2),ae (Ne.symm e32),ag];rfl
  .rw[ae (Ne.symm eS3),ag];rfl
  .refine⟨⟨[],?_,.nil⟩,trivial,.inl ⟨U,U⟩⟩;show _=some (HO.lst ([]++[]));rw[ae (Ne.symm eSb),ae (Ne.symm e3b),ae (Ne.symm e2b),ae (Ne.symm e1b),ae (Ne.symm e0b),ag]
   rfl
 generalize upd (upd (upd (upd (upd (upd H b (.lst [])) s0 (.lst [.ref b])) s1 (.lst [.non])) s2 (.lst [.bl false])) s3 (.lst [.int 1])) S (.lst [.ref s0,.ref s1,.ref s2,.ref s3])=H1 at Z0 ⊢;refine⟨_,U,lc,U,⟨_,Z0.hbH.seq hcl⟩,?_⟩;have lcm:(cells.map V.int).length=cells.length:=qc _
 refine eD (K:=K) (a:=lc) (xs:=cells.map V.int) (λi Y H2=>∃(H0:Hp)(z:List Fz)(v7 v8 v9 v10:Option V),Y=[some (.ref lc),some (.ref ln),some (.ref lr),some (.int most),some (.int low),some (.ref b),some (.ref S),v7,v8,v9,v10]/\ZI H H0 H2 S s0 s1 s2 s3 z/\z.map (·.f)=cC names rooms most low (cells.take i)/\jz z=b)
  ⟨H,_,_,_,_,_,U,Z0,U,U⟩ ?_ ?_ ?_
 .rintro i Y H2 _ ⟨H0,z,v7,v8,v9,v10,_,Z,_⟩;exact Z.hbH.seq hcl
 .rintro i cv Y H2 hci ⟨H0,z,v7,v8,v9,v10,rfl,Z,hz,hbt⟩;rw[qO]at hci;obtain⟨c,hc,rfl⟩:=qZ.mp hci
  have hi:i<cells.length:=by
   rcases Nat.lt_or_ge i cells.length with h|h
   .exact h
   .rw[QA h]at hc;cases hc
  obtain⟨x,r,vs,rfl,hx,hrd⟩:=Z.top;obtain⟨ok1,ok2,ok3⟩:=jW (names:=names) (rooms:=rooms) (most:=most) (low:=low) nm0 (cells.take i) st0 ⟨U,by simp[st0,cards,ai],by simp[st0,aH]⟩ (by simp[st0]);have tok:=sD (names:=names) (rooms:=rooms) (most:=most) (low:=low) m0 m1 (cells.take i) st0 (by intro f hf;simp[st0]at hf;subst hf;exact⟨Yk,Yk⟩);have hz':(cells.take i).foldl (λst c=>bx names rooms most low st (aE c 1)) st0=x.f::r.map (·.f):=hz.symm;rw[hz']at ok1 ok2 ok3 tok;have zl:(x::r).length<=13:=by simpa using ok2
  have cn0:cnt st0=0:=U
  have dl:x.f.ds.length<=1000:=by
   have:=yt (f:=x.f) (r:=r.map (·.f));rw[qU]at ok3;omega
  have tx:=tok x.f qy;have n0:=jm c 1;have n1:=vE c 1;have nxt:cC names rooms most low (cells.take (i+1))=bx names rooms most low (x.f::r.map (·.f)) (aE c 1):=by rw[zu hc,<- hz];rfl
  rw[nxt];have rml:(r.map (·.f)).length=r.length:=qc _;have hn2:=Z.hbH.seq hnm;have hr2:=Z.hbH.seq hrm;refine⟨_,U,c,1,U,Yk,Yk,?_⟩;generalize aE c 1=n at n0 n1 ⊢;refine⟨_,U,_,_,U,U,Yk,?_⟩;have k0:0<=n % 14:=Qk _ Yk;have l0:((((x::r).map λx=>V.ref x.c).reverse).length:Int)=(r.length:Int)+1:=by simp
  refine⟨_,U,_,U,_,_,U,U,_,U,?_⟩;refine kX (Pc:=¬ c1P low n most r.length x.f.shut) (λcc z=>cc (Qd z.1)) ?_ λcc go=>?_
  .intro nc;refine⟨_,U,iJ ?_⟩
   try refine iJ ?_
   refine⟨_,U,U,_,U,?_⟩;refine kX (Pc:=(if n % 14=10 then x.f.op.ifT? else none)=none) (λcc=>by rw[Qb (dJ cc)]) ?_ λcc go=>?_
   .intro ne;refine iJ ?_;refine⟨_,U,_,_,U,U,_,U,?_⟩;refine kX (Pc:=¬ (10<=n % 14/\0<r.length)) (λcc z=>cc (Qd z.1)) ?_ λcc go=>?_
    .intro nx;refine iJ ?_;refine⟨_,U,S,_,_,_,U,U,SqL.of Z.cS,U,_,U,s0,_,_,_,U,U,SqL.of Z.c0,fP,.inl ⟨U,_,SqL.of hx⟩,_,U,_,U,_,U,_,U,S,_,_,_,U,U,SqL.of Z.cS,U,_,U,s2,_,_,_,U,U,SqL.of Z.c2,fP,?_⟩;refine⟨n,ln,lr,names,rooms,x.f.shut,U,hn2,hr2,nm0,nm1,rm1,n0,Yo,λH3 p xs s3' hp hp3 hrd3=>?_⟩;have Z3:=Z.same s3';have p0:H0 p=none:=aa.none Z.h0 hp;refine⟨x.c,_,_,U,U,s3' _ _ hx,qN (Nat.lt_succ_of_le (by rw[hrd.len];exact dl)) Yk,?_⟩;refine⟨_,_,_,_,_,_,U,Z3.push (s3' _ _ hx) hp3 p0 (hrd3 _ ag),?_,?_⟩
     .unfold bx;dsimp only;rw[rml,Qb nc,ne,Qb nx]
      rfl
     .rw[<- hbt];exact xh U
    .have k10:=Qn cc;refine⟨_,U,S,_,_,_,U,U,SqL.of Z.cS,U,s0,_,U,.inl (SqL.of Z.c0),_,_,U,U,_,U,?_⟩;rw[l0];refine be (λcc=>?_) (λcc=>by have h:=go λz=>cc (Qd Yo);exact h);have r0:0<r.length:=by have:=Qn cc;omega
     cases r with
     |nil=>cases r0
     |cons g r=>
     obtain⟨q0,q1,q2,q3,n01,n02,n03,n12,n13,n23⟩:=Z.ss;have F:=λ(j:Nat)(H3:Hp)=>(j=0/\H3=H2);refine⟨_,U,S,U,⟨_,SqL.of Z.cS⟩,?_⟩;generalize hA1:upd H2 s0 (.lst (((g::r).map λx=>V.ref x.c).reverse))=A1;generalize hA2:upd A1 s1 (.lst (((g::r).map Fz.o).reverse))=A2;generalize hA3:upd A2 s2 (.lst (((g::r).map λx=>V.bl x.f.shut).reverse))=A3;generalize hA4:upd A3 s3 (.lst (((g::r).map λx=>V.int x.f.times).reverse))=A4;have cS1:A1 S=some (.lst [.ref s0,.ref s1,.ref s2,.ref s3]):=by rw[<- hA1,ae q0];exact Z.cS
     have cS2:A2 S=some (.lst [.ref s0,.ref s1,.ref s2,.ref s3]):=by rw[<- hA2,ae q1];exact cS1
     have cS3:A3 S=some (.lst [.ref s0,.ref s1,.ref s2,.ref s3]):=by rw[<- hA3,ae q2];exact cS2
     have cS4:A4 S=some (.lst [.ref s0,.ref s1,.ref s2,.ref s3]):=by rw[<- hA4,ae q3];exact cS3
     have c11:A1 s1=some (.lst (((x::g::r).map Fz.o).reverse)):=by rw[<- hA1,ae (Ne.symm n01)];exact Z.c1
     have c22:A2 s2=some (.lst (((x::g::r).map λx=>V.bl x.f.shut).reverse)):=by rw[<- hA2,ae (Ne.symm n12),<- hA1,ae (Ne.symm n02)];exact Z.c2
     have c33:A3 s3=some (.lst (((x::g::r).map λx=>V.int x.f.times).reverse)):=by rw[<- hA3,ae (Ne.symm n23),<- hA2,ae (Ne.symm n13),<- hA1,ae (Ne.symm n03)];exact Z.c3
     refine eD (K:=K) (a:=S) (xs:=[.ref s0,.ref s1,.ref s2,.ref s3]) (λj Y H3=>(∃v10,Y=[some (.ref lc),some (.ref ln),some (.ref lr),some (.int most),some (.int low),some (.ref b),some (.ref S),some (.int c),some (.int n),some (.int (n % 14)),v10])/\((j=0/\H3=H2)\/(j=1/\H3=A1)\/(j=2/\H3=A2)\/(j=3/\H3=A3)\/(j=4/\H3=A4))) ⟨⟨_,U⟩,.inl ⟨U,U⟩⟩ ?_ ?_ ?_
     .rintro j Y H3 _ ⟨_,⟨_,rfl⟩|⟨_,rfl⟩|⟨_,rfl⟩|⟨_,rfl⟩|⟨_,rfl⟩⟩
      .exact SqL.of Z.cS
      .exact SqL.of cS1
      .exact SqL.of cS2
      .exact SqL.of cS3
      .exact SqL.of cS4
     .rintro j y Y H3 hy ⟨⟨v,rfl⟩,⟨rfl,rfl⟩|⟨rfl,rfl⟩|⟨rfl,rfl⟩|⟨rfl,rfl⟩|⟨rfl,rfl⟩⟩
      .simp at hy;subst hy;refine⟨_,U,.inl ⟨U,_,SqL.of Z.c0⟩,s0,_,_,U,U,Z.c0,kU,⟨_,U⟩,.inr (.inl ⟨U,?_⟩)⟩;rw[lg];exact hA1
      .simp at hy;subst hy;refine⟨_,U,.inl ⟨U,_,SqL.of c11⟩,s1,_,_,U,U,c11,kU,⟨_,U⟩,.inr (.inr (.inl ⟨U,?_⟩))⟩;rw[lg];exact hA2
      .simp at hy;subst hy;refine⟨_,U,.inl ⟨U,_,SqL.of c22⟩,s2,_,_,U,U,c22,kU,⟨_,U⟩,.inr (.inr (.inr (.inl ⟨U,?_⟩)))⟩;rw[lg];exact hA3
      .simp at hy;subst hy;refine⟨_,U,.inl ⟨U,_,SqL.of c33⟩,s3,_,_,U,U,c33,kU,⟨_,U⟩,.inr (.inr (.inr (.inr ⟨U,?_⟩)))⟩;rw[lg];exact hA4
      .simp at hy
     .rintro Y H3 ⟨⟨v,rfl⟩,hj⟩
      have e4:H3=A4:=by
       rcases hj with⟨j,_⟩|⟨j,_⟩|⟨j,_⟩|⟨j,_⟩|⟨_,e⟩
       .simp at j
       .simp at j
       .simp at j
       .simp at j
       .exact e
      subst e4
      obtain⟨H0',Z'⟩:=Z.closed (H':=H3) (λm u e1 e2 e3 e4 hm=>by rw[<- hA4,ae e4,<- hA3,ae e3,<- hA2,ae e2,<- hA1,ae e1];exact hm)
       (by rw[<- hA4,ae n03,<- hA3,ae n02,<- hA2,ae n01,<- hA1,ag]) (by rw[<- hA4,ae n13,<- hA3,ae n12,<- hA2,ag]) (by rw[<- hA4,ae n23,<- hA3,ag]) (by rw[<- hA4,ag])
      refine⟨H0',_,_,_,_,_,U,Z',?_,?_⟩
      .unfold bx;dsimp only;rw[rml,Qb nc,ne,Qc ⟨k10,r0⟩]
       rfl
      .rw[<- hbt];exact xh U
   .have c10:=dB cc;refine⟨_,U,S,_,_,_,U,U,SqL.of Z.cS,U,_,U,s1,_,_,_,U,U,SqL.of Z.c1,fP,U,_,U,?_⟩
    cases hop:x.f.op.ifT? with
    |none=>
     have xo:x.o=.non:=by unfold Fz.o;cases q:x.f.op<;>rw[q]at hop<;>first|rfl|cases hop
     rw[xo];have h:=go (by rw[Qc c10];exact hop);exact h
    |some nm'=>
     have q:x.f.op=.ifT nm':=by cases q:x.f.op<;>rw[q]at hop<;>simp[Op.ifT?]at hop;rw[hop]
     have xo:x.o=.ref x.e:=by unfold Fz.o;rw[q]
     rw[xo];refine aX (by simp) ?_;have c0':H2 s0=some (.lst ((r.map λx=>V.ref x.c).reverse++[.ref x.c])):=by rw[Z.c0];simp
     have c1':H2 s1=some (.lst ((r.map Fz.o).reverse++[.ref x.e])):=by rw[Z.c1,Q3,List.reverse_cons,xo]
     have sn:=Z.ss;refine⟨_,U,S,_,_,_,U,U,SqL.of Z.cS,U,_,U,s1,_,_,_,U,U,SqL.of c1',vT,_,U,S,_,_,_,U,U,SqL.of Z.cS,U,_,U,s0,_,_,_,U,U,c0',vW,?_⟩;rw[u7];have cS3:(upd H2 s0 (.lst ((r.map λx=>V.ref x.c).reverse++[.ref x.e]))) S=some (.lst [.ref s0,.ref s1,.ref s2,.ref s3]):=by rw[ae sn.1];exact Z.cS
     have c13:(upd H2 s0 (.lst ((r.map λx=>V.ref x.c).reverse++[.ref x.e]))) s1=some (.lst ((r.map Fz.o).reverse++[.ref x.e])):=by rw[ae (Ne.symm sn.2.2.2.2.1)];exact c1'
     refine⟨_,U,S,_,_,_,U,U,SqL.of cS3,U,_,U,s1,_,_,_,U,U,c13,vW,?_⟩;rw[u7];refine⟨_,_,_,_,_,_,U,Z.elsed q hx (λm u e1 e2 hm=>by rw[ae e2,ae e1];exact hm) (by rw[ae sn.2.2.2.2.1,ag]) ag,?_,?_⟩
     .unfold bx;dsimp only;rw[rml,Qb nc,Qc c10,hop]
      rfl
     .cases r with
      |nil=>have:=ok1.1;rw[q]at this;cases this
      |cons y r'=>exact hbt
  .have a1:=Qn cc;refine⟨_,_,U,U,_,U,?_⟩;refine be (λcc=>?_) (λcc=>by have h:=goB (Pc:=¬ c1P low n most r.length x.f.shut) go λz=>cc (Qd z.2.1);exact h);have a2:=Qn cc;refine⟨_,U,S,_,_,_,U,U,SqL.of Z.cS,U,s0,_,U,.inl (SqL.of Z.c0),_,_,U,U,_,U,?_⟩;rw[l0];refine be (λcc=>?_) (λcc=>by have h:=goB (Pc:=¬ c1P low n most r.length x.f.shut) go λz=>cc (Qd (by have:=z.2.2.1;omega));exact h);have a3:=Qn cc;refine⟨_,U,_,_,U,U,_,U,?_⟩;refine El (Pc:=n % 14<9\/0<most\/x.f.shut=true) (λcc=>.inl (Qn cc)) ?_ λcc yes=>?_
   .intro pc;refine oY ?_;refine⟨_,U,_,U,_,U,_,U,_,_,U,U,⟨Yk,Yk⟩,_,U,ln,_,U,.inl hn2,_,_,U,U,(by rw[qc];omega),ln,_,_,_,U,U,hn2,iD nm0 _,_,U,?_⟩;refine⟨H,H0,S,s0,s1,s2,s3,x,r,n,most,nth names (n / 14),U,Z,Yo,dl,n0,Yo,m0,m1,tx.1,Yo,λH' y Z' e=>?_⟩;refine⟨H0,y::x::r,_,_,_,_,U,Z',?_,hbt⟩;unfold bx;dsimp only;rw[rml,Qc ⟨a1,a2,Yo,pc⟩];exact e
   .have a4:¬ n % 14<9:=λz=>cc (Qd z);refine⟨_,U,_,_,U,U,_,U,?_⟩;refine be (λcc=>yes (.inr (.inl (Qn cc)))) (λcc=>?_);have a5:¬ 0<most:=λz=>cc (Qd z);refine⟨_,U,S,_,_,_,U,U,SqL.of Z.cS,U,_,U,s2,_,_,_,U,U,SqL.of Z.c2,fP,_,U,?_⟩
    cases hsh:x.f.shut with
    |true=>exact yes (.inr (.inr hsh))
    |false=>
     have h:=goB (Pc:=¬ c1P low n most r.length x.f.shut) go λz=>by
      rcases z.2.2.2 with z|z|z
      .exact a4 z
      .exact a5 z
      .rw[hsh]at z;cases z
     exact h
 .rintro Y H2 ⟨H0,z,v7,v8,v9,v10,rfl,Z,hz,hbt⟩;rw[lcm,qR]at hz;refine⟨_,U,q H2 b Z.hbH hb ?_⟩;have w:=Z.zr.whole Z.h0 (tl:=[]) (dt:=[]) .nil;rw[hbt,hz]at w
  have ne:cC names rooms most low cells≠[]:=by
   rw[<- hz];intro e;have:=Z.zr;rw[List.map_eq_nil_iff.mp e]at this;exact this
  unfold cY hZ;rw[i0 _ _ (by have:=List.length_pos_iff.mpr ne;omega)];exact w
theorem CZ(T:Tx P w K mg a):aB P w K mg base CX0 17 a.HF a.HG ["program"] sU:=by
 refine T.JG.ok kh (λvs H Q E h=>?_) (λcdv A outer s H vs Q E hr h=>?_)
 .obtain⟨_,_,_,_,_,_,_,_,_,rfl,_⟩:=h
  rfl
 obtain⟨p,la,ls,lb,asks,ss,ds,us,C,rfl,rp,hdp,hfl,ha,hs,hsl,hC,h64,hlen,k⟩:=h
 refine⟨_,(ah (az (i:=1) kh.nd U Oi (aq jb (aq jb (ao aD (pq 0) ac Oy) (aK (oC T) (hr.mono Yk) U T.Jf T.GX.kp T.Je .nil aA (a9 (ao aD (pq 0) ac Oy) af))) (bq (a9 (eJ U T.Jt T.r_OUTLET) af))))
  (ah (cM PassesOwn.never U (cD (ao aD (pq 0) ac Oy)) (iz U (dG (aW (i:=2) kh.nd U Oi) (dG (aW (i:=3) kh.nd U Oi) ix)))
  (aj (bK (bY qk Qz Qy gu (pq 1) (a9 (bq (a9 (aK (oE T) (hr.mono Yk) U T.Jh T.GY.kp T.Jg .nil aA (a9 (pq 2) af)) (a9 (aK (oH T) (hr.mono Yk) U T.Jj T.GZ.kp T.Ji .nil aA (a9 (pq 2) af)) af))) af)))))
  (aj (ar (aU (jy U) U T.Gx PyProof.Rows.Boot.«sorted» (a9 (eB (gX U) U T.Db PyProof.Rows.Boot.«set» (a9 (pq 1) af)) af)))))),?_⟩
 have hcC:∀q∈cards ds,q∈C:=λq hq=>hC q (by unfold eV;simp[hq]);refine⟨_,U,p,_,_,_,U,U,SqT.of rp.top,U,?_⟩;refine⟨_,U,p,_,_,_,U,U,SqT.of rp.top,U,H,lb,ds,C,U,aa.refl H,rp.bo,hdp,hfl,hcC,h64,hlen,λH1 l1 zs1 s1 n1 h1 nd1 hm1 so1=>?_⟩;have z64:zs1.length<64:=Nat.lt_of_le_of_lt (fD nd1 λq hq=>hcC q ((hm1 q).mp hq)) h64;refine⟨la,l1,_,_,U,U,SqL.of (s1 _ _ rp.as),SqL.of h1,aR (m:=3000) (by rw[qc,qc];omega),λp1 hp1=>?_⟩;refine⟨ln1,λp2 hp2=>?_⟩;refine⟨p1,p2,_,_,U,U,SqL.of (aa.new hp2 _ _ _ ag),SqL.of ag,aR (m:=3000) (by rw[qf,qc,qc,Qh];omega),λp3 hp3=>?_⟩;have s2:=s1.trans (aa.new hp1 (.lst (asks.map V.str++zs1.map V.str)));have s3:=s2.trans (aa.new hp2 (.lst [V.str (">":Str)]));have n3:=aa.none s3 hp3;have s4:aa H (upd (upd (upd H1 p1 (.lst (asks.map V.str++zs1.map V.str))) p2 (.lst [V.str (">":Str)])) p3 (.lst (asks.map V.str++zs1.map V.str++[V.str (">":Str)]))):=aa.over s3 n3;refine⟨_,U,p,_,_,_,U,U,SqT.of (s4 _ _ rp.top),U,ls,U,⟨_,SqL.of (s4 _ _ rp.st)⟩,?_⟩;have ul:=rp.ro.len
 have fl:∀i,((ss.take i).flatMap λs=>[s.1++(">":Str),s.1++("<":Str)]).length=2 * (ss.take i).length:=λi=>by
  induction ss.take i with
  |nil=>rfl
  |cons x r ih=>rw[qP,qf,ih,qL];simp;omega
 refine eD (K:=K) (a:=ls) (xs:=us) (λi Y H5=>∃v v',Y=[some (.ref p),some (.ref p3),v,v']/\aa H H5/\H5 p3=some (.lst ((asks++zs1++[(">":Str)]++(ss.take i).flatMap λs=>[s.1++(">":Str),s.1++("<":Str)]).map V.str))) ⟨_,_,U,s4,?_⟩ ?_ ?_ ?_
 .rw[ag];simp
 .rintro i Y H5 _ ⟨v,v',_,s5,h5⟩;exact SqL.of (s5 _ _ rp.st)
 .rintro i x Y H5 hx ⟨v,v',rfl,s5,h5⟩;obtain⟨px,q,n,rfl,hi,hpx⟩:=rp.ro.at i x hx;have qm:q.length<=1000:=hsl _ (qK hi);refine⟨px,_,U,SqT.of (s5 _ _ hpx),U,_,_,U,_,_,U,U,?_⟩;refine⟨_,U,.inl ⟨U,_,SqL.of h5⟩,_,U,q,U,qm,_,U,q,U,qm,ln2,λp4 hp4=>?_⟩;have lt:(ss.take i).length<=100:=by rw[qU];omega
  refine⟨p3,p4,_,_,U,U,aa.new hp4 _ _ _ h5,ag,aR (m:=3000) ?_,?_⟩
  .rw[qc,qf,fl,qf,qf];simp;omega
  refine⟨_,_,U,aa.over (s5.trans (aa.new hp4 _)) n3,?_⟩;rw[ag,qC,hi];simp
 .rintro Y H5 ⟨v,v',rfl,s5,h5⟩;rw[ul,qR]at h5;have f1:=fl ss.length;rw[qR]at f1
  have mm:∀x,x∈asks++zs1++[(">":Str)]++(ss.flatMap λs=>[s.1++(">":Str),s.1++("<":Str)])↔x∈eV asks ss ds:=λx=>by
   unfold eV;simp only[qp,hm1 x]
  refine⟨_,U,p3,_,U,SqL.of h5,?_,λp6 hp6=>?_⟩
  .rw[qf,f1,qf,qf,Qh];omega
  refine⟨p6,_,C,U,ag,λx hx=>hC x ((mm x).mp hx),h64,λr zs hr' nd hm so=>?_⟩;have s6:aa H5 (upd H5 p6 (bL P w p6 (asks++zs1++[(">":Str)]++(ss.flatMap λs=>[s.1++(">":Str),s.1++("<":Str)])))):=aa.new hp6 _;exact k _ r zs ((s5.trans s6).trans (aa.new hr' _)) ag nd (λx=>(hm x).trans (mm x)) so
theorem CP(T:Tx P w K mg a):aB P w K mg base CX0 2 a.Hv a.Hw ["deed"] sM:=by
 refine T.JE.ok An (λvs H Q E h=>?_) (λcdv A outer s H vs Q E hr h=>?_)
 .obtain⟨_,_,_,_,_,_,_,rfl,_⟩:=h
  rfl
 obtain⟨H0,p,x,sg,va,vb,C,rfl,e0,h,c1,h64,k⟩:=h;refine⟨_,(aj (ar (aU (jy U) U T.Gx PyProof.Rows.Boot.«sorted» (a9 (aq Cj (eB (gX U) U T.Db PyProof.Rows.Boot.«set» (a9 (aK (oG T) (hr.mono Yk) U T.Jd T.GW.kp T.Jc .nil aA (a9 (pq 0) af)) af)) (eB (gX U) U T.Db PyProof.Rows.Boot.«set» (a9 (bq (a9 (ao aD (pq 0) ac Oy) af)) af))) af)))),?_⟩;refine⟨_,U,H0,_,_,U,e0,.set h,λH1 l1 s1 n1 h1=>?_⟩;have nf:(a8.set x va sg vb).names.length<4:=by cases va<;>cases vb<;>simp[a8.names,Val.names]
 refine⟨l1,_,U,SqL.of h1,Yo,λp2 hp2=>?_⟩;have s2:=s1.trans (aa.new hp2 (bL P w p2 (a8.set x va sg vb).names));refine⟨_,U,_,_,_,_,U,U,SqT.of (s2 _ _ (e0 _ _ h)),U,ln1,λp3 hp3=>?_⟩;have s3:=s2.trans (aa.new hp3 (.lst [V.str x]));refine⟨p3,[x],U,SqL.of ag,by simp,λp4 hp4=>?_⟩;have s34:=(aa.new hp3 (.lst [V.str x])).trans (aa.new hp4 (bL P w p4 [x]));have s4:=s2.trans s34;refine⟨p2,p4,_,_,U,U,s34 _ _ ag,ag,nf,λp5 hp5=>?_⟩;have s5:=s4.trans (aa.new hp5 (bL P w p5 ((a8.set x va sg vb).names.filter λk=>!decide (k∈[x]))));refine⟨p5,_,C,U,ag,λq hq=>c1 q (List.mem_filter.mp hq).1,h64,λp6 zs hp6 nd hm so=>?_⟩;have ez:zs=nV x va vb:=jX nd (λq=>(hm q).trans (by simp[a8.names])) so;subst ez;exact k _ _ (s5.trans (aa.new hp6 _)) ag
theorem oF(T:Tx P w K mg a):aB P w K mg base CX0 1 a.HR a.HS ["kind","cards"] lP:=by
 refine T.Hd.ok Ap (λvs H Q E h=>?_) (λcdv A outer s H vs Q E hr h=>?_)
 .obtain⟨_,_,_,rfl,_⟩:=h
  rfl
 obtain⟨kd,l,zs,rfl,hl,k⟩:=h;refine⟨_,(aj (ar (bF (a9 (pq 0) (a9 (eB pM U T.GE PyProof.Rows.Boot.«tuple» (a9 (pq 1) af)) (a9 (bF af) (a9 cr (a9 cr af)))))))),?_⟩;refine⟨_,U,_,U,l,_,U,.inl ⟨SqL.of hl,λpo hpo=>?_⟩⟩;refine⟨qD _,λpr hpr=>⟨ln5,λp hp=>?_⟩⟩;have s1:aa H (upd H po (.tup (zs.map V.str))):=aa.new hpo _;have s2:=aa.new hpr (.tup []);exact k _ _ ((s1.trans s2).trans (aa.new hp _)) (cR.new (r:=⟨kd,zs,[],none,none⟩) (s2 _ _ ag) ag hp)
theorem CK(T:Tx P w K mg a):aB P w K mg base CX0 17 a.HP a.HQ ["deed"] sJ:=by
 refine T.JN.ok ua (λvs H Q E h=>?_) (λcdv A outer s H vs Q E hr h=>?_)
 .obtain⟨_,_,_,_,rfl,_⟩:=h
  rfl
 obtain⟨H0,v,d,C,rfl,e0,hd,hdp,hfl,hC,h64,hlen,hnr,k⟩:=h
 refine⟨_,(ah (az (i:=1) ua.nd U Oi (ao aD (pq 0) ac Oy))
  (ah (aI (ay aM (pq 1) aP (au _)) (aj (ar (bF (a9 aP (a9 (bF (a9 (ao aD (pq 0) ac Oy) af)) (a9 (eB pM U T.GE PyProof.Rows.Boot.«tuple» (a9 (aK (CP T) (hr.mono Yk) U T.Kw T.JE.kp T.Kv .nil aA (a9 (pq 0) af)) af)) (a9 cr (a9 cr af)))))))) aO)
  (ah (aI (ay aM (pq 1) aP (au _)) (aj (ar (bF (a9 aP (a9 (bF (a9 (aK (oE T) (hr.mono Yk) U T.Jh T.GY.kp T.Jg .nil aA (a9 (ao aD (pq 0) ac Oy) af)) af)) (a9 (bF (a9 (ao aD (pq 0) ac Oy) af)) (a9 (ao aD (pq 0) ac Oy) (a9 cr af)))))))) aO)
  (ah (aI (ay aM (pq 1) aP (au _)) (aj (ar (bF (a9 aP (a9 (eB pM U T.GE PyProof.Rows.Boot.«tuple» (a9 (aU (FJ U) U T.Gx PyProof.Rows.Boot.«sorted» (a9 (bq (a9 (ao aD (pq 0) ac Oy) (a9 (aK (oH T) (hr.mono Yk) U T.Jj T.GZ.kp T.Ji .nil aA (a9 (ao aD (pq 0) ac Oy) af)) af))) af)) af)) (a9 (bF af) (a9 cr (a9 (ao aD (pq 0) ac Oy) af)))))))) aO)
  (ah (aI (ay aM (pq 1) aP (au _)) (aj (ar (bF (a9 aP (a9 (bF (a9 (eJ U T.Jt T.r_OUTLET) af)) (a9 (bF (a9 (ao aD (pq 0) ac Oy) af)) (a9 cr (a9 cr af)))))))) aO)
  (aj (ar (aK (oF T) (hr.mono Yk) U T.Jm T.Hd.kp T.Jl .nil aA (a9 (pq 1) (a9 (aK (oC T) (hr.mono Yk) U T.Jf T.GX.kp T.Je .nil aA (a9 (bq (a9 (pq 0) af)) af)) af)))))))))),?_⟩
 have c1:∀q∈d.cards,q∈C:=λq hq=>hC q (by
  unfold cards;rw[ai,ai,qI,fB]
  exact List.mem_flatMap.mpr ⟨d,qy,hq⟩)
 have bC:∀q z:Str,q++z∈d.others->q.length<=1000:=λq z hq=>by
  have:=hlen _ (c1 _ (qS _ hq));rw[ba]at this;omega
 have dp:aH [d]<=12:=by simp only[aH];omega
 have fl:(ai [d]).length<=1300:=by rw[ai,ai,qI];exact hfl
 have own:∀(H1:Hp)(kd:Str),aa H H1->∀p,H1 p=none->bu d=⟨kd,srt (cards [d]),[],none,none⟩->RD H0 v d->lO [.ref p] (upd H1 p (.lst [v])) (λu H2=>lP [.str kd,u] H2 Q E0) E0:=λH1 kd s1 p hp er hd=>by
  have s2:=aa.new hp (.lst [v]);refine⟨_,p,[d],C,U,aa.refl _,.mk ag (.cons (RD.same ((e0.trans s1).trans s2) hd) .nil),dp,fl,hC,h64,hlen,λH3 l zs s3 nl hl nd hm so=>?_⟩;refine⟨kd,l,zs,U,hl,λH4 u s4 hu=>k H4 u ((s1.trans s2).trans (s3.trans s4)) ?_⟩;rw[er,<- jX nd hm so];exact hu
 have hd':=hd
 cases hd with
 |set h=>
  rename_i p x va sg vb;refine⟨_,rfl,_,_,_,_,rfl,rfl,SqT.of (e0 _ _ h),rfl,?_⟩;refine⟨_,rfl,rfl,_,rfl,?_⟩;walk_at "yes";refine⟨_,rfl,_,_,_,_,rfl,rfl,SqT.of (e0 _ _ h),rfl,ln1,λp7 hp7=>?_⟩;have s7:=aa.new hp7 (.tup [V.str x]);refine⟨_,rfl,H0,p,x,sg,va,vb,C,rfl,e0.trans s7,h,λq hq=>c1 q (Q7 _ hq),h64,λH1 l1 s1 h1=>?_⟩;refine⟨l1,_,rfl,.inl ⟨SqL.of h1,λp8 hp8=>⟨ln5,λp9 hp9=>?_⟩⟩⟩;have s8:=aa.new hp8 (.tup ((nV x va vb).map V.str));exact k _ _ (((s7.trans s1).trans s8).trans (aa.new hp9 _)) (cR.new (r:=bu (.set x va sg vb)) (s8 _ _ (s1 _ _ ag)) ag hp9)
 |put h=>
  rename_i p q x;refine⟨_,rfl,_,_,_,_,rfl,rfl,SqT.of (e0 _ _ h),rfl,?_⟩;refine⟨_,rfl,rfl,_,rfl,?_⟩;walk_at "no";refine⟨_,rfl,rfl,_,rfl,?_⟩;walk_at "yes";refine⟨_,rfl,_,_,_,_,rfl,rfl,SqT.of (e0 _ _ h),rfl,_,rfl,bC _ ">" (by simp[a8.others]),ln1,λp1 hp1=>?_⟩;have s1:=aa.new hp1 (.tup [V.str (q++(">":Str))]);refine⟨_,rfl,_,_,_,_,rfl,rfl,SqT.of (s1 _ _ (e0 _ _ h)),rfl,ln1,λp2 hp2=>?_⟩;have s2:=aa.new hp2 (.tup [V.str x]);refine⟨_,rfl,_,_,_,_,rfl,rfl,SqT.of (s2 _ _ (s1 _ _ (e0 _ _ h))),rfl,ln5,λp9 hp9=>?_⟩;exact k _ _ ((s1.trans s2).trans (aa.new hp9 _)) (cR.new (r:=bu (.put q x)) (s2 _ _ ag) ag hp9)
 |get h=>
  rename_i p q x;refine⟨_,rfl,_,_,_,_,rfl,rfl,SqT.of (e0 _ _ h),rfl,?_⟩;refine⟨_,rfl,rfl,_,rfl,?_⟩;walk_at "no";refine⟨_,rfl,rfl,_,rfl,?_⟩;walk_at "no";refine⟨_,rfl,rfl,_,rfl,?_⟩;walk_at "yes";refine⟨_,rfl,_,_,_,_,rfl,rfl,SqT.of (e0 _ _ h),rfl,_,rfl,_,_,_,_,rfl,rfl,SqT.of (e0 _ _ h),rfl,_,rfl,bC _ "<" (by simp[a8.others]),ln2,λp1 hp1=>?_⟩;have s1:=aa.new hp1 (.lst [V.str x,V.str (q++("<":Str))]);refine⟨p1,[x,q++("<":Str)],rfl,SqL.of ag,by simp,λp2 zs hp2 pm so=>?_⟩;have s2:=aa.new hp2 (.lst (zs.map V.str));refine⟨p2,_,rfl,.inl ⟨SqL.of ag,λp3 hp3=>?_⟩⟩;have s3:=aa.new hp3 (.tup (zs.map V.str));refine⟨qD _,λp4 hp4=>?_⟩;have s4:=aa.new hp4 (.tup []);refine⟨_,rfl,_,_,_,_,rfl,rfl,SqT.of (s4 _ _ (s3 _ _ (s2 _ _ (s1 _ _ (e0 _ _ h))))),rfl,ln5,λp9 hp9=>?_⟩;have ez:=zw pm so;refine k _ _ ((((s1.trans s2).trans s3).trans s4).trans (aa.new hp9 _)) (cR.new (r:=bu (.get q x)) ?_ ag hp9);show _=some (HO.tup ((jY [x,q++("<":Str)]).map V.str));rw[<- ez];exact s4 _ _ ag
 |give h=>
  rename_i p x;refine⟨_,rfl,_,_,_,_,rfl,rfl,SqT.of (e0 _ _ h),rfl,?_⟩;refine⟨_,rfl,rfl,_,rfl,?_⟩;walk_at "no";refine⟨_,rfl,rfl,_,rfl,?_⟩;walk_at "no";refine⟨_,rfl,rfl,_,rfl,?_⟩;walk_at "no";refine⟨_,rfl,rfl,_,rfl,?_⟩;walk_at "yes";refine⟨ln1,λp1 hp1=>?_⟩;have s1:=aa.new hp1 (.tup [V.str (">":Str)]);refine⟨_,rfl,_,_,_,_,rfl,rfl,SqT.of (s1 _ _ (e0 _ _ h)),rfl,ln1,λp2 hp2=>⟨ln5,λp9 hp9=>?_⟩⟩;have s2:=aa.new hp2 (.tup [V.str x]);exact k _ _ ((s1.trans s2).trans (aa.new hp9 _)) (cR.new (r:=bu (.give x)) (s2 _ _ ag) ag hp9)
 |cond h h1 h2=>
  refine⟨_,rfl,_,_,_,_,rfl,rfl,SqT.of (e0 _ _ h),rfl,?_⟩;refine⟨_,rfl,rfl,_,rfl,?_⟩;walk_at "no";refine⟨_,rfl,rfl,_,rfl,?_⟩;walk_at "no";refine⟨_,rfl,rfl,_,rfl,?_⟩;walk_at "no";refine⟨_,rfl,rfl,_,rfl,?_⟩;walk_at "no";exact⟨_,rfl,_,rfl,ln1,λp1 hp1=>own H "if" (aa.refl H) p1 hp1 rfl hd'⟩
 |whl h h1=>
  refine⟨_,rfl,_,_,_,_,rfl,rfl,SqT.of (e0 _ _ h),rfl,?_⟩;refine⟨_,rfl,rfl,_,rfl,?_⟩;walk_at "no";refine⟨_,rfl,rfl,_,rfl,?_⟩;walk_at "no";refine⟨_,rfl,rfl,_,rfl,?_⟩;walk_at "no";refine⟨_,rfl,rfl,_,rfl,?_⟩;walk_at "no";exact⟨_,rfl,_,rfl,ln1,λp1 hp1=>own H "while" (aa.refl H) p1 hp1 rfl hd'⟩
 |rep h h1=>exact Qf U (hnr _ _)
theorem oJ(T:Tx P w K mg a):aB P w K mg base CX0 1 a.GA a.HH ["self","words","place"] (tU K a):=by
 refine T.KB.ok AJ (λvs H Q E h=>?_) (λcdv A outer s H vs Q E hr h=>?_)
 .obtain⟨_,_,_,_,rfl,_⟩:=h
  rfl
 obtain⟨e,C,z,y,rfl,he,hC,k⟩:=h
 refine⟨_,(ah (bK (C1 U T.LG (a9 (pq 0) (a9 (pq 1) af))))
  (aj (BJ (pq 0) (pq 2) U))),?_⟩
 refine⟨_,U,_,U,e,C,_,z,U,he,hC,?_⟩;exact⟨_,U,_,U,e,C,_,U,he,hC,k⟩
theorem CW(T:Tx P w K mg a):∀n:Nat,aB P w K mg base CX0 (n+1) a.HK a.HL ["block"] (sT n):=by
 intro n
 induction n with
 |zero=>
  refine T.Ha.ok j3 (λvs H Q E h=>?_) (λcdv A outer s H vs Q E hr h=>?_)
  .obtain⟨_,_,_,rfl,_⟩:=h
   rfl
  .obtain⟨_,_,_,_,_,_,h0,_⟩:=h;exact Qf h0 (QJ _)
 |succ n ih=>
  refine T.Ha.ok j3 (λvs H Q E h=>?_) (λcdv A outer s H vs Q E hr h=>?_)
  .obtain⟨_,_,_,rfl,_⟩:=h
   rfl
  obtain⟨H0,b,ds,rfl,e0,hb,hdp,ra,k⟩:=h
  refine⟨_,(ah (az (i:=1) j3.nd U Oi (aU ck U T.om Qi (a9 (pq 0) af)))
   (ah (cM PassesOwn.never U (cD (pq 0)) (aW (i:=2) j3.nd U Oi)
   (aj (aI (ay aM (ao aD (pq 2) ac Oy) aP (au _)) (aj (az (i:=1) j3.nd U Oi (aq bU (pq 1) (aq dU (ao aD (pq 2) ac Oy) (aq bU (aK ih (hr.mono Yo) U T.JJ T.Ha.kp T.JI .nil aA (a9 (ao aD (pq 2) ac Oy) af)) ac))))) aO)))
   (aj (ar (pq 1))))),?_⟩
  obtain⟨hv,hds⟩:=hb;rename_i vs;have vl:=hds.len;refine⟨_,U,b,_,U,.inl (SqL.of (e0 _ _ hv)),?_⟩;refine⟨_,U,b,U,⟨_,SqL.of (e0 _ _ hv)⟩,?_⟩;refine eD (K:=K) (a:=b) (xs:=vs) (λi Y H2=>H2=H/\∃v c,Y=[some (.ref b),some (.int c),v]/\c=(vs.length:Int)-i+(av (ds.take i)).length) ⟨U,_,_,U,by simp[av]⟩ ?_ ?_ ?_
  .rintro i Y H2 _ ⟨rfl,_⟩;exact SqL.of (e0 _ _ hv)
  .rintro i x Y H2 hx ⟨rfl,v,c,rfl,ec⟩;obtain⟨d,hd,hrd⟩:=hds.at i x hx;have tk:=nP hd;by_cases nr:∀m bb,d≠.rep m bb
   .obtain⟨px,r,rfl,hp⟩:=hrd.tuple;refine⟨_,U,px,_,_,_,U,U,SqT.of (e0 _ _ hp),at0,U,_,U,?_⟩;refine ifN (rB nr) ⟨U,_,_,U,?_⟩;rw[tk,nQ nr,qf,Qh];omega
   .cases hrd with
    |rep h hb'=>
     rename_i p bb m bs;obtain⟨r0,rb⟩:=(ra.at hd).rep;obtain⟨r1,r2⟩:=r0 m bs U;have dd:=lj hd;rw[a8.depth]at dd;refine⟨_,U,_,_,_,_,U,U,SqT.of (e0 _ _ h),U,U,_,U,aX Yd ?_⟩;refine⟨_,U,_,U,_,_,_,_,U,U,SqT.of (e0 _ _ h),U,_,U,_,_,_,_,U,U,SqT.of (e0 _ _ h),U,H0,bb,bs,U,e0,hb',Yo,rb,_,_,U,U,_,_,U,U,zH r1 r2,_,_,U,U,?_⟩;refine⟨U,_,_,U,?_⟩;rw[tk,qf,bE,qL,gb,qf,Qh];have e:(m.toNat:Int)=m:=Int.toNat_of_nonneg r1;simp only[Int.natCast_add,Int.natCast_mul,e,Int.natCast_one];omega
    |_=>exact Qf (λm bb z=>by cases z) nr
  .rintro Y H2 ⟨rfl,v,c,rfl,ec⟩;rw[vl,qR]at ec;have:c=((av ds).length:Int):=Yo;rw[this];exact⟨_,U,k⟩
theorem CJ(T:Tx P w K mg a){n:Nat}(ih:aB P w K mg base CX0 (2 * n+18) a.GI a.GJ ["block"] (lN n)):aB P w K mg base CX0 (2 * n+19) a.HM a.HN ["rounds","body"] (sI n):=by
 refine T.JM.ok u9 (λvs H Q E h=>?_) (λcdv A outer s H vs Q E hr h=>?_)
 .obtain⟨_,_,_,_,_,rfl,_⟩:=h
  rfl
 obtain⟨H0,r,b,ds,C,rfl,r0,r9,e0,hb,hdp,bi,hlen,k⟩:=h
 refine⟨_,(ah (az (i:=2) u9.nd U Oi (aK (oF T) (hr.mono Yo) U T.Jm T.Hd.kp T.Jl .nil aA (a9 aP (a9 (aK (oC T) (hr.mono Yo) U T.Jf T.GX.kp T.Je .nil aA (a9 (pq 1) af)) af))))
  (ah (aI (ay aM (pq 0) ac (au _)) (aj (ar (bq (a9 (pq 2) af)))) aO)
  (aj (ar (aq jb (bq (a9 (pq 2) af)) (aq vc (aq jb (aK ih (hr.mono Yo) U T.JL T.Hc.kp T.JK .nil aA (a9 (pq 1) af)) (bq (a9 (pq 2) af))) (pq 0))))))),?_⟩
 obtain⟨b1,b2,b3,b4,b5,b6⟩:=id bi;refine⟨_,U,H0,b,ds,C,U,e0,hb,b1,b2,b3,b4,b5,λH1 lz zs s1 nz hz nd hm so=>?_⟩;have ez:=jX nd hm so;subst ez;refine⟨_,lz,_,U,hz,λH2 g s2 hg=>?_⟩;have hg:cR H2 g (dW ds):=hg;have s02:=s1.trans s2;refine⟨_,U,U,_,U,?_⟩;refine be (λc=>?_) (λc=>?_)
 .obtain rfl:r=0:=dB c;refine⟨_,U,ln1,λp hp=>?_⟩;refine k _ p [g] (s02.trans (aa.new hp _)) (aa.none s02 hp) ag ?_;rw[bE];exact .cons (hg.same (aa.new hp _)) .nil
 .have rp:0<r:=by
   have:=dJ c;omega
  refine⟨_,U,ln1,λp hp=>?_⟩;have s3:=aa.new hp (.lst [g]);have ri:=AR (b:=ds) rp;refine⟨_,U,H0,b,ds,C,U,(e0.trans s02).trans s3,hb,hdp,bi,Yo,λH4 l4 us4 s4 n4 h4 r4=>?_⟩;refine⟨_,U,ln1,λp5 hp5=>?_⟩;have s5:=aa.new hp5 (.lst [g]);have u4:=r4.len;refine⟨l4,p5,_,_,U,U,SqL.of (s5 _ _ h4),SqL.of ag,aR (m:=3000) (by rw[Qh];omega),λp6 hp6=>?_⟩;have s6:=aa.new hp6 (.lst (us4++[g]));have ln:(bE (.rep r ds)).length=r.toNat * ((av ds).length+1)+1:=by rw[bE,qL,gb,qf,Qh]
  have lr:(us4++[g]).length * r.toNat<=2000:=by
   rw[qf,Qh,u4,Nat.mul_comm];omega
  refine⟨_,U,p6,_,_,U,U,ag,Yo,Yo,aR (m:=3000) Yo,λp7 hp7=>?_⟩;have s7:=aa.new hp7 (.lst (List.replicate r.toNat (us4++[g])).flatten);have s47:=(s5.trans s6).trans s7;refine⟨p,p7,_,_,U,U,SqL.of (s47 _ _ (s4 _ _ ag)),SqL.of ag,aR (m:=3000) ?_,λp8 hp8=>?_⟩
  .have:((List.replicate r.toNat (us4++[g])).flatten).length=r.toNat * (us4++[g]).length:=gb _ _;rw[Qh,this,Nat.mul_comm];omega
  .have s8:=aa.new hp8 (.lst ([g]++(List.replicate r.toNat (us4++[g])).flatten));have s48:=s47.trans s8;have gg:cR _ g (dW ds):=(hg.same s3).same (s4.trans s48);have sf:=(s02.trans s3).trans (s4.trans s48);refine k _ p8 _ sf (aa.none ((s02.trans s3).trans (s4.trans s47)) hp8) ag ?_;rw[bE];exact .cons gg (((r4.same s48).app (.cons gg .nil)).reps r.toNat)
theorem CL(T:Tx P w K mg a):∀n:Nat,aB P w K mg base CX0 (2 * n+18) a.GI a.GJ ["block"] (lN n):=by
 intro n
 induction n with
 |zero=>
  refine T.Hc.ok kg (λvs H Q E h=>?_) (λcdv A outer s H vs Q E hr h=>?_)
  .obtain⟨_,_,_,_,rfl,_⟩:=h
   rfl
  .obtain⟨_,_,_,_,_,_,_,h0,_⟩:=h;exact Qf h0 (QJ _)
 |succ n ih=>
  refine T.Hc.ok kg (λvs H Q E h=>?_) (λcdv A outer s H vs Q E hr h=>?_)
  .obtain⟨_,_,_,_,rfl,_⟩:=h
   rfl
  obtain⟨H0,b,ds,C,rfl,e0,hb,hdp,bi,hlen,k⟩:=h
  refine⟨_,(ah (az (i:=1) kg.nd U Oi (bq af))
   (ah (cM PassesOwn.never U (cD (pq 0)) (aW (i:=2) kg.nd U Oi)
   (aj (aI (ay aM (ao aD (pq 2) ac Oy) aP (au _)) (aj (bK (bY qk Qz Qy gu (pq 1) (a9 (aK (CJ T ih) (hr.mono Yo) U T.KF T.JM.kp T.KE .nil aA (a9 (ao aD (pq 2) ac Oy) (a9 (ao aD (pq 2) ac Oy) af))) af)))) (aj (bK (bY qk qG qH dE (pq 1) (a9 (aK (CK T) (hr.mono Yo) U T.KH T.JN.kp T.KG .nil aA (a9 (pq 2) af)) af)))))))
   (aj (ar (pq 1))))),?_⟩
  obtain⟨b1,b2,b3,b4,b5,b6⟩:=id bi;obtain⟨hv,hds⟩:=hb;rename_i vs;have vl:=hds.len;refine⟨qD _,λc hc=>?_⟩;have s1:=aa.new hc (.lst []);have big:(10000:Nat)<sizeLine:=Yk;refine⟨_,U,b,U,⟨_,SqL.of (s1 _ _ (e0 _ _ hv))⟩,?_⟩;refine eD (K:=K) (a:=b) (xs:=vs) (λi Y H2=>∃v us,Y=[some (.ref b),some (.ref c),v]/\aa H H2/\H2 c=some (.lst us)/\bh H2 us (av (ds.take i))) ⟨_,[],U,s1,ag,by rw[List.take_zero,av];exact .nil⟩ ?_ ?_ ?_
  .rintro i Y H2 _ ⟨v,us,_,s2,_⟩;exact SqL.of (s2 _ _ (e0 _ _ hv))
  .rintro i x Y H2 hx ⟨v,us,rfl,s2,h2,hu⟩;obtain⟨d,hd,hrd⟩:=hds.at i x hx;have tk:=nP hd;have at':=AU hd;have ue:=hu.len;have dp:=wO hd;obtain⟨f1,_⟩:=pC hd;by_cases nrd:∀m bb,d≠.rep m bb
   .obtain⟨px,r,rfl,hp⟩:=hrd.tuple;refine⟨_,U,px,_,_,_,U,U,SqT.of (s2 _ _ (e0 _ _ hp)),at0,U,_,U,?_⟩;refine ifN (rB nrd) ?_;refine⟨_,U,.inl ⟨U,_,SqL.of h2⟩,_,U,H0,_,d,C,U,e0.trans s2,hrd,Yo,Yo,λq hq=>b3 q (xc hd q hq),b4,b5,nrd,λH3 u s3 hu3=>?_⟩;refine⟨c,us,u,U,U,s3 _ _ h2,Yo,?_⟩;refine⟨_,us++[u],U,aa.over (s2.trans s3) hc,ag,?_⟩;rw[tk,nQ nrd];exact((hu.same s3).off (s3 _ _ h2)).snoc (hu3.off (s3 _ _ h2))
   .cases hrd with
    |rep h hb'=>
     rename_i p bb m bs _;obtain⟨r0,rb⟩:=(b6.at hd).rep;obtain⟨r1,r2⟩:=r0 m bs U;rw[a8.depth]at dp
     have f1':(ai bs).length<=1300:=by
      simp only[a8.flat,qL]at f1;omega
     have cb:∀q∈cards bs,q∈C:=λq hq=>b3 q (xc hd q (by rw[xb];simp[a8.cards,a8.names,a8.others,a8.inner,hq]));refine⟨_,U,_,_,_,_,U,U,SqT.of (s2 _ _ (e0 _ _ h)),U,U,_,U,aX Yd ?_⟩;refine⟨_,U,.inl ⟨U,_,SqL.of h2⟩,_,U,_,_,_,_,U,U,SqT.of (s2 _ _ (e0 _ _ h)),U,_,U,_,_,_,_,U,U,SqT.of (s2 _ _ (e0 _ _ h)),U,H0,m,bb,bs,C,U,r1,r2,e0.trans s2,hb',Yo,⟨Yo,f1',cb,b4,b5,rb⟩,Yo,λH3 l3 us3 s3 n3 h3 hr3=>?_⟩;have u3:=hr3.len;refine⟨c,l3,_,_,U,U,s3 _ _ h2,h3,aR (m:=9000) Yo,?_⟩;refine⟨_,us++us3,U,aa.over (s2.trans s3) hc,ag,?_⟩;rw[tk];exact((hu.same s3).app hr3).off (s3 _ _ h2)
    |_=>exact Qf (λm bb z=>by cases z) nrd
  .rintro Y H2 ⟨v,us,rfl,s2,h2,hu⟩;rw[vl,qR]at hu;exact⟨_,U,k H2 c us s2 hc h2 hu⟩
theorem vQ{H:Hp}{b d:Addr}{o1 o2 o3:HO}(hb:H b=none)(hd:upd H b o1 d=none):aa H (del (upd (upd (upd H b o1) d o2) b o3) b)/\del (upd (upd (upd H b o1) d o2) b o3) b d=some o2:=by
 have nb:d≠b:=λz=>by rw[z,ag]at hd;cases hd
 have nd:H d=none:=by rw[ae nb]at hd;exact hd
 refine⟨λc o hc=>?_,by rw[gz nb,ae nb];exact ag⟩;have n1:c≠b:=λz=>by rw[z,hb]at hc;cases hc
 have n2:c≠d:=λz=>by rw[z,nd]at hc;cases hc
 rw[gz n1,ae n1,ae n2,ae n1];exact hc
theorem FedN.snoc{rs:List Row}{i:Nat}(h:FedN rs i){r:Row}(hr:rs[i]?=some r)(hq:∀q,r.outof=some q->bal (rs.take i) q≠0):FedN rs (i+1):=λj r' q hj h1 h2=>by
 rcases Nat.lt_or_eq_of_le (Nat.lt_succ_iff.mp hj)with lt|rfl
 .exact h j r' q lt h1 h2
 .rw[hr]at h1;cases h1;exact hq q h2
theorem CY(T:Tx P w K mg a):aB P w K mg base (CXX P w) 3 a.HU a.HV ["deeds"] (zD a):=by
 refine T.JO.okX ic (λvs H Q E h=>?_) (λcdv A outer s H vs Q E hr h=>?_)
 .obtain⟨_,_,_,rfl,_⟩:=h
  rfl
 obtain⟨l,us,rs,rfl,hl,hrs,hlen,one,short,k,kx⟩:=h
 refine⟨_,(ah (az (i:=1) ic.nd U Oi Cc)
  (aj (cM PassesOwn.leaving U (BY U T.LH (a9 (pq 0) af)) (iz U (dG (aW (i:=2) ic.nd U Oi) (dG (aW (i:=3) ic.nd U Oi) ix)))
  (ah (az (i:=4) ic.nd U Oi (ao aD (pq 3) ac Oy))
  (ah (az (i:=5) ic.nd U Oi (ao aD (pq 3) ac Oy))
  (ah (aI (ay kC (pq 4) cr (au _)) (aj (je (hr.one) (pq 1) (pq 4) (aq bU (uW hr.one (pq 1) (pq 4) ac ⟨U,U,U,U⟩) ac) U)) aO)
  (aj (aI (ay kC (pq 5) cr (au _)) (ah (aI (ay aM (uW hr.one (pq 1) (pq 5) ac ⟨U,U,U,U⟩) ac (au _)) (aj (ox T.Hj (oJ T) (hr.mono Yk) T.Jk U T.Jw U nW (a9 (C9 aP (pq 2) aP (pq 5)) (a9 (pq 2) af)))) aO)
  (aj (je (hr.one) (pq 1) (pq 5) (aq fJ (fN hr.one (pq 1) (pq 5) Oy) ac) U))) aO)))))))),?_⟩
 intro p hp;have s1:aa H (upd H p (.dK [])):=aa.new hp _;have ul:=hrs.len;refine⟨_,U,l,us,U,SqL.of (s1 _ _ hl),?_⟩;refine ES (K:=K) (l:=l) (xs:=us) (λi Y H2=>∃v1 v2 v3 v4 kvs,Y=[some (.ref l),some (.ref p),v1,v2,v3,v4]/\aa H H2/\H2 p=some (.dK kvs)/\kvs.length<=2 * i/\xw kvs (rs.take i)/\FedN rs i) ⟨_,_,_,_,[],U,s1,ag,qi _,λq=>U,λj r q z=>Qf z (QJ _)⟩ ?_ ?_ ?_
 .rintro i Y H2 ⟨v1,v2,v3,v4,kvs,_,s2,_⟩;exact SqL.of (s2 _ _ hl)
 .rintro i x Y H2 pt hx ⟨v1,v2,v3,v4,kvs,rfl,s2,hd,kl,st,fed⟩ hpt;obtain⟨r,hr',px,po,pr,rfl,h1,h2,h3⟩:=hrs.at i x hx;have lt:i<rs.length:=(qj.mp hr').1;have s3:aa H (upd H2 pt (.tup [.int i,.ref px])):=s2.trans (aa.new hpt _);have np:pt≠p:=λz=>by rw[z,hd]at hpt;cases hpt
  have hd3:(upd H2 pt (.tup [.int i,.ref px])) p=some (.dK kvs):=aa.new hpt _ _ _ hd;have hpt3:(upd H2 pt (.tup [.int i,.ref px])) pt=some (.tup [.int i,.ref px]):=ag;generalize upd H2 pt (.tup [.int i,.ref px])=H3 at s3 hd3 hpt3 ⊢;refine⟨pt,_,U,SqT.of hpt3,U,_,_,U,_,_,U,U,?_⟩;refine⟨_,U,px,_,_,_,U,U,SqT.of (s3 _ _ h1),U,?_⟩;refine⟨_,U,px,_,_,_,U,U,SqT.of (s3 _ _ h1),U,?_⟩;have tk:rs.take (i+1)=rs.take i++[r]:=by rw[qC,hr'];rfl
  have one':=one r (qK hr');have short':=short r (qK hr');have big:(10000:Nat)<sizeLine:=Yk;have kl':kvs.length<sizeLine:=Yo
  have fin:∀(H4:Hp)(kvs':List (Key×V)) w3 w4,aa H H4->H4 p=some (.dK kvs')->kvs'.length<=kvs.length+1->(∀q:Str,(bn kvs' (.inr q)).getD (.int 0)=.int (bal (rs.take i++[r]) q))->(∀q,r.outof=some q->bal (rs.take i) q≠0)->
   ∃v1 v2 v3 v4 kvs,([some (.ref l),some (.ref p),some (.int i),some (.ref px),w3,w4]:St)=[some (.ref l),some (.ref p),v1,v2,v3,v4]/\aa H H4/\H4 p=some (.dK kvs)/\kvs.length<=2 * (i+1)/\xw kvs (rs.take (i+1))/\FedN rs (i+1):=λH4 kvs' w3 w4 s4 h4 l4 st4 hq=>
   ⟨_,_,_,_,kvs',U,s4,h4,Yo,by rw[tk];exact st4,fed.snoc hr' hq⟩
  have bad:∀q,r.outof=some q->bal (rs.take i) q=0->Hungry rs i:=λq h1 h2=>⟨r,q,hr',h1,h2⟩;clear hd hpt tk;obtain⟨kd,ow,re,into,outof⟩:=r
  cases into with
  |none=>
   refine⟨_,U,U,_,U,aG U ?_⟩
   cases outof with
   |none=>
    refine⟨_,U,U,_,U,aG U ?_⟩;exact fin H3 kvs _ _ s3 hd3 (Nat.le_succ _) (λq=>by rw[jA,st q];simp) (λq h=>by cases h)
   |some q=>
    have sq:=st q;refine⟨_,U,U,_,U,aX U ?_⟩;refine⟨_,U,p,U,.inl ⟨kvs,.inl hd3⟩,_,U,_,cH.k (k:=.inr q) hd3,?_⟩;rw[sq];refine⟨U,_,U,be (λc=>?_) (λc=>?_)⟩
    .have z0:bal (rs.take i) q=0:=dB c
     have il:((i:Int)).natAbs<2 ^ 1000:=by
      rw[Int.natAbs_natCast];exact qN (by omega:i<2000) Yk
     refine⟨_,U,_,U,il,_,U,q,U,short' q U,λz=>?_⟩;refine⟨_,U,ln2,λb hb=>?_⟩;refine⟨b,a.mt,_,_,U,ag,T.Hj,λd hd=>⟨U,d,ag,?_⟩⟩;have lh:=vQ (o1:=XO0 a.mt b) (o2:=.xd [("place",.int i)]) (o3:=XO1 a.mt b d) hb hd;exact kx i fed (bad q U z0) _ d (s3.trans lh.1) lh.2
    have nz:bal (rs.take i) q≠0:=dJ c
    obtain⟨v,hv⟩:∃v,bn kvs (.inr q)=some v:=by
     cases e:bn kvs (.inr q)with
     |some v=>exact⟨v,U⟩
     |none=>
      rw[e]at sq;have:(0:Int)=bal (rs.take i) q:=V.int.inj sq;omega
    rw[hv]at sq;have ev:v=.int (bal (rs.take i) q):=sq;subst ev;refine⟨_,U,_,U,p,_,U,by rw[<- hv];exact cH.k (k:=.inr q) hd3,_,_,U,U,?_⟩;refine⟨_,U,_,U,p,_,U,iQ.k (k:=.inr q) hd3 kl',?_⟩;refine fin _ _ _ _ (aa.over s3 hp) ag (jp _ _ _) (λq'=>?_) (λq' h=>by cases h;exact nz);rw[rN,jA];by_cases e:q'=q
    .subst e;simp
    .have e1:¬ (Sum.inr q':Key)=Sum.inr q:=λz=>e (Sum.inr.inj z);have e2:¬ q=q':=λz=>e z.symm;rw[Qb e1,st q'];simp[e2]
  |some q=>
   have on:outof=none:=by
    rcases one' with h|h
    .cases h
    .exact h
   subst on;refine⟨_,U,U,_,U,aX U ?_⟩;refine⟨_,U,p,U,.inl ⟨kvs,.inl hd3⟩,_,U,_,cH.k (k:=.inr q) hd3,_,_,st q,U,?_⟩;refine⟨_,U,_,U,p,_,U,iQ.k (k:=.inr q) hd3 kl',?_⟩;refine⟨_,U,U,_,U,aG U ?_⟩;refine fin _ _ _ _ (aa.over s3 hp) ag (jp _ _ _) (λq'=>?_) (λq h=>by cases h);rw[rN,jA];by_cases e:q'=q
   .subst e;simp
   .have e1:¬ (Sum.inr q':Key)=Sum.inr q:=λz=>e (Sum.inr.inj z);have e2:¬ q=q':=λz=>e z.symm;rw[Qb e1,st q'];simp[e2]
 .rintro Y H2 ⟨v1,v2,v3,v4,kvs,rfl,s2,_,_,_,fed⟩;rw[ul]at fed;exact k fed H2 s2
theorem AV{ds:List a8}{C:List Str}(hC:∀q∈C,q.length<=1000)(h:∀d∈ai ds,∀q x,d=.get q x->q++("<":Str)∈C):∀r∈av ds,∀q,r.outof=some q->q.length<=1000:=λr hr q ho=>by
 obtain⟨x,hx⟩:=AS hr ho;have:=hC _ (h _ hx q x U);rw[ba]at this;omega
theorem CV(T:Tx P w K mg a):aB P w K mg base (CXX P w) 46 a.HI a.HJ ["program"] (zB a):=by
 refine T.JH.okX uc (λvs H Q E h=>?_) (λcdv A outer s H vs Q E hr h=>?_)
 .obtain⟨_,_,_,_,_,_,_,_,_,rfl,_⟩:=h
  rfl
 obtain⟨p,la,ls,lb,asks,ss,ds,us,C,rfl,rp,hdp,hfl,ha,hs,hsl,hC,h64,hlen,ra,short,kM,kS,k⟩:=h
 refine⟨_,(ah (aI (ay gJ (aq bU (aK (CW T 13) (hr.mono Yk) U T.JJ T.Ha.kp T.JI .nil aA (a9 (ao aD (pq 0) ac Oy) af)) ac) (eJ U T.Ju T.r_MOST_DEEDS) (au _)) (aj (ox T.Kn (oJ T) (hr.mono Yk) T.Jk U T.M6 U nW (a9 (Ca aP (eJ U T.Ju T.r_MOST_DEEDS) aP) (a9 (eJ U T.Ju T.r_MOST_DEEDS) af)))) aO)
  (ah (az (i:=1) uc.nd U Oi (aK (CL T 13) (hr.mono Yk) U T.JL T.Hc.kp T.JK .nil aA (a9 (ao aD (pq 0) ac Oy) af)))
  (ah (bK (bY qk qG qH dE (pq 1) (a9 (aK (oF T) (hr.mono Yk) U T.Jm T.Hd.kp T.Jl .nil aA (a9 aP (a9 (aK (CZ T) (hr.mono Yk) U T.KA T.JG.kp T.Kz .nil aA (a9 (pq 0) af)) af))) af)))
  (ah (bK (aK (CY T) (hr.mono Yk) U T.KJ T.JO.kp T.KI .nil eY (a9 (pq 1) af)))
  (aj (ar (pq 1))))))),?_⟩
 have hcC:∀q∈cards ds,q∈C:=λq hq=>hC q (by unfold eV;simp[hq]);refine⟨_,U,p,_,_,_,U,U,SqT.of rp.top,U,H,lb,ds,U,aa.refl H,rp.bo,Yo,ra,_,_,U,U,?_⟩;refine⟨_,_,U,U,_,U,?_⟩;refine be (λc=>?_) (λc=>?_)
 .have c:=Qn c;refine⟨2000,U,by show 2000<2 ^ 1000;exact qN (by decide:2000<2 ^ 100) (by decide),λz=>?_⟩;refine⟨ln2,λb hb=>?_⟩;refine⟨b,a.or,_,_,U,ag,T.Kn,λd hd=>⟨U,d,ag,?_⟩⟩;have lh:=vQ (o1:=XO0 a.or b) (o2:=.xd [("place",.int 2000)]) (o3:=XO1 a.or b d) hb hd;exact kM Yo _ d lh.1 lh.2
 have c:¬ (2000:Int)<((av ds).length:Int)+1:=λz=>c (Qd z);have dl:(av ds).length<2000:=Yo;refine⟨_,U,p,_,_,_,U,U,SqT.of rp.top,U,H,lb,ds,C,U,aa.refl H,rp.bo,Yo,⟨hdp,hfl,hcC,h64,hlen,ra⟩,Yo,λH1 l us1 s1 n1 h1 hu1=>?_⟩;have big:(10000:Nat)<sizeLine:=Yk;have ul:=hu1.len;refine⟨_,U,.inl ⟨U,_,SqL.of h1⟩,_,U,p,la,ls,lb,asks,ss,ds,us,C,U,rp.same s1,hdp,hfl,ha,hs,hsl,hC,h64,hlen,λH2 l2 zs s2 h2 nd hm so=>?_⟩;refine⟨"end",l2,zs,U,h2,λH3 v s3 hv=>?_⟩;refine⟨l,us1,v,U,U,s3 _ _ (s2 _ _ h1),Yo,?_⟩;have s13:=s2.trans s3;have ez:=jX nd hm so
 have hrs:bh (upd H3 l (.lst (us1++[v]))) (us1++[v]) (av ds++[iK asks ss ds]):=by
  refine((hu1.same s13).off (s13 _ _ h1)).snoc ?_;unfold iK;rw[<- ez];exact hv.off (s13 _ _ h1)
 have sf:aa H (upd H3 l (.lst (us1++[v]))):=aa.over (s1.trans s13) n1
 have down:∀{i:Nat},FedN (av ds++[iK asks ss ds]) i->FedN (av ds) i:=λh j r q hj h1 h2=>by
  have jl:=(qj.mp h1).1;have:=h j r q hj (by rw[Qg jl];exact h1) h2
  rwa [List.take_append_of_le_length (Nat.le_of_lt jl)]at this
 refine⟨_,U,l,_,_,U,ag,hrs,by rw[qf,Qh];omega,λr hr'=>?_,λr hr' q ho=>?_,λfed H4 s4=>?_,λi fed hu H4 d s4 hd=>?_⟩
 .rcases qp.mp hr' with h|h
  .exact AQ ds r h
  .rw[Q4.mp h];exact .inl U
 .rcases qp.mp hr' with h|h
  .exact short r h q ho
  .rw[Q4.mp h]at ho;cases ho
 .refine⟨_,U,k dl (λj r q hj h1 h2=>down fed j r q ?_ h1 h2) H4 l _ (sf.trans s4) (s4 _ _ ag) (hrs.same s4)⟩;rw[qf];omega
 .refine kS dl i (down fed) ?_ H4 d (sf.trans s4) hd;obtain⟨r,q,h1,h2,h3⟩:=hu;by_cases lt:i<(av ds).length
  .rw[Qg lt]at h1;rw[List.take_append_of_le_length (Nat.le_of_lt lt)]at h3;exact⟨r,q,h1,h2,h3⟩
  .rw[qV (Nat.le_of_not_lt lt)]at h1;cases Q4.mp (qK h1);cases h2
theorem D5(T:Tx P w K mg a):aB P w K mg base CX0 1 a.IV a.IW ["_law_moves_here","_law_q"] t7:=by
 refine T.K8.ok fI (λvs H Q E h=>?_) (λcdv A outer s H vs Q E hr h=>?_)
 .obtain⟨_,_,_,_,rfl,_⟩:=h
  rfl
 obtain⟨l,us,ms,q,rfl,hl,hm,hlen,k⟩:=h
 refine⟨_,(ah (az (i:=2) fI.nd U Oi ac)
  (ah (az (i:=3) fI.nd U Oi ac)
  (ah (az (i:=4) fI.nd U Oi ac)
  (ah (cM PassesOwn.never U (cD (pq 0)) (iz U (dG (aW (i:=5) fI.nd U Oi) (dG (aW (i:=6) fI.nd U Oi) ix)))
  (aj (aI (ay aM (pq 6) (pq 1) (au _)) (ah (az (i:=2) fI.nd U Oi (aq bU (pq 2) (eI (ay aM (pq 5) aP (au _)) ac (dh dc ac))))
  (ah (az (i:=3) fI.nd U Oi (aU (FL U) U T.LK PyProof.Rows.Boot.«min» (a9 (pq 3) (a9 (pq 2) af))))
  (aj (az (i:=4) fI.nd U Oi (aU (FM U) U T.LJ PyProof.Rows.Boot.«max» (a9 (pq 4) (a9 (pq 2) af))))))) aO)))
  (aj (ar (bF (a9 (dh dc (pq 3)) (a9 (aq fJ (pq 4) (pq 3)) af))))))))),?_⟩
 have ul:=hm.len;refine⟨_,U,l,U,⟨_,SqL.of hl⟩,?_⟩;refine eD (K:=K) (a:=l) (xs:=us) (λi Y H2=>H2=H/\∃v v',Y=[some (.ref l),some (.str q),some (.int (bJ q (ms.take i)).1),some (.int (bJ q (ms.take i)).2.1),some (.int (bJ q (ms.take i)).2.2),v,v']) ⟨U,_,_,U⟩ ?_ ?_ ?_
 .rintro i Y H2 _ ⟨rfl,_⟩;exact SqL.of hl
 .rintro i x Y H2 hx ⟨rfl,v,v',rfl⟩;obtain⟨p,m,rfl,hi,hp⟩:=hm.at i x hx;have tk:ms.take (i+1)=ms.take i++[m]:=by rw[qC,hi];rfl
  refine⟨p,_,U,SqT.of hp,U,_,_,U,_,_,U,U,?_⟩;refine⟨_,U,_,U,U,_,U,?_⟩;rw[tk,Ba];unfold ei gF;by_cases e:m.2=q
  .rw[Qc e];refine aX (by rw[e];simp) ?_;refine⟨_,U,_,U,U,_,U,?_⟩;by_cases e2:m.1="put"
   .simp only[Qc e2];refine aX (by rw[e2];simp) ?_;exact⟨_,_,U,U,_,U,_,U,_,_,U,_,U,_,U,_,_,U,U,_,_,U⟩
   .simp only[Qb e2];refine aG (by simp[e2]) ?_;exact⟨1,U,_,_,U,U,_,U,_,U,_,_,U,_,U,_,U,_,_,U,U,_,_,U⟩
  .rw[Qb e];exact aG (by simp[e]) ⟨U,_,_,U⟩
 .rintro Y H2 ⟨rfl,v,v',rfl⟩;rw[ul,qR];exact⟨_,U,_,U,_,U,_,U,_,_,U,U,ln2,k⟩
theorem D7(T:Tx P w K mg a):∀n:Nat,aB P w K mg base CX0 (n+1) a.IT a.IU ["_law_block_here"] (tu n):=by
 intro n
 induction n with
 |zero=>
  refine T.Hh.ok ie (λvs H Q E h=>?_) (λcdv A outer s H vs Q E hr h=>?_)
  .obtain⟨_,_,_,rfl,_⟩:=h
   rfl
  .obtain⟨_,_,_,_,_,_,h0,_⟩:=h;exact Qf h0 (QJ _)
 |succ n ih=>
 refine T.Hh.ok ie (λvs H Q E h=>?_) (λcdv A outer s H vs Q E hr h=>?_)
 .obtain⟨_,_,_,rfl,_⟩:=h
  rfl
 obtain⟨H0,b,ds,rfl,e0,hb,hdp,ra,dl,k⟩:=h
 refine⟨_,(ah (az (i:=1) ie.nd U Oi (bq af))
  (ah (cM PassesOwn.never U (cD (pq 0)) (aW (i:=2) ie.nd U Oi)
  (ah (aI (PW.pt (dF (ay aM (ao aD (pq 2) ac Oy) aP (au _)) (eU (ay aM (ao aD (pq 2) ac Oy) aP (au _))))) (aj (bK (bY qk qG qH dE (pq 1) (a9 (bF (a9 (ao aD (pq 2) ac Oy) (a9 (ao aD (pq 2) ac Oy) af))) af)))) aO)
  (aj (aI (PW.pt (fg (ay aM (ao aD (pq 2) ac Oy) aP (au _)) (gc (ay gJ (ao aD (pq 2) ac Oy) ac (au _))))) (ah (az (i:=3) ie.nd U Oi (aK ih (hr.mono Yo) U T.K7 T.Hh.kp T.K6 .nil aA (a9 (ao aD (pq 2) ac Oy) af)))
  (aj (cM PassesOwn.never U (iw U T.Gw (a9 (ao aD (pq 2) ac Oy) af)) (aW (i:=4) ie.nd U Oi)
  (aj (bK (bY qk Qz Qy gu (pq 1) (a9 (pq 3) af))))))) aO))))
  (aj (ar (pq 1))))),?_⟩
 obtain⟨hv,hds⟩:=hb;rename_i vs;have vl:=hds.len;refine⟨qD _,λc hc=>?_⟩;have s1:=aa.new hc (.lst []);refine⟨_,U,b,U,⟨_,SqL.of (s1 _ _ (e0 _ _ hv))⟩,?_⟩;refine eD (K:=K) (a:=b) (xs:=vs) (λi Y H2=>∃v v' v'' us,Y=[some (.ref b),some (.ref c),v,v',v'']/\aa H H2/\H2 c=some (.lst us)/\RMs H2 us (bA (ds.take i))) ⟨_,_,_,[],U,s1,ag,by rw[List.take_zero,bA];exact .nil⟩ ?_ ?_ ?_
 .rintro i Y H2 _ ⟨v,v',v'',us,_,s2,_⟩;exact SqL.of (s2 _ _ (e0 _ _ hv))
 .rintro i x Y H2 hx ⟨v,v',v'',us,rfl,s2,h2,hu⟩;obtain⟨d,hd,hrd⟩:=hds.at i x hx;have tk:=vC hd;have at':=DN hd;have ul:=hu.len;rw[tk];have big:(10000:Nat)<sizeLine:=Yk
  cases hrd with
  |put h=>
   rename_i p q x;refine⟨_,U,_,_,_,_,U,U,SqT.of (s2 _ _ (e0 _ _ h)),U,U,_,U,?_⟩;refine aX Yd (aX U ?_);refine⟨_,U,.inl ⟨U,_,SqL.of h2⟩,_,U,_,_,_,_,U,U,SqT.of (s2 _ _ (e0 _ _ h)),U,_,U,_,_,_,_,U,U,SqT.of (s2 _ _ (e0 _ _ h)),U,ln2,λp1 hp1=>?_⟩;have s3:=aa.new hp1 (.tup [V.str "put",V.str q]);refine⟨c,us,.ref p1,U,U,s3 _ _ h2,Yo,?_⟩;have s4:aa H (upd (upd H2 p1 (.tup [V.str "put",V.str q])) c (.lst (us++[.ref p1]))):=aa.over (s2.trans s3) hc;refine⟨_,U,_,_,_,_,U,U,SqT.of (s4 _ _ (e0 _ _ h)),U,U,_,U,aG Yd (aG U ?_)⟩;refine⟨_,_,_,us++[.ref p1],U,s4,ag,?_⟩;rw[dH];refine((hu.same s3).off (s3 _ _ h2)).snoc (m:=("put",q)) ?_;rw[ae (λz=>by rw[z,h2]at hp1;cases hp1)];exact ag
  |get h=>
   rename_i p q x;refine⟨_,U,_,_,_,_,U,U,SqT.of (s2 _ _ (e0 _ _ h)),U,U,_,U,?_⟩;refine aG Yd ?_;refine⟨_,U,_,_,_,_,U,U,SqT.of (s2 _ _ (e0 _ _ h)),U,U,_,U,?_⟩;refine aX Yd ?_;refine⟨_,U,.inl ⟨U,_,SqL.of h2⟩,_,U,_,_,_,_,U,U,SqT.of (s2 _ _ (e0 _ _ h)),U,_,U,_,_,_,_,U,U,SqT.of (s2 _ _ (e0 _ _ h)),U,ln2,λp1 hp1=>?_⟩;have s3:=aa.new hp1 (.tup [V.str "get",V.str q]);refine⟨c,us,.ref p1,U,U,s3 _ _ h2,Yo,?_⟩;have s4:aa H (upd (upd H2 p1 (.tup [V.str "get",V.str q])) c (.lst (us++[.ref p1]))):=aa.over (s2.trans s3) hc;refine⟨_,U,_,_,_,_,U,U,SqT.of (s4 _ _ (e0 _ _ h)),U,U,_,U,aG Yd (aG U ?_)⟩;refine⟨_,_,_,us++[.ref p1],U,s4,ag,?_⟩;rw[dH];refine((hu.same s3).off (s3 _ _ h2)).snoc (m:=("get",q)) ?_;rw[ae (λz=>by rw[z,h2]at hp1;cases hp1)];exact ag
  |set h=>
   refine⟨_,U,_,_,_,_,U,U,SqT.of (s2 _ _ (e0 _ _ h)),U,U,_,U,?_⟩;refine aG Yd ?_;refine⟨_,U,_,_,_,_,U,U,SqT.of (s2 _ _ (e0 _ _ h)),U,U,_,U,?_⟩;refine aG Yd ?_;refine⟨_,U,_,_,_,_,U,U,SqT.of (s2 _ _ (e0 _ _ h)),U,U,_,U,?_⟩;refine aG Yd (aG U ?_);exact⟨_,_,_,us,U,s2,h2,by simpa[dH]using hu⟩
  |give h=>
   refine⟨_,U,_,_,_,_,U,U,SqT.of (s2 _ _ (e0 _ _ h)),U,U,_,U,?_⟩;refine aG Yd ?_;refine⟨_,U,_,_,_,_,U,U,SqT.of (s2 _ _ (e0 _ _ h)),U,U,_,U,?_⟩;refine aG Yd ?_;refine⟨_,U,_,_,_,_,U,U,SqT.of (s2 _ _ (e0 _ _ h)),U,U,_,U,?_⟩;refine aG Yd (aG U ?_);exact⟨_,_,_,us,U,s2,h2,by simpa[dH]using hu⟩
  |cond h _ _=>
   refine⟨_,U,_,_,_,_,U,U,SqT.of (s2 _ _ (e0 _ _ h)),U,U,_,U,?_⟩;refine aG Yd ?_;refine⟨_,U,_,_,_,_,U,U,SqT.of (s2 _ _ (e0 _ _ h)),U,U,_,U,?_⟩;refine aG Yd ?_;refine⟨_,U,_,_,_,_,U,U,SqT.of (s2 _ _ (e0 _ _ h)),U,U,_,U,?_⟩;refine aG Yd (aG U ?_);exact⟨_,_,_,us,U,s2,h2,by simpa[dH]using hu⟩
  |whl h _=>
   refine⟨_,U,_,_,_,_,U,U,SqT.of (s2 _ _ (e0 _ _ h)),U,U,_,U,?_⟩;refine aG Yd ?_;refine⟨_,U,_,_,_,_,U,U,SqT.of (s2 _ _ (e0 _ _ h)),U,U,_,U,?_⟩;refine aG Yd ?_;refine⟨_,U,_,_,_,_,U,U,SqT.of (s2 _ _ (e0 _ _ h)),U,U,_,U,?_⟩;refine aG Yd (aG U ?_);exact⟨_,_,_,us,U,s2,h2,by simpa[dH]using hu⟩
  |rep h hb'=>
   rename_i p bb m bs;obtain⟨r0,rb⟩:=(ra.at hd).rep;obtain⟨r1,r2⟩:=r0 m bs U;have dd:=lj hd;rw[a8.depth]at dd;have ml:(dH (.rep m bs)).length=m.toNat * (bA bs).length:=by rw[dH,gb]
   refine⟨_,U,_,_,_,_,U,U,SqT.of (s2 _ _ (e0 _ _ h)),U,U,_,U,?_⟩;refine aG Yd ?_;refine⟨_,U,_,_,_,_,U,U,SqT.of (s2 _ _ (e0 _ _ h)),U,U,_,U,?_⟩;refine aG Yd ?_;refine⟨_,U,_,_,_,_,U,U,SqT.of (s2 _ _ (e0 _ _ h)),U,U,_,U,?_⟩;refine aX Yd ?_;refine⟨_,U,_,_,_,_,U,U,SqT.of (s2 _ _ (e0 _ _ h)),U,_,_,U,U,_,U,?_⟩;refine be (λcc=>?_) (λcc=>?_)
   .have mp:0<m:=Qn cc
    have bl:(bA bs).length<=1000:=by
     have:1 * (bA bs).length<=m.toNat * (bA bs).length:=Nat.mul_le_mul_right _ Yo;omega
    refine⟨_,U,_,_,_,_,U,U,SqT.of (s2 _ _ (e0 _ _ h)),U,H0,bb,bs,U,e0.trans s2,hb',Yo,rb,bl,λH3 l3 us3 s3 n3 h3 r3=>?_⟩;have nl:l3≠c:=λz=>by rw[z,h2]at n3;cases n3
    have u3:=r3.len;have s23:=s2.trans s3;refine⟨_,U,_,_,_,_,U,U,SqT.of (s23 _ _ (e0 _ _ h)),U,_,U,Yo,Yo,?_⟩;refine jt (λj Y H4=>∃v,Y=[some (.ref b),some (.ref c),some (.ref p),some (.ref l3),v]/\aa H H4/\H4 l3=some (.lst us3)/\RMs H4 us3 (bA bs)/\∃us4,H4 c=some (.lst us4)/\RMs H4 us4 (bA (ds.take i)++reps j (bA bs))) ⟨_,U,s23,h3,r3,us,s3 _ _ h2,by rw[nR,qI];exact hu.same s3⟩ ?_ ?_
    .rintro j Y H4 hj ⟨v,rfl,s4,h4,r4,us4,hc4,hu4⟩;have u4:=hu4.len;rw[qf,gb]at u4;have jl:j * (bA bs).length<=m.toNat * (bA bs).length:=Nat.mul_le_mul_right _ Yo;refine⟨_,U,.inl ⟨U,_,SqL.of hc4⟩,_,U,c,l3,_,_,U,U,hc4,h4,aR (m:=9000) Yo,?_⟩;refine⟨_,U,aa.over s4 hc,by rw[ae nl];exact h4,r4.off hc4,us4++us3,ag,?_⟩;rw[B5,<- qX];exact(hu4.app r4).off hc4
    .rintro Y H4 ⟨v,rfl,s4,h4,r4,us4,hc4,hu4⟩;refine⟨_,_,_,us4,U,s4,hc4,?_⟩;rw[dH];exact hu4
   .have mz:m.toNat=0:=by
     have:=cc;simp at this;omega
    refine⟨_,_,_,us,U,s2,h2,?_⟩;rw[dH,mz,nR,qI];exact hu
 .rintro Y H2 ⟨v,v',v'',us,rfl,s2,h2,hu⟩;rw[vl,qR]at hu;exact⟨_,U,k H2 c us s2 hc h2 hu⟩
theorem CO(T:Tx P w K mg a):aB P w K mg base CX0 1 a.Ii a.Ij ["sign","a","b"] sL:=by
 refine T.JQ.ok Am (λvs H Q E h=>?_) (λcdv A outer s H vs Q E hr h=>?_)
 .obtain⟨_,_,_,rfl,_⟩:=h
  rfl
 obtain⟨sg,x,y,rfl,hx,hy,k⟩:=h
 refine⟨_,(ah (aI (ay aM (pq 0) aP (au _)) (aj (ar (aq bU (pq 1) (pq 2)))) aO)
  (ah (aI (ay aM (pq 0) aP (au _)) (aj (ar (aq fJ (pq 1) (pq 2)))) aO)
  (ah (aI (ay aM (pq 0) aP (au _)) (aj (ar (aq dU (pq 1) (pq 2)))) aO)
  (ah (aI (ay aM (pq 0) aP (au _)) (aj (ar (aq DA (pq 1) (pq 2)))) aO)
  (ah (aI (ay aM (pq 0) aP (au _)) (aj (ar (aq Dr (pq 1) (pq 2)))) aO)
  (aj (ar (aq Dp (pq 1) (pq 2))))))))),?_⟩
 unfold nU at k;walk_at "rd";refine be (λc=>?_) (λc=>?_)
 .rw[Qc (fW c)]at k;walk_at "rd";exact k
 rw[Qb (fX c)]at k;walk_at "rd";refine be (λc=>?_) (λc=>?_)
 .rw[Qc (fW c)]at k;walk_at "rd";exact k
 rw[Qb (fX c)]at k;walk_at "rd";refine be (λc=>?_) (λc=>?_)
 .rw[Qc (fW c)]at k;walk_at "rd";exact⟨IntMulOk.of_bits (rF hx) (rF hy),k⟩
 rw[Qb (fX c)]at k;walk_at "rd";refine be (λc=>?_) (λc=>?_)
 .rw[Qc (fW c)]at k;walk_at "rd";exact k
 rw[Qb (fX c)]at k;walk_at "rd";refine be (λc=>?_) (λc=>?_)
 .rw[Qc (fW c)]at k;walk_at "rd";exact k
 rw[Qb (fX c)]at k;walk_at "rd";exact k
theorem CU(T:Tx P w K mg a):aB P w K mg base CX0 2 a.done a.Ih ["sign","a","b"] sS:=by
 refine T.JP.ok As (λvs H Q E h=>?_) (λcdv A outer s H vs Q E hr h=>?_)
 .obtain⟨_,_,_,rfl,_⟩:=h
  rfl
 obtain⟨sg,x,y,rfl,hx,hy,k⟩:=h
 refine⟨_,(ah (aI (ay aM (pq 0) aP (au _)) (aj (ar (eI (ay aM (pq 2) ac (au _)) ac (aq Dy (pq 1) (pq 2))))) aO)
  (ah (aI (ay aM (pq 0) aP (au _)) (aj (ar (eI (ay kD (pq 1) (pq 2) (au _)) ac ac))) aO)
  (ah (aI (ay aM (pq 0) aP (au _)) (aj (ar (eI (ay aM (pq 1) (pq 2) (au _)) ac ac))) aO)
  (aj (ar (aq aZ (aK (CO T) (hr.mono Yk) U T.L0 T.JQ.kp T.KZ .nil aA (a9 (pq 0) (a9 (pq 1) (a9 (pq 2) af)))) (eJ U T.Kh T.r_WHEEL))))))),?_⟩
 unfold jv at k;walk_at "rd";refine be (λc=>?_) (λc=>?_)
 .rw[Qc (fW c)]at k;walk_at "rd";refine be (λc=>?_) (λc=>?_)
  .rw[Qc (dB c)]at k;exact k
  .have c':=dJ c;rw[Qb c']at k;walk_at "rd";exact⟨⟨by have:=hy.lo;omega,yb hy⟩,k⟩
 rw[Qb (fX c)]at k;walk_at "rd";refine be (λc=>?_) (λc=>?_)
 .rw[Qc (fW c)]at k;walk_at "rd";refine be (λc=>?_) (λc=>?_)
  .rw[Qc (Qn c)]at k;exact k
  .rw[Qb (λz=>c (Qd z))]at k;exact k
 rw[Qb (fX c)]at k;walk_at "rd";refine be (λc=>?_) (λc=>?_)
 .rw[Qc (fW c)]at k;walk_at "rd";refine be (λc=>?_) (λc=>?_)
  .rw[Qc (dB c)]at k;exact k
  .rw[Qb (dJ c)]at k;exact k
 rw[Qb (fX c)]at k;walk_at "rd";refine⟨sg,x,y,U,hx,hy,?_⟩;walk_at "rd";exact k
theorem vA:∀(l:List a8),(l.flatMap a8.names).length<=3 * l.length
 |[]=>by simp
 |d::r=>by
  have h1:d.names.length<=3:=by
   cases d with
   |set x a sg b=>cases a<;>cases b<;>simp[a8.names,Val.names]
   |_=>simp[a8.names]
  have h2:=vA r;rw[qP,qf,qL];omega
theorem CS(T:Tx P w K mg a):aB P w K mg base CX0 16 a.Hk a.Hl ["block"] sQ:=by
 refine T.JB.ok lY (λvs H Q E h=>?_) (λcdv A outer s H vs Q E hr h=>?_)
 .obtain⟨_,_,_,rfl,_⟩:=h
  rfl
 obtain⟨b,ds,C,rfl,hb,dp,hln,nC,c64,k⟩:=h
 refine⟨_,(ah (az (i:=1) lY.nd U Oi (bq af))
  (ah (cM PassesOwn.never U (cD (aK (vd T 13) (hr.mono Yk) U T.Jb T.GB.kp T.Ja .nil aA (a9 (pq 0) af))) (aW (i:=2) lY.nd U Oi)
  (aj (bK (bY qk Qz Qy gu (pq 1) (a9 (aK (oG T) (hr.mono Yk) U T.Jd T.GW.kp T.Jc .nil aA (a9 (pq 2) af)) af)))))
  (aj (ar (aU (jy U) U T.Gx PyProof.Rows.Boot.«sorted» (a9 (eB (gX U) U T.Db PyProof.Rows.Boot.«set» (a9 (pq 1) af)) af)))))),?_⟩
 refine⟨qD _,λc hc=>?_⟩;refine⟨_,U,H,b,ds,U,aa.new hc _,hb,Yo,Yo,λH2 l us s2 nl hl hus=>⟨l,U,⟨_,SqL.of hl⟩,?_⟩⟩;generalize hfl:ai ds=fl at *;have lc:l≠c:=λz=>by rw[z,ag]at nl;cases nl
 have few:∀i,((fl.take i).flatMap a8.names).length<=3900:=λi=>by
  have:=vA (fl.take i);rw[qU]at this;omega
 refine eD (K:=K) (a:=l) (xs:=us) (λi Y H3=>∃v,Y=[some (.ref b),some (.ref c),v]/\aa H H3/\H3 c=some (.lst (((fl.take i).flatMap a8.names).map V.str))/\H3 l=some (.lst us)) ⟨_,U,(aa.new hc _).trans s2,s2 _ _ ag,hl⟩ ?_ ?_ ?_
 .rintro i Y H3 _ ⟨v,_,_,_,h⟩;exact SqL.of h
 .rintro i x Y H3 hx ⟨v,rfl,s3,hc3,hl3⟩;obtain⟨d,hd,hrd⟩:=hus.at i x hx;have f1:=few (i+1);rw[qC,hd]at f1
  have f1':((fl.take i).flatMap a8.names).length+d.names.length<=3900:=by
   simpa[Q6]using f1
  refine⟨_,U,.inl ⟨U,_,SqL.of hc3⟩,_,U,H,x,d,U,s3,hrd,λH4 l4 s4 n4 h4=>?_⟩;refine⟨c,l4,_,_,U,U,s4 _ _ hc3,h4,aR (m:=9000) (by rw[qc,qc];omega),?_⟩;refine⟨_,U,aa.over (s3.trans s4) hc,?_,?_⟩
  .rw[ag,qC,hd];simp[Q6]
  .rw[ae lc];exact s4 _ _ hl3
 .rintro Y H3 ⟨v,rfl,s3,hc3,hl3⟩;rw[hus.len,qR]at hc3;have f1:=few fl.length;rw[qR]at f1;refine⟨_,U,c,fl.flatMap a8.names,U,SqL.of hc3,Yo,λp hp=>?_⟩;refine⟨p,fl.flatMap a8.names,C,U,ag,nC,c64,λr zs hr' nd hm so=>?_⟩;have p0:=aa.none s3 hp
  have r0:H r=none:=by
   refine aa.none s3 ?_
   cases q:H3 r with
   |none=>rfl
   |some o=>
    have:r≠p:=bW q hp;rw[ae this,q]at hr';cases hr'
  exact k _ r zs (aa.over (aa.over s3 p0) r0) r0 ag nd hm so
theorem CM(T:Tx P w K mg a):aB P w K mg base CX0 17 a.Hm a.Hn ["program"] sK:=by
 refine T.JC.ok Al (λvs H Q E h=>?_) (λcdv A outer s H vs Q E hr h=>?_)
 .obtain⟨_,_,_,_,_,_,_,rfl,_⟩:=h
  rfl
 obtain⟨p,a0,a1,b,ak,ds,C,rfl,hp,h0,hb,dp,hl,al,akC,nC,c64,q⟩:=h;refine⟨_,(aj (ar (aU (jy U) U T.Gx PyProof.Rows.Boot.«sorted» (a9 (aq Co (eB (gX U) U T.Db PyProof.Rows.Boot.«set» (a9 (ao aD (pq 0) ac Oy) af)) (eB (gX U) U T.Db PyProof.Rows.Boot.«set» (a9 (aK (CS T) (hr.mono Yk) U T.Kq T.JB.kp T.Kp .nil aA (a9 (ao aD (pq 0) ac Oy) af)) af))) af)))),?_⟩;refine⟨_,U,p,_,_,_,U,U,SqT.of hp,Gd,a0,ak,U,SqL.of h0,Yo,λs1 hs1=>?_⟩;have m1:=aa.new hs1 (bL P w s1 ak);have o1:upd H s1 (bL P w s1 ak) s1=some (bL P w s1 ak):=ag;refine⟨_,U,p,_,_,_,U,U,SqT.of (m1 _ _ hp),Gc,b,ds,C,U,RL.same m1 hb,dp,hl,nC,c64,λH2 l2 zs m2 n2 o2 nd mem so=>?_⟩
 have nf:zs.length<=900:=by
  have l1:=fD nd λx hx=>nC x ((mem x).mp hx);omega
 refine⟨l2,zs,U,SqL.of o2,Yo,λs2 hs2=>?_⟩;have m3:=aa.new hs2 (bL P w s2 zs);have o3:upd H2 s2 (bL P w s2 zs) s2=some (bL P w s2 zs):=ag;have n3:s1≠s2:=λz=>by rw[<- z,m2 _ _ o1]at hs2;cases hs2
 refine⟨s1,s2,ak,zs,ak,zs,U,U,n3,m3 _ _ (m2 _ _ o1),o3,λk hk=>hk,Yo,λk hk=>hk,Yo,λs3 hs3=>?_⟩;have m4:=aa.new hs3 (bL P w s3 (ak++zs));have o4:upd (upd H2 s2 (bL P w s2 zs)) s3 (bL P w s3 (ak++zs)) s3=some (bL P w s3 (ak++zs)):=ag;have m14:=m1.trans (m2.trans (m3.trans m4));refine⟨s3,ak++zs,C,U,o4,λk hk=>(qp.mp hk).elim (akC k) (λh=>nC k ((mem k).mp h)),c64,λl5 ys hl5 nd5 mem5 so5=>?_⟩
 have few5:ys.length<=2000:=by
  have:=fD nd5 λx hx=>(mem5 x).mp hx;rw[qf]at this;omega
 exact q _ l5 ys (m14.trans (aa.new hl5 _)) (aa.none m14 hl5) ag ⟨nd5,λk=>by rw[mem5 k,qp,mem k],so5,few5⟩
theorem eL{H:Hp}{x b:Addr}{o:HO}(h:upd H x o b=none):H b=none:=by
 by_cases e:b=x
 .rw[e,ag]at h;cases h
 .rwa [ae e]at h
theorem FZ(ps:List (Str×Int))(p:Str×Int):dZ (ps++[p])=dD (dZ ps) p.1 (p.2 % 1000000000000000000000000000000):=by
 unfold dZ;rw[List.foldl_append]
 rfl
theorem D2(T:Tx P w K mg a):aB P w K mg base CX0 18 a.Ik a.Il ["program","numbers"] sW:=by
 refine T.JR.ok ki (λvs H Q E h=>?_) (λcdv A outer s H vs Q E hr h=>?_)
 .obtain⟨_,_,_,_,_,_,_,_,_,rfl,_⟩:=h
  rfl
 obtain⟨p,a0,a1,b,ln,ak,ns,ds,C,rfl,hp,h0,hn,hb,dp,hln,al,nl',akC,nC,c64,q⟩:=h
 refine⟨_,(ah (az (i:=2) ki.nd U Oi (eB (xg U) U T.Kg PyProof.Rows.Boot.«dict» (a9 (iA (k:=1) (Nc:=["name"]) (js:=[]) (show bM (ax kn) ["program","numbers","begun","name","number"] _ 1 ["name"] []from bM.mk U (by decide +kernel) (by decide +kernel) (by decide +kernel) U (by decide +kernel)) U (cD (aK (CM T) (hr.mono Yk) U T.Ks T.JC.kp T.Kr .nil aA (a9 (pq 0) af))) (λ_ _ _ _ _=>(aW (i:=0) (show List.Nodup (["name"]:List Str)from by decide +kernel) U Oi)) (λ_ _ _ _ _=>ip) (λ_ _ _ _ _=>(bF (a9 (pq 0) (a9 ac af))))) af)))
  (ah (cM PassesOwn.never U (BV U T.LM (a9 (ao aD (pq 0) ac Oy) (a9 (pq 1) af))) (iz U (dG (aW (i:=3) ki.nd U Oi) (dG (aW (i:=4) ki.nd U Oi) ix)))
  (aj (je (hr.one) (pq 2) (pq 3) (aq aZ (pq 4) (eJ U T.Kh T.r_WHEEL)) U)))
  (aj (ar (pq 2))))),?_⟩
 refine⟨_,U,p,a0,a1,b,ak,ds,C,U,hp,h0,hb,dp,hln,al,akC,nC,c64,λH2 l zs m2 nl hl vr=>⟨l,U,⟨_,SqL.of hl⟩,?_⟩⟩;refine iN (K:=K) (a:=l) (xs:=zs.map V.str) (λi ys Y H3=>(∃v,Y=[v])/\aa H2 H3/\∃ts:List Addr,ys=ts.map V.ref/\ts.length=i/\∀(j:Nat)(t:Addr)(z:Str),ts[j]?=some t->zs[j]?=some z->H3 t=some (.tup [.str z,.int 0])) ⟨⟨_,U⟩,aa.refl _,[],U,U,λj t z h=>by simp at h⟩ ?_ (aR (m:=2000) (by rw[qc];exact vr.few)) ?_ ?_ ?_
 .rintro i ys Y H3 _ ⟨_,_,ts,rfl,h,_⟩;rw[qc,h];exact qi _
 .rintro i ys Y H3 ⟨_,s3,_⟩;exact SqL.of (s3 _ _ hl)
 .rintro i x ys Y H3 hx ⟨⟨v,rfl⟩,s3,ts,rfl,hl3,ht⟩;rw[qO]at hx;obtain⟨z,hzi,rfl⟩:=qZ.mp hx;refine⟨_,U,ln2,λp4 hp4=>?_⟩;refine⟨⟨_,U⟩,s3.trans (aa.new hp4 _),ts++[p4],by rw[qY];rfl,by rw[qf,hl3];rfl,λj t y hj hy=>?_⟩;rcases Nat.lt_or_ge j ts.length with lt|ge
  .rw[Qg lt]at hj;exact aa.new hp4 _ _ _ (ht j t y hj hy)
  .rw[qV ge]at hj
   have e0:j-ts.length=0:=by
    have:=(qj.mp hj).1;simpa using this
   rw[e0]at hj;obtain rfl:p4=t:=by simpa using hj
   have:j=i:=Yo;subst this;rw[hzi]at hy;cases hy;exact ag
 .rintro ys Y H3 ⟨_,s3,ts,rfl,hl3,ht⟩ lc hlc;rw[qc]at hl3;have mH:=m2.trans s3;have nlc:=aa.none mH hlc;refine⟨lc,ts.map V.ref,zs.map λz=>(.inr z,.int 0),U,ag,by rw[qc,qc,hl3],aR (m:=2000) (by rw[qc];exact vr.few),λi p hp'=>?_,λd hd=>?_⟩
  .rw[qO]at hp';obtain⟨z,hzi,rfl⟩:=qZ.mp hp'
   have lt:i<ts.length:=by
    have:=(qj.mp hzi).1;omega
   exact⟨ts[i],by rw[qO,qg lt];rfl,aa.new hlc _ _ _ (ht i _ z (qg lt) hzi)⟩
  rw[BE vr.nd];have nd0:H d=none:=aa.none mH (eL hd);have mD:aa H (upd (upd H3 lc (.lst (ts.map V.ref))) d (.dK (tab zs λ_=>0))):=aa.over (aa.over mH nlc) nd0;refine⟨_,U,_,_,_,_,U,U,SqT.of (mD _ _ hp),U,_,U,false,false,a0,ln,ak.map V.str,ns.map V.int,U,SqL.of (mD _ _ h0),SqL.of (mD _ _ hn),?_⟩;have o8:upd (upd H3 lc (.lst (ts.map V.ref))) d (.dK (tab zs λ_=>0)) d=some (.dK (tab zs λ_=>0)):=ag;generalize upd (upd H3 lc (.lst (ts.map V.ref))) d (.dK (tab zs λ_=>0))=H8 at mD o8 ⊢;refine ER (K:=K) (b1:=false) (b2:=false) (l1:=a0) (l2:=ln) (xs:=ak.map V.str) (ys:=ns.map V.int) (λi Y H4=>(∃v3 v4,Y=[some (.ref p),some (.ref ln),some (.ref d),v3,v4])/\aa H H4/\H4 d=some (.dK (tab zs (dZ ((ak.zip ns).take i))))) ⟨⟨_,_,U⟩,mD,o8⟩ ?_ ?_ ?_
  .rintro i Y H4 ⟨_,s4,_⟩;exact⟨SqL.of (s4 _ _ h0),SqL.of (s4 _ _ hn)⟩
  .rintro i x y Y H4 p5 hx hy ⟨⟨v3,v4,rfl⟩,s4,d4⟩ hp5;rw[qO]at hx hy;obtain⟨x,hx',rfl⟩:=qZ.mp hx;obtain⟨y,hy',rfl⟩:=qZ.mp hy;have xz:x∈zs:=(vr.mem x).mpr (.inl (qK hx'));have hzip:(ak.zip ns)[i]?=some (x,y):=by rw[List.getElem?_zip_eq_some];exact⟨hx',hy'⟩
   have n5:d≠p5:=λz=>by rw[<- z,d4]at hp5;cases hp5
   have s5:=s4.trans (aa.new hp5 (.tup [.str x,.int y]));have d5:upd H4 p5 (.tup [.str x,.int y]) d=some (.dK (tab zs (dZ ((ak.zip ns).take i)))):=by rw[ae n5];exact d4
   have p5':upd H4 p5 (.tup [.str x,.int y]) p5=some (.tup [.str x,.int y]):=ag;generalize upd H4 p5 (.tup [.str x,.int y])=H5 at s5 d5 p5' ⊢;refine⟨p5,_,U,.inl (.inl p5'),U,_,_,U,_,_,U,U,?_⟩;refine⟨_,U,_,_,U,U,Yk,_,U,_,U,d,_,U,.inl ⟨_,.inr x,d5,U,qN (show _<1000000 by rw[jP];have:=vr.few;omega) (by decide),U⟩,?_⟩;rw[lE vr.nd,show jC zs x=zs from Qc xz];refine⟨⟨_,_,U⟩,aa.over s5 nd0,?_⟩;rw[ag,qC,hzip];show some (HO.dK (tab zs (dD _ x (y % _))))=some (HO.dK (tab zs (dZ (_++[(x,y)]))));rw[FZ]
  .rintro Y H4 ⟨⟨v3,v4,rfl⟩,s4,d4⟩;rw[qc,qc,List.take_of_length_le (by rw[List.length_zip];exact qi _)]at d4;exact⟨_,U,q _ d zs s4 nd0 d4 vr⟩
theorem kF{x y:V}:List.lookup ("laid":Str) [(("laid":Str),x),("gone",y)]=some x:=gN
theorem kG{x y:V}:List.lookup ("gone":Str) [(("laid":Str),x),("gone",y)]=some y:=(d7 Yd).trans gN
theorem kE{k:Str}{x y:V}(h:((k == ("laid":Str)) || (k == ("gone":Str)))=false):List.lookup k [(("laid":Str),x),("gone",y)]=none:=by
 simp only[Bool.or_eq_false_iff]at h;rw[d7 h.1,d7 h.2]
 rfl
theorem Do(T:Tx P w K mg a):aB P w K mg base CX0 1 a.HW a.HX ["self","things"] (tT a):=by
 refine T.KK.ok AI (λvs H Q E h=>?_) (λcdv A outer s H vs Q E hr h=>?_)
 .obtain⟨_,_,_,rfl,_⟩:=h
  rfl
 obtain⟨p,dx,t,rfl,h1,h2,q⟩:=h
 refine⟨_,(ah (fK (pq 0) (eB Bt U T.Gv PyProof.Rows.Boot.«list» (a9 (pq 1) af)) U)
  (aj (fK (pq 0) ac U))),?_⟩
 refine⟨_,U,t,[],U,.inl (SqL.of h2),λl hl=>?_⟩;have np:p≠l:=λz=>by rw[<- z,h1]at hl;cases hl
 refine⟨_,U,p,a.u8,dx,[],U,by rw[ae np];exact h1,T.pi,T.GF,by simp,?_⟩;rw[gf [] U Yd,Qv];refine⟨_,U,p,a.u8,dx,_,U,ag,T.pi,T.Gy,by simp,?_⟩;rw[gf ["laid"] U Yd];refine q _ l (λc o nc hc=>?_) hl ag ?_
 .have f1:c≠l:=λz=>by rw[z,hl]at hc;cases hc
  rw[ae nc,ae nc,ae f1];exact hc
 .rw[ae np.symm,ae np.symm];exact ag
theorem Dl(T:Tx P w K mg a):aB P w K mg base CX0 1 a.HY a.HZ ["self"] (tQ a):=by
 refine T.KM.ok AF (λvs H Q E h=>?_) (λcdv A outer s H vs Q E hr h=>?_)
 .obtain⟨_,_,_,_,_,rfl,_⟩:=h
  rfl
 obtain⟨p,dx,l,xs,g,rfl,h1,h2,q⟩:=h;refine⟨_,(aj (ar (aq fJ (aU ck U T.om Qi (a9 (bS (pq 0) U) af)) (bS (pq 0) U)))),?_⟩;refine⟨_,U,p,_,_,_,_,U,h1,T.pi,T.GF,kF,l,_,U,.inl (SqL.of h2),_,U,p,_,_,_,_,U,h1,T.pi,T.Gy,kG,_,_,U,U,?_⟩;rw[qc];exact q
theorem Dn(T:Tx P w K mg a):aB P w K mg base CX0 1 a.Ia a.Ib ["self","thing"] (tS a):=by
 refine T.KO.ok AH (λvs H Q E h=>?_) (λcdv A outer s H vs Q E hr h=>?_)
 .obtain⟨_,_,_,_,_,_,rfl,_⟩:=h
  rfl
 obtain⟨p,dx,l,xs,g,v,rfl,h1,h2,hl,q⟩:=h;refine⟨_,(aj (bK (bY qk qG qH dE (bS (pq 0) U) (a9 (pq 1) af)))),?_⟩;refine⟨_,U,p,_,_,_,_,U,h1,T.pi,T.GF,kF,.inl ⟨U,_,SqL.of h2⟩,_,U,l,_,_,U,U,h2,aR (m:=20000) (by rw[qc];omega),?_⟩;rw[show xs.map V.int++[V.int v]=(xs++[v]).map V.int by rw[qY];rfl];exact q
theorem Dk(T:Tx P w K mg a):aB P w K mg base CX0 1 a.Ic a.Id ["self"] (tP a):=by
 refine T.KQ.ok uj (λvs H Q E h=>?_) (λcdv A outer s H vs Q E hr h=>?_)
 .obtain⟨_,_,_,_,_,_,rfl,_⟩:=h
  rfl
 obtain⟨p,dx,l,xs,g,v,rfl,h1,h2,hv,q⟩:=h
 refine⟨_,(ah (az (i:=1) uj.nd U Oi (ao aY (bS (pq 0) U) (bS (pq 0) U) Oy))
  (ah (fK (pq 0) (aq bU (bS (pq 0) U) ac) U)
  (aj (ar (pq 1))))),?_⟩
 refine⟨_,U,p,_,_,_,_,U,h1,T.pi,T.GF,kF,_,U,p,_,_,_,_,U,h1,T.pi,T.Gy,kG,l,_,_,_,U,U,SqL.of h2,cy (by rw[qO,hv];rfl),?_⟩;refine⟨_,U,p,_,_,_,_,U,h1,T.pi,T.Gy,kG,_,_,U,U,_,U,p,_,_,_,U,h1,T.pi,T.Gy,by simp,?_⟩
 have e2:bQ ("gone":Str) (V.int ((g:Int)+1)) [(("laid":Str),V.ref l),("gone",.int g)]=[(("laid":Str),V.ref l),("gone",.int ((g+1:Nat):Int))]:=by
  rw[bQ,Qb Yd,bQ,Qc U]
  rfl
 rw[e2];exact⟨_,U,q⟩
theorem Dm(T:Tx P w K mg a):aB P w K mg base CX0 1 a.Ie a.Ig ["self"] (tR a):=by
 refine T.KS.ok AG (λvs H Q E h=>?_) (λcdv A outer s H vs Q E hr h=>?_)
 .obtain⟨_,_,_,_,_,rfl,_⟩:=h
  rfl
 obtain⟨p,dx,l,xs,g,rfl,h1,h2,q⟩:=h;refine⟨_,(aj (ar (gi lR (bS (pq 0) U) (fh (bS (pq 0) U)) iu))),?_⟩;refine⟨_,U,p,_,_,_,_,U,h1,T.pi,T.GF,kF,_,U,p,_,_,_,_,U,h1,T.pi,T.Gy,kG,_,U,l,_,U,SqL.of h2,λl2 hl2=>?_⟩;rw[Ft xs (Int.natCast_nonneg g)];exact q l2 hl2
theorem vk(T:Tx P w K mg a):aB P w K mg base CX0 1 a.Ir a.Iu ["self"] (tI a):=by
 refine T.Lh.ok Az (λvs H Q E h=>?_) (λcdv A outer s H vs Q E hr h=>?_)
 .obtain⟨_,_,_,_,_,_,_,rfl,_⟩:=h
  rfl
 obtain⟨r,dx,dn,dq,lo,k,m,rfl,h1,q⟩:=h;refine⟨_,(aj (ar (eK nZ (bS (pq 0) U) (bS (pq 0) U) (au _)))),?_⟩;exact⟨_,U,r,_,_,_,_,U,h1,T.ad,T.Gz,kz,_,U,r,_,_,_,_,U,h1,T.ad,T.Kk,B3,_,_,U,U,q⟩
theorem jj(T:Tx P w K mg a):aB P w K mg base CX0 2 a.Ip a.Iq ["self"] (tK a):=by
 refine T.Lg.ok AC (λvs H Q E h=>?_) (λcdv A outer s H vs Q E hr h=>?_)
 .obtain⟨_,_,_,_,_,_,_,rfl,_⟩:=h
  rfl
 obtain⟨r,dx,dn,dq,lo,k,m,rfl,h1,q0,q⟩:=h
 refine⟨_,(ah (aI (cq (fi (pq 0) T.ad T.Ki (vk T) (hr.mono Yk) T.JT .nil aA)) (aj (ar bZ)) aO)
  (ah (fK (pq 0) (aq bU (bS (pq 0) U) ac) U)
  (aj (ar bZ)))),?_⟩
 refine⟨_,U,r,_,_,U,h1,cX Yd,r,dx,dn,dq,lo,k,m,U,h1,_,U,?_⟩;refine be (λc=>q0 (Qn c)) (λc=>?_)
 have lt:k<m:=by
  rcases Int.lt_or_le k m with z|z
  .exact z
  .exact Qf (Qd z) c
 refine⟨_,U,r,_,_,_,_,U,h1,T.ad,T.Gz,kz,_,_,U,U,_,U,r,_,_,_,U,h1,T.ad,T.Gz,by simp,?_⟩
 have e2:bQ ("steps":Str) (V.int (k+1)) [(("numbers":Str),V.ref dn),("queues",.ref dq),("outs",.ref lo),("steps",.int k),("most",.int m)]=[(("numbers":Str),V.ref dn),("queues",.ref dq),("outs",.ref lo),("steps",.int (k+1)),("most",.int m)]:=by
  rw[bQ,Qb Yd,bQ,Qb Yd,bQ,Qb Yd,bQ,Qc U]
 rw[e2];exact q lt
theorem vj(T:Tx P w K mg a):aB P w K mg base CX0 1 a.Ix a.Iy ["self","value"] (tH a):=by
 refine T.Lk.ok Ay (λvs H Q E h=>?_) (λcdv A outer s H vs Q E hr h=>?_)
 .obtain⟨_,_,_,_,_,_,_,_,_,_,rfl,_⟩:=h
  rfl
 obtain⟨r,dx,dn,dq,lo,k,m,va,zs,f,rfl,h1,h2,hv,q⟩:=h;refine⟨_,(aj (ar (eI (cq (aU eT U T.wE PyProof.Rows.Boot.«isinstance» (a9 (pq 1) (a9 (eX (v:=.ty "str") U T.Js PyProof.Rows.Boot.«str» rfl) af)))) (fN hr.one (bS (pq 0) U) (pq 1) Oy) (pq 1)))),?_⟩
 cases va with
 |num n=>exact⟨_,U,_,_,_,false,U,.int n,U,_,U,aG U ⟨_,U,q⟩⟩
 |nm x=>exact⟨_,U,_,_,_,true,U,.str x,U,_,U,aX U ⟨_,U,r,_,_,_,_,U,h1,T.ad,T.At,g9,_,U,dn,_,U,(by have:=cH.k (k:=.inr x) h2;rw[iU (hv x (by simp[Val.names]))]at this;exact this),q⟩⟩
theorem kA{a b c d e:V}:List.lookup ("queues":Str) [(("numbers":Str),a),("queues",b),("outs",c),("steps",d),("most",e)]=some b:=(d7 Yd).trans gN
theorem Dc(T:Tx P w K mg a):aB P w K mg base (CXX P w) 3 a.Iz a.IA ["self","store"] (zE a):=by
 refine T.Ll.okX AA (λvs H Q E h=>?_) (λcdv A outer s H vs Q E hr h=>?_)
 .obtain⟨_,_,_,_,_,_,_,_,_,_,_,_,_,_,_,rfl,_⟩:=h
  rfl
 obtain⟨r,dx,dn,dq,lo,qa,qd,ql,zs,ss,k,m,B,n,st,rfl,R,hs,hl,bo,kv,kx⟩:=h
 refine⟨_,(ah (aI (ay aM (fi (fN hr.one (bS (pq 0) U) (pq 1) Oy) T.pi T.LS (Dl T) (hr.mono Yk) T.KN .nil aA) ac (au _)) (aj (ox T.Hj (oJ T) (hr.mono Yk) T.Jk U T.Jw U nW (a9 (C8 aP (pq 1)) (a9 (bS (pq 0) U) af)))) aO)
  (aj (ar (fi (fN hr.one (bS (pq 0) U) (pq 1) Oy) T.pi T.LU (Dk T) (hr.mono Yk) T.KR .nil aA)))),?_⟩
 have hget:cH H dq (.str st) (some (.ref (qa st))):=by
  have:=cH.k (k:=.inr st) R.qo;rw[jQ hs]at this;exact this
 refine⟨_,U,r,_,_,_,_,U,R.ro,T.ad,T.GH,kA,_,U,dq,_,U,hget,qa st,_,_,U,R.qu st hs,kE Yd,qa st,_,_,_,_,U,R.qu st hs,R.qs st hs,?_⟩;have le:=bo.le st;refine⟨U,_,U,be (λc=>?_) (λc=>?_)⟩
 .have z:V.int (((B.q st).length:Int)-B.g st)=V.int 0:=Qn c;injection z with z;have none':(B.q st)[B.g st]?=none:=QA Yo;refine⟨_,U,st,U,hl,λz=>?_⟩;refine⟨_,U,r,_,_,_,_,U,R.ro,T.ad,T.Gz,kz,by show 2<=sizeLine;decide,λb hb=>?_⟩;refine⟨b,a.mt,_,_,U,ag,T.Hj,λd hd=>⟨U,d,ag,?_⟩⟩;have nb:d≠b:=λz=>by rw[z,ag]at hd;cases hd
  have nd:H d=none:=by rw[ae nb]at hd;exact hd
  refine kx none' _ d (λc o hc=>?_) (by rw[gz nb,ae nb];exact ag);have n1:c≠b:=λz=>by rw[z,hb]at hc;cases hc
  have n2:c≠d:=λz=>by rw[z,nd]at hc;cases hc
  rw[gz n1,ae n1,ae n2,ae n1];exact hc
 .have lt:B.g st<(B.q st).length:=by
   rcases Nat.lt_or_ge (B.g st) (B.q st).length with z|z
   .exact z
   .exact Qf (Qd (by rw[show((B.q st).length:Int)-B.g st=0 by omega])) c
  have ev:(B.q st)[B.g st]?=some (B.q st)[B.g st]:=qg lt;refine⟨_,U,r,_,_,_,_,U,R.ro,T.ad,T.GH,kA,_,U,dq,_,U,hget,qa st,_,_,U,R.qu st hs,kE Yd,qa st,_,_,_,_,_,U,R.qu st hs,R.qs st hs,ev,kv _ ev⟩
theorem cE{H:Hp}{c d:Addr}{x y:HO}(h1:H c=some x)(h2:H d=some y)(h:x≠y):c≠d:=λz=>by
 rw[z,h2]at h1;exact h (qT h1).symm
section
variable {H:Hp}{r dx dn dq lo:Addr}{qa qd ql:Str->Addr}{zs ss:List Str}{k m:Int}{B:Bk}
theorem cF.setN(R:cF a H r dx dn dq lo qa qd ql zs ss k m B)(f:cj):cF a (upd H dn (.dK (tab zs f))) r dx dn dq lo qa qd ql zs ss k m { B with f:=f }:=by
 have n1:r≠dn:=cE R.ro R.no (by simp[cg]);have n2:lo≠dn:=cE R.oo R.no (by simp);have n3:∀s∈ss,qa s≠dn:=λs hs=>cE (R.qu s hs) R.no (by simp[cT]);have n4:∀s∈ss,ql s≠dn:=λs hs=>cE (R.qs s hs) R.no (by simp);exact⟨by rw[ae n1];exact R.ro,ag,by rw[ae R.dd];exact R.qo,by rw[ae n2];exact R.oo,λs hs=>by rw[ae (n3 s hs)];exact R.qu s hs,λs hs=>by rw[ae (n4 s hs)];exact R.qs s hs,R.ja,R.jl,R.dl,R.dr,R.dd⟩
theorem cF.setO(R:cF a H r dx dn dq lo qa qd ql zs ss k m B)(o:List Int):cF a (upd H lo (.lst (o.map V.int))) r dx dn dq lo qa qd ql zs ss k m { B with o:=o }:=by
 have n1:r≠lo:=cE R.ro R.oo (by simp[cg]);have n2:dn≠lo:=cE R.no R.oo (by simp);have n3:dq≠lo:=cE R.qo R.oo (by simp);have n4:∀s∈ss,qa s≠lo:=λs hs=>cE (R.qu s hs) R.oo (by simp[cT]);exact⟨by rw[ae n1];exact R.ro,by rw[ae n2];exact R.no,by rw[ae n3];exact R.qo,ag,λs hs=>by rw[ae (n4 s hs)];exact R.qu s hs,λs hs=>by rw[ae (R.dl s hs)];exact R.qs s hs,R.ja,R.jl,R.dl,R.dr,R.dd⟩
theorem cF.setQ(R:cF a H r dx dn dq lo qa qd ql zs ss k m B){s:Str}(h:s∈ss)(xs:List Int):cF a (upd H (ql s) (.lst (xs.map V.int))) r dx dn dq lo qa qd ql zs ss k m { B with q:=λz=>if z=s then xs else B.q z }:=by
 have n1:r≠ql s:=cE R.ro (R.qs s h) (by simp[cg]);have n2:dn≠ql s:=cE R.no (R.qs s h) (by simp);have n3:dq≠ql s:=cE R.qo (R.qs s h) (by simp);have n4:∀t∈ss,qa t≠ql s:=λt ht=>cE (R.qu t ht) (R.qs s h) (by simp[cT]);refine⟨by rw[ae n1];exact R.ro,by rw[ae n2];exact R.no,by rw[ae n3];exact R.qo,by rw[ae (R.dl s h).symm];exact R.oo,λt ht=>by rw[ae (n4 t ht)];exact R.qu t ht,λt ht=>?_,R.ja,R.jl,R.dl,R.dr,R.dd⟩;by_cases e:t=s
 .subst e;rw[ag];simp
 .rw[ae (R.jl t ht s h e)];simp only[e,if_false];exact R.qs t ht
theorem cF.setG(R:cF a H r dx dn dq lo qa qd ql zs ss k m B){s:Str}(h:s∈ss)(g:Nat):cF a (upd H (qa s) (cT a (qd s) (ql s) g)) r dx dn dq lo qa qd ql zs ss k m { B with g:=λz=>if z=s then g else B.g z }:=by
 have n1:dn≠qa s:=cE R.no (R.qu s h) (by simp[cT]);have n2:dq≠qa s:=cE R.qo (R.qu s h) (by simp[cT]);have n3:lo≠qa s:=cE R.oo (R.qu s h) (by simp[cT]);have n4:∀t∈ss,ql t≠qa s:=λt ht=>cE (R.qs t ht) (R.qu s h) (by simp[cT]);refine⟨by rw[ae (R.dr s h).symm];exact R.ro,by rw[ae n1];exact R.no,by rw[ae n2];exact R.qo,by rw[ae n3];exact R.oo,λt ht=>?_,λt ht=>by rw[ae (n4 t ht)];exact R.qs t ht,R.ja,R.jl,R.dl,R.dr,R.dd⟩;by_cases e:t=s
 .subst e;rw[ag];simp
 .rw[ae (R.ja t ht s h e)];simp only[e,if_false];exact R.qu t ht
theorem cF.setR(R:cF a H r dx dn dq lo qa qd ql zs ss k m B)(k':Int):cF a (upd H r (cg a dx dn dq lo k' m)) r dx dn dq lo qa qd ql zs ss k' m B:=by
 have n1:dn≠r:=cE R.no R.ro (by simp[cg]);have n2:dq≠r:=cE R.qo R.ro (by simp[cg]);have n3:lo≠r:=cE R.oo R.ro (by simp[cg]);have n4:∀t∈ss,ql t≠r:=λt ht=>cE (R.qs t ht) R.ro (by simp[cg]);exact⟨ag,by rw[ae n1];exact R.no,by rw[ae n2];exact R.qo,by rw[ae n3];exact R.oo,λt ht=>by rw[ae (R.dr t ht)];exact R.qu t ht,λt ht=>by rw[ae (n4 t ht)];exact R.qs t ht,R.ja,R.jl,R.dl,R.dr,R.dd⟩
end
theorem ft{own:Addr->Prop}{H H1:Hp}{c:Addr}{o:HO}(h:dw own H H1)(hc:own c):dw own H (upd H1 c o):=λd x hd hx=>by
 rw[ae (λz=>hd (by rw[z];exact hc))];exact h d x hd hx
theorem fu{own:Addr->Prop}{H:Hp}:dw own H H:=λ_ _ _ h=>h
theorem Df(T:Tx P w K mg a):aB P w K mg base (CXX P w) 4 a.Iv a.Iw ["self","deed"] (zF a):=by
 refine T.Li.okX uh (λvs H Q E h=>?_) (λcdv A outer s H vs Q E hr h=>?_)
 .obtain⟨_,_,_,_,_,_,_,_,_,_,_,_,_,_,_,_,rfl,_⟩:=h
  rfl
 obtain⟨r,dx,dn,dq,lo,p,qa,qd,ql,zs,ss,k,m,B,n,d,rfl,R,hd,po,pl,nd,h8,sl,bo,n9,kv,kx⟩:=h
 refine⟨_,(ah (az (i:=2) uh.nd U Oi (ao aD (pq 1) ac Oy))
  (aj (aI (ay aM (pq 2) aP (au _)) (aj (je (hr.one) (bS (pq 0) U) (ao aD (pq 1) ac Oy) (aK (CU T) (hr.mono Yk) U T.KY T.JP.kp T.KW .nil aA (a9 (ao aD (pq 1) ac Oy) (a9 (eA (pq 0) T.ad T.Kj (vj T) (hr.mono Yk) T.JU .nil aA (a9 (ao aD (pq 1) ac Oy) af)) (a9 (eA (pq 0) T.ad T.Kj (vj T) (hr.mono Yk) T.JU .nil aA (a9 (ao aD (pq 1) ac Oy) af)) af)))) U)) (aj (aI (ay aM (pq 2) aP (au _)) (aj (bK (eA (fN hr.one (bS (pq 0) U) (ao aD (pq 1) ac Oy) Oy) T.pi T.LT (Dn T) (hr.mono Yk) T.KP .nil aA (a9 (fN hr.one (bS (pq 0) U) (ao aD (pq 1) ac Oy) Oy) af)))) (aj (aI (ay aM (pq 2) aP (au _)) (aj (je (hr.one) (bS (pq 0) U) (ao aD (pq 1) ac Oy) (eA (pq 0) T.ad T.M5 (Dc T) (hr.mono Yk) T.Lm .nil eY (a9 (ao aD (pq 1) ac Oy) af)) U)) (aj (bK (bY qk qG qH dE (bS (pq 0) U) (a9 (fN hr.one (bS (pq 0) U) (ao aD (pq 1) ac Oy) Oy) af))))))))))),?_⟩
 have own0:cU r dn lo qa ql ss dn:=.inr (.inl U);have ownO:cU r dn lo qa ql ss lo:=.inr (.inr (.inl U));have ownA:∀s∈ss,cU r dn lo qa ql ss (qa s):=λs hs=>.inr (.inr (.inr ⟨s,hs,.inl U⟩));have ownL:∀s∈ss,cU r dn lo qa ql ss (ql s):=λs hs=>.inr (.inr (.inr ⟨s,hs,.inr U⟩))
 have numN:∀x∈zs,cH H dn (.str x) (some (.int (B.f x))):=λx hx=>by
  have:=cH.k (k:=.inr x) R.no;rw[iU hx]at this;exact this
 cases d with
 |cond _ _ _=>exact pl.elim
 |whl _ _=>exact pl.elim
 |rep _ _=>exact pl.elim
 |set x va sg vb=>
  obtain⟨hx,ha,hb⟩:=po
  have na:∀y∈va.names,y∈zs:=λy hy=>by
   cases va with
   |num n=>simp[Val.names]at hy
   |nm z=>rw[Q4.mp hy];exact ha
  have nb:∀y∈vb.names,y∈zs:=λy hy=>by
   cases vb with
   |num n=>simp[Val.names]at hy
   |nm z=>rw[Q4.mp hy];exact hb
  cases hd with
  |set h=>
   refine⟨_,U,_,_,_,_,U,U,SqT.of h,U,?_⟩;refine⟨_,U,U,_,U,?_⟩;walk_at "yes";refine⟨_,U,_,_,_,_,U,U,SqT.of h,U,?_⟩;refine⟨_,U,r,_,_,U,R.ro,cX Yd,_,U,_,_,_,_,U,U,SqT.of h,U,r,dx,dn,dq,lo,k,m,va,zs,B.f,U,R.ro,R.no,na,?_⟩;refine⟨_,U,r,_,_,U,R.ro,cX Yd,_,U,_,_,_,_,U,U,SqT.of h,U,r,dx,dn,dq,lo,k,m,vb,zs,B.f,U,R.ro,R.no,nb,?_⟩;refine⟨_,_,_,U,jM bo.on ha,jM bo.on hb,?_⟩;refine⟨_,U,r,_,_,_,_,U,R.ro,T.ad,T.At,g9,_,U,_,_,_,_,U,U,SqT.of h,U,dn,_,U,.inl ⟨_,.inr _,R.no,U,by rw[jP];exact aR (m:=20000) Yo,U⟩,?_⟩;rw[lE nd,show jC zs _=zs from Qc hx];exact kv _ _ U (ft fu own0) (R.setN _)
 |put st x=>
  obtain⟨hs,hx⟩:=po
  cases hd with
  |put h=>
   refine⟨_,U,_,_,_,_,U,U,SqT.of h,U,?_⟩;refine⟨_,U,U,_,U,?_⟩;walk_at "no";refine⟨_,U,U,_,U,?_⟩;walk_at "yes"
   have hget:cH H dq (.str st) (some (.ref (qa st))):=by
    have:=cH.k (k:=.inr st) R.qo;rw[jQ hs]at this;exact this
   refine⟨_,U,r,_,_,_,_,U,R.ro,T.ad,T.GH,kA,_,U,_,_,_,_,U,U,SqT.of h,U,dq,_,U,hget,qa st,_,_,U,R.qu st hs,kE Yd,?_⟩;refine⟨_,U,r,_,_,_,_,U,R.ro,T.ad,T.At,g9,_,U,_,_,_,_,U,U,SqT.of h,U,dn,_,U,numN x hx,?_⟩;have:=bo.ql st;exact⟨qa st,_,_,_,_,_,U,R.qu st hs,R.qs st hs,Yo,kv _ _ U (ft fu (ownL st hs)) (R.setQ hs _)⟩
 |get st x=>
  obtain⟨hs,hx⟩:=po
  cases hd with
  |get h=>
   refine⟨_,rfl,_,_,_,_,rfl,rfl,SqT.of h,rfl,?_⟩;refine⟨_,rfl,rfl,_,rfl,?_⟩;walk_at "no";refine⟨_,rfl,rfl,_,rfl,?_⟩;walk_at "no";refine⟨_,rfl,rfl,_,rfl,?_⟩;walk_at "yes";refine⟨_,rfl,r,_,_,rfl,R.ro,cX Yd,_,rfl,_,_,_,_,rfl,rfl,SqT.of h,rfl,r,dx,dn,dq,lo,qa,qd,ql,zs,ss,k,m,B,n,st,rfl,R,hs,sl st hs,bo,λv ev=>?_,λen=>?_⟩
   .have R2:=R.setG hs (B.g st+1);have np:p≠qa st:=cE h (R.qu st hs) (by simp[cT]);have h2:upd H (qa st) (cT a (qd st) (ql st) (B.g st+1)) p=some (.tup [.str "get",.str st,.str x]):=by rw[ae np];exact h
    refine⟨_,U,r,_,_,_,_,U,R2.ro,T.ad,T.At,g9,_,U,_,_,_,_,U,U,SqT.of h2,U,dn,_,U,.inl ⟨_,.inr _,R2.no,U,by rw[jP];exact aR (m:=20000) Yo,U⟩,?_⟩;rw[lE nd,show jC zs _=zs from Qc hx];exact kv _ _ (by unfold stp;dsimp only;rw[ev]) (ft (ft fu (ownA st hs)) own0) (R2.setN _)
   .exact kx (by unfold stp;dsimp only;rw[en])
 |give x=>
  have hx:=po
  cases hd with
  |give h=>
   refine⟨_,U,_,_,_,_,U,U,SqT.of h,U,?_⟩;refine⟨_,U,U,_,U,?_⟩;walk_at "no";refine⟨_,U,U,_,U,?_⟩;walk_at "no";refine⟨_,U,U,_,U,?_⟩;walk_at "no";refine⟨_,U,r,_,_,_,_,U,R.ro,T.ad,T.Jv,uq,.inl ⟨U,_,SqL.of R.oo⟩,?_⟩;refine⟨_,U,r,_,_,_,_,U,R.ro,T.ad,T.At,g9,_,U,_,_,_,_,U,U,SqT.of h,U,dn,_,U,numN x hx,?_⟩;have:=bo.ol;refine⟨lo,_,_,U,U,R.oo,aR (m:=20000) (by rw[qc];omega),?_⟩;rw[show B.o.map V.int++[V.int (B.f x)]=(B.o++[B.f x]).map V.int by rw[qY];rfl];exact kv _ _ U (ft fu ownO) (R.setO _)
theorem Dg(T:Tx P w K mg a){n L:Nat}(l4:4<=L)(hB:aB P w K mg base (CXX P w) L a.Cl a.Cn ["self","block"] (i7 a n)):aB P w K mg base (CXX P w) (L+1) a.GM a.GN ["self","name","then","other"] (tM a (n+1)):=by
 refine T.La.okX AD (λvs H Q E h=>?_) (λcdv A outer s H vs Q E hr h=>?_)
 .obtain⟨_,_,_,_,_,_,_,_,_,_,_,_,_,_,_,_,_,_,_,rfl,_⟩:=h
  rfl
 obtain⟨H0,r,dx,dn,dq,lo,t,o,qa,qd,ql,zs,ss,k,m,B,x,ts,os,rfl,R,ht,ho,bo,dp,kt,kf,kx⟩:=h
 refine⟨_,(ah (aI (dg (cq (fi (pq 0) T.ad T.GG (jj T) (hr.mono Yo) T.GC .nil aA))) (aj (ar bZ)) aO)
  (aj (ar (eA (pq 0) T.ad T.Hi hB (hr.mono Yo) T.He .nil eY (a9 (eI (ay aM (fN hr.one (bS (pq 0) U) (pq 1) Oy) ac (au _)) (pq 3) (pq 2)) af))))),?_⟩
 have hx:x∈zs:=bo.head.1
 have numN:cH (upd H r (cg a dx dn dq lo (k+1) m)) dn (.str x) (some (.int (B.f x))):=by
  have:=cH.k (k:=.inr x) (R.dz.setR (k+1)).no;rw[iU hx]at this;exact this
 refine⟨_,U,r,_,_,U,R.dz.ro,cX Yd,r,dx,dn,dq,lo,k,m,U,R.dz.ro,λc=>?_,λc=>?_⟩
 .obtain rfl:k=m:=by have:=R.km;omega
  exact⟨_,U,aX U (kf B H (λr' p'=>⟨_,.refl,trivial⟩) fu R)⟩
 .have R2:du a H0 (upd H r (cg a dx dn dq lo (k+1) m)) r dx dn dq lo qa qd ql zs ss (k+1) m B:=⟨aa.over R.same (R.own r (.inl U)),R.own,R.dz.setR _,R.bk.up,Yo,R.m9,R.nd,R.few,R.sl⟩;have kp:dw (cU r dn lo qa ql ss) H (upd H r (cg a dx dn dq lo (k+1) m)):=ft fu (.inl U);have go:∀r' p',bw m (onD (.cond x ts os) r' p') B k (onB (if B.f x=0 then os else ts) r' (gm r' p')) B (k+1):=λr' p'=>.step Yo U .refl;refine⟨_,U,aG U ?_⟩
  have fin:∀(ds:List a8)(b:Addr),RL H0 b ds->cZ zs ss ds->aH ds<n->ds=(if B.f x=0 then os else ts)->i7 a n [.ref r,.ref b] (upd H r (cg a dx dn dq lo (k+1) m)) Q E:=λds b hb bb dd e=>by
   subst e
   exact⟨H0,r,dx,dn,dq,lo,b,qa,qd,ql,zs,ss,k+1,m,B,_,U,R2,hb,bb,dd,λB' k' H' g kp' R'=>kt B' k' H' (λr' p'=>(go r' p').trans (g r' (gm r' p'))) (λc o hc h=>kp' c o hc (kp c o hc h)) R',λB' H' g kp' R'=>kf B' H' (λr' p'=>by
    obtain⟨S,g1,g2⟩:=g r' (gm r' p')
    exact⟨S,(go r' p').trans g1,g2⟩) (λc o hc h=>kp' c o hc (kp c o hc h)) R',λB' k' H' y g kk kp' hy=>kx B' k' H' y (λr' p'=>by
    obtain⟨S,g1,g2⟩:=g r' (gm r' p')
    exact⟨S,(go r' p').trans g1,g2⟩) kk (λc o hc h=>kp' c o hc (kp c o hc h)) hy⟩
  have dd:max (aH ts) (aH os)+1<n+1:=dp;refine⟨_,U,r,_,_,U,R2.dz.ro,cX Yd,_,U,r,_,_,_,_,U,R2.dz.ro,T.ad,T.At,g9,_,U,dn,_,U,numN,U,_,U,be (λc=>?_) (λc=>?_)⟩
  .have z:B.f x=0:=by rw[iM]at c;simpa using c
   exact⟨_,U,fin os o ho (bo.head.2.2 os (by simp[a8.inner])) Yo (by rw[Qc z])⟩
  .have z:¬ B.f x=0:=by rw[iM]at c;simpa using c
   exact⟨_,U,fin ts t ht (bo.head.2.2 ts (by simp[a8.inner])) Yo (by rw[Qb z])⟩
theorem BN{m k:Nat}{c:Option Int}{p:List Pf}{B:Bk}:bw m (⟨[],c⟩::p) B k p B k:=.pop .refl
theorem Di(T:Tx P w K mg a){n L:Nat}(l4:4<=L)(hD:aB P w K mg base (CXX P w) L a.GK a.GL ["self","deed"] (tN a n)):aB P w K mg base (CXX P w) (L+1) a.Cl a.Cn ["self","block"] (i7 a n):=by
 refine T.JS.okX lZ (λvs H Q E h=>?_) (λcdv A outer s H vs Q E hr h=>?_)
 .obtain⟨_,_,_,_,_,_,_,_,_,_,_,_,_,_,_,_,rfl,_⟩:=h
  rfl
 obtain⟨H0,r,dx,dn,dq,lo,b,qa,qd,ql,zs,ss,k,m,B,ds,rfl,R,hb,bo,dp,kt,kf,kx⟩:=h
 refine⟨_,(ah (cM PassesOwn.leaving U (cD (pq 1)) (aW (i:=2) lZ.nd U Oi)
  (aj (aI (dg (cq (eA (pq 0) T.ad T.LY hD (hr.mono Yo) T.L9 .nil eY (a9 (pq 2) af)))) (aj (ar bZ)) aO)))
  (aj (ar bZ))),?_⟩
 obtain⟨hb1,hds⟩:=hb;rename_i us
 have each:∀{ds:List a8}{i:Nat}{d:a8},ds[i]?=some d->cZ zs ss ds->aH ds<n->cZ zs ss [d]/\d.depth<n:=by
  intro ds
  induction ds with
  |nil=>intro i d h;simp at h
  |cons e r ih=>
   intro i d h hb hd;rw[aH]at hd
   cases i with
   |zero=>
    simp at h;subst h;refine⟨λy hy=>hb y ?_,Yo⟩;rw[ai,ai,qI]at hy;rw[ai];exact qp.mpr (.inl hy)
   |succ i=>exact ih (by simpa using h) hb.head.2.1 Yo
 refine⟨_,U,b,U,⟨_,SqL.of (R.same _ _ hb1)⟩,?_⟩;refine eD (K:=K) (a:=b) (xs:=us) (λi Y H2=>∃v B2 k2,Y=[some (.ref r),some (.ref b),v]/\dw (cU r dn lo qa ql ss) H H2/\du a H0 H2 r dx dn dq lo qa qd ql zs ss k2 m B2/\∀p',bw m (⟨ds,none⟩::p') B k (⟨ds.drop i,none⟩::p') B2 k2) ⟨_,B,k,U,fu,R,λp'=>.refl⟩ ?_ ?_ ?_
 .rintro i Y H2 _ ⟨v,B2,k2,_,kp,R2,_⟩;exact SqL.of (R2.same _ _ hb1)
 .rintro i x Y H2 hx ⟨v,B2,k2,rfl,kp,R2,go⟩;obtain⟨d,hd,hrd⟩:=hds.at i x hx;have il:i<ds.length:=(qj.mp hd).1
  have dr:ds.drop i=d::ds.drop (i+1):=by
   rw[List.drop_eq_getElem_cons il]
   congr 1
   rw[qg il]at hd;exact qT hd
  obtain⟨b1,d1⟩:=each hd bo dp;have ref:∃p,x=.ref p:=by cases hrd<;>exact⟨_,U⟩
  obtain⟨p,rfl⟩:=ref;rw[dr]at go;refine⟨_,U,r,_,_,U,R2.dz.ro,cX Yd,_,U,H0,r,dx,dn,dq,lo,p,qa,qd,ql,zs,ss,k2,m,B2,d,U,R2,hrd,b1,d1,λB' k' H' g kp' R'=>?_,λB' H' g kp' R'=>?_,λB' k' H' y g kk kp' hy=>?_⟩
  .exact⟨_,U,aG U ⟨_,B',k',U,λc o hc h=>kp' c o hc (kp c o hc h),R',λp'=>(go p').trans (g _ p')⟩⟩
  .refine⟨_,U,aX U (kf B' H' (λr' p'=>?_) (λc o hc h=>kp' c o hc (kp c o hc h)) R')⟩;obtain⟨S,g1,g2⟩:=g (ds.drop (i+1)) p';exact⟨S,(go p').trans g1,g2⟩
  .refine kx B' k' H' y (λr' p'=>?_) kk (λc o hc h=>kp' c o hc (kp c o hc h)) hy;obtain⟨S,g1,g2⟩:=g (ds.drop (i+1)) p';exact⟨S,(go p').trans g1,g2⟩
 .rintro Y H2 ⟨v,B2,k2,rfl,kp,R2,go⟩;rw[hds.len,List.drop_length]at go;exact kt B2 k2 H2 (λr' p'=>(go p').trans BN) kp R2
theorem Dh(T:Tx P w K mg a){n L:Nat}(l4:4<=L)(hI:aB P w K mg base (CXX P w) L a.GM a.GN ["self","name","then","other"] (tM a n))(hW:aB P w K mg base (CXX P w) L a.GO a.GP ["self","name","body"] (tJ a n))(hR:aB P w K mg base (CXX P w) L a.GQ a.GR ["self","rounds","body"] (tL a n)):aB P w K mg base (CXX P w) (L+1) a.GK a.GL ["self","deed"] (tN a n):=by
 refine T.L8.okX ui (λvs H Q E h=>?_) (λcdv A outer s H vs Q E hr h=>?_)
 .obtain⟨_,_,_,_,_,_,_,_,_,_,_,_,_,_,_,_,rfl,_⟩:=h
  rfl
 obtain⟨H0,r,dx,dn,dq,lo,p,qa,qd,ql,zs,ss,k,m,B,d,rfl,R,hd,bo,dp,com⟩:=h
 refine⟨_,(ah (az (i:=2) ui.nd U Oi (ao aD (pq 1) ac Oy))
  (ah (aI (ay aM (pq 2) aP (au _)) (aj (ar (eA (pq 0) T.ad T.LZ hI (hr.mono Yo) T.Lb .nil eY (a9 (ao aD (pq 1) ac Oy) (a9 (ao aD (pq 1) ac Oy) (a9 (ao aD (pq 1) ac Oy) af)))))) aO)
  (ah (aI (ay aM (pq 2) aP (au _)) (aj (ar (eA (pq 0) T.ad T.M1 hW (hr.mono Yo) T.Ld .nil eY (a9 (ao aD (pq 1) ac Oy) (a9 (ao aD (pq 1) ac Oy) af))))) aO)
  (ah (aI (ay aM (pq 2) aP (au _)) (aj (ar (eA (pq 0) T.ad T.M3 hR (hr.mono Yo) T.Lf .nil eY (a9 (ao aD (pq 1) ac Oy) (a9 (ao aD (pq 1) ac Oy) af))))) aO)
  (ah (aI (cq (fi (pq 0) T.ad T.Ki (vk T) (hr.mono Yo) T.JT .nil aA)) (aj (ar bZ)) aO)
  (ah (bK (eA (pq 0) T.ad T.M4 (Df T) (hr.mono Yo) T.Lj .nil eY (a9 (pq 1) af)))
  (aj (ar (fi (pq 0) T.ad T.GG (jj T) (hr.mono Yo) T.GC .nil aA))))))))),?_⟩
 have plain:oA d->∃kd xs,H p=some (.tup (.str kd::xs))/\kd≠("if":Str)/\kd≠("while":Str)/\kd≠("repeat":Str):=λpl=>by
  cases hd with
  |set h=>exact⟨_,_,R.same _ _ h,Yd,Yd,Yd⟩
  |put h=>exact⟨_,_,R.same _ _ h,Yd,Yd,Yd⟩
  |get h=>exact⟨_,_,R.same _ _ h,Yd,Yd,Yd⟩
  |give h=>exact⟨_,_,R.same _ _ h,Yd,Yd,Yd⟩
  |cond=>exact pl.elim
  |whl=>exact pl.elim
  |rep=>exact pl.elim
 by_cases pl:oA d
 .obtain⟨kd,xs,h,i1,i2,i3⟩:=plain pl;have ne:∀x:Str,kd≠x->decide (V.str kd=V.str x)=false:=λx hx=>Qe λz=>hx (by injection z);refine⟨_,U,_,_,_,_,U,U,SqT.of h,cy (j:=0) U,?_⟩;refine⟨_,U,U,_,U,aG (ne _ i1) ?_⟩;refine⟨_,U,U,_,U,aG (ne _ i2) ?_⟩;refine⟨_,U,U,_,U,aG (ne _ i3) ?_⟩;obtain⟨kt,kf,kx⟩:=com;refine⟨_,U,r,_,_,U,R.dz.ro,cX Yd,r,dx,dn,dq,lo,k,m,U,R.dz.ro,_,U,be (λc=>?_) (λc=>?_)⟩
  .have c:=Qn c;obtain rfl:k=m:=by have:=R.km;omega
   exact kf B H (λr' p'=>⟨_,.refl,trivial⟩) fu R
  have lt:k<m:=by
   rcases Nat.lt_or_ge k m with z|z
   .exact z
   .exact Qf (Qd Yo) c
  have km:=R.km;have m9:=R.m9
  have st:∀r' p',cL B d r' none p'=(stp B d).map λB'=>(⟨r',none⟩::p',B'):=λr' p'=>by
   cases d<;>first|rfl|exact pl.elim
  refine⟨_,U,r,_,_,U,R.dz.ro,cX Yd,_,U,r,dx,dn,dq,lo,p,qa,qd,ql,zs,ss,k,m,B,k,d,U,R.dz,hd.same R.same,bo.head.1,pl,R.nd,R.few,R.sl,R.bk,Yo,λB' H' e kp R'=>?_,λe H' y s' hy=>?_⟩
  .refine⟨_,U,r,_,_,U,R'.ro,cX Yd,r,dx,dn,dq,lo,k,m,U,R'.ro,λc=>Yo,λ_=>?_⟩;have kp2:=ft (o:=cg a dx dn dq lo (k+1) m) kp (.inl U);refine kt B' (k+1) _ (λr' p'=>.step lt (by rw[st,e];rfl) .refl) kp2 ⟨λc o hc=>kp2 c o (λz=>by rw[R.own c z]at hc;cases hc) (R.same c o hc),R.own,R'.setR _,zg R.bk bo.head.1 e,Yo,R.m9,R.nd,R.few,R.sl⟩
  .exact kx B k H' y (λr' p'=>⟨_,.refl,by show cL B d r' none p'=none;rw[st,e];rfl⟩) lt (λc o _ h=>s' c o h) hy
 .cases hd with
  |set=>exact(pl trivial).elim
  |put=>exact(pl trivial).elim
  |get=>exact(pl trivial).elim
  |give=>exact(pl trivial).elim
  |cond h ht ho=>
   have h:=R.same _ _ h;refine⟨_,U,_,_,_,_,U,U,SqT.of h,cy (j:=0) U,?_⟩;refine⟨_,U,U,_,U,aX Yd ?_⟩;exact⟨_,U,r,_,_,U,R.dz.ro,cX Yd,_,U,_,_,_,_,U,U,SqT.of h,cy (j:=1) U,_,U,_,_,_,_,U,U,SqT.of h,cy (j:=2) U,_,U,_,_,_,_,U,U,SqT.of h,cy (j:=3) U,H0,r,dx,dn,dq,lo,_,_,qa,qd,ql,zs,ss,k,m,B,_,_,_,U,R,ht,ho,bo,dp,com⟩
  |whl h hb=>
   have h:=R.same _ _ h;refine⟨_,U,_,_,_,_,U,U,SqT.of h,cy (j:=0) U,?_⟩;refine⟨_,U,U,_,U,aG Yd ?_⟩;refine⟨_,U,U,_,U,aX Yd ?_⟩;exact⟨_,U,r,_,_,U,R.dz.ro,cX Yd,_,U,_,_,_,_,U,U,SqT.of h,cy (j:=1) U,_,U,_,_,_,_,U,U,SqT.of h,cy (j:=2) U,H0,r,dx,dn,dq,lo,_,qa,qd,ql,zs,ss,k,m,B,_,_,U,R,hb,bo,dp,com⟩
  |rep h hb=>
   have h:=R.same _ _ h;refine⟨_,U,_,_,_,_,U,U,SqT.of h,cy (j:=0) U,?_⟩;refine⟨_,U,U,_,U,aG Yd ?_⟩;refine⟨_,U,U,_,U,aG Yd ?_⟩;refine⟨_,U,U,_,U,aX Yd ?_⟩;exact⟨_,U,r,_,_,U,R.dz.ro,cX Yd,_,U,_,_,_,_,U,U,SqT.of h,cy (j:=1) U,_,U,_,_,_,_,U,U,SqT.of h,cy (j:=2) U,H0,r,dx,dn,dq,lo,_,qa,qd,ql,zs,ss,k,m,B,_,_,U,R,hb,bo,dp,com⟩
theorem De(T:Tx P w K mg a){n L:Nat}(l4:4<=L)(hB:aB P w K mg base (CXX P w) L a.Cl a.Cn ["self","block"] (i7 a n)):aB P w K mg base (CXX P w) (L+1) a.GQ a.GR ["self","rounds","body"] (tL a (n+1)):=by
 refine T.Le.okX ug (λvs H Q E h=>?_) (λcdv A outer s H vs Q E hr h=>?_)
 .obtain⟨_,_,_,_,_,_,_,_,_,_,_,_,_,_,_,_,_,rfl,_⟩:=h
  rfl
 obtain⟨H0,r,dx,dn,dq,lo,b,qa,qd,ql,zs,ss,k,m,B,c,bs,rfl,R,hb,bo,dp,kt,kf,kx⟩:=h
 refine⟨_,(ah (cM PassesOwn.leaving U (iw U T.Gw (a9 (pq 1) af)) (aW (i:=3) ug.nd U Oi)
  (aj (aI (PW.pt (dF (dg (cq (fi (pq 0) T.ad T.GG (jj T) (hr.mono Yo) T.GC .nil aA))) (eU (dg (cq (eA (pq 0) T.ad T.Hi hB (hr.mono Yo) T.He .nil eY (a9 (pq 2) af))))))) (aj (ar bZ)) aO)))
  (aj (ar (fi (pq 0) T.ad T.GG (jj T) (hr.mono Yo) T.GC .nil aA)))),?_⟩
 have hc:0<=c/\c<=1000:=bo.head.1;have dd:aH bs+1<n+1:=dp;have bb:cZ zs ss bs:=bo.head.2.2 bs (by simp[a8.inner]);have km:=R.km;have up:∀{k2:Nat}{B2:Bk}{H2:Hp},k2<m->du a H0 H2 r dx dn dq lo qa qd ql zs ss k2 m B2->du a H0 (upd H2 r (cg a dx dn dq lo (k2+1) m)) r dx dn dq lo qa qd ql zs ss (k2+1) m B2:=λ{k2 B2 H2} lt R2=>⟨aa.over R2.same (R2.own r (.inl U)),R2.own,R2.dz.setR _,R2.bk.up,Yo,R2.m9,R2.nd,R2.few,R2.sl⟩;refine⟨_,U,c,U,Yo,Yo,jt (λi Y H2=>∃v B2 k2 ci,Y=[some (.ref r),some (.int c),some (.ref b),v]/\dw (cU r dn lo qa ql ss) H H2/\du a H0 H2 r dx dn dq lo qa qd ql zs ss k2 m B2/\Option.getD ci c=c-i/\∀r' p',bw m (⟨.rep c bs::r',none⟩::p') B k (⟨.rep c bs::r',ci⟩::p') B2 k2) ⟨_,B,k,none,U,fu,R,by show c=c-0;omega,λr' p'=>.refl⟩ ?_ ?_⟩
 .rintro i Y H2 hi ⟨v,B2,k2,ci,rfl,kp,R2,hci,go⟩;have km2:=R2.km;refine⟨_,U,r,_,_,U,R2.dz.ro,cX Yd,r,dx,dn,dq,lo,k2,m,U,R2.dz.ro,λz=>?_,λz=>?_⟩
  .obtain rfl:k2=m:=by omega
   exact⟨_,U,aX U (aX U (kf B2 H2 (λr' p'=>⟨_,go r' p',trivial⟩) kp R2))⟩
  .have lt:k2<m:=by omega
   have R3:=up lt R2;have kp3:dw (cU r dn lo qa ql ss) H (upd H2 r (cg a dx dn dq lo (k2+1) m)):=ft kp (.inl U);have go3:∀r' p',bw m (⟨.rep c bs::r',none⟩::p') B k (⟨bs,none⟩::⟨.rep c bs::r',some (c-i-1)⟩::p') B2 (k2+1):=λr' p'=>(go r' p').trans (.step lt (by unfold cL;dsimp only;rw[hci,Qc Yo]) .refl);refine⟨_,U,aG U ?_⟩;refine⟨_,U,r,_,_,U,R3.dz.ro,cX Yd,_,U,H0,r,dx,dn,dq,lo,b,qa,qd,ql,zs,ss,k2+1,m,B2,bs,U,R3,hb,bb,Yo,λB' k' H' g kp' R'=>?_,λB' H' g kp' R'=>?_,λB' k' H' y g kk kp' hy=>?_⟩
   .exact⟨_,U,aG U ⟨_,B',k',some (c-i-1),U,λc o hc h=>kp' c o hc (kp3 c o hc h),R',by show c-i-1=c-((i+1:Nat):Int);omega,λr' p'=>(go3 r' p').trans (g r' (⟨.rep c bs::r',some (c-i-1)⟩::p'))⟩⟩
   .refine⟨_,U,aX U (kf B' H' (λr' p'=>?_) (λc o hc h=>kp' c o hc (kp3 c o hc h)) R')⟩;obtain⟨S,g1,g2⟩:=g r' (⟨.rep c bs::r',some (c-i-1)⟩::p');exact⟨S,(go3 r' p').trans g1,g2⟩
   .refine kx B' k' H' y (λr' p'=>?_) kk (λc o hc h=>kp' c o hc (kp3 c o hc h)) hy;obtain⟨S,g1,g2⟩:=g r' (⟨.rep c bs::r',some (c-i-1)⟩::p');exact⟨S,(go3 r' p').trans g1,g2⟩
 .rintro Y H2 ⟨v,B2,k2,ci,rfl,kp,R2,hci,go⟩;have km2:=R2.km;refine⟨_,U,r,_,_,U,R2.dz.ro,cX Yd,r,dx,dn,dq,lo,k2,m,U,R2.dz.ro,λz=>?_,λz=>?_⟩
  .obtain rfl:k2=m:=by omega
   exact kf B2 H2 (λr' p'=>⟨_,go r' p',trivial⟩) kp R2
  .have lt:k2<m:=by omega
   refine kt B2 (k2+1) _ (λr' p'=>(go r' p').trans (.step lt ?_ .refl)) (ft kp (.inl U)) (up lt R2);unfold cL;dsimp only;rw[hci,Qb Yo]
   rfl
theorem Dd(T:Tx P w K mg a){n L:Nat}(l4:4<=L)(hB:aB P w K mg base (CXX P w) L a.Cl a.Cn ["self","block"] (i7 a n)):aB P w K mg base (CXX P w) (L+1) a.GO a.GP ["self","name","body"] (tJ a (n+1)):=by
 refine T.Lc.okX AB (λvs H Q E h=>?_) (λcdv A outer s H vs Q E hr h=>?_)
 .obtain⟨_,_,_,_,_,_,_,_,_,_,_,_,_,_,_,_,_,rfl,_⟩:=h
  rfl
 obtain⟨H0,r,dx,dn,dq,lo,b,qa,qd,ql,zs,ss,k,m,B,x,bs,rfl,R,hb,bo,dp,kt,kf,kx⟩:=h
 refine⟨_,(ah (BK PassesOwn.leaving (cq (fi (pq 0) T.ad T.GG (jj T) (hr.mono Yo) T.GC .nil aA)) (ah (aI (ay aM (fN hr.one (bS (pq 0) U) (pq 1) Oy) ac (au _)) (aj (ar bZ)) aO)
  (aj (aI (dg (cq (eA (pq 0) T.ad T.Hi hB (hr.mono Yo) T.He .nil eY (a9 (pq 2) af)))) (aj (ar bZ)) aO))))
  (aj (ar bZ))),?_⟩
 have hx:x∈zs:=bo.head.1;have dd:aH bs+1<n+1:=dp;have bb:cZ zs ss bs:=bo.head.2.2 bs (by simp[a8.inner]);refine⟨λj Y H2=>∃B2 k2,j=m-k2/\Y=[some (.ref r),some (.str x),some (.ref b)]/\dw (cU r dn lo qa ql ss) H H2/\du a H0 H2 r dx dn dq lo qa qd ql zs ss k2 m B2/\∀r' p',bw m (⟨.whl x bs::r',none⟩::p') B k (⟨.whl x bs::r',none⟩::p') B2 k2,⟨_,B,k,U,U,fu,R,λr' p'=>.refl⟩,?_⟩;rintro j Y H2 ⟨B2,k2,rfl,rfl,kp,R2,go⟩;have km2:=R2.km;refine⟨_,U,r,_,_,U,R2.dz.ro,cX Yd,r,dx,dn,dq,lo,k2,m,U,R2.dz.ro,λz=>?_,λz=>?_⟩
 .obtain rfl:k2=m:=by omega
  exact⟨_,U,aG U (kf B2 H2 (λr' p'=>⟨_,go r' p',trivial⟩) kp R2)⟩
 have lt:k2<m:=Yo;have R3:du a H0 (upd H2 r (cg a dx dn dq lo (k2+1) m)) r dx dn dq lo qa qd ql zs ss (k2+1) m B2:=⟨aa.over R2.same (R2.own r (.inl U)),R2.own,R2.dz.setR _,R2.bk.up,Yo,R2.m9,R2.nd,R2.few,R2.sl⟩;have kp3:dw (cU r dn lo qa ql ss) H (upd H2 r (cg a dx dn dq lo (k2+1) m)):=ft kp (.inl U)
 have numN:cH (upd H2 r (cg a dx dn dq lo (k2+1) m)) dn (.str x) (some (.int (B2.f x))):=by
  have:=cH.k (k:=.inr x) R3.dz.no;rw[iU hx]at this;exact this
 refine⟨_,U,aX U ⟨λY H4=>∃B4 k4,k2<k4/\Y=[some (.ref r),some (.str x),some (.ref b)]/\dw (cU r dn lo qa ql ss) H H4/\du a H0 H4 r dx dn dq lo qa qd ql zs ss k4 m B4/\∀r' p',bw m (⟨.whl x bs::r',none⟩::p') B k (⟨.whl x bs::r',none⟩::p') B4 k4,?_,?_⟩⟩
 .rintro Y' H' ⟨B4,k4,l4,rfl,kp4,R4,go4⟩;have:=R4.km;exact⟨m-k4,Yo,B4,k4,U,U,kp4,R4,go4⟩
 refine⟨_,U,r,_,_,_,_,U,R3.dz.ro,T.ad,T.At,g9,_,U,dn,_,U,numN,U,_,U,be (λc=>?_) (λc=>?_)⟩
 .have z:B2.f x=0:=by rw[iM]at c;simpa using c
  exact kt B2 (k2+1) _ (λr' p'=>(go r' p').trans (.step lt (by unfold cL;dsimp only;rw[Qc z];rfl) .refl)) kp3 R3
 .have z:¬ B2.f x=0:=by rw[iM]at c;simpa using c
  have go3:∀r' p',bw m (⟨.whl x bs::r',none⟩::p') B k (⟨bs,none⟩::⟨.whl x bs::r',none⟩::p') B2 (k2+1):=λr' p'=>(go r' p').trans (.step lt (by unfold cL;dsimp only;rw[Qb z]) .refl);refine⟨_,U,r,_,_,U,R3.dz.ro,cX Yd,_,U,H0,r,dx,dn,dq,lo,b,qa,qd,ql,zs,ss,k2+1,m,B2,bs,U,R3,hb,bb,Yo,λB' k' H' g kp' R'=>?_,λB' H' g kp' R'=>?_,λB' k' H' y g kk kp' hy=>?_⟩
  .exact⟨_,U,aG U ⟨B',k',by have:=(g [] [⟨.whl x bs::[],none⟩]).le;omega,U,λc o hc h=>kp' c o hc (kp3 c o hc h),R',λr' p'=>(go3 r' p').trans (g r' (⟨.whl x bs::r',none⟩::p'))⟩⟩
  .refine⟨_,U,aX U (kf B' H' (λr' p'=>?_) (λc o hc h=>kp' c o hc (kp3 c o hc h)) R')⟩;obtain⟨S,g1,g2⟩:=g r' (⟨.whl x bs::r',none⟩::p');exact⟨S,(go3 r' p').trans g1,g2⟩
  .refine kx B' k' H' y (λr' p'=>?_) kk (λc o hc h=>kp' c o hc (kp3 c o hc h)) hy;obtain⟨S,g1,g2⟩:=g r' (⟨.whl x bs::r',none⟩::p');exact⟨S,(go3 r' p').trans g1,g2⟩
theorem D1(T:Tx P w K mg a):∀n:Nat,aB P w K mg base (CXX P w) (3 * n+4) a.Cl a.Cn ["self","block"] (i7 a n):=by
 intro n
 induction n with
 |zero=>
  refine T.JS.okX lZ (λvs H Q E h=>?_) (λcdv A outer s H vs Q E hr h=>?_)
  .obtain⟨_,_,_,_,_,_,_,_,_,_,_,_,_,_,_,_,rfl,_⟩:=h
   rfl
  obtain⟨_,_,_,_,_,_,_,_,_,_,_,_,_,_,_,_,_,_,_,_,dp,_⟩:=h;exact Qf dp (QJ _)
 |succ n ih=>exact Di T Yo (Dh T Yo (Dg T Yo ih) (Dd T Yo ih) (De T Yo ih))
theorem jL.add{a:Adr}{H H1 H2:Hp}{qa qd ql:Str->Addr}{ss:List Str}(F:jL a H H1 qa qd ql ss)(e:aa H1 H2){s:Str}(hs:s∉ss){p d l:Addr}(np:H1 p=none)(nl:H1 l=none)(np0:H p=none)(nl0:H l=none)(h1:H2 p=some (cT a d l 0))(h2:H2 l=some (.lst [])):
 jL a H H2 (λz=>if z=s then p else qa z) (λz=>if z=s then d else qd z) (λz=>if z=s then l else ql z) (ss++[s]):=by
 have ne:∀z∈ss,z≠s:=λz hz e=>hs (e▸hz);have cs:∀z∈ss++[s],z∈ss\/z=s:=λz hz=>by simpa using hz
 have pa:∀z∈ss,p≠qa z:=λz hz e=>by rw[e,F.qu z hz]at np;cases np
 have pl:∀z∈ss,l≠ql z:=λz hz e=>by rw[e,F.qs z hz]at nl;cases nl
 refine⟨λz hz=>?_,λz hz=>?_,λz hz=>?_,λz hz=>?_,λz hz t ht zt=>?_,λz hz t ht zt=>?_⟩
 .rcases cs z hz with q|q
  .simp only[ne z q,if_false];exact e _ _ (F.qu z q)
  .simp only[q,if_true];exact h1
 .rcases cs z hz with q|q
  .simp only[ne z q,if_false];exact e _ _ (F.qs z q)
  .simp only[q,if_true];exact h2
 .rcases cs z hz with q|q
  .simp only[ne z q,if_false];exact F.na z q
  .simp only[q,if_true];exact np0
 .rcases cs z hz with q|q
  .simp only[ne z q,if_false];exact F.nl z q
  .simp only[q,if_true];exact nl0
 .rcases cs z hz with q|q<;>rcases cs t ht with u|u
  .simp only[ne z q,ne t u,if_false];exact F.ja z q t u zt
  .simp only[ne z q,u,if_false,if_true];exact(pa z q).symm
  .simp only[q,ne t u,if_false,if_true];exact pa t u
  .exact Qf (q.trans u.symm) zt
 .rcases cs z hz with q|q<;>rcases cs t ht with u|u
  .simp only[ne z q,ne t u,if_false];exact F.jl z q t u zt
  .simp only[ne z q,u,if_false,if_true];exact(pl z q).symm
  .simp only[q,ne t u,if_false,if_true];exact pl t u
  .exact Qf (q.trans u.symm) zt
theorem Dj(T:Tx P w K mg a):aB P w K mg base CX0 3 a.Im a.Io ["self","numbers","stores","most"] (tO a):=by
 refine T.L6.ok AE (λvs H Q E h=>?_) (λcdv A outer s H vs Q E hr h=>?_)
 .obtain⟨_,_,_,_,_,_,rfl,_⟩:=h
  rfl
 obtain⟨r,dx,dn,ls,ss,m,rfl,h1,h2,nd,s6,q⟩:=h
 refine⟨_,(ah (fK (pq 0) (pq 1) U)
  (ah (fK (pq 0) (eB (xg U) U T.Kg PyProof.Rows.Boot.«dict» (a9 (iA (k:=1) (Nc:=["store"]) (js:=[]) (show bM (ax ko) ["self","numbers","stores","most"] _ 1 ["store"] []from bM.mk U (by decide +kernel) (by decide +kernel) (by decide +kernel) U (by decide +kernel)) U (cD (pq 2)) (λ_ _ _ _ _=>(aW (i:=0) (show List.Nodup (["store"]:List Str)from by decide +kernel) U Oi)) (λ_ _ _ _ _=>ip) (λ_ _ _ _ _=>(bF (a9 (pq 0) (a9 (uU T.LR (Do T) (hr.mono Yk) U T.LQ T.KL .nil aA (a9 (bq af) af)) af))))) af)) U)
  (ah (fK (pq 0) (bq af) U)
  (ah (fK (pq 0) ac U)
  (aj (fK (pq 0) (pq 3) U)))))),?_⟩
 refine⟨_,U,_,U,r,a.f8,dx,[],U,h1,T.ad,T.At,by simp,?_⟩;rw[gf [] U Yd,Qv];have nr:ls≠r:=λz=>by rw[z,h1]at h2;cases h2
 have g2:upd H r (.ins a.f8 dx [("numbers",.ref dn)]) ls=some (.lst (ss.map V.str)):=by rw[ae nr];exact h2
 have gr:upd H r (.ins a.f8 dx [("numbers",.ref dn)]) r=some (.ins a.f8 dx [("numbers",.ref dn)]):=ag;have gk:∀b o,b≠r->H b=some o->upd H r (.ins a.f8 dx [("numbers",.ref dn)]) b=some o:=λb o hb h=>by rw[ae hb];exact h
 have gn:∀b,upd H r (.ins a.f8 dx [("numbers",.ref dn)]) b=none->H b=none:=λb hb=>eL hb;generalize upd H r (.ins a.f8 dx [("numbers",.ref dn)])=H1 at g2 gr gk gn ⊢;refine⟨_,U,ls,U,⟨_,SqL.of g2⟩,?_⟩;refine iN (K:=K) (a:=ls) (xs:=ss.map V.str) (λi ys Y H3=>(∃v,Y=[v])/\aa H1 H3/\∃(ts:List Addr)(qa qd ql:Str->Addr),ys=ts.map V.ref/\ts.length=i/\(∀(j:Nat)(t:Addr)(z:Str),ts[j]?=some t->ss[j]?=some z->H3 t=some (.tup [.str z,.ref (qa z)]))/\jL a H1 H3 qa qd ql (ss.take i)) ⟨⟨_,U⟩,aa.refl _,[],λ_=>0,λ_=>0,λ_=>0,U,U,λj t z h=>by simp at h,⟨λs h=>by simp at h,λs h=>by simp at h,λs h=>by simp at h,λs h=>by simp at h,λs h=>by simp at h,λs h=>by simp at h⟩⟩ ?_ (aR (m:=100) (by rw[qc];omega)) ?_ ?_ ?_
 .rintro i ys Y H3 _ ⟨_,_,ts,_,_,_,rfl,h,_⟩;rw[qc,h];exact qi _
 .rintro i ys Y H3 ⟨_,s3,_⟩;exact SqL.of (s3 _ _ g2)
 .rintro i x ys Y H3 hx ⟨⟨v,rfl⟩,s3,ts,qa,qd,ql,rfl,hl3,ht,F⟩;rw[qO]at hx;obtain⟨z,hzi,rfl⟩:=qZ.mp hx;refine⟨_,U,qD _,λt0 ht0 p d hp hd ne=>?_⟩;have pt:t0≠p:=λe=>by rw[<- e,ag]at hp;cases hp
  have dt:t0≠d:=λe=>by rw[<- e,ag]at hd;cases hd
  have np:H3 p=none:=eL hp;have nd3:H3 d=none:=eL hd;refine⟨p,d,t0,U,ag,by rw[ae pt,ae dt];exact ag,λH5 l keep nl hp5 hl5=>⟨U,ln2,λp4 hp4=>?_⟩⟩
  have s35:aa H3 H5:=λb o hb=>by
   have b1:b≠t0:=λe=>by rw[e,ht0]at hb;cases hb
   have b2:b≠d:=λe=>by rw[e,nd3]at hb;cases hb
   have b3:b≠p:=λe=>by rw[e,np]at hb;cases hb
   exact keep b o b3 (by rw[ae b3,ae b2,ae b1];exact hb)
  have nl3:H3 l=none:=eL (eL (eL nl));have e4:=aa.new hp4 (.tup [.str z,.ref p]);have s34:=s35.trans e4
  have zn:z∉ss.take i:=λhm=>by
   obtain⟨j,hj,ej⟩:=List.mem_take_iff_getElem.mp hm;have:j=i:=jk nd (show ss[j]?=some z by rw[qg Yo,ej]) hzi;omega
  refine⟨⟨_,U⟩,s3.trans s34,ts++[p4],λy=>if y=z then p else qa y,λy=>if y=z then d else qd y,λy=>if y=z then l else ql y,by rw[qY];rfl,by rw[qf,hl3];rfl,λj t y hj hy=>?_,?_⟩
  .rcases Nat.lt_or_ge j ts.length with lt|ge
   .rw[Qg lt]at hj
    have yz:y≠z:=λe=>by
     rw[e]at hy;have:=jk nd hy hzi;omega
    simp only[yz,if_false];exact s34 _ _ (ht j t y hj hy)
   .rw[qV ge]at hj
    have e0:j-ts.length=0:=by
     have:=(qj.mp hj).1;simpa using this
    rw[e0]at hj;obtain rfl:p4=t:=by simpa using hj
    have:j=i:=Yo;subst this;rw[hzi]at hy;cases hy;simp only[if_true];exact ag
  .rw[qC,hzi];exact F.add s34 zn np nl3 (aa.none s3 np) (aa.none s3 nl3) (e4 _ _ hp5) (e4 _ _ hl5)
 .rintro ys Y H3 ⟨_,s3,ts,qa,qd,ql,rfl,hl3,ht,F⟩ lc hlc;rw[qc]at hl3 F;rw[qR]at F;refine⟨lc,ts.map V.ref,ss.map λz=>(.inr z,.ref (qa z)),U,ag,by rw[qc,qc,hl3],aR (m:=100) (by rw[qc];omega),λi p hp'=>?_,λdq hdq=>?_⟩
  .rw[qO]at hp';obtain⟨z,hzi,rfl⟩:=qZ.mp hp'
   have lt:i<ts.length:=by
    have:=(qj.mp hzi).1;omega
   exact⟨ts[i],by rw[qO,qg lt];rfl,aa.new hlc _ _ _ (ht i _ z (qg lt) hzi)⟩
  rw[BD (f:=λz=>V.ref (qa z)) nd];have f0:=aa.new hlc (.lst (ts.map V.ref));have f1:=f0.trans (aa.new hdq (.dK (cB ss λz=>.ref (qa z))));have r1:=f1 _ _ (s3 _ _ gr);have q1:upd (upd H3 lc (.lst (ts.map V.ref))) dq (.dK (cB ss λz=>.ref (qa z))) dq=some (.dK (cB ss λz=>.ref (qa z))):=ag;have ndq:H1 dq=none:=aa.none s3 (eL hdq);have qr:dq≠r:=λz=>by rw[z,gr]at ndq;cases ndq
  generalize upd (upd H3 lc (.lst (ts.map V.ref))) dq (.dK (cB ss λz=>.ref (qa z)))=H5 at f1 r1 q1 ⊢;refine⟨_,U,r,a.f8,dx,_,U,r1,T.ad,T.GH,by simp,?_⟩;rw[gf ["numbers"] U Yd];refine⟨qD _,λlo hlo=>?_⟩;have lr:lo≠r:=λz=>by rw[z,ag]at hlo;cases hlo
  have nlo:H5 lo=none:=eL hlo;refine⟨_,U,r,a.f8,dx,_,U,by rw[ae lr.symm];exact ag,T.ad,T.Jv,by simp,?_⟩;rw[gf ["numbers","queues"] U Yd];refine⟨_,U,r,a.f8,dx,_,U,ag,T.ad,T.Gz,by simp,?_⟩;rw[gf ["numbers","queues","outs"] U Yd];refine⟨_,U,_,U,r,a.f8,dx,_,U,ag,T.ad,T.Kk,by simp,?_⟩;rw[gf ["numbers","queues","outs","steps"] U Yd]
  have last:∀c o,c≠r->H5 c=some o->∀x1 x2 x3 x4,upd (upd (upd (upd (upd H5 r x1) lo (.lst [])) r x2) r x3) r x4 c=some o:=λc o hc h x1 x2 x3 x4=>by
   have cl:c≠lo:=λz=>by rw[z,nlo]at h;cases h
   rw[ae hc,ae hc,ae hc,ae cl,ae hc];exact h
  have sF:=s3.trans f1;have na:∀s∈ss,qa s≠r:=λs hs z=>by have:=F.na s hs;rw[z,gr]at this;cases this
  have nq:∀s∈ss,ql s≠r:=λs hs z=>by have:=F.nl s hs;rw[z,gr]at this;cases this
  refine q _ dq lo qa qd ql (λc o nc hc=>last c o nc (sF _ _ (gk c o nc hc)) _ _ _ _) ag (last _ _ qr q1 _ _ _ _) ?_ (gn _ ndq) (gn _ (aa.none sF nlo)) ⟨λs hs=>last _ _ (na s hs) (f1 _ _ (F.qu s hs)) _ _ _ _,λs hs=>last _ _ (nq s hs) (f1 _ _ (F.qs s hs)) _ _ _ _,λs hs=>gn _ (F.na s hs),λs hs=>gn _ (F.nl s hs),F.ja,F.jl⟩ (λs hs z=>by have:=f1 _ _ (F.qs s hs);rw[z,nlo]at this;cases this);rw[ae lr,ae lr,ae lr];exact ag
theorem uN{C S:List Str}{d:a8}(h:PlW C S d):∀x∈d.names,x∈C:=by
 cases d with
 |set x a sg b=>
  intro z hz;simp only[a8.names,qF,qp]at hz;rcases hz with rfl|hz|hz
  .exact h.1
  .exact h.2.1.names _ hz
  .exact h.2.2.names _ hz
 |put s x=>intro z hz;simp[a8.names]at hz;rw[hz];exact h.2
 |get s x=>intro z hz;simp[a8.names]at hz;rw[hz];exact h.2
 |give x=>intro z hz;simp[a8.names]at hz;rw[hz];exact h
 |cond x t o=>intro z hz;simp[a8.names]at hz;rw[hz];exact h
 |whl x b=>intro z hz;simp[a8.names]at hz;rw[hz];exact h
 |rep n b=>intro z hz;simp[a8.names]at hz
theorem rK{C zs:List Str}{a:Val}(h:gY C a)(hz:∀x∈a.names,x∈zs):gY zs a:=by
 cases a with
 |num n=>exact h
 |nm x=>exact hz x (by simp[Val.names])
theorem BU{C zs S:List Str}{d:a8}(h:PlW C S d)(hz:∀x∈d.names,x∈zs):PlW zs S d:=by
 cases d with
 |set x a sg b=>exact⟨hz x (by simp[a8.names]),rK h.2.1 λy hy=>hz y (by simp[a8.names,hy]),rK h.2.2 λy hy=>hz y (by simp[a8.names,hy])⟩
 |put s x=>exact⟨h.1,hz x (by simp[a8.names])⟩
 |get s x=>exact⟨h.1,hz x (by simp[a8.names])⟩
 |give x=>exact hz x (by simp[a8.names])
 |cond x t o=>exact hz x (by simp[a8.names])
 |whl x b=>exact hz x (by simp[a8.names])
 |rep n b=>exact h
theorem G0(ps:List (Str×Int))(x:Str):OnW (dZ ps x):=by
 have:∀(ps:List (Str×Int))(f:cj),(∀x,OnW (f x))->∀x,OnW (ps.foldl (λf p=>dD f p.1 (p.2 % 1000000000000000000000000000000)) f x):=by
  intro ps
  induction ps with
  |nil=>exact λf h=>h
  |cons p r ih=>
   intro f h;refine ih _ λx=>?_;show OnW (if x=p.1 then _ else _);split
   .exact⟨Qk _ Yk,Qp _ Yk⟩
   .exact h x
 exact this ps _ (λ_=>on0) x
theorem FY{f:cj}(h:∀x,OnW (f x)):eE (Bg f) 0:=⟨h,λ_ _ h=>by simp[Bg]at h,λ_=>qi _,λ_=>qi _,qi _⟩
theorem FD{H0 H:Hp}{r dx dn dq lo:Addr}{qa qd ql:Str->Addr}{zs ss:List Str}{k m:Nat}{B:Bk}{ds:List a8}{Q:VK}{E:XK}
 (hx:∀B' k' S H' x,bw m [⟨ds,none⟩] B k S B' k'->jK B' S->k'<m->dw (cU r dn lo qa ql ss) H H'->H' x=some (.xd [("place",.int k')])->E (.ref a.mt) (some x) H')
 (hv:∀(e:Bool) B' k' S H',bw m [⟨ds,none⟩] B k S B' k'->((e=true/\S=[])\/(e=false/\jF S/\k'=m))->dw (cU r dn lo qa ql ss) H H'->du a H0 H' r dx dn dq lo qa qd ql zs ss k' m B'->Q (.bl e) H'):iS a H0 H r dx dn dq lo qa qd ql zs ss k m B (onB ds) vm Q E:=by
 refine⟨λB' k' H' go kp R=>hv true B' k' [] H' (go [] []) (.inl ⟨U,U⟩) kp R,λB' H' go kp R=>?_,λB' k' H' x go kk kp hx'=>?_⟩
 .obtain⟨S,g,sp⟩:=go [] [];exact hv false B' m S H' g (.inr ⟨U,sp,U⟩) kp R
 .obtain⟨S,g,hu⟩:=go [] [];exact hx B' k' S H' x g hu kk kp hx'
theorem CN(T:Tx P w K mg a):aB P w K mg base (CXX P w) 44 a.dz a.GS ["program","numbers","most"] (zA a):=by
 have hB:=D1 (base:=base) T 13;refine T.JV.okX i9 (λvs H Q E h=>?_) (λcdv A outer s H vs Q E hr h=>?_)
 .obtain⟨_,_,_,_,_,_,_,_,_,_,_,rfl,_⟩:=h
  rfl
 obtain⟨p,a0,a1,b,ln,m,ak,ns,ds,C,ss,rfl,hp,h0,ha1,hn,hb,dp,fl,al,nl',akC,hP,c9,snd,s6,sl,m9,kx,kv⟩:=h
 refine⟨_,(ah (kI (i:=3) i9.nd U Oi (k:=2) (Nc:=["store","length"]) (js:=[]) (show bM (ax j6) ["program","numbers","most","stores","running","ended","finals","left"] _ 2 ["store","length"] []from bM.mk U (by decide +kernel) (by decide +kernel) (by decide +kernel) U (by decide +kernel)) U (cD (ao aD (pq 0) ac Oy)) (λ_ _ _ _ _=>(BZ 2 U (dG (aW (i:=0) (show List.Nodup (["store","length"]:List Str)from by decide +kernel) U Oi) (dG (aW (i:=1) (show List.Nodup (["store","length"]:List Str)from by decide +kernel) U Oi) ix)))) (λ_ _ _ _ _=>ip) (λ_ _ _ _ _=>(pq 0)))
  (ah (az (i:=4) i9.nd U (Or.inr U) (uU T.LX (Dj T) (hr.mono Yk) U T.LW T.L7 .nil aA (a9 (aK (D2 T) (hr.mono Yk) U T.L5 T.JR.kp T.L4 .nil aA (a9 (pq 0) (a9 (pq 1) af))) (a9 (pq 3) (a9 (pq 2) af)))))
  (ah (az (i:=5) i9.nd U Oi (eA (pq 4) T.ad T.Hi hB (hr.mono Yk) T.He .nil eY (a9 (ao aD (pq 0) ac Oy) af)))
  (ah (az (i:=6) i9.nd U Oi (C7 U U T.Gv (bS (pq 4) U)))
  (ah (kI (i:=7) i9.nd U Oi (k:=1) (Nc:=["store","running"]) (js:=[4]) (show bM (ax j6) ["program","numbers","most","stores","running","ended","finals","left"] _ 1 ["store","running"] [4]from bM.mk U (by decide +kernel) (by decide +kernel) (by decide +kernel) U (by decide +kernel)) U (cD (pq 3)) (λ_ _ _ _ _=>(aW (i:=0) (show List.Nodup (["store","running"]:List Str)from by decide +kernel) U Oi)) (λ_ _ _ _ _=>ip) (λ_ _ _ _ _=>(bF (a9 (pq 0) (a9 (fi (ao Ep (Cb (K:=K) U (pq 1) U) (pq 0) Oy) T.pi T.LV (Dm T) (hr.mono Yk) T.KU .nil aA) af)))))
  (aj (ar (bF (a9 (pq 5) (a9 (bS (pq 4) U) (a9 (bS (pq 4) U) (a9 (pq 6) (a9 (pq 7) af))))))))))))),?_⟩
 obtain⟨ts,ht1,htl,hts⟩:=ha1;refine⟨_,U,_,_,_,_,U,U,SqT.of hp,U,a1,U,⟨_,SqL.of ht1⟩,?_⟩;refine iN (K:=K) (a:=a1) (xs:=ts.map V.ref) (λi ys Y H3=>(∃v0 v1,Y=[v0,v1])/\H3=H/\ys=(ss.take i).map V.str) ⟨⟨_,_,U⟩,U,U⟩ ?_ (aR (m:=100) (by rw[qc];omega)) ?_ ?_ ?_
 .rintro i ys Y H3 _ ⟨_,_,rfl⟩;rw[qc,qU];omega
 .rintro i ys Y H3 ⟨_,rfl,_⟩;exact SqL.of ht1
 .rintro i x ys Y H3 hx ⟨⟨v0,v1,rfl⟩,rfl,rfl⟩;rw[qO]at hx;obtain⟨t,ht,rfl⟩:=qZ.mp hx
  have il:i<ss.length:=by
   have:=(qj.mp ht).1;omega
  have hs:ss[i]?=some ss[i]:=qg il;obtain⟨c,hc⟩:=hts i t _ ht hs;refine⟨t,_,U,SqT.of hc,U,_,_,U,_,_,U,U,?_⟩;refine⟨_,U,⟨_,_,U⟩,U,?_⟩;rw[qC,hs,qY]
  rfl
 rintro ys Y H3 ⟨_,rfl,rfl⟩ ls hls;rw[qc,htl,qR];have m1:=aa.new hls (.lst (ss.map V.str))
 have nC:∀k∈(ai ds).flatMap a8.names,k∈C:=λk hk=>by
  obtain⟨d,hd,hz'⟩:=List.mem_flatMap.mp hk;exact uN (hP d hd) k hz'
 refine⟨_,U,_,U,p,a0,a1,b,ln,ak,ns,ds,C,U,m1 _ _ hp,m1 _ _ h0,m1 _ _ hn,hb.same m1,dp,fl,al,nl',akC,nC,c9,λH4 dn zs m4 nd4 hd4 vr=>?_⟩
 have zC:∀z∈zs,z∈C:=λz hm=>by
  rcases(vr.mem z).mp hm with hz|hz
  .exact akC z hz
  .obtain⟨d,hd,hz'⟩:=List.mem_flatMap.mp hz;exact uN (hP d hd) z hz'
 have zl:zs.length<=C.length:=fD vr.nd zC;have m34:=m1.trans m4;have ndn:H3 dn=none:=eL nd4;refine⟨_,U,_,U,λr dx hr0 hdx0 ne=>?_⟩;have l4:H4 ls=some (.lst (ss.map V.str)):=m4 _ _ ag;have k4:∀c o,H4 c=some o->c≠r/\c≠dx:=λc o hc=>⟨λz=>(by rw[z,hr0]at hc;cases hc),λz=>(by rw[z,hdx0]at hc;cases hc)⟩;refine⟨r,dx,dn,ls,ss,m,U,ag,by rw[ae (k4 _ _ l4).1,ae (k4 _ _ l4).2];exact l4,snd,s6,λH5 dq lo qa qd ql keep hR hdq hlo ndq nlo F dlo=>⟨U,?_⟩⟩;have none4:∀c,upd (upd H4 dx (.own r)) r (.ins a.f8 dx []) c=none->H4 c=none:=λc h=>eL (eL h);have k5:aa H4 H5:=λc o hc=>keep c o (k4 c o hc).1 (by rw[ae (k4 c o hc).1,ae (k4 c o hc).2];exact hc);have m5:=m34.trans k5;have nr3:H3 r=none:=aa.none m34 hr0;have up3:∀c,H4 c=none->H3 c=none:=λc h=>aa.none m34 h
 have own3:∀c,cU r dn lo qa ql ss c->H3 c=none:=λc hc=>by
  rcases hc with rfl|rfl|rfl|⟨s,hs,rfl|rfl⟩
  .exact nr3
  .exact ndn
  .exact up3 _ (none4 _ nlo)
  .exact up3 _ (none4 _ (F.na s hs))
  .exact up3 _ (none4 _ (F.nl s hs))
 have hPz:cZ zs ss ds:=λd hd=>BU (hP d hd) λx hx=>(vr.mem x).mpr (.inr (List.mem_flatMap.mpr ⟨d,hd,hx⟩))
 have dr:∀s∈ss,qa s≠r:=λs hs z=>by
  have:=F.na s hs;rw[z,ag]at this;cases this
 have dd:dq≠dn:=λz=>by
  have:=none4 _ ndq;rw[z,hd4]at this;cases this
 have RH:cF a H5 r dx dn dq lo qa qd ql zs ss ((0:Nat):Int) m (Bg (dZ (ak.zip ns))):=⟨hR,k5 _ _ hd4,hdq,hlo,F.qu,F.qs,F.ja,F.jl,dlo,dr,dd⟩;have bk0':eE (Bg (dZ (ak.zip ns))) 0:=FY (G0 _);have pil:jH zs ss [⟨ds,none⟩]:=jH.cons hPz (λy hy=>by simp at hy);have RW:du a H3 H5 r dx dn dq lo qa qd ql zs ss 0 m (Bg (dZ (ak.zip ns))):=⟨m5,own3,RH,bk0',qD _,m9,vr.nd,Yo,sl⟩;have keep3:∀H6,dw (cU r dn lo qa ql ss) H5 H6->aa H3 H6:=λH6 kp c o hc=>kp c o (λz=>by rw[own3 c z]at hc;cases hc) (m5 c o hc);refine⟨_,U,r,_,_,U,hR,cX Yd,_,U,_,_,_,_,U,U,SqT.of (m5 _ _ hp),U,H3,r,dx,dn,dq,lo,b,qa,qd,ql,zs,ss,0,m,_,ds,U,RW,hb,hPz,Yo,FD (λB' k' S H' x go hu kk kp hx=>kx B' k' S H' x go hu kk (keep3 H' kp) hx) (λe B' k' S H6 go he kp R6w=>?_)⟩;have R6:=R6w.dz;have m6:aa H3 H6:=keep3 H6 kp
 have ls6:H6 ls=some (.lst (ss.map V.str)):=kp _ _ (λz=>by
  have l4':=l4;rcases z with rfl|rfl|rfl|⟨s,hs,rfl|rfl⟩
  .exact(k4 _ _ l4).1 U
  .rw[hd4]at l4';cases l4'
  .rw[none4 _ nlo]at l4';cases l4'
  .rw[none4 _ (F.na s hs)]at l4';cases l4'
  .rw[none4 _ (F.nl s hs)]at l4';cases l4') (k5 _ _ l4)
 refine⟨_,U,r,_,_,_,_,U,R6.ro,T.ad,T.At,g9,dn,_,U,R6.no,λH7 lf us m7 nlf hlf tl hu=>?_⟩;refine⟨_,U,ls,U,⟨_,SqL.of (m7 _ _ ls6)⟩,?_⟩;have R7:cF a H7 r dx dn dq lo qa qd ql zs ss k' m B':=⟨m7 _ _ R6.ro,m7 _ _ R6.no,m7 _ _ R6.qo,m7 _ _ R6.oo,λs hs=>m7 _ _ (R6.qu s hs),λs hs=>m7 _ _ (R6.qs s hs),R6.ja,R6.jl,R6.dl,R6.dr,R6.dd⟩;refine iN (K:=K) (a:=ls) (xs:=ss.map V.str) (λi ys Y H8=>(∃v0,Y=[v0,some (.ref r)])/\aa H7 H8/\∃us:List Addr,ys=us.map V.ref/\us.length=i/\∀(j:Nat)(u:Addr)(s:Str),us[j]?=some u->ss[j]?=some s->∃x,H8 u=some (.tup [.str s,.ref x])/\H8 x=some (.lst (((B'.q s).drop (B'.g s)).map V.int))) ⟨⟨_,U⟩,aa.refl _,[],U,U,λj u s h=>by simp at h⟩ ?_ (aR (m:=100) (by rw[qc];omega)) ?_ ?_ ?_
 .rintro i ys Y H8 _ ⟨_,_,us,rfl,h,_⟩;rw[qc,h];exact qi _
 .rintro i ys Y H8 ⟨_,s8,_⟩;exact SqL.of (s8 _ _ (m7 _ _ ls6))
 .rintro i x ys Y H8 hx ⟨⟨v0,rfl⟩,s8,vs,rfl,hl8,ht⟩;rw[qO]at hx;obtain⟨z,hzi,rfl⟩:=qZ.mp hx;have zin:z∈ss:=qK hzi;refine⟨_,U,_,U,r,_,_,_,_,U,s8 _ _ R7.ro,T.ad,T.GH,kA,_,U,dq,_,.inr z,_,U,s8 _ _ R7.qo,U,jQ zin,qa z,_,_,U,s8 _ _ (R7.qu z zin),kE Yd,qa z,_,_,_,_,U,s8 _ _ (R7.qu z zin),s8 _ _ (R7.qs z zin),λl2 hl2=>⟨ln2,λp4 hp4=>?_⟩⟩;have e1:=aa.new hl2 (.lst (((B'.q z).drop (B'.g z)).map V.int));have e2:=aa.new hp4 (.tup [.str z,.ref l2]);refine⟨⟨_,U⟩,s8.trans (e1.trans e2),vs++[p4],by rw[qY];rfl,by rw[qf,hl8];rfl,λj u y hj hy=>?_⟩;rcases Nat.lt_or_ge j vs.length with lt|ge
  .rw[Qg lt]at hj;obtain⟨x,x1,x2⟩:=ht j u y hj hy;exact⟨x,e2 _ _ (e1 _ _ x1),e2 _ _ (e1 _ _ x2)⟩
  .rw[qV ge]at hj
   have e0:j-vs.length=0:=by
    have:=(qj.mp hj).1;simpa using this
   rw[e0]at hj;obtain rfl:p4=u:=by simpa using hj
   have:j=i:=Yo;subst this;rw[hzi]at hy;cases hy;exact⟨l2,ag,e2 _ _ ag⟩
 rintro ys Y8 H8 ⟨_,s8,vs,rfl,hl8,hv⟩ ll hll;rw[qc]at hl8;have m8:=aa.new hll (.lst (vs.map V.ref));have r8:=m8 _ _ (s8 _ _ R7.ro);refine⟨_,U,_,U,r,_,_,_,_,U,r8,T.ad,T.Gz,kz,_,U,r,_,_,_,_,U,r8,T.ad,T.Jv,uq,_,U,_,U,ln5,λt ht9=>?_⟩;have m9:=aa.new ht9 (.tup [V.bl e,V.int k',V.ref lo,V.ref lf,V.ref ll]);have mm:=(m6.trans m7).trans (s8.trans (m8.trans m9));have m789:=s8.trans (m8.trans m9);rw[jP]at tl;refine kv e B' k' S _ t lo lf ll zs go he R6w.bk R6w.km mm ag (m789 _ _ R7.oo) ⟨us,m789 _ _ hlf,tl,λj u z hj hzj=>?_⟩ vr ⟨vs,m9 _ _ ag,hl8,λj u s hj hs=>?_⟩
 .exact m789 _ _ (hu j u (.inr z,.int (B'.f z)) hj (by unfold tab;rw[qO,hzj];rfl)).1
 .obtain⟨x,x1,x2⟩:=hv j u s hj hs;exact⟨x,m9 _ _ (m8 _ _ x1),m9 _ _ (m8 _ _ x2)⟩
theorem eR{A' B':TS}{D:fG}{Y:St}{H:Hp}(Pv:St->Hp->Prop)(hb:∀Y' H',Pv Y' H'->B' D Y' H')(ha:∀N:St->Hp->Prop,(∀Y' H',Pv Y' H'->N Y' H')->A' { D with nx:=N } Y H):rW A' B' D Y H:=ha _ hb
theorem kJ(c:Int)(n:Nat):(d0 c n).length=n:=by
 unfold d0;split
 .rw[List.length_reverse,jg]
 .exact jg c n
theorem Fs(ns:List Int):fE (ns.map V.int) (some 3) (some 63)=(dY ns 3 63).map V.int:=by
 unfold fE dY;have e1:HT.sIx (ns.map V.int).length 0 (some 3)=min 3 ns.length:=by rw[qc];exact HT.sIx_nat _ _ 3
 have e2:HT.sIx (ns.map V.int).length (ns.map V.int).length (some 63)=min 63 ns.length:=by rw[qc];exact HT.sIx_nat _ _ 63
 rw[e1,e2,List.map_take,List.map_drop]
theorem DG(x:Str)(i:Int):nth [x] i=x:=by
 unfold nth;simp[Int.emod_one]
theorem wj{ns:List Int}{lo:Int}(nm0:0<(br ns).length)(ml:(bH ns lo).length<=240)(rl3:(aQ ns).length<=3):(∀d∈d8 ns lo,∃q x,d=.put q x/\q∈aQ ns/\x∈br ns)/\(d8 ns lo).length<=720/\rm (d8 ns lo)/\ai (d8 ns lo)=d8 ns lo/\aH (d8 ns lo)=0:=by
 have fm:dN ns∈br ns:=by
  unfold dN;rw[qv,qg nm0];exact List.getElem_mem _
 have key:(∀d∈d8 ns lo,∃q x,d=.put q x/\q∈aQ ns/\x∈br ns)/\(d8 ns lo).length<=720/\rm (d8 ns lo):=by
  unfold d8;split
  .refine⟨λd hd=>?_,?_,wg _ _ _ _⟩
   .obtain⟨q,x,e1,e2,e3⟩:=wl (aQ ns) [dN ns] (bH ns lo) (by simp) _ (qi _) d hd;rw[Q4]at e3;exact⟨q,x,e1,e2,by rw[e3];exact fm⟩
   .have h1:=pv (aQ ns) [dN ns] (bH ns lo) (aQ ns).length;have:(aQ ns).length * (bH ns lo).length<=3 * 240:=Nat.mul_le_mul rl3 ml;omega
  .exact⟨λd hd=>by simp at hd,qD _,λd hd=>by simp at hd⟩
 obtain⟨k1,k2,k3⟩:=key
 obtain⟨ff,_,fd⟩:=BC (ds:=d8 ns lo) λd hd=>by
  obtain⟨q,x,e,_⟩:=k1 d hd;exact⟨q,x,e⟩
 exact⟨k1,k2,k3,ff,wN fd⟩
seal d0
theorem vg(T:Tx P w K mg a):aB P w K mg base CX0 18 a.IX a.IY ["_law_script","_law_low"] (tf K):=by
 refine T.Jq.ok eS (λvs H Q E h=>?_) (λcdv A outer s H vs Q E hr h=>?_)
 .obtain⟨_,_,_,rfl,_⟩:=h
  rfl
 obtain⟨l,ns,lo,rfl,hl,h63,bdp,bra,ml,bfl,q⟩:=h;have bl:(dQ ns lo).length<=60:=qJ (vN _) bfl
 refine⟨_,(ah (az (i:=2) eS.nd U Oi (aK (kO T) (hr.mono Yk) U T.Hg T.GD.kp T.Hf .nil aA (a9 (pq 0) (a9 ac af))))
  (ah (az (i:=3) eS.nd U Oi (aK (kO T) (hr.mono Yk) U T.Hg T.GD.kp T.Hf .nil aA (a9 (pq 0) (a9 ac af))))
  (ah (az (i:=4) eS.nd U (Or.inr U) (aK (kO T) (hr.mono Yk) U T.Hg T.GD.kp T.Hf .nil aA (a9 (pq 0) (a9 ac af))))
  (ah (az (i:=5) eS.nd U (Or.inr U) (aK (vh T) (hr.mono Yk) U T.K2 T.Jp.kp T.K1 .nil aA (a9 (pq 2) (a9 (aq bU ac (aq aZ (aK (fj T) (hr.mono Yk) U T.wT T.wP.kp T.wS .nil aA (a9 (pq 3) (a9 ac af))) ac)) af))))
  (ah (az (i:=6) eS.nd U Oi (aK (vh T) (hr.mono Yk) U T.K2 T.Jp.kp T.K1 .nil aA (a9 (eI (ay aM (aq aZ (aK (fj T) (hr.mono Yk) U T.wT T.wP.kp T.wS .nil aA (a9 (pq 3) (a9 ac af))) ac) ac (au _)) (pq 2) (pq 3)) (a9 (aq bU ac (aq aZ (aK (fj T) (hr.mono Yk) U T.wT T.wP.kp T.wS .nil aA (a9 (pq 3) (a9 ac af))) ac)) af))))
  (ah (az (i:=7) eS.nd U Oi (aK (Da T) (hr.mono Yk) U T.Ly T.K5.kp T.Lx .nil aA (a9 (gi lR (pq 0) (fh ac) (fh ac)) (a9 (pq 5) (a9 (pq 6) (a9 ac (a9 (pq 1) af)))))))
  (ah (az (i:=8) eS.nd U Oi (bq af))
  (ah (aI (ay aM (aq aZ (aK (fj T) (hr.mono Yk) U T.wT T.wP.kp T.wS .nil aA (a9 (pq 3) (a9 ac af))) ac) ac (au _)) (ah (az (i:=9) eS.nd U Oi (aK (D7 T 13) (hr.mono Yk) U T.K7 T.Hh.kp T.K6 .nil aA (a9 (pq 7) af)))
  (aj (cM PassesOwn.never U (cD (pq 6)) (aW (i:=10) eS.nd U Oi)
  (aj (bK (bY qk Qz Qy gu (pq 8) (a9 (aq vc (bq (a9 (bF (a9 aP (a9 (pq 10) (a9 (ao aY (pq 5) ac Oy) af)))) af)) (ao aD (aK (D5 T) (hr.mono Yk) U T.LA T.K8.kp T.Lz .nil aA (a9 (pq 9) (a9 (pq 10) af))) ac Oy)) af))))))) aO)
  (ah (kI (i:=11) eS.nd U Oi (k:=1) (Nc:=["_law_k","_law_names","_law_third"]) (js:=[5,4]) (show bM (ax j7) ["_law_script","_law_low","_law_first","_law_second","_law_third","_law_names","_law_rooms","_law_body","_law_front","_law_moves_here","_law_q","_law_asks"] _ 1 ["_law_k","_law_names","_law_third"] [5,4]from bM.mk U (by decide +kernel) (by decide +kernel) (by decide +kernel) U (by decide +kernel)) U (iw U T.Gw (a9 (aU ck U T.om Qi (a9 (pq 5) af)) af)) (λ_ _ _ _ _=>(aW (i:=0) (show List.Nodup (["_law_k","_law_names","_law_third"]:List Str)from by decide +kernel) U Oi)) (λ_ _ _ _ _=>(kH (ay aM (aq aZ (aK (fj T) (hr.mono Yk) U T.wT T.wP.kp T.wS .nil aA (a9 (pq 2) (a9 (aq bU (pq 0) ac) af))) ac) ac (au _)))) (λ_ _ _ _ _=>(ao (nX (K:=K) U) (pq 1) (pq 0) Oy)))
  (aj (ar (bF (a9 (pq 11) (a9 (iA (k:=1) (Nc:=["_law_q"]) (js:=[]) (show bM (ax j7) ["_law_script","_law_low","_law_first","_law_second","_law_third","_law_names","_law_rooms","_law_body","_law_front","_law_moves_here","_law_q","_law_asks"] _ 1 ["_law_q"] []from bM.mk U (by decide +kernel) (by decide +kernel) (by decide +kernel) U (by decide +kernel)) U (cD (pq 6)) (λ_ _ _ _ _=>(aW (i:=0) (show List.Nodup (["_law_q"]:List Str)from by decide +kernel) U Oi)) (λ_ _ _ _ _=>ip) (λ_ _ _ _ _=>(bF (a9 (pq 0) (a9 ac af))))) (a9 (aq jb (pq 8) (pq 7)) af))))))))))))))),?_⟩
 have e0:(0:Int).toNat=0:=U;have e1:(1:Int).toNat=1:=U;have e2:(2:Int).toNat=2:=U;have a0:=jm (ns.getD 1 0) 1;have a3:=jm (ns.getD 1 0) 3;have nl:(br ns).length=(1+aE (ns.getD 1 0) 1 % 4).toNat:=kJ _ _;have rl:(aQ ns).length=(1+aE (ns.getD 1 0) 3 % 3).toNat:=kJ _ _;have nm0:0<(br ns).length:=Yo;have rl3:(aQ ns).length<=3:=Yo;have cl:(dY ns 3 63).length<=100:=by unfold dY;rw[qU];omega
 refine⟨_,U,l,ns,0,U,hl,Yo,Yk,?_⟩;refine⟨_,U,l,ns,1,U,hl,Yo,Yk,?_⟩;refine⟨_,U,l,ns,2,U,hl,Yo,Yk,?_⟩;rw[e0,e1,e2];refine⟨_,U,_,U,_,1,U,Yk,Yk,_,_,U,U,Yk,_,_,U,U,_,_,U,Yo,Yo,λH2 ln s2 nl2 hl2=>?_⟩;have hn2:H2 ln=some (.lst ((br ns).map V.str)):=hl2;refine⟨_,U,_,2,U,Yk,Yk,_,_,U,U,Yk,U,_,U,?_⟩;refine Et U U ?_;refine⟨_,U,_,3,U,Yk,Yk,_,_,U,U,Yk,_,_,U,U,_,_,U,Yo,Yo,λH3 lr s3 nr3 hr3=>?_⟩
 have hr3:H3 lr=some (.lst ((aQ ns).map V.str)):=by
  rw[hr3];unfold aQ
  congr 5
  exact propext ⟨dB,λz=>by rw[z];rfl⟩
 have s03:=s2.trans s3;have hn3:=s3 _ _ hn2;refine⟨_,U,_,U,_,U,l,_,U,s03.seq hl,λc hc=>?_⟩;rw[Fs];have sc:aa H3 (upd H3 c (.lst ((dY ns 3 63).map V.int))):=aa.new hc _;refine⟨_,U,_,U,_,U,c,ln,lr,dY ns 3 63,br ns,aQ ns,4,lo,U,SqL.of ag,SqL.of (sc _ _ hn3),SqL.of (sc _ _ hr3),cl,Yo,Yo,Yo,Yk,Yk,λH4 b s4 nb hb=>?_⟩;have s34:=sc.trans s4;have hn4:=s34 _ _ hn3;have hr4:=s34 _ _ hr3;have s04:=s03.trans s34;have hb:RL H4 b (dQ ns lo):=hb;refine⟨qD _,λcf hcf=>?_⟩;have big:(10000:Nat)<sizeLine:=Yk;have lr':((aQ ns).map V.str).length=(aQ ns).length:=qc _;have hx0:atI ((br ns).map V.str) 0=some (.str (dN ns)):=xq (i:=0) nm0;obtain⟨fr,fl720,fnr,ff,fdp⟩:=wj nm0 ml rl3;dsimp only[fb];refine eR (λY H6=>∃v8 v9 fs,Y=[some (.ref l),some (.int lo),some (.int (ns.getD 0 0)),some (.int (ns.getD 1 0)),some (.int (ns.getD 2 0)),some (.ref ln),some (.ref lr),some (.ref b),some (.ref cf),v8,v9,none]/\aa H4 H6/\H6 cf=some (.lst fs)/\RDs H6 fs (d8 ns lo)) ?_ λN go=>?_
 .rintro Y H6 ⟨v8,v9,fs,rfl,s6,hf,rf⟩;obtain⟨hv,hds⟩:=id hb;rename_i bvs;have bv:=hds.len;have fl:=rf.len;have lw:(((br ns).map V.str).length:Int).toNat=(br ns).length:=by simp
  have lw':((br ns).map V.str).length=(br ns).length:=qc _;refine⟨_,U,ln,_,U,.inl (SqL.of (s6 _ _ hn4)),_,U,Yo,Yo,?_⟩;rw[lw];refine Fw (λi ys Y H9=>(∃v,Y=[v,some (.ref ln),some (.int (ns.getD 2 0))])/\aa H6 H9/\ys=(fF (br ns) (ns.getD 2 0) i).map V.str) ⟨⟨none,U⟩,aa.refl _,U⟩ ?_ (aR (m:=100) Yo) ?_ ?_
  .rintro i ys Y H9 _ ⟨_,_,rfl⟩;rw[qc];exact pU _ _ _
  .rintro i ys Y H9 hi ⟨⟨v,rfl⟩,s9,rfl⟩;refine⟨_,U,_,U,_,_,U,U,_,_,U,Yo,Yo,_,_,U,U,Yk,U,_,U,?_⟩;refine be (λcc=>?_) (λcc=>?_)
   .have cc:=dB cc;refine⟨_,U,_,U,ln,_,_,_,U,U,SqL.of (s9 _ _ (s6 _ _ hn4)),xq hi,⟨_,U⟩,s9,?_⟩;rw[fF,Qc cc];simp
   .have cc:=dJ cc;refine⟨⟨_,U⟩,s9,?_⟩;rw[fF,Qb cc];simp
  rintro ys Y9 H9 ⟨_,s9,rfl⟩ la hla;have q1:=s9.trans (aa.new hla (.lst ((db ns).map V.str)));have hla0:upd H9 la (.lst ((db ns).map V.str)) la=some (.lst ((db ns).map V.str)):=ag;change dL _ _ _ (upd H9 la (.lst ((db ns).map V.str))) _;generalize upd H9 la (.lst ((db ns).map V.str))=H10 at q1 hla0 ⊢;dsimp only[dL];have s46:=s6.trans q1;refine⟨_,U,_,U,lr,U,⟨_,SqL.of (s46 _ _ hr4)⟩,?_⟩;refine iN (K:=K) (a:=lr) (xs:=(aQ ns).map V.str) (λi ys Y H7=>(∃v,Y=[v])/\aa H10 H7/\RSs H7 ys ((cV ns).take i)) ⟨⟨_,U⟩,aa.refl _,.nil⟩ ?_ (aR (m:=100) Yo) ?_ ?_ ?_
  .rintro i ys Y H7 _ ⟨_,_,h⟩;rw[h.len,qU];exact Nat.min_le_left _ _
  .rintro i ys Y H7 ⟨_,s7,_⟩;exact SqL.of (s7 _ _ (s46 _ _ hr4))
  .rintro i x ys Y H7 hx ⟨⟨v,rfl⟩,s7,rs⟩;rw[qO]at hx;obtain⟨qn,hq,rfl⟩:=qZ.mp hx;refine⟨_,U,ln2,λp1 hp1=>⟨⟨_,U⟩,s7.trans (aa.new hp1 _),?_⟩⟩;have:(cV ns)[i]?=some (qn,1):=by unfold cV;rw[qO,hq];rfl
   rw[qC,this];exact(rs.same (aa.new hp1 _)).snoc ag
  rintro ys Y7 H7 ⟨_,s7,rs⟩ ls hls
  have rs:RSs H7 ys (cV ns):=by
   rw[lr',List.take_of_length_le (by unfold cV;rw[qc];exact qi _)]at rs;exact rs
  have q2:=aa.new hls (.lst ys);have s48:=s46.trans (s7.trans q2);have s68:=q1.trans (s7.trans q2);have rs8:=rs.same q2;have hls8:upd H7 ls (.lst ys) ls=some (.lst ys):=ag;have hla8:=(s7.trans q2) _ _ hla0;generalize upd H7 ls (.lst ys)=H8 at s48 s68 rs8 hls8 hla8 ⊢;refine⟨_,U,_,U,cf,b,_,_,U,U,SqL.of (s68 _ _ hf),SqL.of (s48 _ _ hv),aR (m:=9000) Yo,λpb hpb=>?_⟩;have q3:=aa.new hpb (.lst (fs++bvs));have s49:=s48.trans q3;have hfb:RL (upd H8 pb (.lst (fs++bvs))) pb (d8 ns lo++dQ ns lo):=.mk ag (RDs.app (RDs.same (s68.trans q3) rf) (RDs.same s49 hds));refine⟨ln3,λp hp=>?_⟩;have q4:=aa.new hp (.tup [.ref la,.ref ls,.ref pb]);have s9p:=q3.trans q4;exact q _ p la ls pb ys ((s04.trans s48).trans s9p) ⟨ag,s9p _ _ hla8,s9p _ _ hls8,rs8.same s9p,RL.same q4 hfb⟩
 .have q5:=aa.new hcf (.lst []);refine⟨_,U,_,4,U,Yk,Yk,_,_,U,U,Yk,U,_,U,be (λc4=>?_) (λc4=>?_)⟩
  .have ef:d8 ns lo=(gR (aQ ns) [dN ns] (bH ns lo) (aQ ns).length).map λm=>.put m.1 m.2:=by
    unfold d8;rw[Qc (dB c4),pA]
   refine⟨_,U,_,b,dQ ns lo,U,q5,hb,Yo,bra,qJ ml Yk,λH5 lm ums s5 nlm hlm hms=>?_⟩;have s45:=q5.trans s5;have ncl:H4 lm=none:=aa.none q5 nlm;refine⟨_,U,lr,U,⟨_,SqL.of (s45 _ _ hr4)⟩,?_⟩;have nlm':lm≠cf:=λz=>by rw[z,ag]at nlm;cases nlm
   refine eD (K:=K) (a:=lr) (xs:=(aQ ns).map V.str) (λi Y H6=>∃v fs,Y=[some (.ref l),some (.int lo),some (.int (ns.getD 0 0)),some (.int (ns.getD 1 0)),some (.int (ns.getD 2 0)),some (.ref ln),some (.ref lr),some (.ref b),some (.ref cf),some (.ref lm),v,none]/\aa H4 H6/\H6 lm=some (.lst ums)/\RMs H6 ums (bH ns lo)/\H6 cf=some (.lst fs)/\RPs H6 fs (gR (aQ ns) [dN ns] (bH ns lo) i)) ⟨_,[],U,s45,hlm,hms,s5 _ _ ag,.nil⟩ ?_ ?_ ?_
   .rintro i Y H6 _ ⟨v,fs,_,s6,_⟩;exact SqL.of (s6 _ _ hr4)
   .rintro i x Y H6 hx ⟨v,fs,rfl,s6,hlm6,hms6,hf,rf⟩;rw[qO]at hx;obtain⟨qn,hq,rfl⟩:=qZ.mp hx;have ir:i<(aQ ns).length:=(qj.mp hq).1;have eq':(aQ ns).getD i (">":Str)=qn:=by rw[qv,hq];rfl
    have fl:=rf.len
    have fm:(gR (aQ ns) [dN ns] (bH ns lo) i).length<=720:=by
     have h1:=pv (aQ ns) [dN ns] (bH ns lo) i;rw[<- pA,qc]at h1;have:i * (bH ns lo).length<=3 * 240:=Nat.mul_le_mul Yo ml;omega
    have lk:=vV qn (bH ns lo);have lkb:=uv qn (bH ns lo);refine⟨_,U,.inl ⟨U,_,SqL.of hf⟩,_,U,_,U,ln,_,_,_,U,U,SqL.of (s6 _ _ hn4),hx0,ln3,λpt hpt=>⟨ln1,λpl hpl=>?_⟩⟩;have q6:=aa.new hpt (.tup [.str "put",.str qn,.str (dN ns)]);have q7:=aa.new hpl (.lst [.ref pt]);have q67:=q6.trans q7;refine⟨_,U,_,U,lm,ums,bH ns lo,qn,U,q67 _ _ hlm6,hms6.same q67,Yo,λpr hpr=>?_⟩;have q8:=aa.new hpr (.tup [.int (-(bJ qn (bH ns lo)).2.1),.int ((bJ qn (bH ns lo)).2.2-(bJ qn (bH ns lo)).2.1)]);refine⟨pr,_,_,_,U,U,SqT.of ag,U,pl,_,_,U,U,q8 _ _ ag,Yo,Yo,by show 1 * gP _ _<=_;omega,λpq hpq=>?_⟩;rw[EV];have q9:=aa.new hpq (.lst (List.replicate (-(bJ qn (bH ns lo)).2.1).toNat (.ref pt)));have qa:=q67.trans (q8.trans q9);have g1:=(q7.trans (q8.trans q9)) _ _ (ag (H:=H6) (a:=pt) (o:=.tup [.str "put",.str qn,.str (dN ns)]));have hq9:=ag (H:=upd (upd (upd H6 pt (.tup [.str "put",.str qn,.str (dN ns)])) pl (.lst [.ref pt])) pr (.tup [.int (-(bJ qn (bH ns lo)).2.1),.int ((bJ qn (bH ns lo)).2.2-(bJ qn (bH ns lo)).2.1)])) (a:=pq) (o:=.lst (List.replicate (-(bJ qn (bH ns lo)).2.1).toNat (.ref pt)));generalize upd (upd (upd (upd H6 pt (.tup [.str "put",.str qn,.str (dN ns)])) pl (.lst [.ref pt])) pr (.tup [.int (-(bJ qn (bH ns lo)).2.1),.int ((bJ qn (bH ns lo)).2.2-(bJ qn (bH ns lo)).2.1)])) pq (.lst (List.replicate (-(bJ qn (bH ns lo)).2.1).toNat (.ref pt)))=H9 at qa g1 hq9 ⊢;refine⟨cf,pq,_,_,U,U,qa _ _ hf,hq9,aR (m:=9000) (by rw[List.length_replicate];show fs.length+gP _ _<=_;omega),?_⟩;have hf9:=qa _ _ hf;refine⟨_,_,U,aa.over (s6.trans qa) hcf,by rw[ae nlm'];exact qa _ _ hlm6,(hms6.same qa).off hf9,ag,?_⟩;rw[gR,eq',DG];exact((rf.same qa).app (RPs.rep (m:=(qn,dN ns)) g1 (gP qn (bH ns lo)))).off hf9
   .rintro Y H6 ⟨v,fs,rfl,s6,hlm6,hms6,hf,rf⟩;rw[lr']at rf;refine go _ _ ⟨_,_,fs,U,s6,hf,?_⟩;rw[ef];exact rf.rds
  .refine go _ _ ⟨_,_,[],U,q5,ag,?_⟩;unfold d8;rw[Qb (dJ c4)];exact .nil
theorem ve(T:Tx P w K mg a):aB P w K mg base CX0 1 a.IF a.IG ["_law_found"] sY:=by
 refine T.Jn.ok Av (λvs H Q E h=>?_) (λcdv A outer s H vs Q E hr h=>?_)
 .obtain⟨_,rfl,_⟩:=h
  rfl
 obtain⟨i,rfl,k⟩:=h;refine⟨_,(aj (ar (gM (aU eT U T.wE PyProof.Rows.Boot.«isinstance» (a9 (pq 0) (a9 (eX (v:=.ty "int") U T.LI PyProof.Rows.Boot.«int» rfl) af))) (gj (C4 (aU eT U T.wE PyProof.Rows.Boot.«isinstance» (a9 (pq 0) (a9 (eX (v:=.ty "bool") U T.Kf PyProof.Rows.Boot.«bool» rfl) af)))))))),?_⟩;refine⟨_,U,_,_,_,true,U,.int i,U,_,U,aX U ?_⟩;exact⟨_,U,_,_,_,false,U,.int i,U,_,U,k⟩
theorem vf(T:Tx P w K mg a):aB P w K mg base CX0 2 a.IZ a.J0 ["_law_caught"] (sZ a):=by
 refine T.Jr.ok Aw (λvs H Q E h=>?_) (λcdv A outer s H vs Q E hr h=>?_)
 .obtain⟨_,_,_,rfl,_⟩:=h
  rfl
 obtain⟨e,dx,i,rfl,he,hd,k⟩:=h;refine⟨_,(aj (ar (gM (aU FP U T.wE PyProof.Rows.Boot.«isinstance» (a9 (pq 0) (a9 (eJ (v:=.ref a.mt) U T.Jw U) af))) (gj (aK (ve T) (hr.mono Yk) U T.JX T.Jn.kp T.JW .nil aA (a9 (gK (pq 0)) af)))))),?_⟩;refine⟨_,U,e,_,dx,_,_,true,U,he,T.M7,λu h=>h,T.M8,_,U,aX U ?_⟩;exact⟨_,U,e,_,dx,_,U,he,hd,T.Gs,i,U,k⟩
theorem uY(o:Option Str)(x:Str):j1 (iB o) (.str x)=true:=by cases o<;>rfl
theorem uZ{o:Option Str}{q:Str}(h:iB o=.str q):o=some q:=by
 cases o with
 |none=>cases h
 |some z=>cases h;rfl
theorem D8(T:Tx P w K mg a):aB P w K mg base CX0 1 a.J1 a.J5 ["_law_left","_law_stores","_law_rows"] tD:=by
 refine T.Kd.ok j5 (λvs H Q E h=>?_) (λcdv A outer s H vs Q E hr h=>?_)
 .obtain⟨_,_,_,_,_,_,_,_,rfl,_⟩:=h
  rfl
 obtain⟨ll,ls,lr,ur,us,rs,ss,B,rfl,L,eq,k⟩:=h
 refine⟨_,(ah (aI (PW.pt (dF (dg (cq (aU eT U T.wE PyProof.Rows.Boot.«isinstance» (a9 (pq 0) (a9 (eX (v:=.ty "list") U T.Gv PyProof.Rows.Boot.«list» rfl) af))))) (eU (ay gG (aU ck U T.om Qi (a9 (pq 0) af)) (aU ck U T.om Qi (a9 (pq 1) af)) (au _))))) (aj (ar bZ)) aO)
  (ah (cM PassesOwn.never U (iw U T.Gw (a9 (aU ck U T.om Qi (a9 (pq 1) af)) af)) (aW (i:=3) j5.nd U (Or.inr U))
  (ah (az (i:=4) j5.nd U Oi (ao aY (pq 0) (pq 3) Oy))
  (ah (aI (PW.pt (dF (dg (cq (aU eT U T.wE PyProof.Rows.Boot.«isinstance» (a9 (pq 4) (a9 (eX (v:=.ty "tuple") U T.GE PyProof.Rows.Boot.«tuple» rfl) af))))) (dF (ay gG (aU ck U T.om Qi (a9 (pq 4) af)) ac (au _)) (dF (dg (cq (aU eT U T.wE PyProof.Rows.Boot.«isinstance» (a9 (ao aD (pq 4) ac Oy) (a9 (eX (v:=.ty "str") U T.Js PyProof.Rows.Boot.«str» rfl) af))))) (eU (dg (cq (aU eT U T.wE PyProof.Rows.Boot.«isinstance» (a9 (ao aD (pq 4) ac Oy) (a9 (eX (v:=.ty "list") U T.Gv PyProof.Rows.Boot.«list» rfl) af)))))))))) (aj (ar bZ)) aO)
  (ah (az (i:=5) j5.nd U Oi (aU ck U T.om Qi (a9 (iA (k:=1) (Nc:=["_law_row","_law_stores","_law_k"]) (js:=[1,3]) (show bM (ax j8) ["_law_left","_law_stores","_law_rows","_law_k","_law_one","_law_puts","_law_gets"] _ 1 ["_law_row","_law_stores","_law_k"] [1,3]from bM.mk U (by decide +kernel) (by decide +kernel) (by decide +kernel) U (by decide +kernel)) U (cD (pq 2)) (λ_ _ _ _ _=>(aW (i:=0) (show List.Nodup (["_law_row","_law_stores","_law_k"]:List Str)from by decide +kernel) U Oi)) (λ_ _ _ _ _=>(kH (ay aM (ao (kB (K:=K) U) (pq 0) ac Oy) (ao (kB (K:=K) U) (ao (nX (K:=K) U) (pq 1) (pq 2) Oy) ac Oy) (au _)))) (λ_ _ _ _ _=>(pq 0))) af)))
  (ah (az (i:=6) j5.nd U Oi (aU ck U T.om Qi (a9 (iA (k:=1) (Nc:=["_law_row","_law_stores","_law_k"]) (js:=[1,3]) (show bM (ax j8) ["_law_left","_law_stores","_law_rows","_law_k","_law_one","_law_puts","_law_gets"] _ 1 ["_law_row","_law_stores","_law_k"] [1,3]from bM.mk U (by decide +kernel) (by decide +kernel) (by decide +kernel) U (by decide +kernel)) U (cD (pq 2)) (λ_ _ _ _ _=>(aW (i:=0) (show List.Nodup (["_law_row","_law_stores","_law_k"]:List Str)from by decide +kernel) U Oi)) (λ_ _ _ _ _=>(kH (ay aM (ao (kB (K:=K) U) (pq 0) ac Oy) (ao (kB (K:=K) U) (ao (nX (K:=K) U) (pq 1) (pq 2) Oy) ac Oy) (au _)))) (λ_ _ _ _ _=>(pq 0))) af)))
  (aj (aI (PW.pt (dF (ay gG (ao aD (pq 4) ac Oy) (ao aD (ao aY (pq 1) (pq 3) Oy) ac Oy) (au _)) (eU (ay gG (aU ck U T.om Qi (a9 (ao aD (pq 4) ac Oy) af)) (aq fJ (pq 5) (pq 6)) (au _))))) (aj (ar bZ)) aO)))))))
  (aj (ar bZ)))),?_⟩
 obtain⟨ts,hl,tl,hts⟩:=L.hl;rw[qc]at tl;have ul:=L.ro.len;have url:=L.rr.len;have rl:=L.few;have s6:=L.six;refine⟨_,U,_,_,_,true,U,.lst hl,U,_,U,aG U ?_⟩;refine⟨_,U,ll,_,U,.inl (SqL.of hl),_,U,ls,_,U,.inl (SqL.of L.hs),U,_,U,aG (by rw[qc,tl,ul];exact congrArg not (Qd U)) ?_⟩;dsimp only[fb];refine⟨_,U,ls,_,U,.inl (SqL.of L.hs),_,U,Yo,Yo,?_⟩;rw[show((us.length:Nat):Int).toNat=ss.length by omega];refine jt (λi Y G=>(∃v3 v4 v5 v6,Y=[some (.ref ll),some (.ref ls),some (.ref lr),v3,v4,v5,v6])/\aa H G) ⟨⟨_,_,_,_,U⟩,aa.refl _⟩ ?_ ?_
 rotate_left
 .rintro Y G ⟨⟨_,_,_,_,rfl⟩,_⟩;exact k _
 rintro i Y G il ⟨⟨v3,v4,v5,v6,rfl⟩,sg⟩;rw[Int.zero_add];have ht:ts[i]?=some (ts[i]' Yo):=qg _;have hu:us[i]?=some (us[i]' Yo):=qg _;generalize ts[i]' Yo=t at ht;generalize us[i]' Yo=u at hu;obtain⟨ps,q,n,rfl,es,hps⟩:=L.ro.at i u hu;obtain⟨x,hx,hxl⟩:=hts i t q ht (by rw[qO,es];rfl);obtain⟨eb,e0⟩:=eq (q,n) (qK es);have ixt:atI (ts.map V.ref) (i:Int)=some (.ref t):=cy (by rw[qO,ht];rfl);have ixu:atI us (i:Int)=some (.ref ps):=cy hu;dsimp only[dL];refine⟨_,U,_,U,ll,_,_,_,U,U,SqL.of (sg _ _ hl),ixt,?_⟩;dsimp only[dL];refine⟨_,U,_,_,_,true,U,.tup (sg _ _ hx),U,_,U,aG U ?_⟩;refine⟨_,U,t,_,U,.inr (SqT.of (sg _ _ hx)),U,_,U,aG U ?_⟩;refine⟨_,U,t,_,_,_,U,U,SqT.of (sg _ _ hx),U,_,_,_,true,U,.str _,U,_,U,aG U ?_⟩;refine⟨_,U,t,_,_,_,U,U,SqT.of (sg _ _ hx),U,_,_,_,true,U,.lst (sg _ _ hxl),U,_,U,aG U ?_⟩;dsimp only[fb];refine⟨_,U,lr,U,⟨_,SqL.of (sg _ _ L.hr)⟩,?_⟩;refine pL (K:=K) (a:=lr) (xs:=ur) (λj ys Y2 G2=>(∃v,Y2=[v,some (.ref ls),some (.int i)])/\G2=G/\ys.length=((rs.take j).filter λr=>decide (r.into=some q)).length) ⟨⟨_,U⟩,U,U⟩ ?_ (aR (m:=5000) Yo) ?_ ?_ ?_
 .rintro j ys Y2 G2 _ ⟨_,_,h⟩;rw[h];have:=List.length_filter_le (λr=>decide (r.into=some q)) (rs.take j);rw[qU]at this;omega
 .rintro j ys Y2 G2 ⟨_,rfl,_⟩;exact SqL.of (sg _ _ L.hr)
 .rintro j y ys Y2 G2 hy ⟨⟨v,rfl⟩,rfl,hl'⟩;obtain⟨r,hr',pr,po,pd,rfl,g1,g2,g3⟩:=L.rr.at j y hy;refine⟨_,U,pr,_,_,_,U,U,SqT.of (sg _ _ g1),U,_,U,_,U,ls,_,_,_,U,U,SqL.of (sg _ _ L.hs),ixu,ps,_,_,_,U,U,SqT.of (sg _ _ hps),U,uY _ _,_,U,?_⟩;rw[qC,hr',QD,qf,<- hl'];by_cases e:r.into=some q
  .refine aX (by rw[e];exact Qd U) ⟨_,U,⟨_,U⟩,U,?_⟩;simp[e]
  .exact aG (Qe λz=>e (uZ z)) ⟨⟨_,U⟩,U,by simp[e]⟩
 rintro ys Y2 G2 ⟨_,eG,hl1⟩ lc hlc;rw[eG]at hlc ⊢;rw[url,qR]at hl1;have s1:=aa.new hlc (.lst ys);have hlc1:upd G lc (.lst ys) lc=some (.lst ys):=ag;have sg1:=sg.trans s1;generalize upd G lc (.lst ys)=G1 at s1 hlc1 sg1;refine⟨lc,_,U,.inl (SqL.of hlc1),?_⟩;dsimp only[dL];refine⟨_,U,lr,U,⟨_,SqL.of (sg1 _ _ L.hr)⟩,?_⟩;refine pL (K:=K) (a:=lr) (xs:=ur) (λj ys Y2 G2=>(∃v,Y2=[v,some (.ref ls),some (.int i)])/\G2=G1/\ys.length=((rs.take j).filter λr=>decide (r.outof=some q)).length) ⟨⟨_,U⟩,U,U⟩ ?_ (aR (m:=5000) Yo) ?_ ?_ ?_
 .rintro j ys Y2 G2 _ ⟨_,_,h⟩;rw[h];have:=List.length_filter_le (λr=>decide (r.outof=some q)) (rs.take j);rw[qU]at this;omega
 .rintro j ys Y2 G2 ⟨_,rfl,_⟩;exact SqL.of (sg1 _ _ L.hr)
 .rintro j y ys Y2 G2 hy ⟨⟨v,rfl⟩,rfl,hl'⟩;obtain⟨r,hr',pr,po,pd,rfl,g1,g2,g3⟩:=L.rr.at j y hy;refine⟨_,U,pr,_,_,_,U,U,SqT.of (sg1 _ _ g1),U,_,U,_,U,ls,_,_,_,U,U,SqL.of (sg1 _ _ L.hs),ixu,ps,_,_,_,U,U,SqT.of (sg1 _ _ hps),U,uY _ _,_,U,?_⟩;rw[qC,hr',QD,qf,<- hl'];by_cases e:r.outof=some q
  .refine aX (by rw[e];exact Qd U) ⟨_,U,⟨_,U⟩,U,?_⟩;simp[e]
  .exact aG (Qe λz=>e (uZ z)) ⟨⟨_,U⟩,U,by simp[e]⟩
 rintro zs Y2 G2 ⟨_,eG,hl2⟩ ld hld;rw[eG]at hld ⊢;rw[url,qR]at hl2;have s2:=aa.new hld (.lst zs);have hld1:upd G1 ld (.lst zs) ld=some (.lst zs):=ag;have sg2:=sg1.trans s2;generalize upd G1 ld (.lst zs)=G3 at s2 hld1 sg2;refine⟨ld,_,U,.inl (SqL.of hld1),?_⟩;dsimp only[dL];refine⟨_,U,t,_,_,_,U,U,SqT.of (sg2 _ _ hx),U,_,U,_,U,ls,_,_,_,U,U,SqL.of (sg2 _ _ L.hs),ixu,ps,_,_,_,U,U,SqT.of (sg2 _ _ hps),U,U,_,U,aG (congrArg not (Qd U)) ?_⟩;refine⟨_,U,t,_,_,_,U,U,SqT.of (sg2 _ _ hx),U,x,_,U,.inl (SqL.of (sg2 _ _ hxl)),_,U,_,U,_,_,U,U,U,_,U,aG ?_ ⟨⟨_,_,_,_,U⟩,sg2⟩⟩;refine congrArg not (Qd (congrArg V.int ?_));rw[hl1,hl2,qc,Qa];change bal rs q=stq B q at eb;change 0<=stq B q at e0;unfold bal at eb;unfold stq at eb e0;omega
theorem D9(T:Tx P w K mg a):aB P w K mg base CX0 2 a.J6 a.J7 ["_law_rows","_law_told","_law_stores","_law_low","_law_most"] tE:=by
 refine T.Ke.ok ii (λvs H Q E h=>?_) (λcdv A outer s H vs Q E hr h=>?_)
 .obtain⟨_,_,_,_,_,_,_,_,_,_,_,_,_,_,_,rfl,_⟩:=h
  rfl
 obtain⟨lr,lt,ls,lo,lf,ll,ur,us,rs,ss,B,e,n,m,low,rfl,ht,L,c1,c2,c3,k⟩:=h
 refine⟨_,(ah (oy (pq 1) (iz U (dG (aW (i:=5) ii.nd U Oi) (dG (aW (i:=6) ii.nd U Oi) (dG (aW (i:=7) ii.nd U Oi) (dG (aW (i:=8) ii.nd U Oi) (dG (aW (i:=9) ii.nd U Oi) ix)))))))
  (ah (aI (PW.pt (dF (dg (cq (aU eT U T.wE PyProof.Rows.Boot.«isinstance» (a9 (pq 5) (a9 (eX (v:=.ty "bool") U T.Kf PyProof.Rows.Boot.«bool» rfl) af))))) (dF (dg (cq (aK (ve T) (hr.mono Yk) U T.JX T.Jn.kp T.JW .nil aA (a9 (pq 6) af)))) (eU (dg (cq (aU eT U T.wE PyProof.Rows.Boot.«isinstance» (a9 (pq 0) (a9 (eX (v:=.ty "list") U T.Gv PyProof.Rows.Boot.«list» rfl) af))))))))) (aj (ar bZ)) aO)
  (ah (aI (PW.pt (fg (ay aM (pq 3) ac (au _)) (gc (ay gG (pq 5) (eK ij (aq fJ (aU ck U T.om Qi (a9 (pq 0) af)) ac) (pq 4) (au _)) (au _))))) (aj (ar bZ)) aO)
  (ah (aI (dg (cq (pq 5))) (aj (ar (eK aM (pq 6) (pq 4) (au _)))) aO)
  (ah (aI (PW.pt (dF (ay kD (pq 6) (aq fJ (aU ck U T.om Qi (a9 (pq 0) af)) ac) (au _)) (eU (PW.pt (fg (ay aM (pq 3) ac (au _)) (gc (ay gG (pq 6) (aq fJ (aU ck U T.om Qi (a9 (pq 0) af)) ac) (au _)))))))) (aj (ar bZ)) aO)
  (aj (ar (gM (eK ij (pq 6) (pq 4) (au _)) (gj (aK (D8 T) (hr.mono Yk) U T.LC T.Kd.kp T.LB .nil aA (a9 (pq 9) (a9 (pq 2) (a9 (pq 0) af))))))))))))),?_⟩
 have url:=L.rr.len;refine⟨_,U,lt,_,U,SqT.of ht,U,_,_,U,_,_,U,_,_,U,_,_,U,_,_,U,U,?_⟩;dsimp only[dL];refine⟨_,U,_,_,_,true,U,.bl _,U,_,U,aG U ?_⟩;refine⟨_,U,n,U,_,U,aG U ?_⟩;refine⟨_,U,_,_,_,true,U,.lst L.hr,U,_,U,aG U ?_⟩;dsimp only[fb];refine eR (λY' G'=>Y'=[some (.ref lr),some (.ref lt),some (.ref ls),some (.int low),some (.int m),some (.bl e),some (.int n),some (.ref lo),some (.ref lf),some (.ref ll)]/\G'=H) ?_ ?_
 rotate_left
 .intro N hN;refine⟨_,U,U,_,U,?_⟩;by_cases z:low=9
  .refine aX (Qd (by rw[z])) ⟨_,U,_,U,lr,_,U,.inl (SqL.of L.hr),_,_,U,U,_,U,_,_,U,U,U,_,U,aG ?_ (hN _ _ ⟨U,U⟩)⟩;refine congrArg not (Qd (congrArg V.bl ?_));rw[c1 z,url];exact decide_eq_decide.mpr Yo
  .exact aG (Qe λy=>z (V.int.inj y)) (aG U (hN _ _ ⟨U,U⟩))
 rintro Y' G' ⟨rfl,rfl⟩;refine⟨_,U,_,U,?_⟩
 cases e with
 |false=>
  refine aX U ⟨_,U,_,U,U,?_⟩;rw[c2 U,Qd U];exact k _
 |true=>
  refine aG U ?_;dsimp only[fb];obtain⟨d1,d2,d3,d4⟩:=c3 U;refine eR (λY1 G1=>Y1=[some (.ref lr),some (.ref lt),some (.ref ls),some (.int low),some (.int m),some (.bl true),some (.int n),some (.ref lo),some (.ref lf),some (.ref ll)]/\G1=G') ?_ ?_
  rotate_left
  .intro N hN;refine⟨_,U,_,U,lr,_,U,.inl (SqL.of L.hr),_,_,U,U,_,_,U,U,_,U,aG (Qe (by rw[url];omega)) ?_⟩;refine⟨_,U,U,_,U,?_⟩;by_cases z:low=9
   .refine aX (Qd (by rw[z])) ⟨_,U,_,U,lr,_,U,.inl (SqL.of L.hr),_,_,U,U,U,_,U,aG ?_ (hN _ _ ⟨U,U⟩)⟩;refine congrArg not (Qd (congrArg V.int ?_));have:=d2 z;rw[url];omega
   .exact aG (Qe λy=>z (V.int.inj y)) (aG U (hN _ _ ⟨U,U⟩))
  rintro Y1 G1 ⟨rfl,rfl⟩;refine⟨_,U,_,U,_,_,U,U,_,U,aX (Qd Yo) ?_⟩;exact⟨_,U,_,U,_,U,ll,ls,lr,ur,us,rs,ss,B,U,L,d4,k⟩
theorem EE{rs:List Row}{i j:Nat}(h1:FedN rs i)(h2:Hungry rs i)(k1:FedN rs j)(k2:Hungry rs j):i=j:=by
 rcases Nat.lt_trichotomy i j with lt|eq|gt
 .obtain⟨r,q,a,b,c⟩:=h2;exact Qf c (k1 i r q lt a b)
 .exact eq
 .obtain⟨r,q,a,b,c⟩:=k2;exact Qf c (h1 j r q gt a b)
theorem wG{rs:List Row}{i:Nat}(h1:FedN rs rs.length)(h2:Hungry rs i):False:=by
 obtain⟨r,q,a,b,c⟩:=h2;exact h1 i r q (qj.mp a).1 a b c
theorem pF{A B:List Row}(h:Fed A):FedN (A++B) A.length:=λj r q lt hj ho=>by
 rw[Qg lt]at hj;rw[List.take_append_of_le_length Yo];have:=h j r q hj ho;omega
theorem nN{h:Bool}{ds:List a8}{m k:Nat}{B:Bk}{S:List Pf}{f:cj}(sh:aS (ShD h) ds)(g:bw m [⟨ds,none⟩] (Bg f) 0 S B k):∃dn rs,Far h (av ds) S B k dn rs:=by
 refine g.far (dn:=[]) (rs:=av ds) ⟨U,?_,λx hx=>?_,qi _,λ_=>U,λi r q hi=>(by simp at hi),λq=>U,λq=>Int.le_refl _⟩
 .have:=Rem.vis (h:=h) (ds:=ds) (c:=none) Rem.nil
  rwa [nS,qI]at this
 .rw[Q4.mp hx];exact sh
theorem B7{d:a8}{r:List a8}{c:Option Int}:eh (d::r) c≠[]:=by
 cases d with
 |rep n b=>simp[eh]
 |_=>simp[eh,av,bE]
theorem nO{h:Bool}{ds:List a8}{m k:Nat}{B:Bk}{f:cj}(sh:aS (ShD h) ds)(g:bw m [⟨ds,none⟩] (Bg f) 0 [] B k):FedN (av ds) (av ds).length/\(av ds).length<=k/\(h=false->(av ds).length=k)/\∀q,bal (av ds) q=stq B q/\0<=stq B q:=by
 obtain⟨dn,rs,F⟩:=nN sh g
 have er:rs=[]:=by
  have:=F.r;cases this
  rfl
 have e:=F.e;rw[er,qI]at e;have fd:=pF (B:=[]) F.fd;rw[qI]at fd;rw[e];exact⟨fd,F.le,F.eq,λq=>⟨(F.st q).symm,by rw[F.st];exact F.nn q⟩⟩
theorem um{h:Bool}{ds:List a8}{m k:Nat}{B:Bk}{S:List Pf}{f:cj}(sh:aS (ShD h) ds)(g:bw m [⟨ds,none⟩] (Bg f) 0 S B k)(hu:jK B S):∃i,FedN (av ds) i/\Hungry (av ds) i/\i<=k/\(h=false->i=k):=by
 obtain⟨dn,rs,F⟩:=nN sh g
 match S,hu with
 |⟨d::r,c⟩::p,hu=>
  have hu:cL B d r c p=none:=hu
  obtain⟨s,x,rfl,hn⟩:∃s x,d=.get s x/\¬ 0<stq B s:=by
   cases d with
   |get s x=>
    refine⟨s,x,U,sw.mp ?_⟩;have:(stp B (.get s x)).map (λB'=>((⟨r,none⟩::p:List Pf),B'))=none:=hu;have:=Option.map_eq_none_iff.mp this;unfold stp at this
    cases e:(B.q s)[B.g s]? with
    |none=>rfl
    |some v=>simp[e]at this
   |rep n b=>
    unfold cL at hu;dsimp only at hu;split at hu<;>cases hu
   |whl x b=>
    unfold cL at hu;dsimp only at hu;split at hu<;>cases hu
   |_=>cases hu
  have fr:=F.r;generalize hp:(⟨.get s x::r,c⟩::p:List Pf)=P0 at fr
  cases fr with
  |nil=>cases hp
  |hid _ nm _=>
   cases hp;exact Qf U (nm (.get s x) (by rw[l9];exact Q7 _ (wC _)) s x).2
  |@vis _ _ _ rs0 _=>
   cases hp;have e:=F.e;refine⟨dn.length,by rw[e];exact pF F.fd,⟨bu (.get s x),s,?_,U,?_⟩,F.le,F.eq⟩
   .rw[e,qV (qi _),Nat.sub_self];simp[eh,av,bE]
   .rw[e,List.take_left,<- F.st];have:=F.nn s;rw[<- F.st]at this;omega
theorem uo{ds:List a8}{m k:Nat}{B:Bk}{S:List Pf}{f:cj}(sh:aS (ShD false) ds)(g:bw m [⟨ds,none⟩] (Bg f) 0 S B k)(sp:jF S):k<(av ds).length/\∀i,Hungry (av ds) i->k<=i:=by
 obtain⟨dn,rs,F⟩:=nN sh g;refine⟨?_,λi hi=>?_⟩
 .match S,sp with
  |⟨d::r,c⟩::p,_=>
   have fr:=F.r;generalize hp:(⟨d::r,c⟩::p:List Pf)=P0 at fr
   cases fr with
   |nil=>cases hp
   |hid z _ _=>cases z
   |@vis _ _ _ rs0 _=>
    cases hp;have e:=congrArg List.length F.e;rw[qf,qf,F.eq U]at e;have:=List.length_pos_iff.mpr (B7 (d:=d) (r:=r) (c:=c));omega
 .refine Nat.le_of_not_lt λlt=>?_;obtain⟨r,q,a,b,c⟩:=hi;have fd:=pF (B:=rs) F.fd;rw[<- F.e]at fd;exact fd i r q (by rw[F.eq U];exact lt) a b c
def rk(d:a8):Prop:=∀x a sg b,d=.set x a sg b->(∀n,a=.num n->OnW n)/\∀n,b=.num n->OnW n
theorem vD(z:Int):OnW (z % 1000000000000000000000000000000):=⟨Qk _ Yk,Qp _ Yk⟩
theorem zV(n:Int)(names rooms:List Str)(shut:Bool):rk (bc n names rooms shut):=λx a sg b z=>by
 unfold bc at z;split at z
 .cases z
 .split at z
  .split at z<;>cases z
  .injection z with _ z2 _ z4;refine⟨λv e=>?_,λv e=>?_⟩
   .rw[<- z2]at e;split at e<;>cases e;exact vD _
   .rw[<- z4]at e;split at e<;>cases e;exact vD _
theorem sA{H:Hp}{l:Addr}:∀{us:List V}{ss:List (Str×Int)},RSs H us ss->∃ts:List Addr,us=ts.map V.ref/\ts.length=(ss.map (·.1)).length/\∀(j:Nat)(t:Addr)(s:Str),ts[j]?=some t->(ss.map (·.1))[j]?=some s->∃c:Int,H t=some (.tup [.str s,.int c])
 |_,_,.nil=>⟨[],U,U,λj t s h=>by simp at h⟩
 |_,_,.cons (p:=p) (q:=q) (n:=n) h r=>by
  obtain⟨ts,e1,e2,e3⟩:=sA (l:=l) r;refine⟨p::ts,by rw[e1];rfl,by simp[e2],λj t s h1 h2=>?_⟩
  cases j with
  |zero=>
   cases h1;cases h2;exact⟨n,h⟩
  |succ j=>exact e3 j t s (by simpa using h1) (by simpa using h2)
theorem Fq(ns:List Int)(i j:Option Int):∃ys:List Int,fE (ns.map V.int) i j=ys.map V.int/\ys.length<=ns.length:=by
 unfold fE;rw[<- List.map_drop,<- List.map_take];refine⟨_,U,?_⟩;rw[qU,Qa];omega
def O1(a:Adr)(G:Hp)(rows:List Row)(e:Row)(vr vs:V):Prop:=(∃lr ur,vr=.ref lr/\vs=.non/\G lr=some (.lst ur)/\bh G ur (rows++[e])/\FedN rows rows.length)\/∃x dx,∃i:Nat,vr=.non/\vs=.ref x/\G x=some (XO2 a.mt x dx)/\G dx=some (.xd [("place",.int i)])/\FedN rows i/\Hungry rows i
theorem O1.same{a:Adr}{G G':Hp}{rows:List Row}{e:Row}{vr vs:V}(s:aa G G')(h:O1 a G rows e vr vs):O1 a G' rows e vr vs:=by
 rcases h with⟨lr,ur,h1,h2,h3,h4,h5⟩|⟨x,dx,i,h1,h2,h3,h4,h5⟩
 .exact .inl ⟨lr,ur,h1,h2,s _ _ h3,h4.same s,h5⟩
 .exact .inr ⟨x,dx,i,h1,h2,s _ _ h3,s _ _ h4,h5⟩
def O2(a:Adr)(G:Hp)(m:Nat)(ds:List a8)(ss:List Str)(f:cj)(vt vs:V):Prop:=(∃t e k S B lo lf ll,vt=.ref t/\vs=.non/\bw m [⟨ds,none⟩] (Bg f) 0 S B k/\((e=true/\S=[])\/(e=false/\jF S/\k=m))/\k<=m/\G t=some (.tup [.bl e,.int (k:Nat),.ref lo,.ref lf,.ref ll])/\Lef G ll ss B)\/∃x dx k S B,vt=.non/\vs=.ref x/\bw m [⟨ds,none⟩] (Bg f) 0 S B k/\jK B S/\k<m/\G x=some (XO2 a.mt x dx)/\G dx=some (.xd [("place",.int (k:Nat))])
theorem Ga(rs:List Row){e:Row}(h1:e.into=none)(h2:e.outof=none)(q:Str):bal (rs++[e]) q=bal rs q:=by
 rw[jA,h1,h2];simp
def xy(rooms:List Str)(d:a8):Prop:=∀q x,d=.put q x->q∈rooms
theorem zU(n:Int)(names rooms:List Str)(shut:Bool):xy rooms (bc n names rooms shut):=λq x z=>by
 unfold bc at z;split at z
 .cases z
 .split at z
  .rename_i c;split at z
   .cases z
   .injection z with z1 z2;rw[<- z1];exact fO c.2.1 _
  .cases z
theorem FU{names rooms:List Str}{most low:Int}(h1:1<=most)(h98:most<=98)(cells:List Int):∀q x,.put q x∈ai (cY names rooms most low cells)->q∈rooms:=λq x h=>
 lx (Pd:=xy rooms) ⟨λ_ _ _ q x z=>(by cases z),λ_ _ q x z=>(by cases z),λn b _ _ q x z=>(by cases z)⟩ (λk s=>zU _ _ _ _) h1 h98 cells _ h q x U
theorem CT(T:Tx P w K mg a):aB P w K mg base CX0 60 a.J8 a.J9 ["_law_script"] (iW K):=by
 refine T.LF.ok e8 (λvs H Q E h=>?_) (λcdv A outer s H vs Q E hr h=>?_)
 .obtain⟨_,_,rfl,_⟩:=h
  rfl
 obtain⟨l,ns,rfl,hS,h63,hbits,_,k⟩:=h
 refine⟨_,(ah (az (i:=1) e8.nd U Oi (aK (fj T) (hr.mono Yk) U T.wT T.wP.kp T.wS .nil aA (a9 (aK (kO T) (hr.mono Yk) U T.Hg T.GD.kp T.Hf .nil aA (a9 (pq 0) (a9 ac af))) (a9 ac af))))
  (ah (az (i:=2) e8.nd U Oi (eI (ay aM (aq aZ (pq 1) ac) ac (au _)) ac ac))
  (ah (az (i:=3) e8.nd U Oi (aK (vg T) (hr.mono Yk) U T.Ka T.Jq.kp T.K9 .nil aA (a9 (pq 0) (a9 (pq 2) af))))
  (ah (az (i:=4) e8.nd U Oi (aK (vg T) (hr.mono Yk) U T.Ka T.Jq.kp T.K9 .nil aA (a9 (pq 0) (a9 (pq 2) af))))
  (ah (az (i:=5) e8.nd U Oi (aq aZ (aq df (pq 1) ac) ac))
  (ah (kI (i:=6) e8.nd U Oi (k:=1) (Nc:=["_law_cell"]) (js:=[]) (show bM (ax g6) ["_law_script","_law_third","_law_low","_law_program_here","_law_kept","_law_most","_law_numbers","_law_rows","_law_starved_here","error","_law_told","_law_stopped"] _ 1 ["_law_cell"] []from bM.mk U (by decide +kernel) (by decide +kernel) (by decide +kernel) U (by decide +kernel)) U (cD (gi lR (pq 0) iu (fh ac))) (λ_ _ _ _ _=>(aW (i:=0) (show List.Nodup (["_law_cell"]:List Str)from by decide +kernel) U Oi)) (λ_ _ _ _ _=>ip) (λ_ _ _ _ _=>(aq fJ (aq aZ (pq 0) (aq kP ac ac)) (eI (ay aM (aq aZ (pq 0) ac) ac (au _)) (aq kP ac ac) ac))))
  (ah (az (i:=7) e8.nd U Oi cr)
  (ah (az (i:=8) e8.nd U Oi cr)
  (ah (uK (iy:=7) (im:=8) (inn:=9) (CV T) (hr.mono Yk) U T.KD T.JH.kp T.KC .nil e8.nd U Oi U Oi U U U T.Kl T.Ko (λ_=>(a9 (pq 3) af)))
  (ah (az (i:=10) e8.nd U Oi cr)
  (ah (az (i:=11) e8.nd U Oi cr)
  (ah (uK (iy:=10) (im:=11) (inn:=9) (CN T) (hr.mono Yk) U T.Lp T.JV.kp T.Lo .nil e8.nd U Oi U Oi U U U T.Kl T.Ko (λ_=>(a9 (pq 3) (a9 (pq 6) (a9 (pq 5) af)))))
  (ah (aI (PW.pt (dF (ay (Cr hr.units) (pq 3) (pq 4) (au _)) (eU (PW.pt (fg (ay kC (pq 10) cr (au _)) (gc (PW.pt (dF (dg (cq (aU eT U T.wE PyProof.Rows.Boot.«isinstance» (a9 (pq 10) (a9 (eX (v:=.ty "tuple") U T.GE PyProof.Rows.Boot.«tuple» rfl) af))))) (eU (ay gG (aU ck U T.om Qi (a9 (pq 10) af)) ac (au _))))))))))) (aj (ar bZ)) aO)
  (ah (aI (ay nY (pq 8) cr (au _)) (aj (ar (gM (eK nY (pq 11) cr (au _)) (gj (aK (D9 T) (hr.mono Yk) U T.LE T.Ke.kp T.LD .nil aA (a9 (pq 7) (a9 (pq 10) (a9 (ao aD (pq 4) ac Oy) (a9 (pq 2) (a9 (pq 5) af)))))))))) aO)
  (ah (aI (dg (cq (aK (vf T) (hr.mono Yk) U T.Kc T.Jr.kp T.Kb .nil aA (a9 (pq 8) af)))) (aj (ar bZ)) aO)
  (ah (aI (ay nY (pq 11) cr (au _)) (aj (ar (gM (eK Cz (ao aD (pq 10) ac Oy) bZ (au _)) (gM (eK aM (ao aD (pq 10) ac Oy) (pq 5) (au _)) (gj (uT (eK aM (pq 2) ac (au _)) (gj (eK ij (pq 5) (gK (pq 8)) (au _))))))))) aO)
  (ah (aI (PW.pt (dF (dg (cq (aK (vf T) (hr.mono Yk) U T.Kc T.Jr.kp T.Kb .nil aA (a9 (pq 11) af)))) (eU (ay nZ (gK (pq 11)) (pq 5) (au _))))) (aj (ar bZ)) aO)
  (aj (ar (uT (eK aM (gK (pq 11)) (gK (pq 8)) (au _)) (gj (gM (eK aM (pq 2) ac (au _)) (gj (eK gJ (gK (pq 11)) (gK (pq 8)) (au _))))))))))))))))))))))))),?_⟩
 refine⟨_,U,l,ns,2,U,hS,Yo,Yk,_,_,U,Yk,Yk,?_⟩;have t0:=jm (ns.getD (2:Int).toNat 0) 30;generalize aE (ns.getD (2:Int).toNat 0) 30=t at t0;dsimp only[dL];refine eR (λY' G'=>(∃lo:Int,(lo=9\/lo=7)/\Y'=[some (.ref l),some (.int t),some (.int lo),none,none,none,none,none,none,none,none,none])/\G'=H) ?_ ?_
 rotate_left
 .intro N hN;refine⟨_,U,_,_,U,U,Yk,U,_,U,be (λ_=>?_) (λ_=>?_)⟩
  .exact hN _ _ ⟨⟨9,.inl U,U⟩,U⟩
  .exact hN _ _ ⟨⟨7,.inr U,U⟩,U⟩
 rintro Y' G' ⟨⟨lo,lo7,rfl⟩,rfl⟩;have nl:(br ns).length=(1+aE (ns.getD 1 0) 1 % 4).toNat:=kJ _ _;have rl:(aQ ns).length=(1+aE (ns.getD 1 0) 3 % 3).toNat:=kJ _ _;have nm0:0<(br ns).length:=Yo;have rl3:(aQ ns).length<=3:=Yo;obtain⟨bk0,bd,bk3⟩:=FV (rooms:=aQ ns) (most:=4) (low:=lo) nm0 (dY ns 3 63);have tx0:=FR (rooms:=aQ ns) (most:=4) (low:=lo) nm0 (dY ns 3 63);have cl:(dY ns 3 63).length<=60:=by unfold dY;rw[qU];omega
 have bra:aS eN (dQ ns lo):=pO Yk Yk _;have bfl:(ai (dQ ns lo)).length<=60:=qJ bk3 cl
 have brl:(av (dQ ns lo)).length<=480:=by
  have h:=FT (names:=br ns) (rooms:=aQ ns) (most:=4) (low:=lo) Yk Yk (dY ns 3 63);change ((av (dQ ns lo)).length:Int)<=_ at h;omega
 have ml:(bH ns lo).length<=240:=by
  have h:=FW (names:=br ns) (rooms:=aQ ns) (most:=4) (low:=lo) Yk Yk (dY ns 3 63);change ((bH ns lo).length:Int)<=_ at h;omega
 obtain⟨fr,fl720,fnr,ff,fdp⟩:=wj (lo:=lo) nm0 ml rl3;refine⟨_,U,_,U,l,ns,lo,U,hS,h63,bd,bra,ml,bfl,λH1 p la ls lb us s1 rp=>?_⟩;dsimp only[dL];refine⟨_,U,_,U,l,ns,lo,U,s1.seq hS,h63,bd,bra,ml,bfl,λH2 p' la' ls' lb' us' s2 rp'=>?_⟩;have rp2:=rp.same s2;obtain⟨ds,eds⟩:∃ds,ds=d8 ns lo++dQ ns lo:=⟨_,U⟩;rw[<- eds]at rp2 rp';clear rp
 have pD:∀d∈ai ds,(∃q x,d=.put q x/\q∈aQ ns/\x∈br ns)\/d∈ai (dQ ns lo):=λd hd=>by
  rw[eds,f9,ff]at hd;exact(qp.mp hd).imp (fr d) id
 have hdp:aH ds<=12:=by rw[eds,pI,fdp,Nat.zero_max];exact bd
 have hfl:(ai ds).length<=1300:=by rw[eds,f9,qf,ff];omega
 have rA:aS eN ds:=λd hd n b z=>by
  rcases pD d hd with⟨_,_,e,_⟩|h
  .rw[e]at z;cases z
  .exact bra d h n b z
 have rwl:(av ds).length<2000:=by rw[eds,kr,AW fnr,qf,qc];omega
 have sh:aS (ShD (decide (lo=7))) ds:=λd hd=>by
  rcases pD d hd with⟨_,_,e,_⟩|h
  .rw[e];exact⟨λ_ _ _ z=>(nomatch z),λ_ _ z=>(nomatch z)⟩
  .refine FS (names:=br ns) (rooms:=aQ ns) (most:=4) (low:=lo) ?_ Yk Yk (dY ns 3 63) d h;rcases lo7 with e|e
   .exact .inr Yo
   .exact .inl (Qd e)
 have bk1:∀c∈cards ds,c∈bg (br ns) (aQ ns):=λc hc=>by
  unfold cards at hc;obtain⟨d,hd,hc⟩:=List.mem_flatMap.mp hc;rcases pD d hd with⟨q,y,rfl,hq,hy⟩|h
  .simp only[a8.cards,a8.names,a8.others,Qw,Qv,qF,Q0,or_false]at hc;unfold bg;simp only[qp,List.mem_map];rcases hc with rfl|rfl
   .exact .inl (.inl (.inl hy))
   .exact .inl (.inl (.inr ⟨_,hq,U⟩))
  .exact bk0 c (List.mem_flatMap.mpr ⟨d,h,hc⟩)
 have tx:cP (cA (br ns) (aQ ns)) ds:=λd hd s hs=>by
  rcases pD d hd with⟨q,y,rfl,hq,hy⟩|h
  .simp only[a8.strs,qF,Q0,or_false]at hs;unfold cA;simp only[qp];rcases hs with rfl|rfl
   .exact .inl (.inr hq)
   .exact .inl (.inl hy)
  .exact tx0 d h s hs
 have c64:(bg (br ns) (aQ ns)).length<64:=by rw[Gg];omega
 have csh:∀q∈bg (br ns) (aQ ns),q.length<=1000:=Gf;have tok:∀s∈cA (br ns) (aQ ns),PyData.strOk s=true:=yu;have am:∀x∈db ns,x∈br ns:=xr (qi _);have al:(db ns).length<=5:=qJ (pU _ _ _) Yo
 have srm:(cV ns).map (·.1)=aQ ns:=by
  unfold cV;rw[List.map_map];exact List.map_id _
 have sm:∀s∈cV ns,s.1∈aQ ns:=λs hs=>by rw[<- srm];exact List.mem_map.mpr ⟨s,hs,U⟩
 have sl:(cV ns).length=(aQ ns).length:=qc _;have ssh:∀s∈cV ns,s.1.length<=1000:=λs hs=>qJ (jf _ _ _ (sm s hs)) Yk
 have shp:SeqAt.shaped (iq (db ns) (cV ns) ds)=true:=
  Ab tok (λs hs=>tok s (by unfold cA;simp[am s hs])) (λs hs=>tok s.1 (by unfold cA;simp[sm s hs])) tx hdp
 have eqr:PyData.eqv (iq (db ns) (cV ns) ds) (iq (db ns) (cV ns) ds)=true:=SeqAt.eqv_refl _ (SeqAt.canLay_of_shaped shp);have pc:∀x∈eV (db ns) (cV ns) ds,x∈bg (br ns) (aQ ns):=BL am sm bk1
 have short:∀r∈av ds,∀q,r.outof=some q->q.length<=1000:=AV csh λd hd q x e=>by
  subst e;exact bk1 _ (List.mem_flatMap.mpr ⟨_,hd,by simp[a8.cards,a8.names,a8.others]⟩)
 dsimp only[dL];refine⟨_,U,_,_,U,U,⟨Yk,Yk⟩,_,_,U,U,Yk,?_⟩;obtain⟨m,em,m400⟩:∃m:Nat,t / 2 % 400=(m:Int)/\m<400:=⟨(t / 2 % 400).toNat,Yo,Yo⟩;rw[em];dsimp only[dL];obtain⟨ys,ey,yl⟩:=Fq ns none (some 5);refine⟨_,U,_,U,l,_,U,(s1.trans s2).seq hS,λc hc=>?_⟩;rw[ey];have s3:=aa.new hc (.lst (ys.map V.int));have hc3:upd H2 c (.lst (ys.map V.int)) c=some (.lst (ys.map V.int)):=ag;generalize upd H2 c (.lst (ys.map V.int))=H3 at s3 hc3;refine⟨c,U,⟨_,SqL.of hc3⟩,?_⟩;refine iN (K:=K) (a:=c) (xs:=ys.map V.int) (λi zs Y G=>(∃v,Y=[v])/\G=H3/\∃xs:List Int,zs=xs.map V.int/\xs.length=i) ⟨⟨_,U⟩,U,[],U,U⟩ ?_ (aR (m:=100) (by rw[qc];omega)) ?_ ?_ ?_
 .rintro i zs Y G _ ⟨_,_,xs,rfl,e⟩;rw[qc,e];exact qi _
 .rintro i zs Y G ⟨_,rfl,_⟩;exact SqL.of hc3
 .rintro i x zs Y G hx ⟨⟨v,rfl⟩,rfl,xs,rfl,e⟩;rw[qO]at hx;obtain⟨z,hz,rfl⟩:=qZ.mp hx;have fin:∀y:Int,(∃v,[some (V.int z)]=[v])/\G=G/\∃ws:List Int,xs.map V.int++[V.int y]=ws.map V.int/\ws.length=i+1:=λy=>⟨⟨_,U⟩,U,xs++[y],by rw[qY];rfl,by rw[qf,e];rfl⟩;refine⟨_,U,_,_,U,U,⟨Yk,Yk,Yk⟩,_,_,U,U,Yd,_,U,_,_,U,U,Yk,U,_,U,be (λ_=>?_) (λ_=>?_)⟩
  .exact⟨_,_,U,U,⟨Yk,Yk,Yk⟩,_,_,U,U,fin _⟩
  .exact⟨_,_,U,U,fin _⟩
 rintro zs Y G ⟨_,rfl,nums,rfl,nle⟩ ln hln;rw[qc]at nle;have s4:=s3.trans (aa.new hln (.lst (nums.map V.int)));have hn4:upd G ln (.lst (nums.map V.int)) ln=some (.lst (nums.map V.int)):=ag;generalize upd G ln (.lst (nums.map V.int))=H4 at s4 hn4;dsimp only[dL];have rp4:=rp2.same s4;have rp4':=rp'.same s4;refine eR (λY' G'=>Y'=[some (.ref l),some (.int t),some (.int lo),some (.ref p),some (.ref p'),some (.int m),some (.ref ln),some .non,none,none,none,none]/\G'=H4) ?_ (λN hN=>hN _ _ ⟨U,U⟩);rintro Y' G4 ⟨rfl,rfl⟩;refine eR (λY' G'=>Y'=[some (.ref l),some (.int t),some (.int lo),some (.ref p),some (.ref p'),some (.int m),some (.ref ln),some .non,some .non,none,none,none]/\G'=G4) ?_ (λN hN=>hN _ _ ⟨U,U⟩);rintro Y' G5 ⟨rfl,rfl⟩;refine eR (λY' G'=>aa G5 G'/\∃vr vs,Y'=[some (.ref l),some (.int t),some (.int lo),some (.ref p),some (.ref p'),some (.int m),some (.ref ln),some vr,some vs,none,none,none]/\O1 a G' (av ds) (iK (db ns) (cV ns) ds) vr vs) ?_ ?_
 rotate_left
 .intro N hN;refine⟨_,U,p,la,ls,lb,db ns,cV ns,ds,us,bg (br ns) (aQ ns),U,rp4,hdp,hfl,Yo,Yo,ssh,pc,c64,csh,rA,short,λge=>Qf ge Yo,λ_ i fed hu H6 d s6 hd=>?_,λ_ fed H6 lf us6 s6 h6 hr6=>?_⟩
  .refine⟨a.mt,d,U,U,T.Km,λe he=>?_⟩;have s7:=aa.new he (XO2 a.mt e d);exact hN _ _ ⟨s6.trans s7,_,_,U,.inr ⟨e,d,i,U,U,ag,s7 _ _ hd,fed,hu⟩⟩
  .exact hN _ _ ⟨s6,_,_,U,.inl ⟨lf,us6,U,U,h6,hr6,fed⟩⟩
 rintro Y' G6 ⟨s6,vr,vs,rfl,o1⟩;refine eR (λY' G'=>Y'=[some (.ref l),some (.int t),some (.int lo),some (.ref p),some (.ref p'),some (.int m),some (.ref ln),some vr,some vs,none,some .non,none]/\G'=G6) ?_ (λN hN=>hN _ _ ⟨U,U⟩);rintro Y' G7 ⟨rfl,rfl⟩;refine eR (λY' G'=>Y'=[some (.ref l),some (.int t),some (.int lo),some (.ref p),some (.ref p'),some (.int m),some (.ref ln),some vr,some vs,none,some .non,some .non]/\G'=G7) ?_ (λN hN=>hN _ _ ⟨U,U⟩);rintro Y' G8 ⟨rfl,rfl⟩;have rp8:=rp4.same s6;have rp8':=rp4'.same s6;have cin:∀d∈ai ds,∀x∈d.names,x∈bg (br ns) (aQ ns):=λd hd x hx=>bk1 x (List.mem_flatMap.mpr ⟨d,hd,Q7 _ hx⟩)
 have numD:∀d∈ai ds,rk d:=λd hd=>by
  rcases pD d hd with⟨_,_,e,_⟩|h
  .rw[e];exact λ_ _ _ _ z=>(nomatch z)
  .exact lx (Pd:=rk) ⟨λ_ _ _ _ _ _ _ z=>(nomatch z),λ_ _ _ _ _ _ z=>(nomatch z),λ_ _ _ _ _ _ _ _ z=>(nomatch z)⟩ (λk s=>zV _ _ _ _) (by decide) (by decide) _ d h
 have blo:cZ (bg (br ns) (aQ ns)) (aQ ns) ds:=λd hd=>by
  have c:=cin d hd
  cases d with
  |set x va sg vb=>
   obtain⟨n1,n2⟩:=numD _ hd x va sg vb U;refine⟨c x (by simp[a8.names]),?_,?_⟩
   .cases va with
    |num n=>exact n1 n U
    |nm y=>exact c y (by simp[a8.names,Val.names])
   .cases vb with
    |num n=>exact n2 n U
    |nm y=>exact c y (by simp[a8.names,Val.names])
  |put q x=>exact⟨(pD _ hd).elim (λ⟨_,_,e,hq,_⟩=>by cases e;exact hq) (FU Yk Yk _ q x),c x (by simp[a8.names])⟩
  |get q x=>exact⟨(pD _ hd).elim (λ⟨_,_,e,_⟩=>by cases e) (FX Yk Yk _ q x),c x (by simp[a8.names])⟩
  |give x=>exact c x (by simp[a8.names])
  |cond x t o=>exact c x (by simp[a8.names])
  |whl x b=>exact c x (by simp[a8.names])
  |rep n b=>
   have:=rA _ hd n b U;exact⟨this.1,Yo⟩
 have aC:∀x∈db ns,x∈bg (br ns) (aQ ns):=λx hx=>by unfold bg;simp[am x hx]
 have sto:Sto G8 ls (aQ ns):=by
  obtain⟨ts,e1,e2,e3⟩:=sA (l:=ls) rp8.ro;rw[srm]at e2 e3;exact⟨ts,by rw[<- e1];exact rp8.st,e2,e3⟩
 have rnd:(aQ ns).Nodup:=BO _ Yo;have rsh:∀s∈aQ ns,s.length<=1000:=λs hs=>qJ (jf _ _ _ hs) Yk;refine eR (λY' G'=>aa G8 G'/\∃vt vu,Y'=[some (.ref l),some (.int t),some (.int lo),some (.ref p),some (.ref p'),some (.int m),some (.ref ln),some vr,some vs,none,some vt,some vu]/\O2 a G' m ds (aQ ns) (dZ ((db ns).zip nums)) vt vu) ?_ ?_
 rotate_left
 .intro N hN;refine⟨_,U,_,U,_,U,p,la,ls,lb,ln,m,db ns,nums,ds,bg (br ns) (aQ ns),aQ ns,U,rp8.top,rp8.as,sto,s6 _ _ hn4,rp8.bo,hdp,hfl,Yo,Yo,aC,blo,c64,rnd,Yo,rsh,Yo,λB' k' S H9 x g hu km s9 hx=>?_,λe B' k' S H9 t9 lo9 lf9 ll9 zs9 g ev _ km s9 ht _ _ _ hlf=>?_⟩
  .refine⟨a.mt,x,U,U,T.Km,λe he=>?_⟩;have s10:=aa.new he (XO2 a.mt e x);exact hN _ _ ⟨s9.trans s10,_,_,U,.inr ⟨e,x,k',S,B',U,U,g,hu,km,ag,s10 _ _ hx⟩⟩
  .exact hN _ _ ⟨s9,_,_,U,.inl ⟨t9,e,k',S,B',lo9,lf9,ll9,U,U,g,ev,km,ht,hlf⟩⟩
 rintro Y' G9 ⟨s9,vt,vu,rfl,o2⟩;have o1:=o1.same s9;have rp9:=rp8.same s9;have rp9':=rp8'.same s9;refine eR (λY' G'=>Y'=[some (.ref l),some (.int t),some (.int lo),some (.ref p),some (.ref p'),some (.int m),some (.ref ln),some vr,some vs,none,some vt,some vu]/\G'=G9) ?_ ?_
 rotate_left
 .intro N hN;refine⟨_,U,_,U,_,_,rp9.dt,rp9'.dt,shp,shp,_,U,aG (by rw[eqr];rfl) ?_⟩;rcases o2 with⟨t9,e,k9,S,B,lo9,lf9,ll9,rfl,rfl,g,ev,km,ht,hlf⟩|⟨x,dx,k9,S,B,rfl,rfl,g,hu,km,hx,hdx⟩
  .refine⟨_,U,U,_,U,aX U ?_⟩;refine⟨_,U,_,_,_,true,U,.tup ht,U,_,U,aG U ?_⟩;exact⟨_,U,t9,_,U,.inr (SqT.of ht),U,_,U,aG U (hN _ _ ⟨U,U⟩)⟩
  .exact⟨_,U,U,_,U,aG U (aG U (hN _ _ ⟨U,U⟩))⟩
 rintro Y' G10 ⟨rfl,rfl⟩;have h9:lo=9->decide (lo=7)=false:=λe=>Qe Yo;refine⟨_,U,U,_,U,?_⟩;rcases o1 with⟨lr,ur,rfl,rfl,hlr,rr,fed⟩|⟨x1,dx1,i1,rfl,rfl,hx1,hdx1,fed1,hu1⟩
 .refine aX U ?_;rcases o2 with⟨t9,e,k9,S,B,lo9,lf9,ll9,rfl,rfl,g,ev,km,ht,hlf⟩|⟨x,dx,k9,S,B,rfl,rfl,g,hu,km,hx,hdx⟩
  .refine⟨_,U,U,_,U,aX U ?_⟩;have L:LvH G10 ll9 ls' lr ur us' (av ds++[iK (db ns) (cV ns) ds]) (cV ns) B:=⟨by rw[srm];exact hlf,rp9'.st,rp9'.ro,hlr,rr,by rw[qf,Qh];omega,Yo⟩;refine⟨_,U,_,U,_,U,p',_,_,_,U,U,SqT.of rp9'.top,U,_,U,_,U,lr,t9,ls',lo9,lf9,ll9,ur,us',_,_,B,e,k9,m,lo,U,ht,L,λz=>?_,λz=>?_,λz=>?_,λH'=>k H'⟩
   .rw[qf,Qh];rcases ev with⟨rfl,rfl⟩|⟨rfl,sp,rfl⟩
    .have:=(nO sh g).2.2.1 (h9 z);rw[Qd Yo]
    .rw[h9 z]at sh;have:=(uo sh g sp).1;rw[Qe Yo]
   .rcases ev with⟨rfl,_⟩|⟨_,_,e⟩
    .cases z
    .exact e
   .rcases ev with⟨_,rfl⟩|⟨rfl,_⟩
    .obtain⟨_,r2,r3,r4⟩:=nO sh g;rw[qf,Qh];exact⟨Yo,λz=>by rw[r3 (h9 z)],km,λs _=>by rw[Ga _ U U];exact r4 s.1⟩
    .cases z
  .obtain⟨i,f1,f2,_⟩:=um sh g hu;exact(wG fed f2).elim
 .refine aG U ?_;dsimp only[fb];refine⟨_,U,x1,dx1,i1,U,hx1,hdx1,_,U,aG U ?_⟩;dsimp only[fb];refine⟨_,U,U,_,U,?_⟩;rcases o2 with⟨t9,e,k9,S,B,lo9,lf9,ll9,rfl,rfl,g,ev,km,ht,hlf⟩|⟨x,dx,k9,S,B,rfl,rfl,g,hu,km,hx,hdx⟩
  .refine aX U ?_;rcases ev with⟨rfl,rfl⟩|⟨rfl,sp,rfl⟩
   .exact(wG (nO sh g).1 hu1).elim
   refine⟨_,U,t9,_,_,_,U,U,SqT.of ht,U,_,_,U,U,_,U,aX U ?_⟩;refine⟨_,U,t9,_,_,_,U,U,SqT.of ht,U,_,U,U,_,U,aX (Qd U) ?_⟩;refine⟨_,U,U,_,U,?_⟩;rcases lo7 with e|e
   .refine aG (Qe λz=>by have:=V.int.inj z;omega) ⟨_,U,_,U,x1,_,dx1,_,U,hx1,hdx1,T.Gs,_,_,U,U,?_⟩;rw[h9 e]at sh;have:=(uo sh g sp).2 i1 hu1;rw[Qd Yo];exact k _
   .exact aX (Qd (by rw[e])) (k _)
  .refine aG U ?_;dsimp only[fb];refine⟨_,U,x,dx,k9,U,hx,hdx,_,U,aG U ?_⟩;refine⟨_,U,x,_,dx,_,U,hx,hdx,T.Gs,_,U,_,_,U,U,_,U,aG (Qe Yo) ?_⟩;dsimp only[fb];obtain⟨i,f1,f2,f3,f4⟩:=um sh g hu;obtain rfl:=EE fed1 hu1 f1 f2;refine⟨_,U,x,_,dx,_,U,hx,hdx,T.Gs,_,U,x1,_,dx1,_,U,hx1,hdx1,T.Gs,U,_,U,?_⟩;by_cases z:k9=i1
   .exact aX (Qd (by rw[z])) (k _)
   .refine aG (Qe λy=>z (by have:=V.int.inj y;omega)) ⟨_,U,U,_,U,?_⟩;rcases lo7 with e|e
    .exact Qf (f4 (h9 e)) λy=>z y.symm
    .refine aX (Qd (by rw[e])) ⟨_,U,x,_,dx,_,U,hx,hdx,T.Gs,_,U,x1,_,dx1,_,U,hx1,hdx1,T.Gs,_,_,U,U,?_⟩;rw[Qd Yo];exact k _
end
theorem fM(P:Params)(f:Addr)(st:Stmt){x qual:Str}{oc:Value}{od an:Option Addr}{osl:Array (Option Value)}{kV doc pm cdv ct:Value}(l:(hk P).lookup f=some ⟨oc,od,.func (W.fnOf x qual (dO st) (d9 st) (ax st) .none kV doc pm an cdv ct),osl⟩:=by k_is)
 (c:W.codeIn (hk P) cdv qual=true:=by k_is) (k:W.keepIn (hk P) (.ref f)=true:=by k_is):Fun (hk P) x qual st f (W.fnOf x qual (dO st) (d9 st) (ax st) .none kV doc pm an cdv ct):=EO l c k
theorem dM(P:Params)(f:Addr)(st:Stmt){x qual:Str}{dt:Addr}{oc:Value}{od an d2:Option Addr}{osl e2:Array (Option Value)}{n:Nat}{kV doc pm cdv ct dv:Value}(l:(hk P).lookup f=some ⟨oc,od,.func (W.fnOf x qual (dO st) (d9 st) (ax st) (.ref dt) kV doc pm an cdv ct),osl⟩:=by k_is)
 (c:W.codeIn (hk P) cdv qual=true:=by k_is) (k:W.keepIn (hk P) (.ref f)=true:=by k_is) (t:(hk P).lookup dt=some ⟨.type "tuple",d2,.seq #[dv] n,e2⟩:=by k_is):hU (hk P) x qual st f (W.fnOf x qual (dO st) (d9 st) (ax st) (.ref dt) kV doc pm an cdv ct) dv:=EN l c k t U
theorem bC{R:List Value->Prop}(h:∀x0,R [x0]):∀us:List Value,us.length=1->R us
 |[_],_=>h _
theorem dA{R:List Value->Prop}(h:∀x0 x1,R [x0,x1]):∀us:List Value,us.length=2->R us
 |[_,_],_=>h _ _
theorem iG{R:List Value->Prop}(h:∀x0 x1 x2,R [x0,x1,x2]):∀us:List Value,us.length=3->R us
 |[_,_,_],_=>h _ _ _
theorem kT{R:List Value->Prop}(h:∀x0 x1 x2 x3,R [x0,x1,x2,x3]):∀us:List Value,us.length=4->R us
 |[_,_,_,_],_=>h _ _ _ _
theorem vO{R:List Value->Prop}(h:∀x0 x1 x2 x3 x4,R [x0,x1,x2,x3,x4]):∀us:List Value,us.length=5->R us
 |[_,_,_,_,_],_=>h _ _ _ _ _
theorem mM{P:Params}{h:Heap}{mg:Str->Option Value}{x:Str}{v:Value}(X:(hk P).In h)(G:h.Ns mainGlobals mg)(e:W.nsIn (hk P) mainGlobals x=some (some v):=by k_is):mg x=some v:=W.mg_of X G e
theorem nM{P:Params}{h:Heap}{mg:Str->Option Value}{x:Str}(X:(hk P).In h)(G:h.Ns mainGlobals mg)(e:W.nsIn (hk P) mainGlobals x=some none:=by k_is):mg x=none:=W.mg_none_of X G e
theorem oM{P:Params}{C:Addr}{f:Str}(e:W.findIn (hk P) (.ref C) f=some none:=by k_is):dC (hk P) C f:=e
set_option maxHeartbeats 0 in
theorem Ge{w:World}{h:Heap}{mg:Str->Option Value}{fa:Addr}(X:(hk w.params).In h)(G:h.Ns mainGlobals mg)(hfa:mg "law"=some (.ref fa)):
 ∃fd:FuncData,(∀(s:Shared)(v:Value),BindsTo s fd ⟨[v],[]⟩ [("_law_script",v)])/\∀base:Heap,(hk w.params).In base->base.Ns mainGlobals mg->aB PySem.Challenge.rw_handflow_k29_whole_deeds_and_the_run.prog w (hk w.params) mg base CX0 60 fa fd ["_law_script"] (iW (hk w.params)):=by
 k_fill
 cases hfa.symm.trans (mM (v:=.ref 468) X G);have F0:=fM w.params 30 my;have b0:=F0.binds (ps:=["block"]) λ_ _ _ _ _ _=>bC λ_=>U;have F1:=fM w.params 37 mf;have b1:=F1.binds (ps:=["program"]) λ_ _ _ _ _ _=>bC λ_=>U;have F2:=fM w.params 44 mK;have b2:=F2.binds (ps:=["block"]) λ_ _ _ _ _ _=>bC λ_=>U;have F3:=fM w.params 51 mJ;have b3:=F3.binds (ps:=["deed"]) λ_ _ _ _ _ _=>bC λ_=>U;have F4:=fM w.params 56 kj;have b4:=F4.binds (ps:=["deed"]) λ_ _ _ _ _ _=>bC λ_=>U;have F5:=fM w.params 63 mj;have b5:=F5.binds (ps:=["deed"]) λ_ _ _ _ _ _=>bC λ_=>U;have F6:=fM w.params 71 mh;have b6:=F6.binds (ps:=["block"]) λ_ _ _ _ _ _=>bC λ_=>U;have F7:=fM w.params 78 mq;have b7:=F7.binds (ps:=["deed"]) λ_ _ _ _ _ _=>bC λ_=>U;have F8:=fM w.params 85 mn;have b8:=F8.binds (ps:=["store"]) λ_ _ _ _ _ _=>bC λ_=>U;have F9:=fM w.params 92 mB;have b9:=F9.binds (ps:=["store"]) λ_ _ _ _ _ _=>bC λ_=>U;have F10:=fM w.params 99 mI;have b10:=F10.binds (ps:=["program"]) λ_ _ _ _ _ _=>bC λ_=>U;have F11:=fM w.params 113 nJ;have b11:=F11.binds (ps:=["self","words","place"]) λ_ _ _ _ _ _=>iG λ_ _ _=>U;have F12:=fM w.params 150 mE;have b12:=F12.binds (ps:=["program"]) λ_ _ _ _ _ _=>bC λ_=>U;have F13:=fM w.params 157 mF;have b13:=F13.binds (ps:=["block"]) λ_ _ _ _ _ _=>bC λ_=>U;have F14:=fM w.params 164 me;have b14:=F14.binds (ps:=["block"]) λ_ _ _ _ _ _=>bC λ_=>U;have F15:=fM w.params 171 ma;have b15:=F15.binds (ps:=["rounds","body"]) λ_ _ _ _ _ _=>dA λ_ _=>U;have F16:=fM w.params 178 md;have b16:=F16.binds (ps:=["deed"]) λ_ _ _ _ _ _=>bC λ_=>U;have F17:=fM w.params 185 mo;have b17:=F17.binds (ps:=["kind","cards"]) λ_ _ _ _ _ _=>dA λ_ _=>U;have F18:=fM w.params 192 mG;have b18:=F18.binds (ps:=["deeds"]) λ_ _ _ _ _ _=>bC λ_=>U;have F19:=fM w.params 206 nH;have b19:=F19.binds (ps:=["self","things"]) λ_ _ _ _ _ _=>dA λ_ _=>U;have F20:=fM w.params 213 nE;have b20:=F20.binds (ps:=["self"]) λ_ _ _ _ _ _=>bC λ_=>U;have F21:=fM w.params 227 nG;have b21:=F21.binds (ps:=["self","thing"]) λ_ _ _ _ _ _=>dA λ_ _=>U;have F22:=fM w.params 234 nD;have b22:=F22.binds (ps:=["self"]) λ_ _ _ _ _ _=>bC λ_=>U;have F23:=fM w.params 241 nF;have b23:=F23.binds (ps:=["self"]) λ_ _ _ _ _ _=>bC λ_=>U;have F24:=fM w.params 255 mC;have b24:=F24.binds (ps:=["sign","a","b"]) λ_ _ _ _ _ _=>iG λ_ _ _=>U;have F25:=fM w.params 262 mi;have b25:=F25.binds (ps:=["sign","a","b"]) λ_ _ _ _ _ _=>iG λ_ _ _=>U;have F26:=fM w.params 267 kn;have b26:=F26.binds (ps:=["program","numbers"]) λ_ _ _ _ _ _=>dA λ_ _=>U;have F27:=fM w.params 279 ko;have b27:=F27.binds (ps:=["self","numbers","stores","most"]) λ_ _ _ _ _ _=>kT λ_ _ _ _=>U;have F28:=fM w.params 286 nB;have b28:=F28.binds (ps:=["self","block"]) λ_ _ _ _ _ _=>dA λ_ _=>U;have F29:=fM w.params 293 nA;have b29:=F29.binds (ps:=["self","deed"]) λ_ _ _ _ _ _=>dA λ_ _=>U;have F30:=fM w.params 300 nw;have b30:=F30.binds (ps:=["self","name","then","other"]) λ_ _ _ _ _ _=>kT λ_ _ _ _=>U;have F31:=fM w.params 307 nh;have b31:=F31.binds (ps:=["self","name","body"]) λ_ _ _ _ _ _=>iG λ_ _ _=>U;have F32:=fM w.params 314 nj;have b32:=F32.binds (ps:=["self","rounds","body"]) λ_ _ _ _ _ _=>iG λ_ _ _=>U;have F33:=fM w.params 321 ni;have b33:=F33.binds (ps:=["self"]) λ_ _ _ _ _ _=>bC λ_=>U;have F34:=fM w.params 328 n8;have b34:=F34.binds (ps:=["self"]) λ_ _ _ _ _ _=>bC λ_=>U;have F35:=fM w.params 335 nu;have b35:=F35.binds (ps:=["self","deed"]) λ_ _ _ _ _ _=>dA λ_ _=>U;have F36:=fM w.params 342 mZ;have b36:=F36.binds (ps:=["self","value"]) λ_ _ _ _ _ _=>dA λ_ _=>U;have F37:=fM w.params 349 ng;have b37:=F37.binds (ps:=["self","store"]) λ_ _ _ _ _ _=>dA λ_ _=>U;have F39:=fM w.params 369 mX;have b39:=F39.binds (ps:=["_law_script","_law_k"]) λ_ _ _ _ _ _=>dA λ_ _=>U;have F40:=fM w.params 376 mU;have b40:=F40.binds (ps:=["_law_cell","_law_k"]) λ_ _ _ _ _ _=>dA λ_ _=>U;have F41:=fM w.params 383 mL;have b41:=F41.binds (ps:=["_law_found"]) λ_ _ _ _ _ _=>bC λ_=>U;have F42:=fM w.params 390 mV;have b42:=F42.binds (ps:=["_law_number","_law_size"]) λ_ _ _ _ _ _=>dA λ_ _=>U;have F43:=fM w.params 397 mO;have b43:=F43.binds (ps:=["_law_word"]) λ_ _ _ _ _ _=>bC λ_=>U;have F44:=fM w.params 404 mR;have b44:=F44.binds (ps:=["_law_cell","_law_many"]) λ_ _ _ _ _ _=>dA λ_ _=>U;have F45:=fM w.params 411 mP;have b45:=F45.binds (ps:=["_law_number","_law_names","_law_rooms","_law_shut"]) λ_ _ _ _ _ _=>kT λ_ _ _ _=>U;have F46:=fM w.params 418 mS;have b46:=F46.binds (ps:=["_law_state","_law_number","_law_x","_law_most"]) λ_ _ _ _ _ _=>kT λ_ _ _ _=>U;have F47:=fM w.params 425 mY;have b47:=F47.binds (ps:=["_law_cells","_law_names","_law_rooms","_law_most","_law_low"]) λ_ _ _ _ _ _=>vO λ_ _ _ _ _=>U;have F48:=fM w.params 432 mT;have b48:=F48.binds (ps:=["_law_block_here"]) λ_ _ _ _ _ _=>bC λ_=>U;have F49:=fM w.params 439 mQ;have b49:=F49.binds (ps:=["_law_moves_here","_law_q"]) λ_ _ _ _ _ _=>dA λ_ _=>U;have F50:=fM w.params 444 j7;have b50:=F50.binds (ps:=["_law_script","_law_low"]) λ_ _ _ _ _ _=>dA λ_ _=>U;have F51:=fM w.params 451 mN;have b51:=F51.binds (ps:=["_law_caught"]) λ_ _ _ _ _ _=>bC λ_=>U;have F52:=fM w.params 456 j8;have b52:=F52.binds (ps:=["_law_left","_law_stores","_law_rows"]) λ_ _ _ _ _ _=>iG λ_ _ _=>U;have F53:=fM w.params 463 mW;have b53:=F53.binds (ps:=["_law_rows","_law_told","_law_stores","_law_low","_law_most"]) λ_ _ _ _ _ _=>vO λ_ _ _ _ _=>U;have F54:=fM w.params 468 g6;have b54:=F54.binds (ps:=["_law_script"]) λ_ _ _ _ _ _=>bC λ_=>U;have F38:=dM (dv:=.int 5000 640) w.params 362 j6;have bd38:=F38.binds (ps:=["program","numbers","most"]) [.int 5000 640] λ_ _ _ _ _ _ _ _ _ _ us hg hd hl=>match us,(show us.length=2 from by simpa using hl)with|[_,_],_=>BindsTo.of_defaults U hg hd U U
 have b38:=F38.binds (ps:=["program","numbers","most"]) [] λ_ _ _ _ _ _ _ _ _ _ us hg hd hl=>match us,(show us.length=3 from by simpa using hl)with|[_,_,_],_=>BindsTo.of_defaults U hg hd U U
 have Ch:(hk w.params).lookup 22=some ⟨.type "tuple",none,.seq #[vs "while" 196,vs "repeat" 197],#[]⟩:=by k_is
 have Ev:(hk w.params).lookup 23=some ⟨.type "tuple",none,.seq #[vs "if" 199,vs "while" 200],#[]⟩:=by k_is
 have Go:(hk w.params).lookup 64=some ⟨.type "tuple",none,.seq #[vs "give" 252,vs "while" 253],#[]⟩:=by k_is
 have T:Tx PySem.Challenge.rw_handflow_k29_whole_deeds_and_the_run.prog w (hk w.params) mg (Adr.mk 30 _ 37 _ 44 _ 51 _ 56 _ 63 _ 71 _ 78 _ 85 _ 92 _ 99 _ 113 _ 150 _ 157 _ 164 _ 171 _ 178 _ 185 _ 192 _ 206 _ 213 _ 227 _ 234 _ 241 _ 255 _ 262 _ 267 _ 279 _ 286 _ 293 _ 300 _ 307 _ 314 _ 321 _ 328 _ 335 _ 342 _ 349 _ 362 _ 640 369 _ 376 _ 383 _ 390 _ 397 _ 404 _ 411 _ 418 _ 425 _ 432 _ 439 _ 444 _ 451 _ 456 _ 463 _ 468 _ 22 23 250 64 359 495 244 352 116 129 141):=Tx.mk F0 b0 (mM X G) F1 b1 (mM X G) F2 b2 (mM X G) F3 b3 (mM X G) F4 b4 (mM X G) F5 b5 (mM X G) F6 b6 (mM X G) F7 b7 (mM X G) F8 b8 (mM X G) F9 b9 (mM X G) F10 b10 (mM X G) F11 b11 F12 b12 (mM X G) F13 b13 (mM X G) F14 b14 (mM X G) F15 b15 (mM X G) F16 b16 (mM X G) F17 b17 (mM X G) F18 b18 (mM X G) F19 b19 F20 b20 F21 b21 F22 b22 F23 b23 F24 b24 (mM X G) F25 b25 (mM X G) F26 b26 (mM X G) F27 b27 F28 b28 F29 b29 F30 b30 F31 b31 F32 b32 F33 b33 F34 b34 F35 b35 F36 b36 F37 b37 F38 bd38 b38 (mM X G) F39 b39 (mM X G) F40 b40 (mM X G) F41 b41 (mM X G) F42 b42 (mM X G) F43 b43 (mM X G) F44 b44 (mM X G) F45 b45 (mM X G) F46 b46 (mM X G) F47 b47 (mM X G) F48 b48 (mM X G) F49 b49 (mM X G) F50 b50 (mM X G) F51 b51 (mM X G) F52 b52 (mM X G) F53 b53 (mM X G) F54 b54 (mM X G) (nM X G) (nM X G) (nM X G) (nM X G) (nM X G) (nM X G) (nM X G) (nM X G) (nM X G) (nM X G) (nM X G) (nM X G) (nM X G) (nM X G) (nM X G) (nM X G) (nM X G) (mM X G) (λ_=>.inr ⟨_,_,_,Ch,U,U,Yk,.cons ⟨_,U⟩ (.cons ⟨_,U⟩ (.nil))⟩) (mM X G) (λ_=>.inr ⟨_,_,_,Ev,U,U,Yk,.cons ⟨_,U⟩ (.cons ⟨_,U⟩ (.nil))⟩) (mM X G) (mM X G) (λ_=>.inr ⟨_,_,_,Go,U,U,Yk,.cons ⟨_,U⟩ (.cons ⟨_,U⟩ (.nil))⟩) (mM X G) (mM X G) (mM X G) (Cls.mk (by k_is) (by k_is) (by k_is) (by k_is)) (Mk.mk (by k_is) (by k_is) (by k_is) (by k_is)) (bD.mk (by k_is) (by k_is) (by k_is)) (bD.mk (by k_is) (by k_is) (by k_is)) (bD.mk (by k_is) (by k_is) (by k_is)) (bD.mk (by k_is) (by k_is) (by k_is)) oM oM (mM X G) (Cls.mk (by k_is) (by k_is) (by k_is) (by k_is)) (Mk.mk (by k_is) (by k_is) (by k_is) (by k_is)) (bD.mk (by k_is) (by k_is) (by k_is)) (bD.mk (by k_is) (by k_is) (by k_is)) (bD.mk (by k_is) (by k_is) (by k_is)) (bD.mk (by k_is) (by k_is) (by k_is)) (bD.mk (by k_is) (by k_is) (by k_is)) (bD.mk (by k_is) (by k_is) (by k_is)) (bD.mk (by k_is) (by k_is) (by k_is)) (bD.mk (by k_is) (by k_is) (by k_is)) (bD.mk (by k_is) (by k_is) (by k_is)) (bD.mk (by k_is) (by k_is) (by k_is)) oM oM oM oM oM (mM X G) (mM X G) (mM X G) (fV.mk ⟨_,_,_,_,_,_,_,_,_,_,_,_,_,_,_,(by k_is),(by rfl),(by rfl),(by rfl),(by rfl),(by rfl),(by exact λ_=>U)⟩ (by k_is) (by k_is) (by k_is) (by k_is) (by k_is)) (iP.mk ⟨_,_,_,_,_,_,_,_,_,_,_,_,_,_,_,_,(by k_is),(by rfl)⟩ (by k_is) (by k_is) (by k_is)) (XIs.mk ⟨_,_,_,_,_,_,_,_,_,_,_,_,_,_,_,_,(by k_is),(by rfl),(by rfl)⟩ (by k_is) (by k_is) (by k_is)) ((⟨_,_,_,_,_,_,_,_,_,_,_,_,_,_,_,_,_,(by k_is),(by rfl)⟩:jE _ _ _)) (by kit_is) (by kit_is) (by kit_is) (by kit_is) (fV.mk ⟨_,_,_,_,_,_,_,_,_,_,_,_,_,_,_,(by k_is),(by rfl),(by rfl),(by rfl),(by rfl),(by rfl),(by exact λ_=>U)⟩ (by k_is) (by k_is) (by k_is) (by k_is) (by k_is)) (iP.mk ⟨_,_,_,_,_,_,_,_,_,_,_,_,_,_,_,_,(by k_is),(by rfl)⟩ (by k_is) (by k_is) (by k_is)) (XIs.mk ⟨_,_,_,_,_,_,_,_,_,_,_,_,_,_,_,_,(by k_is),(by rfl),(by rfl)⟩ (by k_is) (by k_is) (by k_is)) ((⟨_,_,_,_,_,_,_,_,_,_,_,_,_,_,_,_,_,(by k_is),(by rfl)⟩:jE _ _ _)) (by kit_is) (by kit_is) (by kit_is) (by kit_is) ((⟨_,_,_,_,_,_,_,_,_,_,_,_,_,_,_,_,_,(by k_is),(by rfl)⟩:IsX _ _));exact⟨_,λs v=>.of_eq U,λbase _ _=>CT T⟩
theorem yg{l:W.OpenLaw}{q:Program}{loose:List Str}{XP:(Str->Option Value)->Heap->Prop}{YP:World->Heap->Prop}{d:DefRec}{K:Params->W.Frag}(hn:l.most=some 63)(hdf:d.params.defaults=[])
 (hY:∀(w:World)(h:Heap),YP w h->(K w.params).In h)
 (F:∀(w:World)(mg:Str->Option Value)(fa:Addr)(h:Heap),(K w.params).In h->h.Ns mainGlobals mg->mg d.name=some (.ref fa)->
  ∃fd:FuncData,(∀(s:Shared)(u:Value),BindsTo s fd ⟨[u],[]⟩ [("_law_script",u)])/\∀base:Heap,(K w.params).In base->base.Ns mainGlobals mg->aB l.prog w (K w.params) mg base CX0 60 fa fd ["_law_script"] (iW (K w.params))):
 W.WalkO q loose XP YP l.row.toRowW d [] (λf vs=>PySem.call f vs):=
 L2.ye (n:=63) (k:=60) (x:="_law_script") (CX:=λ_=>CX0) (sp:=λw=>iW (K w.params)) hn Yk hdf ⟨U,Yk,Yk,U⟩ hY F (λ_ _ a ns hl hb hO hS=>⟨a,ns,U,hS,hl,hb,hO,λ_=>U⟩) λ_ _ _ _ _ z=>z
noncomputable def Fd:PySem.DefRec:=⟨"law",dO g6,d9 g6,ax g6,defPos g6⟩
theorem wc{p:Program}{w:World}{A:Option Value}:∀{m:Nat}{x x':W.SharedT}{y:Thread},goT p w A m x y=some x'->W.topRun PySem.treeTable p w 11 A m x.abs y=some x'.abs
 |0,_,_,_,h=>nomatch h
 |m+1,x,x',y,h=>by
  unfold goT at h;unfold W.topRun
  cases a:W.through y with
  |true=>rw[a]at h;cases h;rfl
  |false=>
   rw[a]at h
   cases b:W.stepOk 11 A y with
   |false=>rw[b]at h;cases h
   |true=>
    rw[b]at h
    cases c:W.stepT (denote PySem.treeTable) p w x y with
    |none=>rw[c]at h;cases h
    |some z=>rw[c]at h;rw[W.stepT_spec c];exact wc h
theorem E7{p q:Program}{loose:List Str}{Xt:Shared->Bool}{α:Type}{Yf:Shared->α}{Ya:World->α}{N:Nat}(e:W.opening p=W.plainProg p.main.scope.names)(hN:Nat.ble 600 N=true)(f:∀s,fenceModules? p s=some s)
 (H:∀w,EndsT p q loose Xt Yf Ya N w):W.LeftO p q loose Xt Yf Ya N:=λw=>by
 obtain⟨⟨h,gs,d,k,os⟩,u,u'⟩:=qZ.mp (W.boot_open e hN f w);obtain⟨rfl,rfl,rfl,rfl⟩:h=W.boot_heap w.params/\gs=#[]/\d=W.boot_drawn/\k=W.boot_toks:=by simpa using u'
 obtain⟨s,r,l⟩:=qZ.mp (H w os);have r:=wc r;rw[bs_is]at r;obtain⟨l1,l2,l3⟩:_/\_/\_:=by simpa only[Prod.mk.injEq]using l
 have z1:((W.boot_heap w.params).isNs mainGlobals && (#[]:Array GenState).size == 0)=true:=by kernel_rfl
 have z2:(W.boot_heap w.params).objs.size=11:=by kernel_rfl
 have t:W.topFrom PySem.treeTable p w N ⟨W.boot_heap w.params,#[],W.boot_drawn,W.boot_toks,os⟩=some s.abs:=by
  unfold W.topFrom;dsimp only;rw[z1,z2,r];show(match W.staticsOk (PySem.importedModules p.main.body) (W.boot_heap w.params) s.abs.heap && W.namesBound p s.abs.heap && W.gensDone s.abs && W.laidKept (W.boot_heap w.params) s.abs.heap with|true=>_|false=>_)=_;rw[l1]
 unfold W.openEnds;rw[u];show(W.topFrom PySem.treeTable p w N _).map _=_;rw[t];exact congrArg some (Prod.ext l2 l3)
set_option maxHeartbeats 0 in
theorem left:W.LeftO PySem.Challenge.pw_handflow_k29_whole_deeds_and_the_run vw [("run":Str)] xt hkH.obs hkH.val 5960:=E7 (by kernel_rfl) Yk (λ_=>by kernel_rfl) leftF
end K29
open PySem PySem.W PyProof.Rows
set_option maxRecDepth 100000 in
set_option maxHeartbeats 0 in
theorem PySem.Challenge.cw_handflow_k29_whole_deeds_and_the_run_holds : PySem.Challenge.rw_handflow_k29_whole_deeds_and_the_run.Holds := by
 w_on;refine holds_law K29.said fun said=>?_
 refine holds_open (q:=K29.vw) (loose:=[("run":Str)]) (Xt:=K29.xt) (XP:=XL K29.vw []) (Yf:=Hook.obs K29.hkH) (Ya:=Hook.val K29.hkH) (YP:=Hook.says K29.hkH) (d:=K29.Fd) (kwd:=[]) (N:=5960) K29.left (Hook.of K29.hkH) (Hook.keeps K29.hkH) (fun s e=>xl_of s (Bool.and_eq_true_iff.mp e).1) XL.keeps (by kernel_rfl) (by kernel_rfl) (by kernel_rfl) (fun s e=>recFacts_of (Bool.and_eq_true_iff.mp e).2) (by rfl) (by first|assumption|decide +kernel) (by decide +kernel) ⟨rfl,rfl,rfl,rfl,rfl,by decide +kernel⟩ ?hw ?hc
 (case hw=>w_witness2)
 refine K29.yg (l:=PySem.Challenge.rw_handflow_k29_whole_deeds_and_the_run) rfl (by kernel_rfl) (K:=K29.hk) (fun w h X0=>PySem.W.kIn_of (K:=K29.hk) (as:=K29.hks) (e:=K29.hk_as) X0) ?F
 case F=>exact fun w mg fa h X G e=>K29.Ge X G e
