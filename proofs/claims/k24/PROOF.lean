import PyProof.Rows.All
import Wide.All
import OpenK.AllK
import Wide.FinOn
import Lean
import PyProof.EqAt
import PyProof.EqKinds
import PyProof.TupleCall
import PySem.Challenge.RW_handflow_k24_a_ring_that_waits
set_option Elab.async false
set_option maxRecDepth 100000
set_option linter.all false
set_option genSizeOf false
theorem U{α:Sort u}{a:α}:a=a:=rfl
theorem Oi{p:Prop}{α:Sort u}{a:α}:a=a\/p:=.inl rfl
theorem Oy{α:Sort u}{β:Sort v}{γ:Sort w}{f:α->β->γ}:∀a b,f a b=f a b:=λ_ _=>rfl
section
open PySem PySem.Spec PyProof.Rows PySem.W
theorem Yd{p:Prop}(h:p:=by decide +kernel):p:=h
theorem Yk{p:Prop}(h:p:=by decide):p:=h
theorem Yo{p:Prop}(h:p:=by omega):p:=h
abbrev Yq:=Value->Shared->Prop
def q9:=@wpAny_bind
def qa:=@List.length_map
def qb:=@Heap.get?_push_of_some
def qc:=@List.length_append
def qe:=@List.getElem?_eq_getElem
def qf:=@wpAny_pure
def qg:=@Nat.le_refl
def qh:=@List.getElem?_eq_some_iff
def qi:=@PySem.F.plainAttrs_list
def qk:=@List.mem_append
def qo:=@Bool.false_ne_true
def qp:=@List.getD_eq_getElem?_getD
def qq:=@List.mem_cons_of_mem
def qt:=@List.mem_cons_self
def qu:=@Heap.get?_push_size
def qv:=@Heap.lt_size
def qy:=@List.take_add_one
def qz:=@Nat.zero_le
def qA:=@List.mem_cons
def qC:=@PySem.F.slot_list_append
def qD:=@PySem.F.type_list_append
def qE:=@List.append_nil
def qF:=@Nat.le_trans
def qG:=@List.mem_of_getElem?
def qH:=@List.length_cons
def qI:=@List.size_toArray
def qJ:=@Nat.lt_of_lt_of_le
def qK:=@List.getElem?_map
def qL:=@List.flatMap_cons
def qM:=@Nat.ne_of_lt
def qN:=@List.take_length
def qO:=@List.mem_append_right
def qP:=@Option.some.inj
def qQ:=@List.length_take
def qR:=@List.getElem?_append_right
def qS:=@Array.length_toList
def qT:=@List.append_assoc
def qU:=@List.map_append
def qV:=@Option.map_eq_some_iff
def qW:=@List.not_mem_nil
def qX:=@List.map_cons
def qY:=@List.mem_singleton
def qZ:=@Array.getElem?_toList
def Q0:=@List.flatMap_append
def Q3:=@List.mem_append_left
def Q4:=@wpAny_setState_of
def Q5:=@Int.toNat_natCast
def Q6:=@List.length_drop
def Q7:=@if_neg
def Q8:=@if_pos
def Q9:=@decide_eq_true
def Qa:=@decide_eq_false
def Qb:=@absurd
def Qc:=@List.getElem?_append_left
def Qd:=@List.length_singleton
def Qe:=@PySem.boot_len
def Qf:=@List.find?_cons
def Qg:=@Int.emod_nonneg
def Qh:=@Nat.lt_succ_self
def Qi:=@Nat.lt_irrefl
def Qj:=@of_decide_eq_true
def Qk:=@List.length_range
def Ql:=@Int.emod_lt_of_pos
def Qm:=@Heap.size_push
def Qn:=@Heap.get?_update_self
def Qo:=@PySem.mem_of_lookup
def Qp:=@wpAny_call_entry
def Qq:=@Bool.false_eq_true
def Qr:=@List.nil_append
def Qs:=@List.cons_append
def Qt:=@PySem.F.type_list_extend
def Qu:=@PySem.F.slot_list_extend
def Qv:=@List.getElem?_eq_none
def Qw:=@Nat.lt_succ_of_lt
def Qx:=@List.pairwise_singleton
def Qy:=@List.filter_append
def Qz:=@Heap.get?_update_other
def QA:=@List.take_append_drop
def QB:=@wpAny_holding
def QC:=@wpAny_seqItems
def QD:=@PySem.W.kia_one
def QE:=@Nat.not_lt_zero
def QF:=@List.foldl_cons
def QG:=@List.length_dropLast
end
namespace L2
open PySem PySem.Spec PyProof.Rows PySem.W
def inClass(s:Stmt)(j:Nat):Stmt:=match s with
 |.ClassDef _ _ _ body _ _ _ _ _ _ _=>body.getD j (.Pass ⟨0,0,0,0⟩)
 |_=>.Pass ⟨0,0,0,0⟩
def gX(s:Stmt):Arguments:=match s with
 |.FunctionDef _ a _ _ _ _ _ _ _ _=>a
 |_=>{ posonlyargs:=[],args:=[],vararg:=none,kwonlyargs:=[],kw_defaults:=[],kwarg:=none,defaults:=[] }
def gB(s:Stmt):List Stmt:=match s with
 |.FunctionDef _ _ b _ _ _ _ _ _ _=>b
 |_=>[]
def aI(s:Stmt):Scope:=match s with
 |.FunctionDef _ _ _ _ _ _ sc _ _ _=>sc
 |_=>{ kind:=.function,names:=[],isGenerator:=false,isCoroutine:=false }
end L2
namespace K24
open PySem L2
set_option maxHeartbeats 0 in
theorem said:PySem.W.OpenLaw.wellSaid PySem.Challenge.rw_handflow_k24_a_ring_that_waits=true:=by kernel_rfl
def top(i:Nat):Stmt:=PySem.Challenge.pw_handflow_k24_a_ring_that_waits.main.body.getD i (.Pass ⟨0,0,0,0⟩)
noncomputable def defPos(s:Stmt):Pos:=match s with
 |.FunctionDef _ _ _ _ _ _ _ _ _ p=>p
 |_=>⟨0,0,0,0⟩
abbrev vs(x:String)(t:Nat):Value:=.str (Str.ofString x) t
abbrev de(P:Params)(x:String)(t:Nat)(v:Value):DictEntry:=⟨PyData.keyHash P (Str.ofString x),vs x t,v⟩
abbrev co(a b:String)(t l n r:Nat)(x y z u:Value)(m:Nat):Obj:=Obj.mk (.type "code") none (Data.fields #[vs a t,vs b (t+1),vs "/claim/cut.py" (t+2),.int l 0,.int n 0,.int 0 0,.int 0 0,.int 3 0,.ref r,.bool true,.int 181 0,.ref (r+1),x,y,z,u,.int m 0,.int l 0,vs "/claim/cut.py" (m+1)]) #[]
abbrev fo(a b:String)(s:Stmt)(m:String)(t c:Nat):Obj:=Obj.mk (.type "function") none (.func (PySem.W.fnOf a b (gX s) (gB s) (aI s) .none .none .none (vs m t) none (.ref c) .none)) #[]
noncomputable def hk:Params->PySem.W.Frag:=λP=>
 (nat_lit 2,Obj.mk .none none (Data.dict #[]) #[]) ::
 (nat_lit 3,Obj.mk (.type "dict") none (Data.dict #[de P "__name__" 165 (vs "law_handflow_k24_a_ring_that_waits" 532),de P "__doc__" 166 .none,de P "__package__" 167 .none,de P "__loader__" 168 (.builtin "__main__.__loader__#opaque"),de P "__spec__" 169 .none,de P "__annotations__" 170 (.ref 6),de P "__builtins__" 171 (.ref 4),de P "__file__" 173 (vs "/claim/cut.py" 172),de P "__cached__" 174 .none,de P "INTO" 190 (.int 3 189),de P "OUT_OF" 192 (.int 4 191),de P "waits_of" 200 (.ref 21),de P "waits_behind" 206 (.ref 26),de P "waits_for_cards" 218 (.ref 33),de P "waits_by" 224 (.ref 38),de P "numbers_by_store" 235 (.ref 45),de P "Looking" 300 (.ref 81),de P "looked" 308 (.ref 92),de P "looked_through" 317 (.ref 99),de P "LOOPS" 322 (.ref 100),de P "LOOKERS" 325 (.ref 101),de P "all_deeds" 335 (.ref 108),de P "blocks_within" 342 (.ref 115),de P "names_in" 348 (.ref 120),de P "read_by_set" 355 (.ref 127),de P "OUTLET" 359 (vs ">" 358),de P "OUTLET_KEEPERS" 362 (.ref 128),de P "touched" 371 (.ref 135),de P "other_cards_in" 378 (.ref 142),de P "put_card" 385 (.ref 149),de P "get_card" 392 (.ref 156),de P "cards_of" 402 (.ref 163),de P "FlowError" 432 (.ref 180),de P "Starved" 448 (.ref 193),de P "TooMuch" 464 (.ref 205),de P "MOST_DEEDS" 468 (.int 2000 467),de P "deeds_of" 476 (.ref 214),de P "counted" 485 (.ref 221),de P "written" 494 (.ref 228),de P "written_rounds" 503 (.ref 235),de P "written_once" 511 (.ref 242),de P "owner_of" 519 (.ref 249),de P "check_gets" 531 (.ref 256),de P "_law_cell_at" 541 (.ref 263),de P "_law_mixed" 550 (.ref 270),de P "_law_whole" 557 (.ref 277),de P "_law_letters" 568 (.ref 284),de P "_law_spelt" 576 (.ref 291),de P "_law_pool" 593 (.ref 298),de P "_law_simple" 608 (.ref 305),de P "_law_opened" 626 (.ref 312),de P "_law_block" 643 (.ref 319),de P "_law_moves" 654 (.ref 326),de P "_law_reach" 667 (.ref 333),de P "_law_length" 675 (.ref 340),de P "_law_program" 681 (.ref 345),de P "_law_ahead" 687 (.ref 350),de P "_law_lacks" 701 (.ref 357),de P "_law_do" 712 (.ref 364),de P "_law_walk" 724 (.ref 371),de P "_law_number" 735 (.ref 378),de P "_law_owned" 745 (.ref 385),de P "_law_meets" 751 (.ref 390),de P "_law_paper" 759 (.ref 397),de P "_law_ringed" 765 (.ref 402),de P "_law_tail" 776 (.ref 409),de P "law" 782 (.ref 414)] 67) #[]) ::
 (nat_lit 20,co "waits_of" "waits_of" 193 4 2 15 .none (.ref 17) (.ref 18) (.ref 19) 198) ::
 (nat_lit 21,fo "waits_of" "waits_of" (top 3) "handflow.waits" 187 20) ::
 (nat_lit 25,co "waits_behind" "waits_behind" 201 6 3 22 .none .none .none (.ref 24) 204) ::
 (nat_lit 26,fo "waits_behind" "waits_behind" (top 4) "handflow.waits" 187 25) ::
 (nat_lit 32,co "waits_for_cards" "waits_for_cards" 207 19 1 27 .none (.ref 29) (.ref 30) (.ref 31) 216) ::
 (nat_lit 33,fo "waits_for_cards" "waits_for_cards" (top 5) "handflow.waits" 187 32) ::
 (nat_lit 37,co "waits_by" "waits_by" 219 27 3 34 .none .none .none (.ref 36) 222) ::
 (nat_lit 38,fo "waits_by" "waits_by" (top 6) "handflow.waits" 187 37) ::
 (nat_lit 44,co "numbers_by_store" "numbers_by_store" 225 29 2 39 .none (.ref 41) (.ref 42) (.ref 43) 233) ::
 (nat_lit 45,fo "numbers_by_store" "numbers_by_store" (top 7) "handflow.waits" 187 44) ::
 (nat_lit 56,co "__init__" "Looking.__init__" 250 38 2 53 .none .none .none (.ref 55) 253) ::
 (nat_lit 57,fo "__init__" "Looking.__init__" (inClass (top 9) 0) "handflow.looker" 236 56) ::
 (nat_lit 63,co "look_at" "Looking.look_at" 256 45 2 58 .none (.ref 60) (.ref 61) (.ref 62) 264) ::
 (nat_lit 64,fo "look_at" "Looking.look_at" (inClass (top 9) 1) "handflow.looker" 236 63) ::
 (nat_lit 70,co "stopped_by" "Looking.stopped_by" 267 57 2 65 .none (.ref 67) (.ref 68) (.ref 69) 274) ::
 (nat_lit 71,fo "stopped_by" "Looking.stopped_by" (inClass (top 9) 2) "handflow.looker" 236 70) ::
 (nat_lit 77,co "ring" "Looking.ring" 277 66 1 72 .none (.ref 74) (.ref 75) (.ref 76) 285) ::
 (nat_lit 78,fo "ring" "Looking.ring" (inClass (top 9) 3) "handflow.looker" 236 77) ::
 (nat_lit 79,Obj.mk (.type "tuple") none (Data.seq #[vs "finished" 288,vs "order" 289,vs "over" 290,vs "stuck" 291,vs "waits" 292]) #[]) ::
 (nat_lit 80,Obj.mk (.type "dict") none (Data.dict #[de P "__module__" 245 (vs "handflow.looker" 236),de P "__firstlineno__" 249 (.int 36 248),de P "__init__" 255 (.ref 57),de P "look_at" 266 (.ref 64),de P "stopped_by" 276 (.ref 71),de P "ring" 287 (.ref 78),de P "__static_attributes__" 293 (.ref 79),de P "__dict__" 295 (.ref 82),de P "__weakref__" 297 (.ref 83),de P "__doc__" 298 .none] 4) #[]) ::
 (nat_lit 81,Obj.mk (.type "type") none (Data.cls (ClassData.mk (Str.ofString "Looking") [.type "object"] [.ref 81,.type "object"] 80 (Str.ofString "Looking") true [] [] false none false)) #[none,none,some (vs "Looking" 238),some (vs "Looking" 246),some (.builtin "object.__new__"),some (.bool true)]) ::
 (nat_lit 82,Obj.mk (.type "getset_descriptor") none (Data.fields #[vs "__dict__" 294,.ref 81,.builtin "function.__dict__",.builtin "function.__dict__#set"]) #[]) ::
 (nat_lit 83,Obj.mk (.type "getset_descriptor") none (Data.fields #[vs "__weakref__" 296,.ref 81,.builtin "ExceptionGroup.__weakref__",.none]) #[]) ::
 (nat_lit 91,co "looked" "looked" 301 76 2 86 .none (.ref 88) (.ref 89) (.ref 90) 306) ::
 (nat_lit 92,fo "looked" "looked" (top 10) "handflow.looker" 236 91) ::
 (nat_lit 98,co "looked_through" "looked_through" 309 78 1 93 .none (.ref 95) (.ref 96) (.ref 97) 315) ::
 (nat_lit 99,fo "looked_through" "looked_through" (top 11) "handflow.looker" 236 98) ::
 (nat_lit 100,Obj.mk (.type "tuple") none (Data.seq #[vs "while" 320,vs "repeat" 321]) #[]) ::
 (nat_lit 101,Obj.mk (.type "tuple") none (Data.seq #[vs "if" 323,vs "while" 324]) #[]) ::
 (nat_lit 107,co "all_deeds" "all_deeds" 326 88 1 102 .none (.ref 104) (.ref 105) (.ref 106) 333) ::
 (nat_lit 108,fo "all_deeds" "all_deeds" (top 15) "handflow.tree" 318 107) ::
 (nat_lit 114,co "blocks_within" "blocks_within" 336 95 1 109 .none (.ref 111) (.ref 112) (.ref 113) 340) ::
 (nat_lit 115,fo "blocks_within" "blocks_within" (top 16) "handflow.tree" 318 114) ::
 (nat_lit 119,co "names_in" "names_in" 343 101 1 116 .none .none .none (.ref 118) 346) ::
 (nat_lit 120,fo "names_in" "names_in" (top 17) "handflow.tree" 318 119) ::
 (nat_lit 126,co "read_by_set" "read_by_set" 349 108 1 121 .none (.ref 123) (.ref 124) (.ref 125) 353) ::
 (nat_lit 127,fo "read_by_set" "read_by_set" (top 18) "handflow.tree" 318 126) ::
 (nat_lit 128,Obj.mk (.type "tuple") none (Data.seq #[vs "give" 360,vs "while" 361]) #[]) ::
 (nat_lit 134,co "touched" "touched" 363 113 1 129 .none (.ref 131) (.ref 132) (.ref 133) 369) ::
 (nat_lit 135,fo "touched" "touched" (top 22) "handflow.cards" 356 134) ::
 (nat_lit 141,co "other_cards_in" "other_cards_in" 372 119 1 136 .none (.ref 138) (.ref 139) (.ref 140) 376) ::
 (nat_lit 142,fo "other_cards_in" "other_cards_in" (top 23) "handflow.cards" 356 141) ::
 (nat_lit 148,co "put_card" "put_card" 379 125 1 143 .none (.ref 145) (.ref 146) (.ref 147) 383) ::
 (nat_lit 149,fo "put_card" "put_card" (top 24) "handflow.cards" 356 148) ::
 (nat_lit 155,co "get_card" "get_card" 386 127 1 150 .none (.ref 152) (.ref 153) (.ref 154) 390) ::
 (nat_lit 156,fo "get_card" "get_card" (top 25) "handflow.cards" 356 155) ::
 (nat_lit 162,co "cards_of" "cards_of" 393 129 1 157 .none (.ref 159) (.ref 160) (.ref 161) 400) ::
 (nat_lit 163,fo "cards_of" "cards_of" (top 26) "handflow.cards" 356 162) ::
 (nat_lit 164,Obj.mk (.type "tuple") none (Data.seq #[.type "ValueError"]) #[]) ::
 (nat_lit 176,co "__init__" "FlowError.__init__" 417 137 3 171 .none (.ref 173) (.ref 174) (.ref 175) 423) ::
 (nat_lit 177,fo "__init__" "FlowError.__init__" (inClass (top 28) 0) "handflow.errors" 403 176) ::
 (nat_lit 178,Obj.mk (.type "tuple") none (Data.seq #[vs "place" 426]) #[]) ::
 (nat_lit 179,Obj.mk (.type "dict") none (Data.dict #[de P "__module__" 412 (vs "handflow.errors" 403),de P "__firstlineno__" 416 (.int 135 415),de P "__init__" 425 (.ref 177),de P "__static_attributes__" 427 (.ref 178),de P "__weakref__" 429 (.ref 181),de P "__doc__" 430 .none] 3) #[]) ::
 (nat_lit 180,Obj.mk (.type "type") none (Data.cls (ClassData.mk (Str.ofString "FlowError") [.type "ValueError"] [.ref 180,.type "ValueError",.type "Exception",.type "BaseException",.type "object"] 179 (Str.ofString "FlowError") true [] [.ref 193,.ref 205] false none false)) #[some (.ref 164),none,some (vs "FlowError" 405),some (vs "FlowError" 413),some (.builtin "ValueError.__new__"),some (.bool true)]) ::
 (nat_lit 181,Obj.mk (.type "getset_descriptor") none (Data.fields #[vs "__weakref__" 428,.ref 180,.builtin "ExceptionGroup.__weakref__",.none]) #[]) ::
 (nat_lit 184,Obj.mk (.type "tuple") none (Data.seq #[.ref 180]) #[]) ::
 (nat_lit 191,Obj.mk (.type "tuple") none (Data.seq #[]) #[]) ::
 (nat_lit 192,Obj.mk (.type "dict") none (Data.dict #[de P "__module__" 440 (vs "handflow.errors" 403),de P "__firstlineno__" 444 (.int 140 443),de P "__static_attributes__" 445 (.ref 191),de P "__doc__" 446 .none] 2) #[]) ::
 (nat_lit 193,Obj.mk (.type "type") none (Data.cls (ClassData.mk (Str.ofString "Starved") [.ref 180] [.ref 193,.ref 180,.type "ValueError",.type "Exception",.type "BaseException",.type "object"] 192 (Str.ofString "Starved") true [] [] false none false)) #[some (.ref 184),none,some (vs "Starved" 433),some (vs "Starved" 441),some (.builtin "ValueError.__new__"),some (.bool true)]) ::
 (nat_lit 196,Obj.mk (.type "tuple") none (Data.seq #[.ref 180]) #[]) ::
 (nat_lit 203,Obj.mk (.type "tuple") none (Data.seq #[]) #[]) ::
 (nat_lit 204,Obj.mk (.type "dict") none (Data.dict #[de P "__module__" 456 (vs "handflow.errors" 403),de P "__firstlineno__" 460 (.int 142 459),de P "__static_attributes__" 461 (.ref 203),de P "__doc__" 462 .none] 2) #[]) ::
 (nat_lit 205,Obj.mk (.type "type") none (Data.cls (ClassData.mk (Str.ofString "TooMuch") [.ref 180] [.ref 205,.ref 180,.type "ValueError",.type "Exception",.type "BaseException",.type "object"] 204 (Str.ofString "TooMuch") true [] [] false none false)) #[some (.ref 196),none,some (vs "TooMuch" 449),some (vs "TooMuch" 457),some (.builtin "ValueError.__new__"),some (.bool true)]) ::
 (nat_lit 213,co "deeds_of" "deeds_of" 469 146 1 208 .none (.ref 210) (.ref 211) (.ref 212) 474) ::
 (nat_lit 214,fo "deeds_of" "deeds_of" (top 33) "handflow.deeds" 465 213) ::
 (nat_lit 220,co "counted" "counted" 477 153 1 215 .none (.ref 217) (.ref 218) (.ref 219) 483) ::
 (nat_lit 221,fo "counted" "counted" (top 34) "handflow.deeds" 465 220) ::
 (nat_lit 227,co "written" "written" 486 159 1 222 .none (.ref 224) (.ref 225) (.ref 226) 492) ::
 (nat_lit 228,fo "written" "written" (top 35) "handflow.deeds" 465 227) ::
 (nat_lit 234,co "written_rounds" "written_rounds" 495 167 2 229 .none (.ref 231) (.ref 232) (.ref 233) 501) ::
 (nat_lit 235,fo "written_rounds" "written_rounds" (top 36) "handflow.deeds" 465 234) ::
 (nat_lit 241,co "written_once" "written_once" 504 172 1 236 .none (.ref 238) (.ref 239) (.ref 240) 509) ::
 (nat_lit 242,fo "written_once" "written_once" (top 37) "handflow.deeds" 465 241) ::
 (nat_lit 248,co "owner_of" "owner_of" 512 183 2 243 .none (.ref 245) (.ref 246) (.ref 247) 517) ::
 (nat_lit 249,fo "owner_of" "owner_of" (top 38) "handflow.deeds" 465 248) ::
 (nat_lit 255,co "check_gets" "check_gets" 520 185 1 250 .none (.ref 252) (.ref 253) (.ref 254) 529) ::
 (nat_lit 256,fo "check_gets" "check_gets" (top 39) "handflow.deeds" 465 255) ::
 (nat_lit 262,co "_law_cell_at" "_law_cell_at" 534 197 2 257 .none (.ref 259) (.ref 260) (.ref 261) 539) ::
 (nat_lit 263,fo "_law_cell_at" "_law_cell_at" (top 41) "law_handflow_k24_a_ring_that_waits" 532 262) ::
 (nat_lit 269,co "_law_mixed" "_law_mixed" 542 201 2 264 .none (.ref 266) (.ref 267) (.ref 268) 548) ::
 (nat_lit 270,fo "_law_mixed" "_law_mixed" (top 42) "law_handflow_k24_a_ring_that_waits" 532 269) ::
 (nat_lit 276,co "_law_whole" "_law_whole" 551 204 1 271 .none (.ref 273) (.ref 274) (.ref 275) 555) ::
 (nat_lit 277,fo "_law_whole" "_law_whole" (top 43) "law_handflow_k24_a_ring_that_waits" 532 276) ::
 (nat_lit 283,co "_law_letters" "_law_letters" 558 206 2 278 .none (.ref 280) (.ref 281) (.ref 282) 566) ::
 (nat_lit 284,fo "_law_letters" "_law_letters" (top 44) "law_handflow_k24_a_ring_that_waits" 532 283) ::
 (nat_lit 290,co "_law_spelt" "_law_spelt" 569 213 1 285 .none (.ref 287) (.ref 288) (.ref 289) 574) ::
 (nat_lit 291,fo "_law_spelt" "_law_spelt" (top 45) "law_handflow_k24_a_ring_that_waits" 532 290) ::
 (nat_lit 297,co "_law_pool" "_law_pool" 577 218 2 292 .none (.ref 294) (.ref 295) (.ref 296) 591) ::
 (nat_lit 298,fo "_law_pool" "_law_pool" (top 46) "law_handflow_k24_a_ring_that_waits" 532 297) ::
 (nat_lit 304,co "_law_simple" "_law_simple" 594 237 4 299 .none (.ref 301) (.ref 302) (.ref 303) 606) ::
 (nat_lit 305,fo "_law_simple" "_law_simple" (top 47) "law_handflow_k24_a_ring_that_waits" 532 304) ::
 (nat_lit 311,co "_law_opened" "_law_opened" 609 252 4 306 .none (.ref 308) (.ref 309) (.ref 310) 624) ::
 (nat_lit 312,fo "_law_opened" "_law_opened" (top 48) "law_handflow_k24_a_ring_that_waits" 532 311) ::
 (nat_lit 318,co "_law_block" "_law_block" 627 276 5 313 .none (.ref 315) (.ref 316) (.ref 317) 641) ::
 (nat_lit 319,fo "_law_block" "_law_block" (top 49) "law_handflow_k24_a_ring_that_waits" 532 318) ::
 (nat_lit 325,co "_law_moves" "_law_moves" 644 293 1 320 .none (.ref 322) (.ref 323) (.ref 324) 652) ::
 (nat_lit 326,fo "_law_moves" "_law_moves" (top 50) "law_handflow_k24_a_ring_that_waits" 532 325) ::
 (nat_lit 332,co "_law_reach" "_law_reach" 655 303 2 327 .none (.ref 329) (.ref 330) (.ref 331) 665) ::
 (nat_lit 333,fo "_law_reach" "_law_reach" (top 51) "law_handflow_k24_a_ring_that_waits" 532 332) ::
 (nat_lit 339,co "_law_length" "_law_length" 668 313 2 334 .none (.ref 336) (.ref 337) (.ref 338) 673) ::
 (nat_lit 340,fo "_law_length" "_law_length" (top 52) "law_handflow_k24_a_ring_that_waits" 532 339) ::
 (nat_lit 344,co "_law_program" "_law_program" 676 319 2 341 .none .none .none (.ref 343) 679) ::
 (nat_lit 345,fo "_law_program" "_law_program" (top 53) "law_handflow_k24_a_ring_that_waits" 532 344) ::
 (nat_lit 349,co "_law_ahead" "_law_ahead" 682 336 1 346 .none .none .none (.ref 348) 685) ::
 (nat_lit 350,fo "_law_ahead" "_law_ahead" (top 54) "law_handflow_k24_a_ring_that_waits" 532 349) ::
 (nat_lit 356,co "_law_lacks" "_law_lacks" 688 345 5 351 .none (.ref 353) (.ref 354) (.ref 355) 699) ::
 (nat_lit 357,fo "_law_lacks" "_law_lacks" (top 55) "law_handflow_k24_a_ring_that_waits" 532 356) ::
 (nat_lit 363,co "_law_do" "_law_do" 702 358 3 358 .none (.ref 360) (.ref 361) (.ref 362) 710) ::
 (nat_lit 364,fo "_law_do" "_law_do" (top 56) "law_handflow_k24_a_ring_that_waits" 532 363) ::
 (nat_lit 370,co "_law_walk" "_law_walk" 713 367 4 365 .none (.ref 367) (.ref 368) (.ref 369) 722) ::
 (nat_lit 371,fo "_law_walk" "_law_walk" (top 57) "law_handflow_k24_a_ring_that_waits" 532 370) ::
 (nat_lit 377,co "_law_number" "_law_number" 725 378 1 372 .none (.ref 374) (.ref 375) (.ref 376) 733) ::
 (nat_lit 378,fo "_law_number" "_law_number" (top 58) "law_handflow_k24_a_ring_that_waits" 532 377) ::
 (nat_lit 384,co "_law_owned" "_law_owned" 736 386 2 379 .none (.ref 381) (.ref 382) (.ref 383) 743) ::
 (nat_lit 385,fo "_law_owned" "_law_owned" (top 59) "law_handflow_k24_a_ring_that_waits" 532 384) ::
 (nat_lit 389,co "_law_meets" "_law_meets" 746 391 6 386 .none .none .none (.ref 388) 749) ::
 (nat_lit 390,fo "_law_meets" "_law_meets" (top 60) "law_handflow_k24_a_ring_that_waits" 532 389) ::
 (nat_lit 396,co "_law_paper" "_law_paper" 752 405 2 391 .none (.ref 393) (.ref 394) (.ref 395) 757) ::
 (nat_lit 397,fo "_law_paper" "_law_paper" (top 61) "law_handflow_k24_a_ring_that_waits" 532 396) ::
 (nat_lit 401,co "_law_ringed" "_law_ringed" 760 409 5 398 .none .none .none (.ref 400) 763) ::
 (nat_lit 402,fo "_law_ringed" "_law_ringed" (top 62) "law_handflow_k24_a_ring_that_waits" 532 401) ::
 (nat_lit 408,co "_law_tail" "_law_tail" 766 427 4 403 .none (.ref 405) (.ref 406) (.ref 407) 774) ::
 (nat_lit 409,fo "_law_tail" "_law_tail" (top 63) "law_handflow_k24_a_ring_that_waits" 532 408) ::
 (nat_lit 413,co "law" "law" 777 430 1 410 .none .none .none (.ref 412) 780) ::
 (nat_lit 414,fo "law" "law" (top 64) "law_handflow_k24_a_ring_that_waits" 532 413) ::
 []
noncomputable def hks:List Addr:=[2,3,20,21,25,26,32,33,37,38,44,45,56,57,63,64,70,71,77,78,79,80,81,82,83,91,92,98,99,100,101,107,108,114,115,119,120,126,127,128,134,135,141,142,148,149,155,156,162,163,164,176,177,178,179,180,181,184,191,192,193,196,203,204,205,213,214,220,221,227,228,234,235,241,242,248,249,255,256,262,263,269,270,276,277,283,284,290,291,297,298,304,305,311,312,318,319,325,326,332,333,339,340,344,345,349,350,356,357,363,364,370,371,377,378,384,385,389,390,396,397,401,402,408,409,413,414]
theorem hk_as:∀P,hks=(hk P).map (·.1):=λ_=>by kernel_rfl
noncomputable def vw:Program:=PySem.W.view PySem.Challenge.pw_handflow_k24_a_ring_that_waits [1,2,3,4,5,6,7,9,10,11,13,14,15,16,17,18,20,21,22,23,24,25,26,28,29,30,32,33,34,35,36,37,38,39,41,42,43,44,45,46,47,48,49,50,51,52,53,54,55,56,57,58,59,60,61,62,63,64]
noncomputable def hkH:PySem.W.Hook:=PySem.W.kHook hk hks hk_as
noncomputable def xt(s:Shared):Bool:=PySem.W.xlAt vw [] s && PySem.W.recOk (PySem.W.RowW.records (PySem.W.OpenRow.toRowW (PySem.W.OpenLaw.row PySem.Challenge.rw_handflow_k24_a_ring_that_waits))) s
noncomputable def bt(P:Params):PySem.W.BT:=(.node (PySem.W.boot_o_0 P) (.node (PySem.W.boot_o_1 P) (.node (PySem.W.boot_o_3 P) (.node (PySem.W.boot_o_7 P) .nil .nil) .nil) (.node (PySem.W.boot_o_5 P) (.node (PySem.W.boot_o_9 P) .nil .nil) .nil)) (.node (PySem.W.boot_o_2 P) (.node (PySem.W.boot_o_4 P) (.node (PySem.W.boot_o_8 P) .nil .nil) .nil) (.node (PySem.W.boot_o_6 P) (.node (PySem.W.boot_o_10 P) .nil .nil) .nil)))
theorem bt_is(P:Params):PySem.W.absHeap (bt P) 11 {}=PySem.W.boot_heap P:=by kernel_rfl
noncomputable def bs(P:Params)(os:OsState):PySem.W.SharedT:=⟨bt P,11,{},#[],PySem.W.boot_drawn,PySem.W.boot_toks,os⟩
theorem bs_is(P:Params)(os:OsState):(bs P os).abs=⟨PySem.W.boot_heap P,#[],PySem.W.boot_drawn,PySem.W.boot_toks,os⟩:=by
 unfold bs PySem.W.SharedT.abs;rw[bt_is]
def goT(p:Program)(w:World)(A:Option Value):Nat->PySem.W.SharedT->Thread->Option PySem.W.SharedT
 |0,_,_=>none
 |m+1,x,y=>match PySem.W.through y with
  |true=>some x
  |false=>match PySem.W.stepOk 11 A y with
   |false=>none
   |true=>match PySem.W.stepT (denote PySem.treeTable) p w x y with
    |none=>none
    |some (x',y')=>goT p w A m x' y'
noncomputable abbrev annB(w:World):Option Value:=(PySem.W.boot_heap w.params).nsMap mainGlobals "__annotations__"
def EndsT(p q:Program)(loose:List Str)(Xt:Shared->Bool){α:Type}(Yf:Shared->α)(Ya:World->α)(N:Nat)(w:World):Prop:=
 ∀os:OsState,(goT p w (annB w) N (bs w.params os) (PySem.W.topStub p)).map (λs=>(PySem.W.staticsOk (PySem.importedModules p.main.body) (PySem.W.boot_heap w.params) s.abs.heap && PySem.W.namesBound p s.abs.heap && PySem.W.gensDone s.abs && PySem.W.laidKept (PySem.W.boot_heap w.params) s.abs.heap,PySem.W.openSeen q loose (PySem.importedModules p.main.body) Xt true s.abs,Yf s.abs))=some (true,PySem.W.openGood q loose,Ya w)
set_option maxHeartbeats 0 in
theorem leftF:∀w:World,EndsT PySem.Challenge.pw_handflow_k24_a_ring_that_waits vw [] xt hkH.obs hkH.val 5258 w:=λw os=>by kernel_rfl
end K24
namespace L2
open PySem PySem.Spec PyProof.Rows
abbrev Key:=Sum Int Str
noncomputable def j5:Key->Value->Bool
 |.inl k,v=>Value.isInt k v
 |.inr x,v=>Value.isStrOf x v
noncomputable def DL(w:World):Key->Int
 |.inl k=>hashInt k
 |.inr x=>hashStr w x
theorem gu:∀{k:Key}{v:Value},j5 k v=true->(∃i t,k=Sum.inl i/\v=Value.int i t)\/(∃x t,k=Sum.inr x/\v=Value.str x t)
 |.inl i,v,h=>by
  obtain⟨t,e⟩:=Value.isInt_shape (k:=i) (v:=v) h;exact .inl ⟨i,t,U,e⟩
 |.inr x,v,h=>by
  obtain⟨t,e⟩:=Value.isStrOf_shape (x:=x) (v:=v) h;exact .inr ⟨x,t,U,e⟩
theorem DK(i:Int)(t:Tok):j5 (.inl i) (.int i t)=true:=by simp[j5,Value.isInt]
theorem DJ(x:Str)(t:Tok):j5 (.inr x) (.str x t)=true:=by simp[j5,Value.isStrOf]
theorem DI(a b:Int):decide ((Sum.inl a:Key)=Sum.inl b)=(a == b):=by
 by_cases e:a=b
 .subst e;simp
 .have h:¬ (Sum.inl a:Key)=Sum.inl b:=λq=>e (Sum.inl.inj q);rw[Qa h];exact(beq_eq_false_iff_ne.mpr e).symm
theorem DF(a b:Str):decide ((Sum.inr a:Key)=Sum.inr b)=decide (a=b):=by
 by_cases e:a=b
 .subst e;simp
 .have h:¬ (Sum.inr a:Key)=Sum.inr b:=λq=>e (Sum.inr.inj q);rw[Qa h,Qa e]
theorem DH(a:Int)(b:Str):decide ((Sum.inl a:Key)=Sum.inr b)=false:=Qa (λq=>nomatch q)
theorem DG(a:Str)(b:Int):decide ((Sum.inr a:Key)=Sum.inl b)=false:=Qa (λq=>nomatch q)
noncomputable def cY(prog:Program)(w:World):PySem.KeyKind prog w Key where
 is:=j5
 hash:=DL w
 inj:=λv a b ha hb=>by
  rcases gu ha with⟨i,t,rfl,rfl⟩|⟨x,t,rfl,rfl⟩
  .rcases gu hb with⟨j,u,rfl,e⟩|⟨y,u,rfl,e⟩
   .injection e with e1 _;rw[e1]
   .exact nomatch e
  .rcases gu hb with⟨j,u,rfl,e⟩|⟨y,u,rfl,e⟩
   .exact nomatch e
   .injection e with e1 _;rw[e1]
 byValue:=λk v h=>by
  rcases gu h with⟨i,t,rfl,rfl⟩|⟨x,t,rfl,rfl⟩<;>rfl
 pyHash:=λhv h=>by
  rcases gu hv with⟨i,t,rfl,rfl⟩|⟨x,t,rfl,rfl⟩
  .exact wpAny_pyHash_int h
  .exact wpAny_pyHash_str h
 eqBool:=λhu hv h=>by
  rcases gu hu with⟨i,t,rfl,rfl⟩|⟨x,t,rfl,rfl⟩
  .rcases gu hv with⟨j,u,rfl,rfl⟩|⟨y,u,rfl,rfl⟩
   .rw[DI]at h;exact wpAny_eqBool_int h
   .rw[DH]at h;exact SeqAt.EqAt.int_str i t y u _ _ _ _ h
  .rcases gu hv with⟨j,u,rfl,rfl⟩|⟨y,u,rfl,rfl⟩
   .rw[DG]at h;exact SeqAt.EqAt.str_int x t j u _ _ _ _ h
   .rw[DF]at h;exact wpAny_eqBool_str h
 «strs»:=λk x t v h=>by
  rcases gu h with⟨i,u,rfl,e⟩|⟨y,u,rfl,e⟩
  .exact nomatch e
  .injection e with e1 _;subst e1;cases v<;>rfl
theorem Dh(prog:Program)(w:World)(i:Int)(t:Tok):(cY prog w).is (.inl i) (.int i t)=true:=DK i t
theorem Dg(prog:Program)(w:World)(x:Str)(t:Tok):(cY prog w).is (.inr x) (.str x t)=true:=DJ x t
inductive V where
 |non|bl (b:Bool)|int (i:Int)|str (x:Str)|byt (b:Array UInt8)|flt (b:UInt64)|ref (a:Addr)|ty (n:String)
 deriving DecidableEq
def aB:V->Value->Prop
 |.non,u=>u=Value.none
 |.bl b,u=>u=Value.bool b
 |.int i,u=>∃t,u=Value.int i t
 |.str x,u=>∃t,u=Value.str x t
 |.byt b,u=>∃t,u=Value.bytes b t
 |.flt b,u=>∃t,u=Value.float b t
 |.ref a,u=>u=Value.ref a
 |.ty n,u=>u=Value.type n
abbrev az:List V->List Value->Prop:=Paired aB
theorem az.length{xs:List V}{us:List Value}(r:az xs us):xs.length=us.length:=Paired.length r
theorem az.get:∀{xs:List V}{us:List Value}{i:Nat}{x:V},az xs us->xs[i]?=some x->∃u,us[i]?=some u/\aB x u
 |_,_,_,_,.nil,e=>by simp at e
 |_,_,0,_,.cons r _,e=>by simp at e;subst e;exact⟨_,U,r⟩
 |_,_,i+1,x,.cons _ t,e=>by
  obtain⟨u,h1,h2⟩:=az.get (i:=i) (x:=x) t (by simpa using e);exact⟨u,by simpa using h1,h2⟩
theorem az.set{x:V}{u:Value}(r:aB x u):∀{xs:List V}{us:List Value}(i:Nat),az xs us->az (xs.set i x) (us.set i u)
 |_,_,_,.nil=>.nil
 |_,_,0,.cons _ t=>.cons r t
 |_,_,i+1,.cons q t=>.cons q (az.set r i t)
theorem az.append:∀{xs ys:List V}{us ws:List Value},az xs us->az ys ws->az (xs++ys) (us++ws)
 |_,_,_,_,.nil,s=>s
 |_,_,_,_,.cons r t,s=>.cons r (az.append t s)
theorem az.take:∀{xs:List V}{us:List Value}(n:Nat),az xs us->az (xs.take n) (us.take n)
 |_,_,0,_=>.nil
 |_,_,_+1,.nil=>.nil
 |_,_,n+1,.cons r t=>.cons r (az.take n t)
theorem az.drop:∀{xs:List V}{us:List Value}(n:Nat),az xs us->az (xs.drop n) (us.drop n)
 |_,_,0,r=>r
 |_,_,_+1,.nil=>.nil
 |_,_,n+1,.cons _ t=>az.drop n t
def cg:Option V->Option Value->Prop
 |some v,some u=>aB v u
 |none,none=>True
 |_,_=>False
def KV{κ:Type}:List (κ×V)->List (κ×Value)->Prop:=Paired λ(p:κ×V)(q:κ×Value)=>p.1=q.1/\aB p.2 q.2
noncomputable def kV:Key->V
 |.inl i=>.int i
 |.inr x=>.str x
inductive HO where
 |lst (xs:List V)
 |tup (xs:List V)
 |dK (kvs:List (Key×V))|dT (kvs:List (List Key×V))
 |set (S:Int->Bool) (n:Nat)
 |ins (C dx:Addr) (fs:List (Str×V))
 |own (x:Addr)
 |xd (fs:List (Str×V))
 |met (f x:Addr)
 |rng (lo hi:Int)
 |frz (o:Obj) (u:HO)
 |tbl (ps:Array Value)
 |ext (φ:Heap->Prop)
abbrev Hp:=Addr->Option HO
noncomputable def upd(H:Hp)(a:Addr)(o:HO):Hp:=λb=>if b=a then some o else H b
theorem ag{H:Hp}{a:Addr}{o:HO}:upd H a o a=some o:=by unfold upd;rw[Q8 U]
theorem af{H:Hp}{a b:Addr}{o:HO}(h:b≠a):upd H a o b=H b:=by unfold upd;rw[Q7 h]
theorem wA{H:Hp}{a b:Addr}{o u:HO}(h:H a=some o)(h':H b=some u)(d:o≠u):a≠b:=by
 intro e;subst e;rw[h]at h';exact d (qP h')
theorem cC{H:Hp}{a b:Addr}{o:HO}(h:H a=some o)(h':H b=none):a≠b:=by
 intro e;subst e;rw[h]at h';cases h'
section
variable (P:Program) (w:World)
def bF(H:Hp)(h:Heap)(a:Addr):HO->Prop
 |.lst xs=>xs.length<=sizeLine/\∃(its:List Value)(n:Nat),az xs its/\h.get? a=some { cls:=.type "list",data:=.seq its.toArray n }
 |.tup xs=>xs.length<=sizeLine/\∃its:List Value,az xs its/\IsTup h a its.toArray
 |.dK kvs=>kvs.length<=sizeLine/\(a == sysModules)=false/\∃vs,KV kvs vs/\h.DictOf (cY P w) a vs
 |.dT kvs=>kvs.length<=sizeLine/\(a == sysModules)=false/\∃xs:List (List Key×Addr×Value),
  Paired (λ(p:List Key×V)(q:List Key×Addr×Value)=>p.1=q.1/\H q.2.1=some (.tup (p.1.map kV))/\aB p.2 q.2.2) kvs xs /\
  ∃o es ep,h.get? a=some o/\o.ExactDict/\o.data=.dict es ep/\es.toList=xs.map (entryOfKey (tupleKind (cY P w)))/\(xs.map (·.1)).Nodup
 |.set S n=>h.SetOf (intKind P w) a S n
 |.ins C dx fs=>H dx=some (.own a)/\fs.length<=1000/\dx≠a/\h.get? a=some (PySem.W.instObj C dx) /\
  ∃mA,h.Ns1 dx mA/\(∀f,cg (fs.lookup f) (mA f))/\PySem.Within mA (fs.map (·.1))
 |.own _=>∃o,h.get? a=some o
 |.xd fs=>∃mA,h.Ns1 a mA/\∀f,cg (fs.lookup f) (mA f)
 |.rng lo hi=>∃t u v,h.get? a=some { cls:=.type "range",data:=.fields #[.int lo t,.int hi u,.int 1 v] }
 |.frz o u=>h.get? a=some o/\bF H h a u
 |.tbl ps=>h.get? a=some { cls:=.none,data:=.fields ps }
 |.met f x=>h.get? a=some (PySem.W.methodObj (.ref f) (.ref x))
 |.ext φ=>φ h/\(∃o,h.get? a=some o)/\∀h1 h2:Heap,φ h1->(∀o,h1.get? a=some o->h2.get? a=some o)->φ h2
def HOk(H:Hp)(h:Heap):Prop:=∀a o,H a=some o->bF P w H h a o
end
section
variable {P:Program}{w:World}{H H':Hp}{h h':Heap}{a:Addr}{o:HO}
theorem bF.lt(x:bF P w H h a o):a<h.objs.size:=by
 cases o with
 |lst xs=>obtain⟨_,_,_,_,e⟩:=x;exact qv e
 |tup xs=>obtain⟨_,_,_,p⟩:=x;exact p.lt
 |dK kvs=>obtain⟨_,_,_,_,o,_,_,e,_⟩:=x;exact qv e
 |dT kvs=>obtain⟨_,_,_,_,o,_,_,e,_⟩:=x;exact qv e
 |set S n=>obtain⟨o,_,_,_,e,_⟩:=x;exact qv e
 |ins C dx fs=>obtain⟨_,_,_,e,_⟩:=x;exact qv e
 |own y=>obtain⟨_,e⟩:=x;exact qv e
 |xd fs=>obtain⟨_,⟨_,_,_,e,_⟩,_⟩:=x;exact qv e
 |rng lo hi=>obtain⟨_,_,_,e⟩:=x;exact qv e
 |frz ob u=>obtain⟨e,_⟩:=x;exact qv e
 |tbl ps=>exact qv (show h.get? a=some _ from x)
 |met f y=>exact qv (show h.get? a=some _ from x)
 |ext φ=>obtain⟨_,⟨_,e⟩,_⟩:=x;exact qv e
theorem Paired.mapP{α β:Type}{F G:α->β->Prop}:∀{l₁:List α}{l₂:List β},Paired F l₁ l₂->(∀a b,F a b->G a b)->Paired G l₁ l₂
 |_,_,.nil,_=>.nil
 |_,_,.cons r t,f=>.cons (f _ _ r) (Paired.mapP t f)
theorem bF.stay(x:bF P w H h a o)(k:∀b u,(b=a\/H b=some (.own a))->h.get? b=some u->h'.get? b=some u)
 (ho:∀b,H b=some (.own a)->H' b=some (.own a)) (ht:∀b xs,H b=some (.tup xs)->H' b=some (.tup xs)):bF P w H' h' a o:=by
 induction o with
 |lst xs=>obtain⟨z,its,n,r,e⟩:=x;exact⟨z,its,n,r,k _ _ (.inl U) e⟩
 |tup xs=>obtain⟨z,its,r,ob,e,c⟩:=x;exact⟨z,its,r,ob,k _ _ (.inl U) e,c⟩
 |dK kvs=>obtain⟨z,y,vs,r,ob,es,ep,e,c⟩:=x;exact⟨z,y,vs,r,ob,es,ep,k _ _ (.inl U) e,c⟩
 |dT kvs=>
  obtain⟨z,y,xs,r,ob,es,ep,e,c⟩:=x;exact⟨z,y,xs,Paired.mapP r λp q z=>⟨z.1,ht _ _ z.2.1,z.2.2⟩,ob,es,ep,k _ _ (.inl U) e,c⟩
 |set S n=>obtain⟨ob,es,ep,t,e,c⟩:=x;exact⟨ob,es,ep,t,k _ _ (.inl U) e,c⟩
 |ins C dx fs=>
  obtain⟨d,z,ne,e,mA,⟨od,es,ep,e2,c⟩,r⟩:=x;exact⟨ho _ d,z,ne,k _ _ (.inl U) e,mA,⟨od,es,ep,k _ _ (.inr d) e2,c⟩,r⟩
 |own y=>obtain⟨ob,e⟩:=x;exact⟨ob,k _ _ (.inl U) e⟩
 |xd fs=>obtain⟨mA,⟨od,es,ep,e,c⟩,r⟩:=x;exact⟨mA,⟨od,es,ep,k _ _ (.inl U) e,c⟩,r⟩
 |rng lo hi=>obtain⟨t,u,v,e⟩:=x;exact⟨t,u,v,k _ _ (.inl U) e⟩
 |frz ob u ih=>obtain⟨e,q⟩:=x;exact⟨k _ _ (.inl U) e,ih q⟩
 |tbl ps=>
  have e:h.get? a=some { cls:=.none,data:=.fields ps }:=x;show h'.get? a=some { cls:=.none,data:=.fields ps };exact k a _ (.inl U) e
 |met f y=>
  have e:h.get? a=some (PySem.W.methodObj (.ref f) (.ref y)):=x;show h'.get? a=some (PySem.W.methodObj (.ref f) (.ref y));exact k a _ (.inl U) e
 |ext φ=>obtain⟨p,⟨o,e⟩,st⟩:=x;exact⟨st _ _ p λo q=>k _ _ (.inl U) q,⟨o,k _ _ (.inl U) e⟩,st⟩
theorem HOk.lt(x:HOk P w H h)(e:H a=some o):a<h.objs.size:=(x a o e).lt
theorem HOk.fresh(x:HOk P w H h)(e:h.objs.size<=a):H a=none:=by
 cases q:H a with
 |none=>rfl
 |some u=>exact Qb (qJ (x.lt q) e) (Qi _)
theorem HOk.kept(x:HOk P w H h)(k:∀b u,h.get? b=some u->h'.get? b=some u):HOk P w H h':=λa o e=>
 (x a o e).stay (λb u _ q=>k b u q) (λ_ q=>q) λ_ _ q=>q
theorem HOk.laid(x:HOk P w H h)(k:∀b u,h.get? b=some u->h'.get? b=some u)(hp:h.objs.size<=a)(new:bF P w (upd H a o) h' a o):HOk P w (upd H a o) h':=λb u e=>by
 have hn:=x.fresh hp;by_cases hb:b=a
 .subst hb;rw[ag]at e;cases e;exact new
 .rw[af hb]at e;exact(x b u e).stay (λc v _ q=>k c v q) (λc q=>by rw[af (cC q hn)];exact q) λc xs q=>by rw[af (cC q hn)];exact q
end
def Rd(H:Hp)(a:Addr)(u:HO):Prop:=H a=some u\/∃o,H a=some (.frz o u)
theorem Rd.ok{P:Program}{w:World}{H:Hp}{h:Heap}{a:Addr}{u:HO}(r:Rd H a u)(x:HOk P w H h):bF P w H h a u:=by
 rcases r with r|⟨o,r⟩
 .exact x a u r
 .obtain⟨_,q⟩:=x a _ r;exact q
def Mut:Option HO->Prop
 |some (.lst _)=>True
 |some (.dK _)=>True
 |some (.dT _)=>True
 |some (.set _ _)=>True
 |some (.ins _ _ _)=>True
 |some (.ext _)=>True
 |_=>False
section
variable {P:Program}{w:World}{H:Hp}{h h':Heap}{x e:Addr}{o':HO}
theorem HOk.write(ok:HOk P w H h)(mu:Mut (H x))(he:e=x\/H e=some (.own x))(k:∀b u,b≠e->h.get? b=some u->h'.get? b=some u)(heo:∃u,h'.get? e=some u)
 (new:bF P w (upd H x o') h' x o'):HOk P w (upd H x o') h':=λb u q=>by
 have nown:∀c y,H c=some (.own y)->c≠x:=λc y r z=>by subst z;rw[r]at mu;exact mu
 have ntup:∀c xs,H c=some (.tup xs)->c≠x:=λc xs r z=>by subst z;rw[r]at mu;exact mu
 by_cases hb:b=x
 .subst hb;rw[ag]at q;cases q;exact new
 .rw[af hb]at q;by_cases hbe:b=e
  .have q':H b=some (.own x):=by
    rcases he with z|z
    .exact Qb (hbe.trans z) hb
    .rw[hbe];exact z
   rw[q]at q';cases q';obtain⟨v,hv⟩:=heo;exact⟨v,by rw[hbe];exact hv⟩
  .refine(ok b u q).stay (λc v hc r=>k c v ?_ r) (λc r=>by rw[af (nown c b r)];exact r) λc xs r=>by rw[af (ntup c xs r)];exact r
   rcases hc with rfl|hc
   .exact hbe
   .rintro rfl;rcases he with z|z
    .exact nown c b hc z
    .rw[hc]at z;cases z;exact hb U
end
structure Un(fs ex:List Addr)(H H':Hp)(h h':Heap):Prop where
 keep:∀b o,h.get? b=some o->H b=none->b∉fs->b∉ex->h'.get? b=some o
 slot:∀b o,h.get? b=some o->H b=none->b∈fs->b∉ex->∃sl,h'.get? b=some { o with slots:=sl }
 free:∀b o,h.get? b=some o->H b=none->b∉ex->H' b=none
 there:∀b o,h.get? b=some o->b∉ex->∃o',h'.get? b=some o'
 tups:∀b xs,H b=some (.tup xs)->H' b=some (.tup xs)
 frzs:∀b o u,H b=some (.frz o u)->H' b=some (.frz o u)
 tbls:∀b ps,H b=some (.tbl ps)->∃more,H' b=some (.tbl (ps++more))
section
variable {fs fs' ex ex':List Addr}{H H1 H2:Hp}{h h1 h2 h':Heap}{a x e:Addr}{o:HO}
theorem Un.any(u:Un fs ex H H1 h h1){b:Addr}{ob:Obj}(q:h.get? b=some ob)(n:H b=none)(hx:b∉ex):∃sl,h1.get? b=some { ob with slots:=sl }:=by
 by_cases hb:b∈fs
 .exact u.slot b ob q n hb hx
 .exact⟨ob.slots,u.keep b ob q n hb hx⟩
theorem Un.kept(k:∀b u,h.get? b=some u->h'.get? b=some u):Un fs ex H H h h':=
 ⟨λb ob q _ _ _=>k b ob q,λb ob q _ _ _=>⟨ob.slots,k b ob q⟩,λ_ _ _ n _=>n,λb ob q _=>⟨ob,k b ob q⟩,λ_ _ q=>q,λ_ _ _ q=>q,λ_ ps q=>⟨#[],by rw[q];simp⟩⟩
theorem Un.refl:Un fs ex H H h h:=Un.kept λ_ _ q=>q
theorem Un.laid(k:∀b u,h.get? b=some u->h'.get? b=some u)(hp:h.objs.size<=a)(hn:H a=none):Un fs ex H (upd H a o) h h' where
 keep:=λb u q _ _ _=>k b u q
 slot:=λb u q _ _ _=>⟨u.slots,k b u q⟩
 free:=λb u q n _=>by rw[af (qM (qJ (qv q) hp))];exact n
 there:=λb u q _=>⟨u,k b u q⟩
 tups:=λb xs q=>by rw[af (cC q hn)];exact q
 frzs:=λb u xs q=>by rw[af (cC q hn)];exact q
 tbls:=λb ps q=>⟨#[],by rw[af (cC q hn),q];simp⟩
theorem Un.write(mu:Mut (H x))(he:e=x\/H e=some (.own x))(k:∀b u,b≠e->h.get? b=some u->h'.get? b=some u)(heo:∃u,h'.get? e=some u):Un fs ex H (upd H x o) h h':=by
 have hx:∀b,H b=none->b≠x:=λb n z=>by subst z;rw[n]at mu;exact mu
 have hb:∀b,H b=none->b≠e:=λb n z=>by
  subst z;rcases he with r|r
  .exact hx b n r
  .rw[n]at r;cases r
 have hm:∀b u,H b=some u->¬ Mut (some u)->b≠x:=λb u q nm z=>by subst z;rw[q]at mu;exact nm mu
 refine⟨λb u q n _ _=>k b u (hb b n) q,λb u q n _ _=>⟨u.slots,k b u (hb b n) q⟩,λb u q n _=>by rw[af (hx b n)];exact n,λb u q _=>?_,
  λb xs q=>by rw[af (hm b _ q λz=>z)];exact q,λb u xs q=>by rw[af (hm b _ q λz=>z)];exact q,λb ps q=>⟨#[],by rw[af (hm b _ q λz=>z),q];simp⟩⟩
 by_cases hbe:b=e
 .subst hbe;exact heo
 .exact⟨u,k b u hbe q⟩
end
noncomputable def trk(h:Heap)(H:Hp):List Addr:=(List.range h.objs.size).filter λa=>(H a).isSome
noncomputable def gz(h:Heap)(H:Hp):Heap:=PySem.W.hideAll h (trk h H)
theorem E5(h:Heap)(H:Hp):(gz h H).objs.size=h.objs.size:=PySem.W.hideAll_size _ _
theorem E6{h:Heap}{H:Hp}{b:Addr}{o:Obj}(e:h.get? b=some o)(n:H b=none):(gz h H).get? b=some o:=
 PySem.W.hideAll_get _ e λhm=>by
  have q:(H b).isSome=true:=(List.mem_filter.mp hm).2;rw[n]at q;simp at q
theorem D5{h:Heap}{H:Hp}{b:Addr}{o:Obj}(e:(gz h H).get? b=some o):h.get? b=some o/\H b=none:=by
 have e':h.get? b=some o:=PySem.W.of_hideAll (trk h H) e;refine⟨e',?_⟩
 cases q:H b with
 |none=>rfl
 |some x=>
  have hm:b∈trk h H:=List.mem_filter.mpr ⟨List.mem_range.mpr (qv e'),by simp[q]⟩;have z:(gz h H).get? b=none:=PySem.W.hideAll_none (trk h H) hm;rw[z]at e;cases e
structure Mod(K:W.Frag)(mg:Str->Option Value)(base:Heap):Prop where
 kin:K.In base
 glob:base.Ns mainGlobals mg
 blt:∃mb,base.Ns builtinsNs mb/\∀x:Str,x≠"__name__"->mb x=bootBuiltins x
 nolimit:base.NoLimit
structure Cx where
 prog:Program
 w:World
 K:W.Frag
 mg:Str->Option Value
 base:Heap
 A:Around
 N:List Str
 s₀:Shared
 H₀:Hp
 env:Env
 outer:List Env
 stack:List Env
 ex:List Addr
 fn:Str->Bool
 calm:Bool
 pn:List (Addr×Obj)
 xe:Value->Shared->Prop
noncomputable def frs(l:List Env):List Addr:=l.filterMap (·.frame)
noncomputable abbrev Cx.fs(X:Cx):List Addr:=frs X.outer
def Vis(sc:Scope)(x:Str):Prop:=sc.names.lookup x=some .local\/sc.names.lookup x=some .cell\/sc.names.lookup x=some .free
def Loc(sc:Scope)(x:Str):Prop:=sc.names.lookup x=some .local\/sc.names.lookup x=some .cell
def FE(env:Env)(h:Heap)(m:Str->Option Value)(x:Str)(u:Value):Prop:=
 (env.kindOf x=some .local/\m x=some u)\/((env.kindOf x=some .cell\/env.kindOf x=some .free)/\∃c,env.cells.lookup x=some c/\h.IsCell c (some u))
structure Cx.Ok(X:Cx):Prop where
 mod:Mod X.K X.mg X.base
 kind:X.env.scope.kind=.function
 glob:X.env.globals=mainGlobals
 blt:X.env.builtins=builtinsNs
 above:X.s₀.heap.objs.size<=X.env.locals
 inj:∀x y c,X.env.cells.lookup x=some c->X.env.cells.lookup y=some c->x=y
 has:∀x,(X.env.kindOf x=some .cell\/X.env.kindOf x=some .free)->∃c,X.env.cells.lookup x=some c
 cab:∀x c,X.fn x=true->X.env.cells.lookup x=some c->X.s₀.heap.objs.size<=c
 hd:X.calm=true->X.A.handled=none
 frames:X.A.frames=some X.stack
 stk:X.stack=X.outer\/(X.stack=X.env::X.outer/\X.env.frame=some X.env.locals)
 exf:∀b∈X.ex,b≠X.env.locals/\∀x c,X.env.cells.lookup x=some c->c≠b
 bs:∀b o,X.base.get? b=some o->X.s₀.heap.get? b=some o/\X.H₀ b=none
 bsz:X.base.objs.size<=X.s₀.heap.objs.size
 noex:∀b o,X.base.get? b=some o->b∉X.ex
 exfs:∀b∈X.ex,b∉X.fs
 funs:X.s₀.heap.FunFrames X.base X.outer
 frf:∀b∈X.fs,X.H₀ b=none
structure Inv(X:Cx)(pins:List (Addr×Obj))(Y:List (Option V))(H:Hp)(s:Shared):Prop where
 ok:X.Ok
 os:s.os=X.s₀.os
 bare:AllBare s.gens
 base:Un X.fs X.ex X.H₀ H X.s₀.heap s.heap
 loc:∃m,s.heap.Ns X.env.locals m/\∀(i:Nat)(x:Str)(v:V),X.N[i]?=some x->Y[i]?=some (some v)->Vis X.env.scope x->∃u,aB v u/\FE X.env s.heap m x u
 cell:∀x c,X.env.cells.lookup x=some c->∃v,s.heap.IsCell c v
 free:H X.env.locals=none
 freeC:∀x c,X.env.cells.lookup x=some c->H c=none
 pin:∀p∈X.pn++pins,s.heap.get? p.1=some p.2/\H p.1=none/\p.1≠X.env.locals/\p.1∉X.fs/\∀v,p.2.data≠.cell v
 hok:HOk X.prog X.w H s.heap
 len:Y.length=X.N.length
section
variable {X:Cx}{pins:List (Addr×Obj)}{Y:List (Option V)}{H H':Hp}{s:Shared}{h':Heap}
theorem Cx.Ok.nofr(ok:X.Ok){b:Addr}{o:Obj}(e:X.base.get? b=some o):b∉X.fs:=λhb=>by
 have:=(ok.funs.mem hb).1;rw[e]at this;cases this
theorem Inv.bs(I:Inv X pins Y H s):∀b o,X.base.get? b=some o->s.heap.get? b=some o/\H b=none:=λb o e=>
 ⟨I.base.keep b o (I.ok.bs b o e).1 (I.ok.bs b o e).2 (I.ok.nofr e) (I.ok.noex b o e),I.base.free b o (I.ok.bs b o e).1 (I.ok.bs b o e).2 (I.ok.noex b o e)⟩
theorem Inv.bk(I:Inv X pins Y H s):∀b o,X.base.get? b=some o->s.heap.get? b=some o:=λb o e=>(I.bs b o e).1
theorem Inv.mod(I:Inv X pins Y H s):Mod X.K X.mg X.base:=I.ok.mod
theorem Inv.kIn(I:Inv X pins Y H s):X.K.In s.heap:=I.ok.mod.kin.keeps I.bk
theorem Inv.lt(I:Inv X pins Y H s):X.env.locals<s.heap.objs.size:=let ⟨_,hn,_⟩:=I.loc;hn.lt
theorem Inv.sz(I:Inv X pins Y H s):X.s₀.heap.objs.size<=s.heap.objs.size:=qF I.ok.above (Nat.le_of_lt I.lt)
theorem Inv.nofs(I:Inv X pins Y H s){a:Addr}(h:s.heap.objs.size<=a):a∉X.fs:=λhb=>by
 obtain⟨_,o,ho,_⟩:=I.ok.funs.mem hb;exact Qb (qJ (qv ho) (qF I.sz h)) (Qi _)
theorem Inv.cne(I:Inv X pins Y H s):∀x c,X.env.cells.lookup x=some c->c≠X.env.locals:=λx c e z=>by
 obtain⟨v,o,ho,hd⟩:=I.cell x c e;obtain⟨m,⟨o',es,ep,ho',hd',_⟩,_⟩:=I.loc;rw[z,ho']at ho;cases ho;rw[hd']at hd;cases hd
theorem Inv.funs(I:Inv X pins Y H s):s.heap.FunFrames X.base X.outer:=by
 have all:∀(l:List Env),(∀b∈frs l,b∈X.fs)->X.s₀.heap.FunFrames X.base l->s.heap.FunFrames X.base l:=by
  intro l
  induction l with
  |nil=>intro _ _;trivial
  |cons env r ih=>
   intro hs hl;obtain⟨hk,⟨L,o,hf,hn,ho,hd⟩,hr⟩:=hl;have hL:L∈X.fs:=hs L (by unfold frs;rw[List.filterMap_cons,hf];exact qt);obtain⟨sl,e⟩:=I.base.slot L o ho (I.ok.frf L hL) hL λz=>I.ok.exfs L z hL;exact⟨hk,⟨L,_,hf,hn,e,hd⟩,ih (λb hb=>hs b (by unfold frs;rw[List.filterMap_cons,hf];exact qq _ hb)) hr⟩
 exact all X.outer (λ_ hb=>hb) I.ok.funs
theorem Inv.stack(I:Inv X pins Y H s):s.heap.FunFrames X.base X.stack:=by
 rcases I.ok.stk with e|⟨e,hf⟩
 .rw[e];exact I.funs
 .rw[e];obtain⟨m,hn,_⟩:=I.loc;refine .cons (by rw[I.ok.kind];decide) hf hn ?_ I.funs;exact Heap.get?_none_of_le (qF I.ok.bsz I.ok.above)
theorem Inv.stkSub(I:Inv X pins Y H s):∀b∈frs X.stack,b∈X.env.locals::X.fs:=λb hb=>by
 rcases I.ok.stk with e|⟨e,hf⟩
 .rw[e]at hb;exact qq _ hb
 .rw[e]at hb;unfold frs at hb;rw[List.filterMap_cons,hf]at hb;exact hb
theorem Inv.stkFree(I:Inv X pins Y H s):∀b∈frs X.stack,H b=none:=λb hb=>by
 rcases qA.mp (I.stkSub b hb)with e|hb
 .rw[e];exact I.free
 .obtain⟨_,o,ho,_⟩:=I.ok.funs.mem hb;exact I.base.free b o ho (I.ok.frf b hb) λz=>I.ok.exfs b z hb
theorem Inv.step{g':Array GenState}{t':Nat}{d':Drawn}{ch:List Addr}(I:Inv X pins Y H s)
 (hch:∀b∈ch,(b∈X.ex\/X.s₀.heap.objs.size<=b)/\b≠X.env.locals/\(∀x c,X.env.cells.lookup x=some c->c≠b)/\∀p∈X.pn++pins,p.1≠b)
 (keep:∀b o,b≠X.env.locals->b∉X.fs->b∉ch->s.heap.get? b=some o->H b=none->h'.get? b=some o)
 (slot:∀b o,b≠X.env.locals->b∈X.fs->b∉ch->s.heap.get? b=some o->H b=none->∃sl,h'.get? b=some { o with slots:=sl }) (free:∀b o,b∉ch->s.heap.get? b=some o->H b=none->H' b=none)
 (there:∀b o,b∉ch->s.heap.get? b=some o->∃o',h'.get? b=some o')
 (tups:∀b xs,H b=some (.tup xs)->H' b=some (.tup xs)) (frzs:∀b o u,H b=some (.frz o u)->H' b=some (.frz o u)) (tbls:∀b ps,H b=some (.tbl ps)->∃more,H' b=some (.tbl (ps++more)))
 (ns:∀m,s.heap.Ns X.env.locals m->h'.Ns X.env.locals m) (hok:HOk X.prog X.w H' h') (hg:AllBare g'):
 Inv X pins Y H' { s with heap:=h',gens:=g',drawn:=d',toks:=t' }:=by
 have neL:∀b o,X.s₀.heap.get? b=some o->b≠X.env.locals:=λb o e=>qM (qJ (qv e) I.ok.above)
 have neC:∀b o,X.s₀.heap.get? b=some o->b∉X.ex->b∉ch:=λb o e hx hb=>by
  rcases(hch b hb).1 with z|z
  .exact hx z
  .exact Qb (qJ (qv e) z) (Qi _)
 have cellK:∀x c,X.env.cells.lookup x=some c->∀v,s.heap.IsCell c v->h'.IsCell c v:=λx c e v ⟨o,ho,hd⟩=>by
  have nch:c∉ch:=λz=>(hch c z).2.2.1 x c e U;by_cases hc:c∈X.fs
  .obtain⟨sl,q⟩:=slot c o (I.cne x c e) hc nch ho (I.freeC x c e);exact⟨_,q,hd⟩
  .exact⟨o,keep c o (I.cne x c e) hc nch ho (I.freeC x c e),hd⟩
 refine⟨I.ok,I.os,hg,⟨λb o e n hb hx=>?_,λb o e n hb hx=>?_,λb o e n hx=>?_,λb o e hx=>?_,λb xs e=>tups b xs (I.base.tups b xs e),λb o xs e=>frzs b o xs (I.base.frzs b o xs e),λb ps e=>?_⟩,?_,λx c e=>?_,?_,λx c e=>?_,λp hp=>?_,hok,I.len⟩
 .exact keep b o (neL b o e) hb (neC b o e hx) (I.base.keep b o e n hb hx) (I.base.free b o e n hx)
 .obtain⟨sl,e1⟩:=I.base.slot b o e n hb hx;obtain⟨sl',e2⟩:=slot b _ (neL b o e) hb (neC b o e hx) e1 (I.base.free b o e n hx);exact⟨sl',e2⟩
 .obtain⟨o',e1⟩:=I.base.there b o e hx;exact free b o' (neC b o e hx) e1 (I.base.free b o e n hx)
 .obtain⟨o',e1⟩:=I.base.there b o e hx;exact there b o' (neC b o e hx) e1
 .obtain⟨m1,e1⟩:=I.base.tbls b ps e;obtain⟨m2,e2⟩:=tbls b _ e1;exact⟨m1++m2,by rw[e2,Array.append_assoc]⟩
 .obtain⟨m,hn,hl⟩:=I.loc;refine⟨m,ns m hn,λi x v e1 e2 e3=>?_⟩;obtain⟨u,r,l⟩:=hl i x v e1 e2 e3;refine⟨u,r,?_⟩;rcases l with l|⟨k,c,e,z⟩
  .exact .inl l
  .exact .inr ⟨k,c,e,cellK x c e _ z⟩
 .obtain⟨v,z⟩:=I.cell x c e;exact⟨v,cellK x c e v z⟩
 .obtain⟨m,⟨o,_,_,ho,_⟩,_⟩:=I.loc;exact free _ o (λz=>(hch _ z).2.1 U) ho I.free
 .obtain⟨v,o,ho,hd⟩:=I.cell x c e;exact free c o (λz=>(hch c z).2.2.1 x c e U) ho (I.freeC x c e)
 .obtain⟨e,n,ne,nf,d⟩:=I.pin p hp;have nch:p.1∉ch:=λz=>(hch p.1 z).2.2.2 p hp U;exact⟨keep p.1 p.2 ne nf nch e n,free p.1 p.2 nch e n,ne,nf,d⟩
theorem Inv.un{t':Nat}(I:Inv X pins Y H s)(u:Un X.fs [] H H' s.heap h')(hok:HOk X.prog X.w H' h'):Inv X pins Y H' { s with heap:=h',toks:=t' }:=by
 obtain⟨m,⟨o,es,ep,ho,r⟩,_⟩:=id I.loc;obtain⟨sl,hL⟩:=u.any ho I.free (by simp)
 exact I.step (g':=s.gens) (d':=s.drawn) (ch:=[]) (λ_ z=>nomatch z) (λb o _ hb _ e n=>u.keep b o e n hb (by simp)) (λb o _ hb _ e n=>u.slot b o e n hb (by simp)) (λb o _ e n=>u.free b o e n (by simp)) (λb o _ e=>u.there b o e (by simp)) u.tups u.frzs u.tbls (λm' hm=>by
  obtain⟨o',es',ep',ho',r'⟩:=hm;rw[ho]at ho';cases ho'
  exact⟨_,es',ep',hL,r'⟩) hok I.bare
theorem Inv.call{g':Array GenState}{t':Nat}{d':Drawn}{ch:List Addr}(I:Inv X pins Y H s)(u:Un (frs X.stack) ch H H' s.heap h')(hok:HOk X.prog X.w H' h')(hg:AllBare g')
 (hch:∀b∈ch,(b∈X.ex\/X.s₀.heap.objs.size<=b)/\b≠X.env.locals/\(∀x c,X.env.cells.lookup x=some c->c≠b)/\∀p∈X.pn++pins,p.1≠b):
 Inv X pins Y H' { s with heap:=h',gens:=g',drawn:=d',toks:=t' }:=by
 obtain⟨m,⟨o,es,ep,ho,r⟩,_⟩:=id I.loc;obtain⟨sl,hL⟩:=u.any ho I.free λz=>(hch _ z).2.1 U
 exact I.step (ch:=ch) hch (λb o hL hb hc e n=>u.keep b o e n (λz=>(qA.mp (I.stkSub b z)).elim hL hb) hc) (λb o _ _ hc e n=>u.any e n hc) (λb o hc e n=>u.free b o e n hc) (λb o hc e=>u.there b o e hc) u.tups u.frzs u.tbls (λm' hm=>by
  obtain⟨o',es',ep',ho',r'⟩:=hm;rw[ho]at ho';cases ho'
  exact⟨_,es',ep',hL,r'⟩) hok hg
theorem Inv.turned{t':Nat}{it:Addr}(I:Inv X pins Y H s)(k:∀b o,b≠it->s.heap.get? b=some o->h'.get? b=some o)(hn:H it=none)(hL:it≠X.env.locals)
 (h1:it∈X.ex\/X.s₀.heap.objs.size<=it) (h2:∀x c,X.env.cells.lookup x=some c->c≠it) (h3:∀p∈X.pn++pins,p.1≠it):Inv X pins Y H { s with heap:=h',toks:=t' }:=by
 have nit:∀b u,H b=some u->b≠it:=λb u e z=>by rw[z,hn]at e;cases e
 refine I.step (g':=s.gens) (d':=s.drawn) (ch:=[it]) (λb hb=>?_) (λb o _ _ hc e _=>k b o (λz=>hc (by simp[z])) e) (λb o _ _ hc e _=>⟨o.slots,k b o (λz=>hc (by simp[z])) e⟩) (λ_ _ _ _ n=>n)
  (λb o hc e=>⟨o,k b o (λz=>hc (by simp[z])) e⟩) (λ_ _ e=>e) (λ_ _ _ e=>e) (λb ps e=>⟨#[],by rw[e];simp⟩) (λm hm=>?_) (λb u e=>?_) I.bare
 .have e:b=it:=by simpa using hb
  subst e;exact⟨h1,hL,h2,h3⟩
 .obtain⟨o,es,ep,ho,r⟩:=hm;exact⟨o,es,ep,k _ o (Ne.symm hL) ho,r⟩
 .refine(I.hok b u e).stay (λc v hc q=>k c v ?_ q) (λ_ q=>q) λ_ _ q=>q;rcases hc with z|z
  .rw[z];exact nit b u e
  .exact nit c _ z
theorem Inv.tok(I:Inv X pins Y H s)(t:Nat):Inv X pins Y H { s with toks:=t }:=I.un (h':=s.heap) (t':=t) Un.refl I.hok
theorem Inv.kept{t':Nat}(I:Inv X pins Y H s)(k:∀b u,s.heap.get? b=some u->h'.get? b=some u):Inv X pins Y H { s with heap:=h',toks:=t' }:=I.un (Un.kept k) (I.hok.kept k)
theorem Inv.laid{a:Addr}{o:HO}{t':Nat}(I:Inv X pins Y H s)(k:∀b u,s.heap.get? b=some u->h'.get? b=some u)(hp:s.heap.objs.size<=a)(new:bF X.prog X.w (upd H a o) h' a o):
 Inv X pins Y (upd H a o) { s with heap:=h',toks:=t' }:=I.un (Un.laid k hp (I.hok.fresh hp)) (I.hok.laid k hp new)
theorem Inv.write{x e:Addr}{o:HO}{t':Nat}(I:Inv X pins Y H s)(mu:Mut (H x))(he:e=x\/H e=some (.own x))(k:∀b u,b≠e->s.heap.get? b=some u->h'.get? b=some u)(heo:∃u,h'.get? e=some u)
 (new:bF X.prog X.w (upd H x o) h' x o):Inv X pins Y (upd H x o) { s with heap:=h',toks:=t' }:=I.un (Un.write mu he k heo) (I.hok.write mu he k heo new)
theorem Inv.pins_of{pins':List (Addr×Obj)}(I:Inv X pins Y H s)(h:∀p∈pins',s.heap.get? p.1=some p.2/\H p.1=none/\p.1≠X.env.locals/\p.1∉X.fs/\∀v,p.2.data≠.cell v):Inv X pins' Y H s:=
 ⟨I.ok,I.os,I.bare,I.base,I.loc,I.cell,I.free,I.freeC,λp hp=>(qk.mp hp).elim (λz=>I.pin p (Q3 _ z)) (h p),I.hok,I.len⟩
theorem wx{N:List Str}(hN:N.Nodup){i j:Nat}{x:Str}(a:N[i]?=some x)(b:N[j]?=some x):i=j:=by
 obtain⟨h1,e1⟩:=qh.mp a;obtain⟨h2,e2⟩:=qh.mp b;exact(List.getElem_inj hN).mp (e1.trans e2.symm)
theorem tM{M:Model}{A:Around}{E:Yq}{i:Nat}{x:Str}{v:V}{u:Value}{Q:Unit->Shared->Prop}(I:Inv X pins Y H s)(hN:X.N.Nodup)(hi:X.N[i]?=some x)(hx:Loc X.env.scope x)(r:aB v u)
 (h:∀s',Inv X pins (Y.set i (some v)) H s'->(∃a,Heap.SameBut a s.heap s'.heap/\(a=X.env.locals\/X.env.cells.lookup x=some a))->Q () s') (hf:X.fn x=true\/X.env.scope.names.lookup x=some .local:=by first|exact .inl U|exact .inr U|assumption):wpAny M A (storeName X.env x u) Q E s:=by
 obtain⟨m,hn,hl⟩:=id I.loc;have hcls:(X.env.scope.kind == .class || (X.env.scope.kind == .module && X.env.locals != X.env.globals))=false:=by rw[I.ok.kind];rfl
 have hiY:i<Y.length:=by rw[I.len];exact(qh.mp hi).1
 have cne:=I.cne
 have tracked:∀{a:Addr}{h':Heap},(∃o,s.heap.get? a=some o/\H a=none)->Heap.SameBut a s.heap h'->HOk X.prog X.w H h':=λ{a h'} ha hs b ob e=>by
  obtain⟨_,_,hfree⟩:=ha;refine(I.hok b ob e).stay (λc w' hc q=>(hs.2 c ?_).trans q) (λ_ q=>q) λ_ _ q=>q;rintro rfl;rcases hc with rfl|hc
  .rw[hfree]at e;cases e
  .rw[hfree]at hc;cases hc
 rcases hx with hk|hk
 .refine wpAny_storeName_local hk hn (λh' hn' hs=>?_) hcls;obtain⟨oL,_,_,hoL,_⟩:=id hn;refine h _ ⟨I.ok,I.os,I.bare,⟨λb o e n hb hx=>?_,λb o e n hb hx=>?_,I.base.free,λb o e hx=>?_,I.base.tups,I.base.frzs,I.base.tbls⟩,⟨_,hn',λj y v' e1 e2 e3=>?_⟩,λy c e=>?_,I.free,I.freeC,λp hp=>?_,tracked ⟨oL,hoL,I.free⟩ hs,by simpa using I.len⟩ ⟨_,hs,.inl U⟩
  .exact(hs.2 b (qM (qJ (qv e) I.ok.above))).trans (I.base.keep b o e n hb hx)
  .obtain⟨sl,e1⟩:=I.base.slot b o e n hb hx;exact⟨sl,(hs.2 b (qM (qJ (qv e) I.ok.above))).trans e1⟩
  .obtain⟨o',e1⟩:=I.base.there b o e hx;exact⟨o',(hs.2 b (qM (qJ (qv e) I.ok.above))).trans e1⟩
  .by_cases hj:j=i
   .subst hj;rw[hi]at e1;cases e1;rw[List.getElem?_set_self hiY]at e2;cases e2;exact⟨u,r,.inl ⟨hk,by simp⟩⟩
   .rw[List.getElem?_set_ne (Ne.symm hj)]at e2;obtain⟨u',r',q⟩:=hl j y v' e1 e2 e3;refine⟨u',r',?_⟩;rcases q with⟨k,e⟩|⟨k,c,e,z⟩
    .refine .inl ⟨k,?_⟩;have:y≠x:=λe=>hj (wx hN e1 (e▸hi));simp[this,e]
    .exact .inr ⟨k,c,e,z.sameBut hs (cne y c e)⟩
  .obtain⟨w',z⟩:=I.cell y c e;exact⟨w',z.sameBut hs (cne y c e)⟩
  .obtain⟨e,n,ne,nf,d⟩:=I.pin p hp;exact⟨(hs.2 p.1 ne).trans e,n,ne,nf,d⟩
 .have hfn:X.fn x=true:=by
   rcases hf with z|z
   .exact z
   .rw[z]at hk;cases hk
  obtain⟨c,hc⟩:=I.ok.has x (.inl hk);obtain⟨w',z⟩:=I.cell x c hc;refine wpAny_storeName_cell I.ok.kind hk hc z (λh' hc' hs=>?_);obtain⟨oc,hoc,hocd⟩:=id z;refine h { s with heap:=h' } ⟨I.ok,I.os,I.bare,⟨λb o e n hb hx=>?_,λb o e n hb hx=>?_,I.base.free,λb o e hx=>?_,I.base.tups,I.base.frzs,I.base.tbls⟩,⟨m,hn.sameBut hs (Ne.symm (cne x c hc)),λj y v' e1 e2 e3=>?_⟩,λy c' e=>?_,I.free,I.freeC,λp hp=>?_,tracked ⟨oc,hoc,I.freeC x c hc⟩ hs,by simpa using I.len⟩ ⟨c,hs,.inr hc⟩
  .exact(hs.2 b (qM (qJ (qv e) (I.ok.cab x c hfn hc)))).trans (I.base.keep b o e n hb hx)
  .obtain⟨sl,e1⟩:=I.base.slot b o e n hb hx;exact⟨sl,(hs.2 b (qM (qJ (qv e) (I.ok.cab x c hfn hc)))).trans e1⟩
  .obtain⟨o',e1⟩:=I.base.there b o e hx;exact⟨o',(hs.2 b (qM (qJ (qv e) (I.ok.cab x c hfn hc)))).trans e1⟩
  .by_cases hj:j=i
   .subst hj;rw[hi]at e1;cases e1;rw[List.getElem?_set_self hiY]at e2;cases e2;exact⟨u,r,.inr ⟨.inl hk,c,hc,hc'⟩⟩
   .rw[List.getElem?_set_ne (Ne.symm hj)]at e2;obtain⟨u',r',q⟩:=hl j y v' e1 e2 e3;refine⟨u',r',?_⟩;rcases q with q|⟨k,c',e,z'⟩
    .exact .inl q
    .refine .inr ⟨k,c',e,z'.sameBut hs ?_⟩;rintro rfl;exact hj (wx hN e1 (I.ok.inj _ _ _ e hc▸hi))
  .by_cases hcc:c'=c
   .subst hcc;exact⟨_,hc'⟩
   .obtain⟨w2,z2⟩:=I.cell y c' e;exact⟨w2,z2.sameBut hs hcc⟩
  .obtain⟨e,n,ne,nf,d⟩:=I.pin p hp;refine⟨(hs.2 p.1 ?_).trans e,n,ne,nf,d⟩;intro q;rw[q,hoc]at e;have q':oc=p.2:=qP e;exact d w' (by rw[<- q'];exact hocd)
theorem mN{M:Model}{A:Around}{E:Yq}{i:Nat}{x:Str}{v:V}{u:Value}{Q:Unit->Shared->Prop}(I:Inv X pins Y H s)(hN:X.N.Nodup)(hi:X.N[i]?=some x)(hx:Loc X.env.scope x)(r:aB v u)
 (h:∀s',Inv X pins (Y.set i (some v)) H s'->Q () s') (hf:X.fn x=true\/X.env.scope.names.lookup x=some .local:=by first|exact .inl U|exact .inr U|assumption):wpAny M A (storeName X.env x u) Q E s:=
 tM I hN hi hx r (λs' I' _=>h s' I') hf
theorem Inv.call'{s':Shared}{ch:List Addr}(I:Inv X pins Y H s)(ho:s'.os=s.os)(u:Un (frs X.stack) ch H H' s.heap s'.heap)(hok:HOk X.prog X.w H' s'.heap)(hg:AllBare s'.gens)
 (hch:∀b∈ch,(b∈X.ex\/X.s₀.heap.objs.size<=b)/\b≠X.env.locals/\(∀x c,X.env.cells.lookup x=some c->c≠b)/\∀p∈X.pn++pins,p.1≠b):Inv X pins Y H' s':=by
 obtain⟨h',g',d',t',o'⟩:=s';have e:o'=s.os:=ho;subst e;exact I.call (g':=g') (t':=t') (d':=d') u hok hg hch
end
abbrev XK:=Value->Option Addr->Hp->Prop
abbrev St:=List (Option V)
abbrev VK:=V->Hp->Prop
abbrev TE:=St->Hp->VK->Prop
abbrev TT:=St->Hp->(Bool->Hp->Prop)->Prop
abbrev TA:=St->Hp->(List V->Hp->Prop)->Prop
structure fA where
 nx:St->Hp->Prop
 rt:VK
 bk:St->Hp->Prop:=λ_ _=>False
 ct:St->Hp->Prop:=λ_ _=>False
abbrev TS:=fA->St->Hp->Prop
def EP(X:Cx)(pins:List (Addr×Obj))(Y:St)(Q:VK)(u:Value)(s':Shared):Prop:=∃v H',Inv X pins Y H' s'/\aB v u/\Q v H'
def TP(X:Cx)(pins:List (Addr×Obj))(Y:St)(Q:Bool->Hp->Prop)(b:Bool)(s':Shared):Prop:=∃H',Inv X pins Y H' s'/\Q b H'
def AP(X:Cx)(pins:List (Addr×Obj))(Y:St)(Q:List V->Hp->Prop)(us:List Value)(s':Shared):Prop:=∃vs H',Inv X pins Y H' s'/\az vs us/\Q vs H'
def SP(X:Cx)(pins:List (Addr×Obj))(D:fA)(f:Flow)(s':Shared):Prop:=
 match f with
 |.next=>∃Y' H',Inv X pins Y' H' s'/\D.nx Y' H'
 |.brk=>∃Y' H',Inv X pins Y' H' s'/\D.bk Y' H'
 |.cont=>∃Y' H',Inv X pins Y' H' s'/\D.ct Y' H'
 |.ret u=>∃v Y' H',Inv X pins Y' H' s'/\aB v u/\D.rt v H'
def PE(X:Cx)(e:Expr)(t:TE):Prop:=
 ∀(pins:List (Addr×Obj))(s:Shared)(Y:St)(H:Hp)(Q:VK),Inv X pins Y H s->t Y H Q->wpAny (model X.prog X.w) X.A (eval e X.env) (EP X pins Y Q) X.xe s
def PT(X:Cx)(e:Expr)(t:TT):Prop:=
 ∀(pins:List (Addr×Obj))(s:Shared)(Y:St)(H:Hp)(Q:Bool->Hp->Prop),Inv X pins Y H s->t Y H Q->wpAny (model X.prog X.w) X.A (isTrue e X.env (eval e X.env)) (TP X pins Y Q) X.xe s
def PW(X:Cx)(e:Expr)(t:TT):Prop:=
 ∀(whole:Sem Value)(pins:List (Addr×Obj))(s:Shared)(Y:St)(H:Hp)(Q:Bool->Hp->Prop),Inv X pins Y H s->t Y H Q->wpAny (model X.prog X.w) X.A (isTrue e X.env whole) (TP X pins Y Q) X.xe s
theorem PW.pt{X:Cx}{e:Expr}{t:TT}(h:PW X e t):PT X e t:=h _
def PA(X:Cx)(es:List Expr)(t:TA):Prop:=
 ∀(pos:Pos)(pins:List (Addr×Obj))(s:Shared)(Y:St)(H:Hp)(Q:List V->Hp->Prop),Inv X pins Y H s->t Y H Q->wpAny (model X.prog X.w) X.A (spliced (backTo pos (starEach es X.env))) (AP X pins Y Q) X.xe s
def PS(X:Cx)(st:Stmt)(t:TS):Prop:=
 ∀(pins:List (Addr×Obj))(s:Shared)(Y:St)(H:Hp)(D:fA),Inv X pins Y H s->t D Y H->wpAny (model X.prog X.w) X.A (exec st X.env) (SP X pins D) X.xe s
def PSs(X:Cx)(st:List Stmt)(t:TS):Prop:=
 ∀(pins:List (Addr×Obj))(s:Shared)(Y:St)(H:Hp)(D:fA),Inv X pins Y H s->t D Y H->wpAny (model X.prog X.w) X.A (execs st X.env) (SP X pins D) X.xe s
theorem thn{α:Type}{t:Sem α}{Q Q':α->Shared->Prop}{M:Model}{A:Around}{E:Yq}{s:Shared}(h:wpAny M A t Q E s)(hQ:∀a s,Q a s->Q' a s):wpAny M A t Q' E s:=wpAny_mono h hQ λ_ _ x=>x
section
variable {X:Cx}
theorem bin{a b:Expr}{ta tb:TE}(ha:PE X a ta)(hb:PE X b tb){pins:List (Addr×Obj)}{s:Shared}{Y:St}{H:Hp}{R:V->V->Hp->Prop}(I:Inv X pins Y H s)(h:ta Y H λx H1=>tb Y H1 λy H2=>R x y H2)
 {α:Type}{Q:α->Shared->Prop}{f:Value->Value->Sem α}
 (hf:∀v u s2 x y H2,Inv X pins Y H2 s2->aB x v->aB y u->R x y H2->wpAny (model X.prog X.w) X.A (f v u) Q X.xe s2):
 wpAny (model X.prog X.w) X.A (eval a X.env) (λv s₁=>wpAny (model X.prog X.w) X.A (eval b X.env) (λu s₂=>wpAny (model X.prog X.w) X.A (f v u) Q X.xe s₂) X.xe s₁) X.xe s:=by
 refine thn (ha pins s Y H _ I h) λv s1 ⟨x,H1,I1,r1,q1⟩=>?_;refine thn (hb pins s1 Y H1 _ I1 q1) λu s2 ⟨y,H2,I2,r2,q2⟩=>?_;exact hf v u s2 x y H2 I2 r1 r2 q2
def tu(i:Nat):TE:=λY H Q=>∃v,Y[i]?=some (some v)/\Q v H
def tC(v:V):TE:=λ_ H Q=>Q v H
theorem BH{i:Nat}{x:Str}{pos:Pos}(hN:X.N[i]?=some x)(hv:Vis X.env.scope x)(hd:(x == ("__debug__":Str))=false:=by decide)(hcd:(x == ("__classdict__":Str))=false:=by decide):PE X (.Name x pos) (tu i):=by
 intro pins s Y H Q I h;obtain⟨v,e,h⟩:=h;obtain⟨m,hn,hl⟩:=I.loc;obtain⟨u,r,l⟩:=hl i x v hN e hv;have fin:EP X pins Y Q u s:=⟨v,H,I,r,h⟩;rcases l with⟨hk,hm⟩|⟨hk,c,hc,hcell⟩
 .exact wpAny_Name (wpAny_loadName_local I.ok.kind hk hn hm fin) hd
 .rcases hk with hk|hk
  .exact wpAny_Name (wpAny_loadName_cell I.ok.kind hk hc hcell fin) hd
  .exact wpAny_Name (wpAny_loadName_free I.ok.kind hk hc hcell fin hcd) hd
theorem ac{i j pos}:PE X (.Constant (.int i) j pos) (tC (.int i)):=λ_ _ _ H _ I h=>wpAny_Constant_int ⟨.int i,H,I.tok _,⟨_,U⟩,h⟩
theorem dB{b j pos}:PE X (.Constant (.bool b) j pos) (tC (.bl b)):=λ_ _ _ H _ I h=>Constant_bool ⟨.bl b,H,I,U,h⟩
theorem bT{j pos}:PE X (.Constant .none j pos) (tC .non):=λ_ _ _ H _ I h=>Constant_none ⟨.non,H,I,U,h⟩
theorem aO{x j pos}:PE X (.Constant (.str x) j pos) (tC (.str x)):=λ_ _ _ H _ I h=>Calls.Constant_str ⟨.str x,H,I.tok _,⟨_,U⟩,h⟩
def Gl(X:Cx)(x:Str):Prop:=X.env.kindOf x=some .globalImplicit
theorem rD{E:Yq}{pins:List (Addr×Obj)}{s:Shared}{Y:St}{H:Hp}{x:Str}{u:Value}{pos:Pos}{Q:Yq}(I:Inv X pins Y H s)(hg:Gl X x)(hm:X.mg x=some u)(h:Q u s)
 (hd:(x == ("__debug__":Str))=false:=by decide):wpAny (model X.prog X.w) X.A (eval (.Name x pos) X.env) Q E s:=
 Calls.Name_function_global I.ok.kind hg (Calls.loadGlobal_global (by rw[I.ok.glob];exact I.mod.glob.keeps I.bk) hm h) hd
theorem gU{E:Yq}{pins:List (Addr×Obj)}{s:Shared}{Y:St}{H:Hp}{x:Str}{u:Value}{pos:Pos}{Q:Yq}(I:Inv X pins Y H s)(hg:Gl X x)(hm:X.mg x=none)(hv:bootBuiltins x=some u)(h:Q u s)
 (hn:x≠"__name__":=by decide) (hd:(x == ("__debug__":Str))=false:=by decide):wpAny (model X.prog X.w) X.A (eval (.Name x pos) X.env) Q E s:=by
 obtain⟨mb,h1,h2⟩:=I.mod.blt;exact Calls.Name_function_global I.ok.kind hg (Calls.loadGlobal_builtin (by rw[I.ok.glob];exact I.mod.glob.keeps I.bk) hm (by rw[I.ok.blt];exact h1.keeps I.bk) ((h2 x hn).trans hv) h) hd
theorem gh{x:Str}{v:V}{u:Value}{pos:Pos}(hg:Gl X x)(hm:X.mg x=some u)(r:aB v u)(hd:(x == ("__debug__":Str))=false:=by decide):PE X (.Name x pos) (tC v):=
 λ_ _ _ H _ I h=>rD I hg hm ⟨v,H,I,r,h⟩ hd
theorem fN{x:Str}{v:V}{u:Value}{pos:Pos}(hg:Gl X x)(hm:X.mg x=none)(hv:bootBuiltins x=some u)(r:aB v u)(hn:x≠"__name__":=by decide)(hd:(x == ("__debug__":Str))=false:=by decide):PE X (.Name x pos) (tC v):=
 λ_ _ _ H _ I h=>gU I hg hm hv ⟨v,H,I,r,h⟩ hn hd
variable {a b:Expr}{ta tb:TE}{pos:Pos}
def PC(X:Cx)(op:CmpOp)(a b:Expr)(t:TE):Prop:=
 ∀(pins:List (Addr×Obj))(s:Shared)(Y:St)(H:Hp)(Q:VK),Inv X pins Y H s->t Y H Q->
  wpAny (model X.prog X.w) X.A (eval a X.env) (λv s₁=>wpAny (model X.prog X.w) X.A (eval b X.env) (λu s₂=>wpAny (model X.prog X.w) X.A (compareOp op v u) (EP X pins Y Q) X.xe s₂) X.xe s₁) X.xe s
def tB(t:TE):TT:=λY H Q=>t Y H λx H1=>∃c,x=.bl c/\Q c H1
theorem FI{op:CmpOp}{t:TE}(h:PC X op a b t)(h1:behindInMarks op b=false:=by first|exact nobehind _ Yk Yk|rfl):PT X (.Compare a [op] [b] pos) (tB t):=by
 intro pins s Y H Q I hw;refine wpAny_isTrue_Compare1 (thn (h pins s Y H _ I hw) λv s1 h1=>thn h1 λu s2 h2=>thn h2 λc s3 ⟨x,H1,I1,r1,q1⟩=>?_) h1;obtain⟨d,rfl,q⟩:=q1;cases r1;exact wpAny_truthy_bool ⟨H1,I1,q⟩
theorem Br{e:Expr}{t:TE}(h:PE X e t)(he:∀whole,isTrue e X.env whole=(do let v <- whole;standAt e.pos;holding [v] (truthy v)):=by intro _;rfl):PT X e (tB t):=by
 intro pins s Y H Q I hw;refine isTrue_plain (thn (h pins s Y H _ I hw) λv s1 ⟨x,H1,I1,r1,q1⟩=>?_) (he _);obtain⟨d,rfl,q⟩:=q1;cases r1;exact wpAny_truthy_bool ⟨H1,I1,q⟩
variable {tA tB':TT}{rest:List Expr}
def zw(t u:TT):TT:=λY H Q=>t Y H λc H1=>if c=true then u Y H1 Q else Q false H1
def tOr(t u:TT):TT:=λY H Q=>t Y H λc H1=>if c=true then Q true H1 else u Y H1 Q
def yX(t:TT):TT:=λY H Q=>t Y H λc H1=>Q (!c) H1
theorem i7(ha:PT X a tA):PW X (.BoolOp .And [a] pos) tA:=by
 intro wh pins s Y H Q I h;refine isTrue_and (thn (ha pins s Y H Q I h) λc s1 e=>?_)
 cases c with
 |true=>exact isTrue_and_nil e
 |false=>exact e
theorem fJ(ha:PT X a tA):PW X (.BoolOp .Or [a] pos) tA:=by
 intro wh pins s Y H Q I h;refine isTrue_or (thn (ha pins s Y H Q I h) λc s1 e=>?_)
 cases c with
 |false=>exact isTrue_or_nil e
 |true=>exact e
theorem gc(ha:PT X a tA)(hb:PW X (.BoolOp .And (b::rest) pos) tB'):PW X (.BoolOp .And (a::b::rest) pos) (zw tA tB'):=by
 intro wh pins s Y H Q I h;refine isTrue_and (thn (ha pins s Y H _ I h) λc s1 ⟨H1,I1,q1⟩=>?_)
 cases c with
 |true=>exact hb wh pins s1 Y H1 Q I1 q1
 |false=>exact⟨H1,I1,q1⟩
theorem d6(ha:PT X a tA)(hb:PW X (.BoolOp .Or (b::rest) pos) tB'):PW X (.BoolOp .Or (a::b::rest) pos) (tOr tA tB'):=by
 intro wh pins s Y H Q I h;refine isTrue_or (thn (ha pins s Y H _ I h) λc s1 ⟨H1,I1,q1⟩=>?_)
 cases c with
 |true=>exact⟨H1,I1,q1⟩
 |false=>exact hb wh pins s1 Y H1 Q I1 q1
theorem eJ(ha:PT X a tA):PT X (.UnaryOp .Not a pos) (yX tA):=by
 intro pins s Y H Q I h;exact isTrue_not (ha pins s Y H (λc H1=>Q (!c) H1) I h)
def zu(ta tb:TE):TE:=λY H Q=>ta Y H λx H1=>∃c,x=.bl c/\if c=true then tb Y H1 Q else Q (.bl false) H1
def yW(ta:TE):TE:=λY H Q=>ta Y H λx H1=>∃c,x=.bl c/\Q (.bl (!c)) H1
theorem j0{op}{t:TE}(h:PE X a t):PE X (.BoolOp op [a] pos) t:=λpins s Y H Q I hw=>BoolOp_one (h pins s Y H Q I hw)
theorem gN(ha:PE X a ta)(hb:PE X (.BoolOp .And (b::rest) pos) tb):PE X (.BoolOp .And (a::b::rest) pos) (zu ta tb):=by
 intro pins s Y H Q I h;refine BoolOp_and (thn (ha pins s Y H _ I h) λv s1 ⟨x,H1,I1,r1,q1⟩=>?_);obtain⟨c,rfl,q1⟩:=q1;cases r1;refine wpAny_truthy_bool ?_
 cases c with
 |true=>exact hb pins s1 Y H1 Q I1 q1
 |false=>exact⟨.bl false,H1,I1,U,q1⟩
theorem BJ(ha:PE X a ta):PE X (.UnaryOp .Not a pos) (yW ta):=by
 intro pins s Y H Q I h;refine UnaryOp_ (thn (ha pins s Y H _ I h) λv s1 ⟨x,H1,I1,r1,q1⟩=>?_);obtain⟨c,rfl,q1⟩:=q1;cases r1;exact not_of (wpAny_truthy_bool ⟨.bl (!c),H1,I1,U,q1⟩)
def tIf(t:TT)(ta tb:TE):TE:=λY H Q=>t Y H λc H1=>if c=true then ta Y H1 Q else tb Y H1 Q
theorem gM{c:Expr}(hc:PT X c tA)(ha:PE X a ta)(hb:PE X b tb):PE X (.IfExp c a b pos) (tIf tA ta tb):=by
 intro pins s Y H Q I h;refine wpAny_IfExp (thn (hc pins s Y H _ I h) λd s1 ⟨H1,I1,q1⟩=>?_)
 cases d with
 |true=>exact ha pins s1 Y H1 Q I1 q1
 |false=>exact hb pins s1 Y H1 Q I1 q1
end
def SqL(K:W.Frag)(H:Hp)(a:Addr)(xs:List V):Prop:=
 Rd H a (.lst xs) \/
  ∃(o:Obj)(its:Array Value)(n:Nat),K.lookup a=some o/\o.cls=.type "list"/\o.dict=none/\o.data=.seq its n/\its.size<=sizeLine/\az xs its.toList
def SqT(K:W.Frag)(H:Hp)(a:Addr)(xs:List V):Prop:=
 Rd H a (.tup xs) \/
  ∃(o:Obj)(its:Array Value)(n:Nat),K.lookup a=some o/\o.cls=.type "tuple"/\o.data=.seq its n/\its.size<=sizeLine/\az xs its.toList
noncomputable def Fw:Value->Option V
 |.none=>some .non
 |.bool b=>some (.bl b)
 |.int i _=>some (.int i)
 |.str x _=>some (.str x)
 |.bytes b _=>some (.byt b)
 |.float b _=>some (.flt b)
 |.ref a=>some (.ref a)
 |.type n=>some (.ty n)
 |_=>none
theorem aB.abs{x:V}{u:Value}(r:aB x u):Fw u=some x:=by
 cases x with
 |non=>cases r;rfl
 |bl _=>cases r;rfl
 |int _=>obtain⟨t,rfl⟩:=r;rfl
 |str _=>obtain⟨t,rfl⟩:=r;rfl
 |byt _=>obtain⟨t,rfl⟩:=r;rfl
 |flt _=>obtain⟨t,rfl⟩:=r;rfl
 |ref _=>cases r;rfl
 |ty _=>cases r;rfl
theorem aB.inj{x y:V}{u:Value}(r:aB x u)(q:aB y u):x=y:=qP (r.abs.symm.trans q.abs)
theorem az.inj:∀{xs ys:List V}{us:List Value},az xs us->az ys us->xs=ys
 |_,_,_,.nil,.nil=>rfl
 |_,_,_,.cons r t,.cons r' t'=>by rw[r.inj r',az.inj t t']
section
variable {X:Cx}{pins:List (Addr×Obj)}{Y:St}{H:Hp}{s:Shared}{a:Addr}{xs ys:List V}
theorem SqL.of{K:W.Frag}(h:H a=some (.lst xs)):SqL K H a xs:=.inl (.inl h)
theorem SqT.of{K:W.Frag}(h:H a=some (.tup xs)):SqT K H a xs:=.inl (.inl h)
theorem Inv.list(I:Inv X pins Y H s)(h:SqL X.K H a xs):∃its:List Value,az xs its/\PlainL s.heap a its.toArray/\xs.length<=sizeLine:=by
 rcases h with h|⟨o,its,n,hk,hc,hd,hs,hz,r⟩
 .obtain⟨z,its,n,r,e⟩:=h.ok I.hok;exact⟨its,r,⟨_,n,e,U,U,U⟩,z⟩
 .refine⟨its.toList,r,⟨o,n,I.kIn a o hk,hc,hd,by simpa using hs⟩,?_⟩;have e:=r.length;simp only[qS]at e;omega
theorem Inv.tuple(I:Inv X pins Y H s)(h:SqT X.K H a xs):∃its:List Value,az xs its/\IsTup s.heap a its.toArray/\xs.length<=sizeLine:=by
 rcases h with h|⟨o,its,n,hk,hc,hs,hz,r⟩
 .obtain⟨z,its,r,p⟩:=h.ok I.hok;exact⟨its,r,p,z⟩
 .refine⟨its.toList,r,⟨o,I.kIn a o hk,hc,n,by simpa using hs⟩,?_⟩;have e:=r.length;simp only[qS]at e;omega
theorem Inv.list_inj(I:Inv X pins Y H s)(h:SqL X.K H a xs)(h':SqL X.K H a ys):xs=ys:=by
 obtain⟨its,r,⟨o,n,e,_,_,d⟩,_⟩:=I.list h;obtain⟨its',r',⟨o',n',e',_,_,d'⟩,_⟩:=I.list h';rw[e]at e';cases e';rw[d]at d';injection d' with d1 _;have:its=its':=by simpa using congrArg Array.toList d1
 subst this;exact r.inj r'
theorem Inv.tuple_inj(I:Inv X pins Y H s)(h:SqT X.K H a xs)(h':SqT X.K H a ys):xs=ys:=by
 obtain⟨its,r,⟨o,e,_,n,d⟩,_⟩:=I.tuple h;obtain⟨its',r',⟨o',e',_,n',d'⟩,_⟩:=I.tuple h';rw[e]at e';cases e';rw[d]at d';injection d' with d1 _;have:its=its':=by simpa using congrArg Array.toList d1
 subst this;exact r.inj r'
end
noncomputable abbrev Cx.wish(X:Cx)(E:Yq):Cx:={ X with xe:=E }
noncomputable abbrev Cx.nox(X:Cx):Cx:=X.wish λ_ _=>False
theorem Cx.Ok.wish{X:Cx}(ok:X.Ok)(E:Yq):(X.wish E).Ok:=
 ⟨ok.mod,ok.kind,ok.glob,ok.blt,ok.above,ok.inj,ok.has,ok.cab,ok.hd,ok.frames,ok.stk,ok.exf,ok.bs,ok.bsz,ok.noex,ok.exfs,ok.funs,ok.frf⟩
theorem Cx.Ok.unwish{X:Cx}{E:Yq}(ok:(X.wish E).Ok):X.Ok:=
 ⟨ok.mod,ok.kind,ok.glob,ok.blt,ok.above,ok.inj,ok.has,ok.cab,ok.hd,ok.frames,ok.stk,ok.exf,ok.bs,ok.bsz,ok.noex,ok.exfs,ok.funs,ok.frf⟩
section
variable {X:Cx}{pins:List (Addr×Obj)}{Y:St}{H:Hp}{s:Shared}{E:Yq}
theorem Inv.wish(I:Inv X pins Y H s)(E:Yq):Inv (X.wish E) pins Y H s:=⟨I.ok.wish E,I.os,I.bare,I.base,I.loc,I.cell,I.free,I.freeC,I.pin,I.hok,I.len⟩
theorem Inv.unwish(I:Inv (X.wish E) pins Y H s):Inv X pins Y H s:=⟨I.ok.unwish,I.os,I.bare,I.base,I.loc,I.cell,I.free,I.freeC,I.pin,I.hok,I.len⟩
theorem SP.unwish{D:fA}{f:Flow}{s':Shared}(h:SP (X.wish E) pins D f s'):SP X pins D f s':=by
 cases f with
 |next=>obtain⟨Y',H',I,q⟩:=h;exact⟨Y',H',I.unwish,q⟩
 |brk=>obtain⟨Y',H',I,q⟩:=h;exact⟨Y',H',I.unwish,q⟩
 |cont=>obtain⟨Y',H',I,q⟩:=h;exact⟨Y',H',I.unwish,q⟩
 |ret u=>obtain⟨v,Y',H',I,r,q⟩:=h;exact⟨v,Y',H',I.unwish,r,q⟩
theorem PSs.nox{st:List Stmt}{t:TS}(h:PSs X.nox st t):PSs X st t:=λpins s Y H D I hw=>
 wpAny_mono (h pins s Y H D (I.wish _) hw) (λ_ _ q=>q.unwish) λ_ _ z=>False.elim z
end
section
variable {X:Cx}{st:Stmt}{rest:List Stmt}{t u:TS}{e:Expr}{te:TE}{pos:Pos}
def kz:TS:=λD Y H=>D.nx Y H
def tw(t u:TS):TS:=λD Y H=>t { D with nx:=u D } Y H
theorem aR:PSs X [] kz:=λ_ _ Y H _ I h=>wpAny_execs_nil ⟨Y,H,I,h⟩
theorem ah(h1:PS X st t)(h2:PSs X rest u):PSs X (st::rest) (tw t u):=by
 intro pins s Y H D I h;refine wpAny_execs_cons (thn (h1 pins s Y H { D with nx:=u D } I h) λf s1 q=>?_)
 cases f with
 |next=>
  obtain⟨Y',H',I',q⟩:=q;exact h2 pins s1 Y' H' D I' q
 |ret v=>exact q
 |brk=>exact q
 |cont=>exact q
theorem ak(h1:PS X st t):PSs X [st] t:=by
 intro pins s Y H D I h;refine wpAny_execs_cons (thn (h1 pins s Y H D I h) λf s1 q=>?_)
 cases f with
 |next=>exact wpAny_execs_nil q
 |ret v=>exact q
 |brk=>exact q
 |cont=>exact q
theorem Inv.quiet{pins:List (Addr×Obj)}{Y:St}{H:Hp}{s:Shared}(I:Inv X pins Y H s):interactive X.env=false:=by simp[interactive,I.ok.kind]
def zf(te:TE):TS:=λD Y H=>te Y H λ_ H1=>D.nx Y H1
theorem bw(he:PE X e te)(hs:swapsWith e none pos.line X.env=pure false:=by rfl):PS X (.Expr e pos) (zf te):=by
 intro pins s Y H D I h;exact wpAny_Expr_any (thn (he pins s Y H _ I h) λv s1 ⟨x,H1,I1,r1,q1⟩=>⟨Y,H1,I1,q1⟩) I.quiet hs
def yU(te:TE):TS:=λD Y H=>te Y H D.rt
theorem aA(he:PE X e te):PS X (.Return (some e) pos) (yU te):=by
 intro pins s Y H D I h;exact wpAny_Return_some (thn (he pins s Y H _ I h) λv s1 ⟨x,H1,I1,r1,q1⟩=>⟨x,Y,H1,I1,r1,q1⟩)
def zc(c:TT)(t u:TS):TS:=λD Y H=>c Y H λb H1=>if b=true then t D Y H1 else u D Y H1
theorem aM{c:Expr}{a b:List Stmt}{tc:TT}(hc:PT X c tc)(ha:PSs X a t)(hb:PSs X b u):PS X (.If c a b pos) (zc tc t u):=by
 intro pins s Y H D I h;refine wpAny_If (thn (hc pins s Y H _ I h) λd s1 ⟨H1,I1,q1⟩=>?_)
 cases d with
 |true=>exact ha pins s1 Y H1 D I1 q1
 |false=>exact hb pins s1 Y H1 D I1 q1
def yZ:TS:=λ_ _ _=>False
theorem vJ:PS X st yZ:=λ_ _ _ _ _ _ h=>h.elim
end
abbrev TG:=V->St->Hp->(St->Hp->Prop)->Prop
abbrev TGs:=List V->St->Hp->(St->Hp->Prop)->Prop
def PG(X:Cx)(target:Expr)(t:TG):Prop:=
 ∀(pins:List (Addr×Obj))(s:Shared)(Y:St)(H:Hp)(v:V)(u:Value)(Q:St->Hp->Prop),Inv X pins Y H s->aB v u->t v Y H Q->
  wpAny (model X.prog X.w) X.A (assign target X.env u) (λ_ s'=>∃Y' H',Inv X pins Y' H' s'/\Q Y' H') X.xe s
def PGs(X:Cx)(ts:List Expr)(t:TGs):Prop:=
 ∀(pins:List (Addr×Obj))(s:Shared)(Y:St)(H:Hp)(vs:List V)(us:List Value)(Q:St->Hp->Prop),Inv X pins Y H s->az vs us->t vs Y H Q->
  wpAny (model X.prog X.w) X.A (assignInOrder ((assignEach ts X.env).map (·.2)) us) (λ_ s'=>∃Y' H',Inv X pins Y' H' s'/\Q Y' H') X.xe s
abbrev sN:=V->V->V->Hp->(Hp->Prop)->Prop
def yk(X:Cx)(t:sN):Prop:=
 ∀(pins:List (Addr×Obj))(s:Shared)(Y:St)(H:Hp)(o i v:V)(ov iv u:Value)(Q:Hp->Prop),Inv X pins Y H s->aB o ov->aB i iv->aB v u->t o i v H Q->
  wpAny (model X.prog X.w) X.A (setItem ov iv u) (λ_ s'=>∃H',Inv X pins Y H' s'/\Q H') X.xe s
abbrev TIp:=V->V->Hp->VK->Prop
def PIp(X:Cx)(op:Operator)(t:TIp):Prop:=
 ∀(pins:List (Addr×Obj))(s:Shared)(Y:St)(H:Hp)(x y:V)(v u:Value)(Q:VK),Inv X pins Y H s->aB x v->aB y u->t x y H Q->
  wpAny (model X.prog X.w) X.A (inplaceOp op v u) (EP X pins Y Q) X.xe s
section
variable {X:Cx}{pos:Pos}
def dC(i:Nat):TG:=λv Y H Q=>Q (Y.set i (some v)) H
theorem aK{i:Nat}{x:Str}(hN:X.N.Nodup)(hi:X.N[i]?=some x)(hx:Loc X.env.scope x)(hf:X.fn x=true\/X.env.scope.names.lookup x=some .local:=by first|exact .inl U|exact .inr U|assumption):PG X (.Name x pos) (dC i):=by
 intro pins s Y H v u Q I r h;exact wpAny_assign_Name (mN I hN hi hx r (λs' I'=>⟨_,H,I',h⟩) hf)
def Ec:TGs:=λvs Y H Q=>vs=[]/\Q Y H
def Ed(t:TG)(u:TGs):TGs:=λvs Y H Q=>∃v r,vs=v::r/\t v Y H λY' H'=>u r Y' H' Q
theorem dy:PGs X [] Ec:=by
 intro pins s Y H vs us Q I r h;obtain⟨e,h⟩:=h;subst e;cases r;exact assignInOrder_nil ⟨Y,H,I,h⟩
theorem bC{e:Expr}{es:List Expr}{t:TG}{u:TGs}(h1:PG X e t)(h2:PGs X es u)
 (hs:(assignEach (e::es) X.env).map (·.2)=assign e X.env::(assignEach es X.env).map (·.2):=by rfl):PGs X (e::es) (Ed t u):=by
 intro pins s Y H vs us Q I r h;obtain⟨v,vr,e1,h⟩:=h;subst e1
 cases r with
 |cons r rr=>
  rw[hs];refine assignInOrder_cons (thn (h1 pins s Y H _ _ _ I r h) λ_ s1 ⟨Y1,H1,I1,q1⟩=>?_);exact h2 pins s1 Y1 H1 _ _ Q I1 rr q1
def xh(K:W.Frag)(n:Nat)(t:TGs):TG:=λv Y H Q=>∃a xs,v=.ref a/\SqT K H a xs/\xs.length=n/\t xs Y H Q
theorem dA{es:List Expr}{k:Nat}{t:TGs}{n:Nat}(hc:X.calm=true)(h:PGs X es t)
 (hn:(assignEach es X.env).length=n:=by rfl) (hst:(assignEach es X.env).findIdx? (·.1)=none:=by rfl):PG X (.Tuple es k pos) (xh X.K n t):=by
 intro pins s Y H v u Q I r hw;obtain⟨a,xs,e1,hq,hl,hw⟩:=hw;subst e1;cases r;obtain⟨its,rv,ht,hz⟩:=I.tuple hq;refine assign_Tuple_tuple (I.ok.hd hc) ht (by simp[hn,<- hl,rv.length]) hst λh' hx=>?_;have I1:Inv X pins Y H { s with heap:=h' }:=I.kept (t':=s.toks) λb o e=>hx b o (qM (qv e)) e;exact h pins _ Y H xs _ Q I1 (by simpa using rv) hw
def Eb(to ti:TE)(t:sN):TG:=λv Y H Q=>to Y H λo H1=>ti Y H1 λi H2=>t o i v H2 λH3=>Q Y H3
theorem l9{o i:Expr}{to ti:TE}{t:sN}(ho:PE X o to)(hi:PE X i ti)(hs:yk X t)
 (ha:∀v,assign (.Subscript o i pos) X.env v=(do
  let ov <- holding [v] (eval o X.env)
  let iv <- holding [v,ov] (eval i X.env)
  standAt pos
  holding [v,ov,iv] (setItem ov iv v)
  release [v,ov,iv] []):=by intro _;rfl):PG X (.Subscript o i pos) (Eb to ti t):=by
 intro pins s Y H v u Q I r h;rw[ha];refine q9 (QB (thn (ho pins s Y H _ I h) λov s1 ⟨x,H1,I1,r1,q1⟩=>?_));refine q9 (QB (thn (hi pins s1 Y H1 _ I1 q1) λiv s2 ⟨y,H2,I2,r2,q2⟩=>?_));refine q9 (wpAny_standAt (q9 (QB (thn (hs pins s2 Y H2 x y v ov iv u _ I2 r1 r2 r q2) λ_ s3 ⟨H3,I3,q3⟩=>?_))));exact wpAny_release ⟨Y,H3,I3,q3⟩
def mG(te:TE)(g:TG):TS:=λD Y H=>te Y H λx H1=>g x Y H1 D.nx
theorem gK{tg e:Expr}{te:TE}{g:TG}(he:PE X e te)(hg:PG X tg g)(hs:swapsWithSole [tg] e pos.line X.env=pure false:=by rfl)(hw:swappedStores [tg] e X.env=pure none:=by rfl)
 (h1:(assignEach [tg] X.env).map (·.2)=[assign tg X.env]:=by rfl):PS X (.Assign [tg] e pos) (mG te g):=by
 intro pins s Y H D I h;refine wpAny_Assign_stores (thn (he pins s Y H _ I h) λv s1 ⟨x,H1,I1,r1,q1⟩=>?_) hs hw;rw[h1];exact thn (hg pins s1 Y H1 x v _ I1 r1 q1) λ_ s2 q=>q
theorem aq{i:Nat}{x:Str}{e:Expr}{te:TE}{pos':Pos}(hN:X.N.Nodup)(hi:X.N[i]?=some x)(hx:Loc X.env.scope x)(he:PE X e te)(hs:swapsWith e (some (.Name x pos')) pos.line X.env=pure false:=by rfl)(hf:X.fn x=true\/X.env.scope.names.lookup x=some .local:=by first|exact .inl U|exact .inr U|assumption):
 PS X (.Assign [.Name x pos'] e pos) (mG te (dC i)):=by
 intro pins s Y H D I h;refine wpAny_Assign_Name (thn (he pins s Y H _ I h) λv s1 ⟨y,H1,I1,r1,q1⟩=>?_) hs;exact mN I1 hN hi hx r1 (λs2 I2=>⟨_,H1,I2,q1⟩) hf
def zt(i:Nat)(te:TE)(ti:TIp):TS:=λD Y H=>∃x,Y[i]?=some (some x)/\te Y H λy H1=>ti x y H1 λz H2=>D.nx (Y.set i (some z)) H2
theorem Bu{i:Nat}{x:Str}{e:Expr}{te:TE}{op:Operator}{ti:TIp}{pos':Pos}(hN:X.N.Nodup)(hi:X.N[i]?=some x)(hx:Loc X.env.scope x)(he:PE X e te)(ho:PIp X op ti)(hf:X.fn x=true\/X.env.scope.names.lookup x=some .local:=by first|exact .inl U|exact .inr U|assumption):
 PS X (.AugAssign (.Name x pos') op e pos) (zt i te ti):=by
 intro pins s Y H D I h;obtain⟨v,e1,h⟩:=h;obtain⟨m,hn,hl⟩:=I.loc;have vis:Vis X.env.scope x:=by rcases hx with k|k;exact .inl k;exact .inr (.inl k)
 obtain⟨u,r,l⟩:=hl i x v hi e1 vis;refine wpAny_AugAssign_Name ?_
 have go:wpAny (model X.prog X.w) X.A (eval e X.env) (λw s₂=>wpAny (model X.prog X.w) X.A (inplaceOp op u w) (λr s₃=>wpAny (model X.prog X.w) X.A (storeName X.env x r) (λ_=>SP X pins D .next) X.xe s₃) X.xe s₂) X.xe s:=by
  refine thn (he pins s Y H _ I h) λw s1 ⟨y,H1,I1,r1,q1⟩=>?_;refine thn (ho pins s1 Y H1 v y u w _ I1 r r1 q1) λz s2 ⟨zv,H2,I2,r2,q2⟩=>?_;exact mN I2 hN hi hx r2 (λs3 I3=>⟨_,H2,I3,q2⟩) hf
 rcases l with⟨hk,hm⟩|⟨hk,c,hc,hcell⟩
 .exact wpAny_loadName_local I.ok.kind hk hn hm go
 .rcases hk with hk|hk
  .exact wpAny_loadName_cell I.ok.kind hk hc hcell go
  .rcases hx with k|k
   .have:X.env.scope.names.lookup x=some .free:=hk;rw[k]at this;cases this
   .have:X.env.scope.names.lookup x=some .free:=hk;rw[k]at this;cases this
def ipI(f:Int->Int->Int):TIp:=λx y H Q=>∃i j,x=.int i/\y=.int j/\Q (.int (f i j)) H
theorem DV:PIp X .Add (ipI λi j=>i+j):=by
 intro pins s Y H x y v u Q I r1 r2 h;obtain⟨i,j,e1,e2,q⟩:=h;subst e1;subst e2;obtain⟨t,rfl⟩:=r1;obtain⟨t',rfl⟩:=r2;exact iadd_int ⟨.int _,H,I.tok _,⟨_,U⟩,q⟩
end
section
variable {X:Cx}{pos:Pos}
def yS(c:TT)(tb:TS):TS:=λD Y H=>∃W:Nat->St->Hp->Prop,(∃m,W m Y H)/\∀m Y H,W m Y H->
 c Y H λb H1=>if b=true then ∃N:St->Hp->Prop,(∀Y' H',N Y' H'->∃m',m'<m/\W m' Y' H')/\tb { D with nx:=N,ct:=N,bk:=D.nx } Y H1 else D.nx Y H1
theorem pk{c:Expr}{body:List Stmt}{tc:TT}{tb:TS}(hp:PassesOwn (model X.prog X.w) X.A X.env X.xe)(hc:PT X c tc)(hb:PSs X body tb):PS X (.While c body [] pos) (yS tc tb):=by
 intro pins s Y H D I h;obtain⟨W,⟨m0,w0⟩,turn⟩:=h;refine wpAny_While (codeAny_whileLoop (λn s'=>∃Y' H',Inv X pins Y' H' s'/\W n Y' H') ?_ m0 ⟨Y,H,I,w0⟩);rintro n s1 ⟨Y1,H1,I1,w1⟩;refine wpAny_passesOwn hp (thn (hc pins s1 Y1 H1 _ I1 (turn n Y1 H1 w1)) λb s2 ⟨H2,I2,q2⟩=>?_)
 cases b with
 |true=>
  obtain⟨N,hN,q2⟩:=q2;rw[Q8 U];refine wpAny_passesOwn hp (thn (hb pins s2 Y1 H2 _ I2 q2) λf s3 q3=>?_)
  cases f with
  |next=>
   obtain⟨Y3,H3,I3,n3⟩:=q3;obtain⟨m',hm,w3⟩:=hN Y3 H3 n3;exact⟨m',hm,Y3,H3,I3,w3⟩
  |cont=>
   obtain⟨Y3,H3,I3,n3⟩:=q3;obtain⟨m',hm,w3⟩:=hN Y3 H3 n3;exact⟨m',hm,Y3,H3,I3,w3⟩
  |brk=>exact q3
  |ret v=>exact q3
 |false=>
  rw[Q7 qo];exact wpAny_execs_nil ⟨Y1,H2,I2,q2⟩
end
structure It where
 go:Nat->Hp->Prop
 yld:Nat->Hp->V->Hp->Prop
 stop:Nat->Hp->Prop
def dk(X:Cx)(pins:List (Addr×Obj))(H:Hp)(b:Addr):Prop:=
 H b=none/\b≠X.env.locals/\b∉X.fs/\(b∈X.ex\/X.s₀.heap.objs.size<=b)/\(∀x c,X.env.cells.lookup x=some c->c≠b)/\∀p∈X.pn++pins,p.1≠b
theorem Inv.fpOk{X:Cx}{pins:List (Addr×Obj)}{Y:St}{H H':Hp}{s:Shared}{b:Addr}(I:Inv X pins Y H s)(hb:s.heap.objs.size<=b)(hn:H' b=none):dk X pins H' b:=by
 refine⟨hn,Nat.ne_of_gt (qJ I.lt hb),I.nofs hb,.inr (qF I.sz hb),λx c e z=>?_,λp hp z=>?_⟩
 .obtain⟨v,q⟩:=I.cell x c e;exact Qb (qJ q.lt (by rw[z];exact hb)) (Qi _)
 .exact Qb (qJ (qv (I.pin p hp).1) (by rw[z];exact hb)) (Qi _)
structure iG(P:Program)(w:World)(K:W.Frag)(tg:Expr)(J:It)(fp:List Addr)(it:Addr)(tn:Nat->Heap->Prop):Prop where
 mem:it∈fp
 obj:∀i h,tn i h->∀b∈fp,∃o,h.get? b=some o/\∀v,o.data≠.cell v
 keep:∀i h h',tn i h->(∀b∈fp,∀o,h.get? b=some o->h'.get? b=some o)->tn i h'
 item:∀(X:Cx),X.prog=P->X.w=w->X.K=K->X.calm=true->∀(i:Nat)(pins:List (Addr×Obj))(s:Shared)(Y:St)(H:Hp)(E:Yq),Inv X pins Y H s->(∀b∈fp,dk X pins H b)->tn i s.heap->J.go i H->
  wpAny (model P w) X.A (pyNext (.ref it)) (λr s1=>∃u,r=some u /\
   wpAny (model P w) X.A (letOwnedTupleGo tg (.ref it) u) (λ_ s2=>∃x H',Inv X pins Y H' s2/\aB x u/\J.yld i H x H'/\tn (i+1) s2.heap/\∀b∈fp,H' b=none) E s1) E s
 done:∀(X:Cx),X.prog=P->X.w=w->X.K=K->X.calm=true->∀(i:Nat)(pins:List (Addr×Obj))(s:Shared)(Y:St)(H:Hp)(E:Yq),Inv X pins Y H s->(∀b∈fp,dk X pins H b)->tn i s.heap->J.stop i H->
  wpAny (model P w) X.A (pyNext (.ref it)) (λr s1=>r=none/\Inv X pins Y H s1) E s
 self:∀(A:Around)(i:Nat)(s:Shared)(Q:Yq)(E:Yq),tn i s.heap->Q (.ref it) s->wpAny (model P w) A (pyIter (.ref it)) Q E s
abbrev TI:=St->Hp->(It->Hp->Prop)->Prop
def PIE(X:Cx)(pins:List (Addr×Obj))(Y:St)(tg:Expr)(R:It->Hp->Prop)(itv:Value)(s2:Shared):Prop:=
 ∃(it:Addr)(fp:List Addr)(tn:Nat->Heap->Prop)(J:It)(H':Hp),itv=.ref it/\Inv X pins Y H' s2/\iG X.prog X.w X.K tg J fp it tn/\tn 0 s2.heap/\(∀b∈fp,dk X pins H' b)/\R J H'
def PI(X:Cx)(tg iter:Expr)(wi:TI):Prop:=
 ∀(pins:List (Addr×Obj))(s:Shared)(Y:St)(H:Hp)(R:It->Hp->Prop),Inv X pins Y H s->wi Y H R->
  wpAny (model X.prog X.w) X.A (eval iter X.env) (λv s1=>wpAny (model X.prog X.w) X.A (pyIter v) (PIE X pins Y tg R) X.xe s1) X.xe s
theorem rO{M:Model}{A:Around}{E:Yq}{s:Shared}{tg:Expr}{it:Addr}{u:Value}{o:Obj}{n:String}{vs:Array Value}{Q:Unit->Shared->Prop}(ho:s.heap.get? it=some o)(hc:o.cls=.type n)(hd:o.data=.fields vs)
 (hn:["enumerate","zip","dict_itemiterator","dict_reverseitemiterator","odict_iterator","itertools.zip_longest","itertools.pairwise"].contains n=false) (hQ:Q () s):wpAny M A (letOwnedTupleGo tg (.ref it) u) Q E s:=by
 unfold letOwnedTupleGo
 cases tg<;>first
  |exact qf hQ
  |(cases u<;>first
   |exact qf hQ
   |(refine q9 (wpAny_load ho ?_)
     rw[hc,hd];show wpAny M A (if(["enumerate","zip","dict_itemiterator","dict_reverseitemiterator","odict_iterator","itertools.zip_longest","itertools.pairwise"].contains n && vs[0]? == some (rawInt _))=true then _ else _) Q E s;rw[Q7 (by intro h;rw[hn,Bool.false_and]at h;cases h)]
     exact qf hQ))
noncomputable def Itl(K:W.Frag)(a:Addr):It:=
 ⟨λi H=>∃xs x,SqL K H a xs/\xs[i]?=some x,λi H x H'=>H'=H/\∀xs,SqL K H a xs->xs[i]?=some x,λi H=>∃xs,SqL K H a xs/\xs.length<=i⟩
noncomputable def Itt(K:W.Frag)(a:Addr):It:=
 ⟨λi H=>∃xs x,SqT K H a xs/\xs[i]?=some x,λi H x H'=>H'=H/\∀xs,SqT K H a xs->xs[i]?=some x,λi H=>∃xs,SqT K H a xs/\xs.length<=i⟩
noncomputable def Itr(lo:Int)(n:Nat):It:=⟨λi _=>i<n,λi H x H'=>H'=H/\x=.int (lo+i),λi _=>n<=i⟩
theorem yM{P:Program}{w:World}{K:W.Frag}{tg:Expr}(a it:Addr):iG P w K tg (Itl K a) [it] it (λi h=>h.IsListIter it a i) where
 mem:=by simp
 obj:=λi h st b hb=>by
  have e:b=it:=by simpa using hb
  subst e;obtain⟨o,e,c,d⟩:=st;exact⟨o,e,λv z=>by rw[d]at z;cases z⟩
 keep:=λi h h' st k=>st.at λo e=>k it (by simp) o e
 item:=by
  intro X hP hw hK hc i pins s Y H E I hf st hg;subst hP hw hK;obtain⟨xs,x,hq,hx⟩:=hg;obtain⟨its,rv,p,hz⟩:=I.list hq;obtain⟨u,hu,ru⟩:=rv.get hx;obtain⟨f0,f1,f2,f3,f4,f5⟩:=hf it (by simp);refine wpAny_pyNext_list_item st p.isList (x:=u) (by simpa using hu) λh' st' sb=>?_;have I1:Inv X pins Y H { s with heap:=h' }:=I.turned (t':=s.toks) (λb o hb e=>(sb.2 b hb).trans e) f0 f1 f3 f4 f5;obtain⟨o,e,c,d⟩:=id st';exact⟨u,U,rO (s:={ s with heap:=h' }) e c d Yk ⟨x,H,I1,ru,⟨U,λys hy=>by rw[I.list_inj hy hq];exact hx⟩,st',λb hb=>(hf b hb).1⟩⟩
 done:=by
  intro X hP hw hK hc i pins s Y H E I hf st hg;subst hP hw hK;obtain⟨xs,hq,hx⟩:=hg;obtain⟨its,rv,p,hz⟩:=I.list hq;obtain⟨f0,f1,f2,f3,f4,f5⟩:=hf it (by simp);have hl:=rv.length;exact wpAny_pyNext_list_end (I.ok.hd hc) st p.isList (by simp;omega) λh' eb=>⟨U,I.turned (t':=s.toks) (λb o hb e=>eb b o hb e) f0 f1 f3 f4 f5⟩
 self:=λ_ _ _ _ _ st h=>wpAny_pyIter_listiter st h
theorem yK{P:Program}{w:World}{K:W.Frag}{tg:Expr}(a it:Addr):iG P w K tg (Itt K a) [it] it (λi h=>h.IsTupleIter it a i) where
 mem:=by simp
 obj:=λi h st b hb=>by
  have e:b=it:=by simpa using hb
  subst e;obtain⟨o,e,c,d⟩:=st;exact⟨o,e,λv z=>by rw[d]at z;cases z⟩
 keep:=λi h h' st k=>st.at λo e=>k it (by simp) o e
 item:=by
  intro X hP hw hK hc i pins s Y H E I hf st hg;subst hP hw hK;obtain⟨xs,x,hq,hx⟩:=hg;obtain⟨its,rv,p,hz⟩:=I.tuple hq;obtain⟨u,hu,ru⟩:=rv.get hx;obtain⟨f0,f1,f2,f3,f4,f5⟩:=hf it (by simp);refine wpAny_pyNext_tuple_item st (show s.heap.IsTuple a its.toArray from p) (x:=u) (by simpa using hu) λh' st' sb=>?_;have I1:Inv X pins Y H { s with heap:=h' }:=I.turned (t':=s.toks) (λb o hb e=>(sb.2 b hb).trans e) f0 f1 f3 f4 f5;obtain⟨o,e,c,d⟩:=id st';exact⟨u,U,rO (s:={ s with heap:=h' }) e c d Yk ⟨x,H,I1,ru,⟨U,λys hy=>by rw[I.tuple_inj hy hq];exact hx⟩,st',λb hb=>(hf b hb).1⟩⟩
 done:=by
  intro X hP hw hK hc i pins s Y H E I hf st hg;subst hP hw hK;obtain⟨xs,hq,hx⟩:=hg;obtain⟨its,rv,p,hz⟩:=I.tuple hq;obtain⟨f0,f1,f2,f3,f4,f5⟩:=hf it (by simp);have hl:=rv.length;exact wpAny_pyNext_tuple_end (I.ok.hd hc) st (show s.heap.IsTuple a its.toArray from p) (by simp;omega) λh' eb=>⟨U,I.turned (t':=s.toks) (λb o hb e=>eb b o hb e) f0 f1 f3 f4 f5⟩
 self:=λ_ _ _ _ _ st h=>wpAny_pyIter_tupleiter st h
theorem yL{P:Program}{w:World}{K:W.Frag}{tg:Expr}(it:Addr)(lo:Int)(n:Nat):iG P w K tg (Itr lo n) [it] it (λi h=>IsRangeIter h it (lo+(i:Nat) * 1) ((n:Int)-(i:Nat)) 1) where
 mem:=by simp
 obj:=λi h st b hb=>by
  have e:b=it:=by simpa using hb
  subst e
  exact⟨_,st,λv z=>by
   have z':Data.fields _=Data.cell v:=z
   cases z'⟩
 keep:=λi h h' st k=>k it (by simp) _ st
 item:=by
  intro X hP hw hK hc i pins s Y H E I hf st hg;subst hP hw hK;obtain⟨f0,f1,f2,f3,f4,f5⟩:=hf it (by simp);have W:=Walks.range (prog:=X.prog) (w:=X.w) (I.ok.hd hc) it lo 1 n;refine W.item i s _ _ hg st λv h' tk hv st' kk=>?_;obtain⟨t,rfl⟩:=hv;have I1:Inv X pins Y H { s with heap:=h',toks:=tk }:=I.turned (λb o hb e=>kk b o (by simpa using hb) e) f0 f1 f3 f4 f5;refine⟨_,U,rO (s:={ s with heap:=h',toks:=tk }) (n:="range_iterator") st' U U Yk ⟨.int (lo+i),H,I1,⟨t,?_⟩,⟨U,U⟩,st',λb hb=>(hf b hb).1⟩⟩;rw[Int.mul_one]
 done:=by
  intro X hP hw hK hc i pins s Y H E I hf st hg;subst hP hw hK;obtain⟨f0,f1,f2,f3,f4,f5⟩:=hf it (by simp);exact wpAny_pyNext_range_end (I.ok.hd hc) st (by have:n<=i:=hg;omega) λh' eb=>⟨U,I.turned (t':=s.toks) (λb o hb e=>eb b o hb e) f0 f1 f3 f4 f5⟩
 self:=λ_ _ _ _ _ st h=>wpAny_pyIter_rangeiter st h
section
variable {X:Cx}{tg:Expr}
def E3(K:W.Frag)(tl:TE):TI:=λY H R=>tl Y H λx H1=>∃a,x=.ref a/\(∃xs,SqL K H1 a xs)/\R (Itl K a) H1
def E1(K:W.Frag)(tl:TE):TI:=λY H R=>tl Y H λx H1=>∃a,x=.ref a/\(∃xs,SqT K H1 a xs)/\R (Itt K a) H1
theorem cq{l:Expr}{tl:TE}(hl:PE X l tl):PI X tg l (E3 X.K tl):=by
 intro pins s Y H R I h;refine thn (hl pins s Y H _ I h) λv s1 ⟨x,H1,I1,r1,q1⟩=>?_;obtain⟨a,e,⟨xs,hq⟩,q⟩:=q1;subst e;cases r1;obtain⟨its,rv,p,hz⟩:=I1.list hq;refine wpAny_pyIter_list p.isList ?_;refine⟨s1.heap.objs.size,[s1.heap.objs.size],_,_,H1,U,I1.kept (t':=s1.toks) λb o e=>qb _ e,yM a _,⟨_,qu _ U,U,U⟩,λb hb=>?_,q⟩;have e:b=s1.heap.objs.size:=by simpa using hb
 subst e;exact I1.fpOk (qg _) (I1.hok.fresh (qg _))
theorem ie{l:Expr}{tl:TE}(hl:PE X l tl):PI X tg l (E1 X.K tl):=by
 intro pins s Y H R I h;refine thn (hl pins s Y H _ I h) λv s1 ⟨x,H1,I1,r1,q1⟩=>?_;obtain⟨a,e,⟨xs,hq⟩,q⟩:=q1;subst e;cases r1;obtain⟨its,rv,p,hz⟩:=I1.tuple hq;refine wpAny_pyIter_tuple (show s1.heap.IsTuple a its.toArray from p) ?_;refine⟨s1.heap.objs.size,[s1.heap.objs.size],_,_,H1,U,I1.kept (t':=s1.toks) λb o e=>qb _ e,yK a _,⟨_,qu _ U,U,U⟩,λb hb=>?_,q⟩;have e:b=s1.heap.objs.size:=by simpa using hb
 subst e;exact I1.fpOk (qg _) (I1.hok.fresh (qg _))
theorem AW{pins:List (Addr×Obj)}{Y:St}{H:Hp}{s:Shared}{R:It->Hp->Prop}{E:Yq}{lo hi:Int}{t u v:Tok}{tk:Nat}(I:Inv X pins Y H s)(h1:-(2 ^ 62)<=lo)(h2:lo<2 ^ 62)(h3:-(2 ^ 62)<=hi)(h4:hi<2 ^ 62)
 (q:R (Itr lo (hi-lo).toNat) H):wpAny (model X.prog X.w) X.A (pyIter (.ref s.heap.objs.size)) (PIE X pins Y tg R) E { s with heap:=s.heap.push { cls:=.type "range",data:=.fields #[.int lo t,.int hi u,.int 1 v] },toks:=tk }:=by
 refine wpAny_pyIter_range (IsRange.new ..) (small_one h1 h2 h3 h4) ?_;have I1:Inv X pins Y H { s with heap:=s.heap.push { cls:=.type "range",data:=.fields #[.int lo t,.int hi u,.int 1 v] },toks:=tk }:=I.kept λb o e=>qb _ e
 refine⟨(s.heap.push { cls:=.type "range",data:=.fields #[.int lo t,.int hi u,.int 1 v] }).objs.size,[(s.heap.push { cls:=.type "range",data:=.fields #[.int lo t,.int hi u,.int 1 v] }).objs.size],_,_,H,U,
  I1.kept (t':=tk) λb o e=>qb _ e,yL _ lo (hi-lo).toNat,?_,λb hb=>?_,q⟩
 .have e1:lo+((0:Nat):Int) * 1=lo:=by simp
  have e2:(((hi-lo).toNat:Nat):Int)-((0:Nat):Int)=Builtin.Range.rangeSize lo hi 1:=by rw[rangeSize_one];split<;>omega
  show IsRangeIter _ _ (lo+((0:Nat):Int) * 1) ((((hi-lo).toNat:Nat):Int)-((0:Nat):Int)) 1;rw[e1,e2];exact qu _ U
 .have e:b=(s.heap.push { cls:=.type "range",data:=.fields #[.int lo t,.int hi u,.int 1 v] }).objs.size:=by simpa using hb
  subst e;exact I1.fpOk (qg _) (I1.hok.fresh (qg _))
def rN(ta:TA):TI:=λY H R=>ta Y H λvs H1=>∃j:Int,vs=[.int j]/\-(2 ^ 62)<=j/\j<2 ^ 62/\R (Itr 0 j.toNat) H1
theorem BF{a:Expr}{ta:TA}{p pos:Pos}(hg:Gl X "range")(hm:X.mg "range"=none)(ha:PA X [a] ta)(hs:starEach [a] X.env=[(false,eval a X.env)]:=by rfl):PI X tg (.Call (.Name "range" p) [a] [] pos) (rN ta):=by
 intro pins s Y H R I h;refine Call_ (gU I hg hm boot_range (PyProof.Rows.callWith_type1 (thn (ha pos pins s Y H _ I h) λus s1 ⟨vs,H1,I1,r1,q1⟩=>?_) hs U));obtain⟨j,e,q1,q2,q⟩:=q1;subst e
 cases r1 with
 |cons r rr=>
  cases rr;obtain⟨t,rfl⟩:=r;exact call_range_1 (AW I1 Yo Yo q1 q2 (by simpa using q))
def ze(wi:TI)(g:TG)(tb:TS):TS:=λD Y H=>wi Y H λJ H1=>∃W:Nat->Nat->St->Hp->Prop,(∃m,W 0 m Y H1)/\∀i m Y H,W i m Y H->
 (J.stop i H/\D.nx Y H)\/(J.go i H/\∃N:St->Hp->Prop,(∀Y' H',N Y' H'->∃m',m'<m/\W (i+1) m' Y' H')/\∀x H',J.yld i H x H'->g x Y H' λY2 H2=>tb { D with nx:=N,ct:=N,bk:=D.nx } Y2 H2)
noncomputable def jA(fp:List Addr)(h:Heap):List (Addr×Obj):=fp.filterMap λb=>(h.get? b).map λo=>(b,o)
theorem lG{fp:List Addr}{h:Heap}{b:Addr}{o:Obj}(hb:b∈fp)(e:h.get? b=some o):(b,o)∈jA fp h:=List.mem_filterMap.mpr ⟨b,hb,by rw[e];rfl⟩
theorem D4{fp:List Addr}{h:Heap}{p:Addr×Obj}(hp:p∈jA fp h):p.1∈fp/\h.get? p.1=some p.2:=by
 obtain⟨b,hb,e⟩:=List.mem_filterMap.mp hp
 cases q:h.get? b with
 |none=>rw[q]at e;cases e
 |some o=>
  rw[q]at e;have e':(b,o)=p:=qP e;subst e';exact⟨hb,q⟩
theorem Inv.pinned{pins:List (Addr×Obj)}{Y:St}{H:Hp}{s:Shared}{fp:List Addr}(I:Inv X pins Y H s)(hf:∀b∈fp,dk X pins H b)(ho:∀b∈fp,∃o,s.heap.get? b=some o/\∀v,o.data≠.cell v):Inv X (pins++jA fp s.heap) Y H s:=
 I.pins_of λp hp=>(qk.mp hp).elim (λz=>I.pin p (qO _ z)) λz=>by
  obtain⟨hb,e⟩:=D4 z;obtain⟨f0,f1,f2,_⟩:=hf p.1 hb;obtain⟨o,e',d⟩:=ho p.1 hb;rw[e]at e';cases e';exact⟨e,f0,f1,f2,d⟩
theorem Inv.unpinned{pins pl:List (Addr×Obj)}{Y:St}{H:Hp}{s:Shared}(I:Inv X (pins++pl) Y H s):Inv X pins Y H s:=I.pins_of λp hp=>I.pin p (qO _ (Q3 _ hp))
theorem bL{iter:Expr}{body:List Stmt}{wi:TI}{g:TG}{tb:TS}{pos:Pos}(hp:PassesOwn (model X.prog X.w) X.A X.env X.xe)(hc:X.calm=true)(hi:PI X tg iter wi)(hg:PG X tg g)(hb:PSs X body tb)
 (hs:∀x,foldedSetIterable iter X.env x=pure x:=by intro _;rfl):PS X (.For tg iter body [] pos) (ze wi g tb):=by
 intro pins s Y H D I h;refine wpAny_For (thn (hi pins s Y H _ I h) λv s1 h1=>thn h1 λitv s2 h2=>?_) hs;obtain⟨it,fp,tn,J,H2,e,I2,T,st2,f2,W,⟨m0,w0⟩,turn⟩:=h2;subst e;have stat:∀{H':Hp},(∀b∈fp,H' b=none)->∀b∈fp,dk X pins H' b:=λhn b hb=>⟨hn b hb,(f2 b hb).2⟩;refine codeAny_forLoop_any (λn s'=>∃i Y' H',Inv X pins Y' H' s'/\tn i s'.heap/\(∀b∈fp,H' b=none)/\W i n Y' H') ?_ m0 ⟨0,Y,H2,I2,st2,λb hb=>(f2 b hb).1,w0⟩;rintro n s3 ⟨i,Y3,H3,I3,st3,fr3,w3⟩;rcases turn i n Y3 H3 w3 with⟨stop,qn⟩|⟨go,N,hN,step⟩
 .refine wpAny_passesOwn hp (thn (T.done X U U U hc i pins s3 Y3 H3 X.xe I3 (stat fr3) st3 stop) λr s4 ⟨hr,I4⟩=>?_);subst hr;exact wpAny_execs_nil ⟨Y3,H3,I4,qn⟩
 .refine wpAny_passesOwn hp (thn (T.item X U U U hc i pins s3 Y3 H3 X.xe I3 (stat fr3) st3 go) λr s4 ⟨u,hr,h4⟩=>?_);subst hr;refine wpAny_passesOwn hp (thn h4 λ_ s5 ⟨x,H5,I5,r5,y5,st5,fr5⟩=>?_);have I5':=I5.pinned (stat fr5) (T.obj _ _ st5);refine wpAny_passesOwn hp (thn (hg _ s5 Y3 H5 x u _ I5' r5 (step x H5 y5)) λ_ s6 ⟨Y6,H6,I6,q6⟩=>?_);refine wpAny_passesOwn hp (thn (hb _ s6 Y6 H6 _ I6 q6) λf s7 q7=>?_)
  have again:∀{Y7:St}{H7:Hp},Inv X (pins++jA fp s5.heap) Y7 H7 s7->N Y7 H7->∃m,m<n/\∃i Y' H',Inv X pins Y' H' s7/\tn i s7.heap/\(∀b∈fp,H' b=none)/\W i m Y' H':=λ{Y7 H7} I7 n7=>by
   obtain⟨m',hm,w7⟩:=hN Y7 H7 n7;refine⟨m',hm,i+1,Y7,H7,I7.unpinned,T.keep _ _ _ st5 λb hb o e=>(I7.pin (b,o) (qO _ (qO _ (lG hb e)))).1,λb hb=>?_,w7⟩;obtain⟨o,e,d⟩:=T.obj _ _ st5 b hb;exact(I7.pin (b,o) (qO _ (qO _ (lG hb e)))).2.1
  cases f with
  |next=>obtain⟨Y7,H7,I7,n7⟩:=q7;exact again I7 n7
  |cont=>obtain⟨Y7,H7,I7,n7⟩:=q7;exact again I7 n7
  |brk=>obtain⟨Y7,H7,I7,q7⟩:=q7;exact⟨Y7,H7,I7.unpinned,q7⟩
  |ret v=>obtain⟨x7,Y7,H7,I7,r7,q7⟩:=q7;exact⟨x7,Y7,H7,I7.unpinned,r7,q7⟩
end
theorem d9{K:W.Frag}{a:Addr}{xs:List V}{g:TG}{tb:TS}{D:fA}{Y:St}{H:Hp}(Pv:Nat->St->Hp->Prop)(h0:Pv 0 Y H)(hl:∀i Y H,i<=xs.length->Pv i Y H->SqL K H a xs)
 (hs:∀i x Y H,xs[i]?=some x->Pv i Y H->g x Y H λY2 H2=>tb { D with nx:=Pv (i+1),ct:=Pv (i+1),bk:=D.nx } Y2 H2) (hd:∀Y H,Pv xs.length Y H->D.nx Y H):
 ∃W:Nat->Nat->St->Hp->Prop,(∃m,W 0 m Y H)/\∀i m Y H,W i m Y H->
  ((Itl K a).stop i H/\D.nx Y H)\/((Itl K a).go i H/\∃N:St->Hp->Prop,(∀Y' H',N Y' H'->∃m',m'<m/\W (i+1) m' Y' H')/\∀x H',(Itl K a).yld i H x H'->g x Y H' λY2 H2=>tb { D with nx:=N,ct:=N,bk:=D.nx } Y2 H2):=by
 refine⟨λi m Y H=>m=xs.length-i/\i<=xs.length/\Pv i Y H,⟨xs.length,by simp,qz _,h0⟩,?_⟩;rintro i m Y H ⟨rfl,hi,p⟩;have q:=hl i Y H hi p;by_cases hlt:i<xs.length
 .refine .inr ⟨⟨xs,xs[i],q,by simp[hlt]⟩,Pv (i+1),λY' H' p'=>⟨xs.length-(i+1),Yo,U,hlt,p'⟩,λx H' y=>?_⟩;obtain⟨e,y⟩:=y;subst e;exact hs i x Y _ (y xs q) p
 .have e:i=xs.length:=by omega
  subst e;exact .inl ⟨⟨xs,q,qg _⟩,hd Y H p⟩
theorem rQ{K:W.Frag}{a:Addr}{xs:List V}{g:TG}{tb:TS}{D:fA}{Y:St}{H:Hp}(Pv:Nat->St->Hp->Prop)(h0:Pv 0 Y H)(hl:∀i Y H,i<=xs.length->Pv i Y H->SqT K H a xs)
 (hs:∀i x Y H,xs[i]?=some x->Pv i Y H->g x Y H λY2 H2=>tb { D with nx:=Pv (i+1),ct:=Pv (i+1),bk:=D.nx } Y2 H2) (hd:∀Y H,Pv xs.length Y H->D.nx Y H):
 ∃W:Nat->Nat->St->Hp->Prop,(∃m,W 0 m Y H)/\∀i m Y H,W i m Y H->
  ((Itt K a).stop i H/\D.nx Y H)\/((Itt K a).go i H/\∃N:St->Hp->Prop,(∀Y' H',N Y' H'->∃m',m'<m/\W (i+1) m' Y' H')/\∀x H',(Itt K a).yld i H x H'->g x Y H' λY2 H2=>tb { D with nx:=N,ct:=N,bk:=D.nx } Y2 H2):=by
 refine⟨λi m Y H=>m=xs.length-i/\i<=xs.length/\Pv i Y H,⟨xs.length,by simp,qz _,h0⟩,?_⟩;rintro i m Y H ⟨rfl,hi,p⟩;have q:=hl i Y H hi p;by_cases hlt:i<xs.length
 .refine .inr ⟨⟨xs,xs[i],q,by simp[hlt]⟩,Pv (i+1),λY' H' p'=>⟨xs.length-(i+1),Yo,U,hlt,p'⟩,λx H' y=>?_⟩;obtain⟨e,y⟩:=y;subst e;exact hs i x Y _ (y xs q) p
 .have e:i=xs.length:=by omega
  subst e;exact .inl ⟨⟨xs,q,qg _⟩,hd Y H p⟩
theorem j7{lo:Int}{n:Nat}{g:TG}{tb:TS}{D:fA}{Y:St}{H:Hp}(Pv:Nat->St->Hp->Prop)(h0:Pv 0 Y H)
 (hs:∀i Y H,i<n->Pv i Y H->g (.int (lo+i)) Y H λY2 H2=>tb { D with nx:=Pv (i+1),ct:=Pv (i+1),bk:=D.nx } Y2 H2) (hd:∀Y H,Pv n Y H->D.nx Y H):
 ∃W:Nat->Nat->St->Hp->Prop,(∃m,W 0 m Y H)/\∀i m Y H,W i m Y H->
  ((Itr lo n).stop i H/\D.nx Y H)\/((Itr lo n).go i H/\∃N:St->Hp->Prop,(∀Y' H',N Y' H'->∃m',m'<m/\W (i+1) m' Y' H')/\∀x H',(Itr lo n).yld i H x H'->g x Y H' λY2 H2=>tb { D with nx:=N,ct:=N,bk:=D.nx } Y2 H2):=by
 refine⟨λi m Y H=>m=n-i/\i<=n/\Pv i Y H,⟨n,by simp,qz _,h0⟩,?_⟩;rintro i m Y H ⟨rfl,hi,p⟩;by_cases hlt:i<n
 .refine .inr ⟨hlt,Pv (i+1),λY' H' p'=>⟨n-(i+1),Yo,U,hlt,p'⟩,λx H' y=>?_⟩;obtain⟨e,y⟩:=y;subst e y;exact hs i Y _ hlt p
 .have e:i=n:=by omega
  subst e;exact .inl ⟨qg _,hd Y H p⟩
abbrev R2:=V->V->Hp->VK->Prop
def OpR(X:Cx)(f:Value->Value->Sem Value)(r:R2):Prop:=
 ∀(pins:List (Addr×Obj))(s:Shared)(Y:St)(H:Hp)(x y:V)(v u:Value)(Q:VK),Inv X pins Y H s->aB x v->aB y u->r x y H Q->
  wpAny (model X.prog X.w) X.A (f v u) (EP X pins Y Q) X.xe s
def UnR(X:Cx)(f:Value->Sem Value)(r:V->Hp->VK->Prop):Prop:=
 ∀(pins:List (Addr×Obj))(s:Shared)(Y:St)(H:Hp)(x:V)(v:Value)(Q:VK),Inv X pins Y H s->aB x v->r x H Q->
  wpAny (model X.prog X.w) X.A (f v) (EP X pins Y Q) X.xe s
def cJ(X:Cx)(f:Value)(r:List V->Hp->VK->Prop):Prop:=
 ∀(pins:List (Addr×Obj))(s:Shared)(Y:St)(H:Hp)(xs:List V)(us:List Value)(Q:VK),Inv X pins Y H s->az xs us->r xs H Q->
  wpAny (model X.prog X.w) X.A (call f us) (EP X pins Y Q) X.xe s
def TruR(X:Cx)(r:V->Hp->(Bool->Hp->Prop)->Prop):Prop:=
 ∀(pins:List (Addr×Obj))(s:Shared)(Y:St)(H:Hp)(x:V)(v:Value)(Q:Bool->Hp->Prop),Inv X pins Y H s->aB x v->r x H Q->
  wpAny (model X.prog X.w) X.A (truthy v) (TP X pins Y Q) X.xe s
def tOp(r:R2)(ta tb:TE):TE:=λY H Q=>ta Y H λx H1=>tb Y H1 λy H2=>r x y H2 Q
def tUn(r:V->Hp->VK->Prop)(ta:TE):TE:=λY H Q=>ta Y H λx H1=>r x H1 Q
def rI(C:Int->Int->Prop)(g:Int->Int->V):R2:=λx y H Q=>∃i j,x=.int i/\y=.int j/\C i j/\Q (g i j) H
def rI0(g:Int->Int->V):R2:=λx y H Q=>∃i j,x=.int i/\y=.int j/\Q (g i j) H
def rU(g:Int->V):V->Hp->VK->Prop:=λx H Q=>∃i,x=.int i/\Q (g i) H
section
variable {X:Cx}{a b c:Expr}{ta tb tc:TE}{pos:Pos}
theorem sD(ha:PE X a ta)(hb:PE X b tb){pins:List (Addr×Obj)}{s:Shared}{Y:St}{H:Hp}{R:V->V->Hp->Prop}(I:Inv X pins Y H s)
 (h:ta Y H λx H1=>tb Y H1 λy H2=>R x y H2) {Q:Yq}{f:Value->Value->Sem Value}
 (hf:∀v u s2 x y H2,Inv X pins Y H2 s2->aB x v->aB y u->R x y H2->wpAny (model X.prog X.w) X.A (f v u) Q X.xe s2):
 wpAny (model X.prog X.w) X.A (eval a X.env) (λv s₁=>wpAny (model X.prog X.w) X.A (eval b X.env) (λu s₂=>wpAny (model X.prog X.w) X.A (f v u) Q X.xe s₂) X.xe s₁) X.xe s:=by
 refine thn (ha pins s Y H _ I h) λv s1 ⟨x,H1,I1,r1,q1⟩=>?_;refine thn (hb pins s1 Y H1 _ I1 q1) λu s2 ⟨y,H2,I2,r2,q2⟩=>?_;exact hf v u s2 x y H2 I2 r1 r2 q2
theorem ao{op:Operator}{r:R2}(ho:OpR X (binaryOp op) r)(ha:PE X a ta)(hb:PE X b tb):PE X (.BinOp a op b pos) (tOp r ta tb):=by
 intro pins s Y H Q I h;exact wpAny_BinOp (sD ha hb I h λv u s2 x y H2 I2 rx ry q=>ho pins s2 Y H2 x y v u Q I2 rx ry q)
theorem cX{op:UnaryOp}{r:V->Hp->VK->Prop}(ho:UnR X (unaryOp op) r)(ha:PE X a ta):PE X (.UnaryOp op a pos) (tUn r ta):=by
 intro pins s Y H Q I h;exact UnaryOp_ (thn (ha pins s Y H _ I h) λv s1 ⟨x,H1,I1,r1,q1⟩=>ho pins s1 Y H1 x v Q I1 r1 q1)
theorem opI{f:Value->Value->Sem Value}{C:Int->Int->Prop}{g:Int->Int->Int}
 (rule:∀(i j:Int)(t u:Tok)(s:Shared)(Q:Yq)(E:Yq),C i j->Q (.int (g i j) s.toks) { s with toks:=s.toks+1 }->wpAny (model X.prog X.w) X.A (f (.int i t) (.int j u)) Q E s):
 OpR X f (rI C λi j=>.int (g i j)):=by
 intro pins s Y H x y v u Q I rx ry h;obtain⟨i,j,rfl,rfl,hc,q⟩:=h;obtain⟨t,rfl⟩:=rx;obtain⟨t',rfl⟩:=ry;exact rule i j t t' s _ _ hc ⟨.int (g i j),H,I.tok _,⟨_,U⟩,q⟩
theorem vW{f:Value->Value->Sem Value}{g:Int->Int->Int}
 (rule:∀(i j:Int)(t u:Tok)(s:Shared)(Q:Yq)(E:Yq),Q (.int (g i j) s.toks) { s with toks:=s.toks+1 }->wpAny (model X.prog X.w) X.A (f (.int i t) (.int j u)) Q E s):
 OpR X f (rI0 λi j=>.int (g i j)):=by
 intro pins s Y H x y v u Q I rx ry h;obtain⟨i,j,rfl,rfl,q⟩:=h;obtain⟨t,rfl⟩:=rx;obtain⟨t',rfl⟩:=ry;exact rule i j t t' s _ _ ⟨.int (g i j),H,I.tok _,⟨_,U⟩,q⟩
theorem ly{f:Value->Value->Sem Value}{g:Int->Int->Bool}
 (rule:∀(i j:Int)(t u:Tok)(s:Shared)(Q:Yq)(E:Yq),Q (.bool (g i j)) s->wpAny (model X.prog X.w) X.A (f (.int i t) (.int j u)) Q E s):
 OpR X f (rI0 λi j=>.bl (g i j)):=by
 intro pins s Y H x y v u Q I rx ry h;obtain⟨i,j,rfl,rfl,q⟩:=h;obtain⟨t,rfl⟩:=rx;obtain⟨t',rfl⟩:=ry;exact rule i j t t' s _ _ ⟨.bl (g i j),H,I,U,q⟩
def FH(i j:Int):Prop:=0<j/\j<1073741824
def FG(i j:Int):Prop:=0<=j/\j<=1000000/\i.natAbs<2 ^ 64
def sR(i j:Int):Prop:=(-(2 ^ 64)<i/\i<2 ^ 64)\/(-(2 ^ 64)<j/\j<2 ^ 64)
theorem sR.ok{i j:Int}(h:sR i j):IntMulOk i j:=by
 rcases h with⟨h1,h2⟩|⟨h1,h2⟩
 .exact .of_left (intBits_le_64 h1 h2)
 .exact .of_right (intBits_le_64 h1 h2)
theorem Ce:OpR X (binaryOp .Add) (rI0 λi j=>.int (i+j)):=vW λ_ _ _ _ _ _ _ q=>add_int q
theorem BV:OpR X (binaryOp .Sub) (rI0 λi j=>.int (i-j)):=vW λ_ _ _ _ _ _ _ q=>sub_int q
theorem Ca:OpR X (binaryOp .FloorDiv) (rI FH λi j=>.int (i / j)):=opI λi j _ _ _ _ _ hc q=>by
 have h1:(0:Int)<j:=hc.1;have h2:j<1073741824:=hc.2;exact floordiv_int Yo (by rw[Int.fdiv_eq_ediv_of_nonneg i Yo];exact q) (.inl (PyProof.noPylong_small Yo))
theorem C4:OpR X (binaryOp .Mod) (rI (λ_ j=>0<j) λi j=>.int (i % j)):=opI λi j _ _ _ _ _ hc q=>by
 have h1:(0:Int)<j:=hc;exact mod_int' Yo (by rw[Int.fmod_eq_emod_of_nonneg i Yo];exact q)
theorem BW:OpR X (binaryOp .Pow) (rI FG λi j=>.int (i ^ j.toNat)):=opI λ_ _ _ _ _ _ _ hc q=>pow_int_small hc.1 hc.2.1 hc.2.2 q
theorem unI{f:Value->Sem Value}{g:Int->Int}
 (rule:∀(i:Int)(t:Tok)(s:Shared)(Q:Yq)(E:Yq),Q (.int (g i) s.toks) { s with toks:=s.toks+1 }->wpAny (model X.prog X.w) X.A (f (.int i t)) Q E s):
 UnR X f (rU λi=>.int (g i)):=by
 intro pins s Y H x v Q I rx h;obtain⟨i,rfl,q⟩:=h;obtain⟨t,rfl⟩:=rx;exact rule i t s _ _ ⟨.int (g i),H,I.tok _,⟨_,U⟩,q⟩
theorem cR:UnR X (unaryOp .USub) (rU λi=>.int (-i)):=unI λ_ _ _ _ _ q=>neg_int q
end
noncomputable def jn:V->V->Bool
 |.non,.non=>true|.non,.int _=>true|.int _,.non=>true|.non,.bl _=>true|.bl _,.non=>true|.non,.str _=>true|.str _,.non=>true
 |.int _,.int _=>true|.bl _,.bl _=>true|.str _,.str _=>true|.byt _,.byt _=>true
 |.int _,.str _=>true|.str _,.int _=>true|.bl _,.str _=>true|.str _,.bl _=>true
 |_,_=>false
def rEq:R2:=λx y H Q=>jn x y=true/\Q (.bl (decide (x=y))) H
def rNe:R2:=λx y H Q=>jn x y=true/\Q (.bl (!decide (x=y))) H
theorem xL{i j:Int}:decide (V.int i=V.int j)=(i == j):=by
 rw[Bool.eq_iff_iff];simp
theorem xN{i j:Bool}:decide (V.bl i=V.bl j)=(i == j):=by
 rw[Bool.eq_iff_iff];simp
theorem xK{i j:Str}:decide (V.str i=V.str j)=(i == j):=by
 rw[Bool.eq_iff_iff];simp
theorem xM{i j:Array UInt8}:decide (V.byt i=V.byt j)=(i.toList == j.toList):=by
 rw[Bool.eq_iff_iff];cases i;cases j;simp
section
variable {X:Cx}{a b c:Expr}{ta tb tc:TE}{pos:Pos}
theorem bJ{pins:List (Addr×Obj)}{Y:St}{H:Hp}{s:Shared}{Q:VK}{k k':Bool}(I:Inv X pins Y H s)(q:Q (.bl k) H)(e:k=k'):EP X pins Y Q (.bool k') s:=by
 subst e;exact⟨.bl k,H,I,U,q⟩
theorem Cb:OpR X (compareOp .Eq) rEq:=by
 intro pins s Y H x y v u Q I rx ry h;obtain⟨hs,q⟩:=h
 cases x with
 |non=>
  cases rx
  cases y with
  |non=>cases ry;exact PySem.EqNone.eq_none_none (bJ I q (by simp))
  |bl j=>cases ry;exact PySem.EqNone.eq_none_bool (bJ I q (by simp))
  |int j=>obtain⟨t',rfl⟩:=ry;exact PySem.EqNone.eq_none_int (bJ I q (by simp))
  |str j=>obtain⟨t',rfl⟩:=ry;exact PySem.EqNone.eq_none_str (bJ I q (by simp))
  |_=>exact Qb (show false=true from hs) qo
 |bl i=>
  cases rx
  cases y with
  |non=>cases ry;exact PySem.EqNone.eq_bool_none (bJ I q (by simp))
  |bl j=>cases ry;exact eq_bool (bJ I q xN)
  |str j=>obtain⟨t',rfl⟩:=ry;exact PySem.EqMixed.eq_bool_str (bJ I q (by simp))
  |_=>exact Qb (show false=true from hs) qo
 |int i=>
  obtain⟨t,rfl⟩:=rx
  cases y with
  |non=>cases ry;exact PySem.EqNone.eq_int_none (bJ I q (by simp))
  |int j=>obtain⟨t',rfl⟩:=ry;exact eq_int (bJ I q xL)
  |str j=>obtain⟨t',rfl⟩:=ry;exact PySem.EqMixed.eq_int_str (bJ I q (by simp))
  |_=>exact Qb (show false=true from hs) qo
 |str i=>
  obtain⟨t,rfl⟩:=rx
  cases y with
  |non=>cases ry;exact PySem.EqNone.eq_str_none (bJ I q (by simp))
  |bl j=>cases ry;exact PySem.EqMixed.eq_str_bool (bJ I q (by simp))
  |int j=>obtain⟨t',rfl⟩:=ry;exact PySem.EqMixed.eq_str_int (bJ I q (by simp))
  |str j=>obtain⟨t',rfl⟩:=ry;exact eq_str (bJ I q xK)
  |_=>exact Qb (show false=true from hs) qo
 |byt i=>
  obtain⟨t,rfl⟩:=rx
  cases y with
  |byt j=>obtain⟨t',rfl⟩:=ry;exact PySem.W.eq_bytes (bJ I q xM)
  |_=>exact Qb (show false=true from hs) qo
 |_=>cases y<;>exact Qb (show false=true from hs) qo
theorem C2:OpR X (compareOp .NotEq) rNe:=by
 intro pins s Y H x y v u Q I rx ry h;obtain⟨hs,q⟩:=h
 cases x with
 |non=>
  cases rx
  cases y with
  |non=>cases ry;exact PySem.EqNone.ne_none_none (bJ I q (by simp))
  |bl j=>cases ry;exact PySem.EqNone.ne_none_bool (bJ I q (by simp))
  |int j=>obtain⟨t',rfl⟩:=ry;exact PySem.EqNone.ne_none_int (bJ I q (by simp))
  |str j=>obtain⟨t',rfl⟩:=ry;exact PySem.EqNone.ne_none_str (bJ I q (by simp))
  |_=>exact Qb (show false=true from hs) qo
 |bl i=>
  cases rx
  cases y with
  |non=>cases ry;exact PySem.EqNone.ne_bool_none (bJ I q (by simp))
  |bl j=>cases ry;exact ne_bool (bJ I q (congrArg not xN))
  |str j=>obtain⟨t',rfl⟩:=ry;exact PySem.EqMixed.ne_bool_str (bJ I q (by simp))
  |_=>exact Qb (show false=true from hs) qo
 |int i=>
  obtain⟨t,rfl⟩:=rx
  cases y with
  |non=>cases ry;exact PySem.EqNone.ne_int_none (bJ I q (by simp))
  |int j=>obtain⟨t',rfl⟩:=ry;exact ne_int (bJ I q (congrArg not xL))
  |str j=>obtain⟨t',rfl⟩:=ry;exact PySem.EqMixed.ne_int_str (bJ I q (by simp))
  |_=>exact Qb (show false=true from hs) qo
 |str i=>
  obtain⟨t,rfl⟩:=rx
  cases y with
  |non=>cases ry;exact PySem.EqNone.ne_str_none (bJ I q (by simp))
  |bl j=>cases ry;exact PySem.EqMixed.ne_str_bool (bJ I q (by simp))
  |int j=>obtain⟨t',rfl⟩:=ry;exact PySem.EqMixed.ne_str_int (bJ I q (by simp))
  |str j=>obtain⟨t',rfl⟩:=ry;exact ne_str (bJ I q (congrArg not xK))
  |_=>exact Qb (show false=true from hs) qo
 |byt i=>
  obtain⟨t,rfl⟩:=rx
  cases y with
  |byt j=>obtain⟨t',rfl⟩:=ry;exact PySem.W.ne_bytes (bJ I q (congrArg not xM))
  |_=>exact Qb (show false=true from hs) qo
 |_=>cases y<;>exact Qb (show false=true from hs) qo
theorem C5:OpR X (compareOp .Lt) (rI0 λi j=>.bl (decide (i<j))):=ly λ_ _ _ _ _ _ _ q=>lt_int q
theorem C6:OpR X (compareOp .LtE) (rI0 λi j=>.bl (decide (i<=j))):=ly λ_ _ _ _ _ _ _ q=>le_int q
theorem C8:OpR X (compareOp .Gt) (rI0 λi j=>.bl (decide (j<i))):=ly λ_ _ _ _ _ _ _ q=>gt_int q
theorem C9:OpR X (compareOp .GtE) (rI0 λi j=>.bl (decide (j<=i))):=ly λ_ _ _ _ _ _ _ q=>ge_int q
theorem C7:OpR X (compareOp .Is) (λx y H Q=>y=.non/\Q (.bl (decide (x=.non))) H):=by
 intro pins s Y H x y v u Q I rx ry h;obtain⟨rfl,q⟩:=h;cases ry;refine is_none_gen (bJ I q ?_)
 cases x<;>first
  |(cases rx;rfl)
  |(obtain⟨t,rfl⟩:=rx;rfl)
theorem BY:OpR X (compareOp .IsNot) (λx y H Q=>y=.non/\Q (.bl (!decide (x=.non))) H):=by
 intro pins s Y H x y v u Q I rx ry h;obtain⟨rfl,q⟩:=h;cases ry;refine isnot_none_gen (bJ I q ?_)
 cases x<;>first
  |(cases rx;rfl)
  |(obtain⟨t,rfl⟩:=rx;rfl)
theorem ax(b:Expr){op:CmpOp}(h:op≠.In:=by decide)(h2:op≠.NotIn:=by decide):behindInMarks op b=false:=by
 have e1:(op == CmpOp.In)=false:=by cases op<;>first|rfl|exact Qb U h
 have e2:(op == CmpOp.NotIn)=false:=by cases op<;>first|rfl|exact Qb U h2
 cases b<;>simp[behindInMarks,e1,e2]
theorem fq{op:CmpOp}{r:R2}(ho:OpR X (compareOp op) r)(ha:PE X a ta)(hb:PE X b tb)(hm:behindInMarks op b=false):PE X (.Compare a [op] [b] pos) (tOp r ta tb):=by
 intro pins s Y H Q I h;exact wpAny_Compare1 (sD ha hb I h λv u s2 x y H2 I2 rx ry q=>ho pins s2 Y H2 x y v u Q I2 rx ry q) hm
def kx(t:TE):TT:=λY H Q=>t Y H λx H'=>∃k,x=.bl k/\Q k H'
theorem Bs{op:CmpOp}{r:R2}(ho:OpR X (compareOp op) r)(ha:PE X a ta)(hb:PE X b tb)(hm:behindInMarks op b=false):PT X (.Compare a [op] [b] pos) (kx (tOp r ta tb)):=by
 intro pins s Y H Q I h
 refine wpAny_isTrue_Compare1 (thn (ha pins s Y H _ I h) λv s1 ⟨x,H1,I1,r1,q1⟩=>thn (hb pins s1 Y H1 _ I1 q1) λu s2 ⟨y,H2,I2,r2,q2⟩=>
  thn (ho pins s2 Y H2 x y v u _ I2 r1 r2 q2) λc s3 ⟨z,H3,I3,r3,k,e,q3⟩=>?_) hm
 subst e;cases r3;exact wpAny_truthy_bool ⟨H3,I3,q3⟩
def zo(r r':R2)(ta tb tc:TE):TE:=λY H Q=>ta Y H λx H1=>tb Y H1 λy H2=>r x y H2 λz H3=>∃k,z=.bl k /\
 (if k=true then tc Y H3 λw' H4=>r' y w' H4 Q else Q (.bl false) H3)
theorem ph{op op':CmpOp}{r r':R2}(ho:OpR X (compareOp op) r)(ho':OpR X (compareOp op') r')(ha:PE X a ta)(hb:PE X b tb)(hc:PE X c tc)
 (hm:lastMarks [op,op'] [b,c]=false:=by with_unfolding_all rfl):PT X (.Compare a [op,op'] [b,c] pos) (kx (zo r r' ta tb tc)):=by
 intro pins s Y H Q I h
 refine isTrue_chain (thn (ha pins s Y H _ I h) λv s1 ⟨x,H1,I1,r1,q1⟩=>test_link (thn (hb pins s1 Y H1 _ I1 q1) λu s2 ⟨y,H2,I2,r2,q2⟩=>
  thn (ho pins s2 Y H2 x y v u _ I2 r1 r2 q2) λd s3 ⟨z,H3,I3,r3,k,e,q3⟩=>?_)) hm
 subst e;cases r3;refine wpAny_truthy_bool ?_
 cases k with
 |false=>
  obtain⟨k',e',q'⟩:=q3;cases e';exact ite_ff ⟨H3,I3,q'⟩
 |true=>
  refine ite_tt (test_last (thn (hc pins s3 Y H3 _ I3 q3) λw' s4 ⟨z',H4,I4,r4,q4⟩=>thn (ho' pins s4 Y H4 y z' u w' _ I4 r2 r4 q4) λd' s5 ⟨z2,H5,I5,r5,k2,e2,q5⟩=>?_));subst e2;cases r5;exact wpAny_truthy_bool ⟨H5,I5,q5⟩
theorem jJ:(sizeLine:Nat)<2 ^ 63:=by rw[sizeLine_eq];decide
theorem Cd:OpR X (binaryOp .Add) (λx y H Q=>∃i j,x=.str i/\y=.str j/\i.length+j.length<=sizeLine/\Q (.str (i++j)) H):=by
 intro pins s Y H x y v u Q I rx ry h;obtain⟨i,j,rfl,rfl,hz,q⟩:=h;obtain⟨t,rfl⟩:=rx;obtain⟨t',rfl⟩:=ry;exact add_str (λt' tk=>⟨.str (i++j),H,I.tok _,⟨_,U⟩,q⟩) hz
theorem fV{x:V}{us:List Value}(r:az [x] us):∃u,us=[u]/\aB x u:=by
 cases r with
 |cons r1 r2=>cases r2;exact⟨_,U,r1⟩
theorem jf{x y:V}{us:List Value}(r:az [x,y] us):∃u w',us=[u,w']/\aB x u/\aB y w':=by
 cases r with
 |cons r1 r2=>
  cases r2 with
  |cons r3 r4=>cases r4;exact⟨_,_,U,r1,r3⟩
theorem y1(hc:X.calm=true):cJ X (.builtin "max") (λxs H Q=>∃i j,xs=[.int i,.int j]/\Q (.int (if j > i then j else i)) H):=by
 intro pins s Y H xs us Q I r h;obtain⟨i,j,rfl,q⟩:=h;obtain⟨u,w',rfl,⟨t,rfl⟩,⟨t',rfl⟩⟩:=jf r;refine max_two_ints (I.ok.hd hc) λh' tk k=>⟨_,H,I.kept k,?_,q⟩;by_cases hj:j > i
 .rw[Q8 hj,Q8 hj];exact⟨_,U⟩
 .rw[Q7 hj,Q7 hj];exact⟨_,U⟩
theorem y0(hc:X.calm=true):cJ X (.builtin "min") (λxs H Q=>∃i j,xs=[.int i,.int j]/\Q (.int (if j<i then j else i)) H):=by
 intro pins s Y H xs us Q I r h;obtain⟨i,j,rfl,q⟩:=h;obtain⟨u,w',rfl,⟨t,rfl⟩,⟨t',rfl⟩⟩:=jf r;refine min_two_ints (I.ok.hd hc) λh' tk k=>⟨_,H,I.kept k,?_,q⟩;by_cases hj:j<i
 .rw[Q8 hj,Q8 hj];exact⟨_,U⟩
 .rw[Q7 hj,Q7 hj];exact⟨_,U⟩
end
structure iI(h:Heap)(x dx C:Addr)(mA:Str->Option Value):Prop where
 obj:h.get? x=some (PySem.W.instObj C dx)
 ns:h.Ns1 dx mA
 ne:dx≠x
theorem Ds{h:Heap}{dx:Addr}{mA:Str->Option Value}(n:h.Ns1 dx mA):∃od,h.get? dx=some od/\∀name,PySem.W.lookIn name od=some (mA name):=by
 obtain⟨o,es,ep,ho,hd,hk,_,hm⟩:=n;refine⟨o,ho,λname=>?_⟩;have e:=hm name;unfold nsFind findBy at e;rw[<- Array.find?_toList]at e;unfold PySem.W.lookIn;rw[hd];dsimp only;split
 .rename_i y q;rw[q]at e;exact congrArg some e
 .rename_i q;rw[q]at e
  have a:es.toList.any (·.refKey)=false:=by
   rw[List.any_eq_false];intro y hy;obtain⟨z,t,hkey⟩:=hk y (Array.mem_toList_iff.mp hy);simp[DictEntry.refKey,hkey]
  have a':¬ es.toList.any (·.refKey)=true:=by rw[a];exact qo
  rw[Q7 a'];exact congrArg some e
theorem iI.look{h:Heap}{x dx C:Addr}{mA:Str->Option Value}(I:iI h x dx C mA):∃od,PySem.W.InstAt h x (PySem.W.instObj C dx) C (some od)/\∀name,PySem.W.lookIn name od=some (mA name):=
 let ⟨od,ho,hl⟩:=Ds I.ns
 ⟨od,⟨I.obj,U,U,ho⟩,hl⟩
section
variable {prog:Program}{w:World}{A:Around}{E:Yq}{s:Shared}{K:W.Frag}{x dx C f:Addr}{mA:Str->Option Value}{name:Str}{v:Value}
theorem Ea{expr:Bool}{Q:Yq}(X:K.In s.heap)(I:iI s.heap x dx C mA)(hg:PySem.W.plainGet K C name=true)(hh:PySem.W.hasDictIn K C=true)
 (ha:PySem.W.findIn K (.ref C) name=some none) (hv:mA name=some v) (hv':PySem.W.handedIn v=true) (h:Q v { s with toks:=s.toks+1 }):
 wpAny (model prog w) A (getAttr (.ref x) name expr) Q E s:=by
 obtain⟨od,J,hl⟩:=I.look;exact PySem.W.get_value X J (PySem.W.plainGet_of hg).1 (PySem.W.findObj_own hh ha U (by rw[hl,hv])) hv' h
theorem E9{pl:Sem Bool}{Q:Value×List Value->Shared->Prop}(X:K.In s.heap)(I:iI s.heap x dx C mA)(hg:PySem.W.plainGet K C name=true)
 (hf:PySem.W.findIn K (.ref C) name=some (some (.ref f))) (ht:PySem.W.isFn K (.ref f)=true) (hv:mA name=none) (h:Q (.ref f,[.ref x]) s):
 wpAny (model prog w) A (getMethod (.ref x) name pl) Q E s:=by
 obtain⟨od,J,hl⟩:=I.look;exact PySem.W.method_fn X J (PySem.W.plainGet_of hg).1 (PySem.W.plainGet_of hg).2 hf (beq_iff_eq.mp ht) (by show(PySem.W.lookIn name od).map (·.isSome)=some false;rw[hl,hv];rfl) h
theorem Ai{ns:List Str}{Q:Unit->Shared->Prop}(X:K.In s.heap)(I:iI s.heap x dx C mA)
 (hs:PySem.W.findIn K (.ref C) "__setattr__"=some (some (.builtin "object.__setattr__"))) (hp:PySem.W.plainOver K C=true) (ht:PySem.W.takerIn K C name=some none) (hh:PySem.W.hasDictIn K C=true)
 (hw:PySem.Within mA ns) (hsz:ns.length<=sizeLine)
 (h:∀h',iI h' x dx C (λy=>if y=name then some v else mA y)->Heap.SameBut dx s.heap h'->Q () { s with heap:=h',toks:=s.toks+2 }):
 wpAny (model prog w) A (setAttr (.ref x) name v) Q E s:=by
 obtain⟨od,J,hl⟩:=I.look;refine PySem.W.set_plain X J hs (PySem.W.osa_open (s:={ s with toks:=s.toks+1 }) (r:=none) X J hp ht λb=>?_);obtain⟨cd,hc,hd'⟩:=PySem.W.any_some hh;have hx:s.heap.get? x=some ⟨.ref C,some dx,.plain,#[]⟩:=I.obj;refine q9 (qf (q9 (q9 (wpAny_loadPart hx (q9 (PySem.W.Looks.here (s:={ s with toks:=s.toks+1 }) (PySem.W.looks_clsIn X hc) ?_))))));rw[hd'];refine qf (a:=some dx) (q9 (qf (q9 ?_)));refine wpAny_nsSet1 (s:={ s with toks:=s.toks+1 }) I.ns λh' hn2 hs2=>?_;obtain⟨oD,esD,epD,hoD,hdD,hcD⟩:=hn2.count (PySem.Within.cons name v hw);refine q9 (wpAny_lookBehind hoD (by rw[hdD];exact pastItsLine_dict (qF hcD (by rw[qH];omega))) ?_);exact qf (h _ ⟨(hs2.2 _ (Ne.symm I.ne)).trans I.obj,hn2,I.ne⟩ hs2)
theorem Dm{R:Result->Shared->Prop}{vs:List Value}{kw:List (Str×Value)}(X:K.In s.heap)(hm:PySem.W.makesIn K C=true)
 (hi:PySem.W.findIn K (.ref C) "__init__"=some (some (.ref f))) (hf:PySem.W.typeIn K (.ref f)=some (.type "function"))
 (h:codeAny (model prog w) (A.under (.builtin "type.__call__" ⟨.ref C::vs,kw⟩)) (.call (.ref f) ⟨.ref (s.heap.objs.size+1)::vs,kw⟩) (PySem.W.InitBack (s.heap.objs.size+1) R)
  { s with heap:=(s.heap.push PySem.W.emptyDict).push (PySem.W.instObj C s.heap.objs.size) }):
 codeAny (model prog w) A (.call (.ref C) ⟨vs,kw⟩) R s:=by
 obtain⟨hh,g,d,t,os⟩:=s;exact PySem.W.make_core (PySem.W.makes_of X hm) (PySem.W.looks_findIn X hi) (λself=>PySem.W.bind_fn X self hf) (.inl U) h
end
noncomputable def cV(f:Str)(v:V):List (Str×V)->List (Str×V)
 |[]=>[(f,v)]
 |(g,x)::r=>if g=f then(g,v)::r else(g,x)::cV f v r
theorem wJ(f g:Str)(v:V):∀fs:List (Str×V),(cV f v fs).lookup g=if g=f then some v else fs.lookup g
 |[]=>by
  show List.lookup g [(f,v)]=_;by_cases h:g=f
  .have hb:(g == f)=true:=beq_iff_eq.mpr h;simp only[List.lookup,hb,Q8 h]
  .have hb:(g == f)=false:=beq_eq_false_iff_ne.mpr h;simp only[List.lookup,hb,Q7 h]
 |(k,x)::r=>by
  have ih:=wJ f g v r;rw[show cV f v ((k,x)::r)=(if k=f then(k,v)::r else(k,x)::cV f v r)from rfl];by_cases hk:k=f
  .rw[Q8 hk];by_cases h:g=k
   .have hb:(g == k)=true:=beq_iff_eq.mpr h;simp only[List.lookup,hb,Q8 (h.trans hk)]
   .have hb:(g == k)=false:=beq_eq_false_iff_ne.mpr h;simp only[List.lookup,hb,Q7 (λe:g=f=>h (e.trans hk.symm))]
  .rw[Q7 hk];by_cases h:g=k
   .have hb:(g == k)=true:=beq_iff_eq.mpr h;simp only[List.lookup,hb,Q7 (λe:g=f=>hk (h.symm.trans e))]
   .have hb:(g == k)=false:=beq_eq_false_iff_ne.mpr h;simp only[List.lookup,hb];exact ih
theorem rF(f:Str)(v:V):∀fs:List (Str×V),f∈(cV f v fs).map (·.1)/\∀g,g∈fs.map (·.1)->g∈(cV f v fs).map (·.1)
 |[]=>⟨by simp[cV],λg h=>by simp at h⟩
 |(k,x)::r=>by
  obtain⟨i1,i2⟩:=rF f v r;rw[show cV f v ((k,x)::r)=(if k=f then(k,v)::r else(k,x)::cV f v r)from rfl];by_cases hk:k=f
  .rw[Q8 hk];subst hk;exact⟨by simp,λg h=>by simpa using h⟩
  .rw[Q7 hk];refine⟨?_,λg h=>?_⟩
   .rw[qX];exact qq _ i1
   .rw[qX]at h ⊢;rcases qA.mp h with e|e
    .exact qA.mpr (.inl e)
    .exact qq _ (i2 g e)
theorem wM(f:Str)(v:V):∀fs:List (Str×V),(cV f v fs).length<=fs.length+1
 |[]=>by simp[cV]
 |(k,x)::r=>by
  have ih:=wM f v r;rw[show cV f v ((k,x)::r)=(if k=f then(k,v)::r else(k,x)::cV f v r)from rfl];by_cases hk:k=f
  .rw[Q8 hk,qH,qH];omega
  .rw[Q7 hk,qH,qH];omega
theorem cg.some_of{v:V}{o:Option Value}(r:cg (some v) o):∃u,o=some u/\aB v u:=by
 cases o with
 |none=>exact(show False from r).elim
 |some u=>exact⟨u,U,r⟩
theorem cg.none_of{o:Option Value}(r:cg none o):o=none:=by
 cases o with
 |none=>rfl
 |some u=>exact(show False from r).elim
theorem E7{v:V}{u:Value}(r:aB v u):PySem.W.handedIn u=true:=by
 cases v with
 |non=>cases(show u=Value.none from r);rfl
 |bl b=>cases(show u=Value.bool b from r);rfl
 |int i=>obtain⟨t,e⟩:=(show ∃t,u=Value.int i t from r);cases e;rfl
 |str x=>obtain⟨t,e⟩:=(show ∃t,u=Value.str x t from r);cases e;rfl
 |byt b=>obtain⟨t,e⟩:=(show ∃t,u=Value.bytes b t from r);cases e;rfl
 |flt b=>obtain⟨t,e⟩:=(show ∃t,u=Value.float b t from r);cases e;rfl
 |ref a=>cases(show u=Value.ref a from r);rfl
 |ty n=>cases(show u=Value.type n from r);rfl
section
variable {P:Program}{w:World}{H H':Hp}{h h':Heap}{a C dx:Addr}{fs fs':List (Str×V)}
theorem lT(hok:HOk P w H h)(e:H a=some (.ins C dx fs)):∃mA,iI h a dx C mA/\(∀f,cg (fs.lookup f) (mA f))/\PySem.Within mA (fs.map (·.1))/\fs.length<=1000/\H dx=some (.own a):=by
 obtain⟨d,z,ne,ob,mA,n,r,q⟩:=(show bF P w H h a (.ins C dx fs)from hok a _ e);exact⟨mA,⟨ob,n,ne⟩,r,q,z,d⟩
end
structure Cls(K:W.Frag)(C:Addr):Prop where
 pg:PySem.W.plainGet K C Str.empty=true
 hd:PySem.W.hasDictIn K C=true
 po:PySem.W.plainOver K C=true
 sa:PySem.W.findIn K (.ref C) "__setattr__"=some (some (.builtin "object.__setattr__"))
theorem Cls.get{K:W.Frag}{C:Addr}(c:Cls K C)(f:Str):PySem.W.plainGet K C f=true:=c.pg
def eh(K:W.Frag)(C:Addr)(f:Str):Prop:=PySem.W.findIn K (.ref C) f=some none
theorem eh.taker{K:W.Frag}{C:Addr}{f:Str}(n:eh K C f):PySem.W.takerIn K C f=some none:=by
 unfold PySem.W.takerIn;rw[show PySem.W.findIn K (.ref C) f=some none from n]
 rfl
structure fU(K:W.Frag)(C:Addr)(m:Str)(f:Addr):Prop where
 at_:PySem.W.findIn K (.ref C) m=some (some (.ref f))
 fn:PySem.W.isFn K (.ref f)=true
 kp:PySem.W.keepIn K (.ref f)=true
section
variable {X:Cx}{pins:List (Addr×Obj)}{Y:St}{H:Hp}{s:Shared}{a C dx:Addr}{fs:List (Str×V)}{f:Str}{v:V}{A:Around}{E:Yq}
theorem E8{b:Bool}{Q:Yq}(I:Inv X pins Y H s)(e:H a=some (.ins C dx fs))(c:Cls X.K C)(n:eh X.K C f)(l:fs.lookup f=some v)
 (h:∀u s',Inv X pins Y H s'->aB v u->Q u s'):wpAny (model X.prog X.w) A (getAttr (.ref a) f b) Q E s:=by
 obtain⟨mA,O,r,_,_,_⟩:=lT I.hok e;obtain⟨u,hu,ru⟩:=cg.some_of (v:=v) (o:=mA f) (by rw[<- l];exact r f);exact Ea I.kIn O (c.get f) c.hd n hu (E7 ru) (h u _ (I.tok _) ru)
theorem rP{m:Str}{g:Addr}{pl:Sem Bool}{Q:Value×List Value->Shared->Prop}(I:Inv X pins Y H s)(e:H a=some (.ins C dx fs))(c:Cls X.K C)(k:fU X.K C m g)(l:fs.lookup m=none)
 (h:Q (.ref g,[.ref a]) s):wpAny (model X.prog X.w) A (getMethod (.ref a) m pl) Q E s:=by
 obtain⟨mA,O,r,_,_,_⟩:=lT I.hok e;have hn:mA m=none:=cg.none_of (by rw[<- l];exact r m);exact E9 I.kIn O (c.get m) k.at_ k.fn hn h
theorem Ag{y:V}{u:Value}{Q:Unit->Shared->Prop}(I:Inv X pins Y H s)(e:H a=some (.ins C dx fs))(c:Cls X.K C)(n:eh X.K C f)(hl:fs.length<1000)(ry:aB y u)
 (h:∀s',Inv X pins Y (upd H a (.ins C dx (cV f y fs))) s'->Q () s'):wpAny (model X.prog X.w) A (setAttr (.ref a) f u) Q E s:=by
 obtain⟨mA,O,r,wi,_,ho⟩:=lT I.hok e;have hz:(fs.map (·.1)).length<=sizeLine:=by rw[qa,sizeLine_eq];omega
 refine Ai I.kIn O c.sa c.po n.taker c.hd wi hz λh' O' sb=>h _ ?_;have hd:∃o,h'.get? dx=some o:=let ⟨o,_,_,e',_⟩:=O'.ns;⟨o,e'⟩;refine I.write (x:=a) (e:=dx) (by rw[e];exact True.intro) (.inr ho) (λb q hb z=>(sb.2 b hb).trans z) hd ?_;refine⟨by rw[af O.ne];exact ho,?_,O.ne,O'.obj,_,O'.ns,λg=>?_,λg hg=>?_⟩
 .have:=wM f y fs;omega
 .show cg ((cV f y fs).lookup g) (if g=f then some u else mA g);rw[wJ];by_cases q:g=f
  .rw[Q8 q,Q8 q];exact ry
  .rw[Q7 q,Q7 q];exact r g
 .by_cases q:g=f
  .rw[q];exact(rF f y fs).1
  .refine(rF f y fs).2 g (wi g λz=>hg ?_);show(if g=f then some u else mA g)=none;rw[Q7 q];exact z
theorem Inv.made(I:Inv X pins Y H s):Inv X pins Y (upd (upd H s.heap.objs.size (.own (s.heap.objs.size+1))) (s.heap.objs.size+1) (.ins C s.heap.objs.size []))
 { s with heap:=(s.heap.push PySem.W.emptyDict).push (PySem.W.instObj C s.heap.objs.size) }:=by
 have e1:(s.heap.push PySem.W.emptyDict).get? s.heap.objs.size=some PySem.W.emptyDict:=qu s.heap U
 have e2:((s.heap.push PySem.W.emptyDict).push (PySem.W.instObj C s.heap.objs.size)).get? (s.heap.objs.size+1)=some (PySem.W.instObj C s.heap.objs.size):=by
  have:=qu (s.heap.push PySem.W.emptyDict) (o:=PySem.W.instObj C s.heap.objs.size) U
  rwa [Qm]at this
 have e3:(s.heap.push PySem.W.emptyDict).Ns s.heap.objs.size (λ_=>none):=⟨PySem.W.emptyDict,#[],_,e1,U,(λe he=>Qb he (by simp)),λ_=>U⟩;have I1:=I.laid (a:=s.heap.objs.size) (o:=.own (s.heap.objs.size+1)) (h':=s.heap.push PySem.W.emptyDict) (t':=s.toks) (λb u q=>qb _ q) (qg _) ⟨_,e1⟩;refine I1.laid (a:=s.heap.objs.size+1) (o:=.ins C s.heap.objs.size []) (t':=s.toks) (λb u q=>qb _ q) (Nat.le_of_eq (Qm _ _)) ?_;have ne:s.heap.objs.size≠s.heap.objs.size+1:=qM (Qh _);refine⟨by rw[af ne,ag],qz _,ne,e2,λ_=>none,(Heap.Ns1.of_empty e3).at λo q=>qb _ q,λ_=>True.intro,λy hy=>Qb U hy⟩
theorem Fs{prog:Program}{w:World}{env:Env}{e:Expr}{f:Str}{pos:Pos}{s:Shared}{Q:Yq}(hb:attributeBase e f env (eval e env)=eval e env)
 (h:wpAny (model prog w) A (eval e env) (λo s₁=>wpAny (model prog w) A (getAttr o f true) Q E s₁) E s):wpAny (model prog w) A (eval (.Attribute e f pos) env) Q E s:=
 Attribute_any_ h (by rw[arm_eval_Attribute,hb])
end
def mF(K:W.Frag)(ta:TE)(f:Str):TE:=λY H Q=>ta Y H λx H1=>∃a C dx fs v,x=.ref a/\H1 a=some (.ins C dx fs)/\Cls K C/\eh K C f/\fs.lookup f=some v/\Q v H1
def AD(K:W.Frag)(ta tv:TE)(f:Str):TS:=λD Y H=>tv Y H λy H1=>ta Y H1 λx H2=>∃a C dx fs,x=.ref a/\H2 a=some (.ins C dx fs)/\Cls K C/\eh K C f/\fs.length<1000 /\
 D.nx Y (upd H2 a (.ins C dx (cV f y fs)))
section
variable {X:Cx}{o e value:Expr}{f:Str}{pos pos' tpos:Pos}{ta tv:TE}
theorem BO(he:PE X e ta)(hb:attributeBase e f X.env (eval e X.env)=eval e X.env):PE X (.Attribute e f pos) (mF X.K ta f):=by
 intro pins s Y H Q I h;refine Fs hb (thn (he pins s Y H _ I h) λu s1 ⟨x,H1,I1,rx,a,C,dx,fs,v,ex,ea,c,n,l,q⟩=>?_);subst ex;obtain rfl:u=Value.ref a:=rx;exact E8 I1 ea c n l λu' s2 I2 ru=>⟨v,H1,I2,ru,q⟩
theorem jy(ha:PE X o ta)(hv:PE X value tv)(hs:swapsWith value (some (.Attribute o f pos')) pos.line X.env=pure false):PS X (.Assign [.Attribute o f pos'] value pos) (AD X.K ta tv f):=by
 intro pins s Y H D I h;refine plainObj_wpAny_Assign_Attribute (thn (hv pins s Y H _ I h) λu s1 ⟨y,H1,I1,ry,q⟩=>thn (ha pins s1 Y H1 _ I1 q) λov s2 ⟨x,H2,I2,rx,a,C,dx,fs,ex,ea,c,n,l,q2⟩=>?_) hs;subst ex;obtain rfl:ov=Value.ref a:=rx;exact Ag I2 ea c n l ry λs3 I3=>⟨Y,_,I3,q2⟩
theorem FJ{pl:Sem Bool}{m:Str}{apos:Pos}{args:List Expr}{pins:List (Addr×Obj)}{s:Shared}{Y:St}{H:Hp}{Q:Yq}{te:TE}(he:PE X e te)(I:Inv X pins Y H s)
 (h:te Y H λx H1=>∃a C dx fs g,x=.ref a/\H1 a=some (.ins C dx fs)/\Cls X.K C/\fU X.K C m g/\fs.lookup m=none /\
  ∀s1,Inv X pins Y H1 s1->wpAny (model X.prog X.w) X.A (callWith pos (.ref g) [.ref a] (backTo pos (starEach args X.env)) (backToKw pos (keywordEach [] X.env))) Q X.xe s1)
 (ht:eval (.Call (.Attribute e m apos) args [] pos) X.env=(do
  let ov <- eval e X.env
  standAt apos.atName
  let (f,first) <- holding [ov] (getMethod ov m pl)
  callWith pos f first (backTo pos (starEach args X.env)) (backToKw pos (keywordEach [] X.env)))):
 wpAny (model X.prog X.w) X.A (eval (.Call (.Attribute e m apos) args [] pos) X.env) Q X.xe s:=by
 refine PySem.W.methodCall_KW (pl:=pl) (thn (he pins s Y H _ I h) λu s1 ⟨x,H1,I1,rx,a,C,dx,fs,g,ex,ea,c,k,l,q⟩=>?_) ht;subst ex;obtain rfl:u=Value.ref a:=rx;exact rP I1 ea c k l (q s1 I1)
end
section
variable {X:Cx}{pins:List (Addr×Obj)}{Y:St}{H:Hp}{s:Shared}{A:Around}{E:Yq}{Q:Yq}{c:Value}{b:Bool}
inductive e8(K:W.Frag)(H:Hp):V->Value->Prop where
 |non:e8 K H .non (.type "NoneType")
 |bl (x:Bool):e8 K H (.bl x) (.type "bool")
 |int (i:Int):e8 K H (.int i) (.type "int")
 |str (x:Str):e8 K H (.str x) (.type "str")
 |flt (x:UInt64):e8 K H (.flt x) (.type "float")
 |lst {a:Addr}{xs:List V}(e:H a=some (.lst xs)):e8 K H (.ref a) (.type "list")
 |frz {a:Addr}{o:Obj}{xs:List V}(e:H a=some (.frz o (.lst xs))):e8 K H (.ref a) (.type "list")
 |tup {a:Addr}{xs:List V}(e:H a=some (.tup xs)):e8 K H (.ref a) (.type "tuple")
 |dK {a:Addr}{kvs:List (Key×V)}(e:H a=some (.dK kvs)):e8 K H (.ref a) (.type "dict")
 |dT {a:Addr}{kvs:List (List Key×V)}(e:H a=some (.dT kvs)):e8 K H (.ref a) (.type "dict")
 |ins {a C dx:Addr}{fs:List (Str×V)}(e:H a=some (.ins C dx fs)) (cl:Cls K C) (ha:PySem.W.findIn K (.ref C) "__class__"=some (some (.builtin "object.__class__")))
  (hn:PySem.W.specialIn K (.builtin "object.__class__") "__get__"=some (some (.builtin "getset_descriptor.__get__"))) (htk:PySem.W.takesIn K (.builtin "object.__class__")=some true)
  (hm:PySem.W.mroIn K C (.type "object")=some true):e8 K H (.ref a) (.ref C)
theorem DU{x:V}{u t:Value}(I:Inv X pins Y H s)(rx:aB x u)(ty:e8 X.K H x t)(e:PySem.W.kitOne X.K t c=some b)(h:∀tk,Q (.bool b) { s with toks:=tk }):
 wpAny (model X.prog X.w) A (call (.builtin "isinstance") [u,c]) Q E s:=by
 cases ty with
 |non=>cases(show u=Value.none from rx);exact QD PySem.W.kitx_none I.kIn True.intro e (λz=>nomatch z) h
 |bl y=>cases(show u=Value.bool y from rx);exact QD PySem.W.kitx_bool I.kIn True.intro e (λz=>nomatch z) h
 |int i=>obtain⟨t,q⟩:=(show ∃t,u=Value.int i t from rx);cases q;exact QD PySem.W.kitx_int I.kIn True.intro e (λz=>nomatch z) h
 |str y=>obtain⟨t,q⟩:=(show ∃t,u=Value.str y t from rx);cases q;exact QD PySem.W.kitx_str I.kIn True.intro e (λz=>nomatch z) h
 |flt y=>obtain⟨t,q⟩:=(show ∃t,u=Value.float y t from rx);cases q;exact QD PySem.W.kitx_float I.kIn True.intro e (λz=>nomatch z) h
 |@lst a xs ea=>
  cases(show u=Value.ref a from rx);obtain⟨_,_,n,_,h1⟩:=(show bF X.prog X.w H s.heap a (.lst xs)from I.hok a _ ea);exact QD PySem.W.kitx_list I.kIn ⟨_,h1,U⟩ e (λz=>nomatch z) h
 |@frz a ob xs ea=>
  cases(show u=Value.ref a from rx);obtain⟨_,_,_,n,_,h1⟩:=(show bF X.prog X.w H s.heap a (.frz ob (.lst xs))from I.hok a _ ea);exact QD PySem.W.kitx_list I.kIn ⟨_,h1,U⟩ e (λz=>nomatch z) h
 |@tup a xs ea=>
  cases(show u=Value.ref a from rx);obtain⟨_,_,_,p⟩:=(show bF X.prog X.w H s.heap a (.tup xs)from I.hok a _ ea);obtain⟨o,h1,h2,_⟩:=p;exact QD PySem.W.kitx_tuple I.kIn ⟨o,h1,h2⟩ e (λz=>nomatch z) h
 |@dK a kvs ea=>
  cases(show u=Value.ref a from rx);obtain⟨_,_,vs,_,p⟩:=(show bF X.prog X.w H s.heap a (.dK kvs)from I.hok a _ ea);obtain⟨o,es,ep,h1,h2,_⟩:=p;exact QD PySem.W.kitx_dict I.kIn ⟨o,h1,h2.1⟩ e (λz=>nomatch z) h
 |@dT a kvs ea=>
  cases(show u=Value.ref a from rx);obtain⟨_,_,xs,_,o,es,ep,h1,h2,_⟩:=(show bF X.prog X.w H s.heap a (.dT kvs)from I.hok a _ ea);exact QD PySem.W.kitx_dict I.kIn ⟨o,h1,h2.1⟩ e (λz=>nomatch z) h
 |@ins a C dx fs ea cl ha hn htk hm=>
  cases(show u=Value.ref a from rx);obtain⟨mA,O,_⟩:=lT I.hok ea;obtain⟨od,J,_⟩:=O.look;exact QD (PySem.W.kitx_own (cl.get _) cl.hd ha hn htk hm) I.kIn J e (λz=>nomatch z) h
end
structure ce(k:Nat)(A:Around):Prop where
 hd:A.handled=none
 dp:A.depth+3 * k+5<recursionLimit
 un:A.units+16 * k+200<cLine
 gd:A.guards=some []
theorem ce.mono{j k:Nat}{A:Around}(r:ce k A)(h:j<=k):ce j A:=⟨r.hd,by have:=r.dp;omega,by have:=r.un;omega,r.gd⟩
theorem ce.deeper{k:Nat}{A:Around}(r:ce (k+1) A)(env:Env):ce k (A.deeper env):=
 ⟨r.hd,by have:=r.dp;show A.depth+1+3 * k+5<_;omega,by have:=r.un;show A.units+3+16 * k+200<_;omega,r.gd⟩
theorem Do{A:Around}{C:Addr}{us:List Value}{kw:List (Str×Value)}:(A.under (.builtin "type.__call__" ⟨.ref C::us,kw⟩)).depth=A.depth+1:=by
 first|rfl|simp[Around.under,Code.weight,Code.isCreation,Code.isGuard,Code.isCaller,Code.frames,Code.isFrame,guardIds]
theorem Dl{A:Around}{C:Addr}{us:List Value}{kw:List (Str×Value)}:(A.under (.builtin "type.__call__" ⟨.ref C::us,kw⟩)).units=A.units+1:=by
 first|rfl|simp[Around.under,Code.cUnits,Code.frames,Code.isFrame]
theorem Dn{A:Around}{C:Addr}{us:List Value}{kw:List (Str×Value)}:(A.under (.builtin "type.__call__" ⟨.ref C::us,kw⟩)).guards=A.guards:=by
 first|rfl|simp[Around.under,Code.guards,Code.isGuard,guardIds,Around.pushGuards]
theorem ce.make{k:Nat}{A:Around}(r:ce (k+1) A)(C:Addr)(us:List Value)(kw:List (Str×Value)):ce k (A.under (.builtin "type.__call__" ⟨.ref C::us,kw⟩)):=
 ⟨r.hd,by have:=r.dp;rw[Do];omega,by have:=r.un;rw[Dl];omega,by rw[Dn];exact r.gd⟩
theorem ce.depth{k:Nat}{A:Around}(r:ce k A):A.depth<recursionLimit:=by have:=r.dp;omega
theorem ce.units{k:Nat}{A:Around}(r:ce k A):A.units+64<cLine:=by have:=r.un;omega
def tD:TA:=λ_ H Q=>Q [] H
def zn(ta:TE)(tr:TA):TA:=λY H Q=>ta Y H λx H1=>tr Y H1 λxs H2=>Q (x::xs) H2
section
variable {X:Cx}{e:Expr}{es:List Expr}{te:TE}{t:TA}{pos:Pos}
theorem ae:PA X [] tD:=λ_ _ _ _ H Q I h=>Calls.spliced_nil ⟨[],H,I,.nil,h⟩
theorem a9(ha:PE X e te)(hr:PA X es t)(hs:starEach (e::es) X.env=(false,eval e X.env)::starEach es X.env:=by rfl):PA X (e::es) (zn te t):=by
 intro pos pins s Y H Q I h;rw[hs];show wpAny _ _ (spliced ((false,eval e X.env)::backTo pos (starEach es X.env))) _ _ s;refine Calls.spliced_cons (thn (ha pins s Y H _ I h) λu s1 ⟨x,H1,I1,r1,q1⟩=>?_);exact thn (hr pos pins s1 Y H1 _ I1 q1) λus s2 ⟨xs,H2,I2,r2,q2⟩=>⟨x::xs,H2,I2,.cons r1 r2,q2⟩
def mD(t:TA):TE:=λY H Q=>t Y H λxs H1=>xs.length<=sizeLine/\∀p,H1 p=none->Q (.ref p) (upd H1 p (.tup xs))
def mE(t:TA):TE:=λY H Q=>t Y H λxs H1=>xs.length<=sizeLine/\∀p,H1 p=none->Q (.ref p) (upd H1 p (.lst xs))
theorem BI{x1}(h:PA X es t):PE X (.Tuple es x1 pos) (mD t):=by
 intro pins s Y H Q I hq;refine wpAny_Tuple_spliced (thn (h pos pins s Y H _ I hq) λus s1 ⟨xs,H1,I1,r,z,q⟩=>⟨by rw[<- r.length];exact z,?_⟩);have hf:H1 s1.heap.objs.size=none:=I1.hok.fresh (qg _);refine⟨.ref s1.heap.objs.size,upd H1 s1.heap.objs.size (.tup xs),I1.laid (t':=s1.toks) (λb u e=>qb _ e) (qg _) ?_,U,q _ hf⟩;exact⟨z,us,r,⟨_,qu _ U,U,_,U⟩⟩
theorem BM(h:PA X es t):PE X (.List es pos) (mE t):=by
 intro pins s Y H Q I hq;refine wpAny_List_spliced (thn (h pos pins s Y H _ I hq) λus s1 ⟨xs,H1,I1,r,z,q⟩=>⟨by rw[<- r.length];exact z,?_⟩);have hf:H1 s1.heap.objs.size=none:=I1.hok.fresh (qg _);refine⟨.ref s1.heap.objs.size,upd H1 s1.heap.objs.size (.lst xs),I1.laid (t':=s1.toks) (λb u e=>qb _ e) (qg _) ?_,U,q _ hf⟩;exact⟨z,us,0,r,qu _ U⟩
end
abbrev Sp:=List V->Hp->VK->XK->Prop
abbrev CXT:=List Env->Hp->Shared->XK->Value->Shared->Prop
structure iJ(P:Program)(w:World)(K:W.Frag)(mg:Str->Option Value)(base:Heap)(A:Around)(outer:List Env)(s:Shared)(H:Hp):Prop where
 frames:A.frames=some outer
 mod:Mod K mg base
 bs:∀b o,base.get? b=some o->s.heap.get? b=some o/\H b=none
 bsz:base.objs.size<=s.heap.objs.size
 funs:s.heap.FunFrames base outer
 frf:∀b∈frs outer,H b=none
 hok:HOk P w H s.heap
 bare:AllBare s.gens
def CE(outer:List Env)(P:Program)(w:World)(H:Hp)(s:Shared)(Q:VK)(u:Value)(s':Shared):Prop:=
 ∃v H',s'.os=s.os/\AllBare s'.gens/\Un (frs outer) [] H H' s.heap s'.heap/\HOk P w H' s'.heap/\aB v u/\Q v H'
def CR(CX:CXT)(outer:List Env)(P:Program)(w:World)(H:Hp)(s:Shared)(Q:VK)(E:XK)(r:Result)(s':Shared):Prop:=
 match r with
 |.ok (.ret u)=>CE outer P w H s Q u s'
 |.ok _=>False
 |.error e=>CX outer H s E e s'
structure aN(P:Program)(w:World)(K:W.Frag)(mg:Str->Option Value)(base:Heap)(CX:CXT)(k:Nat)(f:Addr)(fd:FuncData)(ps:List Str)(sp:Sp):Prop where
 len:∀vs H Q E,sp vs H Q E->vs.length=ps.length
 run:∀(A:Around)(outer:List Env)(s:Shared)(H:Hp)(args:Args)(us:List Value)(vs:List V)(Q:VK)(E:XK),ce k A->iJ P w K mg base A outer s H->BindsTo s fd args (ps.zip us)->az vs us->sp vs H Q E->
  codeAny (model P w) A (.call (.ref f) args) (CR CX outer P w H s Q E) s
theorem iJ.make{P:Program}{w:World}{K:W.Frag}{mg:Str->Option Value}{base:Heap}{A:Around}{outer:List Env}{s:Shared}{H:Hp}(e:iJ P w K mg base A outer s H)(C:Addr)(us:List Value)(kw:List (Str×Value)):
 iJ P w K mg base (A.under (.builtin "type.__call__" ⟨.ref C::us,kw⟩)) outer s H:=⟨by first|exact e.frames|(simpa[Around.under,Code.envs,Code.isFrame,pushEnvs]using e.frames),e.mod,e.bs,e.bsz,e.funs,e.frf,e.hok,e.bare⟩
section
variable {X:Cx}{pins:List (Addr×Obj)}{Y:St}{H:Hp}{s s':Shared}
theorem Inv.env0(I:Inv X pins Y H s):iJ X.prog X.w X.K X.mg X.base X.A X.stack s H:=
 ⟨I.ok.frames,I.ok.mod,I.bs,qF I.ok.bsz I.sz,I.stack,I.stkFree,I.hok,I.bare⟩
theorem Inv.after{Q:VK}{u:Value}(I:Inv X pins Y H s)(h:CE X.stack X.prog X.w H s Q u s'):EP X pins Y Q u s':=by
 obtain⟨v,H',os,bare,un,hok,r,q⟩:=h;obtain⟨hh,g,d,t,os'⟩:=s';obtain rfl:os'=s.os:=os;exact⟨v,H',I.call (h':=hh) (g':=g) (d':=d) (t':=t) (ch:=[]) un hok bare (λb z=>Qb z (by simp)),r,q⟩
end
def zp(sp:Sp)(dvs:List V)(E:XK)(t:TA):TE:=λY H Q=>t Y H λvs H1=>sp (vs++dvs) H1 Q E
def tE(C:Addr)(m:Str)(sp:Sp)(dvs:List V)(E:XK)(ta:TE)(t:TA):TE:=λY H Q=>ta Y H λx H1=>∃a dx fs,x=.ref a/\H1 a=some (.ins C dx fs)/\fs.lookup m=none /\
 t Y H1 λvs H2=>sp (x::(vs++dvs)) H2 Q E
def za(C:Addr)(sp:Sp)(dvs:List V)(E:XK)(t:TA):TE:=λY H Q=>t Y H λvs H1=>∀x dx,H1 x=none->H1 dx=none->dx≠x->
 sp (.ref x::(vs++dvs)) (upd (upd H1 dx (.own x)) x (.ins C dx [])) (λv H2=>v=.non/\Q (.ref x) H2) E
def aQ(K:W.Frag)(fd:FuncData)(ps:List Str)(ds:List Value):Prop:=
 ∀(s:Shared)(us:List Value),K.In s.heap->(us++ds).length=ps.length->BindsTo s fd ⟨us,[]⟩ (ps.zip (us++ds))
theorem aQ.all{K:W.Frag}{fd:FuncData}{ps:List Str}(h:∀us:List Value,us.length=ps.length->bindArgs fd ⟨us,[]⟩=pure (ps.zip us)):aQ K fd ps []:=λs us _ hl=>by
 rw[qE]at hl ⊢;exact .of_eq (h us hl)
def iH(CX:CXT)(X:Cx)(E:XK):Prop:=∀(pins:List (Addr×Obj))(Y:St)(H:Hp)(s:Shared)(e:Value)(s':Shared),Inv X pins Y H s->CX X.stack H s E e s'->X.xe e s'
section
variable {X:Cx}{CX:CXT}{k:Nat}{f C:Addr}{fd:FuncData}{ps:List Str}{sp:Sp}{dvs:List V}{ds:List Value}{E:XK}{x m:Str}{p pos apos:Pos}{e o:Expr}{es:List Expr}{ta:TE}{t:TA}
theorem oC{pins:List (Addr×Obj)}{Y:St}{H:Hp}{s:Shared}{Q:VK}{us:List Value}{vs:List V}(F:aN X.prog X.w X.K X.mg X.base CX k f fd ps sp)(hr:ce k X.A)(hb:aQ X.K fd ps ds)(hd:az dvs ds)(hx:iH CX X E)
 (I:Inv X pins Y H s) (r:az vs us) (h:sp (vs++dvs) H Q E):wpAny (model X.prog X.w) X.A (call (.ref f) us) (EP X pins Y Q) X.xe s:=by
 have r2:az (vs++dvs) (us++ds):=r.append hd;have hl:(us++ds).length=ps.length:=by rw[<- r2.length];exact F.len _ _ _ _ h
 refine wpAny_call (codeAny_mono (F.run X.A X.stack s H ⟨us,[]⟩ (us++ds) (vs++dvs) Q E hr I.env0 (hb s us I.kIn hl) r2 h) λr s' hq=>?_)
 cases r with
 |error e=>exact hx pins Y H s e s' I hq
 |ok fl=>
  cases fl with
  |ret u=>exact I.after hq
  |next=>exact False.elim hq
  |brk=>exact False.elim hq
  |cont=>exact False.elim hq
theorem aG(F:aN X.prog X.w X.K X.mg X.base CX k f fd ps sp)(hr:ce k X.A)(hg:Gl X x)(hm:X.mg x=some (.ref f))(hk:PySem.W.keepIn X.K (.ref f)=true)(hb:aQ X.K fd ps ds)(hd:az dvs ds)(hx:iH CX X E)
 (ha:PA X (e::es) t) (hdb:(x == ("__debug__":Str))=false:=by decide) (he:starEach (e::es) X.env=(false,eval e X.env)::starEach es X.env:=by rfl) (hpl:(backTo pos (starEach es X.env)).any (·.1)=false:=by rfl):
 PE X (.Call (.Name x p) (e::es) [] pos) (zp sp dvs E t):=by
 intro pins s Y H Q I h;refine wpAny_Call_Name_kw (rD I hg hm ?_ hdb);refine PySem.W.callWith_K (h₀:=X.base) I.ok.mod.kin hk (thn (ha pos pins s Y H _ I h) λus s1 ⟨vs,H1,I1,r,q⟩=>⟨I1.kIn,?_⟩) he hpl;exact oC F hr hb hd hx I1 r q
theorem pG{pl:Sem Bool}(he:PE X o ta)(c:Cls X.K C)(hm:fU X.K C m f)(F:aN X.prog X.w X.K X.mg X.base CX k f fd ps sp)(hr:ce k X.A)(hb:aQ X.K fd ps ds)(hd:az dvs ds)(hx:iH CX X E)(ha:PA X (e::es) t)
 (hst:starEach (e::es) X.env=(false,eval e X.env)::starEach es X.env:=by rfl) (hpl:(backTo pos (starEach es X.env)).any (·.1)=false:=by rfl)
 (ht:eval (.Call (.Attribute o m apos) (e::es) [] pos) X.env=(do
  let ov <- eval o X.env
  standAt apos.atName
  let (f,first) <- holding [ov] (getMethod ov m pl)
  callWith pos f first (backTo pos (starEach (e::es) X.env)) (backToKw pos (keywordEach [] X.env))):=by rfl):
 PE X (.Call (.Attribute o m apos) (e::es) [] pos) (tE C m sp dvs E ta t):=by
 intro pins s Y H Q I h;refine PySem.W.methodCall_KW (pl:=pl) (thn (he pins s Y H _ I h) λu s1 ⟨x,H1,I1,rx,a,dx,fs,ex,ea,l,q⟩=>?_) ht;subst ex;obtain rfl:u=Value.ref a:=rx;refine rP I1 ea c hm l ?_;refine PySem.W.callWith_K (first:=[.ref a]) (h₀:=X.base) I.ok.mod.kin hm.kp (thn (ha pos pins s1 Y H1 _ I1 q) λus s2 ⟨vs,H2,I2,r,q2⟩=>⟨I2.kIn,?_⟩) hst hpl;exact oC (us:=.ref a::us) (vs:=.ref a::vs) F hr hb hd hx I2 (.cons U r) q2
theorem BK{pl:Sem Bool}(he:PE X o ta)(c:Cls X.K C)(hm:fU X.K C m f)(F:aN X.prog X.w X.K X.mg X.base CX k f fd ps sp)(hr:ce k X.A)(hb:aQ X.K fd ps ds)(hd:az dvs ds)(hx:iH CX X E)
 (ht:eval (.Call (.Attribute o m apos) [] [] pos) X.env=(do
  let ov <- eval o X.env
  standAt apos.atName
  let (f,first) <- holding [ov] (getMethod ov m pl)
  callWith pos f first (backTo pos (starEach [] X.env)) (backToKw pos (keywordEach [] X.env))):=by rfl):
 PE X (.Call (.Attribute o m apos) [] [] pos) (tE C m sp dvs E ta tD):=by
 intro pins s Y H Q I h;refine PySem.W.methodCall_KW (pl:=pl) (thn (he pins s Y H _ I h) λu s1 ⟨x,H1,I1,rx,a,dx,fs,ex,ea,l,q⟩=>?_) ht;subst ex;obtain rfl:u=Value.ref a:=rx;refine rP I1 ea c hm l ?_;exact PySem.W.callWith_K0 (first:=[.ref a]) I1.kIn hm.kp (oC (us:=[.ref a]) (vs:=[.ref a]) F hr hb hd hx I1 (.cons U .nil) q)
structure Mk(K:W.Frag)(C f:Addr):Prop where
 makes:PySem.W.makesIn K C=true
 init:PySem.W.findIn K (.ref C) "__init__"=some (some (.ref f))
 fn:PySem.W.isFn K (.ref f)=true
 kp:PySem.W.keepIn K (.ref C)=true
theorem AF{pins:List (Addr×Obj)}{Y:St}{H:Hp}{s:Shared}{Q:VK}{us:List Value}{vs:List V}(M:Mk X.K C f)(F:aN X.prog X.w X.K X.mg X.base CX k f fd ps sp)(hr:ce (k+1) X.A)(hb:aQ X.K fd ps ds)(hd:az dvs ds)
 (hx:iH CX X E) (I:Inv X pins Y H s) (r:az vs us)
 (h:∀x dx,H x=none->H dx=none->dx≠x->sp (.ref x::(vs++dvs)) (upd (upd H dx (.own x)) x (.ins C dx [])) (λv H2=>v=.non/\Q (.ref x) H2) E):
 wpAny (model X.prog X.w) X.A (call (.ref C) us) (EP X pins Y Q) X.xe s:=by
 have hq:=h (s.heap.objs.size+1) s.heap.objs.size (I.hok.fresh (Nat.le_succ _)) (I.hok.fresh (qg _)) (qM (Qh _));have I2:=Inv.made (C:=C) I;have r2:az (V.ref (s.heap.objs.size+1)::(vs++dvs)) (Value.ref (s.heap.objs.size+1)::(us++ds)):=.cons U (r.append hd)
 have hl:(Value.ref (s.heap.objs.size+1)::us++ds).length=ps.length:=by
  have e:=r2.length;rw[F.len _ _ _ _ hq]at e;exact e.symm
 refine wpAny_call (Dm (f:=f) I.kIn M.makes M.init (beq_iff_eq.mp M.fn) (codeAny_mono (F.run _ X.stack _ _ ⟨Value.ref (s.heap.objs.size+1)::us,[]⟩ (Value.ref (s.heap.objs.size+1)::(us++ds)) _ _ E (hr.make C us [])
  (I2.env0.make C us []) (hb _ (Value.ref (s.heap.objs.size+1)::us) I2.kIn hl) r2 hq) λr s' hq'=>?_))
 cases r with
 |error e=>exact hx pins Y _ _ e s' I2 hq'
 |ok fl=>
  cases fl with
  |ret u=>
   obtain⟨v,H',I3,rv,ev,q3⟩:=I2.after hq';subst ev;exact⟨rv,⟨V.ref (s.heap.objs.size+1),H',I3,U,q3⟩⟩
  |next=>exact False.elim hq'
  |brk=>exact False.elim hq'
  |cont=>exact False.elim hq'
theorem BL(M:Mk X.K C f)(F:aN X.prog X.w X.K X.mg X.base CX k f fd ps sp)(hr:ce (k+1) X.A)(hg:Gl X x)(hm:X.mg x=some (.ref C))(hb:aQ X.K fd ps ds)(hd:az dvs ds)(hx:iH CX X E)
 (ha:PA X (e::es) t) (hdb:(x == ("__debug__":Str))=false:=by decide) (he:starEach (e::es) X.env=(false,eval e X.env)::starEach es X.env:=by rfl) (hpl:(backTo pos (starEach es X.env)).any (·.1)=false:=by rfl):
 PE X (.Call (.Name x p) (e::es) [] pos) (za C sp dvs E t):=by
 intro pins s Y H Q I h;refine wpAny_Call_Name_kw (rD I hg hm ?_ hdb);refine PySem.W.callWith_K (h₀:=X.base) I.ok.mod.kin M.kp (thn (ha pos pins s Y H _ I h) λus s1 ⟨vs,H1,I1,r,q⟩=>⟨I1.kIn,?_⟩) he hpl;exact AF M F hr hb hd hx I1 r q
end
section
variable {X:Cx}{CX:CXT}{k:Nat}{f C:Addr}{fd:FuncData}{ps ks:List Str}{sp:Sp}{E:XK}{x m:Str}{p pos apos kpos:Pos}{e o:Expr}{es:List Expr}{kws:List Keyword}{te ta:TE}{t tk:TA}{nm:Option Str}
variable {g:List Value->List Value->List Value}{gV:List V->List V->List V}
end
structure aS(N P:List Str)(sc:Scope):Prop where
 kind:sc.kind=.function
 co:sc.isCoroutine=false
 gen:sc.isGenerator=false
 nd:N.Nodup
 pre:N.take P.length=P
 par:∀x∈P,sc.names.lookup x=some .local\/sc.names.lookup x=some .cell
 nofree:∀y∈sc.names,y.2≠.free
theorem y7{kindOf:Str->Option NameKind}{x:Str}:∀{binds:List (Str×Value)}{m:Str->Option Value},(∀v,(x,v)∉binds)->bindL kindOf binds m x=m x
 |[],_,_=>rfl
 |(n,v)::r,m,h=>by
  unfold bindL;rw[y7 λw hw=>h w (qq _ hw)];split
  .have:x≠n:=by rintro rfl;exact h v qt
   simp[this]
  .rfl
theorem y9{kindOf:Str->Option NameKind}{x:Str}:∀{binds:List (Str×Value)}{m:Str->Option Value},(∀v,(x,v)∉binds)->bindC kindOf binds m x=m x
 |[],_,_=>rfl
 |(n,v)::r,m,h=>by
  unfold bindC;rw[y9 λw hw=>h w (qq _ hw)];split
  .rfl
  .have:x≠n:=by rintro rfl;exact h v qt
   simp[this]
theorem y8{kindOf:Str->Option NameKind}{x:Str}{v:Value}:∀{P:List Str}{vs:List Value}{i:Nat}{m:Str->Option Value},P.Nodup->P[i]?=some x->vs[i]?=some v->kindOf x=some .local->
 bindL kindOf (P.zip vs) m x=some v
 |[],_,_,_,_,h,_,_=>by simp at h
 |_::_,[],_,_,_,_,h,_=>by simp at h
 |p::P,w::vs,0,m,nd,h1,h2,hk=>by
  simp at h1 h2;subst h1;subst h2;show bindL kindOf ((p,w)::P.zip vs) m p=_;unfold bindL;rw[y7 λv hv=>(List.nodup_cons.mp nd).1 (List.of_mem_zip hv).1,Q8 hk];simp
 |p::P,w::vs,i+1,m,nd,h1,h2,hk=>by
  show bindL kindOf ((p,w)::P.zip vs) m x=_;unfold bindL;exact y8 (i:=i) (List.nodup_cons.mp nd).2 (by simpa using h1) (by simpa using h2) hk
theorem ya{kindOf:Str->Option NameKind}{x:Str}{v:Value}:∀{P:List Str}{vs:List Value}{i:Nat}{m:Str->Option Value},P.Nodup->P[i]?=some x->vs[i]?=some v->kindOf x≠some .local->
 bindC kindOf (P.zip vs) m x=some v
 |[],_,_,_,_,h,_,_=>by simp at h
 |_::_,[],_,_,_,_,h,_=>by simp at h
 |p::P,w::vs,0,m,nd,h1,h2,hk=>by
  simp at h1 h2;subst h1;subst h2;show bindC kindOf ((p,w)::P.zip vs) m p=_;unfold bindC;rw[y9 λv hv=>(List.nodup_cons.mp nd).1 (List.of_mem_zip hv).1,Q7 hk];simp
 |p::P,w::vs,i+1,m,nd,h1,h2,hk=>by
  show bindC kindOf ((p,w)::P.zip vs) m x=_;unfold bindC;exact ya (i:=i) (List.nodup_cons.mp nd).2 (by simpa using h1) (by simpa using h2) hk
noncomputable def start(N:List Str)(vs:List V):St:=vs.map some++List.replicate (N.length-vs.length) none
noncomputable def j9(CX:CXT)(P:Program)(w:World)(K:W.Frag)(mg:Str->Option Value)(base:Heap)(N:List Str)(qual:Str)(scope:Scope)(f:Addr)(cd:Value)(A:Around)(outer:List Env)(s:Shared)(H:Hp)(E:XK):Cx where
 prog:=P
 w:=w
 K:=K
 mg:=mg
 base:=base
 A:=A.deeper (envOfC qual scope s.heap.objs.size f cd)
 N:=N
 s₀:=s
 H₀:=H
 env:=envOfC qual scope s.heap.objs.size f cd
 outer:=outer
 stack:=envOfC qual scope s.heap.objs.size f cd::outer
 ex:=[]
 calm:=true
 fn:=λ_=>true
 pn:=[]
 xe:=λe s'=>wpAny (model P w) (A.deeper (envOfC qual scope s.heap.objs.size f cd)) (leaving (envOfC qual scope s.heap.objs.size f cd) e) (λ_ s''=>CX outer H s E e s'') (λe' s''=>CX outer H s E e' s'') s'
theorem xW{sc:Scope}{n:Nat}{x:Str}(h:sc.names.lookup x=some .cell):∃c,(cellsFrom n sc.names []).lookup x=some c:=by
 have q:=PySem.W.cellsFrom_some sc.names n [] (.inl h);exact Option.isSome_iff_exists.mp q
theorem DW{CX:CXT}{P:Program}{w:World}{K:W.Frag}{mg:Str->Option Value}{base:Heap}{N ps:List Str}{qual:Str}{scope:Scope}{f:Addr}{cd:Value}{A:Around}{outer:List Env}{s s1:Shared}{H:Hp}{E:XK}{us:List Value}{vs:List V}
 (S:aS N ps scope) (hd:A.handled=none) (e0:iJ P w K mg base A outer s H) (hl:vs.length=ps.length) (r:az vs us)
 (x:InCallC s s.heap.objs.size (bindL (envOfC qual scope s.heap.objs.size f cd).kindOf (ps.zip us) λ_=>none) (cellsFrom (s.heap.objs.size+1) scope.names []) (bindC (envOfC qual scope s.heap.objs.size f cd).kindOf (ps.zip us) λ_=>none) s1):
 Inv (j9 CX P w K mg base N qual scope f cd A outer s H E) [] (start N vs) H s1:=by
 have hpl:ps.length<=N.length:=by have:=congrArg List.length S.pre;rw[qQ]at this;omega
 obtain⟨h1,tk,rfl,hk⟩:=x.done;have noA:∀b:Addr,b∉(j9 CX P w K mg base N qual scope f cd A outer s H E).ex:=λb z=>Qb (show b∈([]:List Addr)from z) (by simp)
 refine⟨⟨e0.mod,S.kind,U,U,qg _,λy z c h1 h2=>?_,λy hy=>?_,λy c _ h=>?_,λ_=>hd,Around.frames_deeper e0.frames,.inr ⟨U,U⟩,λb z=>Qb z (noA b),e0.bs,e0.bsz,λb _ _=>noA b,λb z=>Qb z (noA b),e0.funs,e0.frf⟩,
  rfl,e0.bare,Un.kept hk,⟨_,x.toInCall.ns,λi y v h1 h2 h3=>?_⟩,λy c h=>⟨_,x.cell y c h⟩,e0.hok.fresh (qg _),λy c h=>?_,λp hp=>Qb (show p∈([]:List (Addr×Obj))from hp) (by simp),e0.hok.kept hk,?_⟩
 .exact name_of_addr x.apart (Qo h1) (Qo h2)
 .have hy:scope.names.lookup y=some .cell\/scope.names.lookup y=some .free:=hy;rcases hy with hy|hy
  .exact xW hy
  .exact Qb U (S.nofree _ (Qo hy))
 .exact Nat.le_of_lt (x.above y c (Qo h))
 .have hi:i<vs.length:=by
   unfold start at h2;by_cases hi:i<vs.length
   .exact hi
   .rw[qR (by simpa using hi)]at h2;rw[List.getElem?_replicate]at h2;split at h2<;>cases h2
  have ha:vs[i]?=some v:=by
   unfold start at h2;rw[Qc (by simpa using hi),qK]at h2
   cases e:vs[i]? with
   |none=>rw[e]at h2;cases h2
   |some a=>rw[e]at h2;cases h2;rfl
  obtain⟨u,hu,rv⟩:=r.get ha
  have hp:ps[i]?=some y:=by
   rw[<- S.pre,List.getElem?_take_of_lt Yo];exact h1
  have ndP:ps.Nodup:=by rw[<- S.pre];exact S.nd.sublist (List.take_sublist _ _)
  refine⟨u,rv,?_⟩;rcases S.par y (qG hp)with k|k
  .exact .inl ⟨k,y8 ndP hp hu k⟩
  .obtain⟨c,e⟩:=xW (n:=s.heap.objs.size+1) k;refine .inr ⟨.inl k,c,e,?_⟩;have q:=x.cell y c e;rw[ya ndP hp hu (by show scope.names.lookup y≠_;rw[k];decide)]at q;exact q
 .exact e0.hok.fresh (Nat.le_of_lt (x.above y c (Qo h)))
 .unfold start;show _=N.length;rw[qc,qa,List.length_replicate];omega
theorem Eg{CX:CXT}{P:Program}{w:World}{K:W.Frag}{mg:Str->Option Value}{base:Heap}{k:Nat}{f:Addr}{name qual:Str}{params:Arguments}{body:List Stmt}{scope:Scope}{dV kV doc pm cdv ct oc:Value}{an od:Option Addr}
 {osl:Array (Option Value)}{N ps:List Str}{sp:Sp}(lk:K.lookup f=some ⟨oc,od,.func (PySem.W.fnOf name qual params body scope dV kV doc pm an cdv ct),osl⟩) (hcd:PySem.W.codeIn K cdv qual=true) (S:aS N ps scope)
 (len:∀vs H Q E,sp vs H Q E->vs.length=ps.length)
 (hbody:∀(A:Around)(outer:List Env)(s:Shared)(H:Hp)(vs:List V)(Q:VK)(E:XK),ce k (A.deeper (envOfC qual scope s.heap.objs.size f cdv))->sp vs H Q E->
  ∃t,PSs (j9 CX P w K mg base N qual scope f cdv A outer s H E) body t/\t { nx:=λ_ H'=>Q .non H',rt:=Q } (start N vs) H):
 aN P w K mg base CX (k+1) f (PySem.W.fnOf name qual params body scope dV kV doc pm an cdv ct) ps sp:=by
 refine⟨len,λA outer s H args us vs Q E hr e0 hb r hsp=>?_⟩;have hl:=len _ _ _ _ hsp;have KX:K.In s.heap:=e0.mod.kin.keeps λb o e=>(e0.bs b o e).1;have lim:s.heap.NoLimit:=e0.mod.nolimit.keeps λb o e=>(e0.bs b o e).1
 have hkind:∀y∈ps.zip us,scope.names.lookup y.1=some .local\/(scope.names.lookup y.1=some .cell/\((cellsFrom (s.heap.objs.size+1) scope.names []).lookup y.1).isSome=true):=λ⟨n,v⟩ hy=>by
  rcases S.par n (List.of_mem_zip hy).1 with q|q
  .exact .inl q
  .exact .inr ⟨q,PySem.W.cellsFrom_some _ _ _ (.inl q)⟩
 refine codeAny_call_function hr.depth (KX _ _ lk) U S.co S.gen U (PySem.W.codeRec_of KX hcd) (hb _ _ _ _ ?_);refine wpAny_newFunctionEnv_cells S.kind hkind λenv he s1 x=>?_;subst he;refine⟨lim.keeps x.toInCall.keep,codeAny_func ?_⟩;obtain⟨t,ht,hq⟩:=hbody A outer s H vs Q E (hr.deeper _) hsp;have I:Inv (j9 CX P w K mg base N qual scope f cdv A outer s H E) [] (start N vs) H s1:=DW S hr.hd e0 hl r x;refine wpAny_mono (ht [] s1 (start N vs) H _ I hq) (λfl s' hs=>?_) λe s' hs=>hs
 have fin:∀{Y':St}{H':Hp}{v:V}{u:Value},Inv (j9 CX P w K mg base N qual scope f cdv A outer s H E) [] Y' H' s'->aB v u->Q v H'->CE outer P w H s Q u s':=
  λ{Y' H' v u} J rv q=>⟨v,H',J.os,J.bare,J.base,J.hok,rv,q⟩
 cases fl with
 |ret u=>
  obtain⟨v,Y',H',J,rv,q⟩:=hs;exact fin J rv q
 |next=>
  obtain⟨Y',H',J,q⟩:=hs;exact fin (v:=V.non) (u:=Value.none) J U q
 |brk=>
  obtain⟨_,_,_,q⟩:=hs;exact False.elim q
 |cont=>
  obtain⟨_,_,_,q⟩:=hs;exact False.elim q
section
variable {X:Cx}{x:Str}{p pos:Pos}{e:Expr}{es:List Expr}{t:TA}{id T:String}{r:List V->Hp->VK->Prop}
def tCB(r:List V->Hp->VK->Prop)(t:TA):TE:=λY H Q=>t Y H λvs H1=>r vs H1 Q
theorem aW(hc:cJ X (.builtin id) r)(hg:Gl X x)(hm:X.mg x=none)(hv:bootBuiltins x=some (.builtin id))(ha:PA X (e::es) t)(hn:x≠"__name__":=by decide)(hdb:(x == ("__debug__":Str))=false:=by decide)
 (he:starEach (e::es) X.env=(false,eval e X.env)::starEach es X.env:=by rfl) (hpl:(backTo pos (starEach es X.env)).any (·.1)=false:=by rfl):PE X (.Call (.Name x p) (e::es) [] pos) (tCB r t):=by
 intro pins s Y H Q I h;refine wpAny_Call_Name_kw (gU I hg hm hv ?_ hn hdb);exact PyProof.Rows.callWith_builtin1 (thn (ha pos pins s Y H _ I h) λus s1 ⟨vs,H1,I1,r1,q1⟩=>hc pins s1 Y H1 vs us Q I1 r1 q1) he hpl
theorem eQ(hc:cJ X (.type T) r)(hg:Gl X x)(hm:X.mg x=none)(hv:bootBuiltins x=some (.type T))(ha:PA X (e::es) t)(hn:x≠"__name__":=by decide)(hdb:(x == ("__debug__":Str))=false:=by decide)
 (he:starEach (e::es) X.env=(false,eval e X.env)::starEach es X.env:=by rfl) (hpl:(backTo pos (starEach es X.env)).any (·.1)=false:=by rfl):PE X (.Call (.Name x p) (e::es) [] pos) (tCB r t):=by
 intro pins s Y H Q I h;refine wpAny_Call_Name_kw (gU I hg hm hv ?_ hn hdb);exact PyProof.Rows.callWith_type1 (thn (ha pos pins s Y H _ I h) λus s1 ⟨vs,H1,I1,r1,q1⟩=>hc pins s1 Y H1 vs us Q I1 r1 q1) he hpl
end
end L2
namespace HT
open PySem PyProof.Rows
section
open PySem.SeqAt
open PySem.AutoSeq1 (wpAny_loadPart')
open PySem.MeetsSeq PySem.MeetsSeq2 PySem.MeetsSeq3
end
section
variable {prog:Program}{w:World}{A:Around}{E:Yq}{s:Shared}
noncomputable def sIx(n d:Nat):Option Int->Nat
 |none=>d
 |some v=>if v<0 then(v+(n:Int)).toNat else min v.toNat n
theorem sIx_none(n d:Nat):sIx n d none=d:=U
theorem sIx_nat(n d k:Nat):sIx n d (some (k:Int))=min k n:=by
 show(if(k:Int)<0 then((k:Int)+(n:Int)).toNat else min (k:Int).toNat n)=min k n;rw[Q7 Yo,Q5]
theorem sIx_le(n d:Nat)(hd:d<=n)(o:Option Int):sIx n d o<=n:=by
 cases o with
 |none=>exact hd
 |some v=>
  show(if v<0 then(v+(n:Int)).toNat else min v.toNat n)<=n;by_cases hv:v<0
  .rw[Q8 hv];omega
  .rw[Q7 hv];exact Nat.min_le_right _ _
end
end HT
namespace L2
open PySem PySem.Spec PyProof.Rows
abbrev TO:=St->Hp->(Option Int->Hp->Prop)->Prop
def PO(X:Cx)(e:Option Expr)(t:TO):Prop:=
 ∀(pins:List (Addr×Obj))(s:Shared)(Y:St)(H:Hp)(Q:Option Int->Hp->Prop),Inv X pins Y H s->t Y H Q->
  wpAny (model X.prog X.w) X.A (evalPart e X.env) (λu s'=>∃o H',Inv X pins Y H' s'/\IsPart u o/\Q o H') X.xe s
def yY:TO:=λ_ H Q=>Q none H
def yV(t:TE):TO:=λY H Q=>t Y H λx H1=>∃i,x=.int i/\Q (some i) H1
section
variable {X:Cx}{e:Expr}{te:TE}{lo hi:Option Expr}{tl th:TO}{pos p2:Pos}
theorem i9:PO X none yY:=by
 intro pins s Y H Q I h;rw[evalPart_none];exact qf ⟨none,H,I,.none,h⟩
theorem fk(h:PE X e te):PO X (some e) (yV te):=by
 intro pins s Y H Q I hw;rw[evalPart_some];refine thn (h pins s Y H _ I hw) λu s1 ⟨x,H1,I1,r1,q1⟩=>?_;obtain⟨i,rfl,q⟩:=q1;obtain⟨t,rfl⟩:=r1;exact⟨some i,H1,I1,.int i t,q⟩
def SlR(X:Cx)(r:V->Option Int->Option Int->Hp->VK->Prop):Prop:=
 ∀(pins:List (Addr×Obj))(s:Shared)(Y:St)(H:Hp)(x:V)(v vl vu:Value)(lo hi:Option Int)(sl:Addr)(Q:VK),Inv X pins Y H s->aB x v->s.heap.IsSliceOf sl vl vu .none->IsPart vl lo->IsPart vu hi->r x lo hi H Q->
  ∃T id,typeLookup (.type T) "__getitem__"=pure (some (.builtin id))/\s.TypeIs v T/\wpAny (model X.prog X.w) X.A (getItem v (.ref sl)) (EP X pins Y Q) X.xe s
def tSl(r:V->Option Int->Option Int->Hp->VK->Prop)(te:TE)(tl th:TO):TE:=λY H Q=>te Y H λx H1=>tl Y H1 λl H2=>th Y H2 λu H3=>r x l u H3 Q
theorem gf{r:V->Option Int->Option Int->Hp->VK->Prop}(hr:SlR X r)(he:PE X e te)(hl:PO X lo tl)(hu:PO X hi th):PE X (.Subscript e (.Slice lo hi none p2) pos) (tSl r te tl th):=by
 intro pins s Y H Q I h;refine Subscript_ (thn (he pins s Y H _ I h) λv s1 ⟨x,H1,I1,r1,q1⟩=>?_);refine wpAny_Slice (thn (hl pins s1 Y H1 _ I1 q1) λvl s2 ⟨l,H2,I2,pl,q2⟩=>thn (hu pins s2 Y H2 _ I2 q2) λvu s3 ⟨u,H3,I3,pu,q3⟩=>?_);rw[evalPart_none];refine qf ?_;have I4:Inv X pins Y H3 { s3 with heap:=s3.heap.push { cls:=.type "slice",data:=.fields #[vl,vu,.none] } }:=I3.kept (t':=s3.toks) λb ob q=>qb _ q;obtain⟨T,id,hT,ht,hg⟩:=hr pins { s3 with heap:=s3.heap.push { cls:=.type "slice",data:=.fields #[vl,vu,.none] } } Y H3 x v vl vu l u s3.heap.objs.size Q I4 r1 (Heap.IsSliceOf.new ..) pl pu q3;show wpAny (model X.prog X.w) X.A (subscriptTail e (.Slice lo hi none p2) v (.ref s3.heap.objs.size)) (EP X pins Y Q) X.xe { s3 with heap:=s3.heap.push { cls:=.type "slice",data:=.fields #[vl,vu,.none] } };exact tail_any (ops:=[.ref s3.heap.objs.size,v]) ht hT hg (by with_unfolding_all rfl)
noncomputable def eV(xs:List V)(lo hi:Option Int):List V:=(xs.drop (HT.sIx xs.length 0 lo)).take (HT.sIx xs.length xs.length hi-HT.sIx xs.length 0 lo)
theorem EO(xs:List V)(lo hi:Option Int):(eV xs lo hi).length<=xs.length:=by
 unfold eV;rw[qQ,Q6];omega
end
noncomputable def ixN(n:Nat)(i:Int):Option Nat:=if 0<=i then(if i<n then some i.toNat else none)else if -(n:Int)<=i then some (i+n).toNat else none
noncomputable def atI{α:Type}(xs:List α)(i:Int):Option α:=(ixN xs.length i).bind λj=>xs[j]?
theorem wY{n:Nat}{i:Int}{j:Nat}(h:ixN n i=some j):seqIndex? i n=some j/\j<n/\-(n:Int)<=i/\i<n:=by
 unfold ixN at h;by_cases h0:0<=i
 .rw[Q8 h0]at h;by_cases h1:i<n
  .rw[Q8 h1]at h;have e:i.toNat=j:=qP h;exact⟨by rw[seqIndex_of h0 h1,e],Yo,Yo,h1⟩
  .rw[Q7 h1]at h;cases h
 .rw[Q7 h0]at h;by_cases h1:-(n:Int)<=i
  .rw[Q8 h1]at h;have e:(i+n).toNat=j:=qP h;exact⟨by rw[seqIndex_neg Yo h1,e],Yo,h1,Yo⟩
  .rw[Q7 h1]at h;cases h
theorem sE{α:Type}{xs:List α}{i:Int}{v:α}(h:atI xs i=some v):∃j,seqIndex? i xs.length=some j/\xs[j]?=some v/\j<xs.length/\-(xs.length:Int)<=i/\i<xs.length:=by
 unfold atI at h
 cases e:ixN xs.length i with
 |none=>rw[e]at h;cases h
 |some j=>
  rw[e]at h;obtain⟨h1,h2,h3,h4⟩:=wY e;exact⟨j,h1,h,h2,h3,h4⟩
theorem br{α:Type}{xs:List α}{j:Nat}{v:α}(h:xs[j]?=some v):atI xs (j:Int)=some v:=by
 have hj:j<xs.length:=(qh.mp h).1
 have e:ixN xs.length (j:Int)=some j:=by
  unfold ixN;rw[Q8 Yo,Q8 Yo];simp
 unfold atI;rw[e];exact h
def Fy(b:Expr):Prop:=∀o i,subscripted b false o i=operate [o,i] (getItem o i)
def IxR(X:Cx)(r:R2):Prop:=
 ∀(value slice:Expr)(pins:List (Addr×Obj))(s:Shared)(Y:St)(H:Hp)(x y:V)(v u:Value)(Q:VK),Inv X pins Y H s->aB x v->aB y u->r x y H Q->
  subscripted slice false v u=operate [v,u] (getItem v u)->wpAny (model X.prog X.w) X.A (subscriptTail value slice v u) (EP X pins Y Q) X.xe s
def MtR(X:Cx)(id:String)(r:V->List V->Hp->VK->Prop):Prop:=
 ∀(pins:List (Addr×Obj))(s:Shared)(Y:St)(H:Hp)(x:V)(xs:List V)(v:Value)(us:List Value)(Q:VK),Inv X pins Y H s->aB x v->az xs us->r x xs H Q->
  wpAny (model X.prog X.w) X.A (call (.builtin id) (v::us)) (EP X pins Y Q) X.xe s
section
variable {X:Cx}{a b:Expr}{ta tb:TE}{pos:Pos}
theorem ai{r:R2}(hr:IxR X r)(ha:PE X a ta)(hb:PE X b tb)(hs:Fy b):PE X (.Subscript a b pos) (tOp r ta tb):=by
 intro pins s Y H Q I h;exact Subscript_ (sD ha hb I h λv u s2 x y H2 I2 rx ry q=>hr a b pins s2 Y H2 x y v u Q I2 rx ry q (hs _ _))
def B5(K:W.Frag):R2:=λx y H Q=>∃p xs i v,x=.ref p/\y=.int i/\SqL K H p xs/\atI xs i=some v/\Q v H
def B3(K:W.Frag):R2:=λx y H Q=>∃p xs i v,x=.ref p/\y=.int i/\SqT K H p xs/\atI xs i=some v/\Q v H
def B4:R2:=λx y H Q=>∃z i c,x=.str z/\y=.int i/\z.length<=sizeLine/\atI z.cps.toList i=some c/\Q (.str ⟨#[c]⟩) H
theorem DP:IxR X (B5 X.K):=by
 intro value slice pins s Y H x y v u Q I rx ry h hs;obtain⟨p,xs,i,z,rfl,rfl,hq,he,q⟩:=h;cases rx;obtain⟨t,rfl⟩:=ry;obtain⟨its,r,pl,hz⟩:=I.list hq;obtain⟨j,h1,h2,h3,h4,h5⟩:=sE he;obtain⟨w,ew,rw'⟩:=r.get h2;have hl:=r.length;have hn:=jJ;have fin:EP X pins Y Q w s:=⟨z,H,I,rw',q⟩;by_cases h0:0<=i
 .have hj:i.toNat=j:=by
   rw[seqIndex_of h0 h5]at h1;exact qP h1
  exact item_listR pl.isList h0 Yo (by rw[hj];simpa using ew) fin hs
 .have hj:(i+(its.toArray.size:Int)).toNat=j:=by
   rw[seqIndex_neg Yo h4]at h1;rw[qI,<- hl];exact qP h1
  exact subscriptTail_builtinR (x:=w) pl.isList.typeIs slot_list_getitem.lookup
   (wpAny_getItem_list_neg (Q:=λr s'=>r=w/\EP X pins Y Q r s') pl.isList Yo (by rw[qI]<;>omega) Yo (by rw[hj];simpa using ew) ⟨U,fin⟩) hs
theorem DO:IxR X (B3 X.K):=by
 intro value slice pins s Y H x y v u Q I rx ry h hs;obtain⟨p,xs,i,z,rfl,rfl,hq,he,q⟩:=h;cases rx;obtain⟨t,rfl⟩:=ry;obtain⟨its,r,pl,hz⟩:=I.tuple hq;obtain⟨j,h1,h2,h3,h4,h5⟩:=sE he;obtain⟨w,ew,rw'⟩:=r.get h2;have hl:=r.length;have hn:=jJ;have fin:EP X pins Y Q w s:=⟨z,H,I,rw',q⟩
 exact subscriptTail_builtinR (x:=w) pl.typeIs slot_tuple_getitem.lookup
  (getItem_tuple (j:=j) (Q:=λr s'=>r=w/\EP X pins Y Q r s') pl Yo Yo (by rw[qI,<- hl];exact h1) (by simpa using ew) ⟨U,fin⟩) hs
theorem jM:IxR X B4:=by
 intro value slice pins s Y H x y v u Q I rx ry h hs;obtain⟨z,i,c,rfl,rfl,hz,he,q⟩:=h;obtain⟨t,rfl⟩:=rx;obtain⟨t',rfl⟩:=ry;obtain⟨j,h1,h2,h3,h4,h5⟩:=sE he;have hl:z.cps.toList.length=z.length:=by simp[Str.length]
 rw[hl]at h1 h4 h5;have hn:=jJ
 exact tail_any (typeIs_str s z t) slot_str_getitem.lookup (getItem_str (c:=c) (by
  have e1:decide (i < -(2 ^ 63:Int))=false:=Qa Yo;have e2:decide (i >= 2 ^ 63)=false:=Qa Yo
  rw[e1,e2,Bool.or_false]) (by rw[h1];simpa using h2) ⟨.str ⟨#[c]⟩,H,I.tok _,⟨_,U⟩,q⟩) hs
theorem Dk(its:List Value)(n j:Nat)(u:Value):Obj.mapSeq (·.setIfInBounds j u) { cls:=.type "list",data:=.seq its.toArray n }={ cls:=.type "list",data:=.seq (its.set j u).toArray n }:=by
 simp[Obj.mapSeq]
theorem Inv.lst{pins:List (Addr×Obj)}{Y:St}{H:Hp}{s:Shared}{p:Addr}{xs:List V}(I:Inv X pins Y H s)(h:H p=some (.lst xs)):
 ∃(its:List Value)(n:Nat),az xs its/\s.heap.get? p=some { cls:=.type "list",data:=.seq its.toArray n }/\xs.length<=sizeLine:=by
 obtain⟨z,its,n,r,e⟩:=I.hok p _ h;exact⟨its,n,r,e,z⟩
theorem Inv.lstUpd{pins:List (Addr×Obj)}{Y:St}{H:Hp}{s:Shared}{p:Addr}{xs ys:List V}{its its':List Value}{n n':Nat}{f:Obj->Obj}(I:Inv X pins Y H s)(h:H p=some (.lst xs))
 (ho:s.heap.get? p=some { cls:=.type "list",data:=.seq its.toArray n }) (hf:f { cls:=.type "list",data:=.seq its.toArray n }={ cls:=.type "list",data:=.seq its'.toArray n' }) (r:az ys its') (hz:ys.length<=sizeLine) (t:Nat):
 Inv X pins Y (upd H p (.lst ys)) { s with heap:=s.heap.update p f,toks:=t }:=by
 have e:(s.heap.update p f).get? p=some { cls:=.type "list",data:=.seq its'.toArray n' }:=by
  rw[Qn f ho (by rw[hf]<;>rfl),hf]
 refine I.write (x:=p) (e:=p) (by rw[h];trivial) (.inl U) (λb u hb q=>(Qz _ _ (Ne.symm hb)).trans q) ⟨_,e⟩ ?_;exact⟨hz,its',n',r,e⟩
def B0:V->V->V->Hp->(Hp->Prop)->Prop:=λo i v H Q=>∃p xs k j,o=.ref p/\i=.int k/\H p=some (.lst xs)/\ixN xs.length k=some j/\Q (upd H p (.lst (xs.set j v)))
theorem kI:yk X B0:=by
 intro pins s Y H o i v ov iv u Q I ro ri rv h;obtain⟨p,xs,k,j,rfl,rfl,hp,hj,q⟩:=h;cases ro;obtain⟨t,rfl⟩:=ri;obtain⟨its,n,r,ho,hz⟩:=I.lst hp;obtain⟨h1,h2,h3,h4⟩:=wY hj;have hl:=r.length;have hn:=jJ
 have I':Inv X pins Y (upd H p (.lst (xs.set j v))) { s with heap:=s.heap.update p (Obj.mapSeq (·.setIfInBounds j u)) }:=
  I.lstUpd hp ho (Dk its n j u) (r.set rv j) (by rw[List.length_set];exact hz) s.toks
 by_cases h0:0<=k
 .have hk:k.toNat=j:=by
   rw[seqIndex_of h0 h4]at h1;exact qP h1
  exact PySem.W.ki_setAt ho h0 Yo (by rw[qI,<- hl];exact h4) (by rw[hk];exact⟨_,I',q⟩)
 .have hk:(k+(its.toArray.size:Int)).toNat=j:=by
   rw[seqIndex_neg Yo h3]at h1;rw[qI,<- hl];exact qP h1
  exact PySem.W.ki_setBack ho Yo (by rw[qI,<- hl];exact h3) Yo (by rw[hk];exact⟨_,I',q⟩)
theorem zQ(lo hi:Option Int)(n:Nat):(sliceBounds lo hi none n).1=((HT.sIx n 0 lo:Nat):Int)/\(sliceBounds lo hi none n).2.1=((HT.sIx n n hi:Nat):Int)/\(sliceBounds lo hi none n).2.2=1:=by
 refine⟨?_,?_,U⟩
 .cases lo with
  |none=>simp[sliceBounds,HT.sIx]
  |some i=>
   simp only[sliceBounds,HT.sIx,Option.getD_none,show(1:Int) > 0 by decide,if_true];by_cases h:i<0
   .simp only[h,if_true]<;>omega
   .simp only[h,if_false]<;>omega
 .cases hi with
  |none=>simp[sliceBounds,HT.sIx]
  |some i=>
   simp only[sliceBounds,HT.sIx,Option.getD_none,show(1:Int) > 0 by decide,if_true];by_cases h:i<0
   .simp only[h,if_true]<;>omega
   .simp only[h,if_false]<;>omega
theorem zR(its:List Value)(lo hi:Option Int):slicePick its.toArray lo hi none=((its.drop (HT.sIx its.length 0 lo)).take (HT.sIx its.length its.length hi-HT.sIx its.length 0 lo)).toArray:=by
 obtain⟨h1,h2,h3⟩:=zQ lo hi its.toArray.size;unfold slicePick;rw[h1,h2,h3];simp only[sliceRange_one,pick_run,qI]<;>rfl
def AZ(K:W.Frag):V->Option Int->Option Int->Hp->VK->Prop:=λx lo hi H Q=>∃a xs,x=.ref a/\SqL K H a xs/\∀p,H p=none->Q (.ref p) (upd H p (.lst (eV xs lo hi)))
theorem kD:SlR X (AZ X.K):=by
 intro pins s Y H x v vl vu lo hi sl Q I rx hs pl pu h;obtain⟨a,xs,rfl,hx,q⟩:=h;cases rx;obtain⟨its,r,ht,hz⟩:=I.list hx;have hlen:=r.length;refine⟨"list",_,slot_list_getitem.lookup,ht.isList.typeIs,?_⟩;refine wpAny_getItem_list_slice ht.isList hs pl pu .none (by simp) ?_ (by rw[qI]<;>omega);rw[zR,<- hlen];refine⟨.ref s.heap.objs.size,_,I.laid (t':=s.toks) (o:=.lst (eV xs lo hi)) (λb ob q=>qb _ q) (qg _) ?_,U,q _ (I.hok.fresh (qg _))⟩;exact⟨qF (EO xs lo hi) hz,_,0,(r.drop (HT.sIx xs.length 0 lo)).take (HT.sIx xs.length xs.length hi-HT.sIx xs.length 0 lo),qu _ U⟩
noncomputable def gA:V->Bool
 |.non=>true
 |.bl _=>true
 |.int _=>true
 |.str _=>true
 |_=>false
noncomputable def eqV:V->V->Bool
 |.non,.non=>true
 |.bl a,.bl b=>a == b
 |.bl a,.int b=>(if a then 1 else 0) == b
 |.int a,.bl b=>a == (if b then 1 else 0)
 |.int a,.int b=>a == b
 |.str a,.str b=>a == b
 |_,_=>false
theorem Er{A:Around}{s:Shared}{y x:V}{u v:Value}(ry:aB y u)(rx:aB x v)(fy:gA y=true)(fx:gA x=true):SeqAt.EqAt A s u v (eqV y x):=by
 cases y with
 |non=>
  cases ry
  cases x with
  |non=>cases rx;exact SeqAt.EqAt.same _
  |bl b=>cases rx;exact SeqAt.EqAt.none_bool b
  |int b=>obtain⟨t,rfl⟩:=rx;exact SeqAt.EqAt.none_int b t
  |str b=>obtain⟨t,rfl⟩:=rx;exact SeqAt.EqAt.none_str b t
  |_=>exact Qb (show false=true from fx) qo
 |bl a=>
  cases ry
  cases x with
  |non=>cases rx;exact SeqAt.EqAt.bool_none a
  |bl b=>cases rx;exact SeqAt.EqAt.bool_bool a b
  |int b=>obtain⟨t,rfl⟩:=rx;exact SeqAt.EqAt.bool_int a b t
  |str b=>obtain⟨t,rfl⟩:=rx;exact SeqAt.EqAt.bool_str a b t
  |_=>exact Qb (show false=true from fx) qo
 |int a=>
  obtain⟨t',rfl⟩:=ry
  cases x with
  |non=>cases rx;exact SeqAt.EqAt.int_none a t'
  |bl b=>cases rx;exact SeqAt.EqAt.int_bool a t' b
  |int b=>obtain⟨t,rfl⟩:=rx;exact SeqAt.EqAt.int_int a t' b t
  |str b=>obtain⟨t,rfl⟩:=rx;exact SeqAt.EqAt.int_str a t' b t
  |_=>exact Qb (show false=true from fx) qo
 |str a=>
  obtain⟨t',rfl⟩:=ry
  cases x with
  |non=>cases rx;exact SeqAt.EqAt.str_none a t'
  |bl b=>cases rx;exact SeqAt.EqAt.str_bool a t' b
  |int b=>obtain⟨t,rfl⟩:=rx;exact SeqAt.EqAt.str_int a t' b t
  |str b=>obtain⟨t,rfl⟩:=rx;exact SeqAt.EqAt.str_str a t' b t
  |_=>exact Qb (show false=true from fx) qo
 |_=>exact Qb (show false=true from fy) qo
noncomputable def eqU(x:V)(u:Value):Bool:=match u with
 |.none=>eqV .non x
 |.bool b=>eqV (.bl b) x
 |.int i _=>eqV (.int i) x
 |.str z _=>eqV (.str z) x
 |_=>false
theorem xD{x y:V}{u:Value}(r:aB y u)(f:gA y=true):eqU x u=eqV y x:=by
 cases y with
 |non=>cases r;rfl
 |bl b=>cases r;rfl
 |int i=>obtain⟨t,rfl⟩:=r;rfl
 |str z=>obtain⟨t,rfl⟩:=r;rfl
 |_=>exact Qb (show false=true from f) qo
theorem jX{x:V}:∀{xs:List V}{us:List Value},az xs us->xs.all gA=true->us.any (eqU x)=xs.any λy=>eqV y x
 |_,_,.nil,_=>rfl
 |y::xs,u::us,.cons r t,f=>by
  rw[List.all_cons,Bool.and_eq_true]at f;rw[List.any_cons,List.any_cons,xD r f.1,jX t f.2]
theorem jH{A:Around}{s:Shared}{x:V}{v:Value}(rx:aB x v)(fx:gA x=true):∀{xs:List V}{us:List Value},az xs us->xs.all gA=true->∀u∈us,SeqAt.EqAt A s u v (eqU x u)
 |_,_,.nil,_=>λu hu=>by cases hu
 |y::xs,u::us,.cons r t,f=>λu' hu=>by
  rw[List.all_cons,Bool.and_eq_true]at f;rcases qA.mp hu with rfl|hu
  .rw[xD r f.1];exact Er r rx f.1 fx
  .exact jH rx fx t f.2 u' hu
noncomputable def inV(x:V)(xs:List V):Bool:=xs.any λy=>eqV y x
def rIn(K:W.Frag)(neg:Bool):R2:=λx y H Q=>∃p xs,y=.ref p/\(SqL K H p xs\/SqT K H p xs)/\gA x=true/\xs.all gA=true/\Q (.bl (if neg then !inV x xs else inV x xs)) H
theorem j1:OpR X (compareOp .In) (rIn X.K false):=by
 intro pins s Y H x y v u Q I rx ry h;obtain⟨p,xs,rfl,hq,fx,fs,q⟩:=h;cases ry;rcases hq with hq|hq
 .obtain⟨its,r,pl,hz⟩:=I.list hq;refine SeqAt.in_listAt (eqU x) pl.isList (λw hw=>jH rx fx r fs w (by simpa using hw)) ⟨.bl _,H,I,U,?_⟩;rw[show its.toArray.any (eqU x)=its.any (eqU x)by simp,jX r fs];exact q
 .obtain⟨its,r,pl,hz⟩:=I.tuple hq;refine SeqAt.in_tupleAt (eqU x) pl (λw hw=>jH rx fx r fs w (by simpa using hw)) ⟨.bl _,H,I,U,?_⟩;rw[show its.toArray.any (eqU x)=its.any (eqU x)by simp,jX r fs];exact q
theorem C1:OpR X (compareOp .NotIn) (rIn X.K true):=by
 intro pins s Y H x y v u Q I rx ry h;obtain⟨p,xs,rfl,hq,fx,fs,q⟩:=h;cases ry;rcases hq with hq|hq
 .obtain⟨its,r,pl,hz⟩:=I.list hq;refine SeqAt.notIn_listAt (eqU x) pl.isList (λw hw=>jH rx fx r fs w (by simpa using hw)) ⟨.bl _,H,I,U,?_⟩;rw[show its.toArray.any (eqU x)=its.any (eqU x)by simp,jX r fs];exact q
 .obtain⟨its,r,pl,hz⟩:=I.tuple hq;refine SeqAt.notIn_tupleAt (eqU x) pl (λw hw=>jH rx fx r fs w (by simpa using hw)) ⟨.bl _,H,I,U,?_⟩;rw[show its.toArray.any (eqU x)=its.any (eqU x)by simp,jX r fs];exact q
theorem Ff:cJ X (.builtin "len") (λxs H Q=>∃p ys,xs=[.ref p]/\(SqL X.K H p ys\/SqT X.K H p ys)/\Q (.int ys.length) H):=by
 intro pins s Y H xs us Q I r h;obtain⟨p,ys,rfl,hq,q⟩:=h;obtain⟨u,rfl,rx⟩:=fV r;cases rx;have hn:=jJ;rcases hq with hq|hq
 .obtain⟨its,r',pl,hz⟩:=I.list hq;have hlen:=r'.length;exact Calls.call_len_list pl.isList (by simp only[qI]<;>omega) ⟨.int ys.length,H,I.tok _,⟨s.toks+1,by rw[qI,hlen]⟩,q⟩
 .obtain⟨its,r',pl,hz⟩:=I.tuple hq;have hlen:=r'.length;exact len_tuple pl (by simp only[qI]<;>omega) ⟨.int ys.length,H,I.tok _,⟨s.toks+1,by rw[qI,hlen]⟩,q⟩
theorem Fe:cJ X (.type "list") (λxs H Q=>∃p ys,xs=[.ref p]/\(SqL X.K H p ys\/SqT X.K H p ys)/\∀l,H l=none->Q (.ref l) (upd H l (.lst ys))):=by
 intro pins s Y H xs us Q I r h;obtain⟨p,ys,rfl,hq,q⟩:=h;obtain⟨u,rfl,rx⟩:=fV r;cases rx
 have fin:∀(its:List Value),az ys its->ys.length<=sizeLine->∀(h':Heap)(c':Nat),(∀b o',s.heap.get? b=some o'->h'.get? b=some o')->
  h'.get? s.heap.objs.size=some { cls:=.type "list",dict:=none,data:=.seq its.toArray c',slots:=#[] }->EP X pins Y Q (.ref s.heap.objs.size) { s with heap:=h' }:=λits r' hz h' c' kp e=>
  ⟨.ref s.heap.objs.size,_,I.laid (t':=s.toks) kp (qg _) (show bF X.prog X.w _ h' _ (.lst ys)from⟨hz,its,c',r',e⟩),U,q _ (I.hok.fresh (qg _))⟩
 rcases hq with hq|hq
 .obtain⟨its,r',pl,hz⟩:=I.list hq;have hlen:=r'.length;obtain⟨o,ho,hc,n,hd⟩:=pl.isList;exact call_list_seq p (.inl U) ho hc hd (λh' c' kp e=>fin its r' hz h' c' kp e) (by simp only[qI]<;>omega)
 .obtain⟨its,r',pl,hz⟩:=I.tuple hq;have hlen:=r'.length;obtain⟨o,ho,hc,n,hd⟩:=pl;exact call_list_seq p (.inr U) ho hc hd (λh' c' kp e=>fin its r' hz h' c' kp e) (by simp only[qI]<;>omega)
theorem sj:cJ X (.type "tuple") (λxs H Q=>∃p ys,xs=[.ref p]/\((SqL X.K H p ys/\∀l,H l=none->Q (.ref l) (upd H l (.tup ys)))\/(SqT X.K H p ys/\Q (.ref p) H))):=by
 intro pins s Y H xs us Q I r h;obtain⟨p,ys,rfl,h⟩:=h;obtain⟨u,rfl,rx⟩:=fV r;cases rx;rcases h with⟨hq,q⟩|⟨hq,q⟩
 .obtain⟨its,r',pl,hz⟩:=I.list hq;have hlen:=r'.length;refine call_tuple_list pl.isList (λh' kp=>?_) (by simp only[qI]<;>omega);have I1:Inv X pins Y H { s with heap:=h' }:=I.kept (t':=s.toks) kp
  have I2:Inv X pins Y (upd H h'.objs.size (.tup ys)) { s with heap:=h'.push { cls:=.type "tuple",data:=.seq its.toArray } }:=
   I1.laid (t':=s.toks) (λb o e=>qb _ e) (qg _) (show bF X.prog X.w _ _ _ (.tup ys)from⟨hz,its,r',IsTup.new _ _⟩)
  exact⟨.ref h'.objs.size,_,I2,U,q _ (I1.hok.fresh (qg _))⟩
 .obtain⟨its,r',pl,hz⟩:=I.tuple hq;exact call_tuple_same pl ⟨.ref p,H,I,U,q⟩
def tyV(K:W.Frag)(T:String)(x:V)(H:Hp):Prop:=match x with
 |.str _=>T="str"
 |.int _=>T="int"
 |.ref p=>(T="list"/\∃xs,SqL K H p xs)\/(T="tuple"/\∃o,K.lookup p=some o/\o.cls=.type "tuple"/\o.dict=none) \/
  (T="dict"/\((∃kvs,H p=some (.dK kvs))\/∃kvs,H p=some (.dT kvs)))\/(T="set"/\∃S n,H p=some (.set S n))
 |_=>False
theorem t9{pins:List (Addr×Obj)}{Y:St}{H:Hp}{s:Shared}{T:String}{x:V}{v:Value}(I:Inv X pins Y H s)(r:aB x v)(ty:tyV X.K T x H):
 s.TypeIs v T/\∀a,v=.ref a->∃ob,s.heap.get? a=some ob/\ob.dict=none:=by
 cases x with
 |str z=>
  obtain⟨t,rfl⟩:=r;cases(show T="str" from ty);exact⟨typeIs_str s z t,λ_ e=>nomatch e⟩
 |int i=>
  obtain⟨t,rfl⟩:=r;cases(show T="int" from ty);exact⟨typeIs_int s i t,λ_ e=>nomatch e⟩
 |ref p=>
  cases r;rcases ty with⟨rfl,xs,hq⟩|⟨rfl,o,hk,hc,hd⟩|⟨rfl,hk⟩|⟨rfl,S,n,hk⟩
  .obtain⟨its,_,pl,_⟩:=I.list hq;refine⟨pl.isList.typeIs,λa e=>?_⟩;cases e;obtain⟨o,n,e,c,hd,_⟩:=pl;exact⟨o,e,hd⟩
  .refine⟨⟨o,I.kIn p o hk,hc⟩,λa e=>?_⟩;cases e;exact⟨o,I.kIn _ o hk,hd⟩
  .have z:∃o,s.heap.get? p=some o/\o.ExactDict:=by
    rcases hk with⟨kvs,hk⟩|⟨kvs,hk⟩
    .obtain⟨_,_,_,_,o,_,_,e,ex,_⟩:=I.hok p _ hk;exact⟨o,e,ex⟩
    .obtain⟨_,_,_,_,o,_,_,e,ex,_⟩:=I.hok p _ hk;exact⟨o,e,ex⟩
   obtain⟨o,e,ex⟩:=z;refine⟨⟨o,e,ex.1⟩,λa e2=>?_⟩;cases e2;exact⟨o,e,ex.2.1⟩
  .obtain⟨o,_,_,_,e,ex,_⟩:=I.hok p _ hk;refine⟨⟨o,e,ex.1⟩,λa e2=>?_⟩;cases e2;exact⟨o,e,ex.2.1⟩
 |_=>exact False.elim ty
def zq(K:W.Frag)(T:String)(r:V->List V->Hp->VK->Prop)(to:TE):TE:=λY H Q=>to Y H λx H1=>tyV K T x H1/\r x [] H1 Q
def tBM(K:W.Frag)(T:String)(r:V->List V->Hp->VK->Prop)(to:TE)(t:TA):TE:=λY H Q=>to Y H λx H1=>tyV K T x H1/\t Y H1 λxs H2=>r x xs H2 Q
variable {o e:Expr}{es:List Expr}{to:TE}{t:TA}{name:Str}{apos cpos:Pos}{T id:String}{r:V->List V->Hp->VK->Prop}
theorem vR(pa:PlainAttrs T)(slot:Slot T name id)(hty:typeOf (.builtin id)=pure (.type "method_descriptor"))(hm:MtR X id r)(ho:PE X o to)
 (hbase:attributeBase o name X.env (eval o X.env)=eval o X.env:=by rfl) (hline:(apos.endLine == cpos.line)=true:=by rfl):PE X (.Call (.Attribute o name apos) [] [] cpos) (zq X.K T r to):=by
 intro pins s Y H Q I h;refine wpAny_Call_method0_late hbase hline (thn (ho pins s Y H _ I h) λv s1 ⟨x,H1,I1,r1,ty,q1⟩=>?_);obtain⟨h1,h2⟩:=t9 I1 r1 ty;exact⟨T,id,pa,slot,hty,h1,h2,Calls.callWith_builtin U (PySem.evalArgs_none (hm pins s1 Y H1 x [] v [] Q I1 r1 .nil q1))⟩
theorem BS(pa:PlainAttrs T)(slot:Slot T name id)(hty:typeOf (.builtin id)=pure (.type "method_descriptor"))(hm:MtR X id r)(ho:PE X o to)(ha:PA X (e::es) t)
 (hbase:attributeBase o name X.env (eval o X.env)=eval o X.env:=by rfl)
 (hfew:((backTo cpos (starEach (e::es) X.env)).all (λx=>!x.1) && (backToKw cpos (keywordEach [] X.env)).all (λx=>x.1.isSome)
  && decide ((e::es).length+([]:List Keyword).length+(if([]:List Keyword).isEmpty then 0 else 1)<30))=true:=by rfl)
 (hline:(apos.endLine == cpos.line)=true:=by rfl) (hs:starEach (e::es) X.env=(false,eval e X.env)::starEach es X.env:=by rfl) (hplain:(backTo cpos (starEach es X.env)).any (·.1)=false:=by rfl):
 PE X (.Call (.Attribute o name apos) (e::es) [] cpos) (tBM X.K T r to t):=by
 intro pins s Y H Q I h;refine wpAny_Call_method_late hbase hfew hline U (thn (ho pins s Y H _ I h) λv s1 ⟨x,H1,I1,r1,ty,q1⟩=>?_);obtain⟨h1,h2⟩:=t9 I1 r1 ty;refine⟨T,id,pa,slot,hty,h1,h2,?_⟩;have hA:=ha cpos pins s1 Y H1 _ I1 q1;rw[hs]at hA ⊢;refine Calls.callWith_builtin (by show(false || (backTo cpos (starEach es X.env)).any (·.1))=false;rw[hplain]<;>rfl) (Calls.evalArgs_plain ?_);exact thn hA λus s2 ⟨vs,H2,I2,r2,q2⟩=>hm pins s2 Y H2 x vs v us Q I2 r1 r2 q2
end
def MtM(X:Cx)(id:String)(r:V->List V->Hp->VK->Prop):Prop:=
 ∀(pins:List (Addr×Obj))(s:Shared)(Y:St)(H:Hp)(x:V)(xs:List V)(v:Value)(us:List Value)(Q:VK),Inv X pins Y H s->aB x v->az xs us->r x xs H Q->
  wpAny (model X.prog X.w) X.A (call (.builtin id) (v::us)) (EP X pins Y Q) X.xe s
theorem az.one:∀{x:V}{us:List Value},az [x] us->∃u,us=[u]/\aB x u
 |_,_,.cons r .nil=>⟨_,U,r⟩
theorem az.zero:∀{us:List Value},az [] us->us=[]
 |_,.nil=>rfl
theorem az.dropLast{xs:List V}{us:List Value}(h:az xs us):az xs.dropLast us.dropLast:=by
 induction h with
 |nil=>exact .nil
 |cons r t ih=>
  cases t with
  |nil=>exact .nil
  |cons q t'=>exact .cons r ih
theorem az.rep{xs:List V}{us:List Value}(h:az xs us):∀k:Nat,az (List.replicate k xs).flatten (List.replicate k us).flatten
 |0=>.nil
 |k+1=>by
  rw[List.replicate_succ,List.replicate_succ,List.flatten_cons,List.flatten_cons];exact az.append h (az.rep h k)
theorem Ep{α:Type}(l:List α):l.eraseIdx (l.length-1)=l.dropLast:=by
 induction l with
 |nil=>rfl
 |cons a r ih=>
  cases r with
  |nil=>rfl
  |cons b r=>
   have e:(a::b::r).length-1=((b::r).length-1)+1:=by
    have h1:(a::b::r).length=r.length+2:=U;have h2:(b::r).length=r.length+1:=U;omega
   rw[e,List.eraseIdx_cons_succ,ih]
   all_goals rfl
theorem xu(its:List Value):∀(k:Nat)(acc:List Value),
 List.foldl (λx1 x2=>x1++x2) acc.toArray (List.replicate k its.toArray)=(acc++(List.replicate k its).flatten).toArray
 |0,acc=>by simp
 |k+1,acc=>by
  have e:acc.toArray++its.toArray=(acc++its).toArray:=by simp
  have e2:(acc++its)++(List.replicate k its).flatten=acc++(List.replicate (k+1) its).flatten:=by
   rw[List.replicate_succ,List.flatten_cons,qT]
  rw[<- e2,<- xu its k (acc++its),<- e,List.replicate_succ,QF]
section
variable {X:Cx}{pins:List (Addr×Obj)}{Y:St}{H:Hp}{s:Shared}{l b:Addr}{xs ys zs:List V}
theorem Inv.lset{its its':List Value}{n:Nat}{f:Array Value->Array Value}{t':Nat}(I:Inv X pins Y H s)(hH:H l=some (.lst xs))
 (e:s.heap.get? l=some { cls:=.type "list",data:=.seq its.toArray n }) (hf:f its.toArray=its'.toArray) (hv:az ys its') (hz:ys.length<=sizeLine):
 Inv X pins Y (upd H l (.lst ys)) { s with heap:=s.heap.update l (Obj.mapSeq f),toks:=t' }:=by
 have q:=PySem.IsL.update e f;rw[hf]at q;refine I.write (x:=l) (e:=l) (by rw[hH];exact trivial) (.inl U) (λb' u hb hu=>(Qz s.heap (Obj.mapSeq f) (Ne.symm hb)).trans hu) ⟨_,q⟩ ?_;exact⟨hz,its',_,hv,q⟩
theorem Inv.lnew{its:List Value}{t':Nat}(I:Inv X pins Y H s)(hv:az ys its)(hz:ys.length<=sizeLine):
 Inv X pins Y (upd H s.heap.objs.size (.lst ys)) { s with heap:=s.heap.push { cls:=.type "list",data:=.seq its.toArray },toks:=t' }:=
 I.laid (λ_ _ q=>qb _ q) (qg _) ⟨hz,its,0,hv,qu _ U⟩
theorem Inv.fresh(I:Inv X pins Y H s):H s.heap.objs.size=none:=I.hok.fresh (qg _)
theorem Inv.lstM(I:Inv X pins Y H s)(hH:H l=some (.lst xs)):xs.length<=sizeLine/\∃(its:List Value)(n:Nat),az xs its/\xs.length=its.length/\s.heap.get? l=some { cls:=.type "list",data:=.seq its.toArray n }:=by
 obtain⟨z,its,n,r,e⟩:=I.hok l _ hH;exact⟨z,its,n,r,r.length,e⟩
theorem ww{n:Nat}(h:n<=sizeLine):Builtin.List.listTooLong n=false:=by
 unfold Builtin.List.listTooLong;exact Qa Yo
end
section
variable {X:Cx}
def Ba:V->List V->Hp->VK->Prop:=λx vs H Q=>∃l xs y,x=.ref l/\vs=[y]/\H l=some (.lst xs)/\xs.length<sizeLine/\Q .non (upd H l (.lst (xs++[y])))
theorem Dd:MtM X "list.append" Ba:=by
 intro pins s Y H x vs v us Q I rx rv h;obtain⟨l,xs,y,rfl,rfl,hH,hz,q⟩:=h;cases rx;obtain⟨u,rfl,ru⟩:=rv.one;obtain⟨z,its,n,r,hl,e⟩:=I.lstM hH;refine call_meets F.slot_list_append ⟨_,e,U⟩ F.entry_list_append (F.args_list_append_2 _ _) (PySem.list_append l its.toArray n u (by rw[qI];omega)) ⟨e,?_⟩;refine⟨.non,_,I.lset (its':=its++[u]) hH e (by simp) (r.append (.cons ru .nil)) ?_,U,q⟩;rw[qc,Qd];omega
def B7:V->List V->Hp->VK->Prop:=λx vs H Q=>∃l b xs zs,x=.ref l/\vs=[.ref b]/\H l=some (.lst xs)/\H b=some (.lst zs)/\xs.length+zs.length<=sizeLine/\Q .non (upd H l (.lst (xs++zs)))
theorem gT:MtM X "list.extend" B7:=by
 intro pins s Y H x vs v us Q I rx rv h;obtain⟨l,b,xs,zs,rfl,rfl,hH,hB,hz,q⟩:=h;cases rx;obtain⟨u,rfl,ru⟩:=rv.one;cases ru;obtain⟨z,its,n,r,hl,e⟩:=I.lstM hH;obtain⟨z2,its2,n2,r2,hl2,e2⟩:=I.lstM hB;have hsz:its.toArray.size+its2.toArray.size<=sizeLine:=by rw[qI,qI];omega
 have hlong:¬ (!its.toArray.isEmpty && Builtin.List.listTooLong (its.toArray.size+its2.toArray.size))=true:=by
  rw[ww hsz,Bool.and_false];exact qo
 refine call_meets F.slot_list_extend ⟨_,e,U⟩ F.entry_list_extend (F.args_list_extend_2 _ _)
  (AutoSeq1.list_extend_list_list_0 l its.toArray n b its2.toArray n2 hlong (by rw[qI];omega) Yo) ⟨e,e2,?_⟩
 refine⟨.non,_,I.lset (its':=its++its2) hH e (by simp) (r.append r2) ?_,U,q⟩;rw[qc];omega
def B2:V->List V->Hp->VK->Prop:=λx vs H Q=>∃l xs y,x=.ref l/\vs=[]/\H l=some (.lst xs)/\xs[xs.length-1]?=some y/\Q y (upd H l (.lst xs.dropLast))
theorem wC:MtM X "list.pop" B2:=by
 intro pins s Y H x vs v us Q I rx rv h;obtain⟨l,xs,y,rfl,rfl,hH,hy,q⟩:=h;cases rx;have hus:=rv.zero;subst hus;obtain⟨z,its,n,r,hl,e⟩:=I.lstM hH;obtain⟨u,hu,ru⟩:=r.get hy
 have hy':its.toArray[its.toArray.size-1]?=some u:=by
  show its.toArray[its.length-1]?=some u;rw[<- qZ,<- hl];exact hu
 refine call_meets F.slot_list_pop ⟨_,e,U⟩ F.entry_list_pop (F.args_list_pop_1 _) (MeetsSeq.list_pop_last l its.toArray n u hy' (by rw[qI];omega)) ⟨e,?_⟩;refine⟨y,_,I.lset (its':=its.dropLast) hH e ?_ r.dropLast ?_,ru,q⟩
 .show its.toArray.eraseIdxIfInBounds (its.toArray.size-1)=its.dropLast.toArray;rw[qI,List.eraseIdxIfInBounds_toArray,Ep]
 .rw[QG];omega
def B1:R2:=λx y H Q=>∃l k xs,x=.ref l/\y=.int k/\H l=some (.lst xs)/\-(2 ^ 63)<=k/\k<2 ^ 63/\xs.length * k.toNat<=sizeLine /\
 ∀p,H p=none->Q (.ref p) (upd H p (.lst (List.replicate k.toNat xs).flatten))
theorem Dy{α:Type}(xs:List α)(k:Nat):(List.replicate k xs).flatten.length=k * xs.length:=by
 induction k with
 |zero=>simp
 |succ k ih=>rw[List.replicate_succ,List.flatten_cons,qc,ih,Nat.succ_mul,Nat.add_comm]
theorem pJ:OpR X (binaryOp .Mult) B1:=by
 intro pins s Y H x y v u Q I rx ry h;obtain⟨l,k,xs,rfl,rfl,hH,h1,h2,hz,q⟩:=h;cases rx;obtain⟨t,rfl⟩:=ry;obtain⟨z,its,n,r,hl,e⟩:=I.lstM hH;have hlen:its.toArray.size * k.toNat<=sizeLine:=by rw[qI,<- hl];exact hz
 have hcap:¬ its.toArray.size * k.toNat > (2 ^ 63-1) / 8:=by
  have:(sizeLine:Nat)<=(2 ^ 63-1) / 8:=Yk;omega
 have hfit:¬ (!Builtin.List.listFitsIndex k)=true:=by
  rw[fitsIndex_both h1 h2];exact qo
 have hlong:¬ Builtin.List.listTooLong (its.toArray.size * k.toNat)=true:=by
  rw[ww hlen];exact qo
 have hnew:List.foldl (λx1 x2=>x1++x2) #[] (List.replicate (if its.toArray.isEmpty=true then 0 else k.toNat) its.toArray)=(List.replicate k.toNat its).flatten.toArray:=by
  have f0:∀m:Nat,List.foldl (λx1 x2=>x1++x2) #[] (List.replicate m its.toArray)=(List.replicate m its).flatten.toArray:=λm=>by
   have:=xu its m [];rw[Qr]at this;exact this
  rw[f0]
  cases its with
  |nil=>simp
  |cons a r'=>rw[Q7 (by simp)]
 refine wpAny_binaryOp_repeat_ref (T:="list") (U:="int") Yk ⟨_,e,U⟩ (λs'=>typeIs_int s' k t) noFill_list_mul F.fills_int_mul F.slot_int_rmul repeat_list F.slot_int_index.lookup
  (call_meets F.slot_int_rmul (typeIs_int s k t) F.entry_int_rmul (F.args_int_rmul_2 _ _) (int___rmul___int_list k t l its.toArray n)
   ⟨e,U,⟨_,e,U⟩,call_meets F.slot_list_mul ⟨_,e,U⟩ F.entry_list_mul (F.args_list_mul_2 _ _) (AutoListH.list___mul___list_int_3 l its.toArray n k t hfit hcap hlong) ⟨e,?_⟩⟩)
 rw[hnew];exact⟨.ref _,_,I.lnew (t':=s.toks) (r.rep k.toNat) (by rw[Dy,Nat.mul_comm];exact hz),U,q _ I.fresh⟩
end
section
variable {prog:Program}{w:World}{A:Around}{E:Yq}{s:Shared}
set_option maxRecDepth 100000 in
end
section
variable {X:Cx}
end
section
variable {κ:Type} [DecidableEq κ]
noncomputable def aJ(kvs:List (κ×V))(k:κ):Option V:=(kvs.find? λkv=>decide (kv.1=k)).map (·.2)
noncomputable def bf(kvs:List (κ×V))(k:κ)(v:V):List (κ×V):=
 if(kvs.any λkv=>decide (kv.1=k))=true then kvs.map (λkv=>if kv.1=k then(kv.1,v)else kv)else kvs++[(k,v)]
theorem fc{p:κ×V}{r:List (κ×V)}{k:κ}(e:p.1=k):aJ (p::r) k=some p.2:=by simp[aJ,Qf,e]
theorem fg{p:κ×V}{r:List (κ×V)}{k:κ}(e:¬ p.1=k):aJ (p::r) k=aJ r k:=by simp[aJ,Qf,e]
theorem kj(k:κ):∀kvs:List (κ×V),(kvs.any λkv=>decide (kv.1=k))=(aJ kvs k).isSome
 |[]=>rfl
 |p::r=>by
  rw[List.any_cons];by_cases e:p.1=k
  .simp only[fc e,Q9 e,Bool.true_or,Option.isSome_some]
  .rw[fg e,Qa e,Bool.false_or];exact kj k r
theorem sZ(k j:κ)(y:V):∀kvs:List (κ×V),aJ (kvs.map λkv=>if kv.1=k then(kv.1,y)else kv) j=(aJ kvs j).map λx=>if j=k then y else x
 |[]=>rfl
 |p::r=>by
  have ih:=sZ k j y r;rw[qX];by_cases h:p.1=k
  .rw[Q8 h];by_cases e:p.1=j
   .rw[fc (p:=(p.1,y)) e,fc e,Option.map_some,Q8 (e.symm.trans h)]
   .rw[fg (p:=(p.1,y)) e,fg e,ih]
  .rw[Q7 h];by_cases e:p.1=j
   .rw[fc (p:=p) e,fc e,Option.map_some,Q7 (λz=>h (e.trans z))]
   .rw[fg (p:=p) e,fg e,ih]
theorem sY(k j:κ)(y:V):∀kvs:List (κ×V),aJ kvs k=none->aJ (kvs++[(k,y)]) j=if j=k then some y else aJ kvs j
 |[],_=>by
  by_cases e:k=j
  .rw[Q8 e.symm];exact fc (p:=(k,y)) e
  .rw[Q7 (λz=>e z.symm)];exact fg (p:=(k,y)) e
 |p::r,hn=>by
  rw[Qs];have hk:¬ p.1=k:=λz=>by rw[fc z]at hn;cases hn
  rw[fg hk]at hn;have ih:=sY k j y r hn;by_cases e:p.1=j
  .rw[fc e,fc e,Q7 (λz=>hk (e.trans z))]
  .rw[fg e,fg e,ih]
theorem dF(kvs:List (κ×V))(k j:κ)(y:V):aJ (bf kvs k y) j=if j=k then some y else aJ kvs j:=by
 unfold bf;by_cases a:(kvs.any λkv=>decide (kv.1=k))=true
 .rw[Q8 a,sZ];rw[kj]at a;by_cases e:j=k
  .obtain⟨x,hx⟩:=Option.isSome_iff_exists.mp a;rw[Q8 e,e,hx,Option.map_some,Q8 U]
  .rw[Q7 e]
   cases aJ kvs j with
   |none=>rfl
   |some x=>rw[Option.map_some,Q7 e]
 .rw[Q7 a];refine sY k j y kvs ?_;rw[kj]at a
  cases q:aJ kvs k with
  |none=>rfl
  |some x=>rw[q]at a;exact(a U).elim
theorem dL(kvs:List (κ×V))(k:κ)(v:V):(bf kvs k v).length<=kvs.length+1:=by
 unfold bf;split
 .rw[qa];omega
 .rw[qc,qH,List.length_nil];omega
theorem cg.isSome_eq{o:Option V}{u:Option Value}(r:cg o u):o.isSome=u.isSome:=by
 cases o with
 |none=>cases u with
  |none=>rfl
  |some _=>exact(show False from r).elim
 |some _=>cases u with
  |none=>exact(show False from r).elim
  |some _=>rfl
theorem cg.getD{o:Option V}{u:Option Value}{d:V}{d':Value}(r:cg o u)(rd:aB d d'):aB (o.getD d) (u.getD d'):=by
 cases o with
 |none=>cases u with
  |none=>exact rd
  |some _=>exact(show False from r).elim
 |some _=>cases u with
  |none=>exact(show False from r).elim
  |some _=>exact r
theorem KV.val{kvs:List (κ×V)}{vs:List (κ×Value)}(r:KV kvs vs)(k:κ):cg (aJ kvs k) (valueAt vs k):=by
 unfold KV at r
 induction r with
 |nil=>exact True.intro
 |@cons p q ps qs h t ih=>
  obtain⟨h1,h2⟩:=h;by_cases e:p.1=k
  .have e':q.1=k:=h1.symm.trans e;have b:valueAt (q::qs) k=some q.2:=by simp[valueAt,Qf,e']
   rw[fc e,b];exact h2
  .have e':¬ q.1=k:=λz=>e (h1.trans z);have b:valueAt (q::qs) k=valueAt qs k:=by simp[valueAt,Qf,e']
   rw[fg e,b];exact ih
theorem KV.any{kvs:List (κ×V)}{vs:List (κ×Value)}(r:KV kvs vs)(k:κ):(kvs.any λkv=>decide (kv.1=k))=vs.any λkv=>decide (kv.1=k):=by
 unfold KV at r
 induction r with
 |nil=>rfl
 |cons h t ih=>rw[List.any_cons,List.any_cons,ih,h.1]
theorem KV.repl{kvs:List (κ×V)}{vs:List (κ×Value)}(r:KV kvs vs)(k:κ){y:V}{u:Value}(ry:aB y u):
 KV (kvs.map λkv=>if kv.1=k then(kv.1,y)else kv) (vs.map λkv=>if kv.1=k then(kv.1,u)else kv):=by
 unfold KV at r ⊢
 induction r with
 |nil=>exact .nil
 |@cons p q ps qs h t ih=>
  rw[qX,qX];refine .cons ?_ ih;obtain⟨h1,h2⟩:=h;by_cases e:p.1=k
  .rw[Q8 e,Q8 (h1.symm.trans e)];exact⟨h1,ry⟩
  .rw[Q7 e,Q7 (λz=>e (h1.trans z))];exact⟨h1,h2⟩
theorem KV.put{kvs:List (κ×V)}{vs:List (κ×Value)}(r:KV kvs vs)(k:κ){y:V}{u:Value}(ry:aB y u):KV (bf kvs k y) (stored vs k u):=by
 unfold bf stored;rw[r.any k];by_cases e:(vs.any λkv=>decide (kv.1=k))=true
 .rw[Q8 e,Q8 e];exact r.repl k ry
 .rw[Q7 e,Q7 e];exact Paired.snoc r ⟨U,ry⟩
theorem KV.length{kvs:List (κ×V)}{vs:List (κ×Value)}(r:KV kvs vs):kvs.length=vs.length:=Paired.length r
end
theorem gx{P:Program}{w:World}{k:Key}{u:Value}(r:aB (kV k) u):(cY P w).is k u=true:=by
 cases k with
 |inl i=>obtain⟨t,e⟩:=(show ∃t,u=Value.int i t from r);subst e;exact Dh P w i t
 |inr x=>obtain⟨t,e⟩:=(show ∃t,u=Value.str x t from r);subst e;exact Dg P w x t
theorem x8{P:Program}{w:World}:∀{ks:List Key}{us:List Value},az (ks.map kV) us->ItemsAre (cY P w) ks us
 |[],_,r=>by rw[List.map_nil]at r;cases r;exact .nil
 |k::ks,_,r=>by
  rw[qX]at r
  cases r with
  |cons h t=>exact .cons (gx h) (x8 t)
abbrev KT(H:Hp):List (List Key×V)->List (List Key×Addr×Value)->Prop:=Paired λp q=>p.1=q.1/\H q.2.1=some (.tup (p.1.map kV))/\aB p.2 q.2.2
theorem KT.val{H:Hp}{kvs:List (List Key×V)}{xs:List (List Key×Addr×Value)}(r:KT H kvs xs)(k:List Key):cg (aJ kvs k) ((atKey xs k).map (·.2)):=by
 induction r with
 |nil=>exact True.intro
 |@cons p q ps qs h t ih=>
  obtain⟨h1,_,h2⟩:=h;by_cases e:p.1=k
  .have e':q.1=k:=h1.symm.trans e;have b:atKey (q::qs) k=some q.2:=by simp[atKey,Qf,e']
   rw[fc e,b];exact h2
  .have e':¬ q.1=k:=λz=>e (h1.trans z);have b:atKey (q::qs) k=atKey qs k:=by simp[atKey,Qf,e']
   rw[fg e,b];exact ih
theorem KT.repl{H:Hp}{kvs:List (List Key×V)}{xs:List (List Key×Addr×Value)}(r:KT H kvs xs)(k:List Key){y:V}{u:Value}(ry:aB y u):
 KT H (kvs.map λkv=>if kv.1=k then(kv.1,y)else kv) (xs.map (putAt k u)):=by
 induction r with
 |nil=>exact .nil
 |@cons p q ps qs h t ih=>
  rw[qX,qX];refine .cons ?_ ih;obtain⟨h1,h2,h3⟩:=h;unfold putAt;by_cases e:p.1=k
  .rw[Q8 e,Q8 (h1.symm.trans e)];exact⟨h1,h2,ry⟩
  .rw[Q7 e,Q7 (λz=>e (h1.trans z))];exact⟨h1,h2,h3⟩
theorem KT.put{H:Hp}{kvs:List (List Key×V)}{xs:List (List Key×Addr×Value)}(r:KT H kvs xs)(k:List Key){b:Addr}{y:V}{u:Value}(hb:H b=some (.tup (k.map kV)))(ry:aB y u):
 KT H (bf kvs k y) (storedH xs k b u):=by
 have e:(kvs.any λkv=>decide (kv.1=k))=(atKey xs k).isSome:=by
  rw[kj,(r.val k).isSome_eq,Option.isSome_map]
 unfold bf storedH;rw[e];by_cases q:(atKey xs k).isSome=true
 .rw[Q8 q,Q8 q];exact r.repl k ry
 .rw[Q7 q,Q7 q];exact Paired.snoc r ⟨U,hb,ry⟩
theorem KT.keeps{H H':Hp}{kvs:List (List Key×V)}{xs:List (List Key×Addr×Value)}(r:KT H kvs xs)(ht:∀b ys,H b=some (.tup ys)->H' b=some (.tup ys)):KT H' kvs xs:=
 Paired.mapP r λ_ _ z=>⟨z.1,ht _ _ z.2.1,z.2.2⟩
section
variable {P:Program}{w:World}{H:Hp}{h:Heap}{a:Addr}
theorem vv{u:HO}(ok:HOk P w H h)(e:Rd H a u):bF P w H h a u:=e.ok ok
theorem jP{kvs:List (Key×V)}(ok:HOk P w H h)(e:Rd H a (.dK kvs)):kvs.length<=sizeLine/\(a == sysModules)=false/\∃vs,KV kvs vs/\h.DictOf (cY P w) a vs:=
 show bF P w H h a (.dK kvs)from vv ok e
theorem jQ{kvs:List (Key×V)}(ok:HOk P w H h)(e:H a=some (.dK kvs)):kvs.length<=sizeLine/\(a == sysModules)=false/\∃vs,KV kvs vs/\h.DictOf (cY P w) a vs:=jP ok (.inl e)
theorem lP{ks:List Key}(ok:HOk P w H h)(e:H a=some (.tup (ks.map kV))):(tupleKind (cY P w)).is h ks a:=by
 obtain⟨_,its,r,o,h1,h2,n,h3⟩:=(show bF P w H h a (.tup (ks.map kV))from ok a _ e);exact⟨o,its.toArray,n,h1,h2,h3,by simpa using x8 r⟩
theorem jN{kvs:List (List Key×V)}(ok:HOk P w H h)(e:Rd H a (.dT kvs)):kvs.length<=sizeLine/\(a == sysModules)=false /\
 ∃xs,KT H kvs xs/\h.DictOfH (tupleKind (cY P w)) a xs:=by
 obtain⟨z,y,xs,r,o,es,ep,h1,h2,h3,h4,h5⟩:=(show bF P w H h a (.dT kvs)from vv ok e);refine⟨z,y,xs,r,o,es,ep,h1,h2,h3,h4,λx hx=>?_,h5⟩
 have all:∀{l:List (List Key×V)}{m:List (List Key×Addr×Value)},KT H l m->∀x∈m,(tupleKind (cY P w)).is h x.1 x.2.1:=by
  intro l m q
  induction q with
  |nil=>intro x hx;exact nomatch hx
  |@cons p q ps qs hq t ih=>
   intro x hx;rcases qA.mp hx with e|hx
   .subst e;exact lP ok (by rw[<- hq.1];exact hq.2.1)
   .exact ih x hx
 exact all r x hx
theorem Ew{kvs:List (List Key×V)}(ok:HOk P w H h)(e:H a=some (.dT kvs)):kvs.length<=sizeLine/\(a == sysModules)=false /\
 ∃xs,KT H kvs xs/\h.DictOfH (tupleKind (cY P w)) a xs:=jN ok (.inl e)
end
def ci(H:Hp)(a:Addr)(y:V)(r:Option V):Prop:=
 (∃kvs k,Rd H a (.dK kvs)/\y=kV k/\r=aJ kvs k)\/∃kvs k b,Rd H a (.dT kvs)/\y=.ref b/\H b=some (.tup (k.map kV))/\r=aJ kvs k
def eu(H:Hp)(a:Addr)(y v:V)(H':Hp):Prop:=
 (∃kvs k,H a=some (.dK kvs)/\y=kV k/\kvs.length<sizeLine/\H'=upd H a (.dK (bf kvs k v))) \/
 ∃kvs k b,H a=some (.dT kvs)/\y=.ref b/\H b=some (.tup (k.map kV))/\kvs.length<sizeLine/\H'=upd H a (.dT (bf kvs k v))
theorem ci.k{H:Hp}{a:Addr}{kvs:List (Key×V)}{k:Key}(e:H a=some (.dK kvs)):ci H a (kV k) (aJ kvs k):=.inl ⟨kvs,k,.inl e,U,U⟩
theorem eu.k{H:Hp}{a:Addr}{kvs:List (Key×V)}{k:Key}{v:V}(e:H a=some (.dK kvs))(hl:kvs.length<sizeLine):eu H a (kV k) v (upd H a (.dK (bf kvs k v))):=.inl ⟨kvs,k,e,U,hl,U⟩
section
variable {X:Cx}{pins:List (Addr×Obj)}{Y:St}{H:Hp}{s:Shared}{a:Addr}{y v:V}{u r:Value}{o:Option V}{A:Around}{E:Yq}
theorem Inv.big(I:Inv X pins Y H s):sysModules<s.heap.objs.size:=by
 have h:mainGlobals<s.heap.objs.size:=(I.mod.glob.keeps I.bk).lt;exact Nat.lt_trans Yk h
theorem EI{Q:Yq}(hu:A.units+1<cLine)(I:Inv X pins Y H s)(g:ci H a y (some v))(ry:aB y u)(h:∀w' s',Inv X pins Y H s'->aB v w'->Q w' s'):
 wpAny (model X.prog X.w) A (getItem (.ref a) u) Q E s:=by
 rcases g with⟨kvs,k,e,ey,l⟩|⟨kvs,k,b,e,ey,eb,l⟩
 .subst ey;obtain⟨z,hd,vs,rel,dd⟩:=jP I.hok e;obtain⟨w',hw,rw'⟩:=cg.some_of (v:=v) (o:=valueAt vs k) (by rw[l];exact rel.val k);exact wpAny_getItem_of (gx ry) dd.mapOf hw (h w' _ (I.tok _) rw')
 .subst ey;cases(show u=Value.ref b from ry);obtain⟨z,hd,xs,rel,dd⟩:=jN I.hok e;obtain⟨w',hw,rw'⟩:=cg.some_of (v:=v) (o:=(atKey xs k).map (·.2)) (by rw[l];exact rel.val k);obtain⟨p,hp,hp2⟩:=qV.mp hw;refine wpAny_getItem_heap (tupleKind_room_in1 hu) (lP I.hok eb) dd hp ?_;rw[hp2];exact h w' _ (I.tok _) rw'
theorem m5{h':Heap}{t':Nat}{ob:HO}(I:Inv X pins Y H s)(mu:Mut (H a))(hs:Heap.SameBut a s.heap h')(he:∃q,h'.get? a=some q)(new:bF X.prog X.w (upd H a ob) h' a ob):
 Inv X pins Y (upd H a ob) { s with heap:=h',toks:=t' }:=
 I.write (x:=a) (e:=a) mu (.inl U) (λb q hb z=>(hs.2 b hb).trans z) he new
theorem rW{P:Program}{w:World}{H':Hp}{h':Heap}{kvs:List (Key×V)}{vs:List (Key×Value)}(z:kvs.length<=sizeLine)(hd:(a == sysModules)=false)(rel:KV kvs vs)(dd:h'.DictOf (cY P w) a vs):
 bF P w H' h' a (.dK kvs):=⟨z,hd,vs,rel,dd⟩
theorem EH{H':Hp}{Q:Unit->Shared->Prop}(hu:A.units+1<cLine)(I:Inv X pins Y H s)(g:eu H a y v H')(ry:aB y u)(rv:aB v r)(h:∀s',Inv X pins Y H' s'->Q () s'):
 wpAny (model X.prog X.w) A (setItem (.ref a) u r) Q E s:=by
 rcases g with⟨kvs,k,e,ey,l,eH⟩|⟨kvs,k,b,e,ey,eb,l,eH⟩
 .subst ey eH;obtain⟨z,hd,vs,rel,dd⟩:=jQ I.hok e;have hz:vs.length<=sizeLine:=by rw[<- rel.length];exact z
  have hl:(bf kvs k v).length<=sizeLine:=by have:=dL kvs k v;omega
  refine wpAny_setItem_pairs (hsz:=hz) (gx ry) dd λh' dd' hs=>h _ ?_;have he:∃q,h'.get? a=some q:=let ⟨q,_,_,hq,_⟩:=dd';⟨q,hq⟩;exact m5 I (by rw[e];exact True.intro) hs he (rW hl hd (rel.put k rv) dd')
 .subst ey eH;cases(show u=Value.ref b from ry);obtain⟨z,hd,xs,rel,dd⟩:=Ew I.hok e;have hz:xs.length<=sizeLine:=by rw[<- Paired.length rel];exact z
  have hl:(bf kvs k v).length<=sizeLine:=by have:=dL kvs k v;omega
  refine wpAny_setItem_heap (hsz:=hz) (tupleKind_room_in1 hu) (lP I.hok eb) dd λh' dd' hs=>h _ ?_;obtain⟨q,es,ep,hq,h2,h3,h4,_,h5⟩:=dd';refine m5 I (by rw[e];exact True.intro) hs ⟨q,hq⟩ ⟨hl,hd,_,(rel.put k eb rv).keeps λc ys ec=>?_,q,es,ep,hq,h2,h3,h4,h5⟩;rw[af (wA ec e (λz=>nomatch z))];exact ec
end
section
variable {X:Cx}{pins:List (Addr×Obj)}{Y:St}{H:Hp}{s:Shared}{a:Addr}{kvs:List (Key×V)}{k:Key}{u:Value}{A:Around}{E:Yq}
end
def ym(i:Expr):Prop:=∀ov iv,subscripted i false ov iv=operate [ov,iv] (getItem ov iv)
theorem zy{prog:Program}{w:World}{A:Around}{E:Yq}{s:Shared}{env:Env}{value slice:Expr}{pos:Pos}{T id:String}{Q:Yq}
 (hl:typeLookup (.type T) "__getitem__"=pure (some (.builtin id))) (hs:ym slice)
 (h:wpAny (model prog w) A (eval value env) (λo s₁=>wpAny (model prog w) A (eval slice env) (λi s₂=>s₂.TypeIs o T/\wpAny (model prog w) A (getItem o i) Q E s₂) E s₁) E s):
 wpAny (model prog w) A (eval (.Subscript value slice pos) env) Q E s:=by
 refine Subscript_ (wpAny_mono h (λo s₁ h₁=>wpAny_mono h₁ (λi s₂ h₂=>?_) λ_ _ x=>x) λ_ _ x=>x);obtain⟨hT,h₂⟩:=h₂;unfold subscriptTail;refine q9 ?_;rw[getitemInPython_of_ne hT.not_modules];refine q9 (wpAny_specialOf hT hl ?_)
 have fin:wpAny (model prog w) A (subscripted slice false o i) (λr s₃=>wpAny (model prog w) A (letTemporaryGo value o r >>= λ_=>pure r) Q E s₃) E s₂:=by
  rw[hs o i];exact wpAny_operating (wpAny_mono h₂ (λr s₃ h₃=>q9 (wpAny_letTemporaryGo (qf h₃))) λ_ _ x=>x)
 first
  |exact qf (q9 fin)
  |exact q9 (qf (q9 fin))
  |exact q9 fin
theorem Ez{X:Cx}{pins:List (Addr×Obj)}{Y:St}{H:Hp}{s:Shared}{a:Addr}{y:V}{o:Option V}(I:Inv X pins Y H s)(g:ci H a y o):s.TypeIs (.ref a) "dict":=by
 rcases g with⟨kvs,k,e,_,_⟩|⟨kvs,k,b,e,_,_,_⟩
 .obtain⟨_,_,vs,_,dd⟩:=jP I.hok e;exact dd.typeIs
 .obtain⟨_,_,xs,_,dd⟩:=jN I.hok e;exact dd.typeIs
def zm(td ty:TE):TE:=λY H Q=>td Y H λx H1=>ty Y H1 λy H2=>∃a v,x=.ref a/\ci H2 a y (some v)/\Q v H2
def AE(td ty tv:TE):TS:=λD Y H=>tv Y H λv H1=>td Y H1 λx H2=>ty Y H2 λy H3=>∃a H4,x=.ref a/\eu H3 a y v H4/\D.nx Y H4
section
variable {X:Cx}{o i e value:Expr}{pos pos' tpos:Pos}{td ty tv:TE}
theorem jB(hu:X.A.units+1<cLine)(ho:PE X o td)(hi:PE X i ty)(hs:ym i):PE X (.Subscript o i pos) (zm td ty):=by
 intro pins s Y H Q I h;refine zy PySem.F.slot_dict_getitem.lookup hs (thn (ho pins s Y H _ I h) λu s1 ⟨x,H1,I1,rx,q1⟩=>thn (hi pins s1 Y H1 _ I1 q1) λiv s2 ⟨y,H2,I2,ry,a,v,ex,g,q2⟩=>?_);subst ex;obtain rfl:u=Value.ref a:=rx;exact⟨Ez I2 g,EI hu I2 g ry λw' s3 I3 rw'=>⟨v,H2,I3,rw',q2⟩⟩
theorem fK(hu:X.A.units+1<cLine)(ho:PE X o td)(hi:PE X i ty)(hv:PE X value tv)(hs:swapsWith value (some (.Subscript o i pos')) pos.line X.env=pure false):
 PS X (.Assign [.Subscript o i pos'] value pos) (AE td ty tv):=by
 intro pins s Y H D I h;refine wpAny_Assign_Subscript (thn (hv pins s Y H _ I h) λr s1 ⟨v,H1,I1,rv,q1⟩=>thn (ho pins s1 Y H1 _ I1 q1) λu s2 ⟨x,H2,I2,rx,q2⟩=>thn (hi pins s2 Y H2 _ I2 q2) λiv s3 ⟨y,H3,I3,ry,a,H4,ex,g,q3⟩=>?_) hs;subst ex;obtain rfl:u=Value.ref a:=rx;exact EH hu I3 g ry rv λs4 I4=>⟨Y,H4,I4,q3⟩
end
theorem xI{P:Program}{w:World}{H:Hp}(h:Heap)(hb:sysModules<h.objs.size):bF P w H (h.push { cls:=.type "dict",data:=.dict #[] }) h.objs.size (.dK []):=
 ⟨qz _,beq_eq_false_iff_ne.mpr (Ne.symm (qM hb)),[],.nil,Heap.DictOf.new h⟩
def zi:TE:=λ_ H Q=>∀p,H p=none->Q (.ref p) (upd H p (.dK []))
section
variable {X:Cx}{pos:Pos}
theorem gi:PE X (.Dict [] [] pos) zi:=λpins s Y H Q I h=>
 wpAny_Dict_empty ⟨.ref s.heap.objs.size,_,I.laid (a:=s.heap.objs.size) (o:=.dK []) (t':=s.toks) (λ_ _ q=>qb _ q) (qg _) (xI s.heap I.big),U,h _ (I.hok.fresh (qg _))⟩
end
structure M2(X:Cx)(o:Expr)(m:Str)(apos:Pos)(e f:Expr)(cpos:Pos):Prop where
 base:attributeBase o m X.env (eval o X.env)=eval o X.env
 few:((backTo cpos (starEach [e,f] X.env)).all (λx=>!x.1) && (backToKw cpos (keywordEach [] X.env)).all (λx=>x.1.isSome)
  && decide (([e,f]:List Expr).length+([]:List Keyword).length+(if([]:List Keyword).isEmpty then 0 else 1)<30))=true
 line:(apos.endLine == cpos.line)=true
 trees:backTo cpos (starEach [e,f] X.env)=[(false,eval e X.env),(false,eval f X.env)]
def IsD(H:Hp)(a:Addr):Prop:=(∃kvs,Rd H a (.dK kvs))\/∃kvs,Rd H a (.dT kvs)
theorem xa{X:Cx}{pins:List (Addr×Obj)}{Y:St}{H:Hp}{s:Shared}{a:Addr}(I:Inv X pins Y H s)(d:IsD H a):
 s.TypeIs (.ref a) "dict"/\(∀b,Value.ref a=.ref b->∃ob,s.heap.get? b=some ob/\ob.dict=none)/\(a == sysModules)=false:=by
 rcases d with⟨kvs,e⟩|⟨kvs,e⟩
 .obtain⟨_,hd,vs,_,dd⟩:=jP I.hok e;refine⟨dd.typeIs,λb q=>?_,hd⟩;cases q;obtain⟨ob,_,_,h1,h2,_⟩:=dd;exact⟨ob,h1,h2.2.1⟩
 .obtain⟨_,hd,xs,_,dd⟩:=jN I.hok e;refine⟨dd.typeIs,λb q=>?_,hd⟩;cases q;obtain⟨ob,_,_,h1,h2,_⟩:=dd;exact⟨ob,h1,h2.2.1⟩
section
variable {X:Cx}{pins:List (Addr×Obj)}{Y:St}{H:Hp}{s:Shared}{a:Addr}{y d:V}{u r:Value}{o:Option V}{A:Around}{E:Yq}
theorem EJ{Q:Yq}(hu:A.units+1<cLine)(I:Inv X pins Y H s)(g:ci H a y o)(ry:aB y u)(rd:aB d r)(h:∀w' s',Inv X pins Y H s'->aB (o.getD d) w'->Q w' s'):
 wpAny (model X.prog X.w) A (call (.builtin "dict.get") [.ref a,u,r]) Q E s:=by
 rcases g with⟨kvs,k,e,ey,l⟩|⟨kvs,k,b,e,ey,eb,l⟩
 .subst ey;obtain⟨z,hd,vs,rel,dd⟩:=jP I.hok e;refine call_meetsIn PySem.F.slot_dict_get dd.typeIs PySem.F.entry_dict_get (PySem.F.args_dict_get_3 _ _ _) (meets_dict_get_default (cY X.prog X.w) a (gx ry) hd r) ⟨_,dd.mapOf,h _ _ (I.tok _) ?_⟩;rw[l];exact(rel.val k).getD rd
 .subst ey;cases(show u=Value.ref b from ry);obtain⟨z,hd,xs,rel,dd⟩:=jN I.hok e;refine call_meetsIn PySem.F.slot_dict_get dd.typeIs PySem.F.entry_dict_get (PySem.F.args_dict_get_3 _ _ _) (meetsH_dict_get_default (tupleKind (cY X.prog X.w)) a b hd r) ⟨tupleKind_room_in1 hu,k,xs,lP I.hok eb,dd,h _ _ (I.tok _) ?_⟩;rw[l];exact(rel.val k).getD rd
end
def zj(td ty tx:TE):TE:=λY H Q=>td Y H λx H1=>∃a,x=.ref a/\IsD H1 a/\ty Y H1 λy H2=>tx Y H2 λz H3=>∃o,ci H3 a y o/\Q (o.getD z) H3
section
variable {X:Cx}{o e f:Expr}{apos cpos:Pos}{td ty tx:TE}
theorem dW(hu:X.A.units+1<cLine)(ho:PE X o td)(he:PE X e ty)(hf:PE X f tx)(m:M2 X o "get" apos e f cpos):PE X (.Call (.Attribute o "get" apos) [e,f] [] cpos) (zj td ty tx):=by
 intro pins s Y H Q I h;refine wpAny_Call_method m.base m.few m.line PySem.F.plainAttrs_dict PySem.F.slot_dict_get PySem.F.type_dict_get (thn (ho pins s Y H _ I h) λu s1 ⟨x,H1,I1,rx,a,ex,d,q1⟩=>?_);subst ex;obtain rfl:u=Value.ref a:=rx;obtain⟨t1,t2,_⟩:=xa I1 d;refine⟨t1,t2,?_⟩;rw[m.trees]
 refine Calls.callWith_builtin U (Calls.evalArgs_plain (Calls.spliced_cons (thn (he pins s1 Y H1 _ I1 q1) λiv s2 ⟨y,H2,I2,ry,q2⟩=>
  Calls.spliced_cons (thn (hf pins s2 Y H2 _ I2 q2) λfv s3 ⟨z,H3,I3,rz,ov,g,q3⟩=>Calls.spliced_nil ?_))))
 exact EJ hu I3 g ry rz λw' s4 I4 rw'=>⟨_,H3,I4,rw',q3⟩
end
section
variable {X:Cx}{pins:List (Addr×Obj)}{Y:St}{H:Hp}{s:Shared}{a:Addr}{kvs:List (Key×V)}{A:Around}{E:Yq}
end
section
variable {X:Cx}{pins:List (Addr×Obj)}{Y:St}{H:Hp}{s:Shared}{a:Addr}{y:V}{u:Value}{A:Around}{E:Yq}
end
end L2
namespace Att
open PySem PySem.W PySem.Calls PyProof.Rows
theorem DX{P:Params}{h:Heap}:∀(ns:List Int)(vs:List Value),WellAll P h vs (ns.map WData.int)->IntsAre vs ns:=by
 intro ns
 induction ns with
 |nil=>
  intro vs w;rw[List.map_nil]at w;cases w;exact .nil
 |cons n ns ih=>
  intro vs w;rw[qX]at w
  cases w with
  |cons a b=>
   cases a;exact .cons _ _ (ih _ b)
theorem Al{l:OpenLaw}{n:Nat}(hn:l.most=some n){P:Params}{h:Heap}{args:List WData}{vals:List Value}
 (hpre:l.row.toRowW.claim.pre args=true) (hwl:WellAll P h vals args):
 ∃a vs ns,vals=[Value.ref a]/\args=[WData.list (ns.map WData.int)]/\h.get? a=some { cls:=.type "list",data:=.seq vs.toArray }/\IntsAre vs ns/\ns.length<=n:=by
 have hsh:WShape.hasAll [] args [.list .int]=true:=(pre_splitW hpre).1;have hc:l.pre.holds [] { args:=args }=true:=(pre_splitW hpre).2;obtain⟨d,r,rfl,h1,h2⟩:=hasAllW_cons hsh;obtain rfl:=hasAllW_nil h2;obtain⟨xs,rfl,h3⟩:=hasW_list h1;obtain⟨ns,rfl⟩:=items_int h3
 have hlen:ns.length<=n:=by
  unfold OpenLaw.pre at hc
  have h4:(WTm.not (.lt (.lit (.int (n:Int))) (.len (.arg 0)))).holds [] { args:=[.list (ns.map .int)] }=true:=by
   have h4:=(holds_andW hc).1;rw[hn]at h4;exact h4
  have h5:=condW_of h4 (w_not (w_lt w_lit (w_len_list (w_arg U))));rw[qa]at h5;refine Nat.le_of_not_lt λq=>?_;have q':(n:Int)<((ns.length:Nat):Int):=Yo
  first
   |(rw[Q9 q']at h5;exact Qb h5 Yk)
   |(simp at h5;omega)
 cases hwl with
 |cons w1 w2=>
  cases w2
  cases w1 with
  |list ho hall=>exact⟨_,_,ns,U,U,ho,DX ns _ hall,hlen⟩
theorem Bw(l:OpenLaw)(args:List WData):l.row.toRowW.claim.post args (.bool true) args=true:=
 postW_of (r:=l.row.toRowW) (X:=(true == true))
  (show WShape.has [] (.bool true) .bool=true by first|rfl|decide|simp[WShape.has,WShape.arms,WShape.armsAll])
  (show(WTm.eq .res (.lit (.bool true))).value [] { args:=args,res:=some (.bool true),after:=args }=some (.bool (true == true))from w_eq_bool (w_res U) w_lit) U
section
variable {prog:Program}{w:World}{A:Around}{E:Yq}{s:Shared}{K:Frag}
end
end Att
namespace L2
open PySem PySem.Spec PyProof.Rows
theorem sW:∀{vs:List Value}{ns:List Int},IntsAre vs ns->az (ns.map V.int) vs
 |_,_,.nil=>.nil
 |_,_,.cons n t h=>.cons ⟨t,U⟩ (sW h)
def mh(H:Hp):Prop:=∀b,H b=none\/∃o xs,H b=some (.frz o (.lst xs))
theorem DC{P:Program}{w:World}{K:W.Frag}{mg mb:Str->Option Value}{CX:CXT}{k:Nat}{fa a:Addr}{fd:FuncData}{x:Str}{sp:Sp}{s₁:Shared}{vs:List Value}{ns:List Int}
 (KX:K.In s₁.heap) (hns:s₁.heap.Ns mainGlobals mg) (hb:s₁.heap.Ns builtinsNs mb) (hbb:∀x:Str,x≠"__name__"->mb x=bootBuiltins x) (hlim:s₁.heap.NoLimit) (hg:s₁.gens=#[])
 (ha:s₁.heap.get? a=some { cls:=.type "list",data:=.seq vs.toArray }) (hi:IntsAre vs ns) (hl:ns.length<=sizeLine) (hr:ce k callerA)
 (F:∀base:Heap,K.In base->base.Ns mainGlobals mg->aN P w K mg base CX k fa fd [x] sp) (hbind:∀(s:Shared)(u:Value),BindsTo s fd ⟨[u],[]⟩ [(x,u)])
 (hsp:∀H:Hp,mh H->SqL K H a (ns.map V.int)->sp [.ref a] H (λv _=>v=.bl true) λ_ _ _=>False)
 (hCX:∀H e s',CX [] H s₁ (λ_ _ _=>False) e s'->False):
 codeAny (model P w) callerA (.call (.ref fa) ⟨[.ref a],[]⟩) (λr s'=>r=.ok (.ret (.bool true))/\OldK s₁.heap s'.heap/\s'.os=s₁.os/\AllBare s'.gens) s₁:=by
 have rv:=sW hi;have lenV:=hi.length
 have core:∀H:Hp,mh H->SqL K H a (ns.map V.int)->HOk P w H s₁.heap->(∀b,H b≠none->b=a)->(H a≠none->K.lookup a=none)->
  codeAny (model P w) callerA (.call (.ref fa) ⟨[.ref a],[]⟩) (λr s'=>r=.ok (.ret (.bool true))/\OldK s₁.heap s'.heap/\s'.os=s₁.os/\AllBare s'.gens) s₁:=by
  intro H hO hS hok hA hK;have base_of:∀{b:Addr}{o:Obj},s₁.heap.get? b=some o->H b=none->(gz s₁.heap H).get? b=some o:=λe n=>E6 e n
  have noA:∀{b:Addr}{o:Obj}{es:Array DictEntry}{ep:Nat},s₁.heap.get? b=some o->o.data=.dict es ep->H b=none:=λ{b o es ep} e d=>by
   cases q:H b with
   |none=>rfl
   |some u=>
    have e':b=a:=hA b (by rw[q];simp);subst e';rw[ha]at e;cases e;have d':Data.seq vs.toArray _=Data.dict es ep:=d;cases d'
  have nsK:∀{b:Addr}{m:Str->Option Value},s₁.heap.Ns b m->(gz s₁.heap H).Ns b m:=λ{b m}⟨o,es,ep,e,d,r⟩=>⟨o,es,ep,base_of e (noA e d),d,r⟩
  have hKb:K.In (gz s₁.heap H):=λb o e=>base_of (KX b o e) (by
   cases q:H b with
   |none=>rfl
   |some u=>
    have e':b=a:=hA b (by rw[q];simp);subst e'
    rw[hK (by rw[q];simp)]at e;cases e)
  have hM:Mod K mg (gz s₁.heap H):=⟨hKb,nsK hns,⟨mb,nsK hb,hbb⟩,let ⟨mc,h1,h2⟩:=hlim;⟨mc,nsK h1,h2⟩⟩;have e0:iJ P w K mg (gz s₁.heap H) callerA [] s₁ H:=⟨U,hM,λb o e=>D5 e,Nat.le_of_eq (E5 _ _),trivial,λb hb=>Qb (show b∈([]:List Addr)from hb) (by simp),hok,.of_eq hg⟩;refine codeAny_mono ((F _ hKb (nsK hns)).run callerA [] s₁ H ⟨[.ref a],[]⟩ [.ref a] [.ref a] _ _ hr e0 (hbind s₁ (.ref a)) (.cons U .nil) (hsp H hO hS)) λr s' h=>?_
  cases r with
  |error e=>exact(hCX H e s' h).elim
  |ok fl=>
   cases fl with
   |next=>exact False.elim h
   |brk=>exact False.elim h
   |cont=>exact False.elim h
   |ret u=>
    obtain⟨v,H',os,bare,un,hok',r',q⟩:=h;have q':v=.bl true:=q;subst q';obtain rfl:u=Value.bool true:=r';refine⟨U,OldK.of_keep λb o e=>?_,os,bare⟩
    cases q:H b with
    |none=>exact un.keep b o e q (by intro z;exact Qb (show b∈([]:List Addr)from z) (by simp)) (by simp)
    |some u=>
     rcases hO b with z|⟨ob,xs,z⟩
     .rw[q]at z;cases z
     .have z2:=un.frzs b ob _ z;obtain⟨e1,_⟩:=hok b _ z;obtain⟨e2,_⟩:=hok' b _ z2;rw[e]at e1;cases e1;exact e2
 cases hk:K.lookup a with
 |some o=>
  have e:=KX a o hk;rw[ha]at e;cases e;refine core (λ_=>none) (λ_=>.inl U) (.inr ⟨_,vs.toArray,_,hk,U,U,U,by rw[qI,lenV];exact hl,by simpa using rv⟩) (λb u z=>by have z':(none:Option HO)=some u:=z;cases z') (λb z=>Qb U z) λz=>Qb U z
 |none=>
  refine core (λb=>if b=a then some (.frz { cls:=.type "list",data:=.seq vs.toArray } (.lst (ns.map V.int)))else none) (λb=>?_) (.inl (.inr ⟨{ cls:=.type "list",data:=.seq vs.toArray },Q8 U⟩)) (λb u z=>?_) (λb z=>?_) λ_=>hk
  .by_cases hb:b=a
   .exact .inr ⟨_,_,Q8 hb⟩
   .exact .inl (Q7 hb)
  .by_cases hb:b=a
   .have z':=(Q8 hb).symm.trans z;cases z';subst hb;exact⟨ha,by rw[qa];exact hl,vs,_,rv,ha⟩
   .have z':=(Q7 hb).symm.trans z;cases z'
  .by_cases hb:b=a
   .exact hb
   .exact Qb (Q7 hb) z
abbrev CX0:CXT:=λ_ _ _ _ _ _=>False
abbrev E0:XK:=λ_ _ _=>False
theorem aC{X:Cx}:iH CX0 X E0:=λ_ _ _ _ _ _ _ h=>h.elim
structure Fun(K:W.Frag)(x qual:Str)(st:Stmt)(f:Addr)(fd:FuncData):Prop where
 ex:∃(oc:Value)(od:Option Addr)(kV doc pm:Value)(an:Option Addr)(cdv ct:Value)(osl:Array (Option Value)),
  fd=PySem.W.fnOf x qual (gX st) (gB st) (aI st) .none kV doc pm an cdv ct/\K.lookup f=some ⟨oc,od,.func fd,osl⟩/\PySem.W.codeIn K cdv qual=true
 kp:PySem.W.keepIn K (.ref f)=true
section
variable {P:Program}{w:World}{K:W.Frag}{mg:Str->Option Value}{base:Heap}
theorem Fun.ok{x qual:Str}{st:Stmt}{f:Addr}{fd:FuncData}{N ps:List Str}{k:Nat}{sp:Sp}(F:Fun K x qual st f fd)(S:aS N ps (aI st))(len:∀vs H Q E,sp vs H Q E->vs.length=ps.length)
 (hbody:∀(cdv:Value)(A:Around)(outer:List Env)(s:Shared)(H:Hp)(vs:List V)(Q:VK)(E:XK),ce k (A.deeper (envOfC qual (aI st) s.heap.objs.size f cdv))->sp vs H Q E->
  ∃t,PSs (j9 CX0 P w K mg base N qual (aI st) f cdv A outer s H E).nox (gB st) t/\t { nx:=λ_ H'=>Q .non H',rt:=Q } (start N vs) H):aN P w K mg base CX0 (k+1) f fd ps sp:=by
 obtain⟨oc,od,kV,doc,pm,an,cdv,ct,osl,rfl,lk,hcd⟩:=F.ex;refine Eg lk hcd S len λA outer s H vs Q E hr hsp=>?_;obtain⟨t,h,q⟩:=hbody cdv A outer s H vs Q E hr hsp;exact⟨t,h.nox,q⟩
theorem Fun.binds{x qual:Str}{st:Stmt}{f:Addr}{fd:FuncData}{ps:List Str}(F:Fun K x qual st f fd)
 (h:∀(kV doc pm:Value)(an:Option Addr)(cdv ct:Value)(us:List Value),us.length=ps.length->bindArgs (PySem.W.fnOf x qual (gX st) (gB st) (aI st) .none kV doc pm an cdv ct) ⟨us,[]⟩=pure (ps.zip us)):aQ K fd ps []:=by
 obtain⟨oc,od,kV,doc,pm,an,cdv,ct,osl,rfl,lk,hcd⟩:=F.ex;exact .all (h kV doc pm an cdv ct)
theorem Ee{x qual:Str}{st:Stmt}{f:Addr}{oc:Value}{od an:Option Addr}{osl:Array (Option Value)}{kV doc pm cdv ct:Value}(l:K.lookup f=some ⟨oc,od,.func (PySem.W.fnOf x qual (gX st) (gB st) (aI st) .none kV doc pm an cdv ct),osl⟩)
 (c:PySem.W.codeIn K cdv qual=true) (k:PySem.W.keepIn K (.ref f)=true):Fun K x qual st f (PySem.W.fnOf x qual (gX st) (gB st) (aI st) .none kV doc pm an cdv ct):=⟨⟨oc,od,kV,doc,pm,an,cdv,ct,osl,U,l,c⟩,k⟩
end
section
variable {X:Cx}
end
theorem j6{A B:Prop}(h:B):if false=true then A else B:=by
 rw[Q7 qo];exact h
theorem rJ{A B:Prop}(h:A):if true=true then A else B:=by
 rw[Q8 U];exact h
theorem cN{c A B:Prop}[Decidable c](h1:c->A)(h2:¬ c->B):if c then A else B:=by
 by_cases h:c
 .rw[Q8 h];exact h1 h
 .rw[Q7 h];exact h2 h
def a8(H H':Hp):Prop:=∀b o,H b=some o->H' b=some o
theorem a8.refl(H:Hp):a8 H H:=λ_ _ h=>h
theorem a8.trans{H H1 H2:Hp}(a:a8 H H1)(b:a8 H1 H2):a8 H H2:=λc o h=>b c o (a c o h)
theorem a8.free{H H':Hp}(e:a8 H H'){l:Addr}(h:H' l=Option.none):H l=Option.none:=by
 cases q:H l with
 |none=>rfl
 |some o=>
  rw[e l o q]at h;cases h
theorem a8.seq{K:W.Frag}{H H':Hp}{a:Addr}{xs:List V}(e:a8 H H')(h:SqL K H a xs):SqL K H' a xs:=by
 rcases h with(h|⟨o,h⟩)|h
 .exact .inl (.inl (e _ _ h))
 .exact .inl (.inr ⟨o,e _ _ h⟩)
 .exact .inr h
section
variable {X:Cx}
end
section
variable {κ:Type} [DecidableEq κ]
end
noncomputable def dY(cells:List (Str×Addr)):List (Str×NameKind)->List (Str×Addr)->List (Str×Addr)
 |[],acc=>acc
 |(n,k)::r,acc=>dY cells r (if k == .free then(match cells.lookup n with|some c=>(n,c)::acc|none=>acc)else acc)
theorem EX{scope:Scope}{env:Env}(h:∀y∈scope.names,y.2=.free->∃c,env.cells.lookup y.1=some c):closureFor scope env=pure (dY env.cells scope.names []):=by
 simp only[closureFor];generalize ([]:List (Str×Addr))=acc
 revert h
 generalize scope.names=l;intro h
 induction l generalizing acc with
 |nil=>simp[dY]
 |cons x r ih=>
  obtain⟨n,k⟩:=x;rw[List.forIn_cons];have hr:∀y∈r,y.2=NameKind.free->∃c,env.cells.lookup y.1=some c:=λy hy=>h y (qq _ hy);by_cases hk:k=.free
  .subst hk;obtain⟨c,e⟩:=h (n,.free) qt U;have e':List.lookup n env.cells=some c:=e;have e2:cellOf env n=pure c:=by unfold cellOf;rw[e']
   simp only[beq_self_eq_true,if_true,e2,pure_bind,dY,e'];exact ih _ hr
  .have hb:(k == NameKind.free)=false:=by simpa using hk
   simp only[hb,Qq,if_false,pure_bind,dY];exact ih _ hr
theorem xn(cells:List (Str×Addr)):∀(l:List (Str×NameKind))(acc:List (Str×Addr))(p:Str×Addr),p∈dY cells l acc->p∈acc\/(p.1,NameKind.free)∈l/\cells.lookup p.1=some p.2
 |[],_,_,h=>.inl h
 |(n,k)::r,acc,p,h=>by
  have h':p∈dY cells r (if k == .free then(match cells.lookup n with|some c=>(n,c)::acc|none=>acc)else acc):=h;rcases xn cells r _ p h' with q|⟨q1,q2⟩
  .by_cases hk:k=.free
   .subst hk;simp only[beq_self_eq_true,if_true]at q
    cases e:cells.lookup n with
    |none=>rw[e]at q;exact .inl q
    |some c=>
     rw[e]at q;rcases qA.mp q with rfl|q
     .exact .inr ⟨qt,e⟩
     .exact .inl q
   .have hb:(k == NameKind.free)=false:=by simpa using hk
    simp only[hb,Qq,if_false]at q;exact .inl q
  .exact .inr ⟨qq _ q1,q2⟩
theorem wI{α β:Type}[BEq α][LawfulBEq α]{x:α}:∀{l:List (α×β)}{c:β},(x,c)∈l->∃d,l.lookup x=some d
 |(a,b)::r,c,h=>by
  by_cases e:x=a
  .subst e;exact⟨b,by simp⟩
  .rcases qA.mp h with q|q
   .cases q;exact Qb U e
   .obtain⟨d,hd⟩:=wI q;refine⟨d,?_⟩;have e':(x == a)=false:=by simpa using e
    simp only[List.lookup_cons,e'];exact hd
theorem xq(cells:List (Str×Addr))(x:Str)(c:Addr)(e:cells.lookup x=some c):∀(l:List (Str×NameKind))(acc:List (Str×Addr)),((x,NameKind.free)∈l\/(x,c)∈acc)->(x,c)∈dY cells l acc
 |[],_,h=>h.elim (λq=>nomatch q) id
 |(n,k)::r,acc,h=>by
  refine xq cells x c e r _ ?_;rcases h with h|h
  .rcases qA.mp h with q|q
   .cases q;refine .inr ?_;rw[e];exact qt
   .exact .inl q
  .refine .inr ?_;by_cases hk:(k == NameKind.free)=true
   .rw[Q8 hk]
    cases cells.lookup n with
    |none=>exact h
    |some _=>exact qq _ h
   .rw[Q7 hk];exact h
theorem gW{cells:List (Str×Addr)}{names:List (Str×NameKind)}{x:Str}{c:Addr}(h:(dY cells names []).lookup x=some c):cells.lookup x=some c:=by
 have hm:=Qo h;rcases xn cells names [] _ hm with q|⟨_,q⟩
 .exact nomatch q
 .exact q
theorem xr{cells:List (Str×Addr)}{names:List (Str×NameKind)}{x:Str}{c:Addr}(hm:(x,NameKind.free)∈names)(e:cells.lookup x=some c):(dY cells names []).lookup x=some c:=by
 obtain⟨d,hd⟩:=wI (xq cells x c e names [] (.inl hm));have:=gW hd;rw[e]at this;rw[hd,this]
theorem vt{scope:Scope}{env:Env}{x:Str}{k:NameKind}(h:(relabel scope env).names.lookup x=some k):∃k',scope.names.lookup x=some k'/\(k'=k\/(k'=.free/\k=.cell)):=by
 have go:∀(l:List (Str×NameKind)),(l.map λ(n,k)=>if(k == NameKind.free && env.scope.kind == .function && env.kindOf n == some .cell)then(n,NameKind.cell)else(n,k)).lookup x=some k->∃k',l.lookup x=some k'/\(k'=k\/(k'=.free/\k=.cell)):=by
  intro l
  induction l with
  |nil=>intro h;simp at h
  |cons p r ih=>
   obtain⟨n,kk⟩:=p;intro h;simp only[qX]at h;by_cases hx:x=n
   .subst hx;by_cases hc:(kk == NameKind.free && env.scope.kind == .function && env.kindOf x == some .cell)=true
    .rw[Q8 hc]at h;simp at h
     have:kk=.free:=by
      simp only[Bool.and_eq_true,beq_iff_eq]at hc;exact hc.1.1
     exact⟨kk,by simp,.inr ⟨this,h.symm⟩⟩
    .rw[Q7 hc]at h;simp at h;exact⟨kk,by simp,.inl h⟩
   .have e':(x == n)=false:=by simpa using hx
    have:∀b:Bool,(if b=true then(n,NameKind.cell)else(n,kk)).1=n:=λb=>by cases b<;>rfl
    rw[List.lookup_cons,this,e']at h;obtain⟨k',h1,h2⟩:=ih h;exact⟨k',by rw[List.lookup_cons,e'];exact h1,h2⟩
 exact go scope.names h
theorem AU{scope:Scope}{env:Env}{x:Str}(h:scope.names.lookup x=some .free):(relabel scope env).names.lookup x=some .cell\/(relabel scope env).names.lookup x=some .free:=by
 have go:∀(l:List (Str×NameKind)),l.lookup x=some .free->(l.map λ(n,k)=>if(k == NameKind.free && env.scope.kind == .function && env.kindOf n == some .cell)then(n,NameKind.cell)else(n,k)).lookup x=some .cell\/(l.map λ(n,k)=>if(k == NameKind.free && env.scope.kind == .function && env.kindOf n == some .cell)then(n,NameKind.cell)else(n,k)).lookup x=some .free:=by
  intro l
  induction l with
  |nil=>intro h;simp at h
  |cons p r ih=>
   obtain⟨n,kk⟩:=p;intro h;simp only[qX];by_cases hx:x=n
   .subst hx;simp at h;by_cases hc:(kk == NameKind.free && env.scope.kind == .function && env.kindOf x == some .cell)=true
    .rw[Q8 hc];simp
    .rw[Q7 hc];simp[h]
   .have e':(x == n)=false:=by simpa using hx
    have t:∀b:Bool,(if b=true then(n,NameKind.cell)else(n,kk)).1=n:=λb=>by cases b<;>rfl
    rw[List.lookup_cons,e']at h;rw[List.lookup_cons,t,e'];exact ih h
 exact go scope.names h
section
variable {prog:Program}{w:World}{A:Around}{R:Result->Shared->Prop}{s:Shared}
theorem EU{elt target iter:Expr}{ifs:List Expr}{scope:Scope}{pos:Pos}{it acc:Value}{env:Env}(I:Nat->Shared->Prop)
 (turn:∀n s,I n s->wpAny (model prog w) A (pyNext it) (λr s₁=>match r with
  |none=>R (.ok .next) s₁
  |some v=>wpAny (model prog w) A (letOwnedTupleGo target it v) (λ_ s₁'=>wpAny (model prog w) A (assign target env v) (λ_ s₂=>
   wpAny (model prog w) A (forIn ifs true λc r=>if r=true then do let ok <- isTrue c env (eval c env);pure (ForInStep.yield ok)else pure (ForInStep.yield r)) (λok s₃=>
    if ok=true then wpAny (model prog w) A (eval elt env) (λx s₄=>
     wpAny (model prog w) A (call (.builtin "list.append") [acc,x]) (λ_ s₅=>∃m,m<n/\I m s₅) (λ_ _=>False) s₄) (λ_ _=>False) s₃
    else ∃m,m<n/\I m s₃) (λ_ _=>False) s₂) (λ_ _=>False) s₁') (λ_ _=>False) s₁) (λ_ _=>False) s)
 (n:Nat) (h:I n s):
 codeAny (model prog w) A (.compLoop (.ListComp elt [⟨target,iter,ifs,0⟩] scope pos) 0 it acc env) R s:=by
 refine codeAny_loop U I (λn s hI=>?_) n h;show wpAny _ A ((compTurn (.ListComp elt [⟨target,iter,ifs,0⟩] scope pos) 0 it acc env).onRaise (λx=>do noteFrame x env;theTreesLotGoes x)) _ _ s;refine wpAny_noted ?_;rw[compTurn_list];refine q9 (wpAny_standAt (q9 (wpAny_mono (turn n s hI) (λr s₁ h₁=>?_) λ_ _ h'=>h'.elim)))
 cases r with
 |none=>exact qf h₁
 |some v=>
  refine q9 (wpAny_mono h₁ (λ_ s₁' h₁'=>?_) λ_ _ h'=>h'.elim);refine q9 (wpAny_mono h₁' (λ_ s₂ h₂=>q9 (wpAny_mono h₂ (λok s₃ h₃=>?_) λ_ _ h'=>h'.elim)) λ_ _ h'=>h'.elim)
  cases ok with
  |false=>exact qf ⟨U,h₃⟩
  |true=>
   exact q9 (q9 (wpAny_mono h₃ (λx s₄ h₄=>q9 (wpAny_mono h₄ (λ_ s₅ h₅=>qf (qf ⟨U,h₅⟩)) λ_ _ h'=>h'.elim)) λ_ _ h'=>h'.elim))
end
structure bE(esc:Scope)(N:List Str)(scope:Scope)(k:Nat)(Nc:List Str)(js:List Nat):Prop where
 kind:scope.kind=.function
 cell:∀y∈scope.names,y.2≠.cell
 names:∀y∈scope.names,y.2=.local->scope.names.lookup y.1=some .local
 free:∀y∈scope.names,y.2=.free->esc.names.lookup y.1=some .cell\/esc.names.lookup y.1=some .free
 len:Nc.length=k+js.length
 out:∀p∈(Nc.drop k).zip js,N[p.2]?=some p.1/\scope.names.lookup p.1=some .free
noncomputable def iA(k:Nat)(js:List Nat)(Y:St):St:=List.replicate k none++js.map λj=>(Y[j]?).join
noncomputable def Cx.comp(X:Cx)(pins:List (Addr×Obj))(Nc:List Str)(scope:Scope)(fp:List Addr)(s:Shared)(H:Hp)(C:Addr):Cx:=
 { X with N:=Nc,s₀:=s,H₀:=H,env:=compEnvC scope (dY X.env.cells scope.names []) C X.env,outer:=X.stack,stack:=X.stack,ex:=fp,fn:=λ_=>false,pn:=X.pn++pins,xe:=λ_ _=>False }
section
variable {X:Cx}{pins:List (Addr×Obj)}{Y:St}{H:Hp}{s:Shared}{scope:Scope}{Nc:List Str}{js:List Nat}{k:Nat}
theorem bE.some(S:bE X.env.scope X.N scope k Nc js)(I:Inv X pins Y H s):∀y∈scope.names,y.2=.free->∃c,X.env.cells.lookup y.1=some c:=λy hy hk=>I.ok.has y.1 (S.free y hy hk)
theorem bE.clos(S:bE X.env.scope X.N scope k Nc js)(I:Inv X pins Y H s):closureFor scope X.env=pure (dY X.env.cells scope.names []):=EX (S.some I)
theorem ER(S:bE X.env.scope X.N scope k Nc js)(I:Inv X pins Y H s){fp:List Addr}(hf:∀b∈fp,dk X pins H b)(hlt:∀b∈fp,b<s.heap.objs.size){C:Addr}(hC:s.heap.objs.size<=C):(X.comp pins Nc scope fp s H C).Ok:=by
 have ltC:∀b,b<s.heap.objs.size->b≠C:=λb hb=>qM (qJ hb hC)
 have notstk:∀b∈fp,b∉frs X.stack:=λb hb z=>by
  rcases qA.mp (I.stkSub b z)with e|e
  .exact(hf b hb).2.1 e
  .exact(hf b hb).2.2.1 e
 refine⟨I.ok.mod,S.kind,I.ok.glob,I.ok.blt,hC,λx y c h1 h2=>I.ok.inj x y c (gW h1) (gW h2),λx hx=>?_,λx c h=>?_,I.ok.hd,I.ok.frames,.inl U,λb hb=>⟨?_,λx c e=>(hf b hb).2.2.2.2.1 x c (gW e)⟩,
  λb o e=>⟨(I.bs b o e).1,(I.bs b o e).2⟩,qF I.ok.bsz I.sz,λb o e hb=>?_,notstk,I.stack,I.stkFree⟩
 .have hx':(relabel scope X.env).names.lookup x=some .cell\/(relabel scope X.env).names.lookup x=some .free:=hx
  have hfree:(x,NameKind.free)∈scope.names:=by
   rcases hx' with h|h
   .obtain⟨k',h1,h2⟩:=vt h;rcases h2 with rfl|⟨rfl,_⟩
    .exact Qb U (S.cell _ (Qo h1))
    .exact Qo h1
   .obtain⟨k',h1,h2⟩:=vt h;rcases h2 with rfl|⟨rfl,_⟩
    .exact Qo h1
    .exact Qo h1
  obtain⟨c,hc⟩:=S.some I (x,.free) hfree U;exact⟨c,xr hfree hc⟩
 .exact Qb (show false=true from h) qo
 .exact ltC b (hlt b hb)
 .rcases(hf b hb).2.2.2.1 with q|q
  .exact I.ok.noex b o e q
  .exact Qb (qJ (qv e) (qF I.ok.bsz q)) (Qi _)
theorem ES(S:bE X.env.scope X.N scope k Nc js)(I:Inv X pins Y H s){fp:List Addr}(hf:∀b∈fp,dk X pins H b)(hlt:∀b∈fp,b<s.heap.objs.size){C:Addr}(hC:s.heap.objs.size<=C){s1:Shared}
 (os:s1.os=s.os) (bare:AllBare s1.gens) (kept:∀b o,s.heap.get? b=some o->s1.heap.get? b=some o) (ns:∃m,s1.heap.Ns C m):Inv (X.comp pins Nc scope fp s H C) [] (iA k js Y) H s1:=by
 have ltC:∀b,b<s.heap.objs.size->b≠C:=λb hb=>qM (qJ hb hC);refine⟨ER S I hf hlt hC,os,bare,Un.kept kept,?_,λx c e=>?_,I.hok.fresh hC,λx c e=>I.freeC x c (gW e),λp hp=>?_,I.hok.kept kept,?_⟩
 .obtain⟨mc,hns⟩:=ns;refine⟨mc,hns,λi x v e1 e2 e3=>?_⟩;have e1':Nc[i]?=some x:=e1;by_cases hi:i<k
  .unfold iA at e2;rw[Qc (by simpa using hi),List.getElem?_replicate,Q8 hi]at e2;cases e2
  .obtain⟨i',rfl⟩:∃i',i=k+i':=⟨i-k,Yo⟩;unfold iA at e2;rw[qR (by simp),List.length_replicate,Nat.add_sub_cancel_left,qK]at e2
   cases ej:js[i']? with
   |none=>rw[ej]at e2;cases e2
   |some j=>
    rw[ej]at e2;have e2':(Y[j]?).join=some v:=qP e2
    have e4:Y[j]?=some (some v):=by
     cases q:Y[j]? with
     |none=>rw[q]at e2';cases e2'
     |some z=>rw[q]at e2';cases z with
      |none=>cases e2'
      |some z=>cases e2';rfl
    have hm:(x,j)∈(Nc.drop k).zip js:=qG (i:=i') (List.getElem?_zip_eq_some.mpr ⟨by rw[List.getElem?_drop];exact e1',ej⟩);obtain⟨hN,hfr⟩:=S.out _ hm;have hfm:(x,NameKind.free)∈scope.names:=Qo hfr;have hk:=S.free _ hfm U;obtain⟨m,hn,hl⟩:=I.loc;obtain⟨u,r,l⟩:=hl j x v hN e4 (.inr hk);refine⟨u,r,?_⟩;rcases l with⟨hk',_⟩|⟨_,c,hc,o,ho,hd⟩
    .have hk'':X.env.scope.names.lookup x=some .local:=hk';rcases hk with hk|hk
     .rw[hk]at hk'';cases hk''
     .rw[hk]at hk'';cases hk''
    .exact .inr ⟨AU hfr,c,xr hfm hc,o,kept _ _ ho,hd⟩
 .obtain⟨v,o,ho,hd⟩:=I.cell x c (gW e);exact⟨v,o,kept _ _ ho,hd⟩
 .have hp':p∈X.pn++pins:=by
   rcases qk.mp hp with z|z
   .exact z
   .exact nomatch z
  obtain⟨e,n,ne,nf,d⟩:=I.pin p hp';refine⟨kept _ _ e,n,ltC _ (qv e),λz=>?_,d⟩;rcases qA.mp (I.stkSub _ z)with q|q
  .exact ne q
  .exact nf q
 .show(iA k js Y).length=Nc.length;unfold iA;rw[qc,List.length_replicate,qa,S.len]
theorem ET(I:Inv X pins Y H s){fp:List Addr}(hf:∀b∈fp,dk X pins H b){C D:Addr}(hDs:s.heap.objs.size<=D){pins':List (Addr×Obj)}{Y':St}{H':Hp}{s':Shared}{ys:List V}{its:List Value}{n:Nat}
 (J:Inv (X.comp pins Nc scope fp s H C) pins' Y' H' s') (hD:H' D=none) (hz:ys.length<=sizeLine) (hv:az ys its) (ho:s'.heap.get? D=some { cls:=.type "list",data:=.seq its.toArray n }):
 Inv X pins Y (upd H' D (.lst ys)) s':=by
 have B:Un (frs X.stack) fp H H' s.heap s'.heap:=J.base;have neD:∀b o,s.heap.get? b=some o->b≠D:=λb o e=>qM (qJ (qv e) hDs);refine I.call' (ch:=fp) J.os ⟨B.keep,B.slot,λb o e n hx=>?_,B.there,λb xs e=>?_,λb o u e=>?_,λb ps e=>?_⟩ (λb o e=>?_) J.bare λb hb=>⟨(hf b hb).2.2.2.1,(hf b hb).2.1,(hf b hb).2.2.2.2.1,(hf b hb).2.2.2.2.2⟩
 .rw[af (neD b o e)];exact B.free b o e n hx
 .rw[af (cC (B.tups b xs e) hD)];exact B.tups b xs e
 .rw[af (cC (B.frzs b o u e) hD)];exact B.frzs b o u e
 .obtain⟨more,q⟩:=B.tbls b ps e;exact⟨more,by rw[af (cC q hD)];exact q⟩
 .by_cases hb:b=D
  .subst hb;rw[ag]at e;cases e;exact⟨hz,its,n,hv,ho⟩
  .rw[af hb]at e;exact(J.hok b o e).stay (λc v _ q=>q) (λc q=>by rw[af (cC q hD)];exact q) λc xs q=>by rw[af (cC q hD)];exact q
end
def PTs(X0:Cx)(ifs:List Expr)(t:TT):Prop:=
 ∀(pins:List (Addr×Obj))(s:Shared)(Y:St)(H:Hp)(Q:Bool->Hp->Prop),Inv X0 pins Y H s->t Y H Q->
  wpAny (model X0.prog X0.w) X0.A (forIn ifs true λc r=>if r=true then do let ok <- isTrue c X0.env (eval c X0.env);pure (ForInStep.yield ok)else pure (ForInStep.yield r)) (TP X0 pins Y Q) X0.xe s
def jg:TT:=λ_ H Q=>Q true H
theorem i8{X0:Cx}:PTs X0 [] jg:=λ_ _ _ H _ I h=>wpAny_tests_nil ⟨H,I,h⟩
theorem iZ{X0:Cx}{c:Expr}{t:TT}(h:PT X0 c t):PTs X0 [c] t:=λpins s Y H Q I hq=>wpAny_tests_one (h pins s Y H Q I hq)
def iK(J:It)(g:TG)(tt:TT)(te:TE)(Fin:List V->Hp->Prop)(W:Nat->Nat->List V->St->Hp->Prop):Prop:=
 ∀i m ys Y H,W i m ys Y H->(J.stop i H/\ys.length<=sizeLine/\Fin ys H)\/(J.go i H/\ys.length<sizeLine/\∃N:List V->St->Hp->Prop,(∀ys' Y' H',N ys' Y' H'->∃m',m'<m/\W (i+1) m' ys' Y' H') /\
  ∀x H',J.yld i H x H'->g x Y H' λY2 H2=>tt Y2 H2 λb H3=>if b=true then te Y2 H3 λy H4=>N (ys++[y]) Y2 H4 else N ys Y2 H3)
section
variable {X:Cx}{pins:List (Addr×Obj)}{Y:St}{H:Hp}{s:Shared}{scope:Scope}{Nc:List Str}{js:List Nat}{k:Nat}{tg iter elt:Expr}{ifs:List Expr}{pos:Pos}{g:TG}{tt:TT}{te:TE}
theorem xT{J:It}{fp:List Addr}{it:Addr}{tn:Nat->Heap->Prop}{Fin:List V->Hp->Prop}{W:Nat->Nat->List V->St->Hp->Prop}{RR:Value->Addr->Result->Shared->Prop}{E:Yq}{m0:Nat}
 (S:bE X.env.scope X.N scope k Nc js) (hc:X.calm=true) (I:Inv X pins Y H s) (T:iG X.prog X.w X.K tg J fp it tn) (st:tn 0 s.heap) (hf:∀b∈fp,dk X pins H b)
 (hg:∀pins fp s H C,PG (X.comp pins Nc scope fp s H C) tg g) (ht:∀pins fp s H C,PTs (X.comp pins Nc scope fp s H C) ifs tt) (he:∀pins fp s H C,PE (X.comp pins Nc scope fp s H C) elt te)
 (w0:W 0 m0 [] (iA k js Y) H) (turn:iK J g tt te Fin W)
 (hRR:∀D C s' ys H',Inv X pins Y (upd H' D (.lst ys)) s'->dk X pins (upd H' D (.lst ys)) C->(∃m,s'.heap.Ns C m)->H' D=none->Fin ys H'->RR (.ref D) C (.ok .next) s'):
 wpAny (model X.prog X.w) X.A (newList []) (λacc s₃=>wpAny (model X.prog X.w) X.A (newFunctionEnv scope X.env.globals (dY X.env.cells scope.names []) [] X.env.qual none .none (some X.env)) (λcenv s₄=>
  codeAny (model X.prog X.w) X.A (.compStart (.ListComp elt [⟨tg,iter,ifs,0⟩] scope pos) 0 (.ref it) acc { cenv with scope:=relabel scope X.env }) (RR acc cenv.locals) s₄) E s₃) E s:=by
 refine wpAny_newObj_type (wpAny_newFunctionEnv S.cell (by intro y hy;simp at hy) (λh₁ hns₁ hsb₁=>?_) S.kind);dsimp only at hns₁ hsb₁ ⊢;generalize hH2:s.heap.push { cls:=.type "list",dict:=none,data:=.seq ([]:List Value).toArray }=H2 at hns₁ hsb₁ ⊢;have hC:H2.objs.size=s.heap.objs.size+1:=by rw[<- hH2,Qm]
 have hCle:s.heap.objs.size<=H2.objs.size:=by rw[hC];exact Nat.le_succ _
 have hDC:s.heap.objs.size≠H2.objs.size:=by rw[hC];exact qM (Qh _)
 have old:∀b o,s.heap.get? b=some o->h₁.get? b=some o:=λb o e=>
  hsb₁.extBut b o (qM (qJ (qv e) hCle)) (qb _ (hH2▸qb _ e))
 have hacc:h₁.get? s.heap.objs.size=some { cls:=.type "list",data:=.seq ([]:List Value).toArray 0 }:=hsb₁.extBut _ _ hDC (qb _ (hH2▸qu _ U));have hob:∀b∈fp,∃o,s.heap.get? b=some o:=λb hb=>let ⟨o,e,_⟩:=T.obj 0 _ st b hb;⟨o,e⟩;have hlt:∀b∈fp,b<s.heap.objs.size:=λb hb=>let ⟨_,e⟩:=hob b hb;qv e
 have notstk:∀b∈fp,b∉frs X.stack:=λb hb z=>by
  rcases qA.mp (I.stkSub b z)with e|e
  .exact(hf b hb).2.1 e
  .exact(hf b hb).2.2.1 e
 have hDstk:s.heap.objs.size∉frs X.stack:=λz=>by
  rcases qA.mp (I.stkSub _ z)with e|e
  .have:=I.lt;rw[<- e]at this;exact Qi _ this
  .exact I.nofs (qg _) e
 let dpin:List Value->Nat->List (Addr×Obj):=λits n=>[(s.heap.objs.size,{ cls:=.type "list",data:=.seq its.toArray n })]
 have fpok:∀{H':Hp}{its:List Value}{n:Nat},(∀b∈fp,H' b=none)->∀b∈fp,dk (X.comp pins Nc scope fp s H H2.objs.size) (dpin its n) H' b:=λ{H' its n} hn b hb=>
  ⟨hn b hb,qM (qJ (hlt b hb) hCle),notstk b hb,.inl hb,λx c e=>(hf b hb).2.2.2.2.1 x c (gW e),λp hp z=>by
   rcases qk.mp hp with q|q
   .exact(hf b hb).2.2.2.2.2 p q z
   .have e:p=(s.heap.objs.size,_):=qY.mp q;rw[e]at z
    exact Qb (hlt b hb) (by rw[<- z];exact Qi _)⟩
 have loop:∀s₃:Shared,s₃={ s with heap:=h₁,toks:=s.toks+([]:List (Str×Value)).length }->
  codeAny (model X.prog X.w) X.A (.compLoop (.ListComp elt [⟨tg,iter,ifs,0⟩] scope pos) 0 (.ref it) (.ref s.heap.objs.size) (compEnvC scope (dY X.env.cells scope.names []) H2.objs.size X.env)) (RR (.ref s.heap.objs.size) H2.objs.size) s₃:=by
  rintro s₃ rfl
  refine EU (λn s'=>∃i ys its nn Yc H',Inv (X.comp pins Nc scope fp s H H2.objs.size) [] Yc H' s'/\tn i s'.heap/\(∀b∈fp,H' b=none)/\H' s.heap.objs.size=none/\az ys its /\
   s'.heap.get? s.heap.objs.size=some { cls:=.type "list",data:=.seq its.toArray nn }/\W i n ys Yc H') ?_ m0 ?_
  .rintro n s3 ⟨i,ys,its,nn,Y3,H3,I3,st3,fr3,hD3,hv3,ho3,w3⟩
   have I3':Inv (X.comp pins Nc scope fp s H H2.objs.size) (dpin its nn) Y3 H3 s3:=I3.pins_of λp hp=>by
    have e:p=(s.heap.objs.size,_):=qY.mp hp;subst e;exact⟨ho3,hD3,hDC,hDstk,λv z=>by cases z⟩
   rcases turn i n ys Y3 H3 w3 with⟨stop,hz,fin⟩|⟨go,hz,N,hN,step⟩
   .refine thn (T.done (X.comp pins Nc scope fp s H H2.objs.size) U U U hc i (dpin its nn) s3 Y3 H3 (λ_ _=>False) I3' (fpok fr3) st3 stop) λr s4 ⟨hr,I4⟩=>?_;subst hr;have ho4:=(I4.pin _ (qO _ (qY.mpr U))).1;obtain⟨m4,hn4,_⟩:=I4.loc;refine hRR _ _ s4 ys H3 (ET I hf (qg _) I4 hD3 hz hv3 ho4) (I.fpOk hCle ?_) ⟨m4,hn4⟩ hD3 fin;rw[af (Ne.symm hDC)];exact I4.free
   .refine thn (T.item (X.comp pins Nc scope fp s H H2.objs.size) U U U hc i (dpin its nn) s3 Y3 H3 (λ_ _=>False) I3' (fpok fr3) st3 go) λr s4 ⟨u,hr,h4⟩=>?_;subst hr;refine thn h4 λ_ s5 ⟨x,H5,I5,r5,y5,st5,fr5⟩=>?_;have I5':=I5.pinned (fpok fr5) (T.obj _ _ st5);refine thn (hg pins fp s H H2.objs.size _ s5 Y3 H5 x u _ I5' r5 (step x H5 y5)) λ_ s6 ⟨Y6,H6,I6,q6⟩=>?_;refine thn (ht pins fp s H H2.objs.size _ s6 Y6 H6 _ I6 q6) λok s7 ⟨H7,I7,q7⟩=>?_
    have keepIt:∀{Y':St}{H':Hp}{s':Shared},Inv (X.comp pins Nc scope fp s H H2.objs.size) (dpin its nn++jA fp s5.heap) Y' H' s'->
     s'.heap.get? s.heap.objs.size=some { cls:=.type "list",data:=.seq its.toArray nn }/\H' s.heap.objs.size=none/\(∀b∈fp,H' b=none)/\(∀b∈fp,∀o,s5.heap.get? b=some o->s'.heap.get? b=some o):=λ{Y' H' s'} J=>by
     have p1:=J.pin (s.heap.objs.size,_) (qO _ (Q3 _ (qY.mpr U)));refine⟨p1.1,p1.2.1,λb hb=>?_,λb hb o e=>(J.pin (b,o) (qO _ (qO _ (lG hb e)))).1⟩;obtain⟨o,e,_⟩:=T.obj _ _ st5 b hb;exact(J.pin (b,o) (qO _ (qO _ (lG hb e)))).2.1
    cases ok with
    |true=>
     rw[Q8 U]at q7 ⊢;refine thn (he pins fp s H H2.objs.size _ s7 Y6 H7 _ I7 q7) λy s8 ⟨v,H8,I8,r8,q8⟩=>?_;obtain⟨ho8,hD8,fr8,k8⟩:=keepIt I8;refine append_at (hsz:=by have:=hv3.length;show its.toArray.size<=sizeLine;rw[qI,<- this];exact Nat.le_of_lt hz) ho8 λh9 hs9 ho9=>?_;obtain⟨m',hm',w9⟩:=hN _ _ _ q8;have I8u:Inv (X.comp pins Nc scope fp s H H2.objs.size) [] Y6 H8 s8:=I8.pins_of λp hp=>nomatch hp
     have I9:Inv (X.comp pins Nc scope fp s H H2.objs.size) [] Y6 H8 { s8 with heap:=h9 }:=I8u.turned (t':=s8.toks) (it:=s.heap.objs.size) (λb o hb e=>(hs9.2 b hb).trans e) hD8 hDC (.inr (qg _)) (λx c e z=>by
      obtain⟨v,q⟩:=I.cell x c (gW e)
      exact Qb q.lt (by rw[z];exact Qi _)) λp hp z=>by
       have hp':p∈X.pn++pins:=by
        rcases qk.mp hp with q|q
        .exact q
        .exact nomatch q
       exact Qb (qv (I.pin p hp').1) (by rw[z];exact Qi _)
     refine⟨m',hm',i+1,ys++[v],its++[y],nn+1,Y6,H8,I9,T.keep _ _ _ st5 λb hb o e=>(hs9.2 b (qM (hlt b hb))).trans (k8 b hb o e),fr8,hD8,hv3.append (.cons r8 .nil),?_,w9⟩;show h9.get? s.heap.objs.size=_;rw[ho9];simp
    |false=>
     rw[Q7 qo]at q7 ⊢;obtain⟨ho8,hD8,fr8,k8⟩:=keepIt I7;obtain⟨m',hm',w9⟩:=hN _ _ _ q7;exact⟨m',hm',i+1,ys,its,nn,Y6,H7,I7.pins_of λp hp=>(nomatch hp),T.keep _ _ _ st5 k8,fr8,hD8,hv3,ho8,w9⟩
  .exact⟨0,[],[],0,_,H,ES S I hf hlt hCle U I.bare old ⟨_,hns₁⟩,T.keep _ _ _ st λb _ o e=>old b o e,λb hb=>(hf b hb).1,I.hok.fresh (qg _),.nil,hacc,w0⟩
 exact codeAny_compStart_list (loop _ U) (T.self X.A 0 _ _ _ (T.keep _ _ _ st λb _ o e=>old b o e) (loop _ U))
def tF(wi:TI)(k:Nat)(js:List Nat)(g:TG)(tt:TT)(te:TE):TE:=λY H Q=>wi Y H λJ H1=>∃W:Nat->Nat->List V->St->Hp->Prop,(∃m,W 0 m [] (iA k js Y) H1) /\
 iK J g tt te (λys H=>∀D,H D=none->Q (.ref D) (upd H D (.lst ys))) W
theorem fL{wi:TI}(S:bE X.env.scope X.N scope k Nc js)(hc:X.calm=true)(hi:PI X tg iter wi)
 (hg:∀pins fp s H C,PG (X.comp pins Nc scope fp s H C) tg g) (ht:∀pins fp s H C,PTs (X.comp pins Nc scope fp s H C) ifs tt) (he:∀pins fp s H C,PE (X.comp pins Nc scope fp s H C) elt te)
 (hs:∀x,foldedSetIterable iter X.env x=pure x:=by intro _;rfl):PE X (.ListComp elt [⟨tg,iter,ifs,0⟩] scope pos) (tF wi k js g tt te):=by
 intro pins s Y H Q I h;rw[eval_ListComp];refine wpAny_comprehension_free (use:=none) U hs (S.clos I) S.kind S.names (thn (hi pins s Y H _ I h) λxv s1 h1=>thn h1 λitv s2 h2=>?_);obtain⟨it,fp,tn,J,H2,e,I2,T,st2,f2,W,⟨m0,w0⟩,turn⟩:=h2;subst e;refine xT (RR:=λacc C=>compPost (model X.prog X.w) X.A X.xe none (EP X pins Y Q) acc C) S hc I2 T st2 f2 hg ht he w0 turn λD C s' ys H' I' fC ns hD fin=>?_;obtain⟨m,hn⟩:=ns;exact⟨m,hn,λh' hs'=>⟨.ref D,_,I'.turned (t':=s'.toks) (λb o hb e=>(hs'.2 b hb).trans e) fC.1 fC.2.1 fC.2.2.2.1 fC.2.2.2.2.1 fC.2.2.2.2.2,U,fin D hD⟩⟩
theorem pA{wi:TI}{i:Nat}{x:Str}{px spos:Pos}(hN:X.N.Nodup)(hi':X.N[i]?=some x)(hx:Loc X.env.scope x)(S:bE X.env.scope X.N scope k Nc js)(hc:X.calm=true)(hi:PI X tg iter wi)
 (hg:∀pins fp s H C,PG (X.comp pins Nc scope fp s H C) tg g) (ht:∀pins fp s H C,PTs (X.comp pins Nc scope fp s H C) ifs tt) (he:∀pins fp s H C,PE (X.comp pins Nc scope fp s H C) elt te)
 (hsw:swapsWith (.ListComp elt [⟨tg,iter,ifs,0⟩] scope pos) (some (.Name x px)) spos.line X.env=pure true:=by rfl)
 (hs:∀x,foldedSetIterable iter X.env x=pure x:=by intro _;rfl) (hf:X.fn x=true\/X.env.scope.names.lookup x=some .local:=by first|exact .inl U|exact .inr U|assumption):
 PS X (.Assign [.Name x px] (.ListComp elt [⟨tg,iter,ifs,0⟩] scope pos) spos) (mG (tF wi k js g tt te) (dC i)):=by
 intro pins s Y H D I h;rw[exec_Assign_Name_used _ _ _ _ hsw];refine q9 (wpAny_standAt (q9 ?_));show wpAny _ X.A (do let _ <- comprehension (.ListComp elt [⟨tg,iter,ifs,0⟩] scope pos) scope X.env _ (newList []) false (eval iter X.env) (some (assign (.Name x px) X.env))) _ _ s
 refine q9 (wpAny_mono (wpAny_comprehension_free (use:=some (assign (.Name x px) X.env)) (Q:=λ_ s'=>SP X pins D .next s') U hs (S.clos I) S.kind S.names
  (thn (hi pins s Y H _ I h) λxv s1 h1=>thn h1 λitv s2 h2=>?_)) (λ_ s' hq=>qf (qf hq)) λ_ _ e=>e)
 obtain⟨it,fp,tn,J,H2,e,I2,T,st2,f2,W,⟨m0,w0⟩,turn⟩:=h2;subst e;refine xT (RR:=λacc C=>compPost (model X.prog X.w) X.A X.xe (some (assign (.Name x px) X.env)) (λ_ s'=>SP X pins D .next s') acc C) S hc I2 T st2 f2 hg ht he w0 turn λA C s' ys H' I' fC ns hD fin=>?_;obtain⟨m,hn⟩:=ns;show wpAny _ X.A (assign (.Name x px) X.env (.ref A)) _ _ _;refine wpAny_assign_Name (tM I' hN hi' hx (v:=.ref A) U (λs'' I'' ⟨a,sb,ha⟩=>?_) hf)
 have hCa:C≠a:=by
  rcases ha with ha|ha
  .rw[ha];exact fC.2.1
  .exact λz=>fC.2.2.2.2.1 x a ha z.symm
 exact⟨m,hn.sameBut sb hCa,λh' hs'=>⟨_,_,I''.turned (t':=s''.toks) (λb o hb e=>(hs'.2 b hb).trans e) fC.1 fC.2.1 fC.2.2.2.1 fC.2.2.2.2.1 fC.2.2.2.2.2,fin A hD⟩⟩
end
section
variable {X:Cx}{tg:Expr}
def AY:V->Option Int->Option Int->Hp->VK->Prop:=λx lo hi H Q=>∃z,x=.str z/\z.length<=sizeLine/\Q (.str (Txt.slice z lo hi)) H
theorem ji:SlR X AY:=by
 intro pins s Y H x v vl vu lo hi sl Q I rx hs pl pu h;obtain⟨z,rfl,hz,q⟩:=h;obtain⟨t,rfl⟩:=rx;refine⟨"str",_,PySem.F.slot_str_getitem.lookup,typeIs_str _ _ _,?_⟩;have fin:∀t' k,EP X pins Y Q (.str (Txt.slice z lo hi) t') { s with toks:=k }:=λt' k=>⟨.str _,H,I.tok k,⟨t',U⟩,q⟩
 cases pl with
 |none=>
  cases pu with
  |none=>exact wpAny_getItem_str_slice (l:=none) (u:=none) (st:=none) hs U (post_val_or_str ⟨qF (Txt.slice_le z _ _) hz,fin⟩)
  |int j tj=>exact wpAny_getItem_str_slice (l:=none) (u:=some (j,tj)) (st:=none) hs U (post_val_or_str ⟨qF (Txt.slice_le z _ _) hz,fin⟩)
 |int i ti=>
  cases pu with
  |none=>exact wpAny_getItem_str_slice (l:=some (i,ti)) (u:=none) (st:=none) hs U (post_val_or_str ⟨qF (Txt.slice_le z _ _) hz,fin⟩)
  |int j tj=>exact wpAny_getItem_str_slice (l:=some (i,ti)) (u:=some (j,tj)) (st:=none) hs U (post_val_or_str ⟨qF (Txt.slice_le z _ _) hz,fin⟩)
theorem C3:OpR X (binaryOp .Mult) (rI IntMulOk λi j=>.int (i * j)):=opI λ_ _ _ _ _ _ _ hc q=>mul_int q hc
theorem Fg:cJ X (.builtin "isinstance") (λxs H Q=>∃x t T b,xs=[x,.ty T]/\e8 X.K H x t/\PySem.W.kitOne X.K t (.type T)=some b/\Q (.bl b) H):=by
 intro pins s Y H xs us Q I r h;obtain⟨x,t,T,b,rfl,ty,e,q⟩:=h;obtain⟨u,c,rfl,ru,rc⟩:=jf r;have ec:c=.type T:=rc;subst ec;exact DU I ru ty e λtk=>⟨.bl b,H,I.tok tk,U,q⟩
def B9(K:W.Frag):R2:=λx y H Q=>∃l b xs zs,x=.ref l/\y=.ref b/\SqL K H l xs/\SqL K H b zs/\xs.length+zs.length<=sizeLine/\∀p,H p=none->Q (.ref p) (upd H p (.lst (xs++zs)))
theorem Cc:OpR X (binaryOp .Add) (B9 X.K):=by
 intro pins s Y H x y v u Q I rx ry h;obtain⟨l,b,xs,zs,rfl,rfl,hH,hB,hz,q⟩:=h;cases rx;cases ry;obtain⟨its,r,pl,z1⟩:=I.list hH;obtain⟨its2,r2,pl2,z2⟩:=I.list hB;have hl1:=r.length;have hl2:=r2.length;obtain⟨⟨cls,dd,data,sl⟩,n,ho,hc,_,hd⟩:=pl;obtain⟨⟨cls2,dd2,data2,sl2⟩,n2,ho2,hc2,_,hd2⟩:=pl2;simp only at hc hd hc2 hd2;subst hc hd hc2 hd2;refine concat_meets ⟨_,ho,U⟩ ⟨_,ho2,U⟩ noFill_list_add seq_list_add PySem.F.slot_list_add PySem.F.entry_list_add (PySem.F.args_list_add_2 _ _) (list_addW l b its.toArray its2.toArray n n2 dd dd2 sl sl2 (by rw[qI,qI];omega)) ⟨ho,ho2,?_⟩;have ea:its.toArray++its2.toArray=(its++its2).toArray:=by simp
 rw[ea];exact⟨.ref _,_,I.lnew (t':=s.toks) (r.append r2) (by rw[qc];omega),U,q _ I.fresh⟩
end
section
variable {X:Cx}
end
theorem sS{te:TE}{N N':V->St->Hp->Prop}{M:St->Hp->Prop}:(λ(Y2:St)(H2:Hp)=>jg Y2 H2 λb H3=>if b=true then te Y2 H3 λy H4=>N y Y2 H4 else M Y2 H3)=λY2 H2=>te Y2 H2 λy H4=>N y Y2 H4:=by
 funext Y2 H2
 unfold jg;dsimp only;rw[Q8 U]
noncomputable def rZ(e:Expr):Option V:=match e with
 |.Constant (.str x) _ _=>some (.str x)
 |.Constant (.int i) _ _=>some (.int i)
 |.Constant (.bool b) _ _=>some (.bl b)
 |.Constant .none _ _=>some .non
 |_=>none
noncomputable def rY:List Expr->Option (List V)
 |[]=>some []
 |e::es=>match rZ e,rY es with
  |some v,some vs=>some (v::vs)
  |_,_=>none
def yT(vs:List V):TA:=λ_ H Q=>Q vs H
theorem BR{X:Cx}{e:Expr}{v:V}(h:rZ e=some v):PE X e (tC v)/\∀es,starEach (e::es) X.env=(false,eval e X.env)::starEach es X.env:=by
 unfold rZ at h;split at h
 .cases h;exact⟨aO,λ_=>U⟩
 .cases h;exact⟨ac,λ_=>U⟩
 .cases h;exact⟨dB,λ_=>U⟩
 .cases h;exact⟨bT,λ_=>U⟩
 .cases h
theorem jC{X:Cx}:∀{es:List Expr}{vs:List V},rY es=some vs->PA X es (yT vs)
 |[],vs,h=>by cases h;exact ae
 |e::es,vs,h=>by
  unfold rY at h;split at h
  .rename_i v ws h1 h2;cases h;obtain⟨p,s⟩:=BR (X:=X) h1;exact a9 p (jC h2) (s es)
  .cases h
section
variable {X:Cx}
theorem D3:OpR X (binaryOp .Add) (λx y H Q=>∃i j,x=.int i/\y=.int j/\Q (.int (i+j)) H):=Ce
theorem CV:OpR X (binaryOp .Sub) (λx y H Q=>∃i j,x=.int i/\y=.int j/\Q (.int (i-j)) H):=BV
theorem eK:OpR X (binaryOp .Mult) (λx y H Q=>∃i j,x=.int i/\y=.int j/\IntMulOk i j/\Q (.int (i * j)) H):=C3
theorem D2:OpR X (binaryOp .FloorDiv) (λx y H Q=>∃i j,x=.int i/\y=.int j/\(0<j/\j<1073741824)/\Q (.int (i / j)) H):=Ca
theorem CW:OpR X (binaryOp .Mod) (λx y H Q=>∃i j,x=.int i/\y=.int j/\0<j/\Q (.int (i % j)) H):=C4
theorem we:OpR X (binaryOp .Pow) (λx y H Q=>∃i j,x=.int i/\y=.int j/\(0<=j/\j<=1000000/\i.natAbs<2 ^ 64)/\Q (.int (i ^ j.toNat)) H):=BW
theorem CY:OpR X (compareOp .Lt) (λx y H Q=>∃i j,x=.int i/\y=.int j/\Q (.bl (decide (i<j))) H):=C5
theorem CZ:OpR X (compareOp .LtE) (λx y H Q=>∃i j,x=.int i/\y=.int j/\Q (.bl (decide (i<=j))) H):=C6
theorem D0:OpR X (compareOp .Gt) (λx y H Q=>∃i j,x=.int i/\y=.int j/\Q (.bl (decide (j<i))) H):=C8
theorem D1:OpR X (compareOp .GtE) (λx y H Q=>∃i j,x=.int i/\y=.int j/\Q (.bl (decide (j<=i))) H):=C9
end
end L2
namespace Att
open PySem PySem.W PySem.Calls PyProof.Rows
theorem Am{ns:List Int}(h:WData.layableAll [WData.list (ns.map WData.int)]=true):∀n∈ns,Builtin.Int.intBits n<=2 ^ 20:=λn hn=>by
 have h1:=layableW_arg h _ (qY.mpr U);have h2:=layableW_item h1 (WData.int n) (List.mem_map.mpr ⟨n,hn,U⟩);exact PyData.bits_of_layable (layable0_of_all (lay0_int h2))
theorem attach_callB{l:OpenLaw}{n:Nat}{q:Program}{loose:List Str}{XP:(Str->Option Value)->Heap->Prop}{YP:World->Heap->Prop}{d:DefRec}
 (hn:l.most=some n) (hdf:d.params.defaults=[])
 (call:∀(w:World)(s₀ s₁:Shared)(mg mb:Str->Option Value)(fa:Addr)(o:Obj)(pm cd doc:Value)(a:Addr)(vs:List Value)(ns:List Int),
  Ground q loose [] XP w s₀ mg mb s₁.heap->YP w s₁.heap->
  s₁.heap.get? fa=some o->o.data=.func (docDef d.name d.params d.body d.scope pm cd doc)->s₁.heap.CodeRec cd d.name->mg d.name=some (.ref fa)->
  s₁.heap.get? a=some { cls:=.type "list",data:=.seq vs.toArray }->IntsAre vs ns->ns.length<=n->(∀k∈ns,Builtin.Int.intBits k<=2 ^ 20)->s₁.gens=#[]->
  codeAny (model l.prog w) callerA (.call (.ref fa) ⟨[.ref a],[]⟩) (λr s'=>r=.ok (.ret (.bool true))/\OldK s₁.heap s'.heap/\s'.os=s₁.os/\AllBare s'.gens) s₁):
 WalkO q loose XP YP l.row.toRowW d [] (λf vs=>PySem.call f vs):=by
 intro w s₀ s₁ mg mb G X0 fa o pm cd doc dV kV ho hd hcd hD hmg hg args vals as hpre hlay hrd hwl hlo;obtain rfl:dV=.none:=Dflts.none hD hdf;obtain rfl:kV=.none:=Dflts.noKw hD;obtain⟨a,vs,ns,rfl,rfl,hobj,hints,hlen⟩:=Al hn hpre hwl;refine enter_call (codeAny_mono (call w s₀ s₁ mg mb fa o pm cd doc a vs ns G X0 ho (fd_plain hd) hcd hmg hobj hints hlen (Am hlay) hg) λr s' hq=>?_);obtain⟨rfl,h2,h3,h4⟩:=hq;exact⟨.inl ⟨.bool true,.bool true,[],U,λ_=>U,.bool true,Bw l _,λ_=>⟨List.Pairwise.nil,λ_ hm=>(nomatch hm)⟩⟩,h2,h3,h4⟩
end Att
namespace L2
open PySem PySem.Spec PyProof.Rows
theorem yG{l:PySem.W.OpenLaw}{n k:Nat}{q:Program}{loose:List Str}{XP:(Str->Option Value)->Heap->Prop}{YP:World->Heap->Prop}{d:DefRec}{K:Params->PySem.W.Frag}{CX:World->CXT}{sp:World->Sp}{x:Str}
 (hn:l.most=some n) (hn2:n<=sizeLine) (hdf:d.params.defaults=[]) (hr:ce k callerA)
 (hY:∀(w:World)(h:Heap),YP w h->(K w.params).In h)
 (F:∀(w:World)(mg:Str->Option Value)(fa:Addr)(h:Heap),(K w.params).In h->h.Ns mainGlobals mg->mg d.name=some (.ref fa)->
  ∃fd:FuncData,(∀(s:Shared)(u:Value),BindsTo s fd ⟨[u],[]⟩ [(x,u)]) /\
   ∀base:Heap,(K w.params).In base->base.Ns mainGlobals mg->aN l.prog w (K w.params) mg base (CX w) k fa fd [x] (sp w))
 (hsp:∀(w:World)(H:Hp)(a:Addr)(ns:List Int),ns.length<=n->(∀k∈ns,Builtin.Int.intBits k<=2 ^ 20)->mh H->SqL (K w.params) H a (ns.map V.int)->sp w [.ref a] H (λv _=>v=.bl true) λ_ _ _=>False)
 (hCX:∀(w:World)(H:Hp)(s:Shared)(e:Value)(s':Shared),CX w [] H s (λ_ _ _=>False) e s'->False):
 PySem.W.WalkO q loose XP YP l.row.toRowW d [] (λf vs=>PySem.call f vs):=by
 refine Att.attach_callB hn hdf λw s₀ s₁ mg mb fa o pm cd doc a vs ns G X0 ho hd hcd hmg hobj hints hlen hbits hg=>?_;have KX:=hY w _ X0;obtain⟨fd,hb,hF⟩:=F w mg fa _ KX G.T.g hmg;exact DC KX G.T.g G.T.b G.T.builtins G.T.nolimit hg hobj hints (qF hlen hn2) hr hF hb (λH hO hS=>hsp w H a ns hlen hbits hO hS) λH e s'=>hCX w H s₁ e s'
theorem a8.new{H:Hp}{p:Addr}(h:H p=none)(o:HO):a8 H (upd H p o):=λb u q=>by rw[af (cC q h)];exact q
theorem bg{n m:Nat}(h:n<=m)(hm:m<=1000000:=by decide):n<=sizeLine:=qF h (qF hm (by rw[sizeLine_eq];decide))
theorem dP(x y:Str):(x++y).length=x.length+y.length:=strLen_append x y
theorem lQ{L Pc c A B:Prop}{inst:Decidable c}(hw:¬ c->Pc)(rest:Pc->L)(h:c->(Pc->L)->A)(e:B=L:=by rfl):@ite Prop c inst A B:=by
 subst e;by_cases hc:c
 .rw[Q8 hc];exact h hc rest
 .rw[Q7 hc];exact rest (hw hc)
def SIt(h:Heap):Bool->Addr->Addr->Nat->Prop
 |false,it,l,k=>h.IsListIter it l k
 |true,it,l,k=>h.IsTupleIter it l k
def SSq(h:Heap):Bool->Addr->Array Value->Prop
 |false,l,xs=>h.IsList l xs
 |true,l,xs=>h.IsTuple l xs
theorem SIt.obj{h:Heap}:∀{b:Bool}{it l:Addr}{k:Nat},SIt h b it l k->∃o,h.get? it=some o/\∃vs,o.data=.fields vs
 |false,_,_,_,⟨o,e,_,d⟩=>⟨o,e,_,d⟩
 |true,_,_,_,⟨o,e,_,d⟩=>⟨o,e,_,d⟩
theorem SIt.keep{h h':Heap}:∀{b:Bool}{it l:Addr}{k:Nat},SIt h b it l k->(∀o,h.get? it=some o->h'.get? it=some o)->SIt h' b it l k
 |false,_,_,_,⟨o,e,r⟩,f=>⟨o,f o e,r⟩
 |true,_,_,_,⟨o,e,r⟩,f=>⟨o,f o e,r⟩
theorem SSq.keep{h h':Heap}:∀{b:Bool}{l:Addr}{xs:Array Value},SSq h b l xs->(∀o,h.get? l=some o->h'.get? l=some o)->SSq h' b l xs
 |false,_,_,⟨o,e,r⟩,f=>⟨o,f o e,r⟩
 |true,_,_,⟨o,e,r⟩,f=>⟨o,f o e,r⟩
theorem SSq.obj{h:Heap}:∀{b:Bool}{l:Addr}{xs:Array Value},SSq h b l xs->∃o,h.get? l=some o/\∃n,o.data=.seq xs n
 |false,_,_,⟨o,e,_,n,d⟩=>⟨o,e,n,d⟩
 |true,_,_,⟨o,e,_,n,d⟩=>⟨o,e,n,d⟩
section
variable {prog:Program}{w:World}{A:Around}{E:Yq}{s:Shared}
theorem D6{it t:Addr}{k:Nat}{xs:Array Value}{x:Value}{Q:Yq}(hi:s.heap.IsTupleIter it t k)(ht:s.heap.IsTuple t xs)(hx:xs[k]?=some x)
 (q:∀g,g.IsTupleIter it t (k+1)->Heap.SameBut it s.heap g->Q x { s with heap:=g }):wpAny (model prog w) A (Builtin.SmallTypes.nextOf (.ref it)) Q E s:=by
 obtain⟨o,e,c,d⟩:=id hi;obtain⟨ot,et,_,nt,dt⟩:=ht;unfold Builtin.SmallTypes.nextOf;refine q9 (wpAny_callSpecial?_slot (name:=Str.ofString "__next__") hi.typeIs PySem.F.slot_tuple_iterator_next (Qp PySem.F.slot_tuple_iterator_next hi.typeIs PySem.F.entry_tuple_iterator_next ?_ (PySem.F.args_tuple_iterator_next_1 _)));show wpAny _ _ (field (.ref it) 0 >>= _) _ _ _;refine q9 (wpAny_field e d (x:=.ref t) U ?_);show wpAny _ _ (if(Value.ref t == Value.none)=true then _ else _) _ _ _;rw[Q7 (show ¬ (Value.ref t == Value.none)=true from qo)];show wpAny _ _ (field (.ref it) 1 >>= _) _ _ _;refine q9 (wpAny_field e d (x:=.int k 0) U ?_);show wpAny _ _ (seqItems? (.ref t) >>= _) _ _ _;refine q9 (QC et dt ?_);simp only[Q5,hx];refine q9 (wpAny_setField e d (by simp) (qf ⟨x,U,qf (q _ ?_ (Heap.SameBut.update ..))⟩));exact⟨_,Qn _ e (Obj.isFreed_of_fields (Obj.data_mapFields d _)),(Obj.cls_mapFields ..).trans c,by rw[Obj.data_mapFields d];simp[rawInt]⟩
theorem D7{it t:Addr}{k:Nat}{xs:Array Value}{Q:Yq}(hh:A.handled=none)(hi:s.heap.IsTupleIter it t k)(ht:s.heap.IsTuple t xs)(hx:xs[k]?=none)
 (q:∀g x,Heap.ExtBut it s.heap g->(∃o,g.get? x=some o/\o.cls=.type "StopIteration")->E (.ref x) { s with heap:=g }):wpAny (model prog w) A (Builtin.SmallTypes.nextOf (.ref it)) Q E s:=by
 obtain⟨o,e,c,d⟩:=id hi;obtain⟨ot,et,_,nt,dt⟩:=ht;unfold Builtin.SmallTypes.nextOf;refine q9 (wpAny_callSpecial?_slot (name:=Str.ofString "__next__") hi.typeIs PySem.F.slot_tuple_iterator_next (Qp PySem.F.slot_tuple_iterator_next hi.typeIs PySem.F.entry_tuple_iterator_next ?_ (PySem.F.args_tuple_iterator_next_1 _)));show wpAny _ _ (field (.ref it) 0 >>= _) _ _ _;refine q9 (wpAny_field e d (x:=.ref t) U ?_);show wpAny _ _ (if(Value.ref t == Value.none)=true then _ else _) _ _ _;rw[Q7 (show ¬ (Value.ref t == Value.none)=true from qo)];show wpAny _ _ (field (.ref it) 1 >>= _) _ _ _;refine q9 (wpAny_field e d (x:=.int k 0) U ?_);show wpAny _ _ (seqItems? (.ref t) >>= _) _ _ _;refine q9 (QC et dt ?_);simp only[Q5,hx];refine q9 (wpAny_rule (q9 (wpAny_setField e d (by simp) ?_)));show wpAny _ _ (newExc (.type "StopIteration") [] >>= _) _ _ _;refine q9 ?_;simp only[newExc,newTuple];refine q9 (wpAny_newObj_type ?_ (by size_fits));refine q9 (m:=firstArgMember _ _) (wpAny_of_eq (a:=Value.none) (by first|rfl|(simp only[firstArgMember];rfl)) (wpAny_newObj_type ?_ (by size_fits)));simp only[raiseNew];refine q9 (wpAny_handled ?_);first|rw[show A.in1.handled=none from hh]|rw[hh]
 refine q9 (qf (wpAny_throw (q _ _ (((Heap.SameBut.update ..).extBut.push _).push _) ⟨_,qu _ U,U⟩)))
theorem pP{it l:Addr}{k:Nat}{xs:Array Value}{x:Value}{Q:Yq}:∀{b:Bool},SIt s.heap b it l k->SSq s.heap b l xs->xs[k]?=some x->
 (∀g,SIt g b it l (k+1)->Heap.SameBut it s.heap g->Q x { s with heap:=g })->wpAny (model prog w) A (Builtin.SmallTypes.nextOf (.ref it)) Q E s
 |false,a,c,d,q=>wpAny_nextOf_list_item a c d q
 |true,a,c,d,q=>D6 a c d q
theorem wf{it l:Addr}{k:Nat}{xs:Array Value}{Q:Yq}(hh:A.handled=none):∀{b:Bool},SIt s.heap b it l k->SSq s.heap b l xs->xs[k]?=none->
 (∀g x,Heap.ExtBut it s.heap g->(∃o,g.get? x=some o/\o.cls=.type "StopIteration")->E (.ref x) { s with heap:=g })->wpAny (model prog w) A (Builtin.SmallTypes.nextOf (.ref it)) Q E s
 |false,a,c,d,q=>wpAny_nextOf_list_end hh a c d q
 |true,a,c,d,q=>D7 hh a c d q
structure ZAp(z TI TO i1 i2 l1 l2:Addr):Prop where
 a:TI≠z/\TO≠z/\i1≠z/\i2≠z/\TI≠TO/\TI≠i1/\TI≠i2/\TO≠i1/\TO≠i2/\i1≠i2
 l:∀c,c=l1\/c=l2->c≠z/\c≠TO/\c≠i1/\c≠i2/\c≠TI
theorem yx{z TI TO i1 i2 l1 l2:Addr}{b1 b2:Bool}{k1 k2:Nat}{xs ys:Array Value}{x y a b:Value}{Q:Yq}(D:ZAp z TI TO i1 i2 l1 l2)
 (hz:IsZip s.heap z TI TO .none) (hI:IsPair s.heap TI (.ref i1) (.ref i2)) (hO:IsPair s.heap TO a b) (t1:SIt s.heap b1 i1 l1 k1) (t2:SIt s.heap b2 i2 l2 k2) (q1:SSq s.heap b1 l1 xs) (q2:SSq s.heap b2 l2 ys) (ex:xs[k1]?=some x) (ey:ys[k2]?=some y)
 (q:∀g,IsZip g z TI TO (rawInt s.heap.objs.size)->IsPair g TO x y->SIt g b1 i1 l1 (k1+1)->SIt g b2 i2 l2 (k2+1)->IsPair g s.heap.objs.size x y->(∀c o,c≠z->c≠TO->c≠i1->c≠i2->s.heap.get? c=some o->g.get? c=some o)->Q (.ref s.heap.objs.size) { s with heap:=g }):
 wpAny (model prog w) A (Builtin.«zip.__next__» ⟨[.ref z],[]⟩) (λfin s'=>∃v,fin=.done (.ret v)/\Q v s') E s:=by
 obtain⟨⟨nIz,nOz,n1z,n2z,nIO,nI1,nI2,nO1,nO2,n12⟩,lne⟩:=D;obtain⟨m1z,m1O,m11,m12,m1I⟩:=lne l1 (.inl U);obtain⟨m2z,m2O,m21,m22,m2I⟩:=lne l2 (.inr U);show wpAny _ _ (field (.ref z) 2 >>= _) _ _ _;refine q9 (wpAny_field hz U (x:=.bool false) U ?_);show wpAny _ _ (field (.ref z) 3 >>= _) _ _ _;refine q9 (wpAny_field hz U (x:=.ref TI) U (q9 (QC hI U ?_)));show wpAny _ _ (Builtin.SmallTypes.ownedTupleIsFree (.ref z) >>= _) _ _ _;refine q9 ?_;unfold Builtin.SmallTypes.ownedTupleIsFree;refine q9 (wpAny_field hz U (x:=.none) U (qf ?_));simp only[if_true];refine q9 (wpAny_rule (q9 (wpAny_field hz U (x:=.ref TO) U (q9 (wpAny_setField_rec hz (by simp) λg1 z1 s1=>?_)))));replace z1:IsZip g1 z TI TO .ellipsis:=z1;refine q9 ?_;simp only[List.zipIdx_cons,List.zipIdx_nil,List.forIn_cons,List.forIn_nil];refine q9 (q9 (wpAny_onRaise ?_));show wpAny _ _ (Builtin.SmallTypes.nextOf (.ref i1) >>= _) _ _ _;refine q9 (pP (b:=b1) (t1.keep λo e=>s1.extBut _ _ n1z e) (q1.keep λo e=>s1.extBut _ _ m1z e) ex λg2 u1 s2=>qf ?_);have o2:IsPair g2 TO a b:=s2.extBut _ _ nO1 (s1.extBut _ _ nOz hO);refine q9 (QC o2 U (q9 (wpAny_updateSeq_pair o2 λg3 o3 s3=>q9 (wpAny_letGo (qf ?_)))));replace o3:IsPair g3 TO x b:=o3;refine q9 (q9 (wpAny_onRaise ?_));show wpAny _ _ (Builtin.SmallTypes.nextOf (.ref i2) >>= _) _ _ _;refine q9 (pP (b:=b2) (t2.keep λo e=>s3.extBut _ _ nO2.symm (s2.extBut _ _ n12.symm (s1.extBut _ _ n2z e))) (q2.keep λo e=>s3.extBut _ _ m2O (s2.extBut _ _ m21 (s1.extBut _ _ m2z e))) ey λg4 u2 s4=>qf ?_);have o4:IsPair g4 TO x b:=s4.extBut _ _ nO2 o3;refine q9 (QC o4 U (q9 (wpAny_updateSeq_pair o4 λg5 o5 s5=>q9 (wpAny_letGo (qf (qf ?_))))));replace o5:IsPair g5 TO x y:=o5;refine q9 (QC o5 U (q9 (wpAny_newTuple ?_)));have sz:g5.objs.size=s.heap.objs.size:=by rw[s5.1,s4.1,s3.1,s2.1,s1.1]
 have z5:IsZip g5 z TI TO .ellipsis:=s5.extBut _ _ nOz.symm (s4.extBut _ _ n2z.symm (s3.extBut _ _ nOz.symm (s2.extBut _ _ n1z.symm z1)));have k5:∀c o,c≠z->c≠TO->c≠i1->c≠i2->s.heap.get? c=some o->g5.get? c=some o:=λc o h1 h2 h3 h4 e=>s5.extBut _ _ h2 (s4.extBut _ _ h4 (s3.extBut _ _ h2 (s2.extBut _ _ h3 (s1.extBut _ _ h1 e))));have v1:SIt g5 b1 i1 l1 (k1+1):=u1.keep λo e=>s5.extBut _ _ nO1.symm (s4.extBut _ _ n12 (s3.extBut _ _ nO1.symm e));have v2:SIt g5 b2 i2 l2 (k2+1):=u2.keep λo e=>s5.extBut _ _ nO2.symm e;have zlt:z<g5.objs.size:=qv z5;show wpAny _ _ (Builtin.SmallTypes.ownedTupleHandOut (.ref z) (.ref g5.objs.size) >>= _) _ _ _;refine q9 ?_;unfold Builtin.SmallTypes.ownedTupleHandOut;have z6:IsZip (g5.push { cls:=.type "tuple",data:=.seq #[x,y] }) z TI TO .ellipsis:=qb _ z5;refine q9 (wpAny_setField_rec z6 (by simp) λg7 z7 s7=>?_);replace z7:IsZip g7 z TI TO (rawInt g5.objs.size):=z7;refine wpAny_setField_rec z7 (by simp) λg8 z8 s8=>?_;replace z8:IsZip g8 z TI TO (rawInt g5.objs.size):=z8;have up:∀c o,c≠z->g5.get? c=some o->g8.get? c=some o:=λc o h1 e=>s8.extBut _ _ h1 (s7.extBut _ _ h1 (qb _ e));have t8:IsPair g8 g5.objs.size x y:=s8.extBut _ _ (Nat.ne_of_gt zlt) (s7.extBut _ _ (Nat.ne_of_gt zlt) (qu _ U));rw[sz]at z8 t8;refine qf ⟨_,U,?_⟩;show Q (.ref g5.objs.size) _;rw[sz];exact q g8 z8 (up _ _ nOz o5) (v1.keep λo e=>up _ o n1z e) (v2.keep λo e=>up _ o n2z e) t8 λc o h1 h2 h3 h4 e=>up c o h1 (k5 c o h1 h2 h3 h4 e)
theorem yy{z TI TO i1 i2 l1 l2:Addr}{b1 b2:Bool}{k1 k2:Nat}{xs ys:Array Value}{a b:Value}{Q:Fin->Shared->Prop}(hh:A.handled=none)(D:ZAp z TI TO i1 i2 l1 l2)
 (hz:IsZip s.heap z TI TO .none) (hI:IsPair s.heap TI (.ref i1) (.ref i2)) (hO:IsPair s.heap TO a b) (t1:SIt s.heap b1 i1 l1 k1) (t2:SIt s.heap b2 i2 l2 k2) (q1:SSq s.heap b1 l1 xs) (q2:SSq s.heap b2 l2 ys) (hend:xs[k1]?=none\/ys[k2]?=none)
 (q:∀g e,(∀c o,c≠z->c≠TO->c≠i1->c≠i2->s.heap.get? c=some o->g.get? c=some o)->(∃o,g.get? e=some o/\o.cls=.type "StopIteration")->E (.ref e) { s with heap:=g }):
 wpAny (model prog w) A (Builtin.«zip.__next__» ⟨[.ref z],[]⟩) Q E s:=by
 obtain⟨⟨nIz,nOz,n1z,n2z,nIO,nI1,nI2,nO1,nO2,n12⟩,lne⟩:=D;obtain⟨m1z,m1O,m11,m12,m1I⟩:=lne l1 (.inl U);obtain⟨m2z,m2O,m21,m22,m2I⟩:=lne l2 (.inr U);show wpAny _ _ (field (.ref z) 2 >>= _) _ _ _;refine q9 (wpAny_field hz U (x:=.bool false) U ?_);show wpAny _ _ (field (.ref z) 3 >>= _) _ _ _;refine q9 (wpAny_field hz U (x:=.ref TI) U (q9 (QC hI U ?_)));show wpAny _ _ (Builtin.SmallTypes.ownedTupleIsFree (.ref z) >>= _) _ _ _;refine q9 ?_;unfold Builtin.SmallTypes.ownedTupleIsFree;refine q9 (wpAny_field hz U (x:=.none) U (qf ?_));simp only[if_true];refine q9 (wpAny_rule (q9 (wpAny_field hz U (x:=.ref TO) U (q9 (wpAny_setField_rec hz (by simp) λg1 z1 s1=>?_)))));replace z1:IsZip g1 z TI TO .ellipsis:=z1;refine q9 ?_;simp only[List.zipIdx_cons,List.zipIdx_nil,List.forIn_cons,List.forIn_nil];refine q9 (q9 (wpAny_onRaise ?_));show wpAny _ _ (Builtin.SmallTypes.nextOf (.ref i1) >>= _) _ _ _
 cases ex:xs[k1]? with
 |none=>
  refine q9 (wf (b:=b1) hh (t1.keep λo e=>s1.extBut _ _ n1z e) (q1.keep λo e=>s1.extBut _ _ m1z e) ex λg2 v s2 hv=>?_);obtain⟨ov,ev,cv⟩:=hv;have z2:IsZip g2 z TI TO .ellipsis:=s2 _ _ n1z.symm z1;have nv:v≠z:=λh=>by subst h;rw[z2]at ev;cases ev;simp at cv
  exact wpAny_setField_rec z2 (by simp) λg3 _ s3=>q g3 v (λc o h1 _ h3 _ e=>s3.extBut _ _ h1 (s2 _ _ h3 (s1.extBut _ _ h1 e))) ⟨ov,s3.extBut _ _ nv ev,cv⟩
 |some x=>
  have ey:ys[k2]?=none:=by rcases hend with h|h;rw[ex]at h;cases h;exact h
  refine q9 (pP (b:=b1) (t1.keep λo e=>s1.extBut _ _ n1z e) (q1.keep λo e=>s1.extBut _ _ m1z e) ex λg2 u1 s2=>qf ?_);have o2:IsPair g2 TO a b:=s2.extBut _ _ nO1 (s1.extBut _ _ nOz hO);refine q9 (QC o2 U (q9 (wpAny_updateSeq_pair o2 λg3 o3 s3=>q9 (wpAny_letGo (qf ?_)))));refine q9 (q9 (wpAny_onRaise ?_));show wpAny _ _ (Builtin.SmallTypes.nextOf (.ref i2) >>= _) _ _ _;refine q9 (wf (b:=b2) hh (t2.keep λo e=>s3.extBut _ _ nO2.symm (s2.extBut _ _ n12.symm (s1.extBut _ _ n2z e))) (q2.keep λo e=>s3.extBut _ _ m2O (s2.extBut _ _ m21 (s1.extBut _ _ m2z e))) ey λg4 v s4 hv=>?_);obtain⟨ov,ev,cv⟩:=hv;have z4:IsZip g4 z TI TO .ellipsis:=s4 _ _ n2z.symm (s3.extBut _ _ nOz.symm (s2.extBut _ _ n1z.symm z1));have nv:v≠z:=λh=>by subst h;rw[z4]at ev;cases ev;simp at cv
  exact wpAny_setField_rec z4 (by simp) λg5 _ s5=>q g5 v (λc o h1 h2 h3 h4 e=>s5.extBut _ _ h1 (s4 _ _ h4 (s3.extBut _ _ h2 (s2.extBut _ _ h3 (s1.extBut _ _ h1 e))))) ⟨ov,s5.extBut _ _ nv ev,cv⟩
end
section
variable {X:Cx}{pins:List (Addr×Obj)}{Y:St}{H:Hp}{s:Shared}{h':Heap}
theorem Inv.turnedL{t':Nat}{ch:List Addr}(I:Inv X pins Y H s)(k:∀b o,b∉ch->s.heap.get? b=some o->h'.get? b=some o)(hf:∀b∈ch,dk X pins H b):Inv X pins Y H { s with heap:=h',toks:=t' }:=by
 have nit:∀b u,H b=some u->b∉ch:=λb u e z=>by rw[(hf b z).1]at e;cases e
 have hL:X.env.locals∉ch:=λz=>(hf _ z).2.1 U
 refine I.step (g':=s.gens) (d':=s.drawn) (ch:=ch) (λb hb=>⟨(hf b hb).2.2.2.1,(hf b hb).2.1,(hf b hb).2.2.2.2.1,(hf b hb).2.2.2.2.2⟩) (λb o _ _ hc e _=>k b o hc e) (λb o _ _ hc e _=>⟨o.slots,k b o hc e⟩) (λ_ _ _ _ n=>n)
  (λb o hc e=>⟨o,k b o hc e⟩) (λ_ _ e=>e) (λ_ _ _ e=>e) (λb ps e=>⟨#[],by rw[e];simp⟩) (λm hm=>?_) (λb u e=>?_) I.bare
 .obtain⟨o,es,ep,ho,r⟩:=hm;exact⟨o,es,ep,k _ o hL ho,r⟩
 .refine(I.hok b u e).stay (λc v hc q=>k c v ?_ q) (λ_ q=>q) λ_ _ q=>q;rcases hc with z|z
  .rw[z];exact nit b u e
  .exact nit c _ z
theorem Inv.track{T:Addr}{o:HO}(I:Inv X pins Y H s)(f:dk X pins H T)(hs:X.s₀.heap.objs.size<=T)(new:bF X.prog X.w (upd H T o) s.heap T o):Inv X pins Y (upd H T o) s:=by
 obtain⟨f0,f1,f2,_,f4,f5⟩:=f;have old:∀b u,X.s₀.heap.get? b=some u->b≠T:=λb u e=>qM (qJ (qv e) hs);refine⟨I.ok,I.os,I.bare,⟨I.base.keep,I.base.slot,λb u e n hx=>?_,I.base.there,λb xs e=>?_,λb u v e=>?_,λb ps e=>?_⟩,I.loc,I.cell,?_,λx c e=>?_,λp hp=>?_,λb u e=>?_,I.len⟩
 .rw[af (old b u e)];exact I.base.free b u e n hx
 .rw[af (cC (I.base.tups b xs e) f0)];exact I.base.tups b xs e
 .rw[af (cC (I.base.frzs b u v e) f0)];exact I.base.frzs b u v e
 .obtain⟨more,q⟩:=I.base.tbls b ps e;exact⟨more,by rw[af (cC q f0)];exact q⟩
 .rw[af (Ne.symm f1)];exact I.free
 .rw[af (f4 x c e)];exact I.freeC x c e
 .obtain⟨e,n,ne,nf,d⟩:=I.pin p hp;exact⟨e,by rw[af (f5 p hp)];exact n,ne,nf,d⟩
 .by_cases hb:b=T
  .subst hb;rw[ag]at e;cases e;exact new
  .rw[af hb]at e;exact(I.hok b u e).stay (λc v _ q=>q) (λc q=>by rw[af (cC q f0)];exact q) λc xs q=>by rw[af (cC q f0)];exact q
end
def SqB(K:W.Frag)(H:Hp):Bool->Addr->List V->Prop
 |false,a,xs=>SqL K H a xs
 |true,a,xs=>SqT K H a xs
theorem SqB.at{X:Cx}{pins:List (Addr×Obj)}{Y:St}{H:Hp}{s:Shared}(I:Inv X pins Y H s):∀{b:Bool}{a:Addr}{xs:List V},SqB X.K H b a xs->∃its:List Value,az xs its/\SSq s.heap b a its.toArray/\xs.length<=sizeLine
 |false,_,_,h=>let ⟨its,r,p,z⟩:=I.list h;⟨its,r,p.isList,z⟩
 |true,_,_,h=>let ⟨its,r,p,z⟩:=I.tuple h;⟨its,r,p,z⟩
theorem SqB.inj{X:Cx}{pins:List (Addr×Obj)}{Y:St}{H:Hp}{s:Shared}(I:Inv X pins Y H s):∀{b:Bool}{a:Addr}{xs ys:List V},SqB X.K H b a xs->SqB X.K H b a ys->xs=ys
 |false,_,_,_,h,h'=>I.list_inj h h'
 |true,_,_,_,h,h'=>I.tuple_inj h h'
noncomputable def Itz(K:W.Frag)(b1 b2:Bool)(l1 l2:Addr):It:=
 ⟨λi H=>∃xs ys x y,SqB K H b1 l1 xs/\SqB K H b2 l2 ys/\xs[i]?=some x/\ys[i]?=some y,
  λi H v H'=>∃p x y,H p=none/\v=.ref p/\H'=upd H p (.tup [x,y])/\(∀xs,SqB K H b1 l1 xs->xs[i]?=some x)/\∀ys,SqB K H b2 l2 ys->ys[i]?=some y,
  λi H=>∃xs ys,SqB K H b1 l1 xs/\SqB K H b2 l2 ys/\(xs.length<=i\/ys.length<=i)⟩
section
variable {prog:Program}{w:World}{A:Around}{E:Yq}{s:Shared}
theorem yv{z TI TO i1 i2 l1 l2:Addr}{b1 b2:Bool}{k1 k2:Nat}{xs ys:Array Value}{x y a b:Value}{Q:Option Value->Shared->Prop}(D:ZAp z TI TO i1 i2 l1 l2)
 (hz:IsZip s.heap z TI TO .none) (hI:IsPair s.heap TI (.ref i1) (.ref i2)) (hO:IsPair s.heap TO a b) (t1:SIt s.heap b1 i1 l1 k1) (t2:SIt s.heap b2 i2 l2 k2) (q1:SSq s.heap b1 l1 xs) (q2:SSq s.heap b2 l2 ys) (ex:xs[k1]?=some x) (ey:ys[k2]?=some y)
 (q:∀g,IsZip g z TI TO (rawInt s.heap.objs.size)->IsPair g TO x y->SIt g b1 i1 l1 (k1+1)->SIt g b2 i2 l2 (k2+1)->IsPair g s.heap.objs.size x y->(∀c o,c≠z->c≠TO->c≠i1->c≠i2->s.heap.get? c=some o->g.get? c=some o)->Q (some (.ref s.heap.objs.size)) { s with heap:=g }):
 wpAny (model prog w) A (pyNext (.ref z)) Q E s:=by
 have ty:s.TypeIs (.ref z) "zip":=⟨_,hz,U⟩;unfold pyNext;exact q9 (wpAny_attempt (wpAny_callSpecial?_slot (name:=Str.ofString "__next__") ty PySem.F.slot_zip_next (Qp PySem.F.slot_zip_next ty PySem.F.entry_zip_next (yx D hz hI hO t1 t2 q1 q2 ex ey λg a1 a2 a3 a4 a5 a6=>qf (q g a1 a2 a3 a4 a5 a6)) (PySem.F.args_zip_next_1 _))))
theorem yw{z TI TO i1 i2 l1 l2:Addr}{b1 b2:Bool}{k1 k2:Nat}{xs ys:Array Value}{a b:Value}{Q:Option Value->Shared->Prop}(hh:A.handled=none)(D:ZAp z TI TO i1 i2 l1 l2)
 (hz:IsZip s.heap z TI TO .none) (hI:IsPair s.heap TI (.ref i1) (.ref i2)) (hO:IsPair s.heap TO a b) (t1:SIt s.heap b1 i1 l1 k1) (t2:SIt s.heap b2 i2 l2 k2) (q1:SSq s.heap b1 l1 xs) (q2:SSq s.heap b2 l2 ys) (hend:xs[k1]?=none\/ys[k2]?=none)
 (q:∀g,(∀c o,c≠z->c≠TO->c≠i1->c≠i2->s.heap.get? c=some o->g.get? c=some o)->Q none { s with heap:=g }):wpAny (model prog w) A (pyNext (.ref z)) Q E s:=by
 have ty:s.TypeIs (.ref z) "zip":=⟨_,hz,U⟩;unfold pyNext;refine q9 (wpAny_attempt (wpAny_callSpecial?_slot (name:=Str.ofString "__next__") ty PySem.F.slot_zip_next (Qp PySem.F.slot_zip_next ty PySem.F.entry_zip_next (yy hh D hz hI hO t1 t2 q1 q2 hend λg e hk he=>?_) (PySem.F.args_zip_next_1 _))));obtain⟨o,ho,hc⟩:=he;exact q9 (wpAny_isInstance (T:="StopIteration") (b:=true) ⟨o,ho,hc⟩ isSubtype_stop (qf (q _ hk)))
end
theorem yJ{P:Program}{w:World}{K:W.Frag}{elts:List Expr}{kk:Nat}{tp:Pos}{b1 b2:Bool}(z TI TO i1 i2 l1 l2:Addr)(D:ZAp z TI TO i1 i2 l1 l2):
 iG P w K (.Tuple elts kk tp) (Itz K b1 b2 l1 l2) [z,TI,TO,i1,i2] z (λi h=>IsZip h z TI TO .none/\IsPair h TI (.ref i1) (.ref i2)/\(∃a b,IsPair h TO a b)/\SIt h b1 i1 l1 i/\SIt h b2 i2 l2 i) where
 mem:=by simp
 obj:=λi h st b hb=>by
  obtain⟨hz,hI,⟨a,c,hO⟩,t1,t2⟩:=st;simp only[qA,qW,or_false]at hb;rcases hb with rfl|rfl|rfl|rfl|rfl
  .exact⟨_,hz,λv q=>by cases q⟩
  .exact⟨_,hI,λv q=>by cases q⟩
  .exact⟨_,hO,λv q=>by cases q⟩
  .obtain⟨o,e,vs,d⟩:=t1.obj;exact⟨o,e,λv q=>by rw[d]at q;cases q⟩
  .obtain⟨o,e,vs,d⟩:=t2.obj;exact⟨o,e,λv q=>by rw[d]at q;cases q⟩
 keep:=λi h h' st k=>by
  obtain⟨hz,hI,⟨a,c,hO⟩,t1,t2⟩:=st;exact⟨k z (by simp) _ hz,k TI (by simp) _ hI,⟨a,c,k TO (by simp) _ hO⟩,t1.keep λo e=>k i1 (by simp) o e,t2.keep λo e=>k i2 (by simp) o e⟩
 item:=by
  intro X hP hw hK hc i pins s Y H E I hf st hg;subst hP hw hK;obtain⟨hz,hI,⟨a,c,hO⟩,t1,t2⟩:=st;obtain⟨xs,ys,x,y,hx,hy,ex,ey⟩:=hg;obtain⟨its,rv,q1,z1⟩:=SqB.at I hx;obtain⟨jts,rw',q2,z2⟩:=SqB.at I hy;obtain⟨u,hu,ru⟩:=rv.get ex;obtain⟨v,hv,rv'⟩:=rw'.get ey;refine yv D hz hI hO t1 t2 q1 q2 (x:=u) (y:=v) (by simpa using hu) (by simpa using hv) λg a1 a2 a3 a4 a5 a6=>⟨_,U,?_⟩;refine wpAny_letOwnedTupleGo_zip a1 λg' a1' sb=>?_;obtain⟨⟨nIz,nOz,n1z,n2z,nIO,nI1,nI2,nO1,nO2,n12⟩,lne⟩:=id D
  have hT:∀b∈[z,TI,TO,i1,i2],s.heap.objs.size≠b:=λb hb=>by
   have:∃o,s.heap.get? b=some o:=by
    simp only[qA,qW,or_false]at hb;rcases hb with rfl|rfl|rfl|rfl|rfl
    .exact⟨_,hz⟩
    .exact⟨_,hI⟩
    .exact⟨_,hO⟩
    .obtain⟨o,e,_⟩:=t1.obj;exact⟨o,e⟩
    .obtain⟨o,e,_⟩:=t2.obj;exact⟨o,e⟩
   obtain⟨o,e⟩:=this;exact Nat.ne_of_gt (qv e)
  have kk:∀b o,b∉[z,TI,TO,i1,i2]->s.heap.get? b=some o->g'.get? b=some o:=λb o hb e=>by
   simp only[qA,qW,or_false,not_or]at hb;exact sb.extBut _ _ hb.1 (a6 b o hb.1 hb.2.2.1 hb.2.2.2.1 hb.2.2.2.2 e)
  have I1:Inv X pins Y H { s with heap:=g' }:=I.turnedL (t':=s.toks) kk hf;have pT:IsPair g' s.heap.objs.size u v:=sb.extBut _ _ (hT z (by simp)) a5;have fT:dk X pins H s.heap.objs.size:=I.fpOk (qg _) (I.hok.fresh (qg _));have I2:Inv X pins Y (upd H s.heap.objs.size (.tup [x,y])) { s with heap:=g' }:=I1.track fT I.sz ⟨by show 2<=sizeLine;decide,[u,v],.cons ru (.cons rv' .nil),⟨_,pT,U,_,U⟩⟩;refine⟨.ref s.heap.objs.size,_,I2,U,⟨_,x,y,I.hok.fresh (qg _),U,U,λxs' h=>by rw[SqB.inj I h hx];exact ex,λys' h=>by rw[SqB.inj I h hy];exact ey⟩,?_,λb hb=>?_⟩
  .exact⟨a1',sb.extBut _ _ nIz (a6 TI _ nIz nIO nI1 nI2 hI),⟨u,v,sb.extBut _ _ nOz a2⟩,a3.keep λo e=>sb.extBut _ _ n1z e,a4.keep λo e=>sb.extBut _ _ n2z e⟩
  .rw[af (Ne.symm (hT b hb))];exact(hf b hb).1
 done:=by
  intro X hP hw hK hc i pins s Y H E I hf st hg;subst hP hw hK;obtain⟨hz,hI,⟨a,c,hO⟩,t1,t2⟩:=st;obtain⟨xs,ys,hx,hy,hend⟩:=hg;obtain⟨its,rv,q1,z1⟩:=SqB.at I hx;obtain⟨jts,rw',q2,z2⟩:=SqB.at I hy;have e1:=rv.length;have e2:=rw'.length
  refine yw (I.ok.hd hc) D hz hI hO t1 t2 q1 q2 (by
   rcases hend with h|h
   .exact .inl (by simp;omega)
   .exact .inr (by simp;omega)) λg k=>⟨U,I.turnedL (t':=s.toks) (ch:=[z,TI,TO,i1,i2]) (λb o hb e=>?_) hf⟩
  simp only[qA,qW,or_false,not_or]at hb;exact k b o hb.1 hb.2.2.1 hb.2.2.2.1 hb.2.2.2.2 e
 self:=λ_ _ _ _ _ st h=>wpAny_pyIter_zip st.1 h
noncomputable def gy(b:Bool)(l:Addr):Obj:={ cls:=.type (if b=true then "tuple_iterator" else "list_iterator"),data:=.fields #[.ref l,.int 0 0] }
theorem SIt.new{h:Heap}:∀{b:Bool}{it l:Addr},h.get? it=some (gy b l)->SIt h b it l 0
 |false,_,_,e=>⟨_,e,U,U⟩
 |true,_,_,e=>⟨_,e,U,U⟩
noncomputable def zg2(h:Heap)(b1 b2:Bool)(l1 l2:Addr):Heap:=(h.push (gy b1 l1)).push (gy b2 l2)
noncomputable def zg3(h:Heap)(b1 b2:Bool)(l1 l2:Addr):Heap:=(zg2 h b1 b2 l1 l2).push { cls:=.type "tuple",data:=.seq #[.ref h.objs.size,.ref (h.push (gy b1 l1)).objs.size] }
noncomputable def zg4(h:Heap)(b1 b2:Bool)(l1 l2:Addr):Heap:=(zg3 h b1 b2 l1 l2).push { cls:=.type "tuple",data:=.seq #[.none,.none] }
noncomputable def zg5(h:Heap)(b1 b2:Bool)(l1 l2:Addr):Heap:=(zg4 h b1 b2 l1 l2).push { cls:=.type "zip",data:=.fields #[.none,.bool false,.bool false,.ref (zg2 h b1 b2 l1 l2).objs.size,.ref (zg3 h b1 b2 l1 l2).objs.size] }
theorem x6{prog:Program}{w:World}{A:Around}{E:Yq}{s:Shared}{l:Addr}{xs:Array Value}{Q:Yq}:∀{b:Bool},SSq s.heap b l xs->Q (.ref s.heap.objs.size) { s with heap:=s.heap.push (gy b l) }->wpAny (model prog w) A (pyIter (.ref l)) Q E s
 |false,h,q=>wpAny_pyIter_list h q
 |true,h,q=>wpAny_pyIter_tuple h q
theorem SSq.push{h:Heap}{b:Bool}{l:Addr}{xs:Array Value}(x:SSq h b l xs)(o:Obj):SSq (h.push o) b l xs:=x.keep λ_ e=>qb _ e
set_option maxHeartbeats 8000000 in
theorem yu(b1 b2:Bool)(l1 l2:Addr)(xs ys:Array Value):
 Meets (Builtin.«zip.__new__» ⟨[.type "zip",.ref l1,.ref l2],[]⟩) (λ_ R s=>SSq s.heap b1 l1 xs/\SSq s.heap b2 l2 ys/\R (.ok (.ret (.ref (zg4 s.heap b1 b2 l1 l2).objs.size))) { s with heap:=zg5 s.heap b1 b2 l1 l2 }):=
 .of_wp λprog w A R s h=>by
  obtain⟨hp,g,d,tk,os⟩:=s;obtain⟨h1,h2,h⟩:=h;have hsub:=PySem.sub_zip;have e1:SSq (Shared.heap ⟨hp,g,d,tk,os⟩) b1 l1 xs:=h1;have e2:SSq (Shared.heap ⟨hp.push (gy b1 l1),g,d,tk,os⟩) b2 l2 ys:=SSq.push h2 _
  wp_walk using x6 e1,x6 e2
  exact⟨_,U,h⟩
section
variable {prog:Program}{w:World}{A:Around}{E:Yq}{s:Shared}
theorem Fb{b1 b2:Bool}{l1 l2:Addr}{xs ys:Array Value}{Q:Yq}(h1:SSq s.heap b1 l1 xs)(h2:SSq s.heap b2 l2 ys)
 (h:∀g n,n=s.heap.objs.size->IsZip g (n+4) (n+2) (n+3) .none->IsPair g (n+2) (.ref n) (.ref (n+1))->IsPair g (n+3) .none .none->SIt g b1 n l1 0->SIt g b2 (n+1) l2 0->
  (∀c o,s.heap.get? c=some o->g.get? c=some o)->Q (.ref (n+4)) { s with heap:=g }):wpAny (model prog w) A (call (.type "zip") [.ref l1,.ref l2]) Q E s:=by
 refine callType_new PySem.F.called_zip Yk (PySem.F.typeCall_zip_2 _ _) (PySem.F.newCall_zip_2 _ _) (λobj=>PySem.F.args_object_init_3 obj _ _) PySem.F.entry_zip_new (yu b1 b2 l1 l2 xs ys) ⟨h1,h2,?_⟩;have e1:(s.heap.push (gy b1 l1)).objs.size=s.heap.objs.size+1:=Qm ..;have e2:(zg2 s.heap b1 b2 l1 l2).objs.size=s.heap.objs.size+2:=by unfold zg2;rw[Qm,e1]
 have e3:(zg3 s.heap b1 b2 l1 l2).objs.size=s.heap.objs.size+3:=by unfold zg3;rw[Qm,e2]
 have e4:(zg4 s.heap b1 b2 l1 l2).objs.size=s.heap.objs.size+4:=by unfold zg4;rw[Qm,e3]
 have p:∀{c:Addr}{o:Obj},(zg4 s.heap b1 b2 l1 l2).get? c=some o->(zg5 s.heap b1 b2 l1 l2).get? c=some o:=λq=>qb _ q;have p4:∀{c:Addr}{o:Obj},(zg3 s.heap b1 b2 l1 l2).get? c=some o->(zg4 s.heap b1 b2 l1 l2).get? c=some o:=λq=>qb _ q;have p3:∀{c:Addr}{o:Obj},(zg2 s.heap b1 b2 l1 l2).get? c=some o->(zg3 s.heap b1 b2 l1 l2).get? c=some o:=λq=>qb _ q;have p2:∀{c:Addr}{o:Obj},(s.heap.push (gy b1 l1)).get? c=some o->(zg2 s.heap b1 b2 l1 l2).get? c=some o:=λq=>qb _ q;have g5:(zg5 s.heap b1 b2 l1 l2).get? (zg4 s.heap b1 b2 l1 l2).objs.size=some _:=qu _ U;have g4:(zg5 s.heap b1 b2 l1 l2).get? (zg3 s.heap b1 b2 l1 l2).objs.size=some _:=p (qu _ U);have g3:(zg5 s.heap b1 b2 l1 l2).get? (zg2 s.heap b1 b2 l1 l2).objs.size=some _:=p (p4 (qu _ U));have g2:(zg5 s.heap b1 b2 l1 l2).get? (s.heap.push (gy b1 l1)).objs.size=some _:=p (p4 (p3 (qu _ U)));have g1:(zg5 s.heap b1 b2 l1 l2).get? s.heap.objs.size=some _:=p (p4 (p3 (p2 (qu _ U))));show _/\_;rw[e2,e3,e4]at g5;rw[e1,e2]at g3;rw[e3]at g4;rw[e1]at g2;rw[e4];exact⟨⟨_,g5,U⟩,h _ _ U g5 g3 g4 (SIt.new g1) (SIt.new g2) λc o x=>p (p4 (p3 (p2 (qb _ x))))⟩
end
section
variable {X:Cx}
def DZ(K:W.Frag)(ta:TA):TI:=λY H R=>ta Y H λvs H1=>∃b1 b2 l1 l2 xs ys,vs=[.ref l1,.ref l2]/\SqB K H1 b1 l1 xs/\SqB K H1 b2 l2 ys/\R (Itz K b1 b2 l1 l2) H1
theorem BE{a b:Expr}{ta:TA}{p pos tp:Pos}{elts:List Expr}{kk:Nat}(hg:Gl X "zip")(hm:X.mg "zip"=none)(ha:PA X [a,b] ta)(hs:starEach [a,b] X.env=[(false,eval a X.env),(false,eval b X.env)]:=by rfl)(hs2:starEach [b] X.env=[(false,eval b X.env)]:=by rfl):
 PI X (.Tuple elts kk tp) (.Call (.Name "zip" p) [a,b] [] pos) (DZ X.K ta):=by
 intro pins s Y H R I h;refine Call_ (gU I hg hm PyProof.Rows.Boot.«zip» (PyProof.Rows.callWith_type1 (thn (ha pos pins s Y H _ I h) λus s1 ⟨vs,H1,I1,r1,q1⟩=>?_) (by rw[hs,hs2]) (by rw[hs2];rfl)));obtain⟨b1,b2,l1,l2,xs,ys,rfl,hx,hy,q⟩:=q1;obtain⟨u,u',rfl,ru,ru'⟩:=jf r1;cases ru;cases ru';obtain⟨its,rv,s1',z1⟩:=SqB.at I1 hx;obtain⟨jts,rw',s2',z2⟩:=SqB.at I1 hy;refine Fb s1' s2' λg n hn a1 a2 a3 a4 a5 k=>?_
 have lt:∀c,c=l1\/c=l2->c<n:=λc hc=>by
  rw[hn];rcases hc with rfl|rfl
  .obtain⟨o,e,_⟩:=s1'.obj;exact qv e
  .obtain⟨o,e,_⟩:=s2'.obj;exact qv e
 refine wpAny_pyIter_zip a1 ⟨n+4,[n+4,n+2,n+3,n,n+1],_,_,H1,U,I1.kept (t':=s1.toks) k,yJ (n+4) (n+2) (n+3) n (n+1) l1 l2 ⟨?_,λc hc=>?_⟩,⟨a1,a2,⟨_,_,a3⟩,a4,a5⟩,λb hb=>?_,q⟩
 .have e:∀i j:Nat,i≠j->n+i≠n+j:=λi j h z=>h (Nat.add_left_cancel z);exact⟨e 2 4 Yk,e 3 4 Yk,e 0 4 Yk,e 1 4 Yk,e 2 3 Yk,e 2 0 Yk,e 2 1 Yk,e 3 0 Yk,e 3 1 Yk,e 0 1 Yk⟩
 .have q:=lt c hc;have e:∀i:Nat,c≠n+i:=λi=>qM (qJ q (Nat.le_add_right _ _));exact⟨e 4,e 3,e 0,e 1,e 2⟩
 .have e:∀i:Nat,dk X pins H1 (n+i):=λi=>I1.fpOk (by rw[hn];exact Nat.le_add_right _ _) (I1.hok.fresh (by rw[hn];exact Nat.le_add_right _ _));simp only[qA,qW,or_false]at hb;rcases hb with rfl|rfl|rfl|rfl|rfl
  .exact e 4
  .exact e 2
  .exact e 3
  .exact e 0
  .exact e 1
end
open PySem.Builtin.Str in
section
variable {X:Cx}
end
@[irreducible] def rStrAny:List V->Hp->VK->Prop:=λxs H Q=>(∃z:Str,xs=[.str z]/\Q (.str z) H)\/∃i:Int,xs=[.int i]/\i.natAbs.log2<1920/\Q (.str (toString i)) H
section
variable {X:Cx}
end
mutual
inductive Dt(K:W.Frag)(H:Hp):V->PyData->Prop
 |non:Dt K H .non .none
 |bl (b:Bool):Dt K H (.bl b) (.bool b)
 |int (i:Int):Dt K H (.int i) (.int i)
 |str (x:Str):Dt K H (.str x) (.str x)
 |lst {a:Addr}{xs:List V}{ds:List PyData}:SqL K H a xs->eM K H xs ds->Dt K H (.ref a) (.list ds)
 |tup {a:Addr}{xs:List V}{ds:List PyData}:SqT K H a xs->eM K H xs ds->Dt K H (.ref a) (.tuple ds)
inductive eM(K:W.Frag)(H:Hp):List V->List PyData->Prop
 |nil:eM K H [] []
 |cons {v:V}{vs:List V}{d:PyData}{ds:List PyData}:Dt K H v d->eM K H vs ds->eM K H (v::vs) (d::ds)
end
section
variable {X:Cx}{pins:List (Addr×Obj)}{Y:St}{H:Hp}{s:Shared}
mutual
theorem Dt.reads(I:Inv X pins Y H s):∀{v:V}{d:PyData},Dt X.K H v d->∀{u:Value},aB v u->∃as,Reads s.heap u d as
 |_,_,.non,_,r=>by cases r;exact⟨_,.none⟩
 |_,_,.bl b,_,r=>by cases r;exact⟨_,.bool b⟩
 |_,_,.int i,_,r=>by obtain⟨t,rfl⟩:=r;exact⟨_,.int i t⟩
 |_,_,.str x,_,r=>by obtain⟨t,rfl⟩:=r;exact⟨_,.str x t⟩
 |_,_,.lst hq ha,_,r=>by
  cases r;obtain⟨its,rv,⟨o,n,e,c,_,d⟩,_⟩:=I.list hq;obtain⟨as,z⟩:=eM.reads I ha rv;exact⟨_,.list e c d (by simpa using z)⟩
 |_,_,.tup hq ha,_,r=>by
  cases r;obtain⟨its,rv,⟨o,e,c,n,d⟩,_⟩:=I.tuple hq;obtain⟨as,z⟩:=eM.reads I ha rv;exact⟨_,.tuple e c d (by simpa using z)⟩
theorem eM.reads(I:Inv X pins Y H s):∀{vs:List V}{ds:List PyData},eM X.K H vs ds->∀{us:List Value},az vs us->∃as,ReadsAll s.heap us ds as
 |_,_,.nil,_,r=>by cases r;exact⟨_,.nil⟩
 |_,_,.cons h t,_,r=>by
  cases r with
  |cons r1 r2=>
   obtain⟨as,z⟩:=Dt.reads I h r1;obtain⟨bs,z'⟩:=eM.reads I t r2;exact⟨_,.cons z z'⟩
end
end
section
variable {X:Cx}
theorem vV(hu:X.A.units+64<cLine):OpR X (compareOp .NotEq) (λx y H Q=>∃d e,Dt X.K H x d/\Dt X.K H y e/\SeqAt.shaped d=true/\SeqAt.shaped e=true/\Q (.bl (!PyData.eqv d e)) H):=by
 intro pins s Y H x y v u Q I rx ry h;obtain⟨d,e,h1,h2,s1,s2,q⟩:=h;obtain⟨as,r1⟩:=h1.reads I rx;obtain⟨bs,r2⟩:=h2.reads I ry;exact ne_dataH r1 r2 s1 s2 hu ⟨.bl _,H,I,U,q⟩
end
theorem Ef{K:W.Frag}{b1 b2:Bool}{l1 l2:Addr}{xs ys:List V}{g:TG}{tb:TS}{D:fA}{Y:St}{H:Hp}(Pv:Nat->St->Hp->Prop)(h0:Pv 0 Y H)(hl:∀i Y H,Pv i Y H->SqB K H b1 l1 xs/\SqB K H b2 l2 ys)
 (hs:∀i x y Y H p,xs[i]?=some x->ys[i]?=some y->Pv i Y H->H p=none->g (.ref p) Y (upd H p (.tup [x,y])) λY2 H2=>tb { D with nx:=Pv (i+1),ct:=Pv (i+1),bk:=D.nx } Y2 H2) (hd:∀Y H,Pv (min xs.length ys.length) Y H->D.nx Y H):
 ∃W:Nat->Nat->St->Hp->Prop,(∃m,W 0 m Y H)/\∀i m Y H,W i m Y H->
  ((Itz K b1 b2 l1 l2).stop i H/\D.nx Y H)\/((Itz K b1 b2 l1 l2).go i H/\∃N:St->Hp->Prop,(∀Y' H',N Y' H'->∃m',m'<m/\W (i+1) m' Y' H')/\∀x H',(Itz K b1 b2 l1 l2).yld i H x H'->g x Y H' λY2 H2=>tb { D with nx:=N,ct:=N,bk:=D.nx } Y2 H2):=by
 refine⟨λi m Y H=>m=min xs.length ys.length-i/\i<=min xs.length ys.length/\Pv i Y H,⟨_,U,qz _,h0⟩,?_⟩;rintro i m Y H ⟨rfl,hi,p⟩;obtain⟨q1,q2⟩:=hl i Y H p;by_cases hlt:i<min xs.length ys.length
 .have h1:i<xs.length:=by omega
  have h2:i<ys.length:=Yo;refine .inr ⟨⟨xs,ys,xs[i],ys[i],q1,q2,by simp[h1],by simp[h2]⟩,Pv (i+1),λY' H' p'=>⟨_,Yo,U,hlt,p'⟩,λv H' y=>?_⟩;obtain⟨a,x,y,hn,rfl,rfl,e1,e2⟩:=y;exact hs i x y Y H a (e1 xs q1) (e2 ys q2) p hn
 .have e:i=min xs.length ys.length:=by omega
  subst e;exact .inl ⟨⟨xs,ys,q1,q2,Yo⟩,hd Y H p⟩
theorem m6{K:W.Frag}{a:Addr}{xs:List V}{g:TG}{tt:TT}{te:TE}{Fin:List V->Hp->Prop}{Y:St}{H:Hp}(Pv:Nat->List V->St->Hp->Prop)(h0:Pv 0 [] Y H)(hz:∀i ys Y H,i<=xs.length->Pv i ys Y H->ys.length<=i)(hx:xs.length<=sizeLine)(hl:∀i ys Y H,Pv i ys Y H->SqL K H a xs)
 (hs:∀i x ys Y H,xs[i]?=some x->Pv i ys Y H->g x Y H λY2 H2=>tt Y2 H2 λb H3=>if b=true then te Y2 H3 λy H4=>Pv (i+1) (ys++[y]) Y2 H4 else Pv (i+1) ys Y2 H3)
 (hd:∀ys Y H,Pv xs.length ys Y H->Fin ys H):∃W:Nat->Nat->List V->St->Hp->Prop,(∃m,W 0 m [] Y H)/\iK (Itl K a) g tt te Fin W:=by
 refine⟨λi m ys Y H=>m=xs.length-i/\i<=xs.length/\Pv i ys Y H,⟨_,U,qz _,h0⟩,?_⟩;rintro i m ys Y H ⟨rfl,hi,p⟩;have hl':=hz i ys Y H hi p;have q:=hl i ys Y H p;by_cases hlt:i<xs.length
 .refine .inr ⟨⟨xs,xs[i],q,by simp[hlt]⟩,Yo,Pv (i+1),λys' Y' H' p'=>⟨_,Yo,U,hlt,p'⟩,λv H' y=>?_⟩;obtain⟨e,y⟩:=y;subst e;exact hs i v ys Y _ (y xs q) p
 .have e:i=xs.length:=by omega
  subst e;exact .inl ⟨⟨xs,q,qg _⟩,Yo,hd ys Y H p⟩
end L2
namespace L2
open PySem PySem.Spec PyProof.Rows
section
variable {X:Cx}{tg:Expr}
end
section
variable {X:Cx}
end
end L2
namespace L2
open PySem PySem.Spec PyProof.Rows PySem.NumText
theorem BG{X:Cx}{pins:List (Addr×Obj)}{Nc:List Str}{scope:Scope}{fp:List Addr}{s:Shared}{H:Hp}{C:Addr}{es:List Expr}{k:Nat}{t:TGs}{pos:Pos}(n:Nat)(hc:X.calm=true)(h:PGs (X.comp pins Nc scope fp s H C) es t)
 (hn:(assignEach es (X.comp pins Nc scope fp s H C).env).length=n:=by rfl) (hst:(assignEach es (X.comp pins Nc scope fp s H C).env).findIdx? (·.1)=none:=by rfl):PG (X.comp pins Nc scope fp s H C) (.Tuple es k pos) (xh X.K n t):=
 dA (X:=X.comp pins Nc scope fp s H C) hc h hn hst
theorem rG{α:Type}{P R:α->Prop}{c A B:Prop}{inst:Decidable c}{w:α}(hw:¬ c->P w)(rest:∀w,P w->R w)(h:c->(∀w,P w->R w)->A)(e:B=R w:=by rfl):@ite Prop c inst A B:=by
 subst e;by_cases hc:c
 .rw[Q8 hc];exact h hc rest
 .rw[Q7 hc];exact rest w (hw hc)
end L2
namespace L2
open PySem PySem.Spec PyProof.Rows PySem.W
section
variable {prog:Program}{w:World}{A:Around}{R:Result->Shared->Prop}{E:Yq}{h:Heap}{g:Array GenState}{d:Drawn}{t:Nat}{os:OsState}
variable {nm q:Str}{C N f:Addr}{bs bm:List Value}{hdct:Bool}{sn:List Str}{sub:List Value}{ab:Bool}{col:Option Bool}{dd:Option Addr}{k0 k1 k2 k3 k5:Option Value}
end
section
variable {prog:Program}{w:World}{A:Around}{R:Result->Shared->Prop}{E:Yq}{h:Heap}{g:Array GenState}{d:Drawn}{t:Nat}{os:OsState}
variable {nm q:Str}{C N x:Addr}{bs bm:List Value}{sn:List Str}{sub:List Value}{ab:Bool}{col:Option Bool}{dd:Option Addr}{k0 k1 k2 k3 k5:Option Value}{newId:String}{name:Str}{v:Value}{o:Obj}{fs:Array Value}
end
section
variable {prog:Program}{w:World}{A:Around}{R:Result->Shared->Prop}{E:Yq}{h:Heap}{g:Array GenState}{d:Drawn}{t:Nat}{os:OsState}
variable {nm q:Str}{C N e:Addr}{bs bm:List Value}{hdct:Bool}{sn:List Str}{sub:List Value}{ab:Bool}{col:Option Bool}{dd:Option Addr}{k0 k1 k2 k3 k5:Option Value}{newId:String}{oe:Obj}
end
section
variable {X:Cx}{pins:List (Addr×Obj)}{Y:St}{H:Hp}{s:Shared}{a C f dx:Addr}
end
section
variable {X:Cx}{pins:List (Addr×Obj)}{Y:St}{H:Hp}{s:Shared}{a C f dx:Addr}{h':Heap}
end
section
variable {M:Model}{A:Around}{E:Yq}{s:Shared}{base:Heap}{env:Env}{outer:List Env}{L e:Addr}{oe:Obj}{vs:Array Value}
end
section
variable {P:Program}{w:World}{K:W.Frag}{mg:Str->Option Value}{base:Heap}{N:List Str}{qual:Str}{scope:Scope}{f:Addr}{cdv:Value}{A:Around}{outer:List Env}{s0:Shared}{H0:Hp}{E:XK}
end
section
variable {M:Model}{A:Around}{E:Yq}{env:Env}
variable {nm q:Str}{C N:Addr}{bs bm:List Value}{hdct:Bool}{sn:List Str}{sub:List Value}{ab:Bool}{col:Option Bool}{dd:Option Addr}{k0 k1 k2 k3 k5:Option Value}{newId:String}
end
section
variable {X:Cx}{CX:CXT}{k:Nat}{f C:Addr}{fd:FuncData}{ps:List Str}{sp:Sp}{x:Str}{p pos cpos:Pos}{e:Expr}{es:List Expr}{t:TA}
end
section
variable {M:Model}{A:Around}{E:Yq}{h:Heap}{g:Array GenState}{d:Drawn}{t:Nat}{os:OsState}{e:Addr}{oe:Obj}
variable {nm q:Str}{C N:Addr}{bs bm:List Value}{hdct:Bool}{sn:List Str}{sub:List Value}{ab:Bool}{col:Option Bool}{dd:Option Addr}{k0 k1 k2 k3 k5:Option Value}{newId:String}
variable {nm' q':Str}{C' N':Addr}{bs' bm':List Value}{hdct':Bool}{sn':List Str}{sub':List Value}{ab':Bool}{col':Option Bool}{dd':Option Addr}{k0' k1' k2' k3' k5':Option Value}{newId':String}
end
section
variable {X:Cx}{pins:List (Addr×Obj)}{Y:St}{H:Hp}{s:Shared}{a:Addr}{oe:Obj}{vs:Array Value}{ex:List Addr}{fl:Value}{h':Heap}
end
section
variable {X:Cx}{k:Nat}{f C0:Addr}{fd:FuncData}{ps:List Str}{sp:Sp}{dvs:List V}{ds:List Value}{fx cx y m n:Str}{iy im inn:Nat}{p pos apos py cp pm pn pa hpos tpos:Pos}{e:Expr}{es:List Expr}{t:TA}
end
section
variable {prog:Program}{w:World}{A:Around}{E:Yq}{h:Heap}{g:Array GenState}{d:Drawn}{t:Nat}{os:OsState}{a dx:Addr}{o:Obj}{vs:Array Value}
 {nm q:Str}{C N:Addr}{bs bm:List Value}{sn:List Str}{sub:List Value}{ab:Bool}{col:Option Bool}{dd:Option Addr}{k0 k1 k2 k3 k5:Option Value}{newId:String}{mA:Str->Option Value}{name:Str}{v:Value}
end
section
variable {X:Cx}{e:Expr}{te:TE}{pos:Pos}
end
section
variable {P:Program}{w:World}{K:W.Frag}{mg:Str->Option Value}{base:Heap}
end
section
variable {prog:Program}{w:World}{A:Around}{E:Yq}{h:Heap}{g:Array GenState}{d:Drawn}{t:Nat}{os:OsState}{a:Addr}{o:Obj}{vs:Array Value}
 {nm q:Str}{C N:Addr}{bs bm:List Value}{sn:List Str}{sub:List Value}{ab:Bool}{col:Option Bool}{dd:Option Addr}{k0 k1 k2 k3 k5:Option Value}{newId:String}
end
section
variable {X:Cx}
end
section
variable {X:Cx}
end
theorem dX{x y:Int}(c:decide (V.int x=V.int y)=true):x=y:=by injection (Qj c)
theorem eL{x y:Int}(c:¬ decide (V.int x=V.int y)=true):¬ x=y:=λe=>c (Q9 (by rw[e]))
noncomputable def txt(v:Value):Str:=match v with|.str x _=>x|_=>""
structure bQ(P:Program)(w:World)(es:Array (Int×Value))(t:SetTable)(ys:List Str):Prop where
 el:ElemsOf (strKind P w) es.toList
 nd:(es.toList.map λe=>txt e.2).Nodup
 mem:∀k,k∈(es.toList.map λe=>txt e.2)↔k∈ys
 few:es.size<scanBound
 fit:t.fits es.size=true
 led:t.led=!w.params.followText "set-order"
 pl:0<es.size->t.plain=false
theorem lR{P:Program}{w:World}{k:Str}{v:Value}(h:(strKind P w).is k v=true):txt v=k:=by
 obtain⟨t,rfl⟩:=Value.isStrOf_shape h
 rfl
theorem zI(t:SetTable)(n:Nat):(t.orStandIn n).led=t.led/\(t.plain=false->(t.orStandIn n).plain=false):=by
 unfold SetTable.orStandIn;split
 .exact⟨U,λz=>z⟩
 .exact⟨U,λ_=>U⟩
theorem DB(t:SetTable)(es:Array (Int×Value))(h:Int)(x:Value):(layNew t es h x).2.1.led=t.led/\(t.plain=false->(layNew t es h x).2.1.plain=false):=by
 unfold layNew;split
 .exact zI (t.put _).1 _
 .exact⟨U,λ_=>U⟩
theorem AT(t:SetTable)(es:Array (Int×Value))(n:Nat):(relayAll t es n).2.1.led=t.led/\(t.plain=false->(relayAll t es n).2.1.plain=false):=by
 unfold relayAll SetTable.standIn;split
 .rename_i t' order he;unfold SetTable.relaid SetTable.laid at he
  have:t'.led=t.led/\t'.plain=t.plain:=by
   simp only[Option.bind_eq_bind,Option.bind_eq_some_iff]at he;obtain⟨ow,_,he⟩:=he;injection he with he;injection he with h1 h2;rw[<- h1];exact⟨U,U⟩
  dsimp only;split
  .exact⟨this.1,λz=>this.2.trans z⟩
  .exact⟨U,λ_=>U⟩
 .exact⟨U,λ_=>U⟩
noncomputable def bc(es:Array (Int×Value))(ep:Nat)(t:SetTable):Obj:={ cls:=.type "set",dict:=none,data:=.set es ep t }
section
variable {P:Program}{w:World}{A:Around}{E:Yq}{s:Shared}
theorem mL{a:Addr}{es es':Array (Int×Value)}{ep:Nat}{t t':SetTable}(ho:s.heap.get? a=some (bc es ep t)):
 (s.heap.update a (Obj.putSet es' t')).get? a=some (bc es' (ep+1) t'):=by
 have hd:(bc es ep t).data=.set es ep t:=U;have:=Qn (Obj.putSet es' t') ho (by rw[putSet_of es' t' hd];rfl);rw[putSet_of es' t' hd]at this;exact this
theorem yi{a:Addr}{es:Array (Int×Value)}{ep:Nat}{t:SetTable}{ys:List Str}{k:Str}{tk:Tok}{Q:Bool->Shared->Prop}
 (ho:s.heap.get? a=some (bc es ep t)) (T:bQ P w es t ys) (room:es.size+1<scanBound)
 (h:∀(b:Bool) h' es' ep' t',Heap.SameBut a s.heap h'->h'.get? a=some (bc es' ep' t')->bQ P w es' t' (ys++[k])->es'.size<=es.size+1->Q b { s with heap:=h' }):
 wpAny (model P w) A (setAddHashed a (.str k tk) (hashStr w k)) Q E s:=by
 have hkey:(strKind P w).is k (.str k tk)=true:=by
  show Value.isStrOf k (.str k tk)=true;simp[Value.isStrOf]
 have hsc:(Value.str k tk).scannable=true:=U;have hd:(bc es ep t).data=.set es ep t:=U;unfold setAddHashed setAddHashedIn;refine QB (q9 (Q4 ho hd T.fit ?_));dsimp only;rw[byScan_of hsc T.few T.el];simp only[↓reduceIte];unfold setAddByScan;refine q9 ?_;refine q9 (wpAny_rule ?_);refine q9 (wpAny_setScan_of (knd:=strKind P w) (k:=k) hkey ho hd T.fit T.el ?_)
 cases hr:List.findIdx? (λe=>(strKind P w).is k e.2) es.toList with
 |some j=>
  dsimp only;obtain⟨hj,hpj,_⟩:=List.findIdx?_eq_some_iff_getElem.mp hr;refine qf (qf ?_);have:=h false s.heap es ep t (Heap.SameBut.refl a s.heap) ho ⟨T.el,T.nd,λk'=>?_,T.few,T.fit,T.led,T.pl⟩ Yo
  .exact this
  .rw[T.mem k',qk,qY];refine⟨.inl,λz=>z.elim id λe=>?_⟩;rw[<- T.mem,e,<- lR hpj];exact List.mem_map.mpr ⟨_,List.getElem_mem hj,U⟩
 |none=>
  dsimp only
  have hnew:k∉es.toList.map λe=>txt e.2:=by
   intro hm;obtain⟨e,he,hk⟩:=List.mem_map.mp hm;have hn:=List.findIdx?_eq_none_iff.mp hr e he;obtain⟨⟨k',hk',_⟩,_⟩:=T.el e he;rw[lR hk']at hk;subst hk;rw[hk']at hn;cases hn
  have hgw:∀(b:Bool){s₁:Shared}{Q':Unit->Shared->Prop},Q' () s₁->wpAny (model P w) A (match b with|true=>rule "set.scan.the-table-gave-way"|false=>pure ()) Q' E s₁:=by
   intro b s₁ Q' hq;cases b
   .exact qf hq
   .exact wpAny_rule hq
  have hperm:=layNew_perm t es (hashStr w k) (.str k tk);have hfits:=layNew_fits t es (hashStr w k) (.str k tk);have hled:=DB t es (hashStr w k) (.str k tk);show wpAny _ _ (match layNew t es (hashStr w k) (.str k tk)with|(es,t,wasDummy,gave)=>_) _ _ _;generalize layNew t es (hashStr w k) (.str k tk)=Ln at hperm hfits hled ⊢;obtain⟨es1,t1,wd,gv⟩:=Ln;dsimp only at hperm hfits hled ⊢;rw[Array.toList_push]at hperm;have hsz1:es1.size=es.size+1:=by rw[<- qS,hperm.length_eq,qc,qS];rfl
  have tab:∀(es2:Array (Int×Value))(t2:SetTable),es2.toList.Perm es1.toList->t2.fits es2.size=true->t2.led=t.led->t2.plain=false->bQ P w es2 t2 (ys++[k]):=λes2 t2 hp hf hl hpl=>by
   have hp':=hp.trans hperm;refine⟨(T.el.push hkey hsc).perm hp',?_,λk'=>?_,?_,hf,hl.trans T.led,λ_=>hpl⟩
   .refine(hp'.map _).nodup_iff.mpr ?_;rw[qU,List.nodup_append];refine⟨T.nd,by simp,λx hx y hy=>?_⟩;simp only[qX,List.map_nil,qY]at hy;rintro rfl;rw[hy]at hx;exact hnew hx
   .rw[(hp'.map _).mem_iff,qU,qk,T.mem k',qk]
    rfl
   .rw[<- qS,hp'.length_eq,qc,qS];exact room
  refine q9 (hgw _ ?_)
  have tail:∀t2:SetTable,t2.fits es1.size=true->t2.led=t.led->t2.plain=false->∀R:Option Bool->Shared->Prop,(∀h' es' ep' t',Heap.SameBut a s.heap h'->h'.get? a=some (bc es' ep' t')->bQ P w es' t' (ys++[k])->es'.size<=es.size+1->R (some true) { s with heap:=h' })->
   wpAny (model P w) A (do
    storeSet a es1 t2
    if(!wd && t2.tooFull)=true then do
     (match(relayAll t2 es1 (SetTable.grown es1.size)).2.2 with|true=>rule "set.scan.the-table-gave-way"|false=>pure ())
     storeSet a (relayAll t2 es1 (SetTable.grown es1.size)).1 (relayAll t2 es1 (SetTable.grown es1.size)).2.1
     pure (some true)
    else pure (some true)) R E s:=λt2 hf hl hpl R hR=>by
   have room1:es1.size<=sizeLine:=fits_of_scanBound (by rw[hsz1];exact room);refine q9 (wpAny_storeSet_of ho hd ?_ room1);have ho1:=mL (s:=s) (es':=es1) (t':=t2) ho;have sb1:=Heap.SameBut.update s.heap a (Obj.putSet es1 t2);split
   .have hp:=relayAll_perm t2 es1 (SetTable.grown es1.size);have hfr:=relayAll_fits t2 es1 (SetTable.grown es1.size);have hlr:=AT t2 es1 (SetTable.grown es1.size);generalize relayAll t2 es1 (SetTable.grown es1.size)=Rl at hp hfr hlr ⊢;obtain⟨es2,t3,g2⟩:=Rl;dsimp only at hp hfr hlr ⊢;have hsz2:es2.size=es1.size:=by rw[<- qS,hp.length_eq,qS]
    refine q9 (hgw _ ?_);refine q9 (wpAny_storeSet_of (s:={ s with heap:=s.heap.update a (Obj.putSet es1 t2) }) ho1 U ?_ (by rw[hsz2];exact room1));exact qf (hR _ es2 _ t3 (sb1.trans (Heap.SameBut.update _ a _)) (mL (s:={ s with heap:=s.heap.update a (Obj.putSet es1 t2) }) ho1) (tab es2 t3 hp hfr (hlr.1.trans hl) (hlr.2 hpl)) Yo)
   .exact qf (hR _ es1 _ t2 sb1 ho1 (tab es1 t2 (.refl _) hf hl hpl) Yo)
  split
  .refine q9 ?_;rw[hashByValue_scannable 8 hsc];refine qf ?_;refine tail _ (SetTable.fits_plain_off hfits) hled.1 U _ λh' es' ep' t' a1 a2 a3 a4=>?_;exact qf (h true h' es' ep' t' a1 a2 a3 a4)
  .rename_i hpl;refine q9 (qf ?_);simp only[↓reduceIte];refine tail _ hfits hled.1 (by simpa using hpl) _ λh' es' ep' t' a1 a2 a3 a4=>?_;exact qf (h true h' es' ep' t' a1 a2 a3 a4)
end
section
variable {P:Program}{w:World}{A:Around}{E:Yq}{s:Shared}
theorem El{R:Result->Shared->Prop}{I:Addr}{fp wr:List Addr}{G:Array GenState->Array GenState->Prop}{n:Nat}{PI:Nat->Value->Prop}{St:Nat->Shared->Prop}
 (W:WalksS P w A.in1 I fp wr G n PI St) (S:Addr) (hSf:S∉fp) (zs:List Str) (hz:∀i v,PI i v->∃k t,zs[i]?=some k/\v=.str k t) (hb:n+1<scanBound):
 ∀(k i:Nat)(s:Shared),n-i=k->i<=n->St i s->
  (∃es ep t,s.heap.get? S=some (bc es ep t)/\bQ P w es t (zs.take i)/\es.size<=i)->
  (∀s',Moved (S::wr) G s s'->(∃es ep t,s'.heap.get? S=some (bc es ep t)/\bQ P w es t (zs.take n)/\es.size<=n)->R (.ok (.ret .none)) s')->
  codeAny (model P w) A (.builtin "set.update.loop" ⟨[.ref S,.ref I],[]⟩) R s:=by
 have hSw:S∉wr:=λz=>hSf (W.sub _ z);have up:∀b∈wr,b∈S::wr:=λb z=>qq _ z;intro k
 induction k with
 |zero=>
  intro i s hk hi hst hS hR;obtain rfl:i=n:=Yo;refine codeAny_builtin PyProof.Rows.F.entry_set_update_loop ?_;rw[Around.under_plainId PyProof.Rows.F.plain_set_update_loop _];show wpAny _ A.in1 (pyNext (.ref I) >>= _) _ _ s;refine q9 (W.done s _ _ hst λs' hm=>?_);show wpAny _ A.in1 (ret Value.none) _ _ s';obtain⟨es,ep,t,h1,h2,h3⟩:=hS;exact qf (hR s' (hm.mono up) ⟨es,ep,t,hm.heap S _ hSw h1,h2,h3⟩)
 |succ k ih=>
  intro i s hk hi hst hS hR;have lt:i<n:=Yo;refine codeAny_builtin PyProof.Rows.F.entry_set_update_loop ?_;rw[Around.under_plainId PyProof.Rows.F.plain_set_update_loop _];show wpAny _ A.in1 (pyNext (.ref I) >>= _) _ _ s;refine q9 (W.item i s _ _ lt hst λv s' hP hst' hm=>?_);obtain⟨z,t,hzi,rfl⟩:=hz i v hP;obtain⟨es,ep,tb,h1,h2,h3⟩:=hS;have h1':=hm.heap S _ hSw h1;show wpAny _ A.in1 (holding [Value.str z t] (setAdd S (.str z t)) >>= _) _ _ s';refine q9 (QB ?_);unfold setAdd;refine QB ?_;refine q9 (wpAny_pyHash_str ?_);refine yi (s:={ s' with toks:=s'.toks+1 }) h1' h2 Yo λb h' es' ep' t' sb g1 g2 g3=>?_;have e:zs.take (i+1)=zs.take i++[z]:=by rw[qy,hzi];rfl
  refine qf ⟨plainId_quiet PyProof.Rows.F.plain_set_update_loop _,ih (i+1) _ Yo lt (W.frame _ s' _ _ hst' (Nat.le_succ _) λb hb o q=>?_) ⟨es',ep',t',g1,by rw[e];exact g2,Yo⟩ λs2 m2 S2=>?_⟩
  .rw[sb.2 b λz:b=S=>hSf (by rw[<- z];exact hb)];exact q
  .refine hR s2 (Moved.trans W.gtrans ((hm.mono up).then_heap (Nat.le_succ _) λb o hb q=>?_) m2) S2;rw[sb.2 b λz:b=S=>hb (by rw[z];exact qt)];exact q
end
theorem fF:Slot "set_iterator" "__next__" "set_iterator.__next__":=
 .of (owner:="set_iterator") (n:="__next__") (by rw[typeLookup_type,builtinLookup_eq_fast];kernel_rfl) Yd Yd Yd (.inl Yd) (by rw[isSubtype_type];kernel_rfl)
theorem kF:entryFor table "set_iterator.__next__"=some Builtin.«set_iterator.__next__»:=entryFor_of_tree (by kernel_rfl)
theorem kG(a:Value):argsOk "set_iterator.__next__" ⟨[a],[]⟩:=by unfold argsOk;kernel_rfl
theorem uW:Slot "set_iterator" "__iter__" "set_iterator.__iter__":=
 .of (owner:="set_iterator") (n:="__iter__") (by rw[typeLookup_type,builtinLookup_eq_fast];kernel_rfl) Yd Yd Yd (by first|exact .inl Yd|exact .inr Yd) (by rw[isSubtype_type];kernel_rfl)
theorem zT:entryFor table "set_iterator.__iter__"=some Builtin.«dict_keyiterator.__iter__»:=entryFor_alias (id':="dict_keyiterator.__iter__") (by kernel_rfl) U Yd (by kernel_rfl)
theorem zU(a:Value):argsOk "set_iterator.__iter__" ⟨[a],[]⟩:=by unfold argsOk;kernel_rfl
theorem Ak:entryFor table "set.__iter__"=some Builtin.«frozenset.__iter__»:=entryFor_alias (id':="frozenset.__iter__") (by kernel_rfl) U Yd (by kernel_rfl)
noncomputable def dQ(fst:Value)(i:Nat)(a:Addr)(n ep:Nat):Obj:={ cls:=.type "set_iterator",data:=.fields #[fst,.int i 0,.ref a,.int n 0,.int ep 0] }
section
variable {P:Program}{w:World}{A:Around}{E:Yq}{s:Shared}
theorem gD{a:Addr}{es:Array (Int×Value)}{ep:Nat}{t:SetTable}{Q:Array (Int×Value)->Shared->Prop}(ho:s.heap.get? a=some (bc es ep t))(hf:t.fits es.size=true)(h:Q es s):
 wpAny (model P w) A (setEntries a) Q E s:=by
 unfold setEntries;exact q9 (Q4 ho U hf (qf h))
theorem zW{I a tp:Addr}{i p n ep:Nat}{es:Array (Int×Value)}{t:SetTable}{its:Array Value}{x:Int×Value}{nn:Nat}{ot:Obj}{tk:Tok}{Q:Option Value->Shared->Prop}
 (hi:s.heap.get? I=some (dQ (.ref tp) i a n ep)) (hs:s.heap.get? a=some (bc es ep t)) (hf:t.fits es.size=true) (hn:es.size=n)
 (ht:s.heap.get? tp=some ot) (htd:ot.data=.seq its nn) (hp:its[i]?=some (.int (p:Int) tk)) (hx:es[p]?=some x)
 (h:∀h',h'.get? I=some (dQ (.ref tp) (i+1) a n ep)->Heap.SameBut I s.heap h'->Q (some x.2) { s with heap:=h' }):
 wpAny (model P w) A (pyNext (.ref I)) Q E s:=by
 have ty:s.TypeIs (.ref I) "set_iterator":=⟨_,hi,U⟩;unfold pyNext;refine q9 (wpAny_attempt (wpAny_callSpecial?_slot (name:=Str.ofString "__next__") ty fF (Qp fF ty kF ?_ (kG _))));unfold Builtin.«set_iterator.__next__»;refine q9 (qf ?_);refine q9 (wpAny_fieldsOf hi U ?_);dsimp only;refine q9 (gD hs hf ?_);have ne:((es.size:Int) != (n:Int))=false:=by rw[hn];simp
 rw[ne,Q7 qo];refine q9 (QC ht htd ?_);dsimp only;rw[Q5,hp];dsimp only;refine q9 ?_;unfold setNextDrawn;refine q9 (Q4 hs U hf ?_);dsimp only;have ne2:(ep != (ep:Int).toNat)=false:=by rw[Q5];simp
 rw[ne2,Q7 qo,Q5,hx];dsimp only;refine qf ?_;refine q9 (wpAny_setField hi U (by simp) (qf ⟨_,U,qf (h _ ?_ (Heap.SameBut.update ..))⟩));have:=Qn (Obj.mapFields (·.setIfInBounds 1 (rawInt ((i:Int)+1)))) hi U;exact this
theorem tN{Q:Option Value->Shared->Prop}(hh:A.handled=none)(h:∀h',(∀b o,s.heap.get? b=some o->h'.get? b=some o)->Q none { s with heap:=h' }):
 wpAny (model P w) A.in1 (newExc (.type "StopIteration") [] >>= λx=>(raiseNew x:Sem Fin)) (λfin s'=>∃v,fin=Fin.done (Flow.ret v)/\wpAny (model P w) A (pure (some v)) Q E s')
  (λe s'=>wpAny (model P w) A (do if <- isInstance e (Value.type "StopIteration")then pure none else throw e) Q E s') s:=by
 refine q9 ?_;simp only[newExc,newTuple];refine q9 (wpAny_newObj_type ?_ (by size_fits));refine q9 (m:=firstArgMember _ _) (wpAny_of_eq (a:=Value.none) (by first|rfl|(simp only[firstArgMember];rfl)) ?_);refine wpAny_newObj_type ?_ (by size_fits);simp only[raiseNew];refine q9 (wpAny_handled ?_);have hh':A.in1.handled=none:=hh;rw[hh'];refine q9 (qf (wpAny_throw ?_));refine q9 (wpAny_isInstance (T:="StopIteration") (b:=true) ⟨_,qu _ U,U⟩ isSubtype_stop ?_);exact qf (h _ λb o e=>qb _ (qb _ e))
theorem zV{I a tp:Addr}{i n ep:Nat}{es:Array (Int×Value)}{t:SetTable}{its:Array Value}{nn:Nat}{ot:Obj}{Q:Option Value->Shared->Prop}(hh:A.handled=none)
 (hi:s.heap.get? I=some (dQ (.ref tp) i a n ep)) (hs:s.heap.get? a=some (bc es ep t)) (hf:t.fits es.size=true) (hn:es.size=n)
 (ht:s.heap.get? tp=some ot) (htd:ot.data=.seq its nn) (hp:its[i]?=none)
 (h:∀h',(∀b o,b≠I->s.heap.get? b=some o->h'.get? b=some o)->Q none { s with heap:=h' }):
 wpAny (model P w) A (pyNext (.ref I)) Q E s:=by
 have ty:s.TypeIs (.ref I) "set_iterator":=⟨_,hi,U⟩;unfold pyNext;refine q9 (wpAny_attempt (wpAny_callSpecial?_slot (name:=Str.ofString "__next__") ty fF (Qp fF ty kF ?_ (kG _))));unfold Builtin.«set_iterator.__next__»;refine q9 (qf ?_);refine q9 (wpAny_fieldsOf hi U ?_);dsimp only;refine q9 (gD hs hf ?_);have ne:((es.size:Int) != (n:Int))=false:=by rw[hn];simp
 rw[ne,Q7 qo];refine q9 (QC ht htd ?_);dsimp only;rw[Q5,hp];dsimp only;refine q9 (wpAny_setField hi U (by simp) ?_);have g1:=Qn (Obj.mapFields (·.setIfInBounds 0 (rawInt 0))) hi U;refine q9 (wpAny_setField g1 U (by simp) ?_);refine tN hh λh' k=>h h' λb o hb e=>k b o ?_;exact(Qz _ _ (Ne.symm hb)).trans ((Qz _ _ (Ne.symm hb)).trans e)
theorem uV{I a:Addr}{i n ep sl sl':Nat}{es:Array (Int×Value)}{t:SetTable}{x:Value}{Q:Option Value->Shared->Prop}
 (hi:s.heap.get? I=some (dQ (.int (sl:Int) 0) i a n ep)) (hs:s.heap.get? a=some (bc es ep t)) (hf:t.fits es.size=true) (hn:es.size=n)
 (hx:∀Q':Option (Value×Nat)->Shared->Prop,∀E',Q' (some (x,sl')) s->wpAny (model P w) A.in1 (setNext a sl i ep) Q' E' s)
 (h:∀h',h'.get? I=some (dQ (.int (sl':Int) 0) (i+1) a n ep)->Heap.SameBut I s.heap h'->Q (some x) { s with heap:=h' }):
 wpAny (model P w) A (pyNext (.ref I)) Q E s:=by
 have ty:s.TypeIs (.ref I) "set_iterator":=⟨_,hi,U⟩;unfold pyNext;refine q9 (wpAny_attempt (wpAny_callSpecial?_slot (name:=Str.ofString "__next__") ty fF (Qp fF ty kF ?_ (kG _))));unfold Builtin.«set_iterator.__next__»;refine q9 (qf ?_);refine q9 (wpAny_fieldsOf hi U ?_);dsimp only;refine q9 (gD hs hf ?_);have ne:((es.size:Int) != (n:Int))=false:=by rw[hn];simp
 rw[ne,Q7 qo,Q5,Q5,Q5];refine q9 (hx _ _ ?_);dsimp only;refine q9 (wpAny_setField hi U (by simp) ?_);have g1:=Qn (Obj.mapFields (·.setIfInBounds 0 (rawInt (sl':Int)))) hi U;refine q9 (wpAny_setField g1 U (by simp) (qf ⟨_,U,qf (h _ ?_ ((Heap.SameBut.update ..).trans (Heap.SameBut.update ..)))⟩));exact Qn (Obj.mapFields (·.setIfInBounds 1 (rawInt ((i:Int)+1)))) g1 U
theorem mV{I a:Addr}{i n ep sl:Nat}{es:Array (Int×Value)}{t:SetTable}{Q:Option Value->Shared->Prop}(hh:A.handled=none)
 (hi:s.heap.get? I=some (dQ (.int (sl:Int) 0) i a n ep)) (hs:s.heap.get? a=some (bc es ep t)) (hf:t.fits es.size=true) (hn:es.size=n)
 (hx:∀Q':Option (Value×Nat)->Shared->Prop,∀E',Q' none s->wpAny (model P w) A.in1 (setNext a sl i ep) Q' E' s)
 (h:∀h',(∀b o,b≠I->s.heap.get? b=some o->h'.get? b=some o)->Q none { s with heap:=h' }):
 wpAny (model P w) A (pyNext (.ref I)) Q E s:=by
 have ty:s.TypeIs (.ref I) "set_iterator":=⟨_,hi,U⟩;unfold pyNext;refine q9 (wpAny_attempt (wpAny_callSpecial?_slot (name:=Str.ofString "__next__") ty fF (Qp fF ty kF ?_ (kG _))));unfold Builtin.«set_iterator.__next__»;refine q9 (qf ?_);refine q9 (wpAny_fieldsOf hi U ?_);dsimp only;refine q9 (gD hs hf ?_);have ne:((es.size:Int) != (n:Int))=false:=by rw[hn];simp
 rw[ne,Q7 qo,Q5,Q5,Q5];refine q9 (hx _ _ ?_);dsimp only;refine q9 (wpAny_setField hi U (by simp) ?_);refine tN hh λh' k=>h h' λb o hb e=>k b o ?_;exact(Qz _ _ (Ne.symm hb)).trans e
theorem kE{I a:Addr}{fst:Value}{i n ep:Nat}{Q:Yq}(hi:s.heap.get? I=some (dQ fst i a n ep))(h:Q (.ref I) s):wpAny (model P w) A (pyIter (.ref I)) Q E s:=by
 have ty:s.TypeIs (.ref I) "set_iterator":=⟨_,hi,U⟩;refine wpAny_pyIter_slot ty uW (Qp uW ty zT ?_ (zU _));show wpAny _ _ (ret (.ref I)) _ _ s;exact qf ⟨_,U,"set_iterator",_,ty,fF.lookup,h⟩
end
section
variable {P:Program}{w:World}{A:Around}{E:Yq}{s:Shared}
theorem yB{src:Source}{n:Nat}{Q:Nat->Shared->Prop}(hn:n≠0)(h:∀i d,i<n->Q i { s with drawn:=d }):wpAny (model P w) A (choose src n) Q E s:=λΓ p _=>by
 show Sem.wp _ _ (.choose src n .pure) _ _ _ _;rw[Sem.wp_choose];refine⟨hn,?_⟩;have:=h ((model P w).w.draws src (s.drawn.get src) % n) (s.drawn.bump src) (Nat.mod_lt _ (Nat.pos_of_ne_zero hn));simpa using this
theorem vP{α:Type}{xs:List α}{i:Nat}{x:α}(h:xs[i]?=some x):(x::xs.eraseIdx i).Perm xs:=by
 induction xs generalizing i with
 |nil=>simp at h
 |cons y r ih=>
  cases i with
  |zero=>simp at h;subst h;exact .refl _
  |succ j=>
   simp only[List.getElem?_cons_succ]at h;exact(List.Perm.swap y x _).trans ((ih h).cons y)
theorem rV{α:Type}:∀(n:Nat)(xs:List α)(s:Shared)(Q:List α->Shared->Prop),xs.length=n->(∀ys d,ys.Perm xs->Q ys { s with drawn:=d })->wpAny (model P w) A (drawOrder n xs) Q E s
 |0,xs,s,Q,hn,h=>by
  obtain rfl:=List.length_eq_zero_iff.mp hn;exact qf (h [] s.drawn (.refl _))
 |n+1,[],s,Q,hn,h=>by cases hn
 |n+1,x::r,s,Q,hn,h=>by
  unfold drawOrder;refine q9 (yB (by simp) λi d hi=>?_);have e:(x::r)[i]?=some (x::r)[i]:=qe hi;rw[e];dsimp only;refine q9 (rV n _ _ _ (by rw[List.length_eraseIdx_of_lt hi];omega) λys d' hp=>qf ?_);exact h _ d' ((hp.cons _).trans (vP e))
theorem vO{α:Type}(next:Nat->Nat):∀(fuel k:Nat)(left:List α)(out:Array α),left.length=fuel->(pickOrder.go next fuel k left out).toList.Perm (out.toList++left)
 |0,k,left,out,h=>by
  obtain rfl:=List.length_eq_zero_iff.mp h;unfold pickOrder.go;rw[qE]
 |fuel+1,k,left,out,h=>by
  unfold pickOrder.go;have hi:next k % left.length<left.length:=Nat.mod_lt _ Yo
  have e:=qe hi;rw[e];dsimp only;refine(vO next fuel (k+1) _ _ (by rw[List.length_eraseIdx_of_lt hi];omega)).trans ?_;rw[Array.toList_push,qT];exact(List.Perm.refl _).append (vP e)
theorem vN{α:Type}(next:Nat->Nat)(xs:Array α):(pickOrder next xs).toList.Perm xs.toList:=by
 have:=vO next xs.size 0 xs.toList #[] qS
 simpa[pickOrder]using this
theorem iC{Q:Bool->Shared->Prop}(h:Q (w.params.followText "set-order") s):wpAny (model P w) A setsByText Q E s:=by
 unfold setsByText;exact q9 (wpAny_askSetting (qf h))
structure Fx(P:Program)(w:World)(es:Array (Int×Value))(a:Addr)(s s':Shared)(I:Addr):Prop where
 ex:∃(fp:List Addr)(vs:List Value)(St:Nat->Heap->Prop),vs.Perm (es.toList.map (·.2))/\(∀A:Around,A.handled=none->Walks P w A I fp [I] vs.length (λi v=>vs[i]?=some v) St)/\St 0 s'.heap/\(∀b∈fp,b<s'.heap.objs.size/\(b=a\/s.heap.get? b=none))/\I∈fp
 old:∀b o,s.heap.get? b=some o->s'.heap.get? b=some o
 new:s.heap.get? I=none
 gens:s'.gens=s.gens
 os:s'.os=s.os
 toks:s'.toks=s.toks
theorem Ej{t:SetTable}{n:Nat}(h:t.fits n=true):t.place.size=n:=by
 simp only[SetTable.fits,Bool.and_eq_true,beq_iff_eq]at h;exact h.1
theorem gP{h:Heap}{b:Addr}(k:h.objs.size<=b):h.get? b=none:=by
 cases q:h.get? b with
 |none=>rfl
 |some o=>exact Qb (qJ (qv q) k) (Qi _)
theorem DR{a:Addr}{es:Array (Int×Value)}{ep:Nat}{t:SetTable}{ys:List Str}{Q:Yq}(hs:s.heap.get? a=some (bc es ep t))(T:bQ P w es t ys)
 (h:∀s' I,Fx P w es a s s' I->Q (.ref I) s'):wpAny (model P w) A (pyIter (.ref a)) Q E s:=by
 have ty:s.TypeIs (.ref a) "set":=⟨_,hs,U⟩;have alt:a<s.heap.objs.size:=qv hs;refine wpAny_pyIter_slot ty F.slot_set_iter (Qp F.slot_set_iter ty Ak ?_ (F.args_set_iter_1 _));unfold Builtin.«frozenset.__iter__»;refine q9 (qf ?_);refine q9 ?_;unfold Builtin.Frozenset.sizeOf;refine q9 (gD hs T.fit (qf ?_));refine q9 ?_;unfold setDrawn;refine q9 (Q4 hs U T.fit ?_);dsimp only;refine q9 (iC (qf ?_))
 have two:∀(fst:Value)(s1:Shared),s1.heap.get? a=some (bc es ep t)->(∀it s',it=.ref s1.heap.objs.size->s'={ s1 with heap:=s1.heap.push (dQ fst 0 a es.size ep) }->Q it s')->
  wpAny (model P w) A.in1 (do
   let e <- setEpoch a
   let x <- newFields "set_iterator" [fst,rawInt 0,.ref a,rawInt (es.size:Int),rawInt (e:Int)]
   ret x) (λfin s'=>∃v,fin=Fin.done (Flow.ret v)/\∃T' r,s'.TypeIs v T'/\typeLookup (Value.type T') (Str.ofString "__next__")=pure (some r)/\Q v s') E s1:=λfst s1 h1 hq=>by
  refine q9 (wpAny_setEpoch_of h1 U T.fit ?_);unfold newFields;refine q9 (wpAny_newObj_type ?_);refine qf ⟨_,U,"set_iterator",_,⟨_,qu _ U,U⟩,fF.lookup,hq _ _ U U⟩
 show wpAny _ _ (if(!w.params.followText "set-order" && (!t.plain && decide (es.size > 1)))=true then _ else _) _ _ _;have hpl:=Ej T.fit;by_cases hb:w.params.followText "set-order"=true
 .rw[hb];simp only[Bool.not_true,Bool.false_and,Qq,if_false];refine q9 (qf ?_);refine two _ s hs λit s' e1 e2=>?_;subst e1 e2;have pp:=vN (w.params.setOrder a ep) es;have pl:((pickOrder (w.params.setOrder a ep) es).toList.map (·.2)).length=es.size:=by rw[qa,pp.length_eq,qS]
  have nx:∀(A':Around)(i:Nat)(s1:Shared)(Q':Option (Value×Nat)->Shared->Prop) E',s1.heap.get? a=some (bc es ep t)->Q' (((pickOrder (w.params.setOrder a ep) es)[i]?).map λe=>(e.2,0)) s1->wpAny (model P w) A' (setNext a 0 i ep) Q' E' s1:=λA' i s1 Q' E' h1 q=>by
   unfold setNext;refine q9 (Q4 h1 U T.fit ?_);dsimp only;refine q9 (iC ?_);rw[hb,Q8 U];have ne:(ep != ep)=false:=by simp
   rw[ne,Q7 qo];refine q9 ?_;unfold setWalk;refine q9 (Q4 h1 U T.fit ?_);dsimp only;refine q9 (iC ?_);rw[hb,Q8 U];refine q9 (wpAny_askSetting (qf ?_));exact qf q
  have nI:a≠s.heap.objs.size:=qM alt;refine h _ _ ⟨⟨[s.heap.objs.size,a],(pickOrder (w.params.setOrder a ep) es).toList.map (·.2),λi h'=>h'.get? s.heap.objs.size=some (dQ (.int 0 0) i a es.size ep)/\h'.get? a=some (bc es ep t),pp.map _,λA' hh=>?_,⟨qu _ U,qb _ hs⟩,?_,by simp⟩,λb o e=>qb _ e,?_,U,U,U⟩
  .refine⟨λb hb=>by simp at hb;simp[hb],λi h1 h2 st k=>⟨k _ (by simp) _ st.1,k _ (by simp) _ st.2⟩,λi s1 Q' E' hi st q=>?_,λs1 Q' E' st q=>?_,λi s1 Q' E' st q=>kE st.1 q⟩
   .have hi':i<(pickOrder (w.params.setOrder a ep) es).size:=by rw[qa,qS]at hi;exact hi
    refine uV (sl:=0) (sl':=0) (x:=(pickOrder (w.params.setOrder a ep) es)[i].2) st.1 st.2 T.fit U (λQ2 E2 q2=>nx _ _ _ _ _ st.2 (by rw[Array.getElem?_eq_getElem hi'];exact q2)) λh' g1 g2=>q _ h' s1.toks ?_ ⟨g1,?_⟩ λb o hb e=>?_
    .simp[hi']
    .rw[g2.2 _ nI];exact st.2
    .rw[g2.2 _ (by simpa using hb)];exact e
   .have hi':(pickOrder (w.params.setOrder a ep) es)[((pickOrder (w.params.setOrder a ep) es).toList.map (·.2)).length]?=none:=by simp
    exact mV (sl:=0) hh st.1 st.2 T.fit U (λQ2 E2 q2=>nx _ _ _ _ _ st.2 (by rw[hi'];exact q2)) λh' g=>q h' s1.toks λb o hb e=>g b o (by simpa using hb) e
  .intro b hb;simp only[qA,qW,or_false]at hb;rw[Qm];rcases hb with rfl|rfl
   .exact⟨Qh _,.inr (gP (qg _))⟩
   .exact⟨Qw alt,.inl U⟩
  .exact gP (qg _)
 .have hb':w.params.followText "set-order"=false:=by simpa using hb
  rw[hb'];have led:t.led=true:=by rw[T.led,hb'];rfl
  by_cases hz:es.size > 1
  .have hp:=T.pl Yo;rw[hp];simp only[Bool.not_false,Bool.true_and,hz,decide_true,if_true];refine q9 (rV _ _ _ _ (by simp) λps d hps=>?_);refine q9 (wpAny_newTuple ?_ (by rw[qa,hps.length_eq,Qk];exact fits_of_scanBound T.few));refine two _ _ (qb _ hs) λit s' e1 e2=>?_;subst e1 e2;dsimp only;have lt:∀p∈ps,p<es.size:=λp hm=>List.mem_range.mp (hps.mem_iff.mp hm);have sz:(s.heap.push { cls:=.type "tuple",data:=.seq (ps.map λi:Nat=>rawInt i).toArray }).objs.size=s.heap.objs.size+1:=Qm ..
   have vp:(ps.map λp=>(es.toList.map (·.2)).getD p .none).Perm (es.toList.map (·.2)):=by
    refine(hps.map _).trans ?_
    have e:(List.range es.size).map (λp=>(es.toList.map (·.2)).getD p .none)=es.toList.map (·.2):=by
     refine List.ext_getElem (by simp) λi h1 h2=>?_;simp only[List.getElem_map,List.getElem_range];rw[qp,qe h2];simp
    rw[e]
   have nI:a≠(s.heap.push { cls:=.type "tuple",data:=.seq (ps.map λi:Nat=>rawInt i).toArray }).objs.size:=by rw[sz];exact qM (Qw alt)
   have nT:s.heap.objs.size≠(s.heap.push { cls:=.type "tuple",data:=.seq (ps.map λi:Nat=>rawInt i).toArray }).objs.size:=by rw[sz];exact qM (Qh _)
   refine h _ _ ⟨⟨[(s.heap.push { cls:=.type "tuple",data:=.seq (ps.map λi:Nat=>rawInt i).toArray }).objs.size,a,s.heap.objs.size],ps.map λp=>(es.toList.map (·.2)).getD p .none,
    λi h'=>h'.get? (s.heap.push { cls:=.type "tuple",data:=.seq (ps.map λi:Nat=>rawInt i).toArray }).objs.size=some (dQ (.ref s.heap.objs.size) i a es.size ep)/\h'.get? a=some (bc es ep t)/\h'.get? s.heap.objs.size=some { cls:=.type "tuple",data:=.seq (ps.map λi:Nat=>rawInt i).toArray },
    vp,λA' hh=>?_,⟨qu _ U,qb _ (qb _ hs),qb _ (qu _ U)⟩,?_,by simp⟩,λb o e=>qb _ (qb _ e),?_,U,U,U⟩
   .refine⟨λb hb=>by simp at hb;simp[hb],λi h1 h2 st k=>⟨k _ (by simp) _ st.1,k _ (by simp) _ st.2.1,k _ (by simp) _ st.2.2⟩,λi s1 Q' E' hi st q=>?_,λs1 Q' E' st q=>?_,λi s1 Q' E' st q=>kE st.1 q⟩
    .have hi':i<ps.length:=by rw[qa]at hi;exact hi
     have pl:=lt _ (List.getElem_mem hi');refine zW (p:=ps[i]) (tk:=0) (x:=es[ps[i]]) st.1 st.2.1 T.fit U st.2.2 U (by simp[hi',rawInt]) (Array.getElem?_eq_getElem pl) λh' g1 g2=>q _ h' s1.toks ?_ ⟨g1,?_,?_⟩ λb o hb e=>?_
     .simp[hi',pl]
     .rw[g2.2 _ nI];exact st.2.1
     .rw[g2.2 _ nT];exact st.2.2
     .rw[g2.2 _ (by simpa using hb)];exact e
    .exact zV hh st.1 st.2.1 T.fit U st.2.2 U (by simp) λh' g=>q h' s1.toks λb o hb e=>g b o (by simpa using hb) e
   .intro b hb;simp only[qA,qW,or_false]at hb;rw[Qm,sz];rcases hb with rfl|rfl|rfl
    .rw[sz];exact⟨Qh _,.inr (gP (Nat.le_succ _))⟩
    .exact⟨Qw (Qw alt),.inl U⟩
    .exact⟨Qw (Qh _),.inr (gP (qg _))⟩
   .rw[sz];exact gP (Nat.le_succ _)
  .have hz':decide (es.size > 1)=false:=Qa hz;rw[hz',Bool.and_false,Bool.and_false,Q7 qo];refine q9 (qf ?_);refine two _ s hs λit s' e1 e2=>?_;subst e1 e2;have nI:a≠s.heap.objs.size:=qM alt
   have nx:∀(A':Around)(i sl:Nat)(s1:Shared)(Q':Option (Value×Nat)->Shared->Prop) E',s1.heap.get? a=some (bc es ep t)->Q' (match es[SetTable.below t.place sl]?,t.place[SetTable.below t.place sl]? with|some (_,x),some j=>some (x,j+1)|_,_=>none) s1->wpAny (model P w) A' (setNext a sl i ep) Q' E' s1:=λA' i sl s1 Q' E' h1 q=>by
    unfold setNext;refine q9 (Q4 h1 U T.fit ?_);dsimp only;refine q9 (iC ?_);rw[hb',Q7 qo];show wpAny _ _ (if(!t.plain && decide (es.size > 1))=true then _ else _) _ _ _;rw[hz',Bool.and_false,Q7 qo];refine q9 ?_;show wpAny _ _ (if(!t.led && !es.isEmpty)=true then _ else _) _ _ _;rw[led,Bool.not_true,Bool.false_and,Q7 qo];exact qf (qf q)
   have gofar:∀sl:Nat,es.size=0->SetTable.below t.place sl=0:=λsl h0=>by
    unfold SetTable.below;rw[hpl,h0]
    rfl
   have gone:∀j sl:Nat,t.place=#[j]->SetTable.below t.place sl=if j<sl then 1 else 0:=λj sl e=>by
    rw[e];simp[SetTable.below,SetTable.below.go]
   have old:∀b o,s.heap.get? b=some o->(s.heap.push (dQ (rawInt 0) 0 a es.size ep)).get? b=some o:=λb o e=>qb _ e
   have inn:∀b∈[s.heap.objs.size,a],b<(s.heap.push (dQ (rawInt 0) 0 a es.size ep)).objs.size/\(b=a\/s.heap.get? b=none):=by
    intro b hb;simp only[qA,qW,or_false]at hb;rw[Qm];rcases hb with rfl|rfl
    .exact⟨Qh _,.inr (gP (qg _))⟩
    .exact⟨Qw alt,.inl U⟩
   by_cases h0:es.size=0
   .have e0:es=#[]:=Array.eq_empty_of_size_eq_zero h0;refine h _ _ ⟨⟨[s.heap.objs.size,a],[],λi h'=>h'.get? s.heap.objs.size=some (dQ (.int ((0:Nat):Int) 0) i a es.size ep)/\h'.get? a=some (bc es ep t),by rw[e0];exact .refl _,λA' hh=>?_,⟨qu _ U,old _ _ hs⟩,inn,by simp⟩,old,gP (qg _),U,U,U⟩;refine⟨λb hb=>by simp at hb;simp[hb],λi h1 h2 st k=>⟨k _ (by simp) _ st.1,k _ (by simp) _ st.2⟩,λi s1 Q' E' hi st q=>Qb hi (QE _),λs1 Q' E' st q=>?_,λi s1 Q' E' st q=>kE st.1 q⟩;exact mV (sl:=0) hh st.1 st.2 T.fit U (λQ2 E2 q2=>nx _ _ _ _ _ _ st.2 (by rw[gofar 0 h0,e0];exact q2)) λh' g=>q h' s1.toks λb o hb e=>g b o (by simpa using hb) e
   .have h1:es.size=1:=by omega
    obtain⟨x,ex⟩:∃x,es=#[x]:=⟨es[0],by
     refine Array.ext (by simpa using h1) λi hi hj=>?_;have:i=0:=by simp at hj;exact hj
     subst this
     rfl⟩
    obtain⟨j,ej⟩:∃j,t.place=#[j]:=⟨t.place[0]'(by rw[hpl,h1];decide),by
     refine Array.ext (by simp[hpl,h1]) λi hi hj=>?_;have:i=0:=by simp at hj;exact hj
     subst this
     rfl⟩
    refine h _ _ ⟨⟨[s.heap.objs.size,a],[x.2],λi h'=>h'.get? s.heap.objs.size=some (dQ (.int ((if i=0 then 0 else j+1:Nat):Int) 0) i a es.size ep)/\h'.get? a=some (bc es ep t),by rw[ex];exact .refl _,λA' hh=>?_,⟨qu _ U,old _ _ hs⟩,inn,by simp⟩,old,gP (qg _),U,U,U⟩;refine⟨λb hb=>by simp at hb;simp[hb],λi h1 h2 st k=>⟨k _ (by simp) _ st.1,k _ (by simp) _ st.2⟩,λi s1 Q' E' hi st q=>?_,λs1 Q' E' st q=>?_,λi s1 Q' E' st q=>kE st.1 q⟩
    .obtain rfl:i=0:=by simp at hi;exact hi
     refine uV (sl:=0) (sl':=j+1) (x:=x.2) st.1 st.2 T.fit U (λQ2 E2 q2=>nx _ _ _ _ _ _ st.2 ?_) λh' g1 g2=>q _ h' s1.toks U ⟨g1,?_⟩ λb o hb e=>?_
     .rw[gone j 0 ej,ej,ex];exact q2
     .rw[g2.2 _ nI];exact st.2
     .rw[g2.2 _ (by simpa using hb)];exact e
    .refine mV (sl:=j+1) hh st.1 st.2 T.fit U (λQ2 E2 q2=>nx _ _ _ _ _ _ st.2 ?_) λh' g=>q h' s1.toks λb o hb e=>g b o (by simpa using hb) e;rw[gone j (j+1) ej,Q8 (Qh j),ej,ex];exact q2
end
section
variable {P:Program}{w:World}{A:Around}{E:Yq}{s:Shared}
theorem Aj:typeLookup (.type "set") "__len__"=pure (some (.builtin "set.__len__")):=by rw[typeLookup_type,builtinLookup_eq_fast];kernel_rfl
theorem kH:isSubtype (.type "set") (.type "set")=pure true:=by rw[isSubtype_type];kernel_rfl
theorem EV{a:Addr}{es:Array (Int×Value)}{ep:Nat}{t:SetTable}{ys:List Str}{Q:List Value->Shared->Prop}(hh:A.handled=none)(hs:s.heap.get? a=some (bc es ep t))(T:bQ P w es t ys)
 (h:∀s' vs,vs.Perm (es.toList.map (·.2))->(∀b o,s.heap.get? b=some o->s'.heap.get? b=some o)->s'.gens=s.gens->s'.os=s.os->s.heap.objs.size<s'.heap.objs.size->Q vs s'):wpAny (model P w) A (collect (.ref a)) Q E s:=by
 unfold collect;refine q9 (wpAny_runValue (codeAny_builtin F.entry_proto_collect ?_));rw[Around.under_plainId F.plain_proto_collect _];show wpAny _ A.in1 (newList [] >>= λl=>again (.builtin "list.__iadd__" ⟨[l,.ref a],[]⟩)) _ _ s;refine q9 (wpAny_newObj_type ?_);refine qf ⟨plainId_quiet F.plain_list_iadd _,codeAny_builtin F.entry_list_iadd ?_⟩;rw[Around.under_plainId F.plain_list_iadd _];have alt:a<s.heap.objs.size:=qv hs;have hs1:(s.heap.push { cls:=.type "list",data:=.seq ([]:List Value).toArray }).get? a=some (bc es ep t):=qb _ hs;show wpAny _ A.in1 (Builtin.List.listExtendWith (.ref s.heap.objs.size) (.ref a) (.ref s.heap.objs.size)) _ _ _;unfold Builtin.List.listExtendWith;refine q9 (wpAny_typeOf (T:="set") ⟨_,hs1,U⟩ ?_)
 have h1:Builtin.List.listSameRef (.ref s.heap.objs.size) (.ref a)=false:=by
  simp only[Builtin.List.listSameRef,beq_eq_false_iff_ne];exact Nat.ne_of_gt alt
 rw[Q7 (by rw[h1];decide)];refine q9 (DR (A:=A.in1) (s:={ s with heap:=s.heap.push { cls:=.type "list",data:=.seq ([]:List Value).toArray } }) hs1 T λs2 I W=>?_);obtain⟨⟨fp,vs,St,hp,wk,st0,hfp,hI⟩,old,new,eg,eo,et⟩:=W;have hs2:=old _ _ hs1;have l2:=old _ _ (show(s.heap.push { cls:=.type "list",data:=.seq ([]:List Value).toArray }).get? s.heap.objs.size=some { cls:=.type "list",data:=.seq ([]:List Value).toArray }from qu _ U);refine q9 (QB ?_);unfold Builtin.List.listLengthHint;refine q9 (wpAny_specialOf (T:="set") ⟨_,hs2,U⟩ Aj ?_);have ty2:s2.TypeIs (.ref a) "set":=⟨_,hs2,U⟩
 (generalize hid:("set.__len__":String)=id0;(fail_if_success (clear hid id0));wp_delta;rw[show splitId id0=some ("set","__len__")from by subst hid;decide +kernel];subst hid)
 refine q9 (wpAny_isInstance (b:=true) ty2 kH ?_);rw[Q7 Yk];show wpAny _ _ (if _=true then _ else _) _ _ _;rw[Q8 Yk];refine q9 (wpAny_typeOf ty2 ?_);refine qf ?_;rw[Q8 Yk];refine q9 (wpAny_rule ?_);refine q9 ?_;show wpAny _ A.in1 (updateSeq s.heap.objs.size (·.push .none) >>= λ_=>updateSeq s.heap.objs.size (·.pop)) _ _ _;refine q9 (wpAny_updateSeq l2 U ?_);have l3:=Qn (Obj.mapSeq (·.push Value.none)) l2 U;refine wpAny_updateSeq l3 U ?_;have l4:=Qn (Obj.mapSeq (·.pop)) l3 U
 have oth:∀b o,b≠s.heap.objs.size->s2.heap.get? b=some o->((s2.heap.update s.heap.objs.size (Obj.mapSeq (·.push Value.none))).update s.heap.objs.size (Obj.mapSeq (·.pop))).get? b=some o:=λb o hb e=>
  (Qz _ _ (Ne.symm hb)).trans ((Qz _ _ (Ne.symm hb)).trans e)
 have notin:s.heap.objs.size∉fp:=λhm=>by
  rcases(hfp _ hm).2 with z|z
  .exact Qi _ (z▸alt)
  .rw[show({ s with heap:=s.heap.push { cls:=.type "list",data:=.seq ([]:List Value).toArray } }:Shared).heap.get? s.heap.objs.size=some { cls:=.type "list",data:=.seq ([]:List Value).toArray }from qu _ U]at z;cases z
 have hn:vs.length<=sizeLine:=by rw[hp.length_eq,qa,qS];exact fits_of_scanBound T.few
 have W:=(wk A.in1 (by simp[hh])).toS
 refine qf ⟨plainId_quiet F.plain_extend_loop _,codeAny_extend_loopS W hn _ notin _ vs.length 0 _ _ _ U (qz _)
  (W.frame 0 s2 _ s2.toks st0 (qg _) λb hb o e=>oth b o (λz=>notin (z▸hb)) e) l4 (ItemsOf.nil _) λs' acc c' hm hS' hacc=>?_⟩
 show wpAny _ A (load s.heap.objs.size >>= _) _ _ s';refine q9 (wpAny_load hS' (qf ?_))
 have ea:acc.toList=vs:=by
  refine List.ext_getElem? λi=>?_;rw[qZ];by_cases hi:i<acc.size
  .rw[Array.getElem?_eq_getElem hi];exact(hacc.2 i _ (Array.getElem?_eq_getElem hi)).symm
  .rw[Array.getElem?_eq_none (Nat.not_lt.mp hi),Qv (by have:=hacc.1;omega)]
 rw[ea];refine h s' vs hp (λb o e=>?_) (hm.gens.trans eg) (hm.os.trans eo) (qv hS');have lb:b≠s.heap.objs.size:=λz=>by rw[z]at e;exact Qi _ (qv e)
 have bI:b≠I:=λz=>by
  rw[z]at e;have e2:(s.heap.push { cls:=.type "list",data:=.seq ([]:List Value).toArray }).get? I=some o:=qb _ e;exact Qb (e2.symm.trans new) (by simp)
 exact hm.heap b o (by simp[lb,bI]) (oth b o lb (old b o (qb _ e)))
theorem zO{a:Addr}{es:Array (Int×Value)}{ep:Nat}{t:SetTable}{ys:List Str}{Q:Yq}(hh:A.handled=none)(hs:s.heap.get? a=some (bc es ep t))(T:bQ P w es t ys)(few:es.size<64)
 (h:∀s' l n (zs:List Str) (out:List Value),s.heap.objs.size<=l->s'.heap.get? l=some { cls:=.type "list",data:=.seq out.toArray n }->PyProof.Rows.StrsAre out zs->zs.Nodup->(∀k,k∈zs↔k∈ys)->PyProof.Rows.sortedS zs=true->zs.length=es.size->
  (∀b o,s.heap.get? b=some o->s'.heap.get? b=some o)->s'.gens=s.gens->s'.os=s.os->Q (.ref l) s'):wpAny (model P w) A (call (.builtin "sorted") [.ref a]) Q E s:=by
 refine Calls.call_function_entry PyProof.Rows.kind_sorted PyProof.Rows.plain_sorted PyProof.Rows.entry_sorted (PyProof.Rows.args_sorted1 _) ?_;unfold Builtin.«sorted»;refine q9 (m:=checkCount "sorted" 1 1 _) (qf ?_);refine q9 (EV (A:=A.in1) (by simpa using hh) hs T λs1 vs hp old eg eo lt1=>?_)
 have str:∀us:List Value,(∀v∈us,∃k tk,v=Value.str k tk)->PyProof.Rows.StrsAre us (us.map txt):=by
  intro us
  induction us with
  |nil=>intro _;exact .nil
  |cons v r ih=>
   intro hv;obtain⟨k,tk,rfl⟩:=hv _ qt;exact .cons k tk (ih λu hu=>hv u (qq _ hu))
 have all:∀v∈vs,∃k tk,v=Value.str k tk:=λv hv=>by
  obtain⟨e,he,rfl⟩:=List.mem_map.mp (hp.mem_iff.mp hv);obtain⟨⟨k,hk,_⟩,_⟩:=T.el e he;obtain⟨tk,e2⟩:=Value.isStrOf_shape hk;exact⟨k,tk,e2⟩
 have hS:=str vs all;have len:vs.length=es.size:=by rw[hp.length_eq,qa,qS]
 refine q9 (wpAny_newList ?_ (by rw[len];exact fits_of_scanBound T.few));have ho:(s1.heap.push { cls:=.type "list",data:=.seq vs.toArray }).get? s1.heap.objs.size=some (PyProof.Rows.seqObj "list" vs.toArray 0):=qu _ U;refine q9 (QB (Qp PyProof.Rows.slot_list_sort ⟨_,ho,U⟩ PyProof.Rows.entry_list_sort (PyProof.Rows.list_sort_treeK PyProof.Rows.strKind_oneLt ho hS.keysOf (λv1 v2 rest e=>PyProof.Rows.keyKind_strs (by rw[<- e];exact hS)) Yo λst' a1 a2=>⟨_,U,?_⟩) (PyProof.Rows.args_list_sort _)));obtain⟨zs,h1,h2,h3⟩:=PyProof.Rows.sorted_out_str hS a1 a2;obtain⟨n,at1⟩:=PyProof.Rows.sortedHeap_at (out:=(PyProof.Rows.arrOf st').map (·.2)) ho
 have pz:zs.Perm (es.toList.map λe=>txt e.2):=by
  refine h2.trans ((hp.map txt).trans ?_);rw[List.map_map];exact .refl _
 refine qf ⟨_,U,h _ s1.heap.objs.size n zs ((PyProof.Rows.arrOf st').map (·.2)).toList (Nat.le_of_lt lt1) ?_ h1 (pz.nodup_iff.mpr T.nd) (λk=>(pz.mem_iff).trans (T.mem k)) h3 (by rw[pz.length_eq,qa,qS]) (λb o e=>?_) eg eo⟩
 .exact at1
 .have e1:=old b o e;have lt:=qv e1;have e2:=(PyProof.Rows.sortedHeap_old (h:=s1.heap.push { cls:=.type "list",data:=.seq vs.toArray }) (a:=s1.heap.objs.size) (vs:=vs) (out:=(PyProof.Rows.arrOf st').map (·.2)) (qM lt) (by rw[Qm];exact Qw lt));exact e2.trans (qb _ e1)
end
section
variable {P:Program}{w:World}{A:Around}{E:Yq}{s:Shared}
noncomputable def cT(w:World):Obj:=bc #[] 0 (.fresh 0 0 (!w.params.followText "set-order"))
theorem D9(v:Value){Q1:Yq}(h:Q1 (.ref s.heap.objs.size) { s with heap:=s.heap.push (cT w) }):
 codeAny (model P w) A (.call (.builtin "set.__new__") ⟨[.type "set",v],[]⟩) (wants Q1 E) s:=by
 refine codeAny_of_tree ?_;show wpAny _ A.in1 (do checkBuiltinCall "set.__new__" ⟨[.type "set",v],[]⟩;again (.builtin "set.__new__" ⟨[.type "set",v],[]⟩)) _ _ s;have en:=F.entry_set_new;have pl:=F.plain_set_new;refine q9 (wpAny_of_eq (F.newCall_set_1 v) (qf ⟨plainId_quiet pl _,codeAny_builtin en ?_⟩));rw[Around.under_plainId pl _];unfold Builtin.«set.__new__» Builtin.Frozenset.newClass;have sub:=sub_set_self;obtain⟨hp,g,d,tk,os⟩:=s;dsimp only
 wp_walk
 refine wpAny_askSetting (qf ?_);dsimp only;simp only[newObj];refine q9 (wpAny_alloc (qf ?_));exact qf h
theorem tG:∀{vs:List Value}{zs:List Str},PyProof.Rows.StrsAre vs zs->zs.length=vs.length
 |_,_,.nil=>rfl
 |_,_,.cons _ _ r=>by rw[qH,qH,tG r]
theorem tH:∀{vs:List Value}{zs:List Str},PyProof.Rows.StrsAre vs zs->∀(i:Nat)(v:Value),vs[i]?=some v->∃k t,zs[i]?=some k/\v=.str k t
 |_,_,.nil,i,v,h=>by simp at h
 |_,_,.cons x t r,0,v,h=>by simp at h;exact⟨x,t,U,h.symm⟩
 |_,_,.cons x t r,i+1,v,h=>by
  simp only[List.getElem?_cons_succ]at h ⊢;exact tH r i v h
theorem tq:bQ P w #[] (.fresh 0 0 (!w.params.followText "set-order")) []:=
 { el:=(λe he=>by cases he),nd:=List.nodup_nil,mem:=λ_=>Iff.rfl,few:=(by unfold scanBound;decide),fit:=U,led:=U,pl:=λz=>Qb z (Qi 0) }
set_option maxHeartbeats 3200000 in
theorem Fd{l:Addr}{items:Array Value}{zs:List Str}{Q:Yq}(hh:A.handled=none)(hl:s.heap.IsList l items)(hi:PyProof.Rows.StrsAre items.toList zs)(hb:items.size+1<scanBound)
 (h:∀(h':Heap)(tk:Nat) es ep t,h'.get? s.heap.objs.size=some (bc es ep t)->bQ P w es t zs->
  (∀b o,b<s.heap.objs.size->s.heap.get? b=some o->h'.get? b=some o)->Q (.ref s.heap.objs.size) { s with heap:=h',toks:=tk }):
 wpAny (model P w) A (call (.type "set") [.ref l]) Q E s:=by
 obtain⟨c,tl,hmro⟩:=F.called_set.mro;have hmade:=F.called_set.made;have hsub:=F.called_set.sub;refine wpAny_call (codeAny_of_tree ?_);show wpAny _ _ (callAny (.type "set") _) _ _ _;refine qf ⟨Code.quiet_builtin _ Yd,codeAny_builtin F.entry_type_call ?_⟩;rw[Around.under_plain (weight_type_call_type "set" [.ref l] []) U];have h1:=F.called_set.notType;have h2:=F.called_set.canCreate;have hct:=F.typeCall_set_1 (.ref l)
 repeat (any_goals (first|assumption|wp_step))
 refine codeAny_mono (D9 (P:=P) (w:=w) (E:=E) (s:=s) (.ref l) (Q1:=λob s1=>ob=.ref s.heap.objs.size/\s1={ s with heap:=s.heap.push (cT w) }) ⟨U,U⟩) λr s1 hr=>?_
 cases r with
 |error e=>exact hr
 |ok fl=>
  cases fl with
  |ret ob=>
   obtain⟨rfl,rfl⟩:=hr;have hS:(s.heap.push (cT w)).get? s.heap.objs.size=some (cT w):=qu _ U;have hT:Shared.TypeIs { s with heap:=s.heap.push (cT w) } (.ref s.heap.objs.size) "set":=⟨_,hS,U⟩;have hli:=F.called_set.init.lookup;have hbi:=F.called_set.init.bind (.ref s.heap.objs.size)
   repeat (any_goals (first|assumption|wp_step))
   refine codeAny_mono (codeAny_call_builtin (R:=wants (λr s2=>r=.none/\∃h' tk,s2={ s with heap:=h',toks:=tk }/\(∃es ep t,h'.get? s.heap.objs.size=some (bc es ep t)/\bQ P w es t zs) /\
    (∀b o,b<s.heap.objs.size->s.heap.get? b=some o->h'.get? b=some o)) E) F.called_set.init.plain F.entry_set_init (check_set_init_1 hT ?_)) λr2 s2 hr2=>?_
   .obtain⟨ol,hol,hcl,nl,hdl⟩:=hl;obtain⟨ocls,odict,odata,oslots⟩:=ol;simp only at hcl hdl;subst hcl hdl;have hol':(s.heap.push (cT w)).get? l=some { cls:=.type "list",dict:=odict,data:=.seq items nl,slots:=oslots }:=qb _ hol;have k1:=F.sub_list_set;have k2:=F.sub_list_frozenset;have k3:(Value.type "list" == Value.type "dict")=false:=Yk;have hl1:(s.heap.push (cT w)).IsList l items:=⟨_,hol',U,nl,U⟩;unfold Builtin.«set.__init__» noKeywords Builtin.Frozenset.updateFrom;generalize hPI:pyIter=PI
    wp_walk
    subst hPI;refine wpAny_pyIter_list hl1 ?_;refine q9 (wpAny_runValue ?_);have lS:l<s.heap.objs.size:=qv hol;have hh3:A.in1.in1.in1.handled=none:=by simp[hh]
    have neI:l≠(s.heap.push (cT w)).objs.size:=by rw[Qm];exact qM (Qw lS)
    have nin:s.heap.objs.size∉[(s.heap.push (cT w)).objs.size,l]:=by
     rw[Qm];simp only[qA,qW,or_false,not_or];exact⟨qM (Qh _),Nat.ne_of_gt lS⟩
    have hz:∀(i:Nat)(v:Value),items[i]?=some v->∃k t,zs[i]?=some k/\v=.str k t:=λi v hv=>tH hi i v (by rw[qZ];exact hv);have lz:zs.length=items.size:=by rw[<- qS];exact tG hi
    refine El ((Walks.list hh3 _ l neI items).toS) s.heap.objs.size nin zs hz hb (items.size-0) 0 _ Yo (qz _) ⟨⟨_,qu _ U,U,U⟩,(hl1.push _)⟩ ⟨#[],0,_,qb _ hS,tq,qg _⟩ λs' hm hS'=>?_;obtain⟨es,ep,t,g1,g2,_⟩:=hS';obtain⟨h',g',d',tk',os'⟩:=s';have eg:g'=s.gens:=hm.gens;have ed:d'=s.drawn:=hm.drawn;have eo:os'=s.os:=hm.os;subst eg ed eo;refine qf ?_;rw[<- lz,qN]at g2;refine qf ⟨U,h',tk',U,⟨es,ep,t,g1,g2⟩,λb o hb e=>?_⟩;have n1:b≠s.heap.objs.size:=qM hb;have n2:b≠(s.heap.push (cT w)).objs.size:=by rw[Qm];exact qM (Qw hb)
    exact hm.heap b o (by simp only[qA,qW,or_false,not_or];exact⟨n1,n2⟩) (qb _ (qb _ e))
   .cases r2 with
    |error e=>exact hr2
    |ok fl2=>
     cases fl2 with
     |ret r=>
      obtain⟨rfl,h',tk,rfl,⟨es,ep,t,g1,g2⟩,hk⟩:=hr2
      repeat (any_goals (first|assumption|wp_step))
      exact h _ _ _ _ _ g1 g2 hk
     |_=>exact hr2.elim
  |_=>exact hr.elim
end
noncomputable def ee(P:Program)(w:World)(a:Addr)(ys:List Str):HO:=.ext λh=>∃es ep t,h.get? a=some (bc es ep t)/\bQ P w es t ys
theorem ee.ok{P:Program}{w:World}{H:Hp}{h:Heap}{a:Addr}{ys:List Str}{es:Array (Int×Value)}{ep:Nat}{t:SetTable}(e:h.get? a=some (bc es ep t))(T:bQ P w es t ys):bF P w H h a (ee P w a ys):=
 ⟨⟨es,ep,t,e,T⟩,⟨_,e⟩,λh1 h2 ⟨es,ep,t,q,T⟩ k=>⟨es,ep,t,k _ q,T⟩⟩
theorem mH:∀{ys:List Str}{its:List Value},az (ys.map V.str) its->StrsAre its ys
 |[],_,.nil=>.nil
 |y::ys,_,.cons r t=>by
  obtain⟨k,rfl⟩:=r;exact .cons y k (mH t)
theorem pO:∀{ys:List Str}{its:List Value},StrsAre its ys->az (ys.map V.str) its
 |_,_,.nil=>.nil
 |_,_,.cons x t r=>.cons ⟨t,U⟩ (pO r)
theorem iw{zs ds:List Str}(h:zs.Nodup)(k:∀x∈zs,x∈ds):zs.length<=ds.length:=by
 induction zs generalizing ds with
 |nil=>exact qz _
 |cons x r ih=>
  have hx:=k x qt;have h':=List.nodup_cons.mp h;have:=ih (ds:=ds.erase x) h'.2 λy hy=>(List.mem_erase_of_ne (by rintro rfl;exact h'.1 hy)).mpr (k y (qq _ hy));rw[List.length_erase_of_mem hx]at this;have:0<ds.length:=List.length_pos_of_mem hx;simp only[qH];omega
section
variable {X:Cx}
theorem Inv.redrawn{pins:List (Addr×Obj)}{Y:St}{H:Hp}{s s':Shared}(I:Inv X pins Y H { s with heap:=s'.heap })(hg:s'.gens=s.gens)(ho:s'.os=s.os):Inv X pins Y H s':=
 ⟨I.ok,ho.trans I.os,by rw[hg];exact I.bare,I.base,I.loc,I.cell,I.free,I.freeC,I.pin,I.hok,I.len⟩
theorem m8(hc:X.calm=true):cJ X (.type "set") (λxs H Q=>∃p ys,xs=[.ref p]/\SqL X.K H p (ys.map V.str)/\ys.length<4000/\∀l,H l=none->Q (.ref l) (upd H l (ee X.prog X.w l ys))):=by
 intro pins s Y H xs us Q I r h;obtain⟨p,ys,rfl,hq,hz,q⟩:=h;obtain⟨u,rfl,rx⟩:=fV r;cases rx;obtain⟨its,r',pl,_⟩:=I.list hq;have hlen:=r'.length;rw[qa]at hlen;refine Fd (I.ok.hd hc) pl.isList (zs:=ys) (by simpa using mH r') (by simp only[qI];unfold scanBound;omega) λh' tk es ep t e T k=>?_;have kp:∀b o,s.heap.get? b=some o->h'.get? b=some o:=λb o q=>k b o (qv q) q;exact⟨.ref s.heap.objs.size,_,I.laid (t':=tk) kp (qg _) (ee.ok e T),U,q _ (I.hok.fresh (qg _))⟩
theorem su(hc:X.calm=true):cJ X (.builtin "sorted") (λxs H Q=>∃(p:Addr)(ys ds:List Str),xs=[.ref p]/\H p=some (ee X.prog X.w p ys)/\(∀k∈ys,k∈ds)/\ds.length<64 /\
 ∀l zs,H l=none->zs.Nodup->(∀k,k∈zs↔k∈ys)->sortedS zs=true->Q (.ref l) (upd H l (.lst (zs.map V.str)))):=by
 intro pins s Y H xs us Q I r h;obtain⟨p,ys,ds,rfl,hq,hd,h64,q⟩:=h;obtain⟨u,rfl,rx⟩:=fV r;cases rx;obtain⟨⟨es,ep,t,e,T⟩,_,_⟩:=I.hok p _ hq
 have few:es.size<64:=by
  have:=iw T.nd λx hx=>hd x ((T.mem x).mp hx);rw[qa,qS]at this;omega
 refine zO (I.ok.hd hc) e T few λs' l n zs out hl ho hS nd hm so hzl kp hg hos=>?_;have lz:zs.length<=sizeLine:=by rw[hzl];exact fits_of_scanBound T.few
 have J:=I.laid (t':=s.toks) (h':=s'.heap) (a:=l) (o:=.lst (zs.map V.str)) kp hl ⟨by rw[qa];exact lz,out,n,pO hS,ho⟩;exact⟨.ref l,_,Inv.redrawn (s:=s) J hg hos,U,q l zs (I.hok.fresh hl) nd hm so⟩
end
theorem Dq:typeLookup (.type "list_reverseiterator") "__len__"=pure none:=by rw[typeLookup_type,builtinLookup_eq_fast];kernel_rfl
theorem Dr:typeLookup (.type "list_reverseiterator") "__length_hint__"=pure (some (.builtin "list_reverseiterator.__length_hint__")):=by rw[typeLookup_type,builtinLookup_eq_fast];kernel_rfl
section
variable {P:Program}{w:World}{A:Around}{E:Yq}{s:Shared}
theorem Dv{I l:Addr}{items:Array Value}{Q:Yq}(hh:A.handled=none)(hne:l≠I)(hI:s.heap.IsRevIter I l ((items.size:Int)-1))(hl:s.heap.IsList l items)(hz:items.size<=sizeLine)
 (h:∀h' tk c',(∀b o,b≠I->s.heap.get? b=some o->h'.get? b=some o)->h'.get? s.heap.objs.size=some { cls:=.type "list",data:=.seq items.toList.reverse.toArray c' }->Q (.ref s.heap.objs.size) { s with heap:=h',toks:=tk }):
 wpAny (model P w) A (call (.type "list") [.ref I]) Q E s:=by
 obtain⟨oI,gI,cI,dI⟩:=id hI;obtain⟨oL,gL,_⟩:=id hl;have lI:=qv gI;have lL:=qv gL;refine callType_codes (Q₁:=λob s1=>ob=.ref s.heap.objs.size/\s1={ s with heap:=s.heap.push { cls:=.type "list",data:=.seq #[] } }) F.called_list (F.typeCall_list_1 _) F.entry_list_init (code_list_new _ ⟨U,U⟩) λob s1 h1=>?_;obtain⟨rfl,rfl⟩:=h1;have hS:(s.heap.push { cls:=.type "list",data:=.seq #[] }).get? s.heap.objs.size=some { cls:=.type "list",data:=.seq #[] }:=qu _ U;refine⟨⟨_,hS,U⟩,F.args_list_init_2 _ _,?_⟩;show wpAny _ _ (do let old <- Builtin.List.listItems (.ref s.heap.objs.size);Builtin.List.listUpdate (.ref s.heap.objs.size) (λ_=>#[]);letGo old.toList.reverse;Builtin.List.listExtendWith (.ref s.heap.objs.size) (.ref I) .none) _ _ _;refine q9 ?_;unfold Builtin.List.listItems;refine q9 (QC hS U (qf ?_));refine q9 ?_;show wpAny _ _ (updateSeq s.heap.objs.size (λ_=>#[])) _ _ _;refine wpAny_updateSeq hS U ?_;have hS2:=Qn (Obj.mapSeq (λ_=>(#[]:Array Value))) hS U
 have oth:∀b o,b≠s.heap.objs.size->s.heap.get? b=some o->((s.heap.push { cls:=.type "list",data:=.seq #[] }).update s.heap.objs.size (Obj.mapSeq (λ_=>(#[]:Array Value)))).get? b=some o:=
  λb o hb e=>(Qz _ _ (Ne.symm hb)).trans (qb _ e)
 refine q9 (wpAny_letGo ?_);have nI:I≠s.heap.objs.size:=qM lI;have nL:l≠s.heap.objs.size:=qM lL;have hI2:=hI.at λo e=>oth I o nI e;have hl2:=hl.at λo e=>oth l o nL e;have ty:=hI2.typeIs (s:={ s with heap:=(s.heap.push { cls:=.type "list",data:=.seq #[] }).update s.heap.objs.size (Obj.mapSeq (λ_=>(#[]:Array Value))) });unfold Builtin.List.listExtendWith;refine q9 (wpAny_typeOf ty ?_);have h1:Builtin.List.listSameRef (.ref s.heap.objs.size) (.ref I)=false:=by simp[Builtin.List.listSameRef,Ne.symm nI]
 rw[Q7 (by rw[h1];decide)];refine q9 (wpAny_pyIter_revIter hI2 ?_);refine q9 (QB ?_);unfold Builtin.List.listLengthHint;refine q9 (wpAny_specialOf ty Dq ?_);show wpAny _ _ (specialOf (Value.ref I) (Str.ofString "__length_hint__") >>= _) _ _ _;refine q9 (wpAny_specialOf ty Dr ?_)
 (generalize hid:("list_reverseiterator.__length_hint__":String)=id0;(fail_if_success (clear hid id0));wp_delta;rw[show splitId id0=some ("list_reverseiterator","__length_hint__")from by subst hid;decide +kernel];subst hid)
 refine q9 (wpAny_isInstance (b:=true) ty (by rw[isSubtype_type];kernel_rfl) ?_);refine qf ?_;rw[Q7 Yk];have W:=(Walks.listRev (prog:=P) (w:=w) (A:=A.in1.in1) (by simp[hh]) I l hne items).toS;have notin:s.heap.objs.size∉[I,l]:=by simp[Ne.symm nI,Ne.symm nL]
 refine qf ⟨plainId_quiet F.plain_extend_loop _,codeAny_extend_loopS W hz _ notin _ items.size 0 _ _ _ U (qz _) ⟨qz _,by simpa using hI2,hl2⟩ hS2 (ItemsOf.nil _) λs' acc c' hm hS' hacc=>?_⟩;refine⟨U,?_⟩;obtain⟨h',g',d',tk',os'⟩:=s';have eg:g'=s.gens:=hm.gens;have ed:d'=s.drawn:=hm.drawn;have eo:os'=s.os:=hm.os;subst eg ed eo
 have ea:acc=items.toList.reverse.toArray:=by
  refine Array.ext (by simp[hacc.1]) λi h1 h2=>?_;have q:=hacc.2 i _ (Array.getElem?_eq_getElem h1);change items[items.size-1-i]?=some acc[i]at q;have lt:items.size-1-i<items.size:=by have:=hacc.1;omega
  rw[Array.getElem?_eq_getElem lt]at q;simp only[List.getElem_toArray,List.getElem_reverse,Array.getElem_toList,qS];exact(qP q).symm
 subst ea;refine h h' tk' c' (λb o hb e=>?_) hS'
 .have nb:b≠s.heap.objs.size:=qM (qv e);exact hm.heap b o (by simp[nb,hb]) (oth b o nb e)
end
section
variable {X:Cx}
theorem Dc:MtR X "str.index" (λv xs H Q=>∃(z y:Str)(i:Nat)(r:List Nat),v=.str z/\xs=[.str y]/\Builtin.Str.occurrences z y 0 z.length 1=i::r/\Q (.int (i:Int)) H):=by
 intro pins s Y H x xs v us Q I rx r h;obtain⟨z,y,i,l,rfl,rfl,ho,q⟩:=h;obtain⟨t,rfl⟩:=rx;obtain⟨u,rfl,t',rfl⟩:=fV r;exact call_gives PySem.F.slot_str_index (typeIs_str _ _ _) PySem.F.entry_str_index (PySem.F.args_str_index_2 _ _) (gives_str_index z y t t' i l ho) ⟨.int i,H,I.tok _,⟨_,U⟩,q⟩
theorem az.rev:∀{xs:List V}{us:List Value},az xs us->az xs.reverse us.reverse
 |_,_,.nil=>.nil
 |_,_,.cons r t=>by
  rw[List.reverse_cons,List.reverse_cons];exact az.append (az.rev t) (.cons r .nil)
def zb(K:W.Frag)(te:TE):TE:=λY H Q=>te Y H λx H1=>∃p ys,x=.ref p/\SqL K H1 p ys/\∀l,H1 l=none->Q (.ref l) (upd H1 l (.lst ys.reverse))
theorem BN{e:Expr}{te:TE}{p1 p2 pos1 pos2:Pos}(hc:X.calm=true)(hg:Gl X "list")(hm:X.mg "list"=none)(hg2:Gl X "reversed")(hm2:X.mg "reversed"=none)(he:PE X e te)
 (hs:starEach [e] X.env=[(false,eval e X.env)]:=by rfl) (hs2:starEach [.Call (.Name "reversed" p2) [e] [] pos2] X.env=[(false,eval (.Call (.Name "reversed" p2) [e] [] pos2) X.env)]:=by rfl):
 PE X (.Call (.Name "list" p1) [.Call (.Name "reversed" p2) [e] [] pos2] [] pos1) (zb X.K te):=by
 intro pins s Y H Q I h;refine wpAny_Call_Name_kw (gU I hg hm PyProof.Rows.Boot.«list» ?_);refine PyProof.Rows.callWith_type1 ?_ (by rw[hs2];rfl) U;rw[hs2];show wpAny _ _ (spliced ((false,eval (.Call (.Name "reversed" p2) [e] [] pos2) X.env)::backTo pos1 [])) _ _ s;refine Calls.spliced_cons ?_;refine wpAny_Call_Name_kw (gU I hg2 hm2 PyProof.Rows.Boot.«reversed» ?_);refine PyProof.Rows.callWith_type1 ?_ (by rw[hs];rfl) U;rw[hs];show wpAny _ _ (spliced ((false,eval e X.env)::backTo pos2 [])) _ _ s;refine Calls.spliced_cons (thn (he pins s Y H _ I h) λu s1 ⟨x,H1,I1,r1,q1⟩=>?_);refine Calls.spliced_nil ?_;obtain⟨p,ys,rfl,hq,q⟩:=q1;cases r1;obtain⟨its,rv,pl,hz⟩:=I1.list hq;have hlen:=rv.length;have hl:=pl.isList;obtain⟨oL,gL,_⟩:=id hl;have lp:=qv gL;refine call_reversed_list hl ?_;refine Calls.spliced_nil ?_;have I2:Inv X pins Y H1 { s1 with heap:=s1.heap.push (revObj p ((its.toArray.size:Int)-1)) }:=I1.kept (t':=s1.toks) λb o e=>qb _ e;have hI:(s1.heap.push (revObj p ((its.toArray.size:Int)-1))).IsRevIter s1.heap.objs.size p ((its.toArray.size:Int)-1):=⟨_,qu _ U,U,U⟩;refine Dv (s:={ s1 with heap:=s1.heap.push (revObj p ((its.toArray.size:Int)-1)) }) (I1.ok.hd hc) (qM lp) hI (hl.at λo e=>qb _ e) (by simp only[qI];omega) λh' tk c' kp gl=>?_;have kp1:∀b o,s1.heap.get? b=some o->h'.get? b=some o:=λb o e=>kp b o (qM (qv e)) (qb _ e);have sz:(s1.heap.push (revObj p ((its.toArray.size:Int)-1))).objs.size=s1.heap.objs.size+1:=Qm ..;have J:=I1.laid (t':=tk) (h':=h') (a:=(s1.heap.push (revObj p ((its.toArray.size:Int)-1))).objs.size) (o:=.lst ys.reverse) kp1 (by rw[sz];exact Nat.le_succ _) ⟨by rw[List.length_reverse];exact hz,its.reverse,c',rv.rev,by simpa using gl⟩;exact⟨.ref (s1.heap.push (revObj p ((its.toArray.size:Int)-1))).objs.size,_,J,U,q _ (I1.hok.fresh (by rw[sz];exact Nat.le_succ _))⟩
end
theorem sh{K:W.Frag}{a:Addr}{xs:List V}{g:TG}{tt:TT}{te:TE}{Fin:List V->Hp->Prop}{Y:St}{H:Hp}(Pv:Nat->List V->St->Hp->Prop)(h0:Pv 0 [] Y H)(hz:∀i ys Y H,i<=xs.length->Pv i ys Y H->ys.length<=i)(hx:xs.length<=sizeLine)(hl:∀i ys Y H,Pv i ys Y H->SqT K H a xs)
 (hs:∀i x ys Y H,xs[i]?=some x->Pv i ys Y H->g x Y H λY2 H2=>tt Y2 H2 λb H3=>if b=true then te Y2 H3 λy H4=>Pv (i+1) (ys++[y]) Y2 H4 else Pv (i+1) ys Y2 H3)
 (hd:∀ys Y H,Pv xs.length ys Y H->Fin ys H):∃W:Nat->Nat->List V->St->Hp->Prop,(∃m,W 0 m [] Y H)/\iK (Itt K a) g tt te Fin W:=by
 refine⟨λi m ys Y H=>m=xs.length-i/\i<=xs.length/\Pv i ys Y H,⟨_,U,qz _,h0⟩,?_⟩;rintro i m ys Y H ⟨rfl,hi,p⟩;have few:=hz i ys Y H hi p;have q:=hl i ys Y H p;by_cases lt:i<xs.length
 .refine .inr ⟨⟨xs,xs[i],q,by simp[lt]⟩,Yo,Pv (i+1),λys' Y' H' p'=>⟨_,Yo,U,lt,p'⟩,λv H' y=>?_⟩;obtain⟨e,y⟩:=y;subst e;exact hs i v ys Y _ (y xs q) p
 .obtain rfl:i=xs.length:=by omega
  exact .inl ⟨⟨xs,q,qg _⟩,Yo,hd ys Y H p⟩
theorem aU{b:Bool}{A B:Prop}(h:b=true)(x:A):if b=true then A else B:=by rw[Q8 h];exact x
theorem ay{b:Bool}{A B:Prop}(h:b=false)(x:B):if b=true then A else B:=by rw[Q7 (by rw[h];decide)];exact x
theorem ifE{x y:V}{A B:Prop}(h:x=y)(a:A):if decide (x=y)=true then A else B:=by rw[Q8 (Q9 h)];exact a
theorem ifN{x y:V}{A B:Prop}(h:x≠y)(b:B):if decide (x=y)=true then A else B:=by rw[Q7 (by rw[decide_eq_true_iff];exact h)];exact b
end L2
namespace Tr
open PySem PySem.Spec PyProof.Rows L2
inductive Val
 |num (n:Int)
 |nm (x:Str)
inductive aa
 |set (x:Str) (a:Val) (sg:Str) (b:Val)
 |put (q x:Str)
 |get (q x:Str)
 |give (x:Str)
 |cond (x:Str) (t o:List aa)
 |whl (x:Str) (b:List aa)
 |rep (n:Int) (b:List aa)
noncomputable def Val.names:Val->List Str
 |.num _=>[]
 |.nm x=>[x]
noncomputable def aa.names:aa->List Str
 |.set x a _ b=>x::(a.names++b.names)
 |.put _ x|.get _ x|.give x|.cond x _ _|.whl x _=>[x]
 |.rep _ _=>[]
noncomputable def aa.inner:aa->List (List aa)
 |.cond _ t o=>[t,o]
 |.whl _ b|.rep _ b=>[b]
 |_=>[]
noncomputable def aa.others:aa->List Str
 |.put q _=>[q++(">":Str)]
 |.get q _=>[q++("<":Str)]
 |.give _|.whl _ _=>[(">":Str)]
 |_=>[]
mutual
noncomputable def aa.flat:aa->List aa
 |.cond x t o=>.cond x t o::(aj t++aj o)
 |.whl x b=>.whl x b::aj b
 |.rep n b=>.rep n b::aj b
 |.set x a sg b=>[.set x a sg b]
 |.put q x=>[.put q x]
 |.get q x=>[.get q x]
 |.give x=>[.give x]
noncomputable def aj:List aa->List aa
 |[]=>[]
 |d::r=>d.flat++aj r
end
mutual
noncomputable def aa.depth:aa->Nat
 |.cond _ t o=>max (aP t) (aP o)+1
 |.whl _ b=>aP b+1
 |.rep _ b=>aP b+1
 |_=>0
noncomputable def aP:List aa->Nat
 |[]=>0
 |d::r=>max d.depth (aP r)
end
noncomputable def aa.cards(d:aa):List Str:=d.names++d.others
noncomputable def cards(b:List aa):List Str:=(aj b).flatMap aa.cards
theorem eT:∀(a b:List aa),aj (a++b)=aj a++aj b
 |[],b=>rfl
 |d::a,b=>by rw[Qs,aj,aj,eT a b,qT]
theorem Fa(a b:List aa):cards (a++b)=cards a++cards b:=by unfold cards;rw[eT,Q0]
theorem jS:∀(a b:List aa),aP (a++b)=max (aP a) (aP b)
 |[],b=>by rw[Qr,aP,Nat.zero_max]
 |d::a,b=>by rw[Qs,aP,aP,jS a b,Nat.max_assoc]
theorem j8(d:aa):d.flat=d::d.inner.flatMap aj:=by
 cases d<;>simp[aa.flat,aa.inner]
theorem xX(d:aa):cards [d]=d.cards++d.inner.flatMap cards:=by
 unfold cards;rw[aj,aj,qE,j8,qL]
 congr 1
 rw[List.flatMap_assoc]
inductive Op
 |root
 |ifT (x:Str)
 |ifO (x:Str) (t:List aa)
 |whl (x:Str)
 |rep (n:Int)
structure Fr where
 op:Op
 ds:List aa
 shut:Bool
 times:Int
noncomputable def Fr.deed(f:Fr):aa:=match f.op with
 |.root=>.rep 0 f.ds
 |.ifT x=>.cond x f.ds []
 |.ifO x t=>.cond x t f.ds
 |.whl x=>.whl x f.ds
 |.rep n=>.rep n f.ds
noncomputable def Fr.add(g:Fr)(d:aa):Fr:={ g with ds:=g.ds++[d] }
noncomputable def iB:List Fr->List Fr
 |f::g::r=>g.add f.deed::r
 |st=>st
noncomputable def fb:Nat->List Fr->List aa
 |0,st=>(st.head?.map Fr.ds).getD []
 |n+1,st=>fb n (iB st)
noncomputable def kh(st:List Fr):List aa:=fb (st.length-1) st
noncomputable def Op.extra:Op->List aa
 |.ifO _ t=>t
 |_=>[]
noncomputable def Op.nms:Op->List Str
 |.ifT x|.ifO x _|.whl x=>[x]
 |_=>[]
noncomputable def Op.one:Op->Nat
 |.root=>0
 |_=>1
def eZ(C:List Str):List Fr->Prop
 |[]=>False
 |[f]=>f.op=.root/\(∀k∈cards f.ds,k∈C)/\aP f.ds<=12
 |f::g::r=>f.op≠.root/\(∀k∈f.op.nms,k∈C)/\(∀k∈cards f.ds,k∈C)/\(∀k∈cards f.op.extra,k∈C)/\aP f.ds+(r.length+1)<=12/\aP f.op.extra+(r.length+1)<=12/\eZ C (g::r)
noncomputable def cnt:List Fr->Nat
 |[]=>0
 |f::r=>(aj f.ds).length+(aj f.op.extra).length+f.op.one+cnt r
theorem EF{f:Fr}{C:List Str}(h0:f.op≠.root)(hg:(">":Str)∈C)(h1:∀k∈f.op.nms,k∈C)(h2:∀k∈cards f.ds,k∈C)(h3:∀k∈cards f.op.extra,k∈C):∀k∈cards [f.deed],k∈C:=by
 intro k hk;rw[xX]at hk;unfold Fr.deed at hk
 cases e:f.op with
 |root=>exact Qb e h0
 |ifT x=>
  rw[e]at hk h1 h3;simp only[aa.cards,aa.names,aa.others,aa.inner,qL,List.flatMap_nil,qE,qk,qY]at hk;rcases hk with rfl|hk|hk
  .exact h1 _ (by simp[Op.nms])
  .exact h2 _ hk
  .exact Qb hk (by simp[cards,aj])
 |ifO x t=>
  rw[e]at hk h1 h3;simp only[aa.cards,aa.names,aa.others,aa.inner,qL,List.flatMap_nil,qE,qk,qY]at hk;rcases hk with rfl|hk|hk
  .exact h1 _ (by simp[Op.nms])
  .exact h3 _ hk
  .exact h2 _ hk
 |whl x=>
  rw[e]at hk h1 h3;simp only[aa.cards,aa.names,aa.others,aa.inner,qL,List.flatMap_nil,qE,qk,qY]at hk;rcases hk with(rfl|rfl)|hk
  .exact h1 _ (by simp[Op.nms])
  .exact hg
  .exact h2 _ hk
 |rep n=>
  rw[e]at hk;simp only[aa.cards,aa.names,aa.others,aa.inner,qL,List.flatMap_nil,qE,Qr,qk]at hk;exact h2 _ hk
theorem ED(f:Fr):aP [f.deed]<=max (aP f.ds) (aP f.op.extra)+1:=by
 unfold Fr.deed;cases e:f.op<;>simp only[aP,aa.depth,Op.extra]<;>omega
theorem EE{f:Fr}(h0:f.op≠.root):(aj [f.deed]).length<=(aj f.ds).length+(aj f.op.extra).length+f.op.one:=by
 unfold Fr.deed
 cases e:f.op with
 |root=>exact Qb e h0
 |_=>simp[aj,aa.flat,Op.extra,Op.one]<;>omega
theorem eZ.add{C:List Str}{g:Fr}{r:List Fr}{d:aa}(h:eZ C (g::r))(h1:∀k∈cards [d],k∈C)(h2:aP [d]+r.length<=12):eZ C (g.add d::r):=by
 have hc:(∀k∈cards g.ds,k∈C)->∀k∈cards (g.add d).ds,k∈C:=λz k hk=>by
  unfold Fr.add at hk;rw[Fa,qk]at hk;exact hk.elim (z k) (h1 k)
 have hd:aP (g.add d).ds=max (aP g.ds) (aP [d]):=by unfold Fr.add;rw[jS]
 cases r with
 |nil=>exact⟨h.1,hc h.2.1,by rw[hd];have:=h.2.2;simp at h2;omega⟩
 |cons g' r'=>
  obtain⟨a1,a2,a3,a4,a5,a6,a7⟩:=h;simp only[qH]at h2;exact⟨a1,a2,hc a3,a4,by rw[hd];omega,a6,a7⟩
theorem eZ.close{C:List Str}(hg:(">":Str)∈C){f g:Fr}{r:List Fr}(h:eZ C (f::g::r)):eZ C (iB (f::g::r)):=by
 obtain⟨a1,a2,a3,a4,a5,a6,a7⟩:=h;refine a7.add (EF a1 hg a2 a3 a4) ?_;have:=ED f;omega
theorem xV(g:Fr)(r:List Fr)(d:aa):cnt (g.add d::r)=cnt (g::r)+(aj [d]).length:=by
 simp only[cnt,Fr.add,eT,qc];omega
theorem xU{f g:Fr}{r:List Fr}(h0:f.op≠.root):cnt (iB (f::g::r))<=cnt (f::g::r):=by
 show cnt (g.add f.deed::r)<=_;rw[xV];have:=EE h0;simp only[cnt];omega
theorem sU{C:List Str}(hg:(">":Str)∈C):∀(n:Nat)(st:List Fr),st.length=n+1->eZ C st->(∀k∈cards (fb n st),k∈C)/\aP (fb n st)<=12/\(aj (fb n st)).length<=cnt st
 |0,[f],_,h=>⟨h.2.1,h.2.2,by simp[fb,cnt];omega⟩
 |n+1,f::g::r,hl,h=>by
  have:=sU hg n (iB (f::g::r)) (by simp[iB]at hl ⊢;omega) (h.close hg);exact⟨this.1,this.2.1,qF this.2.2 (xU h.1)⟩
noncomputable def aF(c k:Int):Int:=(c % 2147483647 * (48271+1103 * k * k) % 2147483629+k) * (c % 2147483647 * (48271+1103 * k * k) % 2147483629+3 * k) % 2147483587
noncomputable def cP:Str:="abcdefghijklmnopqrstuvwxyz"
noncomputable def jR(n:Int):Nat->Int
 |0=>n
 |i+1=>jR n i / 26
noncomputable def bZ(j:Int):Nat:=cP.cps.toList.getD j.toNat 0
noncomputable def sgn(c:Nat):Str:=⟨#[c]⟩
noncomputable def cE(n:Int):Nat->Str
 |0=>""
 |i+1=>cE n i++sgn (bZ (jR n i % 26))
noncomputable def kws:List Str:=["ask","store","put","get","give","if","else","while","repeat","end"]
noncomputable def ip(w:Str):Int:=((w.cps.toList.getLastD 97:Nat):Int)-97
noncomputable def cM(w:Str):Str:=if w∈kws then Txt.slice w none (some (-1))++sgn (bZ ((ip w+13) % 26))else w
noncomputable def bS(c:Int):Str:=cE (aF c 1 * aF c 1+aF c 1) 8
noncomputable def eP(c k:Int):Str:=sgn (bZ ((aF c 1 / 192+k) % 26))
noncomputable def dv(c:Int):Int:=1+aF c 1 / 3 % 8
noncomputable def cW(c:Int):Int:=aF c 1 / 24 % dv c
noncomputable def bW(c k:Int):Str:=
 if aF c 1 % 3=0 then Txt.slice (bS c) none (some (cW c))++eP c k++Txt.slice (bS c) (some (cW c+1)) (some (dv c))
 else if aF c 1 % 3=1 then Txt.slice (bS c) none (some (1+(aF c 1 / 24+k) % 8))
 else Txt.slice (eP c k++cE (aF c (k+2)) 7) none (some (1+aF c (k+40) % 8))
noncomputable def du(c:Int)(n:Nat):List Str:=(List.range n).map λ(k:Nat)=>cM (bW c k)
noncomputable def d7(c:Int)(n:Nat):List Str:=if aF c 1 / 5000 % 2=1 then(du c n).reverse else du c n
noncomputable def nth(l:List Str)(i:Int):Str:=l.getD (i % l.length).toNat ""
noncomputable def uX(i:Int):Str:=sgn (("+-*/<=&|^":Str).cps.toList.getD (i % 9).toNat 0)
noncomputable def bG(n:Int)(names rooms:List Str)(shut:Bool):aa:=
 if n % 14=6 then .give (nth names (n / 14))
 else if(n % 14=1\/n % 14=2\/n % 14=3\/n % 14=4\/n % 14=12\/n % 14=13)/\0<rooms.length/\shut=false then
  (if n % 14=3\/n % 14=4\/n % 14=13 then .get (nth rooms (n / 14 / 5)) (nth names (n / 14))else .put (nth rooms (n / 14 / 5)) (nth names (n / 14)))
 else .set (nth names (n / 14)) (if n / 14 / 125 % 4=0 then .num (n * n * n * 69621 % 1000000000000000000000000000000)else .nm (nth names (n / 14 / 5)))
  (uX (n / 14 / 1500)) (if n / 14 / 500 % 3=0 then .num (n * n * 48271 % 1000000000000000000000000000000)else .nm (nth names (n / 14 / 25)))
noncomputable def cG(n most times:Int):Int:=if 0<times then n / 70 % (1+most / times)else n / 70 % 100
noncomputable def gm(n:Int)(x:Str)(most:Int)(st:List Fr):List Fr:=match st with
 |[]=>[]
 |g::r=>(if n % 14=7 then⟨.ifT x,[],true,0⟩else if n % 14=8 then⟨.whl x,[],true,0⟩else⟨.rep (cG n most g.times),[],g.shut,g.times * cG n most g.times⟩)::g::r
noncomputable def Op.ifT?:Op->Option Str
 |.ifT x=>some x
 |_=>none
noncomputable def bY(names rooms:List Str)(most low:Int)(st:List Fr)(n:Int):List Fr:=match st with
 |[]=>[]
 |g::r=>
  if low<=n % 14/\n % 14<=9/\r.length+1<=12/\(n % 14<9\/0<most\/g.shut=true)then gm n (nth names (n / 14)) most (g::r)
  else match(if n % 14=10 then g.op.ifT? else none)with
   |some x=>{ g with op:=.ifO x g.ds,ds:=[] }::r
   |none=>if 10<=n % 14/\0<r.length then iB (g::r)else g.add (bG n names rooms g.shut)::r
noncomputable def st0:List Fr:=[⟨.root,[],false,1⟩]
noncomputable def cZ(names rooms:List Str)(most low:Int)(cells:List Int):List Fr:=cells.foldl (λst c=>bY names rooms most low st (aF c 1)) st0
noncomputable def dE(names rooms:List Str)(most low:Int)(cells:List Int):List aa:=kh (cZ names rooms most low cells)
noncomputable def bA(names rooms:List Str):List Str:=names++rooms.map (·++(">":Str))++rooms.map (·++("<":Str))++[(">":Str)]
theorem ii{l:List Str}(h:0<l.length)(i:Int):nth l i∈l:=by
 unfold nth;have h1:0<=i % (l.length:Int):=Qg _ Yo;have h2:i % (l.length:Int)<l.length:=Ql _ Yo;have h3:(i % (l.length:Int)).toNat<l.length:=Yo;rw[qp,qe h3];exact List.getElem_mem h3
theorem Ab{n:Int}{names rooms:List Str}{shut:Bool}(h:0<names.length):∀k∈cards [bG n names rooms shut],k∈bA names rooms:=by
 have hn:∀i,nth names i∈bA names rooms:=λi=>by unfold bA;simp[ii h i]
 have hg:(">":Str)∈bA names rooms:=by unfold bA;simp
 intro k hk;unfold bG at hk;split at hk
 .simp[cards,aj,aa.flat,aa.cards,aa.names,aa.others]at hk;rcases hk with rfl|rfl
  .exact hn _
  .exact hg
 .split at hk
  .rename_i hr;have hm:=ii hr.2.1 (n / 14 / 5);split at hk
   .simp[cards,aj,aa.flat,aa.cards,aa.names,aa.others]at hk;rcases hk with rfl|rfl
    .exact hn _
    .unfold bA;simp only[qk,List.mem_map];exact .inl (.inr ⟨_,hm,U⟩)
   .simp[cards,aj,aa.flat,aa.cards,aa.names,aa.others]at hk;rcases hk with rfl|rfl
    .exact hn _
    .unfold bA;simp only[qk,List.mem_map];exact .inl (.inl (.inr ⟨_,hm,U⟩))
  .simp only[cards,aj,aa.flat,aa.cards,aa.names,aa.others,qE,qL,List.flatMap_nil,qA,qk]at hk;rcases hk with rfl|hk|hk
   .exact hn _
   .split at hk
    .exact Qb hk (by simp[Val.names])
    .simp[Val.names]at hk;subst hk;exact hn _
   .split at hk
    .exact Qb hk (by simp[Val.names])
    .simp[Val.names]at hk;subst hk;exact hn _
theorem Aa(n:Int)(names rooms:List Str)(shut:Bool):aP [bG n names rooms shut]=0/\(aj [bG n names rooms shut]).length=1:=by
 unfold bG;split
 .exact⟨U,U⟩
 .split
  .split<;>exact⟨U,U⟩
  .exact⟨U,U⟩
theorem zF{names rooms:List Str}{most low n:Int}{st:List Fr}(h:0<names.length)(hs:eZ (bA names rooms) st)(hl:st.length<=13):
 eZ (bA names rooms) (bY names rooms most low st n)/\(bY names rooms most low st n).length<=13/\cnt (bY names rooms most low st n)<=cnt st+1:=by
 have hg:(">":Str)∈bA names rooms:=by unfold bA;simp
 have hn:∀i,nth names i∈bA names rooms:=λi=>by unfold bA;simp[ii h i]
 match st,hs,hl with
 |g::r,hs,hl=>
  unfold bY;dsimp only;split
  .rename_i c;unfold gm;dsimp only;have em:cards []=[]:=U;split
   .exact⟨⟨by simp,by simp[Op.nms,hn],by simp[em],by simp[Op.extra,em],by simp[aP];omega,by simp[aP,Op.extra];omega,hs⟩,by simp;omega,by simp[cnt,aj,Op.extra,Op.one];omega⟩
   .split
    .exact⟨⟨by simp,by simp[Op.nms,hn],by simp[em],by simp[Op.extra,em],by simp[aP];omega,by simp[aP,Op.extra];omega,hs⟩,by simp;omega,by simp[cnt,aj,Op.extra,Op.one];omega⟩
    .exact⟨⟨by simp,by simp[Op.nms],by simp[em],by simp[Op.extra,em],by simp[aP];omega,by simp[aP,Op.extra];omega,hs⟩,by simp;omega,by simp[cnt,aj,Op.extra,Op.one];omega⟩
  .split
   .rename_i x hx
    have e:g.op=.ifT x:=by
     split at hx
     .cases e:g.op<;>rw[e]at hx<;>simp[Op.ifT?]at hx;rw[hx]
     .cases hx
    cases r with
    |nil=>have:=hs.1;rw[e]at this;cases this
    |cons g' r'=>
     obtain⟨a1,a2,a3,a4,a5,a6,a7⟩:=hs;rw[e]at a2;refine⟨⟨by simp,by simpa[Op.nms]using a2,by simp[cards,aj],by simpa[Op.extra]using a3,by simp[aP];omega,by simpa[Op.extra]using a5,a7⟩,hl,?_⟩;simp[cnt,e,Op.extra,Op.one,aj]
   .split
    .rename_i c
     cases r with
     |nil=>exact Qb c.2 (by simp)
     |cons g' r'=>exact⟨hs.close hg,by simp[iB]at hl ⊢;omega,qF (xU hs.1) (Nat.le_succ _)⟩
    .have sd:=Aa n names rooms g.shut;refine⟨hs.add (Ab h) (by rw[sd.1];simp at hl;omega),by simpa using hl,?_⟩;rw[xV,sd.2];exact qg _
theorem mP{names rooms:List Str}{most low:Int}(h:0<names.length):∀(cells:List Int)(st:List Fr),eZ (bA names rooms) st->st.length<=13->
 eZ (bA names rooms) (cells.foldl (λst c=>bY names rooms most low st (aF c 1)) st)/\(cells.foldl (λst c=>bY names rooms most low st (aF c 1)) st).length<=13/\cnt (cells.foldl (λst c=>bY names rooms most low st (aF c 1)) st)<=cnt st+cells.length
 |[],st,hs,hl=>⟨hs,hl,qg _⟩
 |c::cs,st,hs,hl=>by
  obtain⟨b1,b2,b3⟩:=zF (most:=most) (low:=low) (n:=aF c 1) h hs hl;obtain⟨c1,c2,c3⟩:=mP h cs _ b1 b2;exact⟨c1,c2,by simp only[QF,qH];omega⟩
theorem Fk{names rooms:List Str}{most low:Int}(h:0<names.length)(cells:List Int):
 (∀k∈cards (dE names rooms most low cells),k∈bA names rooms)/\aP (dE names rooms most low cells)<=12/\(aj (dE names rooms most low cells)).length<=cells.length:=by
 have hg:(">":Str)∈bA names rooms:=by unfold bA;simp
 obtain⟨a1,a2,a3⟩:=mP (rooms:=rooms) (most:=most) (low:=low) h cells st0 ⟨U,by simp[st0,cards,aj],by simp[st0,aP]⟩ (by simp[st0]);have ne:cZ names rooms most low cells≠[]:=λz=>by unfold cZ at z;rw[z]at a1;exact a1
 have hl:(cZ names rooms most low cells).length=((cZ names rooms most low cells).length-1)+1:=by
  have:=List.length_pos_iff.mpr ne;omega
 obtain⟨b1,b2,b3⟩:=sU hg _ _ hl a1;refine⟨b1,b2,qF b3 (qF a3 ?_)⟩;simp[cnt,st0,aj,Op.extra,Op.one]
noncomputable def Val.v:Val->V
 |.num n=>.int n
 |.nm x=>.str x
mutual
inductive RD(H:Hp):V->aa->Prop
 |set {p:Addr}{x:Str}{a:Val}{sg:Str}{b:Val}:H p=some (.tup [.str "set",.str x,a.v,.str sg,b.v])->RD H (.ref p) (.set x a sg b)
 |put {p:Addr}{q x:Str}:H p=some (.tup [.str "put",.str q,.str x])->RD H (.ref p) (.put q x)
 |get {p:Addr}{q x:Str}:H p=some (.tup [.str "get",.str q,.str x])->RD H (.ref p) (.get q x)
 |give {p:Addr}{x:Str}:H p=some (.tup [.str "give",.str x])->RD H (.ref p) (.give x)
 |cond {p t o:Addr}{x:Str}{ts os:List aa}:H p=some (.tup [.str "if",.str x,.ref t,.ref o])->RL H t ts->RL H o os->RD H (.ref p) (.cond x ts os)
 |whl {p b:Addr}{x:Str}{bs:List aa}:H p=some (.tup [.str "while",.str x,.ref b])->RL H b bs->RD H (.ref p) (.whl x bs)
 |rep {p b:Addr}{n:Int}{bs:List aa}:H p=some (.tup [.str "repeat",.int n,.ref b])->RL H b bs->RD H (.ref p) (.rep n bs)
inductive RL(H:Hp):Addr->List aa->Prop
 |mk {l:Addr}{vs:List V}{ds:List aa}:H l=some (.lst vs)->RDs H vs ds->RL H l ds
inductive RDs(H:Hp):List V->List aa->Prop
 |nil:RDs H [] []
 |cons {v:V}{vs:List V}{d:aa}{ds:List aa}:RD H v d->RDs H vs ds->RDs H (v::vs) (d::ds)
end
mutual
theorem RD.same{H H':Hp}(e:a8 H H'):∀{v:V}{d:aa},RD H v d->RD H' v d
 |_,_,.set h=>.set (e _ _ h)
 |_,_,.put h=>.put (e _ _ h)
 |_,_,.get h=>.get (e _ _ h)
 |_,_,.give h=>.give (e _ _ h)
 |_,_,.cond h a b=>.cond (e _ _ h) (RL.same e a) (RL.same e b)
 |_,_,.whl h a=>.whl (e _ _ h) (RL.same e a)
 |_,_,.rep h a=>.rep (e _ _ h) (RL.same e a)
theorem RL.same{H H':Hp}(e:a8 H H'):∀{l:Addr}{ds:List aa},RL H l ds->RL H' l ds
 |_,_,.mk h a=>.mk (e _ _ h) (RDs.same e a)
theorem RDs.same{H H':Hp}(e:a8 H H'):∀{vs:List V}{ds:List aa},RDs H vs ds->RDs H' vs ds
 |_,_,.nil=>.nil
 |_,_,.cons a b=>.cons (RD.same e a) (RDs.same e b)
end
theorem RDs.app{H:Hp}:∀{us vs:List V}{a b:List aa},RDs H us a->RDs H vs b->RDs H (us++vs) (a++b)
 |_,_,_,_,.nil,h=>h
 |_,_,_,_,.cons x r,h=>.cons x (RDs.app r h)
theorem RDs.len{H:Hp}:∀{vs:List V}{ds:List aa},RDs H vs ds->vs.length=ds.length
 |_,_,.nil=>rfl
 |_,_,.cons _ r=>by rw[qH,qH,RDs.len r]
theorem RDs.at{H:Hp}:∀{vs:List V}{ds:List aa},RDs H vs ds->∀(i:Nat)(v:V),vs[i]?=some v->∃d,ds[i]?=some d/\RD H v d
 |_,_,.nil,i,v,h=>by simp at h
 |_,_,.cons x r,0,v,h=>by simp at h;subst h;exact⟨_,U,x⟩
 |_,_,.cons x r,i+1,v,h=>by
  simp only[List.getElem?_cons_succ]at h ⊢;exact RDs.at r i v h
inductive RLs(H:Hp):List Addr->List (List aa)->Prop
 |nil:RLs H [] []
 |cons {l:Addr}{ls:List Addr}{d:List aa}{ds:List (List aa)}:RL H l d->RLs H ls ds->RLs H (l::ls) (d::ds)
theorem RLs.same{H H':Hp}(e:a8 H H'):∀{ls:List Addr}{ds:List (List aa)},RLs H ls ds->RLs H' ls ds
 |_,_,.nil=>.nil
 |_,_,.cons a b=>.cons (RL.same e a) (RLs.same e b)
theorem RLs.len{H:Hp}:∀{ls:List Addr}{ds:List (List aa)},RLs H ls ds->ls.length=ds.length
 |_,_,.nil=>rfl
 |_,_,.cons _ r=>by rw[qH,qH,RLs.len r]
theorem RLs.at{H:Hp}:∀{ls:List Addr}{ds:List (List aa)},RLs H ls ds->∀(i:Nat)(l:Addr),ls[i]?=some l->∃d,ds[i]?=some d/\RL H l d
 |_,_,.nil,i,v,h=>by simp at h
 |_,_,.cons x r,0,v,h=>by simp at h;subst h;exact⟨_,U,x⟩
 |_,_,.cons x r,i+1,v,h=>by
  simp only[List.getElem?_cons_succ]at h ⊢;exact RLs.at r i v h
theorem jv:∀(r:List Str)(x:Str),risingS x r=true->∀y∈r,x.cps.toList<=y.cps.toList
 |[],_,_,_,h=>nomatch h
 |z::r,x,h,y,hy=>by
  have h':(!ltCps z.cps.toList x.cps.toList && risingS z r)=true:=h;rw[Bool.and_eq_true,Bool.not_eq_true',ltCps_eq,decide_eq_false_iff_not]at h';have xz:x.cps.toList<=z.cps.toList:=List.not_lt.mp h'.1;rcases qA.mp hy with rfl|hy
  .exact xz
  .exact List.le_trans xz (jv r z h'.2 y hy)
theorem kU{x:Str}:∀{r:List Str},risingS x r=true->sortedS r=true
 |[],_=>rfl
 |z::r,h=>by
  have h':(!ltCps z.cps.toList x.cps.toList && risingS z r)=true:=h;exact(Bool.and_eq_true_iff.mp h').2
theorem tI{x y:Str}(h:x.cps.toList=y.cps.toList):x=y:=PyProof.Rows.ext_toList h
theorem uT:∀{a b:List Str},a.Nodup->b.Nodup->sortedS a=true->sortedS b=true->(∀k,k∈a↔k∈b)->a=b
 |[],[],_,_,_,_,_=>rfl
 |[],y::s,_,_,_,_,h=>Qb ((h y).mpr qt) (by simp)
 |x::r,[],_,_,_,_,h=>Qb ((h x).mp qt) (by simp)
 |x::r,y::s,ha,hb,sa,sb,h=>by
  have ha':=List.nodup_cons.mp ha;have hb':=List.nodup_cons.mp hb
  have e:x=y:=by
   rcases qA.mp ((h x).mp qt)with e|hx
   .exact e
   rcases qA.mp ((h y).mpr qt)with e|hy
   .exact e.symm
   exact tI (List.le_antisymm (jv r x sa y hy) (jv s y sb x hx))
  subst e;rw[uT ha'.2 hb'.2 (kU sa) (kU sb) λk=>?_];constructor
  .intro hk;rcases qA.mp ((h k).mp (qq _ hk))with e|z
   .subst e;exact Qb hk ha'.1
   .exact z
  .intro hk;rcases qA.mp ((h k).mpr (qq _ hk))with e|z
   .subst e;exact Qb hk hb'.1
   .exact z
end Tr
namespace Tr
open PySem PySem.Spec PyProof.Rows L2
theorem a8.over{H0 H:Hp}{f:Addr}{o:HO}(h:a8 H0 H)(hf:H0 f=none):a8 H0 (upd H f o):=λb u q=>by
 rw[af (cC q hf)];exact h b u q
theorem a8.none{H0 H:Hp}{f:Addr}(h:a8 H0 H)(hf:H f=none):H0 f=none:=by
 cases q:H0 f with
 |none=>rfl
 |some o=>rw[h _ _ q]at hf;cases hf
structure Fz where
 f:Fr
 c:Addr
 p:Addr
 e:Addr
noncomputable def Fz.tupV(x:Fz):List V:=match x.f.op with
 |.root=>[]
 |.ifT n=>[.str "if",.str n,.ref x.c,.ref x.e]
 |.ifO n _=>[.str "if",.str n,.ref x.e,.ref x.c]
 |.whl n=>[.str "while",.str n,.ref x.c]
 |.rep n=>[.str "repeat",.int n,.ref x.c]
noncomputable def Fz.o(x:Fz):V:=match x.f.op with
 |.ifT _=>.ref x.e
 |_=>.non
noncomputable def Fz.muts(x:Fz):List Addr:=match x.f.op with
 |.ifT _=>[x.c,x.e]
 |_=>[x.c]
def Fz.side(x:Fz)(H0 H:Hp):Prop:=match x.f.op with
 |.ifT _=>H x.e=some (.lst [])
 |.ifO _ t=>RL H0 x.e t
 |_=>True
def ZR(H0 H:Hp):List Fz->List V->Prop
 |[],_=>False
 |x::r,tl=>(∃vs,H x.c=some (.lst (vs++tl))/\RDs H0 vs x.f.ds)/\x.side H0 H/\((x.f.op=.root/\r=[])\/(x.f.op≠.root/\H x.p=some (.tup x.tupV)/\ZR H0 H r [.ref x.p]))
theorem Fz.c_mem(x:Fz):x.c∈x.muts:=by unfold Fz.muts;split<;>simp
theorem ZR.frame{H0 H H':Hp}:∀{z:List Fz}{tl:List V},ZR H0 H z tl->(∀m∈z.flatMap Fz.muts,H' m=H m)->(∀p xs,H p=some (.tup xs)->H' p=some (.tup xs))->ZR H0 H' z tl
 |[],_,h,_,_=>h
 |x::r,tl,⟨⟨vs,h1,h2⟩,h3,h4⟩,hm,ht=>by
  have mx:∀m∈x.muts,H' m=H m:=λm hm'=>hm m (by simp[hm']);have mr:∀m∈r.flatMap Fz.muts,H' m=H m:=λm hm'=>hm m (by rw[qL];exact qO _ hm');refine⟨⟨vs,by rw[mx _ x.c_mem];exact h1,h2⟩,?_,?_⟩
  .unfold Fz.side at h3 ⊢;split
   .rename_i e;rw[e]at h3;rw[mx x.e (by unfold Fz.muts;rw[e];simp)];exact h3
   .rename_i e;rw[e]at h3;exact h3
   .trivial
  .rcases h4 with h4|⟨h4,h5,h6⟩
   .exact .inl h4
   .exact .inr ⟨h4,ht _ _ h5,ZR.frame h6 mr ht⟩
theorem ZR.grow{H0 H0' H:Hp}(e:a8 H0 H0'):∀{z:List Fz}{tl:List V},ZR H0 H z tl->ZR H0' H z tl
 |[],_,h=>h
 |x::r,tl,⟨⟨vs,h1,h2⟩,h3,h4⟩=>by
  refine⟨⟨vs,h1,h2.same e⟩,?_,?_⟩
  .unfold Fz.side at h3 ⊢
   revert h3
   cases x.f.op<;>intro h3<;>first|exact h3|exact RL.same e h3
  .rcases h4 with h4|⟨h4,h5,h6⟩
   .exact .inl h4
   .exact .inr ⟨h4,h5,ZR.grow e h6⟩
noncomputable def wh:List Fr->List aa->List aa
 |[],_=>[]
 |[f],dt=>f.ds++dt
 |f::g::r,dt=>wh (g::r) [({ f with ds:=f.ds++dt }:Fr).deed]
theorem yD:∀(r:List Fr)(g:Fr)(d:aa),wh (g.add d::r) []=wh (g::r) [d]
 |[],g,d=>by simp[wh,Fr.add]
 |g'::r,g,d=>by simp[wh,Fr.add]
theorem ki:∀(n:Nat)(st:List Fr),st.length=n+1->fb n st=wh st []
 |0,[f],_=>by simp[fb,wh]
 |n+1,f::g::r,h=>by
  have e:fb (n+1) (f::g::r)=fb n (g.add f.deed::r):=U;rw[e,ki n (g.add f.deed::r) (by simp at h ⊢;omega),yD,wh,qE]
noncomputable def jV:List Fz->Addr
 |[]=>0
 |[x]=>x.c
 |_::y::r=>jV (y::r)
theorem ZR.whole{H0 H:Hp}(e:a8 H0 H):∀{z:List Fz}{tl:List V}{dt:List aa},ZR H0 H z tl->RDs H tl dt->RL H (jV z) (wh (z.map (·.f)) dt)
 |[],_,_,h,_=>h.elim
 |[x],tl,dt,⟨⟨vs,h1,h2⟩,_,_⟩,ht=>.mk h1 ((h2.same e).app ht)
 |x::y::r,tl,dt,⟨⟨vs,h1,h2⟩,h3,h4⟩,ht=>by
  rcases h4 with⟨_,h4⟩|⟨h4,h5,h6⟩
  .cases h4
  refine ZR.whole (z:=y::r) e h6 (.cons ?_ .nil);have hl:RL H x.c (x.f.ds++dt):=.mk h1 ((h2.same e).app ht);unfold Fz.tupV at h5;unfold Fz.side at h3;unfold Fr.deed
  cases q:x.f.op with
  |root=>exact Qb q h4
  |ifT n=>
   rw[q]at h5 h3;exact .cond h5 hl (.mk h3 .nil)
  |ifO n t=>
   rw[q]at h5 h3;exact .cond h5 (RL.same e h3) hl
  |whl n=>
   rw[q]at h5;exact .whl h5 hl
  |rep n=>
   rw[q]at h5;exact .rep h5 hl
noncomputable def bp(S s0 s1 s2 s3:Addr)(z:List Fz):List Addr:=S::s0::s1::s2::s3::z.flatMap Fz.muts
structure ZI(Hb H0 H:Hp)(S s0 s1 s2 s3:Addr)(z:List Fz):Prop where
 hb:a8 Hb H0
 h0:a8 H0 H
 fz:∀m∈bp S s0 s1 s2 s3 z,H0 m=none
 nd:(bp S s0 s1 s2 s3 z).Nodup
 cS:H S=some (.lst [.ref s0,.ref s1,.ref s2,.ref s3])
 c0:H s0=some (.lst ((z.map λx=>V.ref x.c).reverse))
 c1:H s1=some (.lst ((z.map Fz.o).reverse))
 c2:H s2=some (.lst ((z.map λx=>V.bl x.f.shut).reverse))
 c3:H s3=some (.lst ((z.map λx=>V.int x.f.times).reverse))
 zr:ZR H0 H z []
section
variable {Hb H0 H H1:Hp}{S s0 s1 s2 s3:Addr}{z:List Fz}
theorem ZI.hbH(Z:ZI Hb H0 H S s0 s1 s2 s3 z):a8 Hb H:=Z.hb.trans Z.h0
theorem ZI.top(Z:ZI Hb H0 H S s0 s1 s2 s3 z):∃x r vs,z=x::r/\H x.c=some (.lst vs)/\RDs H0 vs x.f.ds:=by
 have:=Z.zr
 match z,this with
 |x::r,⟨⟨vs,h1,h2⟩,_⟩=>exact⟨x,r,vs,U,by simpa using h1,h2⟩
theorem ZR.lsts{tl:List V}:∀{z:List Fz},ZR H0 H z tl->∀m∈z.flatMap Fz.muts,∃vs,H m=some (.lst vs):=by
 intro z
 induction z generalizing tl with
 |nil=>intro h;exact h.elim
 |cons x r ih=>
  rintro⟨⟨vs,h1,_⟩,h3,h4⟩ m hm;rw[qL]at hm;rcases qk.mp hm with hm|hm
  .unfold Fz.muts at hm;unfold Fz.side at h3;split at hm<;>rename_i q
   .rw[q]at h3;simp at hm;rcases hm with rfl|rfl
    .exact⟨_,h1⟩
    .exact⟨_,h3⟩
   .simp at hm;subst hm;exact⟨_,h1⟩
  .rcases h4 with⟨_,h4⟩|⟨_,_,h6⟩
   .subst h4;simp at hm
   .exact ih h6 m hm
theorem ZI.lsts(Z:ZI Hb H0 H S s0 s1 s2 s3 z):∀m∈bp S s0 s1 s2 s3 z,∃vs,H m=some (.lst vs):=by
 intro m hm;unfold bp at hm;simp only[qA]at hm;rcases hm with rfl|rfl|rfl|rfl|rfl|hm
 .exact⟨_,Z.cS⟩
 .exact⟨_,Z.c0⟩
 .exact⟨_,Z.c1⟩
 .exact⟨_,Z.c2⟩
 .exact⟨_,Z.c3⟩
 .exact Z.zr.lsts m hm
theorem ZI.same(Z:ZI Hb H0 H S s0 s1 s2 s3 z)(e:a8 H H1):ZI Hb H0 H1 S s0 s1 s2 s3 z where
 hb:=Z.hb
 h0:=Z.h0.trans e
 fz:=Z.fz
 nd:=Z.nd
 cS:=e _ _ Z.cS
 c0:=e _ _ Z.c0
 c1:=e _ _ Z.c1
 c2:=e _ _ Z.c2
 c3:=e _ _ Z.c3
 zr:=Z.zr.frame (λm hm=>by obtain⟨vs,h⟩:=Z.zr.lsts m hm;rw[h];exact e _ _ h) λp xs h=>e _ _ h
end
section
variable {Hb H0 H H1:Hp}{S s0 s1 s2 s3:Addr}{z:List Fz}
theorem ZI.ne(Z:ZI Hb H0 H S s0 s1 s2 s3 z){m:Addr}(hm:m∈z.flatMap Fz.muts):S≠m/\s0≠m/\s1≠m/\s2≠m/\s3≠m:=by
 have nd:=Z.nd;unfold bp at nd;simp only[List.nodup_cons,qA,not_or]at nd;obtain⟨⟨_,_,_,_,n0⟩,⟨_,_,_,n1⟩,⟨_,_,n2⟩,⟨_,n3⟩,n4,_⟩:=nd;exact⟨(λe=>n0 (e▸hm)),(λe=>n1 (e▸hm)),(λe=>n2 (e▸hm)),(λe=>n3 (e▸hm)),(λe=>n4 (e▸hm))⟩
theorem ZI.ss(Z:ZI Hb H0 H S s0 s1 s2 s3 z):S≠s0/\S≠s1/\S≠s2/\S≠s3/\s0≠s1/\s0≠s2/\s0≠s3/\s1≠s2/\s1≠s3/\s2≠s3:=by
 have nd:=Z.nd;unfold bp at nd;simp only[List.nodup_cons,qA,not_or]at nd;obtain⟨⟨a1,a2,a3,a4,_⟩,⟨b1,b2,b3,_⟩,⟨c1,c2,_⟩,⟨d1,_⟩,_⟩:=nd;exact⟨a1,a2,a3,a4,b1,b2,b3,c1,c2,d1⟩
theorem ZI.ndz(Z:ZI Hb H0 H S s0 s1 s2 s3 z):(z.flatMap Fz.muts).Nodup:=by
 have nd:=Z.nd;unfold bp at nd;simp only[List.nodup_cons]at nd;exact nd.2.2.2.2.2
theorem ZI.fzz(Z:ZI Hb H0 H S s0 s1 s2 s3 z){m:Addr}(hm:m∈z.flatMap Fz.muts):H0 m=none:=Z.fz m (by unfold bp;simp[hm])
theorem cL{p m:Addr}{xs vs:List V}(h1:H p=some (.tup xs))(h2:H m=some (.lst vs)):p≠m:=wA h1 h2 (by intro z;cases z)
theorem gR{x:Fz}{r:List Fz}:x.c∈(x::r).flatMap Fz.muts:=by rw[qL];exact Q3 _ x.c_mem
theorem pS{x:Fz}{r:List Fz}{m:Addr}(h:m∈r.flatMap Fz.muts):m∈(x::r).flatMap Fz.muts:=by rw[qL];exact qO _ h
theorem sw{x:Fz}{r:List Fz}(nd:((x::r).flatMap Fz.muts).Nodup){m:Addr}(h:m∈r.flatMap Fz.muts):m≠x.c:=by
 rw[qL]at nd;intro e;exact(List.nodup_append.mp nd).2.2 x.c x.c_mem m h e.symm
theorem mW{x:Fz}{r:List Fz}(nd:((x::r).flatMap Fz.muts).Nodup){n:Str}(q:x.f.op=.ifT n):x.e≠x.c/\x.e∈x.muts/\∀m∈r.flatMap Fz.muts,m≠x.e:=by
 rw[qL]at nd;have h:=List.nodup_append.mp nd;have e:x.muts=[x.c,x.e]:=by unfold Fz.muts;rw[q]
 rw[e]at h;refine⟨?_,by rw[e];simp,λm hm z=>h.2.2 x.e (by simp) m hm z.symm⟩;have:=h.1;simp at this;exact λz=>this z.symm
theorem ZR.rest{x:Fz}{r:List Fz}{tl:List V}{o:HO}(zr:ZR H0 H (x::r) tl)(nd:((x::r).flatMap Fz.muts).Nodup){vs:List V}(hc:H x.c=some (.lst vs)):
 x.side H0 (upd H x.c o)/\((x.f.op=.root/\r=[])\/(x.f.op≠.root/\(upd H x.c o) x.p=some (.tup x.tupV)/\ZR H0 (upd H x.c o) r [.ref x.p])):=by
 obtain⟨_,h3,h4⟩:=zr;refine⟨?_,?_⟩
 .unfold Fz.side at h3 ⊢
  cases q:x.f.op with
  |ifT n=>
   rw[q]at h3;show(upd H x.c o) x.e=some (.lst []);rw[af (mW nd q).1];exact h3
  |ifO n t=>rw[q]at h3;exact h3
  |root=>trivial
  |whl n=>trivial
  |rep n=>trivial
 .rcases h4 with h4|⟨h4,h5,h6⟩
  .exact .inl h4
  .refine .inr ⟨h4,by rw[af (cL h5 hc)];exact h5,h6.frame (λm hm=>af (sw nd hm)) λp xs h=>by rw[af (cL h hc)];exact h⟩
theorem ZI.push{x:Fz}{r:List Fz}{vs xs:List V}{p:Addr}{d:aa}(Z:ZI Hb H0 H S s0 s1 s2 s3 (x::r))(hc:H x.c=some (.lst vs))(hp:H p=some (.tup xs))(hp0:H0 p=none)(hd:RD (upd H0 p (.tup xs)) (.ref p) d):
 ZI Hb (upd H0 p (.tup xs)) (upd H x.c (.lst (vs++[.ref p]))) S s0 s1 s2 s3 ({ x with f:=x.f.add d }::r):=by
 have n:=Z.ne (gR (x:=x) (r:=r));have pc:=cL hp hc;have cz:H0 x.c=none:=Z.fzz gR;have g:a8 H0 (upd H0 p (.tup xs)):=a8.new hp0 _;have rest:=(Z.zr.rest (o:=.lst (vs++[.ref p])) Z.ndz hc);refine{ hb:=Z.hb.trans g,h0:=?_,fz:=?_,nd:=Z.nd,cS:=?_,c0:=?_,c1:=?_,c2:=?_,c3:=?_,zr:=?_ }
 .intro b u q;by_cases e:b=p
  .subst e;rw[ag]at q;cases q;rw[af pc];exact hp
  .rw[af e]at q;rw[af (cC q cz)];exact Z.h0 _ _ q
 .intro m hm;obtain⟨ws,hw⟩:=Z.lsts m hm;rw[af (Ne.symm (cL hp hw))];exact Z.fz m hm
 .rw[af n.1];exact Z.cS
 .rw[af n.2.1];exact Z.c0
 .rw[af n.2.2.1];exact Z.c1
 .rw[af n.2.2.2.1];exact Z.c2
 .rw[af n.2.2.2.2];exact Z.c3
 .obtain⟨⟨vs',h1,h2⟩,_,_⟩:=Z.zr;rw[qE,hc]at h1;cases h1;refine⟨⟨vs++[.ref p],by rw[qE];exact ag,(h2.same g).app (.cons hd .nil)⟩,?_,?_⟩
  .have q:=rest.1;unfold Fz.side at q ⊢;dsimp only[Fr.add]
   revert q
   cases x.f.op<;>intro q<;>first|exact q|exact RL.same g q
  .rcases rest.2 with h4|⟨h4,h5,h6⟩
   .exact .inl h4
   .exact .inr ⟨h4,h5,h6.grow g⟩
end
section
variable {Hb H0 H H':Hp}{S s0 s1 s2 s3:Addr}{z:List Fz}
theorem ZI.opened{x y:Fz}{r:List Fz}{vs:List V}(Z:ZI Hb H0 H S s0 s1 s2 s3 (x::r))(hc:H x.c=some (.lst vs))
 (k:∀b u,b≠x.c->b≠s0->b≠s1->b≠s2->b≠s3->H b=some u->H' b=some u) (nm:∀m∈y.muts,H m=none/\H' m=some (.lst [])) (ny:y.muts.Nodup) (hp:H' y.p=some (.tup y.tupV))
 (hop:y.f.op≠.root) (hno:∀n t,y.f.op≠.ifO n t) (hds:y.f.ds=[])
 (kc:H' x.c=some (.lst (vs++[.ref y.p]))) (k0:H' s0=some (.lst (((x::r).map λx=>V.ref x.c).reverse++[.ref y.c]))) (k1:H' s1=some (.lst (((x::r).map Fz.o).reverse++[y.o])))
 (k2:H' s2=some (.lst (((x::r).map λx=>V.bl x.f.shut).reverse++[.bl y.f.shut]))) (k3:H' s3=some (.lst (((x::r).map λx=>V.int x.f.times).reverse++[.int y.f.times]))):ZI Hb H0 H' S s0 s1 s2 s3 (y::x::r):=by
 have sn:=Z.ss;have cn:=Z.ne (gR (x:=x) (r:=r))
 have fresh:∀m∈y.muts,∀b∈bp S s0 s1 s2 s3 (x::r),m≠b:=λm hm b hb e=>by
  obtain⟨ws,hw⟩:=Z.lsts b hb;rw[<- e,(nm m hm).1]at hw;cases hw
 have am:bp S s0 s1 s2 s3 (y::x::r)=[S,s0,s1,s2,s3]++(y.muts++(x::r).flatMap Fz.muts):=by simp[bp]
 have am':bp S s0 s1 s2 s3 (x::r)=[S,s0,s1,s2,s3]++(x::r).flatMap Fz.muts:=by simp[bp]
 have h0':a8 H0 H':=λb u q=>by
  have nb:∀m∈bp S s0 s1 s2 s3 (x::r),b≠m:=λm hm=>cC q (Z.fz m hm);exact k b u (nb _ (by rw[am'];exact qO _ gR)) (nb _ (by rw[am'];simp)) (nb _ (by rw[am'];simp)) (nb _ (by rw[am'];simp)) (nb _ (by rw[am'];simp)) (Z.h0 _ _ q)
 have oth:∀m,m∈(x::r).flatMap Fz.muts->m≠x.c->H' m=H m:=λm hm hmc=>by
  obtain⟨ws,hw⟩:=Z.zr.lsts m hm;have n:=Z.ne hm;rw[hw];exact k m _ hmc (Ne.symm n.2.1) (Ne.symm n.2.2.1) (Ne.symm n.2.2.2.1) (Ne.symm n.2.2.2.2) hw
 have tp:∀p xs,H p=some (.tup xs)->H' p=some (.tup xs):=λp xs h=>k p _ (cL h hc) (cL h Z.c0) (cL h Z.c1) (cL h Z.c2) (cL h Z.c3) h;refine{ hb:=Z.hb,h0:=h0',fz:=?_,nd:=?_,cS:=k _ _ cn.1 sn.1 sn.2.1 sn.2.2.1 sn.2.2.2.1 Z.cS,c0:=?_,c1:=?_,c2:=?_,c3:=?_,zr:=?_ }
 .intro m hm;rw[am,qk,qk]at hm;rcases hm with hm|hm|hm
  .exact Z.fz m (by rw[am'];exact Q3 _ hm)
  .exact a8.none Z.h0 (nm m hm).1
  .exact Z.fzz hm
 .have nd:=Z.nd;rw[am']at nd;rw[am,List.nodup_append,List.nodup_append];have a:=List.nodup_append.mp nd;refine⟨a.1,⟨ny,a.2.1,λm hm b hb=>fresh m hm b (by rw[am'];exact qO _ hb)⟩,λm hm b hb=>?_⟩;rcases qk.mp hb with hb|hb
  .exact Ne.symm (fresh b hb m (by rw[am'];exact Q3 _ hm))
  .exact a.2.2 m hm b hb
 .rw[k0];simp
 .rw[k1];simp
 .rw[k2];simp
 .rw[k3];simp
 .obtain⟨⟨vs',h1,h2⟩,h3,h4⟩:=Z.zr;rw[qE,hc]at h1;cases h1;refine⟨⟨[],(nm _ y.c_mem).2,by rw[hds];exact .nil⟩,?_,.inr ⟨hop,hp,⟨vs,kc,h2⟩,?_,?_⟩⟩
  .unfold Fz.side
   cases q:y.f.op with
   |ifT n=>exact(nm y.e (by unfold Fz.muts;rw[q];simp)).2
   |ifO n t=>exact Qb q (hno n t)
   |root=>trivial
   |whl n=>trivial
   |rep n=>trivial
  .unfold Fz.side at h3 ⊢
   cases q:x.f.op with
   |ifT n=>
    rw[q]at h3;have se:=mW Z.ndz q;show H' x.e=some (.lst []);rw[oth x.e (by rw[qL];exact Q3 _ se.2.1) se.1];exact h3
   |ifO n t=>rw[q]at h3;exact h3
   |root=>trivial
   |whl n=>trivial
   |rep n=>trivial
  .rcases h4 with h4|⟨h4,h5,h6⟩
   .exact .inl h4
   .exact .inr ⟨h4,tp _ _ h5,h6.frame (λm hm=>oth m (pS hm) (sw Z.ndz hm)) tp⟩
theorem ZI.elsed{x:Fz}{r:List Fz}{vs:List V}{n:Str}(Z:ZI Hb H0 H S s0 s1 s2 s3 (x::r))(q:x.f.op=.ifT n)(hc:H x.c=some (.lst vs))
 (k:∀b u,b≠s0->b≠s1->H b=some u->H' b=some u) (k0:H' s0=some (.lst ((r.map λx=>V.ref x.c).reverse++[.ref x.e]))) (k1:H' s1=some (.lst ((r.map Fz.o).reverse++[.non]))):
 ZI Hb (upd H0 x.c (.lst vs)) H' S s0 s1 s2 s3 (⟨{ x.f with op:=.ifO n x.f.ds,ds:=[] },x.e,x.p,x.c⟩::r):=by
 have sn:=Z.ss;have cn:=Z.ne (gR (x:=x) (r:=r));have se:=mW Z.ndz q;have em:x.e∈(x::r).flatMap Fz.muts:=by rw[qL];exact Q3 _ se.2.1
 have en:=Z.ne em;have g:a8 H0 (upd H0 x.c (.lst vs)):=a8.new (Z.fzz gR) _;have mx:x.muts=[x.c,x.e]:=by unfold Fz.muts;rw[q]
 have tp:∀p xs,H p=some (.tup xs)->H' p=some (.tup xs):=λp xs h=>k p _ (cL h Z.c0) (cL h Z.c1) h
 have oth:∀m,m∈(x::r).flatMap Fz.muts->H' m=H m:=λm hm=>by
  obtain⟨ws,hw⟩:=Z.zr.lsts m hm;have n:=Z.ne hm;rw[hw];exact k m _ (Ne.symm n.2.1) (Ne.symm n.2.2.1) hw
 have z0:H0 s0=none:=Z.fz _ (by simp[bp]);have z1:H0 s1=none:=Z.fz _ (by simp[bp]);obtain⟨⟨vs',h1,h2⟩,h3,h4⟩:=Z.zr;rw[qE,hc]at h1;cases h1;unfold Fz.side at h3;rw[q]at h3
 have sub:∀m,m∈bp S s0 s1 s2 s3 (⟨{ x.f with op:=.ifO n x.f.ds,ds:=[] },x.e,x.p,x.c⟩::r)->m∈bp S s0 s1 s2 s3 (x::r)/\m≠x.c:=λm hm=>by
  simp only[bp,qL,Fz.muts,qA,Qs,Qr]at hm;simp only[bp,qL,mx,qA,Qs,Qr];rcases hm with rfl|rfl|rfl|rfl|rfl|rfl|hm
  .exact⟨by simp,cn.1⟩
  .exact⟨by simp,cn.2.1⟩
  .exact⟨by simp,cn.2.2.1⟩
  .exact⟨by simp,cn.2.2.2.1⟩
  .exact⟨by simp,cn.2.2.2.2⟩
  .exact⟨by simp,se.1⟩
  .have hm':m∈r.flatMap Fz.muts:=by simpa using hm
   exact⟨by simp[hm'],sw Z.ndz hm'⟩
 refine{ hb:=Z.hb.trans g,h0:=?_,fz:=?_,nd:=?_,cS:=k _ _ sn.1 sn.2.1 Z.cS,c0:=?_,c1:=?_,c2:=?_,c3:=?_,zr:=?_ }
 .intro b u hb;by_cases e:b=x.c
  .subst e;rw[ag]at hb;cases hb;exact k _ _ (Ne.symm cn.2.1) (Ne.symm cn.2.2.1) hc
  .rw[af e]at hb;exact k _ _ (cC hb z0) (cC hb z1) (Z.h0 _ _ hb)
 .intro m hm;rw[af (sub m hm).2];exact Z.fz m (sub m hm).1
 .have nd:=Z.nd;simp only[bp,qL,mx,Qs,Qr,List.nodup_cons,qA,not_or]at nd;simp only[bp,qL,Fz.muts,Qs,Qr,List.nodup_cons,qA,not_or];obtain⟨⟨a1,a2,a3,a4,_,a6,a7⟩,⟨b1,b2,b3,_,b5,b6⟩,⟨c1,c2,_,c4,c5⟩,⟨d1,_,d3,d4⟩,⟨_,e2,e3⟩,_,f2,f3⟩:=nd;exact⟨⟨a1,a2,a3,a4,a6,a7⟩,⟨b1,b2,b3,b5,b6⟩,⟨c1,c2,c4,c5⟩,⟨d1,d3,d4⟩,⟨e2,e3⟩,f2,f3⟩
 .rw[k0];simp
 .rw[k1];simp[Fz.o]
 .refine(k _ _ (Ne.symm sn.2.2.2.2.2.1) (Ne.symm sn.2.2.2.2.2.2.2.1) Z.c2).trans ?_;simp
 .refine(k _ _ (Ne.symm sn.2.2.2.2.2.2.1) (Ne.symm sn.2.2.2.2.2.2.2.2.1) Z.c3).trans ?_;simp
 .refine⟨⟨[],?_,.nil⟩,.mk ag (h2.same g),?_⟩
  .show H' x.e=some (.lst ([]++[]));rw[oth x.e em];exact h3
  .rcases h4 with⟨h4,_⟩|⟨h4,h5,h6⟩
   .rw[q]at h4;cases h4
   .refine .inr ⟨by simp,?_,(h6.frame (λm hm=>oth m (pS hm)) tp).grow g⟩;have:=tp _ _ h5;unfold Fz.tupV at this ⊢;rw[q]at this;exact this
theorem ZI.closed{x g:Fz}{r:List Fz}(Z:ZI Hb H0 H S s0 s1 s2 s3 (x::g::r))
 (k:∀b u,b≠s0->b≠s1->b≠s2->b≠s3->H b=some u->H' b=some u) (k0:H' s0=some (.lst (((g::r).map λx=>V.ref x.c).reverse))) (k1:H' s1=some (.lst (((g::r).map Fz.o).reverse)))
 (k2:H' s2=some (.lst (((g::r).map λx=>V.bl x.f.shut).reverse))) (k3:H' s3=some (.lst (((g::r).map λx=>V.int x.f.times).reverse))):
 ∃H0',ZI Hb H0' H' S s0 s1 s2 s3 ({ g with f:=g.f.add x.f.deed }::r):=by
 have sn:=Z.ss;obtain⟨⟨vs,h1,h2⟩,h3,h4⟩:=Z.zr;rw[qE]at h1;rcases h4 with⟨_,h4⟩|⟨h4,h5,h6⟩
 .cases h4
 have tp:∀p xs,H p=some (.tup xs)->H' p=some (.tup xs):=λp xs h=>k p _ (cL h Z.c0) (cL h Z.c1) (cL h Z.c2) (cL h Z.c3) h
 have oth:∀m,m∈(x::g::r).flatMap Fz.muts->H' m=H m:=λm hm=>by
  obtain⟨ws,hw⟩:=Z.zr.lsts m hm;have n:=Z.ne hm;rw[hw];exact k m _ (Ne.symm n.2.1) (Ne.symm n.2.2.1) (Ne.symm n.2.2.2.1) (Ne.symm n.2.2.2.2) hw
 have mx:∀m∈x.muts,m∈(x::g::r).flatMap Fz.muts:=λm hm=>by rw[qL];exact Q3 _ hm
 let H0':Hp:=λb=>if b∈x.muts\/b=x.p then H b else H0 b
 have e1:∀b,b∈x.muts\/b=x.p->H0' b=H b:=λb hb=>Q8 hb;have e2:∀b,¬ (b∈x.muts\/b=x.p)->H0' b=H0 b:=λb hb=>Q7 hb
 have gr:a8 H0 H0':=λb u hb=>by
  by_cases c:b∈x.muts\/b=x.p
  .rw[e1 b c];exact Z.h0 _ _ hb
  .rw[e2 b c];exact hb
 have hl:RL H0' x.c x.f.ds:=.mk ((e1 _ (.inl x.c_mem)).trans h1) (h2.same gr);have ht:H0' x.p=some (.tup x.tupV):=(e1 _ (.inr U)).trans h5
 have hd:RD H0' (.ref x.p) x.f.deed:=by
  unfold Fz.tupV at ht;unfold Fz.side at h3;unfold Fr.deed
  cases q:x.f.op with
  |root=>exact Qb q h4
  |ifT n=>
   rw[q]at ht h3;exact .cond ht hl (.mk ((e1 _ (.inl (by unfold Fz.muts;rw[q];simp))).trans h3) .nil)
  |ifO n t=>
   rw[q]at ht h3;exact .cond ht (RL.same gr h3) hl
  |whl n=>
   rw[q]at ht;exact .whl ht hl
  |rep n=>
   rw[q]at ht;exact .rep ht hl
 have ndx:=Z.ndz;rw[qL]at ndx;have nd3:=List.nodup_append.mp ndx
 have ex:∀m,m∈bp S s0 s1 s2 s3 (g::r)->H0' m=none:=λm hm=>by
  have hm':m∈bp S s0 s1 s2 s3 (x::g::r):=by
   simp only[bp,qL,qA,qk]at hm ⊢;rcases hm with h|h|h|h|h|h
   .exact .inl h
   .exact .inr (.inl h)
   .exact .inr (.inr (.inl h))
   .exact .inr (.inr (.inr (.inl h)))
   .exact .inr (.inr (.inr (.inr (.inl h))))
   .exact .inr (.inr (.inr (.inr (.inr (.inr h)))))
  rw[e2 m ?_]
  .exact Z.fz m hm'
  .rintro(hx|hx)
   .have n:=Z.ne (mx m hx);simp only[bp,qA]at hm;rcases hm with h|h|h|h|h|h
    .exact n.1 h.symm
    .exact n.2.1 h.symm
    .exact n.2.2.1 h.symm
    .exact n.2.2.2.1 h.symm
    .exact n.2.2.2.2 h.symm
    .exact nd3.2.2 m hx m h U
   .obtain⟨ws,hw⟩:=Z.lsts m hm';exact cL h5 hw hx.symm
 refine⟨H0',{ hb:=Z.hb.trans gr,h0:=?_,fz:=ex,nd:=?_,cS:=k _ _ sn.1 sn.2.1 sn.2.2.1 sn.2.2.2.1 Z.cS,c0:=k0,c1:=k1,c2:=k2,c3:=k3,zr:=?_ }⟩
 .intro b u hb;by_cases c:b∈x.muts\/b=x.p
  .rw[e1 b c]at hb;rcases c with c|c
   .rw[oth b (mx b c)];exact hb
   .subst c;rw[h5]at hb;cases hb;exact tp _ _ h5
  .rw[e2 b c]at hb;have z:∀m,m∈bp S s0 s1 s2 s3 (x::g::r)->b≠m:=λm hm=>cC hb (Z.fz m hm);exact k _ _ (z _ (by simp[bp])) (z _ (by simp[bp])) (z _ (by simp[bp])) (z _ (by simp[bp])) (Z.h0 _ _ hb)
 .have nd:=Z.nd;have am:bp S s0 s1 s2 s3 (x::g::r)=[S,s0,s1,s2,s3]++(x.muts++(g::r).flatMap Fz.muts):=by simp[bp]
  rw[am]at nd;have a:=List.nodup_append.mp nd;show(bp S s0 s1 s2 s3 (g::r)).Nodup;have am':bp S s0 s1 s2 s3 (g::r)=[S,s0,s1,s2,s3]++(g::r).flatMap Fz.muts:=by simp[bp]
  rw[am',List.nodup_append];exact⟨a.1,nd3.2.1,λm hm b hb=>a.2.2 m hm b (qO _ hb)⟩
 .have h7:=(h6.frame (H':=H') (λm hm=>oth m (pS hm)) tp).grow gr;obtain⟨⟨ws,w1,w2⟩,w3,w4⟩:=h7;exact⟨⟨ws++[.ref x.p],by rw[qE];exact w1,w2.app (.cons hd .nil)⟩,w3,w4⟩
end
section
variable {Hb H0 H H4:Hp}{S s0 s1 s2 s3:Addr}
theorem pI{x y:Fz}{r:List Fz}{vs:List V}(Z:ZI Hb H0 H S s0 s1 s2 s3 (x::r))(hc:H x.c=some (.lst vs))(k4:∀b u,b≠x.c->H b=some u->H4 b=some u)(nm:∀m∈y.muts,H m=none/\H4 m=some (.lst []))(ny:y.muts.Nodup)
 (hp:H4 y.p=some (.tup y.tupV)) (hop:y.f.op≠.root) (hno:∀n t,y.f.op≠.ifO n t) (hds:y.f.ds=[]) (kc:H4 x.c=some (.lst (vs++[.ref y.p]))):
 ZI Hb H0 (upd (upd (upd (upd H4 s0 (.lst (((x::r).map λx=>V.ref x.c).reverse++[.ref y.c]))) s1 (.lst (((x::r).map Fz.o).reverse++[y.o]))) s2 (.lst (((x::r).map λx=>V.bl x.f.shut).reverse++[.bl y.f.shut]))) s3 (.lst (((x::r).map λx=>V.int x.f.times).reverse++[.int y.f.times]))) S s0 s1 s2 s3 (y::x::r):=by
 obtain⟨_,_,_,_,n01,n02,n03,n12,n13,n23⟩:=Z.ss;have cn:=Z.ne (gR (x:=x) (r:=r))
 have ms:∀m∈y.muts,m≠s0/\m≠s1/\m≠s2/\m≠s3:=λm hm=>by
  have hn:=(nm m hm).1;exact⟨(λe=>by rw[e,Z.c0]at hn;cases hn),(λe=>by rw[e,Z.c1]at hn;cases hn),(λe=>by rw[e,Z.c2]at hn;cases hn),(λe=>by rw[e,Z.c3]at hn;cases hn)⟩
 have c0:=k4 _ _ cn.2.1 Z.c0;have c1:=k4 _ _ cn.2.2.1 Z.c1;have c2:=k4 _ _ cn.2.2.2.1 Z.c2;have c3:=k4 _ _ cn.2.2.2.2 Z.c3;refine Z.opened (y:=y) hc (λb u h1 h2 h3 h4 h5 hb=>?_) (λm hm=>⟨(nm m hm).1,?_⟩) ny ?_ hop hno hds ?_ ?_ ?_ ?_ ?_
 .rw[af h5,af h4,af h3,af h2];exact k4 b u h1 hb
 .have h:=ms m hm;rw[af h.2.2.2,af h.2.2.1,af h.2.1,af h.1];exact(nm m hm).2
 .rw[af (cL hp c3),af (cL hp c2),af (cL hp c1),af (cL hp c0)];exact hp
 .rw[af (Ne.symm cn.2.2.2.2),af (Ne.symm cn.2.2.2.1),af (Ne.symm cn.2.2.1),af (Ne.symm cn.2.1)];exact kc
 .rw[af n03,af n02,af n01,ag]
 .rw[af n13,af n12,ag]
 .rw[af n23,ag]
 .rw[ag]
theorem wU{α:Type}{l:List α}{v:α}:atI (l++[v]) (-1)=some v:=by
 unfold atI
 have e:ixN (l++[v]).length (-1)=some l.length:=by
  unfold ixN;simp;omega
 rw[e];simp
theorem gq{α β:Type}{f:α->β}{x:α}{r:List α}:atI (((x::r).map f).reverse) (-1)=some (f x):=by
 rw[qX,List.reverse_cons];exact wU
end
theorem xF:∀ds:List aa,ds.length<=(aj ds).length
 |[]=>qg _
 |d::r=>by
  have:=xF r;rw[aj,qc,qH,j8,qH];omega
theorem yO{f:Fr}{r:List Fr}:f.ds.length<=cnt (f::r):=by
 have:=xF f.ds;rw[cnt];omega
def md(st:List Fr):Prop:=∀f∈st,0<=f.times/\f.times<=1000
theorem zE{names rooms:List Str}{most low n:Int}{st:List Fr}(h0:0<=most)(h1:most<=1000)(hn:0<=n)(ht:md st):md (bY names rooms most low st n):=by
 match st,ht with
 |[],ht=>exact ht
 |g::r,ht=>
  have hg:=ht g qt;have hr:∀f∈r,0<=f.times/\f.times<=1000:=λf hf=>ht f (qq _ hf);unfold bY;dsimp only;split
  .unfold gm;dsimp only;intro f hf;rcases qA.mp hf with rfl|hf
   .split
    .exact⟨by simp,by simp⟩
    .split
     .exact⟨by simp,by simp⟩
     .dsimp only;unfold cG;by_cases tp:0<g.times
      .rw[Q8 tp];have q0:0<=most / g.times:=Int.ediv_nonneg h0 hg.1;have e0:0<=n / 70 % (1+most / g.times):=Qg _ Yo;have e1:n / 70 % (1+most / g.times)<1+most / g.times:=Ql _ Yo;refine⟨Int.mul_nonneg hg.1 e0,?_⟩;have m1:g.times * (n / 70 % (1+most / g.times))<=g.times * (most / g.times):=Int.mul_le_mul_of_nonneg_left Yo hg.1;have m2:g.times * (most / g.times)<=most:=Int.mul_ediv_self_le Yo;omega
      .have:g.times=0:=by omega
       rw[this];simp
   .exact ht f hf
  .split
   .intro f hf;rcases qA.mp hf with rfl|hf
    .exact hg
    .exact hr f hf
   .split
    .cases r with
     |nil=>exact ht
     |cons g' r'=>
      intro f hf;rcases qA.mp hf with rfl|hf
      .exact hr g' qt
      .exact hr f (qq _ hf)
    .intro f hf;rcases qA.mp hf with rfl|hf
     .exact hg
     .exact hr f hf
theorem zH{names rooms:List Str}{most low:Int}{cells:List Int}{i:Nat}{c:Int}(h:cells[i]?=some c):cZ names rooms most low (cells.take (i+1))=bY names rooms most low (cZ names rooms most low (cells.take i)) (aF c 1):=by
 unfold cZ;rw[qy,h,List.foldl_append]
 rfl
theorem tP{names rooms:List Str}{most low:Int}(h0:0<=most)(h1:most<=1000):∀(cells:List Int)(st:List Fr),md st->md (cells.foldl (λst c=>bY names rooms most low st (aF c 1)) st)
 |[],st,h=>h
 |c::cs,st,h=>tP h0 h1 cs _ (zE h0 h1 (by unfold aF;exact Qg _ Yk) h)
theorem y3{x x':Fz}{r:List Fz}(h:x'.c=x.c):jV (x'::r)=jV (x::r):=by
 cases r with
 |nil=>exact h
 |cons y r=>rfl
theorem DM{L Pc c A B:Prop}{inst:Decidable c}(hw:c->Pc)(rest:Pc->L)(h:¬ c->(Pc->L)->B)(e:A=L:=by rfl):@ite Prop c inst A B:=by
 subst e;by_cases hc:c
 .rw[Q8 hc];exact rest (hw hc)
 .rw[Q7 hc];exact h hc rest
theorem wX{α:Type}{l:List α}{v:α}:ixN (l++[v]).length (-1)=some l.length:=by
 unfold ixN;simp;omega
theorem uY{α:Type}{l:List α}{v w:α}:(l++[v]).set l.length w=l++[w]:=by
 induction l with
 |nil=>rfl
 |cons a r ih=>simp[ih]
theorem goB{Pc:Prop}{F:Bool->Prop}(go:Pc->∃k,V.bl false=V.bl k/\F k)(p:Pc):F false:=by
 obtain⟨k,e,h⟩:=go p;cases e;exact h
end Tr
namespace Tr
theorem lY{α β:Type}{f:α->β}{x:α}{r:List α}:(((x::r).map f).reverse).dropLast=(r.map f).reverse:=by
 rw[qX,List.reverse_cons,List.dropLast_concat]
theorem lO{α β:Type}{f:α->β}{x:α}{r:List α}:(((x::r).map f).reverse)[(((x::r).map f).reverse).length-1]?=some (f x):=by
 rw[qX,List.reverse_cons];simp
end Tr
namespace Tr
open PySem PySem.Spec PyProof.Rows L2
def Low(x:Str):Prop:=∀c∈x.cps.toList,c<128
theorem Low.app{x y:Str}(h1:Low x)(h2:Low y):Low (x++y):=λc hc=>by
 have e:(x++y).cps.toList=x.cps.toList++y.cps.toList:=by
  show(x.cps++y.cps).toList=_;simp
 rw[e,qk]at hc;exact hc.elim (h1 c) (h2 c)
theorem Low.slice{x:Str}(h:Low x)(a b:Option Int):Low (Txt.slice x a b):=λc hc=>by
 unfold Txt.slice at hc;split at hc
 .exact h c hc
 .simp only[List.mem_filterMap]at hc;obtain⟨i,_,hi⟩:=hc;have:=Array.mem_of_getElem? hi;exact h c (by simpa using this)
theorem sJ(j:Int):bZ j<128:=by
 unfold bZ;have all:∀c∈cP.cps.toList,c<128:=Yd;rw[qp]
 cases e:cP.cps.toList[j.toNat]? with
 |none=>decide
 |some c=>exact all c (qG e)
theorem mX{c:Nat}(h:c<128):Low (sgn c):=λd hd=>by
 simp[sgn]at hd;subst hd;exact h
theorem pZ(n:Int):∀k,Low (cE n k)
 |0=>λc hc=>by simp[cE]at hc;exact Qb hc (by decide +kernel +revert)
 |k+1=>by rw[cE];exact(pZ n k).app (mX (sJ _))
theorem zL{w:Str}(h:Low w):Low (cM w):=by
 unfold cM;split
 .exact(h.slice _ _).app (mX (sJ _))
 .exact h
theorem BB(c k:Int):Low (bW c k):=by
 have b:Low (bS c):=pZ _ _;have s:Low (eP c k):=mX (sJ _);unfold bW;split
 .exact((b.slice _ _).app s).app (b.slice _ _)
 .split
  .exact b.slice _ _
  .exact(s.app (pZ _ _)).slice _ _
theorem Bz(c:Int)(n:Nat):∀w∈d7 c n,Low w:=by
 have up:∀w∈du c n,Low w:=λw hw=>by
  unfold du at hw;obtain⟨k,_,rfl⟩:=List.mem_map.mp hw;exact zL (BB c k)
 unfold d7;split
 .intro w hw;exact up w (List.mem_reverse.mp hw)
 .exact up
theorem j3{w:Str}(h:Low w):PyData.strOk w=true:=by
 unfold PyData.strOk;rw[<- Array.all_toList,List.all_eq_true];intro c hc;have:=h c hc;simp;omega
theorem zN{w:Str}(h:w.length<=50):(cM w).length<=51:=by
 unfold cM;split
 .have:=Txt.slice_le w none (some (-1));rw[dP];have:(sgn (bZ ((ip w+13) % 26))).length=1:=U;omega
 .omega
theorem rq(n:Int):∀k:Nat,(cE n k).length=k
 |0=>rfl
 |k+1=>by rw[cE,dP,rq n k];rfl
theorem BC(c k:Int):(bW c k).length<=50:=by
 unfold bW;have b:(bS c).length=8:=rq _ 8;have s:(eP c k).length=1:=U;split
 .have h1:=Txt.slice_le (bS c) none (some (cW c));have h2:=Txt.slice_le (bS c) (some (cW c+1)) (some (dv c));rw[dP,dP];omega
 .split
  .have h1:=Txt.slice_le (bS c) none (some (1+(aF c 1 / 24+k) % 8));omega
  .have h1:=Txt.slice_le (eP c k++cE (aF c (k+2)) 7) none (some (1+aF c (k+40) % 8));rw[dP,rq]at h1;omega
theorem Bx(c:Int)(n:Nat):∀w∈d7 c n,w.length<=51:=by
 have up:∀w∈du c n,w.length<=51:=λw hw=>by
  unfold du at hw;obtain⟨k,_,rfl⟩:=List.mem_map.mp hw;exact zN (BC c k)
 unfold d7;split
 .intro w hw;exact up w (List.mem_reverse.mp hw)
 .exact up
theorem Fv{names rooms:List Str}:(bA names rooms).length=names.length+2 * rooms.length+1:=by
 unfold bA;simp;omega
end Tr
namespace L2
open PySem PySem.Spec PyProof.Rows
theorem EQ{n:Nat}{g:TG}{tt:TT}{te:TE}{Fin:List V->Hp->Prop}{Y:St}{H:Hp}(Pv:Nat->List V->St->Hp->Prop)(h0:Pv 0 [] Y H)(hz:∀i ys Y H,i<=n->Pv i ys Y H->ys.length<=i)(hx:n<=sizeLine)
 (hs:∀i ys Y H,i<n->Pv i ys Y H->g (.int i) Y H λY2 H2=>tt Y2 H2 λb H3=>if b=true then te Y2 H3 λy H4=>Pv (i+1) (ys++[y]) Y2 H4 else Pv (i+1) ys Y2 H3)
 (hd:∀ys Y H,Pv n ys Y H->Fin ys H):∃W:Nat->Nat->List V->St->Hp->Prop,(∃m,W 0 m [] Y H)/\iK (Itr 0 n) g tt te Fin W:=by
 refine⟨λi m ys Y H=>m=n-i/\i<=n/\Pv i ys Y H,⟨_,U,qz _,h0⟩,?_⟩;rintro i m ys Y H ⟨rfl,hi,p⟩;have few:=hz i ys Y H hi p;by_cases lt:i<n
 .refine .inr ⟨lt,Yo,Pv (i+1),λys' Y' H' p'=>⟨_,Yo,U,lt,p'⟩,λv H' y=>?_⟩;obtain⟨e,y⟩:=y;rw[Int.zero_add]at y;subst e y;exact hs i ys Y _ lt p
 .obtain rfl:i=n:=by omega
  exact .inl ⟨qg _,Yo,hd ys Y H p⟩
theorem jT{K:W.Frag}{a:Addr}{xs:List V}{g:TG}{te:TE}{Fin:List V->Hp->Prop}{Y:St}{H:Hp}(Pv:Nat->List V->St->Hp->Prop)(h0:Pv 0 [] Y H)(hz:∀i ys Y H,i<=xs.length->Pv i ys Y H->ys.length<=i)(hx:xs.length<=sizeLine)(hl:∀i ys Y H,Pv i ys Y H->SqL K H a xs)
 (hs:∀i x ys Y H,xs[i]?=some x->Pv i ys Y H->g x Y H λY2 H2=>te Y2 H2 λy H4=>Pv (i+1) (ys++[y]) Y2 H4)
 (hd:∀ys Y H,Pv xs.length ys Y H->Fin ys H):∃W:Nat->Nat->List V->St->Hp->Prop,(∃m,W 0 m [] Y H)/\iK (Itl K a) g jg te Fin W:=
 m6 Pv h0 hz hx hl (λi x ys Y H hx p=>by
  rw[sS (N':=λ_ _ _=>True)]
  exact hs i x ys Y H hx p) hd
end L2
namespace Tr
open PySem PySem.Spec PyProof.Rows L2
inductive RSs(H:Hp):List V->List (Str×Int)->Prop
 |nil:RSs H [] []
 |cons {p:Addr}{vs:List V}{q:Str}{n:Int}{ss:List (Str×Int)}:H p=some (.tup [.str q,.int n])->RSs H vs ss->RSs H (.ref p::vs) ((q,n)::ss)
theorem RSs.same{H H':Hp}(e:a8 H H'):∀{vs:List V}{ss:List (Str×Int)},RSs H vs ss->RSs H' vs ss
 |_,_,.nil=>.nil
 |_,_,.cons h r=>.cons (e _ _ h) (RSs.same e r)
theorem RSs.snoc{H:Hp}{p:Addr}{q:Str}{n:Int}(h:H p=some (.tup [.str q,.int n])):∀{vs:List V}{ss:List (Str×Int)},RSs H vs ss->RSs H (vs++[.ref p]) (ss++[(q,n)])
 |_,_,.nil=>.cons h .nil
 |_,_,.cons h' r=>.cons h' (RSs.snoc h r)
theorem RSs.len{H:Hp}:∀{vs:List V}{ss:List (Str×Int)},RSs H vs ss->vs.length=ss.length
 |_,_,.nil=>rfl
 |_,_,.cons _ r=>congrArg (·+1) (RSs.len r)
theorem RSs.at{H:Hp}:∀{vs:List V}{ss:List (Str×Int)},RSs H vs ss->∀(i:Nat)(v:V),vs[i]?=some v->∃p q n,v=.ref p/\ss[i]?=some (q,n)/\H p=some (.tup [.str q,.int n])
 |_,_,.nil,i,v,h=>by simp at h
 |_,_,.cons (p:=p) (q:=q) (n:=n) h' r,0,v,h=>by
  simp at h;exact⟨p,q,n,h.symm,U,h'⟩
 |_,_,.cons h' r,i+1,v,h=>RSs.at r i v (by simpa using h)
noncomputable def fE(s:Str×Int):PyData:=.tuple [.str s.1,.int s.2]
theorem RSs.dt{K:W.Frag}{H:Hp}:∀{vs:List V}{ss:List (Str×Int)},RSs H vs ss->eM K H vs (ss.map fE)
 |_,_,.nil=>.nil
 |_,_,.cons h r=>.cons (.tup (SqT.of h) (.cons (.str _) (.cons (.int _) .nil))) (RSs.dt r)
theorem mI{K:W.Frag}{H:Hp}:∀xs:List Str,eM K H (xs.map V.str) (xs.map PyData.str)
 |[]=>.nil
 |x::r=>.cons (.str x) (mI r)
theorem rE:∀xs:List Str,(∀s∈xs,PyData.strOk s=true)->PyData.canLayAll0 (xs.map PyData.str)=true/\PyData.depthAll (xs.map PyData.str)<=1
 |[],_=>by simp[PyData.canLayAll0,PyData.depthAll]
 |x::r,h=>by
  have h1:=h x qt;have h2:=rE r λs hs=>h s (qq _ hs);simp[PyData.canLayAll0,PyData.canLay0,PyData.depthAll,PyData.depth,h1,h2]
theorem wN:∀ss:List (Str×Int),(∀s∈ss,PyData.strOk s.1=true)->PyData.canLayAll0 (ss.map fE)=true/\PyData.depthAll (ss.map fE)<=2
 |[],_=>by simp[PyData.canLayAll0,PyData.depthAll]
 |x::r,h=>by
  have h1:=h x qt;have h2:=wN r λs hs=>h s (qq _ hs);simp[fE,PyData.canLayAll0,PyData.canLay0,PyData.depthAll,PyData.depth,h1];exact⟨h2.1,by have:=h2.2;omega⟩
structure RP(H:Hp)(p:Addr)(asks:List Str)(ss:List (Str×Int))(ds:List aa)(la ls lb:Addr)(us:List V):Prop where
 top:H p=some (.tup [.ref la,.ref ls,.ref lb])
 as:H la=some (.lst (asks.map V.str))
 st:H ls=some (.lst us)
 ro:RSs H us ss
 bo:RL H lb ds
theorem RP.same{H H':Hp}{p:Addr}{asks:List Str}{ss:List (Str×Int)}{ds:List aa}{la ls lb:Addr}{us:List V}(e:a8 H H')(h:RP H p asks ss ds la ls lb us):RP H' p asks ss ds la ls lb us:=
 ⟨e _ _ h.top,e _ _ h.as,e _ _ h.st,h.ro.same e,RL.same e h.bo⟩
noncomputable def dH(asks:List Str)(ss:List (Str×Int))(ds:List aa):List Str:=asks++cards ds++[(">":Str)]++ss.flatMap λs=>[s.1++(">":Str),s.1++("<":Str)]
noncomputable def eY(ws:List Str)(t:Int):Nat->List Str
 |0=>[]
 |i+1=>eY ws t i++(if aF t ((i:Int)+10) % 2=1 then[ws.getD i (">":Str)]else[])
theorem sF(ws:List Str)(t:Int):∀i,(eY ws t i).length<=i
 |0=>qg _
 |i+1=>by
  have:=sF ws t i;rw[eY];split<;>simp<;>omega
theorem yg{ws:List Str}{t:Int}:∀{i:Nat},i<=ws.length->∀x∈eY ws t i,x∈ws
 |0,_,x,h=>by simp[eY]at h
 |i+1,hi,x,h=>by
  rw[eY,qk]at h;rcases h with h|h
  .exact yg Yo x h
  .split at h
   .rw[qY]at h;subst h;rw[qp,qe Yo];exact List.getElem_mem _
   .simp at h
theorem Bv{ws rs:List Str}{asks:List Str}{ss:List (Str×Int)}{ds:List aa}(ha:∀x∈asks,x∈ws)(hs:∀s∈ss,s.1∈rs)(hd:∀x∈cards ds,x∈bA ws rs):∀x∈dH asks ss ds,x∈bA ws rs:=λx hx=>by
 unfold dH at hx;simp only[qk,List.mem_flatMap]at hx;rcases hx with((hx|hx)|hx)|⟨s,hs',hx⟩
 .unfold bA;simp only[qk];exact .inl (.inl (.inl (ha x hx)))
 .exact hd x hx
 .unfold bA;simp only[qk];exact .inr hx
 .simp only[qA,qW,or_false]at hx;unfold bA;simp only[qk,List.mem_map];rcases hx with rfl|rfl
  .exact .inl (.inl (.inr ⟨_,hs s hs',U⟩))
  .exact .inl (.inr ⟨_,hs s hs',U⟩)
theorem yf{ws:List Str}{i:Nat}(h:i<ws.length):atI (ws.map V.str) (i:Int)=some (.str (ws.getD i (">":Str))):=
 br (by rw[qK,qp,qe h];rfl)
theorem EL(ws:List Str)(h:0<ws.length):eV (ws.map V.str) none (some (-1))=ws.dropLast.map V.str:=by
 unfold eV;have e1:HT.sIx (ws.map V.str).length 0 none=0:=U
 have e2:HT.sIx (ws.map V.str).length (ws.map V.str).length (some (-1))=ws.length-1:=by
  rw[qa];show(if(-1:Int)<0 then((-1:Int)+(ws.length:Int)).toNat else min (-1:Int).toNat ws.length)=_;rw[Q8 Yk];omega
 rw[e1,e2,List.drop_zero,Nat.sub_zero,<- List.map_take,List.dropLast_eq_take]
end Tr
namespace L2
open PySem
section
variable {P:Program}{w:World}{A:Around}{E:Yq}{s:Shared}
theorem my{es:Array (Int×Value)}{t:SetTable}{ys:List Str}(T:bQ P w es t ys){e:Int×Value}(he:e∈es.toList):∃k tk,e=(hashStr w k,.str k tk)/\k∈ys:=by
 obtain⟨⟨k,hk,hh⟩,_⟩:=T.el e he;obtain⟨tk,e2⟩:=Value.isStrOf_shape hk;refine⟨k,tk,Prod.ext hh e2,(T.mem k).mp (List.mem_map.mpr ⟨e,he,lR hk⟩)⟩
theorem Bd{sets:List Addr}{Q:Bool->Shared->Prop}(h:∀b∈sets,∃es ep t ys,s.heap.get? b=some (bc es ep t)/\bQ P w es t ys)(q:Q true s):wpAny (model P w) A (setsQuiet sets) Q E s:=by
 unfold setsQuiet;refine q9 (wpAny_forIn_list _ (λrest b s'=>b.1=none/\s=s'/\∀x∈rest,x∈sets) _ ?_ ?_ sets _ ⟨U,U,λ_ h=>h⟩)
 .rintro x rest b s' ⟨hb,rfl,hm⟩;obtain⟨es,ep,t,ys,ho,T⟩:=h x (hm x qt);refine q9 (gD ho T.fit ?_);refine q9 (PySem.wpAny_forIn_array' _ (λrest b s'=>b.1=none/\s=s'/\∀e∈rest,e∈es.toList) _ ?_ ?_ es _ ⟨U,U,λ_ h=>h⟩)
  .rintro e rest2 b2 s2 ⟨hb2,rfl,hm2⟩;obtain⟨k,tk,rfl,_⟩:=my T (hm2 e qt);refine qf ⟨U,U,λz hz=>hm2 z (qq _ hz)⟩
  .rintro⟨b1,b2⟩ s2 ⟨hb2,rfl,_⟩;dsimp only at hb2;subst hb2;refine qf ⟨U,U,λz hz=>hm z (qq _ hz)⟩
 .rintro⟨b1,b2⟩ s2 ⟨hb2,rfl,_⟩;dsimp only at hb2;subst hb2;exact qf q
theorem yF{a:Addr}{es:Array (Int×Value)}{ep:Nat}{t:SetTable}{ys:List Str}{Q:Array (Int×Value)->Shared->Prop}(hs:s.heap.get? a=some (bc es ep t))(T:bQ P w es t ys)
 (h:∀arr d,arr.toList.Perm es.toList->Q arr { s with drawn:=d }):wpAny (model P w) A (setWalk a) Q E s:=by
 unfold setWalk;refine q9 (Q4 hs U T.fit ?_);dsimp only;refine q9 (iC ?_);by_cases hb:w.params.followText "set-order"=true
 .rw[Q8 hb];exact q9 (wpAny_askSetting (qf (h _ s.drawn (vN _ es))))
 .rw[Q7 hb];show wpAny _ _ (if(!t.plain && decide (es.size > 1))=true then _ else _) _ _ _;split
  .refine q9 (rV es.size es.toList s _ (by simp) λzs d hp=>qf ?_);exact h _ d (by simpa using hp)
  .have hl:t.led=true:=by rw[T.led];simpa using hb
   show wpAny _ _ ((if(!t.led && decide (es.size > 1))=true then _ else _) >>= _) _ _ _;rw[hl];refine q9 ?_;simp only[Bool.not_true,Bool.false_and,Qq,if_false];exact qf (qf (h es s.drawn (.refl _)))
end
section
variable {P:Program}{w:World}{A:Around}{E:Yq}{s:Shared}
theorem Ah:entryFor table "set.__sub__"=some Builtin.«frozenset.__sub__»:=entryFor_alias (id':="frozenset.__sub__") (by kernel_rfl) U Yd (by kernel_rfl)
theorem yR{t:SetTable}{l p:Bool}(T:bQ P w #[] t [])(hl:l=t.led):bQ P w #[] { t with led:=l,plain:=p } []:=
 ⟨T.el,T.nd,T.mem,T.few,T.fit,hl.trans T.led,λz=>Qb z (Qi 0)⟩
theorem yE{a o r:Addr}{es es2:Array (Int×Value)}{ep ep2 er:Nat}{t t2 tr:SetTable}{ys zs:List Str}{Q:Array (Int×Value)->Shared->Prop}(hs:s.heap.get? a=some (bc es ep t))(T:bQ P w es t ys)
 (ho:s.heap.get? o=some (bc es2 ep2 t2)) (T2:bQ P w es2 t2 zs) (hr:s.heap.get? r=some (bc #[] er tr)) (Tr:bQ P w #[] tr [])
 (h:∀arr h' d er' tr',arr.toList.Perm es.toList->Heap.SameBut r s.heap h'->h'.get? r=some (bc #[] er' tr')->bQ P w #[] tr' []->Q arr { s with heap:=h',drawn:=d }):wpAny (model P w) A (setWalkUnseen a [o,r] (some r)) Q E s:=by
 have old:∀arr d,arr.toList.Perm es.toList->Q arr { s with drawn:=d }:=λarr d hp=>h arr s.heap d er tr hp (Heap.SameBut.refl r s.heap) hr Tr;unfold setWalkUnseen;refine q9 (Q4 hs U T.fit ?_);dsimp only;refine q9 (iC ?_);split
 .exact yF hs T old
 .refine q9 (Bd (λb hb=>?_) ?_)
  .simp only[qA,qW,or_false]at hb;rcases hb with rfl|rfl|rfl
   .exact⟨_,_,_,_,hs,T⟩
   .exact⟨_,_,_,_,ho,T2⟩
   .exact⟨_,_,_,_,hr,Tr⟩
  .simp only[Bool.not_true,Qq,if_false];refine q9 (wpAny_rule ?_);refine q9 (Q4 hr U Tr.fit ?_);dsimp only;split
   .refine q9 (wpAny_storeSet_of hr U ?_ Yk);refine qf (h es _ s.drawn _ _ (.refl _) (Heap.SameBut.update _ r _) (mL (s:=s) hr) (yR Tr ?_));rw[Tr.led,T.led];simp
   .exact qf (old es s.drawn (.refl _))
theorem Ek{o:Addr}{es:Array (Int×Value)}{ep:Nat}{t:SetTable}{zs:List Str}{k:Str}{tk:Tok}{Q:Option Nat->Shared->Prop}(ho:s.heap.get? o=some (bc es ep t))(T:bQ P w es t zs)
 (h:∀r:Option Nat,r.isSome=decide (k∈zs)->Q r s):wpAny (model P w) A (setFind o (.str k tk) (hashStr w k)) Q E s:=by
 refine wpAny_setFind_of (knd:=strKind P w) (k:=k) (S:=λk=>decide (k∈zs)) (n:=es.size) (by show Value.isStrOf k (.str k tk)=true;simp[Value.isStrOf]) U ⟨_,es,ep,t,ho,?_,U,T.el,λk'=>?_,T.few,T.fit,U⟩ h
 .exact⟨U,U,U⟩
 .rw[decide_eq_true_iff,<- T.mem,List.mem_map];constructor
  .rintro⟨e,he,rfl⟩;obtain⟨k,tk,rfl,_⟩:=my T he;exact⟨_,he,by show Value.isStrOf k (.str k tk)=true;simp[Value.isStrOf]⟩
  .rintro⟨e,he,hk⟩;exact⟨e,he,lR hk⟩
theorem sH{v:Value}{Q:Bool->Shared->Prop}(ty:s.TypeIs v "set")(h:Q true s):wpAny (model P w) A (Builtin.Frozenset.isAnySet v) Q E s:=by
 unfold Builtin.Frozenset.isAnySet;exact q9 (wpAny_isInstance (b:=true) ty kH (qf h))
set_option maxHeartbeats 3200000 in
theorem zx{a o:Addr}{es es2:Array (Int×Value)}{ep ep2:Nat}{t t2:SetTable}{ys zs:List Str}{Q:Yq}(hs:s.heap.get? a=some (bc es ep t))(T:bQ P w es t ys)
 (ho:s.heap.get? o=some (bc es2 ep2 t2)) (T2:bQ P w es2 t2 zs) (few:es.size<4)
 (h:∀h' d es' ep' t',h'.get? s.heap.objs.size=some (bc es' ep' t')->bQ P w es' t' (ys.filter λk=>!decide (k∈zs))->
  (∀b ob,s.heap.get? b=some ob->h'.get? b=some ob)->Q (.ref s.heap.objs.size) { s with heap:=h',drawn:=d }):wpAny (model P w) A (binaryOp .Sub (.ref a) (.ref o)) Q E s:=by
 have ta:s.TypeIs (.ref a) "set":=⟨_,hs,U⟩;have to:s.TypeIs (.ref o) "set":=⟨_,ho,U⟩;have k1:=kH;refine wpAny_binaryOp_same (op:=.Sub) (T:="set") ta to F.fills_set_sub F.slot_set_sub (Qp F.slot_set_sub ta Ah ?_ (F.args_set_sub_2 _ _));unfold Builtin.«frozenset.__sub__»;refine q9 (m:=Builtin.Frozenset.slot1 "__sub__" ⟨[.ref a,.ref o],[]⟩) (qf ?_);dsimp only;simp only[Qq,if_false];refine q9 (q9 (sH ta (sH to ?_)));simp only[Bool.not_true,Qq,if_false];refine q9 (qf ?_);refine q9 ?_;unfold Builtin.Frozenset.difference;refine q9 (sH to ?_);simp only[Bool.not_true,Qq,if_false];refine q9 (qf ?_);simp only[Bool.false_and,Qq,if_false,if_true];unfold Builtin.Frozenset.sizeOf;refine q9 (q9 (gD ho T2.fit (qf ?_)));refine q9 (q9 (gD hs T.fit (qf ?_)));rw[Q7 Yo];unfold Builtin.Frozenset.baseOf;refine q9 (q9 (wpAny_isInstance (b:=true) ta kH (qf ?_)));simp only[if_true];refine q9 ?_;unfold newSet;refine q9 (iC ?_);dsimp only;refine wpAny_newObj_type ?_;refine q9 (qf ?_);have ga:∀b ob,s.heap.get? b=some ob->(s.heap.push (cT w)).get? b=some ob:=λb ob q=>qb _ q;have gr:(s.heap.push (cT w)).get? s.heap.objs.size=some (cT w):=qu _ U;have na:∀b ob,s.heap.get? b=some ob->b≠s.heap.objs.size:=λb ob q=>qM (qv q);refine q9 (wpAny_setEpoch_of (s:={ s with heap:=s.heap.push (cT w) }) (ga _ _ hs) U T.fit ?_);refine q9 (QB ?_);refine q9 (yE (s:={ s with heap:=s.heap.push (cT w) }) (ga _ _ hs) T (ga _ _ ho) T2 gr tq λarr h1 d er tr hp sb hr Tr=>?_);refine q9 (PySem.wpAny_forIn_array' _ (λrest _ s'=>∃h2 es' ep' t' past,past++rest=arr.toList/\s'={ s with heap:=h2,drawn:=d }/\Heap.SameBut s.heap.objs.size (s.heap.push (cT w)) h2/\h2.get? s.heap.objs.size=some (bc es' ep' t')/\bQ P w es' t' ((past.map λe:Int×Value=>txt e.2).filter λk=>!decide (k∈zs))/\es'.size<=past.length) _ ?_ ?_ arr _ ⟨h1,#[],er,tr,[],U,U,sb,hr,Tr,qg _⟩)
 .rintro x rest b s' ⟨h2,es',ep',t',past,hpa,rfl,sb2,hr2,Tr2,hle⟩;have xm:x∈es.toList:=hp.mem_iff.mp (by rw[<- hpa];simp);obtain⟨k,tk,rfl,_⟩:=my T xm
  have pl:past.length+(rest.length+1)=es.size:=by
   have:=congrArg List.length hpa;rw[hp.length_eq]at this;simpa using this
  have get2:∀b ob,s.heap.get? b=some ob->h2.get? b=some ob:=λb ob q=>by
   rw[sb2.2 _ (na b ob q)];exact ga b ob q
  refine q9 (QB ?_);refine q9 (Ek (s:={ s with heap:=h2,drawn:=d }) (get2 _ _ ho) T2 λr hr=>?_);refine q9 (qf ?_);rw[hr]
  have fin:∀h3 es3 ep3 t3,Heap.SameBut s.heap.objs.size (s.heap.push (cT w)) h3->h3.get? s.heap.objs.size=some (bc es3 ep3 t3)->bQ P w es3 t3 (((past++[(hashStr w k,Value.str k tk)]).map λe:Int×Value=>txt e.2).filter λk=>!decide (k∈zs))->es3.size<=past.length+1->
   wpAny (model P w) A.in1 (do
    Builtin.Frozenset.unchanged (toString "frozenset."++toString "__sub__") a ep
    pure (ForInStep.yield PUnit.unit)) (λr s'=>match r with
     |.yield b'=>∃h2 es' ep' t' past,past++rest=arr.toList/\s'={ s with heap:=h2,drawn:=d }/\Heap.SameBut s.heap.objs.size (s.heap.push (cT w)) h2/\h2.get? s.heap.objs.size=some (bc es' ep' t')/\bQ P w es' t' ((past.map λe:Int×Value=>txt e.2).filter λk=>!decide (k∈zs))/\es'.size<=past.length
     |.done b'=>False) E { s with heap:=h3,drawn:=d }:=λh3 es3 ep3 t3 sb3 hr3 Tr3 hle3=>by
   unfold Builtin.Frozenset.unchanged;have g3:h3.get? a=some (bc es ep t):=by rw[sb3.2 _ (na _ _ hs)];exact ga _ _ hs
   refine q9 (q9 (wpAny_setEpoch_of (s:={ s with heap:=h3,drawn:=d }) g3 U T.fit ?_));simp only[bne_self_eq_false,Qq,if_false];refine qf (qf ⟨h3,es3,ep3,t3,past++[(hashStr w k,Value.str k tk)],by rw[<- hpa];simp,U,sb3,hr3,Tr3,by simpa using hle3⟩)
  by_cases hk:k∈zs
  .rw[Q9 hk];simp only[Bool.not_true,Qq,if_false];refine qf (wpAny_mono (fin h2 es' ep' t' sb2 hr2 ?_ Yo) (λr s' hr=>?_) λ_ _ h=>h)
   .rw[qU,Qy];have:([(hashStr w k,Value.str k tk)].map λe:Int×Value=>txt e.2).filter (λk=>!decide (k∈zs))=[]:=by simp[txt,hk]
    rw[this,qE];exact Tr2
   .cases r with
    |done _=>exact hr.elim
    |yield _=>exact hr
  .rw[Qa hk];simp only[Bool.not_false,if_true];refine q9 (yi (s:={ s with heap:=h2,drawn:=d }) hr2 Tr2 (by unfold scanBound;omega) λb h3 es3 ep3 t3 sb3 hr3 Tr3 le3=>qf ?_);refine wpAny_mono (fin h3 es3 ep3 t3 (sb2.trans sb3) hr3 ?_ Yo) (λr s' hr=>?_) λ_ _ h=>h
   .rw[qU,Qy];have:([(hashStr w k,Value.str k tk)].map λe:Int×Value=>txt e.2).filter (λk=>!decide (k∈zs))=[k]:=by simp[txt,hk]
    rw[this];exact Tr3
   .cases r with
    |done _=>exact hr.elim
    |yield _=>exact hr
 .rintro b s' ⟨h2,es',ep',t',past,hpa,rfl,sb2,hr2,Tr2,hle⟩;rw[qE]at hpa;subst hpa;refine qf (qf (qf ⟨_,U,(λz=>by cases z),h h2 d es' ep' t' hr2 ⟨Tr2.el,Tr2.nd,λk=>?_,Tr2.few,Tr2.fit,Tr2.led,Tr2.pl⟩ λb ob q=>?_⟩))
  .rw[Tr2.mem k,List.mem_filter,List.mem_filter,<- T.mem k];exact and_congr_left' ((hp.map λe:Int×Value=>txt e.2).mem_iff)
  .rw[sb2.2 _ (na b ob q)];exact ga b ob q
end
end L2
namespace L2
open PySem PySem.Spec PyProof.Rows
section
variable {X:Cx}
def AX(P:Program)(w:World):R2:=λx y H Q=>∃(a o:Addr)(ys zs:List Str),x=.ref a/\y=.ref o/\H a=some (ee P w a ys)/\H o=some (ee P w o zs)/\ys.length<4/\∀p,H p=none->Q (.ref p) (upd H p (ee P w p (ys.filter λk=>!decide (k∈zs))))
theorem BU:OpR X (binaryOp .Sub) (AX X.prog X.w):=by
 intro pins s Y H x y v u Q I rx ry h;obtain⟨a,o,ys,zs,rfl,rfl,hA,hO,hz,q⟩:=h;cases rx;cases ry;obtain⟨⟨es,ep,t,e1,T1⟩,_,_⟩:=I.hok a _ hA;obtain⟨⟨es2,ep2,t2,e2,T2⟩,_,_⟩:=I.hok o _ hO
 have few:es.size<4:=by
  have:=iw T1.nd λx hx=>(T1.mem x).mp hx;rw[qa,qS]at this;omega
 refine zx e1 T1 e2 T2 few λh' d es' ep' t' g T' old=>?_;have J:=I.laid (t':=s.toks) (h':=h') (a:=s.heap.objs.size) (o:=ee X.prog X.w s.heap.objs.size (ys.filter λk=>!decide (k∈zs))) old (qg _) (ee.ok g T');exact⟨.ref s.heap.objs.size,_,Inv.redrawn (s:=s) J U U,U,q _ (I.hok.fresh (qg _))⟩
end
section
variable {X:Cx}
theorem Fc(hc:X.calm=true):cJ X (.builtin "sorted") (λxs H Q=>∃(p:Addr)(ys:List Str),xs=[.ref p]/\SqL X.K H p (ys.map V.str)/\ys.length<64 /\
 ∀l zs,H l=none->zs.Perm ys->sortedS zs=true->Q (.ref l) (upd H l (.lst (zs.map V.str)))):=by
 intro pins s Y H xs us Q I r h;obtain⟨p,ys,rfl,hq,hz,q⟩:=h;obtain⟨u,rfl,rx⟩:=fV r;cases rx;obtain⟨its,r',pl,_⟩:=I.list hq;have hlen:=r'.length;rw[qa]at hlen;refine sorted_strs (vs:=its) pl.isList (mH r') Yo λout zs hS hp so=>?_;obtain⟨n,at1⟩:=sortedAll_at s.heap its out;have lz:zs.length<=sizeLine:=by rw[hp.length_eq];exact qF (Nat.le_of_lt hz) Yk
 have J:=I.laid (t':=s.toks) (h':=sortedAll s.heap its out) (a:=s.heap.objs.size+1) (o:=.lst (zs.map V.str)) (λb o q=>sortedAll_old q) (Nat.le_succ _) ⟨by rw[qa];exact lz,out.toList,n,pO hS,at1⟩;exact⟨.ref (s.heap.objs.size+1),_,J,U,q _ zs (I.hok.fresh (Nat.le_succ _)) hp so⟩
end
noncomputable def Ite(K:W.Frag)(l:Addr):It:=
 ⟨λi H=>∃xs x,SqL K H l xs/\xs[i]?=some x,
  λi H v H'=>∃p x,H p=none/\v=.ref p/\H'=upd H p (.tup [.int i,x])/\∀xs,SqL K H l xs->xs[i]?=some x,
  λi H=>∃xs,SqL K H l xs/\xs.length<=i⟩
theorem yN{P:Program}{w:World}{K:W.Frag}{elts:List Expr}{kk:Nat}{tp:Pos}(e it l:Addr)(ne:e≠it):
 iG P w K (.Tuple elts kk tp) (Ite K l) [e,it] e (λi h=>(∃old,IsEnum h e it i old)/\h.IsListIter it l i) where
 mem:=by simp
 obj:=λi h st b hb=>by
  obtain⟨⟨old,he⟩,o,eo,c,d⟩:=st;simp only[qA,qW,or_false]at hb;rcases hb with rfl|rfl
  .exact⟨_,he,λv q=>by cases q⟩
  .exact⟨o,eo,λv q=>by rw[d]at q;cases q⟩
 keep:=λi h h' st k=>by
  obtain⟨⟨old,he⟩,o,eo,r⟩:=st;exact⟨⟨old,k e (by simp) _ he⟩,o,k it (by simp) o eo,r⟩
 item:=by
  intro X hP hw hK hc i pins s Y H E I hf st hg;subst hP hw hK;obtain⟨⟨old,he⟩,hit⟩:=st;obtain⟨xs,x,hx,ex⟩:=hg;obtain⟨its,rv,pl,z1⟩:=I.list hx;obtain⟨u,hu,ru⟩:=rv.get ex;refine wpAny_pyNext_enum_item he hit pl.isList (x:=u) (by simpa using hu) ne λg a1 a2 a3 a4 a5=>⟨_,U,?_⟩;refine wpAny_letOwnedTupleGo_enum a1 λg' a1' sb=>?_
  have hT:∀b∈[e,it],s.heap.objs.size≠b:=λb hb=>by
   simp only[qA,qW,or_false]at hb;rcases hb with rfl|rfl
   .exact Nat.ne_of_gt (qv he)
   .obtain⟨o,eo,_⟩:=hit;exact Nat.ne_of_gt (qv eo)
  have ky:∀b o,b∉[e,it]->s.heap.get? b=some o->g'.get? b=some o:=λb o hb q=>by
   simp only[qA,qW,or_false,not_or]at hb;exact sb.extBut _ _ hb.1 (a5 b o hb.1 hb.2 q)
  have I1:Inv X pins Y H { s with heap:=g',toks:=s.toks+1 }:=I.turnedL (t':=s.toks+1) ky hf;have pT:=sb.extBut _ _ (hT e (by simp)) a3;have fT:dk X pins H s.heap.objs.size:=I.fpOk (qg _) (I.hok.fresh (qg _));have I2:Inv X pins Y (upd H s.heap.objs.size (.tup [.int i,x])) { s with heap:=g',toks:=s.toks+1 }:=I1.track fT I.sz ⟨by show 2<=sizeLine;decide,[.int i s.toks,u],.cons ⟨_,U⟩ (.cons ru .nil),⟨_,pT,U,_,U⟩⟩;refine⟨.ref s.heap.objs.size,_,I2,U,⟨_,x,I.hok.fresh (qg _),U,U,λxs' h=>by rw[I.list_inj h hx];exact ex⟩,⟨⟨u,a1'⟩,?_⟩,λb hb=>?_⟩
  .obtain⟨o,eo,r⟩:=a2;exact⟨o,sb.extBut _ _ (Ne.symm ne) eo,r⟩
  .rw[af (Ne.symm (hT b hb))];exact(hf b hb).1
 done:=by
  intro X hP hw hK hc i pins s Y H E I hf st hg;subst hP hw hK;obtain⟨⟨old,he⟩,hit⟩:=st;obtain⟨xs,hx,hend⟩:=hg;obtain⟨its,rv,pl,z1⟩:=I.list hx;have e1:=rv.length;refine wpAny_pyNext_enum_end (I.ok.hd hc) he hit pl.isList (by simp;omega) λg k=>⟨U,I.turnedL (t':=s.toks) (ch:=[e,it]) (λb o hb q=>?_) hf⟩;simp only[qA,qW,or_false,not_or]at hb;exact k b o hb.2 q
 self:=λ_ _ _ _ _ st h=>by
  obtain⟨⟨old,he⟩,_⟩:=st;exact wpAny_pyIter_enum he h
section
variable {X:Cx}
def E4(K:W.Frag)(ta:TA):TI:=λY H R=>ta Y H λvs H1=>∃l xs,vs=[.ref l]/\SqL K H1 l xs/\R (Ite K l) H1
theorem kZ{a:Expr}{ta:TA}{p pos tp:Pos}{elts:List Expr}{kk:Nat}(hg:Gl X "enumerate")(hm:X.mg "enumerate"=none)(ha:PA X [a] ta)(hs:starEach [a] X.env=[(false,eval a X.env)]:=by rfl):
 PI X (.Tuple elts kk tp) (.Call (.Name "enumerate" p) [a] [] pos) (E4 X.K ta):=by
 intro pins s Y H R I h;refine Call_ (gU I hg hm PyProof.Rows.Boot.«enumerate» (PyProof.Rows.callWith_type1 (thn (ha pos pins s Y H _ I h) λus s1 ⟨vs,H1,I1,r1,q1⟩=>?_) (by rw[hs];rfl) (by rfl)));obtain⟨l,xs,rfl,hx,q⟩:=q1;obtain⟨u,rfl,ru⟩:=fV r1;cases ru;obtain⟨its,rv,pl,z1⟩:=I1.list hx;refine call_enumerate_list pl.isList λg a1 a2 a3 k=>?_;refine wpAny_pyIter_enum a1 ⟨s1.heap.objs.size+1,[s1.heap.objs.size+1,s1.heap.objs.size],_,_,H1,U,I1.kept (t':=s1.toks) k,yN _ _ l (Nat.succ_ne_self _),⟨⟨_,a1⟩,a2⟩,λb hb=>?_,q⟩;simp only[qA,qW,or_false]at hb;rcases hb with rfl|rfl
 .exact I1.fpOk (Nat.le_succ _) (I1.hok.fresh (Nat.le_succ _))
 .exact I1.fpOk (qg _) (I1.hok.fresh (qg _))
end
theorem lX{K:W.Frag}{l:Addr}{xs:List V}{g:TG}{tb:TS}{D:fA}{Y:St}{H:Hp}(Pv:Nat->St->Hp->Prop)(h0:Pv 0 Y H)(hl:∀i Y H,Pv i Y H->SqL K H l xs)
 (hs:∀i x Y H p,xs[i]?=some x->Pv i Y H->H p=none->g (.ref p) Y (upd H p (.tup [.int i,x])) λY2 H2=>tb { D with nx:=Pv (i+1),ct:=Pv (i+1),bk:=D.nx } Y2 H2)
 (hd:∀Y H,Pv xs.length Y H->D.nx Y H):
 ∃W:Nat->Nat->St->Hp->Prop,(∃m,W 0 m Y H)/\∀i m Y H,W i m Y H->
  ((Ite K l).stop i H/\D.nx Y H)\/((Ite K l).go i H/\∃N:St->Hp->Prop,(∀Y' H',N Y' H'->∃m',m'<m/\W (i+1) m' Y' H')/\∀x H',(Ite K l).yld i H x H'->g x Y H' λY2 H2=>tb { D with nx:=N,ct:=N,bk:=D.nx } Y2 H2):=by
 refine⟨λi m Y H=>m=xs.length-i/\i<=xs.length/\Pv i Y H,⟨_,U,qz _,h0⟩,?_⟩;rintro i m Y H ⟨rfl,hi,p⟩;have q:=hl i Y H p;by_cases lt:i<xs.length
 .refine .inr ⟨⟨xs,xs[i],q,by simp[lt]⟩,Pv (i+1),λY' H' p'=>⟨_,Yo,U,lt,p'⟩,λv H' y=>?_⟩;obtain⟨a,x,hn,rfl,rfl,e1⟩:=y;exact hs i x Y H a (e1 xs q) p hn
 .obtain rfl:i=xs.length:=by omega
  exact .inl ⟨⟨xs,q,qg _⟩,hd Y H p⟩
end L2
namespace L2
theorem ce.one{n:Nat}{A:PySem.Around}(h:ce n A):A.units+1<PySem.cLine:=by
 have:=h.units;omega
end L2
namespace Tr
open PySem PySem.Spec PyProof.Rows L2
theorem uS:∀{a b:List Str},a.Perm b->sortedS a=true->sortedS b=true->a=b
 |[],b,h,_,_=>(List.nil_perm.mp h).symm
 |x::r,[],h,_,_=>Qb h.length_eq (by simp)
 |x::r,y::s,h,sa,sb=>by
  have e:x=y:=by
   rcases qA.mp (h.mem_iff.mp (qt (a:=x)))with e|hx
   .exact e
   rcases qA.mp (h.mem_iff.mpr (qt (a:=y)))with e|hy
   .exact e.symm
   exact tI (List.le_antisymm (jv r x sa y hy) (jv s y sb x hx))
  subst e;rw[uS ((List.perm_cons x).mp h) (kU sa) (kU sb)]
noncomputable def srt(l:List Str):List Str:=by
 classical
 exact if h:∃zs:List Str,zs.Nodup/\(∀k,k∈zs↔k∈l)/\sortedS zs=true then Classical.choose h else[]
theorem kB{l zs:List Str}(nd:zs.Nodup)(hm:∀k,k∈zs↔k∈l)(so:sortedS zs=true):zs=srt l:=by
 have h:∃zs:List Str,zs.Nodup/\(∀k,k∈zs↔k∈l)/\sortedS zs=true:=⟨zs,nd,hm,so⟩;unfold srt;rw[dif_pos h];obtain⟨a,b,c⟩:=Classical.choose_spec h;exact uT nd a so c λk=>(hm k).trans (b k).symm
noncomputable def eN(l:List Str):List Str:=by
 classical
 exact if h:∃zs:List Str,zs.Perm l/\sortedS zs=true then Classical.choose h else[]
theorem tU{l zs:List Str}(hp:zs.Perm l)(so:sortedS zs=true):zs=eN l:=by
 have h:∃zs:List Str,zs.Perm l/\sortedS zs=true:=⟨zs,hp,so⟩;unfold eN;rw[dif_pos h];obtain⟨a,b⟩:=Classical.choose_spec h;exact uS (hp.trans a.symm) so b
structure Row where
 kind:Str
 owns:List Str
 reads:List Str
 into:Option Str
 outof:Option Str
noncomputable def cO:Option Str->V
 |none=>.non
 |some q=>.str q
def cH(H:Hp)(v:V)(r:Row):Prop:=∃p po pr,v=.ref p/\H p=some (.tup [.str r.kind,.ref po,.ref pr,cO r.into,cO r.outof])/\H po=some (.tup (r.owns.map V.str))/\H pr=some (.tup (r.reads.map V.str))
theorem cH.same{H H':Hp}{v:V}{r:Row}(e:a8 H H')(h:cH H v r):cH H' v r:=by
 obtain⟨p,po,pr,rfl,h1,h2,h3⟩:=h;exact⟨p,po,pr,U,e _ _ h1,e _ _ h2,e _ _ h3⟩
inductive aX(H:Hp):List V->List Row->Prop
 |nil:aX H [] []
 |cons {v:V}{vs:List V}{r:Row}{rs:List Row}:cH H v r->aX H vs rs->aX H (v::vs) (r::rs)
theorem aX.same{H H':Hp}(e:a8 H H'):∀{vs:List V}{rs:List Row},aX H vs rs->aX H' vs rs
 |_,_,.nil=>.nil
 |_,_,.cons h r=>.cons (h.same e) (aX.same e r)
theorem aX.snoc{H:Hp}{v:V}{r:Row}(h:cH H v r):∀{vs:List V}{rs:List Row},aX H vs rs->aX H (vs++[v]) (rs++[r])
 |_,_,.nil=>.cons h .nil
 |_,_,.cons h' t=>.cons h' (aX.snoc h t)
theorem aX.len{H:Hp}:∀{vs:List V}{rs:List Row},aX H vs rs->vs.length=rs.length
 |_,_,.nil=>rfl
 |_,_,.cons _ t=>congrArg (·+1) (aX.len t)
theorem aX.at{H:Hp}:∀{vs:List V}{rs:List Row},aX H vs rs->∀(i:Nat)(v:V),vs[i]?=some v->∃r,rs[i]?=some r/\cH H v r
 |_,_,.nil,i,v,h=>by simp at h
 |_,_,.cons (r:=r) h' t,0,v,h=>by
  simp at h;subst h;exact⟨r,U,h'⟩
 |_,_,.cons h' t,i+1,v,h=>aX.at t i v (by simpa using h)
noncomputable def aL:aa->Row
 |.set x a sg b=>⟨"set",[x],srt ((a.names++b.names).filter λy=>!decide (y=x)),none,none⟩
 |.put q x=>⟨"put",[q++(">":Str)],[x],some q,none⟩
 |.get q x=>⟨"get",eN [x,q++("<":Str)],[],none,some q⟩
 |.give x=>⟨"give",[(">":Str)],[x],none,none⟩
 |.cond x t o=>⟨"if",srt (cards [.cond x t o]),[],none,none⟩
 |.whl x b=>⟨"while",srt (cards [.whl x b]),[],none,none⟩
 |.rep n b=>⟨"repeat",srt (cards [.rep n b]),[],none,none⟩
theorem cH.new{H:Hp}{p po pr:Addr}{r:Row}(h1:H po=some (.tup (r.owns.map V.str)))(h2:H pr=some (.tup (r.reads.map V.str)))(hp:H p=none):cH (upd H p (.tup [.str r.kind,.ref po,.ref pr,cO r.into,cO r.outof])) (.ref p) r:=
 ⟨p,po,pr,U,ag,a8.new hp _ _ _ h1,a8.new hp _ _ _ h2⟩
noncomputable def bal(rs:List Row)(q:Str):Int:=((rs.filter λr=>decide (r.into=some q)).length:Int)-((rs.filter λr=>decide (r.outof=some q)).length:Int)
theorem fu(rs:List Row)(r:Row)(q:Str):bal (rs++[r]) q=bal rs q+(if r.into=some q then 1 else 0)-(if r.outof=some q then 1 else 0):=by
 unfold bal;rw[Qy,Qy,qc,qc];by_cases h1:r.into=some q<;>by_cases h2:r.outof=some q<;>simp[h1,h2]<;>omega
def Fed(rs:List Row):Prop:=∀i r q,rs[i]?=some r->r.outof=some q->0<bal (rs.take i) q
def dM(r:Row):Prop:=r.into=none\/r.outof=none
def k7(kvs:List (Key×V))(rs:List Row):Prop:=∀q:Str,(aJ kvs (.inr q)).getD (.int 0)=.int (bal rs q)
def yn(ds:List aa):Prop:=∀d∈ds,∀n b,d≠.rep n b
noncomputable def eU(asks:List Str)(ss:List (Str×Int))(ds:List aa):Row:=⟨"end",srt (dH asks ss ds),[],none,none⟩
theorem vn(d:aa):dM (aL d):=by
 cases d<;>simp[dM,aL]
theorem Fed.snoc{rs:List Row}{r:Row}(h:Fed rs)(hr:r.outof=none):Fed (rs++[r]):=λi r' q hi ho=>by
 by_cases lt:i<rs.length
 .rw[Qc lt]at hi;rw[List.take_append_of_le_length (Nat.le_of_lt lt)];exact h i r' q hi ho
 .rw[qR (Nat.not_lt.mp lt)]at hi
  have:r'=r:=by
   cases e:i-rs.length with
   |zero=>rw[e]at hi;exact(qP hi).symm
   |succ n=>rw[e]at hi;simp at hi
  rw[this,hr]at ho;cases ho
noncomputable def aa.word:aa->Str
 |.set ..=>"set"
 |.put ..=>"put"
 |.get ..=>"get"
 |.give ..=>"give"
 |.cond ..=>"if"
 |.whl ..=>"while"
 |.rep ..=>"repeat"
theorem RD.tuple{H:Hp}{v:V}{d:aa}(h:RD H v d):∃p r,v=.ref p/\H p=some (.tup (.str d.word::r)):=by
 cases h with
 |set h=>exact⟨_,_,U,h⟩
 |put h=>exact⟨_,_,U,h⟩
 |get h=>exact⟨_,_,U,h⟩
 |give h=>exact⟨_,_,U,h⟩
 |cond h _ _=>exact⟨_,_,U,h⟩
 |whl h _=>exact⟨_,_,U,h⟩
 |rep h _=>exact⟨_,_,U,h⟩
theorem cH.off{H:Hp}{c:Addr}{xs:List V}{o:HO}{v:V}{r:Row}(hc:H c=some (.lst xs))(h:cH H v r):cH (upd H c o) v r:=by
 obtain⟨p,po,pr,rfl,h1,h2,h3⟩:=h;have ne:∀b ys,H b=some (.tup ys)->b≠c:=λb ys q z=>by rw[z,hc]at q;cases q
 exact⟨p,po,pr,U,by rw[af (ne _ _ h1)];exact h1,by rw[af (ne _ _ h2)];exact h2,by rw[af (ne _ _ h3)];exact h3⟩
theorem aX.off{H:Hp}{c:Addr}{xs:List V}{o:HO}(hc:H c=some (.lst xs)):∀{vs:List V}{rs:List Row},aX H vs rs->aX (upd H c o) vs rs
 |_,_,.nil=>.nil
 |_,_,.cons h r=>.cons (h.off hc) (aX.off hc r)
theorem at0{α:Type}{v:α}{r:List α}:atI (v::r) (0:Int)=some v:=br (j:=0) U
theorem sT{d:aa}(h:∀n b,d≠.rep n b):V.str d.word≠V.str "repeat":=by
 cases d with
 |rep n b=>exact Qb U (h n b)
 |_=>exact λz=>Qb (V.str.inj z) (by simp only[aa.word];decide +kernel)
theorem xJ:∀{ds:List aa}{i:Nat}{d:aa},ds[i]?=some d->d.depth<=aP ds
 |[],_,_,h=>by simp at h
 |e::r,0,d,h=>by
  simp at h;subst h;rw[aP];exact Nat.le_max_left _ _
 |e::r,i+1,d,h=>by
  have:=xJ (ds:=r) (i:=i) (by simpa using h);rw[aP];omega
theorem rS{ds:List aa}{i:Nat}{d:aa}(h:ds[i]?=some d):d.flat.length<=(aj ds).length/\∀e∈d.flat,e∈aj ds:=by
 have sp:ds=ds.take i++([d]++ds.drop (i+1)):=by
  rw[<- qT,show ds.take i++[d]=ds.take (i+1)by rw[qy,h];rfl,QA]
 have e:aj ds=aj (ds.take i)++(d.flat++aj (ds.drop (i+1))):=by
  conv=>lhs;rw[sp]
  rw[eT,eT,aj,aj,qE]
 rw[e];refine⟨by simp only[qc];omega,λx hx=>by simp[hx]⟩
theorem xZ{ds:List aa}{i:Nat}{d:aa}(h:ds[i]?=some d):∀q∈cards [d],q∈cards ds:=λq hq=>by
 unfold cards at *;rw[aj,aj,qE]at hq;obtain⟨e,he,hq⟩:=List.mem_flatMap.mp hq;exact List.mem_flatMap.mpr ⟨e,(rS h).2 e he,hq⟩
end Tr
namespace L2
open PySem PySem.Spec PyProof.Rows
end L2
namespace Tr
open PySem PySem.Spec PyProof.Rows L2
inductive RMs(H:Hp):List V->List (Str×Str)->Prop
 |nil:RMs H [] []
 |cons {p:Addr}{vs:List V}{m:Str×Str}{ms:List (Str×Str)}:H p=some (.tup [.str m.1,.str m.2])->RMs H vs ms->RMs H (.ref p::vs) (m::ms)
theorem RMs.same{H H':Hp}(e:a8 H H'):∀{vs:List V}{ms:List (Str×Str)},RMs H vs ms->RMs H' vs ms
 |_,_,.nil=>.nil
 |_,_,.cons h r=>.cons (e _ _ h) (RMs.same e r)
theorem RMs.off{H:Hp}{c:Addr}{xs:List V}{o:HO}(hc:H c=some (.lst xs)):∀{vs:List V}{ms:List (Str×Str)},RMs H vs ms->RMs (upd H c o) vs ms
 |_,_,.nil=>.nil
 |_,_,.cons (p:=p) h r=>.cons (by rw[af (λz=>by rw[z,hc]at h;cases h)];exact h) (RMs.off hc r)
theorem RMs.snoc{H:Hp}{p:Addr}{m:Str×Str}(h:H p=some (.tup [.str m.1,.str m.2])):∀{vs:List V}{ms:List (Str×Str)},RMs H vs ms->RMs H (vs++[.ref p]) (ms++[m])
 |_,_,.nil=>.cons h .nil
 |_,_,.cons h' r=>.cons h' (RMs.snoc h r)
theorem RMs.len{H:Hp}:∀{vs:List V}{ms:List (Str×Str)},RMs H vs ms->vs.length=ms.length
 |_,_,.nil=>rfl
 |_,_,.cons _ r=>congrArg (·+1) (RMs.len r)
theorem RMs.at{H:Hp}:∀{vs:List V}{ms:List (Str×Str)},RMs H vs ms->∀(i:Nat)(v:V),vs[i]?=some v->∃p m,v=.ref p/\ms[i]?=some m/\H p=some (.tup [.str m.1,.str m.2])
 |_,_,.nil,i,v,h=>by simp at h
 |_,_,.cons (p:=p) (m:=m) h' r,0,v,h=>by
  simp at h;exact⟨p,m,h.symm,U,h'⟩
 |_,_,.cons h' r,i+1,v,h=>RMs.at r i v (by simpa using h)
noncomputable def aa.moves:aa->List (Str×Str)
 |.put q _=>[("put",q)]
 |.get q _=>[("get",q)]
 |_=>[]
noncomputable def g9(s:Int×Int×Int)(m:Str×Str):Int:=s.1+(if m.1="put" then 1 else -1)
noncomputable def cU(q:Str)(s:Int×Int×Int)(m:Str×Str):Int×Int×Int:=
 if m.2=q then(g9 s m,if g9 s m<s.2.1 then g9 s m else s.2.1,if g9 s m > s.2.2 then g9 s m else s.2.2)else s
noncomputable def aZ(q:Str)(ms:List (Str×Str)):Int×Int×Int:=ms.foldl (cU q) (0,0,0)
theorem oJ(q:Str)(ms:List (Str×Str))(m:Str×Str):aZ q (ms++[m])=cU q (aZ q ms) m:=by
 unfold aZ;rw[List.foldl_append]
 rfl
noncomputable def jL(pick peak:Int):Int:=if pick % 4=0 then 1+pick / 4 % 2000 else if pick % 4=1 then 1+pick / 4 % 3 else 1+pick / 4 % (if peak > 1 then peak else 1)
theorem kW(q:Str):∀ms:List (Str×Str),-(ms.length:Int)<=(aZ q ms).2.1/\(aZ q ms).2.1<=0/\(aZ q ms).2.1<=(aZ q ms).1/\(aZ q ms).1<=(aZ q ms).2.2/\(aZ q ms).2.2<=ms.length:=λms=>by
 have key:∀(l:List (Str×Str))(s:Int×Int×Int)(n:Nat),-(n:Int)<=s.2.1->s.2.1<=0->s.2.1<=s.1->s.1<=s.2.2->s.2.2<=n->
  -((n+l.length:Nat):Int)<=(l.foldl (cU q) s).2.1/\(l.foldl (cU q) s).2.1<=0/\(l.foldl (cU q) s).2.1<=(l.foldl (cU q) s).1/\(l.foldl (cU q) s).1<=(l.foldl (cU q) s).2.2/\(l.foldl (cU q) s).2.2<=((n+l.length:Nat):Int):=by
  intro l
  induction l with
  |nil=>
   intro s n a b c d e;exact⟨a,b,c,d,e⟩
  |cons m r ih=>
   intro s n a b c d e;rw[QF,qH]
   have h:∀t:Int×Int×Int,t=cU q s m->-((n+1:Nat):Int)<=t.2.1/\t.2.1<=0/\t.2.1<=t.1/\t.1<=t.2.2/\t.2.2<=((n+1:Nat):Int):=by
    intro t ht;subst ht;unfold cU g9;split
    .dsimp only;split<;>split<;>split<;>omega
    .omega
   obtain⟨h1,h2,h3,h4,h5⟩:=h _ U;have:=ih (cU q s m) (n+1) h1 h2 h3 h4 h5;rw[show n+1+r.length=n+(r.length+1)by omega]at this;exact this
 have:=key ms (0,0,0) 0 (by simp) (by simp) (by simp) (by simp) (by simp);rw[Nat.zero_add]at this;exact this
noncomputable def fQ(q:Str)(ms:List (Str×Str)):Nat:=(-(aZ q ms).2.1).toNat
noncomputable def bX(rs names:List Str)(ms:List (Str×Str)):Nat->List aa
 |0=>[]
 |i+1=>bX rs names ms i++List.replicate (fQ (rs.getD i (">":Str)) ms) (.put (rs.getD i (">":Str)) (nth names (i:Int)))
noncomputable def fD(rs:List Str)(t:Int)(ms:List (Str×Str)):Nat->List (Str×Int)
 |0=>[]
 |i+1=>fD rs t ms i++[(rs.getD i (">":Str),jL (aF t ((i:Int)+1)) ((aZ (rs.getD i (">":Str)) ms).2.2-(aZ (rs.getD i (">":Str)) ms).2.1))]
theorem wW(q:Str)(ms:List (Str×Str)):fQ q ms<=ms.length:=by
 have:=kW q ms;unfold fQ;omega
theorem lV(rs names:List Str)(ms:List (Str×Str)):∀i,(bX rs names ms i).length<=i * ms.length
 |0=>by simp[bX]
 |i+1=>by
  have h1:=lV rs names ms i;have h2:=wW (rs.getD i (">":Str)) ms;rw[bX,qc,List.length_replicate,Nat.succ_mul];omega
theorem mK(rs:List Str)(t:Int)(ms:List (Str×Str)):∀i,(fD rs t ms i).length=i
 |0=>rfl
 |i+1=>by rw[fD,qc,mK rs t ms i];rfl
theorem xj(rs names:List Str)(ms:List (Str×Str)):∀i,yn (bX rs names ms i)
 |0=>λd h=>by simp[bX]at h
 |i+1=>λd h=>by
  rw[bX,qk]at h;rcases h with h|h
  .exact xj rs names ms i d h
  .rw[(List.mem_replicate.mp h).2];intro n b z;cases z
inductive RPs(H:Hp):List V->List (Str×Str)->Prop
 |nil:RPs H [] []
 |cons {p:Addr}{vs:List V}{m:Str×Str}{ms:List (Str×Str)}:H p=some (.tup [.str "put",.str m.1,.str m.2])->RPs H vs ms->RPs H (.ref p::vs) (m::ms)
theorem RPs.same{H H':Hp}(e:a8 H H'):∀{vs:List V}{ms:List (Str×Str)},RPs H vs ms->RPs H' vs ms
 |_,_,.nil=>.nil
 |_,_,.cons h r=>.cons (e _ _ h) (RPs.same e r)
theorem RPs.off{H:Hp}{c:Addr}{xs:List V}{o:HO}(hc:H c=some (.lst xs)):∀{vs:List V}{ms:List (Str×Str)},RPs H vs ms->RPs (upd H c o) vs ms
 |_,_,.nil=>.nil
 |_,_,.cons h r=>.cons (by rw[af (λz=>by rw[z,hc]at h;cases h)];exact h) (RPs.off hc r)
theorem RPs.app{H:Hp}:∀{us vs:List V}{a b:List (Str×Str)},RPs H us a->RPs H vs b->RPs H (us++vs) (a++b)
 |_,_,_,_,.nil,h=>h
 |_,_,_,_,.cons x r,h=>.cons x (RPs.app r h)
theorem RPs.rep{H:Hp}{p:Addr}{m:Str×Str}(h:H p=some (.tup [.str "put",.str m.1,.str m.2])):∀n:Nat,RPs H (List.replicate n (.ref p)) (List.replicate n m)
 |0=>.nil
 |n+1=>.cons h (RPs.rep h n)
theorem RPs.len{H:Hp}:∀{vs:List V}{ms:List (Str×Str)},RPs H vs ms->vs.length=ms.length
 |_,_,.nil=>rfl
 |_,_,.cons _ r=>congrArg (·+1) (RPs.len r)
theorem RPs.rds{H:Hp}:∀{vs:List V}{ms:List (Str×Str)},RPs H vs ms->RDs H vs (ms.map λm=>.put m.1 m.2)
 |_,_,.nil=>.nil
 |_,_,.cons h r=>.cons (.put h) (RPs.rds r)
noncomputable def ir(rs names:List Str)(ms:List (Str×Str)):Nat->List (Str×Str)
 |0=>[]
 |i+1=>ir rs names ms i++List.replicate (fQ (rs.getD i (">":Str)) ms) (rs.getD i (">":Str),nth names (i:Int))
theorem lW(rs names:List Str)(ms:List (Str×Str)):∀i,(ir rs names ms i).map (λm=>aa.put m.1 m.2)=bX rs names ms i
 |0=>rfl
 |i+1=>by rw[ir,bX,qU,lW rs names ms i,List.map_replicate]
theorem RSs.off{H:Hp}{c:Addr}{xs:List V}{o:HO}(hc:H c=some (.lst xs)):∀{vs:List V}{ss:List (Str×Int)},RSs H vs ss->RSs (upd H c o) vs ss
 |_,_,.nil=>.nil
 |_,_,.cons h r=>.cons (by rw[af (λz=>by rw[z,hc]at h;cases h)];exact h) (RSs.off hc r)
theorem xy(n:Nat)(v:V):(List.replicate n [v]).flatten=List.replicate n v:=by
 induction n with
 |zero=>rfl
 |succ n ih=>rw[List.replicate_succ,List.flatten_cons,ih];rfl
theorem A0(n:Int)(names rooms:List Str)(shut:Bool):∀k b,bG n names rooms shut≠.rep k b:=λk b z=>by
 unfold bG at z;split at z
 .cases z
 .split at z
  .split at z<;>cases z
  .cases z
theorem ye(a b:List Row)(q:Str):bal (a++b) q=bal a q+bal b q:=by
 unfold bal;rw[Qy,Qy,qc,qc];omega
theorem Bp:¬ ("get":Str)="put":=Yd
theorem AV(q:Str)(a:List (Str×Str)):∀n,∀b:List (Str×Str),b.length=n->(aZ q (a++b)).2.1<=(aZ q a).1:=by
 have mono:∀(b:List (Str×Str))(s:Int×Int×Int),(b.foldl (cU q) s).2.1<=s.2.1:=by
  intro b
  induction b with
  |nil=>intro s;exact Int.le_refl _
  |cons m r ih=>
   intro s;rw[QF];refine Int.le_trans (ih _) ?_;unfold cU;split
   .dsimp only;split<;>omega
   .exact Int.le_refl _
 intro n b _;have h1:=mono b (aZ q a);have h2:=(kW q a).2.2.1;have e:aZ q (a++b)=b.foldl (cU q) (aZ q a):=by unfold aZ;rw[List.foldl_append]
 rw[e];omega
theorem Fq{q p x:Str}(n:Nat):bal ((List.replicate n (aa.put p x)).map aL) q=if p=q then(n:Int)else 0:=by
 rw[List.map_replicate];unfold bal;by_cases h:p=q
 .simp[aL,h]
 .simp[aL,h]
theorem yd(rs names:List Str)(ms:List (Str×Str))(q:Str):∀i,0<=bal ((bX rs names ms i).map aL) q/\∀k,k<i->rs.getD k (">":Str)=q->(fQ q ms:Int)<=bal ((bX rs names ms i).map aL) q
 |0=>⟨by simp[bX,bal],λk hk=>Qb hk (QE _)⟩
 |i+1=>by
  obtain⟨h1,h2⟩:=yd rs names ms q i
  have e:bal ((bX rs names ms (i+1)).map aL) q=bal ((bX rs names ms i).map aL) q+(if rs.getD i (">":Str)=q then((fQ (rs.getD i (">":Str)) ms:Nat):Int)else 0):=by
   rw[bX,qU,ye,Fq]
  rw[e];refine⟨by split<;>omega,λk hk hq=>?_⟩;by_cases lt:k<i
  .have:=h2 k lt hq;split<;>omega
  .obtain rfl:k=i:=by omega
   rw[Q8 hq,hq];omega
theorem xi(rs names:List Str)(ms:List (Str×Str)):∀i,∀d∈bX rs names ms i,(aL d).outof=none
 |0,d,h=>by simp[bX]at h
 |i+1,d,h=>by
  rw[bX,qk]at h;rcases h with h|h
  .exact xi rs names ms i d h
  .rw[(List.mem_replicate.mp h).2]
   rfl
theorem AN{d:aa}{q:Str}(h:(aL d).outof=some q):∃x,d=.get q x:=by
 cases d with
 |get p x=>
  have:p=q:=qP h;exact⟨x,by rw[this]⟩
 |_=>simp[aL]at h
def yr(rooms:List Str)(d:aa):Prop:=∀q x,d=.get q x->q∈rooms
theorem A9(n:Int)(names rooms:List Str)(shut:Bool):yr rooms (bG n names rooms shut):=λq x z=>by
 unfold bG at z;split at z
 .cases z
 .split at z
  .rename_i c;split at z
   .injection z with z1 z2;rw[<- z1];exact ii c.2.1 _
   .cases z
  .cases z
theorem lM:∀ds:List aa,ds.length<=(aj ds).length
 |[]=>qg _
 |d::r=>by
  have:=lM r;rw[aj,qc,j8,qH,qH];omega
theorem xk(rs names:List Str)(ms:List (Str×Str))(hn:0<names.length):∀i,i<=rs.length->∀d∈bX rs names ms i,∃q x,d=.put q x/\q∈rs/\x∈names
 |0,_,d,h=>by simp[bX]at h
 |i+1,hi,d,h=>by
  rw[bX,qk]at h;rcases h with h|h
  .exact xk rs names ms hn i Yo d h
  .refine⟨_,_,(List.mem_replicate.mp h).2,?_,ii hn _⟩;rw[qp,qe Yo];exact List.getElem_mem _
theorem oZ{ds:List aa}(h:∀d∈ds,∃q x,d=.put q x):aj ds=ds/\aP ds=aP ds/\∀d∈ds,d.depth=0:=by
 refine⟨?_,U,λd hd=>?_⟩
 .induction ds with
  |nil=>rfl
  |cons d r ih=>
   obtain⟨q,x,rfl⟩:=h d qt;rw[aj,ih λe he=>h e (qq _ he)]
   rfl
 .obtain⟨q,x,rfl⟩:=h d hd
  rfl
theorem rX:∀{ds:List aa},(∀d∈ds,d.depth=0)->aP ds=0
 |[],_=>rfl
 |d::r,h=>by
  rw[aP,h d qt,rX λe he=>h e (qq _ he)]
  rfl
theorem kA(l:List Str):(srt l).length<=l.length:=by
 unfold srt;split
 .rename_i h;obtain⟨a,b,_⟩:=Classical.choose_spec h;exact iw a λx hx=>(b x).mp hx
 .exact qz _
theorem zK(l:List Str):(eN l).length<=l.length:=by
 unfold eN;split
 .rename_i h;exact Nat.le_of_eq (Classical.choose_spec h).1.length_eq
 .exact qz _
noncomputable def cy(b:List aa):Row:=⟨"gate",srt (cards b),[],none,none⟩
noncomputable def reps{α:Type}(n:Nat)(l:List α):List α:=(List.replicate n l).flatten
theorem oG{α:Type}(l:List α):reps 0 l=[]:=U
theorem gH{α:Type}(n:Nat)(l:List α):reps (n+1) l=l++reps n l:=by unfold reps;rw[List.replicate_succ,List.flatten_cons]
theorem g6{α:Type}(n:Nat)(l:List α):(reps n l).length=n * l.length:=by
 induction n with
 |zero=>simp[reps]
 |succ n ih=>rw[gH,qc,ih,Nat.succ_mul];omega
theorem AS{α β:Type}(f:α->List β)(n:Nat)(l:List α):(reps n l).flatMap f=reps n (l.flatMap f):=by
 induction n with
 |zero=>rfl
 |succ n ih=>rw[gH,gH,Q0,ih]
theorem AR{α:Type}{n:Nat}{l:List α}{x:α}(h:x∈reps n l):x∈l:=by
 induction n with
 |zero=>simp[reps]at h
 |succ n ih=>rw[gH,qk]at h;exact h.elim id ih
theorem vq{α:Type}(n:Nat)(l:List α):reps (n+1) l=reps n l++l:=by
 induction n with
 |zero=>simp[reps]
 |succ n ih=>
  have e:reps (n+1+1) l=l++(reps n l++l):=by rw[gH,ih]
  rw[e,<- qT,<- gH]
mutual
noncomputable def bB:aa->List Row
 |.rep n b=>cy b::reps n.toNat (aH b++[cy b])
 |.set x a sg b=>[aL (.set x a sg b)]
 |.put q x=>[aL (.put q x)]
 |.get q x=>[aL (.get q x)]
 |.give x=>[aL (.give x)]
 |.cond x t o=>[aL (.cond x t o)]
 |.whl x b=>[aL (.whl x b)]
noncomputable def aH:List aa->List Row
 |[]=>[]
 |d::r=>bB d++aH r
end
theorem oF{d:aa}(h:∀n b,d≠.rep n b):bB d=[aL d]:=by
 cases d with
 |rep n b=>exact Qb U (h n b)
 |_=>simp[bB]
theorem gF:∀(a b:List aa),aH (a++b)=aH a++aH b
 |[],b=>by simp[aH]
 |d::a,b=>by rw[Qs,aH,aH,gF a b,qT]
theorem vm{ds:List aa}(h:∀d∈ds,∀n b,d≠.rep n b):aH ds=ds.map aL:=by
 induction ds with
 |nil=>simp[aH]
 |cons d r ih=>rw[aH,oF (h d qt),ih λe he=>h e (qq _ he)];rfl
theorem oE{ds:List aa}{i:Nat}{d:aa}(h:ds[i]?=some d):aH (ds.take (i+1))=aH (ds.take i)++bB d:=by
 rw[qy,h,gF];simp[aH]
theorem AH{n:Int}{b:List aa}(h:0<n):(aH b).length+2<=(bB (.rep n b)).length:=by
 rw[bB,qH,g6,qc,Qd];have h1:1<=n.toNat:=Yo;have:=Nat.mul_le_mul_right ((aH b).length+1) h1;omega
theorem AK{ds:List aa}{i:Nat}{d:aa}(h:ds[i]?=some d):(bB d).length+(aH (ds.take i)).length<=(aH ds).length:=by
 have e:ds=ds.take (i+1)++ds.drop (i+1):=(QA _ _).symm
 conv=>rhs;rw[e]
 rw[gF,oE h,qc,qc];omega
noncomputable def cj(r:Row):List (Str×Str):=match r.into,r.outof with
 |some q,_=>[("put",q)]
 |none,some q=>[("get",q)]
 |none,none=>[]
mutual
noncomputable def cD:aa->List (Str×Str)
 |.rep n b=>reps n.toNat (bx b)
 |.put q _=>[("put",q)]
 |.get q _=>[("get",q)]
 |.set _ _ _ _=>[]
 |.give _=>[]
 |.cond _ _ _=>[]
 |.whl _ _=>[]
noncomputable def bx:List aa->List (Str×Str)
 |[]=>[]
 |d::r=>cD d++bx r
end
theorem pV:∀(a b:List aa),bx (a++b)=bx a++bx b
 |[],b=>by simp[bx]
 |d::a,b=>by rw[Qs,bx,bx,pV a b,qT]
theorem wF{ds:List aa}{i:Nat}{d:aa}(h:ds[i]?=some d):bx (ds.take (i+1))=bx (ds.take i)++cD d:=by
 rw[qy,h,pV];simp[bx]
theorem Df{ds:List aa}{i:Nat}{d:aa}(h:ds[i]?=some d):(cD d).length+(bx (ds.take i)).length<=(bx ds).length:=by
 have e:ds=ds.take (i+1)++ds.drop (i+1):=(QA _ _).symm
 conv=>rhs;rw[e]
 rw[pV,wF h,qc,qc];omega
mutual
theorem De:∀d:aa,(bB d).flatMap cj=cD d
 |.rep n b=>by
  rw[bB,cD,qL,AS,Q0,pU b];simp[cj,cy]
 |.set x a sg b=>by simp[bB,cD,cj,aL]
 |.put q x=>by simp[bB,cD,cj,aL]
 |.get q x=>by simp[bB,cD,cj,aL]
 |.give x=>by simp[bB,cD,cj,aL]
 |.cond x t o=>by simp[bB,cD,cj,aL]
 |.whl x b=>by simp[bB,cD,cj,aL]
theorem pU:∀ds:List aa,(aH ds).flatMap cj=bx ds
 |[]=>by simp[aH,bx]
 |d::r=>by rw[aH,bx,Q0,De d,pU r]
end
mutual
theorem AJ:∀(d:aa)(r:Row),r∈bB d->(∃b,r=cy b/\∀e∈aj b,e∈d.flat)\/∃e∈d.flat,r=aL e/\∀n b,e≠.rep n b
 |.rep n b,r,h=>by
  rw[bB,qA]at h
  have g:(∃b',r=cy b'/\∀e∈aj b',e∈(aa.rep n b).flat)\/r∈aH b:=by
   rcases h with h|h
   .exact .inl ⟨b,h,λe he=>by simp[aa.flat,he]⟩
   .rcases qk.mp (AR h)with h|h
    .exact .inr h
    .exact .inl ⟨b,by simpa using h,λe he=>by simp[aa.flat,he]⟩
  rcases g with g|g
  .exact .inl g
  .rcases i4 b r g with⟨b',e,h'⟩|⟨e,he,h'⟩
   .exact .inl ⟨b',e,λx hx=>by simp[aa.flat,h' x hx]⟩
   .exact .inr ⟨e,by simp[aa.flat,he],h'⟩
 |.set x a sg b,r,h=>by
  rw[bB,qY]at h;exact .inr ⟨_,by simp[aa.flat],h,λn b z=>by cases z⟩
 |.put q x,r,h=>by
  rw[bB,qY]at h;exact .inr ⟨_,by simp[aa.flat],h,λn b z=>by cases z⟩
 |.get q x,r,h=>by
  rw[bB,qY]at h;exact .inr ⟨_,by simp[aa.flat],h,λn b z=>by cases z⟩
 |.give x,r,h=>by
  rw[bB,qY]at h;exact .inr ⟨_,by simp[aa.flat],h,λn b z=>by cases z⟩
 |.cond x t o,r,h=>by
  rw[bB,qY]at h;exact .inr ⟨_,by simp[aa.flat],h,λn b z=>by cases z⟩
 |.whl x b,r,h=>by
  rw[bB,qY]at h;exact .inr ⟨_,by simp[aa.flat],h,λn b z=>by cases z⟩
theorem i4:∀(ds:List aa)(r:Row),r∈aH ds->(∃b,r=cy b/\∀e∈aj b,e∈aj ds)\/∃e∈aj ds,r=aL e/\∀n b,e≠.rep n b
 |[],r,h=>by simp[aH]at h
 |d::ds,r,h=>by
  rw[aH,qk]at h;rcases h with h|h
  .rcases AJ d r h with⟨b,e,h'⟩|⟨e,he,h'⟩
   .exact .inl ⟨b,e,λx hx=>by simp[aj,h' x hx]⟩
   .exact .inr ⟨e,by simp[aj,he],h'⟩
  .rcases i4 ds r h with⟨b,e,h'⟩|⟨e,he,h'⟩
   .exact .inl ⟨b,e,λx hx=>by simp[aj,h' x hx]⟩
   .exact .inr ⟨e,by simp[aj,he],h'⟩
end
theorem vj(ds:List aa):∀r∈aH ds,dM r:=λr h=>by
 rcases i4 ds r h with⟨b,rfl,_⟩|⟨e,_,rfl,_⟩
 .exact .inl U
 .exact vn e
theorem AI{ds:List aa}{r:Row}{q:Str}(h:r∈aH ds)(ho:r.outof=some q):∃x,.get q x∈aj ds:=by
 rcases i4 ds r h with⟨b,rfl,_⟩|⟨e,he,rfl,_⟩
 .simp[cy]at ho
 .obtain⟨x,rfl⟩:=AN ho;exact⟨x,he⟩
theorem Fp(q:Str):∀(rs:List Row),(∀r∈rs,dM r)->bal rs q=(aZ q (rs.flatMap cj)).1:=λrs h=>by
 have key:∀n,∀rs:List Row,rs.length=n->(∀r∈rs,dM r)->bal rs q=(aZ q (rs.flatMap cj)).1:=by
  intro n
  induction n with
  |zero=>
   intro rs h _;rw[List.length_eq_zero_iff]at h;subst h
   rfl
  |succ n ih=>
   intro rs h ow;have ne:rs≠[]:=λz=>by rw[z]at h;cases h
   have e:rs=rs.dropLast++[rs.getLast ne]:=(List.dropLast_concat_getLast ne).symm;have hi:=ih rs.dropLast (by rw[QG];omega) λr hr=>ow r ((List.dropLast_sublist _).subset hr);have hl:=ow _ (List.getLast_mem ne);generalize rs.getLast ne=d at e hl;rw[e,Q0,fu,hi];obtain⟨kd,ow,re,into,outof⟩:=d
   cases into with
   |some p=>
    have on:outof=none:=by
     rcases hl with h|h
     .cases h
     .exact h
    subst on;show _=(aZ q (List.flatMap cj rs.dropLast++[(("put":Str),p)])).1;rw[oJ];unfold cU g9;by_cases h:p=q<;>simp[h]
   |none=>
    cases outof with
    |none=>simp[cj]
    |some p=>
     show _=(aZ q (List.flatMap cj rs.dropLast++[(("get":Str),p)])).1;rw[oJ];unfold cU g9;by_cases h:p=q<;>simp[h,Bp]<;>omega
 exact key _ rs U h
theorem En{rs names:List Str}{rows:List Row}(ow:∀r∈rows,dM r)(hin:∀r∈rows,∀q,r.outof=some q->q∈rs):
 Fed ((bX rs names (rows.flatMap cj) rs.length).map aL++rows):=λi r q hi ho=>by
 have ge:((bX rs names (rows.flatMap cj) rs.length).map aL).length<=i:=by
  rcases Nat.lt_or_ge i ((bX rs names (rows.flatMap cj) rs.length).map aL).length with lt|ge
  .rw[Qc lt]at hi;obtain⟨d,hd,e⟩:=List.mem_map.mp (qG hi);have:=xi rs names (rows.flatMap cj) rs.length d hd;rw[e,ho]at this;cases this
  .exact ge
 rw[qR ge]at hi;generalize hj:i-((bX rs names (rows.flatMap cj) rs.length).map aL).length=j at hi;have rm:=qG hi;have qm:=hin r rm q ho;obtain⟨k,hk,hkq⟩:=List.mem_iff_getElem.mp qm;have b1:=(yd rs names (rows.flatMap cj) q rs.length).2 k hk (by rw[qp,qe hk];exact hkq)
 have tk:((bX rs names (rows.flatMap cj) rs.length).map aL++rows).take i=(bX rs names (rows.flatMap cj) rs.length).map aL++rows.take j:=by
  rw[List.take_append,List.take_of_length_le ge,hj]
 rw[tk,ye];have e2:rows.take (j+1)=rows.take j++[r]:=by rw[qy,hi];rfl
 have inn:r.into=none:=by
  rcases ow r rm with h|h
  .exact h
  .rw[h]at ho;cases ho
 have b2:bal (rows.take (j+1)) q=bal (rows.take j) q-1:=by
  rw[e2,fu,inn,ho];simp
 have b3:=AV q ((rows.take (j+1)).flatMap cj) _ ((rows.drop (j+1)).flatMap cj) U;rw[<- Q0,QA,<- Fp q _ (λr hr=>ow r (List.mem_of_mem_take hr))]at b3;have b4:=kW q (rows.flatMap cj);unfold fQ at b1;omega
def f7(d:aa):Prop:=∀n b,d=.rep n b->0<=n/\n<=99
def bR(Pd:aa->Prop)(ds:List aa):Prop:=∀d∈aj ds,Pd d
theorem bR.app{Pd:aa->Prop}{a b:List aa}(h1:bR Pd a)(h2:bR Pd b):bR Pd (a++b):=λd h=>by
 rw[eT,qk]at h;exact h.elim (h1 d) (h2 d)
theorem bR.nil{Pd:aa->Prop}:bR Pd []:=λd h=>by simp[aj]at h
theorem bR.one{Pd:aa->Prop}{d:aa}(h:Pd d)(hi:∀b∈d.inner,bR Pd b):bR Pd [d]:=λe he=>by
 rw[aj,aj,qE,j8,qA,List.mem_flatMap]at he;rcases he with rfl|⟨b,hb,he⟩
 .exact h
 .exact hi b hb e he
def FA(o:Op):Prop:=∀n,o=.rep n->0<=n/\n<=99
def FrA(Pd:aa->Prop)(f:Fr):Prop:=bR Pd f.ds/\bR Pd f.op.extra/\FA f.op
structure ka(Pd:aa->Prop):Prop where
 cond:∀x t o,Pd (.cond x t o)
 whl:∀x b,Pd (.whl x b)
 rep:∀n b,0<=n->n<=99->Pd (.rep n b)
theorem FrA.deed{Pd:aa->Prop}(hp:ka Pd){f:Fr}(h:FrA Pd f):bR Pd [f.deed]:=by
 obtain⟨h1,h2,h3⟩:=h;unfold Fr.deed;cases q:f.op<;>rw[q]at h2 h3
 .exact .one (hp.rep _ _ Yk Yk) (by simpa[aa.inner]using h1)
 .exact .one (hp.cond _ _ _) (by simpa[aa.inner]using⟨h1,bR.nil⟩)
 .exact .one (hp.cond _ _ _) (by simpa[aa.inner]using⟨h2,h1⟩)
 .exact .one (hp.whl _ _) (by simpa[aa.inner]using h1)
 .exact .one (hp.rep _ _ (h3 _ U).1 (h3 _ U).2) (by simpa[aa.inner]using h1)
theorem A6(n:Int)(names rooms:List Str)(shut:Bool):(bG n names rooms shut).inner=[]:=by
 unfold bG;split
 .rfl
 .split
  .split<;>rfl
  .rfl
def k6(f g:Fr):Prop:=match f.op with
 |.root=>False
 |.rep n=>f.times=g.times * n
 |_=>f.times=0
def TR(most:Int):List Fr->Prop
 |[]=>False
 |[f]=>f.op=.root/\f.times=1
 |f::g::r=>k6 f g/\0<=f.times/\f.times<=most/\TR most (g::r)
theorem TR.head{most:Int}(h1:1<=most){f:Fr}{r:List Fr}(h:TR most (f::r)):0<=f.times/\f.times<=most:=by
 cases r with
 |nil=>rw[h.2];omega
 |cons g r=>exact⟨h.2.1,h.2.2.1⟩
theorem TR.same{most:Int}{f f':Fr}{r:List Fr}(e1:f'.op=f.op)(e2:f'.times=f.times)(h:TR most (f::r)):TR most (f'::r):=by
 cases r with
 |nil=>exact⟨e1.trans h.1,e2.trans h.2⟩
 |cons g r=>
  obtain⟨a,b,c,d⟩:=h;refine⟨?_,by rw[e2];exact b,by rw[e2];exact c,d⟩;unfold k6 at a ⊢;rw[e1,e2];exact a
theorem wH{n most t:Int}(h0:0<=most)(h1:most<=98)(ht:0<=t):0<=cG n most t/\cG n most t<=99/\0<=t * cG n most t/\t * cG n most t<=most:=by
 unfold cG;by_cases tp:0<t
 .rw[Q8 tp];have q0:0<=most / t:=Int.ediv_nonneg h0 ht;have q1:most / t<=most:=Int.ediv_le_self _ h0;have e0:0<=n / 70 % (1+most / t):=Qg _ Yo;have e1:n / 70 % (1+most / t)<1+most / t:=Ql _ Yo;have m1:t * (n / 70 % (1+most / t))<=t * (most / t):=Int.mul_le_mul_of_nonneg_left Yo ht;have m2:t * (most / t)<=most:=Int.mul_ediv_self_le Yo;exact⟨e0,Yo,Int.mul_nonneg ht e0,Yo⟩
 .rw[Q7 tp];obtain rfl:t=0:=Yo;exact⟨Qg _ Yk,Yo,by simp,by simpa using h0⟩
structure Wt where
 g:Int
 e:aa->Int
mutual
noncomputable def Wt.d(w:Wt):aa->Int
 |.rep n b=>w.g+n * (Wt.l w b+w.g)
 |.cond _ _ _=>w.g
 |.whl _ _=>w.g
 |.set x a sg b=>w.e (.set x a sg b)
 |.put q x=>w.e (.put q x)
 |.get q x=>w.e (.get q x)
 |.give x=>w.e (.give x)
noncomputable def Wt.l(w:Wt):List aa->Int
 |[]=>0
 |d::r=>Wt.d w d+Wt.l w r
end
theorem Wt.l_append(w:Wt):∀(a b:List aa),w.l (a++b)=w.l a+w.l b
 |[],b=>by simp[Wt.l]
 |d::a,b=>by rw[Qs,Wt.l,Wt.l,Wt.l_append w a b];omega
noncomputable def Wt.m(w:Wt):List Fr->Int
 |[]=>0
 |[f]=>f.times * w.l f.ds
 |f::g::r=>f.times * w.l f.ds+(g.times * w.g+match f.op with|.rep _=>f.times * w.g|_=>0)+Wt.m w (g::r)
theorem Wt.m_add(w:Wt)(f:Fr)(d:aa)(r:List Fr):w.m (f.add d::r)=w.m (f::r)+f.times * w.d d:=by
 have e:w.l (f.ds++[d])=w.l f.ds+w.d d:=by rw[Wt.l_append];simp[Wt.l]
 cases r with
 |nil=>simp only[Wt.m,Fr.add,e,Int.mul_add]
 |cons g r=>simp only[Wt.m,Fr.add,e,Int.mul_add];omega
theorem Wt.deed(w:Wt){f g:Fr}(h:k6 f g):g.times * w.d f.deed=f.times * w.l f.ds+(g.times * w.g+match f.op with|.rep _=>f.times * w.g|_=>0):=by
 unfold k6 at h;unfold Fr.deed;cases q:f.op<;>rw[q]at h<;>simp only[Wt.d]at h ⊢
 .rw[h];simp
 .rw[h];simp
 .rw[h];simp
 .rw[h,Int.mul_add,Int.mul_add,Int.mul_add,<- Int.mul_assoc,<- Int.mul_assoc];omega
theorem Wt.wh(w:Wt){most:Int}:∀(f:Fr)(r:List Fr)(dt:List aa),TR most (f::r)->w.l (wh (f::r) dt)=w.m (f::r)+f.times * w.l dt
 |f,[],dt,h=>by
  rw[Tr.wh,Wt.l_append,Wt.m,h.2];omega
 |f,g::r,dt,h=>by
  rw[Tr.wh,Wt.wh w g r _ h.2.2.2];have:=Wt.deed w (f:={ f with ds:=f.ds++dt }) (g:=g) h.1;simp only[Wt.l,Int.add_zero];rw[this,Wt.l_append,Int.mul_add,Wt.m];dsimp only;omega
theorem zX(w:Wt)(n:Int)(names rooms:List Str)(shut:Bool):w.d (bG n names rooms shut)=w.e (bG n names rooms shut):=by
 unfold bG;split
 .rfl
 .split
  .split<;>rfl
  .rfl
theorem tO{names rooms:List Str}{most low n:Int}{st:List Fr}(w:Wt)(c:Int)(hg:0<=w.g)(hg1:w.g<=1)(he:∀d,0<=w.e d/\w.e d<=1)(hn:0<=n)(h1:1<=most)(h98:most<=98)(ht:TR most st):
 TR most (bY names rooms most low st n)/\w.m (bY names rooms most low st n)<=w.m st+most+most * w.g:=by
 match st,ht with
 |g::r,ht=>
  obtain⟨t0,t1⟩:=ht.head h1;have mw:0<=most * w.g:=Int.mul_nonneg Yo hg;have gw:g.times * w.g<=most * w.g:=Int.mul_le_mul_of_nonneg_right t1 hg;have mw1:most * w.g<=most:=by have:=Int.mul_le_mul_of_nonneg_left hg1 (show 0<=most by omega);omega
  unfold bY;dsimp only;split
  .unfold gm;dsimp only;split
   .refine⟨⟨U,Int.le_refl _,by show(0:Int)<=most;omega,ht⟩,?_⟩;simp only[Wt.m,Wt.l];omega
   .split
    .refine⟨⟨U,Int.le_refl _,by show(0:Int)<=most;omega,ht⟩,?_⟩;simp only[Wt.m,Wt.l];omega
    .obtain⟨m1,m2,m3,m4⟩:=wH (by omega:0<=most) h98 t0;refine⟨⟨U,m3,m4,ht⟩,?_⟩;have:=Int.mul_le_mul_of_nonneg_right m4 hg;simp only[Wt.m,Wt.l];omega
  .split
   .rename_i x hx
    have e:g.op=.ifT x:=by
     split at hx
     .cases e:g.op<;>rw[e]at hx<;>simp[Op.ifT?]at hx;rw[hx]
     .cases hx
    cases r with
    |nil=>have:=ht.1;rw[e]at this;cases this
    |cons g' r'=>
     have z:g.times=0:=by
      have:=ht.1;unfold k6 at this;rw[e]at this;exact this
     refine⟨⟨z,t0,t1,ht.2.2.2⟩,?_⟩;simp only[Wt.m,e,z];omega
   .split
    .rename_i c
     cases r with
     |nil=>exact Qb c.2 (by simp)
     |cons g' r'=>
      show TR most (g'.add g.deed::r')/\w.m (g'.add g.deed::r')<=_;refine⟨TR.same (f:=g') (f':=g'.add g.deed) U U ht.2.2.2,?_⟩;rw[Wt.m_add,Wt.deed w ht.1,Wt.m];omega
    .refine⟨TR.same (f:=g) (f':=g.add (bG n names rooms g.shut)) U U ht,?_⟩;rw[Wt.m_add];obtain⟨e0,e1⟩:=he (bG n names rooms g.shut);rw[zX];have:=Int.mul_le_mul_of_nonneg_left e1 t0;omega
theorem mO{names rooms:List Str}{most low:Int}(w:Wt)(hg:0<=w.g)(hg1:w.g<=1)(he:∀d,0<=w.e d/\w.e d<=1)(h1:1<=most)(h98:most<=98):∀(cells:List Int)(st:List Fr),TR most st->
 TR most (cells.foldl (λst c=>bY names rooms most low st (aF c 1)) st)/\w.m (cells.foldl (λst c=>bY names rooms most low st (aF c 1)) st)<=w.m st+cells.length * (most+most * w.g)
 |[],st,h=>⟨h,by simp⟩
 |c::cs,st,h=>by
  obtain⟨a,b⟩:=tO (low:=low) (n:=aF c 1) w 0 hg hg1 he (by unfold aF;exact Qg _ Yk) h1 h98 h;obtain⟨a',b'⟩:=mO (low:=low) w hg hg1 he h1 h98 cs _ a;refine⟨a',?_⟩;rw[QF,qH,Int.natCast_add,Int.add_mul];simp only[Int.natCast_one,Int.one_mul];omega
theorem y4{names rooms:List Str}{most low:Int}(w:Wt)(hg:0<=w.g)(hg1:w.g<=1)(he:∀d,0<=w.e d/\w.e d<=1)(h1:1<=most)(h98:most<=98)(cells:List Int):w.l (dE names rooms most low cells)<=cells.length * (most+most * w.g):=by
 obtain⟨a,b⟩:=mO (low:=low) w hg hg1 he h1 h98 cells st0 ⟨U,U⟩;have e:w.m st0=0:=by simp[st0,Wt.m,Wt.l]
 rw[e,Int.zero_add]at b;unfold dE kh;show w.l (fb ((cZ names rooms most low cells).length-1) (cZ names rooms most low cells))<=_;have hs:cZ names rooms most low cells=cells.foldl (λst c=>bY names rooms most low st (aF c 1)) st0:=U;rw[<- hs]at a b
 cases q:cZ names rooms most low cells with
 |nil=>rw[q]at a;exact a.elim
 |cons f r=>
  rw[q]at a b;rw[ki _ _ (by simp),Wt.wh w f r [] a,Wt.l];omega
theorem zG{Pd:aa->Prop}(hp:ka Pd){names rooms:List Str}{most low n:Int}{st:List Fr}(hs:∀k s,Pd (bG k names rooms s))(hn:0<=n)(h1:1<=most)(h98:most<=98)(ht:TR most st)(ha:∀f∈st,FrA Pd f):∀f∈bY names rooms most low st n,FrA Pd f:=by
 match st,ht,ha with
 |g::r,ht,ha=>
  have hg:=ha g qt;have hr:∀f∈r,FrA Pd f:=λf hf=>ha f (qq _ hf);obtain⟨t0,t1⟩:=ht.head h1;unfold bY;dsimp only;split
  .unfold gm;dsimp only;intro f hf;rcases qA.mp hf with rfl|hf
   .split
    .exact⟨.nil,.nil,λn z=>by cases z⟩
    .split
     .exact⟨.nil,.nil,λn z=>by cases z⟩
     .obtain⟨m1,m2,_⟩:=wH (by omega:0<=most) h98 t0;exact⟨.nil,.nil,λn z=>by cases z;exact⟨m1,m2⟩⟩
   .exact ha f hf
  .split
   .rename_i x hx;intro f hf;rcases qA.mp hf with rfl|hf
    .exact⟨.nil,hg.1,λn z=>by cases z⟩
    .exact hr f hf
   .split
    .cases r with
     |nil=>exact ha
     |cons g' r'=>
      intro f hf;rcases qA.mp hf with rfl|hf
      .have h':=hr g' qt;exact⟨h'.1.app (hg.deed hp),h'.2⟩
      .exact hr f (qq _ hf)
    .intro f hf;rcases qA.mp hf with rfl|hf
     .exact⟨hg.1.app (.one (hs _ _) (by rw[A6];simp)),hg.2⟩
     .exact hr f hf
theorem tQ{Pd:aa->Prop}(hp:ka Pd){names rooms:List Str}{most low:Int}(hs:∀k s,Pd (bG k names rooms s))(h1:1<=most)(h98:most<=98):∀(cells:List Int)(st:List Fr),TR most st->(∀f∈st,FrA Pd f)->
 ∀f∈cells.foldl (λst c=>bY names rooms most low st (aF c 1)) st,FrA Pd f
 |[],st,_,h=>h
 |c::cs,st,ht,h=>by
  have hn:0<=aF c 1:=by unfold aF;exact Qg _ Yk
  exact tQ hp hs h1 h98 cs _ (tO (low:=low) (n:=aF c 1) ⟨0,λ_=>0⟩ 0 Yk Yk (λ_=>⟨by simp,by simp⟩) hn h1 h98 ht).1 (zG hp hs hn h1 h98 ht h)
theorem sV{Pd:aa->Prop}(hp:ka Pd):∀(st:List Fr)(dt:List aa),(∀f∈st,FrA Pd f)->bR Pd dt->bR Pd (wh st dt)
 |[],_,_,_=>.nil
 |[f],dt,h,hd=>(h f qt).1.app hd
 |f::g::r,dt,h,hd=>by
  have hf:=h f qt;exact sV hp (g::r) _ (λf' hf'=>h f' (qq _ hf')) (FrA.deed hp (f:={ f with ds:=f.ds++dt }) ⟨hf.1.app hd,hf.2⟩)
theorem m9{Pd:aa->Prop}(hp:ka Pd){names rooms:List Str}{most low:Int}(hs:∀k s,Pd (bG k names rooms s))(h1:1<=most)(h98:most<=98)(cells:List Int):bR Pd (dE names rooms most low cells):=by
 have a:=(mO (names:=names) (rooms:=rooms) (low:=low) ⟨0,λ_=>0⟩ Yk Yk (λ_=>⟨by simp,by simp⟩) h1 h98 cells st0 ⟨U,U⟩).1
 have b:=tQ hp (low:=low) hs h1 h98 cells st0 ⟨U,U⟩ λf hf=>by
  simp[st0]at hf;subst hf;exact⟨.nil,.nil,λn z=>by cases z⟩
 have ne:(cZ names rooms most low cells).length≠0:=λz=>by
  rw[List.length_eq_zero_iff]at z;unfold cZ at z;rw[z]at a;exact a
 unfold dE kh;rw[ki _ _ Yo];exact sV hp _ _ b .nil
noncomputable def iL:Wt:=⟨1,λ_=>1⟩
noncomputable def je:Wt:=⟨0,λd=>d.moves.length⟩
mutual
theorem yz:∀d:aa,(∀e∈d.flat,f7 e)->((bB d).length:Int)=iL.d d
 |.rep n b,h=>by
  have h1:=mn b λe he=>h e (by simp[aa.flat,he]);have h2:=(h (.rep n b) (by simp[aa.flat]) n b U).1;rw[bB,Wt.d,qH,g6,qc,Qd,<- h1];have e:(n.toNat:Int)=n:=Int.toNat_of_nonneg h2;simp only[Int.natCast_add,Int.natCast_mul,e];show n * (((aH b).length:Int)+1)+1=1+n * (((aH b).length:Int)+1);omega
 |.set x a sg b,_=>rfl
 |.put q x,_=>rfl
 |.get q x,_=>rfl
 |.give x,_=>rfl
 |.cond x t o,_=>rfl
 |.whl x b,_=>rfl
theorem mn:∀ds:List aa,(∀e∈aj ds,f7 e)->((aH ds).length:Int)=iL.l ds
 |[],_=>by simp[aH,Wt.l]
 |d::r,h=>by
  rw[aH,Wt.l,qc,Int.natCast_add,yz d λe he=>h e (by simp[aj,he]),mn r λe he=>h e (by simp[aj,he])]
end
mutual
theorem yA:∀d:aa,(∀e∈d.flat,f7 e)->((cD d).length:Int)=je.d d
 |.rep n b,h=>by
  have h1:=mq b λe he=>h e (by simp[aa.flat,he]);have h2:=(h (.rep n b) (by simp[aa.flat]) n b U).1;rw[cD,Wt.d,g6,<- h1];have e:(n.toNat:Int)=n:=Int.toNat_of_nonneg h2;simp only[Int.natCast_mul,e];show n * ((bx b).length:Int)=0+n * (((bx b).length:Int)+0);rw[Int.add_zero,Int.zero_add]
 |.set x a sg b,_=>rfl
 |.put q x,_=>rfl
 |.get q x,_=>rfl
 |.give x,_=>rfl
 |.cond x t o,_=>rfl
 |.whl x b,_=>rfl
theorem mq:∀ds:List aa,(∀e∈aj ds,f7 e)->((bx ds).length:Int)=je.l ds
 |[],_=>by simp[bx,Wt.l]
 |d::r,h=>by
  rw[bx,Wt.l,qc,Int.natCast_add,yA d λe he=>h e (by simp[aj,he]),mq r λe he=>h e (by simp[aj,he])]
end
theorem sy{names rooms:List Str}{most low:Int}(h1:1<=most)(h98:most<=98)(cells:List Int):bR f7 (dE names rooms most low cells):=
 m9 ⟨λ_ _ _ n b z=>(by cases z),λ_ _ n b z=>(by cases z),λn b h0 h9 n' b' z=>(by cases z;exact⟨h0,h9⟩)⟩ (λk s n b z=>Qb z (A0 _ _ _ _ n b)) h1 h98 cells
theorem Fi{names rooms:List Str}{most low:Int}(h1:1<=most)(h98:most<=98)(cells:List Int):((aH (dE names rooms most low cells)).length:Int)<=cells.length * (most+most):=by
 rw[mn _ (sy h1 h98 cells)];have:=y4 (names:=names) (rooms:=rooms) (low:=low) iL Yk Yk (λ_=>⟨by simp[iL],by simp[iL]⟩) h1 h98 cells;simpa[iL]using this
theorem Fl{names rooms:List Str}{most low:Int}(h1:1<=most)(h98:most<=98)(cells:List Int):((bx (dE names rooms most low cells)).length:Int)<=cells.length * most:=by
 rw[mq _ (sy h1 h98 cells)];have:=y4 (names:=names) (rooms:=rooms) (low:=low) je Yk Yk (λd=>by cases d<;>simp[je,aa.moves]) h1 h98 cells;simpa[je]using this
theorem y6{names rooms:List Str}{most low:Int}(h1:1<=most)(h98:most<=98)(cells:List Int):∀q x,.get q x∈aj (dE names rooms most low cells)->q∈rooms:=λq x h=>
 m9 (Pd:=yr rooms) ⟨λ_ _ _ q x z=>(by cases z),λ_ _ q x z=>(by cases z),λn b _ _ q x z=>(by cases z)⟩ (λk s=>A9 _ _ _ _) h1 h98 cells _ h q x U
end Tr
namespace Tr
open PySem PySem.Spec PyProof.Rows L2
theorem aX.app{H:Hp}:∀{us vs:List V}{a b:List Row},aX H us a->aX H vs b->aX H (us++vs) (a++b)
 |_,_,_,_,.nil,h=>h
 |_,_,_,_,.cons x r,h=>.cons x (aX.app r h)
theorem aX.reps{H:Hp}{us:List V}{rs:List Row}(h:aX H us rs):∀n:Nat,aX H (reps n us) (reps n rs)
 |0=>.nil
 |n+1=>by rw[gH,gH];exact h.app (aX.reps h n)
theorem RMs.app{H:Hp}:∀{us vs:List V}{a b:List (Str×Str)},RMs H us a->RMs H vs b->RMs H (us++vs) (a++b)
 |_,_,_,_,.nil,h=>h
 |_,_,_,_,.cons x r,h=>.cons x (RMs.app r h)
theorem bR.at{Pd:aa->Prop}{ds:List aa}{i:Nat}{d:aa}(h:bR Pd ds)(hi:ds[i]?=some d):bR Pd [d]:=λe he=>h e (by
 rw[aj,aj,qE]at he
 exact(rS hi).2 e he)
theorem bR.rep{Pd:aa->Prop}{n:Int}{b:List aa}(h:bR Pd [.rep n b]):Pd (.rep n b)/\bR Pd b:=
 ⟨h _ (by simp[aj,aa.flat]),λe he=>h e (by simp[aj,aa.flat,he])⟩
theorem zP{i j:Int}(h0:0<=i)(h1:i<=99):IntMulOk i j:=sR.ok (.inl ⟨Yo,Yo⟩)
end Tr
namespace L2
open PySem PySem.Spec PyProof.Rows
section
variable {X:Cx}{CX:CXT}{k:Nat}{f C:Addr}{fd:FuncData}{ps:List Str}{sp:Sp}{E:XK}{x m:Str}{p pos apos:Pos}{e o:Expr}{es:List Expr}{t:TA}{te ta:TE}{ds:List Value}{dvs:List V}
end
theorem iY{f:Str}{v:V}:∀{fs:List (Str×V)}(ks:List Str),fs.map (·.1)=ks->(ks.all λg=>!decide (g=f))=true->cV f v fs=fs++[(f,v)]
 |[],_,_,_=>rfl
 |(g,x)::r,ks,e,h=>by
  subst e;simp only[qX,List.all_cons,Bool.and_eq_true,Bool.not_eq_true',decide_eq_false_iff_not]at h;rw[cV,Q7 h.1,iY (r.map (·.1)) U h.2]
  rfl
theorem jI{k:Str}{v:V}{r:List (Str×V)}:List.lookup k ((k,v)::r)=some v:=by simp[List.lookup]
theorem fP{k g:Str}{v:V}{r:List (Str×V)}(h:(k == g)=false):List.lookup k ((g,v)::r)=List.lookup k r:=by simp[List.lookup,h]
theorem Ft{α:Type}{xs:List α}{i:Int}{v:α}(h:0<=i)(e:xs[i.toNat]?=some v):atI xs i=some v:=by
 have:=br (xs:=xs) (j:=i.toNat) (v:=v) e
 rwa [Int.toNat_of_nonneg h]at this
inductive jw(i:Nat)(Y:St)(H:Hp)(Q:VK):Prop
 |mk (v:V) (h:Y[i]?=some (some v)) (q:Q v H):jw i Y H Q
theorem Bi(i:Nat):jw i=tu i:=by
 funext Y H Q
 exact propext ⟨λ⟨v,h,q⟩=>⟨v,h,q⟩,λ⟨v,h,q⟩=>⟨v,h,q⟩⟩
inductive qB(x:V)(H:Hp)(Q:Bool->Hp->Prop):Prop
 |mk (k:Bool) (h:x=.bl k) (q:Q k H):qB x H Q
theorem vE(Q:Bool->Hp->Prop):(λx H=>qB x H Q)=λx H=>∃k,x=V.bl k/\Q k H:=by
 funext x H
 exact propext ⟨λ⟨v,h,q⟩=>⟨v,h,q⟩,λ⟨v,h,q⟩=>⟨v,h,q⟩⟩
def iX(t:TE):TT:=λY H Q=>t Y H λx H'=>qB x H' Q
theorem Bl(t:TE):iX t=kx t:=by
 funext Y H Q
 unfold iX kx;rw[vE]
theorem Bk(t:TE):iX t=tB t:=by
 funext Y H Q
 unfold iX tB;rw[vE]
inductive vH(x y:V)(H:Hp)(Q:VK):Prop
 |mk (i j:Int) (h1:x=.int i) (h2:y=.int j) (q:Q (.int (i+j)) H):vH x y H Q
inductive vy(x y:V)(H:Hp)(Q:VK):Prop
 |mk (i j:Int) (h1:x=.int i) (h2:y=.int j) (q:Q (.int (i-j)) H):vy x y H Q
inductive vC(x y:V)(H:Hp)(Q:VK):Prop
 |mk (i j:Int) (h1:x=.int i) (h2:y=.int j) (c:0<j/\j<1073741824) (q:Q (.int (i / j)) H):vC x y H Q
inductive vA(x y:V)(H:Hp)(Q:VK):Prop
 |mk (i j:Int) (h1:x=.int i) (h2:y=.int j) (c:0<j) (q:Q (.int (i % j)) H):vA x y H Q
inductive qLt(x y:V)(H:Hp)(Q:VK):Prop
 |mk (i j:Int) (h1:x=.int i) (h2:y=.int j) (q:Q (.bl (decide (i<j))) H):qLt x y H Q
inductive qLe(x y:V)(H:Hp)(Q:VK):Prop
 |mk (i j:Int) (h1:x=.int i) (h2:y=.int j) (q:Q (.bl (decide (i<=j))) H):qLe x y H Q
inductive qGt(x y:V)(H:Hp)(Q:VK):Prop
 |mk (i j:Int) (h1:x=.int i) (h2:y=.int j) (q:Q (.bl (decide (j<i))) H):qGt x y H Q
inductive qGe(x y:V)(H:Hp)(Q:VK):Prop
 |mk (i j:Int) (h1:x=.int i) (h2:y=.int j) (q:Q (.bl (decide (j<=i))) H):qGe x y H Q
inductive qEq(x y:V)(H:Hp)(Q:VK):Prop
 |mk (c:jn x y=true) (q:Q (.bl (decide (x=y))) H):qEq x y H Q
inductive qNe(x y:V)(H:Hp)(Q:VK):Prop
 |mk (c:jn x y=true) (q:Q (.bl (!decide (x=y))) H):qNe x y H Q
inductive vB(x y:V)(H:Hp)(Q:VK):Prop
 |mk (c:y=.non) (q:Q (.bl (decide (x=.non))) H):vB x y H Q
inductive vz(x y:V)(H:Hp)(Q:VK):Prop
 |mk (c:y=.non) (q:Q (.bl (!decide (x=.non))) H):vz x y H Q
inductive oU(K:W.Frag)(x y:V)(H:Hp)(Q:VK):Prop
 |mk (p:Addr) (xs:List V) (i:Int) (v:V) (h1:x=.ref p) (h2:y=.int i) (h3:SqL K H p xs) (h4:atI xs i=some v) (q:Q v H):oU K x y H Q
inductive oT(K:W.Frag)(x y:V)(H:Hp)(Q:VK):Prop
 |mk (p:Addr) (xs:List V) (i:Int) (v:V) (h1:x=.ref p) (h2:y=.int i) (h3:SqT K H p xs) (h4:atI xs i=some v) (q:Q v H):oT K x y H Q
inductive vG(x y:V)(H:Hp)(Q:VK):Prop
 |mk (i j:Str) (h1:x=.str i) (h2:y=.str j) (c:i.length+j.length<=sizeLine) (q:Q (.str (i++j)) H):vG x y H Q
inductive oS(K:W.Frag)(xs:List V)(H:Hp)(Q:VK):Prop
 |mk (p:Addr) (ys:List V) (h1:xs=[.ref p]) (h2:SqL K H p ys\/SqT K H p ys) (q:Q (.int ys.length) H):oS K xs H Q
inductive oV(K:W.Frag)(xs:List V)(H:Hp)(Q:VK):Prop
 |mk (x:V) (t:Value) (T:String) (b:Bool) (h1:xs=[x,.ty T]) (h2:e8 K H x t) (h3:PySem.W.kitOne K t (.type T)=some b) (q:Q (.bl b) H):oV K xs H Q
inductive oR(K:W.Frag)(xs:List V)(H:Hp)(Q:VK):Prop
 |mk (p:Addr) (ys:List V) (h1:xs=[.ref p]) (h2:SqL K H p ys\/SqT K H p ys) (q:∀l,H l=none->Q (.ref l) (upd H l (.lst ys))):oR K xs H Q
inductive vF(x:V)(vs:List V)(H:Hp)(Q:VK):Prop
 |mk (l:Addr) (xs:List V) (y:V) (h1:x=.ref l) (h2:vs=[y]) (h3:H l=some (.lst xs)) (h4:xs.length<sizeLine) (q:Q .non (upd H l (.lst (xs++[y])))):vF x vs H Q
inductive vD(K:W.Frag)(x y:V)(H:Hp)(Q:VK):Prop
 |mk (l b:Addr) (xs zs:List V) (h1:x=.ref l) (h2:y=.ref b) (h3:SqL K H l xs) (h4:SqL K H b zs) (h5:xs.length+zs.length<=sizeLine) (q:∀p,H p=none->Q (.ref p) (upd H p (.lst (xs++zs)))):vD K x y H Q
inductive jx(A B:Prop):Prop
 |mk (h:A) (q:B):jx A B
theorem oY(A B:Prop):jx A B=(A/\B):=propext ⟨λ⟨a,b⟩=>⟨a,b⟩,λ⟨a,b⟩=>⟨a,b⟩⟩
section
variable {X:Cx}
theorem pq(i:Nat){x:Str}{pos:Pos}(hN:X.N[i]?=some x:=by rfl)(hv:Vis X.env.scope x:=by first|exact Or.inl U|exact Or.inr Oi|exact Or.inr (Or.inr U))(hd:(x == ("__debug__":Str))=false:=by decide)
 (hcd:(x == ("__classdict__":Str))=false:=by decide):PE X (.Name x pos) (jw i):=by
 rw[Bi];exact BH hN hv hd hcd
theorem au{op:CmpOp}{r:R2}{a b:Expr}{ta tb:TE}{pos:Pos}(ho:OpR X (compareOp op) r)(ha:PE X a ta)(hb:PE X b tb)(hm:behindInMarks op b=false):PT X (.Compare a [op] [b] pos) (iX (tOp r ta tb)):=by
 rw[Bl];exact Bs ho ha hb hm
theorem eI{e:Expr}{t:TE}(h:PE X e t)(he:∀whole,isTrue e X.env whole=(do let v <- whole;standAt e.pos;holding [v] (truthy v)):=by intro _;rfl):PT X e (iX t):=by
 rw[Bk];exact Br h he
theorem OpR.as{f:Value->Value->Sem Value}{r r':R2}(h:OpR X f r)(e:∀x y H Q,r' x y H Q->r x y H Q):OpR X f r':=λpins s Y H x y v u Q I rx ry q=>h pins s Y H x y v u Q I rx ry (e _ _ _ _ q)
theorem cJ.as{f:Value}{r r':List V->Hp->VK->Prop}(h:cJ X f r)(e:∀x H Q,r' x H Q->r x H Q):cJ X f r':=λpins s Y H x u Q I rx q=>h pins s Y H x u Q I rx (e _ _ _ q)
theorem IxR.as{r r':R2}(h:IxR X r)(e:∀x y H Q,r' x y H Q->r x y H Q):IxR X r':=λa b pins s Y H x y v u Q I rx ry q=>h a b pins s Y H x y v u Q I rx ry (e _ _ _ _ q)
theorem bu:OpR X (binaryOp .Add) vH:=D3.as λ_ _ _ _ ⟨i,j,a,b,q⟩=>⟨i,j,a,b,q⟩
theorem iV:OpR X (binaryOp .Sub) vy:=CV.as λ_ _ _ _ ⟨i,j,a,b,q⟩=>⟨i,j,a,b,q⟩
theorem cB:OpR X (binaryOp .FloorDiv) vC:=D2.as λ_ _ _ _ ⟨i,j,a,b,c,q⟩=>⟨i,j,a,b,c,q⟩
theorem be:OpR X (binaryOp .Mod) vA:=CW.as λ_ _ _ _ ⟨i,j,a,b,c,q⟩=>⟨i,j,a,b,c,q⟩
theorem gb:OpR X (compareOp .Lt) qLt:=CY.as λ_ _ _ _ ⟨i,j,a,b,q⟩=>⟨i,j,a,b,q⟩
theorem iW:OpR X (compareOp .LtE) qLe:=CZ.as λ_ _ _ _ ⟨i,j,a,b,q⟩=>⟨i,j,a,b,q⟩
theorem fH:OpR X (compareOp .Gt) qGt:=D0.as λ_ _ _ _ ⟨i,j,a,b,q⟩=>⟨i,j,a,b,q⟩
theorem vx:OpR X (compareOp .GtE) qGe:=D1.as λ_ _ _ _ ⟨i,j,a,b,q⟩=>⟨i,j,a,b,q⟩
theorem aY:OpR X (compareOp .Eq) qEq:=Cb.as λ_ _ _ _ ⟨c,q⟩=>⟨c,q⟩
theorem i5:OpR X (compareOp .NotEq) qNe:=C2.as λ_ _ _ _ ⟨c,q⟩=>⟨c,q⟩
theorem Be:OpR X (compareOp .Is) vB:=C7.as λ_ _ _ _ ⟨c,q⟩=>⟨c,q⟩
theorem fj:OpR X (compareOp .IsNot) vz:=BY.as λ_ _ _ _ ⟨c,q⟩=>⟨c,q⟩
theorem i6:OpR X (binaryOp .Add) vG:=Cd.as λ_ _ _ _ ⟨i,j,a,b,c,q⟩=>⟨i,j,a,b,c,q⟩
theorem fG:OpR X (binaryOp .Add) (vD X.K):=Cc.as λ_ _ _ _ ⟨l,b,xs,zs,h1,h2,h3,h4,h5,q⟩=>⟨l,b,xs,zs,h1,h2,h3,h4,h5,q⟩
theorem aE:IxR X (oU X.K):=DP.as λ_ _ _ _ ⟨p,xs,i,v,a,b,c,d,q⟩=>⟨p,xs,i,v,a,b,c,d,q⟩
theorem ar:IxR X (oT X.K):=DO.as λ_ _ _ _ ⟨p,xs,i,v,a,b,c,d,q⟩=>⟨p,xs,i,v,a,b,c,d,q⟩
theorem Bc{K:W.Frag}(e:X.K=K):IxR X (oU K):=by
 subst e;exact aE
theorem Bb{K:W.Frag}(e:X.K=K):IxR X (oT K):=by
 subst e;exact ar
theorem bK:cJ X (.builtin "len") (oS X.K):=Ff.as λ_ _ _ ⟨p,ys,a,b,q⟩=>⟨p,ys,a,b,q⟩
theorem fI:cJ X (.builtin "isinstance") (oV X.K):=Fg.as λ_ _ _ ⟨x,t,T,b,h1,h2,h3,q⟩=>⟨x,t,T,b,h1,h2,h3,q⟩
theorem Bh{K:W.Frag}(e:X.K=K):cJ X (.builtin "isinstance") (oV K):=by
 subst e;exact fI
theorem oN:cJ X (.type "list") (oR X.K):=Fe.as λ_ _ _ ⟨p,ys,a,b,q⟩=>⟨p,ys,a,b,q⟩
theorem Bf{K:W.Frag}(e:X.K=K):cJ X (.type "list") (oR K):=by
 subst e;exact oN
theorem cA:MtM X "list.append" vF:=λpins s Y H x xs v us Q I rx rv ⟨l,ys,y,h1,h2,h3,h4,q⟩=>Dd pins s Y H x xs v us Q I rx rv ⟨l,ys,y,h1,h2,h3,h4,q⟩
inductive oW(K:W.Frag)(f:Str)(x:V)(H:Hp)(Q:VK):Prop
 |mk (a C dx:Addr) (fs:List (Str×V)) (v:V) (h1:x=.ref a) (h2:H a=some (.ins C dx fs)) (h3:Cls K C) (h4:eh K C f) (h5:fs.lookup f=some v) (q:Q v H):oW K f x H Q
def oX(K:W.Frag)(ta:TE)(f:Str):TE:=λY H Q=>ta Y H λx H1=>oW K f x H1 Q
theorem Bn(K:W.Frag)(ta:TE)(f:Str):oX K ta f=mF K ta f:=by
 funext Y H Q
 unfold oX mF
 have:(λx H1=>oW K f x H1 Q)=λx H1=>∃a C dx fs v,x=V.ref a/\H1 a=some (.ins C dx fs)/\Cls K C/\eh K C f/\fs.lookup f=some v/\Q v H1:=by
  funext x H1
  exact propext ⟨λ⟨a,C,dx,fs,v,h1,h2,h3,h4,h5,q⟩=>⟨a,C,dx,fs,v,h1,h2,h3,h4,h5,q⟩,λ⟨a,C,dx,fs,v,h1,h2,h3,h4,h5,q⟩=>⟨a,C,dx,fs,v,h1,h2,h3,h4,h5,q⟩⟩
 rw[this]
theorem dU{e:Expr}{ta:TE}{f:Str}{pos:Pos}(he:PE X e ta)(hb:attributeBase e f X.env (eval e X.env)=eval e X.env):PE X (.Attribute e f pos) (oX X.K ta f):=by
 rw[Bn];exact BO he hb
def oO(t:TA):TE:=λY H Q=>t Y H λxs H1=>jx (xs.length<=sizeLine) (∀p,H1 p=none->Q (.ref p) (upd H1 p (.tup xs)))
def oQ(t:TA):TE:=λY H Q=>t Y H λxs H1=>jx (xs.length<=sizeLine) (∀p,H1 p=none->Q (.ref p) (upd H1 p (.lst xs)))
theorem Bj(t:TA):oO t=mD t:=by
 funext Y H Q
 unfold oO mD;simp only[oY]
theorem Bm(t:TA):oQ t=mE t:=by
 funext Y H Q
 unfold oQ mE;simp only[oY]
theorem ba{x1}{es:List Expr}{t:TA}{pos:Pos}(h:PA X es t):PE X (.Tuple es x1 pos) (oO t):=by
 rw[Bj];exact BI h
theorem aT{es:List Expr}{t:TA}{pos:Pos}(h:PA X es t):PE X (.List es pos) (oQ t):=by
 rw[Bm];exact BM h
inductive oP(vs:List V)(H:Hp)(R:It->Hp->Prop):Prop
 |mk (j:Int) (h:vs=[.int j]) (h1:-(2 ^ 62)<=j) (h2:j<2 ^ 62) (q:R (Itr 0 j.toNat) H):oP vs H R
def rH(ta:TA):TI:=λY H R=>ta Y H λvs H1=>oP vs H1 R
theorem DN(ta:TA):rH ta=rN ta:=by
 funext Y H R
 unfold rH rN
 have:(λvs H1=>oP vs H1 R)=λvs H1=>∃j:Int,vs=[V.int j]/\-(2 ^ 62)<=j/\j<2 ^ 62/\R (Itr 0 j.toNat) H1:=by
  funext vs H1
  exact propext ⟨λ⟨j,h,h1,h2,q⟩=>⟨j,h,h1,h2,q⟩,λ⟨j,h,h1,h2,q⟩=>⟨j,h,h1,h2,q⟩⟩
 rw[this]
theorem ic{tg a:Expr}{ta:TA}{p pos:Pos}(hg:Gl X "range")(hm:X.mg "range"=none)(ha:PA X [a] ta)(hs:starEach [a] X.env=[(false,eval a X.env)]:=by rfl):PI X tg (.Call (.Name "range" p) [a] [] pos) (rH ta):=by
 rw[DN];exact BF hg hm ha hs
def qBM(K:W.Frag)(T:String)(r:V->List V->Hp->VK->Prop)(to:TE)(t:TA):TE:=λY H Q=>to Y H λx H1=>jx (tyV K T x H1) (t Y H1 λxs H2=>r x xs H2 Q)
theorem Bo(K:W.Frag)(T:String)(r:V->List V->Hp->VK->Prop)(to:TE)(t:TA):qBM K T r to t=tBM K T r to t:=by
 funext Y H Q
 unfold qBM tBM;simp only[oY]
theorem bH{o e:Expr}{es:List Expr}{to:TE}{t:TA}{name:Str}{apos cpos:Pos}{T id:String}{r:V->List V->Hp->VK->Prop}(pa:PlainAttrs T)(slot:Slot T name id)(hty:typeOf (.builtin id)=pure (.type "method_descriptor"))(hm:MtR X id r)(ho:PE X o to)(ha:PA X (e::es) t)
 (hbase:attributeBase o name X.env (eval o X.env)=eval o X.env:=by rfl)
 (hfew:((backTo cpos (starEach (e::es) X.env)).all (λx=>!x.1) && (backToKw cpos (keywordEach [] X.env)).all (λx=>x.1.isSome)
  && decide ((e::es).length+([]:List Keyword).length+(if([]:List Keyword).isEmpty then 0 else 1)<30))=true:=by rfl)
 (hline:(apos.endLine == cpos.line)=true:=by rfl) (hs:starEach (e::es) X.env=(false,eval e X.env)::starEach es X.env:=by rfl) (hplain:(backTo cpos (starEach es X.env)).any (·.1)=false:=by rfl):
 PE X (.Call (.Attribute o name apos) (e::es) [] cpos) (qBM X.K T r to t):=by
 rw[Bo];exact BS pa slot hty hm ho ha hbase hfew hline hs hplain
end
theorem DT{b:Bool}{Y:St}{i j:Nat}{H:Hp}{Q:VK}{x y:Int}(hx:Y[i]?=some (some (.int x)))(hy:Y[j]?=some (some (.int y)))(h:Q (.int (if b=true then x else y)) H):if b=true then jw i Y H Q else jw j Y H Q:=by
 cases b
 .exact⟨_,hy,h⟩
 .exact⟨_,hx,h⟩
section
variable {prog:Program}{w:World}{A:Around}{E:Yq}{s:Shared}
end
section
variable {X:Cx}{pins:List (Addr×Obj)}{Y:St}
end
section
variable {X:Cx}{pins:List (Addr×Obj)}{Y:St}{H:Hp}{s:Shared}{a:Addr}{kvs:List (Key×V)}{k:Key}{z:V}{u r:Value}{A:Around}{E:Yq}
theorem cg.not_got{o:Option V}(h:cg o none):o=none:=by
 cases o with
 |none=>rfl
 |some v=>exact h.elim
theorem cg.got{o:Option V}{u:Value}(h:cg o (some u)):∃v,o=some v/\aB v u:=by
 cases o with
 |none=>exact h.elim
 |some v=>exact⟨v,U,h⟩
theorem EG{Q:Yq}(I:Inv X pins Y H s)(e:H a=some (.dK kvs))(ry:aB (kV k) u)(rz:aB z r)(few:kvs.length<sizeLine)
 (h1:∀v w' s',aJ kvs k=some v->Inv X pins Y H s'->aB v w'->Q w' s') (h2:∀s',aJ kvs k=none->Inv X pins Y (upd H a (.dK (bf kvs k z))) s'->Q r s'):
 wpAny (model X.prog X.w) A (call (.builtin "dict.setdefault") [.ref a,u,r]) Q E s:=by
 obtain⟨zz,hd,vs,rel,dd⟩:=jQ I.hok e;have hz:vs.length<=sizeLine:=by rw[<- rel.length];exact zz
 have hl:(bf kvs k z).length<=sizeLine:=by have:=dL kvs k z;omega
 have rv:=rel.val k;refine call_meetsIn PySem.F.slot_dict_setdefault dd.typeIs PySem.F.entry_dict_setdefault (PySem.F.args_dict_setdefault_3 _ _ _) (kt_meets_setdefault (cY X.prog X.w) a (gx ry) hd r) ⟨vs,dd,hz,λv' hv'=>?_,λhn h' dd' hs=>?_⟩
 .rw[hv']at rv;obtain⟨v,e1,e2⟩:=cg.got rv;exact h1 v v' _ e1 (I.tok _) e2
 .rw[hn]at rv;have he:∃q,h'.get? a=some q:=let ⟨q,_,_,hq,_⟩:=dd';⟨q,hq⟩;exact h2 _ (cg.not_got rv) (m5 I (by rw[e];exact True.intro) hs he (rW hl hd (rel.put k rz) dd'))
end
def zg(td ty tx:TE):TE:=λY H Q=>td Y H λx H1=>∃a,x=.ref a/\IsD H1 a/\ty Y H1 λy H2=>tx Y H2 λz H3=>∃kvs k,H3 a=some (.dK kvs)/\y=kV k/\kvs.length<sizeLine /\
 (∀v,aJ kvs k=some v->Q v H3)/\(aJ kvs k=none->Q z (upd H3 a (.dK (bf kvs k z))))
section
variable {X:Cx}{o e f:Expr}{apos cpos:Pos}{td ty tx:TE}
theorem BP(ho:PE X o td)(he:PE X e ty)(hf:PE X f tx)(m:M2 X o "setdefault" apos e f cpos):PE X (.Call (.Attribute o "setdefault" apos) [e,f] [] cpos) (zg td ty tx):=by
 intro pins s Y H Q I h;refine wpAny_Call_method m.base m.few m.line PySem.F.plainAttrs_dict PySem.F.slot_dict_setdefault PySem.F.type_dict_setdefault (thn (ho pins s Y H _ I h) λu s1 ⟨x,H1,I1,rx,a,ex,d,q1⟩=>?_);subst ex;obtain rfl:u=Value.ref a:=rx;obtain⟨t1,t2,_⟩:=xa I1 d;refine⟨t1,t2,?_⟩;rw[m.trees]
 refine Calls.callWith_builtin U (Calls.evalArgs_plain (Calls.spliced_cons (thn (he pins s1 Y H1 _ I1 q1) λiv s2 ⟨y,H2,I2,ry,q2⟩=>
  Calls.spliced_cons (thn (hf pins s2 Y H2 _ I2 q2) λfv s3 ⟨z,H3,I3,rz,kvs,k,eH,ey,few,g1,g2⟩=>Calls.spliced_nil ?_))))
 subst ey;exact EG I3 eH ry rz few (λv w' s' ev I4 rw'=>⟨v,H3,I4,rw',g1 v ev⟩) λs' en I4=>⟨z,_,I4,rz,g2 en⟩
end
theorem Dp:typeLookup (.type "list") "keys"=pure none:=by rw[typeLookup_type,builtinLookup_eq_fast];kernel_rfl
section
variable {prog:Program}{w:World}{A:Around}{E:Yq}{s:Shared}
theorem Dw{a:Addr}{xs:Array Value}{k:Nat}{sl:Array (Option Value)}{Q:Option Value->Shared->Prop}(hA:A.handled=none)(hx:s.heap.get? a=some { cls:=.type "list",dict:=none,data:=.seq xs k,slots:=sl })
 (h:∀h' tk,(∀b o,s.heap.get? b=some o->h'.get? b=some o)->Q none { s with heap:=h',toks:=tk }):wpAny (model prog w) A (getAttr? (.ref a) "keys") Q E s:=by
 obtain⟨hp,g,d,tk,os⟩:=s;have hT:∀tk',(⟨hp,g,d,tk',os⟩:Shared).TypeIs (.ref a) "list":=λ_=>⟨_,hx,U⟩;have f1:=sub_AttributeError;have f3:=F.slot_list_getattribute.lookup;have f4:=F.slot_list_getattribute.bind (.ref a);have f5:=am_list_getattr_none;unfold getAttr? getAttrBy? getAttrBy
 repeat (any_goals (first|assumption|exact hT _|((with_reducible show wpAny _ _ (call (Value.builtin "list.__getattribute__") _ _) _ _ _);refine call_meets F.slot_list_getattribute (hT _) am_entry_list_getattribute (F.args_list_getattribute_2 _ _) (meets_getattribute_miss_list a xs k sl "keys" _ Dp Yd) ⟨hx,hA,λh' tk' e hx'=>?_⟩)|wp_step))
 obtain⟨t',u',he⟩:=hx'.there;show wpAny _ _ (getattributeRaised _ _ _ _ _ _ _) _ _ _;unfold getattributeRaised
 repeat (any_goals (first|assumption|wp_step))
 exact h _ _ hx'.keeps
end
theorem kY:plainId "dict.update.loop"=true:=Yd
theorem xE:entryFor table "dict.update.loop"=some Builtin.«dict.update.loop»:=entryFor_of_fast (by kernel_rfl)
noncomputable def eC{K:Type}[DecidableEq K](ps:List (K×Value)):List (K×Value):=ps.foldl (λkvs p=>stored kvs p.1 p.2) []
theorem zC{K:Type}[DecidableEq K](ps:List (K×Value))(p:K×Value):eC (ps++[p])=stored (eC ps) p.1 p.2:=by
 unfold eC;rw[List.foldl_append]
 rfl
section
variable {prog:Program}{w:World}{A:Around}{R:Result->Shared->Prop}{K:Type} [DecidableEq K] {knd:KeyKind prog w K}
def kf(knd:KeyKind prog w K)(h:Heap)(items:Array Value)(ps:List (K×Value)):Prop:=
 items.size=ps.length/\∀(i:Nat)(p:K×Value),ps[i]?=some p->∃t key,items[i]?=some (.ref t)/\h.IsTuple t #[key,p.2]/\knd.is p.1 key=true
theorem kf.keep{h h':Heap}{items:Array Value}{ps:List (K×Value)}(x:kf knd h items ps)(e:∀t o,h.get? t=some o->o.cls=.type "tuple"->h'.get? t=some o):kf knd h' items ps:=
 ⟨x.1,λi p hp=>let ⟨t,key,a,b,c⟩:=x.2 i p hp;⟨t,key,a,(let ⟨o,e1,e2,r⟩:=b;⟨o,e t o e1 e2,e2,r⟩),c⟩⟩
theorem EB{it l d:Addr}{items:Array Value}{ps:List (K×Value)}{res:Value}(hh:A.handled=none)(nil':it≠l)(nid:it≠d)(nld:l≠d)(few:ps.length<=sizeLine)
 (small:∀qs,qs.length<=ps.length->(eC (qs:List (K×Value))).length<=qs.length):
 ∀(m i:Nat)(s:Shared)(tk:Tok),ps.length-i=m->i<=ps.length->s.heap.IsListIter it l i->s.heap.IsList l items->s.heap.DictOf knd d (eC (ps.take i))->kf knd s.heap items ps->
 (∀h' tk',(∀b o,b≠it->b≠d->s.heap.get? b=some o->h'.get? b=some o)->h'.DictOf knd d (eC ps)->R (.ok (.ret res)) { s with heap:=h',toks:=tk' })->
 codeAny (model prog w) A (.builtin "dict.update.loop" ⟨[.ref d,.ref it,.int i tk,res],[]⟩) R s:=by
 intro m
 induction m with
 |zero=>
  intro i s tk hm hi hit hl hd hp hR;have e:i=ps.length:=Yo;subst e;rw[qN]at hd;refine codeAny_builtin xE ?_;rw[Around.under_plainId kY _];show wpAny _ A.in1 (pyNext (.ref it) >>= _) _ _ s;refine q9 (wpAny_pyNext_list_end (by simpa using hh) hit hl (Array.getElem?_eq_none (by rw[hp.1];exact qg _)) λh' ex=>?_);show wpAny _ _ (Builtin.Dict.addKeywords d [] >>= _) _ _ _;refine q9 (qf (qf (hR h' s.toks (λb o nb _ q=>ex b o nb q) ?_)));obtain⟨o,es,ep,ho,r⟩:=hd;exact⟨o,es,ep,ex d o (Ne.symm nid) ho,r⟩
 |succ m ih=>
  intro i s tk hm hi hit hl hd hp hR;have lt:i<ps.length:=Yo;obtain⟨t,key,e1,e2,e3⟩:=hp.2 i ps[i] (qe lt);refine codeAny_builtin xE ?_;rw[Around.under_plainId kY _];show wpAny _ A.in1 (pyNext (.ref it) >>= _) _ _ s;refine q9 (wpAny_pyNext_list_item hit hl e1 λh1 hit1 sb1=>?_);obtain⟨ot,et1,et2,nt,et3⟩:=e2
  have ntit:t≠it:=λz=>by
   obtain⟨oi,q1,q2,_⟩:=hit;rw[z,q1]at et1;cases et1;rw[q2]at et2;exact Qb (Value.type.inj et2) Yk
  have ntd:t≠d:=λz=>by
   obtain⟨od,q1,q2⟩:=(show s.TypeIs (.ref d) "dict" from hd.typeIs);rw[z,q1]at et1;cases et1;rw[q2]at et2;exact Qb (Value.type.inj et2) Yk
  have et1':h1.get? t=some ot:=(sb1.2 t ntit).trans et1;have hd1:h1.DictOf knd d (eC (ps.take i)):=hd.sameBut sb1 (Ne.symm nid);refine q9 (QB (q9 (wpAny_tryCatch ?_)));unfold Builtin.Dict.pairItems;refine q9 (wpAny_typeOf_ref et1' ?_);rw[et2];refine q9 (QC et1' et3 (qf ?_));refine QB (wpAny_dictSet_pairs e3 hd1 (λh2 hd2 sb2=>?_) ?_)
  .refine qf ⟨plainId_quiet kY _,ih (i+1) { s with heap:=h2,toks:=s.toks+1 } 0 Yo Yo ?_ ?_ ?_ ?_ λh' tk' kp dd=>hR h' tk' (λb o n1 n2 q=>kp b o n1 n2 ((sb2.2 b n2).trans ((sb1.2 b n1).trans q))) dd⟩
   .obtain⟨o,q1,r⟩:=hit1;exact⟨o,(sb2.2 it nid).trans q1,r⟩
   .obtain⟨o,q1,r⟩:=hl;exact⟨o,(sb2.2 l nld).trans ((sb1.2 l (Ne.symm nil')).trans q1),r⟩
   .rw[qy,qe lt];show h2.DictOf knd d (eC (ps.take i++[ps[i]]));rw[zC];exact hd2
   .refine hp.keep λb o q1 q2=>?_
    have nb1:b≠it:=λz=>by
     obtain⟨oi,r1,r2,_⟩:=hit;rw[z,r1]at q1;cases q1;rw[r2]at q2;exact Qb (Value.type.inj q2) Yk
    have nb2:b≠d:=λz=>by
     obtain⟨od,r1,r2⟩:=(show s.TypeIs (.ref d) "dict" from hd.typeIs);rw[z,r1]at q1;cases q1;rw[r2]at q2;exact Qb (Value.type.inj q2) Yk
    exact(sb2.2 b nb2).trans ((sb1.2 b nb1).trans q1)
  .have h1:=small (ps.take i) (by rw[qQ];omega);have h2:(ps.take i).length<=ps.length:=by rw[qQ];omega
   omega
end
section
variable {prog:Program}{w:World}{A:Around}{E:Yq}{K:Type} [DecidableEq K] {knd:KeyKind prog w K}{s:Shared}
theorem EA{l:Addr}{xs:Array Value}{k:Nat}{sl:Array (Option Value)}{ps:List (K×Value)}{Q:Yq}(hh:A.handled=none)(hl:s.heap.get? l=some { cls:=.type "list",dict:=none,data:=.seq xs k,slots:=sl })(hp:kf knd s.heap xs ps)(few:ps.length<=sizeLine)
 (small:∀qs,qs.length<=ps.length->(eC (qs:List (K×Value))).length<=qs.length)
 (h:∀h' tk,(∀b o,s.heap.get? b=some o->h'.get? b=some o)->h'.DictOf knd s.heap.objs.size (eC ps)->Q (.ref s.heap.objs.size) { s with heap:=h',toks:=tk }):
 wpAny (model prog w) A (call (.type "dict") [.ref l]) Q E s:=by
 refine callType_codes (Q₁:=λobj s₁=>obj=.ref s.heap.objs.size/\s₁={ s with heap:=s.heap.push { cls:=.type "dict",data:=.dict #[] } }) PySem.F.kt_called_dict (PySem.F.kt_typeCall_dict_1 _) PySem.F.entry_dict_init (kt_code_dict_new _ ⟨U,U⟩) ?_;rintro obj s₁ ⟨rfl,rfl⟩;have hnew:(s.heap.push { cls:=.type "dict",data:=.dict #[] }).DictOf knd s.heap.objs.size []:=Heap.DictOf.new s.heap;refine⟨hnew.typeIs,PySem.F.args_dict_init_2 _ _,?_⟩;unfold Builtin.«dict.__init__»;refine q9 ?_;unfold Builtin.Dict.selfAndRest;refine q9 (wpAny_notOrdered_dict hnew.typeIs ?_);show wpAny _ _ (pure (s.heap.objs.size,[Value.ref l])) _ _ _;refine qf ?_;show wpAny _ _ (Builtin.Dict.updateFrom "dict.__init__" s.heap.objs.size (.ref l) [] .none) _ _ _;unfold Builtin.Dict.updateFrom;have hl':(s.heap.push { cls:=.type "dict",data:=.dict #[] }).get? l=some { cls:=.type "list",dict:=none,data:=.seq xs k,slots:=sl }:=qb _ hl;refine q9 (wpAny_typeOf_ref hl' ?_);rw[Q8 (show((Value.type "list":Value) != Value.type "dict")=true by decide)];refine q9 (Dw (by simpa using hh) hl' λh1 tk1 kp1=>?_);rw[Q8 (show(none:Option Value).isNone=true from rfl)];refine q9 (wpAny_rule ?_);have hl1:=kp1 _ _ hl'
 have hd1:h1.DictOf knd s.heap.objs.size []:=by
  obtain⟨o,es,ep,ho,r⟩:=hnew;exact⟨o,es,ep,kp1 _ _ ho,r⟩
 refine q9 (wpAny_pyIter_list (items:=xs) ⟨_,hl1,U,_,U⟩ ?_);have nl:l≠s.heap.objs.size:=λz=>Qb (qv hl) (by rw[z];exact Qi _)
 have sz:s.heap.objs.size<h1.objs.size:=by
  obtain⟨o,_,_,ho,_⟩:=hd1;exact qv ho
 have nit:h1.objs.size≠l:=λz=>Qb (qv hl1) (by rw[<- z];exact Qi _);refine qf ⟨plainId_quiet kY _,EB (knd:=knd) (items:=xs) (ps:=ps) (by simpa using hh) nit (Nat.ne_of_gt sz) nl few small ps.length 0 _ 0 (Nat.sub_zero _) (qz _) ?_ ?_ ?_ ?_ λh' tk' kp dd=>?_⟩
 .exact⟨_,qu _ U,U,U⟩
 .exact⟨_,qb _ hl1,U,_,U⟩
 .exact hd1.push _
 .exact(hp.keep λt o q _=>kp1 _ _ (qb _ q)).keep λt o q _=>qb _ q
 .refine⟨U,h h' tk' (λb o q=>?_) dd⟩;have lt:=qv q;exact kp b o (qM (Nat.lt_trans lt sz)) (qM lt) (qb _ (kp1 _ _ (qb _ q)))
end
noncomputable def ck(ps:List (Key×V)):List (Key×V):=ps.foldl (λkvs p=>bf kvs p.1 p.2) []
theorem Bq(ps:List (Key×V)):(ck ps).length<=ps.length:=by
 have:∀(ps kvs:List (Key×V)),(ps.foldl (λkvs p=>bf kvs p.1 p.2) kvs).length<=kvs.length+ps.length:=by
  intro ps
  induction ps with
  |nil=>intro kvs;simp
  |cons p r ih=>
   intro kvs;have h1:=ih (bf kvs p.1 p.2);have h2:=dL kvs p.1 p.2;rw[QF,qH];omega
 have:=this ps [];simpa[ck]using this
theorem zA{K:Type}[DecidableEq K](kvs:List (K×Value))(k:K)(v:Value):(stored kvs k v).length<=kvs.length+1:=by
 unfold stored;split<;>simp
theorem zD{K:Type}[DecidableEq K](qs:List (K×Value)):(eC qs).length<=qs.length:=by
 have:∀(ps kvs:List (K×Value)),(ps.foldl (λkvs p=>stored kvs p.1 p.2) kvs).length<=kvs.length+ps.length:=by
  intro ps
  induction ps with
  |nil=>intro kvs;simp
  |cons p r ih=>
   intro kvs;have h1:=ih (stored kvs p.1 p.2);have h2:=zA kvs p.1 p.2;rw[QF,qH];omega
 have:=this qs [];simpa[eC]using this
section
variable {X:Cx}{pins:List (Addr×Obj)}{Y:St}{H:Hp}{s:Shared}
def B8(K:W.Frag):List V->Hp->VK->Prop:=λvs H Q=>∃l us ps,vs=[.ref l]/\H l=some (.lst us)/\us.length=ps.length/\ps.length<=sizeLine/\(∀(i:Nat)(p:Key×V),ps[i]?=some p->∃t,us[i]?=some (.ref t)/\H t=some (.tup [kV p.1,p.2]))/\∀d,H d=none->Q (.ref d) (upd H d (.dK (ck ps)))
theorem vS{h:Heap}(ok:HOk X.prog X.w H h):∀(us:List V)(its:List Value)(ps:List (Key×V)),az us its->us.length=ps.length->(∀(i:Nat)(p:Key×V),ps[i]?=some p->∃t,us[i]?=some (.ref t)/\H t=some (.tup [kV p.1,p.2]))->
 ∃qs:List (Key×Value),KV ps qs/\its.length=qs.length/\∀(i:Nat)(q:Key×Value),qs[i]?=some q->∃t key,its[i]?=some (.ref t)/\h.IsTuple t #[key,q.2]/\(cY X.prog X.w).is q.1 key=true
 |[],_,[],.nil,_,_=>⟨[],.nil,U,λi q hq=>by simp at hq⟩
 |u::us,_,[],_,hl,_=>by simp at hl
 |[],_,p::ps,_,hl,_=>by simp at hl
 |u::us,_,p::ps,@Paired.cons _ _ _ _ y _ ys rx r,hl,hp=>by
  obtain⟨t,e1,e2⟩:=hp 0 p U;obtain rfl:u=.ref t:=by simpa using e1
  obtain⟨qs,kv,ln,hq⟩:=vS ok us ys ps r (by simpa using hl) λi p' h'=>by
   obtain⟨t',a,b⟩:=hp (i+1) p' (by simpa using h');exact⟨t',by simpa using a,b⟩
  obtain⟨_,jts,rj,o,h1,h2,n,h3⟩:=(show bF X.prog X.w H h t (.tup [kV p.1,p.2])from ok t _ e2);obtain⟨k1,v1,rfl,r1,r2⟩:=jf rj;cases rx;refine⟨(p.1,v1)::qs,.cons ⟨U,r2⟩ kv,by simp[ln],λi q h'=>?_⟩
  cases i with
  |zero=>
   have e:(p.1,v1)=q:=by simpa using h'
   subst e;exact⟨t,k1,U,⟨o,h1,h2,n,h3⟩,gx r1⟩
  |succ i=>exact hq i q (by simpa using h')
theorem KV.all:∀{ps:List (Key×V)}{qs:List (Key×Value)},KV ps qs->KV (ck ps) (eC qs):=by
 have:∀{ps:List (Key×V)}{qs:List (Key×Value)},KV ps qs->∀{a:List (Key×V)}{b:List (Key×Value)},KV a b->KV (ps.foldl (λkvs p=>bf kvs p.1 p.2) a) (qs.foldl (λkvs p=>stored kvs p.1 p.2) b):=by
  intro ps qs h
  induction h with
  |nil=>intro a b h;exact h
  |cons hx _ ih=>
   intro a b h;obtain⟨e1,e2⟩:=hx;rw[QF,QF,<- e1];exact ih (h.put _ e2)
 intro ps qs h;exact this h .nil
theorem y2(hc:X.calm=true):cJ X (.type "dict") (B8 X.K):=by
 intro pins s Y H xs us Q I r h;obtain⟨l,ys,ps,rfl,hl,ln,few,hp,q⟩:=h;obtain⟨u,rfl,rx⟩:=fV r;cases rx;obtain⟨hz,its,c',r',e⟩:=(show bF X.prog X.w H s.heap l (.lst ys)from I.hok l _ hl);obtain⟨qs,kv,ln',hq⟩:=vS I.hok ys its ps r' ln hp;have kl:=kv.length;refine EA (knd:=cY X.prog X.w) (ps:=qs) (I.ok.hd hc) e ⟨by simpa using ln',λi p hp=>?_⟩ Yo (λqs _=>zD qs) λh' tk kp dd=>?_
 .obtain⟨t,key,a,b,c⟩:=hq i p hp;exact⟨t,key,by simpa using a,b,c⟩
 .have len:=Bq ps;refine⟨.ref s.heap.objs.size,_,I.laid (t':=tk) kp (qg _) (rW Yo ?_ kv.all dd),U,q _ (I.hok.fresh (qg _))⟩;exact(xI s.heap I.big:bF X.prog X.w H _ s.heap.objs.size (.dK [])).2.1
end
end L2
namespace Tr
open PySem PySem.Spec PyProof.Rows L2
noncomputable abbrev sl(x:Str):List Nat:=x.cps.toList
theorem hU(x y:Str):sl (x++y)=sl x++sl y:=by
 show(x.cps++y.cps).toList=_;simp
theorem zS(x:Str):x.length=(sl x).length:=U
theorem mU(x:Str)(l u:Option Int):sl (Txt.slice x l u)=((sl x).drop (HT.sIx x.length 0 l)).take (HT.sIx x.length x.length u-HT.sIx x.length 0 l):=by
 have e:Builtin.Str.strSliceIndices l u 1 x.length=(List.range (HT.sIx x.length x.length u-HT.sIx x.length 0 l)).map (HT.sIx x.length 0 l+·):=by
  rw[<- sliceRange_one];unfold Builtin.Str.strSliceIndices;simp only[show(1:Int) > 0 by decide,if_true]
  congr 1
  .cases l with
   |none=>rfl
   |some i=>
    simp only[HT.sIx];split<;>omega
  .cases u with
   |none=>rfl
   |some i=>
    simp only[HT.sIx];split<;>omega
 unfold Txt.slice;rw[e];split
 .rename_i h;simp only[qa,Qk,Bool.and_eq_true,beq_iff_eq]at h;have h1:=HT.sIx_le x.length 0 (qz _) l;have h2:=HT.sIx_le x.length x.length (qg _) u;by_cases z:x.length=0
  .have:sl x=[]:=List.length_eq_zero_iff.mp z;rw[this];simp
  .have a0:HT.sIx x.length 0 l=0:=by omega
   have b0:HT.sIx x.length x.length u=x.length:=Yo;rw[a0,b0];simp only[List.drop_zero,Nat.sub_zero];exact(qN).symm
 .show(((List.range _).map _).filterMap (x.cps[·]?)).toArray.toList=_;rw[pick_run]
theorem mT{x:Str}{k:Int}(h:0<=k):sl (Txt.slice x none (some k))=(sl x).take k.toNat:=by
 obtain⟨n,rfl⟩:=Int.eq_ofNat_of_zero_le h;rw[mU];simp only[HT.sIx_none,List.drop_zero,Nat.sub_zero];rw[show(some (n:Int))=some ((n:Nat):Int)from rfl,HT.sIx_nat];show _=(sl x).take n;rw[List.take_eq_take_iff];show min (min n (sl x).length) _=_;omega
theorem jY{j:Int}(h1:0<=j)(h2:j<26):bZ j=97+j.toNat:=by
 obtain⟨n,rfl⟩:=Int.eq_ofNat_of_zero_le h1;have all:∀n:_root_.Fin 26,cP.cps.toList.getD n.1 0=97+n.1:=Yd;exact all ⟨n,Yo⟩
theorem DD:∀w∈kws,sl w=(sl w).dropLast++[(sl w).getLastD 97]/\2<=(sl w).length:=Yd
theorem uU(w:Str):sl (cM w)=sl w\/(2<=(sl w).length/\sl (cM w)=(sl w).dropLast++[bZ ((ip w+13) % 26)]):=by
 unfold cM;split
 .rename_i h;obtain⟨e,h2⟩:=DD w h;refine .inr ⟨h2,?_⟩;rw[hU,mU];simp only[HT.sIx_none,List.drop_zero,Nat.sub_zero]
  have:HT.sIx w.length w.length (some (-1))=(sl w).length-1:=by
   simp only[HT.sIx,show((-1:Int)<0)by decide,if_true];rw[zS];omega
  rw[this,List.dropLast_eq_take]
  rfl
 .exact .inl U
theorem zM(w:Str):(sl (cM w)).length=(sl w).length:=by
 rcases uU w with h|⟨h2,h⟩
 .rw[h]
 .rw[h,qc,QG,Qd];omega
theorem kC{w:Str}{p:Nat}{m:Int}(h1:0<=m)(h2:m<26)(e:(sl w)[p]?=some (bZ m)):(sl (cM w))[p]?=some (bZ m)\/(sl (cM w))[p]?=some (bZ ((m+13) % 26)):=by
 rcases uU w with h|⟨hl,h⟩
 .rw[h];exact .inl e
 .obtain⟨hp,ep⟩:=qh.mp e;rw[h];by_cases q:p=(sl w).length-1
  .refine .inr ?_
   have hlast:(sl w).getLastD 97=bZ m:=by
    rw[<- ep,List.getLastD_eq_getLast?,List.getLast?_eq_getElem?,<- q,e,<- ep]
    rfl
   have:ip w=m:=by
    unfold ip;show(((sl w).getLastD 97:Nat):Int)-97=m;rw[hlast,jY h1 h2];omega
   rw[this,qR (by rw[QG];omega),QG,show p-((sl w).length-1)=0 by omega]
   rfl
  .refine .inl ?_;rw[Qc (by rw[QG];omega),List.getElem?_dropLast,Q8 Yo];exact e
theorem apart{q i j:Int}(hi:0<=i/\i<13)(hj:0<=j/\j<13)(ne:i≠j){a b:Nat}(ha:a=bZ ((q+i) % 26)\/a=bZ (((q+i) % 26+13) % 26))(hb:b=bZ ((q+j) % 26)\/b=bZ (((q+j) % 26+13) % 26)):a≠b:=by
 intro e;have z1:=jY (j:=(q+i) % 26) Yo Yo;have z2:=jY (j:=((q+i) % 26+13) % 26) Yo Yo;have z3:=jY (j:=(q+j) % 26) Yo Yo;have z4:=jY (j:=((q+j) % 26+13) % 26) Yo Yo;rcases ha with rfl|rfl<;>rcases hb with rfl|rfl<;>omega
theorem wL(n:Int):∀k,(sl (cE n k)).length=k
 |0=>rfl
 |k+1=>by rw[cE,hU,qc,wL n k];rfl
theorem BA(c:Int){i j:Nat}(hi:i<8)(hj:j<8)(ne:i≠j):cM (bW c i)≠cM (bW c j):=by
 intro e;have e':=congrArg sl e;have sg:∀k:Nat,sl (eP c k)=[bZ ((aF c 1 / 192+k) % 26)]:=λ_=>U;have bl:(sl (bS c)).length=8:=wL _ 8;by_cases h0:aF c 1 % 3=0
 .have s1:1<=dv c/\dv c<=8:=by unfold dv;omega
  have a1:0<=cW c/\cW c<dv c:=by
   unfold cW;exact⟨Qg _ Yo,Ql _ Yo⟩
  have at_:∀k:Nat,(sl (bW c k))[(cW c).toNat]?=some (bZ ((aF c 1 / 192+k) % 26)):=λk=>by
   unfold bW;rw[Q8 h0,hU,hU,mT a1.1,sg,qT,qR (by rw[qQ];omega),qQ,bl,show(cW c).toNat-min (cW c).toNat 8=0 by omega]
   rfl
  have x:=kC Yo Yo (at_ i);have y:=kC Yo Yo (at_ j);rw[<- e']at y;rcases x with x|x<;>rcases y with y|y<;>rw[x]at y<;>refine apart (q:=aF c 1 / 192) (i:=i) (j:=j) Yo Yo Yo ?_ ?_ (qP y)<;>simp
 .by_cases h1:aF c 1 % 3=1
  .have ln:∀k:Nat,((sl (cM (bW c k))).length:Int)=1+(aF c 1 / 24+k) % 8:=λk=>by
    rw[zM];unfold bW;rw[Q7 h0,Q8 h1,mT Yo,qQ,bl];omega
   have x:=ln i;have y:=ln j;rw[e']at x;omega
  .have at_:∀k:Nat,(sl (bW c k))[0]?=some (bZ ((aF c 1 / 192+k) % 26)):=λk=>by
    unfold bW;rw[Q7 h0,Q7 h1,mT Yo,hU,sg,List.getElem?_take,Q8 Yo]
    rfl
   have x:=kC Yo Yo (at_ i);have y:=kC Yo Yo (at_ j);rw[<- e']at y;rcases x with x|x<;>rcases y with y|y<;>rw[x]at y<;>refine apart (q:=aF c 1 / 192) (i:=i) (j:=j) Yo Yo Yo ?_ ?_ (qP y)<;>simp
theorem By(c:Int){n:Nat}(h:n<=8):(d7 c n).Nodup:=by
 have up:(du c n).Nodup:=by
  unfold du;refine List.pairwise_map.mpr (List.Pairwise.imp_of_mem (λ{a b} ha hb lt=>?_) (List.pairwise_lt_range (n:=n)));have h1:=List.mem_range.mp ha;have h2:=List.mem_range.mp hb;exact BA c Yo Yo Yo
 unfold d7;split
 .exact List.pairwise_reverse.mpr (List.Pairwise.imp (λh=>Ne.symm h) up)
 .exact up
end Tr
namespace L2
open PySem PySem.Spec PyProof.Rows
section
variable {X:Cx}
theorem lg:OpR X (compareOp .In) (λx y H Q=>∃a kvs k,y=.ref a/\H a=some (.dK kvs)/\x=kV k/\Q (.bl (aJ kvs k).isSome) H):=by
 intro pins s Y H x y v u Q I rx ry h;obtain⟨a,kvs,k,rfl,hd,rfl,q⟩:=h;cases ry;obtain⟨_,ne,vs,rel,dd⟩:=jQ I.hok hd;refine wpAny_in_of (gx rx) ne dd.mapOf ⟨.bl _,H,I.tok _,?_,q⟩;rw[<- (rel.val k).isSome_eq]
 rfl
theorem DQ:IxR X (λx y H Q=>∃a kvs k v,x=.ref a/\H a=some (.dK kvs)/\y=kV k/\aJ kvs k=some v/\Q v H):=by
 intro value slice pins s Y H x y v u Q I rx ry h hs;obtain⟨a,kvs,k,z,rfl,hd,rfl,e,q⟩:=h;cases rx;obtain⟨_,ne,vs,rel,dd⟩:=jQ I.hok hd;obtain⟨w',hw,rw'⟩:=cg.some_of (v:=z) (o:=valueAt vs k) (by rw[<- e];exact rel.val k);exact tail_any dd.typeIs PySem.F.slot_dict_getitem.lookup (wpAny_getItem_of (gx ry) dd.mapOf hw ⟨z,H,I.tok _,rw',q⟩) hs
end
end L2
namespace Tr
open PySem PySem.Spec PyProof.Rows L2
abbrev Wat:=Int×Str×Str
noncomputable abbrev dN(e:Wat):HO:=.tup [.int e.1,.str e.2.1,.str e.2.2]
inductive RWs(H:Hp):List V->List Wat->Prop
 |nil:RWs H [] []
 |cons {p:Addr}{vs:List V}{e:Wat}{es:List Wat}:H p=some (dN e)->RWs H vs es->RWs H (.ref p::vs) (e::es)
theorem RWs.same{H H':Hp}(s:a8 H H'):∀{vs:List V}{es:List Wat},RWs H vs es->RWs H' vs es
 |_,_,.nil=>.nil
 |_,_,.cons h r=>.cons (s _ _ h) (RWs.same s r)
theorem RWs.snoc{H:Hp}{p:Addr}{e:Wat}(h:H p=some (dN e)):∀{vs:List V}{es:List Wat},RWs H vs es->RWs H (vs++[.ref p]) (es++[e])
 |_,_,.nil=>.cons h .nil
 |_,_,.cons h' r=>.cons h' (RWs.snoc h r)
theorem RWs.app{H:Hp}{us:List V}{fs:List Wat}(h:RWs H us fs):∀{vs:List V}{es:List Wat},RWs H vs es->RWs H (vs++us) (es++fs)
 |_,_,.nil=>h
 |_,_,.cons h' r=>.cons h' (RWs.app h r)
theorem RWs.len{H:Hp}:∀{vs:List V}{es:List Wat},RWs H vs es->vs.length=es.length
 |_,_,.nil=>rfl
 |_,_,.cons _ t=>congrArg (·+1) (RWs.len t)
theorem RWs.off{H:Hp}{c:Addr}{xs:List V}{o:HO}(hc:H c=some (.lst xs)):∀{vs:List V}{es:List Wat},RWs H vs es->RWs (upd H c o) vs es
 |_,_,.nil=>.nil
 |_,_,.cons (p:=p) h r=>.cons (by rw[af (λz=>by rw[z,hc]at h;cases h)];exact h) (RWs.off hc r)
noncomputable def db(ow:Str->Option Int)(kd:Str)(cs:List Str):List Wat:=cs.filterMap λc=>(ow c).map λn=>(n,kd,c)
theorem Fh(ow:Str->Option Int)(kd c:Str)(cs:List Str):db ow kd (cs++[c])=db ow kd cs++((ow c).map λn=>(n,kd,c)).toList:=by
 unfold db;rw[List.filterMap_append,List.filterMap_cons,List.filterMap_nil];cases ow c<;>rfl
theorem iD(ow:Str->Option Int)(kd:Str)(cs:List Str):(db ow kd cs).length<=cs.length:=List.length_filterMap_le _ _
def jc(kvs:List (Key×V))(ow:Str->Option Int):Prop:=∀c:Str,aJ kvs (.inr c)=(ow c).map V.int
inductive RWL(H:Hp):List V->List (List Wat)->Prop
 |nil:RWL H [] []
 |cons {p:Addr}{us vs:List V}{es:List Wat}{ws:List (List Wat)}:H p=some (.lst us)->RWs H us es->RWL H vs ws->RWL H (.ref p::vs) (es::ws)
theorem RWL.same{H H':Hp}(s:a8 H H'):∀{vs:List V}{ws:List (List Wat)},RWL H vs ws->RWL H' vs ws
 |_,_,.nil=>.nil
 |_,_,.cons h h' r=>.cons (s _ _ h) (h'.same s) (RWL.same s r)
theorem RWL.snoc{H:Hp}{p:Addr}{us:List V}{es:List Wat}(h:H p=some (.lst us))(h':RWs H us es):∀{vs:List V}{ws:List (List Wat)},RWL H vs ws->RWL H (vs++[.ref p]) (ws++[es])
 |_,_,.nil=>.cons h h' .nil
 |_,_,.cons a b r=>.cons a b (RWL.snoc h h' r)
theorem RWL.len{H:Hp}:∀{vs:List V}{ws:List (List Wat)},RWL H vs ws->vs.length=ws.length
 |_,_,.nil=>rfl
 |_,_,.cons _ _ t=>congrArg (·+1) (RWL.len t)
noncomputable def bN(rs:List Row)(c:Str):Option Int:=rs.zipIdx.foldl (λo p=>if c∈p.1.owns then some (p.2:Int)else o) none
theorem wV(rs:List Row)(r:Row)(c:Str):bN (rs++[r]) c=if c∈r.owns then some (rs.length:Int)else bN rs c:=by
 unfold bN;rw[List.zipIdx_append,List.foldl_append];simp
noncomputable def da(rs:List Row)(r:Row):List Wat:=db (bN rs) "card" r.owns++db (bN rs) "copy" r.reads
noncomputable def cQ(rs:List Row):Nat->List (List Wat)
 |0=>[]
 |i+1=>cQ rs i++((rs[i]?).map λr=>da (rs.take i) r).toList
theorem RWL.off{H:Hp}{c:Addr}{xs:List V}{o:HO}(hc:H c=some (.lst xs)):∀{vs:List V}{ws:List (List Wat)},RWL H vs ws->(∀v∈vs,v≠.ref c)->RWL (upd H c o) vs ws
 |_,_,.nil,_=>.nil
 |_,_,.cons (p:=p) h h' r,ne=>.cons (by rw[af (λz=>ne (.ref p) qt (by rw[z]))];exact h) (h'.off hc) (RWL.off hc r λv hv=>ne v (qq _ hv))
theorem RWs.offD{H:Hp}{c:Addr}{kvs:List (Key×V)}{o:HO}(hc:H c=some (.dK kvs)):∀{vs:List V}{es:List Wat},RWs H vs es->RWs (upd H c o) vs es
 |_,_,.nil=>.nil
 |_,_,.cons (p:=p) h r=>.cons (by rw[af (λz=>by rw[z,hc]at h;cases h)];exact h) (RWs.offD hc r)
theorem RWL.offD{H:Hp}{c:Addr}{kvs:List (Key×V)}{o:HO}(hc:H c=some (.dK kvs)):∀{vs:List V}{ws:List (List Wat)},RWL H vs ws->RWL (upd H c o) vs ws
 |_,_,.nil=>.nil
 |_,_,.cons (p:=p) h h' r=>.cons (by rw[af (λz=>by rw[z,hc]at h;cases h)];exact h) (h'.offD hc) (RWL.offD hc r)
theorem jZ(rs:List Row):∀i,i<=rs.length->(cQ rs i).length=i
 |0,_=>rfl
 |i+1,h=>by rw[cQ,qc,jZ rs i Yo,qe Yo];rfl
noncomputable def jD(ow:Str->Option Int)(n:Int)(cs:List Str):Str->Option Int:=λc=>if c∈cs then some n else ow c
theorem jc.put{kvs:List (Key×V)}{ow:Str->Option Int}{n:Int}{cs:List Str}{c:Str}(h:jc kvs (jD ow n cs)):jc (bf kvs (.inr c) (.int n)) (jD ow n (cs++[c])):=λq=>by
 rw[dF];unfold jD;by_cases e:q=c
 .subst e;rw[Q8 U,Q8 (by simp)]
  rfl
 .rw[Q7 (λz=>e (Sum.inr.inj z)),h q];unfold jD;by_cases m:q∈cs
  .rw[Q8 m,Q8 (by simp[m])]
  .rw[Q7 m,Q7 (by simp[m,e])]
noncomputable def ap(f:Row->Option Str)(rs:List Row)(q:Str):List Int:=rs.zipIdx.filterMap λp=>if f p.1=some q then some (p.2:Int)else none
theorem lB(f:Row->Option Str)(rs:List Row)(r:Row)(q:Str):ap f (rs++[r]) q=ap f rs q++(if f r=some q then[(rs.length:Int)]else[]):=by
 unfold ap;rw[List.zipIdx_append,List.filterMap_append]
 congr 1
 by_cases h:f r=some q<;>simp[h]
theorem wm(f:Row->Option Str)(rs:List Row)(q:Str):(ap f rs q).length<=rs.length:=by
 unfold ap;refine qF (List.length_filterMap_le _ _) ?_;rw[List.length_zipIdx];exact qg _
structure RN(H:Hp)(kvs:List (Key×V))(m:Str->List Int):Prop where
 at_:∀q:Str,(aJ kvs (.inr q)=none/\m q=[])\/∃p,aJ kvs (.inr q)=some (.ref p)/\H p=some (.lst ((m q).map V.int))
 one:∀(q q':Str)(p:Addr),aJ kvs (.inr q)=some (.ref p)->aJ kvs (.inr q')=some (.ref p)->q=q'
theorem RN.same{H H':Hp}{kvs:List (Key×V)}{m:Str->List Int}(s:a8 H H')(h:RN H kvs m):RN H' kvs m:=
 ⟨λq=>(h.at_ q).imp id λ⟨p,a,b⟩=>⟨p,a,s _ _ b⟩,h.one⟩
theorem RN.eq{H:Hp}{kvs:List (Key×V)}{m m':Str->List Int}(h:RN H kvs m)(e:∀q,m' q=m q):RN H kvs m':=
 ⟨λq=>by rw[e q];exact h.at_ q,h.one⟩
theorem RN.old{H:Hp}{kvs:List (Key×V)}{m m':Str->List Int}{q:Str}{p:Addr}{n:Int}(h:RN H kvs m)(hv:aJ kvs (.inr q)=some (.ref p))(e:m' q=m q++[n])(e':∀q',q'≠q->m' q'=m q'):RN (upd H p (.lst ((m q).map V.int++[.int n]))) kvs m':=by
 refine⟨λq'=>?_,h.one⟩;by_cases z:q'=q
 .subst z;refine .inr ⟨p,hv,?_⟩;rw[ag,e,qU]
  rfl
 .rw[e' q' z];rcases h.at_ q' with a|⟨p',a,b⟩
  .exact .inl a
  .refine .inr ⟨p',a,?_⟩;rw[af (λy=>z (h.one q' q p (by rw[a,y]) hv))];exact b
theorem RN.new{H:Hp}{kvs:List (Key×V)}{m m':Str->List Int}{q:Str}{d l:Addr}{n:Int}{o:HO}(h:RN H kvs m)(hd:H d=some (.dK kvs))(hl:H l=none)(hv:aJ kvs (.inr q)=none)(e:m' q=[n])(e':∀q',q'≠q->m' q'=m q'):RN (upd (upd (upd H l o) d (.dK (bf kvs (.inr q) (.ref l)))) l (.lst [.int n])) (bf kvs (.inr q) (.ref l)) m':=by
 have val:∀q':Str,aJ (bf kvs (.inr q) (.ref l)) (.inr q')=if q'=q then some (.ref l)else aJ kvs (.inr q'):=λq'=>by
  rw[dF];by_cases z:q'=q
  .rw[Q8 z,Q8 (by rw[z])]
  .rw[Q7 z,Q7 (λy=>z (Sum.inr.inj y))]
 have old:∀(q':Str)(p:Addr),aJ kvs (.inr q')=some (.ref p)->p≠l:=λq' p hp z=>by
  rcases h.at_ q' with⟨a,_⟩|⟨p',a,b⟩
  .rw[a]at hp;cases hp
  .rw[a]at hp;cases hp;rw[z,hl]at b;cases b
 refine⟨λq'=>?_,λq1 q2 p h1 h2=>?_⟩
 .rw[val];by_cases z:q'=q
  .rw[Q8 z,z,e];exact .inr ⟨l,U,ag⟩
  .rw[Q7 z,e' q' z];rcases h.at_ q' with a|⟨p',a,b⟩
   .exact .inl a
   .refine .inr ⟨p',a,?_⟩;have nl:=old q' p' a;have nd:p'≠d:=λy=>by rw[y,hd]at b;cases b
    rw[af nl,af nd,af nl];exact b
 .rw[val]at h1 h2;by_cases z1:q1=q<;>by_cases z2:q2=q
  .rw[z1,z2]
  .rw[Q8 z1]at h1;rw[Q7 z2]at h2;cases h1;exact Qb U (old _ _ h2)
  .rw[Q7 z1]at h1;rw[Q8 z2]at h2;cases h2;exact Qb U (old _ _ h1)
  .rw[Q7 z1]at h1;rw[Q7 z2]at h2;exact h.one _ _ _ h1 h2
noncomputable def fR(W:List (List Wat))(i:Nat)(e:Wat):List (List Wat):=W.modify i (·++[e])
theorem sM(W:List (List Wat))(i:Nat)(e:Wat):(fR W i e).length=W.length:=List.length_modify ..
theorem ma(W:List (List Wat))(i j:Nat)(e:Wat):(fR W i e)[j]?=(W[j]?).map λes=>if i=j then es++[e]else es:=by
 unfold fR;rw[List.getElem?_modify];by_cases h:i=j
 .simp[h]
 .simp[h]
structure RWM(H:Hp)(as:List Addr)(W:List (List Wat)):Prop where
 nd:as.Nodup
 len:as.length=W.length
 at_:∀(i:Nat)(p:Addr)(es:List Wat),as[i]?=some p->W[i]?=some es->∃us,H p=some (.lst us)/\RWs H us es
theorem RWM.same{H H':Hp}{as:List Addr}{W:List (List Wat)}(s:a8 H H')(h:RWM H as W):RWM H' as W:=
 ⟨h.nd,h.len,λi p es a b=>let ⟨us,c,d⟩:=h.at_ i p es a b;⟨us,s _ _ c,d.same s⟩⟩
theorem RWM.lists{H:Hp}:∀{as:List Addr}{W:List (List Wat)},as.length=W.length->(∀(i:Nat)(p:Addr)(es:List Wat),as[i]?=some p->W[i]?=some es->∃us,H p=some (.lst us)/\RWs H us es)->RWL H (as.map V.ref) W
 |[],[],_,_=>.nil
 |[],_::_,h,_=>by simp at h
 |_::_,[],h,_=>by simp at h
 |p::as,es::W,h,g=>by
  obtain⟨us,a,b⟩:=g 0 p es U U;exact .cons a b (RWM.lists (by simpa using h) λi p' es' x y=>g (i+1) p' es' (by simpa using x) (by simpa using y))
theorem RWM.rwl{H:Hp}{as:List Addr}{W:List (List Wat)}(h:RWM H as W):RWL H (as.map V.ref) W:=RWM.lists h.len h.at_
theorem RWM.add{H:Hp}{as:List Addr}{W:List (List Wat)}{n:Nat}{p t:Addr}{us:List V}{e:Wat}(h:RWM H as W)(hp:as[n]?=some p)(hu:H p=some (.lst us))(ht:H t=some (dN e)):RWM (upd H p (.lst (us++[.ref t]))) as (fR W n e):=by
 refine⟨h.nd,by rw[sM];exact h.len,λi p' es hi hw=>?_⟩;rw[ma]at hw
 cases ew:W[i]? with
 |none=>rw[ew]at hw;cases hw
 |some es0=>
  rw[ew]at hw;obtain⟨us',a,b⟩:=h.at_ i p' es0 hi ew;by_cases z:n=i
  .subst z;rw[hp]at hi;cases hi;rw[hu]at a;cases a;have:es0++[e]=es:=by simpa using hw
   subst this;exact⟨_,ag,(b.off hu).snoc (by rw[af (λy=>by rw[y,hu]at ht;cases ht)];exact ht)⟩
  .have:es0=es:=by simpa[z]using hw
   subst this
   have np:p'≠p:=λy=>z (by
    obtain⟨l1,e1⟩:=qh.mp hp;obtain⟨l2,e2⟩:=qh.mp hi
    exact(List.getElem_inj h.nd).mp (by rw[e1,e2,y]))
   exact⟨us',by rw[af np];exact a,b.off hu⟩
def Sm(W:List (List Wat))(n:Nat):Prop:=∀(i:Nat)(es:List Wat),W[i]?=some es->es.length<=n
theorem Sm.add{W:List (List Wat)}{n i:Nat}{e:Wat}(h:Sm W n):Sm (fR W i e) (n+1):=λj es hj=>by
 rw[ma]at hj
 cases ew:W[j]? with
 |none=>rw[ew]at hj;cases hj
 |some es0=>
  rw[ew]at hj;have:=h j es0 ew;have e2:(if i=j then es0++[e]else es0)=es:=by simpa using hj
  rw[<- e2];split
  .rw[qc,Qd];omega
  .omega
theorem Sm.mono{W:List (List Wat)}{n m:Nat}(h:Sm W n)(l:n<=m):Sm W m:=λi es a=>qF (h i es a) l
noncomputable def eB(q:Str)(ps gs:List Int)(W:List (List Wat)):Nat->List (List Wat)
 |0=>W
 |k+1=>fR (eB q ps gs W k) (gs.getD k 0).toNat (ps.getD k 0,"thing",q)
noncomputable def awaited(n:Nat)(gs:List Int)(k:Nat):Int:=if k<gs.length then gs.getD k 0 else(n:Int)-1
noncomputable def dR(q:Str)(n:Nat)(cs gs:List Int)(W:List (List Wat)):Nat->List (List Wat)
 |0=>W
 |k+1=>fR (dR q n cs gs W k) (cs.getD k 0).toNat (awaited n gs k,"room",q)
noncomputable def iE(rs:List Row)(s:Str×Int)(W:List (List Wat)):List (List Wat):=
 dR s.1 rs.length ((ap Row.into rs s.1).drop s.2.toNat) (ap Row.outof rs s.1) (eB s.1 (ap Row.into rs s.1) (ap Row.outof rs s.1) W (min (ap Row.into rs s.1).length (ap Row.outof rs s.1).length)) ((ap Row.into rs s.1).drop s.2.toNat).length
noncomputable def dc(rs:List Row)(ss:List (Str×Int))(W:List (List Wat)):Nat->List (List Wat)
 |0=>W
 |j+1=>iE rs (ss.getD j ("",0)) (dc rs ss W j)
theorem lC{f:Row->Option Str}{rs:List Row}{q:Str}{k:Nat}{n:Int}(h:(ap f rs q)[k]?=some n):0<=n/\n.toNat<rs.length/\∃r,rs[n.toNat]?=some r/\f r=some q:=by
 have m:=qG h;unfold ap at m;obtain⟨⟨r,i⟩,hi,e⟩:=List.mem_filterMap.mp m;by_cases z:f r=some q
 .have e':(i:Int)=n:=by simpa[z]using e
  subst e';have:=List.mem_zipIdx_iff_getElem?.mp hi;exact⟨Yo,(qh.mp this).1,r,this,z⟩
 .simp[z]at e
theorem RWL.at{H:Hp}:∀{vs:List V}{ws:List (List Wat)},RWL H vs ws->∀(i:Nat)(v:V),vs[i]?=some v->∃p us es,v=.ref p/\H p=some (.lst us)/\RWs H us es/\ws[i]?=some es
 |_,_,.nil,i,v,h=>by simp at h
 |_,_,.cons (p:=p) (us:=us) (es:=es) a b r,0,v,h=>⟨p,us,es,by simpa using h.symm,a,b,U⟩
 |_,_,.cons _ _ r,i+1,v,h=>RWL.at r i v (by simpa using h)
theorem RWM.push{H:Hp}{as:List Addr}{W:List (List Wat)}{l:Addr}{us:List V}{es:List Wat}(h:RWM H as W)(hl:H l=none)(w:RWs H us es):RWM (upd H l (.lst us)) (as++[l]) (W++[es]):=by
 have s:a8 H (upd H l (.lst us)):=a8.new hl _
 have old:l∉as:=λm=>by
  obtain⟨i,hi,e⟩:=List.mem_iff_getElem.mp m;have hiw:i<W.length:=by rw[<- h.len];exact hi
  obtain⟨us',c,_⟩:=h.at_ i l W[i] (by rw[qe hi,e]) (qe hiw);rw[hl]at c;cases c
 refine⟨List.nodup_append.mpr ⟨h.nd,by simp,λa ha b hb z=>?_⟩,by simp[h.len],λi p es' hi hw=>?_⟩
 .rw[qY.mp hb]at z;exact old (z▸ha)
 .by_cases lt:i<as.length
  .rw[Qc lt]at hi;rw[Qc (by rw[<- h.len];exact lt)]at hw;exact(h.same s).at_ i p es' hi hw
  .have:i=as.length:=by
    have:=(qh.mp hi).1;simp at this;omega
   subst this;rw[qR (qg _),Nat.sub_self]at hi;rw[h.len,qR (qg _),Nat.sub_self]at hw;cases hi;cases hw;exact⟨us,ag,w.same s⟩
theorem RWM.there{H:Hp}{as:List Addr}{W:List (List Wat)}{p:Addr}(h:RWM H as W)(m:p∈as):∃us,H p=some (.lst us):=by
 obtain⟨i,hi,e⟩:=List.mem_iff_getElem.mp m;have hiw:i<W.length:=by rw[<- h.len];exact hi
 obtain⟨us',c,_⟩:=h.at_ i p W[i] (by rw[qe hi,e]) (qe hiw);exact⟨us',c⟩
noncomputable def cK(as:List Addr)(H:Hp):Hp:=λa=>if a∈as then none else H a
theorem xO(as:List Addr)(H:Hp):a8 (cK as H) H:=λa o h=>by
 unfold cK at h;split at h
 .cases h
 .exact h
theorem ix{as:List Addr}{H:Hp}{a:Addr}{o:HO}(h:H a=some o)(n:a∉as):cK as H a=some o:=by
 unfold cK;rw[Q7 n];exact h
theorem xQ{as:List Addr}{H:Hp}{a:Addr}(m:a∈as):cK as H a=none:=Q8 m
theorem xP{as:List Addr}{H0 H:Hp}(s:a8 H0 H)(f:∀p∈as,H0 p=none):a8 H0 (cK as H):=λa o h=>ix (s _ _ h) λm=>by rw[f a m]at h;cases h
theorem RN.cut{as:List Addr}{H:Hp}{kvs:List (Key×V)}{m:Str->List Int}(h:RN H kvs m)(f:∀(q:Str)(p:Addr),aJ kvs (.inr q)=some (.ref p)->p∉as):RN (cK as H) kvs m:=
 ⟨λq=>(h.at_ q).imp id λ⟨p,a,b⟩=>⟨p,a,ix b (f q p a)⟩,h.one⟩
theorem EM(xs:List Int){n:Int}(h:0<=n):eV (xs.map V.int) (some n) none=(xs.drop n.toNat).map V.int:=by
 obtain⟨k,rfl⟩:=Int.eq_ofNat_of_zero_le h;unfold eV;rw[HT.sIx_none,show(some ((k:Nat):Int))=some ((k:Nat):Int)from rfl,HT.sIx_nat,qa,Q5,<- List.map_drop,<- List.map_take]
 congr 1
 by_cases z:k<=xs.length
 .rw[Nat.min_eq_left z,List.take_of_length_le (by rw[Q6];omega)]
 .rw[Nat.min_eq_right Yo,List.drop_of_length_le (qg _),List.drop_of_length_le Yo];simp
theorem sL{rs:List Row}(small:∀r∈rs,r.owns.length<=4000/\r.reads.length<=4000):∀n,Sm (cQ rs n) 8000
 |0=>λi es h=>by simp[cQ]at h
 |n+1=>λi es h=>by
  rw[cQ]at h
  cases e:rs[n]? with
  |none=>rw[e]at h;exact sL small n i es (by simpa using h)
  |some r=>
   rw[e]at h;by_cases lt:i<(cQ rs n).length
   .rw[Qc lt]at h;exact sL small n i es h
   .rw[qR Yo]at h
    have:es=da (rs.take n) r:=by
     cases ei:i-(cQ rs n).length with
     |zero=>rw[ei]at h;simpa using h.symm
     |succ m=>rw[ei]at h;simp at h
    subst this;obtain⟨a,b⟩:=small r (qG e);have h1:=iD (bN (rs.take n)) "card" r.owns;have h2:=iD (bN (rs.take n)) "copy" r.reads;unfold da;rw[qc];omega
theorem xc(c:Str):∀zs:List Str,inV (.str c) (zs.map V.str)=decide (c∈zs)
 |[]=>by simp[inV]
 |z::r=>by
  have ih:=xc c r;unfold inV at *;rw[qX,List.any_cons,ih];by_cases e:c=z
  .subst e;simp[eqV]
  .have e':¬ z=c:=λy=>e y.symm;simp[eqV,e,e']
theorem wg(f:Row->Option Str)(a:List Row)(r:Row)(b:List Row)(q:Str):∃hi:List Int,(∀x∈hi,(a.length:Int)<x)/\(∀x∈ap f a q,0<=x/\x<(a.length:Int))/\ap f (a++r::b) q=ap f a q++((if f r=some q then[(a.length:Int)]else[])++hi):=by
 refine⟨(b.zipIdx (a.length+1)).filterMap λp=>if f p.1=some q then some (p.2:Int)else none,λx hx=>?_,λx hx=>?_,?_⟩
 .obtain⟨⟨r',i⟩,hi,e⟩:=List.mem_filterMap.mp hx;have:=(List.mem_zipIdx hi).1;by_cases z:f r'=some q
  .have e':(i:Int)=x:=by simpa[z]using e
   omega
  .simp[z]at e
 .obtain⟨k,hk⟩:=List.getElem?_of_mem hx;obtain⟨h1,h2,_⟩:=lC hk;omega
 .unfold ap;rw[List.zipIdx_append,List.filterMap_append,List.zipIdx_cons,List.filterMap_cons]
  congr 1
  by_cases z:f r=some q
  .simp[z]
  .simp[z]
theorem wj{f:Row->Option Str}{rs:List Row}{i:Nat}{r:Row}(q:Str)(h:rs[i]?=some r)(k:Nat):(ap f rs q)[k]?=some (i:Int)↔f r=some q/\k=(ap f (rs.take i) q).length:=by
 have lt:=(qh.mp h).1
 have sp:rs=rs.take i++r::rs.drop (i+1):=by
  rw[<- List.singleton_append,<- qT,show rs.take i++[r]=rs.take (i+1)by rw[qy,h];rfl,QA]
 obtain⟨hi,h1,h2,e⟩:=wg f (rs.take i) r (rs.drop (i+1)) q;rw[<- sp]at e;have il:(rs.take i).length=i:=by rw[qQ];omega
 rw[il]at h1 h2 e;rw[e];constructor
 .intro g;by_cases kl:k<(ap f (rs.take i) q).length
  .rw[Qc kl]at g;have:=(h2 _ (qG g)).2;omega
  .rw[qR Yo]at g;by_cases z:f r=some q
   .rw[Q8 z,List.singleton_append]at g
    cases ek:k-(ap f (rs.take i) q).length with
    |zero=>exact⟨z,Yo⟩
    |succ m=>
     rw[ek,List.getElem?_cons_succ]at g;have:=h1 _ (qG g);omega
   .rw[Q7 z,Qr]at g;have:=h1 _ (qG g);omega
 .rintro⟨z,rfl⟩;rw[qR (qg _),Nat.sub_self,Q8 z]
  rfl
theorem wn{f:Row->Option Str}{rs:List Row}{i:Nat}{r:Row}(q:Str)(h:rs[i]?=some r){k:Nat}(lt:k<(ap f rs q).length):((ap f rs q).getD k 0).toNat=i↔f r=some q/\k=(ap f (rs.take i) q).length:=by
 rw[<- wj q h k,qp,qe lt];obtain⟨h1,_⟩:=lC (qe lt);show(ap f rs q)[k].toNat=i↔some (ap f rs q)[k]=some (i:Int);constructor
 .intro e
  congr 1
  omega
 .intro e;have:=qP e;omega
theorem tf(q:Str)(ps gs:List Int)(W:List (List Wat))(i:Nat)(c:Nat)(on:Prop)[Decidable on]:∀K,(∀k,k<K->((gs.getD k 0).toNat=i↔on/\k=c))->(eB q ps gs W K)[i]?=(W[i]?).map λes=>es++(if on/\c<K then([(ps.getD c 0,"thing",q)]:List Wat)else[])
 |0,_=>by simp[eB]
 |K+1,h=>by
  rw[eB,ma,tf q ps gs W i c on K λk hk=>h k Yo,Option.map_map];have hK:=h K Yo
  congr 1
  funext es
  show(if(gs.getD K 0).toNat=i then _++_ else _)=_;by_cases o:on
  .by_cases z:K=c
   .subst z;rw[Q8 (hK.mpr ⟨o,U⟩),Q7 Yo,Q8 ⟨o,Yo⟩];show(es++[])++_=_;rw[qE]
   .rw[Q7 (λy=>z (hK.mp y).2)];by_cases l:c<K
    .rw[Q8 ⟨o,l⟩,Q8 ⟨o,Yo⟩]
    .rw[Q7 (λy=>l y.2),Q7 (λy=>by have:=y.2;omega)]
  .rw[Q7 (λy=>o (hK.mp y).1),Q7 (λy=>o y.1),Q7 (λy=>o y.1)]
theorem vo(q:Str)(n:Nat)(cs gs:List Int)(W:List (List Wat))(i:Nat)(c:Nat)(on:Prop)[Decidable on]:∀K,(∀k,k<K->((cs.getD k 0).toNat=i↔on/\k=c))->(dR q n cs gs W K)[i]?=(W[i]?).map λes=>es++(if on/\c<K then([(awaited n gs c,"room",q)]:List Wat)else[])
 |0,_=>by simp[dR]
 |K+1,h=>by
  rw[dR,ma,vo q n cs gs W i c on K λk hk=>h k Yo,Option.map_map];have hK:=h K Yo
  congr 1
  funext es
  show(if(cs.getD K 0).toNat=i then _++_ else _)=_;by_cases o:on
  .by_cases z:K=c
   .subst z;rw[Q8 (hK.mpr ⟨o,U⟩),Q7 Yo,Q8 ⟨o,Yo⟩];show(es++[])++_=_;rw[qE]
   .rw[Q7 (λy=>z (hK.mp y).2)];by_cases l:c<K
    .rw[Q8 ⟨o,l⟩,Q8 ⟨o,Yo⟩]
    .rw[Q7 (λy=>l y.2),Q7 (λy=>by have:=y.2;omega)]
  .rw[Q7 (λy=>o (hK.mp y).1),Q7 (λy=>o y.1),Q7 (λy=>o y.1)]
noncomputable def gC(rs:List Row)(i:Nat)(r:Row)(q:Str):List Wat:=if r.outof=some q then[((ap Row.into rs q).getD (ap Row.outof (rs.take i) q).length 0,"thing",q)]else[]
noncomputable def gG(rs:List Row)(i:Nat)(r:Row)(s:Str×Int):List Wat:=if r.into=some s.1/\s.2.toNat<=(ap Row.into (rs.take i) s.1).length then[(awaited rs.length (ap Row.outof rs s.1) ((ap Row.into (rs.take i) s.1).length-s.2.toNat),"room",s.1)]else[]
theorem Fo{rs:List Row}{i:Nat}{r:Row}(h:rs[i]?=some r)(s:Str×Int)(W:List (List Wat))(fed:∀q,r.outof=some q->(ap Row.outof (rs.take i) q).length<(ap Row.into rs q).length):(iE rs s W)[i]?=(W[i]?).map λes=>es++(gC rs i r s.1++gG rs i r s):=by
 unfold iE
 have pl:∀f:Row->Option Str,f r=some s.1->(ap f (rs.take i) s.1).length<(ap f rs s.1).length:=λf hf=>by
  have:=(wj s.1 h (ap f (rs.take i) s.1).length).mpr ⟨hf,U⟩;exact(qh.mp this).1
 rw[vo s.1 rs.length _ _ _ i ((ap Row.into (rs.take i) s.1).length-s.2.toNat) (r.into=some s.1/\s.2.toNat<=(ap Row.into (rs.take i) s.1).length) _ ?hr,tf s.1 _ _ W i (ap Row.outof (rs.take i) s.1).length (r.outof=some s.1) _ ?ht,Option.map_map]
 case ht=>
  intro k hk;exact wn s.1 h Yo
 case hr=>
  intro k hk;rw[Q6]at hk;have e:((ap Row.into rs s.1).drop s.2.toNat).getD k 0=(ap Row.into rs s.1).getD (s.2.toNat+k) 0:=by rw[qp,List.getElem?_drop,qp]
  rw[e,wn s.1 h Yo];constructor
  .rintro⟨a,b⟩;exact⟨⟨a,Yo⟩,Yo⟩
  .rintro⟨⟨a,b⟩,c⟩;exact⟨a,Yo⟩
 congr 1
 funext es
 show(es++_)++_=es++(_++_);rw[qT]
 congr 1
 congr 1
 .unfold gC;by_cases z:r.outof=some s.1
  .have h1:=pl Row.outof z;have h2:=fed _ z;rw[Q8 ⟨z,Yo⟩,Q8 z]
  .rw[Q7 (λy=>z y.1),Q7 z]
 .unfold gG;by_cases z:r.into=some s.1/\s.2.toNat<=(ap Row.into (rs.take i) s.1).length
  .have h1:=pl Row.into z.1;have h2:=z.2;rw[Q8 ⟨z,by rw[Q6];omega⟩,Q8 z]
  .rw[Q7 (λy=>z y.1),Q7 z]
theorem yc{rs:List Row}{ss:List (Str×Int)}{i:Nat}{r:Row}(h:rs[i]?=some r)(W:List (List Wat))(fed:∀q,r.outof=some q->(ap Row.outof (rs.take i) q).length<(ap Row.into rs q).length):∀j,j<=ss.length->(dc rs ss W j)[i]?=(W[i]?).map λes=>es++(ss.take j).flatMap λs=>gC rs i r s.1++gG rs i r s
 |0,_=>by simp[dc]
 |j+1,hj=>by
  have lt:j<ss.length:=Yo;rw[dc,Fo h _ _ fed,yc h W fed j Yo,Option.map_map];have e:ss.getD j ("",0)=ss[j]:=by rw[qp,qe lt];rfl
  congr 1
  funext es
  show(es++_)++_=es++_;rw[e,qT,qy,qe lt,Q0];simp
theorem rR{α:Type}{g:Str×Int->List α}:∀{ss:List (Str×Int)}{q:Str}{n:Int},(ss.map (·.1)).Nodup->(q,n)∈ss->(∀s∈ss,s.1≠q->g s=[])->ss.flatMap g=g (q,n)
 |[],_,_,_,m,_=>by simp at m
 |s::ss,q,n,nd,m,hg=>by
  rw[qX,List.nodup_cons]at nd;rw[qL];rcases qA.mp m with e|m
  .subst e
   have:ss.flatMap g=[]:=by
    rw[List.flatMap_eq_nil_iff];intro s' hs';exact hg s' (qq _ hs') λy=>nd.1 (by rw[<- y];exact List.mem_map_of_mem (f:=(·.1)) hs')
   rw[this,qE]
  .have ne:s.1≠q:=λy=>nd.1 (by rw[y];exact List.mem_map_of_mem (f:=(·.1)) m);rw[hg s qt ne,Qr];exact rR nd.2 m λs' hs'=>hg s' (qq _ hs')
theorem yh{rs:List Row}{i:Nat}{r:Row}(h:rs[i]?=some r):∀n,i<n->n<=rs.length->(cQ rs n)[i]?=some (da (rs.take i) r)
 |0,l,_=>Yo
 |n+1,l,hn=>by
  have ln:=jZ rs n Yo;rw[cQ];by_cases z:i<n
  .rw[Qc Yo];exact yh h n z Yo
  .have:i=n:=by omega
   subst this;rw[qR Yo,ln,Nat.sub_self,h]
   rfl
theorem Fn(rs:List Row)(s:Str×Int)(W:List (List Wat)):(iE rs s W).length=W.length:=by
 have h1:∀K,(eB s.1 (ap Row.into rs s.1) (ap Row.outof rs s.1) W K).length=W.length:=λK=>by
  induction K with
  |zero=>rfl
  |succ K ih=>rw[eB,sM,ih]
 have h2:∀(W':List (List Wat))(cs:List Int) K,(dR s.1 rs.length cs (ap Row.outof rs s.1) W' K).length=W'.length:=λW' cs K=>by
  induction K with
  |zero=>rfl
  |succ K ih=>rw[dR,sM,ih]
 unfold iE;rw[h2,h1]
theorem yb(rs:List Row)(ss:List (Str×Int))(W:List (List Wat)):∀j,(dc rs ss W j).length=W.length
 |0=>rfl
 |j+1=>by rw[dc,Fn,yb rs ss W j]
theorem tK(rs:List Str)(t:Int)(ms:List (Str×Str)):∀i,i<=rs.length->(fD rs t ms i).map (·.1)=rs.take i
 |0,_=>rfl
 |i+1,h=>by
  rw[fD,qU,tK rs t ms i Yo,qy,qe Yo];show _++[rs.getD i _]=_;rw[qp,qe Yo]
  rfl
theorem Dx(i j:Int):0<=jL i j:=by
 unfold jL;split
 .omega
 .split
  .omega
  .have:=Qg (i / 4) (b:=if j > 1 then j else 1) (by split<;>omega);omega
theorem tJ(rs:List Str)(t:Int)(ms:List (Str×Str)):∀i,∀s∈fD rs t ms i,0<=s.2
 |0,s,h=>by simp[fD]at h
 |i+1,s,h=>by
  rw[fD,qk]at h;rcases h with h|h
  .exact tJ rs t ms i s h
  .rw[qY.mp h];exact Dx _ _
theorem t5{k:Key}:∀(ps kvs:List (Key×V)),k∉ps.map (·.1)->aJ (ps.foldl (λkvs p=>bf kvs p.1 p.2) kvs) k=aJ kvs k
 |[],_,_=>rfl
 |p::r,kvs,h=>by
  rw[qX,qA,not_or]at h;rw[QF,t5 r _ h.2,dF,Q7 h.1]
theorem t6{k:Key}{v:V}:∀(ps kvs:List (Key×V)),(ps.map (·.1)).Nodup->(k,v)∈ps->aJ (ps.foldl (λkvs p=>bf kvs p.1 p.2) kvs) k=some v
 |[],_,_,h=>by simp at h
 |p::r,kvs,nd,h=>by
  rw[qX,List.nodup_cons]at nd;rw[QF];rcases qA.mp h with e|h
  .subst e;rw[t5 r _ nd.1,dF,Q8 U]
  .exact t6 r _ nd.2 h
noncomputable def bO(ss:List (Str×Int)):List (Key×V):=ss.map λs=>(.inr s.1,.int s.2)
theorem zB{ss:List (Str×Int)}{q:Str}{n:Int}(nd:(ss.map (·.1)).Nodup)(h:(q,n)∈ss):aJ (ck (bO ss)) (.inr q)=some (.int n):=by
 refine t6 _ _ ?_ (List.mem_map.mpr ⟨(q,n),h,U⟩);unfold bO;rw[List.map_map];have:((λx:Key×V=>x.1) ∘ λs:Str×Int=>((Sum.inr s.1:Key),V.int s.2))=(λq:Str=>(Sum.inr q:Key)) ∘ (·.1):=U;rw[this,<- List.map_map];exact List.pairwise_map.mpr (List.Pairwise.imp (λh e=>h (Sum.inr.inj e)) nd)
noncomputable def ig:Option Str->PyData
 |none=>.none
 |some q=>.str q
noncomputable def fh(r:Row):PyData:=.tuple [.str r.kind,.tuple (r.owns.map PyData.str),.tuple (r.reads.map PyData.str),ig r.into,ig r.outof]
theorem vU{K:W.Frag}{H:Hp}(o:Option Str):Dt K H (cO o) (ig o):=by cases o<;>constructor
theorem cH.dt{K:W.Frag}{H:Hp}{v:V}{r:Row}(h:cH H v r):Dt K H v (fh r):=by
 obtain⟨p,po,pr,rfl,h1,h2,h3⟩:=h;exact .tup (SqT.of h1) (.cons (.str _) (.cons (.tup (SqT.of h2) (mI _)) (.cons (.tup (SqT.of h3) (mI _)) (.cons (vU _) (.cons (vU _) .nil)))))
theorem aX.dt{K:W.Frag}{H:Hp}:∀{vs:List V}{rs:List Row},aX H vs rs->eM K H vs (rs.map fh)
 |_,_,.nil=>.nil
 |_,_,.cons h r=>.cons h.dt (aX.dt r)
def mf(r:Row):Prop:=PyData.strOk r.kind=true/\(∀s∈r.owns,PyData.strOk s=true)/\(∀s∈r.reads,PyData.strOk s=true)/\(∀q,r.into=some q->PyData.strOk q=true)/\∀q,r.outof=some q->PyData.strOk q=true
theorem wQ(o:Option Str)(h:∀q,o=some q->PyData.strOk q=true):PyData.canLay0 (ig o)=true/\PyData.depth (ig o)<=1:=by
 cases o with
 |none=>simp[ig,PyData.canLay0,PyData.depth]
 |some q=>simp[ig,PyData.canLay0,PyData.depth,h q U]
theorem wO:∀rs:List Row,(∀r∈rs,mf r)->PyData.canLayAll0 (rs.map fh)=true/\PyData.depthAll (rs.map fh)<=4
 |[],_=>by simp[PyData.canLayAll0,PyData.depthAll]
 |r::rs,h=>by
  obtain⟨a,b,c,d,e⟩:=h r qt;obtain⟨h1,h2⟩:=wO rs λx hx=>h x (qq _ hx);obtain⟨b1,b2⟩:=rE _ b;obtain⟨c1,c2⟩:=rE _ c;obtain⟨d1,d2⟩:=wQ _ d;obtain⟨e1,e2⟩:=wQ _ e;simp[fh,PyData.canLayAll0,PyData.canLay0,PyData.depthAll,PyData.depth,a,b1,c1,d1,e1,h1];omega
theorem Ae{rs:List Row}(h:∀r∈rs,mf r):SeqAt.shaped (.list (rs.map fh))=true:=by
 obtain⟨h1,h2⟩:=wO rs h;unfold SeqAt.shaped;simp[PyData.canLay0,PyData.depth,h1];omega
theorem Ad{ss:List (Str×Int)}(h:∀s∈ss,PyData.strOk s.1=true):SeqAt.shaped (.list (ss.map fE))=true:=by
 obtain⟨h1,h2⟩:=wN ss h;unfold SeqAt.shaped;simp[PyData.canLay0,PyData.depth,h1];omega
theorem eE(l:List Str):∀x∈srt l,x∈l:=by
 unfold srt;split
 .rename_i h;obtain⟨a,b,_⟩:=Classical.choose_spec h;exact λx hx=>(b x).mp hx
 .exact λx hx=>by simp at hx
theorem tT(l:List Str):∀x∈eN l,x∈l:=by
 unfold eN;split
 .rename_i h;exact λx hx=>(Classical.choose_spec h).1.mem_iff.mp hx
 .exact λx hx=>by simp at hx
theorem AL{d:aa}(hc:∀c∈cards [d],PyData.strOk c=true)(hq:∀q x,d=.put q x\/d=.get q x->PyData.strOk q=true):mf (aL d):=by
 cases d with
 |set x a sg b=>
  refine⟨show PyData.strOk ("set":Str)=true by decide +kernel,λs hs=>?_,λs hs=>?_,λq h=>(nomatch h),λq h=>(nomatch h)⟩
  .rw[qY.mp hs];exact hc _ (by simp[cards,aj,aa.flat,aa.cards,aa.names])
  .have:=(List.mem_filter.mp (eE _ s hs)).1;refine hc _ ?_;rcases qk.mp this with h|h<;>simp[cards,aj,aa.flat,aa.cards,aa.names,h]
 |put q x=>
  refine⟨show PyData.strOk ("put":Str)=true by decide +kernel,λs hs=>?_,λs hs=>?_,λq' h=>?_,λq h=>(nomatch h)⟩
  .rw[qY.mp hs];exact hc _ (by simp[cards,aj,aa.flat,aa.cards,aa.names,aa.others])
  .rw[qY.mp hs];exact hc _ (by simp[cards,aj,aa.flat,aa.cards,aa.names,aa.others])
  .cases h;exact hq _ x (.inl U)
 |get q x=>
  refine⟨show PyData.strOk ("get":Str)=true by decide +kernel,λs hs=>?_,λs hs=>(nomatch hs),λq' h=>(nomatch h),λq' h=>?_⟩
  .have:=tT _ s hs;simp only[qA,qW,or_false]at this;rcases this with rfl|rfl
   .exact hc _ (by simp[cards,aj,aa.flat,aa.cards,aa.names,aa.others])
   .exact hc _ (by simp[cards,aj,aa.flat,aa.cards,aa.names,aa.others])
  .cases h;exact hq _ x (.inr U)
 |give x=>
  refine⟨show PyData.strOk ("give":Str)=true by decide +kernel,λs hs=>?_,λs hs=>?_,λq h=>(nomatch h),λq h=>(nomatch h)⟩
  .rw[qY.mp hs];exact hc _ (by simp[cards,aj,aa.flat,aa.cards,aa.names,aa.others])
  .rw[qY.mp hs];exact hc _ (by simp[cards,aj,aa.flat,aa.cards,aa.names,aa.others])
 |cond x t o=>exact⟨show PyData.strOk ("if":Str)=true by decide +kernel,λs hs=>hc _ (eE _ s hs),λs hs=>(nomatch hs),λq h=>(nomatch h),λq h=>(nomatch h)⟩
 |whl x b=>exact⟨show PyData.strOk ("while":Str)=true by decide +kernel,λs hs=>hc _ (eE _ s hs),λs hs=>(nomatch hs),λq h=>(nomatch h),λq h=>(nomatch h)⟩
 |rep n b=>exact⟨show PyData.strOk ("repeat":Str)=true by decide +kernel,λs hs=>hc _ (eE _ s hs),λs hs=>(nomatch hs),λq h=>(nomatch h),λq h=>(nomatch h)⟩
theorem kT{d:aa}(h:(cards [d]).length<=4000):(aL d).owns.length<=4000/\(aL d).reads.length<=4000:=by
 have nm:∀v:Val,v.names.length<=1:=λv=>by cases v<;>simp[Val.names]
 cases d with
 |set x a sg b=>
  refine⟨by simp[aL],?_⟩;have h1:=kA ((a.names++b.names).filter λy=>!decide (y=x));have h2:=List.length_filter_le (λy=>!decide (y=x)) (a.names++b.names);rw[qc]at h2;have h3:=nm a;have h4:=nm b;show(srt _).length<=4000;omega
 |put q x=>simp[aL]
 |get q x=>
  have h1:=zK [x,q++("<":Str)];refine⟨?_,by simp[aL]⟩;show(eN _).length<=4000;simp at h1;omega
 |give x=>simp[aL]
 |cond x t o=>exact⟨qF (kA _) h,by simp[aL]⟩
 |whl x b=>exact⟨qF (kA _) h,by simp[aL]⟩
 |rep n b=>exact⟨qF (kA _) h,by simp[aL]⟩
theorem pQ(f:Row->Option Str)(q:Str)(rs:List Row):(ap f rs q).length=(rs.filter λr=>decide (f r=some q)).length:=by
 have:∀n,((rs.zipIdx n).filterMap λp=>if f p.1=some q then some (p.2:Int)else none).length=(rs.filter λr=>decide (f r=some q)).length:=by
  induction rs with
  |nil=>intro n;rfl
  |cons r t ih=>
   intro n;rw[List.zipIdx_cons,List.filterMap_cons,List.filter_cons];by_cases z:f r=some q
   .simp[z,ih]
   .simp[z,ih]
 exact this 0
theorem rT{rs:List Row}{i:Nat}{r:Row}{q:Str}(h:Fed rs)(hr:rs[i]?=some r)(ho:r.outof=some q):(ap Row.outof (rs.take i) q).length<(ap Row.into rs q).length:=by
 have b:=h i r q hr ho;unfold bal at b;have h1:=pQ Row.outof q (rs.take i);have h2:=pQ Row.into q (rs.take i)
 have sp:rs=rs.take i++r::rs.drop (i+1):=by
  rw[<- List.singleton_append,<- qT,show rs.take i++[r]=rs.take (i+1)by rw[qy,hr];rfl,QA]
 obtain⟨hi,_,_,e⟩:=wg Row.into (rs.take i) r (rs.drop (i+1)) q;rw[<- sp]at e;rw[e,qc];omega
noncomputable def eS(kvs:List (Key×V))(q:Str):Int:=match aJ kvs (.inr q)with
 |some (.int n)=>n
 |_=>0
theorem pW{kvs:List (Key×V)}{q:Str}{n:Int}(h:aJ kvs (.inr q)=some (.int n)):eS kvs q=n:=by
 unfold eS;rw[h]
end Tr
namespace L2
open PySem
section
variable {P:Program}{w:World}{A:Around}{E:Yq}{s:Shared}
end
end L2
namespace L2
open PySem PySem.Spec PyProof.Rows
section
variable {X:Cx}
end
section
variable {P:Program}{w:World}{A:Around}{E:Yq}{s:Shared}
end
section
variable {X:Cx}
end
section
variable {P:Program}{w:World}{K:W.Frag}{mg:Str->Option Value}{base:Heap}
end
end L2
namespace Tr
open PySem PySem.Spec PyProof.Rows L2
end Tr
namespace L2
open PySem PySem.Spec PyProof.Rows
section
variable {X:Cx}
end
section
variable {X:Cx}
end
end L2
namespace L2
open PySem PySem.Spec PyProof.Rows PySem.W
section
variable {X:Cx}{k:Nat}{f C0:Addr}{fd:FuncData}{ps:List Str}{sp:Sp}{dvs:List V}{ds:List Value}{fx cx y m n:Str}{iy im inn:Nat}{p pos apos py cp pm pn pa hpos:Pos}{e:Expr}{es:List Expr}{t:TA}
end
section
variable {X:Cx}
end
end L2
namespace Tr
open PySem PySem.Spec PyProof.Rows L2
end Tr
namespace L2
open PySem PySem.Spec PyProof.Rows PySem.W
section
variable {P:Program}{w:World}{K:W.Frag}{mg:Str->Option Value}{base:Heap}
end
end L2
namespace L2
open PySem PySem.F PySem.Spec PyProof.Rows PySem.W
set_option maxRecDepth 100000
section
variable {prog:Program}{w:World}{A:Around}{E:Yq}{s:Shared}
end
section
variable {X:Cx}
end
section
variable {X:Cx}
end
section
variable {X:Cx}
end
section
variable {X:Cx}
end
section
variable {X:Cx}{pins:List (Addr×Obj)}{Y:St}{H:Hp}{s:Shared}
end
section
variable {X:Cx}{k:Nat}{f C:Addr}{fd:FuncData}{ps:List Str}{sp:Sp}{x:Str}{p pos cpos:Pos}{e:Expr}{es:List Expr}{t:TA}
end
section
variable {X:Cx}
end
section
variable {X:Cx}
theorem BX:OpR X (compareOp .NotIn) (λx y H Q=>∃a kvs k,y=.ref a/\H a=some (.dK kvs)/\x=kV k/\Q (.bl (!(aJ kvs k).isSome)) H):=by
 intro pins s Y H x y v u Q I rx ry h;obtain⟨a,kvs,k,rfl,hd,rfl,q⟩:=h;cases ry;obtain⟨_,ne,vs,rel,dd⟩:=jQ I.hok hd;refine wpAny_notIn_of (gx rx) ne dd.mapOf ⟨.bl _,H,I.tok _,?_,q⟩;rw[<- (rel.val k).isSome_eq]
 rfl
end
section
variable {X:Cx}{e:Expr}{te:TE}{pos:Pos}
end
section
variable {X:Cx}{K:W.Frag}{o e:Expr}{es:List Expr}{to:TE}{t:TA}{name:Str}{apos cpos:Pos}{T id:String}{r:V->List V->Hp->VK->Prop}
end
section
variable {X:Cx}
end
section
variable {prog:Program}{w:World}{A:Around}{E:Yq}{s:Shared}{κ:KeyKind}
section
variable {left:Bool}{key:Keyed}{arr:Array Keyed}{base n hint:Nat}{st:SortSt}{Q:Option Nat->SortSt->Prop}
end
end
section
variable {prog:Program}{w:World}{A:Around}{E:Yq}{s:Shared}{κ:KeyKind}
section
variable {r:Keyed->Keyed->Prop}{T o X X0 Z:List Keyed}
end
section
variable {a b out:Array Keyed}{ia ib n:Nat}
end
end
section
variable {prog:Program}{w:World}{A:Around}{E:Yq}{s:Shared}{κ:KeyKind}
section
variable {a b out:Array Keyed}{ia ib n:Nat}
end
end
section
variable {prog:Program}{w:World}{A:Around}{E:Yq}{s:Shared}{κ:KeyKind}
section
variable {a b out:Array Keyed}{na nb n:Nat}
end
end
section
variable {prog:Program}{w:World}{A:Around}{E:Yq}{s:Shared}{κ:KeyKind}
section
variable {arr:Array Keyed}{P X X0 R:List Keyed}
end
end
section
variable {prog:Program}{w:World}{A:Around}{E:Yq}{s:Shared}{κ:KeyKind}
section
variable {st0 st:SortSt}{lo:Nat}
end
end
section
variable {prog:Program}{w:World}{A:Around}{E:Yq}{s:Shared}{κ:KeyKind}
section
variable {a₀:Array Keyed}{st:SortSt}{Xs:List (List Keyed)}{R:List Keyed}
end
section
variable {a₀:Array Keyed}{st:SortSt}{Xs:List (List Keyed)}{R:List Keyed}{lo n:Nat}
end
end
section
variable {prog:Program}{w:World}{A:Around}{E:Yq}{s:Shared}
end
section
variable {P:Program}{w:World}{A:Around}{E:Yq}{s:Shared}
end
section
variable {X:Cx}
end
section
variable {P:Program}{w:World}{A:Around}{E:Yq}{s:Shared}
end
section
variable {P:Program}{w:World}{A:Around}{E:Yq}{s:Shared}
end
section
variable {X:Cx}
end
section
variable {P:Program}{w:World}{A:Around}{E:Yq}{s:Shared}
end
section
variable {X:Cx}
end
end L2
namespace Tr
open PySem PySem.Spec PyProof.Rows L2
section
variable {Hb H0 H0' H H' H1:Hp}{own:List Addr}{z:List Fz}
end
section
variable {Hb H0 H0' H H' H1:Hp}{s0 s1 s2:Addr}{z:List Fz}
end
end Tr
namespace L2
open PySem PySem.Spec PyProof.Rows PySem.W
section
variable {X:Cx}{k:Nat}{f C0:Addr}{fd:FuncData}{ps:List Str}{sp:Sp}{dvs:List V}{ds:List Value}{fx cx y m n:Str}{iy im inn:Nat}{p pos apos py cp pm pn pl pa hpos tpos:Pos}{e:Expr}{es:List Expr}{t:TA}
end
end L2
namespace Tr
open PySem PySem.Spec PyProof.Rows L2
end Tr
namespace L2
open PySem PySem.Spec PyProof.Rows
section
variable {X:Cx}
end
section
variable {P:Program}{w:World}{A:Around}{E:Yq}{s:Shared}
end
section
variable {X:Cx}
end
section
variable {P:Program}{w:World}{A:Around}{E:Yq}{s:Shared}
end
section
variable {X:Cx}
end
section
variable {X:Cx}
end
end L2
namespace Tr
open PySem PySem.Spec PyProof.Rows L2
section
variable {Hb H0 H0' H H' H1:Hp}{s0 s1 s2:Addr}{z:List Fz}{os:List V}
end
end Tr
namespace L2
open PySem PySem.Spec PyProof.Rows
@[reducible] def intKey:KeyKind where
  α:=Int
  blt a b:=decide (a<b)
  irrefl a:=by simp
  trans a b c h1 h2:=by simp only[decide_eq_true_eq]at *;omega
  negTrans a b c h:=by simp only[decide_eq_true_eq]at *;omega
  total a b h1 h2:=by simp only[decide_eq_false_iff_not]at *;omega
  keyOf v:=match v with|.int n _=>some n|_=>none
  dflt:=0
section
variable {prog:Program}{w:World}{A:Around}{E:Yq}{s:Shared}
end
section
variable {X:Cx}
end
end L2
namespace Tr
open PySem PySem.Spec PyProof.Rows L2
end Tr
namespace L2
open PySem PySem.Spec PyProof.Rows
section
variable {P:Program}{w:World}{A:Around}{E:Yq}{s:Shared}{κ:Type} [DecidableEq κ] {knd:PySem.KeyKind P w κ}
end
section
variable {X:Cx}
end
end L2
namespace Tr
open PySem PySem.Spec PyProof.Rows L2
end Tr
namespace L2
open PySem PySem.Spec PyProof.Rows
section
variable {n m:Nat}{p:Array Nat}
end
section
variable {prog:Program}{w:World}{A:Around}{E:Yq}{s:Shared}
end
section
variable {X:Cx}
end
theorem xS{K:W.Frag}{a:Addr}{xs:List V}{g:TG}{te:TE}{Fin:List V->Hp->Prop}{Y:St}{H:Hp}(Pv:Nat->List V->St->Hp->Prop)(h0:Pv 0 [] Y H)(hz:∀i ys Y H,i<=xs.length->Pv i ys Y H->ys.length<=i)(hx:xs.length<=sizeLine)(hl:∀i ys Y H,Pv i ys Y H->SqT K H a xs)
 (hs:∀i x ys Y H,xs[i]?=some x->Pv i ys Y H->g x Y H λY2 H2=>te Y2 H2 λy H4=>Pv (i+1) (ys++[y]) Y2 H4)
 (hd:∀ys Y H,Pv xs.length ys Y H->Fin ys H):∃W:Nat->Nat->List V->St->Hp->Prop,(∃m,W 0 m [] Y H)/\iK (Itt K a) g jg te Fin W:=
 sh Pv h0 hz hx hl (λi x ys Y H hx p=>by
  rw[sS (N':=λ_ _ _=>True)]
  exact hs i x ys Y H hx p) hd
end L2
namespace Tr
open PySem PySem.Spec PyProof.Rows L2
end Tr
namespace L2
open PySem
section
variable {P:Program}{w:World}{A:Around}{E:Yq}{s:Shared}
set_option maxHeartbeats 3200000 in
end
open PySem.Spec PyProof.Rows
section
variable {X:Cx}
end
end L2
namespace Tr
open PySem PySem.Spec PyProof.Rows L2
end Tr
namespace L2
open PySem PySem.Spec PyProof.Rows
end L2
namespace Tr
open PySem PySem.Spec PyProof.Rows L2 PySem.NumText
end Tr
namespace HT
open PySem PyProof.Rows
section
variable {prog:Program}{w:World}{A:Around}{E:Yq}{s:Shared}
end
end HT
namespace L2
open PySem PySem.Spec PyProof.Rows
section
variable {X:Cx}
end
end L2
namespace Tr
open PySem PySem.Spec PyProof.Rows L2
end Tr
namespace L2
open PySem PySem.Spec PyProof.Rows
abbrev NK:=Option Str
noncomputable def lE:NK->Value->Bool
 |none,.none=>true
 |some x,.str y _=>decide (y=x)
 |_,_=>false
noncomputable def nkV:NK->V
 |none=>.non
 |some x=>.str x
theorem gn{k:NK}{v:Value}(h:lE k v=true):(k=none/\v=.none)\/∃x t,k=some x/\v=.str x t:=by
 cases k with
 |none=>cases v<;>simp[lE]at h ⊢
 |some x=>
  cases v<;>simp[lE]at h;subst h;exact .inr ⟨_,_,U,U⟩
noncomputable def nkH(w:World):NK->Int
 |none=>0xFCA86420
 |some x=>hashStr w x
section
variable {prog:Program}{w:World}{A:Around}{E:Yq}{s:Shared}
theorem yC{Q:Int->Shared->Prop}(h:Q 0xFCA86420 { s with toks:=s.toks+1 }):wpAny (model prog w) A (pyHash .none) Q E s:=by
 unfold pyHash
 first|unfold pyHashByItsType|skip
 have hv:[Value.none].any Value.onHeap=false:=U;refine q9 ?_;rw[cRoomFor,Q7 (by rw[hv];exact qo)];refine qf ?_;refine q9 (wpAny_specialOf (typeIs_none s) PySem.F.slot_NoneType_hash.lookup ?_);show wpAny _ _ (if(some (Value.builtin "NoneType.__hash__") == some Value.none)=true then _ else _) Q E s;rw[Q7 (by rw[beq_builtin_none];exact qo)];refine q9 (wpAny_specialOf (typeIs_none s) PySem.F.slot_NoneType_hash.lookup ?_);show wpAny _ _ (callSpecialIfBoundUnlessNone? .none "__hash__" _ >>= _) Q E s
 refine q9 (wpAny_callSpecialIfBoundUnlessNone?_slot (typeIs_none s) PySem.F.slot_NoneType_hash
  (Qp PySem.F.slot_NoneType_hash (typeIs_none s) PySem.F.entry_NoneType_hash
   (show wpAny _ _ (do ret (<- mkInt 0xFCA86420)) _ _ s from wpAny_ret_mkInt ?_) (PySem.F.args_NoneType_hash_1 _)))
 show wpAny _ _ (if(decide (-(2:Int) ^ 63<=0xFCA86420) && decide ((0xFCA86420:Int)<2 ^ 63))=true then _ else _) Q E _;rw[Q8 Yk];exact qf h
end
noncomputable def gQ(prog:Program)(w:World):PySem.KeyKind prog w NK where
 is:=lE
 hash:=nkH w
 inj:=λv a b ha hb=>by
  rcases gn ha with⟨rfl,rfl⟩|⟨x,t,rfl,rfl⟩
  .rcases gn hb with⟨rfl,e⟩|⟨y,u,rfl,e⟩
   .rfl
   .exact nomatch e
  .rcases gn hb with⟨rfl,e⟩|⟨y,u,rfl,e⟩
   .exact nomatch e
   .injection e with e1 _;rw[e1]
 byValue:=λk v h=>by
  rcases gn h with⟨rfl,rfl⟩|⟨x,t,rfl,rfl⟩<;>rfl
 pyHash:=λhv h=>by
  rcases gn hv with⟨rfl,rfl⟩|⟨x,t,rfl,rfl⟩
  .exact yC h
  .exact wpAny_pyHash_str h
 eqBool:=λhu hv h=>by
  rcases gn hu with⟨rfl,rfl⟩|⟨x,t,rfl,rfl⟩
  .rcases gn hv with⟨rfl,rfl⟩|⟨y,u,rfl,rfl⟩
   .rw[Q9 U]at h;exact SeqAt.EqAt.same Value.none _ _ _ _ h
   .rw[Qa (by simp)]at h;exact SeqAt.EqAt.none_str y u _ _ _ _ h
  .rcases gn hv with⟨rfl,rfl⟩|⟨y,u,rfl,rfl⟩
   .rw[Qa (by simp)]at h;exact SeqAt.EqAt.str_none x t _ _ _ _ h
   .refine wpAny_eqBool_str ?_
    have:decide (x=y)=decide (some x=some y):=by
     by_cases e:x=y
     .subst e;simp
     .simp[e]
    rw[this];exact h
 «strs»:=λk x t v h=>by
  rcases gn h with⟨rfl,e⟩|⟨y,u,rfl,e⟩
  .exact nomatch e
  .injection e with e1 _;subst e1;cases v<;>first|rfl|skip
theorem D8{P:Program}{w:World}{k:NK}{u:Value}(r:aB (nkV k) u):(gQ P w).is k u=true:=by
 cases k with
 |none=>
  cases(show u=Value.none from r)
  rfl
 |some x=>
  obtain⟨t,rfl⟩:=(show ∃t,u=Value.str x t from r);show decide (x=x)=true;simp
theorem wz{P:Program}{w:World}:∀{ks:List NK}{us:List Value},az (ks.map nkV) us->ItemsAre (gQ P w) ks us
 |[],_,r=>by rw[List.map_nil]at r;cases r;exact .nil
 |k::ks,_,r=>by
  rw[qX]at r
  cases r with
  |cons h t=>exact .cons (D8 h) (wz t)
abbrev NEs:=List (List NK×Addr×V)
abbrev NT:NEs->List (List NK×Addr×Value)->Prop:=Paired λp q=>p.1=q.1/\p.2.1=q.2.1/\aB p.2.2 q.2.2
noncomputable def DNo(P:Program)(w:World)(a:Addr)(xs:NEs):HO:=.ext λh=>xs.length<=sizeLine/\(a == sysModules)=false/\∃ys,NT xs ys/\∃o es ep,h.get? a=some o/\o.ExactDict/\o.data=.dict es ep/\es.toList=ys.map (entryOfKey (tupleKind (gQ P w)))/\(ys.map (·.1)).Nodup
def jd(H:Hp)(xs:NEs):Prop:=∀x∈xs,H x.2.1=some (.tup (x.1.map nkV))
noncomputable def bh(xs:NEs)(k:List NK):Option V:=(xs.find? λx=>decide (x.1=k)).map (·.2.2)
noncomputable def gJ(xs:NEs)(k:List NK)(b:Addr)(v:V):NEs:=if(bh xs k).isSome then xs.map (λx=>if x.1=k then(x.1,x.2.1,v)else x)else xs++[(k,b,v)]
theorem NT.val{xs:NEs}{ys:List (List NK×Addr×Value)}(r:NT xs ys)(k:List NK):cg (bh xs k) ((atKey ys k).map (·.2)):=by
 induction r with
 |nil=>exact True.intro
 |@cons p q ps qs h t ih=>
  obtain⟨h1,_,h2⟩:=h;by_cases e:p.1=k
  .have e':q.1=k:=h1.symm.trans e;have b:atKey (q::qs) k=some q.2:=by simp[atKey,Qf,e']
   have c:bh (p::ps) k=some p.2.2:=by simp[bh,Qf,e]
   rw[c,b];exact h2
  .have e':¬ q.1=k:=λz=>e (h1.trans z);have b:atKey (q::qs) k=atKey qs k:=by simp[atKey,Qf,e']
   have c:bh (p::ps) k=bh ps k:=by simp[bh,Qf,e]
   rw[c,b];exact ih
theorem NT.repl{xs:NEs}{ys:List (List NK×Addr×Value)}(r:NT xs ys)(k:List NK){y:V}{u:Value}(ry:aB y u):NT (xs.map λx=>if x.1=k then(x.1,x.2.1,y)else x) (ys.map (putAt k u)):=by
 induction r with
 |nil=>exact .nil
 |@cons p q ps qs h t ih=>
  rw[qX,qX];refine .cons ?_ ih;obtain⟨h1,h2,h3⟩:=h;unfold putAt;by_cases e:p.1=k
  .rw[Q8 e,Q8 (h1.symm.trans e)];exact⟨h1,h2,ry⟩
  .rw[Q7 e,Q7 (λz=>e (h1.trans z))];exact⟨h1,h2,h3⟩
theorem NT.put{xs:NEs}{ys:List (List NK×Addr×Value)}(r:NT xs ys)(k:List NK){b:Addr}{y:V}{u:Value}(ry:aB y u):NT (gJ xs k b y) (storedH ys k b u):=by
 have e:(bh xs k).isSome=(atKey ys k).isSome:=by rw[(r.val k).isSome_eq,Option.isSome_map]
 unfold gJ storedH;rw[e];by_cases q:(atKey ys k).isSome=true
 .rw[Q8 q,Q8 q];exact r.repl k ry
 .rw[Q7 q,Q7 q];exact Paired.snoc r ⟨U,U,ry⟩
theorem vI(xs:NEs)(k:List NK)(b:Addr)(v:V):(gJ xs k b v).length<=xs.length+1:=by
 unfold gJ;split
 .rw[qa];omega
 .rw[qc];exact qg _
theorem DNo.ok{P:Program}{w:World}{H:Hp}{h:Heap}{a:Addr}{xs:NEs}{ys:List (List NK×Addr×Value)}(z:xs.length<=sizeLine)(hd:(a == sysModules)=false)(r:NT xs ys){o:Obj}{es:Array DictEntry}{ep:Nat}(h1:h.get? a=some o)(h2:o.ExactDict)(h3:o.data=.dict es ep)(h4:es.toList=ys.map (entryOfKey (tupleKind (gQ P w))))(h5:(ys.map (·.1)).Nodup):bF P w H h a (DNo P w a xs):=
 ⟨⟨z,hd,ys,r,o,es,ep,h1,h2,h3,h4,h5⟩,⟨_,h1⟩,λg1 g2 ⟨z,hd,ys,r,o,es,ep,q1,q2,q3,q4,q5⟩ k=>⟨z,hd,ys,r,o,es,ep,k _ q1,q2,q3,q4,q5⟩⟩
section
variable {X:Cx}{pins:List (Addr×Obj)}{Y:St}{H:Hp}{s:Shared}{a:Addr}{A:Around}{E:Yq}
theorem pR{ks:List NK}{b:Addr}{h:Heap}{P:Program}{w:World}(ok:HOk P w H h)(e:H b=some (.tup (ks.map nkV))):(tupleKind (gQ P w)).is h ks b:=by
 obtain⟨_,its,r,o,h1,h2,n,h3⟩:=(show bF P w H h b (.tup (ks.map nkV))from ok b _ e);exact⟨o,its.toArray,n,h1,h2,h3,by simpa using wz r⟩
theorem xG{xs:NEs}(I:Inv X pins Y H s)(e:H a=some (DNo X.prog X.w a xs))(nk:jd H xs):xs.length<=sizeLine/\(a == sysModules)=false/\∃ys,NT xs ys/\s.heap.DictOfH (tupleKind (gQ X.prog X.w)) a ys:=by
 obtain⟨⟨z,y,ys,r,o,es,ep,h1,h2,h3,h4,h5⟩,_,_⟩:=I.hok a _ e;refine⟨z,y,ys,r,o,es,ep,h1,h2,h3,h4,λx hx=>?_,h5⟩
 have all:∀{l:NEs}{m:List (List NK×Addr×Value)},NT l m->(∀x∈l,H x.2.1=some (.tup (x.1.map nkV)))->∀x∈m,(tupleKind (gQ X.prog X.w)).is s.heap x.1 x.2.1:=by
  intro l m q
  induction q with
  |nil=>intro _ x hx;exact nomatch hx
  |@cons p q ps qs hq t ih=>
   intro hk x hx;rcases qA.mp hx with e|hx
   .subst e;rw[<- hq.1,<- hq.2.1];exact pR I.hok (hk p qt)
   .exact ih (λz hz=>hk z (qq _ hz)) x hx
 exact all r nk x hx
end
def zh(P:Program)(w:World):TE:=λ_ H Q=>∀p,H p=none->Q (.ref p) (upd H p (DNo P w p []))
def z9(P:Program)(w:World)(td ty tx:TE):TE:=λY H Q=>td Y H λx H1=>∃a xs,x=.ref a/\H1 a=some (DNo P w a xs)/\ty Y H1 λy H2=>tx Y H2 λz H3=>∃xs k b,H3 a=some (DNo P w a xs)/\jd H3 xs/\y=.ref b/\H3 b=some (.tup (k.map nkV))/\Q ((bh xs k).getD z) H3
def AC(P:Program)(w:World)(td ty tv:TE):TS:=λD Y H=>tv Y H λv H1=>td Y H1 λx H2=>ty Y H2 λy H3=>∃a xs k b,x=.ref a/\H3 a=some (DNo P w a xs)/\jd H3 xs/\y=.ref b/\H3 b=some (.tup (k.map nkV))/\xs.length<sizeLine/\D.nx Y (upd H3 a (DNo P w a (gJ xs k b v)))
section
variable {X:Cx}{o e f i value:Expr}{apos cpos pos pos':Pos}{td ty tx tv:TE}
theorem BQ:PE X (.Dict [] [] pos) (zh X.prog X.w):=λpins s Y H Q I h=>
 wpAny_Dict_empty ⟨.ref s.heap.objs.size,_,I.laid (a:=s.heap.objs.size) (o:=DNo X.prog X.w s.heap.objs.size []) (t':=s.toks) (λ_ _ q=>qb _ q) (qg _)
  (DNo.ok (ys:=[]) (qz _) (beq_eq_false_iff_ne.mpr (Ne.symm (qM I.big))) .nil (qu _ U) ⟨U,U,U⟩ U U List.nodup_nil),U,h _ (I.hok.fresh (qg _))⟩
theorem vQ(hu:X.A.units+1<cLine)(ho:PE X o td)(he:PE X e ty)(hf:PE X f tx)(m:M2 X o "get" apos e f cpos):PE X (.Call (.Attribute o "get" apos) [e,f] [] cpos) (z9 X.prog X.w td ty tx):=by
 intro pins s Y H Q I h;refine wpAny_Call_method m.base m.few m.line PySem.F.plainAttrs_dict PySem.F.slot_dict_get PySem.F.type_dict_get (thn (ho pins s Y H _ I h) λu s1 ⟨x,H1,I1,rx,a,xs0,ex,d,q1⟩=>?_);subst ex;obtain rfl:u=Value.ref a:=rx;obtain⟨⟨_,_,_,_,ob,_,_,g1,g2,_⟩,_,_⟩:=I1.hok a _ d;refine⟨⟨ob,g1,g2.1⟩,λb q=>?_,?_⟩
 .cases q;exact⟨ob,g1,g2.2.1⟩
 rw[m.trees]
 refine Calls.callWith_builtin U (Calls.evalArgs_plain (Calls.spliced_cons (thn (he pins s1 Y H1 _ I1 q1) λiv s2 ⟨y,H2,I2,ry,q2⟩=>
  Calls.spliced_cons (thn (hf pins s2 Y H2 _ I2 q2) λfv s3 ⟨z,H3,I3,rz,xs,k,b,e3,nk,ey,eb,q3⟩=>Calls.spliced_nil ?_))))
 subst ey;cases(show iv=Value.ref b from ry);obtain⟨_,hd,ys,rel,dd⟩:=xG I3 e3 nk;refine call_meetsIn PySem.F.slot_dict_get dd.typeIs PySem.F.entry_dict_get (PySem.F.args_dict_get_3 _ _ _) (meetsH_dict_get_default (tupleKind (gQ X.prog X.w)) a b hd fv) ⟨tupleKind_room_in1 hu,k,ys,pR I3.hok eb,dd,⟨_,H3,I3.tok _,?_,q3⟩⟩;exact(rel.val k).getD rz
theorem Bt(hu:X.A.units+1<cLine)(ho:PE X o td)(hi:PE X i ty)(hv:PE X value tv)(hs:swapsWith value (some (.Subscript o i pos')) pos.line X.env=pure false):
 PS X (.Assign [.Subscript o i pos'] value pos) (AC X.prog X.w td ty tv):=by
 intro pins s Y H D I h;refine wpAny_Assign_Subscript (thn (hv pins s Y H _ I h) λr s1 ⟨v,H1,I1,rv,q1⟩=>thn (ho pins s1 Y H1 _ I1 q1) λu s2 ⟨x,H2,I2,rx,q2⟩=>thn (hi pins s2 Y H2 _ I2 q2) λiv s3 ⟨y,H3,I3,ry,a,xs,k,b,ex,e3,nk,ey,eb,lt,q3⟩=>?_) hs;subst ex;obtain rfl:u=Value.ref a:=rx;subst ey;cases(show iv=Value.ref b from ry);obtain⟨z,hd,ys,rel,dd⟩:=xG I3 e3 nk;have hz:ys.length<=sizeLine:=by rw[<- Paired.length rel];exact z
 refine wpAny_setItem_heap (hsz:=hz) (tupleKind_room_in1 hu) (pR I3.hok eb) dd λh' dd' hs=>⟨Y,_,?_,q3⟩;obtain⟨q,es,ep,hq,h2,h3,h4,_,h5⟩:=dd';exact m5 I3 (by rw[e3];exact True.intro) hs ⟨q,hq⟩ (DNo.ok (qF (vI xs k b v) lt) hd (rel.put k rv) hq h2 h3 h4 h5)
end
theorem sX:∀{bs:List Bool}{us:List Value},az (bs.map V.bl) us->us=bs.map Value.bool
 |[],_,.nil=>rfl
 |_::_,_,.cons h r=>by rw[sX r,show _=Value.bool _ from h];rfl
noncomputable def sB(x:Bool):Value->Bool
 |.bool y=>y == x
 |_=>false
section
variable {X:Cx}
def B6:V->List V->Hp->VK->Prop:=λv xs H Q=>∃(l:Addr)(bs:List Bool)(x:Bool)(i:Nat),v=.ref l/\xs=[.bl x]/\H l=some (.lst (bs.map V.bl))/\bs[i]?=some x/\(∀j,j<i->bs[j]?=some (!x))/\bs.length<=1000/\Q (.int (i:Nat)) H
theorem Da:MtM X "list.index" B6:=by
 intro pins s Y H x vs v us Q I rx rv h;obtain⟨l,bs,y,i,rfl,rfl,hH,hi,hn,hz,q⟩:=h;cases rx;obtain⟨u,rfl,rfl⟩:=rv.one;obtain⟨z,its,n,r,hl,e⟩:=I.lstM hH;cases sX r;have lt:=(qh.mp hi).1
 have at2:∀{m:Nat}{b:Bool}(hm:m<(bs.map Value.bool).toArray.size),bs[m]?=some b->(bs.map Value.bool).toArray[m]=.bool b:=λ{m b} hm h=>by
  rw[List.getElem_toArray,List.getElem_map,(qh.mp h).2]
 have sz:(bs.map Value.bool).toArray.size=bs.length:=by simp
 refine call_meets PySem.F.slot_list_index ⟨_,e,U⟩ PySem.F.entry_list_index (PySem.F.args_list_index_2 _ _)
  (MeetsSeq.list_index l (bs.map Value.bool).toArray n (.bool y) (sB y) (λw hw=>?_) i Yo Yo ?_ (λm hm hlt=>?_)) ⟨e,?_⟩
 .obtain⟨b,_,rfl⟩:=List.mem_map.mp (by simpa using hw:w∈bs.map Value.bool);exact λprog w A E s Q h=>PySem.SeqAt.EqAt.bool_bool b y prog w E Q h
 .rw[at2 _ hi];simp[sB]
 .rw[at2 _ (hn m hlt)];simp[sB]
 .exact⟨.int i,H,I.tok _,⟨_,U⟩,q⟩
theorem Bg{K:W.Frag}(e:X.K=K):cJ X (.builtin "len") (oS K):=by
 subst e;exact bK
end
end L2
namespace L2
open PySem PySem.Spec PyProof.Rows PySem.W
section
variable {X:Cx}{pins:List (Addr×Obj)}{Y:St}{H:Hp}{s:Shared}{tg:Expr}
end
section
variable {X:Cx}{pins:List (Addr×Obj)}{Y:St}{H:Hp}{s:Shared}{scope:Scope}{x0:Str}{Nc:List Str}{js:List Nat}{k:Nat}
end
section
variable {X:Cx}{pins:List (Addr×Obj)}{Y:St}{H:Hp}{s:Shared}{scope:Scope}{x0:Str}{Nc:List Str}{js:List Nat}{k:Nat}{tg iter elt:Expr}{ifs:List Expr}{pos:Pos}{g:TG}{tt:TT}{te:TE}
end
section
variable {X:Cx}
end
section
variable {P:Program}{w:World}{K:W.Frag}{mg:Str->Option Value}{base:Heap}
end
section
variable {X:Cx}
end
open PySem.SeqAt
open PySem.AutoSeq1 (wpAny_loadPart')
open PySem.MeetsSeq PySem.MeetsSeq2 PySem.MeetsSeq3
section
variable {prog:Program}{w:World}{A:Around}
variable {R:Result->Shared->Prop}{I:Addr}{fp wr:List Addr}{n:Nat}{P:Nat->Value->Prop}{St:Nat->Heap->Prop}
end
section
variable {X:Cx}
end
section
variable {X:Cx}{tg:Expr}
end
theorem BZ{X:Cx}{K:W.Frag}(e:X.K=K):OpR X (compareOp .NotIn) (rIn K true):=by
 subst e;exact C1
end L2
namespace Tr
open PySem PySem.Spec PyProof.Rows L2
end Tr
set_option Elab.async false
set_option maxRecDepth 100000
set_option maxHeartbeats 4000000
namespace K24
open PySem L2 Tr
seal PE PT PW PA PS PSs PG PGs PI PTs PO OpR UnR cJ TruR IxR SlR
local macro_rules|`(tactic| walk_at "rds")=>`(tactic| first|assumption|decide|omega)
local macro_rules|`(tactic| walk_at "rd")=>`(tactic| repeat (first|refine⟨_,rfl,?_⟩|refine⟨_,_,rfl,rfl,?_⟩|refine⟨rfl,_,rfl,?_⟩|refine⟨_,_,rfl,rfl,by walk_at "rds",?_⟩|refine And.intro (by walk_at "rds") ?_))
local macro_rules|`(tactic| walk_at "yes")=>`(tactic| refine aU (by decide +kernel) ?_)
local macro_rules|`(tactic| walk_at "no")=>`(tactic| refine ay (by decide +kernel) ?_)
abbrev nq:Stmt:=top 3
abbrev kO:Stmt:=top 4
abbrev nu:Stmt:=top 5
abbrev kN:Stmt:=top 6
abbrev nF:Stmt:=top 7
abbrev iU:Stmt:=inClass (top 9) 0
abbrev oA:Stmt:=inClass (top 9) 1
abbrev oy:Stmt:=inClass (top 9) 2
abbrev oz:Stmt:=inClass (top 9) 3
abbrev nH:Stmt:=top 10
abbrev nG:Stmt:=top 11
abbrev nR:Stmt:=top 15
abbrev nQ:Stmt:=top 16
abbrev kP:Stmt:=top 17
abbrev nB:Stmt:=top 18
abbrev nA:Stmt:=top 22
abbrev nE:Stmt:=top 23
abbrev nC:Stmt:=top 24
abbrev nJ:Stmt:=top 25
abbrev nP:Stmt:=top 26
abbrev nK:Stmt:=top 33
abbrev nN:Stmt:=top 34
abbrev nj:Stmt:=top 35
abbrev nh:Stmt:=top 36
abbrev ni:Stmt:=top 37
abbrev nD:Stmt:=top 38
abbrev nO:Stmt:=top 39
abbrev ou:Stmt:=top 41
abbrev oa:Stmt:=top 42
abbrev nS:Stmt:=top 43
abbrev og:Stmt:=top 44
abbrev nW:Stmt:=top 45
abbrev nZ:Stmt:=top 46
abbrev nX:Stmt:=top 47
abbrev o7:Stmt:=top 48
abbrev ox:Stmt:=top 49
abbrev o9:Stmt:=top 50
abbrev nY:Stmt:=top 51
abbrev oh:Stmt:=top 52
abbrev kR:Stmt:=top 53
abbrev ju:Stmt:=top 54
abbrev oo:Stmt:=top 55
abbrev oq:Stmt:=top 56
abbrev nU:Stmt:=top 57
abbrev o8:Stmt:=top 58
abbrev o6:Stmt:=top 59
abbrev kS:Stmt:=top 60
abbrev o1:Stmt:=top 61
abbrev kQ:Stmt:=top 62
abbrev nV:Stmt:=top 63
abbrev fZ:Stmt:=top 64
theorem An:aS ["deeds","stores"] ["deeds","stores"] (aI nq):=⟨U,U,U,Yd,U,Yd,Yd⟩
theorem eF:aS ["waits_by_cards","deeds","stores","waits","puts_by_store","gets_by_store","store","length","puts","gets","put","get","count","awaited"] ["waits_by_cards","deeds","stores"] (aI kO):=⟨U,U,U,Yd,U,Yd,Yd⟩
theorem iN:aS ["deeds","owners","waits","number","deed","card"] ["deeds"] (aI nu):=⟨U,U,U,Yd,U,Yd,Yd⟩
theorem Ao:aS ["cards","kind","owners"] ["cards","kind","owners"] (aI kN):=⟨U,U,U,Yd,U,Yd,Yd⟩
theorem kK:aS ["deeds","place","numbers","number","deed"] ["deeds","place"] (aI nF):=⟨U,U,U,Yd,U,Yd,Yd⟩
theorem AB:aS ["self","waits"] ["self","waits"] (aI iU):=⟨U,U,U,Yd,U,Yd,Yd⟩
theorem kM:aS ["self","deed","ready","looking","wait"] ["self","deed"] (aI oA):=⟨U,U,U,Yd,U,Yd,Yd⟩
theorem ng:aS ["self","deed","waits","wait"] ["self","deed"] (aI oy):=⟨U,U,U,Yd,U,Yd,Yd⟩
theorem iT:aS ["self","deed","places","path","wait"] ["self"] (aI oz):=⟨U,U,U,Yd,U,Yd,Yd⟩
theorem Au:aS ["deeds","stores"] ["deeds","stores"] (aI nH):=⟨U,U,U,Yd,U,Yd,Yd⟩
theorem mZ:aS ["waits","looking","deed"] ["waits"] (aI nG):=⟨U,U,U,Yd,U,Yd,Yd⟩
theorem jr:aS ["block","found","deed","inner"] ["block"] (aI nR):=⟨U,U,U,Yd,U,Yd,Yd⟩
theorem Aw:aS ["deed"] ["deed"] (aI nQ):=⟨U,U,U,Yd,U,Yd,Yd⟩
theorem vd:aS ["deed","kind"] ["deed"] (aI kP):=⟨U,U,U,Yd,U,Yd,Yd⟩
theorem Ap:aS ["deed"] ["deed"] (aI nB):=⟨U,U,U,Yd,U,Yd,Yd⟩
theorem mY:aS ["block","cards","deed"] ["block"] (aI nA):=⟨U,U,U,Yd,U,Yd,Yd⟩
theorem As:aS ["deed"] ["deed"] (aI nE):=⟨U,U,U,Yd,U,Yd,Yd⟩
theorem Aq:aS ["store"] ["store"] (aI nC):=⟨U,U,U,Yd,U,Yd,Yd⟩
theorem Av:aS ["store"] ["store"] (aI nJ):=⟨U,U,U,Yd,U,Yd,Yd⟩
theorem kL:aS ["program","cards","store","length"] ["program"] (aI nP):=⟨U,U,U,Yd,U,Yd,Yd⟩
theorem ve:aS ["program","deeds"] ["program"] (aI nK):=⟨U,U,U,Yd,U,Yd,Yd⟩
theorem jq:aS ["block","count","deed"] ["block"] (aI nN):=⟨U,U,U,Yd,U,Yd,Yd⟩
theorem kJ:aS ["block","deeds","deed"] ["block"] (aI nj):=⟨U,U,U,Yd,U,Yd,Yd⟩
theorem uZ:aS ["rounds","body","gate"] ["rounds","body"] (aI nh):=⟨U,U,U,Yd,U,Yd,Yd⟩
theorem vc:aS ["deed","kind"] ["deed"] (aI ni):=⟨U,U,U,Yd,U,Yd,Yd⟩
theorem Ar:aS ["kind","cards"] ["kind","cards"] (aI nD):=⟨U,U,U,Yd,U,Yd,Yd⟩
theorem iO:aS ["deeds","standing","number","deed","into","outof"] ["deeds"] (aI nO):=⟨U,U,U,Yd,U,Yd,Yd⟩
theorem AA:aS ["_law_script","_law_k"] ["_law_script","_law_k"] (aI ou):=⟨U,U,U,Yd,U,Yd,Yd⟩
theorem vh:aS ["_law_cell","_law_k","_law_number_here"] ["_law_cell","_law_k"] (aI oa):=⟨U,U,U,Yd,U,Yd,Yd⟩
theorem Ax:aS ["_law_found"] ["_law_found"] (aI nS):=⟨U,U,U,Yd,U,Yd,Yd⟩
theorem iQ:aS ["_law_number_here","_law_size","_law_some","_law_word","_law_k"] ["_law_number_here","_law_size"] (aI og):=⟨U,U,U,Yd,U,Yd,Yd⟩
theorem vg:aS ["_law_word","_law_some"] ["_law_word"] (aI nW):=⟨U,U,U,Yd,U,Yd,Yd⟩
theorem eO:aS ["_law_cell","_law_many","_law_some","_law_number_here","_law_base","_law_size","_law_at","_law_words","_law_k","_law_sign","_law_word"] ["_law_cell","_law_many"] (aI nZ):=⟨U,U,U,Yd,U,Yd,Yd⟩
theorem gE:aS ["_law_number_here","_law_names","_law_rooms","_law_shut","_law_kind","_law_rest","_law_x","_law_a","_law_b"] ["_law_number_here","_law_names","_law_rooms","_law_shut"] (aI nX):=⟨U,U,U,Yd,U,Yd,Yd⟩
theorem eG:aS ["_law_state","_law_number_here","_law_x","_law_most","_law_kind","_law_rest","_law_inner","_law_other","_law_shut","_law_times","_law_now","_law_many"] ["_law_state","_law_number_here","_law_x","_law_most"] (aI o7):=⟨U,U,U,Yd,U,Yd,Yd⟩
theorem hX:aS ["_law_cells","_law_names","_law_rooms","_law_most","_law_low","_law_body","_law_state","_law_cell","_law_number_here","_law_kind","_law_part"] ["_law_cells","_law_names","_law_rooms","_law_most","_law_low"] (aI ox):=⟨U,U,U,Yd,U,Yd,Yd⟩
theorem iP:aS ["_law_block_here","_law_moves_here","_law_one","_law_inner","_law_k"] ["_law_block_here"] (aI o9):=⟨U,U,U,Yd,U,Yd,Yd⟩
theorem fY:aS ["_law_moves_here","_law_q","_law_now","_law_low","_law_high","_law_kind","_law_store"] ["_law_moves_here","_law_q"] (aI nY):=⟨U,U,U,Yd,U,Yd,Yd⟩
theorem Az:aS ["_law_pick","_law_peak"] ["_law_pick","_law_peak"] (aI oh):=⟨U,U,U,Yd,U,Yd,Yd⟩
theorem dG:aS ["_law_script","_law_most","_law_first","_law_second","_law_third","_law_words","_law_names","_law_rooms","_law_body","_law_moves_here","_law_front","_law_stores","_law_k","_law_lacking","_law_peak","_law_asks"] ["_law_script","_law_most"] (aI kR):=⟨U,U,U,Yd,U,Yd,Yd⟩
theorem iS:aS ["_law_deeds","_law_many","_law_rows","_law_row","_law_owned_here","_law_card"] ["_law_deeds"] (aI ju):=⟨U,U,U,Yd,U,Yd,Yd⟩
theorem iR:aS ["_law_deeds","_law_ahead_here","_law_lengths","_law_state","_law_k","_law_card","_law_many","_law_row"] ["_law_deeds","_law_ahead_here","_law_lengths","_law_state","_law_k"] (aI oo):=⟨U,U,U,Yd,U,Yd,Yd⟩
theorem n9:aS ["_law_deeds","_law_state","_law_k","_law_row","_law_card"] ["_law_deeds","_law_state","_law_k"] (aI oq):=⟨U,U,U,Yd,U,Yd,Yd⟩
theorem n5:aS ["_law_deeds","_law_ahead_here","_law_lengths","_law_order","_law_state","_law_k"] ["_law_deeds","_law_ahead_here","_law_lengths","_law_order"] (aI nU):=⟨U,U,U,Yd,U,Yd,Yd⟩
theorem jt:aS ["_law_deeds","_law_many","_law_numbers","_law_row","_law_key"] ["_law_deeds"] (aI o8):=⟨U,U,U,Yd,U,Yd,Yd⟩
theorem n8:aS ["_law_pairs","_law_card","_law_one","_law_many"] ["_law_pairs","_law_card"] (aI o6):=⟨U,U,U,Yd,U,Yd,Yd⟩
theorem hV:aS ["_law_deeds","_law_ahead_here","_law_numbers","_law_lengths","_law_k","_law_wait","_law_j","_law_kind","_law_name","_law_many","_law_below","_law_freed"] ["_law_deeds","_law_ahead_here","_law_numbers","_law_lengths","_law_k","_law_wait"] (aI kS):=⟨U,U,U,Yd,U,Yd,Yd⟩
theorem Ay:aS ["_law_one","_law_many"] ["_law_one","_law_many"] (aI o1):=⟨U,U,U,Yd,U,Yd,Yd⟩
theorem fX:aS ["_law_deeds","_law_ahead_here","_law_lengths","_law_state","_law_ring","_law_numbers","_law_seen","_law_rooms","_law_k","_law_at","_law_kind","_law_name"] ["_law_deeds","_law_ahead_here","_law_lengths","_law_state","_law_ring"] (aI kQ):=⟨U,U,U,Yd,U,Yd,Yd⟩
theorem vf:aS ["_law_pick","_law_q","_law_length_here","_law_x","_law_puts"] ["_law_pick","_law_q","_law_length_here","_law_x"] (aI nV):=⟨U,U,U,Yd,U,Yd,Yd⟩
theorem d5:aS ["_law_script","_law_asks","_law_stores","_law_body","_law_pick","_law_used","_law_q","_law_x","_law_length_here","_law_kept","_law_rows","_law_handed","_law_rooms","_law_found","_law_ahead_here","_law_state"] ["_law_script"] (aI fZ):=⟨U,U,U,Yd,U,Yd,Yd⟩
set_option genInjectivity false in
structure Adr where
 G7:Addr
 G8:FuncData
 G9:Addr
 Ga:FuncData
 Gb:Addr
 Gc:FuncData
 Gd:Addr
 Ge:FuncData
 Gf:Addr
 Gg:FuncData
 Gh:Addr
 Gi:FuncData
 Gj:Addr
 Gk:FuncData
 Gm:Addr
 Gn:FuncData
 Go:Addr
 Gp:FuncData
 Gq:Addr
 Gr:FuncData
 Gs:Addr
 Gu:FuncData
 Gv:Addr
 Gw:FuncData
 Gx:Addr
 Gy:FuncData
 Gz:Addr
 GA:FuncData
 GB:Addr
 GC:FuncData
 GD:Addr
 GE:FuncData
 GF:Addr
 GG:FuncData
 GH:Addr
 GI:FuncData
 GJ:Addr
 GK:FuncData
 GL:Addr
 GM:FuncData
 GN:Addr
 GO:FuncData
 GP:Addr
 GQ:FuncData
 Cn:Addr
 Db:FuncData
 GR:Addr
 GS:FuncData
 GT:Addr
 GU:FuncData
 GV:Addr
 GW:FuncData
 GX:Addr
 GY:FuncData
 GZ:Addr
 Ha:FuncData
 Hd:Addr
 He:FuncData
 Hf:Addr
 Hg:FuncData
 Hh:Addr
 Hi:FuncData
 Hj:Addr
 Hk:FuncData
 Hl:Addr
 Hm:FuncData
 Hn:Addr
 Ho:FuncData
 Hq:Addr
 Hr:FuncData
 Hs:Addr
 Ht:FuncData
 Hu:Addr
 Hv:FuncData
 Hw:Addr
 Hy:FuncData
 Hz:Addr
 HE:FuncData
 HF:Addr
 HG:FuncData
 HH:Addr
 HI:FuncData
 HJ:Addr
 HK:FuncData
 HL:Addr
 HM:FuncData
 HN:Addr
 HP:FuncData
 HQ:Addr
 HR:FuncData
 HS:Addr
 HU:FuncData
 HV:Addr
 HW:FuncData
 HX:Addr
 HY:FuncData
 HZ:Addr
 I0:FuncData
 Ia:Addr
 Ib:FuncData
 Ic:Addr
 Id:FuncData
 IA:Tok
 IB:Tok
 Ev:Addr
 FK:Addr
 IC:Tok
 FL:Addr
 ID:Tok
 ad:Addr
structure Tx(P:Program)(w:World)(K:W.Frag)(mg:Str->Option Value)(a:Adr):Prop where
 IE:Fun K "waits_of" "waits_of" nq a.G7 a.G8
 JA:aQ K a.G8 ["deeds","stores"] []
 JB:mg "waits_of"=some (.ref a.G7)
 IF:Fun K "waits_behind" "waits_behind" kO a.G9 a.Ga
 JC:aQ K a.Ga ["waits_by_cards","deeds","stores"] []
 JD:mg "waits_behind"=some (.ref a.G9)
 IG:Fun K "waits_for_cards" "waits_for_cards" nu a.Gb a.Gc
 JE:aQ K a.Gc ["deeds"] []
 JF:mg "waits_for_cards"=some (.ref a.Gb)
 Ie:Fun K "waits_by" "waits_by" kN a.Gd a.Ge
 IH:aQ K a.Ge ["cards","kind","owners"] []
 II:mg "waits_by"=some (.ref a.Gd)
 Ig:Fun K "numbers_by_store" "numbers_by_store" nF a.Gf a.Gg
 IJ:aQ K a.Gg ["deeds","place"] []
 IK:mg "numbers_by_store"=some (.ref a.Gf)
 JG:Fun K "__init__" "Looking.__init__" iU a.Gh a.Gi
 JH:aQ K a.Gi ["self","waits"] []
 JI:Fun K "look_at" "Looking.look_at" oA a.Gj a.Gk
 JJ:aQ K a.Gk ["self","deed"] []
 JK:Fun K "stopped_by" "Looking.stopped_by" oy a.Gm a.Gn
 IL:aQ K a.Gn ["self","deed"] []
 JL:Fun K "ring" "Looking.ring" oz a.Go a.Gp
 JM:aQ K a.Gp ["self"] []
 IM:Fun K "looked" "looked" nH a.Gq a.Gr
 JN:aQ K a.Gr ["deeds","stores"] []
 JO:mg "looked"=some (.ref a.Gq)
 IN:Fun K "looked_through" "looked_through" nG a.Gs a.Gu
 JP:aQ K a.Gu ["waits"] []
 JQ:mg "looked_through"=some (.ref a.Gs)
 FM:Fun K "all_deeds" "all_deeds" nR a.Gv a.Gw
 IO:aQ K a.Gw ["block"] []
 IP:mg "all_deeds"=some (.ref a.Gv)
 IQ:Fun K "blocks_within" "blocks_within" nQ a.Gx a.Gy
 JR:aQ K a.Gy ["deed"] []
 JS:mg "blocks_within"=some (.ref a.Gx)
 Ih:Fun K "names_in" "names_in" kP a.Gz a.GA
 IR:aQ K a.GA ["deed"] []
 IS:mg "names_in"=some (.ref a.Gz)
 IT:Fun K "read_by_set" "read_by_set" nB a.GB a.GC
 JT:aQ K a.GC ["deed"] []
 JU:mg "read_by_set"=some (.ref a.GB)
 FN:Fun K "touched" "touched" nA a.GD a.GE
 Ii:aQ K a.GE ["block"] []
 Ij:mg "touched"=some (.ref a.GD)
 IU:Fun K "other_cards_in" "other_cards_in" nE a.GF a.GG
 JV:aQ K a.GG ["deed"] []
 JW:mg "other_cards_in"=some (.ref a.GF)
 FO:Fun K "put_card" "put_card" nC a.GH a.GI
 Ik:aQ K a.GI ["store"] []
 Il:mg "put_card"=some (.ref a.GH)
 FP:Fun K "get_card" "get_card" nJ a.GJ a.GK
 Im:aQ K a.GK ["store"] []
 Io:mg "get_card"=some (.ref a.GJ)
 IV:Fun K "cards_of" "cards_of" nP a.GL a.GM
 JX:aQ K a.GM ["program"] []
 JY:mg "cards_of"=some (.ref a.GL)
 IW:Fun K "deeds_of" "deeds_of" nK a.GN a.GO
 JZ:aQ K a.GO ["program"] []
 K0:mg "deeds_of"=some (.ref a.GN)
 FQ:Fun K "counted" "counted" nN a.GP a.GQ
 IX:aQ K a.GQ ["block"] []
 IY:mg "counted"=some (.ref a.GP)
 FR:Fun K "written" "written" nj a.Cn a.Db
 IZ:aQ K a.Db ["block"] []
 J0:mg "written"=some (.ref a.Cn)
 J1:Fun K "written_rounds" "written_rounds" nh a.GR a.GS
 K1:aQ K a.GS ["rounds","body"] []
 K2:mg "written_rounds"=some (.ref a.GR)
 J2:Fun K "written_once" "written_once" ni a.GT a.GU
 K3:aQ K a.GU ["deed"] []
 K4:mg "written_once"=some (.ref a.GT)
 FS:Fun K "owner_of" "owner_of" nD a.GV a.GW
 Ip:aQ K a.GW ["kind","cards"] []
 Iq:mg "owner_of"=some (.ref a.GV)
 J3:Fun K "check_gets" "check_gets" nO a.GX a.GY
 K5:aQ K a.GY ["deeds"] []
 K6:mg "check_gets"=some (.ref a.GX)
 wT:Fun K "_law_cell_at" "_law_cell_at" ou a.GZ a.Ha
 FT:aQ K a.Ha ["_law_script","_law_k"] []
 FU:mg "_law_cell_at"=some (.ref a.GZ)
 gt:Fun K "_law_mixed" "_law_mixed" oa a.Hd a.He
 ld:aQ K a.He ["_law_cell","_law_k"] []
 mt:mg "_law_mixed"=some (.ref a.Hd)
 Ir:Fun K "_law_whole" "_law_whole" nS a.Hf a.Hg
 J4:aQ K a.Hg ["_law_found"] []
 J5:mg "_law_whole"=some (.ref a.Hf)
 Iu:Fun K "_law_letters" "_law_letters" og a.Hh a.Hi
 J6:aQ K a.Hi ["_law_number_here","_law_size"] []
 J7:mg "_law_letters"=some (.ref a.Hh)
 J8:Fun K "_law_spelt" "_law_spelt" nW a.Hj a.Hk
 K7:aQ K a.Hk ["_law_word"] []
 K8:mg "_law_spelt"=some (.ref a.Hj)
 Iv:Fun K "_law_pool" "_law_pool" nZ a.Hl a.Hm
 J9:aQ K a.Hm ["_law_cell","_law_many"] []
 Ja:mg "_law_pool"=some (.ref a.Hl)
 Jb:Fun K "_law_simple" "_law_simple" nX a.Hn a.Ho
 K9:aQ K a.Ho ["_law_number_here","_law_names","_law_rooms","_law_shut"] []
 Ka:mg "_law_simple"=some (.ref a.Hn)
 Jc:Fun K "_law_opened" "_law_opened" o7 a.Hq a.Hr
 Kb:aQ K a.Hr ["_law_state","_law_number_here","_law_x","_law_most"] []
 Kc:mg "_law_opened"=some (.ref a.Hq)
 Jd:Fun K "_law_block" "_law_block" ox a.Hs a.Ht
 Kd:aQ K a.Ht ["_law_cells","_law_names","_law_rooms","_law_most","_law_low"] []
 Ke:mg "_law_block"=some (.ref a.Hs)
 FV:Fun K "_law_moves" "_law_moves" o9 a.Hu a.Hv
 Je:aQ K a.Hv ["_law_block_here"] []
 Jf:mg "_law_moves"=some (.ref a.Hu)
 Jg:Fun K "_law_reach" "_law_reach" nY a.Hw a.Hy
 Kf:aQ K a.Hy ["_law_moves_here","_law_q"] []
 Kg:mg "_law_reach"=some (.ref a.Hw)
 Jh:Fun K "_law_length" "_law_length" oh a.Hz a.HE
 Kh:aQ K a.HE ["_law_pick","_law_peak"] []
 Ki:mg "_law_length"=some (.ref a.Hz)
 Ji:Fun K "_law_program" "_law_program" kR a.HF a.HG
 Kj:aQ K a.HG ["_law_script","_law_most"] []
 Kk:mg "_law_program"=some (.ref a.HF)
 Jj:Fun K "_law_ahead" "_law_ahead" ju a.HH a.HI
 Kl:aQ K a.HI ["_law_deeds"] []
 Km:mg "_law_ahead"=some (.ref a.HH)
 Iw:Fun K "_law_lacks" "_law_lacks" oo a.HJ a.HK
 Jk:aQ K a.HK ["_law_deeds","_law_ahead_here","_law_lengths","_law_state","_law_k"] []
 Jl:mg "_law_lacks"=some (.ref a.HJ)
 Jm:Fun K "_law_do" "_law_do" oq a.HL a.HM
 Kn:aQ K a.HM ["_law_deeds","_law_state","_law_k"] []
 Ko:mg "_law_do"=some (.ref a.HL)
 Jn:Fun K "_law_walk" "_law_walk" nU a.HN a.HP
 Kp:aQ K a.HP ["_law_deeds","_law_ahead_here","_law_lengths","_law_order"] []
 Kq:mg "_law_walk"=some (.ref a.HN)
 Jo:Fun K "_law_number" "_law_number" o8 a.HQ a.HR
 Kr:aQ K a.HR ["_law_deeds"] []
 Ks:mg "_law_number"=some (.ref a.HQ)
 Ix:Fun K "_law_owned" "_law_owned" o6 a.HS a.HU
 Jp:aQ K a.HU ["_law_pairs","_law_card"] []
 Jq:mg "_law_owned"=some (.ref a.HS)
 Jr:Fun K "_law_meets" "_law_meets" kS a.HV a.HW
 Kt:aQ K a.HW ["_law_deeds","_law_ahead_here","_law_numbers","_law_lengths","_law_k","_law_wait"] []
 Ku:mg "_law_meets"=some (.ref a.HV)
 Js:Fun K "_law_paper" "_law_paper" o1 a.HX a.HY
 Kv:aQ K a.HY ["_law_one","_law_many"] []
 Kw:mg "_law_paper"=some (.ref a.HX)
 Jt:Fun K "_law_ringed" "_law_ringed" kQ a.HZ a.I0
 Kx:aQ K a.I0 ["_law_deeds","_law_ahead_here","_law_lengths","_law_state","_law_ring"] []
 Ky:mg "_law_ringed"=some (.ref a.HZ)
 Ju:Fun K "_law_tail" "_law_tail" nV a.Ia a.Ib
 Kz:aQ K a.Ib ["_law_pick","_law_q","_law_length_here","_law_x"] []
 KA:mg "_law_tail"=some (.ref a.Ia)
 KB:Fun K "law" "law" fZ a.Ic a.Id
 KQ:aQ K a.Id ["_law_script"] []
 KR:mg "law"=some (.ref a.Ic)
 KC:mg "bool"=none
 Jv:mg "dict"=none
 FW:mg "enumerate"=none
 KD:mg "int"=none
 om:mg "isinstance"=none
 dz:mg "len"=none
 wS:mg "list"=none
 Jw:mg "max"=none
 Jx:mg "min"=none
 u8:mg "range"=none
 KE:mg "reversed"=none
 FX:mg "set"=none
 FY:mg "sorted"=none
 FZ:mg "str"=none
 At:mg "tuple"=none
 KF:mg "zip"=none
 KG:mg "INTO"=some (.int 3 a.IA)
 KH:mg "OUT_OF"=some (.int 4 a.IB)
 KI:mg "LOOPS"=some (.ref a.Ev)
 or:∀H:Hp,SqT K H a.Ev [.str "while",.str "repeat"]
 KJ:mg "LOOKERS"=some (.ref a.FK)
 wE:∀H:Hp,SqT K H a.FK [.str "if",.str "while"]
 Iy:mg "OUTLET"=some (.str ">" a.IC)
 KK:mg "OUTLET_KEEPERS"=some (.ref a.FL)
 wP:∀H:Hp,SqT K H a.FL [.str "give",.str "while"]
 KL:mg "MOST_DEEDS"=some (.int 2000 a.ID)
 KM:mg "Looking"=some (.ref a.ad)
 f8:Cls K a.ad
 KN:Mk K a.ad a.Gh
 KO:fU K a.ad "look_at" a.Gj
 Jy:fU K a.ad "stopped_by" a.Gm
 KP:fU K a.ad "ring" a.Go
 Jz:eh K a.ad "waits"
 Ch:eh K a.ad "order"
 G1:eh K a.ad "finished"
 Cl:eh K a.ad "over"
 Iz:eh K a.ad "stuck"
theorem Tx.r_INTO{P:Program}{w:World}{K:W.Frag}{mg:Str->Option Value}{a:Adr}(_:Tx P w K mg a):aB (.int 3) (.int 3 a.IA):=⟨_,U⟩
theorem Tx.r_OUT_OF{P:Program}{w:World}{K:W.Frag}{mg:Str->Option Value}{a:Adr}(_:Tx P w K mg a):aB (.int 4) (.int 4 a.IB):=⟨_,U⟩
theorem Tx.r_LOOPS{P:Program}{w:World}{K:W.Frag}{mg:Str->Option Value}{a:Adr}(_:Tx P w K mg a):aB (.ref a.Ev) (.ref a.Ev):=U
theorem Tx.r_LOOKERS{P:Program}{w:World}{K:W.Frag}{mg:Str->Option Value}{a:Adr}(_:Tx P w K mg a):aB (.ref a.FK) (.ref a.FK):=U
theorem Tx.r_OUTLET{P:Program}{w:World}{K:W.Frag}{mg:Str->Option Value}{a:Adr}(_:Tx P w K mg a):aB (.str ">") (.str ">" a.IC):=⟨_,U⟩
theorem Tx.r_OUTLET_KEEPERS{P:Program}{w:World}{K:W.Frag}{mg:Str->Option Value}{a:Adr}(_:Tx P w K mg a):aB (.ref a.FL) (.ref a.FL):=U
theorem Tx.r_MOST_DEEDS{P:Program}{w:World}{K:W.Frag}{mg:Str->Option Value}{a:Adr}(_:Tx P w K mg a):aB (.int 2000) (.int 2000 a.ID):=⟨_,U⟩
inductive u6(vs:List V)(H:Hp)(Q:VK)(E:XK):Prop
 |mk (q:Str) (h0_:vs=[.str q]) (h1_:q.length<=1000) (h2_:Q (.str (q++(">":Str))) H):u6 vs H Q E
inductive uf(vs:List V)(H:Hp)(Q:VK)(E:XK):Prop
 |mk (q:Str) (h0_:vs=[.str q]) (h1_:q.length<=1000) (h2_:Q (.str (q++("<":Str))) H):uf vs H Q E
inductive ub(vs:List V)(H:Hp)(Q:VK)(E:XK):Prop
 |mk (H0:Hp) (v:V) (d:aa) (h0_:vs=[v]) (h1_:a8 H0 H) (h2_:RD H0 v d) (h3_:∀H' l,a8 H H'->H l=none->H' l=some (.lst (d.names.map V.str))->Q (.ref l) H'):ub vs H Q E
inductive um(vs:List V)(H:Hp)(Q:VK)(E:XK):Prop
 |mk (H0:Hp) (v:V) (d:aa) (h0_:vs=[v]) (h1_:a8 H0 H) (h2_:RD H0 v d) (h3_:∀H' l bs,a8 H H'->H l=none->H' l=some (.lst (bs.map V.ref))->RLs H0 bs d.inner->Q (.ref l) H'):um vs H Q E
inductive u9(vs:List V)(H:Hp)(Q:VK)(E:XK):Prop
 |mk (H0:Hp) (v:V) (d:aa) (h0_:vs=[v]) (h1_:a8 H0 H) (h2_:RD H0 v d) (h3_:(∀k∈d.others,k.length<=1000)) (h4_:∀H' l,a8 H H'->H l=none->H' l=some (.lst (d.others.map V.str))->Q (.ref l) H'):u9 vs H Q E
inductive uo(n:Nat)(vs:List V)(H:Hp)(Q:VK)(E:XK):Prop
 |mk (H0:Hp) (b:Addr) (ds:List aa) (h0_:vs=[.ref b]) (h1_:a8 H0 H) (h2_:RL H0 b ds) (h3_:aP ds<n) (h4_:(aj ds).length<=1000) (h5_:∀H' l us,a8 H H'->H l=none->H' l=some (.lst us)->RDs H0 us (aj ds)->Q (.ref l) H'):uo n vs H Q E
inductive mR(vs:List V)(H:Hp)(Q:VK)(E:XK):Prop
 |mk (H0:Hp) (b:Addr) (ds:List aa) (C:List Str) (h0_:vs=[.ref b]) (h1_:a8 H0 H) (h2_:RL H0 b ds) (h3_:aP ds<=12) (h4_:(aj ds).length<=1000) (h5_:(∀k∈cards ds,k∈C)) (h6_:C.length<64) (h7_:(∀k∈C,k.length<=1000) /\
 ∀H' l zs,a8 H H'->H l=none->H' l=some (.lst (zs.map V.str))->zs.Nodup->(∀k,k∈zs↔k∈cards ds)->PyProof.Rows.sortedS zs=true->Q (.ref l) H'):mR vs H Q E
inductive uL(K:W.Frag)(vs:List V)(H:Hp)(Q:VK)(E:XK):Prop
 |mk (l:Addr) (ns:List Int) (k:Int) (h0_:vs=[.ref l,.int k]) (h1_:SqL K H l (ns.map V.int)) (h2_:ns.length<=1000) (h3_:0<=k) (h4_:Q (.int (ns.getD k.toNat 0)) H):uL K vs H Q E
inductive uF(vs:List V)(H:Hp)(Q:VK)(E:XK):Prop
 |mk (c k:Int) (h0_:vs=[.int c,.int k]) (h1_:0<=k) (h2_:k<=200) (h3_:Q (.int (aF c k)) H):uF vs H Q E
inductive uH(vs:List V)(H:Hp)(Q:VK)(E:XK):Prop
 |mk (n k:Int) (h0_:vs=[.int n,.int k]) (h1_:0<=k) (h2_:k<=200) (h3_:Q (.str (cE n k.toNat)) H):uH vs H Q E
inductive uu(vs:List V)(H:Hp)(Q:VK)(E:XK):Prop
 |mk (w:Str) (h0_:vs=[.str w]) (h1_:w.length<=200) (h2_:∀H',a8 H H'->Q (.str (cM w)) H'):uu vs H Q E
inductive uz(vs:List V)(H:Hp)(Q:VK)(E:XK):Prop
 |mk (c k:Int) (h0_:vs=[.int c,.int k]) (h1_:0<=k) (h2_:k<=50) (h3_:∀H' l,a8 H H'->H l=none->H' l=some (.lst ((d7 c k.toNat).map V.str))->Q (.ref l) H'):uz vs H Q E
inductive uv(K:W.Frag)(vs:List V)(H:Hp)(Q:VK)(E:XK):Prop
 |mk (n:Int) (ln lr:Addr) (names rooms:List Str) (shut:Bool) (h0_:vs=[.int n,.ref ln,.ref lr,.bl shut]) (h1_:SqL K H ln (names.map V.str)) (h2_:SqL K H lr (rooms.map V.str)) (h3_:0<names.length) (h4_:names.length<=100) (h5_:rooms.length<=100) (h6_:0<=n) (h7_:n<2147483648 /\
 ∀H' p xs,a8 H H'->H p=none->H' p=some (.tup xs)->(∀H0:Hp,H0 p=some (.tup xs)->RD H0 (.ref p) (bG n names rooms shut))->Q (.ref p) H'):uv K vs H Q E
inductive uC(vs:List V)(H:Hp)(Q:VK)(E:XK):Prop
 |mk (Hb H0:Hp) (S s0 s1 s2 s3:Addr) (x:Fz) (r:List Fz) (n most:Int) (nm:Str) (h0_:vs=[.ref S,.int n,.str nm,.int most]) (h1_:ZI Hb H0 H S s0 s1 s2 s3 (x::r)) (h2_:(x::r).length<=1000) (h3_:x.f.ds.length<=1000) (h4_:0<=n) (h5_:n<2147483648) (h6_:0<=most) (h7_:most<=1000) (h8_:0<=x.f.times) (h9_:x.f.times<=100000 /\
 ∀H' y,ZI Hb H0 H' S s0 s1 s2 s3 (y::x::r)->y.f::x.f::r.map (·.f)=gm n nm most (x.f::r.map (·.f))->Q .non H'):uC vs H Q E
inductive uM(K:W.Frag)(vs:List V)(H:Hp)(Q:VK)(E:XK):Prop
 |mk (lc ln lr:Addr) (cells:List Int) (names rooms:List Str) (most low:Int) (h0_:vs=[.ref lc,.ref ln,.ref lr,.int most,.int low]) (h1_:SqL K H lc (cells.map V.int)) (h2_:SqL K H ln (names.map V.str)) (h3_:SqL K H lr (rooms.map V.str)) (h4_:cells.length<=100) (h5_:0<names.length) (h6_:names.length<=100) (h7_:rooms.length<=100) (h8_:0<=most) (h9_:most<=1000 /\
 ∀H' l,a8 H H'->H l=none->RL H' l (dE names rooms most low cells)->Q (.ref l) H'):uM K vs H Q E
inductive uj(vs:List V)(H:Hp)(Q:VK)(E:XK):Prop
 |mk (p la ls lb:Addr) (asks:List Str) (ss:List (Str×Int)) (ds:List aa) (us:List V) (C:List Str) (h0_:vs=[.ref p]) (h1_:RP H p asks ss ds la ls lb us) (h2_:aP ds<=12) (h3_:(aj ds).length<=1000) (h4_:asks.length<=100) (h5_:ss.length<=100) (h6_:(∀s∈ss,s.1.length<=1000)) (h7_:(∀k∈dH asks ss ds,k∈C)) (h8_:C.length<64) (h9_:(∀k∈C,k.length<=1000) /\
 ∀H' l zs,a8 H H'->H' l=some (.lst (zs.map V.str))->zs.Nodup->(∀k,k∈zs↔k∈dH asks ss ds)->PyProof.Rows.sortedS zs=true->Q (.ref l) H'):uj vs H Q E
noncomputable def oH(x:Str)(va vb:Val):List Str:=srt ((va.names++vb.names).filter λy=>!decide (y=x))
inductive u5(vs:List V)(H:Hp)(Q:VK)(E:XK):Prop
 |mk (H0:Hp) (p:Addr) (x sg:Str) (va vb:Val) (C:List Str) (h0_:vs=[.ref p]) (h1_:a8 H0 H) (h2_:H0 p=some (.tup [.str "set",.str x,va.v,.str sg,vb.v])) (h3_:(∀k∈(aa.set x va sg vb).names,k∈C)) (h4_:C.length<64) (h5_:∀H' l,a8 H H'->H' l=some (.lst ((oH x va vb).map V.str))->Q (.ref l) H'):u5 vs H Q E
inductive mS(vs:List V)(H:Hp)(Q:VK)(E:XK):Prop
 |mk (kd:Str) (l:Addr) (zs:List Str) (h0_:vs=[.str kd,.ref l]) (h1_:H l=some (.lst (zs.map V.str))) (h2_:∀H' v,a8 H H'->cH H' v ⟨kd,zs,[],none,none⟩->Q v H'):mS vs H Q E
inductive tW(vs:List V)(H:Hp)(Q:VK)(E:XK):Prop
 |mk (H0:Hp) (v:V) (d:aa) (C:List Str) (h0_:vs=[v]) (h1_:a8 H0 H) (h2_:RD H0 v d) (h3_:d.depth<=12) (h4_:d.flat.length<=1000) (h5_:(∀k∈cards [d],k∈C)) (h6_:C.length<64) (h7_:(∀k∈C,k.length<=1000)) (h8_:(∀n b,d≠.rep n b)) (h9_:∀H' u,a8 H H'->cH H' u (aL d)->Q u H'):tW vs H Q E
inductive ui(vs:List V)(H:Hp)(Q:VK)(E:XK):Prop
 |mk (l:Addr) (us:List V) (rs:List Row) (h0_:vs=[.ref l]) (h1_:H l=some (.lst us)) (h2_:aX H us rs) (h3_:rs.length<=2000) (h4_:Fed rs) (h5_:(∀r∈rs,dM r)) (h6_:∀H',a8 H H'->Q .non H'):ui vs H Q E
def yt(C:List Str)(ds:List aa):Prop:=aP ds<=12/\(aj ds).length<=1000/\(∀k∈cards ds,k∈C)/\C.length<64/\(∀k∈C,k.length<=1000)/\bR f7 ds
inductive mQ(n:Nat)(vs:List V)(H:Hp)(Q:VK)(E:XK):Prop
 |mk (H0:Hp) (b:Addr) (ds:List aa) (C:List Str) (h0_:vs=[.ref b]) (h1_:a8 H0 H) (h2_:RL H0 b ds) (h3_:aP ds<n) (h4_:yt C ds) (h5_:(aH ds).length<=2000) (h6_:∀H' l us,a8 H H'->H l=none->H' l=some (.lst us)->aX H' us (aH ds)->Q (.ref l) H'):mQ n vs H Q E
inductive tV(n:Nat)(vs:List V)(H:Hp)(Q:VK)(E:XK):Prop
 |mk (H0:Hp) (r:Int) (b:Addr) (ds:List aa) (C:List Str) (h0_:vs=[.int r,.ref b]) (h1_:0<=r) (h2_:r<=99) (h3_:a8 H0 H) (h4_:RL H0 b ds) (h5_:aP ds<n) (h6_:yt C ds) (h7_:(bB (.rep r ds)).length<=2000) (h8_:∀H' l us,a8 H H'->H l=none->H' l=some (.lst us)->aX H' us (bB (.rep r ds))->Q (.ref l) H'):tV n vs H Q E
inductive uh(n:Nat)(vs:List V)(H:Hp)(Q:VK)(E:XK):Prop
 |mk (H0:Hp) (b:Addr) (ds:List aa) (h0_:vs=[.ref b]) (h1_:a8 H0 H) (h2_:RL H0 b ds) (h3_:aP ds<n) (h4_:bR f7 ds) (h5_:Q (.int (aH ds).length) H):uh n vs H Q E
inductive ug(vs:List V)(H:Hp)(Q:VK)(E:XK):Prop
 |mk (p la ls lb:Addr) (asks:List Str) (ss:List (Str×Int)) (ds:List aa) (us:List V) (C:List Str) (h0_:vs=[.ref p]) (h1_:RP H p asks ss ds la ls lb us) (h2_:aP ds<=12) (h3_:(aj ds).length<=1000) (h4_:asks.length<=100) (h5_:ss.length<=100) (h6_:(∀s∈ss,s.1.length<=1000)) (h7_:(∀k∈dH asks ss ds,k∈C)) (h8_:C.length<64) (h9_:(∀k∈C,k.length<=1000)) (h10_:bR f7 ds) (h11_:(aH ds).length<2000) (h12_:Fed (aH ds) /\
 ∀H' l us',a8 H H'->H' l=some (.lst us')->aX H' us' (aH ds++[eU asks ss ds])->Q (.ref l) H'):ug vs H Q E
inductive uq(vs:List V)(H:Hp)(Q:VK)(E:XK):Prop
 |mk (i:Int) (h0_:vs=[.int i]) (h1_:Q (.bl true) H):uq vs H Q E
inductive uI(vs:List V)(H:Hp)(Q:VK)(E:XK):Prop
 |mk (i j:Int) (h0_:vs=[.int i,.int j]) (h1_:Q (.int (jL i j)) H):uI vs H Q E
inductive ux(vs:List V)(H:Hp)(Q:VK)(E:XK):Prop
 |mk (l:Addr) (us:List V) (ms:List (Str×Str)) (q:Str) (h0_:vs=[.ref l,.str q]) (h1_:H l=some (.lst us)) (h2_:RMs H us ms) (h3_:ms.length<=1000) (h4_:∀p,H p=none->Q (.ref p) (upd H p (.tup [.int (-(aZ q ms).2.1),.int ((aZ q ms).2.2-(aZ q ms).2.1)]))):ux vs H Q E
inductive uE(n:Nat)(vs:List V)(H:Hp)(Q:VK)(E:XK):Prop
 |mk (H0:Hp) (b:Addr) (ds:List aa) (h0_:vs=[.ref b]) (h1_:a8 H0 H) (h2_:RL H0 b ds) (h3_:aP ds<n) (h4_:bR f7 ds) (h5_:(bx ds).length<=1000) (h6_:∀H' l us,a8 H H'->H l=none->H' l=some (.lst us)->RMs H' us (bx ds)->Q (.ref l) H'):uE n vs H Q E
noncomputable def ca(ns:List Int):List Str:=d7 (ns.getD 0 0) (2+aF (ns.getD 1 0) 1 % 4).toNat
noncomputable def bM(ns:List Int):List Str:=(ca ns).dropLast
noncomputable def aD(ns:List Int):List Str:=d7 (if aF (ns.getD 1 0) 2 % 3=0 then ns.getD 0 0 else ns.getD 1 0) (if aF (ns.getD 1 0) 3 % 5<3 then aF (ns.getD 1 0) 3 % 5 else 3).toNat
noncomputable def eX(ns:List Int)(lo hi:Nat):List Int:=(ns.drop (min lo ns.length)).take (min hi ns.length-min lo ns.length)
noncomputable def dD(ns:List Int):List aa:=dE (bM ns) (aD ns) 2 7 (eX ns 3 63)
noncomputable def fw(ns:List Int):List Str:=eY (ca ns) (ns.getD 2 0) (ca ns).length
noncomputable def bn(ns:List Int):List (Str×Str):=bx (dD ns)
noncomputable def iq(ns:List Int):List aa:=bX (aD ns) (bM ns) (bn ns) (aD ns).length
noncomputable def fB(ns:List Int):List (Str×Int):=fD (aD ns) (ns.getD 2 0) (bn ns) (aD ns).length
inductive uy(K:W.Frag)(vs:List V)(H:Hp)(Q:VK)(E:XK):Prop
 |mk (l:Addr) (ns:List Int) (h0_:vs=[.ref l,.int 2]) (h1_:SqL K H l (ns.map V.int)) (h2_:ns.length<=63) (h3_:aP (dD ns)<=12) (h4_:bR f7 (dD ns)) (h5_:(bn ns).length<=240) (h6_:(aj (dD ns)).length<=60) (h7_:∀H' p la ls lb us,a8 H H'->RP H' p (fw ns) (fB ns) (iq ns++dD ns) la ls lb us->Q (.ref p) H'):uy K vs H Q E
inductive tZ(vs:List V)(H:Hp)(Q:VK)(E:XK):Prop
 |mk (p d:Addr) (cs:List Str) (kd:Str) (kvs:List (Key×V)) (ow:Str->Option Int) (h0_:vs=[.ref p,.str kd,.ref d]) (h1_:H p=some (.tup (cs.map V.str))) (h2_:H d=some (.dK kvs)) (h3_:jc kvs ow) (h4_:cs.length<=10000) (h5_:∀H' l us,a8 H H'->H l=none->H' l=some (.lst us)->RWs H' us (db ow kd cs)->Q (.ref l) H'):tZ vs H Q E
inductive tY(vs:List V)(H:Hp)(Q:VK)(E:XK):Prop
 |mk (l:Addr) (us:List V) (rs:List Row) (h0_:vs=[.ref l]) (h1_:H l=some (.lst us)) (h2_:aX H us rs) (h3_:rs.length<=1000) (h4_:(∀r∈rs,r.owns.length<=4000/\r.reads.length<=4000)) (h5_:∀H' lw ws,a8 H H'->H lw=none->H' lw=some (.lst ws)->RWL H' ws (cQ rs rs.length)->Q (.ref lw) H'):tY vs H Q E
inductive ua(vs:List V)(H:Hp)(Q:VK)(E:XK):Prop
 |mk (l:Addr) (us:List V) (rs:List Row) (pl:Int) (f:Row->Option Str) (h0_:vs=[.ref l,.int pl]) (h1_:H l=some (.lst us)) (h2_:aX H us rs) (h3_:rs.length<=1000) (h4_:((pl=3/\f=Row.into)\/(pl=4/\f=Row.outof))) (h5_:∀H' d kvs,a8 H H'->H' d=some (.dK kvs)->RN H' kvs (ap f rs)->(∀(q:Str)(p:Addr),aJ kvs (.inr q)=some (.ref p)->H p=none)->Q (.ref d) H'):ua vs H Q E
inductive u0(vs:List V)(H:Hp)(Q:VK)(E:XK):Prop
 |mk (lc l ls:Addr) (ws us sv:List V) (W:List (List Wat)) (rs:List Row) (ss:List (Str×Int)) (h0_:vs=[.ref lc,.ref l,.ref ls]) (h1_:H lc=some (.lst ws)) (h2_:RWL H ws W) (h3_:W.length=rs.length) (h4_:Sm W 8000) (h5_:H l=some (.lst us)) (h6_:aX H us rs) (h7_:rs.length<=1000) (h8_:H ls=some (.lst sv)) (h9_:RSs H sv ss) (h10_:ss.length<=100) (h11_:(∀s∈ss,0<=s.2)) (h12_:∀H' lw ws',a8 H H'->H' lw=some (.lst ws')->RWL H' ws' (dc rs ss W ss.length)->Q (.ref lw) H'):u0 vs H Q E
inductive tX(vs:List V)(H:Hp)(Q:VK)(E:XK):Prop
 |mk (l ls:Addr) (us sv:List V) (rs:List Row) (ss:List (Str×Int)) (h0_:vs=[.ref l,.ref ls]) (h1_:H l=some (.lst us)) (h2_:aX H us rs) (h3_:rs.length<=1000) (h4_:(∀r∈rs,r.owns.length<=4000/\r.reads.length<=4000)) (h5_:H ls=some (.lst sv)) (h6_:RSs H sv ss) (h7_:ss.length<=100) (h8_:(∀s∈ss,0<=s.2)) (h9_:∀H' lw ws',a8 H H'->H' lw=some (.lst ws')->RWL H' ws' (dc rs ss (cQ rs rs.length) ss.length)->Q (.ref lw) H'):tX vs H Q E
noncomputable def dr(rs:List Row)(i:Nat)(r:Row):List Wat:=match r.outof with
 |some q=>[((ap Row.into rs q).getD (ap Row.outof (rs.take i) q).length 0,"thing",q)]
 |none=>[]
noncomputable def iF(rs:List Row)(n:Int)(i:Nat)(q:Str):Int:=((ap Row.into (rs.take i) q).length:Int)-n
noncomputable def dS(rs:List Row)(ln:Str->Int)(i:Nat)(r:Row):List Wat:=match r.into with
 |some q=>if 0<=iF rs (ln q) i q then[(awaited rs.length (ap Row.outof rs q) (iF rs (ln q) i q).toNat,"room",q)]else[]
 |none=>[]
noncomputable def cF(rs:List Row)(ln:Str->Int)(i:Nat)(r:Row):List Wat:=da (rs.take i) r++dr rs i r++dS rs ln i r
noncomputable def cnO(rs:List Row)(c:Str):Nat:=(rs.flatMap Row.owns).count c
def sQ(kvs:List (Key×V))(rs:List Row):Prop:=∀c:Str,(aJ kvs (.inr c)).getD (.int 0)=.int (cnO rs c)
inductive RCs(H:Hp)(rs:List Row):List V->List Str->Prop
 |nil:RCs H rs [] []
 |cons {p:Addr}{vs:List V}{c:Str}{cs:List Str}:H p=some (.tup [.str c,.int (cnO rs c)])->RCs H rs vs cs->RCs H rs (.ref p::vs) (c::cs)
def RAt(H:Hp)(rs:List Row)(i:Nat)(r:Row)(v:V):Prop:=∃p l1 l2 u1 u2,v=.ref p/\H p=some (.tup [.ref l1,.ref l2])/\H l1=some (.lst u1)/\H l2=some (.lst u2)/\RCs H (rs.take i) u1 r.owns/\RCs H (rs.take i) u2 r.reads
def RAs(H:Hp)(us:List V)(rs:List Row)(n:Nat):Prop:=us.length=n/\∀i r,i<n->rs[i]?=some r->∃v,us[i]?=some v/\RAt H rs i r v
inductive uN(vs:List V)(H:Hp)(Q:VK)(E:XK):Prop
 |mk (l:Addr) (us:List V) (rs:List Row) (h0_:vs=[.ref l]) (h1_:H l=some (.lst us)) (h2_:aX H us rs) (h3_:rs.length<=1000) (h4_:(∀r∈rs,r.owns.length<=4000/\r.reads.length<=4000)) (h5_:∀H' l' us',a8 H H'->H' l'=some (.lst us')->RAs H' us' rs rs.length->Q (.ref l') H'):uN vs H Q E
noncomputable def bP(r:Row):List NK:=[r.into,r.outof]
noncomputable def nmR(rs:List Row)(k:List NK):Nat:=(rs.map bP).count k
noncomputable def cu(rs:List Row)(i:Nat):Int:=match rs[i]? with
 |some r=>(nmR (rs.take i) (bP r):Nat)
 |none=>0
inductive uD(vs:List V)(H:Hp)(Q:VK)(E:XK):Prop
 |mk (l:Addr) (us:List V) (rs:List Row) (h0_:vs=[.ref l]) (h1_:H l=some (.lst us)) (h2_:aX H us rs) (h3_:rs.length<=1000) (h4_:∀H' l',a8 H H'->H l'=none->H' l'=some (.lst ((List.range rs.length).map λi:Nat=>V.int (cu rs i)))->Q (.ref l') H'):uD vs H Q E
inductive uB(vs:List V)(H:Hp)(Q:VK)(E:XK):Prop
 |mk (l:Addr) (us:List V) (rs:List Row) (cs:List Str) (c:Str) (h0_:vs=[.ref l,.str c]) (h1_:H l=some (.lst us)) (h2_:RCs H rs us cs) (h3_:Q (if c∈cs then .int (cnO rs c)else .non) H):uB vs H Q E
structure FF(H:Hp)(l la lnn d:Addr)(us as:List V)(rs:List Row)(kvs:List (Key×V))(ln:Str->Int):Prop where
 hl:H l=some (.lst us)
 rr:aX H us rs
 ha:H la=some (.lst as)
 ra:RAs H as rs rs.length
 hn:H lnn=some (.lst ((List.range rs.length).map λi:Nat=>V.int (cu rs i)))
 hd:H d=some (.dK kvs)
 few:rs.length<=1000
 sm:∀r∈rs,r.owns.length<=4000/\r.reads.length<=4000
 dl:∀r∈rs,∀q,r.into=some q->aJ kvs (.inr q)=some (.int (ln q))
inductive uA(vs:List V)(H:Hp)(Q:VK)(E:XK):Prop
 |mk (p:Addr) (j:Nat) (k n:Str) (m:Nat) (h0_:vs=[.ref p,.int m]) (h1_:H p=some (.tup [.int j,.str k,.str n])) (h2_:j<m) (h3_:Q (.bl true) H):uA vs H Q E
inductive hE(rs:List Row)(ln:Str->Int)(i:Nat)(r:Row):Wat->Prop
 |card {j:Nat}{c:Str}{r':Row}:rs[j]?=some r'->c∈r.owns->c∈r'.owns->cnO (rs.take i) c=cnO (rs.take j) c+1->hE rs ln i r ((j:Int),"card",c)
 |copy {j:Nat}{c:Str}{r':Row}:rs[j]?=some r'->c∈r.reads->c∈r'.owns->cnO (rs.take i) c=cnO (rs.take j) c+1->hE rs ln i r ((j:Int),"copy",c)
 |thing {j:Nat}{q:Str}{r':Row}:rs[j]?=some r'->r.outof=some q->r'.into=some q->cu rs j=cu rs i->hE rs ln i r ((j:Int),"thing",q)
 |room {j:Nat}{q:Str}{r':Row}:rs[j]?=some r'->r.into=some q->ln q<=cu rs i->r'.outof=some q->cu rs j=cu rs i-ln q->hE rs ln i r ((j:Int),"room",q)
 |last {j:Nat}{q:Str}{r':Row}:rs[j]?=some r'->r.into=some q->ln q<=cu rs i->r'.outof≠some q->j+1=rs.length->((rs.filter λx=>decide (x.outof=some q)).length:Int)<=cu rs i-ln q->hE rs ln i r ((j:Int),"room",q)
inductive uG(vs:List V)(H:Hp)(Q:VK)(E:XK):Prop
 |mk (l la lnn d p:Addr) (us as:List V) (rs:List Row) (kvs:List (Key×V)) (ln:Str->Int) (i:Nat) (r:Row) (e:Wat) (h0_:vs=[.ref l,.ref la,.ref lnn,.ref d,.int i,.ref p]) (h1_:FF H l la lnn d us as rs kvs ln) (h2_:rs[i]?=some r) (h3_:H p=some (dN e)) (h4_:hE rs ln i r e) (h5_:∀H',a8 H H'->Q (.bl true) H'):uG vs H Q E
noncomputable def dnR(rs:List Row)(o:List Nat):List Row:=o.filterMap (rs[·]?)
def eA(rs R:List Row)(k:Nat)(r:Row):Prop:=∀c,(c∈r.owns\/c∈r.reads)->cnO (rs.take k) c<=cnO R c
def fS(R:List Row)(r:Row):Prop:=∀q,r.outof=some q->bal R q≠0
def gZ(ln:Str->Int)(R:List Row)(r:Row):Prop:=∀q,r.into=some q->bal R q<ln q
def c9(o:List Nat)(e:Wat):Prop:=∃j:Nat,e.1=(j:Int)/\j∈o
noncomputable def wsV(W:List (List Wat))(k:Nat):List Wat:=(W[k]?).getD []
def Tgt(W:List (List Wat)):Prop:=∀k,∀e∈wsV W k,∃j:Nat,e.1=(j:Int)/\j<W.length
structure LkI(W:List (List Wat))(m:Nat)(o R:List Nat)(zs:Nat->Nat)(st:Nat->List Nat):Prop where
 nd:o.Nodup
 lt:∀k∈o,k<m
 ord:∀(t k:Nat),o[t]?=some k->∀e∈wsV W k,c9 (o.take t) e
 zl:∀k,zs k<=(wsV W k).length
 zd:∀k,∀e∈(wsV W k).take (zs k),c9 o e
 rn:R.Nodup
 ro:∀k∈R,k<m/\k∉o
 sn:∀w,w∉o->(st w).Nodup
 so:∀w,w∉o->∀k∈st w,k<m/\k∉o/\k∉R/\∃e,(wsV W k)[zs k]?=some e/\e.1=(w:Int)
 al:∀k,k<m->k∈o\/k∈R\/∃w,w∉o/\k∈st w
structure hG(H:Hp)(l la d:Addr)(us as:List V)(rs:List Row)(kvs:List (Key×V))(ln:Str->Int):Prop where
 hl:H l=some (.lst us)
 rr:aX H us rs
 ha:H la=some (.lst as)
 ra:RAs H as rs rs.length
 hd:H d=some (.dK kvs)
 few:rs.length<=1000
 sm:∀r∈rs,r.owns.length<=4000/\r.reads.length<=4000
 dl:∀r∈rs,∀q,r.into=some q->aJ kvs (.inr q)=some (.int (ln q))
structure bq(H0 H:Hp)(ow:List Addr)(cn:List HO):Prop where
 sa:a8 H0 H
 nd:ow.Nodup
 nw:∀x∈ow,H0 x=none
 av:∀{i:Nat}{x:Addr}{o:HO},ow[i]?=some x->cn[i]?=some o->H x=some o
noncomputable def bD(o:List Nat):List V:=o.map λj:Nat=>V.int j
noncomputable def LkO(a:Adr)(dx lw lo lf lv lk:Addr):HO:=.ins a.ad dx [("waits",.ref lw),("order",.ref lo),("finished",.ref lf),("over",.ref lv),("stuck",.ref lk)]
noncomputable def cnL(n:Nat)(o:List Nat)(zs:Nat->Nat)(st:Nat->List Nat):List HO:=.lst (bD o)::.lst ((List.range n).map λj:Nat=>V.bl (decide (j∈o)))::.lst ((List.range n).map λj:Nat=>V.int (zs j))::(List.range n).map λj:Nat=>HO.lst (bD (st j))
structure LkA where
 (b dx lw lo lf lv lk:Addr)
 qs:List Addr
 us:List V
structure LkS(a:Adr)(H0:Hp)(L:LkA)(W:List (List Wat)):Prop where
 ob:H0 L.b=some (LkO a L.dx L.lw L.lo L.lf L.lv L.lk)
 sk:H0 L.lk=some (.lst (L.qs.map V.ref))
 ql:L.qs.length=W.length
 hw:H0 L.lw=some (.lst L.us)
 rl:RWL H0 L.us W
 sm:Sm W 9000
 tg:Tgt W
 few:W.length<=1000
def LkH(H0 H:Hp)(L:LkA)(W:List (List Wat))(o:List Nat)(zs:Nat->Nat)(st:Nat->List Nat):Prop:=bq H0 H (L.lo::L.lf::L.lv::L.qs) (cnL W.length o zs st)
inductive uR(a:Adr)(vs:List V)(H:Hp)(Q:VK)(E:XK):Prop
 |mk (b dx lw:Addr) (us:List V) (h0_:vs=[.ref b,.ref lw]) (h1_:H b=some (.ins a.ad dx [])) (h2_:H lw=some (.lst us)) (h3_:us.length<=1000) (h4_:∀H' H0 lo lf lv lk qs,(∀c o,c≠b->H c=some o->H0 c=some o)->H0 b=some (LkO a dx lw lo lf lv lk)->H0 lk=some (.lst (qs.map V.ref))->qs.length=us.length->bq H0 H' (lo::lf::lv::qs) (cnL us.length [] (λ_=>0) λ_=>[])->Q .non H'):uR a vs H Q E
inductive uO(a:Adr)(vs:List V)(H:Hp)(Q:VK)(E:XK):Prop
 |mk (H0:Hp) (L:LkA) (W:List (List Wat)) (o:List Nat) (zs:Nat->Nat) (st:Nat->List Nat) (x:Nat) (h0_:vs=[.ref L.b,.int x]) (h1_:LkS a H0 L W) (h2_:LkH H0 H L W o zs st) (h3_:x<W.length) (h4_:zs x<=(wsV W x).length) (h5_:∀H' z,LkH H0 H' L W o (λk=>if k=x then z else zs k) st->zs x<=z->z<=(wsV W x).length->(∀t e,zs x<=t->t<z->(wsV W x)[t]?=some e->c9 o e)->(z=(wsV W x).length->Q .non H')/\∀e p,(wsV W x)[z]?=some e->¬ c9 o e->H0 p=some (dN e)->Q (.ref p) H'):uO a vs H Q E
inductive uQ(a:Adr)(vs:List V)(H:Hp)(Q:VK)(E:XK):Prop
 |mk (H0:Hp) (L:LkA) (W:List (List Wat)) (o:List Nat) (zs:Nat->Nat) (st:Nat->List Nat) (m:Nat) (h0_:vs=[.ref L.b,.int m]) (h1_:LkS a H0 L W) (h2_:LkH H0 H L W o zs st) (h3_:LkI W m o [] zs st) (h4_:m<W.length) (h5_:∀H' o' zs' st',LkH H0 H' L W o' zs' st'->LkI W (m+1) o' [] zs' st'->Q .non H'):uQ a vs H Q E
noncomputable def rgW(p:Nat×Wat):Wat:=(p.1,p.2.2)
structure jb(W:List (List Wat))(o:List Nat)(ps:List (Nat×Wat)):Prop where
 nn:ps≠[]
 nd:(ps.map (·.1)).Nodup
 is:∀p∈ps,p.1∉o/\p.1<W.length/\∃z,(wsV W p.1)[z]?=some p.2/\(∀e∈(wsV W p.1).take z,c9 o e)/\¬ c9 o p.2
 nx:∀i p,ps[i]?=some p->∃p',ps[(i+1) % ps.length]?=some p'/\p.2.1=(p'.1:Int)
inductive uP(a:Adr)(vs:List V)(H:Hp)(Q:VK)(E:XK):Prop
 |mk (H0:Hp) (L:LkA) (W:List (List Wat)) (o:List Nat) (zs:Nat->Nat) (st:Nat->List Nat) (h0_:vs=[.ref L.b]) (h1_:LkS a H0 L W) (h2_:LkH H0 H L W o zs st) (h3_:LkI W W.length o [] zs st) (h4_:o.length≠W.length) (h5_:∀H' lp us ps,LkH H0 H' L W o zs st->H' lp=some (.lst us)->RWs H' us (ps.map rgW)->jb W o ps->Q (.ref lp) H'):uP a vs H Q E
def LkT(W:List (List Wat))(H:Hp)(Q:V->Hp->Prop):Prop:=∀H' p lo o zs st,a8 H H'->H' lo=some (.lst (bD o))->LkI W W.length o [] zs st->(o.length=W.length->H' p=some (.tup [.str "by",.ref lo])->Q (.ref p) H')/\∀lp us ps,H' p=some (.tup [.str "ring",.ref lo,.ref lp])->H' lp=some (.lst us)->RWs H' us (ps.map rgW)->jb W o ps->Q (.ref p) H'
inductive uc(vs:List V)(H:Hp)(Q:VK)(E:XK):Prop
 |mk (lw:Addr) (us:List V) (W:List (List Wat)) (h0_:vs=[.ref lw]) (h1_:H lw=some (.lst us)) (h2_:RWL H us W) (h3_:Sm W 9000) (h4_:Tgt W) (h5_:W.length<=1000) (h6_:LkT W H Q):uc vs H Q E
inductive ud(vs:List V)(H:Hp)(Q:VK)(E:XK):Prop
 |mk (l ls:Addr) (us sv:List V) (rs:List Row) (ss:List (Str×Int)) (W:List (List Wat)) (h0_:vs=[.ref l,.ref ls]) (h1_:H l=some (.lst us)) (h2_:aX H us rs) (h3_:rs.length<=1000) (h4_:(∀r∈rs,r.owns.length<=4000/\r.reads.length<=4000)) (h5_:H ls=some (.lst sv)) (h6_:RSs H sv ss) (h7_:ss.length<=100) (h8_:(∀s∈ss,0<=s.2)) (h9_:dc rs ss (cQ rs rs.length) ss.length=W) (h10_:Sm W 9000) (h11_:Tgt W) (h12_:W.length<=1000) (h13_:LkT W H Q):ud vs H Q E
structure WkH(H0 H:Hp)(s d0 d1 d2:Addr)(rs:List Row)(o:List Nat):Prop where
 so:H s=some (.lst [.ref d0,.ref d1,.ref d2])
 c0:∃kvs,H d0=some (.dK kvs)/\sQ kvs (dnR rs o)/\kvs.length<=4000 * o.length
 c1:∃kvs,H d1=some (.dK kvs)/\k7 kvs (dnR rs o)/\kvs.length<=2 * o.length
 c2:∃kvs,H d2=some (.dK kvs)/\(∀j:Nat,(aJ kvs (.inl (j:Int))).isSome=decide (j∈o))/\kvs.length<=o.length
 nd:d0≠d1/\d0≠d2/\d1≠d2
 sa:a8 H0 H
 n0:H0 d0=none
 n1:H0 d1=none
 n2:H0 d2=none
inductive kg(rs:List Row)(ln:Str->Int)(R:List Row)(k:Nat)(r:Row):Str->Prop
 |card:¬ eA rs R k r->kg rs ln R k r "card"
 |thing:eA rs R k r->¬ fS R r->kg rs ln R k r "thing"
 |room:eA rs R k r->fS R r->¬ gZ ln R r->kg rs ln R k r "room"
 |no:eA rs R k r->fS R r->gZ ln R r->kg rs ln R k r ""
inductive uJ(vs:List V)(H:Hp)(Q:VK)(E:XK):Prop
 |mk (H0:Hp) (l la d s d0 d1 d2:Addr) (us as:List V) (rs:List Row) (kvs:List (Key×V)) (ln:Str->Int) (o:List Nat) (k:Nat) (r:Row) (h0_:vs=[.ref l,.ref la,.ref d,.ref s,.int k]) (h1_:WkH H0 H s d0 d1 d2 rs o) (h2_:hG H0 l la d us as rs kvs ln) (h3_:rs[k]?=some r) (h4_:∀z,kg rs ln (dnR rs o) k r z->Q (.str z) H):uJ vs H Q E
inductive uK(vs:List V)(H:Hp)(Q:VK)(E:XK):Prop
 |mk (H0:Hp) (l s d0 d1 d2:Addr) (us:List V) (rs:List Row) (o:List Nat) (k:Nat) (r:Row) (h0_:vs=[.ref l,.ref s,.int k]) (h1_:WkH H0 H s d0 d1 d2 rs o) (h2_:H0 l=some (.lst us)) (h3_:aX H0 us rs) (h4_:rs[k]?=some r) (h5_:o.length<=1000) (h6_:(∀r∈rs,r.owns.length<=4000/\r.reads.length<=4000)) (h7_:∀H',WkH H0 H' s d0 d1 d2 rs (o++[k])->Q .non H'):uK vs H Q E
inductive ur(vs:List V)(H:Hp)(Q:VK)(E:XK):Prop
 |mk (l la d lo:Addr) (us as:List V) (rs:List Row) (kvs:List (Key×V)) (ln:Str->Int) (o:List Nat) (h0_:vs=[.ref l,.ref la,.ref d,.ref lo]) (h1_:hG H l la d us as rs kvs ln) (h2_:H lo=some (.lst (bD o))) (h3_:o.Nodup) (h4_:o.length<=1000) (h5_:(∀t k,o[t]?=some k->∃r,rs[k]?=some r/\eA rs (dnR rs (o.take t)) k r/\fS (dnR rs (o.take t)) r/\gZ ln (dnR rs (o.take t)) r)) (h6_:∀H' s d0 d1 d2,WkH H H' s d0 d1 d2 rs o->Q (.ref s) H'):ur vs H Q E
inductive uw(vs:List V)(H:Hp)(Q:VK)(E:XK):Prop
 |mk (H0:Hp) (l la d s d0 d1 d2 lr:Addr) (us as ru:List V) (rs:List Row) (kvs:List (Key×V)) (ln:Str->Int) (o:List Nat) (ps:List (Nat×Wat)) (h0_:vs=[.ref l,.ref la,.ref d,.ref s,.ref lr]) (h1_:WkH H0 H s d0 d1 d2 rs o) (h2_:hG H0 l la d us as rs kvs ln) (h3_:H0 lr=some (.lst ru)) (h4_:RWs H0 ru (ps.map rgW)) (h5_:(ps.map (·.1)).Nodup) (h6_:(∀p∈ps,p.1∉o/\∃r,rs[p.1]?=some r/\hE rs ln p.1 r p.2/\(p.2.2.1=("room":Str)->eA rs (dnR rs o) p.1 r/\fS (dnR rs o) r/\¬ gZ ln (dnR rs o) r))) (h7_:(∀i p,ps[i]?=some p->∃p',ps[(i+1) % ps.length]?=some p'/\p.2.1=(p'.1:Int))) (h8_:(∃p∈ps,p.2.2.1=("room":Str))) (h9_:∀H',Q (.bl true) H'):uw vs H Q E
noncomputable def dO(p:Int)(q:Str)(L:Int)(x:Str):List aa:=List.replicate (L+1+p % 3).toNat (.put q x)++[.rep (1+p / 3 % 3) [.get q x,.put q x]]
inductive ut(vs:List V)(H:Hp)(Q:VK)(E:XK):Prop
 |mk (p L:Int) (q x:Str) (h0_:vs=[.int p,.str q,.int L,.str x]) (h1_:0<=L) (h2_:L<=100) (h3_:∀H' l us,a8 H H'->H' l=some (.lst us)->RDs H' us (dO p q L x)->Q (.ref l) H'):ut vs H Q E
inductive jh(K:W.Frag)(vs:List V)(H:Hp)(Q:VK)(E:XK):Prop
 |mk (a:Addr) (ns:List Int) (h0_:vs=[.ref a]) (h1_:SqL K H a (ns.map V.int)) (h2_:ns.length<=63) (h3_:(∀n∈ns,Builtin.Int.intBits n<=2 ^ 20)) (h4_:mh H) (h5_:∀H',Q (.bl true) H'):jh K vs H Q E
theorem ln1:1<=sizeLine:=Yk
theorem ln2:2<=sizeLine:=Yk
theorem ln3:3<=sizeLine:=Yk
theorem ln4:4<=sizeLine:=Yk
theorem ln5:5<=sizeLine:=Yk
section
variable {P:Program}{w:World}{K:W.Frag}{mg:Str->Option Value}{base:Heap}{a:Adr}
theorem pL(T:Tx P w K mg a):aN P w K mg base CX0 1 a.GH a.GI ["store"] u6:=by
 refine T.FO.ok Aq (λvs H Q E h=>?_) (λcdv A outer s H vs Q E hr h=>?_)
 .obtain⟨_,rfl,_⟩:=h
  rfl
 obtain⟨q,rfl,hq,k⟩:=h;refine⟨_,(ak (aA (ao i6 (pq 0) aO))),?_⟩;exact⟨_,U,_,_,U,U,bg (m:=1001) (by show q.length+1<=1001;omega),k⟩
theorem pN(T:Tx P w K mg a):aN P w K mg base CX0 1 a.GJ a.GK ["store"] uf:=by
 refine T.FP.ok Av (λvs H Q E h=>?_) (λcdv A outer s H vs Q E hr h=>?_)
 .obtain⟨_,rfl,_⟩:=h
  rfl
 obtain⟨q,rfl,hq,k⟩:=h;refine⟨_,(ak (aA (ao i6 (pq 0) aO))),?_⟩;exact⟨_,U,_,_,U,U,bg (m:=1001) (by show q.length+1<=1001;omega),k⟩
theorem Cy(T:Tx P w K mg a):aN P w K mg base CX0 1 a.Gx a.Gy ["deed"] um:=by
 refine T.IQ.ok Aw (λvs H Q E h=>?_) (λcdv A outer s H vs Q E hr h=>?_)
 .obtain⟨_,_,_,rfl,_⟩:=h
  rfl
 obtain⟨H0,v,d,rfl,e0,hd,k⟩:=h
 refine⟨_,(ah (aM (au aY (ai ar (pq 0) ac Oy) aO (ax _)) (ak (aA (aT (a9 (ai ar (pq 0) ac Oy) (a9 (ai ar (pq 0) ac Oy) ae))))) aR)
  (ah (aM (au j1 (ai ar (pq 0) ac Oy) (gh U T.KI T.r_LOOPS) (by with_unfolding_all rfl)) (ak (aA (aT (a9 (ai ar (pq 0) ac Oy) ae)))) aR)
  (ak (aA (aT ae))))),?_⟩
 have nil:∀p,H p=none->d.inner=[]->Q (.ref p) (upd H p (.lst [])):=λp hp z=>k _ p [] (a8.new hp _) hp ag (by rw[z];exact .nil);have one:∀p b bs,H p=none->d.inner=[bs]->RL H0 b bs->Q (.ref p) (upd H p (.lst [.ref b])):=λp b bs hp z hb=>k _ p [b] (a8.new hp _) hp ag (by rw[z];exact .cons hb .nil)
 cases hd with
 |cond h h1 h2=>
  refine⟨_,rfl,_,_,_,_,rfl,rfl,SqT.of (e0 _ _ h),rfl,rfl,_,rfl,?_⟩;walk_at "yes";refine⟨_,rfl,_,_,_,_,rfl,rfl,SqT.of (e0 _ _ h),rfl,_,rfl,_,_,_,_,rfl,rfl,SqT.of (e0 _ _ h),rfl,ln2,λp hp=>?_⟩;exact k _ p [_,_] (a8.new hp _) hp ag (.cons h1 (.cons h2 .nil))
 |whl h h1=>
  refine⟨_,rfl,_,_,_,_,rfl,rfl,SqT.of (e0 _ _ h),rfl,rfl,_,rfl,?_⟩;walk_at "no";refine⟨_,rfl,_,_,_,_,rfl,rfl,SqT.of (e0 _ _ h),rfl,_,_,rfl,.inr (T.or _),rfl,rfl,_,rfl,?_⟩;walk_at "yes";exact⟨_,rfl,_,_,_,_,rfl,rfl,SqT.of (e0 _ _ h),rfl,ln1,λp hp=>one p _ _ hp rfl h1⟩
 |rep h h1=>
  refine⟨_,rfl,_,_,_,_,rfl,rfl,SqT.of (e0 _ _ h),rfl,rfl,_,rfl,?_⟩;walk_at "no";refine⟨_,rfl,_,_,_,_,rfl,rfl,SqT.of (e0 _ _ h),rfl,_,_,rfl,.inr (T.or _),rfl,rfl,_,rfl,?_⟩;walk_at "yes";exact⟨_,rfl,_,_,_,_,rfl,rfl,SqT.of (e0 _ _ h),rfl,ln1,λp hp=>one p _ _ hp rfl h1⟩
 |set h=>
  refine⟨_,rfl,_,_,_,_,rfl,rfl,SqT.of (e0 _ _ h),rfl,rfl,_,rfl,?_⟩;walk_at "no";refine⟨_,rfl,_,_,_,_,rfl,rfl,SqT.of (e0 _ _ h),rfl,_,_,rfl,.inr (T.or _),rfl,rfl,_,rfl,?_⟩;walk_at "no";exact⟨qz _,λp hp=>nil p hp rfl⟩
 |put h=>
  refine⟨_,rfl,_,_,_,_,rfl,rfl,SqT.of (e0 _ _ h),rfl,rfl,_,rfl,?_⟩;walk_at "no";refine⟨_,rfl,_,_,_,_,rfl,rfl,SqT.of (e0 _ _ h),rfl,_,_,rfl,.inr (T.or _),rfl,rfl,_,rfl,?_⟩;walk_at "no";exact⟨qz _,λp hp=>nil p hp rfl⟩
 |get h=>
  refine⟨_,rfl,_,_,_,_,rfl,rfl,SqT.of (e0 _ _ h),rfl,rfl,_,rfl,?_⟩;walk_at "no";refine⟨_,rfl,_,_,_,_,rfl,rfl,SqT.of (e0 _ _ h),rfl,_,_,rfl,.inr (T.or _),rfl,rfl,_,rfl,?_⟩;walk_at "no";exact⟨qz _,λp hp=>nil p hp rfl⟩
 |give h=>
  refine⟨_,rfl,_,_,_,_,rfl,rfl,SqT.of (e0 _ _ h),rfl,rfl,_,rfl,?_⟩;walk_at "no";refine⟨_,rfl,_,_,_,_,rfl,rfl,SqT.of (e0 _ _ h),rfl,_,_,rfl,.inr (T.or _),rfl,rfl,_,rfl,?_⟩;walk_at "no";exact⟨qz _,λp hp=>nil p hp rfl⟩
theorem Cp(T:Tx P w K mg a):aN P w K mg base CX0 2 a.GF a.GG ["deed"] u9:=by
 refine T.IU.ok As (λvs H Q E h=>?_) (λcdv A outer s H vs Q E hr h=>?_)
 .obtain⟨_,_,_,rfl,_⟩:=h
  rfl
 obtain⟨H0,v,d,rfl,e0,hd,hk,k⟩:=h
 refine⟨_,(ah (aM (au aY (ai ar (pq 0) ac Oy) aO (ax _)) (ak (aA (aT (a9 (aG (pL T) (hr.mono Yk) U T.Il T.FO.kp T.Ik .nil aC (a9 (ai ar (pq 0) ac Oy) ae)) ae)))) aR)
  (ah (aM (au aY (ai ar (pq 0) ac Oy) aO (ax _)) (ak (aA (aT (a9 (aG (pN T) (hr.mono Yk) U T.Io T.FP.kp T.Im .nil aC (a9 (ai ar (pq 0) ac Oy) ae)) ae)))) aR)
  (ak (aA (gM (au j1 (ai ar (pq 0) ac Oy) (gh U T.KK T.r_OUTLET_KEEPERS) (by with_unfolding_all rfl)) (aT (a9 (gh U T.Iy T.r_OUTLET) ae)) (aT ae)))))),?_⟩
 have fin:∀p xs,H p=none->d.others.map V.str=xs->Q (.ref p) (upd H p (.lst xs)):=λp xs hp z=>by
  subst z;exact k _ p (a8.new hp _) hp ag
 have bU:∀q z:Str,q++z∈d.others->q.length<=1000:=λq z hq=>by
  have:=hk _ hq;rw[dP]at this;omega
 cases hd with
 |put h=>
  refine⟨_,rfl,_,_,_,_,rfl,rfl,SqT.of (e0 _ _ h),rfl,rfl,_,rfl,?_⟩;walk_at "yes";exact⟨_,rfl,_,_,_,_,rfl,rfl,SqT.of (e0 _ _ h),rfl,_,rfl,bU _ ">" (by simp[aa.others]),ln1,λp hp=>fin p _ hp rfl⟩
 |get h=>
  refine⟨_,rfl,_,_,_,_,rfl,rfl,SqT.of (e0 _ _ h),rfl,rfl,_,rfl,?_⟩;walk_at "no";refine⟨_,rfl,_,_,_,_,rfl,rfl,SqT.of (e0 _ _ h),rfl,rfl,_,rfl,?_⟩;walk_at "yes";exact⟨_,rfl,_,_,_,_,rfl,rfl,SqT.of (e0 _ _ h),rfl,_,rfl,bU _ "<" (by simp[aa.others]),ln1,λp hp=>fin p _ hp rfl⟩
 |give h=>
  refine⟨_,rfl,_,_,_,_,rfl,rfl,SqT.of (e0 _ _ h),rfl,rfl,_,rfl,?_⟩;walk_at "no";refine⟨_,rfl,_,_,_,_,rfl,rfl,SqT.of (e0 _ _ h),rfl,rfl,_,rfl,?_⟩;walk_at "no";refine⟨_,rfl,_,_,_,_,rfl,rfl,SqT.of (e0 _ _ h),rfl,_,_,rfl,.inr (T.wP _),rfl,rfl,_,rfl,?_⟩;walk_at "yes";exact⟨Yk,λp hp=>fin p _ hp rfl⟩
 |whl h h1=>
  refine⟨_,rfl,_,_,_,_,rfl,rfl,SqT.of (e0 _ _ h),rfl,rfl,_,rfl,?_⟩;walk_at "no";refine⟨_,rfl,_,_,_,_,rfl,rfl,SqT.of (e0 _ _ h),rfl,rfl,_,rfl,?_⟩;walk_at "no";refine⟨_,rfl,_,_,_,_,rfl,rfl,SqT.of (e0 _ _ h),rfl,_,_,rfl,.inr (T.wP _),rfl,rfl,_,rfl,?_⟩;walk_at "yes";exact⟨Yk,λp hp=>fin p _ hp rfl⟩
 |set h=>
  refine⟨_,rfl,_,_,_,_,rfl,rfl,SqT.of (e0 _ _ h),rfl,rfl,_,rfl,?_⟩;walk_at "no";refine⟨_,rfl,_,_,_,_,rfl,rfl,SqT.of (e0 _ _ h),rfl,rfl,_,rfl,?_⟩;walk_at "no";refine⟨_,rfl,_,_,_,_,rfl,rfl,SqT.of (e0 _ _ h),rfl,_,_,rfl,.inr (T.wP _),rfl,rfl,_,rfl,?_⟩;walk_at "no";exact⟨Yk,λp hp=>fin p _ hp rfl⟩
 |cond h h1 h2=>
  refine⟨_,rfl,_,_,_,_,rfl,rfl,SqT.of (e0 _ _ h),rfl,rfl,_,rfl,?_⟩;walk_at "no";refine⟨_,rfl,_,_,_,_,rfl,rfl,SqT.of (e0 _ _ h),rfl,rfl,_,rfl,?_⟩;walk_at "no";refine⟨_,rfl,_,_,_,_,rfl,rfl,SqT.of (e0 _ _ h),rfl,_,_,rfl,.inr (T.wP _),rfl,rfl,_,rfl,?_⟩;walk_at "no";exact⟨Yk,λp hp=>fin p _ hp rfl⟩
 |rep h h1=>
  refine⟨_,rfl,_,_,_,_,rfl,rfl,SqT.of (e0 _ _ h),rfl,rfl,_,rfl,?_⟩;walk_at "no";refine⟨_,rfl,_,_,_,_,rfl,rfl,SqT.of (e0 _ _ h),rfl,rfl,_,rfl,?_⟩;walk_at "no";refine⟨_,rfl,_,_,_,_,rfl,rfl,SqT.of (e0 _ _ h),rfl,_,_,rfl,.inr (T.wP _),rfl,rfl,_,rfl,?_⟩;walk_at "no";exact⟨Yk,λp hp=>fin p _ hp rfl⟩
noncomputable def mJ(vs:List V):List V:=vs.filter λv=>match v with|.str _=>true|_=>false
theorem vZ(T:Tx P w K mg a):aN P w K mg base CX0 1 a.Gz a.GA ["deed"] ub:=by
 refine T.Ih.ok vd (λvs H Q E h=>?_) (λcdv A outer s H vs Q E hr h=>?_)
 .obtain⟨_,_,_,rfl,_⟩:=h
  rfl
 obtain⟨H0,v,d,rfl,e0,hd,k⟩:=h
 refine⟨_,(ah (aq (i:=1) vd.nd U Oi (ai ar (pq 0) ac Oy))
  (ah (aM (au aY (pq 1) aO (ax _)) (ak (aA (fL (k:=1) (Nc:=["word"]) (js:=[]) (show bE (aI kP) ["deed","kind"] _ 1 ["word"] []from bE.mk U (by decide +kernel) (by decide +kernel) (by decide +kernel) U (by decide +kernel)) U (ie (ba (a9 (ai ar (pq 0) ac Oy) (a9 (ai ar (pq 0) ac Oy) (a9 (ai ar (pq 0) ac Oy) ae))))) (λ_ _ _ _ _=>(aK (i:=0) (show List.Nodup (["word"]:List Str)from by decide +kernel) U Oi)) (λ_ _ _ _ _=>(iZ (eI (aW (Bh (K:=K) U) U T.om PyProof.Rows.Boot.«isinstance» (a9 (pq 0) (a9 (fN (v:=.ty "str") U T.FZ PyProof.Rows.Boot.«str» rfl) ae)))))) (λ_ _ _ _ _=>(pq 0))))) aR)
  (ah (aM (au aY (pq 1) aO (ax _)) (ak (aA (aT ae))) aR)
  (ak (aA (gM (au j1 (pq 1) (gh U T.KJ T.r_LOOKERS) (by with_unfolding_all rfl)) (aT (a9 (ai ar (pq 0) ac Oy) ae)) (aT (a9 (ai ar (pq 0) (cX cR ac) Oy) ae)))))))),?_⟩
 have fin:∀H1 p xs,a8 H H1->H1 p=none->d.names.map V.str=xs->Q (.ref p) (upd H1 p (.lst xs)):=λH1 p xs h1 hp z=>by
  subst z;refine k _ p (h1.trans (a8.new hp _)) ?_ ag
  cases q:H p with
  |none=>rfl
  |some o=>rw[h1 _ _ q]at hp;cases hp
 cases hd with
 |set h=>
  rename_i p x va sg vb;refine⟨_,rfl,_,_,_,_,rfl,rfl,SqT.of (e0 _ _ h),rfl,?_⟩;refine⟨_,rfl,rfl,_,rfl,?_⟩;walk_at "yes";refine⟨_,rfl,_,_,_,_,rfl,rfl,SqT.of (e0 _ _ h),rfl,_,rfl,_,_,_,_,rfl,rfl,SqT.of (e0 _ _ h),rfl,_,rfl,_,_,_,_,rfl,rfl,SqT.of (e0 _ _ h),rfl,ln3,λt ht=>⟨t,rfl,⟨_,SqT.of ag⟩,?_⟩⟩;refine sh (K:=K) (a:=t) (xs:=[.str x,va.v,vb.v]) (λi ys Y H2=>H2=upd H t (.tup [.str x,va.v,vb.v])/\(∃u,Y=[u])/\ys=mJ (([.str x,va.v,vb.v]:List V).take i)) ⟨rfl,⟨_,rfl⟩,rfl⟩ ?_ ln3 ?_ ?_ ?_
  .rintro i ys Y H2 hi ⟨_,_,rfl⟩;refine qF (List.length_filter_le _ _) ?_;rw[qQ];omega
  .rintro i ys Y H2 ⟨rfl,_⟩;exact SqT.of ag
  .rintro i z ys Y H2 hz ⟨rfl,⟨u,rfl⟩,rfl⟩;have hz':z=.str x\/z=va.v\/z=vb.v:=by simpa using qG hz
   have kind:(∃y,z=.str y)\/∃n,z=.int n:=by
    rcases hz' with rfl|rfl|rfl
    .exact .inl ⟨_,U⟩
    .cases va<;>simp[Val.v]
    .cases vb<;>simp[Val.v]
   rcases kind with⟨y,rfl⟩|⟨n,rfl⟩
   .refine⟨_,U,_,_,_,true,U,.str y,U,_,U,?_⟩;refine rJ ⟨_,U,U,⟨_,U⟩,?_⟩;rw[qy,hz];simp[mJ]
   .refine⟨_,U,_,_,_,false,U,.int n,U,_,U,?_⟩;refine j6 ⟨U,⟨_,U⟩,?_⟩;rw[qy,hz];simp[mJ]
  .rintro ys Y H2 ⟨rfl,_,rfl⟩ D hD;refine fin _ D _ (a8.new ht _) hD ?_;cases va<;>cases vb<;>rfl
 |rep h h1=>
  refine⟨_,rfl,_,_,_,_,rfl,rfl,SqT.of (e0 _ _ h),rfl,?_⟩;refine⟨_,rfl,rfl,_,rfl,?_⟩;walk_at "no";refine⟨_,rfl,rfl,_,rfl,?_⟩;walk_at "yes";exact⟨qz _,λp hp=>fin H p _ (a8.refl H) hp rfl⟩
 |cond h h1 h2=>
  refine⟨_,rfl,_,_,_,_,rfl,rfl,SqT.of (e0 _ _ h),rfl,?_⟩;refine⟨_,rfl,rfl,_,rfl,?_⟩;walk_at "no";refine⟨_,rfl,rfl,_,rfl,?_⟩;walk_at "no";refine⟨_,rfl,_,_,rfl,.inr (T.wE _),rfl,rfl,_,rfl,?_⟩;walk_at "yes";exact⟨_,rfl,_,_,_,_,rfl,rfl,SqT.of (e0 _ _ h),rfl,ln1,λp hp=>fin H p _ (a8.refl H) hp rfl⟩
 |whl h h1=>
  refine⟨_,rfl,_,_,_,_,rfl,rfl,SqT.of (e0 _ _ h),rfl,?_⟩;refine⟨_,rfl,rfl,_,rfl,?_⟩;walk_at "no";refine⟨_,rfl,rfl,_,rfl,?_⟩;walk_at "no";refine⟨_,rfl,_,_,rfl,.inr (T.wE _),rfl,rfl,_,rfl,?_⟩;walk_at "yes";exact⟨_,rfl,_,_,_,_,rfl,rfl,SqT.of (e0 _ _ h),rfl,ln1,λp hp=>fin H p _ (a8.refl H) hp rfl⟩
 |put h=>
  refine⟨_,rfl,_,_,_,_,rfl,rfl,SqT.of (e0 _ _ h),rfl,?_⟩;refine⟨_,rfl,rfl,_,rfl,?_⟩;walk_at "no";refine⟨_,rfl,rfl,_,rfl,?_⟩;walk_at "no";refine⟨_,rfl,_,_,rfl,.inr (T.wE _),rfl,rfl,_,rfl,?_⟩;walk_at "no";exact⟨_,rfl,_,rfl,_,_,_,_,rfl,rfl,SqT.of (e0 _ _ h),rfl,ln1,λp hp=>fin H p _ (a8.refl H) hp rfl⟩
 |get h=>
  refine⟨_,rfl,_,_,_,_,rfl,rfl,SqT.of (e0 _ _ h),rfl,?_⟩;refine⟨_,rfl,rfl,_,rfl,?_⟩;walk_at "no";refine⟨_,rfl,rfl,_,rfl,?_⟩;walk_at "no";refine⟨_,rfl,_,_,rfl,.inr (T.wE _),rfl,rfl,_,rfl,?_⟩;walk_at "no";exact⟨_,rfl,_,rfl,_,_,_,_,rfl,rfl,SqT.of (e0 _ _ h),rfl,ln1,λp hp=>fin H p _ (a8.refl H) hp rfl⟩
 |give h=>
  refine⟨_,rfl,_,_,_,_,rfl,rfl,SqT.of (e0 _ _ h),rfl,?_⟩;refine⟨_,rfl,rfl,_,rfl,?_⟩;walk_at "no";refine⟨_,rfl,rfl,_,rfl,?_⟩;walk_at "no";refine⟨_,rfl,_,_,rfl,.inr (T.wE _),rfl,rfl,_,rfl,?_⟩;walk_at "no";exact⟨_,rfl,_,rfl,_,_,_,_,rfl,rfl,SqT.of (e0 _ _ h),rfl,ln1,λp hp=>fin H p _ (a8.refl H) hp rfl⟩
theorem Eh{ds:List aa}{i:Nat}{d:aa}(h:ds[i]?=some d):aj (ds.take (i+1))=aj (ds.take i)++(d::d.inner.flatMap aj):=by
 rw[qy,h,eT];show _++aj [d]=_;rw[aj,aj,qE,j8]
theorem lZ:∀{ds:List aa}{i:Nat}{d:aa},ds[i]?=some d->d.depth<=aP ds
 |[],i,d,h=>by simp at h
 |x::r,0,d,h=>by simp at h;subst h;rw[aP];omega
 |x::r,i+1,d,h=>by
  simp only[List.getElem?_cons_succ]at h;have:=lZ h;rw[aP];omega
theorem DY{d:aa}{j:Nat}{b:List aa}(h:d.inner[j]?=some b):aP b<d.depth:=by
 have hm:=qG h;cases d<;>simp[aa.inner]at hm
 .rcases hm with rfl|rfl<;>rw[aa.depth]<;>omega
 .subst hm;rw[aa.depth];omega
 .subst hm;rw[aa.depth];omega
theorem xx{ds:List aa}{i:Nat}:(aj (ds.take i)).length<=(aj ds).length:=by
 have:aj ds=aj (ds.take i)++aj (ds.drop i):=by rw[<- eT,QA]
 rw[this,qc];omega
theorem Cz(T:Tx P w K mg a):∀n:Nat,aN P w K mg base CX0 (n+2) a.Gv a.Gw ["block"] (uo n):=by
 intro n
 induction n with
 |zero=>
  refine T.FM.ok jr (λvs H Q E h=>?_) (λcdv A outer s H vs Q E hr h=>?_)
  .obtain⟨_,_,_,rfl,_⟩:=h
   rfl
  .obtain⟨_,_,_,_,_,_,h0,_⟩:=h;exact Qb h0 (QE _)
 |succ n ih=>
  refine T.FM.ok jr (λvs H Q E h=>?_) (λcdv A outer s H vs Q E hr h=>?_)
  .obtain⟨_,_,_,rfl,_⟩:=h
   rfl
  obtain⟨H0,b,ds,rfl,e0,hb,hdp,hfl,k⟩:=h
  refine⟨_,(ah (aq (i:=1) jr.nd U Oi (aT ae))
   (ah (bL PassesOwn.never U (cq (pq 0)) (aK (i:=2) jr.nd U Oi)
   (ah (bw (bH qi qC qD cA (pq 1) (a9 (pq 2) ae)))
   (ak (bL PassesOwn.never U (cq (aG (Cy T) (hr.mono Yo) U T.JS T.IQ.kp T.JR .nil aC (a9 (pq 2) ae))) (aK (i:=3) jr.nd U Oi)
   (ak (bw (bH qi Qu Qt gT (pq 1) (a9 (aG ih (hr.mono Yo) U T.IP T.FM.kp T.IO .nil aC (a9 (pq 3) ae)) ae))))))))
   (ak (aA (pq 1))))),?_⟩
  obtain⟨hb1,hds⟩:=hb;rename_i vs;refine⟨qz _,λf hf=>?_⟩;have hf0:=a8.none e0 hf;refine⟨_,U,b,U,⟨_,SqL.of ((a8.new hf _) _ _ (e0 _ _ hb1))⟩,?_⟩;refine d9 (K:=K) (a:=b) (xs:=vs) (λi Y H2=>∃us v2 v3,Y=[some (.ref b),some (.ref f),v2,v3]/\a8 H H2/\H2 f=some (.lst us)/\RDs H0 us (aj (ds.take i))) ⟨[],_,_,U,a8.new hf _,ag,.nil⟩ ?_ ?_ ?_
  .rintro i Y H2 _ ⟨us,v2,v3,_,s2,_,_⟩;exact SqL.of (s2 _ _ (e0 _ _ hb1))
  .rintro i x Y H2 hx ⟨us,v2,v3,rfl,s2,hf2,hus⟩;obtain⟨d,hd,hrd⟩:=hds.at i x hx;have lu:us.length<=1000:=by rw[hus.len];exact qF xx hfl
   refine⟨_,U,.inl ⟨U,_,SqL.of hf2⟩,_,U,f,_,_,U,U,hf2,bg (m:=1001) Yo,?_⟩;have s3:a8 H0 (upd H2 f (.lst (us++[x]))):=a8.over (e0.trans s2) hf0;refine⟨_,U,H0,x,d,U,s3,hrd,λH4 l bs s4 nl hl hbs=>⟨l,U,⟨_,SqL.of hl⟩,?_⟩⟩;have lf:l≠f:=λz=>by rw[z,ag]at nl;cases nl
   have all:aj (ds.take (i+1))=aj (ds.take i)++([d]++d.inner.flatMap aj):=Eh hd
   refine d9 (K:=K) (a:=l) (xs:=bs.map V.ref) (λj Y H5=>∃us' v3,Y=[some (.ref b),some (.ref f),some x,v3]/\a8 H H5/\H5 f=some (.lst us')/\H5 l=some (.lst (bs.map V.ref))/\RDs H0 us' (aj (ds.take i)++([d]++(d.inner.take j).flatMap aj)))
    ⟨us++[x],_,U,(a8.over s2 hf).trans s4,s4 _ _ ag,hl,hus.app (.cons hrd .nil)⟩ ?_ ?_ ?_
   .rintro j Y H5 _ ⟨us',v3,_,_,_,hl5,_⟩;exact SqL.of hl5
   .rintro j z Y H5 hz ⟨us',v3,rfl,s5,hf5,hl5,hus'⟩;rw[qK]at hz;obtain⟨bj,hbj,rfl⟩:=qV.mp hz;obtain⟨dj,hdj,hrj⟩:=hbs.at j bj hbj;have dd:=lZ hd;have di:=DY hdj
    have st:(d.inner.take (j+1)).flatMap aj=(d.inner.take j).flatMap aj++aj dj:=by
     rw[qy,hdj,Q0];simp
    have pre:(aj (ds.take i)++([d]++(d.inner.take (j+1)).flatMap aj)).length<=1000:=by
     have e:d.inner.flatMap aj=(d.inner.take (j+1)).flatMap aj++(d.inner.drop (j+1)).flatMap aj:=by rw[<- Q0,QA]
     have:=xx (ds:=ds) (i:=i+1);rw[all,e]at this;simp only[qc]at this ⊢;omega
    rw[st]at pre;simp only[qc]at pre;have lu':us'.length<=1000:=by rw[hus'.len];simp only[qc];omega
    refine⟨_,U,.inl ⟨U,_,SqL.of hf5⟩,_,U,H0,bj,dj,U,e0.trans s5,hrj,Yo,Yo,λH6 l6 us6 s6 n6 h6 r6=>?_⟩;have f6:l6≠f:=λz=>by rw[z,hf5]at n6;cases n6
    refine⟨f,l6,_,_,U,U,s6 _ _ hf5,h6,bg (m:=2000) (by rw[r6.len];omega),?_⟩;refine⟨us'++us6,_,U,a8.over (s5.trans s6) hf,ag,?_,?_⟩
    .rw[af lf];exact s6 _ _ hl5
    .rw[st,<- qT,<- qT];rw[<- qT]at hus';exact hus'.app r6
   .rintro Y H5 ⟨us',v3,rfl,s5,hf5,hl5,hus'⟩;refine⟨us',_,_,U,s5,hf5,?_⟩;rw[all];rw[qa,hbs.len,qN]at hus';exact hus'
  .rintro Y H2 ⟨us,v2,v3,rfl,s2,hf2,hus⟩;rw[hds.len,qN]at hus;exact⟨_,U,k H2 f us s2 hf hf2 hus⟩
theorem EC(d:aa):d.cards.length<=3:=by
 cases d with
 |set x a sg b=>cases a<;>cases b<;>simp[aa.cards,aa.names,aa.others,Val.names]
 |_=>simp[aa.cards,aa.names,aa.others]
theorem ja:∀(l:List aa),(l.flatMap aa.cards).length<=3 * l.length
 |[]=>by simp
 |d::r=>by
  have h1:=EC d;have h2:=ja r;rw[qL,qc,qH];omega
theorem pK(T:Tx P w K mg a):aN P w K mg base CX0 16 a.GD a.GE ["block"] mR:=by
 refine T.FN.ok mY (λvs H Q E h=>?_) (λcdv A outer s H vs Q E hr h=>?_)
 .obtain⟨_,_,_,_,rfl,_⟩:=h
  rfl
 obtain⟨H0,b,ds,C,rfl,e0,hb,hdp,hfl,hC,h64,hlen,k⟩:=h
 refine⟨_,(ah (aq (i:=1) mY.nd U Oi (aT ae))
  (ah (bL PassesOwn.never U (cq (aG (Cz T 13) (hr.mono Yk) U T.IP T.FM.kp T.IO .nil aC (a9 (pq 0) ae))) (aK (i:=2) mY.nd U Oi)
  (ah (bw (bH qi Qu Qt gT (pq 1) (a9 (aG (vZ T) (hr.mono Yk) U T.IS T.Ih.kp T.IR .nil aC (a9 (pq 2) ae)) ae)))
  (ak (bw (bH qi Qu Qt gT (pq 1) (a9 (aG (Cp T) (hr.mono Yk) U T.JW T.IU.kp T.JV .nil aC (a9 (pq 2) ae)) ae))))))
  (ak (aA (aW (su U) U T.FY PyProof.Rows.Boot.«sorted» (a9 (eQ (m8 U) U T.FX PyProof.Rows.Boot.«set» (a9 (pq 1) ae)) ae)))))),?_⟩
 refine⟨qz _,λc hc=>?_⟩;have c0:=a8.none e0 hc;refine⟨_,U,H0,b,ds,U,a8.over e0 c0,hb,Yo,hfl,λH2 l us s2 nl hl hus=>⟨l,U,⟨_,SqL.of hl⟩,?_⟩⟩;have lc:l≠c:=λz=>by rw[z,ag]at nl;cases nl
 have few:∀i,(((aj ds).take i).flatMap aa.cards).length<=3000:=λi=>by
  have:=ja ((aj ds).take i);rw[qQ]at this;omega
 refine d9 (K:=K) (a:=l) (xs:=us) (λi Y H3=>∃v,Y=[some (.ref b),some (.ref c),v]/\a8 H H3/\H3 c=some (.lst ((((aj ds).take i).flatMap aa.cards).map V.str))/\H3 l=some (.lst us)) ⟨_,U,(a8.new hc _).trans s2,s2 _ _ ag,hl⟩ ?_ ?_ ?_
 .rintro i Y H3 _ ⟨v,_,_,_,h⟩;exact SqL.of h
 .rintro i x Y H3 hx ⟨v,rfl,s3,hc3,hl3⟩;obtain⟨d,hd,hrd⟩:=hus.at i x hx;have dm:d∈aj ds:=qG hd;have f1:=few (i+1);rw[qy,hd]at f1
  have f1':(((aj ds).take i).flatMap aa.cards).length+(d.names.length+d.others.length)<=3000:=by
   simpa[Q0,aa.cards]using f1
  refine⟨_,U,.inl ⟨U,_,SqL.of hc3⟩,_,U,H0,x,d,U,e0.trans s3,hrd,λH4 l4 s4 n4 h4=>?_⟩;refine⟨c,l4,_,_,U,U,s4 _ _ hc3,h4,bg (m:=3000) (by rw[qa,qa];omega),?_⟩;have s5:a8 H (upd H4 c (.lst ((((aj ds).take i).flatMap aa.cards).map V.str++d.names.map V.str))):=a8.over (s3.trans s4) hc;refine⟨_,U,.inl ⟨U,_,SqL.of ag⟩,_,U,H0,x,d,U,e0.trans s5,hrd,λz hz=>hlen _ (hC _ (List.mem_flatMap.mpr ⟨d,dm,qO _ hz⟩)),λH6 l6 s6 n6 h6=>?_⟩;refine⟨c,l6,_,_,U,U,s6 _ _ ag,h6,bg (m:=3000) (by rw[qc,qa,qa,qa];omega),?_⟩;refine⟨_,U,a8.over (s5.trans s6) hc,?_,?_⟩
  .rw[ag,qy,hd];simp[Q0,aa.cards]
  .rw[af lc];refine s6 _ _ ?_;rw[af lc];exact s4 _ _ hl3
 .rintro Y H3 ⟨v,rfl,s3,hc3,hl3⟩;rw[hus.len,qN]at hc3;have f1:=few (aj ds).length;rw[qN]at f1;refine⟨_,U,c,(aj ds).flatMap aa.cards,U,SqL.of hc3,Yo,λp hp=>?_⟩;refine⟨p,(aj ds).flatMap aa.cards,C,U,ag,hC,h64,λr zs hr' nd hm so=>?_⟩;have p0:=a8.none s3 hp
  have r0:H r=none:=by
   refine a8.none s3 ?_
   cases q:H3 r with
   |none=>rfl
   |some o=>
    have:r≠p:=cC q hp;rw[af this,q]at hr';cases hr'
  exact k _ r zs (a8.over (a8.over s3 p0) r0) r0 ag nd hm so
theorem lA(T:Tx P w K mg a):aN P w K mg base CX0 1 a.GZ a.Ha ["_law_script","_law_k"] (uL K):=by
 refine T.wT.ok AA (λvs H Q E h=>?_) (λcdv A outer s H vs Q E hr h=>?_)
 .obtain⟨_,_,_,rfl,_⟩:=h
  rfl
 obtain⟨l,ns,k,rfl,hl,hn,h0,q⟩:=h
 refine⟨_,(ah (aM (au gb (pq 1) (aW bK U T.dz Qe (a9 (pq 0) ae)) (ax _)) (ak (aA (ai aE (pq 0) (pq 1) Oy))) aR)
  (ak (aA ac))),?_⟩
 have len:(ns.map V.int).length=ns.length:=qa _;refine⟨_,U,_,U,l,_,U,.inl hl,_,_,U,U,_,U,?_⟩;refine cN (λc=>?_) (λc=>?_)
 .have c:=Qj c;rw[len]at c;have lt:k.toNat<ns.length:=Yo
  have e:atI (ns.map V.int) k=some (.int (ns.getD k.toNat 0)):=by
   have:=br (xs:=ns.map V.int) (j:=k.toNat) (v:=.int (ns.getD k.toNat 0)) (by rw[qK,qp,qe lt];rfl)
   rwa [Int.toNat_of_nonneg h0]at this
  exact⟨_,U,_,U,l,_,_,_,U,U,hl,e,q⟩
 .have c:¬ k<((ns.map V.int).length:Int):=λz=>c (Q9 z);rw[len]at c;have e:ns.getD k.toNat 0=0:=by rw[qp,Qv Yo];rfl
  rw[e]at q;exact q
theorem fO(T:Tx P w K mg a):aN P w K mg base CX0 1 a.Hd a.He ["_law_cell","_law_k"] uF:=by
 refine T.gt.ok vh (λvs H Q E h=>?_) (λcdv A outer s H vs Q E hr h=>?_)
 .obtain⟨_,_,rfl,_⟩:=h
  rfl
 obtain⟨c,k,rfl,h0,h1,q⟩:=h;unfold aF at q
 refine⟨_,(ah (aq (i:=2) vh.nd U Oi (ao be (ao eK (ao be (pq 0) ac) (ao bu ac (ao eK (ao eK ac (pq 1)) (pq 1)))) ac))
  (ak (aA (ao be (ao eK (ao bu (pq 2) (pq 1)) (ao bu (pq 2) (ao eK ac (pq 1)))) ac)))),?_⟩
 have kb:Builtin.Int.intBits k<=64:=intBits_le_64 Yo Yo;walk_at "rd";refine⟨IntMulOk.of_right kb,?_⟩;walk_at "rd";refine⟨IntMulOk.of_right kb,?_⟩;walk_at "rd";refine⟨IntMulOk.of_left (intBits_le_64 Yo Yo),?_⟩;walk_at "rd";have n0:=Qg (c % 2147483647 * (48271+1103 * k * k)) (show(2147483629:Int)≠0 by decide);have n1:=Ql (c % 2147483647 * (48271+1103 * k * k)) (show(0:Int)<2147483629 by decide);generalize c % 2147483647 * (48271+1103 * k * k) % 2147483629=m at n0 n1 q ⊢;refine⟨IntMulOk.of_right kb,?_⟩;walk_at "rd";refine⟨IntMulOk.of_left (intBits_le_64 Yo Yo),?_⟩;walk_at "rd";exact q
theorem sK{j:Int}(h0:0<=j)(h1:j<26):atI cP.cps.toList j=some (bZ j):=by
 have lt:j.toNat<cP.cps.toList.length:=by
  have:cP.cps.toList.length=26:=Yd;omega
 have:=br (xs:=cP.cps.toList) (j:=j.toNat) (v:=bZ j) (by unfold bZ;rw[qp,qe lt];rfl)
 rwa [Int.toNat_of_nonneg h0]at this
theorem rh:cP.length<=sizeLine:=Yd
theorem Af(c:Nat):(sgn c).length=1:=U
theorem jK(n:Int):∀k:Nat,(cE n k).length=k
 |0=>rfl
 |k+1=>by rw[cE,dP,jK n k,Af]
theorem wa(T:Tx P w K mg a):aN P w K mg base CX0 1 a.Hh a.Hi ["_law_number_here","_law_size"] uH:=by
 refine T.Iu.ok iQ (λvs H Q E h=>?_) (λcdv A outer s H vs Q E hr h=>?_)
 .obtain⟨_,_,rfl,_⟩:=h
  rfl
 obtain⟨n,k,rfl,h0,h1,q⟩:=h
 refine⟨_,(ah (aq (i:=2) iQ.nd U Oi aO)
  (ah (aq (i:=3) iQ.nd U Oi aO)
  (ah (bL PassesOwn.never U (ic U T.u8 (a9 (pq 1) ae)) (aK (i:=4) iQ.nd U Oi)
  (ah (aq (i:=3) iQ.nd U Oi (ao i6 (pq 3) (ai jM (pq 2) (ao be (pq 0) ac) Oy)))
  (ak (aq (i:=0) iQ.nd U Oi (ao cB (pq 0) ac)))))
  (ak (aA (pq 3)))))),?_⟩
 refine⟨_,U,k,U,Yo,Yo,j7 (λi Y H2=>H2=H/\i<=k.toNat/\∃v:Option V,Y=[some (.int (jR n i)),some (.int k),some (.str cP),some (.str (cE n i)),v]) ⟨U,qz _,_,U⟩ ?_ ?_⟩
 .rintro i Y H2 hi ⟨rfl,hik,v,rfl⟩;have e:=sK (Qg (jR n i) (show(26:Int)≠0 by decide)) (Ql (jR n i) Yk);refine⟨_,U,_,U,_,U,_,_,U,U,Yk,cP,_,_,U,U,rh,e,_,_,U,U,bg (m:=1000) (by rw[jK];show i+1<=1000;omega),?_⟩;exact⟨_,U,_,_,U,U,⟨Yk,Yk⟩,U,hi,_,U⟩
 .rintro Y H2 ⟨rfl,_,v,rfl⟩;exact⟨_,U,q⟩
theorem rL{w:Str}:∀{ks:List Str},inV (.str w) (ks.map V.str)=decide (w∈ks)
 |[]=>rfl
 |k::ks=>by
  show(eqV (.str k) (.str w) || inV (.str w) (ks.map V.str))=decide (w∈k::ks);rw[rL];show((k == w) || decide (w∈ks))=_;by_cases e:k=w
  .subst e;simp
  .have e':¬ w=k:=λz=>e z.symm;simp[e,e']
theorem DE:∀w∈kws,atI w.cps.toList (-1)=some (w.cps.toList.getLastD 97)/\Builtin.Str.occurrences cP ⟨#[w.cps.toList.getLastD 97]⟩ 0 cP.length 1=[w.cps.toList.getLastD 97-97]/\(97<=w.cps.toList.getLastD 97/\w.cps.toList.getLastD 97<=122)/\w.length<=8:=Yd
theorem CC(T:Tx P w K mg a):aN P w K mg base CX0 1 a.Hj a.Hk ["_law_word"] uu:=by
 refine T.J8.ok vg (λvs H Q E h=>?_) (λcdv A outer s H vs Q E hr h=>?_)
 .obtain⟨_,rfl,_⟩:=h
  rfl
 obtain⟨x,rfl,hx,q⟩:=h
 refine⟨_,(ah (aq (i:=1) vg.nd U Oi aO)
  (ah (aM (au j1 (pq 0) (ba (jC U)) (by with_unfolding_all rfl)) (ak (aA (ao i6 (gf ji (pq 0) i9 (fk (cX cR ac))) (ai jM (pq 1) (ao be (ao bu (bH PySem.F.plainAttrs_str PySem.F.slot_str_index PySem.F.type_str_index Dc (pq 1) (a9 (ai jM (pq 0) (cX cR ac) Oy) ae)) ac) ac) Oy)))) aR)
  (ak (aA (pq 0))))),?_⟩
 refine⟨_,U,(by show 10<=sizeLine;decide),λp hp=>?_⟩;refine⟨p,kws.map V.str,U,.inr (SqT.of ag),U,U,_,U,?_⟩;have sm:=a8.new hp (.tup (kws.map V.str));have hz:=bg (m:=200) hx;refine cN (λc=>?_) (λc=>?_)
 .have c:inV (.str x) (kws.map V.str)=true:=c;rw[rL]at c;have hk:=Qj c;obtain⟨k1,k2,k3,k4⟩:=DE x hk;have li:((x.cps.toList.getLastD 97-97:Nat):Int)=ip x:=by unfold ip;omega
  have e:=sK (j:=(((x.cps.toList.getLastD 97-97:Nat):Int)+13) % 26) (Qg _ Yk) (Ql _ Yk);have res:=q _ sm;unfold cM at res;rw[Q8 hk,<- li]at res;refine⟨_,U,_,U,_,U,x,U,hz,?_⟩;refine⟨_,U,_,U,U,?_⟩;refine⟨_,U,_,U,x,_,_,U,U,hz,k1,cP,_,_,_,U,U,k2,?_⟩;refine⟨_,_,U,U,_,_,U,U,Yk,cP,_,_,U,U,rh,e,?_⟩;refine⟨_,_,U,U,bg (m:=1000) ?_,res⟩;have:=Txt.slice_le x none (some (-1));show _+1<=1000;omega
 .have c:¬ inV (.str x) (kws.map V.str)=true:=c;rw[rL]at c;have res:=q _ sm;unfold cM at res;rw[Q7 (λz=>c (Q9 z))]at res;exact⟨_,U,res⟩
theorem lF(c k:Int):0<=aF c k:=by unfold aF;exact Qg _ Yk
theorem wG(c k:Int):aF c k<2147483587:=by unfold aF;exact Ql _ Yk
theorem iM(z:Str)(a b:Option Int):(Txt.slice z a b).length<=z.length:=Txt.slice_le z a b
theorem vM(c:Int):(bS c).length=8:=by unfold bS;exact jK _ 8
theorem BD(c k:Int):(bW c k).length<=30:=by
 unfold bW;have b:=vM c;split
 .have h1:=iM (bS c) none (some (cW c));have h2:=iM (bS c) (some (cW c+1)) (some (dv c));rw[dP,dP];have:(eP c k).length=1:=U;omega
 .split
  .have h1:=iM (bS c) none (some (1+(aF c 1 / 24+k) % 8));omega
  .have h1:=iM (eP c k++cE (aF c (k+2)) 7) none (some (1+aF c (k+40) % 8));rw[dP,jK]at h1;have:(eP c k).length=1:=U;omega
theorem pF(c:Int)(i:Nat):du c (i+1)=du c i++[cM (bW c i)]:=by
 unfold du;rw[List.range_succ,qU]
 rfl
theorem jz(c:Int)(i:Nat):(du c i).length=i:=by unfold du;simp
seal aF cE bS bW cM
theorem w6(T:Tx P w K mg a):aN P w K mg base CX0 2 a.Hl a.Hm ["_law_cell","_law_many"] uz:=by
 refine T.Iv.ok eO (λvs H Q E h=>?_) (λcdv A outer s H vs Q E hr h=>?_)
 .obtain⟨_,_,rfl,_⟩:=h
  rfl
 obtain⟨c,k,rfl,h0,h1,q⟩:=h
 refine⟨_,(ah (aq (i:=2) eO.nd U Oi aO)
  (ah (aq (i:=3) eO.nd U Oi (aG (fO T) (hr.mono Yk) U T.mt T.gt.kp T.ld .nil aC (a9 (pq 0) (a9 ac ae))))
  (ah (aq (i:=4) eO.nd U Oi (aG (wa T) (hr.mono Yk) U T.J7 T.Iu.kp T.J6 .nil aC (a9 (ao bu (ao eK (pq 3) (pq 3)) (pq 3)) (a9 ac ae))))
  (ah (aq (i:=5) eO.nd U Oi (ao bu ac (ao be (ao cB (pq 3) ac) ac)))
  (ah (aq (i:=6) eO.nd U Oi (ao be (ao cB (pq 3) ac) (pq 5)))
  (ah (aq (i:=7) eO.nd U Oi (aT ae))
  (ah (bL PassesOwn.never U (ic U T.u8 (a9 (pq 1) ae)) (aK (i:=8) eO.nd U Oi)
  (ah (aq (i:=9) eO.nd U Oi (ai jM (pq 2) (ao be (ao bu (ao cB (pq 3) ac) (pq 8)) ac) Oy))
  (ah (aM (au aY (ao be (pq 3) ac) ac (ax _)) (ak (aq (i:=10) eO.nd U Oi (ao i6 (ao i6 (gf ji (pq 4) i9 (fk (pq 6))) (pq 9)) (gf ji (pq 4) (fk (ao bu (pq 6) ac)) (fk (pq 5)))))) (ak (aM (au aY (ao be (pq 3) ac) ac (ax _)) (ak (aq (i:=10) eO.nd U Oi (gf ji (pq 4) i9 (fk (ao bu ac (ao be (ao bu (ao cB (pq 3) ac) (pq 8)) ac)))))) (ak (aq (i:=10) eO.nd U Oi (gf ji (ao i6 (pq 9) (aG (wa T) (hr.mono Yk) U T.J7 T.Iu.kp T.J6 .nil aC (a9 (aG (fO T) (hr.mono Yk) U T.mt T.gt.kp T.ld .nil aC (a9 (pq 0) (a9 (ao bu (pq 8) ac) ae))) (a9 ac ae)))) i9 (fk (ao bu ac (ao be (aG (fO T) (hr.mono Yk) U T.mt T.gt.kp T.ld .nil aC (a9 (pq 0) (a9 (ao bu (pq 8) ac) ae))) ac)))))))))
  (ak (bw (bH qi qC qD cA (pq 7) (a9 (aG (CC T) (hr.mono Yk) U T.K8 T.J8.kp T.K7 .nil aC (a9 (pq 10) ae)) ae)))))))
  (ah (aM (au aY (ao be (ao cB (pq 3) ac) ac) ac (ax _)) (ak (aA (BN U U T.wS U T.KE (pq 7)))) aR)
  (ak (aA (pq 7))))))))))),?_⟩
 have n0:=lF c 1;have n1:=wG c 1;have nb:Builtin.Int.intBits (aF c 1)<=64:=intBits_le_64 Yo Yo;refine⟨_,U,c,1,U,Yk,Yk,?_⟩;refine⟨_,U,_,U,_,_,U,U,IntMulOk.of_right nb,_,U,_,_,U,U,_,8,U,Yk,Yk,?_⟩;have base:cE (aF c 1 * aF c 1+aF c 1) (8:Int).toNat=bS c:=by unfold bS;rfl
 rw[base];refine⟨_,U,_,_,U,U,⟨Yk,Yk⟩,_,_,U,U,Yk,_,_,U,U,?_⟩;have size:1+aF c 1 / 3 % 8=dv c:=U;rw[size];have sz:1<=dv c/\dv c<=8:=by unfold dv;omega
 refine⟨_,U,_,_,U,U,⟨Yk,Yk⟩,_,U,_,_,U,U,Yo,?_⟩;have at':aF c 1 / 24 % dv c=cW c:=U;rw[at'];refine⟨qz _,λl hl=>?_⟩;have bl:=vM c;have bz:(bS c).length<=sizeLine:=bg (m:=100) Yo
 refine⟨_,U,k,U,Yo,Yo,j7 (λi Y H2=>a8 H H2/\i<=k.toNat/\H2 l=some (.lst ((du c i).map V.str))/\∃v8 v9 v10:Option V,Y=[some (.int c),some (.int k),some (.str cP),some (.int (aF c 1)),some (.str (bS c)),some (.int (dv c)),some (.int (cW c)),some (.ref l),v8,v9,v10])
  ⟨a8.new hl _,qz _,ag,_,_,_,U⟩ ?_ ?_⟩
 .rintro i Y H2 hi ⟨s2,hik,hl2,v8,v9,v10,rfl⟩;have e9:=sK (Qg (aF c 1 / 192+(0+(i:Int))) (show(26:Int)≠0 by decide)) (Ql _ Yk);refine⟨_,U,_,U,_,_,U,U,⟨Yk,Yk⟩,_,U,_,_,U,U,_,_,U,U,Yk,cP,_,_,U,U,rh,e9,?_⟩;have z0:(0:Int)+(i:Int)=(i:Int):=Yo;rw[z0];have sg:(⟨#[bZ ((aF c 1 / 192+(i:Int)) % 26)]⟩:Str)=eP c i:=U;have sl:(eP c i).length=1:=U;have pw:=BD c i;refine⟨_,U,_,_,U,U,Yk,U,_,U,?_⟩;refine cN (λc1=>?_) (λc1=>?_)
  .have c1:=dX c1;have h1:=iM (bS c) none (some (cW c));have h2:=iM (bS c) (some (cW c+1)) (some (dv c));refine⟨_,U,_,U,_,U,bS c,U,bz,_,U,_,_,U,U,bg (m:=100) (by rw[sg,sl];omega),_,U,_,U,_,_,U,U,_,U,_,U,_,U,bS c,U,bz,_,_,U,U,bg (m:=100) (by rw[dP,sg,sl];omega),?_⟩
   have pe:Txt.slice (bS c) none (some (cW c))++(⟨#[bZ ((aF c 1 / 192+(i:Int)) % 26)]⟩:Str)++Txt.slice (bS c) (some (cW c+1)) (some (dv c))=bW c i:=by
    rw[sg];unfold bW;rw[Q8 c1]
   rw[pe];refine⟨_,U,.inl ⟨U,_,SqL.of hl2⟩,_,U,bW c i,U,Yo,λH3 s3=>?_⟩;refine⟨l,_,_,U,U,s3 _ _ hl2,bg (m:=1000) (by rw[qa,jz];omega),?_⟩;refine⟨a8.over (s2.trans s3) hl,hi,?_,_,_,_,U⟩;rw[ag,pF,qU]
   rfl
  have c1:=eL c1;refine⟨_,U,_,_,U,U,Yk,U,_,U,?_⟩;refine cN (λc2=>?_) (λc2=>?_)
  .have c2:=dX c2;refine⟨_,U,_,U,_,_,U,U,⟨Yk,Yk⟩,_,U,_,_,U,U,_,_,U,U,Yk,_,_,U,U,_,U,bS c,U,bz,?_⟩
   have pe:Txt.slice (bS c) none (some (1+(aF c 1 / 24+(i:Int)) % 8))=bW c i:=by
    unfold bW;rw[Q7 c1,Q8 c2]
   rw[pe];refine⟨_,U,.inl ⟨U,_,SqL.of hl2⟩,_,U,bW c i,U,Yo,λH3 s3=>?_⟩;refine⟨l,_,_,U,U,s3 _ _ hl2,bg (m:=1000) (by rw[qa,jz];omega),?_⟩;refine⟨a8.over (s2.trans s3) hl,hi,?_,_,_,_,U⟩;rw[ag,pF,qU]
   rfl
  .have c2:=eL c2;refine⟨_,U,_,U,_,U,_,_,U,U,c,_,U,Yo,Yo,_,7,U,Yk,Yk,?_⟩;have l7:(cE (aF c ((i:Int)+2)) (7:Int).toNat).length=7:=jK _ 7;refine⟨_,_,U,U,bg (m:=100) (by rw[sg,sl,l7];omega),?_⟩;refine⟨_,U,_,U,_,_,U,U,c,_,U,Yo,Yo,_,_,U,U,Yk,_,_,U,U,_,U,_,U,bg (m:=100) (by rw[dP,sg,sl,l7];omega),?_⟩
   have pe:Txt.slice ((⟨#[bZ ((aF c 1 / 192+(i:Int)) % 26)]⟩:Str)++cE (aF c ((i:Int)+2)) (7:Int).toNat) none (some (1+aF c ((i:Int)+40) % 8))=bW c i:=by
    rw[sg];unfold bW;rw[Q7 c1,Q7 c2]
    rfl
   rw[pe];refine⟨_,U,.inl ⟨U,_,SqL.of hl2⟩,_,U,bW c i,U,Yo,λH3 s3=>?_⟩;refine⟨l,_,_,U,U,s3 _ _ hl2,bg (m:=1000) (by rw[qa,jz];omega),?_⟩;refine⟨a8.over (s2.trans s3) hl,hi,?_,_,_,_,U⟩;rw[ag,pF,qU]
   rfl
 .rintro Y H2 ⟨s2,_,hl2,v8,v9,v10,rfl⟩;have hln:(0:Int)+k.toNat=k:=Yo;refine⟨_,U,_,_,U,U,⟨Yk,Yk⟩,_,_,U,U,Yk,U,_,U,?_⟩;refine cN (λcc=>?_) (λcc=>?_)
  .have cc:=dX cc;refine⟨_,U,l,_,U,SqL.of hl2,λr hr'=>?_⟩;refine q _ r (a8.over s2 (a8.none s2 hr')) (a8.none s2 hr') ?_;rw[ag];unfold d7;rw[Q8 cc,List.map_reverse]
  .have cc:=eL cc;refine⟨_,U,q _ l s2 hl ?_⟩;unfold d7;rw[Q7 cc];exact hl2
theorem ij{l:List Str}(h:0<l.length)(i:Int):atI (l.map V.str) (i % ((l.map V.str).length:Int))=some (.str (nth l i)):=by
 have e:((l.map V.str).length:Int)=(l.length:Int):=by rw[qa]
 rw[e];have h1:0<=i % (l.length:Int):=Qg _ Yo;have h2:i % (l.length:Int)<l.length:=Ql _ Yo;have lt:(i % (l.length:Int)).toNat<l.length:=Yo;have:=br (xs:=l.map V.str) (j:=(i % (l.length:Int)).toNat) (v:=.str (nth l i)) (by unfold nth;rw[qK,qp,qe lt];rfl)
 rwa [Int.toNat_of_nonneg h1]at this
theorem Ac(i:Int):atI ("+-*/<=&|^":Str).cps.toList (i % 9)=some (("+-*/<=&|^":Str).cps.toList.getD (i % 9).toNat 0):=by
 have h1:0<=i % 9:=Qg _ Yk;have h2:i % 9<9:=Ql _ Yk;have ln:("+-*/<=&|^":Str).cps.toList.length=9:=Yd;have lt:(i % 9).toNat<("+-*/<=&|^":Str).cps.toList.length:=Yo;have:=br (xs:=("+-*/<=&|^":Str).cps.toList) (j:=(i % 9).toNat) (v:=("+-*/<=&|^":Str).cps.toList.getD (i % 9).toNat 0) (by rw[qp,qe lt];rfl)
 rwa [Int.toNat_of_nonneg h1]at this
theorem rM{n:Int}:∀{ks:List Int},inV (.int n) (ks.map V.int)=decide (n∈ks)
 |[]=>rfl
 |k::ks=>by
  show(eqV (.int k) (.int n) || inV (.int n) (ks.map V.int))=decide (n∈k::ks);rw[rM];show((k == n) || decide (n∈ks))=_;by_cases e:k=n
  .subst e;simp
  .have e':¬ n=k:=λz=>e z.symm;simp[e,e']
theorem p30:(10:Int) ^ (30:Int).toNat=1000000000000000000000000000000:=Yd
noncomputable def aV(n:Int)(names:List Str):Val:=if n / 14 / 125 % 4=0 then .num (n * n * n * 69621 % 1000000000000000000000000000000)else .nm (nth names (n / 14 / 5))
noncomputable def bV(n:Int)(names:List Str):Val:=if n / 14 / 500 % 3=0 then .num (n * n * 48271 % 1000000000000000000000000000000)else .nm (nth names (n / 14 / 25))
abbrev j2(n:Int):Prop:=n % 14=1\/n % 14=2\/n % 14=3\/n % 14=4\/n % 14=12\/n % 14=13
abbrev lU(n:Int):Prop:=n % 14=3\/n % 14=4\/n % 14=13
theorem wD{n:Int}:inV (.int (n % 14)) (([1,2,3,4,12,13]:List Int).map V.int)=true↔j2 n:=by rw[rM];simp[j2]
theorem xg{n:Int}:inV (.int (n % 14)) (([3,4,13]:List Int).map V.int)=true↔lU n:=by rw[rM];simp[lU]
theorem A7{n:Int}{names rooms:List Str}{shut:Bool}(h:n % 14=6):bG n names rooms shut=.give (nth names (n / 14)):=by unfold bG;rw[Q8 h]
theorem A5{n:Int}{names rooms:List Str}{shut:Bool}(h:j2 n)(h2:0<rooms.length)(h3:shut=false):(lU n->bG n names rooms shut=.get (nth rooms (n / 14 / 5)) (nth names (n / 14)))/\(¬ lU n->bG n names rooms shut=.put (nth rooms (n / 14 / 5)) (nth names (n / 14))):=by
 have h6:¬ n % 14=6:=by unfold j2 at h;omega
 unfold bG;rw[Q7 h6,Q8 ⟨h,h2,h3⟩];exact⟨λg=>by rw[Q8 g],λg=>by rw[Q7 g]⟩
theorem zY{n:Int}{names rooms:List Str}{shut:Bool}(h6:¬ n % 14=6)(h:¬ (j2 n/\0<rooms.length/\shut=false)):bG n names rooms shut=.set (nth names (n / 14)) (aV n names) (uX (n / 14 / 1500)) (bV n names):=by
 unfold bG;rw[Q7 h6,Q7 h]
 rfl
theorem CD(T:Tx P w K mg a):aN P w K mg base CX0 1 a.Hn a.Ho ["_law_number_here","_law_names","_law_rooms","_law_shut"] (uv K):=by
 refine T.Jb.ok gE (λvs H Q E h=>?_) (λcdv A outer s H vs Q E hr h=>?_)
 .obtain⟨_,_,_,_,_,_,rfl,_⟩:=h
  rfl
 obtain⟨n,ln,lr,names,rooms,shut,rfl,hn,hro,n0,n1,r1,b0,b1,q⟩:=h
 refine⟨_,(ah (aq (i:=4) gE.nd U Oi (ao be (pq 0) ac))
  (ah (aq (i:=5) gE.nd U Oi (ao cB (pq 0) ac))
  (ah (aq (i:=6) gE.nd U Oi (ai aE (pq 1) (ao be (pq 5) (aW bK U T.dz Qe (a9 (pq 1) ae))) Oy))
  (ah (aM (au aY (pq 4) ac (ax _)) (ak (aA (ba (a9 aO (a9 (pq 6) ae))))) aR)
  (ah (aM (PW.pt (gc (au j1 (pq 4) (ba (jC U)) (by with_unfolding_all rfl)) (gc (au fH (aW bK U T.dz Qe (a9 (pq 2) ae)) ac (ax _)) (i7 (eJ (eI (pq 3))))))) (ak (aA (ba (a9 (gM (au j1 (pq 4) (ba (jC U)) (by with_unfolding_all rfl)) aO aO) (a9 (ai aE (pq 2) (ao be (ao cB (pq 5) ac) (aW bK U T.dz Qe (a9 (pq 2) ae))) Oy) (a9 (pq 6) ae)))))) aR)
  (ah (aq (i:=7) gE.nd U Oi (ai aE (pq 1) (ao be (ao cB (pq 5) ac) (aW bK U T.dz Qe (a9 (pq 1) ae))) Oy))
  (ah (aq (i:=8) gE.nd U Oi (ai aE (pq 1) (ao be (ao cB (pq 5) ac) (aW bK U T.dz Qe (a9 (pq 1) ae))) Oy))
  (ah (aM (au aY (ao be (ao cB (pq 5) ac) ac) ac (ax _)) (ak (aq (i:=7) gE.nd U Oi (ao be (ao eK (ao eK (ao eK (pq 0) (pq 0)) (pq 0)) ac) (ao we ac ac)))) aR)
  (ah (aM (au aY (ao be (ao cB (pq 5) ac) ac) ac (ax _)) (ak (aq (i:=8) gE.nd U Oi (ao be (ao eK (ao eK (pq 0) (pq 0)) ac) (ao we ac ac)))) aR)
  (ak (aA (ba (a9 aO (a9 (pq 6) (a9 (pq 7) (a9 (ai jM aO (ao be (ao cB (pq 5) ac) ac) Oy) (a9 (pq 8) ae))))))))))))))))),?_⟩
 have nl:(names.map V.str).length=names.length:=qa _;have rl:(rooms.map V.str).length=rooms.length:=qa _
 have fin:∀(H1:Hp)(p:Addr)(xs:List V),a8 H H1->H1 p=none->(∀H0:Hp,H0 p=some (.tup xs)->RD H0 (.ref p) (bG n names rooms shut))->Q (.ref p) (upd H1 p (.tup xs)):=λH1 p xs s1 hp hd=>
  q _ p xs (a8.over s1 (a8.none s1 hp)) (a8.none s1 hp) ag hd
 refine⟨_,U,_,_,U,U,Yk,?_⟩;refine⟨_,U,_,_,U,U,⟨Yk,Yk⟩,?_⟩;refine⟨_,U,_,U,_,U,ln,_,U,.inl hn,_,_,U,U,Yo,ln,_,_,_,U,U,hn,ij n0 _,?_⟩;refine⟨_,U,U,_,U,?_⟩;refine cN (λc=>?_) (λc=>?_)
 .have c:=dX c;exact⟨_,U,ln2,λp hp=>fin H p _ (a8.refl H) hp λH0 h0=>by rw[A7 c];exact .give h0⟩
 have c6:=eL c;refine⟨_,U,(by show 6<=sizeLine;decide),λt ht=>?_⟩;refine⟨t,([1,2,3,4,12,13]:List Int).map V.int,U,.inr (SqT.of ag),U,U,_,U,?_⟩;have s1:a8 H (upd H t (.tup (([1,2,3,4,12,13]:List Int).map V.int))):=a8.new ht _;have hn1:=s1.seq hn;have hr1:=s1.seq hro;refine lQ (Pc:=¬ (j2 n/\0<rooms.length/\shut=false)) (λc z=>c (wD.mpr z.1)) ?_ λc go=>?_
 .intro nm;refine j6 ?_;refine⟨_,U,_,U,_,_,U,U,⟨Yk,Yk⟩,_,U,ln,_,U,.inl hn1,_,_,U,U,Yo,ln,_,_,_,U,U,hn1,ij n0 _,?_⟩;refine⟨_,U,_,U,_,_,U,U,⟨Yk,Yk⟩,_,U,ln,_,U,.inl hn1,_,_,U,U,Yo,ln,_,_,_,U,U,hn1,ij n0 _,?_⟩;refine⟨_,U,_,_,U,U,⟨Yk,Yk⟩,_,_,U,U,Yk,U,_,U,?_⟩;have nb:Builtin.Int.intBits n<=64:=intBits_le_64 Yo Yo;have nn0:0<=n * n:=Int.mul_nonneg b0 b0;have nn1:n * n<=2147483648 * 2147483648:=Int.mul_le_mul Yo Yo b0 Yk;generalize hv0:V.str (nth names (n / 14 / 5))=v0;refine rG (P:=λv=>v=(aV n names).v) (w:=v0) (λc=>?_) ?_ λc go=>?_
  .rw[<- hv0];unfold aV;rw[Q7 (eL c)]
   rfl
  .rintro va rfl;refine⟨_,U,_,_,U,U,⟨Yk,Yk⟩,_,_,U,U,Yk,U,_,U,?_⟩;generalize hv1:V.str (nth names (n / 14 / 25))=v1;refine rG (P:=λv=>v=(bV n names).v) (w:=v1) (λc=>?_) ?_ λc go=>?_
   .rw[<- hv1];unfold bV;rw[Q7 (eL c)]
    rfl
   .rintro vb rfl;refine⟨_,U,_,U,_,U,_,_,U,U,⟨Yk,Yk⟩,_,_,U,U,Yk,_,_,_,U,U,Yd,Ac _,_,U,(by show 5<=sizeLine;decide),λp hp=>fin _ p _ s1 hp λH0 h0=>?_⟩;rw[zY c6 nm];exact .set h0
   .refine⟨_,U,_,U,_,_,U,U,IntMulOk.of_right nb,_,_,U,U,IntMulOk.of_right (intBits_le_64 Yk Yk),_,_,U,U,⟨Yk,Yk,Yk⟩,_,_,U,U,by rw[p30];decide,?_⟩;rw[p30];refine go _ ?_;unfold bV;rw[Q8 (dX c)]
    rfl
  .refine⟨_,U,_,U,_,_,U,U,IntMulOk.of_right nb,_,U,_,_,U,U,IntMulOk.of_right nb,_,_,U,U,IntMulOk.of_right (intBits_le_64 Yk Yk),_,_,U,U,⟨Yk,Yk,Yk⟩,_,_,U,U,by rw[p30];decide,?_⟩;rw[p30];refine go _ ?_;unfold aV;rw[Q8 (dX c)]
   rfl
 .have cm:=wD.mp c;refine⟨_,U,lr,_,U,.inl hr1,_,_,U,U,_,U,?_⟩;refine cN (λc2=>?_) (λc2=>?_)
  .have c2:0<rooms.length:=by
    have:=Qj c2;rw[rl]at this;omega
   cases shut with
   |true=>
    refine⟨_,U,_,U,?_⟩;exact go λz=>nomatch z.2.2
   |false=>
    refine⟨_,U,_,U,?_⟩;refine rJ ?_;have mv:=A5 (names:=names) cm c2 (shut:=false) U;refine⟨_,U,(by show 3<=sizeLine;decide),λu hu=>?_⟩;refine⟨u,([3,4,13]:List Int).map V.int,U,.inr (SqT.of ag),U,U,_,U,?_⟩;have s2:a8 H (upd (upd H t (.tup (([1,2,3,4,12,13]:List Int).map V.int))) u (.tup (([3,4,13]:List Int).map V.int))):=a8.over s1 (a8.none s1 hu);have hr2:=s2.seq hro;refine cN (λc3=>?_) (λc3=>?_)
    .refine⟨_,U,_,U,_,_,U,U,⟨Yk,Yk⟩,_,U,lr,_,U,.inl hr2,_,_,U,U,Yo,lr,_,_,_,U,U,hr2,ij c2 _,_,U,ln3,λp hp=>fin _ p _ s2 hp λH0 h0=>?_⟩;rw[mv.1 (xg.mp c3)];exact .get h0
    .refine⟨_,U,_,U,_,_,U,U,⟨Yk,Yk⟩,_,U,lr,_,U,.inl hr2,_,_,U,U,Yo,lr,_,_,_,U,U,hr2,ij c2 _,_,U,ln3,λp hp=>fin _ p _ s2 hp λH0 h0=>?_⟩;rw[mv.2 λg=>c3 (xg.mpr g)];exact .put h0
  .exact go λz=>c2 (Q9 (by rw[rl];have:=z.2.1;omega))
theorem CJ(T:Tx P w K mg a):aN P w K mg base CX0 1 a.Hq a.Hr ["_law_state","_law_number_here","_law_x","_law_most"] uC:=by
 refine T.Jc.ok eG (λvs H Q E h=>?_) (λcdv A outer s H vs Q E hr h=>?_)
 .obtain⟨_,_,_,_,_,_,_,_,_,_,_,_,rfl,_⟩:=h
  rfl
 obtain⟨Hb,H0,S,s0,s1,s2,s3,x,r,n,most,nm,rfl,Z,hlen,hdl,n0,n1,m0,m1,t0,t1,q⟩:=h
 refine⟨_,(ah (aq (i:=4) eG.nd U Oi (ao be (pq 1) ac))
  (ah (aq (i:=5) eG.nd U Oi (ao cB (pq 1) ac))
  (ah (aq (i:=6) eG.nd U Oi (aT ae))
  (ah (aq (i:=7) eG.nd U Oi bT)
  (ah (aq (i:=8) eG.nd U Oi dB)
  (ah (aq (i:=9) eG.nd U Oi ac)
  (ah (aM (au aY (pq 4) ac (ax _)) (ah (aq (i:=7) eG.nd U Oi (aT ae))
  (ak (bw (bH qi qC qD cA (ai aE (ai aE (pq 0) ac Oy) (cX cR ac) Oy) (a9 (ba (a9 aO (a9 (pq 2) (a9 (pq 6) (a9 (pq 7) ae))))) ae))))) (ak (aM (au aY (pq 4) ac (ax _)) (ak (bw (bH qi qC qD cA (ai aE (ai aE (pq 0) ac Oy) (cX cR ac) Oy) (a9 (ba (a9 aO (a9 (pq 2) (a9 (pq 6) ae)))) ae)))) (ah (aq (i:=10) eG.nd U Oi (ai aE (ai aE (pq 0) ac Oy) (cX cR ac) Oy))
  (ah (aq (i:=11) eG.nd U Oi (ao be (pq 5) ac))
  (ah (aM (au fH (pq 10) ac (ax _)) (ak (aq (i:=11) eG.nd U Oi (ao be (pq 5) (ao bu ac (ao cB (pq 3) (pq 10)))))) aR)
  (ah (bw (bH qi qC qD cA (ai aE (ai aE (pq 0) ac Oy) (cX cR ac) Oy) (a9 (ba (a9 aO (a9 (pq 11) (a9 (pq 6) ae)))) ae)))
  (ah (aq (i:=8) eG.nd U Oi (ai aE (ai aE (pq 0) ac Oy) (cX cR ac) Oy))
  (ak (aq (i:=9) eG.nd U Oi (ao eK (pq 10) (pq 11))))))))))))
  (ah (bw (bH qi qC qD cA (ai aE (pq 0) ac Oy) (a9 (pq 6) ae)))
  (ah (bw (bH qi qC qD cA (ai aE (pq 0) ac Oy) (a9 (pq 7) ae)))
  (ah (bw (bH qi qC qD cA (ai aE (pq 0) ac Oy) (a9 (pq 8) ae)))
  (ak (bw (bH qi qC qD cA (ai aE (pq 0) ac Oy) (a9 (pq 9) ae)))))))))))))),?_⟩
 obtain⟨a1,a2,a3,a4,n01,n02,n03,n12,n13,n23⟩:=Z.ss;have cn:=Z.ne (gR (x:=x) (r:=r));obtain⟨x',r',vs,e1,hc,hds⟩:=Z.top;cases e1;have lv:vs.length<=1000:=by rw[hds.len];exact hdl
 have rlen:∀{β:Type}(f:Fz->β),(((x::r).map f).reverse).length<sizeLine:=λf=>by
  rw[List.length_reverse,qa];exact qJ (Nat.lt_succ_of_le hlen) Yk
 have lvl:vs.length<sizeLine:=qJ (Nat.lt_succ_of_le lv) Yk;refine⟨_,U,_,_,U,U,Yk,?_⟩;refine⟨_,U,_,_,U,U,⟨Yk,Yk⟩,?_⟩;refine⟨qz _,λli hli=>?_⟩;have lic:li≠x.c:=λe=>by rw[e,hc]at hli;cases hli
 have s1':a8 H (upd H li (.lst [])):=a8.new hli _;refine⟨_,U,U,_,U,?_⟩;refine cN (λc7=>?_) (λc7=>?_)
 .have c7:=dX c7;refine⟨qz _,λoe hoe=>?_⟩;have oel:oe≠li:=λe=>by rw[e,ag]at hoe;cases hoe
  have hoe':H oe=none:=a8.none s1' hoe;have oec:oe≠x.c:=λe=>by rw[e,hc]at hoe';cases hoe'
  have s2':a8 H (upd (upd H li (.lst [])) oe (.lst [])):=a8.over s1' hoe';refine⟨_,U,S,_,_,_,U,U,SqL.of (s2' _ _ Z.cS),U,_,U,s0,_,_,_,U,U,SqL.of (s2' _ _ Z.c0),gq,.inl ⟨U,_,SqL.of (s2' _ _ hc)⟩,_,U,_,U,_,U,(by show 4<=sizeLine;decide),λp hp=>?_⟩;have hp':H p=none:=a8.none s2' hp;have s3':a8 H (upd (upd (upd H li (.lst [])) oe (.lst [])) p (.tup [.str "if",.str nm,.ref li,.ref oe])):=a8.over s2' hp';have pli:p≠li:=λe=>by rw[e,af (Ne.symm oel),ag]at hp;cases hp
  have poe:p≠oe:=λe=>by rw[e,ag]at hp;cases hp
  have pc:p≠x.c:=λe=>by rw[e,hc]at hp';cases hp'
  refine⟨x.c,_,_,U,U,s3' _ _ hc,lvl,?_⟩;have k4:∀b u,b≠x.c->H b=some u->(upd (upd (upd (upd H li (.lst [])) oe (.lst [])) p (.tup [.str "if",.str nm,.ref li,.ref oe])) x.c (.lst (vs++[.ref p]))) b=some u:=λb u hb h=>by rw[af hb];exact s3' _ _ h
  have kc4:(upd (upd (upd (upd H li (.lst [])) oe (.lst [])) p (.tup [.str "if",.str nm,.ref li,.ref oe])) x.c (.lst (vs++[.ref p]))) x.c=some (.lst (vs++[.ref p])):=ag;have kp4:(upd (upd (upd (upd H li (.lst [])) oe (.lst [])) p (.tup [.str "if",.str nm,.ref li,.ref oe])) x.c (.lst (vs++[.ref p]))) p=some (.tup [.str "if",.str nm,.ref li,.ref oe]):=by rw[af pc,ag]
  have km4:(upd (upd (upd (upd H li (.lst [])) oe (.lst [])) p (.tup [.str "if",.str nm,.ref li,.ref oe])) x.c (.lst (vs++[.ref p]))) li=some (.lst [])/\(upd (upd (upd (upd H li (.lst [])) oe (.lst [])) p (.tup [.str "if",.str nm,.ref li,.ref oe])) x.c (.lst (vs++[.ref p]))) oe=some (.lst []):=
   ⟨by rw[af lic,af (Ne.symm pli),af (Ne.symm oel),ag],by rw[af oec,af (Ne.symm poe),ag]⟩
  generalize (upd (upd (upd (upd H li (.lst [])) oe (.lst [])) p (.tup [.str "if",.str nm,.ref li,.ref oe])) x.c (.lst (vs++[.ref p])))=H4 at k4 kc4 kp4 km4 ⊢;have cS4:=k4 _ _ cn.1 Z.cS;have c04:=k4 _ _ cn.2.1 Z.c0;have c14:=k4 _ _ cn.2.2.1 Z.c1;have c24:=k4 _ _ cn.2.2.2.1 Z.c2;have c34:=k4 _ _ cn.2.2.2.2 Z.c3;refine⟨_,U,S,_,_,_,U,U,SqL.of cS4,U,.inl ⟨U,_,SqL.of c04⟩,_,U,s0,_,_,U,U,c04,rlen _,?_⟩;generalize hH5:upd H4 s0 (.lst (((x::r).map λx=>V.ref x.c).reverse++[.ref li]))=H5;have cS5:H5 S=some (.lst [.ref s0,.ref s1,.ref s2,.ref s3]):=by rw[<- hH5,af a1];exact cS4
  have c15:H5 s1=some (.lst (((x::r).map Fz.o).reverse)):=by rw[<- hH5,af (Ne.symm n01)];exact c14
  have c25:H5 s2=some (.lst (((x::r).map λx=>V.bl x.f.shut).reverse)):=by rw[<- hH5,af (Ne.symm n02)];exact c24
  have c35:H5 s3=some (.lst (((x::r).map λx=>V.int x.f.times).reverse)):=by rw[<- hH5,af (Ne.symm n03)];exact c34
  refine⟨_,U,S,_,_,_,U,U,SqL.of cS5,U,.inl ⟨U,_,SqL.of c15⟩,_,U,s1,_,_,U,U,c15,rlen _,?_⟩;generalize hH6:upd H5 s1 (.lst (((x::r).map Fz.o).reverse++[.ref oe]))=H6;have cS6:H6 S=some (.lst [.ref s0,.ref s1,.ref s2,.ref s3]):=by rw[<- hH6,af a2];exact cS5
  have c26:H6 s2=some (.lst (((x::r).map λx=>V.bl x.f.shut).reverse)):=by rw[<- hH6,af (Ne.symm n12)];exact c25
  have c36:H6 s3=some (.lst (((x::r).map λx=>V.int x.f.times).reverse)):=by rw[<- hH6,af (Ne.symm n13)];exact c35
  refine⟨_,U,S,_,_,_,U,U,SqL.of cS6,U,.inl ⟨U,_,SqL.of c26⟩,_,U,s2,_,_,U,U,c26,rlen _,?_⟩;generalize hH7:upd H6 s2 (.lst (((x::r).map λx=>V.bl x.f.shut).reverse++[.bl true]))=H7;have cS7:H7 S=some (.lst [.ref s0,.ref s1,.ref s2,.ref s3]):=by rw[<- hH7,af a3];exact cS6
  have c37:H7 s3=some (.lst (((x::r).map λx=>V.int x.f.times).reverse)):=by rw[<- hH7,af (Ne.symm n23)];exact c36
  refine⟨_,U,S,_,_,_,U,U,SqL.of cS7,U,.inl ⟨U,_,SqL.of c37⟩,_,U,s3,_,_,U,U,c37,rlen _,?_⟩;subst hH7 hH6 hH5;refine q _ ⟨⟨.ifT nm,[],true,0⟩,li,p,oe⟩ (pI (y:=⟨⟨.ifT nm,[],true,0⟩,li,p,oe⟩) Z hc k4 (λm hm=>?_) ?_ kp4 (by simp) (by simp) U kc4) ?_
  .simp[Fz.muts]at hm;rcases hm with rfl|rfl
   .exact⟨hli,km4.1⟩
   .exact⟨hoe',km4.2⟩
  .simp[Fz.muts];exact Ne.symm oel
  .unfold gm;dsimp only;rw[Q8 c7]
 have c7:=eL c7;refine⟨_,U,U,_,U,?_⟩;refine cN (λc8=>?_) (λc8=>?_)
 .have c8:=dX c8;refine⟨_,U,S,_,_,_,U,U,SqL.of (s1' _ _ Z.cS),U,_,U,s0,_,_,_,U,U,SqL.of (s1' _ _ Z.c0),gq,.inl ⟨U,_,SqL.of (s1' _ _ hc)⟩,_,U,_,U,(by show 3<=sizeLine;decide),λp hp=>?_⟩;have hp':H p=none:=a8.none s1' hp;have s3':a8 H (upd (upd H li (.lst [])) p (.tup [.str "while",.str nm,.ref li])):=a8.over s1' hp';have pli:p≠li:=λe=>by rw[e,ag]at hp;cases hp
  have pc:p≠x.c:=λe=>by rw[e,hc]at hp';cases hp'
  refine⟨x.c,_,_,U,U,s3' _ _ hc,lvl,?_⟩;have k4:∀b u,b≠x.c->H b=some u->(upd (upd (upd H li (.lst [])) p (.tup [.str "while",.str nm,.ref li])) x.c (.lst (vs++[.ref p]))) b=some u:=λb u hb h=>by rw[af hb];exact s3' _ _ h
  have kc4:(upd (upd (upd H li (.lst [])) p (.tup [.str "while",.str nm,.ref li])) x.c (.lst (vs++[.ref p]))) x.c=some (.lst (vs++[.ref p])):=ag;have kp4:(upd (upd (upd H li (.lst [])) p (.tup [.str "while",.str nm,.ref li])) x.c (.lst (vs++[.ref p]))) p=some (.tup [.str "while",.str nm,.ref li]):=by rw[af pc,ag]
  have km4:(upd (upd (upd H li (.lst [])) p (.tup [.str "while",.str nm,.ref li])) x.c (.lst (vs++[.ref p]))) li=some (.lst []):=by rw[af lic,af (Ne.symm pli),ag]
  generalize (upd (upd (upd H li (.lst [])) p (.tup [.str "while",.str nm,.ref li])) x.c (.lst (vs++[.ref p])))=H4 at k4 kc4 kp4 km4 ⊢;have cS4:=k4 _ _ cn.1 Z.cS;have c04:=k4 _ _ cn.2.1 Z.c0;have c14:=k4 _ _ cn.2.2.1 Z.c1;have c24:=k4 _ _ cn.2.2.2.1 Z.c2;have c34:=k4 _ _ cn.2.2.2.2 Z.c3;refine⟨_,U,S,_,_,_,U,U,SqL.of cS4,U,.inl ⟨U,_,SqL.of c04⟩,_,U,s0,_,_,U,U,c04,rlen _,?_⟩;generalize hH5:upd H4 s0 (.lst (((x::r).map λx=>V.ref x.c).reverse++[.ref li]))=H5;have cS5:H5 S=some (.lst [.ref s0,.ref s1,.ref s2,.ref s3]):=by rw[<- hH5,af a1];exact cS4
  have c15:H5 s1=some (.lst (((x::r).map Fz.o).reverse)):=by rw[<- hH5,af (Ne.symm n01)];exact c14
  have c25:H5 s2=some (.lst (((x::r).map λx=>V.bl x.f.shut).reverse)):=by rw[<- hH5,af (Ne.symm n02)];exact c24
  have c35:H5 s3=some (.lst (((x::r).map λx=>V.int x.f.times).reverse)):=by rw[<- hH5,af (Ne.symm n03)];exact c34
  refine⟨_,U,S,_,_,_,U,U,SqL.of cS5,U,.inl ⟨U,_,SqL.of c15⟩,_,U,s1,_,_,U,U,c15,rlen _,?_⟩;generalize hH6:upd H5 s1 (.lst (((x::r).map Fz.o).reverse++[.non]))=H6;have cS6:H6 S=some (.lst [.ref s0,.ref s1,.ref s2,.ref s3]):=by rw[<- hH6,af a2];exact cS5
  have c26:H6 s2=some (.lst (((x::r).map λx=>V.bl x.f.shut).reverse)):=by rw[<- hH6,af (Ne.symm n12)];exact c25
  have c36:H6 s3=some (.lst (((x::r).map λx=>V.int x.f.times).reverse)):=by rw[<- hH6,af (Ne.symm n13)];exact c35
  refine⟨_,U,S,_,_,_,U,U,SqL.of cS6,U,.inl ⟨U,_,SqL.of c26⟩,_,U,s2,_,_,U,U,c26,rlen _,?_⟩;generalize hH7:upd H6 s2 (.lst (((x::r).map λx=>V.bl x.f.shut).reverse++[.bl true]))=H7;have cS7:H7 S=some (.lst [.ref s0,.ref s1,.ref s2,.ref s3]):=by rw[<- hH7,af a3];exact cS6
  have c37:H7 s3=some (.lst (((x::r).map λx=>V.int x.f.times).reverse)):=by rw[<- hH7,af (Ne.symm n23)];exact c36
  refine⟨_,U,S,_,_,_,U,U,SqL.of cS7,U,.inl ⟨U,_,SqL.of c37⟩,_,U,s3,_,_,U,U,c37,rlen _,?_⟩;subst hH7 hH6 hH5;refine q _ ⟨⟨.whl nm,[],true,0⟩,li,p,li⟩ (pI (y:=⟨⟨.whl nm,[],true,0⟩,li,p,li⟩) Z hc k4 (λm hm=>?_) (by simp[Fz.muts]) kp4 (by simp) (by simp) U kc4) ?_
  .simp[Fz.muts]at hm;subst hm;exact⟨hli,km4⟩
  .unfold gm;dsimp only;rw[Q7 c7,Q8 c8]
 have c8:=eL c8;refine⟨_,U,S,_,_,_,U,U,SqL.of (s1' _ _ Z.cS),U,_,U,s3,_,_,_,U,U,SqL.of (s1' _ _ Z.c3),gq,?_⟩;refine⟨_,U,_,_,U,U,Yk,?_⟩;refine⟨_,U,_,_,U,U,_,U,?_⟩;generalize hm0:n / 70 % 100=mm;refine rG (P:=λm=>m=cG n most x.f.times) (w:=mm) (λcc=>?_) ?_ λcc go=>?_
 .rw[<- hm0];unfold cG;rw[Q7 (λz=>cc (Q9 z))]
 .rintro m rfl;refine⟨_,U,S,_,_,_,U,U,SqL.of (s1' _ _ Z.cS),U,_,U,s0,_,_,_,U,U,SqL.of (s1' _ _ Z.c0),gq,.inl ⟨U,_,SqL.of (s1' _ _ hc)⟩,_,U,_,U,(by show 3<=sizeLine;decide),λp hp=>?_⟩;have hp':H p=none:=a8.none s1' hp;have s3':a8 H (upd (upd H li (.lst [])) p (.tup [.str "repeat",.int (cG n most x.f.times),.ref li])):=a8.over s1' hp';have pli:p≠li:=λe=>by rw[e,ag]at hp;cases hp
  have pc:p≠x.c:=λe=>by rw[e,hc]at hp';cases hp'
  refine⟨x.c,_,_,U,U,s3' _ _ hc,lvl,?_⟩;have k4:∀b u,b≠x.c->H b=some u->(upd (upd (upd H li (.lst [])) p (.tup [.str "repeat",.int (cG n most x.f.times),.ref li])) x.c (.lst (vs++[.ref p]))) b=some u:=λb u hb h=>by rw[af hb];exact s3' _ _ h
  have kc4:(upd (upd (upd H li (.lst [])) p (.tup [.str "repeat",.int (cG n most x.f.times),.ref li])) x.c (.lst (vs++[.ref p]))) x.c=some (.lst (vs++[.ref p])):=ag;have kp4:(upd (upd (upd H li (.lst [])) p (.tup [.str "repeat",.int (cG n most x.f.times),.ref li])) x.c (.lst (vs++[.ref p]))) p=some (.tup [.str "repeat",.int (cG n most x.f.times),.ref li]):=by rw[af pc,ag]
  have km4:(upd (upd (upd H li (.lst [])) p (.tup [.str "repeat",.int (cG n most x.f.times),.ref li])) x.c (.lst (vs++[.ref p]))) li=some (.lst []):=by rw[af lic,af (Ne.symm pli),ag]
  refine⟨_,U,S,_,_,_,U,U,SqL.of (k4 _ _ cn.1 Z.cS),U,_,U,s2,_,_,_,U,U,SqL.of (k4 _ _ cn.2.2.2.1 Z.c2),gq,?_⟩;refine⟨_,U,_,U,_,_,U,U,IntMulOk.of_left (intBits_le_64 Yo Yo),?_⟩;generalize (upd (upd (upd H li (.lst [])) p (.tup [.str "repeat",.int (cG n most x.f.times),.ref li])) x.c (.lst (vs++[.ref p])))=H4 at k4 kc4 kp4 km4 ⊢;have cS4:=k4 _ _ cn.1 Z.cS;have c04:=k4 _ _ cn.2.1 Z.c0;have c14:=k4 _ _ cn.2.2.1 Z.c1;have c24:=k4 _ _ cn.2.2.2.1 Z.c2;have c34:=k4 _ _ cn.2.2.2.2 Z.c3;refine⟨_,U,S,_,_,_,U,U,SqL.of cS4,U,.inl ⟨U,_,SqL.of c04⟩,_,U,s0,_,_,U,U,c04,rlen _,?_⟩;generalize hH5:upd H4 s0 (.lst (((x::r).map λx=>V.ref x.c).reverse++[.ref li]))=H5;have cS5:H5 S=some (.lst [.ref s0,.ref s1,.ref s2,.ref s3]):=by rw[<- hH5,af a1];exact cS4
  have c15:H5 s1=some (.lst (((x::r).map Fz.o).reverse)):=by rw[<- hH5,af (Ne.symm n01)];exact c14
  have c25:H5 s2=some (.lst (((x::r).map λx=>V.bl x.f.shut).reverse)):=by rw[<- hH5,af (Ne.symm n02)];exact c24
  have c35:H5 s3=some (.lst (((x::r).map λx=>V.int x.f.times).reverse)):=by rw[<- hH5,af (Ne.symm n03)];exact c34
  refine⟨_,U,S,_,_,_,U,U,SqL.of cS5,U,.inl ⟨U,_,SqL.of c15⟩,_,U,s1,_,_,U,U,c15,rlen _,?_⟩;generalize hH6:upd H5 s1 (.lst (((x::r).map Fz.o).reverse++[.non]))=H6;have cS6:H6 S=some (.lst [.ref s0,.ref s1,.ref s2,.ref s3]):=by rw[<- hH6,af a2];exact cS5
  have c26:H6 s2=some (.lst (((x::r).map λx=>V.bl x.f.shut).reverse)):=by rw[<- hH6,af (Ne.symm n12)];exact c25
  have c36:H6 s3=some (.lst (((x::r).map λx=>V.int x.f.times).reverse)):=by rw[<- hH6,af (Ne.symm n13)];exact c35
  refine⟨_,U,S,_,_,_,U,U,SqL.of cS6,U,.inl ⟨U,_,SqL.of c26⟩,_,U,s2,_,_,U,U,c26,rlen _,?_⟩;generalize hH7:upd H6 s2 (.lst (((x::r).map λx=>V.bl x.f.shut).reverse++[.bl x.f.shut]))=H7;have cS7:H7 S=some (.lst [.ref s0,.ref s1,.ref s2,.ref s3]):=by rw[<- hH7,af a3];exact cS6
  have c37:H7 s3=some (.lst (((x::r).map λx=>V.int x.f.times).reverse)):=by rw[<- hH7,af (Ne.symm n23)];exact c36
  refine⟨_,U,S,_,_,_,U,U,SqL.of cS7,U,.inl ⟨U,_,SqL.of c37⟩,_,U,s3,_,_,U,U,c37,rlen _,?_⟩;subst hH7 hH6 hH5;refine q _ ⟨⟨.rep (cG n most x.f.times),[],x.f.shut,x.f.times * cG n most x.f.times⟩,li,p,li⟩ (pI (y:=⟨⟨.rep (cG n most x.f.times),[],x.f.shut,x.f.times * cG n most x.f.times⟩,li,p,li⟩) Z hc k4 (λm hm=>?_) (by simp[Fz.muts]) kp4 (by simp) (by simp) U kc4) ?_
  .simp[Fz.muts]at hm;subst hm;exact⟨hli,km4⟩
  .unfold gm;dsimp only;rw[Q7 c7,Q7 c8]
 .have tp:0<x.f.times:=Qj cc;refine⟨_,U,_,U,_,U,_,_,U,U,⟨tp,Yo⟩,_,_,U,U,_,_,U,U,?_,?_⟩
  .have:=Int.ediv_nonneg m0 t0;omega
  .refine go _ ?_;unfold cG;rw[Q8 tp]
abbrev c1P(low n most:Int)(len:Nat)(shut:Bool):Prop:=low<=n % 14/\n % 14<=9/\len+1<=12/\(n % 14<9\/0<most\/shut=true)
theorem CP(T:Tx P w K mg a):aN P w K mg base CX0 2 a.Hs a.Ht ["_law_cells","_law_names","_law_rooms","_law_most","_law_low"] (uM K):=by
 refine T.Jd.ok hX (λvs H Q E h=>?_) (λcdv A outer s H vs Q E hr h=>?_)
 .obtain⟨_,_,_,_,_,_,_,_,rfl,_⟩:=h
  rfl
 obtain⟨lc,ln,lr,cells,names,rooms,most,low,rfl,hcl,hnm,hrm,lc1,nm0,nm1,rm1,m0,m1,q⟩:=h
 refine⟨_,(ah (aq (i:=5) hX.nd U Oi (aT ae))
  (ah (aq (i:=6) hX.nd U Oi (aT (a9 (aT (a9 (pq 5) ae)) (a9 (aT (a9 bT ae)) (a9 (aT (a9 dB ae)) (a9 (aT (a9 ac ae)) ae))))))
  (ah (bL PassesOwn.never U (cq (pq 0)) (aK (i:=7) hX.nd U Oi)
  (ah (aq (i:=8) hX.nd U Oi (aG (fO T) (hr.mono Yk) U T.mt T.gt.kp T.ld .nil aC (a9 (pq 7) (a9 ac ae))))
  (ah (aq (i:=9) hX.nd U Oi (ao be (pq 8) ac))
  (ak (aM (PW.pt (gc (ph iW iW (pq 4) (pq 9) ac) (gc (au iW (aW bK U T.dz Qe (a9 (ai aE (pq 6) ac Oy) ae)) ac (ax _)) (i7 (PW.pt (d6 (au gb (pq 9) ac (ax _)) (d6 (au fH (pq 3) ac (ax _)) (fJ (eI (ai aE (ai aE (pq 6) ac Oy) (cX cR ac) Oy)))))))))) (ak (bw (aG (CJ T) (hr.mono Yk) U T.Kc T.Jc.kp T.Kb .nil aC (a9 (pq 6) (a9 (pq 8) (a9 (ai aE (pq 1) (ao be (ao cB (pq 8) ac) (aW bK U T.dz Qe (a9 (pq 1) ae))) Oy) (a9 (pq 3) ae))))))) (ak (aM (PW.pt (gc (au aY (pq 9) ac (ax _)) (i7 (au fj (ai aE (ai aE (pq 6) ac Oy) (cX cR ac) Oy) bT (ax _))))) (ah (gK (ai aE (ai aE (pq 6) ac Oy) (cX cR ac) Oy) (l9 (ai aE (pq 6) ac Oy) (cX cR ac) kI))
  (ak (gK bT (l9 (ai aE (pq 6) ac Oy) (cX cR ac) kI)))) (ak (aM (PW.pt (gc (au vx (pq 9) ac (ax _)) (i7 (au fH (aW bK U T.dz Qe (a9 (ai aE (pq 6) ac Oy) ae)) ac (ax _))))) (ak (bL PassesOwn.never U (cq (pq 6)) (aK (i:=10) hX.nd U Oi)
  (ak (bw (vR qi PySem.F.slot_list_pop PySem.F.type_list_pop wC (pq 10)))))) (ak (bw (bH qi qC qD cA (ai aE (ai aE (pq 6) ac Oy) (cX cR ac) Oy) (a9 (aG (CD T) (hr.mono Yk) U T.Ka T.Jb.kp T.K9 .nil aC (a9 (pq 8) (a9 (pq 1) (a9 (pq 2) (a9 (ai aE (ai aE (pq 6) ac Oy) (cX cR ac) Oy) ae))))) ae)))))))))))))
  (ak (aA (pq 5)))))),?_⟩
 refine⟨qz _,λb hb=>?_⟩;refine⟨_,U,ln1,λs0 h0=>⟨ln1,λs1 h1=>⟨ln1,λs2 h2=>⟨ln1,λs3 h3=>⟨(by show 4<=sizeLine;decide),λS hS=>?_⟩⟩⟩⟩⟩;have sb:a8 H (upd H b (.lst [])):=a8.new hb _;have g0:=a8.none sb h0;have ss0:a8 H (upd (upd H b (.lst [])) s0 (.lst [.ref b])):=a8.over sb g0;have g1:=a8.none ss0 h1;have ss1:a8 H (upd (upd (upd H b (.lst [])) s0 (.lst [.ref b])) s1 (.lst [.non])):=a8.over ss0 g1;have g2:=a8.none ss1 h2;have ss2:a8 H (upd (upd (upd (upd H b (.lst [])) s0 (.lst [.ref b])) s1 (.lst [.non])) s2 (.lst [.bl false])):=a8.over ss1 g2;have g3:=a8.none ss2 h3;have ss3:a8 H (upd (upd (upd (upd (upd H b (.lst [])) s0 (.lst [.ref b])) s1 (.lst [.non])) s2 (.lst [.bl false])) s3 (.lst [.int 1])):=a8.over ss2 g3;have gS:=a8.none ss3 hS;have ne:∀{X:Hp}{u v:Addr}{o:HO},(upd X u o) v=none->v≠u:=λh e=>by rw[e,ag]at h;cases h
 have e0b:=ne h0;have e10:=ne h1;have e1b:s1≠b:=ne (by rw[af e10]at h1;exact h1);have e21:=ne h2;have h2':(upd (upd H b (.lst [])) s0 (.lst [.ref b])) s2=none:=by rw[af e21]at h2;exact h2
 have e20:=ne h2';have e2b:s2≠b:=ne (by rw[af e20]at h2';exact h2');have e32:=ne h3;have h3':(upd (upd (upd H b (.lst [])) s0 (.lst [.ref b])) s1 (.lst [.non])) s3=none:=by rw[af e32]at h3;exact h3
 have e31:=ne h3';have h3'':(upd (upd H b (.lst [])) s0 (.lst [.ref b])) s3=none:=by rw[af e31]at h3';exact h3'
 have e30:=ne h3'';have e3b:s3≠b:=ne (by rw[af e30]at h3'';exact h3'');have eS3:=ne hS;have hS':(upd (upd (upd (upd H b (.lst [])) s0 (.lst [.ref b])) s1 (.lst [.non])) s2 (.lst [.bl false])) S=none:=by rw[af eS3]at hS;exact hS
 have eS2:=ne hS';have hS2:(upd (upd (upd H b (.lst [])) s0 (.lst [.ref b])) s1 (.lst [.non])) S=none:=by rw[af eS2]at hS';exact hS'
 have eS1:=ne hS2;have hS1:(upd (upd H b (.lst [])) s0 (.lst [.ref b])) S=none:=by rw[af eS1]at hS2;exact hS2
 have eS0:=ne hS1;have eSb:S≠b:=ne (by rw[af eS0]at hS1;exact hS1)
 have Z0:ZI H H (upd (upd (upd (upd (upd (upd H b (.lst [])) s0 (.lst [.ref b])) s1 (.lst [.non])) s2 (.lst [.bl false])) s3 (.lst [.int 1])) S (.lst [.ref s0,.ref s1,.ref s2,.ref s3])) S s0 s1 s2 s3 [⟨⟨.root,[],false,1⟩,b,b,b⟩]:=by
  refine{ hb:=a8.refl H,h0:=a8.over ss3 gS,fz:=?_,nd:=?_,cS:=ag,c0:=?_,c1:=?_,c2:=?_,c3:=?_,zr:=?_ }
  .intro m hm;simp[bp,Fz.muts]at hm;rcases hm with rfl|rfl|rfl|rfl|rfl|rfl<;>assumption
  .simp[bp,Fz.muts];exact⟨⟨eS0,eS1,eS2,eS3,eSb⟩,⟨Ne.symm e10,Ne.symm e20,Ne.symm e30,e0b⟩,⟨Ne.symm e21,Ne.symm e31,e1b⟩,⟨Ne.symm e32,e2b⟩,e3b⟩
  .rw[af (Ne.symm eS0),af (Ne.symm e30),af (Ne.symm e20),af (Ne.symm e10),ag];rfl
  .rw[af (Ne.symm eS1),af (Ne.symm e31),af (Ne.symm e21),ag];rfl
  .rw[af (Ne.symm eS2),af (Ne.symm e32),ag];rfl
  .rw[af (Ne.symm eS3),ag];rfl
  .refine⟨⟨[],?_,.nil⟩,trivial,.inl ⟨U,U⟩⟩;show _=some (HO.lst ([]++[]));rw[af (Ne.symm eSb),af (Ne.symm e3b),af (Ne.symm e2b),af (Ne.symm e1b),af (Ne.symm e0b),ag]
   rfl
 generalize upd (upd (upd (upd (upd (upd H b (.lst [])) s0 (.lst [.ref b])) s1 (.lst [.non])) s2 (.lst [.bl false])) s3 (.lst [.int 1])) S (.lst [.ref s0,.ref s1,.ref s2,.ref s3])=H1 at Z0 ⊢;refine⟨_,U,lc,U,⟨_,Z0.hbH.seq hcl⟩,?_⟩;have lcm:(cells.map V.int).length=cells.length:=qa _
 refine d9 (K:=K) (a:=lc) (xs:=cells.map V.int) (λi Y H2=>∃(H0:Hp)(z:List Fz)(v7 v8 v9 v10:Option V),Y=[some (.ref lc),some (.ref ln),some (.ref lr),some (.int most),some (.int low),some (.ref b),some (.ref S),v7,v8,v9,v10]/\ZI H H0 H2 S s0 s1 s2 s3 z/\z.map (·.f)=cZ names rooms most low (cells.take i)/\jV z=b)
  ⟨H,_,_,_,_,_,U,Z0,U,U⟩ ?_ ?_ ?_
 .rintro i Y H2 _ ⟨H0,z,v7,v8,v9,v10,_,Z,_⟩;exact Z.hbH.seq hcl
 .rintro i cv Y H2 hci ⟨H0,z,v7,v8,v9,v10,rfl,Z,hz,hbt⟩;rw[qK]at hci;obtain⟨c,hc,rfl⟩:=qV.mp hci
  have hi:i<cells.length:=by
   rcases Nat.lt_or_ge i cells.length with h|h
   .exact h
   .rw[Qv h]at hc;cases hc
  obtain⟨x,r,vs,rfl,hx,hrd⟩:=Z.top;obtain⟨ok1,ok2,ok3⟩:=mP (names:=names) (rooms:=rooms) (most:=most) (low:=low) nm0 (cells.take i) st0 ⟨U,by simp[st0,cards,aj],by simp[st0,aP]⟩ (by simp[st0]);have tok:=tP (names:=names) (rooms:=rooms) (most:=most) (low:=low) m0 m1 (cells.take i) st0 (by intro f hf;simp[st0]at hf;subst hf;exact⟨Yk,Yk⟩);have hz':(cells.take i).foldl (λst c=>bY names rooms most low st (aF c 1)) st0=x.f::r.map (·.f):=hz.symm;rw[hz']at ok1 ok2 ok3 tok;have zl:(x::r).length<=13:=by simpa using ok2
  have cn0:cnt st0=0:=U
  have dl:x.f.ds.length<=1000:=by
   have:=yO (f:=x.f) (r:=r.map (·.f));rw[qQ]at ok3;omega
  have tx:=tok x.f qt;have n0:=lF c 1;have n1:=wG c 1;have nxt:cZ names rooms most low (cells.take (i+1))=bY names rooms most low (x.f::r.map (·.f)) (aF c 1):=by rw[zH hc,<- hz];rfl
  rw[nxt];have rml:(r.map (·.f)).length=r.length:=qa _;have hn2:=Z.hbH.seq hnm;have hr2:=Z.hbH.seq hrm;refine⟨_,U,c,1,U,Yk,Yk,?_⟩;generalize aF c 1=n at n0 n1 ⊢;refine⟨_,U,_,_,U,U,Yk,?_⟩;have k0:0<=n % 14:=Qg _ Yk;have l0:((((x::r).map λx=>V.ref x.c).reverse).length:Int)=(r.length:Int)+1:=by simp
  refine⟨_,U,_,U,_,_,U,U,_,U,?_⟩;refine lQ (Pc:=¬ c1P low n most r.length x.f.shut) (λcc z=>cc (Q9 z.1)) ?_ λcc go=>?_
  .intro nc;refine⟨_,U,j6 ?_⟩
   try refine j6 ?_
   refine⟨_,U,U,_,U,?_⟩;refine lQ (Pc:=(if n % 14=10 then x.f.op.ifT? else none)=none) (λcc=>by rw[Q7 (eL cc)]) ?_ λcc go=>?_
   .intro ne;refine j6 ?_;refine⟨_,U,_,_,U,U,_,U,?_⟩;refine lQ (Pc:=¬ (10<=n % 14/\0<r.length)) (λcc z=>cc (Q9 z.1)) ?_ λcc go=>?_
    .intro nx;refine j6 ?_;refine⟨_,U,S,_,_,_,U,U,SqL.of Z.cS,U,_,U,s0,_,_,_,U,U,SqL.of Z.c0,gq,.inl ⟨U,_,SqL.of hx⟩,_,U,_,U,_,U,_,U,S,_,_,_,U,U,SqL.of Z.cS,U,_,U,s2,_,_,_,U,U,SqL.of Z.c2,gq,?_⟩;refine⟨n,ln,lr,names,rooms,x.f.shut,U,hn2,hr2,nm0,nm1,rm1,n0,Yo,λH3 p xs s3' hp hp3 hrd3=>?_⟩;have Z3:=Z.same s3';have p0:H0 p=none:=a8.none Z.h0 hp;refine⟨x.c,_,_,U,U,s3' _ _ hx,qJ (Nat.lt_succ_of_le (by rw[hrd.len];exact dl)) Yk,?_⟩;refine⟨_,_,_,_,_,_,U,Z3.push (s3' _ _ hx) hp3 p0 (hrd3 _ ag),?_,?_⟩
     .unfold bY;dsimp only;rw[rml,Q7 nc,ne,Q7 nx]
      rfl
     .rw[<- hbt];exact y3 U
    .have k10:=Qj cc;refine⟨_,U,S,_,_,_,U,U,SqL.of Z.cS,U,s0,_,U,.inl (SqL.of Z.c0),_,_,U,U,_,U,?_⟩;rw[l0];refine cN (λcc=>?_) (λcc=>by have h:=go λz=>cc (Q9 Yo);exact h);have r0:0<r.length:=by have:=Qj cc;omega
     cases r with
     |nil=>cases r0
     |cons g r=>
     obtain⟨q0,q1,q2,q3,n01,n02,n03,n12,n13,n23⟩:=Z.ss;have F:=λ(j:Nat)(H3:Hp)=>(j=0/\H3=H2);refine⟨_,U,S,U,⟨_,SqL.of Z.cS⟩,?_⟩;generalize hA1:upd H2 s0 (.lst (((g::r).map λx=>V.ref x.c).reverse))=A1;generalize hA2:upd A1 s1 (.lst (((g::r).map Fz.o).reverse))=A2;generalize hA3:upd A2 s2 (.lst (((g::r).map λx=>V.bl x.f.shut).reverse))=A3;generalize hA4:upd A3 s3 (.lst (((g::r).map λx=>V.int x.f.times).reverse))=A4;have cS1:A1 S=some (.lst [.ref s0,.ref s1,.ref s2,.ref s3]):=by rw[<- hA1,af q0];exact Z.cS
     have cS2:A2 S=some (.lst [.ref s0,.ref s1,.ref s2,.ref s3]):=by rw[<- hA2,af q1];exact cS1
     have cS3:A3 S=some (.lst [.ref s0,.ref s1,.ref s2,.ref s3]):=by rw[<- hA3,af q2];exact cS2
     have cS4:A4 S=some (.lst [.ref s0,.ref s1,.ref s2,.ref s3]):=by rw[<- hA4,af q3];exact cS3
     have c11:A1 s1=some (.lst (((x::g::r).map Fz.o).reverse)):=by rw[<- hA1,af (Ne.symm n01)];exact Z.c1
     have c22:A2 s2=some (.lst (((x::g::r).map λx=>V.bl x.f.shut).reverse)):=by rw[<- hA2,af (Ne.symm n12),<- hA1,af (Ne.symm n02)];exact Z.c2
     have c33:A3 s3=some (.lst (((x::g::r).map λx=>V.int x.f.times).reverse)):=by rw[<- hA3,af (Ne.symm n23),<- hA2,af (Ne.symm n13),<- hA1,af (Ne.symm n03)];exact Z.c3
     refine d9 (K:=K) (a:=S) (xs:=[.ref s0,.ref s1,.ref s2,.ref s3]) (λj Y H3=>(∃v10,Y=[some (.ref lc),some (.ref ln),some (.ref lr),some (.int most),some (.int low),some (.ref b),some (.ref S),some (.int c),some (.int n),some (.int (n % 14)),v10])/\((j=0/\H3=H2)\/(j=1/\H3=A1)\/(j=2/\H3=A2)\/(j=3/\H3=A3)\/(j=4/\H3=A4))) ⟨⟨_,U⟩,.inl ⟨U,U⟩⟩ ?_ ?_ ?_
     .rintro j Y H3 _ ⟨_,⟨_,rfl⟩|⟨_,rfl⟩|⟨_,rfl⟩|⟨_,rfl⟩|⟨_,rfl⟩⟩
      .exact SqL.of Z.cS
      .exact SqL.of cS1
      .exact SqL.of cS2
      .exact SqL.of cS3
      .exact SqL.of cS4
     .rintro j y Y H3 hy ⟨⟨v,rfl⟩,⟨rfl,rfl⟩|⟨rfl,rfl⟩|⟨rfl,rfl⟩|⟨rfl,rfl⟩|⟨rfl,rfl⟩⟩
      .simp at hy;subst hy;refine⟨_,U,.inl ⟨U,_,SqL.of Z.c0⟩,s0,_,_,U,U,Z.c0,lO,⟨_,U⟩,.inr (.inl ⟨U,?_⟩)⟩;rw[lY];exact hA1
      .simp at hy;subst hy;refine⟨_,U,.inl ⟨U,_,SqL.of c11⟩,s1,_,_,U,U,c11,lO,⟨_,U⟩,.inr (.inr (.inl ⟨U,?_⟩))⟩;rw[lY];exact hA2
      .simp at hy;subst hy;refine⟨_,U,.inl ⟨U,_,SqL.of c22⟩,s2,_,_,U,U,c22,lO,⟨_,U⟩,.inr (.inr (.inr (.inl ⟨U,?_⟩)))⟩;rw[lY];exact hA3
      .simp at hy;subst hy;refine⟨_,U,.inl ⟨U,_,SqL.of c33⟩,s3,_,_,U,U,c33,lO,⟨_,U⟩,.inr (.inr (.inr (.inr ⟨U,?_⟩)))⟩;rw[lY];exact hA4
      .simp at hy
     .rintro Y H3 ⟨⟨v,rfl⟩,hj⟩
      have e4:H3=A4:=by
       rcases hj with⟨j,_⟩|⟨j,_⟩|⟨j,_⟩|⟨j,_⟩|⟨_,e⟩
       .simp at j
       .simp at j
       .simp at j
       .simp at j
       .exact e
      subst e4
      obtain⟨H0',Z'⟩:=Z.closed (H':=H3) (λm u e1 e2 e3 e4 hm=>by rw[<- hA4,af e4,<- hA3,af e3,<- hA2,af e2,<- hA1,af e1];exact hm)
       (by rw[<- hA4,af n03,<- hA3,af n02,<- hA2,af n01,<- hA1,ag]) (by rw[<- hA4,af n13,<- hA3,af n12,<- hA2,ag]) (by rw[<- hA4,af n23,<- hA3,ag]) (by rw[<- hA4,ag])
      refine⟨H0',_,_,_,_,_,U,Z',?_,?_⟩
      .unfold bY;dsimp only;rw[rml,Q7 nc,ne,Q8 ⟨k10,r0⟩]
       rfl
      .rw[<- hbt];exact y3 U
   .have c10:=dX cc;refine⟨_,U,S,_,_,_,U,U,SqL.of Z.cS,U,_,U,s1,_,_,_,U,U,SqL.of Z.c1,gq,U,_,U,?_⟩
    cases hop:x.f.op.ifT? with
    |none=>
     have xo:x.o=.non:=by unfold Fz.o;cases q:x.f.op<;>rw[q]at hop<;>first|rfl|cases hop
     rw[xo];have h:=go (by rw[Q8 c10];exact hop);exact h
    |some nm'=>
     have q:x.f.op=.ifT nm':=by cases q:x.f.op<;>rw[q]at hop<;>simp[Op.ifT?]at hop;rw[hop]
     have xo:x.o=.ref x.e:=by unfold Fz.o;rw[q]
     rw[xo];refine aU (by simp) ?_;have c0':H2 s0=some (.lst ((r.map λx=>V.ref x.c).reverse++[.ref x.c])):=by rw[Z.c0];simp
     have c1':H2 s1=some (.lst ((r.map Fz.o).reverse++[.ref x.e])):=by rw[Z.c1,qX,List.reverse_cons,xo]
     have sn:=Z.ss;refine⟨_,U,S,_,_,_,U,U,SqL.of Z.cS,U,_,U,s1,_,_,_,U,U,SqL.of c1',wU,_,U,S,_,_,_,U,U,SqL.of Z.cS,U,_,U,s0,_,_,_,U,U,c0',wX,?_⟩;rw[uY];have cS3:(upd H2 s0 (.lst ((r.map λx=>V.ref x.c).reverse++[.ref x.e]))) S=some (.lst [.ref s0,.ref s1,.ref s2,.ref s3]):=by rw[af sn.1];exact Z.cS
     have c13:(upd H2 s0 (.lst ((r.map λx=>V.ref x.c).reverse++[.ref x.e]))) s1=some (.lst ((r.map Fz.o).reverse++[.ref x.e])):=by rw[af (Ne.symm sn.2.2.2.2.1)];exact c1'
     refine⟨_,U,S,_,_,_,U,U,SqL.of cS3,U,_,U,s1,_,_,_,U,U,c13,wX,?_⟩;rw[uY];refine⟨_,_,_,_,_,_,U,Z.elsed q hx (λm u e1 e2 hm=>by rw[af e2,af e1];exact hm) (by rw[af sn.2.2.2.2.1,ag]) ag,?_,?_⟩
     .unfold bY;dsimp only;rw[rml,Q7 nc,Q8 c10,hop]
      rfl
     .cases r with
      |nil=>have:=ok1.1;rw[q]at this;cases this
      |cons y r'=>exact hbt
  .have a1:=Qj cc;refine⟨_,_,U,U,_,U,?_⟩;refine cN (λcc=>?_) (λcc=>by have h:=goB (Pc:=¬ c1P low n most r.length x.f.shut) go λz=>cc (Q9 z.2.1);exact h);have a2:=Qj cc;refine⟨_,U,S,_,_,_,U,U,SqL.of Z.cS,U,s0,_,U,.inl (SqL.of Z.c0),_,_,U,U,_,U,?_⟩;rw[l0];refine cN (λcc=>?_) (λcc=>by have h:=goB (Pc:=¬ c1P low n most r.length x.f.shut) go λz=>cc (Q9 (by have:=z.2.2.1;omega));exact h);have a3:=Qj cc;refine⟨_,U,_,_,U,U,_,U,?_⟩;refine DM (Pc:=n % 14<9\/0<most\/x.f.shut=true) (λcc=>.inl (Qj cc)) ?_ λcc yes=>?_
   .intro pc;refine rJ ?_;refine⟨_,U,_,U,_,U,_,U,_,_,U,U,⟨Yk,Yk⟩,_,U,ln,_,U,.inl hn2,_,_,U,U,(by rw[qa];omega),ln,_,_,_,U,U,hn2,ij nm0 _,_,U,?_⟩;refine⟨H,H0,S,s0,s1,s2,s3,x,r,n,most,nth names (n / 14),U,Z,Yo,dl,n0,Yo,m0,m1,tx.1,Yo,λH' y Z' e=>?_⟩;refine⟨H0,y::x::r,_,_,_,_,U,Z',?_,hbt⟩;unfold bY;dsimp only;rw[rml,Q8 ⟨a1,a2,Yo,pc⟩];exact e
   .have a4:¬ n % 14<9:=λz=>cc (Q9 z);refine⟨_,U,_,_,U,U,_,U,?_⟩;refine cN (λcc=>yes (.inr (.inl (Qj cc)))) (λcc=>?_);have a5:¬ 0<most:=λz=>cc (Q9 z);refine⟨_,U,S,_,_,_,U,U,SqL.of Z.cS,U,_,U,s2,_,_,_,U,U,SqL.of Z.c2,gq,_,U,?_⟩
    cases hsh:x.f.shut with
    |true=>exact yes (.inr (.inr hsh))
    |false=>
     have h:=goB (Pc:=¬ c1P low n most r.length x.f.shut) go λz=>by
      rcases z.2.2.2 with z|z|z
      .exact a4 z
      .exact a5 z
      .rw[hsh]at z;cases z
     exact h
 .rintro Y H2 ⟨H0,z,v7,v8,v9,v10,rfl,Z,hz,hbt⟩;rw[lcm,qN]at hz;refine⟨_,U,q H2 b Z.hbH hb ?_⟩;have w:=Z.zr.whole Z.h0 (tl:=[]) (dt:=[]) .nil;rw[hbt,hz]at w
  have ne:cZ names rooms most low cells≠[]:=by
   rw[<- hz];intro e;have:=Z.zr;rw[List.map_eq_nil_iff.mp e]at this;exact this
  unfold dE kh;rw[ki _ _ (by have:=List.length_pos_iff.mpr ne;omega)];exact w
theorem Cw(T:Tx P w K mg a):aN P w K mg base CX0 17 a.GL a.GM ["program"] uj:=by
 refine T.IV.ok kL (λvs H Q E h=>?_) (λcdv A outer s H vs Q E hr h=>?_)
 .obtain⟨_,_,_,_,_,_,_,_,_,rfl,_⟩:=h
  rfl
 obtain⟨p,la,ls,lb,asks,ss,ds,us,C,rfl,rp,hdp,hfl,ha,hs,hsl,hC,h64,hlen,k⟩:=h
 refine⟨_,(ah (aq (i:=1) kL.nd U Oi (ao fG (ao fG (ai ar (pq 0) ac Oy) (aG (pK T) (hr.mono Yk) U T.Ij T.FN.kp T.Ii .nil aC (a9 (ai ar (pq 0) ac Oy) ae))) (aT (a9 (gh U T.Iy T.r_OUTLET) ae))))
  (ah (bL PassesOwn.never U (cq (ai ar (pq 0) ac Oy)) (dA U (bC (aK (i:=2) kL.nd U Oi) (bC (aK (i:=3) kL.nd U Oi) dy)))
  (ak (bw (bH qi Qu Qt gT (pq 1) (a9 (aT (a9 (aG (pL T) (hr.mono Yk) U T.Il T.FO.kp T.Ik .nil aC (a9 (pq 2) ae)) (a9 (aG (pN T) (hr.mono Yk) U T.Io T.FP.kp T.Im .nil aC (a9 (pq 2) ae)) ae))) ae)))))
  (ak (aA (aW (su U) U T.FY PyProof.Rows.Boot.«sorted» (a9 (eQ (m8 U) U T.FX PyProof.Rows.Boot.«set» (a9 (pq 1) ae)) ae)))))),?_⟩
 have hcC:∀q∈cards ds,q∈C:=λq hq=>hC q (by unfold dH;simp[hq]);refine⟨_,U,p,_,_,_,U,U,SqT.of rp.top,U,?_⟩;refine⟨_,U,p,_,_,_,U,U,SqT.of rp.top,U,H,lb,ds,C,U,a8.refl H,rp.bo,hdp,hfl,hcC,h64,hlen,λH1 l1 zs1 s1 n1 h1 nd1 hm1 so1=>?_⟩;have z64:zs1.length<64:=Nat.lt_of_le_of_lt (iw nd1 λq hq=>hcC q ((hm1 q).mp hq)) h64;refine⟨la,l1,_,_,U,U,SqL.of (s1 _ _ rp.as),SqL.of h1,bg (m:=3000) (by rw[qa,qa];omega),λp1 hp1=>?_⟩;refine⟨ln1,λp2 hp2=>?_⟩;refine⟨p1,p2,_,_,U,U,SqL.of (a8.new hp2 _ _ _ ag),SqL.of ag,bg (m:=3000) (by rw[qc,qa,qa,Qd];omega),λp3 hp3=>?_⟩;have s2:=s1.trans (a8.new hp1 (.lst (asks.map V.str++zs1.map V.str)));have s3:=s2.trans (a8.new hp2 (.lst [V.str (">":Str)]));have n3:=a8.none s3 hp3;have s4:a8 H (upd (upd (upd H1 p1 (.lst (asks.map V.str++zs1.map V.str))) p2 (.lst [V.str (">":Str)])) p3 (.lst (asks.map V.str++zs1.map V.str++[V.str (">":Str)]))):=a8.over s3 n3;refine⟨_,U,p,_,_,_,U,U,SqT.of (s4 _ _ rp.top),U,ls,U,⟨_,SqL.of (s4 _ _ rp.st)⟩,?_⟩;have ul:=rp.ro.len
 have fl:∀i,((ss.take i).flatMap λs=>[s.1++(">":Str),s.1++("<":Str)]).length=2 * (ss.take i).length:=λi=>by
  induction ss.take i with
  |nil=>rfl
  |cons x r ih=>rw[qL,qc,ih,qH];simp;omega
 refine d9 (K:=K) (a:=ls) (xs:=us) (λi Y H5=>∃v v',Y=[some (.ref p),some (.ref p3),v,v']/\a8 H H5/\H5 p3=some (.lst ((asks++zs1++[(">":Str)]++(ss.take i).flatMap λs=>[s.1++(">":Str),s.1++("<":Str)]).map V.str))) ⟨_,_,U,s4,?_⟩ ?_ ?_ ?_
 .rw[ag];simp
 .rintro i Y H5 _ ⟨v,v',_,s5,h5⟩;exact SqL.of (s5 _ _ rp.st)
 .rintro i x Y H5 hx ⟨v,v',rfl,s5,h5⟩;obtain⟨px,q,n,rfl,hi,hpx⟩:=rp.ro.at i x hx;have qm:q.length<=1000:=hsl _ (qG hi);refine⟨px,_,U,SqT.of (s5 _ _ hpx),U,_,_,U,_,_,U,U,?_⟩;refine⟨_,U,.inl ⟨U,_,SqL.of h5⟩,_,U,q,U,qm,_,U,q,U,qm,ln2,λp4 hp4=>?_⟩;have lt:(ss.take i).length<=100:=by rw[qQ];omega
  refine⟨p3,p4,_,_,U,U,a8.new hp4 _ _ _ h5,ag,bg (m:=3000) ?_,?_⟩
  .rw[qa,qc,fl,qc,qc];simp;omega
  refine⟨_,_,U,a8.over (s5.trans (a8.new hp4 _)) n3,?_⟩;rw[ag,qy,hi];simp
 .rintro Y H5 ⟨v,v',rfl,s5,h5⟩;rw[ul,qN]at h5;have f1:=fl ss.length;rw[qN]at f1
  have mm:∀x,x∈asks++zs1++[(">":Str)]++(ss.flatMap λs=>[s.1++(">":Str),s.1++("<":Str)])↔x∈dH asks ss ds:=λx=>by
   unfold dH;simp only[qk,hm1 x]
  refine⟨_,U,p3,_,U,SqL.of h5,?_,λp6 hp6=>?_⟩
  .rw[qc,f1,qc,qc,Qd];omega
  refine⟨p6,_,C,U,ag,λx hx=>hC x ((mm x).mp hx),h64,λr zs hr' nd hm so=>?_⟩;have s6:a8 H5 (upd H5 p6 (ee P w p6 (asks++zs1++[(">":Str)]++(ss.flatMap λs=>[s.1++(">":Str),s.1++("<":Str)])))):=a8.new hp6 _;exact k _ r zs ((s5.trans s6).trans (a8.new hr' _)) ag nd (λx=>(hm x).trans (mm x)) so
theorem Co(T:Tx P w K mg a):aN P w K mg base CX0 2 a.GB a.GC ["deed"] u5:=by
 refine T.IT.ok Ap (λvs H Q E h=>?_) (λcdv A outer s H vs Q E hr h=>?_)
 .obtain⟨_,_,_,_,_,_,_,rfl,_⟩:=h
  rfl
 obtain⟨H0,p,x,sg,va,vb,C,rfl,e0,h,c1,h64,k⟩:=h;refine⟨_,(ak (aA (aW (su U) U T.FY PyProof.Rows.Boot.«sorted» (a9 (ao BU (eQ (m8 U) U T.FX PyProof.Rows.Boot.«set» (a9 (aG (vZ T) (hr.mono Yk) U T.IS T.Ih.kp T.IR .nil aC (a9 (pq 0) ae)) ae)) (eQ (m8 U) U T.FX PyProof.Rows.Boot.«set» (a9 (aT (a9 (ai ar (pq 0) ac Oy) ae)) ae))) ae)))),?_⟩;refine⟨_,U,H0,_,_,U,e0,.set h,λH1 l1 s1 n1 h1=>?_⟩;have nf:(aa.set x va sg vb).names.length<4:=by cases va<;>cases vb<;>simp[aa.names,Val.names]
 refine⟨l1,_,U,SqL.of h1,Yo,λp2 hp2=>?_⟩;have s2:=s1.trans (a8.new hp2 (ee P w p2 (aa.set x va sg vb).names));refine⟨_,U,_,_,_,_,U,U,SqT.of (s2 _ _ (e0 _ _ h)),U,ln1,λp3 hp3=>?_⟩;have s3:=s2.trans (a8.new hp3 (.lst [V.str x]));refine⟨p3,[x],U,SqL.of ag,by simp,λp4 hp4=>?_⟩;have s34:=(a8.new hp3 (.lst [V.str x])).trans (a8.new hp4 (ee P w p4 [x]));have s4:=s2.trans s34;refine⟨p2,p4,_,_,U,U,s34 _ _ ag,ag,nf,λp5 hp5=>?_⟩;have s5:=s4.trans (a8.new hp5 (ee P w p5 ((aa.set x va sg vb).names.filter λk=>!decide (k∈[x]))));refine⟨p5,_,C,U,ag,λq hq=>c1 q (List.mem_filter.mp hq).1,h64,λp6 zs hp6 nd hm so=>?_⟩;have ez:zs=oH x va vb:=kB nd (λq=>(hm q).trans (by simp[aa.names])) so;subst ez;exact k _ _ (s5.trans (a8.new hp6 _)) ag
theorem pM(T:Tx P w K mg a):aN P w K mg base CX0 1 a.GV a.GW ["kind","cards"] mS:=by
 refine T.FS.ok Ar (λvs H Q E h=>?_) (λcdv A outer s H vs Q E hr h=>?_)
 .obtain⟨_,_,_,rfl,_⟩:=h
  rfl
 obtain⟨kd,l,zs,rfl,hl,k⟩:=h;refine⟨_,(ak (aA (ba (a9 (pq 0) (a9 (eQ sj U T.At PyProof.Rows.Boot.«tuple» (a9 (pq 1) ae)) (a9 (ba ae) (a9 bT (a9 bT ae)))))))),?_⟩;refine⟨_,U,_,U,l,_,U,.inl ⟨SqL.of hl,λpo hpo=>?_⟩⟩;refine⟨qz _,λpr hpr=>⟨ln5,λp hp=>?_⟩⟩;have s1:a8 H (upd H po (.tup (zs.map V.str))):=a8.new hpo _;have s2:=a8.new hpr (.tup []);exact k _ _ ((s1.trans s2).trans (a8.new hp _)) (cH.new (r:=⟨kd,zs,[],none,none⟩) (s2 _ _ ag) ag hp)
theorem Cg(T:Tx P w K mg a):aN P w K mg base CX0 17 a.GT a.GU ["deed"] tW:=by
 refine T.J2.ok vc (λvs H Q E h=>?_) (λcdv A outer s H vs Q E hr h=>?_)
 .obtain⟨_,_,_,_,rfl,_⟩:=h
  rfl
 obtain⟨H0,v,d,C,rfl,e0,hd,hdp,hfl,hC,h64,hlen,hnr,k⟩:=h
 refine⟨_,(ah (aq (i:=1) vc.nd U Oi (ai ar (pq 0) ac Oy))
  (ah (aM (au aY (pq 1) aO (ax _)) (ak (aA (ba (a9 aO (a9 (ba (a9 (ai ar (pq 0) ac Oy) ae)) (a9 (eQ sj U T.At PyProof.Rows.Boot.«tuple» (a9 (aG (Co T) (hr.mono Yk) U T.JU T.IT.kp T.JT .nil aC (a9 (pq 0) ae)) ae)) (a9 bT (a9 bT ae)))))))) aR)
  (ah (aM (au aY (pq 1) aO (ax _)) (ak (aA (ba (a9 aO (a9 (ba (a9 (aG (pL T) (hr.mono Yk) U T.Il T.FO.kp T.Ik .nil aC (a9 (ai ar (pq 0) ac Oy) ae)) ae)) (a9 (ba (a9 (ai ar (pq 0) ac Oy) ae)) (a9 (ai ar (pq 0) ac Oy) (a9 bT ae)))))))) aR)
  (ah (aM (au aY (pq 1) aO (ax _)) (ak (aA (ba (a9 aO (a9 (eQ sj U T.At PyProof.Rows.Boot.«tuple» (a9 (aW (Fc U) U T.FY PyProof.Rows.Boot.«sorted» (a9 (aT (a9 (ai ar (pq 0) ac Oy) (a9 (aG (pN T) (hr.mono Yk) U T.Io T.FP.kp T.Im .nil aC (a9 (ai ar (pq 0) ac Oy) ae)) ae))) ae)) ae)) (a9 (ba ae) (a9 bT (a9 (ai ar (pq 0) ac Oy) ae)))))))) aR)
  (ah (aM (au aY (pq 1) aO (ax _)) (ak (aA (ba (a9 aO (a9 (ba (a9 (gh U T.Iy T.r_OUTLET) ae)) (a9 (ba (a9 (ai ar (pq 0) ac Oy) ae)) (a9 bT (a9 bT ae)))))))) aR)
  (ak (aA (aG (pM T) (hr.mono Yk) U T.Iq T.FS.kp T.Ip .nil aC (a9 (pq 1) (a9 (aG (pK T) (hr.mono Yk) U T.Ij T.FN.kp T.Ii .nil aC (a9 (aT (a9 (pq 0) ae)) ae)) ae)))))))))),?_⟩
 have c1:∀q∈d.cards,q∈C:=λq hq=>hC q (by
  unfold cards;rw[aj,aj,qE,j8]
  exact List.mem_flatMap.mpr ⟨d,qt,hq⟩)
 have bU:∀q z:Str,q++z∈d.others->q.length<=1000:=λq z hq=>by
  have:=hlen _ (c1 _ (qO _ hq));rw[dP]at this;omega
 have dp:aP [d]<=12:=by simp only[aP];omega
 have fl:(aj [d]).length<=1000:=by rw[aj,aj,qE];exact hfl
 have own:∀(H1:Hp)(kd:Str),a8 H H1->∀p,H1 p=none->aL d=⟨kd,srt (cards [d]),[],none,none⟩->RD H0 v d->mR [.ref p] (upd H1 p (.lst [v])) (λu H2=>mS [.str kd,u] H2 Q E0) E0:=λH1 kd s1 p hp er hd=>by
  have s2:=a8.new hp (.lst [v]);refine⟨_,p,[d],C,U,a8.refl _,.mk ag (.cons (RD.same ((e0.trans s1).trans s2) hd) .nil),dp,fl,hC,h64,hlen,λH3 l zs s3 nl hl nd hm so=>?_⟩;refine⟨kd,l,zs,U,hl,λH4 u s4 hu=>k H4 u ((s1.trans s2).trans (s3.trans s4)) ?_⟩;rw[er,<- kB nd hm so];exact hu
 have hd':=hd
 cases hd with
 |set h=>
  rename_i p x va sg vb;refine⟨_,rfl,_,_,_,_,rfl,rfl,SqT.of (e0 _ _ h),rfl,?_⟩;refine⟨_,rfl,rfl,_,rfl,?_⟩;walk_at "yes";refine⟨_,rfl,_,_,_,_,rfl,rfl,SqT.of (e0 _ _ h),rfl,ln1,λp7 hp7=>?_⟩;have s7:=a8.new hp7 (.tup [V.str x]);refine⟨_,rfl,H0,p,x,sg,va,vb,C,rfl,e0.trans s7,h,λq hq=>c1 q (Q3 _ hq),h64,λH1 l1 s1 h1=>?_⟩;refine⟨l1,_,rfl,.inl ⟨SqL.of h1,λp8 hp8=>⟨ln5,λp9 hp9=>?_⟩⟩⟩;have s8:=a8.new hp8 (.tup ((oH x va vb).map V.str));exact k _ _ (((s7.trans s1).trans s8).trans (a8.new hp9 _)) (cH.new (r:=aL (.set x va sg vb)) (s8 _ _ (s1 _ _ ag)) ag hp9)
 |put h=>
  rename_i p q x;refine⟨_,rfl,_,_,_,_,rfl,rfl,SqT.of (e0 _ _ h),rfl,?_⟩;refine⟨_,rfl,rfl,_,rfl,?_⟩;walk_at "no";refine⟨_,rfl,rfl,_,rfl,?_⟩;walk_at "yes";refine⟨_,rfl,_,_,_,_,rfl,rfl,SqT.of (e0 _ _ h),rfl,_,rfl,bU _ ">" (by simp[aa.others]),ln1,λp1 hp1=>?_⟩;have s1:=a8.new hp1 (.tup [V.str (q++(">":Str))]);refine⟨_,rfl,_,_,_,_,rfl,rfl,SqT.of (s1 _ _ (e0 _ _ h)),rfl,ln1,λp2 hp2=>?_⟩;have s2:=a8.new hp2 (.tup [V.str x]);refine⟨_,rfl,_,_,_,_,rfl,rfl,SqT.of (s2 _ _ (s1 _ _ (e0 _ _ h))),rfl,ln5,λp9 hp9=>?_⟩;exact k _ _ ((s1.trans s2).trans (a8.new hp9 _)) (cH.new (r:=aL (.put q x)) (s2 _ _ ag) ag hp9)
 |get h=>
  rename_i p q x;refine⟨_,rfl,_,_,_,_,rfl,rfl,SqT.of (e0 _ _ h),rfl,?_⟩;refine⟨_,rfl,rfl,_,rfl,?_⟩;walk_at "no";refine⟨_,rfl,rfl,_,rfl,?_⟩;walk_at "no";refine⟨_,rfl,rfl,_,rfl,?_⟩;walk_at "yes";refine⟨_,rfl,_,_,_,_,rfl,rfl,SqT.of (e0 _ _ h),rfl,_,rfl,_,_,_,_,rfl,rfl,SqT.of (e0 _ _ h),rfl,_,rfl,bU _ "<" (by simp[aa.others]),ln2,λp1 hp1=>?_⟩;have s1:=a8.new hp1 (.lst [V.str x,V.str (q++("<":Str))]);refine⟨p1,[x,q++("<":Str)],rfl,SqL.of ag,by simp,λp2 zs hp2 pm so=>?_⟩;have s2:=a8.new hp2 (.lst (zs.map V.str));refine⟨p2,_,rfl,.inl ⟨SqL.of ag,λp3 hp3=>?_⟩⟩;have s3:=a8.new hp3 (.tup (zs.map V.str));refine⟨qz _,λp4 hp4=>?_⟩;have s4:=a8.new hp4 (.tup []);refine⟨_,rfl,_,_,_,_,rfl,rfl,SqT.of (s4 _ _ (s3 _ _ (s2 _ _ (s1 _ _ (e0 _ _ h))))),rfl,ln5,λp9 hp9=>?_⟩;have ez:=tU pm so;refine k _ _ ((((s1.trans s2).trans s3).trans s4).trans (a8.new hp9 _)) (cH.new (r:=aL (.get q x)) ?_ ag hp9);show _=some (HO.tup ((eN [x,q++("<":Str)]).map V.str));rw[<- ez];exact s4 _ _ ag
 |give h=>
  rename_i p x;refine⟨_,rfl,_,_,_,_,rfl,rfl,SqT.of (e0 _ _ h),rfl,?_⟩;refine⟨_,rfl,rfl,_,rfl,?_⟩;walk_at "no";refine⟨_,rfl,rfl,_,rfl,?_⟩;walk_at "no";refine⟨_,rfl,rfl,_,rfl,?_⟩;walk_at "no";refine⟨_,rfl,rfl,_,rfl,?_⟩;walk_at "yes";refine⟨ln1,λp1 hp1=>?_⟩;have s1:=a8.new hp1 (.tup [V.str (">":Str)]);refine⟨_,rfl,_,_,_,_,rfl,rfl,SqT.of (s1 _ _ (e0 _ _ h)),rfl,ln1,λp2 hp2=>⟨ln5,λp9 hp9=>?_⟩⟩;have s2:=a8.new hp2 (.tup [V.str x]);exact k _ _ ((s1.trans s2).trans (a8.new hp9 _)) (cH.new (r:=aL (.give x)) (s2 _ _ ag) ag hp9)
 |cond h h1 h2=>
  refine⟨_,rfl,_,_,_,_,rfl,rfl,SqT.of (e0 _ _ h),rfl,?_⟩;refine⟨_,rfl,rfl,_,rfl,?_⟩;walk_at "no";refine⟨_,rfl,rfl,_,rfl,?_⟩;walk_at "no";refine⟨_,rfl,rfl,_,rfl,?_⟩;walk_at "no";refine⟨_,rfl,rfl,_,rfl,?_⟩;walk_at "no";exact⟨_,rfl,_,rfl,ln1,λp1 hp1=>own H "if" (a8.refl H) p1 hp1 rfl hd'⟩
 |whl h h1=>
  refine⟨_,rfl,_,_,_,_,rfl,rfl,SqT.of (e0 _ _ h),rfl,?_⟩;refine⟨_,rfl,rfl,_,rfl,?_⟩;walk_at "no";refine⟨_,rfl,rfl,_,rfl,?_⟩;walk_at "no";refine⟨_,rfl,rfl,_,rfl,?_⟩;walk_at "no";refine⟨_,rfl,rfl,_,rfl,?_⟩;walk_at "no";exact⟨_,rfl,_,rfl,ln1,λp1 hp1=>own H "while" (a8.refl H) p1 hp1 rfl hd'⟩
 |rep h h1=>exact Qb U (hnr _ _)
theorem Cv(T:Tx P w K mg a):aN P w K mg base CX0 1 a.GX a.GY ["deeds"] ui:=by
 refine T.J3.ok iO (λvs H Q E h=>?_) (λcdv A outer s H vs Q E hr h=>?_)
 .obtain⟨_,_,_,rfl,_⟩:=h
  rfl
 obtain⟨l,us,rs,rfl,hl,hrs,hlen,fed,one,k⟩:=h
 refine⟨_,(ah (aq (i:=1) iO.nd U Oi gi)
  (ak (bL PassesOwn.never U (kZ U T.FW (a9 (pq 0) ae)) (dA U (bC (aK (i:=2) iO.nd U Oi) (bC (aK (i:=3) iO.nd U Oi) dy)))
  (ah (aq (i:=4) iO.nd U Oi (ai ar (pq 3) ac Oy))
  (ah (aq (i:=5) iO.nd U Oi (ai ar (pq 3) ac Oy))
  (ah (aM (au fj (pq 4) bT (ax _)) (ak (fK (hr.one) (pq 1) (pq 4) (ao bu (dW hr.one (pq 1) (pq 4) ac ⟨U,U,U,U⟩) ac) U)) aR)
  (ak (aM (au fj (pq 5) bT (ax _)) (ah (aM (au aY (dW hr.one (pq 1) (pq 5) ac ⟨U,U,U,U⟩) ac (ax _)) (ak vJ) aR)
  (ak (fK (hr.one) (pq 1) (pq 5) (ao iV (jB hr.one (pq 1) (pq 5) Oy) ac) U))) aR)))))))),?_⟩
 intro p hp;have s1:a8 H (upd H p (.dK [])):=a8.new hp _;have ul:=hrs.len;refine⟨_,U,l,us,U,SqL.of (s1 _ _ hl),?_⟩;refine lX (K:=K) (l:=l) (xs:=us) (λi Y H2=>∃v1 v2 v3 v4 kvs,Y=[some (.ref l),some (.ref p),v1,v2,v3,v4]/\a8 H H2/\H2 p=some (.dK kvs)/\kvs.length<=2 * i/\k7 kvs (rs.take i)) ⟨_,_,_,_,[],U,s1,ag,qg _,λq=>U⟩ ?_ ?_ ?_
 .rintro i Y H2 ⟨v1,v2,v3,v4,kvs,_,s2,_⟩;exact SqL.of (s2 _ _ hl)
 .rintro i x Y H2 pt hx ⟨v1,v2,v3,v4,kvs,rfl,s2,hd,kl,st⟩ hpt;obtain⟨r,hr',px,po,pr,rfl,h1,h2,h3⟩:=hrs.at i x hx;have lt:i<rs.length:=(qh.mp hr').1;have s3:a8 H (upd H2 pt (.tup [.int i,.ref px])):=s2.trans (a8.new hpt _);have np:pt≠p:=λz=>by rw[z,hd]at hpt;cases hpt
  have hd3:(upd H2 pt (.tup [.int i,.ref px])) p=some (.dK kvs):=a8.new hpt _ _ _ hd;have hpt3:(upd H2 pt (.tup [.int i,.ref px])) pt=some (.tup [.int i,.ref px]):=ag;generalize upd H2 pt (.tup [.int i,.ref px])=H3 at s3 hd3 hpt3 ⊢;refine⟨pt,_,U,SqT.of hpt3,U,_,_,U,_,_,U,U,?_⟩;refine⟨_,U,px,_,_,_,U,U,SqT.of (s3 _ _ h1),U,?_⟩;refine⟨_,U,px,_,_,_,U,U,SqT.of (s3 _ _ h1),U,?_⟩;have tk:rs.take (i+1)=rs.take i++[r]:=by rw[qy,hr'];rfl
  have one':=one r (qG hr');have fed':=fed i r;have big:(10000:Nat)<sizeLine:=Yk;have kl':kvs.length<sizeLine:=Yo
  have fin:∀(H4:Hp)(kvs':List (Key×V)) w3 w4,a8 H H4->H4 p=some (.dK kvs')->kvs'.length<=kvs.length+1->(∀q:Str,(aJ kvs' (.inr q)).getD (.int 0)=.int (bal (rs.take i++[r]) q))->
   ∃v1 v2 v3 v4 kvs,([some (.ref l),some (.ref p),some (.int i),some (.ref px),w3,w4]:St)=[some (.ref l),some (.ref p),v1,v2,v3,v4]/\a8 H H4/\H4 p=some (.dK kvs)/\kvs.length<=2 * (i+1)/\k7 kvs (rs.take (i+1)):=λH4 kvs' w3 w4 s4 h4 l4 st4=>
   ⟨_,_,_,_,kvs',U,s4,h4,Yo,by rw[tk];exact st4⟩
  clear hd hpt tk;obtain⟨kd,ow,re,into,outof⟩:=r
  cases into with
  |none=>
   refine⟨_,U,U,_,U,ay U ?_⟩
   cases outof with
   |none=>
    refine⟨_,U,U,_,U,ay U ?_⟩;exact fin H3 kvs _ _ s3 hd3 (Nat.le_succ _) λq=>by rw[fu,st q];simp
   |some q=>
    have pos:0<bal (rs.take i) q:=fed' q hr' U;have sq:=st q
    obtain⟨v,hv⟩:∃v,aJ kvs (.inr q)=some v:=by
     cases e:aJ kvs (.inr q)with
     |some v=>exact⟨v,U⟩
     |none=>
      rw[e]at sq;have:(0:Int)=bal (rs.take i) q:=V.int.inj sq;omega
    rw[hv]at sq;have ev:v=.int (bal (rs.take i) q):=sq;subst ev;refine⟨_,U,U,_,U,aU U ?_⟩;refine⟨_,U,p,U,.inl ⟨kvs,.inl hd3⟩,_,U,_,ci.k (k:=.inr q) hd3,?_⟩;rw[hv];refine⟨U,_,U,?_⟩;refine ifN (λz=>?_) ?_
    .have:bal (rs.take i) q=0:=V.int.inj z;omega
    refine⟨_,U,_,U,p,_,U,by rw[<- hv];exact ci.k (k:=.inr q) hd3,_,_,U,U,?_⟩;refine⟨_,U,_,U,p,_,U,eu.k (k:=.inr q) hd3 kl',?_⟩;refine fin _ _ _ _ (a8.over s3 hp) ag (dL _ _ _) λq'=>?_;rw[dF,fu];by_cases e:q'=q
    .subst e;simp
    .have e1:¬ (Sum.inr q':Key)=Sum.inr q:=λz=>e (Sum.inr.inj z);have e2:¬ q=q':=λz=>e z.symm;rw[Q7 e1,st q'];simp[e2]
  |some q=>
   have on:outof=none:=by
    rcases one' with h|h
    .cases h
    .exact h
   subst on;refine⟨_,U,U,_,U,aU U ?_⟩;refine⟨_,U,p,U,.inl ⟨kvs,.inl hd3⟩,_,U,_,ci.k (k:=.inr q) hd3,_,_,st q,U,?_⟩;refine⟨_,U,_,U,p,_,U,eu.k (k:=.inr q) hd3 kl',?_⟩;refine⟨_,U,U,_,U,ay U ?_⟩;refine fin _ _ _ _ (a8.over s3 hp) ag (dL _ _ _) λq'=>?_;rw[dF,fu];by_cases e:q'=q
   .subst e;simp
   .have e1:¬ (Sum.inr q':Key)=Sum.inr q:=λz=>e (Sum.inr.inj z);have e2:¬ q=q':=λz=>e z.symm;rw[Q7 e1,st q'];simp[e2]
 .rintro Y H2 ⟨v1,v2,v3,v4,kvs,rfl,s2,_⟩;exact k H2 s2
theorem Cu(T:Tx P w K mg a):∀n:Nat,aN P w K mg base CX0 (n+1) a.GP a.GQ ["block"] (uh n):=by
 intro n
 induction n with
 |zero=>
  refine T.FQ.ok jq (λvs H Q E h=>?_) (λcdv A outer s H vs Q E hr h=>?_)
  .obtain⟨_,_,_,rfl,_⟩:=h
   rfl
  .obtain⟨_,_,_,_,_,_,h0,_⟩:=h;exact Qb h0 (QE _)
 |succ n ih=>
  refine T.FQ.ok jq (λvs H Q E h=>?_) (λcdv A outer s H vs Q E hr h=>?_)
  .obtain⟨_,_,_,rfl,_⟩:=h
   rfl
  obtain⟨H0,b,ds,rfl,e0,hb,hdp,ra,k⟩:=h
  refine⟨_,(ah (aq (i:=1) jq.nd U Oi (aW bK U T.dz Qe (a9 (pq 0) ae)))
   (ah (bL PassesOwn.never U (cq (pq 0)) (aK (i:=2) jq.nd U Oi)
   (ak (aM (au aY (ai ar (pq 2) ac Oy) aO (ax _)) (ak (aq (i:=1) jq.nd U Oi (ao bu (pq 1) (ao eK (ai ar (pq 2) ac Oy) (ao bu (aG ih (hr.mono Yo) U T.IY T.FQ.kp T.IX .nil aC (a9 (ai ar (pq 2) ac Oy) ae)) ac))))) aR)))
   (ak (aA (pq 1))))),?_⟩
  obtain⟨hv,hds⟩:=hb;rename_i vs;have vl:=hds.len;refine⟨_,U,b,_,U,.inl (SqL.of (e0 _ _ hv)),?_⟩;refine⟨_,U,b,U,⟨_,SqL.of (e0 _ _ hv)⟩,?_⟩;refine d9 (K:=K) (a:=b) (xs:=vs) (λi Y H2=>H2=H/\∃v c,Y=[some (.ref b),some (.int c),v]/\c=(vs.length:Int)-i+(aH (ds.take i)).length) ⟨U,_,_,U,by simp[aH]⟩ ?_ ?_ ?_
  .rintro i Y H2 _ ⟨rfl,_⟩;exact SqL.of (e0 _ _ hv)
  .rintro i x Y H2 hx ⟨rfl,v,c,rfl,ec⟩;obtain⟨d,hd,hrd⟩:=hds.at i x hx;have tk:=oE hd;by_cases nr:∀m bb,d≠.rep m bb
   .obtain⟨px,r,rfl,hp⟩:=hrd.tuple;refine⟨_,U,px,_,_,_,U,U,SqT.of (e0 _ _ hp),at0,U,_,U,?_⟩;refine ifN (sT nr) ⟨U,_,_,U,?_⟩;rw[tk,oF nr,qc,Qd];omega
   .cases hrd with
    |rep h hb'=>
     rename_i p bb m bs;obtain⟨r0,rb⟩:=(ra.at hd).rep;obtain⟨r1,r2⟩:=r0 m bs U;have dd:=lZ hd;rw[aa.depth]at dd;refine⟨_,U,_,_,_,_,U,U,SqT.of (e0 _ _ h),U,U,_,U,aU Yd ?_⟩;refine⟨_,U,_,U,_,_,_,_,U,U,SqT.of (e0 _ _ h),U,_,U,_,_,_,_,U,U,SqT.of (e0 _ _ h),U,H0,bb,bs,U,e0,hb',Yo,rb,_,_,U,U,_,_,U,U,zP r1 r2,_,_,U,U,?_⟩;refine⟨U,_,_,U,?_⟩;rw[tk,qc,bB,qH,g6,qc,Qd];have e:(m.toNat:Int)=m:=Int.toNat_of_nonneg r1;simp only[Int.natCast_add,Int.natCast_mul,e,Int.natCast_one];omega
    |_=>exact Qb (λm bb z=>by cases z) nr
  .rintro Y H2 ⟨rfl,v,c,rfl,ec⟩;rw[vl,qN]at ec;have:c=((aH ds).length:Int):=Yo;rw[this];exact⟨_,U,k⟩
theorem Cf(T:Tx P w K mg a){n:Nat}(ih:aN P w K mg base CX0 (2 * n+18) a.Cn a.Db ["block"] (mQ n)):aN P w K mg base CX0 (2 * n+19) a.GR a.GS ["rounds","body"] (tV n):=by
 refine T.J1.ok uZ (λvs H Q E h=>?_) (λcdv A outer s H vs Q E hr h=>?_)
 .obtain⟨_,_,_,_,_,rfl,_⟩:=h
  rfl
 obtain⟨H0,r,b,ds,C,rfl,r0,r9,e0,hb,hdp,bi,hlen,k⟩:=h
 refine⟨_,(ah (aq (i:=2) uZ.nd U Oi (aG (pM T) (hr.mono Yo) U T.Iq T.FS.kp T.Ip .nil aC (a9 aO (a9 (aG (pK T) (hr.mono Yo) U T.Ij T.FN.kp T.Ii .nil aC (a9 (pq 1) ae)) ae))))
  (ah (aM (au aY (pq 0) ac (ax _)) (ak (aA (aT (a9 (pq 2) ae)))) aR)
  (ak (aA (ao fG (aT (a9 (pq 2) ae)) (ao pJ (ao fG (aG ih (hr.mono Yo) U T.J0 T.FR.kp T.IZ .nil aC (a9 (pq 1) ae)) (aT (a9 (pq 2) ae))) (pq 0))))))),?_⟩
 obtain⟨b1,b2,b3,b4,b5,b6⟩:=id bi;refine⟨_,U,H0,b,ds,C,U,e0,hb,b1,b2,b3,b4,b5,λH1 lz zs s1 nz hz nd hm so=>?_⟩;have ez:=kB nd hm so;subst ez;refine⟨_,lz,_,U,hz,λH2 g s2 hg=>?_⟩;have hg:cH H2 g (cy ds):=hg;have s02:=s1.trans s2;refine⟨_,U,U,_,U,?_⟩;refine cN (λc=>?_) (λc=>?_)
 .obtain rfl:r=0:=dX c;refine⟨_,U,ln1,λp hp=>?_⟩;refine k _ p [g] (s02.trans (a8.new hp _)) (a8.none s02 hp) ag ?_;rw[bB];exact .cons (hg.same (a8.new hp _)) .nil
 .have rp:0<r:=by
   have:=eL c;omega
  refine⟨_,U,ln1,λp hp=>?_⟩;have s3:=a8.new hp (.lst [g]);have ri:=AH (b:=ds) rp;refine⟨_,U,H0,b,ds,C,U,(e0.trans s02).trans s3,hb,hdp,bi,Yo,λH4 l4 us4 s4 n4 h4 r4=>?_⟩;refine⟨_,U,ln1,λp5 hp5=>?_⟩;have s5:=a8.new hp5 (.lst [g]);have u4:=r4.len;refine⟨l4,p5,_,_,U,U,SqL.of (s5 _ _ h4),SqL.of ag,bg (m:=3000) (by rw[Qd];omega),λp6 hp6=>?_⟩;have s6:=a8.new hp6 (.lst (us4++[g]));have ln:(bB (.rep r ds)).length=r.toNat * ((aH ds).length+1)+1:=by rw[bB,qH,g6,qc,Qd]
  have lr:(us4++[g]).length * r.toNat<=2000:=by
   rw[qc,Qd,u4,Nat.mul_comm];omega
  refine⟨_,U,p6,_,_,U,U,ag,Yo,Yo,bg (m:=3000) Yo,λp7 hp7=>?_⟩;have s7:=a8.new hp7 (.lst (List.replicate r.toNat (us4++[g])).flatten);have s47:=(s5.trans s6).trans s7;refine⟨p,p7,_,_,U,U,SqL.of (s47 _ _ (s4 _ _ ag)),SqL.of ag,bg (m:=3000) ?_,λp8 hp8=>?_⟩
  .have:((List.replicate r.toNat (us4++[g])).flatten).length=r.toNat * (us4++[g]).length:=g6 _ _;rw[Qd,this,Nat.mul_comm];omega
  .have s8:=a8.new hp8 (.lst ([g]++(List.replicate r.toNat (us4++[g])).flatten));have s48:=s47.trans s8;have gg:cH _ g (cy ds):=(hg.same s3).same (s4.trans s48);have sf:=(s02.trans s3).trans (s4.trans s48);refine k _ p8 _ sf (a8.none ((s02.trans s3).trans (s4.trans s47)) hp8) ag ?_;rw[bB];exact .cons gg (((r4.same s48).app (.cons gg .nil)).reps r.toNat)
theorem Ci(T:Tx P w K mg a):∀n:Nat,aN P w K mg base CX0 (2 * n+18) a.Cn a.Db ["block"] (mQ n):=by
 intro n
 induction n with
 |zero=>
  refine T.FR.ok kJ (λvs H Q E h=>?_) (λcdv A outer s H vs Q E hr h=>?_)
  .obtain⟨_,_,_,_,rfl,_⟩:=h
   rfl
  .obtain⟨_,_,_,_,_,_,_,h0,_⟩:=h;exact Qb h0 (QE _)
 |succ n ih=>
  refine T.FR.ok kJ (λvs H Q E h=>?_) (λcdv A outer s H vs Q E hr h=>?_)
  .obtain⟨_,_,_,_,rfl,_⟩:=h
   rfl
  obtain⟨H0,b,ds,C,rfl,e0,hb,hdp,bi,hlen,k⟩:=h
  refine⟨_,(ah (aq (i:=1) kJ.nd U Oi (aT ae))
   (ah (bL PassesOwn.never U (cq (pq 0)) (aK (i:=2) kJ.nd U Oi)
   (ak (aM (au aY (ai ar (pq 2) ac Oy) aO (ax _)) (ak (bw (bH qi Qu Qt gT (pq 1) (a9 (aG (Cf T ih) (hr.mono Yo) U T.K2 T.J1.kp T.K1 .nil aC (a9 (ai ar (pq 2) ac Oy) (a9 (ai ar (pq 2) ac Oy) ae))) ae)))) (ak (bw (bH qi qC qD cA (pq 1) (a9 (aG (Cg T) (hr.mono Yo) U T.K4 T.J2.kp T.K3 .nil aC (a9 (pq 2) ae)) ae)))))))
   (ak (aA (pq 1))))),?_⟩
  obtain⟨b1,b2,b3,b4,b5,b6⟩:=id bi;obtain⟨hv,hds⟩:=hb;rename_i vs;have vl:=hds.len;refine⟨qz _,λc hc=>?_⟩;have s1:=a8.new hc (.lst []);have big:(10000:Nat)<sizeLine:=Yk;refine⟨_,U,b,U,⟨_,SqL.of (s1 _ _ (e0 _ _ hv))⟩,?_⟩;refine d9 (K:=K) (a:=b) (xs:=vs) (λi Y H2=>∃v us,Y=[some (.ref b),some (.ref c),v]/\a8 H H2/\H2 c=some (.lst us)/\aX H2 us (aH (ds.take i))) ⟨_,[],U,s1,ag,by rw[List.take_zero,aH];exact .nil⟩ ?_ ?_ ?_
  .rintro i Y H2 _ ⟨v,us,_,s2,_⟩;exact SqL.of (s2 _ _ (e0 _ _ hv))
  .rintro i x Y H2 hx ⟨v,us,rfl,s2,h2,hu⟩;obtain⟨d,hd,hrd⟩:=hds.at i x hx;have tk:=oE hd;have at':=AK hd;have ue:=hu.len;have dp:=xJ hd;obtain⟨f1,_⟩:=rS hd;by_cases nrd:∀m bb,d≠.rep m bb
   .obtain⟨px,r,rfl,hp⟩:=hrd.tuple;refine⟨_,U,px,_,_,_,U,U,SqT.of (s2 _ _ (e0 _ _ hp)),at0,U,_,U,?_⟩;refine ifN (sT nrd) ?_;refine⟨_,U,.inl ⟨U,_,SqL.of h2⟩,_,U,H0,_,d,C,U,e0.trans s2,hrd,Yo,Yo,λq hq=>b3 q (xZ hd q hq),b4,b5,nrd,λH3 u s3 hu3=>?_⟩;refine⟨c,us,u,U,U,s3 _ _ h2,Yo,?_⟩;refine⟨_,us++[u],U,a8.over (s2.trans s3) hc,ag,?_⟩;rw[tk,oF nrd];exact((hu.same s3).off (s3 _ _ h2)).snoc (hu3.off (s3 _ _ h2))
   .cases hrd with
    |rep h hb'=>
     rename_i p bb m bs _;obtain⟨r0,rb⟩:=(b6.at hd).rep;obtain⟨r1,r2⟩:=r0 m bs U;rw[aa.depth]at dp
     have f1':(aj bs).length<=1000:=by
      simp only[aa.flat,qH]at f1;omega
     have cb:∀q∈cards bs,q∈C:=λq hq=>b3 q (xZ hd q (by rw[xX];simp[aa.cards,aa.names,aa.others,aa.inner,hq]));refine⟨_,U,_,_,_,_,U,U,SqT.of (s2 _ _ (e0 _ _ h)),U,U,_,U,aU Yd ?_⟩;refine⟨_,U,.inl ⟨U,_,SqL.of h2⟩,_,U,_,_,_,_,U,U,SqT.of (s2 _ _ (e0 _ _ h)),U,_,U,_,_,_,_,U,U,SqT.of (s2 _ _ (e0 _ _ h)),U,H0,m,bb,bs,C,U,r1,r2,e0.trans s2,hb',Yo,⟨Yo,f1',cb,b4,b5,rb⟩,Yo,λH3 l3 us3 s3 n3 h3 hr3=>?_⟩;have u3:=hr3.len;refine⟨c,l3,_,_,U,U,s3 _ _ h2,h3,bg (m:=9000) Yo,?_⟩;refine⟨_,us++us3,U,a8.over (s2.trans s3) hc,ag,?_⟩;rw[tk];exact((hu.same s3).app hr3).off (s3 _ _ h2)
    |_=>exact Qb (λm bb z=>by cases z) nrd
  .rintro Y H2 ⟨v,us,rfl,s2,h2,hu⟩;rw[vl,qN]at hu;exact⟨_,U,k H2 c us s2 hc h2 hu⟩
theorem Ct(T:Tx P w K mg a):aN P w K mg base CX0 45 a.GN a.GO ["program"] ug:=by
 refine T.IW.ok ve (λvs H Q E h=>?_) (λcdv A outer s H vs Q E hr h=>?_)
 .obtain⟨_,_,_,_,_,_,_,_,_,rfl,_⟩:=h
  rfl
 obtain⟨p,la,ls,lb,asks,ss,ds,us,C,rfl,rp,hdp,hfl,ha,hs,hsl,hC,h64,hlen,ra,dl,fed,k⟩:=h
 refine⟨_,(ah (aM (au fH (ao bu (aG (Cu T 13) (hr.mono Yk) U T.IY T.FQ.kp T.IX .nil aC (a9 (ai ar (pq 0) ac Oy) ae)) ac) (gh U T.KL T.r_MOST_DEEDS) (ax _)) (ak vJ) aR)
  (ah (aq (i:=1) ve.nd U Oi (aG (Ci T 13) (hr.mono Yk) U T.J0 T.FR.kp T.IZ .nil aC (a9 (ai ar (pq 0) ac Oy) ae)))
  (ah (bw (bH qi qC qD cA (pq 1) (a9 (aG (pM T) (hr.mono Yk) U T.Iq T.FS.kp T.Ip .nil aC (a9 aO (a9 (aG (Cw T) (hr.mono Yk) U T.JY T.IV.kp T.JX .nil aC (a9 (pq 0) ae)) ae))) ae)))
  (ah (bw (aG (Cv T) (hr.mono Yk) U T.K6 T.J3.kp T.K5 .nil aC (a9 (pq 1) ae)))
  (ak (aA (pq 1))))))),?_⟩
 have hcC:∀q∈cards ds,q∈C:=λq hq=>hC q (by unfold dH;simp[hq]);refine⟨_,U,p,_,_,_,U,U,SqT.of rp.top,U,H,lb,ds,U,a8.refl H,rp.bo,Yo,ra,_,_,U,U,?_⟩;refine⟨_,_,U,U,_,U,?_⟩;refine ay (Qa Yo) ?_;refine⟨_,U,p,_,_,_,U,U,SqT.of rp.top,U,H,lb,ds,C,U,a8.refl H,rp.bo,Yo,⟨hdp,hfl,hcC,h64,hlen,ra⟩,Yo,λH1 l us1 s1 n1 h1 hu1=>?_⟩;have big:(10000:Nat)<sizeLine:=Yk;have ul:=hu1.len;refine⟨_,U,.inl ⟨U,_,SqL.of h1⟩,_,U,p,la,ls,lb,asks,ss,ds,us,C,U,rp.same s1,hdp,hfl,ha,hs,hsl,hC,h64,hlen,λH2 l2 zs s2 h2 nd hm so=>?_⟩;refine⟨"end",l2,zs,U,h2,λH3 v s3 hv=>?_⟩;refine⟨l,us1,v,U,U,s3 _ _ (s2 _ _ h1),Yo,?_⟩;have s13:=s2.trans s3;have ez:=kB nd hm so
 have hrs:aX (upd H3 l (.lst (us1++[v]))) (us1++[v]) (aH ds++[eU asks ss ds]):=by
  refine((hu1.same s13).off (s13 _ _ h1)).snoc ?_;unfold eU;rw[<- ez];exact hv.off (s13 _ _ h1)
 have sf:a8 H (upd H3 l (.lst (us1++[v]))):=a8.over (s1.trans s13) n1;refine⟨_,U,l,_,_,U,ag,hrs,by rw[qc,Qd];omega,fed.snoc U,λr hr'=>?_,λH4 s4=>?_⟩
 .rcases qk.mp hr' with h|h
  .exact vj ds r h
  .rw[qY.mp h];exact .inl U
 .exact⟨_,U,k H4 l _ (sf.trans s4) (s4 _ _ ag) (hrs.same s4)⟩
theorem CN(T:Tx P w K mg a):aN P w K mg base CX0 1 a.Hz a.HE ["_law_pick","_law_peak"] uI:=by
 refine T.Jh.ok Az (λvs H Q E h=>?_) (λcdv A outer s H vs Q E hr h=>?_)
 .obtain⟨_,_,rfl,_⟩:=h
  rfl
 obtain⟨i,j,rfl,k⟩:=h
 refine⟨_,(ah (aM (au aY (ao be (pq 0) ac) ac (ax _)) (ak (aA (ao bu ac (ao be (ao cB (pq 0) ac) ac)))) aR)
  (ah (aM (au aY (ao be (pq 0) ac) ac (ax _)) (ak (aA (ao bu ac (ao be (ao cB (pq 0) ac) ac)))) aR)
  (ak (aA (ao bu ac (ao be (ao cB (pq 0) ac) (aW (y1 U) U T.Jw PyProof.Rows.Boot.«max» (a9 ac (a9 (pq 1) ae))))))))),?_⟩
 unfold jL at k;refine⟨_,U,_,_,U,U,Yk,U,_,U,?_⟩;refine cN (λc=>?_) (λc=>?_)
 .rw[Q8 (dX c)]at k;exact⟨_,U,_,_,U,U,⟨Yk,Yk⟩,_,_,U,U,Yk,_,_,U,U,k⟩
 rw[Q7 (eL c)]at k;refine⟨_,U,_,_,U,U,Yk,U,_,U,?_⟩;refine cN (λc=>?_) (λc=>?_)
 .rw[Q8 (dX c)]at k;exact⟨_,U,_,_,U,U,⟨Yk,Yk⟩,_,_,U,U,Yk,_,_,U,U,k⟩
 rw[Q7 (eL c)]at k;refine⟨_,U,_,_,U,U,⟨Yk,Yk⟩,_,U,1,j,U,_,_,U,U,?_,_,_,U,U,k⟩;split<;>omega
theorem CG(T:Tx P w K mg a):aN P w K mg base CX0 1 a.Hw a.Hy ["_law_moves_here","_law_q"] ux:=by
 refine T.Jg.ok fY (λvs H Q E h=>?_) (λcdv A outer s H vs Q E hr h=>?_)
 .obtain⟨_,_,_,_,rfl,_⟩:=h
  rfl
 obtain⟨l,us,ms,q,rfl,hl,hm,hlen,k⟩:=h
 refine⟨_,(ah (aq (i:=2) fY.nd U Oi ac)
  (ah (aq (i:=3) fY.nd U Oi ac)
  (ah (aq (i:=4) fY.nd U Oi ac)
  (ah (bL PassesOwn.never U (cq (pq 0)) (dA U (bC (aK (i:=5) fY.nd U Oi) (bC (aK (i:=6) fY.nd U Oi) dy)))
  (ak (aM (au aY (pq 6) (pq 1) (ax _)) (ah (aq (i:=2) fY.nd U Oi (ao bu (pq 2) (gM (au aY (pq 5) aO (ax _)) ac (cX cR ac))))
  (ah (aq (i:=3) fY.nd U Oi (aW (y0 U) U T.Jx PyProof.Rows.Boot.«min» (a9 (pq 3) (a9 (pq 2) ae))))
  (ak (aq (i:=4) fY.nd U Oi (aW (y1 U) U T.Jw PyProof.Rows.Boot.«max» (a9 (pq 4) (a9 (pq 2) ae))))))) aR)))
  (ak (aA (ba (a9 (cX cR (pq 3)) (a9 (ao iV (pq 4) (pq 3)) ae))))))))),?_⟩
 have ul:=hm.len;refine⟨_,U,l,U,⟨_,SqL.of hl⟩,?_⟩;refine d9 (K:=K) (a:=l) (xs:=us) (λi Y H2=>H2=H/\∃v v',Y=[some (.ref l),some (.str q),some (.int (aZ q (ms.take i)).1),some (.int (aZ q (ms.take i)).2.1),some (.int (aZ q (ms.take i)).2.2),v,v']) ⟨U,_,_,U⟩ ?_ ?_ ?_
 .rintro i Y H2 _ ⟨rfl,_⟩;exact SqL.of hl
 .rintro i x Y H2 hx ⟨rfl,v,v',rfl⟩;obtain⟨p,m,rfl,hi,hp⟩:=hm.at i x hx;have tk:ms.take (i+1)=ms.take i++[m]:=by rw[qy,hi];rfl
  refine⟨p,_,U,SqT.of hp,U,_,_,U,_,_,U,U,?_⟩;refine⟨_,U,_,U,U,_,U,?_⟩;rw[tk,oJ];unfold cU g9;by_cases e:m.2=q
  .rw[Q8 e];refine aU (by rw[e];simp) ?_;refine⟨_,U,_,U,U,_,U,?_⟩;by_cases e2:m.1="put"
   .simp only[Q8 e2];refine aU (by rw[e2];simp) ?_;exact⟨_,_,U,U,_,U,_,U,_,_,U,_,U,_,U,_,_,U,U,_,_,U⟩
   .simp only[Q7 e2];refine ay (by simp[e2]) ?_;exact⟨1,U,_,_,U,U,_,U,_,U,_,_,U,_,U,_,U,_,_,U,U,_,_,U⟩
  .rw[Q7 e];exact ay (by simp[e]) ⟨U,_,_,U⟩
 .rintro Y H2 ⟨rfl,v,v',rfl⟩;rw[ul,qN];exact⟨_,U,_,U,_,U,_,U,_,_,U,U,ln2,k⟩
theorem CL(T:Tx P w K mg a):∀n:Nat,aN P w K mg base CX0 (n+1) a.Hu a.Hv ["_law_block_here"] (uE n):=by
 intro n
 induction n with
 |zero=>
  refine T.FV.ok iP (λvs H Q E h=>?_) (λcdv A outer s H vs Q E hr h=>?_)
  .obtain⟨_,_,_,rfl,_⟩:=h
   rfl
  .obtain⟨_,_,_,_,_,_,h0,_⟩:=h;exact Qb h0 (QE _)
 |succ n ih=>
 refine T.FV.ok iP (λvs H Q E h=>?_) (λcdv A outer s H vs Q E hr h=>?_)
 .obtain⟨_,_,_,rfl,_⟩:=h
  rfl
 obtain⟨H0,b,ds,rfl,e0,hb,hdp,ra,dl,k⟩:=h
 refine⟨_,(ah (aq (i:=1) iP.nd U Oi (aT ae))
  (ah (bL PassesOwn.never U (cq (pq 0)) (aK (i:=2) iP.nd U Oi)
  (ah (aM (PW.pt (d6 (au aY (ai ar (pq 2) ac Oy) aO (ax _)) (fJ (au aY (ai ar (pq 2) ac Oy) aO (ax _))))) (ak (bw (bH qi qC qD cA (pq 1) (a9 (ba (a9 (ai ar (pq 2) ac Oy) (a9 (ai ar (pq 2) ac Oy) ae))) ae)))) aR)
  (ak (aM (PW.pt (gc (au aY (ai ar (pq 2) ac Oy) aO (ax _)) (i7 (au fH (ai ar (pq 2) ac Oy) ac (ax _))))) (ah (aq (i:=3) iP.nd U Oi (aG ih (hr.mono Yo) U T.Jf T.FV.kp T.Je .nil aC (a9 (ai ar (pq 2) ac Oy) ae)))
  (ak (bL PassesOwn.never U (ic U T.u8 (a9 (ai ar (pq 2) ac Oy) ae)) (aK (i:=4) iP.nd U Oi)
  (ak (bw (bH qi Qu Qt gT (pq 1) (a9 (pq 3) ae))))))) aR))))
  (ak (aA (pq 1))))),?_⟩
 obtain⟨hv,hds⟩:=hb;rename_i vs;have vl:=hds.len;refine⟨qz _,λc hc=>?_⟩;have s1:=a8.new hc (.lst []);refine⟨_,U,b,U,⟨_,SqL.of (s1 _ _ (e0 _ _ hv))⟩,?_⟩;refine d9 (K:=K) (a:=b) (xs:=vs) (λi Y H2=>∃v v' v'' us,Y=[some (.ref b),some (.ref c),v,v',v'']/\a8 H H2/\H2 c=some (.lst us)/\RMs H2 us (bx (ds.take i))) ⟨_,_,_,[],U,s1,ag,by rw[List.take_zero,bx];exact .nil⟩ ?_ ?_ ?_
 .rintro i Y H2 _ ⟨v,v',v'',us,_,s2,_⟩;exact SqL.of (s2 _ _ (e0 _ _ hv))
 .rintro i x Y H2 hx ⟨v,v',v'',us,rfl,s2,h2,hu⟩;obtain⟨d,hd,hrd⟩:=hds.at i x hx;have tk:=wF hd;have at':=Df hd;have ul:=hu.len;rw[tk];have big:(10000:Nat)<sizeLine:=Yk
  cases hrd with
  |put h=>
   rename_i p q x;refine⟨_,U,_,_,_,_,U,U,SqT.of (s2 _ _ (e0 _ _ h)),U,U,_,U,?_⟩;refine aU Yd (aU U ?_);refine⟨_,U,.inl ⟨U,_,SqL.of h2⟩,_,U,_,_,_,_,U,U,SqT.of (s2 _ _ (e0 _ _ h)),U,_,U,_,_,_,_,U,U,SqT.of (s2 _ _ (e0 _ _ h)),U,ln2,λp1 hp1=>?_⟩;have s3:=a8.new hp1 (.tup [V.str "put",V.str q]);refine⟨c,us,.ref p1,U,U,s3 _ _ h2,Yo,?_⟩;have s4:a8 H (upd (upd H2 p1 (.tup [V.str "put",V.str q])) c (.lst (us++[.ref p1]))):=a8.over (s2.trans s3) hc;refine⟨_,U,_,_,_,_,U,U,SqT.of (s4 _ _ (e0 _ _ h)),U,U,_,U,ay Yd (ay U ?_)⟩;refine⟨_,_,_,us++[.ref p1],U,s4,ag,?_⟩;rw[cD];refine((hu.same s3).off (s3 _ _ h2)).snoc (m:=("put",q)) ?_;rw[af (λz=>by rw[z,h2]at hp1;cases hp1)];exact ag
  |get h=>
   rename_i p q x;refine⟨_,U,_,_,_,_,U,U,SqT.of (s2 _ _ (e0 _ _ h)),U,U,_,U,?_⟩;refine ay Yd ?_;refine⟨_,U,_,_,_,_,U,U,SqT.of (s2 _ _ (e0 _ _ h)),U,U,_,U,?_⟩;refine aU Yd ?_;refine⟨_,U,.inl ⟨U,_,SqL.of h2⟩,_,U,_,_,_,_,U,U,SqT.of (s2 _ _ (e0 _ _ h)),U,_,U,_,_,_,_,U,U,SqT.of (s2 _ _ (e0 _ _ h)),U,ln2,λp1 hp1=>?_⟩;have s3:=a8.new hp1 (.tup [V.str "get",V.str q]);refine⟨c,us,.ref p1,U,U,s3 _ _ h2,Yo,?_⟩;have s4:a8 H (upd (upd H2 p1 (.tup [V.str "get",V.str q])) c (.lst (us++[.ref p1]))):=a8.over (s2.trans s3) hc;refine⟨_,U,_,_,_,_,U,U,SqT.of (s4 _ _ (e0 _ _ h)),U,U,_,U,ay Yd (ay U ?_)⟩;refine⟨_,_,_,us++[.ref p1],U,s4,ag,?_⟩;rw[cD];refine((hu.same s3).off (s3 _ _ h2)).snoc (m:=("get",q)) ?_;rw[af (λz=>by rw[z,h2]at hp1;cases hp1)];exact ag
  |set h=>
   refine⟨_,U,_,_,_,_,U,U,SqT.of (s2 _ _ (e0 _ _ h)),U,U,_,U,?_⟩;refine ay Yd ?_;refine⟨_,U,_,_,_,_,U,U,SqT.of (s2 _ _ (e0 _ _ h)),U,U,_,U,?_⟩;refine ay Yd ?_;refine⟨_,U,_,_,_,_,U,U,SqT.of (s2 _ _ (e0 _ _ h)),U,U,_,U,?_⟩;refine ay Yd (ay U ?_);exact⟨_,_,_,us,U,s2,h2,by simpa[cD]using hu⟩
  |give h=>
   refine⟨_,U,_,_,_,_,U,U,SqT.of (s2 _ _ (e0 _ _ h)),U,U,_,U,?_⟩;refine ay Yd ?_;refine⟨_,U,_,_,_,_,U,U,SqT.of (s2 _ _ (e0 _ _ h)),U,U,_,U,?_⟩;refine ay Yd ?_;refine⟨_,U,_,_,_,_,U,U,SqT.of (s2 _ _ (e0 _ _ h)),U,U,_,U,?_⟩;refine ay Yd (ay U ?_);exact⟨_,_,_,us,U,s2,h2,by simpa[cD]using hu⟩
  |cond h _ _=>
   refine⟨_,U,_,_,_,_,U,U,SqT.of (s2 _ _ (e0 _ _ h)),U,U,_,U,?_⟩;refine ay Yd ?_;refine⟨_,U,_,_,_,_,U,U,SqT.of (s2 _ _ (e0 _ _ h)),U,U,_,U,?_⟩;refine ay Yd ?_;refine⟨_,U,_,_,_,_,U,U,SqT.of (s2 _ _ (e0 _ _ h)),U,U,_,U,?_⟩;refine ay Yd (ay U ?_);exact⟨_,_,_,us,U,s2,h2,by simpa[cD]using hu⟩
  |whl h _=>
   refine⟨_,U,_,_,_,_,U,U,SqT.of (s2 _ _ (e0 _ _ h)),U,U,_,U,?_⟩;refine ay Yd ?_;refine⟨_,U,_,_,_,_,U,U,SqT.of (s2 _ _ (e0 _ _ h)),U,U,_,U,?_⟩;refine ay Yd ?_;refine⟨_,U,_,_,_,_,U,U,SqT.of (s2 _ _ (e0 _ _ h)),U,U,_,U,?_⟩;refine ay Yd (ay U ?_);exact⟨_,_,_,us,U,s2,h2,by simpa[cD]using hu⟩
  |rep h hb'=>
   rename_i p bb m bs;obtain⟨r0,rb⟩:=(ra.at hd).rep;obtain⟨r1,r2⟩:=r0 m bs U;have dd:=lZ hd;rw[aa.depth]at dd;have ml:(cD (.rep m bs)).length=m.toNat * (bx bs).length:=by rw[cD,g6]
   refine⟨_,U,_,_,_,_,U,U,SqT.of (s2 _ _ (e0 _ _ h)),U,U,_,U,?_⟩;refine ay Yd ?_;refine⟨_,U,_,_,_,_,U,U,SqT.of (s2 _ _ (e0 _ _ h)),U,U,_,U,?_⟩;refine ay Yd ?_;refine⟨_,U,_,_,_,_,U,U,SqT.of (s2 _ _ (e0 _ _ h)),U,U,_,U,?_⟩;refine aU Yd ?_;refine⟨_,U,_,_,_,_,U,U,SqT.of (s2 _ _ (e0 _ _ h)),U,_,_,U,U,_,U,?_⟩;refine cN (λcc=>?_) (λcc=>?_)
   .have mp:0<m:=Qj cc
    have bl:(bx bs).length<=1000:=by
     have:1 * (bx bs).length<=m.toNat * (bx bs).length:=Nat.mul_le_mul_right _ Yo;omega
    refine⟨_,U,_,_,_,_,U,U,SqT.of (s2 _ _ (e0 _ _ h)),U,H0,bb,bs,U,e0.trans s2,hb',Yo,rb,bl,λH3 l3 us3 s3 n3 h3 r3=>?_⟩;have nl:l3≠c:=λz=>by rw[z,h2]at n3;cases n3
    have u3:=r3.len;have s23:=s2.trans s3;refine⟨_,U,_,_,_,_,U,U,SqT.of (s23 _ _ (e0 _ _ h)),U,_,U,Yo,Yo,?_⟩;refine j7 (λj Y H4=>∃v,Y=[some (.ref b),some (.ref c),some (.ref p),some (.ref l3),v]/\a8 H H4/\H4 l3=some (.lst us3)/\RMs H4 us3 (bx bs)/\∃us4,H4 c=some (.lst us4)/\RMs H4 us4 (bx (ds.take i)++reps j (bx bs))) ⟨_,U,s23,h3,r3,us,s3 _ _ h2,by rw[oG,qE];exact hu.same s3⟩ ?_ ?_
    .rintro j Y H4 hj ⟨v,rfl,s4,h4,r4,us4,hc4,hu4⟩;have u4:=hu4.len;rw[qc,g6]at u4;have jl:j * (bx bs).length<=m.toNat * (bx bs).length:=Nat.mul_le_mul_right _ Yo;refine⟨_,U,.inl ⟨U,_,SqL.of hc4⟩,_,U,c,l3,_,_,U,U,hc4,h4,bg (m:=9000) Yo,?_⟩;refine⟨_,U,a8.over s4 hc,by rw[af nl];exact h4,r4.off hc4,us4++us3,ag,?_⟩;rw[vq,<- qT];exact(hu4.app r4).off hc4
    .rintro Y H4 ⟨v,rfl,s4,h4,r4,us4,hc4,hu4⟩;refine⟨_,_,_,us4,U,s4,hc4,?_⟩;rw[cD];exact hu4
   .have mz:m.toNat=0:=by
     have:=cc;simp at this;omega
    refine⟨_,_,_,us,U,s2,h2,?_⟩;rw[cD,mz,oG,qE];exact hu
 .rintro Y H2 ⟨v,v',v'',us,rfl,s2,h2,hu⟩;rw[vl,qN]at hu;exact⟨_,U,k H2 c us s2 hc h2 hu⟩
theorem kX(c:Int)(n:Nat):(d7 c n).length=n:=by
 unfold d7;split
 .rw[List.length_reverse,jz]
 .exact jz c n
theorem EK(ns:List Int):eV (ns.map V.int) (some 3) (some 63)=(eX ns 3 63).map V.int:=by
 unfold eV eX;have e1:HT.sIx (ns.map V.int).length 0 (some 3)=min 3 ns.length:=by rw[qa];exact HT.sIx_nat _ _ 3
 have e2:HT.sIx (ns.map V.int).length (ns.map V.int).length (some 63)=min 63 ns.length:=by rw[qa];exact HT.sIx_nat _ _ 63
 rw[e1,e2,List.map_take,List.map_drop]
seal d7
theorem CH(T:Tx P w K mg a):aN P w K mg base CX0 16 a.HF a.HG ["_law_script","_law_most"] (uy K):=by
 refine T.Ji.ok dG (λvs H Q E h=>?_) (λcdv A outer s H vs Q E hr h=>?_)
 .obtain⟨_,_,rfl,_⟩:=h
  rfl
 obtain⟨l,ns,rfl,hl,h63,bdp,bra,ml,bfl,q⟩:=h;have bl:(dD ns).length<=60:=qF (lM _) bfl
 refine⟨_,(ah (aq (i:=2) dG.nd U Oi (aG (lA T) (hr.mono Yk) U T.FU T.wT.kp T.FT .nil aC (a9 (pq 0) (a9 ac ae))))
  (ah (aq (i:=3) dG.nd U Oi (aG (lA T) (hr.mono Yk) U T.FU T.wT.kp T.FT .nil aC (a9 (pq 0) (a9 ac ae))))
  (ah (aq (i:=4) dG.nd U (Or.inr U) (aG (lA T) (hr.mono Yk) U T.FU T.wT.kp T.FT .nil aC (a9 (pq 0) (a9 ac ae))))
  (ah (aq (i:=5) dG.nd U (Or.inr U) (aG (w6 T) (hr.mono Yk) U T.Ja T.Iv.kp T.J9 .nil aC (a9 (pq 2) (a9 (ao bu ac (ao be (aG (fO T) (hr.mono Yk) U T.mt T.gt.kp T.ld .nil aC (a9 (pq 3) (a9 ac ae))) ac)) ae))))
  (ah (aq (i:=6) dG.nd U Oi (gf kD (pq 5) i9 (fk (cX cR ac))))
  (ah (aq (i:=7) dG.nd U Oi (aG (w6 T) (hr.mono Yk) U T.Ja T.Iv.kp T.J9 .nil aC (a9 (gM (au aY (ao be (aG (fO T) (hr.mono Yk) U T.mt T.gt.kp T.ld .nil aC (a9 (pq 3) (a9 ac ae))) ac) ac (ax _)) (pq 2) (pq 3)) (a9 (aW (y0 U) U T.Jx PyProof.Rows.Boot.«min» (a9 ac (a9 (ao be (aG (fO T) (hr.mono Yk) U T.mt T.gt.kp T.ld .nil aC (a9 (pq 3) (a9 ac ae))) ac) ae))) ae))))
  (ah (aq (i:=8) dG.nd U Oi (aG (CP T) (hr.mono Yk) U T.Ke T.Jd.kp T.Kd .nil aC (a9 (gf kD (pq 0) (fk ac) (fk ac)) (a9 (pq 6) (a9 (pq 7) (a9 (pq 1) (a9 ac ae)))))))
  (ah (aq (i:=9) dG.nd U Oi (aG (CL T 13) (hr.mono Yk) U T.Jf T.FV.kp T.Je .nil aC (a9 (pq 8) ae)))
  (ah (aq (i:=10) dG.nd U Oi (aT ae))
  (ah (aq (i:=11) dG.nd U Oi (aT ae))
  (ah (bL PassesOwn.never U (ic U T.u8 (a9 (aW bK U T.dz Qe (a9 (pq 7) ae)) ae)) (aK (i:=12) dG.nd U Oi)
  (ah (gK (aG (CG T) (hr.mono Yk) U T.Kg T.Jg.kp T.Kf .nil aC (a9 (pq 9) (a9 (ai aE (pq 7) (pq 12) Oy) ae))) (dA U (bC (aK (i:=13) dG.nd U Oi) (bC (aK (i:=14) dG.nd U Oi) dy))))
  (ah (bw (bH qi Qu Qt gT (pq 10) (a9 (ao pJ (aT (a9 (ba (a9 aO (a9 (ai aE (pq 7) (pq 12) Oy) (a9 (ai aE (pq 6) (ao be (pq 12) (aW bK U T.dz Qe (a9 (pq 6) ae))) Oy) ae)))) ae)) (pq 13)) ae)))
  (ak (bw (bH qi qC qD cA (pq 11) (a9 (ba (a9 (ai aE (pq 7) (pq 12) Oy) (a9 (aG (CN T) (hr.mono Yk) U T.Ki T.Jh.kp T.Kh .nil aC (a9 (aG (fO T) (hr.mono Yk) U T.mt T.gt.kp T.ld .nil aC (a9 (pq 4) (a9 (ao bu (pq 12) ac) ae))) (a9 (pq 14) ae))) ae))) ae)))))))
  (ah (pA (i:=15) dG.nd U Oi (k:=1) (Nc:=["_law_k","_law_words","_law_third"]) (js:=[5,4]) (show bE (aI kR) ["_law_script","_law_most","_law_first","_law_second","_law_third","_law_words","_law_names","_law_rooms","_law_body","_law_moves_here","_law_front","_law_stores","_law_k","_law_lacking","_law_peak","_law_asks"] _ 1 ["_law_k","_law_words","_law_third"] [5,4]from bE.mk U (by decide +kernel) (by decide +kernel) (by decide +kernel) U (by decide +kernel)) U (ic U T.u8 (a9 (aW bK U T.dz Qe (a9 (pq 5) ae)) ae)) (λ_ _ _ _ _=>(aK (i:=0) (show List.Nodup (["_law_k","_law_words","_law_third"]:List Str)from by decide +kernel) U Oi)) (λ_ _ _ _ _=>(iZ (au aY (ao be (aG (fO T) (hr.mono Yk) U T.mt T.gt.kp T.ld .nil aC (a9 (pq 2) (a9 (ao bu (pq 0) ac) ae))) ac) ac (ax _)))) (λ_ _ _ _ _=>(ai (Bc (K:=K) U) (pq 1) (pq 0) Oy)))
  (ak (aA (ba (a9 (pq 15) (a9 (pq 11) (a9 (ao fG (pq 10) (pq 8)) ae)))))))))))))))))),?_⟩
 have e0:(0:Int).toNat=0:=U;have e1:(1:Int).toNat=1:=U;have e2:(2:Int).toNat=2:=U;refine⟨_,U,l,ns,0,U,hl,Yo,Yk,?_⟩;refine⟨_,U,l,ns,1,U,hl,Yo,Yk,?_⟩;refine⟨_,U,l,ns,2,U,hl,Yo,Yk,?_⟩;rw[e0,e1,e2];have a0:=lF (ns.getD 1 0) 1;have a3:=lF (ns.getD 1 0) 3;have wl:(ca ns).length=(2+aF (ns.getD 1 0) 1 % 4).toNat:=kX _ _;have nl:(bM ns).length=(ca ns).length-1:=QG;have rl:(aD ns).length=(if aF (ns.getD 1 0) 3 % 5<3 then aF (ns.getD 1 0) 3 % 5 else 3).toNat:=kX _ _;have rl3:(aD ns).length<=3:=by rw[rl];split<;>omega
 have cl:(eX ns 3 63).length<=100:=by unfold eX;rw[qQ];omega
 refine⟨_,U,_,U,_,1,U,Yk,Yk,_,_,U,U,Yk,_,_,U,U,_,_,U,Yo,Yo,λH2 ln s2 nl2 hl2=>?_⟩;have hw2:H2 ln=some (.lst ((ca ns).map V.str)):=hl2;refine⟨_,U,_,U,_,U,ln,_,U,SqL.of hw2,λc2 hc2=>?_⟩;rw[EL (ca ns) Yo];have sc2:a8 H2 (upd H2 c2 (.lst ((ca ns).dropLast.map V.str))):=a8.new hc2 _;have hn2:(upd H2 c2 (.lst ((ca ns).dropLast.map V.str))) c2=some (.lst ((bM ns).map V.str)):=ag;have s02:=s2.trans sc2;have hw2:=sc2 _ _ hw2;generalize upd H2 c2 (.lst ((ca ns).dropLast.map V.str))=H2' at hn2 s02 hw2 ⊢;refine⟨_,U,_,2,U,Yk,Yk,_,_,U,U,Yk,U,_,U,?_⟩;refine DT U U ?_;refine⟨_,U,_,3,U,Yk,Yk,_,_,U,U,Yk,3,_,U,_,_,U,by split<;>omega,by split<;>omega,λH3 lr s3 nr3 hr3=>?_⟩
 have hr3:H3 lr=some (.lst ((aD ns).map V.str)):=by
  rw[hr3];unfold aD
  congr 5
  exact propext ⟨dX,λz=>by rw[z];rfl⟩
 have s03:=s02.trans s3;have hw3:=s3 _ _ hw2;have hn3:=s3 _ _ hn2;refine⟨_,U,_,U,_,U,l,_,U,s03.seq hl,λc hc=>?_⟩;rw[EK];have sc:a8 H3 (upd H3 c (.lst ((eX ns 3 63).map V.int))):=a8.new hc _;refine⟨_,U,_,U,_,U,c,c2,lr,eX ns 3 63,bM ns,aD ns,2,7,U,SqL.of ag,SqL.of (sc _ _ hn3),SqL.of (sc _ _ hr3),cl,Yo,Yo,Yo,Yk,Yk,λH4 b s4 nb hb=>?_⟩;have s34:=sc.trans s4;have hw4:=s34 _ _ hw3;have hn4:=s34 _ _ hn3;have hr4:=s34 _ _ hr3;have s04:=s03.trans s34;refine⟨_,U,H4,b,dD ns,U,a8.refl _,hb,Yo,bra,qF ml Yk,λH5 lm ums s5 nlm hlm hms=>?_⟩;refine⟨qz _,λcf hcf=>⟨qz _,λcs hcs=>?_⟩⟩;have nfs:cf≠cs:=λz=>by rw[z,ag]at hcs;cases hcs
 have s7:a8 H5 (upd (upd H5 cf (.lst [])) cs (.lst [])):=(a8.new hcf _).trans (a8.new hcs _);have fs0:H5 cs=none:=a8.none (a8.new hcf _) hcs;have lro:(((aD ns).map V.str).length:Int).toNat=(aD ns).length:=by simp
 have lw:(((ca ns).map V.str).length:Int).toNat=(ca ns).length:=by simp
 have lw':((ca ns).map V.str).length=(ca ns).length:=qa _;have lr':((aD ns).map V.str).length=(aD ns).length:=qa _;have big:(10000:Nat)<sizeLine:=Yk;refine⟨_,U,lr,_,U,.inl (SqL.of (s7 _ _ (s5 _ _ hr4))),_,U,Yo,Yo,?_⟩;rw[lro];refine j7 (λi Y H6=>∃v v' v'' fs ss,Y=[some (.ref l),some (.int 2),some (.int (ns.getD 0 0)),some (.int (ns.getD 1 0)),some (.int (ns.getD 2 0)),some (.ref ln),some (.ref c2),some (.ref lr),some (.ref b),some (.ref lm),some (.ref cf),some (.ref cs),v,v',v'',none]/\a8 H5 H6/\H6 cf=some (.lst fs)/\RPs H6 fs (ir (aD ns) (bM ns) (bn ns) i)/\H6 cs=some (.lst ss)/\RSs H6 ss (fD (aD ns) (ns.getD 2 0) (bn ns) i)) ⟨_,_,_,[],[],U,s7,by rw[af nfs];exact ag,.nil,ag,.nil⟩ ?_ ?_
 .rintro i Y H6 hi ⟨v,v',v'',fs,ss,rfl,s6,hf,rf,hs,rs⟩;rw[Int.zero_add];have e:atI ((aD ns).map V.str) (i:Int)=some (.str ((aD ns).getD i (">":Str))):=yf hi;have en:atI ((bM ns).map V.str) ((i:Int) % (((bM ns).map V.str).length:Int))=some (.str (nth (bM ns) (i:Int))):=ij Yo _;have nl':((bM ns).map V.str).length=(bM ns).length:=qa _;have fl:=rf.len;have sl:=rs.len;rw[mK]at sl
  have fm:(ir (aD ns) (bM ns) (bn ns) i).length<=720:=by
   have h1:=lV (aD ns) (bM ns) (bn ns) i;rw[<- lW,qa]at h1;have:i * (bn ns).length<=3 * 240:=Nat.mul_le_mul Yo ml;omega
  have lk:=wW ((aD ns).getD i (">":Str)) (bn ns);have lkb:=kW ((aD ns).getD i (">":Str)) (bn ns);refine⟨_,U,_,U,_,U,lr,_,_,_,U,U,SqL.of (s6 _ _ (s5 _ _ hr4)),e,lm,ums,bn ns,_,U,s6 _ _ hlm,hms.same s6,Yo,λpr hpr=>⟨pr,_,U,SqT.of ag,U,_,_,U,_,_,U,U,?_⟩⟩;have s67:=a8.new hpr (.tup [.int (-(aZ ((aD ns).getD i (">":Str)) (bn ns)).2.1),.int ((aZ ((aD ns).getD i (">":Str)) (bn ns)).2.2-(aZ ((aD ns).getD i (">":Str)) (bn ns)).2.1)]);have s57:=s6.trans s67;have hr7:=s57 _ _ (s5 _ _ hr4);have hn7:=s57 _ _ (s5 _ _ hn4);have hf7:=s67 _ _ hf;have hs7:=s67 _ _ hs;have rf7:=rf.same s67;have rs7:=rs.same s67;generalize upd H6 pr (.tup [.int (-(aZ ((aD ns).getD i (">":Str)) (bn ns)).2.1),.int ((aZ ((aD ns).getD i (">":Str)) (bn ns)).2.2-(aZ ((aD ns).getD i (">":Str)) (bn ns)).2.1)])=H7 at s57 hr7 hn7 hf7 hs7 rf7 rs7 ⊢;clear s67 hf hs rf rs;refine⟨_,U,.inl ⟨U,_,SqL.of hf7⟩,_,U,_,U,lr,_,_,_,U,U,SqL.of hr7,e,_,U,_,U,_,U,c2,_,U,.inl (SqL.of hn7),_,_,U,U,Yo,c2,_,_,_,U,U,SqL.of hn7,en,ln3,λpt hpt=>⟨ln1,λpl hpl=>?_⟩⟩;have st:=a8.new hpt (.tup [.str "put",.str ((aD ns).getD i (">":Str)),.str (nth (bM ns) (i:Int))]);have sl8:=a8.new hpl (.lst [.ref pt]);refine⟨_,U,pl,_,_,U,U,ag,Yo,Yo,by show 1 * fQ _ _<=_;omega,λpq hpq=>?_⟩;rw[xy];have s9:=(st.trans sl8).trans (a8.new hpq (.lst (List.replicate (-(aZ ((aD ns).getD i (">":Str)) (bn ns)).2.1).toNat (.ref pt))));refine⟨cf,pq,_,_,U,U,s9 _ _ hf7,ag,bg (m:=9000) (by rw[List.length_replicate];show fs.length+fQ _ _<=_;omega),?_⟩;have pt9:=(sl8.trans (a8.new hpq (.lst (List.replicate (-(aZ ((aD ns).getD i (">":Str)) (bn ns)).2.1).toNat (.ref pt))))) _ _ (ag (H:=H7) (a:=pt) (o:=.tup [.str "put",.str ((aD ns).getD i (">":Str)),.str (nth (bM ns) (i:Int))]));have s510:=a8.over (o:=.lst (fs++List.replicate (-(aZ ((aD ns).getD i (">":Str)) (bn ns)).2.1).toNat (.ref pt))) (s57.trans s9) hcf;have rf10:RPs _ _ (ir (aD ns) (bM ns) (bn ns) (i+1)):=((rf7.same s9).app (RPs.rep (m:=((aD ns).getD i (">":Str),nth (bM ns) (i:Int))) pt9 (fQ ((aD ns).getD i (">":Str)) (bn ns)))).off (o:=.lst (fs++List.replicate (-(aZ ((aD ns).getD i (">":Str)) (bn ns)).2.1).toNat (.ref pt))) (s9 _ _ hf7);have rs10:=(rs7.same s9).off (o:=.lst (fs++List.replicate (-(aZ ((aD ns).getD i (">":Str)) (bn ns)).2.1).toNat (.ref pt))) (s9 _ _ hf7);have hs10:=(af (H:=(upd (upd (upd H7 pt (.tup [.str "put",.str ((aD ns).getD i (">":Str)),.str (nth (bM ns) (i:Int))])) pl (.lst [.ref pt])) pq (.lst (List.replicate (-(aZ ((aD ns).getD i (">":Str)) (bn ns)).2.1).toNat (.ref pt))))) (o:=.lst (fs++List.replicate (-(aZ ((aD ns).getD i (">":Str)) (bn ns)).2.1).toNat (.ref pt))) (Ne.symm nfs)).trans (s9 _ _ hs7);have hf10:=ag (H:=(upd (upd (upd H7 pt (.tup [.str "put",.str ((aD ns).getD i (">":Str)),.str (nth (bM ns) (i:Int))])) pl (.lst [.ref pt])) pq (.lst (List.replicate (-(aZ ((aD ns).getD i (">":Str)) (bn ns)).2.1).toNat (.ref pt))))) (a:=cf) (o:=.lst (fs++List.replicate (-(aZ ((aD ns).getD i (">":Str)) (bn ns)).2.1).toNat (.ref pt)));generalize upd (upd (upd (upd H7 pt (.tup [.str "put",.str ((aD ns).getD i (">":Str)),.str (nth (bM ns) (i:Int))])) pl (.lst [.ref pt])) pq (.lst (List.replicate (-(aZ ((aD ns).getD i (">":Str)) (bn ns)).2.1).toNat (.ref pt)))) cf (.lst (fs++List.replicate (-(aZ ((aD ns).getD i (">":Str)) (bn ns)).2.1).toNat (.ref pt)))=H10 at s510 rf10 rs10 hs10 hf10 ⊢;refine⟨_,U,.inl ⟨U,_,SqL.of hs10⟩,_,U,_,U,lr,_,_,_,U,U,SqL.of (s510 _ _ (s5 _ _ hr4)),e,_,U,_,U,_,_,U,U,_,_,U,Yo,Yo,_,U,_,_,U,ln2,λpz hpz=>?_⟩;refine⟨cs,ss,.ref pz,U,U,a8.new hpz _ _ _ hs10,Yo,?_⟩;refine⟨_,_,_,_,ss++[.ref pz],U,a8.over (s510.trans (a8.new hpz _)) fs0,?_,(rf10.same (a8.new hpz _)).off (a8.new hpz _ _ _ hs10),ag,?_⟩
  .rw[af nfs];exact a8.new hpz _ _ _ hf10
  .exact((rs10.same (a8.new hpz _)).snoc ag).off (a8.new hpz _ _ _ hs10)
 .rintro Y H6 ⟨v,v',v'',fs,ss,rfl,s6,hf,rf,hs,rs⟩;refine⟨_,U,ln,_,U,.inl (SqL.of (s6 _ _ (s5 _ _ hw4))),_,U,Yo,Yo,?_⟩;rw[lw];refine EQ (λi ys Y H9=>(∃v,Y=[v,some (.ref ln),some (.int (ns.getD 2 0))])/\a8 H6 H9/\ys=(eY (ca ns) (ns.getD 2 0) i).map V.str) ⟨⟨none,U⟩,a8.refl _,U⟩ ?_ (bg (m:=100) Yo) ?_ ?_
  .rintro i ys Y H9 _ ⟨_,_,rfl⟩;rw[qa];exact sF _ _ _
  .rintro i ys Y H9 hi ⟨⟨v,rfl⟩,s9,rfl⟩;refine⟨_,U,_,U,_,_,U,U,_,_,U,Yo,Yo,_,_,U,U,Yk,U,_,U,?_⟩;refine cN (λcc=>?_) (λcc=>?_)
   .have cc:=dX cc;refine⟨_,U,_,U,ln,_,_,_,U,U,SqL.of (s9 _ _ (s6 _ _ (s5 _ _ hw4))),yf hi,⟨_,U⟩,s9,?_⟩;rw[eY,Q8 cc];simp
   .have cc:=eL cc;refine⟨⟨_,U⟩,s9,?_⟩;rw[eY,Q7 cc];simp
  rintro ys Y9 H9 ⟨_,s9,rfl⟩ la hla;have s10:=s9.trans (a8.new hla (.lst ((eY (ca ns) (ns.getD 2 0) (ca ns).length).map V.str)));obtain⟨hv,hds⟩:=hb;rename_i bvs;have sb:a8 H4 (upd H9 la (.lst ((eY (ca ns) (ns.getD 2 0) (ca ns).length).map V.str))):=s5.trans (s6.trans s10);have bv:bvs.length=(dD ns).length:=hds.len;have fl:=rf.len
  have fm:(ir (aD ns) (bM ns) (bn ns) (aD ns).length).length<=720:=by
   have h1:=lV (aD ns) (bM ns) (bn ns) (aD ns).length;rw[<- lW,qa]at h1;have:(aD ns).length * (bn ns).length<=3 * 240:=Nat.mul_le_mul rl3 ml;omega
  refine⟨_,U,_,U,_,U,_,U,cf,b,_,_,U,U,SqL.of (s10 _ _ hf),SqL.of (sb _ _ hv),bg (m:=9000) Yo,λpb hpb=>⟨ln3,λp hp=>?_⟩⟩;have s11:=a8.new hpb (.lst (fs++bvs));have s12:=a8.new hp (.tup [.ref la,.ref cs,.ref pb]);have s112:=s11.trans s12;refine q _ p la cs pb ss ((s04.trans sb).trans s112) ⟨ag,s112 _ _ ag,s112 _ _ (s10 _ _ hs),rs.same (s10.trans s112),.mk (s12 _ _ ag) (RDs.app ?_ (RDs.same (sb.trans s112) hds))⟩;have:=(rf.same (s10.trans s112)).rds;rw[lW]at this;exact this
theorem vX(T:Tx P w K mg a):aN P w K mg base CX0 1 a.Gd a.Ge ["cards","kind","owners"] tZ:=by
 refine T.Ie.ok Ao (λvs H Q E h=>?_) (λcdv A outer s H vs Q E hr h=>?_)
 .obtain⟨_,_,_,_,_,_,rfl,_⟩:=h
  rfl
 obtain⟨p,d,cs,kd,kvs,ow,rfl,hp,hd,ho,hl,k⟩:=h;refine⟨_,(ak (aA (fL (k:=1) (Nc:=["card","kind","owners"]) (js:=[1,2]) (show bE (aI kN) ["cards","kind","owners"] _ 1 ["card","kind","owners"] [1,2]from bE.mk U (by decide +kernel) (by decide +kernel) (by decide +kernel) U (by decide +kernel)) U (ie (pq 0)) (λ_ _ _ _ _=>(aK (i:=0) (show List.Nodup (["card","kind","owners"]:List Str)from by decide +kernel) U Oi)) (λ_ _ _ _ _=>(iZ (au lg (pq 0) (pq 2) (by with_unfolding_all rfl)))) (λ_ _ _ _ _=>(ba (a9 (ai DQ (pq 2) (pq 0) Oy) (a9 (pq 1) (a9 (pq 0) ae)))))))),?_⟩;have big:(10000:Nat)<sizeLine:=Yk;refine⟨_,U,p,U,⟨_,SqT.of hp⟩,?_⟩;refine sh (K:=K) (a:=p) (xs:=cs.map V.str) (λi ys Y H2=>a8 H H2/\(∃u,Y=[u,some (.str kd),some (.ref d)])/\RWs H2 ys (db ow kd (cs.take i))) ⟨a8.refl _,⟨_,U⟩,.nil⟩ ?_ (by rw[qa];omega) ?_ ?_ ?_
 .rintro i ys Y H2 _ ⟨_,_,h2⟩;have:=iD ow kd (cs.take i);rw[h2.len];rw[qQ]at this;omega
 .rintro i ys Y H2 ⟨s2,_⟩;exact SqT.of (s2 _ _ hp)
 .rintro i x ys Y H2 hx ⟨s2,⟨u,rfl⟩,h2⟩;rw[qK]at hx
  cases e:cs[i]? with
  |none=>rw[e]at hx;cases hx
  |some c=>
   rw[e]at hx;obtain rfl:V.str c=x:=qP hx;have tk:cs.take (i+1)=cs.take i++[c]:=by rw[qy,e];rfl
   rw[tk,Fh];have hv:=ho c;refine⟨_,U,_,U,d,kvs,.inr c,U,s2 _ _ hd,U,?_⟩
   cases eo:ow c with
   |none=>
    rw[eo]at hv;have hv':aJ kvs (.inr c)=none:=hv;rw[hv'];refine⟨_,U,?_⟩;rw[Q7 (show ¬ (none:Option V).isSome=true from λh=>nomatch h)];exact⟨s2,⟨_,U⟩,by rw[Option.map_none,Option.toList_none,qE];exact h2⟩
   |some n=>
    rw[eo]at hv;have hv':aJ kvs (.inr c)=some (.int n):=hv;rw[hv'];refine⟨_,U,?_⟩;rw[Q8 (show(some (V.int n)).isSome=true from rfl)];refine⟨_,U,_,U,d,kvs,.inr c,.int n,U,s2 _ _ hd,U,hv',?_⟩;refine⟨_,U,_,U,ln3,λq hq=>?_⟩;exact⟨s2.trans (a8.new hq _),⟨_,U⟩,(h2.same (a8.new hq _)).snoc (e:=(n,kd,c)) ag⟩
 .rintro ys Y H2 ⟨s2,_,h2⟩ l hl2;rw[qa,qN]at h2;exact k _ l ys (s2.trans (a8.new hl2 _)) (s2.free hl2) ag (h2.same (a8.new hl2 _))
theorem Ck(T:Tx P w K mg a):aN P w K mg base CX0 2 a.Gb a.Gc ["deeds"] tY:=by
 refine T.IG.ok iN (λvs H Q E h=>?_) (λcdv A outer s H vs Q E hr h=>?_)
 .obtain⟨_,_,_,rfl,_⟩:=h
  rfl
 obtain⟨l,us,rs,rfl,hl,hrs,hlen,small,k⟩:=h
 refine⟨_,(ah (aq (i:=1) iN.nd U Oi gi)
  (ah (aq (i:=2) iN.nd U Oi (aT ae))
  (ah (bL PassesOwn.never U (kZ U T.FW (a9 (pq 0) ae)) (dA U (bC (aK (i:=3) iN.nd U Oi) (bC (aK (i:=4) iN.nd U Oi) dy)))
  (ah (bw (bH qi qC qD cA (pq 2) (a9 (ao fG (aG (vX T) (hr.mono Yk) U T.II T.Ie.kp T.IH .nil aC (a9 (ai ar (pq 4) ac Oy) (a9 aO (a9 (pq 1) ae)))) (aG (vX T) (hr.mono Yk) U T.II T.Ie.kp T.IH .nil aC (a9 (ai ar (pq 4) ac Oy) (a9 aO (a9 (pq 1) ae))))) ae)))
  (ak (bL PassesOwn.never U (ie (ai ar (pq 4) ac Oy)) (aK (i:=5) iN.nd U Oi)
  (ak (fK (hr.one) (pq 1) (pq 5) (pq 3) U))))))
  (ak (aA (pq 2)))))),?_⟩
 have big:(4000000:Nat)<sizeLine:=Yk;intro d hd;refine⟨qz _,λlw hlw=>?_⟩;have s1:a8 H (upd H d (.dK [])):=a8.new hd _;have s2:=s1.trans (a8.new hlw (.lst []));have hd1:(upd (upd H d (.dK [])) lw (.lst [])) d=some (.dK []):=a8.new hlw _ _ _ ag;have flw:H lw=none:=s1.free hlw;refine⟨_,U,l,us,U,SqL.of (s2 _ _ hl),?_⟩;refine lX (K:=K) (l:=l) (xs:=us) (λi Y H2=>∃v3 v4 v5 kvs ws,Y=[some (.ref l),some (.ref d),some (.ref lw),v3,v4,v5]/\a8 H H2/\H2 d=some (.dK kvs)/\H2 lw=some (.lst ws)/\RWL H2 ws (cQ rs i)/\(∀v∈ws,v≠.ref lw)/\jc kvs (bN (rs.take i))/\kvs.length<=4000 * i) ⟨_,_,_,[],[],U,s2,hd1,ag,.nil,(λv hv=>nomatch hv),λc=>U,qz _⟩ ?_ ?_ ?_
 .rintro i Y H2 ⟨_,_,_,_,_,_,s3,_⟩;exact SqL.of (s3 _ _ hl)
 .rintro i x Y H2 pt hx ⟨v3,v4,v5,kvs,ws,rfl,s3,hd2,hw2,hrw,nel,own,kl⟩ hpt;obtain⟨r,hr',px,po,pr,rfl,h1,h2,h3⟩:=hrs.at i x hx;have lt:i<rs.length:=(qh.mp hr').1;have st:a8 H2 (upd H2 pt (.tup [.int i,.ref px])):=a8.new hpt _;have hpt3:(upd H2 pt (.tup [.int i,.ref px])) pt=some (.tup [.int i,.ref px]):=ag;have s4:=s3.trans st;have hd3:=st _ _ hd2;have hw3:=st _ _ hw2;have hrw3:=hrw.same st;generalize upd H2 pt (.tup [.int i,.ref px])=H3 at s4 hd3 hw3 hrw3 hpt3 ⊢;obtain⟨so,sr⟩:=small r (qG hr');refine⟨pt,_,U,SqT.of hpt3,U,_,_,U,_,_,U,U,?_⟩;have h1':=s4 _ _ h1;refine⟨_,U,.inl ⟨U,_,SqL.of hw3⟩,?_⟩;refine⟨_,U,px,_,_,_,U,U,SqT.of h1',U,?_⟩;refine⟨_,U,po,d,r.owns,"card",kvs,bN (rs.take i),U,s4 _ _ h2,hd3,own,Yo,λH4 l1 u1 s5 f1 e1 w1=>?_⟩;refine⟨_,U,px,_,_,_,U,U,SqT.of (s5 _ _ h1'),U,?_⟩;refine⟨_,U,pr,d,r.reads,"copy",kvs,bN (rs.take i),U,s5 _ _ (s4 _ _ h3),s5 _ _ hd3,own,Yo,λH5 l2 u2 s6 f2 e2 w2=>?_⟩;have n1:=iD (bN (rs.take i)) "card" r.owns;have n2:=iD (bN (rs.take i)) "copy" r.reads;refine⟨l1,l2,u1,u2,U,U,SqL.of (s6 _ _ e1),SqL.of e2,by rw[w1.len,w2.len];omega,λl3 f3=>?_⟩;have s36:=(s5.trans s6).trans (a8.new f3 (.lst (u1++u2)));have w3:RWs (upd H5 l3 (.lst (u1++u2))) (u1++u2) (da (rs.take i) r):=(RWs.app w2 (w1.same s6)).same (a8.new f3 _);have e3:(upd H5 l3 (.lst (u1++u2))) l3=some (.lst (u1++u2)):=ag;have n3:l3≠lw:=λz=>by rw[z,(s5.trans s6) _ _ hw3]at f3;cases f3
  generalize upd H5 l3 (.lst (u1++u2))=H6 at s36 w3 e3 ⊢;have hw6:=s36 _ _ hw3;have hd6:=s36 _ _ hd3;have nd:d≠lw:=λz=>by rw[z,hw6]at hd6;cases hd6
  have wl:=hrw.len;rw[jZ rs i Yo]at wl;refine⟨lw,ws,_,U,U,hw6,Yo,?_⟩;have s7:a8 H (upd H6 lw (.lst (ws++[.ref l3]))):=a8.over (s4.trans s36) flw;have hw7:(upd H6 lw (.lst (ws++[.ref l3]))) lw=some (.lst (ws++[.ref l3])):=ag;have hd7:(upd H6 lw (.lst (ws++[.ref l3]))) d=some (.dK kvs):=by rw[af nd];exact hd6
  have nel':∀v∈ws++[V.ref l3],v≠.ref lw:=λv hv=>by
   rcases qk.mp hv with q|q
   .exact nel v q
   .rw[qY.mp q];exact λz=>n3 (V.ref.inj z)
  have rw7:RWL (upd H6 lw (.lst (ws++[.ref l3]))) (ws++[.ref l3]) (cQ rs (i+1)):=by
   rw[cQ,hr'];exact((hrw3.same s36).snoc e3 w3).off hw6 nel'
  generalize upd H6 lw (.lst (ws++[.ref l3]))=H7 at s7 hw7 hd7 rw7 ⊢;refine⟨_,U,px,_,_,_,U,U,SqT.of (s7 _ _ h1),U,?_⟩;refine⟨po,U,⟨_,SqT.of (s7 _ _ h2)⟩,?_⟩;refine rQ (K:=K) (a:=po) (xs:=r.owns.map V.str) (λj Y H8=>∃v5 kvs',Y=[some (.ref l),some (.ref d),some (.ref lw),some (.int i),some (.ref px),v5]/\a8 H H8/\H8 d=some (.dK kvs')/\H8 lw=some (.lst (ws++[.ref l3]))/\RWL H8 (ws++[.ref l3]) (cQ rs (i+1))/\jc kvs' (jD (bN (rs.take i)) i (r.owns.take j))/\kvs'.length<=kvs.length+j) ⟨_,kvs,U,s7,hd7,hw7,rw7,λc=>by rw[own c];rfl,qg _⟩ ?_ ?_ ?_
  .rintro j Y H8 _ ⟨_,_,_,s8,_⟩;exact SqT.of (s8 _ _ h2)
  .rintro j x Y H8 hx ⟨v5,kvs',rfl,s8,hd8,hw8,rw8,own8,kl8⟩;rw[qK]at hx
   cases e:r.owns[j]? with
   |none=>rw[e]at hx;cases hx
   |some c=>
    rw[e]at hx;obtain rfl:V.str c=x:=qP hx;have jl:=(qh.mp e).1;refine⟨_,U,_,U,_,U,d,_,U,eu.k (k:=.inr c) hd8 Yo,?_⟩;refine⟨_,_,U,a8.over s8 hd,ag,?_,rw8.offD hd8,?_,?_⟩
    .rw[af (Ne.symm nd)];exact hw8
    .rw[qy,e];exact own8.put
    .have:=dL kvs' (.inr c) (.int i);omega
  .rintro Y H8 ⟨v5,kvs',rfl,s8,hd8,hw8,rw8,own8,kl8⟩;rw[qa]at own8 kl8;rw[qN]at own8;refine⟨_,_,_,kvs',_,U,s8,hd8,hw8,rw8,nel',λc=>?_,Yo⟩;rw[own8 c,qy,hr'];show _=Option.map V.int (bN (rs.take i++[r]) c);rw[wV,qQ,Nat.min_eq_left Yo]
   rfl
 .rintro Y H2 ⟨v3,v4,v5,kvs,ws,rfl,s3,hd2,hw2,hrw,nel,own,kl⟩;rw[hrs.len]at hrw;exact⟨_,U,k _ _ _ s3 flw hw2 hrw⟩
theorem vY(T:Tx P w K mg a):aN P w K mg base CX0 1 a.Gf a.Gg ["deeds","place"] ua:=by
 refine T.Ig.ok kK (λvs H Q E h=>?_) (λcdv A outer s H vs Q E hr h=>?_)
 .obtain⟨_,_,_,_,_,rfl,_⟩:=h
  rfl
 obtain⟨l,us,rs,pl,f,rfl,hl,hrs,hlen,hf,k⟩:=h
 refine⟨_,(ah (aq (i:=2) kK.nd U Oi gi)
  (ah (bL PassesOwn.never U (kZ U T.FW (a9 (pq 0) ae)) (dA U (bC (aK (i:=3) kK.nd U Oi) (bC (aK (i:=4) kK.nd U Oi) dy)))
  (ak (aM (au fj (ai ar (pq 4) (pq 1) Oy) bT (ax _)) (ak (bw (bH qi qC qD cA (BP (pq 2) (ai ar (pq 4) (pq 1) Oy) (aT ae) ⟨U,U,U,U⟩) (a9 (pq 3) ae)))) aR)))
  (ak (aA (pq 2))))),?_⟩
 have big:(4000000:Nat)<sizeLine:=Yk;intro d hd;have s1:a8 H (upd H d (.dK [])):=a8.new hd _;refine⟨_,U,l,us,U,SqL.of (s1 _ _ hl),?_⟩;refine lX (K:=K) (l:=l) (xs:=us) (λi Y H2=>∃v3 v4 kvs,Y=[some (.ref l),some (.int pl),some (.ref d),v3,v4]/\a8 H H2/\H2 d=some (.dK kvs)/\RN H2 kvs (ap f (rs.take i))/\(∀(q:Str)(p:Addr),aJ kvs (.inr q)=some (.ref p)->H p=none)/\kvs.length<=i) ⟨_,_,[],U,s1,ag,⟨λq=>.inl ⟨U,U⟩,λ_ _ _ h=>nomatch h⟩,(λ_ _ h=>nomatch h),qg _⟩ ?_ ?_ ?_
 .rintro i Y H2 ⟨_,_,_,_,s3,_⟩;exact SqL.of (s3 _ _ hl)
 .rintro i x Y H2 pt hx ⟨v3,v4,kvs,rfl,s3,hd2,rn,fr,kl⟩ hpt;obtain⟨r,hr',px,po,pr,rfl,h1,h2,h3⟩:=hrs.at i x hx;have lt:i<rs.length:=(qh.mp hr').1;have st:a8 H2 (upd H2 pt (.tup [.int i,.ref px])):=a8.new hpt _;have hpt3:(upd H2 pt (.tup [.int i,.ref px])) pt=some (.tup [.int i,.ref px]):=ag;have s4:=s3.trans st;have hd3:=st _ _ hd2;have rn3:=rn.same st;generalize upd H2 pt (.tup [.int i,.ref px])=H3 at s4 hd3 rn3 hpt3 ⊢;have tk:rs.take (i+1)=rs.take i++[r]:=by rw[qy,hr'];rfl
  have il:(rs.take i).length=i:=by rw[qQ];omega
  have hat:atI [V.str r.kind,.ref po,.ref pr,cO r.into,cO r.outof] pl=some (cO (f r)):=by
   rcases hf with⟨rfl,rfl⟩|⟨rfl,rfl⟩<;>rfl
  have ns:=lB f (rs.take i) r;rw[il]at ns;refine⟨pt,_,U,SqT.of hpt3,U,_,_,U,_,_,U,U,?_⟩;refine⟨_,U,_,U,px,_,pl,_,U,U,SqT.of (s4 _ _ h1),hat,?_⟩
  cases ef:f r with
  |none=>
   refine⟨U,_,U,ay U ?_⟩;refine⟨_,_,kvs,U,s4,hd3,rn3.eq λq=>?_,fr,Yo⟩;rw[tk,ns,ef];simp
  |some q=>
   refine⟨U,_,U,aU U ?_⟩;have e1:ap f (rs.take (i+1)) q=ap f (rs.take i) q++[(i:Int)]:=by rw[tk,ns,ef,Q8 U]
   have e2:∀q',q'≠q->ap f (rs.take (i+1)) q'=ap f (rs.take i) q':=λq' z=>by rw[tk,ns,ef,Q7 (λy=>z (qP y).symm),qE]
   refine⟨_,U,d,U,.inl ⟨kvs,.inl hd3⟩,?_⟩;refine⟨_,U,_,U,px,_,pl,_,U,U,SqT.of (s4 _ _ h1),hat,?_⟩;rw[ef];refine⟨qz _,λl0 f0=>?_⟩;have s5:a8 H3 (upd H3 l0 (.lst [])):=a8.new f0 _;refine⟨kvs,.inr q,s5 _ _ hd3,U,Yo,λv hv=>?_,λhv=>?_⟩
   .rcases rn3.at_ q with⟨b,_⟩|⟨p,b,c⟩
    .rw[b]at hv;cases hv
    .rw[b]at hv;cases hv;have nl:=wm f (rs.take i) q;rw[il]at nl;refine⟨.inl ⟨U,_,SqL.of (s5 _ _ c)⟩,_,U,p,_,_,U,U,s5 _ _ c,by rw[qa];omega,?_⟩;have np:p≠d:=λy=>by rw[y,hd3]at c;cases c
     refine⟨_,_,kvs,U,a8.over (s4.trans s5) (fr q p b),?_,(rn3.same s5).old b e1 e2,fr,Yo⟩;rw[af (Ne.symm np)];exact s5 _ _ hd3
   .have nl0:l0≠d:=λy=>by rw[y,hd3]at f0;cases f0
    have h0:(upd (upd H3 l0 (.lst [])) d (.dK (bf kvs (.inr q) (.ref l0)))) l0=some (.lst []):=by rw[af nl0];exact ag
    refine⟨.inl ⟨U,_,SqL.of h0⟩,_,U,l0,_,_,U,U,h0,by show 0<sizeLine;decide,?_⟩
    have m0:ap f (rs.take i) q=[]:=by
     rcases rn3.at_ q with⟨_,b⟩|⟨p,b,_⟩
     .exact b
     .rw[b]at hv;cases hv
    rw[m0]at e1;have kp:=dL kvs (.inr q) (.ref l0);refine⟨_,_,_,U,a8.over (a8.over (s4.trans s5) hd) (s4.free f0),?_,rn3.new hd3 f0 hv e1 e2,λq' p hp=>?_,Yo⟩
    .rw[af (Ne.symm nl0)];exact ag
    .rw[dF]at hp;split at hp
     .cases hp;exact s4.free f0
     .exact fr q' p hp
 .rintro Y H2 ⟨v3,v4,kvs,rfl,s3,hd2,rn,fr,kl⟩;rw[hrs.len,qN]at rn;exact⟨_,U,k _ _ _ s3 hd2 rn fr⟩
theorem Cm(T:Tx P w K mg a):aN P w K mg base CX0 2 a.G9 a.Ga ["waits_by_cards","deeds","stores"] u0:=by
 refine T.IF.ok eF (λvs H Q E h=>?_) (λcdv A outer s H vs Q E hr h=>?_)
 .obtain⟨_,_,_,_,_,_,_,_,_,rfl,_⟩:=h
  rfl
 obtain⟨lc,l,ls,ws,us,sv,W,rs,ss,rfl,hlc,hws,wlen,sm,hl,hrs,hlen,hls,hsv,slen,spos,k⟩:=h
 refine⟨_,(ah (pA (i:=3) eF.nd U Oi (k:=1) (Nc:=["row"]) (js:=[]) (show bE (aI kO) ["waits_by_cards","deeds","stores","waits","puts_by_store","gets_by_store","store","length","puts","gets","put","get","count","awaited"] _ 1 ["row"] []from bE.mk U (by decide +kernel) (by decide +kernel) (by decide +kernel) U (by decide +kernel)) U (cq (pq 0)) (λ_ _ _ _ _=>(aK (i:=0) (show List.Nodup (["row"]:List Str)from by decide +kernel) U Oi)) (λ_ _ _ _ _=>i8) (λ_ _ _ _ _=>(eQ (Bf (K:=K) U) U T.wS PyProof.Rows.Boot.«list» (a9 (pq 0) ae))))
  (ah (aq (i:=4) eF.nd U Oi (aG (vY T) (hr.mono Yk) U T.IK T.Ig.kp T.IJ .nil aC (a9 (pq 1) (a9 (gh U T.KG T.r_INTO) ae))))
  (ah (aq (i:=5) eF.nd U Oi (aG (vY T) (hr.mono Yk) U T.IK T.Ig.kp T.IJ .nil aC (a9 (pq 1) (a9 (gh U T.KH T.r_OUT_OF) ae))))
  (ah (bL PassesOwn.never U (cq (pq 2)) (dA U (bC (aK (i:=6) eF.nd U Oi) (bC (aK (i:=7) eF.nd U Oi) dy)))
  (ah (aq (i:=8) eF.nd U Oi (dW hr.one (pq 4) (pq 6) (aT ae) ⟨U,U,U,U⟩))
  (ah (aq (i:=9) eF.nd U Oi (dW hr.one (pq 5) (pq 6) (aT ae) ⟨U,U,U,U⟩))
  (ah (bL PassesOwn.never U (BE U T.KF (a9 (pq 8) (a9 (pq 9) ae))) (dA U (bC (aK (i:=10) eF.nd U Oi) (bC (aK (i:=11) eF.nd U Oi) dy)))
  (ak (bw (bH qi qC qD cA (ai aE (pq 3) (pq 11) Oy) (a9 (ba (a9 (pq 10) (a9 aO (a9 (pq 6) ae)))) ae)))))
  (ak (bL PassesOwn.never U (kZ U T.FW (a9 (gf kD (pq 8) (fk (pq 7)) i9) ae)) (dA U (bC (aK (i:=12) eF.nd U Oi) (bC (aK (i:=10) eF.nd U Oi) dy)))
  (ah (aq (i:=13) eF.nd U Oi (gM (au gb (pq 12) (aW bK U T.dz Qe (a9 (pq 9) ae)) (ax _)) (ai aE (pq 9) (pq 12) Oy) (ao iV (aW bK U T.dz Qe (a9 (pq 1) ae)) ac)))
  (ak (bw (bH qi qC qD cA (ai aE (pq 3) (pq 10) Oy) (a9 (ba (a9 (pq 13) (a9 aO (a9 (pq 6) ae)))) ae)))))))))))
  (ak (aA (pq 3))))))),?_⟩
 have big:(4000000:Nat)<sizeLine:=Yk;have wl:=hws.len;refine⟨_,U,lc,U,⟨_,SqL.of hlc⟩,?_⟩;refine jT (xs:=ws) (λi ys Y H2=>(∃v,Y=[v])/\a8 H H2/\∃as,ys=as.map V.ref/\RWM H2 as (W.take i)/\∀p∈as,H p=none) ⟨⟨none,U⟩,a8.refl _,[],U,⟨List.nodup_nil,U,λi p es h=>by simp at h⟩,λp hp=>nomatch hp⟩ ?_ (by omega) ?_ ?_ ?_
 .rintro i ys Y H2 hi ⟨_,_,as,rfl,rm,_⟩;rw[qa,rm.len,qQ];omega
 .rintro i ys Y H2 ⟨_,s2,_⟩;exact SqL.of (s2 _ _ hlc)
 .rintro i x ys Y H2 hx ⟨⟨v,rfl⟩,s2,as,rfl,rm,fr⟩;obtain⟨p,us',es,rfl,h1,h2,h3⟩:=hws.at i x hx;refine⟨_,U,p,us',U,.inl (SqL.of (s2 _ _ h1)),λq hq=>?_⟩;refine⟨⟨_,U⟩,s2.trans (a8.new hq _),as++[q],by simp,?_,λp' hp'=>?_⟩
  .rw[qy,h3];exact rm.push hq (h2.same s2)
  .rcases qk.mp hp' with m|m
   .exact fr p' m
   .rw[qY.mp m];exact s2.free hq
 rintro ys Y2 H2 ⟨_,s2,as,rfl,rm,fr⟩ lw hlw;rw[wl,qN]at rm;have s3:a8 H2 (upd H2 lw (.lst (as.map V.ref))):=a8.new hlw _;have hw3:(upd H2 lw (.lst (as.map V.ref))) lw=some (.lst (as.map V.ref)):=ag;have flw:H lw=none:=s2.free hlw
 have nlw:lw∉as:=λm=>by
  obtain⟨u,e⟩:=rm.there m;rw[hlw]at e;cases e
 have rm3:=rm.same s3;have sH3:=s2.trans s3;generalize upd H2 lw (.lst (as.map V.ref))=H3 at s3 hw3 rm3 sH3 ⊢;refine⟨_,U,l,us,rs,3,Row.into,U,sH3 _ _ hl,hrs.same sH3,hlen,.inl ⟨U,U⟩,λH4 dp kvs1 s4 hdp rn1 fr1=>?_⟩;refine⟨_,U,l,us,rs,4,Row.outof,U,s4 _ _ (sH3 _ _ hl),(hrs.same sH3).same s4,hlen,.inr ⟨U,U⟩,λH5 dg kvs2 s5 hdg rn2 fr2=>?_⟩;have s35:=s4.trans s5;have rm5:=rm3.same s35;have sm5:=sm;have SH:a8 H (cK as H5):=xP (sH3.trans s35) fr;have kw5:cK as H5 lw=some (.lst (as.map V.ref)):=ix (s35 _ _ hw3) nlw
 have ndk:∀(p:Addr)(kvs:List (Key×V)),H5 p=some (.dK kvs)->p∉as:=λp kvs hp m=>by
  obtain⟨u,e⟩:=rm5.there m;rw[hp]at e;cases e
 have kp5:cK as H5 dp=some (.dK kvs1):=ix (s5 _ _ hdp) (ndk _ _ (s5 _ _ hdp));have kg5:cK as H5 dg=some (.dK kvs2):=ix hdg (ndk _ _ hdg)
 have nin:∀p,H3 p=none->p∉as:=λp hp m=>by
  obtain⟨u,e⟩:=rm3.there m;rw[hp]at e;cases e
 have rp5:RN (cK as H5) kvs1 (ap Row.into rs):=(rn1.same s5).cut λq p h=>nin p (fr1 q p h);have rg5:RN (cK as H5) kvs2 (ap Row.outof rs):=rn2.cut λq p h=>nin p (s4.free (fr2 q p h));have off:∀p∈as,cK as H5 p=none:=λp m=>xQ m;have sB5:a8 (cK as H5) H5:=xO as H5;generalize cK as H5=Hb at SH kw5 kp5 kg5 rp5 rg5 off sB5;refine⟨_,U,ls,U,⟨_,SqL.of (sB5 _ _ (SH _ _ hls))⟩,?_⟩;refine d9 (K:=K) (a:=ls) (xs:=sv) (λj Y H6=>∃v6 v7 v8 v9 v10 v11 v12 v13,Y=[some (.ref lc),some (.ref l),some (.ref ls),some (.ref lw),some (.ref dp),some (.ref dg),v6,v7,v8,v9,v10,v11,v12,v13]/\a8 Hb H6/\RWM H6 as (dc rs ss W j)/\Sm (dc rs ss W j) (8000+2000 * j)) ⟨_,_,_,_,_,_,_,_,U,sB5,rm5,sm5⟩ ?_ ?_ ?_
 .rintro j Y H6 _ ⟨_,_,_,_,_,_,_,_,_,s6,_⟩;exact SqL.of (s6 _ _ (SH _ _ hls))
 .rintro j x Y H6 hx ⟨v6,v7,v8,v9,v10,v11,v12,v13,rfl,s6,rm6,sm6⟩;obtain⟨ps,q,n,rfl,hs,hps⟩:=hsv.at j x hx;have n0:0<=n:=spos _ (qG hs);have jl:=(qh.mp hs).1;refine⟨ps,_,U,SqT.of (s6 _ _ (SH _ _ hps)),U,_,_,U,_,_,U,U,?_⟩;refine⟨_,U,dp,U,.inl ⟨kvs1,.inl (s6 _ _ kp5)⟩,_,U,qz _,λl1 f1=>?_⟩;have t7:a8 H6 (upd H6 l1 (.lst [])):=a8.new f1 _;have g1:(upd H6 l1 (.lst [])) l1=some (.lst []):=ag;generalize upd H6 l1 (.lst [])=H7 at t7 g1 ⊢;refine⟨_,ci.k (k:=.inr q) (t7 _ _ (s6 _ _ kp5)),?_⟩
  have gone:∀(x:Addr),H6 x=none->x∉as:=λx hx m=>by
   obtain⟨u,e⟩:=rm6.there m;rw[hx]at e;cases e
  have held:∀(x:Addr)(o:HO),Hb x=some o->x∉as:=λx o hx m=>by
   rw[off x m]at hx;cases hx
  obtain⟨pp,e1,h1,n1⟩:∃pp,(aJ kvs1 (.inr q)).getD (.ref l1)=.ref pp/\H7 pp=some (.lst ((ap Row.into rs q).map V.int))/\pp∉as:=by
   rcases rp5.at_ q with⟨b,c⟩|⟨p,b,c⟩
   .rw[b,c];exact⟨l1,U,g1,gone _ f1⟩
   .rw[b];exact⟨p,U,t7 _ _ (s6 _ _ c),held _ _ c⟩
  rw[e1];refine⟨_,U,dg,U,.inl ⟨kvs2,.inl (t7 _ _ (s6 _ _ kg5))⟩,_,U,qz _,λl2 f2=>?_⟩;have t8:a8 H7 (upd H7 l2 (.lst [])):=a8.new f2 _;have g2:(upd H7 l2 (.lst [])) l2=some (.lst []):=ag;generalize upd H7 l2 (.lst [])=H8 at t8 g2 ⊢;refine⟨_,ci.k (k:=.inr q) (t8 _ _ (t7 _ _ (s6 _ _ kg5))),?_⟩
  obtain⟨gg,e2,h2,n2⟩:∃gg,(aJ kvs2 (.inr q)).getD (.ref l2)=.ref gg/\H8 gg=some (.lst ((ap Row.outof rs q).map V.int))/\gg∉as:=by
   rcases rg5.at_ q with⟨b,c⟩|⟨p,b,c⟩
   .rw[b,c];exact⟨l2,U,g2,gone _ (t7.free f2)⟩
   .rw[b];exact⟨p,U,t8 _ _ (t7 _ _ (s6 _ _ c)),held _ _ c⟩
  rw[e2];have s8:=(s6.trans t7).trans t8;have rm8:=rm6.same (t7.trans t8);have hs':ss.getD j ("",0)=(q,n):=by rw[qp,hs];rfl
  have fin:∀W',W'=iE rs (q,n) (dc rs ss W j)->W'=dc rs ss W (j+1):=λW' e=>by rw[e,dc,hs']
  have ml:∀(f:Row->Option Str),(ap f rs q).length<=1000:=λf=>qF (wm f rs q) hlen;have mi:=ml Row.into;have mo:=ml Row.outof
  have mem1:∀(k:Nat)(x:Int),(ap Row.into rs q)[k]?=some x->0<=x/\x.toNat<as.length:=λk x hx=>by
   obtain⟨a1,a2,_⟩:=lC hx;exact⟨a1,by rw[rm.len,wlen];exact a2⟩
  have mem2:∀(k:Nat)(x:Int),(ap Row.outof rs q)[k]?=some x->0<=x/\x.toNat<as.length:=λk x hx=>by
   obtain⟨a1,a2,_⟩:=lC hx;exact⟨a1,by rw[rm.len,wlen];exact a2⟩
  unfold iE at fin;generalize dc rs ss W j=Wj at rm8 sm6 fin;generalize ap Row.into rs q=ips at h1 fin mi mem1;generalize ap Row.outof rs q=igs at h2 fin mo mem2;have sC:=xO as H8;have SC:a8 Hb (cK as H8):=xP s8 off;have kp8:cK as H8 pp=some (.lst (ips.map V.int)):=ix (t8 _ _ h1) n1;have kg8:cK as H8 gg=some (.lst (igs.map V.int)):=ix h2 n2;have offC:∀p∈as,cK as H8 p=none:=λp m=>xQ m;generalize cK as H8=Hc at sC SC kp8 kg8 offC
  have step:∀(H9:Hp)(Wk:List (List Wat))(B:Nat)(g:Int),a8 Hc H9->RWM H9 as Wk->Sm Wk B->B<=300000->0<=g->g.toNat<as.length->∃p us,atI (as.map V.ref) g=some (.ref p)/\p∈as/\H9 p=some (.lst us)/\us.length<sizeLine/\∀(t:Addr)(e:Wat)(H10:Hp),a8 H9 H10->H10 t=some (dN e)->RWM (upd H10 p (.lst (us++[.ref t]))) as (fR Wk g.toNat e)/\a8 Hc (upd H10 p (.lst (us++[.ref t]))):=by
   intro H9 Wk B g s9 rm9 sm9 b9 g0 gl;have hp:as[g.toNat]?=some as[g.toNat]:=qe gl;have gw:g.toNat<Wk.length:=by rw[<- rm9.len];exact gl
   have hw:Wk[g.toNat]?=some Wk[g.toNat]:=qe gw;obtain⟨us',c,d⟩:=rm9.at_ _ _ _ hp hw;have ll:=sm9 _ _ hw;refine⟨as[g.toNat],us',Ft g0 (by rw[qK,hp];rfl),List.getElem_mem gl,c,by rw[d.len];omega,λt e H10 s10 ht=>⟨(rm9.same s10).add hp (s10 _ _ c) ht,a8.over (s9.trans s10) (offC _ (List.getElem_mem gl))⟩⟩
  have kwC:Hc lw=some (.lst (as.map V.ref)):=SC _ _ kw5;refine⟨_,U,_,U,false,false,pp,gg,_,_,U,SqL.of (t8 _ _ h1),SqL.of h2,?_⟩;refine Ef (K:=K) (b1:=false) (b2:=false) (l1:=pp) (l2:=gg) (xs:=ips.map V.int) (ys:=igs.map V.int) (λk Y H9=>∃v10 v11 v12 v13,Y=[some (.ref lc),some (.ref l),some (.ref ls),some (.ref lw),some (.ref dp),some (.ref dg),some (.str q),some (.int n),some (.ref pp),some (.ref gg),v10,v11,v12,v13]/\a8 Hc H9/\RWM H9 as (eB q ips igs Wj k)/\Sm (eB q ips igs Wj k) (8000+2000 * j+k)/\k<=1000) ⟨_,_,_,_,U,sC,rm8,sm6,qz _⟩ ?_ ?_ ?_
  .rintro k Y H9 ⟨_,_,_,_,_,s9,_⟩;exact⟨SqL.of (s9 _ _ kp8),SqL.of (s9 _ _ kg8)⟩
  .rintro k x y Y H9 pt hx hy ⟨v10,v11,v12,v13,rfl,s9,rm9,sm9,kb⟩ hpt;rw[qK]at hx hy
   cases ex:ips[k]? with
   |none=>rw[ex]at hx;cases hx
   |some pv=>
   cases ey:igs[k]? with
   |none=>rw[ey]at hy;cases hy
   |some gv=>
   rw[ex]at hx;rw[ey]at hy;obtain rfl:V.int pv=x:=qP hx;obtain rfl:V.int gv=y:=qP hy;obtain⟨g0,gl⟩:=mem2 k gv ey;have kl:=(qh.mp ex).1;obtain⟨p,us',ea,_,hp,ul,add⟩:=step H9 _ _ gv s9 rm9 sm9 Yo g0 gl;have tp:a8 H9 (upd H9 pt (.tup [.int pv,.int gv])):=a8.new hpt _;have hpt3:(upd H9 pt (.tup [.int pv,.int gv])) pt=some (.tup [.int pv,.int gv]):=ag;generalize upd H9 pt (.tup [.int pv,.int gv])=H10 at tp hpt3 ⊢;refine⟨pt,_,U,SqT.of hpt3,U,_,_,U,_,_,U,U,?_⟩;refine⟨_,U,_,U,lw,_,_,_,U,U,SqL.of (tp _ _ (s9 _ _ kwC)),ea,?_⟩;refine⟨.inl ⟨U,_,SqL.of (tp _ _ hp)⟩,_,U,_,U,ln3,λt ft=>?_⟩;refine⟨p,us',_,U,U,a8.new ft _ _ _ (tp _ _ hp),ul,?_⟩;obtain⟨r1,r2⟩:=add t (pv,"thing",q) _ (tp.trans (a8.new ft _)) ag;have et:eB q ips igs Wj (k+1)=fR (eB q ips igs Wj k) gv.toNat (pv,"thing",q):=by rw[eB,qp,ey,qp,ex];rfl
   refine⟨_,_,_,_,U,r2,by rw[et];exact r1,by rw[et];exact sm9.add,Yo⟩
  .rintro Y H9 ⟨v10,v11,v12,v13,rfl,s9,rm9,sm9,kb⟩;rw[qa,qa]at rm9 sm9;generalize eB q ips igs Wj (min ips.length igs.length)=W9 at rm9 sm9 fin;refine⟨_,U,_,U,?_⟩;refine⟨n,U,pp,_,U,SqL.of (s9 _ _ kp8),λlx fx=>?_⟩;rw[EM ips n0]
   have nlx:lx∉as:=λm=>by
    obtain⟨u,e⟩:=rm9.there m;rw[fx]at e;cases e
   have tx:a8 H9 (upd H9 lx (.lst ((ips.drop n.toNat).map V.int))):=a8.new fx _;have hlx:(upd H9 lx (.lst ((ips.drop n.toNat).map V.int))) lx=some (.lst ((ips.drop n.toNat).map V.int)):=ag;have mem3:∀(k:Nat)(x:Int),(ips.drop n.toNat)[k]?=some x->0<=x/\x.toNat<as.length:=λk x hx=>mem1 _ x (by rw[List.getElem?_drop]at hx;exact hx);have mc:(ips.drop n.toNat).length<=1000:=by rw[Q6];omega
   generalize ips.drop n.toNat=ics at tx hlx mem3 mc fin ⊢;have rmx:=rm9.same tx;have sx:=s9.trans tx;generalize upd H9 lx (.lst (ics.map V.int))=Hx at tx hlx rmx sx ⊢;refine⟨lx,_,U,SqL.of hlx,?_⟩;refine lX (K:=K) (l:=lx) (xs:=ics.map V.int) (λk Y H10=>∃v10 v12 v13,Y=[some (.ref lc),some (.ref l),some (.ref ls),some (.ref lw),some (.ref dp),some (.ref dg),some (.str q),some (.int n),some (.ref pp),some (.ref gg),v10,v11,v12,v13]/\a8 Hc H10/\H10 lx=some (.lst (ics.map V.int))/\RWM H10 as (dR q rs.length ics igs W9 k)/\Sm (dR q rs.length ics igs W9 k) (8000+2000 * j+1000+k)/\k<=1000) ⟨_,_,_,U,sx,hlx,rmx,sm9.mono Yo,qz _⟩ ?_ ?_ ?_
   .rintro k Y H10 ⟨_,_,_,_,_,h10,_⟩;exact SqL.of h10
   .rintro k x Y H10 pt hx ⟨v10,v12,v13,rfl,s10,hx10,rm10,sm10,kb⟩ hpt;rw[qK]at hx
    cases ex:ics[k]? with
    |none=>rw[ex]at hx;cases hx
    |some pv=>
    rw[ex]at hx;obtain rfl:V.int pv=x:=qP hx;obtain⟨g0,gl⟩:=mem3 k pv ex;have kl:=(qh.mp ex).1;obtain⟨p,us',ea,pa,hp,ul,add⟩:=step H10 _ _ pv s10 rm10 sm10 Yo g0 gl;have tp:a8 H10 (upd H10 pt (.tup [.int k,.int pv])):=a8.new hpt _;have hpt3:(upd H10 pt (.tup [.int k,.int pv])) pt=some (.tup [.int k,.int pv]):=ag;generalize upd H10 pt (.tup [.int k,.int pv])=H11 at tp hpt3 ⊢;refine⟨pt,_,U,SqT.of hpt3,U,_,_,U,_,_,U,U,?_⟩;have gk:H11 gg=some (.lst (igs.map V.int)):=tp _ _ (s10 _ _ kg8);have lk:H11 l=some (.lst us):=tp _ _ (s10 _ _ (SC _ _ (SH _ _ hl)));have er:∀aw:Int,aw=awaited rs.length igs k->dR q rs.length ics igs W9 (k+1)=fR (dR q rs.length ics igs W9 k) pv.toNat (aw,"room",q):=λaw e=>by rw[dR,qp,ex,e];rfl
    have ul2:=hrs.len
    have fin2:∀(aw:Int)(t:Addr),H11 t=none->aw=awaited rs.length igs k->a8 Hc (upd (upd H11 t (dN (aw,"room",q))) p (.lst (us'++[.ref t])))/\(upd (upd H11 t (dN (aw,"room",q))) p (.lst (us'++[.ref t]))) lx=some (.lst (ics.map V.int))/\RWM (upd (upd H11 t (dN (aw,"room",q))) p (.lst (us'++[.ref t]))) as (dR q rs.length ics igs W9 (k+1))/\Sm (dR q rs.length ics igs W9 (k+1)) (8000+2000 * j+1000+(k+1)):=λaw t ft e=>by
     obtain⟨r1,r2⟩:=add t (aw,"room",q) _ (tp.trans (a8.new ft _)) ag;refine⟨r2,?_,by rw[er aw e];exact r1,by rw[er aw e];exact sm10.add⟩;have npx:lx≠p:=λy=>nlx (by rw[y];exact pa);rw[af npx];exact a8.new ft _ _ _ (tp _ _ hx10)
    refine⟨_,U,_,U,gg,_,U,.inl (SqL.of gk),_,_,U,U,_,U,?_⟩;rw[qa];by_cases z:k<igs.length
    .refine aU (Q9 Yo) ?_;refine⟨_,U,_,U,gg,_,k,.int igs[k],U,U,SqL.of gk,br (by rw[qK,qe z];rfl),?_⟩;refine⟨_,U,_,U,lw,_,_,_,U,U,SqL.of (tp _ _ (s10 _ _ kwC)),ea,.inl ⟨U,_,SqL.of (tp _ _ hp)⟩,_,U,_,U,ln3,λt ft=>?_⟩;refine⟨p,us',_,U,U,a8.new ft _ _ _ (tp _ _ hp),ul,?_⟩;obtain⟨a1,a2,a3,a4⟩:=fin2 igs[k] t ft (by unfold awaited;rw[Q8 z,qp,qe z];rfl);exact⟨_,_,_,U,a1,a2,a3,a4,Yo⟩
    .refine ay (Qa Yo) ?_;refine⟨_,U,l,_,U,.inl (SqL.of lk),_,_,U,U,?_⟩;refine⟨_,U,_,U,lw,_,_,_,U,U,SqL.of (tp _ _ (s10 _ _ kwC)),ea,.inl ⟨U,_,SqL.of (tp _ _ hp)⟩,_,U,_,U,ln3,λt ft=>?_⟩;refine⟨p,us',_,U,U,a8.new ft _ _ _ (tp _ _ hp),ul,?_⟩;obtain⟨a1,a2,a3,a4⟩:=fin2 ((us.length:Int)-1) t ft (by unfold awaited;rw[Q7 z,ul2]);exact⟨_,_,_,U,a1,a2,a3,a4,Yo⟩
   .rintro Y H10 ⟨v10,v12,v13,rfl,s10,hx10,rm10,sm10,kb⟩;rw[qa]at rm10 sm10;have fe:=fin _ U;rw[fe]at rm10 sm10;exact⟨_,_,_,_,_,_,_,_,U,SC.trans s10,rm10,sm10.mono Yo⟩
 .rintro Y H6 ⟨v6,v7,v8,v9,v10,v11,v12,v13,rfl,s6,rm6,sm6⟩;rw[hsv.len]at rm6;exact⟨_,U,k _ _ _ (SH.trans s6) (s6 _ _ kw5) rm6.rwl⟩
theorem Cj(T:Tx P w K mg a):aN P w K mg base CX0 3 a.G7 a.G8 ["deeds","stores"] tX:=by
 refine T.IE.ok An (λvs H Q E h=>?_) (λcdv A outer s H vs Q E hr h=>?_)
 .obtain⟨_,_,_,_,_,_,rfl,_⟩:=h
  rfl
 obtain⟨l,ls,us,sv,rs,ss,rfl,hl,hrs,hlen,small,hls,hsv,slen,spos,k⟩:=h;refine⟨_,(ak (aA (aG (Cm T) (hr.mono Yk) U T.JD T.IF.kp T.JC .nil aC (a9 (aG (Ck T) (hr.mono Yk) U T.JF T.IG.kp T.JE .nil aC (a9 (pq 0) ae)) (a9 (pq 0) (a9 (pq 1) ae)))))),?_⟩;refine⟨_,U,l,us,rs,U,hl,hrs,hlen,small,λH1 lw ws s1 _ hw rw1=>?_⟩;refine⟨_,U,_,U,lw,l,ls,ws,us,sv,_,rs,ss,U,hw,rw1,jZ rs _ (qg _),sL small _,s1 _ _ hl,hrs.same s1,hlen,s1 _ _ hls,hsv.same s1,slen,spos,λH2 l2 w2 s2 h2 r2=>?_⟩;exact k _ _ _ (s1.trans s2) h2 r2
theorem Eu{rs:List Row}{ss:List (Str×Int)}{ln:Str->Int}{i:Nat}{r:Row}(h:rs[i]?=some r)(one:dM r)(nd:(ss.map (·.1)).Nodup)(pos:∀s∈ss,0<=s.2)(hln:∀s∈ss,ln s.1=s.2)(h1:∀q,r.into=some q->∃n,(q,n)∈ss)(h2:∀q,r.outof=some q->∃n,(q,n)∈ss)(fed:∀q,r.outof=some q->(ap Row.outof (rs.take i) q).length<(ap Row.into rs q).length):
 (dc rs ss (cQ rs rs.length) ss.length)[i]?=some (cF rs ln i r):=by
 rw[yc h _ fed _ (qg _),qN,yh h _ (qh.mp h).1 (qg _)];show some (_++_)=_
 congr 1
 unfold cF;rw[qT]
 congr 1
 cases eo:r.outof with
 |none=>
  have e1:dr rs i r=[]:=by unfold dr;rw[eo]
  rw[e1,Qr]
  cases ei:r.into with
  |none=>
   have e2:dS rs ln i r=[]:=by unfold dS;rw[ei]
   rw[e2,List.flatMap_eq_nil_iff];intro s _;unfold gC gG;rw[eo,ei];simp
  |some q=>
   obtain⟨n,m⟩:=h1 q ei
   rw[rR nd m λs _ hs=>by
    unfold gC gG;rw[eo,ei]
    simp[Ne.symm hs]]
   have n0:=pos _ m;have el:=hln _ m;unfold gC gG dS iF;rw[eo,ei];show([]:List Wat)++(if some q=some q/\n.toNat<=(ap Row.into (rs.take i) q).length then _ else _)=(if 0<=((ap Row.into (rs.take i) q).length:Int)-ln q then _ else _);have el':ln q=n:=el;rw[Qr,el'];have n0':0<=n:=n0;by_cases z:n.toNat<=(ap Row.into (rs.take i) q).length
   .rw[Q8 ⟨U,z⟩,Q8 Yo,show(((ap Row.into (rs.take i) q).length:Int)-n).toNat=(ap Row.into (rs.take i) q).length-n.toNat by omega]
   .rw[Q7 (λy=>z y.2),Q7 Yo]
 |some q=>
  have ei:r.into=none:=by
   rcases one with h|h
   .exact h
   .rw[eo]at h;cases h
  have e2:dS rs ln i r=[]:=by unfold dS;rw[ei]
  rw[e2,qE];obtain⟨n,m⟩:=h2 q eo
  rw[rR nd m λs _ hs=>by
   unfold gC gG;rw[eo,ei]
   simp[Ne.symm hs]]
  unfold gC gG dr;rw[eo,ei];simp
theorem w5(T:Tx P w K mg a):aN P w K mg base CX0 1 a.Hf a.Hg ["_law_found"] uq:=by
 refine T.Ir.ok Ax (λvs H Q E h=>?_) (λcdv A outer s H vs Q E hr h=>?_)
 .obtain⟨_,rfl,_⟩:=h
  rfl
 obtain⟨i,rfl,k⟩:=h;refine⟨_,(ak (aA (gN (aW fI U T.om PyProof.Rows.Boot.«isinstance» (a9 (pq 0) (a9 (fN (v:=.ty "int") U T.KD PyProof.Rows.Boot.«int» rfl) ae))) (j0 (BJ (aW fI U T.om PyProof.Rows.Boot.«isinstance» (a9 (pq 0) (a9 (fN (v:=.ty "bool") U T.KC PyProof.Rows.Boot.«bool» rfl) ae)))))))),?_⟩;refine⟨_,U,_,_,_,true,U,.int i,U,_,U,aU U ?_⟩;exact⟨_,U,_,_,_,false,U,.int i,U,_,U,k⟩
theorem jG{H:Hp}{a b:Addr}{o:HO}(h:upd H a o b=none):H b=none:=by
 by_cases z:b=a
 .rw[z,ag]at h;cases h
 .rw[af z]at h;exact h
theorem jj{A' B':TS}{D:fA}{Y:St}{H:Hp}(Pv:St->Hp->Prop)(hb:∀Y' H',Pv Y' H'->B' D Y' H')(ha:∀N:St->Hp->Prop,(∀Y' H',Pv Y' H'->N Y' H')->A' { D with nx:=N } Y H):tw A' B' D Y H:=ha _ hb
theorem si(rs:List Row)(r:Row)(c:Str):cnO (rs++[r]) c=cnO rs c+r.owns.count c:=by
 unfold cnO;rw[Q0,List.count_append,List.flatMap_singleton]
theorem RCs.keep{H H':Hp}{rs:List Row}(e:∀c xs,H c=some (.tup xs)->H' c=some (.tup xs)):∀{vs:List V}{cs:List Str},RCs H rs vs cs->RCs H' rs vs cs
 |_,_,.nil=>.nil
 |_,_,.cons h r=>.cons (e _ _ h) (RCs.keep e r)
theorem RCs.snoc{H:Hp}{rs:List Row}{p:Addr}{c:Str}(h:H p=some (.tup [.str c,.int (cnO rs c)])):∀{vs:List V}{cs:List Str},RCs H rs vs cs->RCs H rs (vs++[.ref p]) (cs++[c])
 |_,_,.nil=>.cons h .nil
 |_,_,.cons h' r=>.cons h' (RCs.snoc h r)
theorem RCs.len{H:Hp}{rs:List Row}:∀{vs:List V}{cs:List Str},RCs H rs vs cs->vs.length=cs.length
 |_,_,.nil=>rfl
 |_,_,.cons _ r=>congrArg (·+1) (RCs.len r)
theorem RCs.at{H:Hp}{rs:List Row}:∀{vs:List V}{cs:List Str},RCs H rs vs cs->∀(i:Nat)(v:V),vs[i]?=some v->∃p c,v=.ref p/\H p=some (.tup [.str c,.int (cnO rs c)])
 |_,_,.nil,i,v,h=>by simp at h
 |_,_,.cons (p:=p) (c:=c) a _,0,v,h=>⟨p,c,by simp at h;exact h.symm,a⟩
 |_,_,.cons _ r,i+1,v,h=>RCs.at r i v (by simpa using h)
def RAx(x:Addr)(H:Hp)(rs:List Row)(i:Nat)(r:Row)(v:V):Prop:=∃p l1 l2 u1 u2,l1≠x/\l2≠x/\v=.ref p/\H p=some (.tup [.ref l1,.ref l2])/\H l1=some (.lst u1)/\H l2=some (.lst u2)/\RCs H (rs.take i) u1 r.owns/\RCs H (rs.take i) u2 r.reads
theorem RAx.keep{x:Addr}{H H':Hp}{rs:List Row}{i:Nat}{r:Row}{v:V}(h:RAx x H rs i r v)(e1:∀c xs,H c=some (.tup xs)->H' c=some (.tup xs))(e2:∀c xs,c≠x->H c=some (.lst xs)->H' c=some (.lst xs)):RAx x H' rs i r v:=by
 obtain⟨p,l1,l2,u1,u2,n1,n2,ev,h1,h2,h3,r1,r2⟩:=h;exact⟨p,l1,l2,u1,u2,n1,n2,ev,e1 _ _ h1,e2 _ _ n1 h2,e2 _ _ n2 h3,r1.keep e1,r2.keep e1⟩
theorem CQ(T:Tx P w K mg a):aN P w K mg base CX0 2 a.HH a.HI ["_law_deeds"] uN:=by
 refine T.Jj.ok iS (λvs H Q E h=>?_) (λcdv A outer s H vs Q E hr h=>?_)
 .obtain⟨_,_,_,rfl,_⟩:=h
  rfl
 obtain⟨l,us,rs,rfl,hl,hrs,hlen,small,k⟩:=h
 refine⟨_,(ah (aq (i:=1) iS.nd U (Or.inr U) gi)
  (ah (aq (i:=2) iS.nd U Oi (aT ae))
  (ah (bL PassesOwn.never U (cq (pq 0)) (aK (i:=3) iS.nd U Oi)
  (ah (pA (i:=4) iS.nd U Oi (k:=1) (Nc:=["_law_card","_law_many"]) (js:=[1]) (show bE (aI ju) ["_law_deeds","_law_many","_law_rows","_law_row","_law_owned_here","_law_card"] _ 1 ["_law_card","_law_many"] [1]from bE.mk U (by decide +kernel) (by decide +kernel) (by decide +kernel) U (by decide +kernel)) U (ie (ai ar (pq 3) ac Oy)) (λ_ _ _ _ _=>(aK (i:=0) (show List.Nodup (["_law_card","_law_many"]:List Str)from by decide +kernel) U Oi)) (λ_ _ _ _ _=>i8) (λ_ _ _ _ _=>(ba (a9 (pq 0) (a9 (dW hr.one (pq 1) (pq 0) ac ⟨U,U,U,U⟩) ae)))))
  (ah (bw (bH qi qC qD cA (pq 2) (a9 (ba (a9 (pq 4) (a9 (fL (k:=1) (Nc:=["_law_card","_law_many"]) (js:=[1]) (show bE (aI ju) ["_law_deeds","_law_many","_law_rows","_law_row","_law_owned_here","_law_card"] _ 1 ["_law_card","_law_many"] [1]from bE.mk U (by decide +kernel) (by decide +kernel) (by decide +kernel) U (by decide +kernel)) U (ie (ai ar (pq 3) ac Oy)) (λ_ _ _ _ _=>(aK (i:=0) (show List.Nodup (["_law_card","_law_many"]:List Str)from by decide +kernel) U Oi)) (λ_ _ _ _ _=>i8) (λ_ _ _ _ _=>(ba (a9 (pq 0) (a9 (dW hr.one (pq 1) (pq 0) ac ⟨U,U,U,U⟩) ae))))) ae))) ae)))
  (ak (bL PassesOwn.never U (ie (ai ar (pq 3) ac Oy)) (aK (i:=5) iS.nd U Oi)
  (ak (fK (hr.one) (pq 1) (pq 5) (ao bu (dW hr.one (pq 1) (pq 5) ac ⟨U,U,U,U⟩) ac) U)))))))
  (ak (aA (pq 2)))))),?_⟩
 have big:(5000000:Nat)<sizeLine:=Yk;have ul:=hrs.len;refine λd hd=>⟨qz _,λlr hlr=>?_⟩;have ndr:lr≠d:=λz=>by rw[z,ag]at hlr;cases hlr
 have hlr0:H lr=none:=jG hlr;have s1:=(a8.new hd (.dK [])).trans (a8.new hlr (.lst []));refine⟨_,U,l,U,⟨_,SqL.of (s1 _ _ hl)⟩,?_⟩;refine d9 (K:=K) (a:=l) (xs:=us) (λi Y G=>∃v3 v4 v5 kvs as,Y=[some (.ref l),some (.ref d),some (.ref lr),v3,v4,v5]/\a8 H G/\G d=some (.dK kvs)/\sQ kvs (rs.take i)/\kvs.length<=4000 * i/\G lr=some (.lst as)/\as.length=i/\∀j r,j<i->rs[j]?=some r->∃v,as[j]?=some v/\RAx lr G rs j r v) ⟨_,_,_,[],[],U,s1,a8.new hlr _ _ _ ag,λc=>U,qg _,ag,U,λj r hj=>Qb hj (QE _)⟩ ?_ ?_ ?_
 .rintro i Y G _ ⟨_,_,_,_,_,_,s2,_⟩;exact SqL.of (s2 _ _ hl)
 .rintro i x Y G hx ⟨v3,v4,v5,kvs,as,rfl,s2,hd2,hc2,kl2,hr2,al2,ra2⟩;obtain⟨r,hr',px,po,pr,rfl,h1,h2,h3⟩:=hrs.at i x hx;have il:=(qh.mp hr').1;obtain⟨sm1,sm2⟩:=small r (qG hr');refine⟨_,U,px,_,_,_,U,U,SqT.of (s2 _ _ h1),U,po,U,⟨_,SqT.of (s2 _ _ h2)⟩,?_⟩;refine xS (K:=K) (a:=po) (xs:=r.owns.map V.str) (λj ys Y G2=>(∃v,Y=[v,some (.ref d)])/\a8 G G2/\RCs G2 (rs.take i) ys (r.owns.take j)) ⟨⟨_,U⟩,a8.refl _,.nil⟩ ?_ (bg (m:=4000) (by rw[qa];exact sm1)) ?_ ?_ ?_
  .rintro j ys Y G2 _ ⟨_,_,h⟩;rw[h.len,qQ];exact Nat.min_le_left _ _
  .rintro j ys Y G2 ⟨_,s3,_⟩;exact SqT.of (s3 _ _ (s2 _ _ h2))
  .rintro j x ys Y G2 hx ⟨⟨v,rfl⟩,s3,rc⟩;rw[qK]at hx;obtain⟨c,hc,rfl⟩:=qV.mp hx;refine⟨_,U,_,U,d,U,.inl ⟨kvs,.inl (s3 _ _ hd2)⟩,_,U,_,ci.k (k:=.inr c) (s3 _ _ hd2),?_⟩;rw[hc2 c];refine⟨ln2,λp hp=>⟨⟨_,U⟩,s3.trans (a8.new hp _),?_⟩⟩;rw[qy,hc];exact(rc.keep λc xs h=>a8.new hp _ _ _ h).snoc ag
  rintro ys Y G2 ⟨_,s3,rc⟩ l1 hl1;rw[qa,qN]at rc;have q1:=a8.new hl1 (.lst ys);have s4:=s3.trans q1;have rc1:=rc.keep λc xs h=>q1 _ _ h;have hl1':upd G2 l1 (.lst ys) l1=some (.lst ys):=ag;have n1:l1≠lr:=λz=>by rw[z,s3 _ _ hr2]at hl1;cases hl1
  generalize upd G2 l1 (.lst ys)=G3 at s4 rc1 hl1' ⊢;have s24:=s2.trans s4;refine⟨_,U,.inl ⟨U,_,SqL.of (s4 _ _ hr2)⟩,_,U,_,U,px,_,_,_,U,U,SqT.of (s24 _ _ h1),U,pr,U,⟨_,SqT.of (s24 _ _ h3)⟩,?_⟩;refine xS (K:=K) (a:=pr) (xs:=r.reads.map V.str) (λj ys Y G4=>(∃v,Y=[v,some (.ref d)])/\a8 G3 G4/\RCs G4 (rs.take i) ys (r.reads.take j)) ⟨⟨_,U⟩,a8.refl _,.nil⟩ ?_ (bg (m:=4000) (by rw[qa];exact sm2)) ?_ ?_ ?_
  .rintro j ys Y G4 _ ⟨_,_,h⟩;rw[h.len,qQ];exact Nat.min_le_left _ _
  .rintro j ys Y G4 ⟨_,s5,_⟩;exact SqT.of (s5 _ _ (s24 _ _ h3))
  .rintro j x ys Y G4 hx ⟨⟨v,rfl⟩,s5,rc⟩;rw[qK]at hx;obtain⟨c,hc,rfl⟩:=qV.mp hx;have hd4:=s5 _ _ (s4 _ _ hd2);refine⟨_,U,_,U,d,U,.inl ⟨kvs,.inl hd4⟩,_,U,_,ci.k (k:=.inr c) hd4,?_⟩;rw[hc2 c];refine⟨ln2,λp hp=>⟨⟨_,U⟩,s5.trans (a8.new hp _),?_⟩⟩;rw[qy,hc];exact(rc.keep λc xs h=>a8.new hp _ _ _ h).snoc ag
  rintro ys2 Y G4 ⟨_,s5,rc2⟩ l2 hl2;rw[qa,qN]at rc2;have q2:=a8.new hl2 (.lst ys2);have n2:l2≠lr:=λz=>by rw[z,s5 _ _ (s4 _ _ hr2)]at hl2;cases hl2
  refine⟨ln2,λp hp=>?_⟩;have q3:=a8.new hp (.tup [.ref l1,.ref l2]);have s6:=s4.trans (s5.trans (q2.trans q3));refine⟨lr,as,.ref p,U,U,s6 _ _ hr2,Yo,?_⟩;have e5:∀c o,c≠lr->G c=some o->upd (upd (upd G4 l2 (.lst ys2)) p (.tup [.ref l1,.ref l2])) lr (.lst (as++[.ref p])) c=some o:=λc o n h=>by rw[af n];exact s6 _ _ h
  have npr:p≠lr:=λz=>by rw[z,(q2 _ _ (s5 _ _ (s4 _ _ hr2)))]at hp;cases hp
  have new5:RAx lr (upd (upd (upd G4 l2 (.lst ys2)) p (.tup [.ref l1,.ref l2])) lr (.lst (as++[.ref p]))) rs i r (.ref p):=by
   have kt:∀c xs,(upd (upd G4 l2 (.lst ys2)) p (.tup [.ref l1,.ref l2])) c=some (.tup xs)->upd (upd (upd G4 l2 (.lst ys2)) p (.tup [.ref l1,.ref l2])) lr (.lst (as++[.ref p])) c=some (.tup xs):=λc xs h=>by
    rw[af (λz=>by rw[z,s6 _ _ hr2]at h;cases h)];exact h
   exact⟨p,l1,l2,ys,ys2,n1,n2,U,kt _ _ ag,by rw[af n1];exact(s5.trans (q2.trans q3)) _ _ hl1',by rw[af n2];exact q3 _ _ ag,rc1.keep λc xs h=>kt c xs ((s5.trans (q2.trans q3)) _ _ h),rc2.keep λc xs h=>kt c xs ((q2.trans q3) _ _ h)⟩
  have hr5:upd (upd (upd G4 l2 (.lst ys2)) p (.tup [.ref l1,.ref l2])) lr (.lst (as++[.ref p])) lr=some (.lst (as++[.ref p])):=ag;generalize upd (upd (upd G4 l2 (.lst ys2)) p (.tup [.ref l1,.ref l2])) lr (.lst (as++[.ref p]))=G5 at e5 new5 hr5 ⊢;have hd5:=e5 _ _ ndr.symm hd2;have s05:a8 H G5:=λc o h=>e5 c o (λz=>by rw[z,hlr0]at h;cases h) (s2 c o h);have tk:rs.take (i+1)=rs.take i++[r]:=by rw[qy,hr'];rfl
  refine⟨_,U,px,_,_,_,U,U,SqT.of (s05 _ _ h1),U,po,U,⟨_,SqT.of (s05 _ _ h2)⟩,?_⟩;refine rQ (K:=K) (a:=po) (xs:=r.owns.map V.str) (λj Y G6=>∃v5 kvs',Y=[some (.ref l),some (.ref d),some (.ref lr),some (.ref px),some (.ref l1),v5]/\(∀c,c≠d->G6 c=G5 c)/\G6 d=some (.dK kvs')/\kvs'.length<=4000 * i+j/\∀c:Str,(aJ kvs' (.inr c)).getD (.int 0)=.int ((cnO (rs.take i) c+(r.owns.take j).count c:Nat):Int)) ⟨_,kvs,U,λ_ _=>U,hd5,kl2,λc=>hc2 c⟩ ?_ ?_ ?_
  .rintro j Y G6 _ ⟨v,kvs',_,e6,_⟩;have pd:po≠d:=λz=>by rw[z,hd]at h2;cases h2
   exact SqT.of ((e6 po pd).trans (s05 _ _ h2))
  .rintro j x Y G6 hx ⟨v,kvs',rfl,e6,hd6,kl6,hc6⟩;rw[qK]at hx;obtain⟨c,hc,rfl⟩:=qV.mp hx;have jl:j<r.owns.length:=(qh.mp hc).1;refine⟨_,U,d,U,.inl ⟨kvs',.inl hd6⟩,_,U,_,ci.k (k:=.inr c) hd6,_,_,hc6 c,U,?_⟩;refine⟨_,U,_,U,d,_,U,eu.k (k:=.inr c) hd6 Yo,?_⟩;refine⟨_,_,U,λc' h=>by rw[af h];exact e6 c' h,ag,qF (dL _ _ _) Yo,λc'=>?_⟩;rw[dF,qy,hc,List.count_append];by_cases e:c'=c
   .subst e;simp;omega
   .have e1:¬ (Sum.inr c':Key)=Sum.inr c:=λz=>e (Sum.inr.inj z);rw[Q7 e1,hc6 c']
    have:(some c).toList.count c'=0:=by
     show[c].count c'=0;rw[List.count_singleton];simp[Ne.symm e]
    rw[this]
    rfl
  .rintro Y G6 ⟨v,kvs',rfl,e6,hd6,kl6,hc6⟩;rw[qa]at kl6 hc6;rw[qN]at hc6;have kt:∀c xs,G5 c=some (.tup xs)->G6 c=some (.tup xs):=λc xs h=>(e6 c (λz=>by rw[z,hd5]at h;cases h)).trans h;have kl:∀c xs,c≠lr->G5 c=some (.lst xs)->G6 c=some (.lst xs):=λc xs _ h=>(e6 c (λz=>by rw[z,hd5]at h;cases h)).trans h;refine⟨_,_,_,kvs',as++[.ref p],U,λc o h=>(e6 c (λz=>by rw[z,hd]at h;cases h)).trans (s05 c o h),hd6,λc=>?_,Yo,(e6 lr ndr).trans hr5,by rw[qc,al2];rfl,λj r2 hj h=>?_⟩
   .rw[tk,si];exact hc6 c
   .rcases Nat.lt_or_eq_of_le (Nat.lt_succ_iff.mp hj)with lt|rfl
    .obtain⟨v,hv,z⟩:=ra2 j r2 lt h;refine⟨v,by rw[Qc Yo];exact hv,?_⟩;have z5:=z.keep (H':=G5) (λc xs h=>e5 c _ (λy=>by rw[y,hr2]at h;cases h) h) (λc xs n h=>e5 c _ n h);exact z5.keep kt kl
    .rw[hr']at h;cases h;exact⟨.ref p,by rw[qR Yo,al2,Nat.sub_self];rfl,new5.keep kt kl⟩
 .rintro Y G ⟨v3,v4,v5,kvs,as,rfl,s2,_,_,_,hr2,al2,ra2⟩;refine⟨_,U,k G lr as s2 hr2 ⟨by rw[al2,ul],λi r hi h=>?_⟩⟩;obtain⟨v,hv,p,l1,l2,u1,u2,_,_,z⟩:=ra2 i r Yo h;exact⟨v,hv,p,l1,l2,u1,u2,z⟩
theorem wy(o:Option Str):nkV o=cO o:=by cases o<;>rfl
theorem yI(xs:NEs)(k:List NK)(b:Addr)(v:V)(j:List NK):bh (gJ xs k b v) j=if j=k then some v else bh xs j:=by
 unfold gJ;split
 .rename_i h
  have gen:∀ys:NEs,(bh ys k).isSome=true->bh (ys.map λx=>if x.1=k then(x.1,x.2.1,v)else x) j=if j=k then some v else bh ys j:=by
   intro ys
   induction ys with
   |nil=>intro h;simp[bh]at h
   |cons y r ih=>
    intro h;by_cases ey:y.1=k
    .by_cases ej:j=k
     .subst ej;simp[bh,Qf,ey]
     .have n1:¬ k=j:=λz=>ej z.symm;rw[Q7 ej]
      have rest:∀zs:NEs,bh (zs.map λx=>if x.1=k then(x.1,x.2.1,v)else x) j=bh zs j:=by
       intro zs
       induction zs with
       |nil=>rfl
       |cons z s iz=>
        by_cases ez:z.1=k
        .simp[bh,Qf,ez,n1]at iz ⊢;exact iz
        .by_cases e2:z.1=j
         .simp[bh,Qf,ez,e2];rw[Q7 (by rw[<- e2];exact ez)];simp[e2];exact⟨_,_,U⟩
         .simp[bh,Qf,ez,e2]at iz ⊢;exact iz
      exact rest (y::r)
    .have h':(bh r k).isSome=true:=by simpa[bh,Qf,ey]using h
     have ih:=ih h';by_cases e2:y.1=j
     .have ej:¬ j=k:=λz=>ey (e2.trans z);rw[Q7 ej];simp[bh,Qf,ey,e2];rw[Q7 ej];simp[e2];exact⟨_,_,U⟩
     .simp[bh,Qf,ey,e2]at ih ⊢;exact ih
  exact gen xs h
 .rename_i h
  have h:bh xs k=none:=by
   cases e:bh xs k with
   |none=>rfl
   |some _=>rw[e]at h;simp at h
  have gen:∀ys:NEs,bh ys k=none->bh (ys++[(k,b,v)]) j=if j=k then some v else bh ys j:=by
   intro ys
   induction ys with
   |nil=>
    intro _;by_cases ej:j=k
    .subst ej;simp[bh]
    .have n1:¬ k=j:=λz=>ej z.symm;simp[bh,n1,ej]
   |cons y r ih=>
    intro h;have ey:¬ y.1=k:=λz=>by simp[bh,Qf,z]at h
    have h':bh r k=none:=by simpa[bh,Qf,ey]using h
    have ih:=ih h';by_cases e2:y.1=j
    .have ej:¬ j=k:=λz=>ey (e2.trans z);rw[Q7 ej];simp[bh,Qf,e2]
    .simp only[Qs,bh,Qf,e2,decide_false]at ih ⊢;exact ih
  exact gen xs h
theorem CK(T:Tx P w K mg a):aN P w K mg base CX0 2 a.HQ a.HR ["_law_deeds"] uD:=by
 refine T.Jo.ok jt (λvs H Q E h=>?_) (λcdv A outer s H vs Q E hr h=>?_)
 .obtain⟨_,_,_,rfl,_⟩:=h
  rfl
 obtain⟨l,us,rs,rfl,hl,rr,few,q⟩:=h
 refine⟨_,(ah (aq (i:=1) jt.nd U Oi BQ)
  (ah (aq (i:=2) jt.nd U Oi (aT ae))
  (ah (bL PassesOwn.never U (cq (pq 0)) (aK (i:=3) jt.nd U Oi)
  (ah (aq (i:=4) jt.nd U Oi (ba (a9 (ai ar (pq 3) ac Oy) (a9 (ai ar (pq 3) ac Oy) ae))))
  (ah (bw (bH qi qC qD cA (pq 2) (a9 (vQ hr.one (pq 1) (pq 4) ac ⟨U,U,U,U⟩) ae)))
  (ak (Bt (hr.one) (pq 1) (pq 4) (ao bu (vQ hr.one (pq 1) (pq 4) ac ⟨U,U,U,U⟩) ac) U)))))
  (ak (aA (pq 2)))))),?_⟩
 refine λd hd=>⟨qz _,λn0 hn0=>?_⟩;have e0:=(a8.new hd (DNo P w d [])).trans (a8.new hn0 (.lst []));have d0:=a8.new hn0 (.lst []) _ _ (ag (H:=H) (a:=d) (o:=DNo P w d []));have l0:upd (upd H d (DNo P w d [])) n0 (.lst []) n0=some (.lst []):=ag;have nn0:H n0=none:=a8.none (a8.new hd (DNo P w d [])) hn0;have nd0:n0≠d:=λz=>by rw[z,ag]at hn0;cases hn0
 refine⟨_,U,l,U,⟨_,SqL.of (e0 _ _ hl)⟩,?_⟩;refine d9 (K:=K) (a:=l) (xs:=us) (λi Y H2=>∃xs v3 v4,Y=[some (.ref l),some (.ref d),some (.ref n0),v3,v4]/\a8 H H2/\H2 d=some (DNo P w d xs)/\jd H2 xs/\(∀k,(bh xs k).getD (.int 0)=.int (nmR (rs.take i) k:Nat))/\xs.length<=i/\H2 n0=some (.lst ((List.range i).map λj:Nat=>V.int (cu rs j)))) ⟨[],_,_,U,e0,d0,λx hx=>by simp at hx,λk=>U,qg _,l0⟩ ?_ ?_ ?_
 .rintro i Y H2 _ ⟨_,_,_,_,s2,_⟩;exact SqL.of (s2 _ _ hl)
 .rintro i x Y H2 hx ⟨xs,v3,v4,rfl,s2,hd2,nk2,vk,xl,hn2⟩;obtain⟨r,hr',px,po,pr,rfl,h1,h2,h3⟩:=rr.at i x hx;have lt:i<rs.length:=(qh.mp hr').1;refine⟨_,U,px,_,3,_,U,U,SqT.of (s2 _ _ h1),U,_,U,px,_,4,_,U,U,SqT.of (s2 _ _ h1),U,ln2,λkp hkp=>?_⟩;have e3:=a8.new hkp (.tup [cO r.into,cO r.outof])
  have kp3:upd H2 kp (.tup [cO r.into,cO r.outof]) kp=some (.tup ((bP r).map nkV)):=by
   rw[ag];show _=some (HO.tup [nkV r.into,nkV r.outof]);rw[wy,wy]
  generalize upd H2 kp (.tup [cO r.into,cO r.outof])=H3 at e3 kp3 ⊢;have hd3:=e3 _ _ hd2;have hn3:=e3 _ _ hn2;have nk3:jd H3 xs:=λx hx=>e3 _ _ (nk2 x hx);have s3:=s2.trans e3;have big:(1001:Nat)<=sizeLine:=Yk;refine⟨_,U,.inl ⟨U,_,SqL.of hn3⟩,_,U,d,xs,U,hd3,_,U,xs,bP r,kp,hd3,nk3,U,kp3,n0,_,_,U,U,hn3,bg (m:=1001) (by rw[qa,Qk];omega),?_⟩;rw[vk (bP r)];have ntn:∀{b:Addr}{ys:List V},H3 b=some (.tup ys)->b≠n0:=λh z=>by rw[z,hn3]at h;cases h
  have s4:a8 H (upd H3 n0 (.lst ((List.range i).map (λj:Nat=>V.int (cu rs j))++[.int (nmR (rs.take i) (bP r):Nat)]))):=a8.over s3 nn0;have hd4:upd H3 n0 (.lst ((List.range i).map (λj:Nat=>V.int (cu rs j))++[.int (nmR (rs.take i) (bP r):Nat)])) d=some (DNo P w d xs):=by rw[af nd0.symm];exact hd3
  have t4:∀{b:Addr}{ys:List V},H3 b=some (.tup ys)->upd H3 n0 (.lst ((List.range i).map (λj:Nat=>V.int (cu rs j))++[.int (nmR (rs.take i) (bP r):Nat)])) b=some (.tup ys):=λh=>by rw[af (ntn h)];exact h
  have hn4:upd H3 n0 (.lst ((List.range i).map (λj:Nat=>V.int (cu rs j))++[.int (nmR (rs.take i) (bP r):Nat)])) n0=some (.lst ((List.range (i+1)).map λj:Nat=>V.int (cu rs j))):=by
   have en:cu rs i=(nmR (rs.take i) (bP r):Nat):=by unfold cu;rw[hr']
   rw[ag,List.range_succ,qU,<- en]
   rfl
  generalize upd H3 n0 (.lst ((List.range i).map (λj:Nat=>V.int (cu rs j))++[.int (nmR (rs.take i) (bP r):Nat)]))=H4 at s4 hd4 t4 hn4 ⊢;have nk4:jd H4 xs:=λx hx=>t4 (nk3 x hx);refine⟨_,U,d,xs,U,hd4,_,U,xs,bP r,kp,hd4,nk4,U,t4 kp3,(nmR (rs.take i) (bP r):Nat),1,vk (bP r),U,_,U,_,U,d,xs,bP r,kp,U,hd4,nk4,U,t4 kp3,Yo,?_⟩;have ntd:∀{b:Addr}{ys:List V},H4 b=some (.tup ys)->b≠d:=λh z=>by rw[z,hd4]at h;cases h
  refine⟨_,_,_,U,a8.over s4 hd,ag,λx hx=>?_,λk=>?_,qF (vI _ _ _ _) Yo,by rw[af nd0];exact hn4⟩
  .have hx':H4 x.2.1=some (.tup (x.1.map nkV)):=by
    unfold gJ at hx;split at hx
    .obtain⟨y,hy,rfl⟩:=List.mem_map.mp hx;by_cases e:y.1=bP r
     .rw[Q8 e];exact nk4 y hy
     .rw[Q7 e];exact nk4 y hy
    .rcases qk.mp hx with h|h
     .exact nk4 x h
     .rw[qY.mp h];exact t4 kp3
   rw[af (ntd hx')];exact hx'
  .have tk:rs.take (i+1)=rs.take i++[r]:=by rw[qy,hr'];rfl
   have en:nmR (rs.take (i+1)) k=nmR (rs.take i) k+if bP r=k then 1 else 0:=by
    unfold nmR;rw[tk,qU,List.count_append,List.map_singleton,List.count_singleton];by_cases e:bP r=k
    .rw[Q8 e,Q8 (by simpa using e)]
    .rw[Q7 e,Q7 (by simpa using e)]
   rw[yI];by_cases e:k=bP r
   .subst e;rw[Q8 U,en,Q8 U]
    rfl
   .rw[Q7 e,en,Q7 (λz=>e z.symm),Nat.add_zero];exact vk k
 .rintro Y H2 ⟨xs,v3,v4,rfl,s2,hd2,nk2,vk,xl,hn2⟩;rw[rr.len]at hn2;exact⟨_,U,q _ n0 s2 nn0 hn2⟩
theorem RCs.at2{H:Hp}{rs:List Row}:∀{vs:List V}{cs:List Str},RCs H rs vs cs->∀(i:Nat)(v:V),vs[i]?=some v->∃p c,v=.ref p/\cs[i]?=some c/\H p=some (.tup [.str c,.int (cnO rs c)])
 |_,_,.nil,i,v,h=>by simp at h
 |_,_,.cons (p:=p) (c:=c) a _,0,v,h=>⟨p,c,by simp at h;exact h.symm,U,a⟩
 |_,_,.cons _ r,i+1,v,h=>RCs.at2 r i v (by simpa using h)
theorem w8(T:Tx P w K mg a):aN P w K mg base CX0 2 a.HS a.HU ["_law_pairs","_law_card"] uB:=by
 refine T.Ix.ok n8 (λvs H Q E h=>?_) (λcdv A outer s H vs Q E hr h=>?_)
 .obtain⟨_,_,_,_,_,rfl,_⟩:=h
  rfl
 obtain⟨l,us,rs,cs,c,rfl,hl,rc,q⟩:=h
 refine⟨_,(ah (bL PassesOwn.never U (cq (pq 0)) (dA U (bC (aK (i:=2) n8.nd U Oi) (bC (aK (i:=3) n8.nd U Oi) dy)))
  (ak (aM (au aY (pq 2) (pq 1) (ax _)) (ak (aA (pq 3))) aR)))
  (ak (aA bT))),?_⟩
 refine⟨_,U,l,U,⟨_,SqL.of hl⟩,?_⟩;refine d9 (K:=K) (a:=l) (xs:=us) (λi Y H2=>(∃v2 v3,Y=[some (.ref l),some (.str c),v2,v3])/\H2=H/\c∉cs.take i) ⟨⟨_,_,U⟩,U,by simp⟩ ?_ ?_ ?_
 .rintro i Y H2 _ ⟨_,rfl,_⟩;exact SqL.of hl
 .rintro i x Y H2 hx ⟨⟨v2,v3,rfl⟩,rfl,no⟩;obtain⟨p,c',rfl,hc',hp⟩:=RCs.at2 rc i x hx;refine⟨p,_,U,SqT.of hp,U,_,_,U,_,_,U,U,?_⟩;refine⟨_,U,_,U,U,_,U,?_⟩;by_cases e:c'=c
  .subst e;refine ifE U ?_;refine⟨_,U,?_⟩;rw[Q8 (qG hc')]at q;exact q
  .refine ifN (λz=>e (by injection z)) ⟨⟨_,_,U⟩,U,?_⟩;rw[qy,hc'];intro hm;rcases qk.mp hm with h|h
   .exact no h
   .exact e (qY.mp h).symm
 .rintro Y H2 ⟨⟨v2,v3,rfl⟩,rfl,no⟩;rw[rc.len,qN]at no;rw[Q7 no]at q;exact q
theorem CI(T:Tx P w K mg a):aN P w K mg base CX0 3 a.HX a.HY ["_law_one","_law_many"] uA:=by
 refine T.Js.ok Ay (λvs H Q E h=>?_) (λcdv A outer s H vs Q E hr h=>?_)
 .obtain⟨_,_,_,_,_,rfl,_⟩:=h
  rfl
 obtain⟨p,j,k,n,m,rfl,hp,jm,q⟩:=h
 refine⟨_,(ah (aM (PW.pt (d6 (eJ (eI (aW fI U T.om PyProof.Rows.Boot.«isinstance» (a9 (pq 0) (a9 (fN (v:=.ty "tuple") U T.At PyProof.Rows.Boot.«tuple» rfl) ae))))) (d6 (au i5 (aW bK U T.dz Qe (a9 (pq 0) ae)) ac (ax _)) (d6 (eJ (eI (aG (w5 T) (hr.mono Yk) U T.J5 T.Ir.kp T.J4 .nil aC (a9 (ai ar (pq 0) ac Oy) ae)))) (fJ (eJ (ph iW gb ac (ai ar (pq 0) ac Oy) (pq 1)))))))) (ak (aA dB)) aR)
  (ak (aA (gN (aW fI U T.om PyProof.Rows.Boot.«isinstance» (a9 (ai ar (pq 0) ac Oy) (a9 (fN (v:=.ty "str") U T.FZ PyProof.Rows.Boot.«str» rfl) ae))) (j0 (aW fI U T.om PyProof.Rows.Boot.«isinstance» (a9 (ai ar (pq 0) ac Oy) (a9 (fN (v:=.ty "str") U T.FZ PyProof.Rows.Boot.«str» rfl) ae)))))))),?_⟩
 refine⟨_,U,_,_,_,true,U,.tup hp,U,_,U,ay U ?_⟩;refine⟨_,U,p,_,U,.inr (SqT.of hp),U,_,U,ay U ?_⟩;refine⟨_,U,p,_,0,_,U,U,SqT.of hp,U,_,U,_,U,ay U ?_⟩;refine⟨_,U,p,_,0,_,U,U,SqT.of hp,U,_,_,U,U,_,U,aU (Q9 Yo) ⟨_,U,_,_,U,U,_,U,ay (by rw[Q9 Yo];rfl) ?_⟩⟩;refine⟨_,U,p,_,1,_,U,U,SqT.of hp,U,_,_,_,true,U,.str k,U,_,U,aU U ?_⟩;exact⟨_,U,p,_,2,_,U,U,SqT.of hp,U,_,_,_,true,U,.str n,U,q⟩
theorem vT(o:Option Str)(x:Str):jn (cO o) (.str x)=true:=by cases o<;>rfl
theorem CM(T:Tx P w K mg a):aN P w K mg base CX0 3 a.HV a.HW ["_law_deeds","_law_ahead_here","_law_numbers","_law_lengths","_law_k","_law_wait"] uG:=by
 refine T.Jr.ok hV (λvs H Q E h=>?_) (λcdv A outer s H vs Q E hr h=>?_)
 .obtain⟨_,_,_,_,_,_,_,_,_,_,_,_,_,rfl,_⟩:=h
  rfl
 obtain⟨l,la,lnn,d,p,us,as,rs,kvs,ln,i,r,e,rfl,LH,hi,hp,me,q⟩:=h
 refine⟨_,(ah (gK (pq 5) (dA U (bC (aK (i:=6) hV.nd U Oi) (bC (aK (i:=7) hV.nd U Oi) (bC (aK (i:=8) hV.nd U (Or.inr U)) dy)))))
  (ah (aM (PW.pt (d6 (au aY (pq 7) aO (ax _)) (fJ (au aY (pq 7) aO (ax _))))) (ah (aq (i:=9) hV.nd U Oi (aG (w8 T) (hr.mono Yk) U T.Jq T.Ix.kp T.Jp .nil aC (a9 (ai ar (ai aE (pq 1) (pq 4) Oy) (gM (au aY (pq 7) aO (ax _)) ac ac) Oy) (a9 (pq 8) ae))))
  (ah (aq (i:=10) hV.nd U Oi (aG (w8 T) (hr.mono Yk) U T.Jq T.Ix.kp T.Jp .nil aC (a9 (ai ar (ai aE (pq 1) (pq 6) Oy) ac Oy) (a9 (pq 8) ae))))
  (ak (aA (gN (fq fj (pq 9) bT (ax _)) (gN (fq fj (pq 10) bT (ax _)) (j0 (fq aY (pq 9) (ao bu (pq 10) ac) (ax _))))))))) aR)
  (ah (aM (au aY (pq 7) aO (ax _)) (ak (aA (gN (fq aY (ai ar (ai aE (pq 0) (pq 4) Oy) ac Oy) (pq 8) (ax _)) (gN (fq aY (ai ar (ai aE (pq 0) (pq 6) Oy) ac Oy) (pq 8) (ax _)) (j0 (fq aY (ai aE (pq 2) (pq 6) Oy) (ai aE (pq 2) (pq 4) Oy) (ax _))))))) aR)
  (ah (aM (PW.pt (d6 (au i5 (pq 7) aO (ax _)) (d6 (au i5 (ai ar (ai aE (pq 0) (pq 4) Oy) ac Oy) (pq 8) (ax _)) (fJ (au gb (ai aE (pq 2) (pq 4) Oy) (jB hr.one (pq 3) (pq 8) Oy) (ax _)))))) (ak (aA dB)) aR)
  (ah (aq (i:=11) hV.nd U Oi (ao iV (ai aE (pq 2) (pq 4) Oy) (jB hr.one (pq 3) (pq 8) Oy)))
  (ah (aM (au aY (ai ar (ai aE (pq 0) (pq 6) Oy) ac Oy) (pq 8) (ax _)) (ak (aA (fq aY (ai aE (pq 2) (pq 6) Oy) (pq 11) (ax _)))) aR)
  (ak (aA (gN (fq aY (pq 6) (ao iV (aW bK U T.dz Qe (a9 (pq 0) ae)) ac) (ax _)) (j0 (fq iW (aW bK U T.dz Qe (a9 (fL (k:=1) (Nc:=["_law_row","_law_name"]) (js:=[8]) (show bE (aI kS) ["_law_deeds","_law_ahead_here","_law_numbers","_law_lengths","_law_k","_law_wait","_law_j","_law_kind","_law_name","_law_many","_law_below","_law_freed"] _ 1 ["_law_row","_law_name"] [8]from bE.mk U (by decide +kernel) (by decide +kernel) (by decide +kernel) U (by decide +kernel)) U (cq (pq 0)) (λ_ _ _ _ _=>(aK (i:=0) (show List.Nodup (["_law_row","_law_name"]:List Str)from by decide +kernel) U Oi)) (λ_ _ _ _ _=>(iZ (au aY (ai (Bb (K:=K) U) (pq 0) ac Oy) (pq 1) (ax _)))) (λ_ _ _ _ _=>(pq 0))) ae)) (pq 11) (ax _)))))))))))),?_⟩
 have lt:=(qh.mp hi).1
 have row:∀{j:Nat}{r:Row},rs[j]?=some r->∃px po pr,us[j]?=some (.ref px)/\H px=some (.tup [.str r.kind,.ref po,.ref pr,cO r.into,cO r.outof]):=λ{j r} h=>by
  have lj:=(qh.mp h).1;obtain⟨x,hx⟩:∃x,us[j]?=some x:=⟨_,qe (by rw[LH.rr.len];exact lj)⟩;obtain⟨r',hr',px,po,pr,rfl,h1,_,_⟩:=LH.rr.at j x hx;rw[h]at hr';cases hr';exact⟨px,po,pr,hx,h1⟩
 have atn:∀{j:Nat},j<rs.length->((List.range rs.length).map λi:Nat=>V.int (cu rs i))[j]?=some (.int (cu rs j)):=λ{j} h=>by rw[qK,List.getElem?_range h];rfl
 obtain⟨va,hva,pa,l1,l2,u1,u2,rfl,hpa,hl1,hl2,rc1,rc2⟩:=LH.ra.2 i r lt hi;obtain⟨pi,po,pr,hxi,h1⟩:=row hi
 cases me with
 |@card j c r' hj c1 c2 cn=>
  have lj:=(qh.mp hj).1;obtain⟨vb,hvb,pb,m1,m2,w1,w2,rfl,hpb,hm1,hm2,rd1,rd2⟩:=LH.ra.2 j r' lj hj;have hp:H p=some (.tup [.int j,.str "card",.str c]):=hp;refine⟨_,U,p,_,U,SqT.of hp,U,_,_,U,_,_,U,_,_,U,U,?_⟩;refine⟨_,U,U,_,U,aU (Q9 U) (aU U ?_)⟩;refine⟨_,U,_,U,la,_,_,_,U,U,SqL.of LH.ha,br hva,_,U,U,_,U,aU (Q9 U) ⟨pa,_,0,_,U,U,SqT.of hpa,U,_,U,l1,u1,_,r.owns,c,U,hl1,rc1,?_⟩⟩;rw[Q8 c1];refine⟨_,U,_,U,la,_,_,_,U,U,SqL.of LH.ha,br hvb,pb,_,0,_,U,U,SqT.of hpb,U,_,U,m1,w1,_,r'.owns,c,U,hm1,rd1,?_⟩;rw[Q8 c2];refine⟨_,U,U,_,U,aU U ⟨_,U,U,_,U,aU U ⟨_,U,_,U,_,_,U,U,U,?_⟩⟩⟩;rw[Q9 (by rw[cn];rfl)];exact q _ (a8.refl _)
 |@copy j c r' hj c1 c2 cn=>
  have lj:=(qh.mp hj).1;obtain⟨vb,hvb,pb,m1,m2,w1,w2,rfl,hpb,hm1,hm2,rd1,rd2⟩:=LH.ra.2 j r' lj hj;have hp:H p=some (.tup [.int j,.str "copy",.str c]):=hp;refine⟨_,U,p,_,U,SqT.of hp,U,_,_,U,_,_,U,_,_,U,U,?_⟩;refine⟨_,U,U,_,U,ay Yd ⟨_,U,U,_,U,aU (Q9 U) ?_⟩⟩;refine⟨_,U,_,U,la,_,_,_,U,U,SqL.of LH.ha,br hva,_,U,U,_,U,ay Yd ⟨pa,_,1,_,U,U,SqT.of hpa,U,_,U,l2,u2,_,r.reads,c,U,hl2,rc2,?_⟩⟩;rw[Q8 c1];refine⟨_,U,_,U,la,_,_,_,U,U,SqL.of LH.ha,br hvb,pb,_,0,_,U,U,SqT.of hpb,U,_,U,m1,w1,_,r'.owns,c,U,hm1,rd1,?_⟩;rw[Q8 c2];refine⟨_,U,U,_,U,aU U ⟨_,U,U,_,U,aU U ⟨_,U,_,U,_,_,U,U,U,?_⟩⟩⟩;rw[Q9 (by rw[cn];rfl)];exact q _ (a8.refl _)
 |@thing j q' r' hj e1 e2 en=>
  have lj:=(qh.mp hj).1;obtain⟨pj,_,_,hxj,h2⟩:=row hj;rw[e1]at h1;rw[e2]at h2;have hp:H p=some (.tup [.int j,.str "thing",.str q']):=hp;refine⟨_,U,p,_,U,SqT.of hp,U,_,_,U,_,_,U,_,_,U,U,?_⟩;refine⟨_,U,U,_,U,ay Yd ⟨_,U,U,_,U,ay Yd ?_⟩⟩;refine⟨_,U,U,_,U,aU (Q9 U) ?_⟩;refine⟨_,U,_,U,l,_,_,_,U,U,SqL.of LH.hl,br hxi,pi,_,4,_,U,U,SqT.of h1,U,_,U,U,_,U,aU (Q9 U) ?_⟩;refine⟨_,U,_,U,l,_,_,_,U,U,SqL.of LH.hl,br hxj,pj,_,3,_,U,U,SqT.of h2,U,_,U,U,_,U,aU (Q9 U) ?_⟩;refine⟨_,U,_,U,lnn,_,_,_,U,U,SqL.of LH.hn,br (atn lj),_,U,_,U,lnn,_,_,_,U,U,SqL.of LH.hn,br (atn lt),U,?_⟩;rw[Q9 (by rw[en])];exact q _ (a8.refl _)
 |@room j q' r' hj e1 e2 e3 en=>
  have lj:=(qh.mp hj).1;obtain⟨pj,_,_,hxj,h2⟩:=row hj;have dq:=LH.dl r (qG hi) q' e1;rw[e1]at h1;have hp:H p=some (.tup [.int j,.str "room",.str q']):=hp;refine⟨_,U,p,_,U,SqT.of hp,U,_,_,U,_,_,U,_,_,U,U,?_⟩;refine⟨_,U,U,_,U,ay Yd ⟨_,U,U,_,U,ay Yd ?_⟩⟩;refine⟨_,U,U,_,U,ay Yd ?_⟩;refine⟨_,U,U,_,U,ay Yd ?_⟩;refine⟨_,U,_,U,l,_,_,_,U,U,SqL.of LH.hl,br hxi,pi,_,3,_,U,U,SqT.of h1,U,_,U,U,_,U,ay (by show(!decide (V.str q'=V.str q'))=false;rw[Q9 U];rfl) ?_⟩;refine⟨_,U,_,U,lnn,_,_,_,U,U,SqL.of LH.hn,br (atn lt),_,U,_,U,d,_,U,.inl ⟨_,.inr q',.inl LH.hd,U,dq.symm⟩,_,_,U,U,_,U,ay (Qa Yo) ?_⟩;refine⟨_,U,_,U,lnn,_,_,_,U,U,SqL.of LH.hn,br (atn lt),_,U,_,U,d,_,U,.inl ⟨_,.inr q',.inl LH.hd,U,dq.symm⟩,_,_,U,U,?_⟩;rw[e3]at h2;refine⟨_,U,_,U,l,_,_,_,U,U,SqL.of LH.hl,br hxj,pj,_,4,_,U,U,SqT.of h2,U,_,U,U,_,U,aU (Q9 U) ?_⟩;refine⟨_,U,_,U,lnn,_,_,_,U,U,SqL.of LH.hn,br (atn lj),_,U,U,?_⟩;rw[Q9 (by rw[en])];exact q _ (a8.refl _)
 |@last j q' r' hj e1 e2 e3 e4 en=>
  have lj:=(qh.mp hj).1;obtain⟨pj,_,_,hxj,h2⟩:=row hj;have dq:=LH.dl r (qG hi) q' e1;rw[e1]at h1;have hp:H p=some (.tup [.int j,.str "room",.str q']):=hp;refine⟨_,U,p,_,U,SqT.of hp,U,_,_,U,_,_,U,_,_,U,U,?_⟩;refine⟨_,U,U,_,U,ay Yd ⟨_,U,U,_,U,ay Yd ?_⟩⟩;refine⟨_,U,U,_,U,ay Yd ?_⟩;refine⟨_,U,U,_,U,ay Yd ?_⟩;refine⟨_,U,_,U,l,_,_,_,U,U,SqL.of LH.hl,br hxi,pi,_,3,_,U,U,SqT.of h1,U,_,U,U,_,U,ay (by show(!decide (V.str q'=V.str q'))=false;rw[Q9 U];rfl) ?_⟩;refine⟨_,U,_,U,lnn,_,_,_,U,U,SqL.of LH.hn,br (atn lt),_,U,_,U,d,_,U,.inl ⟨_,.inr q',.inl LH.hd,U,dq.symm⟩,_,_,U,U,_,U,ay (Qa Yo) ?_⟩;refine⟨_,U,_,U,lnn,_,_,_,U,U,SqL.of LH.hn,br (atn lt),_,U,_,U,d,_,U,.inl ⟨_,.inr q',.inl LH.hd,U,dq.symm⟩,_,_,U,U,?_⟩
  have ne:cO r'.outof≠V.str q':=λz=>e3 (by
   cases ho:r'.outof with
   |none=>rw[ho]at z;cases z
   |some x=>rw[ho]at z;injection z with z;rw[z])
  refine⟨_,U,_,U,l,_,_,_,U,U,SqL.of LH.hl,br hxj,pj,_,4,_,U,U,SqT.of h2,U,_,U,vT _ _,_,U,ay (Qa ne) ?_⟩;refine⟨_,U,_,U,l,_,U,.inl (SqL.of LH.hl),_,_,U,U,U,_,U,aU (Q9 (by rw[LH.rr.len];congr 1;omega)) ?_⟩;refine⟨_,U,l,U,⟨_,SqL.of LH.hl⟩,?_⟩;refine m6 (K:=K) (a:=l) (xs:=us) (λm ys Y G=>(∃v,Y=[v,some (.str q')])/\G=H/\ys.length=((rs.take m).filter λx=>decide (x.outof=some q')).length) ⟨⟨_,U⟩,U,U⟩ ?_ (bg (m:=1000) (by rw[LH.rr.len];exact LH.few)) ?_ ?_ ?_
  .rintro m ys Y G _ ⟨_,_,h⟩;have:=List.length_filter_le (λx:Row=>decide (x.outof=some q')) (rs.take m);rw[qQ]at this;omega
  .rintro m ys Y G ⟨_,rfl,_⟩;exact SqL.of LH.hl
  .rintro m z ys Y G hz ⟨⟨v0,rfl⟩,rfl,yl⟩;obtain⟨x,hx,px,_,_,rfl,h3,_,_⟩:=LH.rr.at m z hz;have tk:rs.take (m+1)=rs.take m++[x]:=by rw[qy,hx];rfl
   refine⟨_,U,px,_,4,_,U,U,SqT.of h3,U,_,U,vT _ _,_,U,?_⟩;by_cases ho:x.outof=some q'
   .refine aU (Q9 (by rw[ho];rfl)) ⟨_,U,⟨_,U⟩,U,?_⟩;rw[qc,yl,tk,Qy,qc,List.filter_cons_of_pos (by simpa using ho)]
    rfl
   .refine ay (Qa (λz=>ho (by
     cases h:x.outof with
     |none=>rw[h]at z;cases z
     |some y=>rw[h]at z;injection z with z;rw[z]))) ⟨⟨_,U⟩,U,?_⟩
    rw[yl,tk,Qy,qc,List.filter_cons_of_neg (by simpa using ho)]
    rfl
  rintro ys Y G ⟨_,rfl,yl⟩ l5 hl5;rw[LH.rr.len,qN]at yl;refine⟨l5,_,U,.inl (SqL.of ag),_,U,_,_,U,U,?_⟩;rw[yl,Q9 en];exact q _ (a8.new hl5 _)
theorem j4{rs:List Row}(nd:∀r∈rs,r.owns.Nodup)(c:Str):∀k,k<=rs.length->((bN (rs.take k) c).isSome=decide (0<cnO (rs.take k) c))/\∀n,bN (rs.take k) c=some n->∃(j:Nat)(r':Row),n=(j:Int)/\j<k/\rs[j]?=some r'/\c∈r'.owns/\cnO (rs.take k) c=cnO (rs.take j) c+1
 |0,_=>⟨U,λn h=>by simp[bN]at h⟩
 |k+1,hk=>by
  obtain⟨i1,i2⟩:=j4 nd c k Yo;have hr:rs[k]?=some (rs[k]' Yo):=qe _;generalize rs[k]' Yo=r at hr;have tk:rs.take (k+1)=rs.take k++[r]:=by rw[qy,hr];rfl
  have tl:(rs.take k).length=k:=by rw[qQ];omega
  rw[tk,wV,si,tl];by_cases hc:c∈r.owns
  .have c1:r.owns.count c=1:=Nat.le_antisymm (List.nodup_iff_count.mp (nd r (qG hr)) c) (List.count_pos_iff.mpr hc);rw[Q8 hc,c1];refine⟨by simp,λn h=>?_⟩;cases h;exact⟨k,r,U,Yo,hr,hc,U⟩
  .have c0:r.owns.count c=0:=List.count_eq_zero.mpr hc;rw[Q7 hc,c0,Nat.add_zero];refine⟨i1,λn h=>?_⟩;obtain⟨j,r',e,lt,a,b,d⟩:=i2 n h;exact⟨j,r',e,Yo,a,b,d⟩
theorem EW(k j:List NK):[k].count j=if k=j then 1 else 0:=by
 rw[List.count_singleton];by_cases e:k=j
 .rw[Q8 e,Q8 (by simpa using e)]
 .rw[Q7 e,Q7 (by simpa using e)]
theorem lD{rs:List Row}(ow:∀r∈rs,dM r)(q:Str):∀k,k<=rs.length->nmR (rs.take k) [some q,none]=(ap Row.into (rs.take k) q).length/\nmR (rs.take k) [none,some q]=(ap Row.outof (rs.take k) q).length/\((rs.take k).filter λx=>decide (x.outof=some q)).length=(ap Row.outof (rs.take k) q).length
 |0,_=>⟨U,U,U⟩
 |k+1,hk=>by
  obtain⟨i1,i2,i3⟩:=lD ow q k Yo;have hr:rs[k]?=some (rs[k]' Yo):=qe _;generalize rs[k]' Yo=r at hr;have tk:rs.take (k+1)=rs.take k++[r]:=by rw[qy,hr];rfl
  have one:=ow r (qG hr)
  have sn:∀j,nmR (rs.take k++[r]) j=nmR (rs.take k) j+if bP r=j then 1 else 0:=λj=>by
   unfold nmR;rw[qU,List.count_append,List.map_singleton,EW]
  rw[tk,sn,sn,lB,lB,qc,qc,Qy,qc,i1,i2,i3];refine⟨?_,?_,?_⟩
  .by_cases e:r.into=some q
   .have eo:r.outof=none:=one.resolve_left (by rw[e];simp);rw[Q8 e,Q8 (by unfold bP;rw[e,eo])]
    rfl
   .rw[Q7 e,Q7 (λz=>e (by unfold bP at z;exact(List.cons.inj z).1))]
    rfl
  .by_cases e:r.outof=some q
   .have ei:r.into=none:=one.resolve_right (by rw[e];simp);rw[Q8 e,Q8 (by unfold bP;rw[e,ei])]
    rfl
   .rw[Q7 e,Q7 (λz=>e (by unfold bP at z;exact(List.cons.inj (List.cons.inj z).2).1))]
    rfl
  .by_cases e:r.outof=some q
   .rw[Q8 e,List.filter_cons_of_pos (by simpa using e)]
    rfl
   .rw[Q7 e,List.filter_cons_of_neg (by simpa using e)]
    rfl
theorem wv{rs:List Row}(ow:∀r∈rs,dM r){i:Nat}{r:Row}{q:Str}(h:rs[i]?=some r)(e:r.into=some q):cu rs i=((ap Row.into (rs.take i) q).length:Int):=by
 have lt:=(qh.mp h).1;have eo:r.outof=none:=(ow r (qG h)).resolve_left (by rw[e];simp);unfold cu;rw[h];show((nmR (rs.take i) (bP r):Nat):Int)=_;have:bP r=[some q,none]:=by unfold bP;rw[e,eo]
 rw[this,(lD ow q i Yo).1]
theorem wq{rs:List Row}(ow:∀r∈rs,dM r){i:Nat}{r:Row}{q:Str}(h:rs[i]?=some r)(e:r.outof=some q):cu rs i=((ap Row.outof (rs.take i) q).length:Int):=by
 have lt:=(qh.mp h).1;have ei:r.into=none:=(ow r (qG h)).resolve_right (by rw[e];simp);unfold cu;rw[h];show((nmR (rs.take i) (bP r):Nat):Int)=_;have:bP r=[none,some q]:=by unfold bP;rw[e,ei]
 rw[this,(lD ow q i Yo).2.1]
theorem jF{f:Row->Option Str}{rs:List Row}{q:Str}:∀k,k<=rs.length->∀(m:Nat)(n:Int),(ap f (rs.take k) q)[m]?=some n->∃(j:Nat)(r':Row),n=(j:Int)/\rs[j]?=some r'/\f r'=some q/\(ap f (rs.take j) q).length=m
 |0,_,m,n,h=>by simp[Tr.ap]at h
 |k+1,hk,m,n,h=>by
  have hr:rs[k]?=some (rs[k]' Yo):=qe _;generalize rs[k]' Yo=r at hr;have tk:rs.take (k+1)=rs.take k++[r]:=by rw[qy,hr];rfl
  have tl:(rs.take k).length=k:=by rw[qQ];omega
  rw[tk,lB,tl]at h;by_cases lt:m<(ap f (rs.take k) q).length
  .rw[Qc lt]at h;exact jF k Yo m n h
  .rw[qR Yo]at h;by_cases e:f r=some q
   .rw[Q8 e]at h
    have em:m-(ap f (rs.take k) q).length=0:=by
     have:=(qh.mp h).1;simp at this;omega
    rw[em]at h;cases h;exact⟨k,r,U,hr,e,Yo⟩
   .rw[Q7 e]at h;simp at h
theorem Es{rs:List Row}{ln:Str->Int}{i:Nat}{r:Row}(h:rs[i]?=some r)(nd:∀r∈rs,r.owns.Nodup)(ow:∀r∈rs,dM r)(fed:∀q,r.outof=some q->(ap Row.outof (rs.take i) q).length<(ap Row.into rs q).length)(end0:∀r',rs[rs.length-1]?=some r'->r'.outof=none):∀e∈cF rs ln i r,hE rs ln i r e/\∃j:Nat,e.1=(j:Int)/\j<rs.length:=λe he=>by
 have lt:=(qh.mp h).1;have inl:∀{j:Nat}{r':Row},rs[j]?=some r'->j<rs.length:=λh=>(qh.mp h).1;unfold cF da at he;rw[qk,qk,qk]at he
 have card:∀{kd:Str}{cs:List Str},e∈db (bN (rs.take i)) kd cs->∃(j:Nat)(c:Str)(r':Row),e=((j:Int),kd,c)/\c∈cs/\rs[j]?=some r'/\c∈r'.owns/\cnO (rs.take i) c=cnO (rs.take j) c+1:=λ{kd cs} he=>by
  unfold db at he;obtain⟨c,hc,e1⟩:=List.mem_filterMap.mp he;obtain⟨n,hn,rfl⟩:=qV.mp e1;obtain⟨j,r',rfl,_,a,b,d⟩:=(j4 nd c i Yo).2 n hn;exact⟨j,c,r',U,hc,a,b,d⟩
 rcases he with((he|he)|he)|he
 .obtain⟨j,c,r',rfl,hc,a,b,d⟩:=card he;exact⟨.card a hc b d,j,U,inl a⟩
 .obtain⟨j,c,r',rfl,hc,a,b,d⟩:=card he;exact⟨.copy a hc b d,j,U,inl a⟩
 .unfold dr at he
  cases eo:r.outof with
  |none=>rw[eo]at he;simp at he
  |some q=>
   rw[eo]at he;have he:=qY.mp he;have f:=fed q eo
   have ex:(ap Row.into (rs.take rs.length) q)[(ap Row.outof (rs.take i) q).length]?=some ((ap Row.into rs q).getD (ap Row.outof (rs.take i) q).length 0):=by
    rw[qN,qp,qe f]
    rfl
   obtain⟨j,r',e1,a,b,d⟩:=jF rs.length (qg _) _ _ ex;rw[he,e1];exact⟨.thing a eo b (by rw[wv ow a b,wq ow h eo,d]),j,U,inl a⟩
 .unfold dS at he
  cases ei:r.into with
  |none=>rw[ei]at he;simp at he
  |some q=>
   rw[ei]at he;have en:=wv ow h ei;have he:e∈(if 0<=iF rs (ln q) i q then[(awaited rs.length (ap Row.outof rs q) (iF rs (ln q) i q).toNat,("room":Str),q)]else[]):=he;unfold iF at he;split at he
   .rename_i z;have he:=qY.mp he;have zk:ln q<=cu rs i:=Yo;unfold awaited at he;by_cases lk:(((ap Row.into (rs.take i) q).length:Int)-ln q).toNat<(ap Row.outof rs q).length
    .rw[Q8 lk]at he
     have ex:(ap Row.outof (rs.take rs.length) q)[(((ap Row.into (rs.take i) q).length:Int)-ln q).toNat]?=some ((ap Row.outof rs q).getD (((ap Row.into (rs.take i) q).length:Int)-ln q).toNat 0):=by
      rw[qN,qp,qe lk]
      rfl
     obtain⟨j,r',e1,a,b,d⟩:=jF rs.length (qg _) _ _ ex;rw[he,e1];exact⟨.room a ei zk b (by rw[wq ow a b,d];omega),j,U,inl a⟩
    .rw[Q7 lk]at he;have hl:rs[rs.length-1]?=some (rs[rs.length-1]' Yo):=qe _;have o0:=end0 _ hl;have nn:=(lD ow q rs.length (qg _)).2.2;rw[qN]at nn;have ej:(rs.length:Int)-1=((rs.length-1:Nat):Int):=Yo;rw[he,ej];exact⟨.last hl ei zk (by rw[o0];simp) Yo (by rw[nn];omega),rs.length-1,U,Yo⟩
   .simp at he
theorem rK(x:Str):∀l:List Str,∃zs:List Str,zs.Perm (x::l)/\(∀p:Str,Spec.ltCps x.cps.toList p.cps.toList=false->PyProof.Rows.risingS p l=true->PyProof.Rows.risingS p zs=true)/\(PyProof.Rows.sortedS l=true->PyProof.Rows.sortedS zs=true)
 |[]=>⟨[x],.refl _,λp h _=>by simp[PyProof.Rows.risingS,h],λ_=>rfl⟩
 |y::r=>by
  by_cases lt:Spec.ltCps y.cps.toList x.cps.toList=true
  .obtain⟨zs,pm,h1,h2⟩:=rK x r
   have ns:Spec.ltCps x.cps.toList y.cps.toList=false:=by
    rw[PyProof.Rows.ltCps_eq,decide_eq_true_iff]at lt;rw[PyProof.Rows.ltCps_eq,decide_eq_false_iff_not];exact λz=>List.lt_irrefl _ (List.lt_trans lt z)
   refine⟨y::zs,((List.perm_cons y).mpr pm).trans (List.Perm.swap _ _ _),λp _ hr=>?_,λhs=>h1 y ns hs⟩;have hr:(!Spec.ltCps y.cps.toList p.cps.toList && PyProof.Rows.risingS y r)=true:=hr;show(!Spec.ltCps y.cps.toList p.cps.toList && PyProof.Rows.risingS y zs)=true;rw[Bool.and_eq_true]at hr ⊢;exact⟨hr.1,h1 y ns hr.2⟩
  .have lt:=Bool.eq_false_iff.mpr lt;refine⟨x::y::r,.refl _,λp hx hr=>?_,λhs=>?_⟩
   .have hr:(!Spec.ltCps y.cps.toList p.cps.toList && PyProof.Rows.risingS y r)=true:=hr;rw[Bool.and_eq_true]at hr;show(!Spec.ltCps x.cps.toList p.cps.toList && (!Spec.ltCps y.cps.toList x.cps.toList && PyProof.Rows.risingS y r))=true;rw[hx,lt,hr.2]
    rfl
   .show(!Spec.ltCps y.cps.toList x.cps.toList && PyProof.Rows.risingS y r)=true;rw[lt];exact hs
theorem tS:∀l:List Str,∃zs:List Str,zs.Nodup/\(∀k,k∈zs↔k∈l)/\PyProof.Rows.sortedS zs=true
 |[]=>⟨[],List.nodup_nil,λ_=>Iff.rfl,U⟩
 |x::l=>by
  obtain⟨zs,nd,hm,so⟩:=tS l;by_cases hx:x∈zs
  .exact⟨zs,nd,λk=>⟨λh=>qq _ ((hm k).mp h),λh=>by
    rcases qA.mp h with rfl|h
    .exact hx
    .exact(hm k).mpr h⟩,so⟩
  .obtain⟨ys,pm,_,h2⟩:=rK x zs;exact⟨ys,pm.nodup_iff.mpr (List.nodup_cons.mpr ⟨hx,nd⟩),λk=>by rw[pm.mem_iff,qA,qA,hm],h2 so⟩
theorem tR(l:List Str)(k:Str):k∈srt l↔k∈l:=by
 have h:=tS l;unfold srt;rw[dif_pos h];exact(Classical.choose_spec h).2.1 k
noncomputable def NC(p:Nat->Bool):Nat->Nat
 |0=>0
 |m+1=>NC p m+if p m=true then 1 else 0
theorem sP(p:Nat->Bool){m n:Nat}(h:m<=n):NC p m<=NC p n:=by
 induction n with
 |zero=>rw[Nat.le_zero.mp h];exact qg _
 |succ n ih=>
  by_cases e:m=n+1
  .rw[e];exact qg _
  .exact qF (ih Yo) (Nat.le_add_right _ _)
theorem mj{p q:Nat->Bool}{m:Nat}(h:∀j,j<m->p j=true->q j=true):NC p m<=NC q m:=by
 induction m with
 |zero=>exact qg _
 |succ m ih=>
  have i:=ih λj hj=>h j Yo;unfold NC;by_cases e:p m=true
  .rw[Q8 e,Q8 (h m Yo e)];omega
  .rw[Q7 e];split<;>omega
theorem FC{p q:Nat->Bool}{m:Nat}(h:∀j,j<m->p j=q j):NC p m=NC q m:=
 Nat.le_antisymm (mj λj hj e=>by rw[<- h j hj];exact e) (mj λj hj e=>by rw[h j hj];exact e)
theorem yo{p:Nat->Bool}{m n:Nat}(hm:m<=n)(h:∀j,m<=j->j<n->p j=false):NC p n=NC p m:=by
 induction n with
 |zero=>rw[Nat.le_zero.mp hm]
 |succ n ih=>
  by_cases e:m=n+1
  .rw[e]
  .unfold NC;rw[ih Yo λj h1 h2=>h j h1 Yo,Q7 (by rw[h n Yo Yo];simp),Nat.add_zero];cases m<;>rfl
theorem FB{p:Nat->Bool}{j m:Nat}(h:p j=true)(lt:j<m):NC p j<NC p m:=by
 have:=sP p (show j+1<=m from lt);rw[NC,Q8 h]at this;omega
theorem FD{p q:Nat->Bool}{x n:Nat}(lt:x<n)(hx:p x=false)(e:∀j,j≠x->q j=p j):NC q n=NC p n+if q x=true then 1 else 0:=by
 induction n with
 |zero=>omega
 |succ n ih=>
  unfold NC;by_cases z:x=n
  .subst z;rw[FC (q:=p) λj hj=>e j Yo,hx];simp
  .rw[ih Yo,e n (Ne.symm z)];omega
theorem yp(p:Nat->Bool)(n:Nat):∀{o:List Nat},o.Nodup->(∀j∈o,j<n)->(o.filter p).length=NC (λj=>decide (j∈o) && p j) n
 |[],_,_=>by rw[yo (qz n) λj _ _=>by simp];rfl
 |x::o,nd,lt=>by
  have nx:=(List.nodup_cons.mp nd).1;have ih:=yp p n (List.nodup_cons.mp nd).2 λj hj=>lt j (qq _ hj);rw[FD (p:=λj=>decide (j∈o) && p j) (x:=x) (lt x qt) (by simp[nx]) λj hj=>by simp[hj],<- ih];by_cases e:p x=true
  .rw[List.filter_cons_of_pos e,Q8 (by simp[e])];rfl
  .rw[List.filter_cons_of_neg e,Q7 (by simp[e])];rfl
noncomputable def atP(rs:List Row)(P:Row->Bool)(j:Nat):Bool:=(rs[j]?).any P
theorem jO(rs:List Row)(P:Row->Bool):∀o:List Nat,((dnR rs o).filter P).length=(o.filter (atP rs P)).length
 |[]=>rfl
 |x::o=>by
  have ih:=jO rs P o;unfold dnR at ih ⊢
  cases e:rs[x]? with
  |none=>rw[List.filterMap_cons_none e,ih,List.filter_cons_of_neg (by simp[atP,e])]
  |some r=>
   rw[List.filterMap_cons_some e];by_cases h:P r=true
   .rw[List.filter_cons_of_pos h,List.filter_cons_of_pos (by simp[atP,e,h]),qH,qH,ih]
   .rw[List.filter_cons_of_neg h,List.filter_cons_of_neg (by simp[atP,e,h]),ih]
theorem fW(rs:List Row)(P:Row->Bool):∀k,k<=rs.length->((rs.take k).filter P).length=NC (atP rs P) k
 |0,_=>rfl
 |k+1,hk=>by
  have hr:rs[k]?=some (rs[k]' Yo):=qe _;rw[qy,hr,Qy,qc,fW rs P k Yo,NC]
  congr 1
  show([rs[k]' Yo].filter P).length=_;unfold atP;rw[hr];by_cases h:P (rs[k]' Yo)=true<;>simp[h]
structure DnO(rs:List Row)(o:List Nat):Prop where
 nd:o.Nodup
 lt:∀j∈o,j<rs.length
theorem DnO.count{rs:List Row}{o:List Nat}(h:DnO rs o)(P:Row->Bool):((dnR rs o).filter P).length=NC (λj=>decide (j∈o) && atP rs P j) rs.length:=by
 rw[jO,yp _ rs.length h.nd h.lt]
def Pre(rs:List Row)(o:List Nat)(P:Row->Bool):Prop:=∀i j,atP rs P i=true->atP rs P j=true->i<j->j∈o->i∈o
theorem DnO.ge{rs:List Row}{o:List Nat}(h:DnO rs o){P:Row->Bool}{k:Nat}(hk:k<=rs.length)(all:∀j,j<k->atP rs P j=true->j∈o):((rs.take k).filter P).length<=((dnR rs o).filter P).length:=by
 rw[h.count,fW rs P k hk];exact qF (mj λj hj e=>by simp[e,all j hj e]) (sP _ hk)
theorem DnO.le{rs:List Row}{o:List Nat}(h:DnO rs o){P:Row->Bool}{k:Nat}(hk:k<=rs.length)(no:∀j,k<=j->atP rs P j=true->j∉o):((dnR rs o).filter P).length<=((rs.take k).filter P).length:=by
 rw[h.count,fW rs P k hk,yo hk λj h1 h2=>by
  by_cases e:atP rs P j=true
  .simp[no j h1 e]
  .simp[e]]
 exact mj λj hj e=>by simp at e;exact e.2
theorem kr{rs:List Row}{P:Row->Bool}{j k:Nat}(hj:atP rs P j=true)(lt:j<k)(hk:k<=rs.length):((rs.take j).filter P).length<((rs.take k).filter P).length:=by
 rw[fW rs P j Yo,fW rs P k hk];exact FB hj lt
noncomputable def dJ(c:Str)(r:Row):Bool:=decide (c∈r.owns)
theorem pH{R:List Row}(nd:∀r∈R,r.owns.Nodup)(c:Str):cnO R c=(R.filter (dJ c)).length:=by
 induction R with
 |nil=>rfl
 |cons r R ih=>
  have ih:=ih λr hr=>nd r (qq _ hr);unfold cnO at ih ⊢;rw[qL,List.count_append,ih];by_cases hc:c∈r.owns
  .rw[List.filter_cons_of_pos (by simp[dJ,hc]),qH,Nat.le_antisymm (List.nodup_iff_count.mp (nd r qt) c) (List.count_pos_iff.mpr hc)];omega
  .rw[List.filter_cons_of_neg (by simp[dJ,hc]),List.count_eq_zero.mpr hc];omega
structure Clo(rs:List Row)(ln:Str->Int)(o:List Nat):Prop where
 dn:DnO rs o
 wt:∀k r,k∈o->rs[k]?=some r->∀e∈cF rs ln k r,∃j:Nat,e.1=(j:Int)/\j∈o
structure df(rs:List Row):Prop where
 nd:∀r∈rs,r.owns.Nodup
 ow:∀r∈rs,dM r
 pi:∀r∈rs,∀q,r.into=some q->q++(">":Str)∈r.owns
 po:∀r∈rs,∀q,r.outof=some q->q++("<":Str)∈r.owns
 fed:Fed rs
 ends:∀r',rs[rs.length-1]?=some r'->r'.into=none/\r'.outof=none/\∀r∈rs,∀c∈r.owns,c∈r'.owns
theorem dZ{rs:List Row}{c:Str}{j:Nat}:atP rs (dJ c) j=true↔∃r,rs[j]?=some r/\c∈r.owns:=by
 unfold atP dJ;cases rs[j]?<;>simp
theorem Dj{rs:List Row}{ln:Str->Int}{k j:Nat}{r:Row}{c:Str}(hc:c∈r.owns)(h:bN (rs.take k) c=some (j:Int)):((j:Int),("card":Str),c)∈cF rs ln k r:=by
 unfold cF da db;refine Q3 _ (Q3 _ (Q3 _ (List.mem_filterMap.mpr ⟨c,hc,?_⟩)));rw[h]
 rfl
theorem jU{rs:List Row}(nd:∀r∈rs,r.owns.Nodup)(c:Str)(k:Nat):cnO (rs.take k) c=((rs.take k).filter (dJ c)).length:=pH (λr hr=>nd r (List.mem_of_mem_take hr)) c
theorem wR{rs:List Row}(nd:∀r∈rs,r.owns.Nodup){c:Str}{i k:Nat}(hk:k<=rs.length)(hi:atP rs (dJ c) i=true)(lt:i<k):∃j:Nat,bN (rs.take k) c=some (j:Int)/\i<=j/\j<k/\atP rs (dJ c) j=true:=by
 obtain⟨l1,l2⟩:=j4 nd c k hk;have p:=kr hi lt hk;rw[jU nd,Q9 Yo]at l1
 cases e:bN (rs.take k) c with
 |none=>rw[e]at l1;simp at l1
 |some n=>
  obtain⟨j,r',rfl,jk,hr,hc,cn⟩:=l2 n e;have hj:atP rs (dJ c) j=true:=dZ.mpr ⟨r',hr,hc⟩;refine⟨j,U,?_,jk,hj⟩;by_cases z:i<=j
  .exact z
  .have a:=kr hj (show j<i by omega) (by omega);rw[jU nd,jU nd]at cn;omega
theorem Clo.chain{rs:List Row}{ln:Str->Int}{o:List Nat}(C:Clo rs ln o)(nd:∀r∈rs,r.owns.Nodup)(c:Str):Pre rs o (dJ c):=λi j=>by
 induction j using Nat.strongRecOn with
 |_ j ih=>
  intro hi hj lt jo;obtain⟨j',e,le,l2,h'⟩:=wR nd (Nat.le_of_lt (C.dn.lt j jo)) hi lt;obtain⟨r,hr,hc⟩:=dZ.mp hj;obtain⟨x,ex,xo⟩:=C.wt j r jo hr _ (Dj hc e);have ex:(j':Int)=(x:Int):=ex;have:x=j':=Yo;subst this;by_cases z:i=x
  .rw[z];exact xo
  .exact ih x l2 hi h' Yo xo
theorem Clo.owners{rs:List Row}{ln:Str->Int}{o:List Nat}(C:Clo rs ln o)(nd:∀r∈rs,r.owns.Nodup){c:Str}{k:Nat}(hk:k<=rs.length)(h:∀j:Nat,bN (rs.take k) c=some (j:Int)->j∈o):∀i,i<k->atP rs (dJ c) i=true->i∈o:=λi lt hi=>by
 obtain⟨j,e,le,_,h'⟩:=wR nd hk hi lt;by_cases z:i=j
 .rw[z];exact h j e
 .exact C.chain nd c i j hi h' Yo (h j e)
theorem xH{rs:List Row}{o:List Nat}{r:Row}(h:r∈dnR rs o):r∈rs:=by
 obtain⟨j,_,e⟩:=List.mem_filterMap.mp h;exact qG e
theorem Clo.card_ge{rs:List Row}{ln:Str->Int}{o:List Nat}(C:Clo rs ln o)(nd:∀r∈rs,r.owns.Nodup){c:Str}{k:Nat}(hk:k<=rs.length)(h:∀j:Nat,bN (rs.take k) c=some (j:Int)->j∈o):cnO (rs.take k) c<=cnO (dnR rs o) c:=by
 rw[jU nd,pH λr hr=>nd r (xH hr)];exact C.dn.ge hk (C.owners nd hk h)
theorem Clo.card_lt{rs:List Row}{ln:Str->Int}{o:List Nat}(C:Clo rs ln o)(nd:∀r∈rs,r.owns.Nodup){c:Str}{k j:Nat}(hk:k<=rs.length)(h:bN (rs.take k) c=some (j:Int))(hj:j∉o):cnO (dnR rs o) c<cnO (rs.take k) c:=by
 obtain⟨j',r',e,jk,hr,hc,_⟩:=(j4 nd c k hk).2 _ h;have:j'=j:=Yo;subst this;have oj:atP rs (dJ c) j'=true:=dZ.mpr ⟨r',hr,hc⟩;rw[jU nd,pH λr hr=>nd r (xH hr)];refine Nat.lt_of_le_of_lt (C.dn.le (k:=j') Yo λi le hi io=>?_) (kr oj jk hk);by_cases z:i=j'
 .exact hj (z▸io)
 .exact hj (C.chain nd c j' i oj hi Yo io)
noncomputable def isP(f:Row->Option Str)(q:Str)(r:Row):Bool:=decide (f r=some q)
theorem e7{rs:List Row}{f:Row->Option Str}{q:Str}{j:Nat}:atP rs (isP f q) j=true↔∃r,rs[j]?=some r/\f r=some q:=by
 unfold atP isP;cases rs[j]?<;>simp
theorem Clo.pre{rs:List Row}{ln:Str->Int}{o:List Nat}(C:Clo rs ln o)(nd:∀r∈rs,r.owns.Nodup){f:Row->Option Str}{q c:Str}(own:∀r∈rs,f r=some q->c∈r.owns):Pre rs o (isP f q):=λi j hi hj=>by
 obtain⟨r,hr,h⟩:=e7.mp hi;obtain⟨r',hr',h'⟩:=e7.mp hj;exact C.chain nd c i j (dZ.mpr ⟨r,hr,own r (qG hr) h⟩) (dZ.mpr ⟨r',hr',own r' (qG hr') h'⟩)
theorem pC{rs:List Row}{o:List Nat}(D:DnO rs o){P:Row->Bool}(p:Pre rs o P){j:Nat}(hj:atP rs P j=true)(jo:j∈o):((rs.take j).filter P).length+1<=((dnR rs o).filter P).length:=by
 have l:=D.lt j jo;refine qF (kr hj (Qh j) l) (D.ge l λi hi h=>?_);by_cases z:i=j
 .rw[z];exact jo
 .exact p i j h hj Yo jo
theorem pB{rs:List Row}{o:List Nat}(D:DnO rs o){P:Row->Bool}(p:Pre rs o P){j:Nat}(l:j<rs.length)(hj:atP rs P j=true)(jo:j∉o):((dnR rs o).filter P).length<=((rs.take j).filter P).length:=
 D.le Yo λi le h io=>by
  by_cases z:i=j
  .exact jo (z▸io)
  .exact jo (p j i hj h Yo io)
theorem pE{rs:List Row}{o:List Nat}(D:DnO rs o){P:Row->Bool}(p:Pre rs o P){k:Nat}(l:k<rs.length)(hk:atP rs P k=true)(ko:k∉o)(all:∀i,i<k->atP rs P i=true->i∈o):((dnR rs o).filter P).length=((rs.take k).filter P).length:=
 Nat.le_antisymm (pB D p l hk ko) (D.ge Yo all)
theorem jW(R:List Row)(q:Str):bal R q=((R.filter (isP Row.into q)).length:Int)-((R.filter (isP Row.outof q)).length:Int):=U
theorem jE(f:Row->Option Str)(rs:List Row)(q:Str):(ap f rs q).length=(rs.filter (isP f q)).length:=pQ f q rs
theorem Clo.pin{rs:List Row}{ln:Str->Int}{o:List Nat}(C:Clo rs ln o)(R:df rs)(q:Str):Pre rs o (isP Row.into q):=C.pre R.nd λr hr h=>R.pi r hr q h
theorem Clo.pout{rs:List Row}{ln:Str->Int}{o:List Nat}(C:Clo rs ln o)(R:df rs)(q:Str):Pre rs o (isP Row.outof q):=C.pre R.nd λr hr h=>R.po r hr q h
theorem mB{rs:List Row}(R:df rs){k:Nat}{r:Row}{q:Str}(h:rs[k]?=some r)(ho:r.outof=some q):∃(j:Nat)(r':Row),(ap Row.into rs q).getD (ap Row.outof (rs.take k) q).length 0=(j:Int)/\rs[j]?=some r'/\r'.into=some q/\((rs.take j).filter (isP Row.into q)).length=((rs.take k).filter (isP Row.outof q)).length:=by
 have f:=rT R.fed h ho
 have ex:(ap Row.into (rs.take rs.length) q)[(ap Row.outof (rs.take k) q).length]?=some ((ap Row.into rs q).getD (ap Row.outof (rs.take k) q).length 0):=by
  rw[qN,qp,qe f]
  rfl
 obtain⟨j,r',e1,a,b,d⟩:=jF rs.length (qg _) _ _ ex;exact⟨j,r',e1,a,b,by rw[<- jE,<- jE];exact d⟩
theorem Di{rs:List Row}{ln:Str->Int}{k:Nat}{r:Row}{q:Str}(ho:r.outof=some q):((ap Row.into rs q).getD (ap Row.outof (rs.take k) q).length 0,("thing":Str),q)∈cF rs ln k r:=by
 unfold cF dr;rw[ho];exact Q3 _ (qO _ (qY.mpr U))
theorem Clo.bal_pos{rs:List Row}{ln:Str->Int}{o:List Nat}(C:Clo rs ln o)(R:df rs)(q:Str):0<=bal (dnR rs o) q:=by
 rw[jW]
 have:((dnR rs o).filter (isP Row.outof q)).length<=((dnR rs o).filter (isP Row.into q)).length:=by
  rw[jO rs (isP Row.outof q)];by_cases z:∃g,g∈o/\atP rs (isP Row.outof q) g=true
  .have mx:∀m,(∃g,g∈o/\atP rs (isP Row.outof q) g=true/\g<m)->∃g,g∈o/\atP rs (isP Row.outof q) g=true/\g<m/\∀x,x∈o->atP rs (isP Row.outof q) x=true->x<m->x<=g:=λm=>by
    induction m with
    |zero=>rintro⟨g,_,_,h⟩;omega
    |succ m ih=>
     rintro⟨g,go,gp,lt⟩;by_cases y:m∈o/\atP rs (isP Row.outof q) m=true
     .exact⟨m,y.1,y.2,Qh _,λx _ _ h=>Yo⟩
     .obtain⟨g',a,b,c,d⟩:=ih ⟨g,go,gp,by
       have:g≠m:=λe=>y ⟨e▸go,e▸gp⟩
       omega⟩
      refine⟨g',a,b,Yo,λx xo xp h=>?_⟩;have:x≠m:=λe=>y ⟨e▸xo,e▸xp⟩;exact d x xo xp Yo
   obtain⟨g0,g0o,g0p⟩:=z;obtain⟨g,go,gp,_,top⟩:=mx rs.length ⟨g0,g0o,g0p,C.dn.lt _ g0o⟩;obtain⟨r,hr,ho⟩:=e7.mp gp;obtain⟨j,r',e,hr',hi,num⟩:=mB R hr ho;obtain⟨x,ex,xo⟩:=C.wt g r go hr _ (Di ho);have ex:(ap Row.into rs q).getD (ap Row.outof (rs.take g) q).length 0=(x:Int):=ex;have:x=j:=Yo;subst this;have a:=pC C.dn (C.pin R q) (e7.mpr ⟨r',hr',hi⟩) xo;rw[<- jO rs (isP Row.outof q)];have l:=C.dn.lt g go
   have b:=C.dn.le (P:=isP Row.outof q) (k:=g+1) l λi le hi io=>by
    have:=top i io hi (C.dn.lt i io);omega
   have c:((rs.take (g+1)).filter (isP Row.outof q)).length=((rs.take g).filter (isP Row.outof q)).length+1:=by
    rw[fW _ _ _ l,fW _ _ _ Yo,NC,Q8 gp]
   omega
  .rw[List.filter_eq_nil_iff.mpr λg go e=>z ⟨g,go,e⟩];exact qz _
 omega
theorem Clo.thing{rs:List Row}{ln:Str->Int}{o:List Nat}(C:Clo rs ln o)(R:df rs){k:Nat}{r:Row}{q:Str}(h:rs[k]?=some r)(ko:k∉o)(ho:r.outof=some q)(all:∀i,i<k->atP rs (dJ (q++("<":Str))) i=true->i∈o):c9 o ((ap Row.into rs q).getD (ap Row.outof (rs.take k) q).length 0,("thing":Str),q)↔bal (dnR rs o) q≠0:=by
 have kl:=(qh.mp h).1;obtain⟨j,r',e,hr',hi,num⟩:=mB R h ho
 have eo:=pE C.dn (C.pout R q) kl (e7.mpr ⟨r,h,ho⟩) ko λi lt hi=>by
  obtain⟨r2,h2,o2⟩:=e7.mp hi;exact all i lt (dZ.mpr ⟨r2,h2,R.po r2 (qG h2) q o2⟩)
 have hj:=e7.mpr ⟨r',hr',hi⟩;have jl:=(qh.mp hr').1;have b0:=C.bal_pos R q;rw[jW]at b0 ⊢;rw[e];constructor
 .rintro⟨x,ex,xo⟩;have ex:(j:Int)=(x:Int):=ex;have:x=j:=Yo;subst this;have:=pC C.dn (C.pin R q) hj xo;omega
 .intro nz;by_cases jo:j∈o
  .exact⟨j,U,jo⟩
  .have:=pB C.dn (C.pin R q) jl hj jo;omega
theorem Clo.room{rs:List Row}{ln:Str->Int}{o:List Nat}(C:Clo rs ln o)(R:df rs){k:Nat}{r:Row}{q:Str}(h:rs[k]?=some r)(ko:k∉o)(hi:r.into=some q)(all:∀i,i<k->atP rs (dJ (q++(">":Str))) i=true->i∈o):(∀e∈dS rs ln k r,c9 o e)↔bal (dnR rs o) q<ln q:=by
 have kl:=(qh.mp h).1
 have ei:=pE C.dn (C.pin R q) kl (e7.mpr ⟨r,h,hi⟩) ko λi lt hi=>by
  obtain⟨r2,h2,o2⟩:=e7.mp hi;exact all i lt (dZ.mpr ⟨r2,h2,R.pi r2 (qG h2) q o2⟩)
 have en:=jE Row.into (rs.take k) q;have eo:=jE Row.outof rs q;rw[jW,ei,<- en];unfold dS iF;rw[hi];show(∀e∈(if 0<=((ap Row.into (rs.take k) q).length:Int)-ln q then[(awaited rs.length (ap Row.outof rs q) (((ap Row.into (rs.take k) q).length:Int)-ln q).toNat,("room":Str),q)]else[]),c9 o e)↔_;by_cases z:0<=((ap Row.into (rs.take k) q).length:Int)-ln q
 .rw[Q8 z];unfold awaited;by_cases t:(((ap Row.into (rs.take k) q).length:Int)-ln q).toNat<(ap Row.outof rs q).length
  .rw[Q8 t]
   have ex:(ap Row.outof (rs.take rs.length) q)[(((ap Row.into (rs.take k) q).length:Int)-ln q).toNat]?=some ((ap Row.outof rs q).getD (((ap Row.into (rs.take k) q).length:Int)-ln q).toNat 0):=by
    rw[qN,qp,qe t]
    rfl
   obtain⟨j,r',e1,a,b,d⟩:=jF rs.length (qg _) _ _ ex;rw[jE]at d;have jl:=(qh.mp a).1;have hj:=e7.mpr ⟨r',a,b⟩;rw[e1];constructor
   .intro w;obtain⟨x,ex,xo⟩:=w _ (qY.mpr U);have ex:(j:Int)=(x:Int):=ex;have:x=j:=Yo;subst this;have:=pC C.dn (C.pout R q) hj xo;omega
   .intro lt e he;rw[qY.mp he];by_cases jo:j∈o
    .exact⟨j,U,jo⟩
    .have:=pB C.dn (C.pout R q) jl hj jo;omega
  .rw[Q7 t];obtain⟨rl,hl⟩:∃rl,rs[rs.length-1]?=some rl:=⟨_,qe Yo⟩;obtain⟨l1,l2,l3⟩:=R.ends _ hl
   have no:rs.length-1∉o:=λlo=>by
    have hm:=qG h
    have ne:k≠rs.length-1:=λe=>by
     rw[<- e,h]at hl;rw[<- qP hl,hi]at l1;cases l1
    exact ko (C.chain R.nd (q++(">":Str)) k (rs.length-1) (dZ.mpr ⟨r,h,R.pi r hm q hi⟩) (dZ.mpr ⟨_,hl,l3 r hm _ (R.pi r hm q hi)⟩) Yo lo)
   have top:=C.dn.le (P:=isP Row.outof q) (k:=rs.length) (qg _) λj le hj=>by
    obtain⟨r2,h2,_⟩:=e7.mp hj;have:=(qh.mp h2).1;omega
   rw[qN]at top;constructor
   .intro w;obtain⟨x,ex,xo⟩:=w _ (qY.mpr U);have ex:(rs.length:Int)-1=(x:Int):=ex;have:x=rs.length-1:=Yo;exact Qb (this▸xo) no
   .intro lt;omega
 .rw[Q7 z];exact⟨λ_=>Yo,λ_ e he=>by simp at he⟩
theorem Clo.card_iff{rs:List Row}{ln:Str->Int}{o:List Nat}(C:Clo rs ln o)(R:df rs){k:Nat}{r:Row}(h:rs[k]?=some r):(∀e∈da (rs.take k) r,c9 o e)↔eA rs (dnR rs o) k r:=by
 have kl:=(qh.mp h).1
 have mem:∀{kd:Str}{cs:List Str}{e:Wat},e∈db (bN (rs.take k)) kd cs↔∃c∈cs,∃n,bN (rs.take k) c=some n/\e=(n,kd,c):=λ{kd cs e}=>by
  unfold db;constructor
  .intro he;obtain⟨c,hc,e1⟩:=List.mem_filterMap.mp he;obtain⟨n,hn,e2⟩:=qV.mp e1;exact⟨c,hc,n,hn,e2.symm⟩
  .rintro⟨c,hc,n,hn,rfl⟩;exact List.mem_filterMap.mpr ⟨c,hc,by rw[hn];rfl⟩
 unfold da eA;constructor
 .intro w c hc;refine C.card_ge R.nd Yo λj hj=>?_
  have:c9 o ((j:Int),(if c∈r.owns then("card":Str)else "copy"),c):=by
   refine w _ (qk.mpr ?_);by_cases z:c∈r.owns
   .rw[Q8 z];exact .inl (mem.mpr ⟨c,z,_,hj,U⟩)
   .rw[Q7 z];exact .inr (mem.mpr ⟨c,hc.resolve_left z,_,hj,U⟩)
  obtain⟨x,ex,xo⟩:=this;have ex:(j:Int)=(x:Int):=ex;have:x=j:=Yo;exact this▸xo
 .intro ok e he
  have fin:∀c,(c∈r.owns\/c∈r.reads)->∀n,bN (rs.take k) c=some n->∃j:Nat,n=(j:Int)/\j∈o:=λc hc n hn=>by
   obtain⟨j,_,rfl,_⟩:=(j4 R.nd c k Yo).2 n hn;refine⟨j,U,?_⟩;by_cases jo:j∈o
   .exact jo
   .have:=C.card_lt R.nd Yo hn jo;have:=ok c hc;omega
  rcases qk.mp he with he|he
  .obtain⟨c,hc,n,hn,rfl⟩:=mem.mp he;exact fin c (.inl hc) n hn
  .obtain⟨c,hc,n,hn,rfl⟩:=mem.mp he;exact fin c (.inr hc) n hn
theorem Clo.own_all{rs:List Row}{ln:Str->Int}{o:List Nat}(C:Clo rs ln o)(R:df rs){k:Nat}{r:Row}(h:rs[k]?=some r)(ok:eA rs (dnR rs o) k r){c:Str}(hc:c∈r.owns):∀i,i<k->atP rs (dJ c) i=true->i∈o:=by
 have kl:=(qh.mp h).1;refine C.owners R.nd Yo λj hj=>?_;by_cases jo:j∈o
 .exact jo
 .have:=C.card_lt R.nd Yo hj jo;have:=ok c (.inl hc);omega
theorem Clo.thing_iff{rs:List Row}{ln:Str->Int}{o:List Nat}(C:Clo rs ln o)(R:df rs){k:Nat}{r:Row}(h:rs[k]?=some r)(ko:k∉o)(ok:eA rs (dnR rs o) k r):(∀e∈dr rs k r,c9 o e)↔fS (dnR rs o) r:=by
 unfold dr fS
 cases ho:r.outof with
 |none=>exact⟨λ_ q z=>(by cases z),λ_ e he=>by simp at he⟩
 |some q=>
  have t:=C.thing R h ko ho (C.own_all R h ok (R.po r (qG h) q ho));exact⟨λw q' z=>by cases z;exact t.mp (w _ (qY.mpr U)),λw e he=>by rw[qY.mp he];exact t.mpr (w q U)⟩
theorem Clo.room_iff{rs:List Row}{ln:Str->Int}{o:List Nat}(C:Clo rs ln o)(R:df rs){k:Nat}{r:Row}(h:rs[k]?=some r)(ko:k∉o)(ok:eA rs (dnR rs o) k r):(∀e∈dS rs ln k r,c9 o e)↔gZ ln (dnR rs o) r:=by
 unfold gZ
 cases hi:r.into with
 |none=>
  unfold dS;rw[hi];exact⟨λ_ q z=>(by cases z),λ_ e he=>by simp at he⟩
 |some q=>
  have t:=C.room R h ko hi (C.own_all R h ok (R.pi r (qG h) q hi));exact t.trans ⟨λw q' z=>by cases z;exact w,λw=>w q U⟩
theorem Et{rs:List Row}(R:df rs){ln:Str->Int}{k:Nat}{r:Row}(h:rs[k]?=some r):∀e∈cF rs ln k r,e.2.1≠("room":Str)->∃j:Nat,e.1=(j:Int)/\j<k:=λe he nr=>by
 have kl:=(qh.mp h).1
 have card:∀{kd:Str}{cs:List Str},e∈db (bN (rs.take k)) kd cs->∃j:Nat,e.1=(j:Int)/\j<k:=λ{kd cs} he=>by
  unfold db at he;obtain⟨c,hc,e1⟩:=List.mem_filterMap.mp he;obtain⟨n,hn,rfl⟩:=qV.mp e1;obtain⟨j,r',e2,lt,_⟩:=(j4 R.nd c k Yo).2 n hn;exact⟨j,e2,lt⟩
 unfold cF da at he;rw[qk,qk,qk]at he;rcases he with((he|he)|he)|he
 .exact card he
 .exact card he
 .unfold dr at he
  cases eo:r.outof with
  |none=>rw[eo]at he;simp at he
  |some q=>
   rw[eo]at he;rw[qY.mp he];obtain⟨j,r',e1,hr',hi,num⟩:=mB R h eo;refine⟨j,e1,?_⟩;have b:=R.fed k r q h eo;rw[jW]at b;by_cases z:j<k
   .exact z
   .have jl:=(qh.mp hr').1;have:=sP (atP rs (isP Row.into q)) (show k<=j by omega);rw[<- fW _ _ _ Yo,<- fW _ _ _ Yo]at this;omega
 .unfold dS at he;split at he
  .split at he
   .exact Qb (by rw[qY.mp he]) nr
   .simp at he
  .simp at he
theorem AQ{rs:List Row}(R:df rs){ln:Str->Int}{ps:List (Nat×Wat)}(h0:ps≠[])(due:∀p∈ps,∃r,rs[p.1]?=some r/\p.2∈cF rs ln p.1 r)(next:∀i p,ps[i]?=some p->∃p',ps[(i+1) % ps.length]?=some p'/\p.2.1=(p'.1:Int)):∃p∈ps,p.2.2.1=("room":Str):=by
 by_cases z:∃p∈ps,p.2.2.1=("room":Str)
 .exact z
 have l0:0<ps.length:=List.length_pos_iff.mpr h0
 have down:∀i p p',ps[i]?=some p->ps[(i+1) % ps.length]?=some p'->p'.1<p.1:=λi p p' hp hp'=>by
  have hm:=qG hp;obtain⟨r,hr,hd⟩:=due p hm;obtain⟨j,ej,lt⟩:=Et R hr p.2 hd λe=>z ⟨p,hm,e⟩;obtain⟨p2,h2,e2⟩:=next i p hp
  rw[hp']at h2;cases h2;omega
 have first:ps[0]?=some (ps[0]'l0):=qe _
 have all:∀(i:Nat)(p:Nat×Wat),ps[i]?=some p->p.1<=(ps[0]'l0).1:=λi=>by
  induction i with
  |zero=>intro p hp;rw[first]at hp;cases hp;exact qg _
  |succ i ih=>
   intro p hp;have il:=(qh.mp hp).1;have hq:ps[i]?=some (ps[i]' Yo):=qe _;have:=ih _ hq;have:=down i _ p hq (by rw[Nat.mod_eq_of_lt il];exact hp);omega
 have hl:ps[ps.length-1]?=some (ps[ps.length-1]' Yo):=qe _;have a:=all _ _ hl;have b:=down (ps.length-1) _ _ hl (by rw[show ps.length-1+1=ps.length by omega,Nat.mod_self];exact first);omega
theorem c9.more{o o':List Nat}(h:∀j∈o,j∈o'){e:Wat}:c9 o e->c9 o' e:=λ⟨j,ej,jo⟩=>⟨j,ej,h j jo⟩
theorem LkI.start(W:List (List Wat)):LkI W 0 [] [] (λ_=>0) (λ_=>[]):=
 ⟨List.nodup_nil,λk h=>(nomatch h),λt k h=>by simp at h,λ_=>qz _,λk e h=>by simp at h,List.nodup_nil,λk h=>(nomatch h),λ_ _=>List.nodup_nil,λ_ _ k h=>(nomatch h),λk h=>Qb h (QE k)⟩
theorem LkI.push{W:List (List Wat)}{m:Nat}{o:List Nat}{zs:Nat->Nat}{st:Nat->List Nat}(I:LkI W m o [] zs st):LkI W (m+1) o [m] zs st:=
 ⟨I.nd,λk h=>Qw (I.lt k h),I.ord,I.zl,I.zd,Qx _ _,λk h=>by
  rw[qY.mp h]
  exact⟨Qh m,λz=>Qi m (I.lt m z)⟩,I.sn,λw hw k hk=>by
  obtain⟨a,b,_,d⟩:=I.so w hw k hk
  exact⟨Qw a,b,λz=>by rw[qY.mp z]at a;exact Qi m a,d⟩,λk h=>by
  by_cases e:k=m
  .exact .inr (.inl (qY.mpr e))
  .rcases I.al k Yo with a|a|a
   .exact .inl a
   .exact(nomatch a)
   .exact .inr (.inr a)⟩
theorem LkI.over{W:List (List Wat)}{m:Nat}{o R:List Nat}{zs:Nat->Nat}{st:Nat->List Nat}(I:LkI W m o R zs st){x z:Nat}(hx:x∈R)(hz:z<=(wsV W x).length)(hd:∀e∈(wsV W x).take z,c9 o e):LkI W m o R (λk=>if k=x then z else zs k) st:=
 ⟨I.nd,I.lt,I.ord,λk=>by
  show(if k=x then z else zs k)<=_;by_cases e:k=x
  .rw[Q8 e,e];exact hz
  .rw[Q7 e];exact I.zl k,λk e=>by
  show e∈(wsV W k).take (if k=x then z else zs k)->_;by_cases c:k=x
  .rw[Q8 c,c];exact hd e
  .rw[Q7 c];exact I.zd k e,I.rn,I.ro,I.sn,λw hw k hk=>by
  obtain⟨a,b,c,d⟩:=I.so w hw k hk;refine⟨a,b,c,?_⟩;have nx:¬ k=x:=λe=>c (by rw[e];exact hx);show ∃e,(wsV W k)[if k=x then z else zs k]?=some e/\e.1=(w:Int);rw[Q7 nx]
  exact d,I.al⟩
theorem LkI.done{W:List (List Wat)}{m:Nat}{o R:List Nat}{zs:Nat->Nat}{st:Nat->List Nat}{x:Nat}(I:LkI W m o (R++[x]) zs st)(all:∀e∈wsV W x,c9 o e):LkI W m (o++[x]) (R++st x) zs st:=by
 obtain⟨xm,xo⟩:=I.ro x (qO _ (qY.mpr U));have rn:=List.nodup_append.mp I.rn;have mo:∀{k},k∈o->k∈o++[x]:=λh=>Q3 _ h;have no:∀{w},w∉o++[x]->w∉o/\w≠x:=λh=>⟨λz=>h (mo z),λz=>h (qO _ (qY.mpr z))⟩;have yes:∀{k},k∉o->k≠x->k∉o++[x]:=λh1 h2 z=>(qk.mp z).elim h1 λz=>h2 (qY.mp z);have inR:∀{k},k∈R->k∈R++[x]:=λh=>Q3 _ h;have xR:x∈R++[x]:=qO _ (qY.mpr U);refine⟨?_,?_,?_,I.zl,λk e h=>(I.zd k e h).more λj=>mo,?_,?_,λw hw=>I.sn w (no hw).1,?_,?_⟩
 .rw[List.nodup_append];exact⟨I.nd,Qx _ _,λa ha b hb z=>xo (by rw[<- qY.mp hb,<- z];exact ha)⟩
 .intro k hk;rcases qk.mp hk with hk|hk
  .exact I.lt k hk
  .rw[qY.mp hk];exact xm
 .intro t k hk e he;by_cases tl:t<o.length
  .rw[Qc tl]at hk;rw[List.take_append_of_le_length Yo];exact I.ord t k hk e he
  .rw[qR Yo]at hk
   have:t-o.length=0:=by
    have:=(qh.mp hk).1;simp at this;omega
   rw[this]at hk;cases hk;have:t=o.length:=Yo;rw[this,List.take_left];exact all e he
 .rw[List.nodup_append];exact⟨rn.1,I.sn x xo,λa ha b hb z=>(I.so x xo b hb).2.2.1 (by rw[<- z];exact inR ha)⟩
 .intro k hk;rcases qk.mp hk with hk|hk
  .obtain⟨a,b⟩:=I.ro k (inR hk);exact⟨a,yes b λz=>rn.2.2 k hk x (qY.mpr U) z⟩
  .obtain⟨a,b,c,_⟩:=I.so x xo k hk;exact⟨a,yes b λz=>c (z▸xR)⟩
 .intro w hw k hk;obtain⟨w1,w2⟩:=no hw;obtain⟨a,b,c,e,he,ew⟩:=I.so w w1 k hk;refine⟨a,yes b λz=>c (z▸xR),λz=>?_,e,he,ew⟩;rcases qk.mp z with z|z
  .exact c (inR z)
  .obtain⟨_,_,_,e',he',ew'⟩:=I.so x xo k z;rw[he]at he';cases he';exact w2 Yo
 .intro k hk;rcases I.al k hk with a|a|⟨w,hw,a⟩
  .exact .inl (mo a)
  .rcases qk.mp a with a|a
   .exact .inr (.inl (Q3 _ a))
   .exact .inl (qO _ a)
  .by_cases z:w=x
   .exact .inr (.inl (qO _ (z▸a)))
   .exact .inr (.inr ⟨w,yes hw z,a⟩)
theorem LkI.stick{W:List (List Wat)}{m:Nat}{o R:List Nat}{zs:Nat->Nat}{st:Nat->List Nat}{x w:Nat}{e:Wat}(I:LkI W m o (R++[x]) zs st)(he:(wsV W x)[zs x]?=some e)(ew:e.1=(w:Int))(wo:w∉o):LkI W m o R zs (λk=>if k=w then st w++[x]else st k):=by
 have xR:x∈R++[x]:=qO _ (qY.mpr U);obtain⟨xm,xo⟩:=I.ro x xR;have rn:=List.nodup_append.mp I.rn;have inR:∀{k},k∈R->k∈R++[x]:=λh=>Q3 _ h;refine⟨I.nd,I.lt,I.ord,I.zl,I.zd,rn.1,λk h=>I.ro k (inR h),λv hv=>?_,λv hv k hk=>?_,λk hk=>?_⟩
 .show(if v=w then st w++[x]else st v).Nodup;by_cases z:v=w
  .rw[Q8 z,List.nodup_append];exact⟨I.sn w wo,Qx _ _,λa ha b hb z=>(I.so w wo a ha).2.2.1 (by rw[z,qY.mp hb];exact xR)⟩
  .rw[Q7 z];exact I.sn v hv
 .have hk:k∈(if v=w then st w++[x]else st v):=hk;by_cases z:v=w
  .rw[Q8 z]at hk;rcases qk.mp hk with hk|hk
   .obtain⟨a,b,c,d⟩:=I.so w wo k hk;exact⟨a,b,λy=>c (inR y),z▸d⟩
   .rw[qY.mp hk];exact⟨xm,xo,λy=>rn.2.2 x y x (qY.mpr U) U,e,he,z▸ew⟩
  .rw[Q7 z]at hk;obtain⟨a,b,c,d⟩:=I.so v hv k hk;exact⟨a,b,λy=>c (inR y),d⟩
 .rcases I.al k hk with a|a|⟨v,hv,a⟩
  .exact .inl a
  .rcases qk.mp a with a|a
   .exact .inr (.inl a)
   .refine .inr (.inr ⟨w,wo,?_⟩);show k∈(if w=w then st w++[x]else st w);rw[Q8 U];exact qO _ a
  .refine .inr (.inr ⟨v,hv,?_⟩);show k∈(if v=w then st w++[x]else st v);by_cases z:v=w
   .rw[Q8 z,<- z];exact Q3 _ a
   .rw[Q7 z];exact a
theorem k9{H:Hp}:∀{vs:List V}{es:List Wat},RWs H vs es->∀{i:Nat}{e:Wat},es[i]?=some e->∃p,vs[i]?=some (.ref p)/\H p=some (dN e)
 |_,_,.nil,i,e,h=>by simp at h
 |_,_,.cons h1 r,0,e,h=>by cases h;exact⟨_,U,h1⟩
 |_,_,.cons _ r,i+1,e,h=>k9 r h
theorem bq.put{H0 H:Hp}{ow:List Addr}{cn:List HO}(M:bq H0 H ow cn)(i:Nat){x:Addr}{o:HO}(h:ow[i]?=some x):bq H0 (upd H x o) ow (cn.set i o):=
 ⟨λc p hc=>by rw[af λz=>by rw[z,M.nw x (qG h)]at hc;cases hc];exact M.sa c p hc,M.nd,M.nw,λ{j y p} hj hp=>by
  by_cases e:i=j
  .subst e;rw[h]at hj;cases hj;rw[List.getElem?_set_self']at hp
   cases hc:cn[i]? with
   |none=>rw[hc]at hp;cases hp
   |some q=>rw[hc]at hp;rw[<- qP hp];exact ag
  .rw[List.getElem?_set_ne e]at hp;rw[af λz=>e ((List.getElem?_inj (qh.mp h).1 M.nd).mp (by rw[h,hj,z]))]
   exact M.av hj hp⟩
theorem bq.same{H0 H H':Hp}{ow:List Addr}{cn:List HO}(M:bq H0 H ow cn)(s:a8 H H'):bq H0 H' ow cn:=⟨M.sa.trans s,M.nd,M.nw,λhi ho=>s _ _ (M.av hi ho)⟩
theorem bq.low{H0 G H:Hp}{ow:List Addr}{cn:List HO}(M:bq G H ow cn)(s:a8 H0 G):bq H0 H ow cn:=⟨s.trans M.sa,M.nd,λx hx=>a8.none s (M.nw x hx),M.av⟩
theorem bq.side{G H:Hp}{ow:List Addr}{cn:List HO}(M:bq G H ow cn){c:Addr}(hc:c∉ow)(o:HO):bq (upd G c o) (upd H c o) ow cn:=
 ⟨λx p hx=>by
  by_cases e:x=c
  .rw[e,ag]at hx ⊢;exact hx
  .rw[af e]at hx ⊢;exact M.sa x p hx,M.nd,λx hx=>by rw[af λz=>hc (by rw[<- z];exact hx)];exact M.nw x hx,λ{i x p} hi hp=>by rw[af λz=>hc (by rw[<- z];exact qG hi)];exact M.av hi hp⟩
theorem hZ{H0 G:Hp}(s:a8 H0 G){c:Addr}(h:H0 c=none)(o:HO):a8 H0 (upd G c o):=λx p hx=>by
 rw[af λz=>by rw[z,h]at hx;cases hx];exact s x p hx
theorem oK{α:Type}(f g:Nat->α)(n x:Nat)(v:α)(h:∀j,g j=if j=x then v else f j):((List.range n).map f).set x v=(List.range n).map g:=by
 refine List.ext_getElem? λj=>?_;rw[qK];by_cases hj:j<n
 .rw[List.getElem?_range hj];show _=some (g j);rw[h j];by_cases e:x=j
  .subst e;rw[List.getElem?_set_self (by rw[qa,Qk];exact hj),Q8 U]
  .rw[List.getElem?_set_ne e,qK,List.getElem?_range hj,Q7 (Ne.symm e)]
   rfl
 .rw[Qv (by rw[List.length_set,qa,Qk];omega),Qv (by rw[Qk];omega)]
  rfl
theorem LkS.same{H H':Hp}{L:LkA}{W:List (List Wat)}(S:LkS a H L W)(s:a8 H H'):LkS a H' L W:=⟨s _ _ S.ob,s _ _ S.sk,S.ql,s _ _ S.hw,S.rl.same s,S.sm,S.tg,S.few⟩
section
variable {H0 H:Hp}{L:LkA}{W:List (List Wat)}{o:List Nat}{zs:Nat->Nat}{st:Nat->List Nat}
theorem LkH.od(M:LkH H0 H L W o zs st):H L.lo=some (.lst (bD o)):=bq.av M (i:=0) U U
theorem LkH.fi(M:LkH H0 H L W o zs st):H L.lf=some (.lst ((List.range W.length).map λj:Nat=>V.bl (decide (j∈o)))):=bq.av M (i:=1) U U
theorem LkH.ov(M:LkH H0 H L W o zs st):H L.lv=some (.lst ((List.range W.length).map λj:Nat=>V.int (zs j))):=bq.av M (i:=2) U U
theorem LkH.q(M:LkH H0 H L W o zs st){j:Nat}{q:Addr}(hq:L.qs[j]?=some q)(hj:j<W.length):H q=some (.lst (bD (st j))):=bq.av M (i:=j+3) hq (by
 show((List.range W.length).map _)[j]?=_;rw[qK,List.getElem?_range hj]
 rfl)
theorem LkH.set(M:LkH H0 H L W o zs st){x z:Nat}:LkH H0 (upd H L.lv (.lst (((List.range W.length).map λj:Nat=>V.int (zs j)).set x (.int z)))) L W o (λk=>if k=x then z else zs k) st:=by
 rw[oK _ (λj:Nat=>V.int ((λk=>if k=x then z else zs k) j)) _ _ _ λj=>by show V.int ((if j=x then z else zs j:Nat):Int)=_;split<;>rfl];exact bq.put M 2 U
theorem LkH.ord(M:LkH H0 H L W o zs st){x:Nat}:bq H0 (upd H L.lo (.lst (bD o++[.int x]))) (L.lo::L.lf::L.lv::L.qs) (.lst (bD (o++[x]))::(cnL W.length o zs st).tail):=by
 rw[show bD o++[V.int x]=bD (o++[x])by unfold bD;rw[qU];rfl];exact bq.put M 0 U
theorem LkH.fin{x:Nat}(M:bq H0 H (L.lo::L.lf::L.lv::L.qs) (.lst (bD (o++[x]))::(cnL W.length o zs st).tail)):LkH H0 (upd H L.lf (.lst (((List.range W.length).map λj:Nat=>V.bl (decide (j∈o))).set x (.bl true)))) L W (o++[x]) zs st:=by
 rw[oK _ (λj:Nat=>V.bl (decide (j∈o++[x]))) _ _ _ λj=>by
  by_cases e:j=x
  .rw[Q8 e,e,Q9 (qO _ (qY.mpr U))]
  .rw[Q7 e]
   exact congrArg V.bl (decide_eq_decide.mpr ⟨λh=>(qk.mp h).resolve_right λz=>e (qY.mp z),λh=>Q3 _ h⟩)]
 exact bq.put M 1 U
theorem LkH.stk(M:LkH H0 H L W o zs st){w x:Nat}{q:Addr}(hq:L.qs[w]?=some q):LkH H0 (upd H q (.lst (bD (st w)++[.int x]))) L W o zs (λk=>if k=w then st w++[x]else st k):=by
 have h:=bq.put M (w+3) (o:=.lst (bD (st w)++[.int x])) hq
 have e:(cnL W.length o zs st).set (w+3) (.lst (bD (st w)++[.int x]))=cnL W.length o zs (λk=>if k=w then st w++[x]else st k):=by
  show _::_::_::((List.range W.length).map _).set w _=_::_::_::(List.range W.length).map _
  rw[oK _ (λj:Nat=>HO.lst (bD ((λk=>if k=w then st w++[x]else st k) j))) _ _ _ λj=>by
   show HO.lst (bD (if j=w then st w++[x]else st j))=_;split
   .unfold bD;rw[qU];rfl
   .rfl]
 rw[e]at h;exact h
theorem LkH.has(M:LkH H0 H L W o zs st)(ql:L.qs.length=W.length){x:Addr}(hx:x∈L.lo::L.lf::L.lv::L.qs):H x≠none:=by
 obtain⟨i,hi⟩:=List.mem_iff_getElem?.mp hx;have lt:=(qh.mp hi).1;have l2:(cnL W.length o zs st).length=L.qs.length+3:=by simp[cnL,ql]
 rw[bq.av M hi (qe (by rw[l2];exact lt))];exact λz=>by cases z
end
theorem x9{zs:Nat->Nat}{x z:Nat}(h:z=zs x):(λk=>if k=x then z else zs k)=zs:=funext λk=>by
 by_cases e:k=x
 .rw[Q8 e,h,e]
 .rw[Q7 e]
theorem wZ{n i:Nat}(h:i<n):ixN n (i:Int)=some i:=by
 unfold ixN;rw[Q8 Yo,Q8 Yo];simp
theorem Du{a b c d e:V}:List.lookup ("waits":Str) [(("waits":Str),a),("order",b),("finished",c),("over",d),("stuck",e)]=some a:=jI
theorem lJ{a b c d e:V}:List.lookup ("order":Str) [(("waits":Str),a),("order",b),("finished",c),("over",d),("stuck",e)]=some b:=(fP Yd).trans jI
theorem pX{a b c d e:V}:List.lookup ("finished":Str) [(("waits":Str),a),("order",b),("finished",c),("over",d),("stuck",e)]=some c:=(fP Yd).trans ((fP Yd).trans jI)
theorem lH{a b c d e:V}:List.lookup ("over":Str) [(("waits":Str),a),("order",b),("finished",c),("over",d),("stuck",e)]=some d:=(fP Yd).trans ((fP Yd).trans ((fP Yd).trans jI))
theorem wK{a b c d e:V}:List.lookup ("stuck":Str) [(("waits":Str),a),("order",b),("finished",c),("over",d),("stuck",e)]=some e:=(fP Yd).trans ((fP Yd).trans ((fP Yd).trans ((fP Yd).trans jI)))
theorem lK{f:Str}(h:f∉(["waits","order","finished","over","stuck"]:List Str)){a b c d e:V}:List.lookup f [(("waits":Str),a),("order",b),("finished",c),("over",d),("stuck",e)]=none:=by
 have n:∀{g:Str},g∈(["waits","order","finished","over","stuck"]:List Str)->(f == g)=false:=λhg=>beq_eq_false_iff_ne.mpr λz=>h (z▸hg);simp only[List.lookup,n (show("waits":Str)∈_ by simp),n (show("order":Str)∈_ by simp),n (show("finished":Str)∈_ by simp),n (show("over":Str)∈_ by simp),n (show("stuck":Str)∈_ by simp)]
structure f9(H G:Hp)(b:Addr)(o:HO)(ow:List Addr)(cn:List HO):Prop where
 off:∀c p,c≠b->H c=some p->G c=some p
 hb:G b=some o
 nd:ow.Nodup
 nb:b∉ow
 nw:∀x∈ow,H x=none
 len:cn.length=ow.length
 av:∀{i:Nat}{x:Addr}{p:HO},ow[i]?=some x->cn[i]?=some p->G x=some p
theorem f9.grow{H G:Hp}{b:Addr}{o:HO}{ow:List Addr}{cn:List HO}(M:f9 H G b o ow cn){x:Addr}(hx:G x=none)(p:HO):f9 H (upd G x p) b o (ow++[x]) (cn++[p]):=by
 have xb:x≠b:=λz=>by rw[z,M.hb]at hx;cases hx
 have xo:∀{y},y∈ow->y≠x:=λhy z=>by
  obtain⟨i,hi⟩:=List.mem_iff_getElem?.mp hy;have lt:=(qh.mp hi).1;have:=M.av hi (qe (by rw[M.len];exact lt));rw[z,hx]at this;cases this
 have h0:H x=none:=by
  cases e:H x with
  |none=>rfl
  |some q=>rw[M.off x q xb e]at hx;cases hx
 refine⟨λc q n h=>a8.new hx _ _ _ (M.off c q n h),a8.new hx _ _ _ M.hb,?_,λz=>?_,λy hy=>?_,by rw[qc,qc,M.len];rfl,λ{i y q} hi hq=>?_⟩
 .rw[List.nodup_append];exact⟨M.nd,Qx _ _,λy hy z hz=>by rw[qY.mp hz];exact xo hy⟩
 .rcases qk.mp z with z|z
  .exact M.nb z
  .exact xb (qY.mp z).symm
 .rcases qk.mp hy with hy|hy
  .exact M.nw y hy
  .rw[qY.mp hy];exact h0
 .by_cases lt:i<ow.length
  .rw[Qc lt]at hi;rw[Qc (by rw[M.len];exact lt)]at hq;exact a8.new hx _ _ _ (M.av hi hq)
  .rw[qR Yo]at hi;rw[qR (by rw[M.len];omega),M.len]at hq
   cases e:i-ow.length with
   |zero=>rw[e]at hi hq;cases hi;cases hq;exact ag
   |succ j=>rw[e]at hi;simp at hi
theorem f9.put{H G:Hp}{b:Addr}{o:HO}{ow:List Addr}{cn:List HO}(M:f9 H G b o ow cn)(o':HO):f9 H (upd G b o') b o' ow cn:=
 ⟨λc q n h=>by rw[af n];exact M.off c q n h,ag,M.nd,M.nb,M.nw,M.len,λ{i y q} hi hq=>by rw[af λz=>M.nb (by rw[<- z];exact qG hi)];exact M.av hi hq⟩
theorem CU(T:Tx P w K mg a):aN P w K mg base CX0 1 a.Gh a.Gi ["self","waits"] (uR a):=by
 refine T.JG.ok AB (λvs H Q E h=>?_) (λcdv A outer s H vs Q E hr h=>?_)
 .obtain⟨_,_,_,_,rfl,_⟩:=h
  rfl
 obtain⟨b,dx,lw,us,rfl,hb,hw,hl,k⟩:=h
 refine⟨_,(ah (jy (pq 0) (pq 1) U)
  (ah (jy (pq 0) (aT ae) U)
  (ah (jy (pq 0) (fL (k:=1) (Nc:=["deed"]) (js:=[]) (show bE (aI iU) ["self","waits"] _ 1 ["deed"] []from bE.mk U (by decide +kernel) (by decide +kernel) (by decide +kernel) U (by decide +kernel)) U (cq (pq 1)) (λ_ _ _ _ _=>(aK (i:=0) (show List.Nodup (["deed"]:List Str)from by decide +kernel) U Oi)) (λ_ _ _ _ _=>i8) (λ_ _ _ _ _=>dB)) U)
  (ah (jy (pq 0) (fL (k:=1) (Nc:=["deed"]) (js:=[]) (show bE (aI iU) ["self","waits"] _ 1 ["deed"] []from bE.mk U (by decide +kernel) (by decide +kernel) (by decide +kernel) U (by decide +kernel)) U (cq (pq 1)) (λ_ _ _ _ _=>(aK (i:=0) (show List.Nodup (["deed"]:List Str)from by decide +kernel) U Oi)) (λ_ _ _ _ _=>i8) (λ_ _ _ _ _=>ac)) U)
  (ak (jy (pq 0) (fL (k:=1) (Nc:=["deed"]) (js:=[]) (show bE (aI iU) ["self","waits"] _ 1 ["deed"] []from bE.mk U (by decide +kernel) (by decide +kernel) (by decide +kernel) U (by decide +kernel)) U (cq (pq 1)) (λ_ _ _ _ _=>(aK (i:=0) (show List.Nodup (["deed"]:List Str)from by decide +kernel) U Oi)) (λ_ _ _ _ _=>i8) (λ_ _ _ _ _=>(aT ae))) U)))))),?_⟩
 have nw:lw≠b:=λz=>by rw[z,hb]at hw;cases hw
 have M0:f9 H H b _ [] []:=⟨λ_ _ _ h=>h,hb,List.nodup_nil,λz=>(nomatch z),λ_ z=>(nomatch z),U,λh=>by simp at h⟩;refine⟨_,U,_,U,b,a.ad,dx,[],U,hb,T.f8,T.Jz,by simp,?_⟩;rw[iY [] U Yd,Qr];have M1:=M0.put (.ins a.ad dx [("waits",V.ref lw)]);generalize upd H b (.ins a.ad dx [("waits",V.ref lw)])=H1 at M1 ⊢;refine⟨qz _,λlo hlo=>?_⟩;have M2:=M1.grow hlo (.lst []);refine⟨_,U,b,a.ad,dx,_,U,M2.hb,T.f8,T.Ch,by simp,?_⟩;rw[iY ["waits"] U Yd];have M3:f9 H _ b (.ins a.ad dx [("waits",V.ref lw),("order",V.ref lo)]) _ _:=M2.put (.ins a.ad dx (([("waits",V.ref lw)]:List (Str×V))++([("order",V.ref lo)]:List (Str×V))));generalize upd (upd H1 lo (.lst [])) b (.ins a.ad dx (([("waits",V.ref lw)]:List (Str×V))++([("order",V.ref lo)]:List (Str×V))))=H2 at M3 ⊢;refine⟨_,U,lw,U,⟨_,SqL.of (M3.off _ _ nw hw)⟩,?_⟩;refine jT (K:=K) (a:=lw) (xs:=us) (λi ys Y G=>(∃v,Y=[v])/\G=H2/\ys=(List.range i).map λj:Nat=>V.bl (decide (j∈([]:List Nat)))) ⟨⟨_,U⟩,U,U⟩ ?_ (bg (m:=1000) hl) ?_ ?_ ?_
 .rintro i ys Y G _ ⟨_,_,rfl⟩;rw[qa,Qk];exact qg _
 .rintro i ys Y G ⟨_,rfl,_⟩;exact SqL.of (M3.off _ _ nw hw)
 .rintro i x ys Y G _ ⟨⟨v,rfl⟩,rfl,rfl⟩;exact⟨⟨_,U⟩,U,by rw[List.range_succ,qU];rfl⟩
 rintro ys Y G ⟨_,rfl,rfl⟩ lf hlf;have M4:=M3.grow hlf (.lst ((List.range us.length).map λj:Nat=>V.bl (decide (j∈([]:List Nat)))));refine⟨_,U,b,a.ad,dx,_,U,M4.hb,T.f8,T.G1,by simp,?_⟩;rw[iY ["waits","order"] U Yd];have M5:f9 H _ b (.ins a.ad dx [("waits",V.ref lw),("order",V.ref lo),("finished",V.ref lf)]) _ _:=M4.put (.ins a.ad dx (([("waits",V.ref lw),("order",V.ref lo)]:List (Str×V))++([("finished",V.ref lf)]:List (Str×V))));generalize upd (upd G lf (.lst ((List.range us.length).map λj:Nat=>V.bl (decide (j∈([]:List Nat)))))) b (.ins a.ad dx (([("waits",V.ref lw),("order",V.ref lo)]:List (Str×V))++([("finished",V.ref lf)]:List (Str×V))))=H3 at M5 ⊢;refine⟨_,U,lw,U,⟨_,SqL.of (M5.off _ _ nw hw)⟩,?_⟩;refine jT (K:=K) (a:=lw) (xs:=us) (λi ys Y G=>(∃v,Y=[v])/\G=H3/\ys=(List.range i).map λ_:Nat=>V.int ((0:Nat):Int)) ⟨⟨_,U⟩,U,U⟩ ?_ (bg (m:=1000) hl) ?_ ?_ ?_
 .rintro i ys Y G _ ⟨_,_,rfl⟩;rw[qa,Qk];exact qg _
 .rintro i ys Y G ⟨_,rfl,_⟩;exact SqL.of (M5.off _ _ nw hw)
 .rintro i x ys Y G _ ⟨⟨v,rfl⟩,rfl,rfl⟩;exact⟨⟨_,U⟩,U,by rw[List.range_succ,qU];rfl⟩
 rintro ys Y G ⟨_,rfl,rfl⟩ lv hlv;have M6:=M5.grow hlv (.lst ((List.range us.length).map λ_:Nat=>V.int ((0:Nat):Int)));refine⟨_,U,b,a.ad,dx,_,U,M6.hb,T.f8,T.Cl,by simp,?_⟩;rw[iY ["waits","order","finished"] U Yd];have M7:f9 H _ b (.ins a.ad dx [("waits",V.ref lw),("order",V.ref lo),("finished",V.ref lf),("over",V.ref lv)]) _ _:=M6.put (.ins a.ad dx (([("waits",V.ref lw),("order",V.ref lo),("finished",V.ref lf)]:List (Str×V))++([("over",V.ref lv)]:List (Str×V))));generalize upd (upd G lv (.lst ((List.range us.length).map λ_:Nat=>V.int ((0:Nat):Int)))) b (.ins a.ad dx (([("waits",V.ref lw),("order",V.ref lo),("finished",V.ref lf)]:List (Str×V))++([("over",V.ref lv)]:List (Str×V))))=H4 at M7 ⊢;refine⟨_,U,lw,U,⟨_,SqL.of (M7.off _ _ nw hw)⟩,?_⟩;refine jT (K:=K) (a:=lw) (xs:=us) (λi ys Y G=>(∃v,Y=[v])/\∃qs:List Addr,ys=qs.map V.ref/\qs.length=i/\f9 H G b _ (lo::lf::lv::qs) (.lst []::.lst ((List.range us.length).map λj:Nat=>V.bl (decide (j∈([]:List Nat))))::.lst ((List.range us.length).map λ_:Nat=>V.int ((0:Nat):Int))::(List.range i).map λ_:Nat=>HO.lst [])) ⟨⟨_,U⟩,[],U,U,M7⟩ ?_ (bg (m:=1000) hl) ?_ ?_ ?_
 .rintro i ys Y G _ ⟨_,qs,rfl,rfl,_⟩;rw[qa];exact qg _
 .rintro i ys Y G ⟨_,qs,_,_,M⟩;exact SqL.of (M.off _ _ nw hw)
 .rintro i x ys Y G _ ⟨⟨v,rfl⟩,qs,rfl,rfl,M⟩;refine⟨qz _,λc hc=>⟨⟨_,U⟩,qs++[c],by rw[qU];rfl,by rw[qc];rfl,?_⟩⟩;rw[List.range_succ,qU];exact M.grow hc (.lst [])
 rintro ys Y G ⟨_,qs,rfl,ql,M8⟩ lk hlk;have M9:=M8.grow hlk (.lst (qs.map V.ref));refine⟨_,U,b,a.ad,dx,_,U,M9.hb,T.f8,T.Iz,by simp,?_⟩;rw[iY ["waits","order","finished","over"] U Yd];have M:f9 H _ b (LkO a dx lw lo lf lv lk) _ _:=M9.put (.ins a.ad dx (([("waits",V.ref lw),("order",V.ref lo),("finished",V.ref lf),("over",V.ref lv)]:List (Str×V))++([("stuck",V.ref lk)]:List (Str×V))));generalize upd (upd G lk (.lst (qs.map V.ref))) b (.ins a.ad dx (([("waits",V.ref lw),("order",V.ref lo),("finished",V.ref lf),("over",V.ref lv)]:List (Str×V))++([("stuck",V.ref lk)]:List (Str×V))))=H5 at M ⊢;have nd:=List.nodup_append.mp M.nd;have nb:b∉lo::lf::lv::qs:=λz=>M.nb (Q3 _ z);have nk:lk∉lo::lf::lv::qs:=λz=>nd.2.2 _ z _ (qY.mpr U) U;have at0:∀{i:Nat}{x:Addr}{p:HO},(lo::lf::lv::qs)[i]?=some x->(cnL us.length [] (λ_=>0) λ_=>[])[i]?=some p->H5 x=some p:=λ{i x p} hi hp=>M.av (i:=i) (by rw[Qc (qh.mp hi).1];exact hi) ((Qc (qh.mp hp).1).trans hp);have hlk5:H5 lk=some (.lst (qs.map V.ref)):=M.av (i:=us.length+3) (by rw[qR (by simp[ql])];simp[ql]) (by rw[qR (by simp)];simp);refine k H5 (λc=>if c∈lo::lf::lv::qs then none else H5 c) lo lf lv lk qs (λc o n h=>?_) ?_ ?_ ql ⟨λc o h=>?_,nd.1,λx hx=>Q8 hx,at0⟩
 .show(if c∈lo::lf::lv::qs then none else H5 c)=_;rw[Q7 λz=>by rw[M.nw c (Q3 _ z)]at h;cases h];exact M.off c o n h
 .show(if b∈lo::lf::lv::qs then none else H5 b)=_;rw[Q7 nb];exact M.hb
 .show(if lk∈lo::lf::lv::qs then none else H5 lk)=_;rw[Q7 nk];exact hlk5
 .have h:(if c∈lo::lf::lv::qs then none else H5 c)=some o:=h;split at h
  .cases h
  .exact h
theorem wc(T:Tx P w K mg a):aN P w K mg base CX0 1 a.Gm a.Gn ["self","deed"] (uO a):=by
 refine T.JK.ok ng (λvs H Q E h=>?_) (λcdv A outer s H vs Q E hr h=>?_)
 .obtain⟨_,_,_,_,_,_,_,rfl,_⟩:=h
  rfl
 obtain⟨H0,L,W,o,zs,st,x,rfl,S,M,hx,hz,k⟩:=h
 refine⟨_,(ah (aq (i:=2) ng.nd U Oi (ai aE (dU (pq 0) U) (pq 1) Oy))
  (ah (pk PassesOwn.never (au gb (ai aE (dU (pq 0) U) (pq 1) Oy) (aW bK U T.dz Qe (a9 (pq 2) ae)) (ax _)) (ah (aq (i:=3) ng.nd U Oi (ai aE (pq 2) (ai aE (dU (pq 0) U) (pq 1) Oy) Oy))
  (ah (aM (eJ (eI (ai aE (dU (pq 0) U) (ai ar (pq 3) ac Oy) Oy))) (ak (aA (pq 3))) aR)
  (ak (gK (ao bu (ai aE (dU (pq 0) U) (pq 1) Oy) ac) (l9 (dU (pq 0) U) (pq 1) kI))))))
  (ak (aA bT)))),?_⟩
 have ul:=S.rl.len;have big:(10000:Nat)<sizeLine:=Yk;obtain⟨wl,wu,es,e1,h1,r1,hW⟩:=S.rl.at x (L.us[x]' Yo) (qe Yo);have ew:wsV W x=es:=by unfold wsV;rw[hW];rfl
 have e9:=S.sm x es hW;subst ew;have wlen:=r1.len;have hat:atI L.us (x:Int)=some (.ref wl):=br (by rw[qe Yo,e1]);refine⟨_,U,L.b,_,L.dx,_,_,U,M.sa _ _ S.ob,T.f8,T.Jz,Du,_,U,L.lw,L.us,_,_,U,U,SqL.of (M.sa _ _ S.hw),hat,?_⟩;refine⟨λm Y G=>∃(z:Nat)(v:Option V),Y=[some (.ref L.b),some (.int x),some (.ref wl),v]/\LkH H0 G L W o (λk=>if k=x then z else zs k) st/\zs x<=z/\z+m=(wsV W x).length/\∀t e,zs x<=t->t<z->(wsV W x)[t]?=some e->c9 o e,⟨(wsV W x).length-zs x,zs x,_,U,by rw[x9 U];exact M,qg _,Yo,λt e h1 h2=>Yo⟩,?_⟩;rintro m Y G ⟨z,v,rfl,M1,z1,z2,z3⟩;have hat2:atI ((List.range W.length).map λj:Nat=>V.int ((λk=>if k=x then z else zs k) j)) (x:Int)=some (.int z):=br (by rw[qK,List.getElem?_range hx];simp);refine⟨_,U,L.b,_,L.dx,_,_,U,M1.sa _ _ S.ob,T.f8,T.Cl,lH,_,U,L.lv,_,_,_,U,U,SqL.of M1.ov,hat2,_,U,wl,_,U,.inl (SqL.of (M1.sa _ _ h1)),_,_,U,U,_,U,?_⟩
 cases m with
 |zero=>exact ay (Qa Yo) ((k G z M1 z1 Yo z3).1 Yo)
 |succ m=>
  refine aU (Q9 Yo) ?_;have tl:z<(wsV W x).length:=Yo;have he:(wsV W x)[z]?=some ((wsV W x)[z]):=qe tl;generalize (wsV W x)[z]=e at he;obtain⟨pw,hp,hpw⟩:=k9 r1 he;obtain⟨j,ej,jl⟩:=S.tg x e (qG he);refine⟨λY' G'=>∃(z:Nat)(v:Option V),Y'=[some (.ref L.b),some (.int x),some (.ref wl),v]/\LkH H0 G' L W o (λk=>if k=x then z else zs k) st/\zs x<=z/\z+m=(wsV W x).length/\∀t e,zs x<=t->t<z->(wsV W x)[t]?=some e->c9 o e,λY' G' h=>⟨m,Qh _,h⟩,?_⟩;have hatw:atI wu (z:Int)=some (.ref pw):=br hp
  have hatf:atI ((List.range W.length).map λx:Nat=>V.bl (decide (x∈o))) e.1=some (.bl (decide (j∈o))):=by
   rw[ej];exact br (by rw[qK,List.getElem?_range jl];rfl)
  refine⟨_,U,_,U,L.b,_,L.dx,_,_,U,M1.sa _ _ S.ob,T.f8,T.Cl,lH,_,U,L.lv,_,_,_,U,U,SqL.of M1.ov,hat2,wl,_,_,_,U,U,SqL.of (M1.sa _ _ h1),hatw,?_⟩;refine⟨_,U,L.b,_,L.dx,_,_,U,M1.sa _ _ S.ob,T.f8,T.G1,pX,_,U,pw,_,_,_,U,U,SqT.of (M1.sa _ _ hpw),U,L.lf,_,_,_,U,U,SqL.of M1.fi,hatf,_,U,?_⟩;by_cases jo:j∈o
  .refine ay (by rw[Q9 jo];rfl) ?_;refine⟨_,U,L.b,_,L.dx,_,_,U,M1.sa _ _ S.ob,T.f8,T.Cl,lH,_,U,L.lv,_,_,_,U,U,SqL.of M1.ov,hat2,_,_,U,U,?_⟩;refine⟨_,U,L.b,_,L.dx,_,_,U,M1.sa _ _ S.ob,T.f8,T.Cl,lH,_,U,L.lv,_,_,x,U,U,M1.ov,wZ (by rw[qa,Qk];exact hx),?_⟩;have M2:=M1.set (x:=x) (z:=z+1);refine⟨z+1,_,U,?_,Yo,Yo,λt e' a1 a2 he'=>?_⟩
   .rw[show(λk=>if k=x then z+1 else(λk=>if k=x then z else zs k) k)=λk=>if k=x then z+1 else zs k from funext λk=>by dsimp only;split<;>rfl]at M2;exact M2
   .by_cases tz:t=z
    .rw[tz,he]at he';cases he';exact⟨j,ej,jo⟩
    .exact z3 t e' a1 Yo he'
  .refine aU (by rw[Qa jo];rfl) ?_
   exact⟨_,U,(k G z M1 z1 Yo z3).2 e pw he (λ⟨j',e',h'⟩=>jo (by
    have:j'=j:=Yo
    exact this▸h')) hpw⟩
theorem gO{l:List Nat}{n:Nat}(nd:l.Nodup)(lt:∀k∈l,k<n):l.length<=n:=by
 have:=nd.length_le_of_subset (l₂:=List.range n) λk hk=>List.mem_range.mpr (lt k hk)
 rwa [Qk]at this
theorem wB(x y:List Nat):bD (x++y)=bD x++bD y:=qU
theorem ik(x:List Nat):(bD x).length=x.length:=qa _
def LkP(m:Nat)(H0:Hp)(L:LkA)(W:List (List Wat))(lr:Addr)(u:Nat)(Y:St)(G:Hp):Prop:=∃(o R:List Nat)(zs:Nat->Nat)(st:Nat->List Nat)(G0:Hp)(v3 v4:Option V),Y=[some (.ref L.b),some (.int m),some (.ref lr),v3,v4]/\LkI W (m+1) o R zs st/\a8 H0 G0/\G0 lr=some (.lst (bD R))/\LkH G0 G L W o zs st/\(W.length-o.length) * (W.length+1)+R.length=u
theorem CT(T:Tx P w K mg a):aN P w K mg base CX0 2 a.Gj a.Gk ["self","deed"] (uQ a):=by
 refine T.JI.ok kM (λvs H Q E h=>?_) (λcdv A outer s H vs Q E hr h=>?_)
 .obtain⟨_,_,_,_,_,_,_,rfl,_⟩:=h
  rfl
 obtain⟨H0,L,W,o0,zs0,st0,m,rfl,S,M,I,hm,k⟩:=h
 refine⟨_,(ah (aq (i:=2) kM.nd U Oi (aT (a9 (pq 1) ae)))
  (ak (pk PassesOwn.never (au fH (aW bK U T.dz Qe (a9 (pq 2) ae)) ac (ax _)) (ah (aq (i:=3) kM.nd U Oi (vR qi PySem.F.slot_list_pop PySem.F.type_list_pop wC (pq 2)))
  (ah (aq (i:=4) kM.nd U Oi (pG (pq 0) T.f8 T.Jy (wc T) (hr.mono Yk) T.IL .nil aC (a9 (pq 3) ae)))
  (ak (aM (au Be (pq 4) bT (ax _)) (ah (bw (bH qi qC qD cA (dU (pq 0) U) (a9 (pq 3) ae)))
  (ah (gK dB (l9 (dU (pq 0) U) (pq 3) kI))
  (ak (bw (bH qi Qu Qt gT (pq 2) (a9 (ai aE (dU (pq 0) U) (pq 3) Oy) ae)))))) (ak (bw (bH qi qC qD cA (ai aE (dU (pq 0) U) (ai ar (pq 4) ac Oy) Oy) (a9 (pq 3) ae))))))))))),?_⟩
 have big:(10000:Nat)<sizeLine:=Yk;have few:=S.few;refine⟨_,U,ln1,λlr hlr=>?_⟩;have nlr:lr∉L.lo::L.lf::L.lv::L.qs:=λz=>M.has S.ql z hlr;have h0:H0 lr=none:=a8.none M.sa hlr;refine⟨LkP m H0 L W lr,⟨_,o0,[m],zs0,st0,upd H0 lr (.lst (bD [m])),_,_,U,I.push,a8.new h0 _,ag,bq.side M nlr _,U⟩,?_⟩;rintro μ Y G ⟨o,R,zs,st,G0,v3,v4,rfl,I1,s0,hr0,M1,eμ⟩;refine⟨_,U,lr,_,U,.inl (SqL.of (M1.sa _ _ hr0)),_,_,U,U,_,U,?_⟩;rcases List.eq_nil_or_concat R with rfl|⟨R',x,rfl⟩
 .exact ay Yk (k G o zs st (bq.low M1 s0) I1)
 rw[List.concat_eq_append]at *;refine aU (Q9 (by rw[ik,qc,Qd];omega)) ?_;refine⟨λY' G'=>∃u,u<μ/\LkP m H0 L W lr u Y' G',λY' G' h=>h,?_⟩;have hr1:=M1.sa _ _ hr0;rw[wB]at hr1;have xR:x∈R'++[x]:=qO _ (qY.mpr U);have xl:x<W.length:=by have:=(I1.ro x xR).1;omega
 refine⟨_,U,.inl ⟨U,_,SqL.of hr1⟩,lr,_,.int (x:Int),U,U,hr1,List.getLast?_eq_getElem?.symm.trans List.getLast?_concat,?_⟩;rw[show(bD R'++bD [x]).dropLast=bD R' from List.dropLast_concat];have M2:=bq.side M1 nlr (.lst (bD R'));have s2:=hZ s0 h0 (.lst (bD R'));have hr2:upd G0 lr (.lst (bD R')) lr=some (.lst (bD R')):=ag;generalize upd G0 lr (.lst (bD R'))=G02 at M2 s2 hr2;generalize upd G lr (.lst (bD R'))=G2 at M2 ⊢;have S2:=S.same s2;have qx:L.qs[x]?=some (L.qs[x]'(by have:=S.ql;omega)):=qe _;generalize L.qs[x]'(by have:=S.ql;omega)=q at qx;refine⟨_,U,L.b,L.dx,_,U,M2.sa _ _ S2.ob,lK Yd,_,U,G02,L,W,o,zs,st,x,U,S2,M2,xl,I1.zl x,λG3 z M3 z1 z2 z3=>?_⟩
 have tk:∀e∈(wsV W x).take z,c9 o e:=λe he=>by
  obtain⟨t,ht⟩:=List.mem_iff_getElem?.mp he;rw[List.getElem?_take]at ht;split at ht
  .rename_i lt;by_cases t0:t<zs x
   .exact I1.zd x e (List.mem_iff_getElem?.mpr ⟨t,by rw[List.getElem?_take,Q8 t0];exact ht⟩)
   .exact z3 t e Yo lt ht
  .cases ht
 have I2:=I1.over xR z2 tk;refine⟨λez=>?_,λe p he nde hp=>?_⟩
 .have I3:=I2.done λe he=>tk e (by rw[ez,qN];exact he);have l3:=gO I3.rn λk hk=>(I3.ro k hk).1;have l4:=gO I3.nd λk hk=>I3.lt k hk;rw[qc]at l3 l4;refine⟨_,U,U,_,U,aU U ?_⟩;refine⟨_,U,L.b,_,L.dx,_,_,U,M3.sa _ _ S2.ob,T.f8,T.Ch,lJ,.inl ⟨U,_,SqL.of M3.od⟩,_,U,L.lo,_,_,U,U,M3.od,by rw[ik];omega,?_⟩;have M4:=M3.ord (x:=x);refine⟨_,U,L.b,_,L.dx,_,_,U,M4.sa _ _ S2.ob,T.f8,T.G1,pX,_,U,L.lf,_,_,x,U,U,M4.av (i:=1) U U,wZ (by rw[qa,Qk];exact xl),?_⟩;have M5:=LkH.fin M4;generalize upd (upd G3 L.lo _) L.lf _=G5 at M5 ⊢;have hatq:atI (L.qs.map V.ref) (x:Int)=some (.ref q):=br (by rw[qK,qx];rfl);refine⟨_,U,.inl ⟨U,_,SqL.of (M5.sa _ _ hr2)⟩,_,U,L.b,_,L.dx,_,_,U,M5.sa _ _ S2.ob,T.f8,T.Iz,wK,_,U,L.lk,_,_,_,U,U,SqL.of (M5.sa _ _ S2.sk),hatq,lr,q,_,_,U,U,M5.sa _ _ hr2,M5.q qx xl,by rw[ik,ik];omega,?_⟩;rw[<- wB];refine⟨_,?_,o++[x],R'++st x,_,st,_,_,_,U,I3,hZ s2 h0 _,ag,bq.side M5 nlr _,U⟩;rw[<- eμ,qc,qc,qc,Qd];obtain⟨c,hc⟩:∃c,W.length-o.length=c+1:=⟨W.length-o.length-1,by have:[x].length=1:=U;omega⟩;rw[show W.length-(o.length+1)=c by omega,hc,Nat.succ_mul];omega
 .obtain⟨j,ej,jl⟩:=S.tg x e (qG he);have jo:j∉o:=λh=>nde ⟨j,ej,h⟩;have I3:=I2.stick (e:=e) (w:=j) (by show(wsV W x)[if x=x then z else zs x]?=_;rw[Q8 U];exact he) ej jo;have l3:=gO (I2.sn j jo) λk hk=>(I2.so j jo k hk).1;have qj:L.qs[j]?=some (L.qs[j]'(by have:=S.ql;omega)):=qe _;generalize L.qs[j]'(by have:=S.ql;omega)=q' at qj;have hatq:atI (L.qs.map V.ref) e.1=some (.ref q'):=by rw[ej];exact br (by rw[qK,qj];rfl)
  have hq3:=M3.q qj jl;refine⟨_,U,U,_,U,ay U ?_⟩;refine⟨_,U,L.b,_,L.dx,_,_,U,M3.sa _ _ S2.ob,T.f8,T.Iz,wK,_,U,p,_,_,_,U,U,SqT.of (M3.sa _ _ hp),U,L.lk,_,_,_,U,U,SqL.of (M3.sa _ _ S2.sk),hatq,.inl ⟨U,_,SqL.of hq3⟩,_,U,q',_,_,U,U,hq3,by rw[ik];omega,?_⟩;refine⟨_,?_,o,R',_,_,G02,_,_,U,I3,s2,hr2,M3.stk qj,U⟩;rw[<- eμ,qc,Qd];omega
theorem xA(o:List Nat):∀n,(∃j,j<n/\j∉o)->∃i,i<n/\i∉o/\∀j,j<i->j∈o
 |0,⟨_,h,_⟩=>Yo
 |n+1,⟨j,h,h'⟩=>by
  by_cases z:∃j,j<n/\j∉o
  .obtain⟨i,a,b,c⟩:=xA o n z;exact⟨i,Yo,b,c⟩
  .have all:∀x,x<n->x∈o:=λx hx=>by
    by_cases y:x∈o
    .exact y
    .exact Qb ⟨x,hx,y⟩ z
   by_cases e:j=n
   .exact⟨n,Qh n,e▸h',all⟩
   .exact Qb (all j Yo) h'
noncomputable def nxO(ps:List (Nat×Wat))(d i:Nat):Nat:=((ps[i+1]?).map (·.1)).getD d
structure WyO(W:List (List Wat))(o:List Nat)(zs:Nat->Nat)(ps:List (Nat×Wat))(d:Nat):Prop where
 dl:d<W.length
 dn:d∉o
 nd:(ps.map (·.1)).Nodup
 is:∀i p,ps[i]?=some p->p.1∉o/\p.1<W.length/\(wsV W p.1)[zs p.1]?=some p.2/\¬ c9 o p.2/\p.2.1=(nxO ps d i:Int)
theorem WyO.snoc{W:List (List Wat)}{o:List Nat}{zs:Nat->Nat}{ps:List (Nat×Wat)}{d j:Nat}{e:Wat}(h:WyO W o zs ps d)(he:(wsV W d)[zs d]?=some e)(ej:e.1=(j:Int))(jl:j<W.length)(jo:j∉o)(new:∀p∈ps,p.1≠d):WyO W o zs (ps++[(d,e)]) j:=by
 have nde:¬ c9 o e:=λ⟨x,ex,hx⟩=>jo (by
  have:x=j:=Yo
  exact this▸hx)
 refine⟨jl,jo,?_,λi p hp=>?_⟩
 .rw[qU,List.nodup_append];refine⟨h.nd,Qx _ _,λx hx y hy z=>?_⟩;obtain⟨p,hp,rfl⟩:=List.mem_map.mp hx;exact new p hp (z.trans (qY.mp hy))
 .by_cases lt:i<ps.length
  .rw[Qc lt]at hp;obtain⟨a,b,c,g,f⟩:=h.is i p hp;refine⟨a,b,c,g,?_⟩;rw[f];unfold nxO;by_cases l2:i+1<ps.length
   .rw[Qc l2,qe l2]
    rfl
   .rw[qR Yo,Qv Yo,show i+1-ps.length=0 by omega]
    rfl
  .rw[qR Yo]at hp
   cases ei:i-ps.length with
   |succ k=>rw[ei]at hp;simp at hp
   |zero=>
    rw[ei]at hp;cases hp;refine⟨h.dn,h.dl,he,nde,?_⟩;unfold nxO;rw[Qv (by rw[qc];simp;omega)];exact ej
theorem WyO.ring{W:List (List Wat)}{o:List Nat}{zs:Nat->Nat}{st:Nat->List Nat}{m:Nat}(I:LkI W m o [] zs st){ps:List (Nat×Wat)}{d i:Nat}{e:Wat}(h:WyO W o zs ps d)(hi:ps[i]?=some (d,e)):jb W o (ps.drop i):=by
 have il:=(qh.mp hi).1;refine⟨λz=>?_,?_,λp hp=>?_,λj p hp=>?_⟩
 .have:=congrArg List.length z;rw[Q6]at this;simp at this;omega
 .rw[List.map_drop];exact List.Sublist.nodup (List.drop_sublist _ _) h.nd
 .obtain⟨j,hj⟩:=List.mem_iff_getElem?.mp (List.mem_of_mem_drop hp);obtain⟨a,b,c,g,_⟩:=h.is j p hj;exact⟨a,b,_,c,I.zd p.1,g⟩
 .rw[List.getElem?_drop]at hp;have jl:=(qh.mp hp).1;obtain⟨_,_,_,_,f⟩:=h.is _ p hp;rw[f,Q6];unfold nxO;by_cases l2:i+j+1<ps.length
  .rw[Nat.mod_eq_of_lt Yo,List.getElem?_drop,show i+(j+1)=i+j+1 by omega,qe l2];exact⟨_,U,U⟩
  .rw[show j+1=ps.length-i by omega,Nat.mod_self,List.getElem?_drop,Nat.add_zero,hi,Qv (by omega)];exact⟨_,U,U⟩
theorem oB{H H':Hp}(s:∀b xs,H b=some (.tup xs)->H' b=some (.tup xs)):∀{vs:List V}{es:List Wat},RWs H vs es->RWs H' vs es
 |_,_,.nil=>.nil
 |_,_,.cons h r=>.cons (s _ _ h) (oB s r)
theorem vi{H:Hp}:∀(i:Nat){vs:List V}{es:List Wat},RWs H vs es->RWs H (vs.drop i) (es.drop i)
 |0,_,_,h=>h
 |_+1,_,_,.nil=>.nil
 |i+1,_,_,.cons _ r=>vi i r
theorem EN(xs:List V)(n:Nat):eV xs (some (n:Int)) none=xs.drop n:=by
 unfold eV;rw[HT.sIx_none,HT.sIx_nat];by_cases z:n<=xs.length
 .rw[Nat.min_eq_left z,List.take_of_length_le (by rw[Q6];omega)]
 .rw[Nat.min_eq_right Yo,List.drop_of_length_le (qg _),List.drop_of_length_le Yo];simp
def RgP(H0:Hp)(L:LkA)(W:List (List Wat))(o:List Nat)(zs:Nat->Nat)(st:Nat->List Nat)(dp lp:Addr)(u:Nat)(Y:St)(G:Hp):Prop:=∃(ps:List (Nat×Wat))(d:Nat)(G0:Hp)(kvs:List (Key×V))(us:List V)(v4:Option V),Y=[some (.ref L.b),some (.int d),some (.ref dp),some (.ref lp),v4]/\a8 H0 G0/\G0 dp=some (.dK kvs)/\G0 lp=some (.lst us)/\RWs G0 us (ps.map rgW)/\LkH G0 G L W o zs st/\WyO W o zs ps d/\(∀j:Nat,aJ kvs (.inl (j:Int))=none->∀p∈ps,p.1≠j)/\(∀(j:Nat) v,aJ kvs (.inl (j:Int))=some v->∃(i:Nat)(e:Wat),v=.int i/\ps[i]?=some (j,e))/\kvs.length<=ps.length/\ps.length+u=1001
theorem CS(T:Tx P w K mg a):aN P w K mg base CX0 2 a.Go a.Gp ["self"] (uP a):=by
 refine T.JL.ok iT (λvs H Q E h=>?_) (λcdv A outer s H vs Q E hr h=>?_)
 .obtain⟨_,_,_,_,_,_,rfl,_⟩:=h
  rfl
 obtain⟨H0,L,W,o,zs,st,rfl,S,M,I,no,k⟩:=h
 refine⟨_,(ah (aq (i:=1) iT.nd U Oi (bH qi PySem.F.slot_list_index PySem.F.type_list_index Da (dU (pq 0) U) (a9 dB ae)))
  (ah (aq (i:=2) iT.nd U Oi gi)
  (ah (aq (i:=3) iT.nd U Oi (aT ae))
  (ah (pk PassesOwn.never (au BX (pq 1) (pq 2) (by with_unfolding_all rfl)) (ah (fK (hr.one) (pq 2) (pq 1) (aW bK U T.dz Qe (a9 (pq 3) ae)) U)
  (ah (aq (i:=4) iT.nd U Oi (pG (pq 0) T.f8 T.Jy (wc T) (hr.mono Yk) T.IL .nil aC (a9 (pq 1) ae)))
  (ah (bw (bH qi qC qD cA (pq 3) (a9 (ba (a9 (pq 1) (a9 (ai ar (pq 4) ac Oy) (a9 (ai ar (pq 4) ac Oy) ae)))) ae)))
  (ak (aq (i:=1) iT.nd U Oi (ai ar (pq 4) ac Oy)))))))
  (ak (aA (gf kD (pq 3) (fk (jB hr.one (pq 2) (pq 1) Oy)) i9))))))),?_⟩
 have big:(10000:Nat)<sizeLine:=Yk;have few:=S.few
 obtain⟨i0,il,i1,i2⟩:=xA o W.length (by
  by_cases z:∃j,j<W.length/\j∉o
  .exact z
  .have l1:=gO I.nd I.lt
   have l2:=List.nodup_range.length_le_of_subset (l₁:=List.range W.length) (l₂:=o) λk hk=>by
    by_cases y:k∈o
    .exact y
    .exact Qb ⟨k,List.mem_range.mp hk,y⟩ z
   rw[Qk]at l2
   omega)
 have hf:H L.lf=some (.lst (((List.range W.length).map λj:Nat=>decide (j∈o)).map V.bl)):=by rw[List.map_map];exact M.fi
 have at1:∀j,j<W.length->((List.range W.length).map λj:Nat=>decide (j∈o))[j]?=some (decide (j∈o)):=λj hj=>by rw[qK,List.getElem?_range hj];rfl
 refine⟨_,U,L.b,_,L.dx,_,_,U,M.sa _ _ S.ob,T.f8,T.G1,pX,.inl ⟨U,_,SqL.of hf⟩,L.lf,_,false,i0,U,U,hf,by rw[at1 i0 il,Qa i1],λj hj=>by rw[at1 j Yo,Q9 (i2 j hj)];rfl,by rw[qa,Qk];exact few,?_⟩;refine λdp hdp=>⟨qz _,λlp hlp=>?_⟩;have ndp:dp∉L.lo::L.lf::L.lv::L.qs:=λz=>M.has S.ql z hdp;have h0d:H0 dp=none:=a8.none M.sa hdp;have M1:=bq.side M ndp (.dK []);have nlp:lp∉L.lo::L.lf::L.lv::L.qs:=λz=>LkH.has M1 S.ql z hlp;have npd:lp≠dp:=λz=>by rw[z,ag]at hlp;cases hlp
 have h0l:H0 lp=none:=a8.none M.sa (jG hlp);have M2:=bq.side M1 nlp (.lst []);have s2:=hZ (hZ (a8.refl H0) h0d (.dK [])) h0l (.lst []);refine⟨RgP H0 L W o zs st dp lp,⟨1001,[],i0,_,[],[],_,U,s2,(by rw[af npd.symm];exact ag),ag,.nil,M2,⟨il,i1,List.nodup_nil,λi p h=>by simp at h⟩,λj _ p h=>(nomatch h),λj v h=>(nomatch h),qg _,U⟩,?_⟩;rintro μ Y G ⟨ps,d,G0,kvs,us,v4,rfl,s3,hd3,hl3,rw3,M3,X0,kn,ks,kl,eμ⟩
 have psl:ps.length<=W.length:=by
  have:=gO X0.nd (n:=W.length) λx hx=>by
   obtain⟨p,hp,rfl⟩:=List.mem_map.mp hx;obtain⟨i,hi⟩:=List.mem_iff_getElem?.mp hp;exact(X0.is i p hi).2.1
  rwa [qa]at this
 have usl:=rw3.len;rw[qa]at usl;refine⟨_,U,_,U,dp,kvs,.inl (d:Int),U,M3.sa _ _ hd3,U,_,U,?_⟩
 cases ev:aJ kvs (.inl (d:Int))with
 |some v=>
  refine ay U ?_;obtain⟨i,e,rfl,hi⟩:=ks d v ev
  have hg:ci G dp (.int (d:Int)) (some (.int (i:Int))):=by
   have:=ci.k (k:=.inl (d:Int)) (M3.sa _ _ hd3);rw[ev]at this;exact this
  refine⟨_,U,_,U,_,U,dp,_,U,hg,_,U,lp,us,U,SqL.of (M3.sa _ _ hl3),λlq hlq=>?_⟩;rw[EN];have q4:=a8.new hlq (.lst (us.drop i));refine k _ lq _ (ps.drop i) ((bq.low M3 s3).same q4) ag ?_ (X0.ring I hi);rw[List.map_drop];exact(vi i rw3).same (M3.sa.trans q4)
 |none=>
  refine aU U ?_;refine⟨λY' G'=>∃u,u<μ/\RgP H0 L W o zs st dp lp u Y' G',λY' G' h=>h,?_⟩;refine⟨_,U,lp,us,U,.inl (SqL.of (M3.sa _ _ hl3)),_,U,_,U,dp,_,U,eu.k (k:=.inl (d:Int)) (M3.sa _ _ hd3) Yo,?_⟩;have M4:=bq.side M3 ndp (.dK (bf kvs (.inl (d:Int)) (.int (us.length:Nat))));have s4:=hZ s3 h0d (.dK (bf kvs (.inl (d:Int)) (.int (us.length:Nat))));have hd4:upd G0 dp (.dK (bf kvs (.inl (d:Int)) (.int (us.length:Nat)))) dp=some _:=ag;have hl4:upd G0 dp (.dK (bf kvs (.inl (d:Int)) (.int (us.length:Nat)))) lp=some (.lst us):=by rw[af npd];exact hl3
  have rw4:RWs (upd G0 dp (.dK (bf kvs (.inl (d:Int)) (.int (us.length:Nat))))) us (ps.map rgW):=oB (λb xs h=>by rw[af λz=>by rw[z,hd3]at h;cases h];exact h) rw3;generalize upd G0 dp (.dK (bf kvs (.inl (d:Int)) (.int (us.length:Nat))))=G04 at M4 s4 hd4 hl4 rw4;generalize upd G dp (.dK (bf kvs (.inl (d:Int)) (.int (us.length:Nat))))=G4 at M4 ⊢;have S4:=S.same s4
  obtain⟨w,wo,e,he,ew⟩:∃w,w∉o/\∃e,(wsV W d)[zs d]?=some e/\e.1=(w:Int):=by
   rcases I.al d X0.dl with z|z|⟨w,wo,hw⟩
   .exact Qb z X0.dn
   .cases z
   .exact⟨w,wo,(I.so w wo d hw).2.2.2⟩
  have wl:w<W.length:=by
   obtain⟨j,ej,jl⟩:=S.tg d e (qG he);omega
  have nde:¬ c9 o e:=λ⟨x,ex,hx⟩=>wo (by
   have:x=w:=Yo
   exact this▸hx)
  refine⟨_,U,L.b,L.dx,_,U,bq.sa M4 _ _ S4.ob,lK Yd,_,U,G04,L,W,o,zs,st,d,U,S4,M4,X0.dl,I.zl d,λG5 z M5 z1 z2 z3=>?_⟩
  have ez:z=zs d:=by
   by_cases lt:zs d<z
   .exact Qb (z3 (zs d) e (qg _) lt he) nde
   .omega
  rw[x9 ez]at M5;have dlt:=(qh.mp he).1;refine⟨λz0=>Yo,λe' p he' _ hp=>?_⟩;rw[ez,he]at he';cases he';have hp5:=M5.sa _ _ hp;refine⟨_,U,.inl ⟨U,_,SqL.of (M5.sa _ _ hl4)⟩,_,U,_,U,p,_,_,_,U,U,SqT.of hp5,U,_,U,p,_,_,_,U,U,SqT.of hp5,U,ln3,λpt hpt=>?_⟩;have npt:pt∉L.lo::L.lf::L.lv::L.qs:=λz=>M5.has S.ql z hpt;have g0t:G04 pt=none:=a8.none M5.sa hpt;have M6:=bq.side M5 npt (.tup [.int (d:Int),.str e.2.1,.str e.2.2]);have q6:=a8.new g0t (.tup [.int (d:Int),.str e.2.1,.str e.2.2]);have hpt6:upd G04 pt (.tup [.int (d:Int),.str e.2.1,.str e.2.2]) pt=some (dN (rgW (d,e))):=ag;generalize upd G04 pt (.tup [.int (d:Int),.str e.2.1,.str e.2.2])=G06 at M6 q6 hpt6;generalize upd G5 pt (.tup [.int (d:Int),.str e.2.1,.str e.2.2])=G6 at M6 ⊢;refine⟨lp,us,.ref pt,U,U,bq.sa M6 _ _ (q6 _ _ hl4),Yo,?_⟩;have M7:=bq.side M6 nlp (.lst (us++[.ref pt]));refine⟨_,U,p,_,_,_,U,U,SqT.of (bq.sa M7 _ _ (?_:_=some (dN e))),U,?_⟩
  .rw[af λz=>by rw[z,hl4]at hp;cases hp];exact q6 _ _ hp
  rw[ew];refine⟨μ-1,Yo,ps++[(d,e)],w,_,bf kvs (.inl (d:Int)) (.int (us.length:Nat)),us++[.ref pt],_,U,hZ (s4.trans q6) h0l (.lst (us++[V.ref pt])),?_,ag,?_,M7,X0.snoc he ew wl wo (kn d ev),λj hj p hp=>?_,λj v hj=>?_,?_,?_⟩
  .rw[af npd.symm];exact q6 _ _ hd4
  .rw[qU];refine oB (λb xs h=>?_) ((rw4.same q6).snoc hpt6);rw[af λz=>by rw[z,q6 _ _ hl4]at h;cases h];exact h
  .rw[dF]at hj;split at hj
   .cases hj
   .rename_i ne;rcases qk.mp hp with hp|hp
    .exact kn j hj p hp
    .rw[qY.mp hp];exact λz=>ne (by rw[show d=j from z])
  .rw[dF]at hj;split at hj
   .rename_i ej;cases hj;have ej:=Sum.inl.inj ej;exact⟨us.length,e,U,by rw[usl,qR (qg _),Nat.sub_self,show j=d by omega];rfl⟩
   .obtain⟨i,e',ei,hi⟩:=ks j v hj;exact⟨i,e',ei,by rw[Qc (qh.mp hi).1];exact hi⟩
  .have:=dL kvs (.inl (d:Int)) (.int (us.length:Nat));rw[qc,Qd];omega
  .rw[qc,Qd];omega
theorem Cq(T:Tx P w K mg a):aN P w K mg base CX0 3 a.Gs a.Gu ["waits"] uc:=by
 refine T.IN.ok mZ (λvs H Q E h=>?_) (λcdv A outer s H vs Q E hr h=>?_)
 .obtain⟨_,_,_,rfl,_⟩:=h
  rfl
 obtain⟨lw,us,W,rfl,hw,rl,sm,tg,few,k⟩:=h
 refine⟨_,(ah (aq (i:=1) mZ.nd U Oi (BL T.KN (CU T) (hr.mono Yk) U T.KM T.JH .nil aC (a9 (pq 0) ae)))
  (ah (bL PassesOwn.never U (ic U T.u8 (a9 (aW bK U T.dz Qe (a9 (pq 0) ae)) ae)) (aK (i:=2) mZ.nd U Oi)
  (ak (bw (pG (pq 1) T.f8 T.KO (CT T) (hr.mono Yk) T.JJ .nil aC (a9 (pq 2) ae)))))
  (ah (aM (au aY (aW bK U T.dz Qe (a9 (dU (pq 1) U) ae)) (aW bK U T.dz Qe (a9 (pq 0) ae)) (ax _)) (ak (aA (ba (a9 aO (a9 (dU (pq 1) U) ae))))) aR)
  (ak (aA (ba (a9 aO (a9 (dU (pq 1) U) (a9 (BK (pq 1) T.f8 T.KP (CS T) (hr.mono Yk) T.JM .nil aC) ae))))))))),?_⟩
 have ul:=rl.len;refine⟨_,U,λb dx hb hdx ne=>⟨b,dx,lw,us,U,ag,?_,Yo,λH2 H0 lo lf lv lk qs off h0b h0k ql M=>⟨U,?_⟩⟩⟩
 .rw[af (λe=>by rw[e,hb]at hw;cases hw),af (λe=>by rw[e,hdx]at hw;cases hw)];exact hw
 have s0:a8 H H0:=λc o hc=>off c o (λe=>by rw[e,hb]at hc;cases hc) (by
  rw[af (λe=>by rw[e,hb]at hc;cases hc),af (λe=>by rw[e,hdx]at hc;cases hc)]
  exact hc)
 have S:LkS a H0 ⟨b,dx,lw,lo,lf,lv,lk,qs,us⟩ W:=⟨h0b,h0k,ql.trans ul,s0 _ _ hw,rl.same s0,sm,tg,few⟩;rw[ul]at M;refine⟨_,U,lw,us,U,.inl (SqL.of (M.sa _ _ S.hw)),_,U,Yo,Yo,?_⟩;rw[show((us.length:Nat):Int).toNat=W.length by omega];refine j7 (λi Y G=>∃v o zs st,Y=[some (.ref lw),some (.ref b),v]/\LkH H0 G ⟨b,dx,lw,lo,lf,lv,lk,qs,us⟩ W o zs st/\LkI W i o [] zs st) ⟨_,_,_,_,U,M,LkI.start W⟩ ?_ ?_
 .rintro i Y G hi ⟨v,o,zs,st,rfl,M1,I1⟩;refine⟨_,U,b,dx,_,U,M1.sa _ _ S.ob,lK Yd,_,U,H0,_,W,o,zs,st,i,by rw[Int.zero_add];rfl,S,M1,I1,hi,λG2 o2 zs2 st2 M2 I2=>?_⟩;exact⟨_,_,_,_,U,M2,I2⟩
 .rintro Y G ⟨v,o,zs,st,rfl,M1,I1⟩;refine⟨_,U,b,_,dx,_,_,U,M1.sa _ _ S.ob,T.f8,T.Ch,lJ,lo,_,U,.inl (SqL.of M1.od),_,U,lw,us,U,.inl (SqL.of (M1.sa _ _ S.hw)),U,_,U,?_⟩;rw[ik,ul];by_cases eo:o.length=W.length
  .refine aU (by rw[eo,Q9 U]) ?_;refine⟨_,U,b,_,dx,_,_,U,M1.sa _ _ S.ob,T.f8,T.Ch,lJ,ln2,λp hp=>?_⟩;exact(k _ p lo o zs st ((s0.trans M1.sa).trans (a8.new hp _)) (a8.new hp _ _ _ M1.od) I1).1 eo ag
  .refine ay (Qa λz=>eo (by injection z with z;omega)) ?_;refine⟨_,U,b,_,dx,_,_,U,M1.sa _ _ S.ob,T.f8,T.Ch,lJ,_,U,b,dx,_,U,M1.sa _ _ S.ob,lK Yd,H0,_,W,o,zs,st,U,S,M1,I1,eo,λG2 lp us' ps M2 hlp rp rg=>⟨ln3,λp hp=>?_⟩⟩;exact(k _ p lo o zs st ((s0.trans M2.sa).trans (a8.new hp _)) (a8.new hp _ _ _ M2.od) I1).2 lp us' ps ag (a8.new hp _ _ _ hlp) (rp.same (a8.new hp _)) rg
theorem Cr(T:Tx P w K mg a):aN P w K mg base CX0 4 a.Gq a.Gr ["deeds","stores"] ud:=by
 refine T.IM.ok Au (λvs H Q E h=>?_) (λcdv A outer s H vs Q E hr h=>?_)
 .obtain⟨_,_,_,_,_,_,_,rfl,_⟩:=h
  rfl
 obtain⟨l,ls,us,sv,rs,ss,W,rfl,hl,hrs,hlen,small,hs,rss,sl,pos,rfl,sm,tg,few,k⟩:=h;refine⟨_,(ak (aA (aG (Cq T) (hr.mono Yk) U T.JQ T.IN.kp T.JP .nil aC (a9 (aG (Cj T) (hr.mono Yk) U T.JB T.IE.kp T.JA .nil aC (a9 (pq 0) (a9 (pq 1) ae))) ae)))),?_⟩;refine⟨_,U,_,U,l,ls,us,sv,rs,ss,U,hl,hrs,hlen,small,hs,rss,sl,pos,λH1 lw ws s1 h1 r1=>?_⟩;exact⟨lw,ws,_,U,h1,r1,sm,tg,few,λH' p lo o zs st s2=>k H' p lo o zs st (s1.trans s2)⟩
theorem WkH.same{H0 H H':Hp}{s d0 d1 d2:Addr}{rs:List Row}{o:List Nat}(M:WkH H0 H s d0 d1 d2 rs o)(e:a8 H H'):WkH H0 H' s d0 d1 d2 rs o:=by
 obtain⟨k0,a0,b0⟩:=M.c0;obtain⟨k1,a1,b1⟩:=M.c1;obtain⟨k2,a2,b2⟩:=M.c2;exact⟨e _ _ M.so,⟨k0,e _ _ a0,b0⟩,⟨k1,e _ _ a1,b1⟩,⟨k2,e _ _ a2,b2⟩,M.nd,M.sa.trans e,M.n0,M.n1,M.n2⟩
theorem wb(T:Tx P w K mg a):aN P w K mg base CX0 2 a.HJ a.HK ["_law_deeds","_law_ahead_here","_law_lengths","_law_state","_law_k"] uJ:=by
 refine T.Iw.ok iR (λvs H Q E h=>?_) (λcdv A outer s H vs Q E hr h=>?_)
 .obtain⟨_,_,_,_,_,_,_,_,_,_,_,_,_,_,_,_,rfl,_⟩:=h
  rfl
 obtain⟨H0,l,la,d,s,d0,d1,d2,us,as,rs,kvs,ln,o,i,r,rfl,M,LQ,hr',k⟩:=h
 refine⟨_,(ah (bL PassesOwn.never U (cq (ai ar (ai aE (pq 1) (pq 4) Oy) ac Oy)) (dA U (bC (aK (i:=5) iR.nd U Oi) (bC (aK (i:=6) iR.nd U Oi) dy)))
  (ak (aM (au gb (dW hr.one (ai aE (pq 3) ac Oy) (pq 5) ac ⟨U,U,U,U⟩) (pq 6) (ax _)) (ak (aA aO)) aR)))
  (ah (bL PassesOwn.never U (cq (ai ar (ai aE (pq 1) (pq 4) Oy) ac Oy)) (dA U (bC (aK (i:=5) iR.nd U Oi) (bC (aK (i:=6) iR.nd U Oi) dy)))
  (ak (aM (au gb (dW hr.one (ai aE (pq 3) ac Oy) (pq 5) ac ⟨U,U,U,U⟩) (pq 6) (ax _)) (ak (aA aO)) aR)))
  (ah (aq (i:=7) iR.nd U Oi (ai aE (pq 0) (pq 4) Oy))
  (ah (aM (PW.pt (gc (au fj (ai ar (pq 7) ac Oy) bT (ax _)) (i7 (au aY (dW hr.one (ai aE (pq 3) ac Oy) (ai ar (pq 7) ac Oy) ac ⟨U,U,U,U⟩) ac (ax _))))) (ak (aA aO)) aR)
  (ah (aM (PW.pt (gc (au fj (ai ar (pq 7) ac Oy) bT (ax _)) (i7 (au vx (dW hr.one (ai aE (pq 3) ac Oy) (ai ar (pq 7) ac Oy) ac ⟨U,U,U,U⟩) (jB hr.one (pq 2) (ai ar (pq 7) ac Oy) Oy) (ax _))))) (ak (aA aO)) aR)
  (ak (aA aO))))))),?_⟩
 have il:i<rs.length:=(qh.mp hr').1;have ul:=LQ.rr.len;obtain⟨v,hv,p,l1,l2,u1,u2,rfl,h1,h2,h3,rc1,rc2⟩:=LQ.ra.2 i r il hr';have hat:atI as (i:Int)=some (.ref p):=br hv;obtain⟨kv0,hd0,hc0,kl0⟩:=M.c0;obtain⟨kv1,hd1,st1,kl1⟩:=M.c1;have so:=M.so;have sa:=M.sa;clear M;generalize dnR rs o=R at hc0 st1 k;refine⟨_,U,_,U,la,as,_,_,U,U,SqL.of (sa _ _ LQ.ha),hat,p,_,_,_,U,U,SqT.of (sa _ _ h1),U,l1,U,⟨_,SqL.of (sa _ _ h2)⟩,?_⟩;refine d9 (K:=K) (a:=l1) (xs:=u1) (λj Y G=>G=H/\(∃v5 v6,Y=[some (.ref l),some (.ref la),some (.ref d),some (.ref s),some (.int i),v5,v6,none])/\∀t c,t<j->r.owns[t]?=some c->cnO (rs.take i) c<=cnO R c) ⟨U,⟨_,_,U⟩,λt c h=>Qb h (QE t)⟩ ?_ ?_ ?_
 .rintro j Y G _ ⟨rfl,_⟩;exact SqL.of (sa _ _ h2)
 .rintro j x Y G hx ⟨rfl,⟨v5,v6,rfl⟩,ok⟩;obtain⟨pc,c,rfl,hc,hpc⟩:=rc1.at2 j x hx;refine⟨pc,_,U,SqT.of (sa _ _ hpc),U,_,_,U,_,_,U,U,?_⟩;refine⟨_,U,s,_,_,_,U,U,SqL.of so,U,d0,U,.inl ⟨kv0,.inl hd0⟩,_,U,_,ci.k (k:=.inr c) hd0,_,U,_,_,hc0 c,U,_,U,?_⟩;by_cases lt:cnO R c<cnO (rs.take i) c
  .exact aU (Q9 Yo) (k _ (.card λz=>by have:=z c (.inl (qG hc));omega))
  .refine ay (Qa Yo) ⟨U,⟨_,_,U⟩,λt c' ht h'=>?_⟩;by_cases e:t=j
   .rw[e,hc]at h';cases h';omega
   .exact ok t c' Yo h'
 rintro Y G ⟨rfl,⟨v5,v6,rfl⟩,ok1⟩;refine⟨_,U,_,U,la,as,_,_,U,U,SqL.of (sa _ _ LQ.ha),hat,p,_,_,_,U,U,SqT.of (sa _ _ h1),U,l2,U,⟨_,SqL.of (sa _ _ h3)⟩,?_⟩;refine d9 (K:=K) (a:=l2) (xs:=u2) (λj Y G2=>G2=G/\(∃v5 v6,Y=[some (.ref l),some (.ref la),some (.ref d),some (.ref s),some (.int i),v5,v6,none])/\∀t c,t<j->r.reads[t]?=some c->cnO (rs.take i) c<=cnO R c) ⟨U,⟨_,_,U⟩,λt c h=>Qb h (QE t)⟩ ?_ ?_ ?_
 .rintro j Y G2 _ ⟨rfl,_⟩;exact SqL.of (sa _ _ h3)
 .rintro j x Y G2 hx ⟨rfl,⟨v5,v6,rfl⟩,ok⟩;obtain⟨pc,c,rfl,hc,hpc⟩:=rc2.at2 j x hx;refine⟨pc,_,U,SqT.of (sa _ _ hpc),U,_,_,U,_,_,U,U,?_⟩;refine⟨_,U,s,_,_,_,U,U,SqL.of so,U,d0,U,.inl ⟨kv0,.inl hd0⟩,_,U,_,ci.k (k:=.inr c) hd0,_,U,_,_,hc0 c,U,_,U,?_⟩;by_cases lt:cnO R c<cnO (rs.take i) c
  .exact aU (Q9 Yo) (k _ (.card λz=>by have:=z c (.inr (qG hc));omega))
  .refine ay (Qa Yo) ⟨U,⟨_,_,U⟩,λt c' ht h'=>?_⟩;by_cases e:t=j
   .rw[e,hc]at h';cases h';omega
   .exact ok t c' Yo h'
 rintro Y G2 ⟨rfl,⟨v5,v6,rfl⟩,ok2⟩
 have cok:eA rs R i r:=λc hc=>by
  rcases hc with hc|hc
  .obtain⟨t,ht⟩:=List.mem_iff_getElem?.mp hc;exact ok1 t c (by rw[rc1.len];exact(qh.mp ht).1) ht
  .obtain⟨t,ht⟩:=List.mem_iff_getElem?.mp hc;exact ok2 t c (by rw[rc2.len];exact(qh.mp ht).1) ht
 obtain⟨r2,hr2,px,po,pr,ex,g1,g2,g3⟩:=LQ.rr.at i us[i] (qe Yo);rw[hr']at hr2;cases hr2;have hatr:atI us (i:Int)=some (.ref px):=br (by rw[qe Yo,ex]);have t1:=SqT.of (K:=K) (sa _ _ g1);refine⟨_,U,_,U,l,us,_,_,U,U,SqL.of (sa _ _ LQ.hl),hatr,?_⟩;dsimp only;refine jj (λY' G'=>G'=G2/\Y'=[some (.ref l),some (.ref la),some (.ref d),some (.ref s),some (.int i),v5,v6,some (.ref px)]/\fS R r) ?_ λN go=>?_
 .rintro Y' G' ⟨rfl,rfl,tok⟩
  cases ei:r.into with
  |none=>
   rw[ei]at t1;exact⟨_,U,px,_,_,_,U,U,t1,U,U,_,U,ay U (ay U (k _ (.no cok tok λq z=>by rw[ei]at z;cases z)))⟩
  |some q=>
   rw[ei]at t1;refine⟨_,U,px,_,_,_,U,U,t1,U,U,_,U,aU U ?_⟩
   have hget:ci G' d (.str q) (some (.int (ln q))):=by
    have:=ci.k (k:=.inr q) (sa _ _ LQ.hd);rw[LQ.dl r (qG hr') q ei]at this;exact this
   refine⟨_,U,s,_,_,_,U,U,SqL.of so,U,d1,U,.inl ⟨kv1,.inl hd1⟩,_,U,px,_,_,_,U,U,t1,U,_,ci.k (k:=.inr q) hd1,_,U,_,U,px,_,_,_,U,U,t1,U,d,_,U,hget,_,_,st1 q,U,_,U,?_⟩;by_cases lt:bal R q<ln q
   .exact ay (Qa Yo) (k _ (.no cok tok λq' z=>by rw[ei]at z;cases z;exact lt))
   .exact aU (Q9 Yo) (k _ (.room cok tok λz=>lt (z q ei)))
 .cases eo:r.outof with
  |none=>
   rw[eo]at t1;exact⟨_,U,px,_,_,_,U,U,t1,U,U,_,U,ay U (ay U (go _ _ ⟨U,U,λq z=>by rw[eo]at z;cases z⟩))⟩
  |some q=>
   rw[eo]at t1;refine⟨_,U,px,_,_,_,U,U,t1,U,U,_,U,aU U ?_⟩;refine⟨_,U,s,_,_,_,U,U,SqL.of so,U,d1,U,.inl ⟨kv1,.inl hd1⟩,_,U,px,_,_,_,U,U,t1,U,_,ci.k (k:=.inr q) hd1,?_⟩;rw[st1 q];by_cases z:bal R q=0
   .exact⟨U,_,U,aU (Q9 (by rw[z])) (k _ (.thing cok λy=>y q eo z))⟩
   .exact⟨U,_,U,ifN (λy=>z (V.int.inj y)) (go _ _ ⟨U,U,λq' y=>by rw[eo]at y;cases y;exact z⟩)⟩
theorem Ex{rs:List Row}(o:List Nat){k:Nat}{r:Row}(h:rs[k]?=some r):dnR rs (o++[k])=dnR rs o++[r]:=by
 unfold dnR;rw[List.filterMap_append];simp[h]
theorem CO(T:Tx P w K mg a):aN P w K mg base CX0 2 a.HL a.HM ["_law_deeds","_law_state","_law_k"] uK:=by
 refine T.Jm.ok n9 (λvs H Q E h=>?_) (λcdv A outer s H vs Q E hr h=>?_)
 .obtain⟨_,_,_,_,_,_,_,_,_,_,_,rfl,_⟩:=h
  rfl
 obtain⟨H0,l,s,d0,d1,d2,us,rs,o,i,r,rfl,M,hl,hrs,hr',hlen,small,k⟩:=h
 refine⟨_,(ah (aq (i:=3) n9.nd U Oi (ai aE (pq 0) (pq 2) Oy))
  (ah (bL PassesOwn.never U (ie (ai ar (pq 3) ac Oy)) (aK (i:=4) n9.nd U Oi)
  (ak (fK (hr.one) (ai aE (pq 1) ac Oy) (pq 4) (ao bu (dW hr.one (ai aE (pq 1) ac Oy) (pq 4) ac ⟨U,U,U,U⟩) ac) U)))
  (ah (aM (au fj (ai ar (pq 3) ac Oy) bT (ax _)) (ak (fK (hr.one) (ai aE (pq 1) ac Oy) (ai ar (pq 3) ac Oy) (ao bu (dW hr.one (ai aE (pq 1) ac Oy) (ai ar (pq 3) ac Oy) ac ⟨U,U,U,U⟩) ac) U)) aR)
  (ah (aM (au fj (ai ar (pq 3) ac Oy) bT (ax _)) (ak (fK (hr.one) (ai aE (pq 1) ac Oy) (ai ar (pq 3) ac Oy) (ao iV (dW hr.one (ai aE (pq 1) ac Oy) (ai ar (pq 3) ac Oy) ac ⟨U,U,U,U⟩) ac) U)) aR)
  (ak (fK (hr.one) (ai aE (pq 1) ac Oy) (pq 2) dB U)))))),?_⟩
 have il:i<rs.length:=(qh.mp hr').1;have ul:=hrs.len;have ol:(o++[i]).length=o.length+1:=qc;have big:(5000000:Nat)<sizeLine:=Yk;obtain⟨kv0,hd0,hc0,kl0⟩:=M.c0;obtain⟨kv1,hd1,st1,kl1⟩:=M.c1;obtain⟨kv2,hd2,fr2,kl2⟩:=M.c2;obtain⟨n01,n02,n12⟩:=M.nd;obtain⟨r2,hr2,px,po,pr,ex,g1,g2,g3⟩:=hrs.at i us[i] (qe Yo);rw[hr']at hr2;cases hr2;have sm:=(small r (qG hr')).1;have hatr:atI us (i:Int)=some (.ref px):=br (by rw[qe Yo,ex]);refine⟨_,U,_,U,l,us,_,_,U,U,SqL.of (M.sa _ _ hl),hatr,?_⟩;have tk:=Ex o hr';have ns:∀{c:Addr}{kv:List (Key×V)},H c=some (.dK kv)->s≠c:=λh z=>by have:=M.so;rw[z,h]at this;cases this
 refine⟨_,U,px,_,_,_,U,U,SqT.of (M.sa _ _ g1),U,po,U,⟨_,SqT.of (M.sa _ _ g2)⟩,?_⟩;have p0:po≠d0:=λz=>by rw[z,M.n0]at g2;cases g2
 refine rQ (K:=K) (a:=po) (xs:=r.owns.map V.str) (λj Y G=>∃v4 kv,Y=[some (.ref l),some (.ref s),some (.int i),some (.ref px),v4]/\(∀c,c≠d0->G c=H c)/\G d0=some (.dK kv)/\kv.length<=4000 * o.length+j/\∀c:Str,(aJ kv (.inr c)).getD (.int 0)=.int ((cnO (dnR rs o) c+(r.owns.take j).count c:Nat):Int)) ⟨_,kv0,U,λ_ _=>U,hd0,kl0,λc=>hc0 c⟩ ?_ ?_ ?_
 .rintro j Y G _ ⟨v,kv,_,e6,_⟩;exact SqT.of ((e6 po p0).trans (M.sa _ _ g2))
 .rintro j x Y G hx ⟨v,kv,rfl,e6,hd6,kl6,hc6⟩;rw[qK]at hx;obtain⟨c,hc,rfl⟩:=qV.mp hx;have jl:j<r.owns.length:=(qh.mp hc).1;have so6:G s=some (.lst [.ref d0,.ref d1,.ref d2]):=(e6 s (ns hd0)).trans M.so;refine⟨_,U,s,_,_,_,U,U,SqL.of so6,U,d0,U,.inl ⟨kv,.inl hd6⟩,_,U,_,ci.k (k:=.inr c) hd6,_,_,hc6 c,U,?_⟩;refine⟨_,U,s,_,_,_,U,U,SqL.of so6,U,_,U,d0,_,U,eu.k (k:=.inr c) hd6 Yo,?_⟩;refine⟨_,_,U,λc' h=>by rw[af h];exact e6 c' h,ag,qF (dL _ _ _) Yo,λc'=>?_⟩;rw[dF,qy,hc,List.count_append];by_cases e:c'=c
  .subst e;simp;omega
  .have e1:¬ (Sum.inr c':Key)=Sum.inr c:=λz=>e (Sum.inr.inj z);rw[Q7 e1,hc6 c']
   have:(some c).toList.count c'=0:=by
    show[c].count c'=0;rw[List.count_singleton];simp[Ne.symm e]
   rw[this]
   rfl
 rintro Y G ⟨v4,kv,rfl,e6,hd6,kl6,hc6⟩;rw[qa]at kl6 hc6;rw[qN]at hc6;have t1:=SqT.of (K:=K) ((e6 px (λz=>by rw[z,M.n0]at g1;cases g1)).trans (M.sa _ _ g1));have so6:G s=some (.lst [.ref d0,.ref d1,.ref d2]):=(e6 s (ns hd0)).trans M.so;have hd61:G d1=some (.dK kv1):=(e6 d1 n01.symm).trans hd1;have hd62:G d2=some (.dK kv2):=(e6 d2 n02.symm).trans hd2;have sa6:a8 H0 G:=λc o h=>(e6 c (λz=>by rw[z,M.n0]at h;cases h)).trans (M.sa c o h);have c0':sQ kv (dnR rs (o++[i])):=λc=>by rw[tk,si];exact hc6 c
 clear e6 hc6 hc0 hd0 hd1 hd2
 have last:∀(G2:Hp)(kv1':List (Key×V))(v4:Option V),G2 s=some (.lst [.ref d0,.ref d1,.ref d2])->G2 d0=some (.dK kv)->G2 d1=some (.dK kv1')->G2 d2=some (.dK kv2)->a8 H0 G2->k7 kv1' (dnR rs (o++[i]))->kv1'.length<=2 * (o++[i]).length->Q .non (upd G2 d2 (.dK (bf kv2 (.inl (i:Int)) (.bl true)))):=λG2 kv1' v4 h1 h2 h3 h4 h5 h6 h7=>by
  have n2s:s≠d2:=λz=>by rw[z,h4]at h1;cases h1
  refine k _ ⟨by rw[af n2s];exact h1,⟨kv,by rw[af n02];exact h2,c0',by rw[ol];omega⟩,⟨kv1',by rw[af n12];exact h3,h6,h7⟩,⟨_,ag,λj=>?_,qF (dL _ _ _) (by rw[ol];omega)⟩,M.nd,λc o h=>?_,M.n0,M.n1,M.n2⟩
  .rw[dF];by_cases e:j=i
   .rw[Q8 (by rw[e]),e,Q9 (qO _ (qY.mpr U))]
    rfl
   .rw[Q7 (λz=>e (by have:=Sum.inl.inj z;omega)),fr2 j];exact decide_eq_decide.mpr ⟨λh=>Q3 _ h,λh=>(qk.mp h).resolve_right λz=>e (qY.mp z)⟩
  .rw[af (λz=>by rw[z,M.n2]at h;cases h)];exact h5 c o h
 have kl1':kv1.length<sizeLine:=Yo;have kl2':kv2.length<sizeLine:=Yo;have ps0:∀{G2:Hp},(∀c,c≠d1->G2 c=G c)->G2 s=some (.lst [.ref d0,.ref d1,.ref d2])/\G2 d0=some (.dK kv)/\G2 d2=some (.dK kv2)/\a8 H0 G2/\G2 px=G px:=λh=>⟨(h s (λz=>by rw[z,hd61]at so6;cases so6)).trans so6,(h d0 n01).trans hd6,(h d2 n12.symm).trans hd62,λc o e=>(h c (λz=>by rw[z,M.n1]at e;cases e)).trans (sa6 c o e),h px (λz=>by rw[z,M.n1]at g1;cases g1)⟩;dsimp only[kz];refine jj (λY G2=>∃kva,Y=[some (.ref l),some (.ref s),some (.int i),some (.ref px),v4]/\(∀c,c≠d1->G2 c=G c)/\G2 d1=some (.dK kva)/\kva.length<=kv1.length+1/\∀q:Str,(aJ kva (.inr q)).getD (.int 0)=.int (bal (dnR rs o) q+(if r.into=some q then 1 else 0))) ?_ λN go=>?_
 .rintro Y G2 ⟨kva,rfl,e2,h2,kl3,hva⟩;obtain⟨so2,hk0,hk2,sa2,epx⟩:=ps0 e2;have t2:SqT K G2 px _:=SqT.of (epx.trans (sa6 _ _ g1));refine jj (λY G3=>∃kvb,Y=[some (.ref l),some (.ref s),some (.int i),some (.ref px),v4]/\(∀c,c≠d1->G3 c=G c)/\G3 d1=some (.dK kvb)/\kvb.length<=kv1.length+2/\k7 kvb (dnR rs (o++[i]))) ?_ λN go=>?_
  .rintro Y G3 ⟨kvb,rfl,e3,h3,kl4,hvb⟩;obtain⟨so3,hk03,hk23,sa3,_⟩:=ps0 e3;exact⟨_,U,s,_,_,_,U,U,SqL.of so3,U,_,U,d2,_,U,eu.k (k:=.inl (i:Int)) hk23 kl2',last G3 kvb v4 so3 hk03 h3 hk23 sa3 hvb (by rw[ol];omega)⟩
  .have fin2:∀q:Str,bal (dnR rs (o++[i])) q=bal (dnR rs o) q+(if r.into=some q then 1 else 0)-(if r.outof=some q then 1 else 0):=λq=>by rw[tk,fu]
   cases eo:r.outof with
   |none=>
    rw[eo]at t2 fin2;refine⟨_,U,px,_,_,_,U,U,t2,U,U,_,U,ay U (go _ _ ⟨kva,U,e2,h2,Yo,λq=>?_⟩)⟩;rw[hva q,fin2 q];simp
   |some q=>
    rw[eo]at t2 fin2;refine⟨_,U,px,_,_,_,U,U,t2,U,U,_,U,aU U ?_⟩;refine⟨_,U,s,_,_,_,U,U,SqL.of so2,U,d1,U,.inl ⟨kva,.inl h2⟩,_,U,px,_,_,_,U,U,t2,U,_,ci.k (k:=.inr q) h2,_,_,hva q,U,?_⟩;refine⟨_,U,s,_,_,_,U,U,SqL.of so2,U,_,U,px,_,_,_,U,U,t2,U,d1,_,U,eu.k (k:=.inr q) h2 Yo,?_⟩;refine go _ _ ⟨_,U,λc h=>by rw[af h];exact e2 c h,ag,qF (dL _ _ _) Yo,λq'=>?_⟩;rw[dF,fin2 q'];by_cases e:q'=q
    .subst e;simp
    .have e1:¬ (Sum.inr q':Key)=Sum.inr q:=λz=>e (Sum.inr.inj z);have e3:¬ (some q=some q'):=λz=>e (qP z).symm;rw[Q7 e1,hva q',Q7 e3];simp
 .cases ei:r.into with
  |none=>
   rw[ei]at t1;refine⟨_,U,px,_,_,_,U,U,t1,U,U,_,U,ay U (go _ _ ⟨kv1,U,λ_ _=>U,hd61,Yo,λq=>?_⟩)⟩;rw[st1 q,ei];simp
  |some q=>
   rw[ei]at t1;refine⟨_,U,px,_,_,_,U,U,t1,U,U,_,U,aU U ?_⟩;refine⟨_,U,s,_,_,_,U,U,SqL.of so6,U,d1,U,.inl ⟨kv1,.inl hd61⟩,_,U,px,_,_,_,U,U,t1,U,_,ci.k (k:=.inr q) hd61,_,_,st1 q,U,?_⟩;refine⟨_,U,s,_,_,_,U,U,SqL.of so6,U,_,U,px,_,_,_,U,U,t1,U,d1,_,U,eu.k (k:=.inr q) hd61 kl1',?_⟩;refine go _ _ ⟨_,U,λc h=>by rw[af h],ag,dL _ _ _,λq'=>?_⟩;rw[dF,ei];by_cases e:q'=q
   .subst e;simp
   .have e1:¬ (Sum.inr q':Key)=Sum.inr q:=λz=>e (Sum.inr.inj z);have e3:¬ (some q=some q'):=λz=>e (qP z).symm;rw[Q7 e1,st1 q',Q7 e3];simp
theorem CA(T:Tx P w K mg a):aN P w K mg base CX0 3 a.HN a.HP ["_law_deeds","_law_ahead_here","_law_lengths","_law_order"] ur:=by
 refine T.Jn.ok n5 (λvs H Q E h=>?_) (λcdv A outer s H vs Q E hr h=>?_)
 .obtain⟨_,_,_,_,_,_,_,_,_,_,rfl,_⟩:=h
  rfl
 obtain⟨l,la,d,lo,us,as,rs,kvs,ln,o,rfl,LQ,ho,nd,ol,ok,k⟩:=h
 refine⟨_,(ah (aq (i:=4) n5.nd U Oi (aT (a9 gi (a9 gi (a9 gi ae)))))
  (ah (aM (eJ (eI (aW fI U T.om PyProof.Rows.Boot.«isinstance» (a9 (pq 3) (a9 (fN (v:=.ty "list") U T.wS PyProof.Rows.Boot.«list» rfl) ae))))) (ak (aA bT)) aR)
  (ah (bL PassesOwn.never U (cq (pq 3)) (aK (i:=5) n5.nd U Oi)
  (ah (aM (PW.pt (d6 (eJ (eI (aG (w5 T) (hr.mono Yk) U T.J5 T.Ir.kp T.J4 .nil aC (a9 (pq 5) ae)))) (d6 (eJ (ph iW gb ac (pq 5) (aW bK U T.dz Qe (a9 (pq 0) ae)))) (fJ (au lg (pq 5) (ai aE (pq 4) ac Oy) (by with_unfolding_all rfl)))))) (ak (aA bT)) aR)
  (ah (aM (au i5 (aG (wb T) (hr.mono Yk) U T.Jl T.Iw.kp T.Jk .nil aC (a9 (pq 0) (a9 (pq 1) (a9 (pq 2) (a9 (pq 4) (a9 (pq 5) ae)))))) aO (ax _)) (ak (aA bT)) aR)
  (ak (bw (aG (CO T) (hr.mono Yk) U T.Ko T.Jm.kp T.Kn .nil aC (a9 (pq 0) (a9 (pq 4) (a9 (pq 5) ae)))))))))
  (ak (aA (pq 4)))))),?_⟩
 have ul:=LQ.rr.len;refine λd0 z0=>λd1 z1=>λd2 z2=>⟨ln3,λs hs=>?_⟩;have n01:d1≠d0:=λz=>by rw[z,ag]at z1;cases z1
 have n12:d2≠d1:=λz=>by rw[z,ag]at z2;cases z2
 have n02:d2≠d0:=λz=>by rw[z,af n01.symm,ag]at z2;cases z2
 have q0:=a8.new z0 (.dK []);have q1:=a8.new z1 (.dK []);have q2:=a8.new z2 (.dK []);have q3:=a8.new hs (.lst [.ref d0,.ref d1,.ref d2])
 have M0:WkH H (upd (upd (upd (upd H d0 (.dK [])) d1 (.dK [])) d2 (.dK [])) s (.lst [.ref d0,.ref d1,.ref d2])) s d0 d1 d2 rs []:=
  ⟨ag,⟨[],(q1.trans (q2.trans q3)) _ _ ag,λc=>U,qg _⟩,⟨[],(q2.trans q3) _ _ ag,λc=>U,qg _⟩,⟨[],q3 _ _ ag,λj=>U,qg _⟩,⟨n01.symm,n02.symm,n12.symm⟩,(q0.trans q1).trans (q2.trans q3),z0,jG z1,jG (jG z2)⟩
 generalize upd (upd (upd (upd H d0 (.dK [])) d1 (.dK [])) d2 (.dK [])) s (.lst [.ref d0,.ref d1,.ref d2])=H1 at M0 ⊢;refine⟨_,U,_,_,_,true,U,.lst (M0.sa _ _ ho),U,_,U,ay U ?_⟩;refine⟨_,U,lo,U,⟨_,SqL.of (M0.sa _ _ ho)⟩,?_⟩;refine d9 (K:=K) (a:=lo) (xs:=bD o) (λi Y G=>∃v5,Y=[some (.ref l),some (.ref la),some (.ref d),some (.ref lo),some (.ref s),v5]/\WkH H G s d0 d1 d2 rs (o.take i)) ⟨_,U,M0⟩ ?_ ?_ ?_
 .rintro i Y G _ ⟨_,_,M⟩;exact SqL.of (M.sa _ _ ho)
 .rintro i x Y G hx ⟨v5,rfl,M⟩;unfold bD at hx;rw[qK]at hx;obtain⟨j,hj,rfl⟩:=qV.mp hx;obtain⟨r,hr',ok1,ok2,ok3⟩:=ok i j hj;have jl:=(qh.mp hr').1;have il:=(qh.mp hj).1
  have new:j∉o.take i:=λz=>by
   obtain⟨t,ht⟩:=List.mem_iff_getElem?.mp z;rw[List.getElem?_take]at ht;split at ht
   .rename_i lt;have:=(List.getElem?_inj il nd).mp (hj.trans ht.symm);omega
   .cases ht
  obtain⟨kv2,hd2,fr2,kl2⟩:=M.c2;refine⟨_,U,(j:Int),U,_,U,ay U ?_⟩;refine⟨_,U,_,_,U,U,_,U,aU (Q9 Yo) ⟨_,U,l,us,U,.inl (SqL.of (M.sa _ _ LQ.hl)),_,_,U,U,_,U,ay (by rw[Q9 Yo];rfl) ?_⟩⟩;refine⟨_,U,_,U,s,_,_,_,U,U,SqL.of M.so,U,d2,kv2,.inl (j:Int),U,hd2,U,_,U,ay (by rw[fr2 j,Qa new]) ?_⟩;refine⟨_,U,_,U,_,U,_,U,_,U,H,l,la,d,s,d0,d1,d2,us,as,rs,kvs,ln,_,j,r,U,M,LQ,hr',λz hz=>?_⟩
  have ez:z=("":Str):=by
   cases hz with
   |card h=>exact Qb ok1 h
   |thing _ h=>exact Qb ok2 h
   |room _ _ h=>exact Qb ok3 h
   |no=>rfl
  subst ez;refine⟨U,_,U,ay Yd ?_⟩;refine⟨_,U,_,U,_,U,H,l,s,d0,d1,d2,us,rs,o.take i,j,r,U,M,LQ.hl,LQ.rr,hr',by rw[qQ];omega,LQ.sm,λG2 M2=>⟨_,U,?_⟩⟩;rw[qy,hj];exact M2
 .rintro Y G ⟨v5,rfl,M⟩;rw[ik,qN]at M;exact⟨_,U,k G s d0 d1 d2 M⟩
theorem m7{b ds:List aa}(h:∀e∈aj b,e∈aj ds):∀c∈cards b,c∈cards ds:=λc hc=>by
 unfold cards at *;obtain⟨d,hd,h'⟩:=List.mem_flatMap.mp hc;exact List.mem_flatMap.mpr ⟨d,h d hd,h'⟩
mutual
theorem Ei:∀(d e:aa),e∈d.flat->∀x∈e.flat,x∈d.flat
 |.set x a sg b,e,h=>by simp[aa.flat]at h;subst h;simp[aa.flat]
 |.put q x,e,h=>by simp[aa.flat]at h;subst h;simp[aa.flat]
 |.get q x,e,h=>by simp[aa.flat]at h;subst h;simp[aa.flat]
 |.give x,e,h=>by simp[aa.flat]at h;subst h;simp[aa.flat]
 |.cond x t o,e,h=>by
  rw[aa.flat,qA,qk]at h;rcases h with rfl|h|h
  .exact λx h=>h
  .intro y hy;rw[aa.flat,qA,qk];exact .inr (.inl (iu t e h y hy))
  .intro y hy;rw[aa.flat,qA,qk];exact .inr (.inr (iu o e h y hy))
 |.whl x b,e,h=>by
  rw[aa.flat,qA]at h;rcases h with rfl|h
  .exact λx h=>h
  .intro y hy;rw[aa.flat,qA];exact .inr (iu b e h y hy)
 |.rep n b,e,h=>by
  rw[aa.flat,qA]at h;rcases h with rfl|h
  .exact λx h=>h
  .intro y hy;rw[aa.flat,qA];exact .inr (iu b e h y hy)
theorem iu:∀(ds:List aa)(e:aa),e∈aj ds->∀x∈e.flat,x∈aj ds
 |[],e,h=>by simp[aj]at h
 |d::r,e,h=>by
  rw[aj,qk]at h;intro y hy;rw[aj,qk];rcases h with h|h
  .exact .inl (Ei d e h y hy)
  .exact .inr (iu r e h y hy)
end
theorem xY{ds:List aa}{e:aa}(h:e∈aj ds):∀c∈cards [e],c∈cards ds:=m7 λx hx=>by
 rw[aj,aj,qE]at hx;exact iu ds e h x hx
def yj(rooms:List Str)(d:aa):Prop:=∀q x,d=.put q x->q∈rooms
theorem zZ(n:Int)(names rooms:List Str)(shut:Bool):yj rooms (bG n names rooms shut):=λq x z=>by
 unfold bG at z;split at z
 .cases z
 .split at z
  .rename_i c;split at z
   .cases z
   .injection z with z1 z2;rw[<- z1];exact ii c.2.1 _
  .cases z
theorem Fj{names rooms:List Str}{most low:Int}(h1:1<=most)(h98:most<=98)(cells:List Int):∀q x,.put q x∈aj (dE names rooms most low cells)->q∈rooms:=λq x h=>
 m9 (Pd:=yj rooms) ⟨λ_ _ _ q x z=>(by cases z),λ_ _ q x z=>(by cases z),λn b _ _ q x z=>(by cases z)⟩ (λk s=>zZ _ _ _ _) h1 h98 cells _ h q x U
theorem hJ(l:List Str):(srt l).Nodup:=by
 unfold srt;split
 .rename_i h;exact(Classical.choose_spec h).1
 .exact List.nodup_nil
def dh(x:Str):Prop:=∀c∈x.cps.toList,c≠60
theorem dh.app{x y:Str}(h1:dh x)(h2:dh y):dh (x++y):=λc hc=>by
 rw[show(x++y).cps.toList=x.cps.toList++y.cps.toList from hU x y,qk]at hc;exact hc.elim (h1 c) (h2 c)
theorem dh.slice{x:Str}(h:dh x)(a b:Option Int):dh (Txt.slice x a b):=λc hc=>by
 rw[show(Txt.slice x a b).cps.toList=_ from mU x a b]at hc;exact h c (List.mem_of_mem_drop (List.mem_of_mem_take hc))
theorem sI(j:Int):dh (sgn (bZ j)):=λd hd=>by
 simp[sgn]at hd;subst hd;unfold bZ;have all:∀c∈cP.cps.toList,c≠60:=Yd;rw[qp]
 cases e:cP.cps.toList[j.toNat]? with
 |none=>decide
 |some c=>exact all c (qG e)
theorem pY(n:Int):∀k,dh (cE n k)
 |0=>λc hc=>by simp[cE]at hc;exact Qb hc (by decide +kernel +revert)
 |k+1=>by rw[cE];exact(pY n k).app (sI _)
theorem vL(c:Int)(n:Nat):∀w∈d7 c n,dh w:=by
 have up:∀w∈du c n,dh w:=λw hw=>by
  unfold du at hw;obtain⟨k,_,rfl⟩:=List.mem_map.mp hw
  have wd:dh (bW c k):=by
   have b:dh (bS c):=by unfold bS;exact pY _ _
   have s:dh (eP c k):=sI _;unfold bW;split
   .exact((b.slice _ _).app s).app (b.slice _ _)
   .split
    .exact b.slice _ _
    .exact(s.app (pY _ _)).slice _ _
  unfold cM;split
  .exact(wd.slice _ _).app (sI _)
  .exact wd
 unfold d7;split
 .intro w hw;exact up w (List.mem_reverse.mp hw)
 .exact up
def yq(names:List Str)(d:aa):Prop:=∀q x,d=.get q x->x∈names
theorem A8(n:Int){names:List Str}(h:0<names.length)(rooms:List Str)(shut:Bool):yq names (bG n names rooms shut):=λq x z=>by
 unfold bG at z;split at z
 .cases z
 .split at z
  .split at z
   .injection z with z1 z2;rw[<- z2];exact ii h _
   .cases z
  .cases z
theorem Fm{names rooms:List Str}{most low:Int}(h:0<names.length)(h1:1<=most)(h98:most<=98)(cells:List Int):∀q x,.get q x∈aj (dE names rooms most low cells)->x∈names:=λq x hm=>
 m9 (Pd:=yq names) ⟨λ_ _ _ q x z=>(by cases z),λ_ _ q x z=>(by cases z),λn b _ _ q x z=>(by cases z)⟩ (λk s=>A8 _ h _ _) h1 h98 cells _ hm q x U
theorem AM(e:aa)(h:∀q x,e=.get q x->dh x):(aL e).owns.Nodup:=by
 cases e with
 |set x a sg b=>exact Qx _ _
 |put q x=>exact Qx _ _
 |give x=>exact Qx _ _
 |get q x=>
  show(eN [x,q++("<":Str)]).Nodup
  have nx:x≠q++("<":Str):=λz=>by
   have:=h q x U 60;rw[z,show(q++("<":Str)).cps.toList=sl q++sl ("<":Str)from hU _ _]at this;exact this (qO _ Yd) U
  unfold eN;split
  .rename_i h;exact(Classical.choose_spec h).1.nodup_iff.mpr (by simp[nx])
  .exact List.nodup_nil
 |cond x t o=>exact hJ _
 |whl x b=>exact hJ _
 |rep n b=>exact hJ _
theorem sO{H H':Hp}{us:List V}{rs:List Row}{n:Nat}(s:a8 H H')(h:RAs H us rs n):RAs H' us rs n:=⟨h.1,λi r hi hr=>by
 obtain⟨v,hv,p,l1,l2,u1,u2,e,h1,h2,h3,r1,r2⟩:=h.2 i r hi hr
 exact⟨v,hv,p,l1,l2,u1,u2,e,s _ _ h1,s _ _ h2,s _ _ h3,r1.keep λc xs h=>s _ _ h,r2.keep λc xs h=>s _ _ h⟩⟩
theorem hG.same{H H':Hp}{l la d:Addr}{us as:List V}{rs:List Row}{kvs:List (Key×V)}{ln:Str->Int}(s:a8 H H')(h:hG H l la d us as rs kvs ln):hG H' l la d us as rs kvs ln:=⟨s _ _ h.hl,h.rr.same s,s _ _ h.ha,sO s h.ra,s _ _ h.hd,h.few,h.sm,h.dl⟩
theorem CF(T:Tx P w K mg a):aN P w K mg base CX0 4 a.HZ a.I0 ["_law_deeds","_law_ahead_here","_law_lengths","_law_state","_law_ring"] uw:=by
 refine T.Jt.ok fX (λvs H Q E h=>?_) (λcdv A outer s H vs Q E hr h=>?_)
 .obtain⟨_,_,_,_,_,_,_,_,_,_,_,_,_,_,_,_,_,rfl,_⟩:=h
  rfl
 obtain⟨H0,l,la,d,s,d0,d1,d2,lr,us,as,ru,rs,kvs,ln,o,ps,rfl,M,LQ,hlr,rw',nd,is,nx,rm,k⟩:=h
 refine⟨_,(ah (aM (PW.pt (d6 (eJ (eI (aW fI U T.om PyProof.Rows.Boot.«isinstance» (a9 (pq 4) (a9 (fN (v:=.ty "list") U T.wS PyProof.Rows.Boot.«list» rfl) ae))))) (fJ (au fH (aW bK U T.dz Qe (a9 (fL (k:=1) (Nc:=["_law_one","_law_deeds"]) (js:=[0]) (show bE (aI kQ) ["_law_deeds","_law_ahead_here","_law_lengths","_law_state","_law_ring","_law_numbers","_law_seen","_law_rooms","_law_k","_law_at","_law_kind","_law_name"] _ 1 ["_law_one","_law_deeds"] [0]from bE.mk U (by decide +kernel) (by decide +kernel) (by decide +kernel) U (by decide +kernel)) U (cq (pq 4)) (λ_ _ _ _ _=>(aK (i:=0) (show List.Nodup (["_law_one","_law_deeds"]:List Str)from by decide +kernel) U Oi)) (λ_ _ _ _ _=>(iZ (eJ (eI (aG (CI T) (hr.mono Yk) U T.Kw T.Js.kp T.Kv .nil aC (a9 (pq 0) (a9 (aW (Bg (K:=K) U) U T.dz Qe (a9 (pq 1) ae)) ae))))))) (λ_ _ _ _ _=>(pq 0))) ae)) ac (ax _))))) (ak (aA dB)) aR)
  (ah (aq (i:=5) fX.nd U Oi (aG (CK T) (hr.mono Yk) U T.Ks T.Jo.kp T.Kr .nil aC (a9 (pq 0) ae)))
  (ah (aq (i:=6) fX.nd U Oi gi)
  (ah (aq (i:=7) fX.nd U Oi ac)
  (ah (bL PassesOwn.never U (ic U T.u8 (a9 (aW bK U T.dz Qe (a9 (pq 4) ae)) ae)) (aK (i:=8) fX.nd U Oi)
  (ah (gK (ai aE (pq 4) (pq 8) Oy) (dA U (bC (aK (i:=9) fX.nd U Oi) (bC (aK (i:=10) fX.nd U Oi) (bC (aK (i:=11) fX.nd U Oi) dy)))))
  (ah (aM (PW.pt (d6 (au lg (pq 9) (pq 6) (by with_unfolding_all rfl)) (fJ (au lg (pq 9) (ai aE (pq 3) ac Oy) (by with_unfolding_all rfl))))) (ak (aA dB)) aR)
  (ah (fK (hr.one) (pq 6) (pq 9) dB U)
  (ah (aM (eJ (eI (aG (CM T) (hr.mono Yk) U T.Ku T.Jr.kp T.Kt .nil aC (a9 (pq 0) (a9 (pq 1) (a9 (pq 5) (a9 (pq 2) (a9 (pq 9) (a9 (ba (a9 (ai ar (ai aE (pq 4) (ao be (ao bu (pq 8) ac) (aW bK U T.dz Qe (a9 (pq 4) ae))) Oy) ac Oy) (a9 (pq 10) (a9 (pq 11) ae)))) ae))))))))) (ak (aA dB)) aR)
  (ak (aM (au aY (pq 10) aO (ax _)) (ah (Bu (i:=7) fX.nd U Oi ac DV)
  (ak (aM (au i5 (aG (wb T) (hr.mono Yk) U T.Jl T.Iw.kp T.Jk .nil aC (a9 (pq 0) (a9 (pq 1) (a9 (pq 2) (a9 (pq 3) (a9 (pq 9) ae)))))) aO (ax _)) (ak (aA dB)) aR))) aR)))))))
  (ak (aA (fq fH (pq 7) ac (ax _))))))))),?_⟩
 have ul:=LQ.rr.len;have rl:=rw'.len;rw[qa]at rl
 have psl:ps.length<=rs.length:=by
  have:=gO nd (n:=rs.length) λx hx=>by
   obtain⟨p,hp,rfl⟩:=List.mem_map.mp hx;obtain⟨_,r,hr',_⟩:=is p hp;exact(qh.mp hr').1
  rwa [qa]at this
 have few:=LQ.few;have big:(10000:Nat)<sizeLine:=Yk;refine⟨_,U,_,_,_,true,U,.lst (M.sa _ _ hlr),U,_,U,ay U ?_⟩;refine⟨_,U,lr,U,⟨_,SqL.of (M.sa _ _ hlr)⟩,?_⟩;refine m6 (K:=K) (a:=lr) (xs:=ru) (λj ys Y G=>(∃v0,Y=[v0,some (.ref l)])/\G=H/\ys=[]) ⟨⟨_,U⟩,U,U⟩ ?_ (bg (m:=1000) Yo) ?_ ?_ ?_
 .rintro j ys Y G _ ⟨_,_,rfl⟩;exact qz _
 .rintro j ys Y G ⟨_,rfl,_⟩;exact SqL.of (M.sa _ _ hlr)
 .rintro j x ys Y G hx ⟨⟨v0,rfl⟩,rfl,rfl⟩;have jl:=(qh.mp hx).1;have hp:ps[j]?=some (ps[j]' Yo):=qe _;generalize ps[j]' Yo=p at hp;obtain⟨pt,h1,h2⟩:=k9 rw' (i:=j) (e:=rgW p) (by rw[qK,hp];rfl);rw[hx]at h1;cases h1;obtain⟨_,r,hr',_⟩:=is p (qG hp);have pl:=(qh.mp hr').1;exact⟨_,U,_,U,l,us,U,.inl (SqL.of (M.sa _ _ LQ.hl)),pt,p.1,p.2.2.1,p.2.2.2,us.length,U,M.sa _ _ h2,Yo,_,U,ay U ⟨⟨_,U⟩,U,U⟩⟩
 rintro ys Y G ⟨_,rfl,rfl⟩ lx hlx;have M1:=M.same (a8.new hlx (.lst []));refine⟨lx,_,U,.inl (SqL.of ag),_,_,U,U,_,U,ay Yk ?_⟩;generalize upd G lx (.lst [])=H1 at M1 ⊢;refine⟨_,U,l,us,rs,U,M1.sa _ _ LQ.hl,LQ.rr.same M1.sa,LQ.few,λH2 lnn s2 _ hn=>?_⟩;have M2:=M1.same s2;refine λds hds=>?_;have q3:=a8.new hds (.dK []);have hd3:upd H2 ds (.dK []) ds=some (.dK []):=ag;generalize upd H2 ds (.dK [])=H3 at q3 hd3 ⊢;refine⟨_,U,lr,ru,U,.inl (SqL.of (q3 _ _ (M2.sa _ _ hlr))),_,U,Yo,Yo,?_⟩;rw[show((ru.length:Nat):Int).toNat=ps.length by omega];refine j7 (λi Y G=>∃(c:Int)(v8 v9 v10 v11:Option V)(kv:List (Key×V)),Y=[some (.ref l),some (.ref la),some (.ref d),some (.ref s),some (.ref lr),some (.ref lnn),some (.ref ds),some (.int c),v8,v9,v10,v11]/\a8 H2 G/\G ds=some (.dK kv)/\kv.length<=i/\(∀j:Nat,(aJ kv (.inl (j:Int))).isSome=true->∃t p,t<i/\ps[t]?=some p/\p.1=j)/\0<=c/\((∃t p,t<i/\ps[t]?=some p/\p.2.2.1=("room":Str))->0<c)) ⟨0,_,_,_,_,[],U,q3,hd3,qg _,λj h=>(nomatch h),Int.le_refl _,λ⟨t,_,h,_⟩=>Qb h (QE t)⟩ ?_ ?_
 .rintro i Y G hi ⟨c,v8,v9,v10,v11,kv,rfl,sG,hdG,kl,seen,c0,cr⟩;rw[Int.zero_add];have hp:ps[i]?=some (ps[i]'hi):=qe _;generalize ps[i]'hi=p at hp;obtain⟨no,r,hr',me,room⟩:=is p (qG hp);obtain⟨p',hp',en⟩:=nx i p hp;obtain⟨pt,h1,h2⟩:=k9 rw' (i:=i) (e:=rgW p) (by rw[qK,hp];rfl);obtain⟨pt',h1',h2'⟩:=k9 rw' (i:=(i+1) % ps.length) (e:=rgW p') (by rw[qK,hp'];rfl);have M3:=M2.same sG;have hat:atI ru (i:Int)=some (.ref pt):=br h1;refine⟨_,U,_,U,lr,_,_,_,U,U,SqL.of (M3.sa _ _ hlr),hat,pt,_,U,SqT.of (M3.sa _ _ h2),U,_,_,U,_,_,U,_,_,U,U,?_⟩;obtain⟨kv2,hd2,fr2,kl2⟩:=M3.c2
  have nos:(aJ kv (.inl ((p.1:Nat):Int))).isSome=false:=by
   cases e:(aJ kv (.inl ((p.1:Nat):Int))).isSome with
   |false=>rfl
   |true=>
    obtain⟨t,p2,lt,ht,e2⟩:=seen p.1 e;have:=(List.getElem?_inj (l:=ps.map (·.1)) (i:=t) (j:=i) (by rw[qa];omega) nd).mp (by rw[qK,qK,ht,hp];show some p2.1=some p.1;rw[e2]);omega
  refine⟨_,U,_,U,ds,kv,.inl ((p.1:Nat):Int),U,hdG,U,_,U,ay nos ?_⟩;refine⟨_,U,_,U,s,_,_,_,U,U,SqL.of M3.so,U,d2,kv2,.inl ((p.1:Nat):Int),U,hd2,U,_,U,ay (by rw[fr2 p.1,Qa no]) ?_⟩;refine⟨_,U,_,U,ds,_,U,eu.k (k:=.inl ((p.1:Nat):Int)) hdG Yo,?_⟩;have s4:=hZ sG hds (.dK (bf kv (.inl ((p.1:Nat):Int)) (.bl true)));have hd4:upd G ds (.dK (bf kv (.inl ((p.1:Nat):Int)) (.bl true))) ds=some _:=ag;have kl4:=qF (dL kv (.inl ((p.1:Nat):Int)) (.bl true)) (Nat.succ_le_succ kl)
  have seen4:∀j:Nat,(aJ (bf kv (.inl ((p.1:Nat):Int)) (.bl true)) (.inl (j:Int))).isSome=true->∃t p,t<i+1/\ps[t]?=some p/\p.1=j:=λj h=>by
   rw[dF]at h;split at h
   .rename_i e;exact⟨i,p,Qh i,hp,by have:=Sum.inl.inj e;omega⟩
   .obtain⟨t,p2,lt,ht,e2⟩:=seen j h;exact⟨t,p2,Yo,ht,e2⟩
  generalize upd G ds (.dK (bf kv (.inl ((p.1:Nat):Int)) (.bl true)))=G4 at s4 hd4 ⊢;generalize bf kv (.inl ((p.1:Nat):Int)) (.bl true)=kv4 at hd4 kl4 seen4;have M4:=M2.same s4
  have hatn:atI ru (((i:Int)+1) % (ru.length:Int))=some (.ref pt'):=by
   rw[rl,show((i:Int)+1) % (ps.length:Int)=(((i+1) % ps.length:Nat):Int)by simp];exact br h1'
  refine⟨_,U,_,U,_,U,_,U,_,U,_,U,_,U,_,_,U,U,_,U,lr,ru,U,.inl (SqL.of (M4.sa _ _ hlr)),_,_,U,U,Yo,lr,_,_,_,U,U,SqL.of (M4.sa _ _ hlr),hatn,pt',_,_,_,U,U,SqT.of (M4.sa _ _ h2'),U,_,U,_,U,ln3,λpz hpz=>?_⟩;have q5:=a8.new hpz (.tup [.int (p'.1:Int),.str p.2.2.1,.str p.2.2.2]);have hpz5:upd G4 pz (.tup [.int (p'.1:Int),.str p.2.2.1,.str p.2.2.2]) pz=some (dN p.2):=by rw[ag];unfold dN;rw[en]
  have L5:=hG.same (M4.sa.trans q5) LQ;refine⟨l,la,lnn,d,pz,us,as,rs,kvs,ln,p.1,r,p.2,U,⟨L5.hl,L5.rr,L5.ha,L5.ra,(s4.trans q5) _ _ hn,L5.hd,L5.few,L5.sm,L5.dl⟩,hr',hpz5,me,λG6 s6=>⟨_,U,ay U ?_⟩⟩;have s46:=q5.trans s6;have M6:=M4.same s46;refine⟨_,U,U,_,U,?_⟩;by_cases er:p.2.2.1=("room":Str)
  .refine aU (Q9 (congrArg V.str er)) ?_;obtain⟨b1,b2,b3⟩:=room er;refine⟨_,U,c,1,U,U,?_⟩;refine⟨_,U,_,U,_,U,_,U,_,U,H0,l,la,d,s,d0,d1,d2,us,as,rs,kvs,ln,o,p.1,r,U,M6,LQ,hr',λz hz=>?_⟩
   have ez:z=("room":Str):=by
    cases hz with
    |card h=>exact Qb b1 h
    |thing _ h=>exact Qb b2 h
    |room=>rfl
    |no _ _ h=>exact Qb h b3
   subst ez;refine⟨U,_,U,ay Yd ?_⟩;exact⟨c+1,_,_,_,_,kv4,U,s4.trans s46,s46 _ _ hd4,kl4,seen4,Yo,λ_=>Yo⟩
  .refine ay (Qa λz=>er (V.str.inj z)) ?_;refine⟨c,_,_,_,_,kv4,U,s4.trans s46,s46 _ _ hd4,kl4,seen4,c0,λ⟨t,p2,lt,ht,e2⟩=>cr ⟨t,p2,?_,ht,e2⟩⟩;by_cases z:t=i
   .rw[z,hp]at ht;cases ht;exact Qb e2 er
   .omega
 .rintro Y G ⟨c,v8,v9,v10,v11,kv,rfl,sG,hdG,kl,seen,c0,cr⟩;obtain⟨p,hp,er⟩:=rm;obtain⟨t,ht⟩:=List.mem_iff_getElem?.mp hp;have:=cr ⟨t,p,(qh.mp ht).1,ht,er⟩;refine⟨_,U,_,_,U,U,?_⟩;rw[Q9 Yo];exact k _
theorem zJ(x y:Str):y∈eN [x,y]:=by
 obtain⟨zs,pm,_,so⟩:=rK x [y];rw[<- tU pm (so U)];exact pm.mem_iff.mpr (by simp)
theorem AO(e:aa):∀c∈(aL e).owns,c∈cards [e]:=by
 intro c hc
 cases e with
 |cond x t o=>exact eE _ c hc
 |whl x b=>exact eE _ c hc
 |rep n b=>exact eE _ c hc
 |get q x=>
  have:=tT _ c hc;simpa[cards,aj,aa.flat,aa.cards,aa.names,aa.others]using this
 |_=>
  simp[aL]at hc;simp[cards,aj,aa.flat,aa.cards,aa.names,aa.others,hc]
theorem AG{as:List Str}{ss:List (Str×Int)}{ds:List aa}(nd:∀r∈aH ds++[eU as ss ds],r.owns.Nodup)(ow:∀r∈aH ds++[eU as ss ds],dM r)(fed:Fed (aH ds++[eU as ss ds])):df (aH ds++[eU as ss ds]):=by
 have cas:∀{Pr:Row->Prop},(∀b,(∀e∈aj b,e∈aj ds)->Pr (cy b))->(∀e∈aj ds,Pr (aL e))->Pr (eU as ss ds)->∀r∈aH ds++[eU as ss ds],Pr r:=λh1 h2 h3 r hr=>by
  rcases qk.mp hr with hr|hr
  .rcases i4 _ r hr with⟨b,rfl,hb⟩|⟨e,he,rfl,_⟩
   .exact h1 b hb
   .exact h2 e he
  .rw[qY.mp hr];exact h3
 have own:=cas (Pr:=λr=>∀c∈r.owns,c∈dH as ss ds) (λb hb c hc=>by
  have:=m7 hb c (eE _ c hc);unfold dH
  simp[this]) (λe he c hc=>by
  have:=xY he c (AO e c hc);unfold dH
  simp[this]) λc hc=>eE _ c hc
 refine⟨nd,ow,cas (λb _ q h=>(nomatch h)) (λe _ q h=>?_) λq h=>(nomatch h),cas (λb _ q h=>(nomatch h)) (λe _ q h=>?_) λq h=>(nomatch h),fed,λr' h=>?_⟩
 .cases e with
  |put q' x=>cases h;exact qY.mpr U
  |_=>cases h
 .cases e with
  |get q' x=>cases h;exact zJ _ _
  |_=>cases h
 .rw[qc,Qd,Nat.add_sub_cancel,qR (qg _),Nat.sub_self]at h;cases h;exact⟨U,U,λr hr c hc=>(tR _ c).mpr (own r hr c hc)⟩
section
variable {rs:List Row}{ln:Str->Int}{W:List (List Wat)}{o:List Nat}{zs:Nat->Nat}{st:Nat->List Nat}
theorem LkI.clo(I:LkI W rs.length o [] zs st)(dw:∀k r,rs[k]?=some r->wsV W k=cF rs ln k r)(t:Nat):Clo rs ln (o.take t):=
 ⟨⟨List.Sublist.nodup (List.take_sublist _ _) I.nd,λj hj=>I.lt j (List.mem_of_mem_take hj)⟩,λk r hk hr e he=>by
   obtain⟨i,hi⟩:=List.mem_iff_getElem?.mp hk;rw[List.getElem?_take]at hi;split at hi
   .rename_i lt;obtain⟨j,ej,hj⟩:=I.ord i k hi e (by rw[dw k r hr];exact he);refine⟨j,ej,?_⟩;rw[show o.take i=(o.take t).take i by rw[List.take_take,Nat.min_eq_left Yo]]at hj;exact List.mem_of_mem_take hj
   .cases hi⟩
theorem LkI.oks(I:LkI W rs.length o [] zs st)(R:df rs)(dw:∀k r,rs[k]?=some r->wsV W k=cF rs ln k r)(t k:Nat)(h:o[t]?=some k):∃r,rs[k]?=some r/\eA rs (dnR rs (o.take t)) k r/\fS (dnR rs (o.take t)) r/\gZ ln (dnR rs (o.take t)) r:=by
 have hr:rs[k]?=some (rs[k]'(I.lt k (qG h))):=qe _;generalize rs[k]'(I.lt k (qG h))=r at hr;have C:=I.clo dw t;have dn:=I.ord t k h;rw[dw k r hr]at dn
 have ko:k∉o.take t:=λz=>by
  obtain⟨i,hi⟩:=List.mem_iff_getElem?.mp z;rw[List.getElem?_take]at hi;split at hi
  .have:=(List.getElem?_inj (qh.mp h).1 I.nd).mp (h.trans hi.symm);omega
  .cases hi
 unfold cF at dn;have c:=(C.card_iff R hr).mp λe he=>dn e (Q3 _ (Q3 _ he));exact⟨r,hr,c,(C.thing_iff R hr ko c).mp λe he=>dn e (Q3 _ (qO _ he)),(C.room_iff R hr ko c).mp λe he=>dn e (qO _ he)⟩
theorem jb.room(I:LkI W rs.length o [] zs st)(R:df rs)(dw:∀k r,rs[k]?=some r->wsV W k=cF rs ln k r){k:Nat}{r:Row}(hr:rs[k]?=some r)(ko:k∉o){e:Wat}{z:Nat}(he:(wsV W k)[z]?=some e)(all:∀e∈(wsV W k).take z,c9 o e)(nde:¬ c9 o e)(ek:e.2.1=("room":Str)):eA rs (dnR rs o) k r/\fS (dnR rs o) r/\¬ gZ ln (dnR rs o) r:=by
 have C:=I.clo dw o.length;rw[qN]at C;rw[dw k r hr]at he all
 have kind:∀e∈da (rs.take k) r++dr rs k r,e.2.1≠("room":Str):=λe he=>by
  have by_:∀{kd:Str}{cs:List Str},kd≠("room":Str)->e∈db (bN (rs.take k)) kd cs->e.2.1≠("room":Str):=λ{kd cs} n h=>by
   unfold db at h;obtain⟨c,_,e1⟩:=List.mem_filterMap.mp h;obtain⟨n',_,rfl⟩:=qV.mp e1;exact n
  unfold da at he;rw[qk,qk]at he;rcases he with(he|he)|he
  .exact by_ Yd he
  .exact by_ Yd he
  .unfold dr at he;split at he
   .rw[qY.mp he];exact show("thing":Str)≠"room" by decide +kernel
   .cases he
 unfold cF at he all
 have zl:(da (rs.take k) r++dr rs k r).length<=z:=by
  by_cases lt:z<(da (rs.take k) r++dr rs k r).length
  .rw[Qc lt]at he;exact Qb ek (kind e (qG he))
  .omega
 have all2:∀e∈da (rs.take k) r++dr rs k r,c9 o e:=λe he=>all e (by
  rw[List.take_append,List.take_of_length_le zl]
  exact Q3 _ he)
 rw[qR zl]at he;have c:=(C.card_iff R hr).mp λe he=>all2 e (Q3 _ he);exact⟨c,(C.thing_iff R hr ko c).mp λe he=>all2 e (qO _ he),λq=>nde ((C.room_iff R hr ko c).mpr q e (qG he))⟩
end
def LkW(W:List (List Wat))(o:List Nat)(H:Hp)(kd:Str)(xs:List V):Prop:=(kd=("by":Str)/\xs=[]/\o.length=W.length)\/∃lp ru ps,kd=("ring":Str)/\xs=[.ref lp]/\H lp=some (.lst ru)/\RWs H ru (ps.map rgW)/\jb W o ps
theorem CB(T:Tx P w K mg a):aN P w K mg base CX0 1 a.Ia a.Ib ["_law_pick","_law_q","_law_length_here","_law_x"] ut:=by
 refine T.Ju.ok vf (λvs H Q E h=>?_) (λcdv A outer s H vs Q E hr h=>?_)
 .obtain⟨_,_,_,_,rfl,_⟩:=h
  rfl
 obtain⟨p,L,q,x,rfl,L0,L1,k⟩:=h
 refine⟨_,(ah (aq (i:=4) vf.nd U Oi (ao pJ (aT (a9 (ba (a9 aO (a9 (pq 1) (a9 (pq 3) ae)))) ae)) (ao bu (ao bu (pq 2) ac) (ao be (pq 0) ac))))
  (ak (aA (ao fG (pq 4) (aT (a9 (ba (a9 aO (a9 (ao bu ac (ao be (ao cB (pq 0) ac) ac)) (a9 (aT (a9 (ba (a9 aO (a9 (pq 1) (a9 (pq 3) ae)))) (a9 (ba (a9 aO (a9 (pq 1) (a9 (pq 3) ae)))) ae))) ae)))) ae)))))),?_⟩
 have p0:=Qg p (show(3:Int)≠0 by decide);have p1:=Ql p (show(0:Int)<3 by decide);have big:(10000:Nat)<sizeLine:=Yk;refine⟨_,U,_,U,ln3,λpt hpt=>⟨ln1,λpl hpl=>?_⟩⟩;refine⟨_,U,_,_,U,U,_,U,_,_,U,U,Yk,_,_,U,U,pl,_,_,U,U,ag,Yo,Yo,by rw[Qd,Nat.one_mul];omega,λpq hpq=>?_⟩;rw[xy];have s1:=(a8.new hpt (.tup [.str "put",.str q,.str x])).trans ((a8.new hpl (.lst [.ref pt])).trans (a8.new hpq (.lst (List.replicate (L+1+p % 3).toNat (.ref pt)))));have h1:=((a8.new hpl (.lst [.ref pt])).trans (a8.new hpq (.lst (List.replicate (L+1+p % 3).toNat (.ref pt))))) _ _ (ag (H:=H) (a:=pt) (o:=.tup [.str "put",.str q,.str x]));have h2:upd (upd (upd H pt (.tup [.str "put",.str q,.str x])) pl (.lst [.ref pt])) pq (.lst (List.replicate (L+1+p % 3).toNat (.ref pt))) pq=some (.lst (List.replicate (L+1+p % 3).toNat (.ref pt))):=ag;dsimp only[dC];generalize upd (upd (upd H pt (.tup [.str "put",.str q,.str x])) pl (.lst [.ref pt])) pq (.lst (List.replicate (L+1+p % 3).toNat (.ref pt)))=H1 at s1 h1 h2;refine⟨_,U,_,U,_,_,U,U,⟨Yk,Yk⟩,_,_,U,U,Yk,_,_,U,U,_,U,_,U,ln3,λpa ha=>⟨_,U,_,U,ln3,λpb hb=>⟨ln2,λpc hc=>⟨ln3,λpd hd=>⟨ln1,λpe he=>?_⟩⟩⟩⟩⟩;have sa:=a8.new ha (.tup [.str "get",.str q,.str x]);have sb:=a8.new hb (.tup [.str "put",.str q,.str x]);have sc:=a8.new hc (.lst [.ref pa,.ref pb]);have sd:=a8.new hd (.tup [.str "repeat",.int (1+p / 3 % 3),.ref pc]);have se:=a8.new he (.lst [.ref pd]);have s2:=sa.trans (sb.trans (sc.trans (sd.trans se)));refine⟨pq,pe,_,_,U,U,SqL.of (s2 _ _ h2),SqL.of ag,by rw[List.length_replicate,Qd];omega,λpf hf=>?_⟩;have sf:=a8.new hf (.lst (List.replicate (L+1+p % 3).toNat (.ref pt)++[.ref pd]));refine k _ pf _ (s1.trans (s2.trans sf)) ag (RDs.app ?_ (.cons (.rep (sf _ _ (se _ _ ag)) (.mk (sf _ _ (se _ _ (sd _ _ ag))) (.cons (.get (sf _ _ (se _ _ (sd _ _ (sc _ _ (sb _ _ ag)))))) (.cons (.put (sf _ _ (se _ _ (sd _ _ (sc _ _ ag))))) .nil)))) .nil))
 have go:∀n:Nat,RDs (upd _ pf (.lst (List.replicate (L+1+p % 3).toNat (.ref pt)++[.ref pd]))) (List.replicate n (.ref pt)) (List.replicate n (.put q x)):=λn=>by
  induction n with
  |zero=>exact .nil
  |succ n ih=>exact .cons (.put (sf _ _ (s2 _ _ h1))) ih
 exact go _
theorem Eo{rs:List Row}{r:Row}{q:Str}(h:Fed rs)(hr:r.outof=some q)(b:0<bal rs q):Fed (rs++[r]):=λi r' q' hi ho=>by
 by_cases lt:i<rs.length
 .rw[Qc lt]at hi;rw[List.take_append_of_le_length (Nat.le_of_lt lt)];exact h i r' q' hi ho
 .have e:i=rs.length:=by
   have:=(qh.mp hi).1;rw[qc,Qd]at this;omega
  rw[e,List.getElem?_concat_length]at hi;rw[<- qP hi,hr]at ho;rw[e,List.take_left,<- qP ho];exact b
theorem xC{q x:Str}{A:List Row}(h:Fed A):∀n:Nat,Fed (A++List.replicate n (aL (.put q x)))/\bal (A++List.replicate n (aL (.put q x))) q=bal A q+n
 |0=>by rw[List.replicate_zero,qE];exact⟨h,(Int.add_zero _).symm⟩
 |n+1=>by
  obtain⟨i1,i2⟩:=xC h n;rw[List.replicate_succ',<- qT];refine⟨i1.snoc U,?_⟩;rw[fu,i2,Q8 (show(aL (.put q x)).into=some q from rfl),Q7 (λz=>nomatch z)];omega
theorem xB{q x:Str}{A:List Row}(h:Fed A)(b:0<bal A q):∀n:Nat,Fed (A++reps n (aH [.get q x,.put q x]++[cy [.get q x,.put q x]]))/\bal (A++reps n (aH [.get q x,.put q x]++[cy [.get q x,.put q x]])) q=bal A q
 |0=>by rw[oG,qE];exact⟨h,U⟩
 |n+1=>by
  obtain⟨i1,i2⟩:=xB h b n;rw[vq,<- qT];generalize A++reps n (aH [.get q x,.put q x]++[cy [.get q x,.put q x]])=B at i1 i2;have e:B++(aH [.get q x,.put q x]++[cy [.get q x,.put q x]])=((B++[aL (.get q x)])++[aL (.put q x)])++[cy [.get q x,.put q x]]:=by simp[aH,bB]
  rw[e];refine⟨((Eo i1 U Yo).snoc U).snoc U,?_⟩;rw[fu,fu,fu,i2];simp[aL,cy]
theorem mC(p:Int)(q:Str)(L:Int)(x:Str):aH (dO p q L x)=List.replicate (L+1+p % 3).toNat (aL (.put q x))++cy [.get q x,.put q x]::reps (1+p / 3 % 3).toNat (aH [.get q x,.put q x]++[cy [.get q x,.put q x]]):=by
 unfold dO;rw[gF,vm (λd hd n b z=>by rw[List.eq_of_mem_replicate hd]at z;cases z),List.map_replicate];simp[aH,bB]
theorem Em{A:List Row}{p L:Int}{q x:Str}(h:Fed A)(b:bal A q=0)(L0:0<=L):Fed (A++aH (dO p q L x)):=by
 rw[mC];obtain⟨f1,b1⟩:=xC (q:=q) (x:=x) h (L+1+p % 3).toNat;have p0:=Qg p (show(3:Int)≠0 by decide);have f2:=f1.snoc (r:=cy [.get q x,.put q x]) U
 have b2:0<bal (A++List.replicate (L+1+p % 3).toNat (aL (.put q x))++[cy [.get q x,.put q x]]) q:=by
  rw[fu,b1,b,Q7 (λz=>nomatch z),Q7 (λz=>nomatch z)];omega
 have:=(xB (q:=q) (x:=x) f2 b2 (1+p / 3 % 3).toNat).1;simpa using this
section
variable {rs:List Row}{ln:Str->Int}{W:List (List Wat)}{o:List Nat}{zs:Nat->Nat}{st:Nat->List Nat}
theorem LkI.never{A B:List Row}{pr G:Row}{M:Nat}{q:Str}(e:rs=A++(List.replicate M pr++G::B))(h1:pr.into=some q)(h2:pr.outof=none)(h3:G.outof=none)(h4:q++(">":Str)∈G.owns)(h5:q++("<":Str)∈G.owns)(h6:∀r∈A,r.outof≠some q)(h7:ln q<M)(h8:0<=ln q)(I:LkI W rs.length o [] zs st)(R:df rs)(dw:∀k r,rs[k]?=some r->wsV W k=cF rs ln k r):∃k,k<rs.length/\k∉o:=by
 have hp:∀i,i<M->rs[A.length+i]?=some pr:=λi hi=>by
  rw[e,qR Yo,Nat.add_sub_cancel_left,Qc (by rw[List.length_replicate];exact hi),List.getElem?_replicate,Q8 hi]
 have hg:rs[A.length+M]?=some G:=by
  rw[e,qR Yo,Nat.add_sub_cancel_left,qR (by rw[List.length_replicate];omega),List.length_replicate,Nat.sub_self]
  rfl
 have hk:=hp (ln q).toNat Yo;have kl:=(qh.mp hk).1;refine⟨A.length+(ln q).toNat,kl,λko=>?_⟩;obtain⟨t,ht⟩:=List.mem_iff_getElem?.mp ko;obtain⟨r,hr,c,_,rm⟩:=I.oks R dw t _ ht;rw[hk]at hr;cases hr;have C:=I.clo dw t
 have ko1:A.length+(ln q).toNat∉o.take t:=λz=>by
  obtain⟨i,hi⟩:=List.mem_iff_getElem?.mp z;rw[List.getElem?_take]at hi;split at hi
  .have:=(List.getElem?_inj (qh.mp ht).1 I.nd).mp (ht.trans hi.symm);omega
  .cases hi
 have p1:=pE C.dn (C.pin R q) kl (e7.mpr ⟨pr,hk,h1⟩) ko1 λi lt hi=>by
  obtain⟨r2,e2,o2⟩:=e7.mp hi;exact C.own_all R hk c (R.pi pr (qG hk) q h1) i lt (dZ.mpr ⟨r2,e2,R.pi r2 (qG e2) q o2⟩)
 have tk:rs.take (A.length+(ln q).toNat)=A++List.replicate (ln q).toNat pr:=by
  rw[e,List.take_length_add_append,List.take_append_of_le_length (by rw[List.length_replicate];omega),List.take_replicate,Nat.min_eq_left Yo]
 have p2:(ln q).toNat<=((rs.take (A.length+(ln q).toNat)).filter (isP Row.into q)).length:=by
  rw[tk,Qy,qc,List.filter_replicate_of_pos (by unfold isP;exact Q9 h1),List.length_replicate];omega
 have b1:=rm q h1;rw[jW]at b1;have gs:0<((dnR rs (o.take t)).filter (isP Row.outof q)).length:=Yo;rw[jO]at gs;obtain⟨j,hj⟩:=List.exists_mem_of_length_pos gs;obtain⟨jo,jp⟩:=List.mem_filter.mp hj;obtain⟨r2,e2,o2⟩:=e7.mp jp
 have gj:A.length+M<j:=by
  refine Nat.lt_of_not_le λle=>?_;by_cases z:j<A.length
  .rw[e,Qc z]at e2;exact h6 r2 (qG e2) o2
  .by_cases y:j=A.length+M
   .rw[y,hg]at e2;cases e2;rw[h3]at o2;cases o2
   .have:=hp (j-A.length) Yo;rw[show A.length+(j-A.length)=j by omega,e2]at this;cases this;rw[h2]at o2;cases o2
 have go:=C.chain R.nd (q++("<":Str)) _ j (dZ.mpr ⟨G,hg,h5⟩) (dZ.mpr ⟨r2,e2,R.po r2 (qG e2) q o2⟩) gj jo;exact ko1 (C.chain R.nd (q++(">":Str)) _ _ (dZ.mpr ⟨pr,hk,R.pi pr (qG hk) q h1⟩) (dZ.mpr ⟨G,hg,h4⟩) Yo go)
end
theorem WkH.also{H0 H:Hp}{s d0 d1 d2 d:Addr}{rs:List Row}{o:List Nat}{ob:HO}(M:WkH H0 H s d0 d1 d2 rs o)(h:H d=none):WkH (upd H0 d ob) (upd H d ob) s d0 d1 d2 rs o:=by
 obtain⟨k0,a0,b0⟩:=M.c0;obtain⟨k1,a1,b1⟩:=M.c1;obtain⟨k2,a2,b2⟩:=M.c2;have ne:∀{c:Addr}{x:HO},H c=some x->c≠d:=λhc z=>by rw[z,h]at hc;cases hc
 refine⟨by rw[af (ne M.so)];exact M.so,⟨k0,by rw[af (ne a0)];exact a0,b0⟩,⟨k1,by rw[af (ne a1)];exact a1,b1⟩,⟨k2,by rw[af (ne a2)];exact a2,b2⟩,M.nd,λc x hc=>?_,by rw[af (ne a0)];exact M.n0,by rw[af (ne a1)];exact M.n1,by rw[af (ne a2)];exact M.n2⟩;by_cases z:c=d
 .rw[z,ag]at hc ⊢;exact hc
 .rw[af z]at hc ⊢;exact M.sa _ _ hc
def gY(w:Str):Prop:=Low w/\w.length<=51/\dh w
theorem vK{c:Int}{n:Nat}:∀w∈d7 c n,gY w:=λw h=>⟨Bz _ _ w h,Bx _ _ w h,vL _ _ w h⟩
theorem EY{ws rs:List Str}(hw:∀w∈ws,gY w)(hr:∀w∈rs,gY w):∀c∈bA ws rs,c.length<=1000/\PyData.strOk c=true:=λs hs=>by
 unfold bA at hs;simp only[qk,List.mem_map,qY]at hs;have l1:Low (">":Str):=by unfold Low;decide +kernel
 have l2:Low ("<":Str):=by unfold Low;decide +kernel
 have al:∀{x y:Str},x.length<=51->y.length<=1->(x++y).length<=1000:=λ{x y} h1 h2=>by
  rw[dP];omega
 rcases hs with((hs|⟨q,hq,rfl⟩)|⟨q,hq,rfl⟩)|rfl
 .exact⟨qF (hw s hs).2.1 Yk,j3 (hw s hs).1⟩
 .exact⟨al (hr q hq).2.1 Yd,j3 ((hr q hq).1.app l1)⟩
 .exact⟨al (hr q hq).2.1 Yd,j3 ((hr q hq).1.app l2)⟩
 .exact⟨Yd,j3 l1⟩
theorem EZ{a b r r':List Str}(h1:∀x∈a,x∈b)(h2:∀x∈r,x∈r'):∀x∈bA a r,x∈bA b r':=λx hx=>by
 unfold bA at *;simp only[qk,List.mem_map]at *;rcases hx with((hx|⟨y,hy,e⟩)|⟨y,hy,e⟩)|hx
 .exact .inl (.inl (.inl (h1 x hx)))
 .exact .inl (.inl (.inr ⟨y,h2 y hy,e⟩))
 .exact .inl (.inr ⟨y,h2 y hy,e⟩)
 .exact .inr hx
theorem tm(p:Int)(q:Str)(L:Int)(x:Str):aj (dO p q L x)=List.replicate (L+1+p % 3).toNat (.put q x)++[.rep (1+p / 3 % 3) [.get q x,.put q x],.get q x,.put q x]:=by
 unfold dO;rw[eT,(oZ λd hd=>⟨q,x,List.eq_of_mem_replicate hd⟩).1];simp[aj,aa.flat]
theorem yQ(p:Int)(q:Str)(L:Int)(x:Str):aP (dO p q L x)<=12:=by
 unfold dO;rw[jS,rX (oZ λd hd=>⟨q,x,List.eq_of_mem_replicate hd⟩).2.2,Nat.zero_max];simp[aP,aa.depth]
theorem yP(p:Int)(q:Str){L:Int}(x:Str)(h:L<=5):(aH (dO p q L x)).length<=18/\(aj (dO p q L x)).length<=18:=by
 have p1:=Ql p (show(0:Int)<3 by decide);have p2:=Ql (p / 3) (show(0:Int)<3 by decide);rw[mC,tm,qc,qc,List.length_replicate,qH,g6];have e:(aH [.get q x,.put q x]++[cy [.get q x,.put q x]]).length=3:=by simp[aH,bB]
 rw[e];simp only[qH,List.length_nil,List.length_replicate];omega
theorem ku{p:Int}{q:Str}{L:Int}{x:Str}{d:aa}(h:d∈aj (dO p q L x)):d=.put q x\/d=.get q x\/d=.rep (1+p / 3 % 3) [.get q x,.put q x]:=by
 rw[tm]at h;rcases qk.mp h with h|h
 .exact .inl (List.eq_of_mem_replicate h)
 .simp at h;rcases h with h|h|h
  .exact .inr (.inr h)
  .exact .inr (.inl h)
  .exact .inl h
theorem tL{H:Hp}{us:List V}{ss:List (Str×Int)}(r:RSs H us ss):∀(i:Nat)(x:Key×V),(bO ss)[i]?=some x->∃pt,us[i]?=some (.ref pt)/\H pt=some (.tup [kV x.1,x.2]):=λi x hx=>by
 unfold bO at hx;rw[qK]at hx;obtain⟨st,hst,rfl⟩:=qV.mp hx;have il:=(qh.mp hst).1;have ukl:=r.len;obtain⟨pt,q,n,ev,es,hp⟩:=r.at i (us[i]' Yo) (qe Yo);rw[hst]at es;cases es;exact⟨pt,by rw[qe Yo,ev],hp⟩
theorem Cs(T:Tx P w K mg a):aN P w K mg base CX0 48 a.Ic a.Id ["_law_script"] (jh K):=by
 refine T.KB.ok d5 (λvs H Q E h=>?_) (λcdv A outer s H vs Q E hr h=>?_)
 .obtain⟨_,_,rfl,_⟩:=h
  rfl
 obtain⟨l,ns,rfl,hS,h63,hbits,_,k⟩:=h
 refine⟨_,(ah (gK (aG (CH T) (hr.mono Yk) U T.Kk T.Ji.kp T.Kj .nil aC (a9 (pq 0) (a9 ac ae))) (dA U (bC (aK (i:=1) d5.nd U Oi) (bC (aK (i:=2) d5.nd U Oi) (bC (aK (i:=3) d5.nd U Oi) dy)))))
  (ah (aq (i:=4) d5.nd U Oi (aG (fO T) (hr.mono Yk) U T.mt T.gt.kp T.ld .nil aC (a9 (aG (lA T) (hr.mono Yk) U T.FU T.wT.kp T.FT .nil aC (a9 (pq 0) (a9 ac ae))) (a9 ac ae))))
  (ah (aq (i:=5) d5.nd U (Or.inr U) (fL (k:=2) (Nc:=["_law_store","_law_many"]) (js:=[]) (show bE (aI fZ) ["_law_script","_law_asks","_law_stores","_law_body","_law_pick","_law_used","_law_q","_law_x","_law_length_here","_law_kept","_law_rows","_law_handed","_law_rooms","_law_found","_law_ahead_here","_law_state"] _ 2 ["_law_store","_law_many"] []from bE.mk U (by decide +kernel) (by decide +kernel) (by decide +kernel) U (by decide +kernel)) U (cq (pq 2)) (λ_ _ _ _ _=>(BG 2 U (bC (aK (i:=0) (show List.Nodup (["_law_store","_law_many"]:List Str)from by decide +kernel) U Oi) (bC (aK (i:=1) (show List.Nodup (["_law_store","_law_many"]:List Str)from by decide +kernel) U Oi) dy)))) (λ_ _ _ _ _=>i8) (λ_ _ _ _ _=>(pq 0))))
  (ah (aq (i:=6) d5.nd U Oi (ai aE (fL (k:=1) (Nc:=["_law_word","_law_used"]) (js:=[5]) (show bE (aI fZ) ["_law_script","_law_asks","_law_stores","_law_body","_law_pick","_law_used","_law_q","_law_x","_law_length_here","_law_kept","_law_rows","_law_handed","_law_rooms","_law_found","_law_ahead_here","_law_state"] _ 1 ["_law_word","_law_used"] [5]from bE.mk U (by decide +kernel) (by decide +kernel) (by decide +kernel) U (by decide +kernel)) U (cq (aT (jC U))) (λ_ _ _ _ _=>(aK (i:=0) (show List.Nodup (["_law_word","_law_used"]:List Str)from by decide +kernel) U Oi)) (λ_ _ _ _ _=>(iZ (au (BZ (K:=K) U) (pq 0) (pq 1) (by with_unfolding_all rfl)))) (λ_ _ _ _ _=>(pq 0))) ac Oy))
  (ah (aq (i:=7) d5.nd U Oi (gM (au fH (aW bK U T.dz Qe (a9 (pq 1) ae)) ac (ax _)) (ai aE (pq 1) ac Oy) (pq 6)))
  (ah (aq (i:=8) d5.nd U Oi (ao bu ac (ao be (ao cB (pq 4) ac) ac)))
  (ah (aq (i:=9) d5.nd U Oi (ao fG (pq 2) (aT (a9 (ba (a9 (pq 6) (a9 (pq 8) ae))) ae))))
  (ah (aM (au aY (ao be (ao cB (pq 4) ac) ac) ac (ax _)) (ak (aq (i:=9) d5.nd U Oi (ao fG (aT (a9 (ba (a9 (pq 6) (a9 (pq 8) ae))) ae)) (pq 2)))) aR)
  (ah (aq (i:=10) d5.nd U Oi (aG (Ct T) (hr.mono Yk) U T.K0 T.IW.kp T.JZ .nil aC (a9 (ba (a9 (pq 1) (a9 (pq 9) (a9 (ao fG (pq 3) (aG (CB T) (hr.mono Yk) U T.KA T.Ju.kp T.Kz .nil aC (a9 (ao cB (pq 4) ac) (a9 (pq 6) (a9 (pq 8) (a9 (pq 7) ae)))))) ae)))) ae)))
  (ah (aq (i:=11) d5.nd U Oi (eQ oN U T.wS PyProof.Rows.Boot.«list» (a9 (pq 10) ae)))
  (ah (aq (i:=12) d5.nd U Oi (eQ oN U T.wS PyProof.Rows.Boot.«list» (a9 (pq 9) ae)))
  (ah (aq (i:=13) d5.nd U Oi (aG (Cr T) (hr.mono Yk) U T.JO T.IM.kp T.JN .nil aC (a9 (pq 11) (a9 (pq 12) ae))))
  (ah (aM (PW.pt (d6 (au (vV hr.units) (pq 11) (pq 10) (ax _)) (fJ (au (vV hr.units) (pq 12) (pq 9) (ax _))))) (ak (aA dB)) aR)
  (ah (aM (PW.pt (d6 (eJ (eI (aW fI U T.om PyProof.Rows.Boot.«isinstance» (a9 (pq 13) (a9 (fN (v:=.ty "tuple") U T.At PyProof.Rows.Boot.«tuple» rfl) ae))))) (d6 (au i5 (aW bK U T.dz Qe (a9 (pq 13) ae)) ac (ax _)) (d6 (eJ (eI (aW fI U T.om PyProof.Rows.Boot.«isinstance» (a9 (ai ar (pq 13) ac Oy) (a9 (fN (v:=.ty "str") U T.FZ PyProof.Rows.Boot.«str» rfl) ae))))) (fJ (au i5 (ai ar (pq 13) ac Oy) aO (ax _))))))) (ak (aA dB)) aR)
  (ah (aq (i:=14) d5.nd U Oi (aG (CQ T) (hr.mono Yk) U T.Km T.Jj.kp T.Kl .nil aC (a9 (pq 10) ae)))
  (ah (aq (i:=15) d5.nd U Oi (aG (CA T) (hr.mono Yk) U T.Kq T.Jn.kp T.Kp .nil aC (a9 (pq 10) (a9 (pq 14) (a9 (eQ (y2 U) U T.Jv PyProof.Rows.Boot.«dict» (a9 (pq 9) ae)) (a9 (ai ar (pq 13) ac Oy) ae))))))
  (ak (aA (gN (fq fj (pq 15) bT (ax _)) (j0 (aG (CF T) (hr.mono Yk) U T.Ky T.Jt.kp T.Kx .nil aC (a9 (pq 10) (a9 (pq 14) (a9 (eQ (y2 U) U T.Jv PyProof.Rows.Boot.«dict» (a9 (pq 9) ae)) (a9 (pq 15) (a9 (ai ar (pq 13) ac Oy) ae)))))))))))))))))))))))))),?_⟩
 have wl:(ca ns).length=(2+aF (ns.getD 1 0) 1 % 4).toNat:=kX _ _;have nl:(bM ns).length=(ca ns).length-1:=QG;have rl:(aD ns).length=(if aF (ns.getD 1 0) 3 % 5<3 then aF (ns.getD 1 0) 3 % 5 else 3).toNat:=kX _ _;have rl3:(aD ns).length<=3:=by rw[rl];split<;>omega
 have nm0:0<(bM ns).length:=Yo;obtain⟨bk0,bd,bk3⟩:=Fk (rooms:=aD ns) (most:=2) (low:=7) nm0 (eX ns 3 63);have sub:∀x∈bM ns,x∈ca ns:=λx hx=>(List.dropLast_sublist _).subset hx;have cl:(eX ns 3 63).length<=60:=by unfold eX;rw[qQ];omega
 have bra:bR f7 (dD ns):=sy Yk Yk _;have bfl:(aj (dD ns)).length<=60:=qF bk3 cl
 have brl:(aH (dD ns)).length<=360:=by
  have h:=Fi (names:=bM ns) (rooms:=aD ns) (most:=2) (low:=7) Yk Yk (eX ns 3 63);change ((aH (dD ns)).length:Int)<=_ at h;omega
 have ml:(bn ns).length<=180:=by
  have h:=Fl (names:=bM ns) (rooms:=aD ns) (most:=2) (low:=7) Yk Yk (eX ns 3 63);change ((bn ns).length:Int)<=_ at h;omega
 have fr:=xk (aD ns) (bM ns) (bn ns) nm0 _ (qg _)
 have fl:(iq ns).length<=540:=by
  have h1:=lV (aD ns) (bM ns) (bn ns) (aD ns).length;have:(aD ns).length * (bn ns).length<=3 * 180:=Nat.mul_le_mul rl3 ml;unfold iq;omega
 obtain⟨ff,_,fd⟩:=oZ (ds:=iq ns) λd hd=>by
  obtain⟨q,x,e,_⟩:=fr d hd;exact⟨q,x,e⟩
 have am:∀x∈fw ns,x∈ca ns:=yg (qg _);have al:(fw ns).length<=5:=qF (sF _ _ _) Yo;have sl:(fB ns).length=(aD ns).length:=mK _ _ _ _
 have srm:(fB ns).map (·.1)=aD ns:=by
  unfold fB;rw[tK _ _ _ _ (qg _),qN]
 have rnd:(aD ns).Nodup:=By _ (by split<;>omega);have spos:∀s∈fB ns,0<=s.2:=tJ _ _ _ _;refine⟨_,U,l,ns,U,hS,h63,bd,bra,qF ml Yk,bfl,λH1 p la ls lb us s1 rp=>?_⟩;refine⟨p,_,U,SqT.of rp.top,U,_,_,U,_,_,U,_,_,U,U,?_⟩;dsimp only[dC];refine⟨_,U,l,ns,2,U,s1.seq hS,Yo,Yk,_,_,U,Yk,Yk,?_⟩;generalize aF (ns.getD (2:Int).toNat 0) 30=m;dsimp only[dC];refine⟨_,U,ls,U,⟨_,SqL.of rp.st⟩,?_⟩;have ul:=rp.ro.len;refine jT (K:=K) (a:=ls) (xs:=us) (λi ys Y G=>(∃v v',Y=[v,v'])/\G=H1/\ys=((aD ns).take i).map V.str) ⟨⟨_,_,U⟩,U,U⟩ ?_ (bg (m:=100) Yo) ?_ ?_ ?_
 .rintro i ys Y G _ ⟨_,_,rfl⟩;rw[qa,qQ];exact Nat.min_le_left _ _
 .rintro i ys Y G ⟨_,rfl,_⟩;exact SqL.of rp.st
 .rintro i x ys Y G hx ⟨⟨v,v',rfl⟩,rfl,rfl⟩;obtain⟨px,q,n,rfl,hi,hpx⟩:=rp.ro.at i x hx;have hq:(aD ns)[i]?=some q:=by rw[<- srm,qK,hi];rfl
  exact⟨px,_,U,SqT.of hpx,U,_,_,U,_,_,U,U,_,U,⟨_,_,U⟩,U,by rw[qy,hq,qU];rfl⟩
 rintro ys Y G ⟨_,rfl,rfl⟩ lu hlu;rw[ul,sl,qN];have s2:=a8.new hlu (.lst ((aD ns).map V.str));have hu:upd G lu (.lst ((aD ns).map V.str)) lu=some (.lst ((aD ns).map V.str)):=ag;have rp2:=rp.same s2;generalize upd G lu (.lst ((aD ns).map V.str))=H2 at s2 hu rp2;dsimp only[dC];refine⟨ln4,λl4 h4=>?_⟩;have s3:=a8.new h4 (.lst [.str "tail",.str "tails",.str "dust",.str "leaf"]);have h43:upd H2 l4 (.lst [.str "tail",.str "tails",.str "dust",.str "leaf"]) l4=some (.lst ([("tail":Str),"tails","dust","leaf"].map V.str)):=ag;refine⟨l4,U,⟨_,SqL.of h43⟩,?_⟩;have hu3:=s3 _ _ hu;have rp3:=rp2.same s3;have s13:=s2.trans s3;generalize upd H2 l4 (.lst [.str "tail",.str "tails",.str "dust",.str "leaf"])=H3 at s3 h43 hu3 rp3 s13;refine m6 (K:=K) (a:=l4) (xs:=[("tail":Str),"tails","dust","leaf"].map V.str) (λi ys Y G=>(∃v,Y=[v,some (.ref lu)])/\G=H3/\ys=(([("tail":Str),"tails","dust","leaf"].take i).filter λw=>!decide (w∈aD ns)).map V.str) ⟨⟨_,U⟩,U,U⟩ ?_ ln4 ?_ ?_ ?_
 .rintro i ys Y G _ ⟨_,_,rfl⟩;have:=List.length_filter_le (λw:Str=>!decide (w∈aD ns)) ([("tail":Str),"tails","dust","leaf"].take i);rw[qQ]at this;rw[qa];omega
 .rintro i ys Y G ⟨_,rfl,_⟩;exact SqL.of h43
 .rintro i x ys Y G hx ⟨⟨v,rfl⟩,rfl,rfl⟩;rw[qK]at hx;obtain⟨w',hw,rfl⟩:=qV.mp hx;refine⟨_,U,_,U,lu,_,U,.inl (SqL.of hu3),U,by simp[gA],_,U,?_⟩;rw[xc,qy,hw];by_cases z:w'∈aD ns
  .exact ay (by rw[Q9 z];rfl) ⟨⟨_,U⟩,U,by simp[z]⟩
  .exact aU (by rw[Qa z];rfl) ⟨_,U,⟨_,U⟩,U,by simp[z]⟩
 rintro ys Y G ⟨_,rfl,rfl⟩ lz hlz
 obtain⟨q,zs,eq,qw,qr⟩:∃q zs,[("tail":Str),"tails","dust","leaf"].filter (λw=>!decide (w∈aD ns))=q::zs/\q∈[("tail":Str),"tails","dust","leaf"]/\q∉aD ns:=by
  cases e:[("tail":Str),"tails","dust","leaf"].filter (λw=>!decide (w∈aD ns))with
  |nil=>
   have:=iw (zs:=[("tail":Str),"tails","dust","leaf"]) (ds:=aD ns) Yd λx hx=>by
    have:=List.filter_eq_nil_iff.mp e x hx;simpa using this
   simp only[qH,List.length_nil]at this;omega
  |cons q zs=>
   obtain⟨h1,h2⟩:=List.mem_filter.mp (e▸qt:q∈[("tail":Str),"tails","dust","leaf"].filter (λw=>!decide (w∈aD ns)));exact⟨q,zs,U,h1,by simpa using h2⟩
 rw[qa,show[("tail":Str),"tails","dust","leaf"].take [("tail":Str),"tails","dust","leaf"].length=[("tail":Str),"tails","dust","leaf"]from rfl,eq];refine⟨lz,_,_,_,U,U,SqL.of ag,at0,?_⟩;have s4:=a8.new hlz (.lst ((q::zs).map V.str));have rp4:=rp3.same s4;have s14:=s13.trans s4;generalize upd G lz (.lst ((q::zs).map V.str))=H4 at s4 rp4 s14;dsimp only[dC];refine jj (λY' G'=>(∃x,(x∈ca ns\/x=q)/\Y'=[some (.ref l),some (.ref la),some (.ref ls),some (.ref lb),some (.int m),some (.ref lu),some (.str q),some (.str x),none,none,none,none,none,none,none,none])/\G'=H4) ?_ ?_
 rotate_left
 .intro N hN;refine⟨_,U,la,_,U,.inl (SqL.of rp4.as),_,_,U,U,_,U,?_⟩;have h4:=rp4.as
  cases ea:fw ns with
  |nil=>exact ay U ⟨_,U,hN _ _ ⟨⟨q,.inr U,U⟩,U⟩⟩
  |cons x xs=>
   rw[ea]at h4;exact aU (Q9 (by simp only[qa,qH];omega)) ⟨_,U,la,_,_,_,U,U,SqL.of h4,at0,hN _ _ ⟨⟨x,.inl (am x (by rw[ea];exact qt)),U⟩,U⟩⟩
 rintro Y' G5 ⟨⟨x,hx,rfl⟩,rfl⟩;refine⟨_,U,_,_,U,U,⟨Yk,Yk⟩,_,_,U,U,Yk,_,_,U,U,?_⟩;have L1:1<=1+m / 9 % 5:=by have:=Qg (m / 9) (show(5:Int)≠0 by decide);omega
 have L5:1+m / 9 % 5<=5:=by have:=Ql (m / 9) (show(0:Int)<5 by decide);omega
 generalize 1+m / 9 % 5=L at L1 L5;dsimp only[dC];refine⟨_,U,_,U,_,U,ln2,λpt hpt=>⟨ln1,λpl hpl=>?_⟩⟩;have sa:=a8.new hpt (.tup [.str q,.int L]);have sb:=a8.new hpl (.lst [.ref pt]);have sab:=sa.trans sb;refine⟨ls,pl,_,_,U,U,SqL.of (sab _ _ rp4.st),SqL.of ag,bg (m:=100) (by rw[Qd];omega),λlk hlk=>?_⟩;have sc:=a8.new hlk (.lst (us++[.ref pt]));have sac:=sab.trans sc;have hk:upd (upd (upd G5 pt (.tup [.str q,.int L])) pl (.lst [.ref pt])) lk (.lst (us++[.ref pt])) lk=some (.lst (us++[.ref pt])):=ag;have rk:RSs (upd (upd (upd G5 pt (.tup [.str q,.int L])) pl (.lst [.ref pt])) lk (.lst (us++[.ref pt]))) (us++[.ref pt]) (fB ns++[(q,L)]):=RSs.snoc (sc _ _ (sb _ _ ag)) (rp4.same sac).ro;generalize upd (upd (upd G5 pt (.tup [.str q,.int L])) pl (.lst [.ref pt])) lk (.lst (us++[.ref pt]))=H5 at sac hk rk;dsimp only[dC];refine jj (λY' G'=>∃lk uk kept,Y'=[some (.ref l),some (.ref la),some (.ref ls),some (.ref lb),some (.int m),some (.ref lu),some (.str q),some (.str x),some (.int L),some (.ref lk),none,none,none,none,none,none]/\a8 G5 G'/\G' lk=some (.lst uk)/\RSs G' uk kept/\(kept=fB ns++[(q,L)]\/kept=[(q,L)]++fB ns)) ?_ ?_
 rotate_left
 .intro N hN;refine⟨_,U,_,_,U,U,⟨Yk,Yk⟩,_,_,U,U,Yk,U,_,U,cN (λcc=>?_) (λcc=>?_)⟩
  .refine⟨_,U,_,U,ln2,λpt hpt=>⟨ln1,λpl hpl=>?_⟩⟩;have ta:=a8.new hpt (.tup [.str q,.int L]);have tb:=a8.new hpl (.lst [.ref pt]);have tab:=ta.trans tb;refine⟨_,U,pl,ls,_,_,U,U,SqL.of ag,SqL.of (tab _ _ (sac _ _ rp4.st)),bg (m:=100) (by rw[Qd];omega),λlk' hlk'=>?_⟩;have tc:=a8.new hlk' (.lst ([.ref pt]++us));exact hN _ _ ⟨lk',_,_,U,sac.trans (tab.trans tc),ag,.cons (tc _ _ (tb _ _ ag)) ((rp4.same sac).same (tab.trans tc)).ro,.inr U⟩
  .exact hN _ _ ⟨lk,_,_,U,sac,hk,rk,.inl U⟩
 rintro Y' G6 ⟨lk,uk,kept,rfl,s6,hk,rk,ke⟩;have rp6:=rp4.same s6
 have kn:(kept.map (·.1)).Nodup:=by
  rcases ke with rfl|rfl
  .rw[qU,srm,List.nodup_append];exact⟨rnd,Qx _ _,λa ha b hb z=>qr (by have hb:b=q:=qY.mp hb;rw[<- hb,<- z];exact ha)⟩
  .show(q::(fB ns).map (·.1)).Nodup;rw[srm];exact List.nodup_cons.mpr ⟨qr,rnd⟩
 have km:∀s,s∈kept↔s∈fB ns\/s=(q,L):=λs=>by
  rcases ke with rfl|rfl
  .rw[qk,qY]
  .rw[qk,qY];exact Or.comm
 have kl:kept.length<=4:=by
  rcases ke with rfl|rfl<;>rw[qc,Qd]<;>omega
 clear ke
 have rin:∀r,r∈kept.map (·.1)↔r∈aD ns\/r=q:=λr=>by
  rw[<- srm];simp only[List.mem_map];constructor
  .rintro⟨s,hs,rfl⟩;rcases(km s).mp hs with h|h
   .exact .inl ⟨s,h,U⟩
   .exact .inr (by rw[h])
  .rintro(⟨s,hs,rfl⟩|rfl)
   .exact⟨s,(km s).mpr (.inl hs),U⟩
   .exact⟨(r,L),(km _).mpr (.inr U),U⟩
 have spos':∀s∈kept,0<=s.2:=λs hs=>by
  rcases(km s).mp hs with h|h
  .exact spos s h
  .rw[h];show 0<=L;omega
 have kq:=(km (q,L)).mpr (.inr U);generalize eR:kept.map (·.1)=R' at kn rin
 have qd:gY q:=by
  have:∀w∈[("tail":Str),"tails","dust","leaf"],gY w:=by unfold gY Low dh;decide +kernel
  exact this q qw
 obtain⟨W',wd,wl6,wsub,xw⟩:∃W':List Str,(∀w∈W',gY w)/\W'.length<=6/\(∀w∈ca ns,w∈W')/\x∈W':=by
  refine⟨ca ns++[q],λw hw=>?_,by rw[qc,Qd];omega,λw hw=>Q3 _ hw,?_⟩
  .rcases qk.mp hw with h|h
   .exact vK w h
   .rw[qY.mp h];exact qd
  .rcases hx with h|h
   .exact Q3 _ h
   .rw[h];exact qO _ (qY.mpr U)
 have rd:∀w∈R',gY w:=λw hw=>by
  rcases(rin w).mp hw with h|h
  .exact vK w h
  .rw[h];exact qd
 have rl4:R'.length<=4:=by rw[<- eR,qa];exact kl
 have cw:=EY wd rd;obtain⟨DS,eD⟩:∃DS,DS=iq ns++dD ns:=⟨_,U⟩
 have pD:∀d∈aj DS,(∃q x,d=.put q x/\q∈aD ns/\x∈bM ns)\/d∈aj (dD ns):=λd hd=>by
  rw[eD,eT,ff]at hd;exact(qk.mp hd).imp (fr d) id
 have inD:∀d∈aj DS,∀q x,d=.put q x\/d=.get q x->q∈aD ns:=λd hd q x e=>by
  rcases pD d hd with⟨q',y,e',hq,_⟩|m
  .rcases e with e|e
   .rw[e']at e;cases e;exact hq
   .rw[e']at e;cases e
  .rcases e with rfl|rfl
   .exact Fj Yk Yk _ q x m
   .exact y6 Yk Yk _ q x m
 have movesIn:∀{ds:List aa}{Rm:Str->Prop},(∀d∈aj ds,∀q x,d=.put q x\/d=.get q x->Rm q)->∀r∈aH ds,∀q,(r.into=some q\/r.outof=some q)->Rm q:=λh r hr q e=>by
  rcases i4 _ r hr with⟨b,rfl,hb⟩|⟨d,hd,rfl,_⟩
  .rcases e with e|e<;>cases e
  .cases d with
   |put q' x=>
    rcases e with e|e
    .cases e;exact h _ hd _ x (.inl U)
    .cases e
   |get q' x=>
    rcases e with e|e
    .cases e
    .cases e;exact h _ hd _ x (.inr U)
   |_=>rcases e with e|e<;>cases e
 have mvD:=movesIn inD;have fnr:yn (iq ns):=xj _ _ _ _;have rws:aH DS=(iq ns).map aL++aH (dD ns):=by rw[eD,gF,vm fnr]
 have fedD:Fed (aH DS):=by
  have h:=En (rs:=aD ns) (names:=bM ns) (rows:=aH (dD ns)) (vj _) λr hr q ho=>by
   obtain⟨x,hx⟩:=AI hr ho;exact y6 Yk Yk _ q x hx
  rw[pU]at h;rw[rws];exact h
 have balD:bal (aH DS) q=0:=by
  unfold bal;rw[List.filter_eq_nil_iff.mpr λr hr e=>qr (mvD r hr q (.inl (Qj e))),List.filter_eq_nil_iff.mpr λr hr e=>qr (mvD r hr q (.inr (Qj e)))]
  rfl
 obtain⟨tl1,tl2⟩:=yP (m / 90) q x L5;obtain⟨ds,eds⟩:∃ds,ds=DS++dO (m / 90) q L x:=⟨_,U⟩;have fds:aj ds=aj DS++aj (dO (m / 90) q L x):=by rw[eds,eT]
 have hdp:aP ds<=12:=by
  have:=yQ (m / 90) q L x;rw[eds,eD,jS,jS,rX fd,Nat.zero_max];exact Nat.max_le.mpr ⟨bd,this⟩
 have hfl:(aj ds).length<=1000:=by
  rw[fds,eD,eT,qc,qc,ff];omega
 have rA:bR f7 ds:=λd hd n b z=>by
  rw[fds]at hd;rcases qk.mp hd with hd|hd
  .rcases pD d hd with⟨_,_,e,_⟩|h
   .rw[e]at z;cases z
   .exact bra d h n b z
  .rcases ku hd with e|e|e<;>rw[e]at z<;>cases z;omega
 have inR:∀d∈aj ds,∀q x,d=.put q x\/d=.get q x->q∈R':=λd hd q' y e=>by
  rw[fds]at hd;rcases qk.mp hd with hd|hd
  .exact(rin q').mpr (.inl (inD d hd q' y e))
  .refine(rin q').mpr (.inr ?_);rcases ku hd with z|z|z<;>rw[z]at e<;>rcases e with e|e<;>cases e<;>rfl
 have bk1:∀c∈cards ds,c∈bA W' R':=λc hc=>by
  unfold cards at hc;obtain⟨d,hd,hc⟩:=List.mem_flatMap.mp hc
  have two:∀q' y,(d=.put q' y\/d=.get q' y)->y∈W'->c∈bA W' R':=λq' y e hy=>by
   have hq:=inR d hd q' y e;unfold bA;simp only[qk,List.mem_map];rcases e with rfl|rfl
   all_goals
    simp only[aa.cards,aa.names,aa.others,Qs,Qr,qA,qW,or_false]at hc;rcases hc with rfl|rfl
   .exact .inl (.inl (.inl hy))
   .exact .inl (.inl (.inr ⟨_,hq,U⟩))
   .exact .inl (.inl (.inl hy))
   .exact .inl (.inr ⟨_,hq,U⟩)
  have hd':=hd;rw[fds]at hd';rcases qk.mp hd' with h|h
  .rcases pD d h with⟨q',y,e,_,hy⟩|h
   .exact two q' y (.inl e) (wsub y (sub y hy))
   .exact EZ (λy hy=>wsub y (sub y hy)) (λy hy=>(rin y).mpr (.inl hy)) c (bk0 c (by unfold cards;exact List.mem_flatMap.mpr ⟨d,h,hc⟩))
  .rcases ku h with e|e|e
   .exact two q x (.inl e) xw
   .exact two q x (.inr e) xw
   .rw[e]at hc;cases hc
 have rwl:(aH ds).length<=918:=by
  rw[eds,gF,rws,qc,qc,qa];omega
 have fed:Fed (aH ds):=by rw[eds,gF];exact Em fedD balD Yo
 have c64:(bA W' R').length<64:=by rw[Fv];omega
 have sm:∀s∈kept,s.1∈R':=λs hs=>by rw[<- eR];exact List.mem_map.mpr ⟨s,hs,U⟩
 have pc:∀x∈dH (fw ns) kept ds,x∈bA W' R':=Bv (λx hx=>wsub x (am x hx)) sm bk1
 have fewS:∀b:List aa,(∀e∈aj b,e∈aj ds)->(srt (cards b)).length<=4000:=λb hb=>by
  have:=iw (hJ (cards b)) λx hx=>bk1 x (m7 hb x (eE _ x hx));omega
 have flatOf:∀e,e∈aj ds->∀x∈aj [e],x∈aj ds:=λe he x hx=>by
  rw[aj,aj,qE]at hx;exact iu _ e he x hx
 obtain⟨rows,erw⟩:∃rows,rows=aH ds++[eU (fw ns) kept ds]:=⟨_,U⟩
 have cas:∀{Pr:Row->Prop},(∀b,(∀e∈aj b,e∈aj ds)->Pr (cy b))->(∀e∈aj ds,Pr (aL e))->Pr (eU (fw ns) kept ds)->∀r∈rows,Pr r:=λh1 h2 h3 r hr=>by
  rw[erw]at hr;rcases qk.mp hr with hr|hr
  .rcases i4 _ r hr with⟨b,rfl,hb⟩|⟨e,he,rfl,_⟩
   .exact h1 b hb
   .exact h2 e he
  .rw[qY.mp hr];exact h3
 have smallA:=cas (Pr:=λr=>r.owns.length<=4000/\r.reads.length<=4000) (λb hb=>⟨fewS b hb,qz _⟩) (λe he=>by
  have fe:=fewS [e] (flatOf e he)
  cases e with
  |cond x t o=>exact⟨fe,qz _⟩
  |whl x b=>exact⟨fe,qz _⟩
  |rep n b=>exact⟨fe,qz _⟩
  |set x a sg b=>exact kT (qF (ja [_]) (by simp))
  |put q x=>exact kT (qF (ja [_]) (by simp))
  |get q x=>exact kT (qF (ja [_]) (by simp))
  |give x=>exact kT (qF (ja [_]) (by simp))) ⟨by
  have:=iw (hJ (dH (fw ns) kept ds)) λx hx=>pc x (eE _ x hx);show(srt _).length<=4000
  omega,qz _⟩
 have rok:=cas (Pr:=mf) (λb hb=>⟨show PyData.strOk ("gate":Str)=true by decide +kernel,λs hs=>(cw s (bk1 s (m7 hb s (eE _ s hs)))).2,λs hs=>(nomatch hs),λq h=>(nomatch h),λq h=>(nomatch h)⟩) (λe he=>AL (λc hc=>(cw c (bk1 c (xY he c hc))).2) λq x h=>j3 (rd q (inR e he q x h)).1) ⟨show PyData.strOk ("end":Str)=true by decide +kernel,λs hs=>(cw s (pc s (eE _ s hs))).2,λs hs=>(nomatch hs),λq h=>(nomatch h),λq h=>(nomatch h)⟩;have oneA:=cas (Pr:=dM) (λb _=>.inl U) (λe _=>vn e) (.inl U)
 have moveA:∀r∈rows,∀q,(r.into=some q\/r.outof=some q)->q∈R':=λr hr q e=>by
  rw[erw]at hr;rcases qk.mp hr with hr|hr
  .exact movesIn inR r hr q e
  .rw[qY.mp hr]at e;rcases e with e|e<;>cases e
 have ndA:=cas (Pr:=λr=>r.owns.Nodup) (λb _=>hJ _) (λe he=>AM e λq' y z=>by
  rw[z,fds]at he;rcases qk.mp he with he|he
  .rcases pD _ he with⟨_,_,z,_⟩|m
   .cases z
   .exact vL _ _ _ (sub y (Fm nm0 Yk Yk _ q' y m))
  .rcases ku he with z|z|z<;>cases z
   exact(wd x xw).2.2) (hJ _)
 have fedA:Fed rows:=by rw[erw];exact fed.snoc U
 have rlA:rows.length<=1000:=by rw[erw,qc,Qd];omega
 have RO:df rows:=by rw[erw]at ndA oneA fedA ⊢;exact AG ndA oneA fedA
 have ssh:∀s∈kept,s.1.length<=1000:=λs hs=>qF (rd s.1 (sm s hs)).2.1 Yk
 obtain⟨vb,hvb,rvb⟩:∃vs,G6 lb=some (.lst vs)/\RDs G6 vs DS:=by
  rw[eD]
  cases rp6.bo with
  |mk h1 h2=>exact⟨_,h1,h2⟩
 refine⟨_,U,_,U,_,U,_,U,_,_,U,U,⟨Yk,Yk⟩,_,U,_,U,_,U,m / 90,L,q,x,U,Yo,Yo,λH7 l7 u7 s7 h7 r7=>?_⟩;have vbl:=rvb.len;have u7l:=r7.len;have dl:=lM DS;have tl:=lM (dO (m / 90) q L x);rw[fds,qc]at hfl;refine⟨lb,l7,_,_,U,U,SqL.of (s7 _ _ hvb),SqL.of h7,bg (m:=5000) Yo,λl8 hl8=>⟨ln3,λpp hpp=>?_⟩⟩;have s8:=a8.new hl8 (.lst (vb++u7));have s9:=a8.new hpp (.tup [.ref la,.ref lk,.ref l8]);have s79:=s8.trans s9;have s69:=s7.trans s79;have rpP:RP (upd (upd H7 l8 (.lst (vb++u7))) pp (.tup [.ref la,.ref lk,.ref l8])) pp (fw ns) kept ds la lk l8 uk:=⟨ag,s69 _ _ rp6.as,s69 _ _ hk,rk.same s69,.mk (s9 _ _ ag) (by rw[eds];exact(RDs.same s69 rvb).app (RDs.same s79 r7))⟩;generalize upd (upd H7 l8 (.lst (vb++u7))) pp (.tup [.ref la,.ref lk,.ref l8])=H9 at s69 rpP;rw[<- qc,<- fds]at hfl;refine⟨pp,la,lk,l8,fw ns,kept,ds,uk,bA W' R',U,rpP,hdp,hfl,Yo,Yo,ssh,pc,c64,λc hc=>(cw c hc).1,rA,Yo,fed,λHA lw us2 sA h2 hr2=>?_⟩;rw[<- erw]at hr2;have rpA:=rpP.same sA;have hkA:=rpA.st;have rkA:=rpA.ro;have kat:∀q n,(q,n)∈kept->aJ (ck (bO kept)) (.inr q)=some (.int n):=λq n h=>zB (by rw[eR];exact kn) h
 have kin:∀q∈R',∃n,(q,n)∈kept:=λq hq=>by
  rw[<- eR]at hq;obtain⟨st,hs,e⟩:=List.mem_map.mp hq;exact⟨st.2,by rw[<- e];exact hs⟩
 have endA:∀r',rows[rows.length-1]?=some r'->r'.outof=none:=λr' h=>(RO.ends r' h).2.1
 have erows:rows=aH DS++(List.replicate (L+1+m / 90 % 3).toNat (aL (.put q x))++cy [.get q x,.put q x]::(reps (1+m / 90 / 3 % 3).toNat (aH [.get q x,.put q x]++[cy [.get q x,.put q x]])++[eU (fw ns) kept ds])):=by
  rw[erw,eds,gF,mC];simp
 obtain⟨W,eW⟩:∃W,dc rows kept (cQ rows rows.length) kept.length=W:=⟨_,U⟩
 have dat:∀(i:Nat)(r:Row),rows[i]?=some r->W[i]?=some (cF rows (eS (ck (bO kept))) i r):=λi r h=>eW ▸
  Eu h (oneA r (qG h)) (by rw[eR];exact kn) spos' (λst hs=>pW (kat st.1 st.2 hs)) (λq e=>kin q (moveA r (qG h) q (.inl e))) (λq e=>kin q (moveA r (qG h) q (.inr e))) λq e=>rT fedA h e
 have wlen:W.length=rows.length:=by rw[<- eW,yb,jZ _ _ (qg _)]
 have dlA:∀r∈rows,∀q,r.into=some q->aJ (ck (bO kept)) (.inr q)=some (.int (eS (ck (bO kept)) q)):=λr hr q e=>by
  obtain⟨n,hn⟩:=kin q (moveA r hr q (.inl e));rw[kat q n hn,pW (kat q n hn)]
 have lq:eS (ck (bO kept)) q=L:=pW (kat q L kq);have mts:=λ{i r} h=>Es (rs:=rows) (ln:=eS (ck (bO kept))) (i:=i) (r:=r) h ndA oneA (λq e=>rT fedA h e) endA;dsimp only[dC];refine⟨_,U,lw,us2,U,.inl (SqL.of h2),λlh hlh=>?_⟩;have q6:=a8.new hlh (.lst us2);have hlh6:upd HA lh (.lst us2) lh=some (.lst us2):=ag;generalize upd HA lh (.lst us2)=HB at q6 hlh6 ⊢;dsimp only[dC];refine⟨_,U,lk,uk,U,.inl (SqL.of (q6 _ _ hkA)),λlr hlr=>?_⟩;have q7:=a8.new hlr (.lst uk);have hlr7:upd HB lr (.lst uk) lr=some (.lst uk):=ag;generalize upd HB lr (.lst uk)=HC at q7 hlr7 ⊢;have q67:=q6.trans q7
 have W9:∀{i r},rows[i]?=some r->(cF rows (eS (ck (bO kept))) i r).length<=9000:=λ{i r} h=>by
  obtain⟨a1,a2⟩:=smallA r (qG h);have b1:=iD (bN (rows.take i)) "card" r.owns;have b2:=iD (bN (rows.take i)) "copy" r.reads;have b3:(dr rows i r).length<=1:=by unfold dr;split<;>simp
  have b4:(dS rows (eS (ck (bO kept))) i r).length<=1:=by
   unfold dS;split
   .split<;>simp
   .simp
  unfold cF da;rw[qc,qc,qc];omega
 have rowAt:∀{i:Nat},i<rows.length->∃r,rows[i]?=some r:=λh=>⟨_,qe h⟩;have dw:∀k r,rows[k]?=some r->wsV W k=cF rows (eS (ck (bO kept))) k r:=λk r h=>by unfold wsV;rw[dat k r h];rfl
 have smW:Sm W 9000:=λi es h=>by
  obtain⟨r,hr'⟩:=rowAt (i:=i) (by have:=(qh.mp h).1;omega);rw[dat i r hr']at h;cases h;exact W9 hr'
 have tgW:Tgt W:=λk e he=>by
  by_cases lt:k<rows.length
  .obtain⟨r,hr'⟩:=rowAt lt;rw[dw k r hr']at he;rw[wlen];exact(mts hr' e he).2
  .unfold wsV at he;rw[Qv Yo]at he;cases he
 dsimp only[dC];refine⟨_,U,_,U,lh,lr,us2,uk,rows,kept,W,U,q7 _ _ hlh6,hr2.same q67,rlA,smallA,hlr7,rkA.same q67,Yo,spos',eW,smW,tgW,Yo,λHD pf lo o zs st s8 hlo I=>?_⟩;rw[wlen]at I;have q68:=q67.trans s8
 have cin:∀c∈[q++(">":Str),q++("<":Str)],c∈(cy [.get q x,.put q x]).owns:=λc hc=>(tR _ c).mpr (by
  simp only[qA,qW,or_false]at hc
  rcases hc with rfl|rfl<;>simp[cards,aj,aa.flat,aa.cards,aa.names,aa.others])
 have m0:=Qg (m / 90) (show(3:Int)≠0 by decide);have nev:=LkI.never erows (ln:=eS (ck (bO kept))) (q:=q) U U U (cin _ (by simp)) (cin _ (by simp)) (λr hr e=>qr (mvD r hr q (.inr e))) (by rw[lq];omega) (by rw[lq];omega) I RO dw;have ol:=gO I.nd I.lt;refine⟨λeo _=>?_,λlp ru ps hpf hlp rp' RG=>?_⟩
 .obtain⟨x1,x2,x3⟩:=nev
  have:=gO (l:=x1::o) (n:=rows.length) (List.nodup_cons.mpr ⟨x3,I.nd⟩) λy hy=>by
   rcases qA.mp hy with rfl|hy
   .exact x2
   .exact I.lt y hy
  rw[qH]at this;omega
 have srows:SeqAt.shaped (.list (rows.map fh))=true:=Ae rok;have erow:PyData.eqv (.list (rows.map fh)) (.list (rows.map fh))=true:=SeqAt.eqv_refl _ (SeqAt.canLay_of_shaped srows);have sst:SeqAt.shaped (.list (kept.map fE))=true:=Ad λst hs=>j3 (rd st.1 (sm st hs)).1;have est:PyData.eqv (.list (kept.map fE)) (.list (kept.map fE))=true:=SeqAt.eqv_refl _ (SeqAt.canLay_of_shaped sst);have dr1:Dt K HD (.ref lh) (.list (rows.map fh)):=.lst (SqL.of (s8 _ _ (q7 _ _ hlh6))) (hr2.same q68).dt;have dr2:Dt K HD (.ref lw) (.list (rows.map fh)):=.lst (SqL.of (q68 _ _ h2)) (hr2.same q68).dt;have ds1:Dt K HD (.ref lr) (.list (kept.map fE)):=.lst (SqL.of (s8 _ _ hlr7)) (rkA.same q68).dt;have ds2:Dt K HD (.ref lk) (.list (kept.map fE)):=.lst (SqL.of (q68 _ _ hkA)) (rkA.same q68).dt;dsimp only[dC];refine⟨_,U,_,U,_,_,dr1,dr2,srows,srows,_,U,ay (by rw[erow];rfl) ?_⟩;refine⟨_,U,_,U,_,_,ds1,ds2,sst,sst,_,U,ay (by rw[est];rfl) ?_⟩;dsimp only[kz];refine⟨_,U,_,_,_,true,U,.tup hpf,U,_,U,ay U ?_⟩;refine⟨_,U,pf,_,U,.inr (SqT.of hpf),U,_,U,ay U ?_⟩;refine⟨_,U,pf,_,_,_,U,U,SqT.of hpf,at0,_,_,_,true,U,.str _,U,_,U,ay U ?_⟩;refine⟨_,U,pf,_,_,_,U,U,SqT.of hpf,at0,U,_,U,ay Yd ?_⟩;dsimp only[kz];refine⟨_,U,lw,us2,rows,U,q68 _ _ h2,hr2.same q68,rlA,smallA,λH9 la1 as s9 hla ra=>?_⟩;have q69:=q68.trans s9;have hk9:=q69 _ _ hkA;have rk9:=rkA.same q69;have kl1:uk.length=(bO kept).length:=by rw[rk9.len];simp[bO]
 have kl2:(bO kept).length<=sizeLine:=bg (m:=100) (by simp[bO];omega);dsimp only[dC];refine⟨_,U,_,U,_,U,lk,uk,bO kept,U,hk9,kl1,kl2,tL rk9,λdl fl=>?_⟩;have hdl:upd H9 dl (.dK (ck (bO kept))) dl=some (.dK (ck (bO kept))):=ag;have q10:=a8.new fl (.dK (ck (bO kept)));generalize upd H9 dl (.dK (ck (bO kept)))=H10 at q10 hdl ⊢;have q8a:=s9.trans q10;have q2a:=q69.trans q10;have LQ:∀{G:Hp}{d:Addr},a8 H10 G->G d=some (.dK (ck (bO kept)))->hG G lw la1 d us2 as rows (ck (bO kept)) (eS (ck (bO kept))):=λsG hd=>⟨sG _ _ (q2a _ _ h2),(hr2.same q2a).same sG,sG _ _ (q10 _ _ hla),sO sG (sO q10 ra),hd,rlA,smallA,dlA⟩;refine⟨_,U,pf,_,_,_,U,U,SqT.of (q8a _ _ hpf),br (j:=1) U,lw,la1,dl,lo,us2,as,rows,_,_,o,U,LQ (a8.refl _) hdl,q8a _ _ hlo,I.nd,Yo,I.oks RO dw,λH11 sx d0 d1 d2 M=>?_⟩;dsimp only[dC];have hpf11:=M.sa _ _ (q8a _ _ hpf);refine⟨_,U,U,_,U,aU U ?_⟩;refine⟨_,U,_,U,_,U,lk,uk,bO kept,U,M.sa _ _ (q10 _ _ hk9),kl1,kl2,tL ((rk9.same q10).same M.sa),λdm fm=>?_⟩;have f10:=a8.none M.sa fm;have q11:=a8.new f10 (.dK (ck (bO kept)));have M2:=M.also (ob:=.dK (ck (bO kept))) fm
 have is:∀p∈ps,∃r,rows[p.1]?=some r/\p.2∈cF rows (eS (ck (bO kept))) p.1 r:=λp hp=>by
  obtain⟨_,pl,z,hz,_⟩:=RG.is p hp;obtain⟨r,hr'⟩:=rowAt (i:=p.1) Yo;exact⟨r,hr',by rw[<- dw p.1 r hr'];exact qG hz⟩
 refine⟨_,U,_,U,pf,_,_,_,U,U,SqT.of (a8.new fm _ _ _ hpf11),U,_,lw,la1,dm,sx,d0,d1,d2,lp,us2,as,ru,rows,_,_,o,ps,U,M2,LQ q11 ag,q11 _ _ (q8a _ _ hlp),(rp'.same q8a).same q11,RG.nd,λp hp=>?_,RG.nx,AQ RO RG.nn is RG.nx,λH'=>k _⟩;obtain⟨po,_,z,hz,z1,z2⟩:=RG.is p hp;obtain⟨r,hr',hm⟩:=is p hp;exact⟨po,r,hr',(mts hr' _ hm).1,jb.room I RO dw hr' po hz z1 z2⟩
end
theorem fM(P:Params)(f:Addr)(st:Stmt){x qual:Str}{oc:Value}{od an:Option Addr}{osl:Array (Option Value)}{kV doc pm cdv ct:Value}(l:(hk P).lookup f=some ⟨oc,od,.func (W.fnOf x qual (gX st) (gB st) (aI st) .none kV doc pm an cdv ct),osl⟩:=by k_is)
 (c:W.codeIn (hk P) cdv qual=true:=by k_is) (k:W.keepIn (hk P) (.ref f)=true:=by k_is):Fun (hk P) x qual st f (W.fnOf x qual (gX st) (gB st) (aI st) .none kV doc pm an cdv ct):=Ee l c k
theorem bU{R:List Value->Prop}(h:∀x0,R [x0]):∀us:List Value,us.length=1->R us
 |[_],_=>h _
theorem d8{R:List Value->Prop}(h:∀x0 x1,R [x0,x1]):∀us:List Value,us.length=2->R us
 |[_,_],_=>h _ _
theorem rC{R:List Value->Prop}(h:∀x0 x1 x2,R [x0,x1,x2]):∀us:List Value,us.length=3->R us
 |[_,_,_],_=>h _ _ _
theorem lN{R:List Value->Prop}(h:∀x0 x1 x2 x3,R [x0,x1,x2,x3]):∀us:List Value,us.length=4->R us
 |[_,_,_,_],_=>h _ _ _ _
theorem rB{R:List Value->Prop}(h:∀x0 x1 x2 x3 x4,R [x0,x1,x2,x3,x4]):∀us:List Value,us.length=5->R us
 |[_,_,_,_,_],_=>h _ _ _ _ _
theorem Dz{R:List Value->Prop}(h:∀x0 x1 x2 x3 x4 x5,R [x0,x1,x2,x3,x4,x5]):∀us:List Value,us.length=6->R us
 |[_,_,_,_,_,_],_=>h _ _ _ _ _ _
theorem mM{P:Params}{h:Heap}{mg:Str->Option Value}{x:Str}{v:Value}(X:(hk P).In h)(G:h.Ns mainGlobals mg)(e:W.nsIn (hk P) mainGlobals x=some (some v):=by k_is):mg x=some v:=W.mg_of X G e
theorem nM{P:Params}{h:Heap}{mg:Str->Option Value}{x:Str}(X:(hk P).In h)(G:h.Ns mainGlobals mg)(e:W.nsIn (hk P) mainGlobals x=some none:=by k_is):mg x=none:=W.mg_none_of X G e
theorem oM{P:Params}{C:Addr}{f:Str}(e:W.findIn (hk P) (.ref C) f=some none:=by k_is):eh (hk P) C f:=e
set_option maxHeartbeats 0 in
theorem Fu{w:World}{h:Heap}{mg:Str->Option Value}{fa:Addr}(X:(hk w.params).In h)(G:h.Ns mainGlobals mg)(hfa:mg "law"=some (.ref fa)):
 ∃fd:FuncData,(∀(s:Shared)(v:Value),BindsTo s fd ⟨[v],[]⟩ [("_law_script",v)])/\∀base:Heap,(hk w.params).In base->base.Ns mainGlobals mg->aN PySem.Challenge.rw_handflow_k24_a_ring_that_waits.prog w (hk w.params) mg base CX0 48 fa fd ["_law_script"] (jh (hk w.params)):=by
 k_fill
 cases hfa.symm.trans (mM (v:=.ref 414) X G);have F0:=fM w.params 21 nq;have b0:=F0.binds (ps:=["deeds","stores"]) λ_ _ _ _ _ _=>d8 λ_ _=>U;have F1:=fM w.params 26 kO;have b1:=F1.binds (ps:=["waits_by_cards","deeds","stores"]) λ_ _ _ _ _ _=>rC λ_ _ _=>U;have F2:=fM w.params 33 nu;have b2:=F2.binds (ps:=["deeds"]) λ_ _ _ _ _ _=>bU λ_=>U;have F3:=fM w.params 38 kN;have b3:=F3.binds (ps:=["cards","kind","owners"]) λ_ _ _ _ _ _=>rC λ_ _ _=>U;have F4:=fM w.params 45 nF;have b4:=F4.binds (ps:=["deeds","place"]) λ_ _ _ _ _ _=>d8 λ_ _=>U;have F5:=fM w.params 57 iU;have b5:=F5.binds (ps:=["self","waits"]) λ_ _ _ _ _ _=>d8 λ_ _=>U;have F6:=fM w.params 64 oA;have b6:=F6.binds (ps:=["self","deed"]) λ_ _ _ _ _ _=>d8 λ_ _=>U;have F7:=fM w.params 71 oy;have b7:=F7.binds (ps:=["self","deed"]) λ_ _ _ _ _ _=>d8 λ_ _=>U;have F8:=fM w.params 78 oz;have b8:=F8.binds (ps:=["self"]) λ_ _ _ _ _ _=>bU λ_=>U;have F9:=fM w.params 92 nH;have b9:=F9.binds (ps:=["deeds","stores"]) λ_ _ _ _ _ _=>d8 λ_ _=>U;have F10:=fM w.params 99 nG;have b10:=F10.binds (ps:=["waits"]) λ_ _ _ _ _ _=>bU λ_=>U;have F11:=fM w.params 108 nR;have b11:=F11.binds (ps:=["block"]) λ_ _ _ _ _ _=>bU λ_=>U;have F12:=fM w.params 115 nQ;have b12:=F12.binds (ps:=["deed"]) λ_ _ _ _ _ _=>bU λ_=>U;have F13:=fM w.params 120 kP;have b13:=F13.binds (ps:=["deed"]) λ_ _ _ _ _ _=>bU λ_=>U;have F14:=fM w.params 127 nB;have b14:=F14.binds (ps:=["deed"]) λ_ _ _ _ _ _=>bU λ_=>U;have F15:=fM w.params 135 nA;have b15:=F15.binds (ps:=["block"]) λ_ _ _ _ _ _=>bU λ_=>U;have F16:=fM w.params 142 nE;have b16:=F16.binds (ps:=["deed"]) λ_ _ _ _ _ _=>bU λ_=>U;have F17:=fM w.params 149 nC;have b17:=F17.binds (ps:=["store"]) λ_ _ _ _ _ _=>bU λ_=>U;have F18:=fM w.params 156 nJ;have b18:=F18.binds (ps:=["store"]) λ_ _ _ _ _ _=>bU λ_=>U;have F19:=fM w.params 163 nP;have b19:=F19.binds (ps:=["program"]) λ_ _ _ _ _ _=>bU λ_=>U;have F20:=fM w.params 214 nK;have b20:=F20.binds (ps:=["program"]) λ_ _ _ _ _ _=>bU λ_=>U;have F21:=fM w.params 221 nN;have b21:=F21.binds (ps:=["block"]) λ_ _ _ _ _ _=>bU λ_=>U;have F22:=fM w.params 228 nj;have b22:=F22.binds (ps:=["block"]) λ_ _ _ _ _ _=>bU λ_=>U;have F23:=fM w.params 235 nh;have b23:=F23.binds (ps:=["rounds","body"]) λ_ _ _ _ _ _=>d8 λ_ _=>U;have F24:=fM w.params 242 ni;have b24:=F24.binds (ps:=["deed"]) λ_ _ _ _ _ _=>bU λ_=>U;have F25:=fM w.params 249 nD;have b25:=F25.binds (ps:=["kind","cards"]) λ_ _ _ _ _ _=>d8 λ_ _=>U;have F26:=fM w.params 256 nO;have b26:=F26.binds (ps:=["deeds"]) λ_ _ _ _ _ _=>bU λ_=>U;have F27:=fM w.params 263 ou;have b27:=F27.binds (ps:=["_law_script","_law_k"]) λ_ _ _ _ _ _=>d8 λ_ _=>U;have F28:=fM w.params 270 oa;have b28:=F28.binds (ps:=["_law_cell","_law_k"]) λ_ _ _ _ _ _=>d8 λ_ _=>U;have F29:=fM w.params 277 nS;have b29:=F29.binds (ps:=["_law_found"]) λ_ _ _ _ _ _=>bU λ_=>U;have F30:=fM w.params 284 og;have b30:=F30.binds (ps:=["_law_number_here","_law_size"]) λ_ _ _ _ _ _=>d8 λ_ _=>U;have F31:=fM w.params 291 nW;have b31:=F31.binds (ps:=["_law_word"]) λ_ _ _ _ _ _=>bU λ_=>U;have F32:=fM w.params 298 nZ;have b32:=F32.binds (ps:=["_law_cell","_law_many"]) λ_ _ _ _ _ _=>d8 λ_ _=>U;have F33:=fM w.params 305 nX;have b33:=F33.binds (ps:=["_law_number_here","_law_names","_law_rooms","_law_shut"]) λ_ _ _ _ _ _=>lN λ_ _ _ _=>U;have F34:=fM w.params 312 o7;have b34:=F34.binds (ps:=["_law_state","_law_number_here","_law_x","_law_most"]) λ_ _ _ _ _ _=>lN λ_ _ _ _=>U;have F35:=fM w.params 319 ox;have b35:=F35.binds (ps:=["_law_cells","_law_names","_law_rooms","_law_most","_law_low"]) λ_ _ _ _ _ _=>rB λ_ _ _ _ _=>U;have F36:=fM w.params 326 o9;have b36:=F36.binds (ps:=["_law_block_here"]) λ_ _ _ _ _ _=>bU λ_=>U;have F37:=fM w.params 333 nY;have b37:=F37.binds (ps:=["_law_moves_here","_law_q"]) λ_ _ _ _ _ _=>d8 λ_ _=>U;have F38:=fM w.params 340 oh;have b38:=F38.binds (ps:=["_law_pick","_law_peak"]) λ_ _ _ _ _ _=>d8 λ_ _=>U;have F39:=fM w.params 345 kR;have b39:=F39.binds (ps:=["_law_script","_law_most"]) λ_ _ _ _ _ _=>d8 λ_ _=>U;have F40:=fM w.params 350 ju;have b40:=F40.binds (ps:=["_law_deeds"]) λ_ _ _ _ _ _=>bU λ_=>U;have F41:=fM w.params 357 oo;have b41:=F41.binds (ps:=["_law_deeds","_law_ahead_here","_law_lengths","_law_state","_law_k"]) λ_ _ _ _ _ _=>rB λ_ _ _ _ _=>U;have F42:=fM w.params 364 oq;have b42:=F42.binds (ps:=["_law_deeds","_law_state","_law_k"]) λ_ _ _ _ _ _=>rC λ_ _ _=>U;have F43:=fM w.params 371 nU;have b43:=F43.binds (ps:=["_law_deeds","_law_ahead_here","_law_lengths","_law_order"]) λ_ _ _ _ _ _=>lN λ_ _ _ _=>U;have F44:=fM w.params 378 o8;have b44:=F44.binds (ps:=["_law_deeds"]) λ_ _ _ _ _ _=>bU λ_=>U;have F45:=fM w.params 385 o6;have b45:=F45.binds (ps:=["_law_pairs","_law_card"]) λ_ _ _ _ _ _=>d8 λ_ _=>U;have F46:=fM w.params 390 kS;have b46:=F46.binds (ps:=["_law_deeds","_law_ahead_here","_law_numbers","_law_lengths","_law_k","_law_wait"]) λ_ _ _ _ _ _=>Dz λ_ _ _ _ _ _=>U;have F47:=fM w.params 397 o1;have b47:=F47.binds (ps:=["_law_one","_law_many"]) λ_ _ _ _ _ _=>d8 λ_ _=>U;have F48:=fM w.params 402 kQ;have b48:=F48.binds (ps:=["_law_deeds","_law_ahead_here","_law_lengths","_law_state","_law_ring"]) λ_ _ _ _ _ _=>rB λ_ _ _ _ _=>U;have F49:=fM w.params 409 nV;have b49:=F49.binds (ps:=["_law_pick","_law_q","_law_length_here","_law_x"]) λ_ _ _ _ _ _=>lN λ_ _ _ _=>U;have F50:=fM w.params 414 fZ;have b50:=F50.binds (ps:=["_law_script"]) λ_ _ _ _ _ _=>bU λ_=>U;have or:(hk w.params).lookup 100=some ⟨.type "tuple",none,.seq #[vs "while" 320,vs "repeat" 321],#[]⟩:=by k_is
 have wE:(hk w.params).lookup 101=some ⟨.type "tuple",none,.seq #[vs "if" 323,vs "while" 324],#[]⟩:=by k_is
 have wP:(hk w.params).lookup 128=some ⟨.type "tuple",none,.seq #[vs "give" 360,vs "while" 361],#[]⟩:=by k_is
 have T:Tx PySem.Challenge.rw_handflow_k24_a_ring_that_waits.prog w (hk w.params) mg (Adr.mk 21 _ 26 _ 33 _ 38 _ 45 _ 57 _ 64 _ 71 _ 78 _ 92 _ 99 _ 108 _ 115 _ 120 _ 127 _ 135 _ 142 _ 149 _ 156 _ 163 _ 214 _ 221 _ 228 _ 235 _ 242 _ 249 _ 256 _ 263 _ 270 _ 277 _ 284 _ 291 _ 298 _ 305 _ 312 _ 319 _ 326 _ 333 _ 340 _ 345 _ 350 _ 357 _ 364 _ 371 _ 378 _ 385 _ 390 _ 397 _ 402 _ 409 _ 414 _ 189 191 100 101 358 128 467 81):=Tx.mk F0 b0 (mM X G) F1 b1 (mM X G) F2 b2 (mM X G) F3 b3 (mM X G) F4 b4 (mM X G) F5 b5 F6 b6 F7 b7 F8 b8 F9 b9 (mM X G) F10 b10 (mM X G) F11 b11 (mM X G) F12 b12 (mM X G) F13 b13 (mM X G) F14 b14 (mM X G) F15 b15 (mM X G) F16 b16 (mM X G) F17 b17 (mM X G) F18 b18 (mM X G) F19 b19 (mM X G) F20 b20 (mM X G) F21 b21 (mM X G) F22 b22 (mM X G) F23 b23 (mM X G) F24 b24 (mM X G) F25 b25 (mM X G) F26 b26 (mM X G) F27 b27 (mM X G) F28 b28 (mM X G) F29 b29 (mM X G) F30 b30 (mM X G) F31 b31 (mM X G) F32 b32 (mM X G) F33 b33 (mM X G) F34 b34 (mM X G) F35 b35 (mM X G) F36 b36 (mM X G) F37 b37 (mM X G) F38 b38 (mM X G) F39 b39 (mM X G) F40 b40 (mM X G) F41 b41 (mM X G) F42 b42 (mM X G) F43 b43 (mM X G) F44 b44 (mM X G) F45 b45 (mM X G) F46 b46 (mM X G) F47 b47 (mM X G) F48 b48 (mM X G) F49 b49 (mM X G) F50 b50 (mM X G) (nM X G) (nM X G) (nM X G) (nM X G) (nM X G) (nM X G) (nM X G) (nM X G) (nM X G) (nM X G) (nM X G) (nM X G) (nM X G) (nM X G) (nM X G) (nM X G) (mM X G) (mM X G) (mM X G) (λ_=>.inr ⟨_,_,_,or,U,U,Yk,.cons ⟨_,U⟩ (.cons ⟨_,U⟩ (.nil))⟩) (mM X G) (λ_=>.inr ⟨_,_,_,wE,U,U,Yk,.cons ⟨_,U⟩ (.cons ⟨_,U⟩ (.nil))⟩) (mM X G) (mM X G) (λ_=>.inr ⟨_,_,_,wP,U,U,Yk,.cons ⟨_,U⟩ (.cons ⟨_,U⟩ (.nil))⟩) (mM X G) (mM X G) (Cls.mk (by k_is) (by k_is) (by k_is) (by k_is)) (Mk.mk (by k_is) (by k_is) (by k_is) (by k_is)) (fU.mk (by k_is) (by k_is) (by k_is)) (fU.mk (by k_is) (by k_is) (by k_is)) (fU.mk (by k_is) (by k_is) (by k_is)) oM oM oM oM oM;exact⟨_,λs v=>.of_eq U,λbase _ _=>Cs T⟩
theorem yH{l:W.OpenLaw}{q:Program}{loose:List Str}{XP:(Str->Option Value)->Heap->Prop}{YP:World->Heap->Prop}{d:DefRec}{K:Params->W.Frag}(hn:l.most=some 63)(hdf:d.params.defaults=[])
 (hY:∀(w:World)(h:Heap),YP w h->(K w.params).In h)
 (F:∀(w:World)(mg:Str->Option Value)(fa:Addr)(h:Heap),(K w.params).In h->h.Ns mainGlobals mg->mg d.name=some (.ref fa)->
  ∃fd:FuncData,(∀(s:Shared)(u:Value),BindsTo s fd ⟨[u],[]⟩ [("_law_script",u)])/\∀base:Heap,(K w.params).In base->base.Ns mainGlobals mg->aN l.prog w (K w.params) mg base CX0 48 fa fd ["_law_script"] (jh (K w.params))):
 W.WalkO q loose XP YP l.row.toRowW d [] (λf vs=>PySem.call f vs):=
 L2.yG (n:=63) (k:=48) (x:="_law_script") (CX:=λ_=>CX0) (sp:=λw=>jh (K w.params)) hn Yk hdf ⟨U,Yk,Yk,U⟩ hY F (λ_ _ a ns hl hb hO hS=>⟨a,ns,U,hS,hl,hb,hO,λ_=>U⟩) λ_ _ _ _ _ z=>z
noncomputable def Ey:PySem.DefRec:=⟨"law",gX fZ,gB fZ,aI fZ,defPos fZ⟩
theorem xf{p:Program}{w:World}{A:Option Value}:∀{m:Nat}{x x':W.SharedT}{y:Thread},goT p w A m x y=some x'->W.topRun PySem.treeTable p w 11 A m x.abs y=some x'.abs
 |0,_,_,_,h=>nomatch h
 |m+1,x,x',y,h=>by
  unfold goT at h;unfold W.topRun
  cases a:W.through y with
  |true=>rw[a]at h;cases h;rfl
  |false=>
   rw[a]at h
   cases b:W.stepOk 11 A y with
   |false=>rw[b]at h;cases h
   |true=>
    rw[b]at h
    cases c:W.stepT (denote PySem.treeTable) p w x y with
    |none=>rw[c]at h;cases h
    |some z=>rw[c]at h;rw[W.stepT_spec c];exact xf h
theorem DA{p q:Program}{loose:List Str}{Xt:Shared->Bool}{α:Type}{Yf:Shared->α}{Ya:World->α}{N:Nat}(e:W.opening p=W.plainProg p.main.scope.names)(hN:Nat.ble 600 N=true)(f:∀s,fenceModules? p s=some s)
 (H:∀w,EndsT p q loose Xt Yf Ya N w):W.LeftO p q loose Xt Yf Ya N:=λw=>by
 obtain⟨⟨h,gs,d,k,os⟩,u,u'⟩:=qV.mp (W.boot_open e hN f w);obtain⟨rfl,rfl,rfl,rfl⟩:h=W.boot_heap w.params/\gs=#[]/\d=W.boot_drawn/\k=W.boot_toks:=by simpa using u'
 obtain⟨s,r,l⟩:=qV.mp (H w os);have r:=xf r;rw[bs_is]at r;obtain⟨l1,l2,l3⟩:_/\_/\_:=by simpa only[Prod.mk.injEq]using l
 have z1:((W.boot_heap w.params).isNs mainGlobals && (#[]:Array GenState).size == 0)=true:=by kernel_rfl
 have z2:(W.boot_heap w.params).objs.size=11:=by kernel_rfl
 have t:W.topFrom PySem.treeTable p w N ⟨W.boot_heap w.params,#[],W.boot_drawn,W.boot_toks,os⟩=some s.abs:=by
  unfold W.topFrom;dsimp only;rw[z1,z2,r];show(match W.staticsOk (PySem.importedModules p.main.body) (W.boot_heap w.params) s.abs.heap && W.namesBound p s.abs.heap && W.gensDone s.abs && W.laidKept (W.boot_heap w.params) s.abs.heap with|true=>_|false=>_)=_;rw[l1]
 unfold W.openEnds;rw[u];show(W.topFrom PySem.treeTable p w N _).map _=_;rw[t];exact congrArg some (Prod.ext l2 l3)
set_option maxHeartbeats 0 in
theorem left:W.LeftO PySem.Challenge.pw_handflow_k24_a_ring_that_waits vw [] xt hkH.obs hkH.val 5258:=DA (by kernel_rfl) Yk (λ_=>by kernel_rfl) leftF
end K24
open PySem PySem.W PyProof.Rows
set_option maxRecDepth 100000 in
set_option maxHeartbeats 0 in
theorem PySem.Challenge.cw_handflow_k24_a_ring_that_waits_holds : PySem.Challenge.rw_handflow_k24_a_ring_that_waits.Holds := by
 w_on;refine holds_law K24.said fun said=>?_
 refine holds_open (q:=K24.vw) (loose:=[]) (Xt:=K24.xt) (XP:=XL K24.vw []) (Yf:=Hook.obs K24.hkH) (Ya:=Hook.val K24.hkH) (YP:=Hook.says K24.hkH) (d:=K24.Ey) (kwd:=[]) (N:=5258) K24.left (Hook.of K24.hkH) (Hook.keeps K24.hkH) (fun s e=>xl_of s (Bool.and_eq_true_iff.mp e).1) XL.keeps (by kernel_rfl) (by kernel_rfl) (by kernel_rfl) (fun s e=>recFacts_of (Bool.and_eq_true_iff.mp e).2) (by rfl) (by first|assumption|decide +kernel) (by decide +kernel) ⟨rfl,rfl,rfl,rfl,rfl,by decide +kernel⟩ ?hw ?hc
 (case hw=>w_witness2)
 refine K24.yH (l:=PySem.Challenge.rw_handflow_k24_a_ring_that_waits) rfl (by kernel_rfl) (K:=K24.hk) (fun w h X0=>PySem.W.kIn_of (K:=K24.hk) (as:=K24.hks) (e:=K24.hk_as) X0) ?F
 case F=>exact fun w mg fa h X G e=>K24.Fu X G e
