import PyProof.Rows.All
import Wide.All
import OpenK.AllK
import Wide.FinOn
import Lean
import PyProof.EqAt
import PyProof.EqKinds
import PyProof.TupleCall
import PySem.Challenge.RW_handflow_k28_whole_any_next_deed
set_option Elab.async false
set_option maxRecDepth 100000
variable {α κ:Type}{C I a b dx f it:PySem.Addr}{u:PySem.Value}{P prog:PySem.Program}{w:PySem.World}{base h h':PySem.Heap}{c name nm qual x:PySem.Str}{e tg:PySem.Expr}{pins pins':List (PySem.Addr×PySem.Obj)}{s s':PySem.Shared}{g g':Array PySem.GenState}{ac bc ep i j kk lo n t':Nat}{ch fp ow:List PySem.Addr}{N Nc loose ps rooms sn ys:List PySem.Str}{M:PySem.Model}{A:PySem.Around}{E Q:PySem.Value->PySem.Shared->Prop}{t:PySem.SetTable}{R:List PySem.Value->Prop}{apos cpos pos pos':PySem.Pos}{items xs:Array PySem.Value}{K:PySem.W.Frag}{st:Nat->List Nat}{es:Array (Int×PySem.Value)}{body:List PySem.Stmt}{p:Nat->Bool}{bm its sub us:List PySem.Value}{mA mg:PySem.Str->Option PySem.Value}{ns:List Int}{kw:List (PySem.Str×PySem.Value)}{env:PySem.Env}{outer:List PySem.Env}{fd:PySem.FuncData}{scope:PySem.Scope}{osl:Array (Option PySem.Value)}{zs:Nat->Nat}{B:Prop}{cells:List (PySem.Str×PySem.Addr)}{elts ifs:List PySem.Expr}{js:List Nat}{XP:(PySem.Str->Option PySem.Value)->PySem.Heap->Prop}{YP:PySem.World->PySem.Heap->Prop}{ab b1 b2 hdct shut:Bool}{k0 k1 k2 k3 k5:Option PySem.Value}{col:Option Bool}{dd:Option PySem.Addr}{newId:String}{oe:PySem.Obj}{G:Array PySem.GenState->Array PySem.GenState->Prop}{most:Int}{m':PySem.Str->List Int}{ln:PySem.Str->Int}
abbrev LS:=List PySem.Str
abbrev LI:=List Int
abbrev LL:=List PySem.Value
abbrev LD:=Array PySem.Value
abbrev LO:=Option PySem.Value
abbrev LK:=List PySem.Addr
abbrev LG:=List Nat
abbrev LF:=List (PySem.Str×Int)
abbrev LP:=PySem.Value->PySem.Shared->Prop
abbrev LR:=List PySem.Expr
set_option linter.all false
set_option genSizeOf false
local macro_rules|`(tactic|omega)=>`(tactic|lia)
local macro_rules|`(tactic|exists $x,*)=>`(tactic|refine⟨$x,*, ?_⟩)
theorem U{b:Sort u}{a:b}:a=a:=rfl
theorem Oi{p:Prop}{b:Sort u}{a:b}:a=a\/p:=.inl rfl
theorem Oy{d:Sort u}{e:Sort v}{c:Sort w}{f:d->e->c}:∀a b,f a b=f a b:=λ_ _=>rfl
section
open PySem PySem.Spec PyProof.Rows PySem.W
theorem Yd{p:Prop}(h:p:=by decide +kernel):p:=h
theorem Yk{p:Prop}(h:p:=by decide):p:=h
theorem Yo{p:Prop}(h:p:=by omega):p:=h
abbrev Yq:=Value->Shared->Prop
def q9:=@wpAny_bind
def qa:=@List.length_map
def qb:=@Heap.get?_push_of_some
def qc:=@List.length_append
def qd:=@List.getElem?_eq_getElem
def qe:=@wpAny_pure
def qf:=@Nat.le_refl
def qg:=@List.getElem?_eq_some_iff
def qh:=@PySem.F.plainAttrs_list
def qi:=@List.mem_append
def qk:=@Bool.false_ne_true
def qo:=@List.getD_eq_getElem?_getD
def qp:=@List.mem_cons_of_mem
def qq:=@List.mem_cons_self
def qr:=@Heap.get?_push_size
def qt:=@Heap.lt_size
def qu:=@List.take_add_one
def qv:=@Nat.zero_le
def qw:=@List.mem_cons
def qy:=@PySem.F.slot_list_append
def qz:=@PySem.F.type_list_append
def qA:=@List.append_nil
def qC:=@Nat.le_trans
def qD:=@List.mem_of_getElem?
def qE:=@List.length_cons
def qF:=@List.size_toArray
def qG:=@Nat.lt_of_lt_of_le
def qH:=@List.getElem?_map
def qI:=@List.flatMap_cons
def qJ:=@Nat.ne_of_lt
def qK:=@List.take_length
def qL:=@List.mem_append_right
def qM:=@Option.some.inj
def qN:=@List.length_take
def qO:=@List.getElem?_append_right
def qP:=@Array.length_toList
def qQ:=@List.append_assoc
def qR:=@List.map_append
def qS:=@Option.map_eq_some_iff
def qT:=@List.not_mem_nil
def qU:=@List.map_cons
def qV:=@List.mem_singleton
def qW:=@Array.getElem?_toList
def qX:=@List.flatMap_append
def qY:=@List.mem_append_left
def qZ:=@wpAny_setState_of
def Q0:=@Int.toNat_natCast
def Q3:=@List.length_drop
def Q4:=@if_neg
def Q5:=@if_pos
def Q6:=@decide_eq_true
def Q7:=@decide_eq_false
def Q8:=@absurd
def Q9:=@List.getElem?_append_left
def Qa:=@List.length_singleton
def Qb:=@PySem.boot_len
def Qc:=@List.find?_cons
def Qd:=@Int.emod_nonneg
def Qe:=@Nat.lt_succ_self
def Qf:=@Nat.lt_irrefl
def Qg:=@of_decide_eq_true
def Qh:=@List.length_range
def Qi:=@Int.emod_lt_of_pos
def Qj:=@Heap.size_push
def Qk:=@Heap.get?_update_self
def Ql:=@PySem.mem_of_lookup
def Qm:=@wpAny_call_entry
def Qn:=@Bool.false_eq_true
def Qo:=@List.nil_append
def Qp:=@List.cons_append
def Qq:=@PySem.F.type_list_extend
def Qr:=@PySem.F.slot_list_extend
def Qs:=@List.getElem?_eq_none
def Qt:=@Nat.lt_succ_of_lt
def Qu:=@List.pairwise_singleton
def Qv:=@List.filter_append
def Qw:=@Heap.get?_update_other
def Qx:=@List.take_append_drop
def Qy:=@wpAny_holding
def Qz:=@wpAny_seqItems
def QA:=@PySem.W.kia_one
def QB:=@Nat.not_lt_zero
def QC:=@List.foldl_cons
def QD:=@List.length_dropLast
end
namespace L2
open PySem PySem.Spec PyProof.Rows PySem.W
def inClass(s:Stmt)(j:Nat):Stmt:=match s with
 |.ClassDef _ _ _ body _ _ _ _ _ _ _=>body.getD j (.Pass ⟨0,0,0,0⟩)
 |_=>.Pass ⟨0,0,0,0⟩
def gX(s:Stmt):Arguments:=match s with
 |.FunctionDef _ a _ _ _ _ _ _ _ _=>a
 |_=>{ posonlyargs:=[],args:=[],vararg:=none,kwonlyargs:=[],kw_defaults:=[],kwarg:=none,defaults:=[] }
def gq(s:Stmt):List Stmt:=match s with
 |.FunctionDef _ _ b _ _ _ _ _ _ _=>b
 |_=>[]
def aH(s:Stmt):Scope:=match s with
 |.FunctionDef _ _ _ _ _ _ F _ _ _=>F
 |_=>{ kind:=.function,names:=[],isGenerator:=false,isCoroutine:=false }
end L2
namespace K28
open PySem L2
set_option maxHeartbeats 0 in
theorem said:PySem.W.OpenLaw.wellSaid PySem.Challenge.rw_handflow_k28_whole_any_next_deed=true:=by kernel_rfl
def top(i:Nat):Stmt:=PySem.Challenge.pw_handflow_k28_whole_any_next_deed.main.body.getD i (.Pass ⟨0,0,0,0⟩)
noncomputable def defPos(s:Stmt):Pos:=match s with
 |.FunctionDef _ _ _ _ _ _ _ _ _ p=>p
 |_=>⟨0,0,0,0⟩
abbrev vs(x:String)(t:Nat):Value:=.str (Str.ofString x) t
abbrev de(P:Params)(x:String)(t:Nat)(v:Value):DictEntry:=⟨PyData.keyHash P (Str.ofString x),vs x t,v⟩
abbrev co(a b:String)(t l n r:Nat)(x y z u:Value)(m:Nat):Obj:=Obj.mk (.type "code") none (Data.fields #[vs a t,vs b (t+1),vs "/claim/cut.py" (t+2),.int l 0,.int n 0,.int 0 0,.int 0 0,.int 3 0,.ref r,.bool true,.int 181 0,.ref (r+1),x,y,z,u,.int m 0,.int l 0,vs "/claim/cut.py" (m+1)]) #[]
abbrev fo(a b:String)(s:Stmt)(m:String)(t c:Nat):Obj:=Obj.mk (.type "function") none (.func (PySem.W.fnOf a b (gX s) (gq s) (aH s) .none .none .none (vs m t) none (.ref c) .none)) #[]
noncomputable def hk:Params->PySem.W.Frag:=λP=>
 (nat_lit 2,Obj.mk .none none (Data.dict #[]) #[]) ::
 (nat_lit 3,Obj.mk (.type "dict") none (Data.dict #[de P "__name__" 165 (vs "law_handflow_k28_whole_any_next_deed" 532),de P "__doc__" 166 .none,de P "__package__" 167 .none,de P "__loader__" 168 (.builtin "__main__.__loader__#opaque"),de P "__spec__" 169 .none,de P "__annotations__" 170 (.ref 6),de P "__builtins__" 171 (.ref 4),de P "__file__" 173 (vs "/claim/cut.py" 172),de P "__cached__" 174 .none,de P "INTO" 190 (.int 3 189),de P "OUT_OF" 192 (.int 4 191),de P "waits_of" 200 (.ref 21),de P "waits_behind" 206 (.ref 26),de P "waits_for_cards" 218 (.ref 33),de P "waits_by" 224 (.ref 38),de P "numbers_by_store" 235 (.ref 45),de P "Looking" 300 (.ref 81),de P "looked" 308 (.ref 92),de P "looked_through" 317 (.ref 99),de P "LOOPS" 322 (.ref 100),de P "LOOKERS" 325 (.ref 101),de P "all_deeds" 335 (.ref 108),de P "blocks_within" 342 (.ref 115),de P "names_in" 348 (.ref 120),de P "read_by_set" 355 (.ref 127),de P "OUTLET" 359 (vs ">" 358),de P "OUTLET_KEEPERS" 362 (.ref 128),de P "touched" 371 (.ref 135),de P "other_cards_in" 378 (.ref 142),de P "put_card" 385 (.ref 149),de P "get_card" 392 (.ref 156),de P "cards_of" 402 (.ref 163),de P "FlowError" 432 (.ref 180),de P "Starved" 448 (.ref 193),de P "TooMuch" 464 (.ref 205),de P "MOST_DEEDS" 468 (.int 2000 467),de P "deeds_of" 476 (.ref 214),de P "counted" 485 (.ref 221),de P "written" 494 (.ref 228),de P "written_rounds" 503 (.ref 235),de P "written_once" 511 (.ref 242),de P "owner_of" 519 (.ref 249),de P "check_gets" 531 (.ref 256),de P "_law_cell_at" 541 (.ref 263),de P "_law_mixed" 550 (.ref 270),de P "_law_whole" 557 (.ref 277),de P "_law_letters" 568 (.ref 284),de P "_law_spelt" 576 (.ref 291),de P "_law_pool" 593 (.ref 298),de P "_law_simple" 608 (.ref 305),de P "_law_opened" 626 (.ref 312),de P "_law_block" 643 (.ref 319),de P "_law_moves" 654 (.ref 326),de P "_law_reach" 667 (.ref 333),de P "_law_length" 675 (.ref 340),de P "_law_program" 681 (.ref 345),de P "_law_ahead" 687 (.ref 350),de P "_law_lacks" 701 (.ref 357),de P "_law_do" 712 (.ref 364),de P "_law_next" 726 (.ref 371),de P "_law_left" 732 (.ref 376),de P "law" 738 (.ref 381)] 62) #[]) ::
 (nat_lit 20,co "waits_of" "waits_of" 193 4 2 15 .none (.ref 17) (.ref 18) (.ref 19) 198) ::
 (nat_lit 21,fo "waits_of" "waits_of" (top 3) "handflow.waits" 187 20) ::
 (nat_lit 25,co "waits_behind" "waits_behind" 201 6 3 22 .none .none .none (.ref 24) 204) ::
 (nat_lit 26,fo "waits_behind" "waits_behind" (top 4) "handflow.waits" 187 25) ::
 (nat_lit 32,co "waits_for_cards" "waits_for_cards" 207 19 1 27 .none (.ref 29) (.ref 30) (.ref 31) 216) ::
 (nat_lit 33,fo "waits_for_cards" "waits_for_cards" (top 5) "handflow.waits" 187 32) ::
 (nat_lit 37,co "waits_by" "waits_by" 219 27 3 34 .none .none .none (.ref 36) 222) ::
 (nat_lit 38,fo "waits_by" "waits_by" (top 6) "handflow.waits" 187 37) ::
 (nat_lit 44,co "numbers_by_store" "numbers_by_store" 225 29 2 39 .none (.ref 41) (.ref 42) (.ref 43) 233) ::
 (nat_lit 45,fo "numbers_by_store" "numbers_by_store" (top 7) "handflow.waits" 187 44) ::
 (nat_lit 56,co "__init__" "Looking.__init__" 250 38 2 53 .none .none .none (.ref 55) 253) ::
 (nat_lit 57,fo "__init__" "Looking.__init__" (inClass (top 9) 0) "handflow.looker" 236 56) ::
 (nat_lit 63,co "look_at" "Looking.look_at" 256 45 2 58 .none (.ref 60) (.ref 61) (.ref 62) 264) ::
 (nat_lit 64,fo "look_at" "Looking.look_at" (inClass (top 9) 1) "handflow.looker" 236 63) ::
 (nat_lit 70,co "stopped_by" "Looking.stopped_by" 267 57 2 65 .none (.ref 67) (.ref 68) (.ref 69) 274) ::
 (nat_lit 71,fo "stopped_by" "Looking.stopped_by" (inClass (top 9) 2) "handflow.looker" 236 70) ::
 (nat_lit 77,co "ring" "Looking.ring" 277 66 1 72 .none (.ref 74) (.ref 75) (.ref 76) 285) ::
 (nat_lit 78,fo "ring" "Looking.ring" (inClass (top 9) 3) "handflow.looker" 236 77) ::
 (nat_lit 79,Obj.mk (.type "tuple") none (Data.seq #[vs "finished" 288,vs "order" 289,vs "over" 290,vs "stuck" 291,vs "waits" 292]) #[]) ::
 (nat_lit 80,Obj.mk (.type "dict") none (Data.dict #[de P "__module__" 245 (vs "handflow.looker" 236),de P "__firstlineno__" 249 (.int 36 248),de P "__init__" 255 (.ref 57),de P "look_at" 266 (.ref 64),de P "stopped_by" 276 (.ref 71),de P "ring" 287 (.ref 78),de P "__static_attributes__" 293 (.ref 79),de P "__dict__" 295 (.ref 82),de P "__weakref__" 297 (.ref 83),de P "__doc__" 298 .none] 4) #[]) ::
 (nat_lit 81,Obj.mk (.type "type") none (Data.cls (ClassData.mk (Str.ofString "Looking") [.type "object"] [.ref 81,.type "object"] 80 (Str.ofString "Looking") true [] [] false none false)) #[none,none,some (vs "Looking" 238),some (vs "Looking" 246),some (.builtin "object.__new__"),some (.bool true)]) ::
 (nat_lit 82,Obj.mk (.type "getset_descriptor") none (Data.fields #[vs "__dict__" 294,.ref 81,.builtin "function.__dict__",.builtin "function.__dict__#set"]) #[]) ::
 (nat_lit 83,Obj.mk (.type "getset_descriptor") none (Data.fields #[vs "__weakref__" 296,.ref 81,.builtin "ExceptionGroup.__weakref__",.none]) #[]) ::
 (nat_lit 91,co "looked" "looked" 301 76 2 86 .none (.ref 88) (.ref 89) (.ref 90) 306) ::
 (nat_lit 92,fo "looked" "looked" (top 10) "handflow.looker" 236 91) ::
 (nat_lit 98,co "looked_through" "looked_through" 309 78 1 93 .none (.ref 95) (.ref 96) (.ref 97) 315) ::
 (nat_lit 99,fo "looked_through" "looked_through" (top 11) "handflow.looker" 236 98) ::
 (nat_lit 100,Obj.mk (.type "tuple") none (Data.seq #[vs "while" 320,vs "repeat" 321]) #[]) ::
 (nat_lit 101,Obj.mk (.type "tuple") none (Data.seq #[vs "if" 323,vs "while" 324]) #[]) ::
 (nat_lit 107,co "all_deeds" "all_deeds" 326 88 1 102 .none (.ref 104) (.ref 105) (.ref 106) 333) ::
 (nat_lit 108,fo "all_deeds" "all_deeds" (top 15) "handflow.tree" 318 107) ::
 (nat_lit 114,co "blocks_within" "blocks_within" 336 95 1 109 .none (.ref 111) (.ref 112) (.ref 113) 340) ::
 (nat_lit 115,fo "blocks_within" "blocks_within" (top 16) "handflow.tree" 318 114) ::
 (nat_lit 119,co "names_in" "names_in" 343 101 1 116 .none .none .none (.ref 118) 346) ::
 (nat_lit 120,fo "names_in" "names_in" (top 17) "handflow.tree" 318 119) ::
 (nat_lit 126,co "read_by_set" "read_by_set" 349 108 1 121 .none (.ref 123) (.ref 124) (.ref 125) 353) ::
 (nat_lit 127,fo "read_by_set" "read_by_set" (top 18) "handflow.tree" 318 126) ::
 (nat_lit 128,Obj.mk (.type "tuple") none (Data.seq #[vs "give" 360,vs "while" 361]) #[]) ::
 (nat_lit 134,co "touched" "touched" 363 113 1 129 .none (.ref 131) (.ref 132) (.ref 133) 369) ::
 (nat_lit 135,fo "touched" "touched" (top 22) "handflow.cards" 356 134) ::
 (nat_lit 141,co "other_cards_in" "other_cards_in" 372 119 1 136 .none (.ref 138) (.ref 139) (.ref 140) 376) ::
 (nat_lit 142,fo "other_cards_in" "other_cards_in" (top 23) "handflow.cards" 356 141) ::
 (nat_lit 148,co "put_card" "put_card" 379 125 1 143 .none (.ref 145) (.ref 146) (.ref 147) 383) ::
 (nat_lit 149,fo "put_card" "put_card" (top 24) "handflow.cards" 356 148) ::
 (nat_lit 155,co "get_card" "get_card" 386 127 1 150 .none (.ref 152) (.ref 153) (.ref 154) 390) ::
 (nat_lit 156,fo "get_card" "get_card" (top 25) "handflow.cards" 356 155) ::
 (nat_lit 162,co "cards_of" "cards_of" 393 129 1 157 .none (.ref 159) (.ref 160) (.ref 161) 400) ::
 (nat_lit 163,fo "cards_of" "cards_of" (top 26) "handflow.cards" 356 162) ::
 (nat_lit 164,Obj.mk (.type "tuple") none (Data.seq #[.type "ValueError"]) #[]) ::
 (nat_lit 176,co "__init__" "FlowError.__init__" 417 137 3 171 .none (.ref 173) (.ref 174) (.ref 175) 423) ::
 (nat_lit 177,fo "__init__" "FlowError.__init__" (inClass (top 28) 0) "handflow.errors" 403 176) ::
 (nat_lit 178,Obj.mk (.type "tuple") none (Data.seq #[vs "place" 426]) #[]) ::
 (nat_lit 179,Obj.mk (.type "dict") none (Data.dict #[de P "__module__" 412 (vs "handflow.errors" 403),de P "__firstlineno__" 416 (.int 135 415),de P "__init__" 425 (.ref 177),de P "__static_attributes__" 427 (.ref 178),de P "__weakref__" 429 (.ref 181),de P "__doc__" 430 .none] 3) #[]) ::
 (nat_lit 180,Obj.mk (.type "type") none (Data.cls (ClassData.mk (Str.ofString "FlowError") [.type "ValueError"] [.ref 180,.type "ValueError",.type "Exception",.type "BaseException",.type "object"] 179 (Str.ofString "FlowError") true [] [.ref 193,.ref 205] false none false)) #[some (.ref 164),none,some (vs "FlowError" 405),some (vs "FlowError" 413),some (.builtin "ValueError.__new__"),some (.bool true)]) ::
 (nat_lit 181,Obj.mk (.type "getset_descriptor") none (Data.fields #[vs "__weakref__" 428,.ref 180,.builtin "ExceptionGroup.__weakref__",.none]) #[]) ::
 (nat_lit 184,Obj.mk (.type "tuple") none (Data.seq #[.ref 180]) #[]) ::
 (nat_lit 191,Obj.mk (.type "tuple") none (Data.seq #[]) #[]) ::
 (nat_lit 192,Obj.mk (.type "dict") none (Data.dict #[de P "__module__" 440 (vs "handflow.errors" 403),de P "__firstlineno__" 444 (.int 140 443),de P "__static_attributes__" 445 (.ref 191),de P "__doc__" 446 .none] 2) #[]) ::
 (nat_lit 193,Obj.mk (.type "type") none (Data.cls (ClassData.mk (Str.ofString "Starved") [.ref 180] [.ref 193,.ref 180,.type "ValueError",.type "Exception",.type "BaseException",.type "object"] 192 (Str.ofString "Starved") true [] [] false none false)) #[some (.ref 184),none,some (vs "Starved" 433),some (vs "Starved" 441),some (.builtin "ValueError.__new__"),some (.bool true)]) ::
 (nat_lit 196,Obj.mk (.type "tuple") none (Data.seq #[.ref 180]) #[]) ::
 (nat_lit 203,Obj.mk (.type "tuple") none (Data.seq #[]) #[]) ::
 (nat_lit 204,Obj.mk (.type "dict") none (Data.dict #[de P "__module__" 456 (vs "handflow.errors" 403),de P "__firstlineno__" 460 (.int 142 459),de P "__static_attributes__" 461 (.ref 203),de P "__doc__" 462 .none] 2) #[]) ::
 (nat_lit 205,Obj.mk (.type "type") none (Data.cls (ClassData.mk (Str.ofString "TooMuch") [.ref 180] [.ref 205,.ref 180,.type "ValueError",.type "Exception",.type "BaseException",.type "object"] 204 (Str.ofString "TooMuch") true [] [] false none false)) #[some (.ref 196),none,some (vs "TooMuch" 449),some (vs "TooMuch" 457),some (.builtin "ValueError.__new__"),some (.bool true)]) ::
 (nat_lit 213,co "deeds_of" "deeds_of" 469 146 1 208 .none (.ref 210) (.ref 211) (.ref 212) 474) ::
 (nat_lit 214,fo "deeds_of" "deeds_of" (top 33) "handflow.deeds" 465 213) ::
 (nat_lit 220,co "counted" "counted" 477 153 1 215 .none (.ref 217) (.ref 218) (.ref 219) 483) ::
 (nat_lit 221,fo "counted" "counted" (top 34) "handflow.deeds" 465 220) ::
 (nat_lit 227,co "written" "written" 486 159 1 222 .none (.ref 224) (.ref 225) (.ref 226) 492) ::
 (nat_lit 228,fo "written" "written" (top 35) "handflow.deeds" 465 227) ::
 (nat_lit 234,co "written_rounds" "written_rounds" 495 167 2 229 .none (.ref 231) (.ref 232) (.ref 233) 501) ::
 (nat_lit 235,fo "written_rounds" "written_rounds" (top 36) "handflow.deeds" 465 234) ::
 (nat_lit 241,co "written_once" "written_once" 504 172 1 236 .none (.ref 238) (.ref 239) (.ref 240) 509) ::
 (nat_lit 242,fo "written_once" "written_once" (top 37) "handflow.deeds" 465 241) ::
 (nat_lit 248,co "owner_of" "owner_of" 512 183 2 243 .none (.ref 245) (.ref 246) (.ref 247) 517) ::
 (nat_lit 249,fo "owner_of" "owner_of" (top 38) "handflow.deeds" 465 248) ::
 (nat_lit 255,co "check_gets" "check_gets" 520 185 1 250 .none (.ref 252) (.ref 253) (.ref 254) 529) ::
 (nat_lit 256,fo "check_gets" "check_gets" (top 39) "handflow.deeds" 465 255) ::
 (nat_lit 262,co "_law_cell_at" "_law_cell_at" 534 197 2 257 .none (.ref 259) (.ref 260) (.ref 261) 539) ::
 (nat_lit 263,fo "_law_cell_at" "_law_cell_at" (top 41) "law_handflow_k28_whole_any_next_deed" 532 262) ::
 (nat_lit 269,co "_law_mixed" "_law_mixed" 542 201 2 264 .none (.ref 266) (.ref 267) (.ref 268) 548) ::
 (nat_lit 270,fo "_law_mixed" "_law_mixed" (top 42) "law_handflow_k28_whole_any_next_deed" 532 269) ::
 (nat_lit 276,co "_law_whole" "_law_whole" 551 204 1 271 .none (.ref 273) (.ref 274) (.ref 275) 555) ::
 (nat_lit 277,fo "_law_whole" "_law_whole" (top 43) "law_handflow_k28_whole_any_next_deed" 532 276) ::
 (nat_lit 283,co "_law_letters" "_law_letters" 558 206 2 278 .none (.ref 280) (.ref 281) (.ref 282) 566) ::
 (nat_lit 284,fo "_law_letters" "_law_letters" (top 44) "law_handflow_k28_whole_any_next_deed" 532 283) ::
 (nat_lit 290,co "_law_spelt" "_law_spelt" 569 213 1 285 .none (.ref 287) (.ref 288) (.ref 289) 574) ::
 (nat_lit 291,fo "_law_spelt" "_law_spelt" (top 45) "law_handflow_k28_whole_any_next_deed" 532 290) ::
 (nat_lit 297,co "_law_pool" "_law_pool" 577 218 2 292 .none (.ref 294) (.ref 295) (.ref 296) 591) ::
 (nat_lit 298,fo "_law_pool" "_law_pool" (top 46) "law_handflow_k28_whole_any_next_deed" 532 297) ::
 (nat_lit 304,co "_law_simple" "_law_simple" 594 237 4 299 .none (.ref 301) (.ref 302) (.ref 303) 606) ::
 (nat_lit 305,fo "_law_simple" "_law_simple" (top 47) "law_handflow_k28_whole_any_next_deed" 532 304) ::
 (nat_lit 311,co "_law_opened" "_law_opened" 609 252 4 306 .none (.ref 308) (.ref 309) (.ref 310) 624) ::
 (nat_lit 312,fo "_law_opened" "_law_opened" (top 48) "law_handflow_k28_whole_any_next_deed" 532 311) ::
 (nat_lit 318,co "_law_block" "_law_block" 627 276 5 313 .none (.ref 315) (.ref 316) (.ref 317) 641) ::
 (nat_lit 319,fo "_law_block" "_law_block" (top 49) "law_handflow_k28_whole_any_next_deed" 532 318) ::
 (nat_lit 325,co "_law_moves" "_law_moves" 644 293 1 320 .none (.ref 322) (.ref 323) (.ref 324) 652) ::
 (nat_lit 326,fo "_law_moves" "_law_moves" (top 50) "law_handflow_k28_whole_any_next_deed" 532 325) ::
 (nat_lit 332,co "_law_reach" "_law_reach" 655 303 2 327 .none (.ref 329) (.ref 330) (.ref 331) 665) ::
 (nat_lit 333,fo "_law_reach" "_law_reach" (top 51) "law_handflow_k28_whole_any_next_deed" 532 332) ::
 (nat_lit 339,co "_law_length" "_law_length" 668 313 2 334 .none (.ref 336) (.ref 337) (.ref 338) 673) ::
 (nat_lit 340,fo "_law_length" "_law_length" (top 52) "law_handflow_k28_whole_any_next_deed" 532 339) ::
 (nat_lit 344,co "_law_program" "_law_program" 676 319 2 341 .none .none .none (.ref 343) 679) ::
 (nat_lit 345,fo "_law_program" "_law_program" (top 53) "law_handflow_k28_whole_any_next_deed" 532 344) ::
 (nat_lit 349,co "_law_ahead" "_law_ahead" 682 336 1 346 .none .none .none (.ref 348) 685) ::
 (nat_lit 350,fo "_law_ahead" "_law_ahead" (top 54) "law_handflow_k28_whole_any_next_deed" 532 349) ::
 (nat_lit 356,co "_law_lacks" "_law_lacks" 688 345 5 351 .none (.ref 353) (.ref 354) (.ref 355) 699) ::
 (nat_lit 357,fo "_law_lacks" "_law_lacks" (top 55) "law_handflow_k28_whole_any_next_deed" 532 356) ::
 (nat_lit 363,co "_law_do" "_law_do" 702 358 3 358 .none (.ref 360) (.ref 361) (.ref 362) 710) ::
 (nat_lit 364,fo "_law_do" "_law_do" (top 56) "law_handflow_k28_whole_any_next_deed" 532 363) ::
 (nat_lit 370,co "_law_next" "_law_next" 713 367 6 365 .none (.ref 367) (.ref 368) (.ref 369) 724) ::
 (nat_lit 371,fo "_law_next" "_law_next" (top 57) "law_handflow_k28_whole_any_next_deed" 532 370) ::
 (nat_lit 375,co "_law_left" "_law_left" 727 373 3 372 .none .none .none (.ref 374) 730) ::
 (nat_lit 376,fo "_law_left" "_law_left" (top 58) "law_handflow_k28_whole_any_next_deed" 532 375) ::
 (nat_lit 380,co "law" "law" 733 388 1 377 .none .none .none (.ref 379) 736) ::
 (nat_lit 381,fo "law" "law" (top 59) "law_handflow_k28_whole_any_next_deed" 532 380) ::
 []
noncomputable def hks:LK:=[2,3,20,21,25,26,32,33,37,38,44,45,56,57,63,64,70,71,77,78,79,80,81,82,83,91,92,98,99,100,101,107,108,114,115,119,120,126,127,128,134,135,141,142,148,149,155,156,162,163,164,176,177,178,179,180,181,184,191,192,193,196,203,204,205,213,214,220,221,227,228,234,235,241,242,248,249,255,256,262,263,269,270,276,277,283,284,290,291,297,298,304,305,311,312,318,319,325,326,332,333,339,340,344,345,349,350,356,357,363,364,370,371,375,376,380,381]
theorem hk_as:∀P,hks=(hk P).map (·.1):=λ_=>by kernel_rfl
noncomputable def vw:Program:=PySem.W.view PySem.Challenge.pw_handflow_k28_whole_any_next_deed [1,2,3,4,5,6,7,9,10,11,13,14,15,16,17,18,20,21,22,23,24,25,26,28,29,30,32,33,34,35,36,37,38,39,41,42,43,44,45,46,47,48,49,50,51,52,53,54,55,56,57,58,59]
noncomputable def hkH:PySem.W.Hook:=PySem.W.kHook hk hks hk_as
noncomputable def xt(s:Shared):Bool:=PySem.W.xlAt vw [] s && PySem.W.recOk (PySem.W.RowW.records (PySem.W.OpenRow.toRowW (PySem.W.OpenLaw.row PySem.Challenge.rw_handflow_k28_whole_any_next_deed))) s
noncomputable def bt(P:Params):PySem.W.BT:=(.node (PySem.W.boot_o_0 P) (.node (PySem.W.boot_o_1 P) (.node (PySem.W.boot_o_3 P) (.node (PySem.W.boot_o_7 P) .nil .nil) .nil) (.node (PySem.W.boot_o_5 P) (.node (PySem.W.boot_o_9 P) .nil .nil) .nil)) (.node (PySem.W.boot_o_2 P) (.node (PySem.W.boot_o_4 P) (.node (PySem.W.boot_o_8 P) .nil .nil) .nil) (.node (PySem.W.boot_o_6 P) (.node (PySem.W.boot_o_10 P) .nil .nil) .nil)))
theorem bt_is(P:Params):PySem.W.absHeap (bt P) 11 {}=PySem.W.boot_heap P:=by kernel_rfl
noncomputable def bs(P:Params)(os:OsState):PySem.W.SharedT:=⟨bt P,11,{},#[],PySem.W.boot_drawn,PySem.W.boot_toks,os⟩
theorem bs_is(P:Params)(os:OsState):(bs P os).abs=⟨PySem.W.boot_heap P,#[],PySem.W.boot_drawn,PySem.W.boot_toks,os⟩:=by
 unfold bs PySem.W.SharedT.abs;rw[bt_is]
def goT(p:Program)(w:World)(A:LO):Nat->PySem.W.SharedT->Thread->Option PySem.W.SharedT
 |0,_,_=>none
 |m+1,x,y=>match PySem.W.through y with
  |true=>some x
  |false=>match PySem.W.stepOk 11 A y with
   |false=>none
   |true=>match PySem.W.stepT (denote PySem.treeTable) p w x y with
    |none=>none
    |some (x',y')=>goT p w A m x' y'
noncomputable abbrev annB(w:World):LO:=(PySem.W.boot_heap w.params).nsMap mainGlobals "__annotations__"
def EndsT(p q:Program)(loose:LS)(Xt:Shared->Bool)(Yf:Shared->α)(Ya:World->α)(N:Nat)(w:World):Prop:=
 ∀os:OsState,(goT p w (annB w) N (bs w.params os) (PySem.W.topStub p)).map (λs=>(PySem.W.staticsOk (PySem.importedModules p.main.body) (PySem.W.boot_heap w.params) s.abs.heap && PySem.W.namesBound p s.abs.heap && PySem.W.gensDone s.abs && PySem.W.laidKept (PySem.W.boot_heap w.params) s.abs.heap,PySem.W.openSeen q loose (PySem.importedModules p.main.body) Xt true s.abs,Yf s.abs))=some (true,PySem.W.openGood q loose,Ya w)
set_option maxHeartbeats 0 in
theorem leftF:∀w:World,EndsT PySem.Challenge.pw_handflow_k28_whole_any_next_deed vw [] xt hkH.obs hkH.val 4954 w:=λw os=>by kernel_rfl
end K28
namespace L2
open PySem PySem.Spec PyProof.Rows
abbrev Key:=Sum Int Str
noncomputable def j2:Key->Value->Bool
 |.inl k,v=>Value.isInt k v
 |.inr x,v=>Value.isStrOf x v
noncomputable def EK(w:World):Key->Int
 |.inl k=>hashInt k
 |.inr x=>hashStr w x
theorem gi:∀{k:Key}{v:Value},j2 k v=true->(∃i t,k=Sum.inl i/\v=Value.int i t)\/(∃x t,k=Sum.inr x/\v=Value.str x t)
 |.inl i,v,h=>by
  obtain⟨t,e⟩:=Value.isInt_shape (k:=i) (v:=v) h;exact .inl ⟨i,t,U,e⟩
 |.inr x,v,h=>by
  obtain⟨t,e⟩:=Value.isStrOf_shape (x:=x) (v:=v) h;exact .inr ⟨x,t,U,e⟩
theorem EJ(i:Int)(t:Tok):j2 (.inl i) (.int i t)=true:=by simp[j2,Value.isInt]
theorem EI(x:Str)(t:Tok):j2 (.inr x) (.str x t)=true:=by simp[j2,Value.isStrOf]
theorem EH(a b:Int):decide ((Sum.inl a:Key)=Sum.inl b)=(a == b):=by
 by_cases e:a=b
 .subst e;simp
 .have h:¬ (Sum.inl a:Key)=Sum.inl b:=λq=>e (Sum.inl.inj q);rw[Q7 h];exact(beq_eq_false_iff_ne.mpr e).symm
theorem EE(a b:Str):decide ((Sum.inr a:Key)=Sum.inr b)=decide (a=b):=by
 by_cases e:a=b
 .subst e;simp
 .have h:¬ (Sum.inr a:Key)=Sum.inr b:=λq=>e (Sum.inr.inj q);rw[Q7 h,Q7 e]
theorem EG(a:Int)(b:Str):decide ((Sum.inl a:Key)=Sum.inr b)=false:=Q7 (λq=>nomatch q)
theorem EF(a:Str)(b:Int):decide ((Sum.inr a:Key)=Sum.inl b)=false:=Q7 (λq=>nomatch q)
noncomputable def d9(prog:Program)(w:World):PySem.KeyKind prog w Key where
 is:=j2
 hash:=EK w
 inj:=λv a b ha hb=>by
  rcases gi ha with⟨i,t,rfl,rfl⟩|⟨x,t,rfl,rfl⟩
  .rcases gi hb with⟨j,u,rfl,e⟩|⟨y,u,rfl,e⟩
   .injection e with e1 _;rw[e1]
   .exact nomatch e
  .rcases gi hb with⟨j,u,rfl,e⟩|⟨y,u,rfl,e⟩
   .exact nomatch e
   .injection e with e1 _;rw[e1]
 byValue:=λk v h=>by
  rcases gi h with⟨i,t,rfl,rfl⟩|⟨x,t,rfl,rfl⟩<;>rfl
 pyHash:=λF h=>by
  rcases gi F with⟨i,t,rfl,rfl⟩|⟨x,t,rfl,rfl⟩
  .exact wpAny_pyHash_int h
  .exact wpAny_pyHash_str h
 eqBool:=λJ F h=>by
  rcases gi J with⟨i,t,rfl,rfl⟩|⟨x,t,rfl,rfl⟩
  .rcases gi F with⟨j,u,rfl,rfl⟩|⟨y,u,rfl,rfl⟩
   .rw[EH]at h;exact wpAny_eqBool_int h
   .rw[EG]at h;exact SeqAt.EqAt.int_str i t y u _ _ _ _ h
  .rcases gi F with⟨j,u,rfl,rfl⟩|⟨y,u,rfl,rfl⟩
   .rw[EF]at h;exact SeqAt.EqAt.str_int x t j u _ _ _ _ h
   .rw[EE]at h;exact wpAny_eqBool_str h
 «strs»:=λk x t v h=>by
  rcases gi h with⟨i,u,rfl,e⟩|⟨y,u,rfl,e⟩
  .exact nomatch e
  .injection e with e1 _;subst e1;cases v<;>rfl
theorem E6(prog:Program)(w:World)(i:Int)(t:Tok):(d9 prog w).is (.inl i) (.int i t)=true:=EJ i t
theorem E5(prog:Program)(w:World)(x:Str)(t:Tok):(d9 prog w).is (.inr x) (.str x t)=true:=EI x t
inductive V where
 |non|bl (b:Bool)|int (i:Int)|str (x:Str)|byt (b:Array UInt8)|flt (b:UInt64)|ref (a:Addr)|ty (n:String)
 deriving DecidableEq
def aB:V->Value->Prop
 |.non,u=>u=Value.none
 |.bl b,u=>u=Value.bool b
 |.int i,u=>∃t,u=Value.int i t
 |.str x,u=>∃t,u=Value.str x t
 |.byt b,u=>∃t,u=Value.bytes b t
 |.flt b,u=>∃t,u=Value.float b t
 |.ref a,u=>u=Value.ref a
 |.ty n,u=>u=Value.type n
abbrev ax:List V->LL->Prop:=Paired aB
theorem ax.length{xs:List V}{us:LL}(r:ax xs us):xs.length=us.length:=Paired.length r
theorem ax.get:∀{xs:List V}{us:LL}{i:Nat}{x:V},ax xs us->xs[i]?=some x->∃u,us[i]?=some u/\aB x u
 |_,_,_,_,.nil,e=>by simp at e
 |_,_,0,_,.cons r _,e=>by simp at e;subst e;exact⟨_,U,r⟩
 |_,_,i+1,x,.cons _ t,e=>by
  obtain⟨u,h1,h2⟩:=ax.get (i:=i) (x:=x) t (by simpa using e);exact⟨u,by simpa using h1,h2⟩
theorem ax.set{x:V}{u:Value}(r:aB x u):∀{xs:List V}{us:LL}(i:Nat),ax xs us->ax (xs.set i x) (us.set i u)
 |_,_,_,.nil=>.nil
 |_,_,0,.cons _ t=>.cons r t
 |_,_,i+1,.cons q t=>.cons q (ax.set r i t)
theorem ax.append:∀{xs ys:List V}{us a:LL},ax xs us->ax ys a->ax (xs++ys) (us++a)
 |_,_,_,_,.nil,s=>s
 |_,_,_,_,.cons r t,s=>.cons r (ax.append t s)
theorem ax.take:∀{xs:List V}{us:LL}(n:Nat),ax xs us->ax (xs.take n) (us.take n)
 |_,_,0,_=>.nil
 |_,_,_+1,.nil=>.nil
 |_,_,n+1,.cons r t=>.cons r (ax.take n t)
theorem ax.drop:∀{xs:List V}{us:LL}(n:Nat),ax xs us->ax (xs.drop n) (us.drop n)
 |_,_,0,r=>r
 |_,_,_+1,.nil=>.nil
 |_,_,n+1,.cons _ t=>ax.drop n t
def cu:Option V->LO->Prop
 |some v,some u=>aB v u
 |none,none=>True
 |_,_=>False
def KV:List (κ×V)->List (κ×Value)->Prop:=Paired λ(p:κ×V)(q:κ×Value)=>p.1=q.1/\aB p.2 q.2
noncomputable def kV:Key->V
 |.inl i=>.int i
 |.inr x=>.str x
inductive HO where
 |lst (xs:List V)
 |tup (xs:List V)
 |dK (kvs:List (Key×V))|dT (kvs:List (List Key×V))
 |set (S:Int->Bool) (n:Nat)
 |ins (C dx:Addr) (fs:List (Str×V))
 |own (x:Addr)
 |xd (fs:List (Str×V))
 |met (f x:Addr)
 |rng (lo hi:Int)
 |frz (o:Obj) (u:HO)
 |tbl (ps:LD)
 |ext (φ:Heap->Prop)
abbrev Hp:=Addr->Option HO
noncomputable def upd(H:Hp)(a:Addr)(o:HO):Hp:=λb=>if b=a then some o else H b
theorem ah{H:Hp}{o:HO}:upd H a o a=some o:=by unfold upd;rw[Q5 U]
theorem ag{H:Hp}{o:HO}(h:b≠a):upd H a o b=H b:=by unfold upd;rw[Q4 h]
theorem wW{H:Hp}{o u:HO}(h:H a=some o)(h':H b=some u)(d:o≠u):a≠b:=by
 intro e;subst e;rw[h]at h';exact d (qM h')
theorem cy{H:Hp}{o:HO}(h:H a=some o)(h':H b=none):a≠b:=by
 intro e;subst e;rw[h]at h';cases h'
section
variable (P:Program) (w:World)
def bJ(H:Hp)(h:Heap)(a:Addr):HO->Prop
 |.lst xs=>xs.length<=sizeLine/\∃(its:LL)(n:Nat),ax xs its/\h.get? a=some { cls:=.type "list",data:=.seq its.toArray n }
 |.tup xs=>(xs.length<=sizeLine/\∃ob,h.get? a=some ob/\ob.dict=none)/\∃its:LL,ax xs its/\IsTup h a its.toArray
 |.dK kvs=>kvs.length<=sizeLine/\(a == sysModules)=false/\∃vs,KV kvs vs/\h.DictOf (d9 P w) a vs
 |.dT kvs=>kvs.length<=sizeLine/\(a == sysModules)=false/\∃xs:List (List Key×Addr×Value),
  Paired (λ(p:List Key×V)(q:List Key×Addr×Value)=>p.1=q.1/\H q.2.1=some (.tup (p.1.map kV))/\aB p.2 q.2.2) kvs xs /\
  ∃o es ep,h.get? a=some o/\o.ExactDict/\o.data=.dict es ep/\es.toList=xs.map (entryOfKey (tupleKind (d9 P w)))/\(xs.map (·.1)).Nodup
 |.set S n=>h.SetOf (intKind P w) a S n
 |.ins C dx fs=>H dx=some (.own a)/\fs.length<=1000/\dx≠a/\h.get? a=some (PySem.W.instObj C dx) /\
  ∃mA,h.Ns1 dx mA/\(∀f,cu (fs.lookup f) (mA f))/\PySem.Within mA (fs.map (·.1))
 |.own _=>∃o,h.get? a=some o
 |.xd fs=>∃mA,h.Ns1 a mA/\∀f,cu (fs.lookup f) (mA f)
 |.rng lo hi=>∃t u v,h.get? a=some { cls:=.type "range",data:=.fields #[.int lo t,.int hi u,.int 1 v] }
 |.frz o u=>h.get? a=some o/\bJ H h a u
 |.tbl ps=>h.get? a=some { cls:=.none,data:=.fields ps }
 |.met f x=>h.get? a=some (PySem.W.methodObj (.ref f) (.ref x))
 |.ext F=>F h/\(∃o,h.get? a=some o)/\∀h1 h2:Heap,F h1->(∀o,h1.get? a=some o->h2.get? a=some o)->F h2
def HOk(H:Hp)(h:Heap):Prop:=∀a o,H a=some o->bJ P w H h a o
end
section
variable {H H':Hp}{o:HO}
theorem bJ.lt(x:bJ P w H h a o):a<h.objs.size:=by
 cases o with
 |lst xs=>obtain⟨_,_,_,_,e⟩:=x;exact qt e
 |tup xs=>obtain⟨_,_,_,p⟩:=x;exact p.lt
 |dK b=>obtain⟨_,_,_,_,o,_,_,e,_⟩:=x;exact qt e
 |dT b=>obtain⟨_,_,_,_,o,_,_,e,_⟩:=x;exact qt e
 |set S n=>obtain⟨o,_,_,_,e,_⟩:=x;exact qt e
 |ins C _ fs=>obtain⟨_,_,_,e,_⟩:=x;exact qt e
 |own y=>obtain⟨_,e⟩:=x;exact qt e
 |xd fs=>obtain⟨_,⟨_,_,_,e,_⟩,_⟩:=x;exact qt e
 |rng _ _=>obtain⟨_,_,_,e⟩:=x;exact qt e
 |frz ob u=>obtain⟨e,_⟩:=x;exact qt e
 |tbl ps=>exact qt (show h.get? a=some _ from x)
 |met f y=>exact qt (show h.get? a=some _ from x)
 |ext _=>obtain⟨_,⟨_,e⟩,_⟩:=x;exact qt e
theorem Paired.mapP{c d:Type}{F G:c->d->Prop}:∀{l₁:List c}{l₂:List d},Paired F l₁ l₂->(∀a b,F a b->G a b)->Paired G l₁ l₂
 |_,_,.nil,_=>.nil
 |_,_,.cons r t,f=>.cons (f _ _ r) (Paired.mapP t f)
theorem bJ.stay(x:bJ P w H h a o)(k:∀b u,(b=a\/H b=some (.own a))->h.get? b=some u->h'.get? b=some u)
 (A:∀b,H b=some (.own a)->H' b=some (.own a)) (ht:∀b xs,H b=some (.tup xs)->H' b=some (.tup xs)):bJ P w H' h' a o:=by
 induction o with
 |lst xs=>obtain⟨z,i,n,r,e⟩:=x;exact⟨z,i,n,r,k _ _ (.inl U) e⟩
 |tup xs=>obtain⟨⟨z,od,m,nd⟩,i,r,ob,e,c⟩:=x;exact⟨⟨z,od,k _ _ (.inl U) m,nd⟩,i,r,ob,k _ _ (.inl U) e,c⟩
 |dK l=>obtain⟨z,y,vs,r,ob,es,g,e,c⟩:=x;exact⟨z,y,vs,r,ob,es,g,k _ _ (.inl U) e,c⟩
 |dT l=>
  obtain⟨z,y,xs,r,ob,es,g,e,c⟩:=x;exact⟨z,y,xs,Paired.mapP r λp q z=>⟨z.1,ht _ _ z.2.1,z.2.2⟩,ob,es,g,k _ _ (.inl U) e,c⟩
 |set S n=>obtain⟨ob,es,g,t,e,c⟩:=x;exact⟨ob,es,g,t,k _ _ (.inl U) e,c⟩
 |ins C _ fs=>
  obtain⟨d,z,ne,e,j,⟨od,es,g,B,c⟩,r⟩:=x;exact⟨A _ d,z,ne,k _ _ (.inl U) e,j,⟨od,es,g,k _ _ (.inr d) B,c⟩,r⟩
 |own y=>obtain⟨ob,e⟩:=x;exact⟨ob,k _ _ (.inl U) e⟩
 |xd fs=>obtain⟨j,⟨od,es,g,e,c⟩,r⟩:=x;exact⟨j,⟨od,es,g,k _ _ (.inl U) e,c⟩,r⟩
 |rng _ _=>obtain⟨t,u,v,e⟩:=x;exact⟨t,u,v,k _ _ (.inl U) e⟩
 |frz ob u s=>obtain⟨e,q⟩:=x;exact⟨k _ _ (.inl U) e,s q⟩
 |tbl ps=>
  have e:h.get? a=some { cls:=.none,data:=.fields ps }:=x;show h'.get? a=some { cls:=.none,data:=.fields ps };exact k a _ (.inl U) e
 |met f y=>
  have e:h.get? a=some (PySem.W.methodObj (.ref f) (.ref y)):=x;show h'.get? a=some (PySem.W.methodObj (.ref f) (.ref y));exact k a _ (.inl U) e
 |ext _=>obtain⟨p,⟨o,e⟩,st⟩:=x;exact⟨st _ _ p λo q=>k _ _ (.inl U) q,⟨o,k _ _ (.inl U) e⟩,st⟩
theorem HOk.lt(x:HOk P w H h)(e:H a=some o):a<h.objs.size:=(x a o e).lt
theorem HOk.fresh(x:HOk P w H h)(e:h.objs.size<=a):H a=none:=by
 cases q:H a with
 |none=>rfl
 |some u=>exact Q8 (qG (x.lt q) e) (Qf _)
theorem HOk.kept(x:HOk P w H h)(k:∀b u,h.get? b=some u->h'.get? b=some u):HOk P w H h':=λa o e=>
 (x a o e).stay (λb u _ q=>k b u q) (λ_ q=>q) λ_ _ q=>q
theorem HOk.laid(x:HOk P w H h)(k:∀b u,h.get? b=some u->h'.get? b=some u)(d:h.objs.size<=a)(new:bJ P w (upd H a o) h' a o):HOk P w (upd H a o) h':=λb u e=>by
 have hn:=x.fresh d;by_cases hb:b=a
 .subst hb;rw[ah]at e;cases e;exact new
 .rw[ag hb]at e;exact(x b u e).stay (λc v _ q=>k c v q) (λc q=>by rwa[ag (cy q hn)]) λc xs q=>by rwa[ag (cy q hn)]
end
def Rd(H:Hp)(a:Addr)(u:HO):Prop:=H a=some u\/∃o,H a=some (.frz o u)
theorem Rd.ok{H:Hp}{u:HO}(r:Rd H a u)(x:HOk P w H h):bJ P w H h a u:=by
 rcases r with r|⟨o,r⟩
 .exact x a u r
 .obtain⟨_,q⟩:=x a _ r;exact q
def Mut:Option HO->Prop
 |some (.lst _)=>True
 |some (.dK _)=>True
 |some (.dT _)=>True
 |some (.set _ _)=>True
 |some (.ins _ _ _)=>True
 |some (.ext _)=>True
 |_=>False
section
variable {H:Hp}{x e:Addr}{o':HO}
theorem HOk.write(ok:HOk P w H h)(d:Mut (H x))(i:e=x\/H e=some (.own x))(k:∀b u,b≠e->h.get? b=some u->h'.get? b=some u)(l:∃u,h'.get? e=some u)
 (new:bJ P w (upd H x o') h' x o'):HOk P w (upd H x o') h':=λb u q=>by
 have a:∀c y,H c=some (.own y)->c≠x:=λc y r z=>by subst z;rw[r]at d;exact d
 have g:∀c xs,H c=some (.tup xs)->c≠x:=λc xs r z=>by subst z;rw[r]at d;exact d
 by_cases hb:b=x
 .subst hb;rw[ah]at q;cases q;exact new
 .rw[ag hb]at q;by_cases hbe:b=e
  .have j:H b=some (.own x):=by
    rcases i with z|z
    .exact Q8 (hbe.trans z) hb
    .rwa[hbe]
   rw[q]at j;cases j;obtain⟨v,m⟩:=l;exact⟨v,by rwa[hbe]⟩
  .refine(ok b u q).stay (λc v f r=>k c v ?_ r) (λc r=>by rwa[ag (a c b r)]) λc xs r=>by rwa[ag (g c xs r)]
   rcases f with rfl|f
   .exact hbe
   .rintro rfl;rcases i with z|z
    .exact a c b f z
    .rw[f]at z;cases z;exact hb U
end
structure Un(fs ex:LK)(H H':Hp)(h h':Heap):Prop where
 keep:∀b o,h.get? b=some o->H b=none->b∉fs->b∉ex->h'.get? b=some o
 slot:∀b o,h.get? b=some o->H b=none->b∈fs->b∉ex->∃sl,h'.get? b=some { o with slots:=sl }
 free:∀b o,h.get? b=some o->H b=none->b∉ex->H' b=none
 there:∀b o,h.get? b=some o->b∉ex->∃o',h'.get? b=some o'
 tups:∀b xs,H b=some (.tup xs)->H' b=some (.tup xs)
 frzs:∀b o u,H b=some (.frz o u)->H' b=some (.frz o u)
 tbls:∀b ps,H b=some (.tbl ps)->∃more,H' b=some (.tbl (ps++more))
section
variable {fs fs' ex ex':LK}{H H1 H2:Hp}{h1 h2:Heap}{x e:Addr}{o:HO}
theorem Un.any(u:Un fs ex H H1 h h1){ob:Obj}(q:h.get? b=some ob)(n:H b=none)(a:b∉ex):∃sl,h1.get? b=some { ob with slots:=sl }:=by
 by_cases hb:b∈fs
 .exact u.slot b ob q n hb a
 .exact⟨ob.slots,u.keep b ob q n hb a⟩
theorem Un.kept(k:∀b u,h.get? b=some u->h'.get? b=some u):Un fs ex H H h h':=
 ⟨λb ob q _ _ _=>k b ob q,λb ob q _ _ _=>⟨ob.slots,k b ob q⟩,λ_ _ _ n _=>n,λb ob q _=>⟨ob,k b ob q⟩,λ_ _ q=>q,λ_ _ _ q=>q,λ_ ps q=>⟨#[],by rw[q];simp⟩⟩
theorem Un.refl:Un fs ex H H h h:=Un.kept λ_ _ q=>q
theorem Un.laid(k:∀b u,h.get? b=some u->h'.get? b=some u)(c:h.objs.size<=a)(hn:H a=none):Un fs ex H (upd H a o) h h' where
 keep:=λb u q _ _ _=>k b u q
 slot:=λb u q _ _ _=>⟨u.slots,k b u q⟩
 free:=λb u q n _=>by rwa[ag (qJ (qG (qt q) c))]
 there:=λb u q _=>⟨u,k b u q⟩
 tups:=λb xs q=>by rwa[ag (cy q hn)]
 frzs:=λb u xs q=>by rwa[ag (cy q hn)]
 tbls:=λb ps q=>⟨#[],by rw[ag (cy q hn),q];simp⟩
theorem Un.write(a:Mut (H x))(g:e=x\/H e=some (.own x))(k:∀b u,b≠e->h.get? b=some u->h'.get? b=some u)(d:∃u,h'.get? e=some u):Un fs ex H (upd H x o) h h':=by
 have f:∀b,H b=none->b≠x:=λb n z=>by subst z;rw[n]at a;exact a
 have hb:∀b,H b=none->b≠e:=λb n z=>by
  subst z;rcases g with r|r
  .exact f b n r
  .rw[n]at r;cases r
 have c:∀b u,H b=some u->¬ Mut (some u)->b≠x:=λb u q nm z=>by subst z;rw[q]at a;exact nm a
 refine⟨λb u q n _ _=>k b u (hb b n) q,λb u q n _ _=>⟨u.slots,k b u (hb b n) q⟩,λb u q n _=>by rwa[ag (f b n)],λb u q _=>?_,
  λb xs q=>by rwa[ag (c b _ q λz=>z)],λb u xs q=>by rwa[ag (c b _ q λz=>z)],λb ps q=>⟨#[],by rw[ag (c b _ q λz=>z),q];simp⟩⟩
 by_cases hbe:b=e
 .subst hbe;exact d
 .exact⟨u,k b u hbe q⟩
end
noncomputable def trk(h:Heap)(H:Hp):LK:=(List.range h.objs.size).filter λa=>(H a).isSome
noncomputable def gn(h:Heap)(H:Hp):Heap:=PySem.W.hideAll h (trk h H)
theorem Fe(h:Heap)(H:Hp):(gn h H).objs.size=h.objs.size:=PySem.W.hideAll_size _ _
theorem Ff{H:Hp}{o:Obj}(e:h.get? b=some o)(n:H b=none):(gn h H).get? b=some o:=
 PySem.W.hideAll_get _ e λa=>by
  have q:(H b).isSome=true:=(List.mem_filter.mp a).2;rw[n]at q;simp at q
theorem DT{H:Hp}{o:Obj}(e:(gn h H).get? b=some o):h.get? b=some o/\H b=none:=by
 have a:h.get? b=some o:=PySem.W.of_hideAll (trk h H) e;exists a
 cases q:H b with
 |none=>rfl
 |some x=>
  have c:b∈trk h H:=List.mem_filter.mpr ⟨List.mem_range.mpr (qt a),by simp[q]⟩;have z:(gn h H).get? b=none:=PySem.W.hideAll_none (trk h H) c;rw[z]at e;cases e
end L2
variable {H H' H0:L2.Hp}{y:L2.V}{dvs:List L2.V}{kvs:List (L2.Key×L2.V)}{cn:List L2.HO}
abbrev LV:=List L2.V
abbrev LN:=List (L2.Key×L2.V)
abbrev LC:=Option L2.V
namespace L2
open PySem PySem.Spec PyProof.Rows
structure Mod(K:W.Frag)(mg:Str->LO)(base:Heap):Prop where
 kin:K.In base
 glob:base.Ns mainGlobals mg
 blt:∃mb,base.Ns builtinsNs mb/\∀x:Str,x≠"__name__"->mb x=bootBuiltins x
 nolimit:base.NoLimit
structure Cx where
 prog:Program
 w:World
 K:W.Frag
 mg:Str->LO
 base:Heap
 A:Around
 N:LS
 s₀:Shared
 H₀:Hp
 env:Env
 outer:List Env
 stack:List Env
 ex:LK
 fn:Str->Bool
 calm:Bool
 pn:List (Addr×Obj)
 xe:LP
noncomputable def frs(l:List Env):LK:=l.filterMap (·.frame)
noncomputable abbrev Cx.fs(X:Cx):LK:=frs X.outer
def Vis(F:Scope)(x:Str):Prop:=F.names.lookup x=some .local\/F.names.lookup x=some .cell\/F.names.lookup x=some .free
def Loc(F:Scope)(x:Str):Prop:=F.names.lookup x=some .local\/F.names.lookup x=some .cell
def GU(env:Env)(h:Heap)(m:Str->LO)(x:Str)(u:Value):Prop:=
 (env.kindOf x=some .local/\m x=some u)\/((env.kindOf x=some .cell\/env.kindOf x=some .free)/\∃c,env.cells.lookup x=some c/\h.IsCell c (some u))
structure Cx.Ok(X:Cx):Prop where
 mod:Mod X.K X.mg X.base
 kind:X.env.scope.kind=.function
 glob:X.env.globals=mainGlobals
 blt:X.env.builtins=builtinsNs
 above:X.s₀.heap.objs.size<=X.env.locals
 inj:∀x y c,X.env.cells.lookup x=some c->X.env.cells.lookup y=some c->x=y
 has:∀x,(X.env.kindOf x=some .cell\/X.env.kindOf x=some .free)->∃c,X.env.cells.lookup x=some c
 cab:∀x c,X.fn x=true->X.env.cells.lookup x=some c->X.s₀.heap.objs.size<=c
 hd:X.calm=true->X.A.handled=none
 frames:X.A.frames=some X.stack
 stk:X.stack=X.outer\/(X.stack=X.env::X.outer/\X.env.frame=some X.env.locals)
 exf:∀b∈X.ex,b≠X.env.locals/\∀x c,X.env.cells.lookup x=some c->c≠b
 bs:∀b o,X.base.get? b=some o->X.s₀.heap.get? b=some o/\X.H₀ b=none
 bsz:X.base.objs.size<=X.s₀.heap.objs.size
 noex:∀b o,X.base.get? b=some o->b∉X.ex
 exfs:∀b∈X.ex,b∉X.fs
 funs:X.s₀.heap.FunFrames X.base X.outer
 frf:∀b∈X.fs,X.H₀ b=none
structure Inv(X:Cx)(pins:List (Addr×Obj))(Y:List LC)(H:Hp)(s:Shared):Prop where
 ok:X.Ok
 os:s.os=X.s₀.os
 bare:AllBare s.gens
 base:Un X.fs X.ex X.H₀ H X.s₀.heap s.heap
 loc:∃m,s.heap.Ns X.env.locals m/\∀(i:Nat)(x:Str)(v:V),X.N[i]?=some x->Y[i]?=some (some v)->Vis X.env.scope x->∃u,aB v u/\GU X.env s.heap m x u
 cell:∀x c,X.env.cells.lookup x=some c->∃v,s.heap.IsCell c v
 free:H X.env.locals=none
 freeC:∀x c,X.env.cells.lookup x=some c->H c=none
 pin:∀p∈X.pn++pins,s.heap.get? p.1=some p.2/\H p.1=none/\p.1≠X.env.locals/\p.1∉X.fs/\∀v,p.2.data≠.cell v
 hok:HOk X.prog X.w H s.heap
 len:Y.length=X.N.length
section
variable {X:Cx}{Y:List LC}
theorem Cx.Ok.nofr(ok:X.Ok){o:Obj}(e:X.base.get? b=some o):b∉X.fs:=λhb=>by
 have:=(ok.funs.mem hb).1;rw[e]at this;cases this
theorem Inv.bs(I:Inv X pins Y H s):∀b o,X.base.get? b=some o->s.heap.get? b=some o/\H b=none:=λb o e=>
 ⟨I.base.keep b o (I.ok.bs b o e).1 (I.ok.bs b o e).2 (I.ok.nofr e) (I.ok.noex b o e),I.base.free b o (I.ok.bs b o e).1 (I.ok.bs b o e).2 (I.ok.noex b o e)⟩
theorem Inv.bk(I:Inv X pins Y H s):∀b o,X.base.get? b=some o->s.heap.get? b=some o:=λb o e=>(I.bs b o e).1
theorem Inv.mod(I:Inv X pins Y H s):Mod X.K X.mg X.base:=I.ok.mod
theorem Inv.kIn(I:Inv X pins Y H s):X.K.In s.heap:=I.ok.mod.kin.keeps I.bk
theorem Inv.lt(I:Inv X pins Y H s):X.env.locals<s.heap.objs.size:=let ⟨_,hn,_⟩:=I.loc;hn.lt
theorem Inv.sz(I:Inv X pins Y H s):X.s₀.heap.objs.size<=s.heap.objs.size:=qC I.ok.above (Nat.le_of_lt I.lt)
theorem Inv.nofs(I:Inv X pins Y H s)(h:s.heap.objs.size<=a):a∉X.fs:=λhb=>by
 obtain⟨_,o,b,_⟩:=I.ok.funs.mem hb;exact Q8 (qG (qt b) (qC I.sz h)) (Qf _)
theorem Inv.cne(I:Inv X pins Y H s):∀x c,X.env.cells.lookup x=some c->c≠X.env.locals:=λx c e z=>by
 obtain⟨v,o,b,hd⟩:=I.cell x c e;obtain⟨m,⟨_,es,_,a,d,_⟩,_⟩:=I.loc;rw[z,a]at b;cases b;rw[d]at hd;cases hd
theorem Inv.funs(I:Inv X pins Y H s):s.heap.FunFrames X.base X.outer:=by
 have all:∀(l:List Env),(∀b∈frs l,b∈X.fs)->X.s₀.heap.FunFrames X.base l->s.heap.FunFrames X.base l:=by
  intro l
  induction l with
  |nil=>intro _ _;trivial
  |cons env r f=>
   intro d hl;obtain⟨hk,⟨L,o,c,hn,g,hd⟩,hr⟩:=hl;have a:L∈X.fs:=d L (by unfold frs;rw[List.filterMap_cons,c];exact qq);obtain⟨sl,e⟩:=I.base.slot L o g (I.ok.frf L a) a λz=>I.ok.exfs L z a;exact⟨hk,⟨L,_,c,hn,e,hd⟩,f (λb hb=>d b (by unfold frs;rw[List.filterMap_cons,c];exact qp _ hb)) hr⟩
 exact all X.outer (λ_ hb=>hb) I.ok.funs
theorem Inv.stack(I:Inv X pins Y H s):s.heap.FunFrames X.base X.stack:=by
 rcases I.ok.stk with e|⟨e,a⟩
 .rw[e];exact I.funs
 .rw[e];obtain⟨m,hn,_⟩:=I.loc;refine .cons (by rw[I.ok.kind];decide) a hn ?_ I.funs;exact Heap.get?_none_of_le (qC I.ok.bsz I.ok.above)
theorem Inv.stkSub(I:Inv X pins Y H s):∀b∈frs X.stack,b∈X.env.locals::X.fs:=λb hb=>by
 rcases I.ok.stk with e|⟨e,a⟩
 .rw[e]at hb;exact qp _ hb
 .rw[e]at hb;unfold frs at hb;rw[List.filterMap_cons,a]at hb;exact hb
theorem Inv.stkFree(I:Inv X pins Y H s):∀b∈frs X.stack,H b=none:=λb hb=>by
 rcases qw.mp (I.stkSub b hb)with e|hb
 .rw[e];exact I.free
 .obtain⟨_,o,a,_⟩:=I.ok.funs.mem hb;exact I.base.free b o a (I.ok.frf b hb) λz=>I.ok.exfs b z hb
theorem Inv.step{d':Drawn}(I:Inv X pins Y H s)
 (h:∀b∈ch,(b∈X.ex\/X.s₀.heap.objs.size<=b)/\b≠X.env.locals/\(∀x c,X.env.cells.lookup x=some c->c≠b)/\∀p∈X.pn++pins,p.1≠b)
 (keep:∀b o,b≠X.env.locals->b∉X.fs->b∉ch->s.heap.get? b=some o->H b=none->h'.get? b=some o)
 (slot:∀b o,b≠X.env.locals->b∈X.fs->b∉ch->s.heap.get? b=some o->H b=none->∃sl,h'.get? b=some { o with slots:=sl }) (free:∀b o,b∉ch->s.heap.get? b=some o->H b=none->H' b=none)
 (there:∀b o,b∉ch->s.heap.get? b=some o->∃o',h'.get? b=some o')
 (tups:∀b xs,H b=some (.tup xs)->H' b=some (.tup xs)) (frzs:∀b o u,H b=some (.frz o u)->H' b=some (.frz o u)) (tbls:∀b ps,H b=some (.tbl ps)->∃more,H' b=some (.tbl (ps++more)))
 (ns:∀m,s.heap.Ns X.env.locals m->h'.Ns X.env.locals m) (hok:HOk X.prog X.w H' h') (J:AllBare g'):
 Inv X pins Y H' { s with heap:=h',gens:=g',drawn:=d',toks:=t' }:=by
 have B:∀b o,X.s₀.heap.get? b=some o->b≠X.env.locals:=λb o e=>qJ (qG (qt e) I.ok.above)
 have j:∀b o,X.s₀.heap.get? b=some o->b∉X.ex->b∉ch:=λb o e a hb=>by
  rcases(h b hb).1 with z|z
  .exact a z
  .exact Q8 (qG (qt e) z) (Qf _)
 have t:∀x c,X.env.cells.lookup x=some c->∀v,s.heap.IsCell c v->h'.IsCell c v:=λx c e v ⟨o,y,hd⟩=>by
  have g:c∉ch:=λz=>(h c z).2.2.1 x c e U;by_cases hc:c∈X.fs
  .obtain⟨sl,q⟩:=slot c o (I.cne x c e) hc g y (I.freeC x c e);exact⟨_,q,hd⟩
  .exact⟨o,keep c o (I.cne x c e) hc g y (I.freeC x c e),hd⟩
 refine⟨I.ok,I.os,J,⟨λb o e n hb a=>?_,λb o e n hb a=>?_,λb o e n a=>?_,λb o e a=>?_,λb xs e=>tups b xs (I.base.tups b xs e),λb o xs e=>frzs b o xs (I.base.frzs b o xs e),λb ps e=>?_⟩,?_,λx c e=>?_,?_,λx c e=>?_,λp D=>?_,hok,I.len⟩
 .exact keep b o (B b o e) hb (j b o e a) (I.base.keep b o e n hb a) (I.base.free b o e n a)
 .obtain⟨sl,f⟩:=I.base.slot b o e n hb a;obtain⟨sl',A⟩:=slot b _ (B b o e) hb (j b o e a) f (I.base.free b o e n a);exact⟨sl',A⟩
 .obtain⟨o',f⟩:=I.base.there b o e a;exact free b o' (j b o e a) f (I.base.free b o e n a)
 .obtain⟨o',f⟩:=I.base.there b o e a;exact there b o' (j b o e a) f
 .obtain⟨E,f⟩:=I.base.tbls b ps e;obtain⟨F,A⟩:=tbls b _ f;exact⟨E++F,by rw[A,Array.append_assoc]⟩
 .obtain⟨m,hn,hl⟩:=I.loc;refine⟨m,ns m hn,λi x v f A G=>?_⟩;obtain⟨u,r,l⟩:=hl i x v f A G;exists u,r;rcases l with l|⟨k,c,e,z⟩
  .exact .inl l
  .exact .inr ⟨k,c,e,t x c e _ z⟩
 .obtain⟨v,z⟩:=I.cell x c e;exact⟨v,t x c e v z⟩
 .obtain⟨m,⟨o,_,_,y,_⟩,_⟩:=I.loc;exact free _ o (λz=>(h _ z).2.1 U) y I.free
 .obtain⟨v,o,y,hd⟩:=I.cell x c e;exact free c o (λz=>(h c z).2.2.1 x c e U) y (I.freeC x c e)
 .obtain⟨e,n,ne,C,d⟩:=I.pin p D;have g:p.1∉ch:=λz=>(h p.1 z).2.2.2 p D U;exact⟨keep p.1 p.2 ne C g e n,free p.1 p.2 g e n,ne,C,d⟩
theorem Inv.un(I:Inv X pins Y H s)(u:Un X.fs [] H H' s.heap h')(hok:HOk X.prog X.w H' h'):Inv X pins Y H' { s with heap:=h',toks:=t' }:=by
 obtain⟨m,⟨o,es,_,c,r⟩,_⟩:=id I.loc;obtain⟨sl,f⟩:=u.any c I.free (by simp)
 exact I.step (g':=s.gens) (d':=s.drawn) (ch:=[]) (λ_ z=>nomatch z) (λb o _ hb _ e n=>u.keep b o e n hb (by simp)) (λb o _ hb _ e n=>u.slot b o e n hb (by simp)) (λb o _ e n=>u.free b o e n (by simp)) (λb o _ e=>u.there b o e (by simp)) u.tups u.frzs u.tbls (λ_ g=>by
  obtain⟨_,es',d,a,h⟩:=g;rw[c]at a;cases a
  exact⟨_,es',d,f,h⟩) hok I.bare
theorem Inv.call{d':Drawn}(I:Inv X pins Y H s)(u:Un (frs X.stack) ch H H' s.heap h')(hok:HOk X.prog X.w H' h')(l:AllBare g')
 (f:∀b∈ch,(b∈X.ex\/X.s₀.heap.objs.size<=b)/\b≠X.env.locals/\(∀x c,X.env.cells.lookup x=some c->c≠b)/\∀p∈X.pn++pins,p.1≠b):
 Inv X pins Y H' { s with heap:=h',gens:=g',drawn:=d',toks:=t' }:=by
 obtain⟨m,⟨o,es,_,h,r⟩,_⟩:=id I.loc;obtain⟨sl,g⟩:=u.any h I.free λz=>(f _ z).2.1 U
 exact I.step (ch:=ch) f (λb o g hb a e n=>u.keep b o e n (λz=>(qw.mp (I.stkSub b z)).elim g hb) a) (λb o _ _ a e n=>u.any e n a) (λb o a e n=>u.free b o e n a) (λb o a e=>u.there b o e a) u.tups u.frzs u.tbls (λ_ j=>by
  obtain⟨_,es',i,d,k⟩:=j;rw[h]at d;cases d
  exact⟨_,es',i,g,k⟩) hok l
theorem Inv.turned(I:Inv X pins Y H s)(k:∀b o,b≠it->s.heap.get? b=some o->h'.get? b=some o)(hn:H it=none)(f:it≠X.env.locals)
 (t:it∈X.ex\/X.s₀.heap.objs.size<=it) (l:∀x c,X.env.cells.lookup x=some c->c≠it) (g:∀p∈X.pn++pins,p.1≠it):Inv X pins Y H { s with heap:=h',toks:=t' }:=by
 have d:∀b u,H b=some u->b≠it:=λb u e z=>by rw[z,hn]at e;cases e
 refine I.step (g':=s.gens) (d':=s.drawn) (ch:=[it]) (λb hb=>?_) (λb o _ _ a e _=>k b o (λz=>a (by simp[z])) e) (λb o _ _ a e _=>⟨o.slots,k b o (λz=>a (by simp[z])) e⟩) (λ_ _ _ _ n=>n)
  (λb o a e=>⟨o,k b o (λz=>a (by simp[z])) e⟩) (λ_ _ e=>e) (λ_ _ _ e=>e) (λb ps e=>⟨#[],by rw[e];simp⟩) (λm h=>?_) (λb u e=>?_) I.bare
 .have e:b=it:=by simpa using hb
  subst e;exact⟨t,f,l,g⟩
 .obtain⟨o,es,i,j,r⟩:=h;exact⟨o,es,i,k _ o (Ne.symm f) j,r⟩
 .refine(I.hok b u e).stay (λc v a q=>k c v ?_ q) (λ_ q=>q) λ_ _ q=>q;rcases a with z|z
  .rw[z];exact d b u e
  .exact d c _ z
theorem Inv.tok(I:Inv X pins Y H s)(t:Nat):Inv X pins Y H { s with toks:=t }:=I.un (h':=s.heap) (t':=t) Un.refl I.hok
theorem Inv.kept{t':Nat}(I:Inv X pins Y H s)(k:∀b u,s.heap.get? b=some u->h'.get? b=some u):Inv X pins Y H { s with heap:=h',toks:=t' }:=I.un (Un.kept k) (I.hok.kept k)
theorem Inv.laid{a:Addr}{o:HO}{t':Nat}(I:Inv X pins Y H s)(k:∀b u,s.heap.get? b=some u->h'.get? b=some u)(c:s.heap.objs.size<=a)(new:bJ X.prog X.w (upd H a o) h' a o):
 Inv X pins Y (upd H a o) { s with heap:=h',toks:=t' }:=I.un (Un.laid k c (I.hok.fresh c)) (I.hok.laid k c new)
theorem Inv.write{x e:Addr}{o:HO}{t':Nat}(I:Inv X pins Y H s)(d:Mut (H x))(c:e=x\/H e=some (.own x))(k:∀b u,b≠e->s.heap.get? b=some u->h'.get? b=some u)(a:∃u,h'.get? e=some u)
 (new:bJ X.prog X.w (upd H x o) h' x o):Inv X pins Y (upd H x o) { s with heap:=h',toks:=t' }:=I.un (Un.write d c k a) (I.hok.write d c k a new)
theorem Inv.pins_of(I:Inv X pins Y H s)(h:∀p∈pins',s.heap.get? p.1=some p.2/\H p.1=none/\p.1≠X.env.locals/\p.1∉X.fs/\∀v,p.2.data≠.cell v):Inv X pins' Y H s:=
 ⟨I.ok,I.os,I.bare,I.base,I.loc,I.cell,I.free,I.freeC,λp a=>(qi.mp a).elim (λz=>I.pin p (qY _ z)) (h p),I.hok,I.len⟩
theorem wV(c:N.Nodup)(a:N[i]?=some x)(b:N[j]?=some x):i=j:=by
 obtain⟨_,d⟩:=qg.mp a;obtain⟨_,e⟩:=qg.mp b;exact(List.getElem_inj c).mp (d.trans e.symm)
theorem ur{v:V}{Q:Unit->Shared->Prop}(I:Inv X pins Y H s)(hN:X.N.Nodup)(F:X.N[i]?=some x)(t:Loc X.env.scope x)(r:aB v u)
 (h:∀s',Inv X pins (Y.set i (some v)) H s'->(∃a,Heap.SameBut a s.heap s'.heap/\(a=X.env.locals\/X.env.cells.lookup x=some a))->Q () s') (hf:X.fn x=true\/X.env.scope.names.lookup x=some .local:=by first|exact .inl U|exact .inr U|assumption):wpAny M A (storeName X.env x u) Q E s:=by
 obtain⟨m,hn,hl⟩:=id I.loc;have a0:(X.env.scope.kind == .class || (X.env.scope.kind == .module && X.env.locals != X.env.globals))=false:=by rw[I.ok.kind];rfl
 have J:i<Y.length:=by rw[I.len];exact(qg.mp F).1
 have cne:=I.cne
 have B:∀{a:Addr}{h':Heap},(∃o,s.heap.get? a=some o/\H a=none)->Heap.SameBut a s.heap h'->HOk X.prog X.w H h':=λ{a h'} ha f b ob e=>by
  obtain⟨_,_,D⟩:=ha;refine(I.hok b ob e).stay (λc K l q=>(f.2 c ?_).trans q) (λ_ q=>q) λ_ _ q=>q;rintro rfl;rcases l with rfl|l
  .rw[D]at e;cases e
  .rw[D]at l;cases l
 rcases t with hk|hk
 .refine wpAny_storeName_local hk hn (λh' a1 f=>?_) a0;obtain⟨oL,_,_,a2,_⟩:=id hn;refine h _ ⟨I.ok,I.os,I.bare,⟨λb o e n hb t=>?_,λb o e n hb t=>?_,I.base.free,λb o e t=>?_,I.base.tups,I.base.frzs,I.base.tbls⟩,⟨_,a1,λj y R g C S=>?_⟩,λy c e=>?_,I.free,I.freeC,λp X0=>?_,B ⟨oL,a2,I.free⟩ f,by simpa using I.len⟩ ⟨_,f,.inl U⟩
  .exact(f.2 b (qJ (qG (qt e) I.ok.above))).trans (I.base.keep b o e n hb t)
  .obtain⟨sl,g⟩:=I.base.slot b o e n hb t;exact⟨sl,(f.2 b (qJ (qG (qt e) I.ok.above))).trans g⟩
  .obtain⟨T,g⟩:=I.base.there b o e t;exact⟨T,(f.2 b (qJ (qG (qt e) I.ok.above))).trans g⟩
  .by_cases hj:j=i
   .subst hj;rw[F]at g;cases g;rw[List.getElem?_set_self J]at C;cases C;exact⟨u,r,.inl ⟨hk,by simp⟩⟩
   .rw[List.getElem?_set_ne (Ne.symm hj)]at C;obtain⟨u',r',q⟩:=hl j y R g C S;exists u',r';rcases q with⟨k,e⟩|⟨k,c,e,z⟩
    .refine .inl ⟨k,?_⟩;have:y≠x:=λe=>hj (wV hN g (e▸F));simp[this,e]
    .exact .inr ⟨k,c,e,z.sameBut f (cne y c e)⟩
  .obtain⟨K,z⟩:=I.cell y c e;exact⟨K,z.sameBut f (cne y c e)⟩
  .obtain⟨e,n,ne,Z,d⟩:=I.pin p X0;exact⟨(f.2 p.1 ne).trans e,n,ne,Z,d⟩
 .have G:X.fn x=true:=by
   rcases hf with z|z
   .exact z
   .rw[z]at hk;cases hk
  obtain⟨c,l⟩:=I.ok.has x (.inl hk);obtain⟨K,z⟩:=I.cell x c l;refine wpAny_storeName_cell I.ok.kind hk l z (λh' P f=>?_);obtain⟨oc,O,W⟩:=id z;refine h { s with heap:=h' } ⟨I.ok,I.os,I.bare,⟨λb o e n hb t=>?_,λb o e n hb t=>?_,I.base.free,λb o e t=>?_,I.base.tups,I.base.frzs,I.base.tbls⟩,⟨m,hn.sameBut f (Ne.symm (cne x c l)),λj y R g C S=>?_⟩,λy L e=>?_,I.free,I.freeC,λp X0=>?_,B ⟨oc,O,I.freeC x c l⟩ f,by simpa using I.len⟩ ⟨c,f,.inr l⟩
  .exact(f.2 b (qJ (qG (qt e) (I.ok.cab x c G l)))).trans (I.base.keep b o e n hb t)
  .obtain⟨sl,g⟩:=I.base.slot b o e n hb t;exact⟨sl,(f.2 b (qJ (qG (qt e) (I.ok.cab x c G l)))).trans g⟩
  .obtain⟨T,g⟩:=I.base.there b o e t;exact⟨T,(f.2 b (qJ (qG (qt e) (I.ok.cab x c G l)))).trans g⟩
  .by_cases hj:j=i
   .subst hj;rw[F]at g;cases g;rw[List.getElem?_set_self J]at C;cases C;exact⟨u,r,.inr ⟨.inl hk,c,l,P⟩⟩
   .rw[List.getElem?_set_ne (Ne.symm hj)]at C;obtain⟨u',r',q⟩:=hl j y R g C S;exists u',r';rcases q with q|⟨k,L,e,z'⟩
    .exact .inl q
    .refine .inr ⟨k,L,e,z'.sameBut f ?_⟩;rintro rfl;exact hj (wV hN g (I.ok.inj _ _ _ e l▸F))
  .by_cases hcc:L=c
   .subst hcc;exact⟨_,P⟩
   .obtain⟨w2,z2⟩:=I.cell y L e;exact⟨w2,z2.sameBut f hcc⟩
  .obtain⟨e,n,ne,Z,d⟩:=I.pin p X0;refine⟨(f.2 p.1 ?_).trans e,n,ne,Z,d⟩;intro q;rw[q,O]at e;have q':oc=p.2:=qM e;exact d K (by rw[<- q'];exact W)
theorem nq{v:V}{Q:Unit->Shared->Prop}(I:Inv X pins Y H s)(a:X.N.Nodup)(b:X.N[i]?=some x)(e:Loc X.env.scope x)(r:aB v u)
 (h:∀s',Inv X pins (Y.set i (some v)) H s'->Q () s') (c:X.fn x=true\/X.env.scope.names.lookup x=some .local:=by first|exact .inl U|exact .inr U|assumption):wpAny M A (storeName X.env x u) Q E s:=
 ur I a b e r (λs' d _=>h s' d) c
theorem Inv.call'(I:Inv X pins Y H s)(g:s'.os=s.os)(u:Un (frs X.stack) ch H H' s.heap s'.heap)(hok:HOk X.prog X.w H' s'.heap)(f:AllBare s'.gens)
 (a:∀b∈ch,(b∈X.ex\/X.s₀.heap.objs.size<=b)/\b≠X.env.locals/\(∀x c,X.env.cells.lookup x=some c->c≠b)/\∀p∈X.pn++pins,p.1≠b):Inv X pins Y H' s':=by
 obtain⟨h',g',d',t',d⟩:=s';have e:d=s.os:=g;subst e;exact I.call (g':=g') (t':=t') (d':=d') u hok f a
end
abbrev XK:=Value->Option Addr->Hp->Prop
abbrev St:=List LC
abbrev VK:=V->Hp->Prop
abbrev TE:=St->Hp->VK->Prop
abbrev TT:=St->Hp->(Bool->Hp->Prop)->Prop
abbrev TA:=St->Hp->(LV->Hp->Prop)->Prop
structure je where
 nx:St->Hp->Prop
 rt:VK
 bk:St->Hp->Prop:=λ_ _=>False
 ct:St->Hp->Prop:=λ_ _=>False
abbrev TS:=je->St->Hp->Prop
def EP(X:Cx)(pins:List (Addr×Obj))(Y:St)(Q:VK)(u:Value)(s':Shared):Prop:=∃v H',Inv X pins Y H' s'/\aB v u/\Q v H'
def TP(X:Cx)(pins:List (Addr×Obj))(Y:St)(Q:Bool->Hp->Prop)(b:Bool)(s':Shared):Prop:=∃H',Inv X pins Y H' s'/\Q b H'
def AP(X:Cx)(pins:List (Addr×Obj))(Y:St)(Q:LV->Hp->Prop)(us:LL)(s':Shared):Prop:=∃vs H',Inv X pins Y H' s'/\ax vs us/\Q vs H'
def SP(X:Cx)(pins:List (Addr×Obj))(D:je)(f:Flow)(s':Shared):Prop:=
 match f with
 |.next=>∃F H',Inv X pins F H' s'/\D.nx F H'
 |.brk=>∃F H',Inv X pins F H' s'/\D.bk F H'
 |.cont=>∃F H',Inv X pins F H' s'/\D.ct F H'
 |.ret u=>∃v F H',Inv X pins F H' s'/\aB v u/\D.rt v H'
def PE(X:Cx)(e:Expr)(t:TE):Prop:=
 ∀(pins:List (Addr×Obj))(s:Shared)(Y:St)(H:Hp)(Q:VK),Inv X pins Y H s->t Y H Q->wpAny (model X.prog X.w) X.A (eval e X.env) (EP X pins Y Q) X.xe s
def PT(X:Cx)(e:Expr)(t:TT):Prop:=
 ∀(pins:List (Addr×Obj))(s:Shared)(Y:St)(H:Hp)(Q:Bool->Hp->Prop),Inv X pins Y H s->t Y H Q->wpAny (model X.prog X.w) X.A (isTrue e X.env (eval e X.env)) (TP X pins Y Q) X.xe s
def PW(X:Cx)(e:Expr)(t:TT):Prop:=
 ∀(whole:Sem Value)(pins:List (Addr×Obj))(s:Shared)(Y:St)(H:Hp)(Q:Bool->Hp->Prop),Inv X pins Y H s->t Y H Q->wpAny (model X.prog X.w) X.A (isTrue e X.env whole) (TP X pins Y Q) X.xe s
theorem PW.pt{X:Cx}{t:TT}(h:PW X e t):PT X e t:=h _
def PA(X:Cx)(es:LR)(t:TA):Prop:=
 ∀(pos:Pos)(pins:List (Addr×Obj))(s:Shared)(Y:St)(H:Hp)(Q:LV->Hp->Prop),Inv X pins Y H s->t Y H Q->wpAny (model X.prog X.w) X.A (spliced (backTo pos (starEach es X.env))) (AP X pins Y Q) X.xe s
def PS(X:Cx)(st:Stmt)(t:TS):Prop:=
 ∀(pins:List (Addr×Obj))(s:Shared)(Y:St)(H:Hp)(D:je),Inv X pins Y H s->t D Y H->wpAny (model X.prog X.w) X.A (exec st X.env) (SP X pins D) X.xe s
def PSs(X:Cx)(st:List Stmt)(t:TS):Prop:=
 ∀(pins:List (Addr×Obj))(s:Shared)(Y:St)(H:Hp)(D:je),Inv X pins Y H s->t D Y H->wpAny (model X.prog X.w) X.A (execs st X.env) (SP X pins D) X.xe s
theorem thn{t:Sem α}{Q b:α->Shared->Prop}(h:wpAny M A t Q E s)(c:∀a s,Q a s->b a s):wpAny M A t b E s:=wpAny_mono h c λ_ _ x=>x
end L2
variable {X:L2.Cx}{Y:L2.St}{ta te:L2.TE}{tb:L2.TS}{D:L2.je}{tt:L2.TT}
namespace L2
open PySem PySem.Spec PyProof.Rows
section
theorem bin{a b:Expr}{e:TE}(ha:PE X a ta)(hb:PE X b e){R:V->V->Hp->Prop}(I:Inv X pins Y H s)(h:ta Y H λx H1=>e Y H1 λy H2=>R x y H2)
 {Q:α->Shared->Prop}{f:Value->Value->Sem α}
  (j:∀v u s2 x y H2,Inv X pins Y H2 s2->aB x v->aB y u->R x y H2->wpAny (model X.prog X.w) X.A (f v u) Q X.xe s2):
  wpAny (model X.prog X.w) X.A (eval a X.env) (λv c=>wpAny (model X.prog X.w) X.A (eval b X.env) (λu d=>wpAny (model X.prog X.w) X.A (f v u) Q X.xe d) X.xe c) X.xe s:=by
  refine thn (ha pins s Y H _ I h) λv n ⟨x,H1,k,m,l⟩=>?_;refine thn (hb pins n Y H1 _ k l) λu s2 ⟨y,H2,o,i,g⟩=>?_;exact j v u s2 x y H2 o m i g
def uc(i:Nat):TE:=λY H Q=>∃v,Y[i]?=some (some v)/\Q v H
def tC(v:V):TE:=λ_ H Q=>Q v H
theorem CB(k:X.N[i]?=some x)(g:Vis X.env.scope x)(hd:(x == ("__debug__":Str))=false:=by decide)(d:(x == ("__classdict__":Str))=false:=by decide):PE X (.Name x pos) (uc i):=by
 intro b s Y H Q I h;obtain⟨v,e,h⟩:=h;obtain⟨m,hn,hl⟩:=I.loc;obtain⟨u,r,l⟩:=hl i x v k e g;have fin:EP X b Y Q u s:=⟨v,H,I,r,h⟩;rcases l with⟨hk,j⟩|⟨hk,c,f,a⟩
 .exact wpAny_Name (wpAny_loadName_local I.ok.kind hk hn j fin) hd
 .rcases hk with hk|hk
  .exact wpAny_Name (wpAny_loadName_cell I.ok.kind hk f a fin) hd
  .exact wpAny_Name (wpAny_loadName_free I.ok.kind hk f a fin d) hd
theorem aa{i j a}:PE X (.Constant (.int i) j a) (tC (.int i)):=λ_ _ _ H _ I h=>wpAny_Constant_int ⟨.int i,H,I.tok _,⟨_,U⟩,h⟩
theorem fA{b j a}:PE X (.Constant (.bool b) j a) (tC (.bl b)):=λ_ _ _ H _ I h=>Constant_bool ⟨.bl b,H,I,U,h⟩
theorem cr{j a}:PE X (.Constant .none j a) (tC .non):=λ_ _ _ H _ I h=>Constant_none ⟨.non,H,I,U,h⟩
theorem aS{x j a}:PE X (.Constant (.str x) j a) (tC (.str x)):=λ_ _ _ H _ I h=>Calls.Constant_str ⟨.str x,H,I.tok _,⟨_,U⟩,h⟩
def Gl(X:Cx)(x:Str):Prop:=X.env.kindOf x=some .globalImplicit
theorem rS(I:Inv X pins Y H s)(b:Gl X x)(a:X.mg x=some u)(h:Q u s)
 (hd:(x == ("__debug__":Str))=false:=by decide):wpAny (model X.prog X.w) X.A (eval (.Name x pos) X.env) Q E s:=
 Calls.Name_function_global I.ok.kind b (Calls.loadGlobal_global (by rw[I.ok.glob];exact I.mod.glob.keeps I.bk) a h) hd
theorem gR(I:Inv X pins Y H s)(c:Gl X x)(b:X.mg x=none)(a:bootBuiltins x=some u)(h:Q u s)
 (hn:x≠"__name__":=by decide) (hd:(x == ("__debug__":Str))=false:=by decide):wpAny (model X.prog X.w) X.A (eval (.Name x pos) X.env) Q E s:=by
 obtain⟨_,e,d⟩:=I.mod.blt;exact Calls.Name_function_global I.ok.kind c (Calls.loadGlobal_builtin (by rw[I.ok.glob];exact I.mod.glob.keeps I.bk) b (by rw[I.ok.blt];exact e.keeps I.bk) ((d x hn).trans a) h) hd
theorem gc{v:V}(b:Gl X x)(a:X.mg x=some u)(r:aB v u)(hd:(x == ("__debug__":Str))=false:=by decide):PE X (.Name x pos) (tC v):=
 λ_ _ _ H _ I h=>rS I b a ⟨v,H,I,r,h⟩ hd
theorem iV{v:V}(c:Gl X x)(a:X.mg x=none)(b:bootBuiltins x=some u)(r:aB v u)(hn:x≠"__name__":=by decide)(hd:(x == ("__debug__":Str))=false:=by decide):PE X (.Name x pos) (tC v):=
 λ_ _ _ H _ I h=>gR I c a b ⟨v,H,I,r,h⟩ hn hd
variable {a b:Expr}{tb:TE}
def PC(X:Cx)(op:CmpOp)(a b:Expr)(t:TE):Prop:=
 ∀(pins:List (Addr×Obj))(s:Shared)(Y:St)(H:Hp)(Q:VK),Inv X pins Y H s->t Y H Q->
  wpAny (model X.prog X.w) X.A (eval a X.env) (λv F=>wpAny (model X.prog X.w) X.A (eval b X.env) (λu J=>wpAny (model X.prog X.w) X.A (compareOp op v u) (EP X pins Y Q) X.xe J) X.xe F) X.xe s
def tB(t:TE):TT:=λY H Q=>t Y H λx H1=>∃c,x=.bl c/\Q c H1
theorem GX{op:CmpOp}{t:TE}(h:PC X op a b t)(f:behindInMarks op b=false:=by first|exact nobehind _ Yk Yk|rfl):PT X (.Compare a [op] [b] pos) (tB t):=by
 intro e s Y H Q I hw;refine wpAny_isTrue_Compare1 (thn (h e s Y H _ I hw) λv _ f=>thn f λu _ l=>thn l λc _ ⟨x,g,i,k,j⟩=>?_) f;obtain⟨d,rfl,q⟩:=j;cases k;exact wpAny_truthy_bool ⟨g,i,q⟩
theorem Ck{t:TE}(h:PE X e t)(b:∀whole,isTrue e X.env whole=(do let v <- whole;standAt e.pos;holding [v] (truthy v)):=by intro _;rfl):PT X e (tB t):=by
 intro a s Y H Q I hw;refine isTrue_plain (thn (h a s Y H _ I hw) λv _ ⟨x,c,f,i,g⟩=>?_) (b _);obtain⟨d,rfl,q⟩:=g;cases i;exact wpAny_truthy_bool ⟨c,f,q⟩
variable {tA tB':TT}{rest:LR}
def Ai(t u:TT):TT:=λY H Q=>t Y H λc H1=>if c=true then u Y H1 Q else Q false H1
def tOr(t u:TT):TT:=λY H Q=>t Y H λc H1=>if c=true then Q true H1 else u Y H1 Q
def zX(t:TT):TT:=λY H Q=>t Y H λc H1=>Q (!c) H1
theorem gH(ha:PT X a tA):PW X (.BoolOp .And [a] pos) tA:=by
 intro wh b s Y H Q I h;refine isTrue_and (thn (ha b s Y H Q I h) λc _ e=>?_)
 cases c with
 |true=>exact isTrue_and_nil e
 |false=>exact e
theorem kX(ha:PT X a tA):PW X (.BoolOp .Or [a] pos) tA:=by
 intro wh b s Y H Q I h;refine isTrue_or (thn (ha b s Y H Q I h) λc _ e=>?_)
 cases c with
 |false=>exact isTrue_or_nil e
 |true=>exact e
theorem fL(ha:PT X a tA)(hb:PW X (.BoolOp .And (b::rest) pos) tB'):PW X (.BoolOp .And (a::b::rest) pos) (Ai tA tB'):=by
 intro wh d s Y H Q I h;refine isTrue_and (thn (ha d s Y H _ I h) λc i ⟨e,f,g⟩=>?_)
 cases c with
 |true=>exact hb wh d i Y e Q f g
 |false=>exact⟨e,f,g⟩
theorem iT(ha:PT X a tA)(hb:PW X (.BoolOp .Or (b::rest) pos) tB'):PW X (.BoolOp .Or (a::b::rest) pos) (tOr tA tB'):=by
 intro wh d s Y H Q I h;refine isTrue_or (thn (ha d s Y H _ I h) λc i ⟨e,f,g⟩=>?_)
 cases c with
 |true=>exact⟨e,f,g⟩
 |false=>exact hb wh d i Y e Q f g
theorem jx(ha:PT X a tA):PT X (.UnaryOp .Not a pos) (zX tA):=by
 intro b s Y H Q I h;exact isTrue_not (ha b s Y H (λc d=>Q (!c) d) I h)
def Ah(ta tb:TE):TE:=λY H Q=>ta Y H λx H1=>∃c,x=.bl c/\if c=true then tb Y H1 Q else Q (.bl false) H1
def zW(ta:TE):TE:=λY H Q=>ta Y H λx H1=>∃c,x=.bl c/\Q (.bl (!c)) H1
theorem wv{op}{t:TE}(h:PE X a t):PE X (.BoolOp op [a] pos) t:=λb s Y H Q I hw=>BoolOp_one (h b s Y H Q I hw)
theorem wx(ha:PE X a ta)(hb:PE X (.BoolOp .And (b::rest) pos) tb):PE X (.BoolOp .And (a::b::rest) pos) (Ah ta tb):=by
 intro d s Y H Q I h;refine BoolOp_and (thn (ha d s Y H _ I h) λv j ⟨x,f,g,i,e⟩=>?_);obtain⟨c,rfl,e⟩:=e;cases i;refine wpAny_truthy_bool ?_
 cases c with
 |true=>exact hb d j Y f Q g e
 |false=>exact⟨.bl false,f,g,U,e⟩
theorem CD(ha:PE X a ta):PE X (.UnaryOp .Not a pos) (zW ta):=by
 intro b s Y H Q I h;refine UnaryOp_ (thn (ha b s Y H _ I h) λv _ ⟨x,e,f,g,d⟩=>?_);obtain⟨c,rfl,d⟩:=d;cases g;exact not_of (wpAny_truthy_bool ⟨.bl (!c),e,f,U,d⟩)
def tIf(t:TT)(ta tb:TE):TE:=λY H Q=>t Y H λc H1=>if c=true then ta Y H1 Q else tb Y H1 Q
theorem i4{c:Expr}(k:PT X c tA)(ha:PE X a ta)(hb:PE X b tb):PE X (.IfExp c a b pos) (tIf tA ta tb):=by
 intro e s Y H Q I h;refine wpAny_IfExp (thn (k e s Y H _ I h) λd j ⟨f,g,i⟩=>?_)
 cases d with
 |true=>exact ha e j Y f Q g i
 |false=>exact hb e j Y f Q g i
end
def SqL(K:W.Frag)(H:Hp)(a:Addr)(xs:LV):Prop:=
 Rd H a (.lst xs) \/
  ∃(o:Obj)(its:LD)(n:Nat),K.lookup a=some o/\o.cls=.type "list"/\o.dict=none/\o.data=.seq its n/\its.size<=sizeLine/\ax xs its.toList
def SqT(K:W.Frag)(H:Hp)(a:Addr)(xs:LV):Prop:=
 Rd H a (.tup xs) \/
  ∃(o:Obj)(its:LD)(n:Nat),K.lookup a=some o/\o.cls=.type "tuple"/\o.data=.seq its n/\its.size<=sizeLine/\ax xs its.toList
noncomputable def GM:Value->LC
 |.none=>some .non
 |.bool b=>some (.bl b)
 |.int i _=>some (.int i)
 |.str x _=>some (.str x)
 |.bytes b _=>some (.byt b)
 |.float b _=>some (.flt b)
 |.ref a=>some (.ref a)
 |.type n=>some (.ty n)
 |_=>none
theorem aB.abs{x:V}(r:aB x u):GM u=some x:=by
 cases x with
 |non=>cases r;rfl
 |bl _=>cases r;rfl
 |int _=>obtain⟨t,rfl⟩:=r;rfl
 |str _=>obtain⟨t,rfl⟩:=r;rfl
 |byt _=>obtain⟨t,rfl⟩:=r;rfl
 |flt _=>obtain⟨t,rfl⟩:=r;rfl
 |ref _=>cases r;rfl
 |ty _=>cases r;rfl
theorem aB.inj{x y:V}{u:Value}(r:aB x u)(q:aB y u):x=y:=qM (r.abs.symm.trans q.abs)
theorem ax.inj:∀{xs ys:LV}{us:LL},ax xs us->ax ys us->xs=ys
 |_,_,_,.nil,.nil=>rfl
 |_,_,_,.cons r t,.cons r' t'=>by rw[r.inj r',ax.inj t t']
section
variable {xs ys:LV}
theorem SqL.of(h:H a=some (.lst xs)):SqL K H a xs:=.inl (.inl h)
theorem SqT.of(h:H a=some (.tup xs)):SqT K H a xs:=.inl (.inl h)
theorem Inv.list(I:Inv X pins Y H s)(h:SqL X.K H a xs):∃its:LL,ax xs its/\PlainL s.heap a its.toArray/\xs.length<=sizeLine:=by
 rcases h with h|⟨o,its,n,hk,b,hd,c,_,r⟩
 .obtain⟨z,its,n,r,e⟩:=h.ok I.hok;exact⟨its,r,⟨_,n,e,U,U,U⟩,z⟩
 .exists its.toList,r,⟨o,n,I.kIn a o hk,b,hd,by simpa using c⟩;have e:=r.length;simp only[qP]at e;omega
theorem Inv.tuple(I:Inv X pins Y H s)(h:SqT X.K H a xs):∃its:LL,ax xs its/\IsTup s.heap a its.toArray/\xs.length<=sizeLine:=by
 rcases h with h|⟨o,its,n,hk,b,c,_,r⟩
 .obtain⟨z,its,r,p⟩:=h.ok I.hok;exact⟨its,r,p,z.1⟩
 .exists its.toList,r,⟨o,I.kIn a o hk,b,n,by simpa using c⟩;have e:=r.length;simp only[qP]at e;omega
theorem Inv.list_inj(I:Inv X pins Y H s)(h:SqL X.K H a xs)(h':SqL X.K H a ys):xs=ys:=by
 obtain⟨b,r,⟨o,n,e,_,_,d⟩,_⟩:=I.list h;obtain⟨its',f,⟨_,_,c,_,_,d'⟩,_⟩:=I.list h';rw[e]at c;cases c;rw[d]at d';injection d' with d1 _;have:b=its':=by simpa using congrArg Array.toList d1
 subst this;exact r.inj f
theorem Inv.tuple_inj(I:Inv X pins Y H s)(h:SqT X.K H a xs)(h':SqT X.K H a ys):xs=ys:=by
 obtain⟨b,r,⟨o,e,_,n,d⟩,_⟩:=I.tuple h;obtain⟨its',f,⟨_,c,_,_,d'⟩,_⟩:=I.tuple h';rw[e]at c;cases c;rw[d]at d';injection d' with d1 _;have:b=its':=by simpa using congrArg Array.toList d1
 subst this;exact r.inj f
end
noncomputable abbrev Cx.wish(X:Cx)(E:LP):Cx:={ X with xe:=E }
noncomputable abbrev Cx.nox(X:Cx):Cx:=X.wish λ_ _=>False
theorem Cx.Ok.wish{X:Cx}(ok:X.Ok)(E:LP):(X.wish E).Ok:=
 ⟨ok.mod,ok.kind,ok.glob,ok.blt,ok.above,ok.inj,ok.has,ok.cab,ok.hd,ok.frames,ok.stk,ok.exf,ok.bs,ok.bsz,ok.noex,ok.exfs,ok.funs,ok.frf⟩
theorem Cx.Ok.unwish(ok:(X.wish E).Ok):X.Ok:=
 ⟨ok.mod,ok.kind,ok.glob,ok.blt,ok.above,ok.inj,ok.has,ok.cab,ok.hd,ok.frames,ok.stk,ok.exf,ok.bs,ok.bsz,ok.noex,ok.exfs,ok.funs,ok.frf⟩
theorem Inv.wish(I:Inv X pins Y H s)(E:LP):Inv (X.wish E) pins Y H s:=⟨I.ok.wish E,I.os,I.bare,I.base,I.loc,I.cell,I.free,I.freeC,I.pin,I.hok,I.len⟩
theorem Inv.unwish(I:Inv (X.wish E) pins Y H s):Inv X pins Y H s:=⟨I.ok.unwish,I.os,I.bare,I.base,I.loc,I.cell,I.free,I.freeC,I.pin,I.hok,I.len⟩
theorem SP.unwish{D:je}{f:Flow}{b:Shared}(h:SP (X.wish E) pins D f b):SP X pins D f b:=by
 cases f with
 |next=>obtain⟨a,H',I,q⟩:=h;exact⟨a,H',I.unwish,q⟩
 |brk=>obtain⟨a,H',I,q⟩:=h;exact⟨a,H',I.unwish,q⟩
 |cont=>obtain⟨a,H',I,q⟩:=h;exact⟨a,H',I.unwish,q⟩
 |ret u=>obtain⟨v,a,H',I,r,q⟩:=h;exact⟨v,a,H',I.unwish,r,q⟩
theorem PSs.nox{st:List Stmt}{t:TS}(h:PSs X.nox st t):PSs X st t:=λa s Y H D I hw=>
 wpAny_mono (h a s Y H D (I.wish _) hw) (λ_ _ q=>q.unwish) λ_ _ z=>False.elim z
section
variable {st:Stmt}{rest:List Stmt}{t u:TS}
def jh:TS:=λD Y H=>D.nx Y H
def ud(t u:TS):TS:=λD Y H=>t { D with nx:=u D } Y H
theorem aZ:PSs X [] jh:=λ_ _ Y H _ I h=>wpAny_execs_nil ⟨Y,H,I,h⟩
theorem ai(g:PS X st t)(e:PSs X rest u):PSs X (st::rest) (ud t u):=by
 intro a s Y H D I h;refine wpAny_execs_cons (thn (g a s Y H { D with nx:=u D } I h) λf d q=>?_)
 cases f with
 |next=>
  obtain⟨b,H',c,q⟩:=q;exact e a d b H' D c q
 |ret v=>exact q
 |brk=>exact q
 |cont=>exact q
theorem ap(b:PS X st t):PSs X [st] t:=by
 intro a s Y H D I h;refine wpAny_execs_cons (thn (b a s Y H D I h) λf _ q=>?_)
 cases f with
 |next=>exact wpAny_execs_nil q
 |ret v=>exact q
 |brk=>exact q
 |cont=>exact q
theorem Inv.quiet(I:Inv X pins Y H s):interactive X.env=false:=by simp[interactive,I.ok.kind]
def A8(te:TE):TS:=λD Y H=>te Y H λ_ H1=>D.nx Y H1
theorem bx(c:PE X e te)(b:swapsWith e none pos.line X.env=pure false:=by rfl):PS X (.Expr e pos) (A8 te):=by
 intro a s Y H D I h;exact wpAny_Expr_any (thn (c a s Y H _ I h) λv _ ⟨x,d,f,_,g⟩=>⟨Y,d,f,g⟩) I.quiet b
def zU(te:TE):TS:=λD Y H=>te Y H D.rt
theorem aE(b:PE X e te):PS X (.Return (some e) pos) (zU te):=by
 intro a s Y H D I h;exact wpAny_Return_some (thn (b a s Y H _ I h) λv _ ⟨x,c,d,g,f⟩=>⟨x,Y,c,d,g,f⟩)
def A6(c:TT)(t u:TS):TS:=λD Y H=>c Y H λb H1=>if b=true then t D Y H1 else u D Y H1
theorem aQ{c:Expr}{a b:List Stmt}{g:TT}(l:PT X c g)(ha:PSs X a t)(hb:PSs X b u):PS X (.If c a b pos) (A6 g t u):=by
 intro e s Y H D I h;refine wpAny_If (thn (l e s Y H _ I h) λd k ⟨f,i,j⟩=>?_)
 cases d with
 |true=>exact ha e k Y f D i j
 |false=>exact hb e k Y f D i j
def zZ:TS:=λ_ _ _=>False
theorem wf:PS X st zZ:=λ_ _ _ _ _ _ h=>h.elim
end
abbrev TG:=V->St->Hp->(St->Hp->Prop)->Prop
abbrev TGs:=LV->St->Hp->(St->Hp->Prop)->Prop
def PG(X:Cx)(F:Expr)(t:TG):Prop:=
 ∀(pins:List (Addr×Obj))(s:Shared)(Y:St)(H:Hp)(v:V)(u:Value)(Q:St->Hp->Prop),Inv X pins Y H s->aB v u->t v Y H Q->
  wpAny (model X.prog X.w) X.A (assign F X.env u) (λ_ s'=>∃J H',Inv X pins J H' s'/\Q J H') X.xe s
def PGs(X:Cx)(J:LR)(t:TGs):Prop:=
 ∀(pins:List (Addr×Obj))(s:Shared)(Y:St)(H:Hp)(vs:LV)(us:LL)(Q:St->Hp->Prop),Inv X pins Y H s->ax vs us->t vs Y H Q->
  wpAny (model X.prog X.w) X.A (assignInOrder ((assignEach J X.env).map (·.2)) us) (λ_ s'=>∃F H',Inv X pins F H' s'/\Q F H') X.xe s
abbrev tH:=V->V->V->Hp->(Hp->Prop)->Prop
def yP(X:Cx)(t:tH):Prop:=
 ∀(pins:List (Addr×Obj))(s:Shared)(Y:St)(H:Hp)(o i v:V)(ov F u:Value)(Q:Hp->Prop),Inv X pins Y H s->aB o ov->aB i F->aB v u->t o i v H Q->
  wpAny (model X.prog X.w) X.A (setItem ov F u) (λ_ s'=>∃H',Inv X pins Y H' s'/\Q H') X.xe s
abbrev TIp:=V->V->Hp->VK->Prop
def PIp(X:Cx)(op:Operator)(t:TIp):Prop:=
 ∀(pins:List (Addr×Obj))(s:Shared)(Y:St)(H:Hp)(x y:V)(v u:Value)(Q:VK),Inv X pins Y H s->aB x v->aB y u->t x y H Q->
  wpAny (model X.prog X.w) X.A (inplaceOp op v u) (EP X pins Y Q) X.xe s
def dh(i:Nat):TG:=λv Y H Q=>Q (Y.set i (some v)) H
theorem aR(a:X.N.Nodup)(b:X.N[i]?=some x)(e:Loc X.env.scope x)(c:X.fn x=true\/X.env.scope.names.lookup x=some .local:=by first|exact .inl U|exact .inr U|assumption):PG X (.Name x pos) (dh i):=by
 intro _ s Y H v u Q I r h;exact wpAny_assign_Name (nq I a b e r (λ_ d=>⟨_,H,d,h⟩) c)
def Fn:TGs:=λvs Y H Q=>vs=[]/\Q Y H
def Fo(t:TG)(u:TGs):TGs:=λvs Y H Q=>∃v r,vs=v::r/\t v Y H λF H'=>u r F H' Q
theorem fq:PGs X [] Fn:=by
 intro _ s Y H vs us Q I r h;obtain⟨e,h⟩:=h;subst e;cases r;exact assignInOrder_nil ⟨Y,H,I,h⟩
theorem cE{es:LR}{t:TG}{u:TGs}(l:PG X e t)(k:PGs X es u)
 (c:(assignEach (e::es) X.env).map (·.2)=assign e X.env::(assignEach es X.env).map (·.2):=by rfl):PGs X (e::es) (Fo t u):=by
 intro a s Y H vs us Q I r h;obtain⟨v,_,i,h⟩:=h;subst i
 cases r with
 |cons r rr=>
  rw[c];refine assignInOrder_cons (thn (l a s Y H _ _ _ I r h) λ_ j ⟨b,d,f,g⟩=>?_);exact k a j b d _ _ Q f rr g
def Fl(K:W.Frag)(n:Nat)(t:TGs):TG:=λv Y H Q=>∃a xs,v=.ref a/\SqT K H a xs/\xs.length=n/\t xs Y H Q
theorem fu{es:LR}{k:Nat}{t:TGs}(l:X.calm=true)(h:PGs X es t)
 (hn:(assignEach es X.env).length=n:=by rfl) (f:(assignEach es X.env).findIdx? (·.1)=none:=by rfl):PG X (.Tuple es k pos) (Fl X.K n t):=by
 intro c s Y H v u Q I r hw;obtain⟨a,xs,g,j,hl,hw⟩:=hw;subst g;cases r;obtain⟨_,d,ht,_⟩:=I.tuple j;refine assign_Tuple_tuple (I.ok.hd l) ht (by simp[hn,<- hl,d.length]) f λh' m=>?_;have i:Inv X c Y H { s with heap:=h' }:=I.kept (t':=s.toks) λb o e=>m b o (qJ (qt e)) e;exact h c _ Y H xs _ Q i (by simpa using d) hw
def Fm(to F:TE)(t:tH):TG:=λv Y H Q=>to Y H λo H1=>F Y H1 λi H2=>t o i v H2 λJ=>Q Y J
theorem lC{o i:Expr}{c d:TE}{t:tH}(C:PE X o c)(j:PE X i d)(B:yP X t)
 (ha:∀v,assign (.Subscript o i pos) X.env v=(do
  let ov <- holding [v] (eval o X.env)
  let b <- holding [v,ov] (eval i X.env)
  standAt pos
  holding [v,ov,b] (setItem ov b v)
  release [v,ov,b] []):=by intro _;rfl):PG X (.Subscript o i pos) (Fm c d t):=by
 intro a s Y H v u Q I r h;rw[ha];refine q9 (Qy (thn (C a s Y H _ I h) λov l ⟨x,w,p,D,q⟩=>?_));refine q9 (Qy (thn (j a l Y w _ p q) λb f ⟨y,n,A,g,e⟩=>?_));refine q9 (wpAny_standAt (q9 (Qy (thn (B a f Y n x y v ov b u _ A D g r e) λ_ _ ⟨z,m,k⟩=>?_))));exact wpAny_release ⟨Y,z,m,k⟩
def mZ(te:TE)(g:TG):TS:=λD Y H=>te Y H λx H1=>g x Y H1 D.nx
theorem jz{g:TG}(c:PE X e te)(i:PG X tg g)(b:swapsWithSole [tg] e pos.line X.env=pure false:=by rfl)(hw:swappedStores [tg] e X.env=pure none:=by rfl)
 (m:(assignEach [tg] X.env).map (·.2)=[assign tg X.env]:=by rfl):PS X (.Assign [tg] e pos) (mZ te g):=by
 intro a s Y H D I h;refine wpAny_Assign_stores (thn (c a s Y H _ I h) λv l ⟨x,d,f,k,j⟩=>?_) b hw;rw[m];exact thn (i a l Y d x v _ f k j) λ_ _ q=>q
theorem au(c:X.N.Nodup)(f:X.N[i]?=some x)(n:Loc X.env.scope x)(g:PE X e te)(d:swapsWith e (some (.Name x pos')) pos.line X.env=pure false:=by rfl)(k:X.fn x=true\/X.env.scope.names.lookup x=some .local:=by first|exact .inl U|exact .inr U|assumption):
 PS X (.Assign [.Name x pos'] e pos) (mZ te (dh i)):=by
 intro a s Y H D I h;refine wpAny_Assign_Name (thn (g a s Y H _ I h) λv _ ⟨y,j,l,b,m⟩=>?_) d;exact nq l c f n b (λ_ o=>⟨_,j,o,m⟩) k
def Ag(i:Nat)(te:TE)(F:TIp):TS:=λD Y H=>∃x,Y[i]?=some (some x)/\te Y H λy H1=>F x y H1 λz H2=>D.nx (Y.set i (some z)) H2
theorem Cp{op:Operator}{o:TIp}(K:X.N.Nodup)(j:X.N[i]?=some x)(f:Loc X.env.scope x)(L:PE X e te)(Q:PIp X op o)(R:X.fn x=true\/X.env.scope.names.lookup x=some .local:=by first|exact .inl U|exact .inr U|assumption):
 PS X (.AugAssign (.Name x pos') op e pos) (Ag i te o):=by
 intro a s Y H D I h;obtain⟨v,t,h⟩:=h;obtain⟨m,hn,hl⟩:=I.loc;have n:Vis X.env.scope x:=by rcases f with k|k;exact .inl k;exact .inr (.inl k)
 obtain⟨u,r,l⟩:=hl i x v j t n;refine wpAny_AugAssign_Name ?_
 have go:wpAny (model X.prog X.w) X.A (eval e X.env) (λw g=>wpAny (model X.prog X.w) X.A (inplaceOp op u w) (λr d=>wpAny (model X.prog X.w) X.A (storeName X.env x r) (λ_=>SP X a D .next) X.xe d) X.xe g) X.xe s:=by
  refine thn (L a s Y H _ I h) λw C ⟨y,M,G,S,J⟩=>?_;refine thn (Q a C Y M v y u w _ G r S J) λz _ ⟨_,F,O,q,p⟩=>?_;exact nq O K j f q (λ_ E=>⟨_,F,E,p⟩) R
 rcases l with⟨hk,P⟩|⟨hk,c,B,b⟩
 .exact wpAny_loadName_local I.ok.kind hk hn P go
 .rcases hk with hk|hk
  .exact wpAny_loadName_cell I.ok.kind hk B b go
  .rcases f with k|k
   .have:X.env.scope.names.lookup x=some .free:=hk;rw[k]at this;cases this
   .have:X.env.scope.names.lookup x=some .free:=hk;rw[k]at this;cases this
def ipI(f:Int->Int->Int):TIp:=λx y H Q=>∃i j,x=.int i/\y=.int j/\Q (.int (f i j)) H
theorem EU:PIp X .Add (ipI λi j=>i+j):=by
 intro _ s Y H x y v u Q I a b h;obtain⟨i,j,c,d,q⟩:=h;subst c;subst d;obtain⟨t,rfl⟩:=a;obtain⟨t',rfl⟩:=b;exact iadd_int ⟨.int _,H,I.tok _,⟨_,U⟩,q⟩
def zS(c:TT)(tb:TS):TS:=λD Y H=>∃W:Nat->St->Hp->Prop,(∃m,W m Y H)/\∀m Y H,W m Y H->
 c Y H λb H1=>if b=true then ∃N:St->Hp->Prop,(∀F H',N F H'->∃m',m'<m/\W m' F H')/\tb { D with nx:=N,ct:=N,bk:=D.nx } Y H1 else D.nx Y H1
theorem kY{c:Expr}{B:TT}(u:PassesOwn (model X.prog X.w) X.A X.env X.xe)(E:PT X c B)(hb:PSs X body tb):PS X (.While c body [] pos) (zS B tb):=by
 intro d s Y H D I h;obtain⟨W,⟨K,M⟩,r⟩:=h;refine wpAny_While (codeAny_whileLoop (λn L=>∃k H',Inv X d k H' L/\W n k H') ?_ K ⟨Y,H,I,M⟩);rintro n F ⟨e,y,J,G⟩;refine wpAny_passesOwn u (thn (E d F e y _ J (r n e y G)) λb C ⟨t,z,i⟩=>?_)
 cases b with
 |true=>
  obtain⟨N,x,i⟩:=i;rw[Q5 U];refine wpAny_passesOwn u (thn (hb d C e t _ z i) λf _ j=>?_)
  cases f with
  |next=>
   obtain⟨a,g,l,p⟩:=j;obtain⟨m,q,o⟩:=x a g p;exact⟨m,q,a,g,l,o⟩
  |cont=>
   obtain⟨a,g,l,p⟩:=j;obtain⟨m,q,o⟩:=x a g p;exact⟨m,q,a,g,l,o⟩
  |brk=>exact j
  |ret v=>exact j
 |false=>
  rw[Q4 qk];exact wpAny_execs_nil ⟨e,t,z,i⟩
structure It where
 go:Nat->Hp->Prop
 yld:Nat->Hp->V->Hp->Prop
 stop:Nat->Hp->Prop
def dq(X:Cx)(pins:List (Addr×Obj))(H:Hp)(b:Addr):Prop:=
 H b=none/\b≠X.env.locals/\b∉X.fs/\(b∈X.ex\/X.s₀.heap.objs.size<=b)/\(∀x c,X.env.cells.lookup x=some c->c≠b)/\∀p∈X.pn++pins,p.1≠b
theorem Inv.fpOk(I:Inv X pins Y H s)(hb:s.heap.objs.size<=b)(hn:H' b=none):dq X pins H' b:=by
 refine⟨hn,Nat.ne_of_gt (qG I.lt hb),I.nofs hb,.inr (qC I.sz hb),λx c e z=>?_,λp a z=>?_⟩
 .obtain⟨v,q⟩:=I.cell x c e;exact Q8 (qG q.lt (by rwa[z])) (Qf _)
 .exact Q8 (qG (qt (I.pin p a).1) (by rwa[z])) (Qf _)
structure iz(P:Program)(w:World)(K:W.Frag)(tg:Expr)(J:It)(fp:LK)(it:Addr)(tn:Nat->Heap->Prop):Prop where
 mem:it∈fp
 obj:∀i h,tn i h->∀b∈fp,∃o,h.get? b=some o/\∀v,o.data≠.cell v
 keep:∀i h h',tn i h->(∀b∈fp,∀o,h.get? b=some o->h'.get? b=some o)->tn i h'
 item:∀(X:Cx),X.prog=P->X.w=w->X.K=K->X.calm=true->∀(i:Nat)(pins:List (Addr×Obj))(s:Shared)(Y:St)(H:Hp)(E:LP),Inv X pins Y H s->(∀b∈fp,dq X pins H b)->tn i s.heap->J.go i H->
  wpAny (model P w) X.A (pyNext (.ref it)) (λr s1=>∃u,r=some u /\
   wpAny (model P w) X.A (letOwnedTupleGo tg (.ref it) u) (λ_ s2=>∃x H',Inv X pins Y H' s2/\aB x u/\J.yld i H x H'/\tn (i+1) s2.heap/\∀b∈fp,H' b=none) E s1) E s
 done:∀(X:Cx),X.prog=P->X.w=w->X.K=K->X.calm=true->∀(i:Nat)(pins:List (Addr×Obj))(s:Shared)(Y:St)(H:Hp)(E:LP),Inv X pins Y H s->(∀b∈fp,dq X pins H b)->tn i s.heap->J.stop i H->
  wpAny (model P w) X.A (pyNext (.ref it)) (λr s1=>r=none/\Inv X pins Y H s1) E s
 self:∀(A:Around)(i:Nat)(s:Shared)(Q:LP)(E:LP),tn i s.heap->Q (.ref it) s->wpAny (model P w) A (pyIter (.ref it)) Q E s
abbrev TI:=St->Hp->(It->Hp->Prop)->Prop
def PIE(X:Cx)(pins:List (Addr×Obj))(Y:St)(tg:Expr)(R:It->Hp->Prop)(F:Value)(s2:Shared):Prop:=
 ∃(it:Addr)(fp:LK)(O:Nat->Heap->Prop)(J:It)(H':Hp),F=.ref it/\Inv X pins Y H' s2/\iz X.prog X.w X.K tg J fp it O/\O 0 s2.heap/\(∀b∈fp,dq X pins H' b)/\R J H'
def PI(X:Cx)(tg iter:Expr)(F:TI):Prop:=
 ∀(pins:List (Addr×Obj))(s:Shared)(Y:St)(H:Hp)(R:It->Hp->Prop),Inv X pins Y H s->F Y H R->
  wpAny (model X.prog X.w) X.A (eval iter X.env) (λv s1=>wpAny (model X.prog X.w) X.A (pyIter v) (PIE X pins Y tg R) X.xe s1) X.xe s
theorem sE{o:Obj}{n:String}{vs:LD}{Q:Unit->Shared->Prop}(c:s.heap.get? it=some o)(b:o.cls=.type n)(hd:o.data=.fields vs)
 (hn:["enumerate","zip","dict_itemiterator","dict_reverseitemiterator","odict_iterator","itertools.zip_longest","itertools.pairwise"].contains n=false) (a:Q () s):wpAny M A (letOwnedTupleGo tg (.ref it) u) Q E s:=by
 unfold letOwnedTupleGo
 cases tg<;>first
  |exact qe a
  |(cases u<;>first
   |exact qe a
   |(refine q9 (wpAny_load c ?_)
     rw[b,hd];show wpAny M A (if(["enumerate","zip","dict_itemiterator","dict_reverseitemiterator","odict_iterator","itertools.zip_longest","itertools.pairwise"].contains n && vs[0]? == some (rawInt _))=true then _ else _) Q E s;rw[Q4 (by intro h;rw[hn,Bool.false_and]at h;cases h)]
     exact qe a))
noncomputable def Itl(K:W.Frag)(a:Addr):It:=
 ⟨λi H=>∃xs x,SqL K H a xs/\xs[i]?=some x,λi H x H'=>H'=H/\∀xs,SqL K H a xs->xs[i]?=some x,λi H=>∃xs,SqL K H a xs/\xs.length<=i⟩
noncomputable def Itt(K:W.Frag)(a:Addr):It:=
 ⟨λi H=>∃xs x,SqT K H a xs/\xs[i]?=some x,λi H x H'=>H'=H/\∀xs,SqT K H a xs->xs[i]?=some x,λi H=>∃xs,SqT K H a xs/\xs.length<=i⟩
noncomputable def Itr(lo:Int)(n:Nat):It:=⟨λi _=>i<n,λi H x H'=>H'=H/\x=.int (lo+i),λi _=>n<=i⟩
theorem zN(a it:Addr):iz P w K tg (Itl K a) [it] it (λi h=>h.IsListIter it a i) where
 mem:=by simp
 obj:=λi h st b hb=>by
  have e:b=it:=by simpa using hb
  subst e;obtain⟨o,e,c,d⟩:=st;exact⟨o,e,λv z=>by rw[d]at z;cases z⟩
 keep:=λi h h' st k=>st.at λo e=>k it (by simp) o e
 item:=by
  intro X r hw y F i f s Y H E I j st A;subst r hw y;obtain⟨xs,x,g,n⟩:=A;obtain⟨G,t,p,L⟩:=I.list g;obtain⟨u,R,ru⟩:=t.get n;obtain⟨m,D,Q,B,q,C⟩:=j it (by simp);refine wpAny_pyNext_list_item st p.isList (x:=u) (by simpa using R) λh' l M=>?_;have N:Inv X f Y H { s with heap:=h' }:=I.turned (t':=s.toks) (λb o hb e=>(M.2 b hb).trans e) m D B q C;obtain⟨o,e,c,d⟩:=id l;exact⟨u,U,sE (s:={ s with heap:=h' }) e c d Yk ⟨x,H,N,ru,⟨U,λys J=>by rwa[I.list_inj J g]⟩,l,λb hb=>(j b hb).1⟩⟩
 done:=by
  intro X r hw y F i f s Y H E I j st A;subst r hw y;obtain⟨xs,g,n⟩:=A;obtain⟨G,t,p,L⟩:=I.list g;obtain⟨m,D,Q,B,q,C⟩:=j it (by simp);have hl:=t.length;exact wpAny_pyNext_list_end (I.ok.hd F) st p.isList (by simp;omega) λh' O=>⟨U,I.turned (t':=s.toks) (λb o hb e=>O b o hb e) m D B q C⟩
 self:=λ_ _ _ _ _ st h=>wpAny_pyIter_listiter st h
theorem zL(a it:Addr):iz P w K tg (Itt K a) [it] it (λi h=>h.IsTupleIter it a i) where
 mem:=by simp
 obj:=λi h st b hb=>by
  have e:b=it:=by simpa using hb
  subst e;obtain⟨o,e,c,d⟩:=st;exact⟨o,e,λv z=>by rw[d]at z;cases z⟩
 keep:=λi h h' st k=>st.at λo e=>k it (by simp) o e
 item:=by
  intro X t hw A G i g s Y H E I l st B;subst t hw A;obtain⟨xs,x,j,q⟩:=B;obtain⟨f,y,p,L⟩:=I.tuple j;obtain⟨u,R,ru⟩:=y.get q;obtain⟨n,F,Q,C,r,D⟩:=l it (by simp);refine wpAny_pyNext_tuple_item st (show s.heap.IsTuple a f.toArray from p) (x:=u) (by simpa using R) λh' m M=>?_;have N:Inv X g Y H { s with heap:=h' }:=I.turned (t':=s.toks) (λb o hb e=>(M.2 b hb).trans e) n F C r D;obtain⟨o,e,c,d⟩:=id m;exact⟨u,U,sE (s:={ s with heap:=h' }) e c d Yk ⟨x,H,N,ru,⟨U,λys J=>by rwa[I.tuple_inj J j]⟩,m,λb hb=>(l b hb).1⟩⟩
 done:=by
  intro X t hw A G i g s Y H E I l st B;subst t hw A;obtain⟨xs,j,q⟩:=B;obtain⟨f,y,p,L⟩:=I.tuple j;obtain⟨n,F,Q,C,r,D⟩:=l it (by simp);have hl:=y.length;exact wpAny_pyNext_tuple_end (I.ok.hd G) st (show s.heap.IsTuple a f.toArray from p) (by simp;omega) λh' O=>⟨U,I.turned (t':=s.toks) (λb o hb e=>O b o hb e) n F C r D⟩
 self:=λ_ _ _ _ _ st h=>wpAny_pyIter_tupleiter st h
theorem zM(it:Addr)(c:Int)(n:Nat):iz P w K tg (Itr c n) [it] it (λi h=>IsRangeIter h it (c+(i:Nat) * 1) ((n:Int)-(i:Nat)) 1) where
 mem:=by simp
 obj:=λi h st b hb=>by
  have e:b=it:=by simpa using hb
  subst e
  exact⟨_,st,λv z=>by
   have F:Data.fields _=Data.cell v:=z
   cases F⟩
 keep:=λi h h' st k=>k it (by simp) _ st
 item:=by
  intro X m hw p g i a s Y H E I d st q;subst m hw p;obtain⟨j,x,D,r,l,u⟩:=d it (by simp);have W:=Walks.range (prog:=X.prog) (w:=X.w) (I.ok.hd g) it c 1 n;refine W.item i s _ _ q st λv h' tk y f B=>?_;obtain⟨t,rfl⟩:=y;have A:Inv X a Y H { s with heap:=h',toks:=tk }:=I.turned (λb o hb e=>B b o (by simpa using hb) e) j x r l u;refine⟨_,U,sE (s:={ s with heap:=h',toks:=tk }) (n:="range_iterator") f U U Yk ⟨.int (c+i),H,A,⟨t,?_⟩,⟨U,U⟩,f,λb hb=>(d b hb).1⟩⟩;rw[Int.mul_one]
 done:=by
  intro X m hw p g i a s Y H E I d st q;subst m hw p;obtain⟨j,x,D,r,l,u⟩:=d it (by simp);exact wpAny_pyNext_range_end (I.ok.hd g) st (by have:n<=i:=q;omega) λh' C=>⟨U,I.turned (t':=s.toks) (λb o hb e=>C b o hb e) j x r l u⟩
 self:=λ_ _ _ _ _ st h=>wpAny_pyIter_rangeiter st h
def Fc(K:W.Frag)(tl:TE):TI:=λY H R=>tl Y H λx H1=>∃a,x=.ref a/\(∃xs,SqL K H1 a xs)/\R (Itl K a) H1
def Fb(K:W.Frag)(tl:TE):TI:=λY H R=>tl Y H λx H1=>∃a,x=.ref a/\(∃xs,SqT K H1 a xs)/\R (Itt K a) H1
theorem cV{l:Expr}{tl:TE}(hl:PE X l tl):PI X tg l (Fc X.K tl):=by
 intro f s Y H R I h;refine thn (hl f s Y H _ I h) λv d ⟨x,g,c,k,i⟩=>?_;obtain⟨a,e,⟨xs,j⟩,q⟩:=i;subst e;cases k;obtain⟨_,_,p,_⟩:=c.list j;refine wpAny_pyIter_list p.isList ?_;refine⟨d.heap.objs.size,[d.heap.objs.size],_,_,g,U,c.kept (t':=d.toks) λb o e=>qb _ e,zN a _,⟨_,qr _ U,U,U⟩,λb hb=>?_,q⟩;have e:b=d.heap.objs.size:=by simpa using hb
 subst e;exact c.fpOk (qf _) (c.hok.fresh (qf _))
theorem i3{l:Expr}{tl:TE}(hl:PE X l tl):PI X tg l (Fb X.K tl):=by
 intro f s Y H R I h;refine thn (hl f s Y H _ I h) λv c ⟨x,i,d,m,j⟩=>?_;obtain⟨a,e,⟨xs,k⟩,q⟩:=j;subst e;cases m;obtain⟨g,_,p,_⟩:=d.tuple k;refine wpAny_pyIter_tuple (show c.heap.IsTuple a g.toArray from p) ?_;refine⟨c.heap.objs.size,[c.heap.objs.size],_,_,i,U,d.kept (t':=c.toks) λb o e=>qb _ e,zL a _,⟨_,qr _ U,U,U⟩,λb hb=>?_,q⟩;have e:b=c.heap.objs.size:=by simpa using hb
 subst e;exact d.fpOk (qf _) (d.hok.fresh (qf _))
theorem BL{R:It->Hp->Prop}{a c:Int}{t u v:Tok}{tk:Nat}(I:Inv X pins Y H s)(k:-(2 ^ 62)<=a)(j:a<2 ^ 62)(f:-(2 ^ 62)<=c)(g:c<2 ^ 62)
 (q:R (Itr a (c-a).toNat) H):wpAny (model X.prog X.w) X.A (pyIter (.ref s.heap.objs.size)) (PIE X pins Y tg R) E { s with heap:=s.heap.push { cls:=.type "range",data:=.fields #[.int a t,.int c u,.int 1 v] },toks:=tk }:=by
 refine wpAny_pyIter_range (IsRange.new ..) (small_one k j f g) ?_;have d:Inv X pins Y H { s with heap:=s.heap.push { cls:=.type "range",data:=.fields #[.int a t,.int c u,.int 1 v] },toks:=tk }:=I.kept λb o e=>qb _ e
 refine⟨(s.heap.push { cls:=.type "range",data:=.fields #[.int a t,.int c u,.int 1 v] }).objs.size,[(s.heap.push { cls:=.type "range",data:=.fields #[.int a t,.int c u,.int 1 v] }).objs.size],_,_,H,U,
  d.kept (t':=tk) λb o e=>qb _ e,zM _ a (c-a).toNat,?_,λb hb=>?_,q⟩
 .have h:a+((0:Nat):Int) * 1=a:=by simp
  have i:(((c-a).toNat:Nat):Int)-((0:Nat):Int)=Builtin.Range.rangeSize a c 1:=by rw[rangeSize_one];split<;>omega
  show IsRangeIter _ _ (a+((0:Nat):Int) * 1) ((((c-a).toNat:Nat):Int)-((0:Nat):Int)) 1;rw[h,i];exact qr _ U
 .have e:b=(s.heap.push { cls:=.type "range",data:=.fields #[.int a t,.int c u,.int 1 v] }).objs.size:=by simpa using hb
  subst e;exact d.fpOk (qf _) (d.hok.fresh (qf _))
def sA(ta:TA):TI:=λY H R=>ta Y H λvs H1=>∃j:Int,vs=[.int j]/\-(2 ^ 62)<=j/\j<2 ^ 62/\R (Itr 0 j.toNat) H1
theorem CA{a:Expr}{d:TA}{p:Pos}(l:Gl X "range")(g:X.mg "range"=none)(ha:PA X [a] d)(i:starEach [a] X.env=[(false,eval a X.env)]:=by rfl):PI X tg (.Call (.Name "range" p) [a] [] pos) (sA d):=by
 intro b s Y H R I h;refine Call_ (gR I l g boot_range (PyProof.Rows.callWith_type1 (thn (ha pos b s Y H _ I h) λus _ ⟨vs,_,k,m,c⟩=>?_) i U));obtain⟨j,e,c,f,q⟩:=c;subst e
 cases m with
 |cons r rr=>
  cases rr;obtain⟨t,rfl⟩:=r;exact call_range_1 (BL k Yo Yo c f (by simpa using q))
def A7(V:TI)(g:TG)(tb:TS):TS:=λD Y H=>V Y H λJ H1=>∃W:Nat->Nat->St->Hp->Prop,(∃m,W 0 m Y H1)/\∀i m Y H,W i m Y H->
 (J.stop i H/\D.nx Y H)\/(J.go i H/\∃N:St->Hp->Prop,(∀F H',N F H'->∃m',m'<m/\W (i+1) m' F H')/\∀x H',J.yld i H x H'->g x Y H' λO H2=>tb { D with nx:=N,ct:=N,bk:=D.nx } O H2)
noncomputable def jC(fp:LK)(h:Heap):List (Addr×Obj):=fp.filterMap λb=>(h.get? b).map λo=>(b,o)
theorem lK{o:Obj}(hb:b∈fp)(e:h.get? b=some o):(b,o)∈jC fp h:=List.mem_filterMap.mpr ⟨b,hb,by rw[e];rfl⟩
theorem DS{p:Addr×Obj}(c:p∈jC fp h):p.1∈fp/\h.get? p.1=some p.2:=by
 obtain⟨b,hb,e⟩:=List.mem_filterMap.mp c
 cases q:h.get? b with
 |none=>rw[q]at e;cases e
 |some o=>
  rw[q]at e;have a:(b,o)=p:=qM e;subst a;exact⟨hb,q⟩
theorem Inv.pinned(I:Inv X pins Y H s)(g:∀b∈fp,dq X pins H b)(f:∀b∈fp,∃o,s.heap.get? b=some o/\∀v,o.data≠.cell v):Inv X (pins++jC fp s.heap) Y H s:=
 I.pins_of λp c=>(qi.mp c).elim (λz=>I.pin p (qL _ z)) λz=>by
  obtain⟨hb,e⟩:=DS z;obtain⟨i,j,h,_⟩:=g p.1 hb;obtain⟨o,a,d⟩:=f p.1 hb;rw[e]at a;cases a;exact⟨e,i,j,h,d⟩
theorem Inv.unpinned{pl:List (Addr×Obj)}(I:Inv X (pins++pl) Y H s):Inv X pins Y H s:=I.pins_of λp a=>I.pin p (qL _ (qY _ a))
theorem bR{t:Expr}{wi:TI}{g:TG}(B:PassesOwn (model X.prog X.w) X.A X.env X.xe)(P:X.calm=true)(hi:PI X tg t wi)(hg:PG X tg g)(hb:PSs X body tb)
 (hs:∀x,foldedSetIterable t X.env x=pure x:=by intro _;rfl):PS X (.For tg t body [] pos) (A7 wi g tb):=by
 intro c s Y H D I h;refine wpAny_For (thn (hi c s Y H _ I h) λv _ h1=>thn h1 λ_ _ h2=>?_) hs;obtain⟨it,E,Q,J,H2,e,I2,T,O,f2,W,⟨m0,w0⟩,M⟩:=h2;subst e;have q:∀{H':Hp},(∀b∈E,H' b=none)->∀b∈E,dq X c H' b:=λhn b hb=>⟨hn b hb,(f2 b hb).2⟩;refine codeAny_forLoop_any (λn s'=>∃i l H',Inv X c l H' s'/\Q i s'.heap/\(∀b∈E,H' b=none)/\W i n l H') ?_ m0 ⟨0,Y,H2,I2,O,λb hb=>(f2 b hb).1,w0⟩;rintro n s3 ⟨i,p,F,V,G,K,w3⟩;rcases M i n p F w3 with⟨stop,qn⟩|⟨go,N,hN,step⟩
 .refine wpAny_passesOwn B (thn (T.done X U U U P i c s3 p F X.xe V (q K) G stop) λr s4 ⟨hr,I4⟩=>?_);subst hr;exact wpAny_execs_nil ⟨p,F,I4,qn⟩
 .refine wpAny_passesOwn B (thn (T.item X U U U P i c s3 p F X.xe V (q K) G go) λr s4 ⟨u,hr,h4⟩=>?_);subst hr;refine wpAny_passesOwn B (thn h4 λ_ s5 ⟨x,R,I5,r5,y5,z,Z⟩=>?_);have X0:=I5.pinned (q Z) (T.obj _ _ z);refine wpAny_passesOwn B (thn (hg _ s5 p R x u _ X0 r5 (step x R y5)) λ_ s6 ⟨S,H6,I6,q6⟩=>?_);refine wpAny_passesOwn B (thn (hb _ s6 S H6 _ I6 q6) λf L k=>?_)
  have y:∀{a:St}{H7:Hp},Inv X (c++jC E s5.heap) a H7 L->N a H7->∃m,m<n/\∃i l H',Inv X c l H' L/\Q i L.heap/\(∀b∈E,H' b=none)/\W i m l H':=λ{a H7} j C=>by
   obtain⟨m',hm,w7⟩:=hN a H7 C;refine⟨m',hm,i+1,a,H7,j.unpinned,T.keep _ _ _ z λb hb o e=>(j.pin (b,o) (qL _ (qL _ (lK hb e)))).1,λb hb=>?_,w7⟩;obtain⟨o,e,d⟩:=T.obj _ _ z b hb;exact(j.pin (b,o) (qL _ (qL _ (lK hb e)))).2.1
  cases f with
  |next=>obtain⟨a,H7,j,C⟩:=k;exact y j C
  |cont=>obtain⟨a,H7,j,C⟩:=k;exact y j C
  |brk=>obtain⟨a,H7,j,k⟩:=k;exact⟨a,H7,j.unpinned,k⟩
  |ret v=>obtain⟨x7,a,H7,j,r7,k⟩:=k;exact⟨x7,a,H7,j.unpinned,r7,k⟩
theorem dG{xs:LV}{g:TG}(b:Nat->St->Hp->Prop)(h0:b 0 Y H)(hl:∀i Y H,i<=xs.length->b i Y H->SqL K H a xs)
 (f:∀i x Y H,xs[i]?=some x->b i Y H->g x Y H λd H2=>tb { D with nx:=b (i+1),ct:=b (i+1),bk:=D.nx } d H2) (hd:∀Y H,b xs.length Y H->D.nx Y H):
 ∃W:Nat->Nat->St->Hp->Prop,(∃m,W 0 m Y H)/\∀i m Y H,W i m Y H->
  ((Itl K a).stop i H/\D.nx Y H)\/((Itl K a).go i H/\∃N:St->Hp->Prop,(∀c H',N c H'->∃m',m'<m/\W (i+1) m' c H')/\∀x H',(Itl K a).yld i H x H'->g x Y H' λd H2=>tb { D with nx:=N,ct:=N,bk:=D.nx } d H2):=by
 exists λi m Y H=>m=xs.length-i/\i<=xs.length/\b i Y H,⟨xs.length,by simp,qv _,h0⟩;rintro i m Y H ⟨rfl,h,p⟩;have q:=hl i Y H h p;by_cases hlt:i<xs.length
 .refine .inr ⟨⟨xs,xs[i],q,by simp[hlt]⟩,b (i+1),λc H' j=>⟨xs.length-(i+1),Yo,U,hlt,j⟩,λx H' y=>?_⟩;obtain⟨e,y⟩:=y;subst e;exact f i x Y _ (y xs q) p
 .have e:i=xs.length:=by omega
  subst e;exact .inl ⟨⟨xs,q,qf _⟩,hd Y H p⟩
theorem sG{xs:LV}{g:TG}(b:Nat->St->Hp->Prop)(h0:b 0 Y H)(hl:∀i Y H,i<=xs.length->b i Y H->SqT K H a xs)
 (f:∀i x Y H,xs[i]?=some x->b i Y H->g x Y H λd H2=>tb { D with nx:=b (i+1),ct:=b (i+1),bk:=D.nx } d H2) (hd:∀Y H,b xs.length Y H->D.nx Y H):
 ∃W:Nat->Nat->St->Hp->Prop,(∃m,W 0 m Y H)/\∀i m Y H,W i m Y H->
  ((Itt K a).stop i H/\D.nx Y H)\/((Itt K a).go i H/\∃N:St->Hp->Prop,(∀c H',N c H'->∃m',m'<m/\W (i+1) m' c H')/\∀x H',(Itt K a).yld i H x H'->g x Y H' λd H2=>tb { D with nx:=N,ct:=N,bk:=D.nx } d H2):=by
 exists λi m Y H=>m=xs.length-i/\i<=xs.length/\b i Y H,⟨xs.length,by simp,qv _,h0⟩;rintro i m Y H ⟨rfl,h,p⟩;have q:=hl i Y H h p;by_cases hlt:i<xs.length
 .refine .inr ⟨⟨xs,xs[i],q,by simp[hlt]⟩,b (i+1),λc H' j=>⟨xs.length-(i+1),Yo,U,hlt,j⟩,λx H' y=>?_⟩;obtain⟨e,y⟩:=y;subst e;exact f i x Y _ (y xs q) p
 .have e:i=xs.length:=by omega
  subst e;exact .inl ⟨⟨xs,q,qf _⟩,hd Y H p⟩
theorem j5{d:Int}{g:TG}(a:Nat->St->Hp->Prop)(h0:a 0 Y H)
 (f:∀i Y H,i<n->a i Y H->g (.int (d+i)) Y H λc H2=>tb { D with nx:=a (i+1),ct:=a (i+1),bk:=D.nx } c H2) (hd:∀Y H,a n Y H->D.nx Y H):
 ∃W:Nat->Nat->St->Hp->Prop,(∃m,W 0 m Y H)/\∀i m Y H,W i m Y H->
  ((Itr d n).stop i H/\D.nx Y H)\/((Itr d n).go i H/\∃N:St->Hp->Prop,(∀b H',N b H'->∃m',m'<m/\W (i+1) m' b H')/\∀x H',(Itr d n).yld i H x H'->g x Y H' λc H2=>tb { D with nx:=N,ct:=N,bk:=D.nx } c H2):=by
 exists λi m Y H=>m=n-i/\i<=n/\a i Y H,⟨n,by simp,qv _,h0⟩;rintro i m Y H ⟨rfl,_,p⟩;by_cases hlt:i<n
 .refine .inr ⟨hlt,a (i+1),λb H' h=>⟨n-(i+1),Yo,U,hlt,h⟩,λx H' y=>?_⟩;obtain⟨e,y⟩:=y;subst e y;exact f i Y _ hlt p
 .have e:i=n:=by omega
  subst e;exact .inl ⟨qf _,hd Y H p⟩
abbrev R2:=V->V->Hp->VK->Prop
def OpR(X:Cx)(f:Value->Value->Sem Value)(r:R2):Prop:=
 ∀(pins:List (Addr×Obj))(s:Shared)(Y:St)(H:Hp)(x y:V)(v u:Value)(Q:VK),Inv X pins Y H s->aB x v->aB y u->r x y H Q->
  wpAny (model X.prog X.w) X.A (f v u) (EP X pins Y Q) X.xe s
def UnR(X:Cx)(f:Value->Sem Value)(r:V->Hp->VK->Prop):Prop:=
 ∀(pins:List (Addr×Obj))(s:Shared)(Y:St)(H:Hp)(x:V)(v:Value)(Q:VK),Inv X pins Y H s->aB x v->r x H Q->
  wpAny (model X.prog X.w) X.A (f v) (EP X pins Y Q) X.xe s
def cJ(X:Cx)(f:Value)(r:LV->Hp->VK->Prop):Prop:=
 ∀(pins:List (Addr×Obj))(s:Shared)(Y:St)(H:Hp)(xs:LV)(us:LL)(Q:VK),Inv X pins Y H s->ax xs us->r xs H Q->
  wpAny (model X.prog X.w) X.A (call f us) (EP X pins Y Q) X.xe s
def TruR(X:Cx)(r:V->Hp->(Bool->Hp->Prop)->Prop):Prop:=
 ∀(pins:List (Addr×Obj))(s:Shared)(Y:St)(H:Hp)(x:V)(v:Value)(Q:Bool->Hp->Prop),Inv X pins Y H s->aB x v->r x H Q->
  wpAny (model X.prog X.w) X.A (truthy v) (TP X pins Y Q) X.xe s
def tOp(r:R2)(ta tb:TE):TE:=λY H Q=>ta Y H λx H1=>tb Y H1 λy H2=>r x y H2 Q
def tUn(r:V->Hp->VK->Prop)(ta:TE):TE:=λY H Q=>ta Y H λx H1=>r x H1 Q
def rI(C:Int->Int->Prop)(g:Int->Int->V):R2:=λx y H Q=>∃i j,x=.int i/\y=.int j/\C i j/\Q (g i j) H
def rI0(g:Int->Int->V):R2:=λx y H Q=>∃i j,x=.int i/\y=.int j/\Q (g i j) H
def rU(g:Int->V):V->Hp->VK->Prop:=λx H Q=>∃i,x=.int i/\Q (g i) H
section
variable {a b c:Expr}{tb tc:TE}
theorem t9(ha:PE X a ta)(hb:PE X b tb){R:V->V->Hp->Prop}(I:Inv X pins Y H s)
 (h:ta Y H λx H1=>tb Y H1 λy H2=>R x y H2) {f:Value->Value->Sem Value}
 (i:∀v u s2 x y H2,Inv X pins Y H2 s2->aB x v->aB y u->R x y H2->wpAny (model X.prog X.w) X.A (f v u) Q X.xe s2):
 wpAny (model X.prog X.w) X.A (eval a X.env) (λv c=>wpAny (model X.prog X.w) X.A (eval b X.env) (λu d=>wpAny (model X.prog X.w) X.A (f v u) Q X.xe d) X.xe c) X.xe s:=by
 refine thn (ha pins s Y H _ I h) λv m ⟨x,H1,j,l,k⟩=>?_;refine thn (hb pins m Y H1 _ j k) λu s2 ⟨y,H2,n,g,e⟩=>?_;exact i v u s2 x y H2 n l g e
theorem aq{op:Operator}{r:R2}(g:OpR X (binaryOp op) r)(ha:PE X a ta)(hb:PE X b tb):PE X (.BinOp a op b pos) (tOp r ta tb):=by
 intro c s Y H Q I h;exact wpAny_BinOp (t9 ha hb I h λv u e x y d j i f q=>g c e Y d x y v u Q j i f q)
theorem d8{op:UnaryOp}{r:V->Hp->VK->Prop}(d:UnR X (unaryOp op) r)(ha:PE X a ta):PE X (.UnaryOp op a pos) (tUn r ta):=by
 intro b s Y H Q I h;exact UnaryOp_ (thn (ha b s Y H _ I h) λv i ⟨x,c,e,g,f⟩=>d b i Y c x v Q e g f)
theorem opI{f:Value->Value->Sem Value}{C:Int->Int->Prop}{g:Int->Int->Int}
 (a:∀(i j:Int)(t u:Tok)(s:Shared)(Q:LP)(E:LP),C i j->Q (.int (g i j) s.toks) { s with toks:=s.toks+1 }->wpAny (model X.prog X.w) X.A (f (.int i t) (.int j u)) Q E s):
 OpR X f (rI C λi j=>.int (g i j)):=by
 intro _ s Y H x y v u Q I c b h;obtain⟨i,j,rfl,rfl,d,q⟩:=h;obtain⟨t,rfl⟩:=c;obtain⟨t',rfl⟩:=b;exact a i j t t' s _ _ d ⟨.int (g i j),H,I.tok _,⟨_,U⟩,q⟩
theorem wB{f:Value->Value->Sem Value}{g:Int->Int->Int}
 (a:∀(i j:Int)(t u:Tok)(s:Shared)(Q:LP)(E:LP),Q (.int (g i j) s.toks) { s with toks:=s.toks+1 }->wpAny (model X.prog X.w) X.A (f (.int i t) (.int j u)) Q E s):
 OpR X f (rI0 λi j=>.int (g i j)):=by
 intro _ s Y H x y v u Q I c b h;obtain⟨i,j,rfl,rfl,q⟩:=h;obtain⟨t,rfl⟩:=c;obtain⟨t',rfl⟩:=b;exact a i j t t' s _ _ ⟨.int (g i j),H,I.tok _,⟨_,U⟩,q⟩
theorem lE{f:Value->Value->Sem Value}{g:Int->Int->Bool}
 (a:∀(i j:Int)(t u:Tok)(s:Shared)(Q:LP)(E:LP),Q (.bool (g i j)) s->wpAny (model X.prog X.w) X.A (f (.int i t) (.int j u)) Q E s):
 OpR X f (rI0 λi j=>.bl (g i j)):=by
 intro _ s Y H x y v u Q I c b h;obtain⟨i,j,rfl,rfl,q⟩:=h;obtain⟨t,rfl⟩:=c;obtain⟨t',rfl⟩:=b;exact a i j t t' s _ _ ⟨.bl (g i j),H,I,U,q⟩
def GW(i j:Int):Prop:=0<j/\j<1073741824
def GV(i j:Int):Prop:=0<=j/\j<=1000000/\i.natAbs<2 ^ 64
def tK(i j:Int):Prop:=(-(2 ^ 64)<i/\i<2 ^ 64)\/(-(2 ^ 64)<j/\j<2 ^ 64)
theorem tK.ok{i j:Int}(h:tK i j):IntMulOk i j:=by
 rcases h with⟨b,a⟩|⟨b,a⟩
 .exact .of_left (intBits_le_64 b a)
 .exact .of_right (intBits_le_64 b a)
theorem D9:OpR X (binaryOp .Add) (rI0 λi j=>.int (i+j)):=wB λ_ _ _ _ _ _ _ q=>add_int q
theorem CS:OpR X (binaryOp .Sub) (rI0 λi j=>.int (i-j)):=wB λ_ _ _ _ _ _ _ q=>sub_int q
theorem D5:OpR X (binaryOp .FloorDiv) (rI GW λi j=>.int (i / j)):=opI λi j _ _ _ _ _ a q=>by
 have c:(0:Int)<j:=a.1;have b:j<1073741824:=a.2;exact floordiv_int Yo (by rwa[Int.fdiv_eq_ediv_of_nonneg i Yo]) (.inl (PyProof.noPylong_small Yo))
theorem CY:OpR X (binaryOp .Mod) (rI (λ_ j=>0<j) λi j=>.int (i % j)):=opI λi j _ _ _ _ _ a q=>by
 have b:(0:Int)<j:=a;exact mod_int' Yo (by rwa[Int.fmod_eq_emod_of_nonneg i Yo])
theorem CT:OpR X (binaryOp .Pow) (rI GV λi j=>.int (i ^ j.toNat)):=opI λ_ _ _ _ _ _ _ a q=>pow_int_small a.1 a.2.1 a.2.2 q
theorem unI{f:Value->Sem Value}{g:Int->Int}
 (a:∀(i:Int)(t:Tok)(s:Shared)(Q:LP)(E:LP),Q (.int (g i) s.toks) { s with toks:=s.toks+1 }->wpAny (model X.prog X.w) X.A (f (.int i t)) Q E s):
 UnR X f (rU λi=>.int (g i)):=by
 intro _ s Y H x v Q I b h;obtain⟨i,rfl,q⟩:=h;obtain⟨t,rfl⟩:=b;exact a i t s _ _ ⟨.int (g i),H,I.tok _,⟨_,U⟩,q⟩
theorem cY:UnR X (unaryOp .USub) (rU λi=>.int (-i)):=unI λ_ _ _ _ _ q=>neg_int q
end
noncomputable def vH:V->V->Bool
 |.non,.non=>true|.non,.int _=>true|.int _,.non=>true|.non,.bl _=>true|.bl _,.non=>true|.non,.str _=>true|.str _,.non=>true
 |.int _,.int _=>true|.bl _,.bl _=>true|.str _,.str _=>true|.byt _,.byt _=>true
 |.int _,.str _=>true|.str _,.int _=>true|.bl _,.str _=>true|.str _,.bl _=>true
 |_,_=>false
def rEq:R2:=λx y H Q=>vH x y=true/\Q (.bl (decide (x=y))) H
theorem FW{i j:Int}:decide (V.int i=V.int j)=(i == j):=by
 rw[Bool.eq_iff_iff];simp
theorem FY{i j:Bool}:decide (V.bl i=V.bl j)=(i == j):=by
 rw[Bool.eq_iff_iff];simp
theorem FV{i j:Str}:decide (V.str i=V.str j)=(i == j):=by
 rw[Bool.eq_iff_iff];simp
theorem FX{i j:Array UInt8}:decide (V.byt i=V.byt j)=(i.toList == j.toList):=by
 rw[Bool.eq_iff_iff];cases i;cases j;simp
section
variable {a b c:Expr}{tb tc:TE}
theorem dk{Q:VK}{k a:Bool}(I:Inv X pins Y H s)(q:Q (.bl k) H)(e:k=a):EP X pins Y Q (.bool a) s:=by
 subst e;exact⟨.bl k,H,I,U,q⟩
theorem D6:OpR X (compareOp .Eq) rEq:=by
 intro _ s Y H x y v u Q I c a h;obtain⟨b,q⟩:=h
 cases x with
 |non=>
  cases c
  cases y with
  |non=>cases a;exact PySem.EqNone.eq_none_none (dk I q (by simp))
  |bl j=>cases a;exact PySem.EqNone.eq_none_bool (dk I q (by simp))
  |int j=>obtain⟨t',rfl⟩:=a;exact PySem.EqNone.eq_none_int (dk I q (by simp))
  |str j=>obtain⟨t',rfl⟩:=a;exact PySem.EqNone.eq_none_str (dk I q (by simp))
  |_=>exact Q8 (show false=true from b) qk
 |bl i=>
  cases c
  cases y with
  |non=>cases a;exact PySem.EqNone.eq_bool_none (dk I q (by simp))
  |bl j=>cases a;exact eq_bool (dk I q FY)
  |str j=>obtain⟨t',rfl⟩:=a;exact PySem.EqMixed.eq_bool_str (dk I q (by simp))
  |_=>exact Q8 (show false=true from b) qk
 |int i=>
  obtain⟨t,rfl⟩:=c
  cases y with
  |non=>cases a;exact PySem.EqNone.eq_int_none (dk I q (by simp))
  |int j=>obtain⟨t',rfl⟩:=a;exact eq_int (dk I q FW)
  |str j=>obtain⟨t',rfl⟩:=a;exact PySem.EqMixed.eq_int_str (dk I q (by simp))
  |_=>exact Q8 (show false=true from b) qk
 |str i=>
  obtain⟨t,rfl⟩:=c
  cases y with
  |non=>cases a;exact PySem.EqNone.eq_str_none (dk I q (by simp))
  |bl j=>cases a;exact PySem.EqMixed.eq_str_bool (dk I q (by simp))
  |int j=>obtain⟨t',rfl⟩:=a;exact PySem.EqMixed.eq_str_int (dk I q (by simp))
  |str j=>obtain⟨t',rfl⟩:=a;exact eq_str (dk I q FV)
  |_=>exact Q8 (show false=true from b) qk
 |byt i=>
  obtain⟨t,rfl⟩:=c
  cases y with
  |byt j=>obtain⟨t',rfl⟩:=a;exact PySem.W.eq_bytes (dk I q FX)
  |_=>exact Q8 (show false=true from b) qk
 |_=>cases y<;>exact Q8 (show false=true from b) qk
theorem CZ:OpR X (compareOp .Lt) (rI0 λi j=>.bl (decide (i<j))):=lE λ_ _ _ _ _ _ _ q=>lt_int q
theorem D0:OpR X (compareOp .LtE) (rI0 λi j=>.bl (decide (i<=j))):=lE λ_ _ _ _ _ _ _ q=>le_int q
theorem D3:OpR X (compareOp .Gt) (rI0 λi j=>.bl (decide (j<i))):=lE λ_ _ _ _ _ _ _ q=>gt_int q
theorem D4:OpR X (compareOp .GtE) (rI0 λi j=>.bl (decide (j<=i))):=lE λ_ _ _ _ _ _ _ q=>ge_int q
theorem D1:OpR X (compareOp .Is) (λx y H Q=>y=.non/\Q (.bl (decide (x=.non))) H):=by
 intro _ s Y H x y v u Q I a b h;obtain⟨rfl,q⟩:=h;cases b;refine is_none_gen (dk I q ?_)
 cases x<;>first
  |(cases a;rfl)
  |(obtain⟨t,rfl⟩:=a;rfl)
theorem CV:OpR X (compareOp .IsNot) (λx y H Q=>y=.non/\Q (.bl (!decide (x=.non))) H):=by
 intro _ s Y H x y v u Q I a b h;obtain⟨rfl,q⟩:=h;cases b;refine isnot_none_gen (dk I q ?_)
 cases x<;>first
  |(cases a;rfl)
  |(obtain⟨t,rfl⟩:=a;rfl)
theorem aG(b:Expr){op:CmpOp}(h:op≠.In:=by decide)(d:op≠.NotIn:=by decide):behindInMarks op b=false:=by
 have a:(op == CmpOp.In)=false:=by cases op<;>first|rfl|exact Q8 U h
 have c:(op == CmpOp.NotIn)=false:=by cases op<;>first|rfl|exact Q8 U d
 cases b<;>simp[behindInMarks,a,c]
theorem CM{op:CmpOp}{r:R2}(i:OpR X (compareOp op) r)(ha:PE X a ta)(hb:PE X b tb)(e:behindInMarks op b=false):PE X (.Compare a [op] [b] pos) (tOp r ta tb):=by
 intro c s Y H Q I h;exact wpAny_Compare1 (t9 ha hb I h λv u f x y d k j g q=>i c f Y d x y v u Q k j g q) e
def kr(t:TE):TT:=λY H Q=>t Y H λx H'=>∃k,x=.bl k/\Q k H'
theorem Cm{op:CmpOp}{r:R2}(p:OpR X (compareOp op) r)(ha:PE X a ta)(hb:PE X b tb)(i:behindInMarks op b=false):PT X (.Compare a [op] [b] pos) (kr (tOp r ta tb)):=by
 intro d s Y H Q I h
 refine wpAny_isTrue_Compare1 (thn (ha d s Y H _ I h) λv C ⟨x,o,w,B,A⟩=>thn (hb d C Y o _ w A) λu j ⟨y,l,D,n,f⟩=>
  thn (p d j Y l x y v u _ D B n f) λc _ ⟨z,q,g,m,k,e,t⟩=>?_) i
 subst e;cases m;exact wpAny_truthy_bool ⟨q,g,t⟩
def Ae(r O:R2)(ta tb tc:TE):TE:=λY H Q=>ta Y H λx H1=>tb Y H1 λy H2=>r x y H2 λz F=>∃k,z=.bl k /\
 (if k=true then tc Y F λJ H4=>O y J H4 Q else Q (.bl false) F)
theorem Co{op g:CmpOp}{r o:R2}(ho:OpR X (compareOp op) r)(n:OpR X (compareOp g) o)(ha:PE X a ta)(hb:PE X b tb)(C:PE X c tc)
 (X0:lastMarks [op,g] [b,c]=false:=by with_unfolding_all rfl):PT X (.Compare a [op,g] [b,c] pos) (kr (Ae r o ta tb tc)):=by
 intro f s Y H Q I h
 refine isTrue_chain (thn (ha f s Y H _ I h) λv E ⟨x,N,J,r1,K⟩=>test_link (thn (hb f E Y N _ J K) λu q ⟨y,G,S,i,p⟩=>
  thn (ho f q Y G x y v u _ S r1 i p) λd M ⟨z,m,l,Z,k,e,j⟩=>?_)) X0
 subst e;cases Z;refine wpAny_truthy_bool ?_
 cases k with
 |false=>
  obtain⟨_,e',O⟩:=j;cases e';exact ite_ff ⟨m,l,O⟩
 |true=>
  refine ite_tt (test_last (thn (C f M Y m _ l j) λt w ⟨P,A,T,V,D⟩=>thn (n f w Y A y P u t _ T i V D) λd' _ ⟨_,F,R,L,_,W,B⟩=>?_));subst W;cases L;exact wpAny_truthy_bool ⟨F,R,B⟩
theorem jI:(sizeLine:Nat)<2 ^ 63:=by rw[sizeLine_eq];decide
theorem D8:OpR X (binaryOp .Add) (λx y H Q=>∃i j,x=.str i/\y=.str j/\i.length+j.length<=sizeLine/\Q (.str (i++j)) H):=by
 intro _ s Y H x y v u Q I b a h;obtain⟨i,j,rfl,rfl,c,q⟩:=h;obtain⟨t,rfl⟩:=b;obtain⟨t',rfl⟩:=a;exact add_str (λt' tk=>⟨.str (i++j),H,I.tok _,⟨_,U⟩,q⟩) c
theorem fF{x:V}(r:ax [x] us):∃u,us=[u]/\aB x u:=by
 cases r with
 |cons a b=>cases b;exact⟨_,U,a⟩
theorem jg{x:V}(r:ax [x,y] us):∃u a,us=[u,a]/\aB x u/\aB y a:=by
 cases r with
 |cons d c=>
  cases c with
  |cons b e=>cases e;exact⟨_,_,U,d,b⟩
theorem yt(a:X.calm=true):cJ X (.builtin "max") (λxs H Q=>∃i j,xs=[.int i,.int j]/\Q (.int (if j > i then j else i)) H):=by
 intro _ s Y H xs us Q I r h;obtain⟨i,j,rfl,q⟩:=h;obtain⟨u,_,rfl,⟨t,rfl⟩,⟨t',rfl⟩⟩:=jg r;refine max_two_ints (I.ok.hd a) λh' tk k=>⟨_,H,I.kept k,?_,q⟩;by_cases hj:j > i
 .rw[Q5 hj,Q5 hj];exact⟨_,U⟩
 .rw[Q4 hj,Q4 hj];exact⟨_,U⟩
theorem yr(a:X.calm=true):cJ X (.builtin "min") (λxs H Q=>∃i j,xs=[.int i,.int j]/\Q (.int (if j<i then j else i)) H):=by
 intro _ s Y H xs us Q I r h;obtain⟨i,j,rfl,q⟩:=h;obtain⟨u,_,rfl,⟨t,rfl⟩,⟨t',rfl⟩⟩:=jg r;refine min_two_ints (I.ok.hd a) λh' tk k=>⟨_,H,I.kept k,?_,q⟩;by_cases hj:j<i
 .rw[Q5 hj,Q5 hj];exact⟨_,U⟩
 .rw[Q4 hj,Q4 hj];exact⟨_,U⟩
end
structure iB(h:Heap)(x dx C:Addr)(mA:Str->LO):Prop where
 obj:h.get? x=some (PySem.W.instObj C dx)
 ns:h.Ns1 dx mA
 ne:dx≠x
theorem Eo(n:h.Ns1 dx mA):∃od,h.get? dx=some od/\∀name,PySem.W.lookIn name od=some (mA name):=by
 obtain⟨o,es,i,g,hd,hk,_,d⟩:=n;refine⟨o,g,λname=>?_⟩;have e:=d name;unfold nsFind findBy at e;rw[<- Array.find?_toList]at e;unfold PySem.W.lookIn;rw[hd];dsimp only;split
 .rename_i y q;rw[q]at e;exact congrArg some e
 .rename_i q;rw[q]at e
  have a:es.toList.any (·.refKey)=false:=by
   rw[List.any_eq_false];intro y f;obtain⟨z,t,b⟩:=hk y (Array.mem_toList_iff.mp f);simp[DictEntry.refKey,b]
  have c:¬ es.toList.any (·.refKey)=true:=by rw[a];exact qk
  rw[Q4 c];exact congrArg some e
theorem iB.look{x:Addr}(I:iB h x dx C mA):∃od,PySem.W.InstAt h x (PySem.W.instObj C dx) C (some od)/\∀name,PySem.W.lookIn name od=some (mA name):=
 let ⟨od,a,hl⟩:=Eo I.ns
 ⟨od,⟨I.obj,U,U,a⟩,hl⟩
section
variable {x:Addr}{v:Value}
theorem Fj{a:Bool}(X:K.In s.heap)(I:iB s.heap x dx C mA)(e:PySem.W.plainGet K C name=true)(d:PySem.W.hasDictIn K C=true)
 (ha:PySem.W.findIn K (.ref C) name=some none) (c:mA name=some v) (b:PySem.W.handedIn v=true) (h:Q v { s with toks:=s.toks+1 }):
 wpAny (model prog w) A (getAttr (.ref x) name a) Q E s:=by
 obtain⟨od,J,hl⟩:=I.look;exact PySem.W.get_value X J (PySem.W.plainGet_of e).1 (PySem.W.findObj_own d ha U (by rw[hl,c])) b h
theorem Fi{pl:Sem Bool}{Q:Value×LL->Shared->Prop}(X:K.In s.heap)(I:iB s.heap x dx C mA)(a:PySem.W.plainGet K C name=true)
 (c:PySem.W.findIn K (.ref C) name=some (some (.ref f))) (ht:PySem.W.isFn K (.ref f)=true) (b:mA name=none) (h:Q (.ref f,[.ref x]) s):
 wpAny (model prog w) A (getMethod (.ref x) name pl) Q E s:=by
 obtain⟨od,J,hl⟩:=I.look;exact PySem.W.method_fn X J (PySem.W.plainGet_of a).1 (PySem.W.plainGet_of a).2 c (beq_iff_eq.mp ht) (by show(PySem.W.lookIn name od).map (·.isSome)=some false;rw[hl,b];rfl) h
theorem B8{ns:LS}{Q:Unit->Shared->Prop}(X:K.In s.heap)(I:iB s.heap x dx C mA)
 (k:PySem.W.findIn K (.ref C) "__setattr__"=some (some (.builtin "object.__setattr__"))) (l:PySem.W.plainOver K C=true) (ht:PySem.W.takerIn K C name=some none) (j:PySem.W.hasDictIn K C=true)
 (hw:PySem.Within mA ns) (hsz:ns.length<=sizeLine)
 (h:∀h',iB h' x dx C (λy=>if y=name then some v else mA y)->Heap.SameBut dx s.heap h'->Q () { s with heap:=h',toks:=s.toks+2 }):
 wpAny (model prog w) A (setAttr (.ref x) name v) Q E s:=by
 obtain⟨od,J,hl⟩:=I.look;refine PySem.W.set_plain X J k (PySem.W.osa_open (s:={ s with toks:=s.toks+1 }) (r:=none) X J l ht λb=>?_);obtain⟨_,m,i⟩:=PySem.W.any_some j;have n:s.heap.get? x=some ⟨.ref C,some dx,.plain,#[]⟩:=I.obj;refine q9 (qe (q9 (q9 (wpAny_loadPart n (q9 (PySem.W.Looks.here (s:={ s with toks:=s.toks+1 }) (PySem.W.looks_clsIn X m) ?_))))));rw[i];refine qe (a:=some dx) (q9 (qe (q9 ?_)));refine wpAny_nsSet1 (s:={ s with toks:=s.toks+1 }) I.ns λh' c d=>?_;obtain⟨_,_,_,f,g,e⟩:=c.count (PySem.Within.cons name v hw);refine q9 (wpAny_lookBehind f (by rw[g];exact pastItsLine_dict (qC e (by rw[qE];omega))) ?_);exact qe (h _ ⟨(d.2 _ (Ne.symm I.ne)).trans I.obj,c,I.ne⟩ d)
theorem Eg{R:Result->Shared->Prop}{vs:LL}(X:K.In s.heap)(a:PySem.W.makesIn K C=true)
 (b:PySem.W.findIn K (.ref C) "__init__"=some (some (.ref f))) (c:PySem.W.typeIn K (.ref f)=some (.type "function"))
 (h:codeAny (model prog w) (A.under (.builtin "type.__call__" ⟨.ref C::vs,kw⟩)) (.call (.ref f) ⟨.ref (s.heap.objs.size+1)::vs,kw⟩) (PySem.W.InitBack (s.heap.objs.size+1) R)
  { s with heap:=(s.heap.push PySem.W.emptyDict).push (PySem.W.instObj C s.heap.objs.size) }):
 codeAny (model prog w) A (.call (.ref C) ⟨vs,kw⟩) R s:=by
 obtain⟨_,g,d,t,os⟩:=s;exact PySem.W.make_core (PySem.W.makes_of X a) (PySem.W.looks_findIn X b) (λself=>PySem.W.bind_fn X self c) (.inl U) h
end
noncomputable def d6(f:Str)(v:V):List (Str×V)->List (Str×V)
 |[]=>[(f,v)]
 |(g,x)::r=>if g=f then(g,v)::r else(g,x)::d6 f v r
theorem xh(f g:Str)(v:V):∀fs:List (Str×V),(d6 f v fs).lookup g=if g=f then some v else fs.lookup g
 |[]=>by
  show List.lookup g [(f,v)]=_;by_cases h:g=f
  .have hb:(g == f)=true:=beq_iff_eq.mpr h;simp only[List.lookup,hb,Q5 h]
  .have hb:(g == f)=false:=beq_eq_false_iff_ne.mpr h;simp only[List.lookup,hb,Q4 h]
 |(k,x)::r=>by
  have a:=xh f g v r;rw[show d6 f v ((k,x)::r)=(if k=f then(k,v)::r else(k,x)::d6 f v r)from rfl];by_cases hk:k=f
  .rw[Q5 hk];by_cases h:g=k
   .have hb:(g == k)=true:=beq_iff_eq.mpr h;simp only[List.lookup,hb,Q5 (h.trans hk)]
   .have hb:(g == k)=false:=beq_eq_false_iff_ne.mpr h;simp only[List.lookup,hb,Q4 (λe:g=f=>h (e.trans hk.symm))]
  .rw[Q4 hk];by_cases h:g=k
   .have hb:(g == k)=true:=beq_iff_eq.mpr h;simp only[List.lookup,hb,Q4 (λe:g=f=>hk (h.symm.trans e))]
   .have hb:(g == k)=false:=beq_eq_false_iff_ne.mpr h;simp only[List.lookup,hb];exact a
theorem rW(f:Str)(v:V):∀fs:List (Str×V),f∈(d6 f v fs).map (·.1)/\∀g,g∈fs.map (·.1)->g∈(d6 f v fs).map (·.1)
 |[]=>⟨by simp[d6],λg h=>by simp at h⟩
 |(k,x)::r=>by
  obtain⟨b,a⟩:=rW f v r;rw[show d6 f v ((k,x)::r)=(if k=f then(k,v)::r else(k,x)::d6 f v r)from rfl];by_cases hk:k=f
  .rw[Q5 hk];subst hk;exact⟨by simp,λg h=>by simpa using h⟩
  .rw[Q4 hk];refine⟨?_,λg h=>?_⟩
   .rw[qU];exact qp _ b
   .rw[qU]at h ⊢;rcases qw.mp h with e|e
    .exact qw.mpr (.inl e)
    .exact qp _ (a g e)
theorem xn(f:Str)(v:V):∀fs:List (Str×V),(d6 f v fs).length<=fs.length+1
 |[]=>by simp[d6]
 |(k,x)::r=>by
  have a:=xn f v r;rw[show d6 f v ((k,x)::r)=(if k=f then(k,v)::r else(k,x)::d6 f v r)from rfl];by_cases hk:k=f
  .rw[Q5 hk,qE,qE];omega
  .rw[Q4 hk,qE,qE];omega
theorem cu.some_of{v:V}{o:LO}(r:cu (some v) o):∃u,o=some u/\aB v u:=by
 cases o with
 |none=>exact(show False from r).elim
 |some u=>exact⟨u,U,r⟩
theorem cu.none_of{o:LO}(r:cu none o):o=none:=by
 cases o with
 |none=>rfl
 |some u=>exact(show False from r).elim
theorem Fg{v:V}(r:aB v u):PySem.W.handedIn u=true:=by
 cases v with
 |non=>cases(show u=Value.none from r);rfl
 |bl b=>cases(show u=Value.bool b from r);rfl
 |int i=>obtain⟨t,e⟩:=(show ∃t,u=Value.int i t from r);cases e;rfl
 |str x=>obtain⟨t,e⟩:=(show ∃t,u=Value.str x t from r);cases e;rfl
 |byt b=>obtain⟨t,e⟩:=(show ∃t,u=Value.bytes b t from r);cases e;rfl
 |flt b=>obtain⟨t,e⟩:=(show ∃t,u=Value.float b t from r);cases e;rfl
 |ref a=>cases(show u=Value.ref a from r);rfl
 |ty n=>cases(show u=Value.type n from r);rfl
section
variable {fs fs':List (Str×V)}
theorem m6(hok:HOk P w H h)(e:H a=some (.ins C dx fs)):∃mA,iB h a dx C mA/\(∀f,cu (fs.lookup f) (mA f))/\PySem.Within mA (fs.map (·.1))/\fs.length<=1000/\H dx=some (.own a):=by
 obtain⟨d,z,ne,ob,mA,n,r,q⟩:=(show bJ P w H h a (.ins C dx fs)from hok a _ e);exact⟨mA,⟨ob,n,ne⟩,r,q,z,d⟩
end
structure Cls(K:W.Frag)(C:Addr):Prop where
 pg:PySem.W.plainGet K C Str.empty=true
 hd:PySem.W.hasDictIn K C=true
 po:PySem.W.plainOver K C=true
 sa:PySem.W.findIn K (.ref C) "__setattr__"=some (some (.builtin "object.__setattr__"))
theorem Cls.get(c:Cls K C)(f:Str):PySem.W.plainGet K C f=true:=c.pg
def dX(K:W.Frag)(C:Addr)(f:Str):Prop:=PySem.W.findIn K (.ref C) f=some none
theorem dX.taker{f:Str}(n:dX K C f):PySem.W.takerIn K C f=some none:=by
 unfold PySem.W.takerIn;rw[show PySem.W.findIn K (.ref C) f=some none from n]
 rfl
structure fV(K:W.Frag)(C:Addr)(m:Str)(f:Addr):Prop where
 at_:PySem.W.findIn K (.ref C) m=some (some (.ref f))
 fn:PySem.W.isFn K (.ref f)=true
 kp:PySem.W.keepIn K (.ref f)=true
section
variable {fs:List (Str×V)}{f:Str}{v:V}
theorem Fh{b:Bool}(I:Inv X pins Y H s)(e:H a=some (.ins C dx fs))(c:Cls X.K C)(n:dX X.K C f)(l:fs.lookup f=some v)
 (h:∀u s',Inv X pins Y H s'->aB v u->Q u s'):wpAny (model X.prog X.w) A (getAttr (.ref a) f b) Q E s:=by
 obtain⟨g,O,r,_,_,_⟩:=m6 I.hok e;obtain⟨u,d,ru⟩:=cu.some_of (v:=v) (o:=g f) (by rw[<- l];exact r f);exact Fj I.kIn O (c.get f) c.hd n d (Fg ru) (h u _ (I.tok _) ru)
theorem sF{m:Str}{g:Addr}{pl:Sem Bool}{Q:Value×LL->Shared->Prop}(I:Inv X pins Y H s)(e:H a=some (.ins C dx fs))(c:Cls X.K C)(k:fV X.K C m g)(l:fs.lookup m=none)
 (h:Q (.ref g,[.ref a]) s):wpAny (model X.prog X.w) A (getMethod (.ref a) m pl) Q E s:=by
 obtain⟨b,O,r,_,_,_⟩:=m6 I.hok e;have hn:b m=none:=cu.none_of (by rw[<- l];exact r m);exact Fi I.kIn O (c.get m) k.at_ k.fn hn h
theorem B6{Q:Unit->Shared->Prop}(I:Inv X pins Y H s)(e:H a=some (.ins C dx fs))(c:Cls X.K C)(n:dX X.K C f)(hl:fs.length<1000)(m:aB y u)
 (h:∀s',Inv X pins Y (upd H a (.ins C dx (d6 f y fs))) s'->Q () s'):wpAny (model X.prog X.w) A (setAttr (.ref a) f u) Q E s:=by
 obtain⟨k,O,r,j,_,i⟩:=m6 I.hok e;have v:(fs.map (·.1)).length<=sizeLine:=by rw[qa,sizeLine_eq];omega
 refine B8 I.kIn O c.sa c.po n.taker c.hd j v λh' d l=>h _ ?_;have hd:∃o,h'.get? dx=some o:=let ⟨o,_,_,p,_⟩:=d.ns;⟨o,p⟩;refine I.write (x:=a) (e:=dx) (by rw[e];exact True.intro) (.inr i) (λb q hb z=>(l.2 b hb).trans z) hd ?_;refine⟨by rwa[ag O.ne],?_,O.ne,d.obj,_,d.ns,λg=>?_,λg t=>?_⟩
 .have:=xn f y fs;omega
 .show cu ((d6 f y fs).lookup g) (if g=f then some u else k g);rw[xh];by_cases q:g=f
  .rwa[Q5 q,Q5 q]
  .rw[Q4 q,Q4 q];exact r g
 .by_cases q:g=f
  .rw[q];exact(rW f y fs).1
  .refine(rW f y fs).2 g (j g λz=>t ?_);show(if g=f then some u else k g)=none;rwa[Q4 q]
theorem Inv.made(I:Inv X pins Y H s):Inv X pins Y (upd (upd H s.heap.objs.size (.own (s.heap.objs.size+1))) (s.heap.objs.size+1) (.ins C s.heap.objs.size []))
 { s with heap:=(s.heap.push PySem.W.emptyDict).push (PySem.W.instObj C s.heap.objs.size) }:=by
 have c:(s.heap.push PySem.W.emptyDict).get? s.heap.objs.size=some PySem.W.emptyDict:=qr s.heap U
 have i:((s.heap.push PySem.W.emptyDict).push (PySem.W.instObj C s.heap.objs.size)).get? (s.heap.objs.size+1)=some (PySem.W.instObj C s.heap.objs.size):=by
  have:=qr (s.heap.push PySem.W.emptyDict) (o:=PySem.W.instObj C s.heap.objs.size) U
  rwa [Qj]at this
 have g:(s.heap.push PySem.W.emptyDict).Ns s.heap.objs.size (λ_=>none):=⟨PySem.W.emptyDict,#[],_,c,U,(λe f=>Q8 f (by simp)),λ_=>U⟩;have h:=I.laid (a:=s.heap.objs.size) (o:=.own (s.heap.objs.size+1)) (h':=s.heap.push PySem.W.emptyDict) (t':=s.toks) (λb u q=>qb _ q) (qf _) ⟨_,c⟩;refine h.laid (a:=s.heap.objs.size+1) (o:=.ins C s.heap.objs.size []) (t':=s.toks) (λb u q=>qb _ q) (Nat.le_of_eq (Qj _ _)) ?_;have ne:s.heap.objs.size≠s.heap.objs.size+1:=qJ (Qe _);refine⟨by rw[ag ne,ah],qv _,ne,i,λ_=>none,(Heap.Ns1.of_empty g).at λo q=>qb _ q,λ_=>True.intro,λy d=>Q8 U d⟩
theorem GH{f:Str}(hb:attributeBase e f env (eval e env)=eval e env)
 (h:wpAny (model prog w) A (eval e env) (λo a=>wpAny (model prog w) A (getAttr o f true) Q E a) E s):wpAny (model prog w) A (eval (.Attribute e f pos) env) Q E s:=
 Attribute_any_ h (by rw[arm_eval_Attribute,hb])
end
def mY(K:W.Frag)(ta:TE)(f:Str):TE:=λY H Q=>ta Y H λx H1=>∃a C dx fs v,x=.ref a/\H1 a=some (.ins C dx fs)/\Cls K C/\dX K C f/\fs.lookup f=some v/\Q v H1
def Br(K:W.Frag)(ta tv:TE)(f:Str):TS:=λD Y H=>tv Y H λy H1=>ta Y H1 λx H2=>∃a C dx fs,x=.ref a/\H2 a=some (.ins C dx fs)/\Cls K C/\dX K C f/\fs.length<1000 /\
 D.nx Y (upd H2 a (.ins C dx (d6 f y fs)))
section
variable {o value:Expr}{f:Str}{tpos:Pos}{tv:TE}
theorem CJ(d:PE X e ta)(hb:attributeBase e f X.env (eval e X.env)=eval e X.env):PE X (.Attribute e f pos) (mY X.K ta f):=by
 intro b s Y H Q I h;refine GH hb (thn (d b s Y H _ I h) λu _ ⟨x,g,i,j,a,C,_,fs,v,ex,k,c,n,l,q⟩=>?_);subst ex;obtain rfl:u=Value.ref a:=j;exact Fh i k c n l λ_ _ m ru=>⟨v,g,m,ru,q⟩
theorem jy(ha:PE X o ta)(d:PE X value tv)(i:swapsWith value (some (.Attribute o f pos')) pos.line X.env=pure false):PS X (.Assign [.Attribute o f pos'] value pos) (Br X.K ta tv f):=by
 intro b s Y H D I h;refine plainObj_wpAny_Assign_Attribute (thn (d b s Y H _ I h) λu t ⟨y,k,m,j,q⟩=>thn (ha b t Y k _ m q) λov _ ⟨x,_,v,p,a,C,_,fs,ex,r,c,n,l,e⟩=>?_) i;subst ex;obtain rfl:ov=Value.ref a:=p;exact B6 v r c n l j λ_ g=>⟨Y,_,g,e⟩
theorem GY{pl:Sem Bool}{m:Str}{b:LR}(i:PE X e te)(I:Inv X pins Y H s)
 (h:te Y H λx H1=>∃a C dx fs g,x=.ref a/\H1 a=some (.ins C dx fs)/\Cls X.K C/\fV X.K C m g/\fs.lookup m=none /\
  ∀s1,Inv X pins Y H1 s1->wpAny (model X.prog X.w) X.A (callWith pos (.ref g) [.ref a] (backTo pos (starEach b X.env)) (backToKw pos (keywordEach [] X.env))) Q X.xe s1)
 (ht:eval (.Call (.Attribute e m apos) b [] pos) X.env=(do
  let ov <- eval e X.env
  standAt apos.atName
  let (f,first) <- holding [ov] (getMethod ov m pl)
  callWith pos f first (backTo pos (starEach b X.env)) (backToKw pos (keywordEach [] X.env)))):
 wpAny (model X.prog X.w) X.A (eval (.Call (.Attribute e m apos) b [] pos) X.env) Q X.xe s:=by
 refine PySem.W.methodCall_KW (pl:=pl) (thn (i pins s Y H _ I h) λu s1 ⟨x,H1,d,j,a,C,dx,fs,g,ex,n,c,k,l,q⟩=>?_) ht;subst ex;obtain rfl:u=Value.ref a:=j;exact sF d n c k l (q s1 d)
end
section
variable {c:Value}{b:Bool}
inductive dU(K:W.Frag)(H:Hp):V->Value->Prop where
 |non:dU K H .non (.type "NoneType")
 |bl (x:Bool):dU K H (.bl x) (.type "bool")
 |int (i:Int):dU K H (.int i) (.type "int")
 |str (x:Str):dU K H (.str x) (.type "str")
 |flt (x:UInt64):dU K H (.flt x) (.type "float")
 |lst {a:Addr}{xs:LV}(e:H a=some (.lst xs)):dU K H (.ref a) (.type "list")
 |frz {a:Addr}{o:Obj}{xs:LV}(e:H a=some (.frz o (.lst xs))):dU K H (.ref a) (.type "list")
 |tup {a:Addr}{xs:LV}(e:H a=some (.tup xs)):dU K H (.ref a) (.type "tuple")
 |dK {a:Addr}{kvs:LN}(e:H a=some (.dK kvs)):dU K H (.ref a) (.type "dict")
 |dT {a:Addr}{kvs:List (List Key×V)}(e:H a=some (.dT kvs)):dU K H (.ref a) (.type "dict")
 |ins {a C dx:Addr}{fs:List (Str×V)}(e:H a=some (.ins C dx fs)) (cl:Cls K C) (ha:PySem.W.findIn K (.ref C) "__class__"=some (some (.builtin "object.__class__")))
  (hn:PySem.W.specialIn K (.builtin "object.__class__") "__get__"=some (some (.builtin "getset_descriptor.__get__"))) (htk:PySem.W.takesIn K (.builtin "object.__class__")=some true)
  (hm:PySem.W.mroIn K C (.type "object")=some true):dU K H (.ref a) (.ref C)
theorem ET{x:V}{t:Value}(I:Inv X pins Y H s)(d:aB x u)(ty:dU X.K H x t)(e:PySem.W.kitOne X.K t c=some b)(h:∀tk,Q (.bool b) { s with toks:=tk }):
 wpAny (model X.prog X.w) A (call (.builtin "isinstance") [u,c]) Q E s:=by
 cases ty with
 |non=>cases(show u=Value.none from d);exact QA PySem.W.kitx_none I.kIn True.intro e (λz=>nomatch z) h
 |bl y=>cases(show u=Value.bool y from d);exact QA PySem.W.kitx_bool I.kIn True.intro e (λz=>nomatch z) h
 |int i=>obtain⟨t,q⟩:=(show ∃t,u=Value.int i t from d);cases q;exact QA PySem.W.kitx_int I.kIn True.intro e (λz=>nomatch z) h
 |str y=>obtain⟨t,q⟩:=(show ∃t,u=Value.str y t from d);cases q;exact QA PySem.W.kitx_str I.kIn True.intro e (λz=>nomatch z) h
 |flt y=>obtain⟨t,q⟩:=(show ∃t,u=Value.float y t from d);cases q;exact QA PySem.W.kitx_float I.kIn True.intro e (λz=>nomatch z) h
 |@lst a xs f=>
  cases(show u=Value.ref a from d);obtain⟨_,_,n,_,g⟩:=(show bJ X.prog X.w H s.heap a (.lst xs)from I.hok a _ f);exact QA PySem.W.kitx_list I.kIn ⟨_,g,U⟩ e (λz=>nomatch z) h
 |@frz a ob xs f=>
  cases(show u=Value.ref a from d);obtain⟨_,_,_,n,_,g⟩:=(show bJ X.prog X.w H s.heap a (.frz ob (.lst xs))from I.hok a _ f);exact QA PySem.W.kitx_list I.kIn ⟨_,g,U⟩ e (λz=>nomatch z) h
 |@tup a xs f=>
  cases(show u=Value.ref a from d);obtain⟨_,_,_,p⟩:=(show bJ X.prog X.w H s.heap a (.tup xs)from I.hok a _ f);obtain⟨o,g,k,_⟩:=p;exact QA PySem.W.kitx_tuple I.kIn ⟨o,g,k⟩ e (λz=>nomatch z) h
 |@dK a j f=>
  cases(show u=Value.ref a from d);obtain⟨_,_,vs,_,p⟩:=(show bJ X.prog X.w H s.heap a (.dK j)from I.hok a _ f);obtain⟨o,es,v,g,k,_⟩:=p;exact QA PySem.W.kitx_dict I.kIn ⟨o,g,k.1⟩ e (λz=>nomatch z) h
 |@dT a j f=>
  cases(show u=Value.ref a from d);obtain⟨_,_,xs,_,o,es,v,g,k,_⟩:=(show bJ X.prog X.w H s.heap a (.dT j)from I.hok a _ f);exact QA PySem.W.kitx_dict I.kIn ⟨o,g,k.1⟩ e (λz=>nomatch z) h
 |@ins a C _ fs f l ha hn m r=>
  cases(show u=Value.ref a from d);obtain⟨_,O,_⟩:=m6 I.hok f;obtain⟨od,J,_⟩:=O.look;exact QA (PySem.W.kitx_own (l.get _) l.hd ha hn m r) I.kIn J e (λz=>nomatch z) h
end
structure ca(k:Nat)(A:Around):Prop where
 hd:A.handled=none
 dp:A.depth+3 * k+5<recursionLimit
 un:A.units+16 * k+200<cLine
 gd:A.guards=some []
theorem ca.mono{k:Nat}(r:ca k A)(h:j<=k):ca j A:=⟨r.hd,by have:=r.dp;omega,by have:=r.un;omega,r.gd⟩
theorem ca.deeper{k:Nat}{A:Around}(r:ca (k+1) A)(env:Env):ca k (A.deeper env):=
 ⟨r.hd,by have:=r.dp;show A.depth+1+3 * k+5<_;omega,by have:=r.un;show A.units+3+16 * k+200<_;omega,r.gd⟩
theorem Ei:(A.under (.builtin "type.__call__" ⟨.ref C::us,kw⟩)).depth=A.depth+1:=by
 first|rfl|simp[Around.under,Code.weight,Code.isCreation,Code.isGuard,Code.isCaller,Code.frames,Code.isFrame,guardIds]
theorem Ef:(A.under (.builtin "type.__call__" ⟨.ref C::us,kw⟩)).units=A.units+1:=by
 first|rfl|simp[Around.under,Code.cUnits,Code.frames,Code.isFrame]
theorem Eh:(A.under (.builtin "type.__call__" ⟨.ref C::us,kw⟩)).guards=A.guards:=by
 first|rfl|simp[Around.under,Code.guards,Code.isGuard,guardIds,Around.pushGuards]
theorem ca.make{k:Nat}(r:ca (k+1) A)(C:Addr)(us:LL)(a:List (Str×Value)):ca k (A.under (.builtin "type.__call__" ⟨.ref C::us,a⟩)):=
 ⟨r.hd,by have:=r.dp;rw[Ei];omega,by have:=r.un;rw[Ef];omega,by rw[Eh];exact r.gd⟩
theorem ca.depth{k:Nat}{A:Around}(r:ca k A):A.depth<recursionLimit:=by have:=r.dp;omega
theorem ca.units{k:Nat}{A:Around}(r:ca k A):A.units+64<cLine:=by have:=r.un;omega
def uf:TA:=λ_ H Q=>Q [] H
def Ad(ta:TE)(F:TA):TA:=λY H Q=>ta Y H λx H1=>F Y H1 λxs H2=>Q (x::xs) H2
section
variable {es:LR}{t:TA}
theorem af:PA X [] uf:=λ_ _ _ _ H Q I h=>Calls.spliced_nil ⟨[],H,I,.nil,h⟩
theorem a9(ha:PE X e te)(hr:PA X es t)(f:starEach (e::es) X.env=(false,eval e X.env)::starEach es X.env:=by rfl):PA X (e::es) (Ad te t):=by
 intro b a s Y H Q I h;rw[f];show wpAny _ _ (spliced ((false,eval e X.env)::backTo b (starEach es X.env))) _ _ s;refine Calls.spliced_cons (thn (ha a s Y H _ I h) λu m ⟨x,i,j,l,k⟩=>?_);exact thn (hr b a m Y i _ j k) λus _ ⟨xs,d,n,g,c⟩=>⟨x::xs,d,n,.cons l g,c⟩
def mW(t:TA):TE:=λY H Q=>t Y H λxs H1=>xs.length<=sizeLine/\∀p,H1 p=none->Q (.ref p) (upd H1 p (.tup xs))
def mX(t:TA):TE:=λY H Q=>t Y H λxs H1=>xs.length<=sizeLine/\∀p,H1 p=none->Q (.ref p) (upd H1 p (.lst xs))
theorem CC{g}(h:PA X es t):PE X (.Tuple es g pos) (mW t):=by
 intro c s Y H Q I j;refine wpAny_Tuple_spliced (thn (h pos c s Y H _ I j) λus a ⟨xs,d,f,r,z,q⟩=>⟨by rwa[<- r.length],?_⟩);have i:d a.heap.objs.size=none:=f.hok.fresh (qf _);refine⟨.ref a.heap.objs.size,upd d a.heap.objs.size (.tup xs),f.laid (t':=a.toks) (λb u e=>qb _ e) (qf _) ?_,U,q _ i⟩;exact⟨⟨z,_,qr _ U,U⟩,us,r,⟨_,qr _ U,U,_,U⟩⟩
theorem CH(h:PA X es t):PE X (.List es pos) (mX t):=by
 intro c s Y H Q I i;refine wpAny_List_spliced (thn (h pos c s Y H _ I i) λus a ⟨xs,d,f,r,z,q⟩=>⟨by rwa[<- r.length],?_⟩);have g:d a.heap.objs.size=none:=f.hok.fresh (qf _);refine⟨.ref a.heap.objs.size,upd d a.heap.objs.size (.lst xs),f.laid (t':=a.toks) (λb u e=>qb _ e) (qf _) ?_,U,q _ g⟩;exact⟨z,us,0,r,qr _ U⟩
end
abbrev Sp:=LV->Hp->VK->XK->Prop
abbrev CXT:=List Env->Hp->Shared->XK->LP
structure iC(P:Program)(w:World)(K:W.Frag)(mg:Str->LO)(base:Heap)(A:Around)(outer:List Env)(s:Shared)(H:Hp):Prop where
 frames:A.frames=some outer
 mod:Mod K mg base
 bs:∀b o,base.get? b=some o->s.heap.get? b=some o/\H b=none
 bsz:base.objs.size<=s.heap.objs.size
 funs:s.heap.FunFrames base outer
 frf:∀b∈frs outer,H b=none
 hok:HOk P w H s.heap
 bare:AllBare s.gens
def CE(outer:List Env)(P:Program)(w:World)(H:Hp)(s:Shared)(Q:VK)(u:Value)(s':Shared):Prop:=
 ∃v H',s'.os=s.os/\AllBare s'.gens/\Un (frs outer) [] H H' s.heap s'.heap/\HOk P w H' s'.heap/\aB v u/\Q v H'
def CR(CX:CXT)(outer:List Env)(P:Program)(w:World)(H:Hp)(s:Shared)(Q:VK)(E:XK)(r:Result)(s':Shared):Prop:=
 match r with
 |.ok (.ret u)=>CE outer P w H s Q u s'
 |.ok _=>False
 |.error e=>CX outer H s E e s'
structure aM(P:Program)(w:World)(K:W.Frag)(mg:Str->LO)(base:Heap)(CX:CXT)(k:Nat)(f:Addr)(fd:FuncData)(ps:LS)(sp:Sp):Prop where
 len:∀vs H Q E,sp vs H Q E->vs.length=ps.length
 run:∀(A:Around)(outer:List Env)(s:Shared)(H:Hp)(args:Args)(us:LL)(vs:LV)(Q:VK)(E:XK),ca k A->iC P w K mg base A outer s H->BindsTo s fd args (ps.zip us)->ax vs us->sp vs H Q E->
  codeAny (model P w) A (.call (.ref f) args) (CR CX outer P w H s Q E) s
theorem iC.make(e:iC P w K mg base A outer s H)(C:Addr)(us:LL)(a:List (Str×Value)):
 iC P w K mg base (A.under (.builtin "type.__call__" ⟨.ref C::us,a⟩)) outer s H:=⟨by first|exact e.frames|(simpa[Around.under,Code.envs,Code.isFrame,pushEnvs]using e.frames),e.mod,e.bs,e.bsz,e.funs,e.frf,e.hok,e.bare⟩
theorem Inv.env0(I:Inv X pins Y H s):iC X.prog X.w X.K X.mg X.base X.A X.stack s H:=
 ⟨I.ok.frames,I.ok.mod,I.bs,qC I.ok.bsz I.sz,I.stack,I.stkFree,I.hok,I.bare⟩
theorem Inv.after{Q:VK}(I:Inv X pins Y H s)(h:CE X.stack X.prog X.w H s Q u s'):EP X pins Y Q u s':=by
 obtain⟨v,H',os,bare,un,hok,r,q⟩:=h;obtain⟨c,g,d,t,a⟩:=s';obtain rfl:a=s.os:=os;exact⟨v,H',I.call (h':=c) (g':=g) (d':=d) (t':=t) (ch:=[]) un hok bare (λb z=>Q8 z (by simp)),r,q⟩
def ui(sp:Sp)(dvs:LV)(E:XK)(t:TA):TE:=λY H Q=>t Y H λvs H1=>sp (vs++dvs) H1 Q E
def ug(C:Addr)(m:Str)(sp:Sp)(dvs:LV)(E:XK)(ta:TE)(t:TA):TE:=λY H Q=>ta Y H λx H1=>∃a dx fs,x=.ref a/\H1 a=some (.ins C dx fs)/\fs.lookup m=none /\
 t Y H1 λvs H2=>sp (x::(vs++dvs)) H2 Q E
def A0(C:Addr)(sp:Sp)(dvs:LV)(E:XK)(t:TA):TE:=λY H Q=>t Y H λvs H1=>∀x dx,H1 x=none->H1 dx=none->dx≠x->
 sp (.ref x::(vs++dvs)) (upd (upd H1 dx (.own x)) x (.ins C dx [])) (λv H2=>v=.non/\Q (.ref x) H2) E
def dZ(K:W.Frag)(fd:FuncData)(ps:LS)(ds:LL):Prop:=
 ∀(s:Shared)(us:LL),K.In s.heap->(us++ds).length=ps.length->BindsTo s fd ⟨us,[]⟩ (ps.zip (us++ds))
theorem dZ.all(h:∀us:LL,us.length=ps.length->bindArgs fd ⟨us,[]⟩=pure (ps.zip us)):dZ K fd ps []:=λs us _ hl=>by
 rw[qA]at hl ⊢;exact .of_eq (h us hl)
def gY(CX:CXT)(X:Cx)(E:XK):Prop:=∀(pins:List (Addr×Obj))(Y:St)(H:Hp)(s:Shared)(e:Value)(s':Shared),Inv X pins Y H s->CX X.stack H s E e s'->X.xe e s'
section
variable {CX:CXT}{k:Nat}{sp:Sp}{ds:LL}{E:XK}{m:Str}{p:Pos}{o:Expr}{es:LR}{t:TA}
theorem oW{Q:VK}{vs:LV}(F:aM X.prog X.w X.K X.mg X.base CX k f fd ps sp)(hr:ca k X.A)(hb:dZ X.K fd ps ds)(hd:ax dvs ds)(d:gY CX X E)
 (I:Inv X pins Y H s) (r:ax vs us) (h:sp (vs++dvs) H Q E):wpAny (model X.prog X.w) X.A (call (.ref f) us) (EP X pins Y Q) X.xe s:=by
 have b:ax (vs++dvs) (us++ds):=r.append hd;have hl:(us++ds).length=ps.length:=by rw[<- b.length];exact F.len _ _ _ _ h
 refine wpAny_call (codeAny_mono (F.run X.A X.stack s H ⟨us,[]⟩ (us++ds) (vs++dvs) Q E hr I.env0 (hb s us I.kIn hl) b h) λr c a=>?_)
 cases r with
 |error e=>exact d pins Y H s e c I a
 |ok fl=>
  cases fl with
  |ret u=>exact I.after a
  |next=>exact False.elim a
  |brk=>exact False.elim a
  |cont=>exact False.elim a
theorem CN(F:aM X.prog X.w X.K X.mg X.base CX k f fd ps sp)(hr:ca k X.A)(j:Gl X x)(g:X.mg x=some (.ref f))(hk:PySem.W.keepIn X.K (.ref f)=true)(hb:dZ X.K fd ps ds)(hd:ax dvs ds)(l:gY CX X E)
 (ha:PA X (e::es) t) (c:(x == ("__debug__":Str))=false:=by decide) (i:starEach (e::es) X.env=(false,eval e X.env)::starEach es X.env:=by rfl) (b:(backTo pos (starEach es X.env)).any (·.1)=false:=by rfl):
 PE X (.Call (.Name x p) (e::es) [] pos) (ui sp dvs E t):=by
 intro a s Y H Q I h;refine wpAny_Call_Name_kw (rS I j g ?_ c);refine PySem.W.callWith_K (h₀:=X.base) I.ok.mod.kin hk (thn (ha pos a s Y H _ I h) λus _ ⟨vs,_,d,r,q⟩=>⟨d.kIn,?_⟩) i b;exact oW F hr hb hd l d r q
theorem pQ{pl:Sem Bool}(v:PE X o ta)(c:Cls X.K C)(d:fV X.K C m f)(F:aM X.prog X.w X.K X.mg X.base CX k f fd ps sp)(hr:ca k X.A)(hb:dZ X.K fd ps ds)(hd:ax dvs ds)(D:gY CX X E)(ha:PA X (e::es) t)
 (i:starEach (e::es) X.env=(false,eval e X.env)::starEach es X.env:=by rfl) (g:(backTo pos (starEach es X.env)).any (·.1)=false:=by rfl)
 (ht:eval (.Call (.Attribute o m apos) (e::es) [] pos) X.env=(do
  let ov <- eval o X.env
  standAt apos.atName
  let (f,first) <- holding [ov] (getMethod ov m pl)
  callWith pos f first (backTo pos (starEach (e::es) X.env)) (backToKw pos (keywordEach [] X.env))):=by rfl):
 PE X (.Call (.Attribute o m apos) (e::es) [] pos) (ug C m sp dvs E ta t):=by
 intro b s Y H Q I h;refine PySem.W.methodCall_KW (pl:=pl) (thn (v b s Y H _ I h) λu G ⟨x,y,j,z,a,_,fs,ex,B,l,q⟩=>?_) ht;subst ex;obtain rfl:u=Value.ref a:=z;refine sF j B c d l ?_;refine PySem.W.callWith_K (first:=[.ref a]) (h₀:=X.base) I.ok.mod.kin d.kp (thn (ha pos b G Y y _ j q) λus _ ⟨vs,_,n,r,p⟩=>⟨n.kIn,?_⟩) i g;exact oW (us:=.ref a::us) (vs:=.ref a::vs) F hr hb hd D n (.cons U r) p
theorem CF{pl:Sem Bool}(g:PE X o ta)(c:Cls X.K C)(e:fV X.K C m f)(F:aM X.prog X.w X.K X.mg X.base CX k f fd ps sp)(hr:ca k X.A)(hb:dZ X.K fd ps ds)(hd:ax dvs ds)(n:gY CX X E)
 (ht:eval (.Call (.Attribute o m apos) [] [] pos) X.env=(do
  let ov <- eval o X.env
  standAt apos.atName
  let (f,first) <- holding [ov] (getMethod ov m pl)
  callWith pos f first (backTo pos (starEach [] X.env)) (backToKw pos (keywordEach [] X.env))):=by rfl):
 PE X (.Call (.Attribute o m apos) [] [] pos) (ug C m sp dvs E ta uf):=by
 intro b s Y H Q I h;refine PySem.W.methodCall_KW (pl:=pl) (thn (g b s Y H _ I h) λu _ ⟨x,_,d,i,a,_,fs,ex,j,l,q⟩=>?_) ht;subst ex;obtain rfl:u=Value.ref a:=i;refine sF d j c e l ?_;exact PySem.W.callWith_K0 (first:=[.ref a]) d.kIn e.kp (oW (us:=[.ref a]) (vs:=[.ref a]) F hr hb hd n d (.cons U .nil) q)
structure Mk(K:W.Frag)(C f:Addr):Prop where
 makes:PySem.W.makesIn K C=true
 init:PySem.W.findIn K (.ref C) "__init__"=some (some (.ref f))
 fn:PySem.W.isFn K (.ref f)=true
 kp:PySem.W.keepIn K (.ref C)=true
theorem Bt{Q:VK}{vs:LV}(M:Mk X.K C f)(F:aM X.prog X.w X.K X.mg X.base CX k f fd ps sp)(hr:ca (k+1) X.A)(hb:dZ X.K fd ps ds)(hd:ax dvs ds)
 (m:gY CX X E) (I:Inv X pins Y H s) (r:ax vs us)
 (h:∀x dx,H x=none->H dx=none->dx≠x->sp (.ref x::(vs++dvs)) (upd (upd H dx (.own x)) x (.ins C dx [])) (λv H2=>v=.non/\Q (.ref x) H2) E):
 wpAny (model X.prog X.w) X.A (call (.ref C) us) (EP X pins Y Q) X.xe s:=by
 have d:=h (s.heap.objs.size+1) s.heap.objs.size (I.hok.fresh (Nat.le_succ _)) (I.hok.fresh (qf _)) (qJ (Qe _));have b:=Inv.made (C:=C) I;have c:ax (V.ref (s.heap.objs.size+1)::(vs++dvs)) (Value.ref (s.heap.objs.size+1)::(us++ds)):=.cons U (r.append hd)
 have hl:(Value.ref (s.heap.objs.size+1)::us++ds).length=ps.length:=by
  have e:=c.length;rw[F.len _ _ _ _ d]at e;exact e.symm
 refine wpAny_call (Eg (f:=f) I.kIn M.makes M.init (beq_iff_eq.mp M.fn) (codeAny_mono (F.run _ X.stack _ _ ⟨Value.ref (s.heap.objs.size+1)::us,[]⟩ (Value.ref (s.heap.objs.size+1)::(us++ds)) _ _ E (hr.make C us [])
  (b.env0.make C us []) (hb _ (Value.ref (s.heap.objs.size+1)::us) b.kIn hl) c d) λr n a=>?_))
 cases r with
 |error e=>exact m pins Y _ _ e n b a
 |ok fl=>
  cases fl with
  |ret u=>
   obtain⟨v,H',g,i,j,l⟩:=b.after a;subst j;exact⟨i,⟨V.ref (s.heap.objs.size+1),H',g,U,l⟩⟩
  |next=>exact False.elim a
  |brk=>exact False.elim a
  |cont=>exact False.elim a
theorem CG(M:Mk X.K C f)(F:aM X.prog X.w X.K X.mg X.base CX k f fd ps sp)(hr:ca (k+1) X.A)(j:Gl X x)(g:X.mg x=some (.ref C))(hb:dZ X.K fd ps ds)(hd:ax dvs ds)(l:gY CX X E)
 (ha:PA X (e::es) t) (c:(x == ("__debug__":Str))=false:=by decide) (i:starEach (e::es) X.env=(false,eval e X.env)::starEach es X.env:=by rfl) (b:(backTo pos (starEach es X.env)).any (·.1)=false:=by rfl):
 PE X (.Call (.Name x p) (e::es) [] pos) (A0 C sp dvs E t):=by
 intro a s Y H Q I h;refine wpAny_Call_Name_kw (rS I j g ?_ c);refine PySem.W.callWith_K (h₀:=X.base) I.ok.mod.kin M.kp (thn (ha pos a s Y H _ I h) λus _ ⟨vs,_,d,r,q⟩=>⟨d.kIn,?_⟩) i b;exact Bt M F hr hb hd l d r q
end
section
variable {CX:CXT}{k:Nat}{ks:LS}{sp:Sp}{E:XK}{m:Str}{p kpos:Pos}{o:Expr}{es:LR}{kws:List Keyword}{t tk:TA}{nm:Option Str}
variable {g:LL->LL->LL}{gV:LV->LV->LV}
end
structure aT(N P:LS)(sc:Scope):Prop where
 kind:sc.kind=.function
 co:sc.isCoroutine=false
 gen:sc.isGenerator=false
 nd:N.Nodup
 pre:N.take P.length=P
 par:∀x∈P,sc.names.lookup x=some .local\/sc.names.lookup x=some .cell
 nofree:∀y∈sc.names,y.2≠.free
theorem yy{a:Str->Option NameKind}{x:Str}:∀{binds:List (Str×Value)}{m:Str->LO},(∀v,(x,v)∉binds)->bindL a binds m x=m x
 |[],_,_=>rfl
 |(n,v)::r,m,h=>by
  unfold bindL;rw[yy λw hw=>h w (qp _ hw)];split
  .have:x≠n:=by rintro rfl;exact h v qq
   simp[this]
  .rfl
theorem yB{a:Str->Option NameKind}{x:Str}:∀{binds:List (Str×Value)}{m:Str->LO},(∀v,(x,v)∉binds)->bindC a binds m x=m x
 |[],_,_=>rfl
 |(n,v)::r,m,h=>by
  unfold bindC;rw[yB λw hw=>h w (qp _ hw)];split
  .rfl
  .have:x≠n:=by rintro rfl;exact h v qq
   simp[this]
theorem yA{a:Str->Option NameKind}{x:Str}{v:Value}:∀{P:LS}{vs:LL}{i:Nat}{m:Str->LO},P.Nodup->P[i]?=some x->vs[i]?=some v->a x=some .local->
 bindL a (P.zip vs) m x=some v
 |[],_,_,_,_,h,_,_=>by simp at h
 |_::_,[],_,_,_,_,h,_=>by simp at h
 |p::P,w::vs,0,m,nd,h1,h2,hk=>by
  simp at h1 h2;subst h1;subst h2;show bindL a ((p,w)::P.zip vs) m p=_;unfold bindL;rw[yy λv b=>(List.nodup_cons.mp nd).1 (List.of_mem_zip b).1,Q5 hk];simp
 |p::P,w::vs,i+1,m,nd,h1,h2,hk=>by
  show bindL a ((p,w)::P.zip vs) m x=_;unfold bindL;exact yA (i:=i) (List.nodup_cons.mp nd).2 (by simpa using h1) (by simpa using h2) hk
theorem yC{a:Str->Option NameKind}{x:Str}{v:Value}:∀{P:LS}{vs:LL}{i:Nat}{m:Str->LO},P.Nodup->P[i]?=some x->vs[i]?=some v->a x≠some .local->
 bindC a (P.zip vs) m x=some v
 |[],_,_,_,_,h,_,_=>by simp at h
 |_::_,[],_,_,_,_,h,_=>by simp at h
 |p::P,w::vs,0,m,nd,h1,h2,hk=>by
  simp at h1 h2;subst h1;subst h2;show bindC a ((p,w)::P.zip vs) m p=_;unfold bindC;rw[yB λv b=>(List.nodup_cons.mp nd).1 (List.of_mem_zip b).1,Q4 hk];simp
 |p::P,w::vs,i+1,m,nd,h1,h2,hk=>by
  show bindC a ((p,w)::P.zip vs) m x=_;unfold bindC;exact yC (i:=i) (List.nodup_cons.mp nd).2 (by simpa using h1) (by simpa using h2) hk
noncomputable def start(N:LS)(vs:LV):St:=vs.map some++List.replicate (N.length-vs.length) none
noncomputable def ig(CX:CXT)(P:Program)(w:World)(K:W.Frag)(mg:Str->LO)(base:Heap)(N:LS)(qual:Str)(scope:Scope)(f:Addr)(F:Value)(A:Around)(outer:List Env)(s:Shared)(H:Hp)(E:XK):Cx where
 prog:=P
 w:=w
 K:=K
 mg:=mg
 base:=base
 A:=A.deeper (envOfC qual scope s.heap.objs.size f F)
 N:=N
 s₀:=s
 H₀:=H
 env:=envOfC qual scope s.heap.objs.size f F
 outer:=outer
 stack:=envOfC qual scope s.heap.objs.size f F::outer
 ex:=[]
 calm:=true
 fn:=λ_=>true
 pn:=[]
 xe:=λe s'=>wpAny (model P w) (A.deeper (envOfC qual scope s.heap.objs.size f F)) (leaving (envOfC qual scope s.heap.objs.size f F) e) (λ_ J=>CX outer H s E e J) (λO J=>CX outer H s E O J) s'
theorem ym{a:Scope}(h:a.names.lookup x=some .cell):∃c,(cellsFrom n a.names []).lookup x=some c:=by
 have q:=PySem.W.cellsFrom_some a.names n [] (.inl h);exact Option.isSome_iff_exists.mp q
theorem EV{CX:CXT}{t:Value}{F:Shared}{E:XK}{vs:LV}
 (S:aT N ps scope) (hd:A.handled=none) (g:iC P w K mg base A outer s H) (hl:vs.length=ps.length) (r:ax vs us)
 (x:InCallC s s.heap.objs.size (bindL (envOfC qual scope s.heap.objs.size f t).kindOf (ps.zip us) λ_=>none) (cellsFrom (s.heap.objs.size+1) scope.names []) (bindC (envOfC qual scope s.heap.objs.size f t).kindOf (ps.zip us) λ_=>none) F):
 Inv (ig CX P w K mg base N qual scope f t A outer s H E) [] (start N vs) H F:=by
 have I:ps.length<=N.length:=by have:=congrArg List.length S.pre;rw[qN]at this;omega
 obtain⟨B,tk,rfl,hk⟩:=x.done;have l:∀b:Addr,b∉(ig CX P w K mg base N qual scope f t A outer s H E).ex:=λb z=>Q8 (show b∈([]:LK)from z) (by simp)
 refine⟨⟨g.mod,S.kind,U,U,qf _,λy z c B d=>?_,λy j=>?_,λy c _ h=>?_,λ_=>hd,Around.frames_deeper g.frames,.inr ⟨U,U⟩,λb z=>Q8 z (l b),g.bs,g.bsz,λb _ _=>l b,λb z=>Q8 z (l b),g.funs,g.frf⟩,
  rfl,g.bare,Un.kept hk,⟨_,x.toInCall.ns,λi y v B d _=>?_⟩,λy c h=>⟨_,x.cell y c h⟩,g.hok.fresh (qf _),λy c h=>?_,λp m=>Q8 (show p∈([]:List (Addr×Obj))from m) (by simp),g.hok.kept hk,?_⟩
 .exact name_of_addr x.apart (Ql B) (Ql d)
 .have j:scope.names.lookup y=some .cell\/scope.names.lookup y=some .free:=j;rcases j with j|j
  .exact ym j
  .exact Q8 U (S.nofree _ (Ql j))
 .exact Nat.le_of_lt (x.above y c (Ql h))
 .have o:i<vs.length:=by
   unfold start at d;by_cases o:i<vs.length
   .exact o
   .rw[qO (by simpa using o)]at d;rw[List.getElem?_replicate]at d;split at d<;>cases d
  have ha:vs[i]?=some v:=by
   unfold start at d;rw[Q9 (by simpa using o),qH]at d
   cases e:vs[i]? with
   |none=>rw[e]at d;cases d
   |some a=>rw[e]at d;cases d;rfl
  obtain⟨u,D,G⟩:=r.get ha
  have m:ps[i]?=some y:=by
   rw[<- S.pre,List.getElem?_take_of_lt Yo];exact B
  have C:ps.Nodup:=by rw[<- S.pre];exact S.nd.sublist (List.take_sublist _ _)
  exists u,G;rcases S.par y (qD m)with k|k
  .exact .inl ⟨k,yA C m D k⟩
  .obtain⟨c,e⟩:=ym (n:=s.heap.objs.size+1) k;refine .inr ⟨.inl k,c,e,?_⟩;have q:=x.cell y c e;rw[yC C m D (by show scope.names.lookup y≠_;rw[k];decide)]at q;exact q
 .exact g.hok.fresh (Nat.le_of_lt (x.above y c (Ql h)))
 .unfold start;show _=N.length;rw[qc,qa,List.length_replicate];omega
theorem Ft{CX:CXT}{k:Nat}{c:Arguments}{L kV l pm a ct O:Value}{D od:Option Addr}
 {sp:Sp}(X:K.lookup f=some ⟨O,od,.func (PySem.W.fnOf name qual c body scope L kV l pm D a ct),osl⟩) (C:PySem.W.codeIn K a qual=true) (S:aT N ps scope)
  (len:∀vs H Q E,sp vs H Q E->vs.length=ps.length)
  (i:∀(A:Around)(outer:List Env)(s:Shared)(H:Hp)(vs:LV)(Q:VK)(E:XK),ca k (A.deeper (envOfC qual scope s.heap.objs.size f a))->sp vs H Q E->
   ∃t,PSs (ig CX P w K mg base N qual scope f a A outer s H E) body t/\t { nx:=λ_ H'=>Q .non H',rt:=Q } (start N vs) H):
  aM P w K mg base CX (k+1) f (PySem.W.fnOf name qual c body scope L kV l pm D a ct) ps sp:=by
  refine⟨len,λA outer s H _ us vs Q E hr h hb r m=>?_⟩;have hl:=len _ _ _ _ m;have G:K.In s.heap:=h.mod.kin.keeps λb o e=>(h.bs b o e).1;have F:s.heap.NoLimit:=h.mod.nolimit.keeps λb o e=>(h.bs b o e).1
  have j:∀y∈ps.zip us,scope.names.lookup y.1=some .local\/(scope.names.lookup y.1=some .cell/\((cellsFrom (s.heap.objs.size+1) scope.names []).lookup y.1).isSome=true):=λ⟨n,v⟩ M=>by
   rcases S.par n (List.of_mem_zip M).1 with q|q
   .exact .inl q
   .exact .inr ⟨q,PySem.W.cellsFrom_some _ _ _ (.inl q)⟩
  refine codeAny_call_function hr.depth (G _ _ X) U S.co S.gen U (PySem.W.codeRec_of G C) (hb _ _ _ _ ?_);refine wpAny_newFunctionEnv_cells S.kind j λenv R B x=>?_;subst R;refine⟨F.keeps x.toInCall.keep,codeAny_func ?_⟩;obtain⟨t,ht,T⟩:=i A outer s H vs Q E (hr.deeper _) m;have I:Inv (ig CX P w K mg base N qual scope f a A outer s H E) [] (start N vs) H B:=EV S hr.hd h hl r x;refine wpAny_mono (ht [] B (start N vs) H _ I T) (λfl z g=>?_) λe z g=>g
  have fin:∀{d:St}{H':Hp}{v:V}{u:Value},Inv (ig CX P w K mg base N qual scope f a A outer s H E) [] d H' z->aB v u->Q v H'->CE outer P w H s Q u z:=
   λ{d H' v u} J p q=>⟨v,H',J.os,J.bare,J.base,J.hok,p,q⟩
  cases fl with
  |ret u=>
   obtain⟨v,d,H',J,p,q⟩:=g;exact fin J p q
  |next=>
   obtain⟨d,H',J,q⟩:=g;exact fin (v:=V.non) (u:=Value.none) J U q
  |brk=>
   obtain⟨_,_,_,q⟩:=g;exact False.elim q
  |cont=>
   obtain⟨_,_,_,q⟩:=g;exact False.elim q
end L2
variable {sp:L2.Sp}
namespace L2
open PySem PySem.Spec PyProof.Rows
section
variable {p:Pos}{es:LR}{t:TA}{id T:String}{r:LV->Hp->VK->Prop}
def tCB(r:LV->Hp->VK->Prop)(t:TA):TE:=λY H Q=>t Y H λvs H1=>r vs H1 Q
theorem be(m:cJ X (.builtin id) r)(k:Gl X x)(f:X.mg x=none)(d:bootBuiltins x=some (.builtin id))(ha:PA X (e::es) t)(hn:x≠"__name__":=by decide)(c:(x == ("__debug__":Str))=false:=by decide)
 (g:starEach (e::es) X.env=(false,eval e X.env)::starEach es X.env:=by rfl) (b:(backTo pos (starEach es X.env)).any (·.1)=false:=by rfl):PE X (.Call (.Name x p) (e::es) [] pos) (tCB r t):=by
 intro a s Y H Q I h;refine wpAny_Call_Name_kw (gR I k f d ?_ hn c);exact PyProof.Rows.callWith_builtin1 (thn (ha pos a s Y H _ I h) λus o ⟨vs,i,j,n,l⟩=>m a o Y i vs us Q j n l) g b
theorem fw(m:cJ X (.type T) r)(k:Gl X x)(f:X.mg x=none)(d:bootBuiltins x=some (.type T))(ha:PA X (e::es) t)(hn:x≠"__name__":=by decide)(c:(x == ("__debug__":Str))=false:=by decide)
 (g:starEach (e::es) X.env=(false,eval e X.env)::starEach es X.env:=by rfl) (b:(backTo pos (starEach es X.env)).any (·.1)=false:=by rfl):PE X (.Call (.Name x p) (e::es) [] pos) (tCB r t):=by
 intro a s Y H Q I h;refine wpAny_Call_Name_kw (gR I k f d ?_ hn c);exact PyProof.Rows.callWith_type1 (thn (ha pos a s Y H _ I h) λus o ⟨vs,i,j,n,l⟩=>m a o Y i vs us Q j n l) g b
end
end L2
namespace HT
open PySem PyProof.Rows
section
open PySem.SeqAt
open PySem.AutoSeq1 (wpAny_loadPart')
open PySem.MeetsSeq PySem.MeetsSeq2 PySem.MeetsSeq3
end
noncomputable def sIx(n d:Nat):Option Int->Nat
 |none=>d
 |some v=>if v<0 then(v+(n:Int)).toNat else min v.toNat n
theorem sIx_none(n d:Nat):sIx n d none=d:=U
theorem sIx_nat(n d k:Nat):sIx n d (some (k:Int))=min k n:=by
 show(if(k:Int)<0 then((k:Int)+(n:Int)).toNat else min (k:Int).toNat n)=min k n;rw[Q4 Yo,Q0]
theorem sIx_le(n d:Nat)(hd:d<=n)(o:Option Int):sIx n d o<=n:=by
 cases o with
 |none=>exact hd
 |some v=>
  show(if v<0 then(v+(n:Int)).toNat else min v.toNat n)<=n;by_cases hv:v<0
  .rw[Q5 hv];omega
  .rw[Q4 hv];exact Nat.min_le_right _ _
end HT
namespace L2
open PySem PySem.Spec PyProof.Rows
abbrev TO:=St->Hp->(Option Int->Hp->Prop)->Prop
def PO(X:Cx)(e:Option Expr)(t:TO):Prop:=
 ∀(pins:List (Addr×Obj))(s:Shared)(Y:St)(H:Hp)(Q:Option Int->Hp->Prop),Inv X pins Y H s->t Y H Q->
  wpAny (model X.prog X.w) X.A (evalPart e X.env) (λu s'=>∃o H',Inv X pins Y H' s'/\IsPart u o/\Q o H') X.xe s
def zY:TO:=λ_ H Q=>Q none H
def zV(t:TE):TO:=λY H Q=>t Y H λx H1=>∃i,x=.int i/\Q (some i) H1
section
variable {lo hi:Option Expr}{tl th:TO}{p2:Pos}
theorem hZ:PO X none zY:=by
 intro _ s Y H Q I h;rw[evalPart_none];exact qe ⟨none,H,I,.none,h⟩
theorem fk(h:PE X e te):PO X (some e) (zV te):=by
 intro a s Y H Q I hw;rw[evalPart_some];refine thn (h a s Y H _ I hw) λu _ ⟨x,b,c,f,d⟩=>?_;obtain⟨i,rfl,q⟩:=d;obtain⟨t,rfl⟩:=f;exact⟨some i,b,c,.int i t,q⟩
def SlR(X:Cx)(r:V->Option Int->Option Int->Hp->VK->Prop):Prop:=
 ∀(pins:List (Addr×Obj))(s:Shared)(Y:St)(H:Hp)(x:V)(v J F:Value)(lo hi:Option Int)(sl:Addr)(Q:VK),Inv X pins Y H s->aB x v->s.heap.IsSliceOf sl J F .none->IsPart J lo->IsPart F hi->r x lo hi H Q->
  ∃T id,typeLookup (.type T) "__getitem__"=pure (some (.builtin id))/\s.TypeIs v T/\wpAny (model X.prog X.w) X.A (getItem v (.ref sl)) (EP X pins Y Q) X.xe s
def tSl(r:V->Option Int->Option Int->Hp->VK->Prop)(te:TE)(tl th:TO):TE:=λY H Q=>te Y H λx H1=>tl Y H1 λl H2=>th Y H2 λu F=>r x l u F Q
theorem gb{r:V->Option Int->Option Int->Hp->VK->Prop}(hr:SlR X r)(y:PE X e te)(hl:PO X lo tl)(F:PO X hi th):PE X (.Subscript e (.Slice lo hi none p2) pos) (tSl r te tl th):=by
 intro a s Y H Q I h;refine Subscript_ (thn (y a s Y H _ I h) λv m ⟨x,z,p,J,t⟩=>?_);refine wpAny_Slice (thn (hl a m Y z _ p t) λd j ⟨l,o,D,pl,i⟩=>thn (F a j Y o _ D i) λf c ⟨u,g,n,B,k⟩=>?_);rw[evalPart_none];refine qe ?_;have E:Inv X a Y g { c with heap:=c.heap.push { cls:=.type "slice",data:=.fields #[d,f,.none] } }:=n.kept (t':=c.toks) λb ob q=>qb _ q;obtain⟨T,_,C,ht,G⟩:=hr a { c with heap:=c.heap.push { cls:=.type "slice",data:=.fields #[d,f,.none] } } Y g x v d f l u c.heap.objs.size Q E J (Heap.IsSliceOf.new ..) pl B k;show wpAny (model X.prog X.w) X.A (subscriptTail e (.Slice lo hi none p2) v (.ref c.heap.objs.size)) (EP X a Y Q) X.xe { c with heap:=c.heap.push { cls:=.type "slice",data:=.fields #[d,f,.none] } };exact tail_any (ops:=[.ref c.heap.objs.size,v]) ht C G (by with_unfolding_all rfl)
noncomputable def eT(xs:LV)(lo hi:Option Int):LV:=(xs.drop (HT.sIx xs.length 0 lo)).take (HT.sIx xs.length xs.length hi-HT.sIx xs.length 0 lo)
theorem Ge(xs:LV)(b a:Option Int):(eT xs b a).length<=xs.length:=by
 unfold eT;rw[qN,Q3];omega
end
noncomputable def ixN(n:Nat)(i:Int):Option Nat:=if 0<=i then(if i<n then some i.toNat else none)else if -(n:Int)<=i then some (i+n).toNat else none
noncomputable def atI(xs:List α)(i:Int):Option α:=(ixN xs.length i).bind λj=>xs[j]?
theorem xE{i:Int}(h:ixN n i=some j):seqIndex? i n=some j/\j<n/\-(n:Int)<=i/\i<n:=by
 unfold ixN at h;by_cases h0:0<=i
 .rw[Q5 h0]at h;by_cases h1:i<n
  .rw[Q5 h1]at h;have e:i.toNat=j:=qM h;exact⟨by rw[seqIndex_of h0 h1,e],Yo,Yo,h1⟩
  .rw[Q4 h1]at h;cases h
 .rw[Q4 h0]at h;by_cases h1:-(n:Int)<=i
  .rw[Q5 h1]at h;have e:(i+n).toNat=j:=qM h;exact⟨by rw[seqIndex_neg Yo h1,e],Yo,h1,Yo⟩
  .rw[Q4 h1]at h;cases h
theorem tf{xs:List α}{i:Int}{v:α}(h:atI xs i=some v):∃j,seqIndex? i xs.length=some j/\xs[j]?=some v/\j<xs.length/\-(xs.length:Int)<=i/\i<xs.length:=by
 unfold atI at h
 cases e:ixN xs.length i with
 |none=>rw[e]at h;cases h
 |some j=>
  rw[e]at h;obtain⟨c,b,a,d⟩:=xE e;exact⟨j,c,h,b,a,d⟩
theorem da{xs:List α}{v:α}(h:xs[j]?=some v):atI xs (j:Int)=some v:=by
 have a:j<xs.length:=(qg.mp h).1
 have e:ixN xs.length (j:Int)=some j:=by
  unfold ixN;rw[Q5 Yo,Q5 Yo];simp
 unfold atI;rwa[e]
def GP(b:Expr):Prop:=∀o i,subscripted b false o i=operate [o,i] (getItem o i)
def IxR(X:Cx)(r:R2):Prop:=
 ∀(value slice:Expr)(pins:List (Addr×Obj))(s:Shared)(Y:St)(H:Hp)(x y:V)(v u:Value)(Q:VK),Inv X pins Y H s->aB x v->aB y u->r x y H Q->
  subscripted slice false v u=operate [v,u] (getItem v u)->wpAny (model X.prog X.w) X.A (subscriptTail value slice v u) (EP X pins Y Q) X.xe s
def MtR(X:Cx)(id:String)(r:V->LV->Hp->VK->Prop):Prop:=
 ∀(pins:List (Addr×Obj))(s:Shared)(Y:St)(H:Hp)(x:V)(xs:LV)(v:Value)(us:LL)(Q:VK),Inv X pins Y H s->aB x v->ax xs us->r x xs H Q->
  wpAny (model X.prog X.w) X.A (call (.builtin id) (v::us)) (EP X pins Y Q) X.xe s
section
variable {a b:Expr}{tb:TE}
theorem ao{r:R2}(hr:IxR X r)(ha:PE X a ta)(hb:PE X b tb)(f:GP b):PE X (.Subscript a b pos) (tOp r ta tb):=by
 intro c s Y H Q I h;exact Subscript_ (t9 ha hb I h λv u e x y d j i g q=>hr a b c e Y d x y v u Q j i g q (f _ _))
def BW(K:W.Frag):R2:=λx y H Q=>∃p xs i v,x=.ref p/\y=.int i/\SqL K H p xs/\atI xs i=some v/\Q v H
def BU(K:W.Frag):R2:=λx y H Q=>∃p xs i v,x=.ref p/\y=.int i/\SqT K H p xs/\atI xs i=some v/\Q v H
def BV:R2:=λx y H Q=>∃z i c,x=.str z/\y=.int i/\z.length<=sizeLine/\atI z.cps.toList i=some c/\Q (.str ⟨#[c]⟩) H
theorem EO:IxR X (BW X.K):=by
 intro _ slice a s Y H x y v u Q I o n h f;obtain⟨p,xs,i,z,rfl,rfl,A,m,q⟩:=h;cases o;obtain⟨t,rfl⟩:=n;obtain⟨e,r,pl,_⟩:=I.list A;obtain⟨j,b,l,_,k,C⟩:=tf m;obtain⟨w,g,d⟩:=r.get l;have hl:=r.length;have hn:=jI;have fin:EP X a Y Q w s:=⟨z,H,I,d,q⟩;by_cases h0:0<=i
 .have c:i.toNat=j:=by
   rw[seqIndex_of h0 C]at b;exact qM b
  exact item_listR pl.isList h0 Yo (by rw[c];simpa using g) fin f
 .have c:(i+(e.toArray.size:Int)).toNat=j:=by
   rw[seqIndex_neg Yo k]at b;rw[qF,<- hl];exact qM b
  exact subscriptTail_builtinR (x:=w) pl.isList.typeIs slot_list_getitem.lookup
   (wpAny_getItem_list_neg (Q:=λr B=>r=w/\EP X a Y Q r B) pl.isList Yo (by rw[qF]<;>omega) Yo (by rw[c];simpa using g) ⟨U,fin⟩) f
theorem EN:IxR X (BU X.K):=by
 intro _ slice a s Y H x y v u Q I f e h c;obtain⟨p,xs,i,z,rfl,rfl,g,d,q⟩:=h;cases f;obtain⟨t,rfl⟩:=e;obtain⟨_,r,pl,_⟩:=I.tuple g;obtain⟨j,m,l,_,_,_⟩:=tf d;obtain⟨w,n,b⟩:=r.get l;have hl:=r.length;have hn:=jI;have fin:EP X a Y Q w s:=⟨z,H,I,b,q⟩
 exact subscriptTail_builtinR (x:=w) pl.typeIs slot_tuple_getitem.lookup
  (getItem_tuple (j:=j) (Q:=λr k=>r=w/\EP X a Y Q r k) pl Yo Yo (by rwa[qF,<- hl]) (by simpa using n) ⟨U,fin⟩) c
theorem jM:IxR X BV:=by
 intro _ slice _ s Y H x y v u Q I l g h e;obtain⟨z,i,c,rfl,rfl,_,f,q⟩:=h;obtain⟨t,rfl⟩:=l;obtain⟨t',rfl⟩:=g;obtain⟨j,a,n,_,b,k⟩:=tf f;have hl:z.cps.toList.length=z.length:=by simp[Str.length]
 rw[hl]at a b k;have hn:=jI
 exact tail_any (typeIs_str s z t) slot_str_getitem.lookup (getItem_str (c:=c) (by
  have d:decide (i < -(2 ^ 63:Int))=false:=Q7 Yo;have m:decide (i >= 2 ^ 63)=false:=Q7 Yo
  rw[d,m,Bool.or_false]) (by rw[a];simpa using n) ⟨.str ⟨#[c]⟩,H,I.tok _,⟨_,U⟩,q⟩) e
theorem Ee(a:LL)(n j:Nat)(u:Value):Obj.mapSeq (·.setIfInBounds j u) { cls:=.type "list",data:=.seq a.toArray n }={ cls:=.type "list",data:=.seq (a.set j u).toArray n }:=by
 simp[Obj.mapSeq]
theorem Inv.lst{a:List (Addr×Obj)}{Y:St}{H:Hp}{s:Shared}{p:Addr}{xs:LV}(I:Inv X a Y H s)(h:H p=some (.lst xs)):
 ∃(its:LL)(n:Nat),ax xs its/\s.heap.get? p=some { cls:=.type "list",data:=.seq its.toArray n }/\xs.length<=sizeLine:=by
 obtain⟨z,its,n,r,e⟩:=I.hok p _ h;exact⟨its,n,r,e,z⟩
theorem Inv.lstUpd{p:Addr}{xs ys:LV}{its':LL}{a:Nat}{f:Obj->Obj}(I:Inv X pins Y H s)(h:H p=some (.lst xs))
 (d:s.heap.get? p=some { cls:=.type "list",data:=.seq its.toArray n }) (c:f { cls:=.type "list",data:=.seq its.toArray n }={ cls:=.type "list",data:=.seq its'.toArray a }) (r:ax ys its') (g:ys.length<=sizeLine) (t:Nat):
 Inv X pins Y (upd H p (.lst ys)) { s with heap:=s.heap.update p f,toks:=t }:=by
 have e:(s.heap.update p f).get? p=some { cls:=.type "list",data:=.seq its'.toArray a }:=by
  rw[Qk f d (by rw[c]<;>rfl),c]
 refine I.write (x:=p) (e:=p) (by rw[h];trivial) (.inl U) (λb u hb q=>(Qw _ _ (Ne.symm hb)).trans q) ⟨_,e⟩ ?_;exact⟨g,its',a,r,e⟩
def BP:V->V->V->Hp->(Hp->Prop)->Prop:=λo i v H Q=>∃p xs k j,o=.ref p/\i=.int k/\H p=some (.lst xs)/\ixN xs.length k=some j/\Q (upd H p (.lst (xs.set j v)))
theorem kF:yP X BP:=by
 intro c s Y H o i v ov _ u Q I ro x w h;obtain⟨p,xs,k,j,rfl,rfl,g,m,q⟩:=h;cases ro;obtain⟨t,rfl⟩:=x;obtain⟨b,n,r,d,y⟩:=I.lst g;obtain⟨a,_,e,f⟩:=xE m;have hl:=r.length;have hn:=jI
 have l:Inv X c Y (upd H p (.lst (xs.set j v))) { s with heap:=s.heap.update p (Obj.mapSeq (·.setIfInBounds j u)) }:=
  I.lstUpd g d (Ee b n j u) (r.set w j) (by rwa[List.length_set]) s.toks
 by_cases h0:0<=k
 .have hk:k.toNat=j:=by
   rw[seqIndex_of h0 f]at a;exact qM a
  exact PySem.W.ki_setAt d h0 Yo (by rwa[qF,<- hl]) (by rw[hk];exact⟨_,l,q⟩)
 .have hk:(k+(b.toArray.size:Int)).toNat=j:=by
   rw[seqIndex_neg Yo e]at a;rw[qF,<- hl];exact qM a
  exact PySem.W.ki_setBack d Yo (by rwa[qF,<- hl]) Yo (by rw[hk];exact⟨_,l,q⟩)
theorem AH(b a:Option Int)(n:Nat):(sliceBounds b a none n).1=((HT.sIx n 0 b:Nat):Int)/\(sliceBounds b a none n).2.1=((HT.sIx n n a:Nat):Int)/\(sliceBounds b a none n).2.2=1:=by
 refine⟨?_,?_,U⟩
 .cases b with
  |none=>simp[sliceBounds,HT.sIx]
  |some i=>
   simp only[sliceBounds,HT.sIx,Option.getD_none,show(1:Int) > 0 by decide,if_true];by_cases h:i<0
   .simp only[h,if_true]<;>omega
   .simp only[h,if_false]<;>omega
 .cases a with
  |none=>simp[sliceBounds,HT.sIx]
  |some i=>
   simp only[sliceBounds,HT.sIx,Option.getD_none,show(1:Int) > 0 by decide,if_true];by_cases h:i<0
   .simp only[h,if_true]<;>omega
   .simp only[h,if_false]<;>omega
theorem AI(a:LL)(b c:Option Int):slicePick a.toArray b c none=((a.drop (HT.sIx a.length 0 b)).take (HT.sIx a.length a.length c-HT.sIx a.length 0 b)).toArray:=by
 obtain⟨f,e,d⟩:=AH b c a.toArray.size;unfold slicePick;rw[f,e,d];simp only[sliceRange_one,pick_run,qF]<;>rfl
def BO(K:W.Frag):V->Option Int->Option Int->Hp->VK->Prop:=λx lo hi H Q=>∃a xs,x=.ref a/\SqL K H a xs/\∀p,H p=none->Q (.ref p) (upd H p (.lst (eT xs lo hi)))
theorem kA:SlR X (BO X.K):=by
 intro _ s Y H x v _ _ c d sl Q I i f pl g h;obtain⟨a,xs,rfl,k,q⟩:=h;cases i;obtain⟨_,r,ht,j⟩:=I.list k;have e:=r.length;exists "list",_,slot_list_getitem.lookup,ht.isList.typeIs;refine wpAny_getItem_list_slice ht.isList f pl g .none (by simp) ?_ (by rw[qF]<;>omega);rw[AI,<- e];refine⟨.ref s.heap.objs.size,_,I.laid (t':=s.toks) (o:=.lst (eT xs c d)) (λb ob q=>qb _ q) (qf _) ?_,U,q _ (I.hok.fresh (qf _))⟩;exact⟨qC (Ge xs c d) j,_,0,(r.drop (HT.sIx xs.length 0 c)).take (HT.sIx xs.length xs.length d-HT.sIx xs.length 0 c),qr _ U⟩
noncomputable def gU:V->Bool
 |.non=>true
 |.bl _=>true
 |.int _=>true
 |.str _=>true
 |_=>false
noncomputable def eqV:V->V->Bool
 |.non,.non=>true
 |.bl a,.bl b=>a == b
 |.bl a,.int b=>(if a then 1 else 0) == b
 |.int a,.bl b=>a == (if b then 1 else 0)
 |.int a,.int b=>a == b
 |.str a,.str b=>a == b
 |_,_=>false
theorem FG{x:V}{v:Value}(e:aB y u)(c:aB x v)(f:gU y=true)(d:gU x=true):SeqAt.EqAt A s u v (eqV y x):=by
 cases y with
 |non=>
  cases e
  cases x with
  |non=>cases c;exact SeqAt.EqAt.same _
  |bl b=>cases c;exact SeqAt.EqAt.none_bool b
  |int b=>obtain⟨t,rfl⟩:=c;exact SeqAt.EqAt.none_int b t
  |str b=>obtain⟨t,rfl⟩:=c;exact SeqAt.EqAt.none_str b t
  |_=>exact Q8 (show false=true from d) qk
 |bl a=>
  cases e
  cases x with
  |non=>cases c;exact SeqAt.EqAt.bool_none a
  |bl b=>cases c;exact SeqAt.EqAt.bool_bool a b
  |int b=>obtain⟨t,rfl⟩:=c;exact SeqAt.EqAt.bool_int a b t
  |str b=>obtain⟨t,rfl⟩:=c;exact SeqAt.EqAt.bool_str a b t
  |_=>exact Q8 (show false=true from d) qk
 |int a=>
  obtain⟨t',rfl⟩:=e
  cases x with
  |non=>cases c;exact SeqAt.EqAt.int_none a t'
  |bl b=>cases c;exact SeqAt.EqAt.int_bool a t' b
  |int b=>obtain⟨t,rfl⟩:=c;exact SeqAt.EqAt.int_int a t' b t
  |str b=>obtain⟨t,rfl⟩:=c;exact SeqAt.EqAt.int_str a t' b t
  |_=>exact Q8 (show false=true from d) qk
 |str a=>
  obtain⟨t',rfl⟩:=e
  cases x with
  |non=>cases c;exact SeqAt.EqAt.str_none a t'
  |bl b=>cases c;exact SeqAt.EqAt.str_bool a t' b
  |int b=>obtain⟨t,rfl⟩:=c;exact SeqAt.EqAt.str_int a t' b t
  |str b=>obtain⟨t,rfl⟩:=c;exact SeqAt.EqAt.str_str a t' b t
  |_=>exact Q8 (show false=true from d) qk
 |_=>exact Q8 (show false=true from f) qk
noncomputable def eqU(x:V)(u:Value):Bool:=match u with
 |.none=>eqV .non x
 |.bool b=>eqV (.bl b) x
 |.int i _=>eqV (.int i) x
 |.str z _=>eqV (.str z) x
 |_=>false
theorem y3{x:V}(r:aB y u)(f:gU y=true):eqU x u=eqV y x:=by
 cases y with
 |non=>cases r;rfl
 |bl b=>cases r;rfl
 |int i=>obtain⟨t,rfl⟩:=r;rfl
 |str z=>obtain⟨t,rfl⟩:=r;rfl
 |_=>exact Q8 (show false=true from f) qk
theorem tu{x:V}:∀{xs:LV}{us:LL},ax xs us->xs.all gU=true->us.any (eqU x)=xs.any λy=>eqV y x
 |_,_,.nil,_=>rfl
 |y::xs,u::us,.cons r t,f=>by
  rw[List.all_cons,Bool.and_eq_true]at f;rw[List.any_cons,List.any_cons,y3 r f.1,tu t f.2]
theorem rG{A:Around}{s:Shared}{x:V}{v:Value}(c:aB x v)(b:gU x=true):∀{xs:LV}{us:LL},ax xs us->xs.all gU=true->∀u∈us,SeqAt.EqAt A s u v (eqU x u)
 |_,_,.nil,_=>λu a=>by cases a
 |y::xs,u::us,.cons r t,f=>λd a=>by
  rw[List.all_cons,Bool.and_eq_true]at f;rcases qw.mp a with rfl|a
  .rw[y3 r f.1];exact FG r c f.1 b
  .exact rG c b t f.2 d a
noncomputable def inV(x:V)(xs:LV):Bool:=xs.any λy=>eqV y x
def rIn(K:W.Frag)(F:Bool):R2:=λx y H Q=>∃p xs,y=.ref p/\(SqL K H p xs\/SqT K H p xs)/\gU x=true/\xs.all gU=true/\Q (.bl (if F then !inV x xs else inV x xs)) H
theorem iX:OpR X (compareOp .In) (rIn X.K false):=by
 intro _ s Y H x y v u Q I d e h;obtain⟨p,xs,rfl,b,c,fs,q⟩:=h;cases e;rcases b with b|b
 .obtain⟨a,r,pl,f⟩:=I.list b;refine SeqAt.in_listAt (eqU x) pl.isList (λw hw=>rG d c r fs w (by simpa using hw)) ⟨.bl _,H,I,U,?_⟩;rwa[show a.toArray.any (eqU x)=a.any (eqU x)by simp,tu r fs]
 .obtain⟨a,r,pl,f⟩:=I.tuple b;refine SeqAt.in_tupleAt (eqU x) pl (λw hw=>rG d c r fs w (by simpa using hw)) ⟨.bl _,H,I,U,?_⟩;rwa[show a.toArray.any (eqU x)=a.any (eqU x)by simp,tu r fs]
theorem Gu:cJ X (.builtin "len") (λxs H Q=>∃p ys,xs=[.ref p]/\(SqL X.K H p ys\/SqT X.K H p ys)/\Q (.int ys.length) H):=by
 intro _ s Y H xs us Q I r h;obtain⟨p,ys,rfl,b,q⟩:=h;obtain⟨u,rfl,e⟩:=fF r;cases e;have hn:=jI;rcases b with b|b
 .obtain⟨d,c,pl,f⟩:=I.list b;have a:=c.length;exact Calls.call_len_list pl.isList (by simp only[qF]<;>omega) ⟨.int ys.length,H,I.tok _,⟨s.toks+1,by rw[qF,a]⟩,q⟩
 .obtain⟨d,c,pl,f⟩:=I.tuple b;have a:=c.length;exact len_tuple pl (by simp only[qF]<;>omega) ⟨.int ys.length,H,I.tok _,⟨s.toks+1,by rw[qF,a]⟩,q⟩
theorem Gs:cJ X (.type "list") (λxs H Q=>∃p ys,xs=[.ref p]/\(SqL X.K H p ys\/SqT X.K H p ys)/\∀l,H l=none->Q (.ref l) (upd H l (.lst ys))):=by
 intro i s Y H xs us Q I r h;obtain⟨p,ys,rfl,f,q⟩:=h;obtain⟨u,rfl,v⟩:=fF r;cases v
 have fin:∀(a:LL),ax ys a->ys.length<=sizeLine->∀(h':Heap)(d:Nat),(∀b t,s.heap.get? b=some t->h'.get? b=some t)->
  h'.get? s.heap.objs.size=some { cls:=.type "list",dict:=none,data:=.seq a.toArray d,slots:=#[] }->EP X i Y Q (.ref s.heap.objs.size) { s with heap:=h' }:=λa c g h' d kp e=>
  ⟨.ref s.heap.objs.size,_,I.laid (t':=s.toks) kp (qf _) (show bJ X.prog X.w _ h' _ (.lst ys)from⟨g,a,d,c,e⟩),U,q _ (I.hok.fresh (qf _))⟩
 rcases f with f|f
 .obtain⟨a,c,pl,g⟩:=I.list f;have j:=c.length;obtain⟨o,m,k,n,hd⟩:=pl.isList;exact call_list_seq p (.inl U) m k hd (λh' d kp e=>fin a c g h' d kp e) (by simp only[qF]<;>omega)
 .obtain⟨a,c,pl,g⟩:=I.tuple f;have j:=c.length;obtain⟨o,m,k,n,hd⟩:=pl;exact call_list_seq p (.inr U) m k hd (λh' d kp e=>fin a c g h' d kp e) (by simp only[qF]<;>omega)
theorem sV:cJ X (.type "tuple") (λxs H Q=>∃p ys,xs=[.ref p]/\((SqL X.K H p ys/\∀l,H l=none->Q (.ref l) (upd H l (.tup ys)))\/(SqT X.K H p ys/\Q (.ref p) H))):=by
 intro c s Y H xs us Q I r h;obtain⟨p,ys,rfl,h⟩:=h;obtain⟨u,rfl,k⟩:=fF r;cases k;rcases h with⟨f,q⟩|⟨f,q⟩
 .obtain⟨a,d,pl,i⟩:=I.list f;have j:=d.length;refine call_tuple_list pl.isList (λh' kp=>?_) (by simp only[qF]<;>omega);have g:Inv X c Y H { s with heap:=h' }:=I.kept (t':=s.toks) kp
  have m:Inv X c Y (upd H h'.objs.size (.tup ys)) { s with heap:=h'.push { cls:=.type "tuple",data:=.seq a.toArray } }:=
   g.laid (t':=s.toks) (λb o e=>qb _ e) (qf _) (show bJ X.prog X.w _ _ _ (.tup ys)from⟨⟨i,_,qr _ U,U⟩,a,d,IsTup.new _ _⟩)
  exact⟨.ref h'.objs.size,_,m,U,q _ (g.hok.fresh (qf _))⟩
 .obtain⟨a,d,pl,i⟩:=I.tuple f;exact call_tuple_same pl ⟨.ref p,H,I,U,q⟩
def tyV(K:W.Frag)(T:String)(x:V)(H:Hp):Prop:=match x with
 |.str _=>T="str"
 |.int _=>T="int"
 |.ref p=>(T="list"/\∃xs,SqL K H p xs)\/(T="tuple"/\((∃o,K.lookup p=some o/\o.cls=.type "tuple"/\o.dict=none)\/∃xs,H p=some (.tup xs))) \/
  (T="dict"/\((∃kvs,H p=some (.dK kvs))\/∃kvs,H p=some (.dT kvs)))\/(T="set"/\∃S n,H p=some (.set S n))
 |_=>False
theorem u7{T:String}{x:V}{v:Value}(I:Inv X pins Y H s)(r:aB x v)(ty:tyV X.K T x H):
 s.TypeIs v T/\∀a,v=.ref a->∃ob,s.heap.get? a=some ob/\ob.dict=none:=by
 cases x with
 |str z=>
  obtain⟨t,rfl⟩:=r;cases(show T="str" from ty);exact⟨typeIs_str s z t,λ_ e=>nomatch e⟩
 |int i=>
  obtain⟨t,rfl⟩:=r;cases(show T="int" from ty);exact⟨typeIs_int s i t,λ_ e=>nomatch e⟩
 |ref p=>
  cases r;rcases ty with⟨rfl,xs,h⟩|⟨rfl,⟨o,hk,j,hd⟩|⟨xs,k⟩⟩|⟨rfl,hk⟩|⟨rfl,S,n,hk⟩
  .obtain⟨d,_,pl,_⟩:=I.list h;refine⟨pl.isList.typeIs,λa e=>?_⟩;cases e;obtain⟨o,n,e,c,hd,_⟩:=pl;exact⟨o,e,hd⟩
  .refine⟨⟨o,I.kIn p o hk,j⟩,λa e=>?_⟩;cases e;exact⟨o,I.kIn _ o hk,hd⟩
  .obtain⟨⟨_,ob,e,nd⟩,d,_,p⟩:=I.hok p _ k;exact⟨p.typeIs,λa g=>by cases g;exact⟨ob,e,nd⟩⟩
  .have z:∃o,s.heap.get? p=some o/\o.ExactDict:=by
    rcases hk with⟨f,hk⟩|⟨f,hk⟩
    .obtain⟨_,_,_,_,o,_,_,e,ex,_⟩:=I.hok p _ hk;exact⟨o,e,ex⟩
    .obtain⟨_,_,_,_,o,_,_,e,ex,_⟩:=I.hok p _ hk;exact⟨o,e,ex⟩
   obtain⟨o,e,ex⟩:=z;refine⟨⟨o,e,ex.1⟩,λa b=>?_⟩;cases b;exact⟨o,e,ex.2.1⟩
  .obtain⟨o,_,_,_,e,ex,_⟩:=I.hok p _ hk;refine⟨⟨o,e,ex.1⟩,λa b=>?_⟩;cases b;exact⟨o,e,ex.2.1⟩
 |_=>exact False.elim ty
def Af(K:W.Frag)(T:String)(r:V->LV->Hp->VK->Prop)(to:TE):TE:=λY H Q=>to Y H λx H1=>tyV K T x H1/\r x [] H1 Q
def tBM(K:W.Frag)(T:String)(r:V->LV->Hp->VK->Prop)(to:TE)(t:TA):TE:=λY H Q=>to Y H λx H1=>tyV K T x H1/\t Y H1 λxs H2=>r x xs H2 Q
variable {o:Expr}{es:LR}{to:TE}{t:TA}{T id:String}{r:V->LV->Hp->VK->Prop}
theorem ww(i:PlainAttrs T)(slot:Slot T name id)(d:typeOf (.builtin id)=pure (.type "method_descriptor"))(g:MtR X id r)(k:PE X o to)
 (b:attributeBase o name X.env (eval o X.env)=eval o X.env:=by rfl) (c:(apos.endLine == cpos.line)=true:=by rfl):PE X (.Call (.Attribute o name apos) [] [] cpos) (Af X.K T r to):=by
 intro a s Y H Q I h;refine wpAny_Call_method0_late b c (thn (k a s Y H _ I h) λv m ⟨x,j,e,f,ty,l⟩=>?_);obtain⟨p,n⟩:=u7 e f ty;exact⟨T,id,i,slot,d,p,n,Calls.callWith_builtin U (PySem.evalArgs_none (g a m Y j x [] v [] Q e f .nil l))⟩
theorem CO(y:PlainAttrs T)(slot:Slot T name id)(i:typeOf (.builtin id)=pure (.type "method_descriptor"))(C:MtR X id r)(E:PE X o to)(ha:PA X (e::es) t)
 (c:attributeBase o name X.env (eval o X.env)=eval o X.env:=by rfl)
 (f:((backTo cpos (starEach (e::es) X.env)).all (λx=>!x.1) && (backToKw cpos (keywordEach [] X.env)).all (λx=>x.1.isSome)
  && decide ((e::es).length+([]:List Keyword).length+(if([]:List Keyword).isEmpty then 0 else 1)<30))=true:=by rfl)
 (d:(apos.endLine == cpos.line)=true:=by rfl) (D:starEach (e::es) X.env=(false,eval e X.env)::starEach es X.env:=by rfl) (b:(backTo cpos (starEach es X.env)).any (·.1)=false:=by rfl):
 PE X (.Call (.Attribute o name apos) (e::es) [] cpos) (tBM X.K T r to t):=by
 intro a s Y H Q I h;refine wpAny_Call_method_late c f d U (thn (E a s Y H _ I h) λv p ⟨x,z,g,k,ty,u⟩=>?_);obtain⟨A,w⟩:=u7 g k ty;exists T,id,y,slot,i,A,w;have j:=ha cpos a p Y z _ g u;rw[D]at j ⊢;refine Calls.callWith_builtin (by show(false || (backTo cpos (starEach es X.env)).any (·.1))=false;rw[b]<;>rfl) (Calls.evalArgs_plain ?_);exact thn j λus m ⟨vs,q,B,n,l⟩=>C a m Y q x vs v us Q B k n l
end
def MtM(X:Cx)(id:String)(r:V->LV->Hp->VK->Prop):Prop:=
 ∀(pins:List (Addr×Obj))(s:Shared)(Y:St)(H:Hp)(x:V)(xs:LV)(v:Value)(us:LL)(Q:VK),Inv X pins Y H s->aB x v->ax xs us->r x xs H Q->
  wpAny (model X.prog X.w) X.A (call (.builtin id) (v::us)) (EP X pins Y Q) X.xe s
theorem ax.one:∀{x:V}{us:LL},ax [x] us->∃u,us=[u]/\aB x u
 |_,_,.cons r .nil=>⟨_,U,r⟩
theorem ax.zero:∀{us:LL},ax [] us->us=[]
 |_,.nil=>rfl
theorem ax.dropLast{xs:LV}{us:LL}(h:ax xs us):ax xs.dropLast us.dropLast:=by
 induction h with
 |nil=>exact .nil
 |cons r t a=>
  cases t with
  |nil=>exact .nil
  |cons q t'=>exact .cons r a
theorem ax.rep{xs:LV}{us:LL}(h:ax xs us):∀k:Nat,ax (List.replicate k xs).flatten (List.replicate k us).flatten
 |0=>.nil
 |k+1=>by
  rw[List.replicate_succ,List.replicate_succ,List.flatten_cons,List.flatten_cons];exact ax.append h (ax.rep h k)
theorem FE(l:List α):l.eraseIdx (l.length-1)=l.dropLast:=by
 induction l with
 |nil=>rfl
 |cons a r c=>
  cases r with
  |nil=>rfl
  |cons b r=>
   have e:(a::b::r).length-1=((b::r).length-1)+1:=by
    have f:(a::b::r).length=r.length+2:=U;have d:(b::r).length=r.length+1:=U;omega
   rw[e,List.eraseIdx_cons_succ,c]
   all_goals rfl
theorem xV(b:LL):∀(k:Nat)(a:LL),
 List.foldl (λc d=>c++d) a.toArray (List.replicate k b.toArray)=(a++(List.replicate k b).flatten).toArray
 |0,a=>by simp
 |k+1,a=>by
  have e:a.toArray++b.toArray=(a++b).toArray:=by simp
  have f:(a++b)++(List.replicate k b).flatten=a++(List.replicate (k+1) b).flatten:=by
   rw[List.replicate_succ,List.flatten_cons,qQ]
  rw[<- f,<- xV b k (a++b),<- e,List.replicate_succ,QC]
section
variable {l:Addr}{xs ys zs:LV}
theorem Inv.lset{its':LL}{f:LD->LD}(I:Inv X pins Y H s)(g:H l=some (.lst xs))
 (e:s.heap.get? l=some { cls:=.type "list",data:=.seq its.toArray n }) (c:f its.toArray=its'.toArray) (a:ax ys its') (d:ys.length<=sizeLine):
 Inv X pins Y (upd H l (.lst ys)) { s with heap:=s.heap.update l (Obj.mapSeq f),toks:=t' }:=by
 have q:=PySem.IsL.update e f;rw[c]at q;refine I.write (x:=l) (e:=l) (by rw[g];exact trivial) (.inl U) (λ_ u hb b=>(Qw s.heap (Obj.mapSeq f) (Ne.symm hb)).trans b) ⟨_,q⟩ ?_;exact⟨d,its',_,a,q⟩
theorem Inv.lnew(I:Inv X pins Y H s)(a:ax ys its)(b:ys.length<=sizeLine):
 Inv X pins Y (upd H s.heap.objs.size (.lst ys)) { s with heap:=s.heap.push { cls:=.type "list",data:=.seq its.toArray },toks:=t' }:=
 I.laid (λ_ _ q=>qb _ q) (qf _) ⟨b,its,0,a,qr _ U⟩
theorem Inv.fresh(I:Inv X pins Y H s):H s.heap.objs.size=none:=I.hok.fresh (qf _)
theorem Inv.lstM(I:Inv X pins Y H s)(a:H l=some (.lst xs)):xs.length<=sizeLine/\∃(its:LL)(n:Nat),ax xs its/\xs.length=its.length/\s.heap.get? l=some { cls:=.type "list",data:=.seq its.toArray n }:=by
 obtain⟨z,its,n,r,e⟩:=I.hok l _ a;exact⟨z,its,n,r,r.length,e⟩
theorem wR(h:n<=sizeLine):Builtin.List.listTooLong n=false:=by
 unfold Builtin.List.listTooLong;exact Q7 Yo
end
def C2:V->LV->Hp->VK->Prop:=λx vs H Q=>∃l xs y,x=.ref l/\vs=[y]/\H l=some (.lst xs)/\xs.length<sizeLine/\Q .non (upd H l (.lst (xs++[y])))
theorem E1:MtM X "list.append" C2:=by
 intro _ s Y H x vs v us Q I d c h;obtain⟨l,xs,y,rfl,rfl,b,_,q⟩:=h;cases d;obtain⟨u,rfl,ru⟩:=c.one;obtain⟨z,a,n,r,hl,e⟩:=I.lstM b;refine call_meets F.slot_list_append ⟨_,e,U⟩ F.entry_list_append (F.args_list_append_2 _ _) (PySem.list_append l a.toArray n u (by rw[qF];omega)) ⟨e,?_⟩;refine⟨.non,_,I.lset (its':=a++[u]) b e (by simp) (r.append (.cons ru .nil)) ?_,U,q⟩;rw[qc,Qa];omega
def BY:V->LV->Hp->VK->Prop:=λx vs H Q=>∃l b xs zs,x=.ref l/\vs=[.ref b]/\H l=some (.lst xs)/\H b=some (.lst zs)/\xs.length+zs.length<=sizeLine/\Q .non (upd H l (.lst (xs++zs)))
theorem gQ:MtM X "list.extend" BY:=by
 intro _ s Y H x vs v us Q I k g h;obtain⟨l,b,xs,zs,rfl,rfl,f,j,_,q⟩:=h;cases k;obtain⟨u,rfl,ru⟩:=g.one;cases ru;obtain⟨z,c,n,r,hl,e⟩:=I.lstM f;obtain⟨_,a,n2,i,_,m⟩:=I.lstM j;have hsz:c.toArray.size+a.toArray.size<=sizeLine:=by rw[qF,qF];omega
 have d:¬ (!c.toArray.isEmpty && Builtin.List.listTooLong (c.toArray.size+a.toArray.size))=true:=by
  rw[wR hsz,Bool.and_false];exact qk
 refine call_meets F.slot_list_extend ⟨_,e,U⟩ F.entry_list_extend (F.args_list_extend_2 _ _)
  (AutoSeq1.list_extend_list_list_0 l c.toArray n b a.toArray n2 d (by rw[qF];omega) Yo) ⟨e,m,?_⟩
 refine⟨.non,_,I.lset (its':=c++a) f e (by simp) (r.append i) ?_,U,q⟩;rw[qc];omega
def BS:V->LV->Hp->VK->Prop:=λx vs H Q=>∃l xs y,x=.ref l/\vs=[]/\H l=some (.lst xs)/\xs[xs.length-1]?=some y/\Q y (upd H l (.lst xs.dropLast))
theorem wX:MtM X "list.pop" BS:=by
 intro _ s Y H x vs v us Q I j f h;obtain⟨l,xs,y,rfl,rfl,c,g,q⟩:=h;cases j;have d:=f.zero;subst d;obtain⟨z,a,n,r,hl,e⟩:=I.lstM c;obtain⟨u,i,ru⟩:=r.get g
 have b:a.toArray[a.toArray.size-1]?=some u:=by
  show a.toArray[a.length-1]?=some u;rwa[<- qW,<- hl]
 refine call_meets F.slot_list_pop ⟨_,e,U⟩ F.entry_list_pop (F.args_list_pop_1 _) (MeetsSeq.list_pop_last l a.toArray n u b (by rw[qF];omega)) ⟨e,?_⟩;refine⟨y,_,I.lset (its':=a.dropLast) c e ?_ r.dropLast ?_,ru,q⟩
 .show a.toArray.eraseIdxIfInBounds (a.toArray.size-1)=a.dropLast.toArray;rw[qF,List.eraseIdxIfInBounds_toArray,FE]
 .rw[QD];omega
def BQ:R2:=λx y H Q=>∃l k xs,x=.ref l/\y=.int k/\H l=some (.lst xs)/\-(2 ^ 63)<=k/\k<2 ^ 63/\xs.length * k.toNat<=sizeLine /\
 ∀p,H p=none->Q (.ref p) (upd H p (.lst (List.replicate k.toNat xs).flatten))
theorem Ew(xs:List α)(k:Nat):(List.replicate k xs).flatten.length=k * xs.length:=by
 induction k with
 |zero=>simp
 |succ k a=>rw[List.replicate_succ,List.flatten_cons,qc,a,Nat.succ_mul,Nat.add_comm]
theorem wA:OpR X (binaryOp .Mult) BQ:=by
 intro _ s Y H x y v u Q I C B h;obtain⟨l,k,xs,rfl,rfl,E,D,A,p,q⟩:=h;cases C;obtain⟨t,rfl⟩:=B;obtain⟨z,b,n,r,hl,e⟩:=I.lstM E;have d:b.toArray.size * k.toNat<=sizeLine:=by rwa[qF,<- hl]
 have g:¬ b.toArray.size * k.toNat > (2 ^ 63-1) / 8:=by
  have:(sizeLine:Nat)<=(2 ^ 63-1) / 8:=Yk;omega
 have o:¬ (!Builtin.List.listFitsIndex k)=true:=by
  rw[fitsIndex_both D A];exact qk
 have c:¬ Builtin.List.listTooLong (b.toArray.size * k.toNat)=true:=by
  rw[wR d];exact qk
 have f:List.foldl (λi j=>i++j) #[] (List.replicate (if b.toArray.isEmpty=true then 0 else k.toNat) b.toArray)=(List.replicate k.toNat b).flatten.toArray:=by
  have w:∀m:Nat,List.foldl (λi j=>i++j) #[] (List.replicate m b.toArray)=(List.replicate m b).flatten.toArray:=λm=>by
   have:=xV b m [];rw[Qo]at this;exact this
  rw[w]
  cases b with
  |nil=>simp
  |cons a _=>rw[Q4 (by simp)]
 refine wpAny_binaryOp_repeat_ref (T:="list") (U:="int") Yk ⟨_,e,U⟩ (λG=>typeIs_int G k t) noFill_list_mul F.fills_int_mul F.slot_int_rmul repeat_list F.slot_int_index.lookup
  (call_meets F.slot_int_rmul (typeIs_int s k t) F.entry_int_rmul (F.args_int_rmul_2 _ _) (int___rmul___int_list k t l b.toArray n)
   ⟨e,U,⟨_,e,U⟩,call_meets F.slot_list_mul ⟨_,e,U⟩ F.entry_list_mul (F.args_list_mul_2 _ _) (AutoListH.list___mul___list_int_3 l b.toArray n k t o g c) ⟨e,?_⟩⟩)
 rw[f];exact⟨.ref _,_,I.lnew (t':=s.toks) (r.rep k.toNat) (by rwa[Ew,Nat.mul_comm]),U,q _ I.fresh⟩
set_option maxRecDepth 100000 in
section
variable [DecidableEq κ]
noncomputable def aI(kvs:List (κ×V))(k:κ):LC:=(kvs.find? λF=>decide (F.1=k)).map (·.2)
noncomputable def bu(kvs:List (κ×V))(k:κ)(v:V):List (κ×V):=
 if(kvs.any λF=>decide (F.1=k))=true then kvs.map (λF=>if F.1=k then(F.1,v)else F)else kvs++[(k,v)]
theorem fg{p:κ×V}{r:List (κ×V)}{k:κ}(e:p.1=k):aI (p::r) k=some p.2:=by simp[aI,Qc,e]
theorem fh{p:κ×V}{r:List (κ×V)}{k:κ}(e:¬ p.1=k):aI (p::r) k=aI r k:=by simp[aI,Qc,e]
theorem kj(k:κ):∀kvs:List (κ×V),(kvs.any λa=>decide (a.1=k))=(aI kvs k).isSome
 |[]=>rfl
 |p::r=>by
  rw[List.any_cons];by_cases e:p.1=k
  .simp only[fg e,Q6 e,Bool.true_or,Option.isSome_some]
  .rw[fh e,Q7 e,Bool.false_or];exact kj k r
theorem u0(k j:κ)(y:V):∀kvs:List (κ×V),aI (kvs.map λa=>if a.1=k then(a.1,y)else a) j=(aI kvs j).map λx=>if j=k then y else x
 |[]=>rfl
 |p::r=>by
  have b:=u0 k j y r;rw[qU];by_cases h:p.1=k
  .rw[Q5 h];by_cases e:p.1=j
   .rw[fg (p:=(p.1,y)) e,fg e,Option.map_some,Q5 (e.symm.trans h)]
   .rw[fh (p:=(p.1,y)) e,fh e,b]
  .rw[Q4 h];by_cases e:p.1=j
   .rw[fg (p:=p) e,fg e,Option.map_some,Q4 (λz=>h (e.trans z))]
   .rw[fh (p:=p) e,fh e,b]
theorem tZ(k j:κ)(y:V):∀kvs:List (κ×V),aI kvs k=none->aI (kvs++[(k,y)]) j=if j=k then some y else aI kvs j
 |[],_=>by
  by_cases e:k=j
  .rw[Q5 e.symm];exact fg (p:=(k,y)) e
  .rw[Q4 (λz=>e z.symm)];exact fh (p:=(k,y)) e
 |p::r,hn=>by
  rw[Qp];have hk:¬ p.1=k:=λz=>by rw[fg z]at hn;cases hn
  rw[fh hk]at hn;have a:=tZ k j y r hn;by_cases e:p.1=j
  .rw[fg e,fg e,Q4 (λz=>hk (e.trans z))]
  .rw[fh e,fh e,a]
theorem dL(b:List (κ×V))(k j:κ)(y:V):aI (bu b k y) j=if j=k then some y else aI b j:=by
 unfold bu;by_cases a:(b.any λd=>decide (d.1=k))=true
 .rw[Q5 a,u0];rw[kj]at a;by_cases e:j=k
  .obtain⟨x,c⟩:=Option.isSome_iff_exists.mp a;rw[Q5 e,e,c,Option.map_some,Q5 U]
  .rw[Q4 e]
   cases aI b j with
   |none=>rfl
   |some x=>rw[Option.map_some,Q4 e]
 .rw[Q4 a];refine tZ k j y b ?_;rw[kj]at a
  cases q:aI b k with
  |none=>rfl
  |some x=>rw[q]at a;exact(a U).elim
theorem dQ(a:List (κ×V))(k:κ)(v:V):(bu a k v).length<=a.length+1:=by
 unfold bu;split
 .rw[qa];omega
 .rw[qc,qE,List.length_nil];omega
theorem cu.isSome_eq{o:LC}{u:LO}(r:cu o u):o.isSome=u.isSome:=by
 cases o with
 |none=>cases u with
  |none=>rfl
  |some _=>exact(show False from r).elim
 |some _=>cases u with
  |none=>exact(show False from r).elim
  |some _=>rfl
theorem cu.getD{o:LC}{u:LO}{d:V}{d':Value}(r:cu o u)(a:aB d d'):aB (o.getD d) (u.getD d'):=by
 cases o with
 |none=>cases u with
  |none=>exact a
  |some _=>exact(show False from r).elim
 |some _=>cases u with
  |none=>exact(show False from r).elim
  |some _=>exact r
theorem KV.val{a:List (κ×V)}{vs:List (κ×Value)}(r:KV a vs)(k:κ):cu (aI a k) (valueAt vs k):=by
 unfold KV at r
 induction r with
 |nil=>exact True.intro
 |@cons p q ps qs h t f=>
  obtain⟨d,g⟩:=h;by_cases e:p.1=k
  .have c:q.1=k:=d.symm.trans e;have b:valueAt (q::qs) k=some q.2:=by simp[valueAt,Qc,c]
   rwa[fg e,b]
  .have c:¬ q.1=k:=λz=>e (d.trans z);have b:valueAt (q::qs) k=valueAt qs k:=by simp[valueAt,Qc,c]
   rwa[fh e,b]
theorem KV.any{a:List (κ×V)}{vs:List (κ×Value)}(r:KV a vs)(k:κ):(a.any λb=>decide (b.1=k))=vs.any λb=>decide (b.1=k):=by
 unfold KV at r
 induction r with
 |nil=>rfl
 |cons h t c=>rw[List.any_cons,List.any_cons,c,h.1]
theorem KV.repl{c:List (κ×V)}{vs:List (κ×Value)}(r:KV c vs)(k:κ)(f:aB y u):
 KV (c.map λa=>if a.1=k then(a.1,y)else a) (vs.map λa=>if a.1=k then(a.1,u)else a):=by
 unfold KV at r ⊢
 induction r with
 |nil=>exact .nil
 |@cons p q ps qs h t d=>
  rw[qU,qU];refine .cons ?_ d;obtain⟨b,g⟩:=h;by_cases e:p.1=k
  .rw[Q5 e,Q5 (b.symm.trans e)];exact⟨b,f⟩
  .rw[Q4 e,Q4 (λz=>e (b.trans z))];exact⟨b,g⟩
theorem KV.put{a:List (κ×V)}{vs:List (κ×Value)}(r:KV a vs)(k:κ)(b:aB y u):KV (bu a k y) (stored vs k u):=by
 unfold bu stored;rw[r.any k];by_cases e:(vs.any λc=>decide (c.1=k))=true
 .rw[Q5 e,Q5 e];exact r.repl k b
 .rw[Q4 e,Q4 e];exact Paired.snoc r ⟨U,b⟩
theorem KV.length{a:List (κ×V)}{vs:List (κ×Value)}(r:KV a vs):a.length=vs.length:=Paired.length r
end
theorem gj{k:Key}(r:aB (kV k) u):(d9 P w).is k u=true:=by
 cases k with
 |inl i=>obtain⟨t,e⟩:=(show ∃t,u=Value.int i t from r);subst e;exact E6 P w i t
 |inr x=>obtain⟨t,e⟩:=(show ∃t,u=Value.str x t from r);subst e;exact E5 P w x t
theorem xH{P:Program}{w:World}:∀{ks:List Key}{us:LL},ax (ks.map kV) us->ItemsAre (d9 P w) ks us
 |[],_,r=>by rw[List.map_nil]at r;cases r;exact .nil
 |k::ks,_,r=>by
  rw[qU]at r
  cases r with
  |cons h t=>exact .cons (gj h) (xH t)
abbrev KT(H:Hp):List (List Key×V)->List (List Key×Addr×Value)->Prop:=Paired λp q=>p.1=q.1/\H q.2.1=some (.tup (p.1.map kV))/\aB p.2 q.2.2
theorem KT.val{a:List (List Key×V)}{xs:List (List Key×Addr×Value)}(r:KT H a xs)(k:List Key):cu (aI a k) ((atKey xs k).map (·.2)):=by
 induction r with
 |nil=>exact True.intro
 |@cons p q ps qs h t f=>
  obtain⟨d,_,g⟩:=h;by_cases e:p.1=k
  .have c:q.1=k:=d.symm.trans e;have b:atKey (q::qs) k=some q.2:=by simp[atKey,Qc,c]
   rwa[fg e,b]
  .have c:¬ q.1=k:=λz=>e (d.trans z);have b:atKey (q::qs) k=atKey qs k:=by simp[atKey,Qc,c]
   rwa[fh e,b]
theorem KT.repl{b:List (List Key×V)}{xs:List (List Key×Addr×Value)}(r:KT H b xs)(k:List Key)(i:aB y u):
 KT H (b.map λc=>if c.1=k then(c.1,y)else c) (xs.map (putAt k u)):=by
 induction r with
 |nil=>exact .nil
 |@cons p q ps qs h t g=>
  rw[qU,qU];refine .cons ?_ g;obtain⟨a,d,f⟩:=h;unfold putAt;by_cases e:p.1=k
  .rw[Q5 e,Q5 (a.symm.trans e)];exact⟨a,d,i⟩
  .rw[Q4 e,Q4 (λz=>e (a.trans z))];exact⟨a,d,f⟩
theorem KT.put{a:List (List Key×V)}{xs:List (List Key×Addr×Value)}(r:KT H a xs)(k:List Key)(hb:H b=some (.tup (k.map kV)))(c:aB y u):
 KT H (bu a k y) (storedH xs k b u):=by
 have e:(a.any λd=>decide (d.1=k))=(atKey xs k).isSome:=by
  rw[kj,(r.val k).isSome_eq,Option.isSome_map]
 unfold bu storedH;rw[e];by_cases q:(atKey xs k).isSome=true
 .rw[Q5 q,Q5 q];exact r.repl k c
 .rw[Q4 q,Q4 q];exact Paired.snoc r ⟨U,hb,c⟩
theorem KT.keeps{a:List (List Key×V)}{xs:List (List Key×Addr×Value)}(r:KT H a xs)(ht:∀b ys,H b=some (.tup ys)->H' b=some (.tup ys)):KT H' a xs:=
 Paired.mapP r λ_ _ z=>⟨z.1,ht _ _ z.2.1,z.2.2⟩
theorem vS{u:HO}(ok:HOk P w H h)(e:Rd H a u):bJ P w H h a u:=e.ok ok
theorem jQ(ok:HOk P w H h)(e:Rd H a (.dK kvs)):kvs.length<=sizeLine/\(a == sysModules)=false/\∃vs,KV kvs vs/\h.DictOf (d9 P w) a vs:=
 show bJ P w H h a (.dK kvs)from vS ok e
theorem jR(ok:HOk P w H h)(e:H a=some (.dK kvs)):kvs.length<=sizeLine/\(a == sysModules)=false/\∃vs,KV kvs vs/\h.DictOf (d9 P w) a vs:=jQ ok (.inl e)
theorem lY{b:List Key}(ok:HOk P w H h)(e:H a=some (.tup (b.map kV))):(tupleKind (d9 P w)).is h b a:=by
 obtain⟨_,c,r,o,g,f,n,d⟩:=(show bJ P w H h a (.tup (b.map kV))from ok a _ e);exact⟨o,c.toArray,n,g,f,d,by simpa using xH r⟩
theorem jP{c:List (List Key×V)}(ok:HOk P w H h)(e:Rd H a (.dT c)):c.length<=sizeLine/\(a == sysModules)=false /\
 ∃xs,KT H c xs/\h.DictOfH (tupleKind (d9 P w)) a xs:=by
 obtain⟨z,y,xs,r,o,es,i,s,n,f,k,j⟩:=(show bJ P w H h a (.dT c)from vS ok e);refine⟨z,y,xs,r,o,es,i,s,n,f,k,λx b=>?_,j⟩
 have all:∀{l:List (List Key×V)}{m:List (List Key×Addr×Value)},KT H l m->∀x∈m,(tupleKind (d9 P w)).is h x.1 x.2.1:=by
  intro l m q
  induction q with
  |nil=>intro x b;exact nomatch b
  |@cons p q ps qs d t g=>
   intro x b;rcases qw.mp b with e|b
   .subst e;exact lY ok (by rw[<- d.1];exact d.2.1)
   .exact g x b
 exact all r x b
theorem FL{b:List (List Key×V)}(ok:HOk P w H h)(e:H a=some (.dT b)):b.length<=sizeLine/\(a == sysModules)=false /\
 ∃xs,KT H b xs/\h.DictOfH (tupleKind (d9 P w)) a xs:=jP ok (.inl e)
def cj(H:Hp)(a:Addr)(y:V)(r:LC):Prop:=
 (∃kvs k,Rd H a (.dK kvs)/\y=kV k/\r=aI kvs k)\/∃kvs k b,Rd H a (.dT kvs)/\y=.ref b/\H b=some (.tup (k.map kV))/\r=aI kvs k
def eK(H:Hp)(a:Addr)(y v:V)(H':Hp):Prop:=
 (∃kvs k,H a=some (.dK kvs)/\y=kV k/\kvs.length<sizeLine/\H'=upd H a (.dK (bu kvs k v))) \/
 ∃kvs k b,H a=some (.dT kvs)/\y=.ref b/\H b=some (.tup (k.map kV))/\kvs.length<sizeLine/\H'=upd H a (.dT (bu kvs k v))
theorem cj.k{k:Key}(e:H a=some (.dK kvs)):cj H a (kV k) (aI kvs k):=.inl ⟨kvs,k,.inl e,U,U⟩
theorem eK.k{k:Key}{v:V}(e:H a=some (.dK kvs))(hl:kvs.length<sizeLine):eK H a (kV k) v (upd H a (.dK (bu kvs k v))):=.inl ⟨kvs,k,e,U,hl,U⟩
section
variable {v:V}{r:Value}{o:LC}
theorem Inv.big(I:Inv X pins Y H s):sysModules<s.heap.objs.size:=by
 have h:mainGlobals<s.heap.objs.size:=(I.mod.glob.keeps I.bk).lt;exact Nat.lt_trans Yk h
theorem G8(r:A.units+1<cLine)(I:Inv X pins Y H s)(g:cj H a y (some v))(m:aB y u)(h:∀c s',Inv X pins Y H s'->aB v c->Q c s'):
 wpAny (model X.prog X.w) A (getItem (.ref a) u) Q E s:=by
 rcases g with⟨q,k,e,j,l⟩|⟨q,k,b,e,j,x,l⟩
 .subst j;obtain⟨z,hd,vs,f,i⟩:=jQ I.hok e;obtain⟨c,hw,d⟩:=cu.some_of (v:=v) (o:=valueAt vs k) (by rw[l];exact f.val k);exact wpAny_getItem_of (gj m) i.mapOf hw (h c _ (I.tok _) d)
 .subst j;cases(show u=Value.ref b from m);obtain⟨z,hd,xs,f,i⟩:=jP I.hok e;obtain⟨c,hw,d⟩:=cu.some_of (v:=v) (o:=(atKey xs k).map (·.2)) (by rw[l];exact f.val k);obtain⟨p,t,n⟩:=qS.mp hw;refine wpAny_getItem_heap (tupleKind_room_in1 r) (lY I.hok x) i t ?_;rw[n];exact h c _ (I.tok _) d
theorem sP{ob:HO}(I:Inv X pins Y H s)(f:Mut (H a))(c:Heap.SameBut a s.heap h')(d:∃q,h'.get? a=some q)(new:bJ X.prog X.w (upd H a ob) h' a ob):
 Inv X pins Y (upd H a ob) { s with heap:=h',toks:=t' }:=
 I.write (x:=a) (e:=a) f (.inl U) (λb q hb z=>(c.2 b hb).trans z) d new
theorem sN{vs:List (Key×Value)}(z:kvs.length<=sizeLine)(hd:(a == sysModules)=false)(b:KV kvs vs)(c:h'.DictOf (d9 P w) a vs):
 bJ P w H' h' a (.dK kvs):=⟨z,hd,vs,b,c⟩
theorem G7{Q:Unit->Shared->Prop}(M:A.units+1<cLine)(I:Inv X pins Y H s)(g:eK H a y v H')(C:aB y u)(D:aB v r)(h:∀s',Inv X pins Y H' s'->Q () s'):
 wpAny (model X.prog X.w) A (setItem (.ref a) u r) Q E s:=by
 rcases g with⟨d,k,e,t,l,o⟩|⟨d,k,b,e,t,B,l,o⟩
 .subst t o;obtain⟨z,hd,vs,f,n⟩:=jR I.hok e;have m:vs.length<=sizeLine:=by rwa[<- f.length]
  have hl:(bu d k v).length<=sizeLine:=by have:=dQ d k v;omega
  refine wpAny_setItem_pairs (hsz:=m) (gj C) n λh' i p=>h _ ?_;have K:∃q,h'.get? a=some q:=let ⟨q,_,_,j,_⟩:=i;⟨q,j⟩;exact sP I (by rw[e];exact True.intro) p K (sN hl hd (f.put k D) i)
 .subst t o;cases(show u=Value.ref b from C);obtain⟨z,hd,xs,f,n⟩:=FL I.hok e;have m:xs.length<=sizeLine:=by rwa[<- Paired.length f]
  have hl:(bu d k v).length<=sizeLine:=by have:=dQ d k v;omega
  refine wpAny_setItem_heap (hsz:=m) (tupleKind_room_in1 M) (lY I.hok B) n λh' i p=>h _ ?_;obtain⟨q,es,L,j,J,G,F,_,N⟩:=i;refine sP I (by rw[e];exact True.intro) p ⟨q,j⟩ ⟨hl,hd,_,(f.put k B D).keeps λc ys x=>?_,q,es,L,j,J,G,F,N⟩;rwa[ag (wW x e (λz=>nomatch z))]
end
section
variable {k:Key}
end
def yQ(i:Expr):Prop:=∀ov F,subscripted i false ov F=operate [ov,F] (getItem ov F)
theorem Ak{b slice:Expr}{T l:String}
 (hl:typeLookup (.type T) "__getitem__"=pure (some (.builtin l))) (k:yQ slice)
 (h:wpAny (model prog w) A (eval b env) (λo d=>wpAny (model prog w) A (eval slice env) (λi a=>a.TypeIs o T/\wpAny (model prog w) A (getItem o i) Q E a) E d) E s):
 wpAny (model prog w) A (eval (.Subscript b slice pos) env) Q E s:=by
 refine Subscript_ (wpAny_mono h (λo d g=>wpAny_mono g (λi a c=>?_) λ_ _ x=>x) λ_ _ x=>x);obtain⟨j,c⟩:=c;unfold subscriptTail;refine q9 ?_;rw[getitemInPython_of_ne j.not_modules];refine q9 (wpAny_specialOf j hl ?_)
 have fin:wpAny (model prog w) A (subscripted slice false o i) (λr e=>wpAny (model prog w) A (letTemporaryGo b o r >>= λ_=>pure r) Q E e) E a:=by
  rw[k o i];exact wpAny_operating (wpAny_mono c (λr e f=>q9 (wpAny_letTemporaryGo (qe f))) λ_ _ x=>x)
 first
  |exact qe (q9 fin)
  |exact q9 (qe (q9 fin))
  |exact q9 fin
theorem FO{o:LC}(I:Inv X pins Y H s)(g:cj H a y o):s.TypeIs (.ref a) "dict":=by
 rcases g with⟨d,k,e,_,_⟩|⟨d,k,b,e,_,_,_⟩
 .obtain⟨_,_,vs,_,c⟩:=jQ I.hok e;exact c.typeIs
 .obtain⟨_,_,xs,_,c⟩:=jP I.hok e;exact c.typeIs
def Ac(td ty:TE):TE:=λY H Q=>td Y H λx H1=>ty Y H1 λy H2=>∃a v,x=.ref a/\cj H2 a y (some v)/\Q v H2
def Bs(td ty tv:TE):TS:=λD Y H=>tv Y H λv H1=>td Y H1 λx H2=>ty Y H2 λy F=>∃a H4,x=.ref a/\eK F a y v H4/\D.nx Y H4
section
variable {o i value:Expr}{tpos:Pos}{td ty tv:TE}
theorem pR(w:X.A.units+1<cLine)(z:PE X o td)(f:PE X i ty)(t:yQ i):PE X (.Subscript o i pos) (Ac td ty):=by
 intro b s Y H Q I h;refine Ak PySem.F.slot_dict_getitem.lookup t (thn (z b s Y H _ I h) λu j ⟨x,q,m,r,n⟩=>thn (f b j Y q _ m n) λ_ _ ⟨y,l,d,p,a,v,ex,g,e⟩=>?_);subst ex;obtain rfl:u=Value.ref a:=r;exact⟨FO d g,G8 w d g p λ_ _ k c=>⟨v,l,k,c,e⟩⟩
theorem g6(G:X.A.units+1<cLine)(J:PE X o td)(e:PE X i ty)(l:PE X value tv)(F:swapsWith value (some (.Subscript o i pos')) pos.line X.env=pure false):
 PS X (.Assign [.Subscript o i pos'] value pos) (Bs td ty tv):=by
 intro b s Y H D I h;refine wpAny_Assign_Subscript (thn (l b s Y H _ I h) λr k ⟨v,t,p,E,q⟩=>thn (J b k Y t _ p q) λu d ⟨x,n,B,z,c⟩=>thn (e b d Y n _ B c) λ_ _ ⟨y,_,m,w,a,j,ex,g,f⟩=>?_) F;subst ex;obtain rfl:u=Value.ref a:=z;exact G7 G m g w E λ_ C=>⟨Y,j,C,f⟩
end
theorem y8(h:Heap)(hb:sysModules<h.objs.size):bJ P w H (h.push { cls:=.type "dict",data:=.dict #[] }) h.objs.size (.dK []):=
 ⟨qv _,beq_eq_false_iff_ne.mpr (Ne.symm (qJ hb)),[],.nil,Heap.DictOf.new h⟩
def Aa:TE:=λ_ H Q=>∀p,H p=none->Q (.ref p) (upd H p (.dK []))
theorem gK:PE X (.Dict [] [] pos) Aa:=λ_ s Y H Q I h=>
 wpAny_Dict_empty ⟨.ref s.heap.objs.size,_,I.laid (a:=s.heap.objs.size) (o:=.dK []) (t':=s.toks) (λ_ _ q=>qb _ q) (qf _) (y8 s.heap I.big),U,h _ (I.hok.fresh (qf _))⟩
structure M2(X:Cx)(o:Expr)(m:Str)(apos:Pos)(e f:Expr)(cpos:Pos):Prop where
 base:attributeBase o m X.env (eval o X.env)=eval o X.env
 few:((backTo cpos (starEach [e,f] X.env)).all (λx=>!x.1) && (backToKw cpos (keywordEach [] X.env)).all (λx=>x.1.isSome)
  && decide (([e,f]:LR).length+([]:List Keyword).length+(if([]:List Keyword).isEmpty then 0 else 1)<30))=true
 line:(apos.endLine == cpos.line)=true
 trees:backTo cpos (starEach [e,f] X.env)=[(false,eval e X.env),(false,eval f X.env)]
def IsD(H:Hp)(a:Addr):Prop:=(∃kvs,Rd H a (.dK kvs))\/∃kvs,Rd H a (.dT kvs)
theorem xJ(I:Inv X pins Y H s)(d:IsD H a):
 s.TypeIs (.ref a) "dict"/\(∀b,Value.ref a=.ref b->∃ob,s.heap.get? b=some ob/\ob.dict=none)/\(a == sysModules)=false:=by
 rcases d with⟨h,e⟩|⟨h,e⟩
 .obtain⟨_,hd,vs,_,c⟩:=jQ I.hok e;refine⟨c.typeIs,λb q=>?_,hd⟩;cases q;obtain⟨ob,_,_,g,f,_⟩:=c;exact⟨ob,g,f.2.1⟩
 .obtain⟨_,hd,xs,_,c⟩:=jP I.hok e;refine⟨c.typeIs,λb q=>?_,hd⟩;cases q;obtain⟨ob,_,_,g,f,_⟩:=c;exact⟨ob,g,f.2.1⟩
section
variable {d:V}{r:Value}{o:LC}
theorem G9(q:A.units+1<cLine)(I:Inv X pins Y H s)(g:cj H a y o)(j:aB y u)(m:aB d r)(h:∀n s',Inv X pins Y H s'->aB (o.getD d) n->Q n s'):
 wpAny (model X.prog X.w) A (call (.builtin "dict.get") [.ref a,u,r]) Q E s:=by
 rcases g with⟨p,k,e,i,l⟩|⟨p,k,b,e,i,t,l⟩
 .subst i;obtain⟨z,hd,vs,f,c⟩:=jQ I.hok e;refine call_meetsIn PySem.F.slot_dict_get c.typeIs PySem.F.entry_dict_get (PySem.F.args_dict_get_3 _ _ _) (meets_dict_get_default (d9 X.prog X.w) a (gj j) hd r) ⟨_,c.mapOf,h _ _ (I.tok _) ?_⟩;rw[l];exact(f.val k).getD m
 .subst i;cases(show u=Value.ref b from j);obtain⟨z,hd,xs,f,c⟩:=jP I.hok e;refine call_meetsIn PySem.F.slot_dict_get c.typeIs PySem.F.entry_dict_get (PySem.F.args_dict_get_3 _ _ _) (meetsH_dict_get_default (tupleKind (d9 X.prog X.w)) a b hd r) ⟨tupleKind_room_in1 q,k,xs,lY I.hok t,c,h _ _ (I.tok _) ?_⟩;rw[l];exact(f.val k).getD m
end
def Ab(td ty tx:TE):TE:=λY H Q=>td Y H λx H1=>∃a,x=.ref a/\IsD H1 a/\ty Y H1 λy H2=>tx Y H2 λz F=>∃o,cj F a y o/\Q (o.getD z) F
section
variable {o f:Expr}{td ty tx:TE}
theorem dP(K:X.A.units+1<cLine)(M:PE X o td)(v:PE X e ty)(L:PE X f tx)(m:M2 X o "get" apos e f cpos):PE X (.Call (.Attribute o "get" apos) [e,f] [] cpos) (Ab td ty tx):=by
 intro b s Y H Q I h;refine wpAny_Call_method m.base m.few m.line PySem.F.plainAttrs_dict PySem.F.slot_dict_get PySem.F.type_dict_get (thn (M b s Y H _ I h) λu p ⟨x,B,i,D,a,ex,d,t⟩=>?_);subst ex;obtain rfl:u=Value.ref a:=D;obtain⟨N,j,_⟩:=xJ i d;exists N,j;rw[m.trees]
 refine Calls.callWith_builtin U (Calls.evalArgs_plain (Calls.spliced_cons (thn (v b p Y B _ i t) λ_ l ⟨y,r,G,w,k⟩=>
  Calls.spliced_cons (thn (L b l Y r _ G k) λ_ _ ⟨z,E,q,C,ov,g,n⟩=>Calls.spliced_nil ?_))))
 exact G9 K q g w C λ_ _ J c=>⟨_,E,J,c,n⟩
end
end L2
namespace Att
open PySem PySem.W PySem.Calls PyProof.Rows
theorem EW{P:Params}:∀(ns:LI)(vs:LL),WellAll P h vs (ns.map WData.int)->IntsAre vs ns:=by
 intro ns
 induction ns with
 |nil=>
  intro vs w;rw[List.map_nil]at w;cases w;exact .nil
 |cons n ns c=>
  intro vs w;rw[qU]at w
  cases w with
  |cons a b=>
   cases a;exact .cons _ _ (c _ b)
theorem Bc{l:OpenLaw}(hn:l.most=some n){P:Params}{b:List WData}{c:LL}
 (e:l.row.toRowW.claim.pre b=true) (k:WellAll P h c b):
 ∃a vs ns,c=[Value.ref a]/\b=[WData.list (ns.map WData.int)]/\h.get? a=some { cls:=.type "list",data:=.seq vs.toArray }/\IntsAre vs ns/\ns.length<=n:=by
 have m:WShape.hasAll [] b [.list .int]=true:=(pre_splitW e).1;have o:l.pre.holds [] { args:=b }=true:=(pre_splitW e).2;obtain⟨d,r,rfl,x,w⟩:=hasAllW_cons m;obtain rfl:=hasAllW_nil w;obtain⟨xs,rfl,p⟩:=hasW_list x;obtain⟨ns,rfl⟩:=items_int p
 have j:ns.length<=n:=by
  unfold OpenLaw.pre at o
  have f:(WTm.not (.lt (.lit (.int (n:Int))) (.len (.arg 0)))).holds [] { args:=[.list (ns.map .int)] }=true:=by
   have f:=(holds_andW o).1;rw[hn]at f;exact f
  have g:=condW_of f (w_not (w_lt w_lit (w_len_list (w_arg U))));rw[qa]at g;refine Nat.le_of_not_lt λq=>?_;have u:(n:Int)<((ns.length:Nat):Int):=Yo
  first
   |(rw[Q6 u]at g;exact Q8 g Yk)
   |(simp at g;omega)
 cases k with
 |cons t s=>
  cases s
  cases t with
  |list v i=>exact⟨_,_,ns,U,U,v,EW ns _ i,j⟩
theorem Cr(l:OpenLaw)(a:List WData):l.row.toRowW.claim.post a (.bool true) a=true:=
 postW_of (r:=l.row.toRowW) (X:=(true == true))
  (show WShape.has [] (.bool true) .bool=true by first|rfl|decide|simp[WShape.has,WShape.arms,WShape.armsAll])
  (show(WTm.eq .res (.lit (.bool true))).value [] { args:=a,res:=some (.bool true),after:=a }=some (.bool (true == true))from w_eq_bool (w_res U) w_lit) U
section
variable {K:Frag}
end
end Att
namespace L2
open PySem PySem.Spec PyProof.Rows
theorem mT:∀{vs:LL}{ns:LI},IntsAre vs ns->ax (ns.map V.int) vs
 |_,_,.nil=>.nil
 |_,_,.cons n t h=>.cons ⟨t,U⟩ (mT h)
def mL(H:Hp):Prop:=∀b,H b=none\/∃o xs,H b=some (.frz o (.lst xs))
theorem EA{D:Str->LO}{CX:CXT}{k:Nat}{B:Addr}{c:Shared}{vs:LL}
 (R:K.In c.heap) (y:c.heap.Ns mainGlobals mg) (hb:c.heap.Ns builtinsNs D) (M:∀x:Str,x≠"__name__"->D x=bootBuiltins x) (E:c.heap.NoLimit) (hg:c.gens=#[])
 (ha:c.heap.get? a=some { cls:=.type "list",data:=.seq vs.toArray }) (J:IntsAre vs ns) (hl:ns.length<=sizeLine) (hr:ca k callerA)
 (F:∀base:Heap,K.In base->base.Ns mainGlobals mg->aM P w K mg base CX k B fd [x] sp) (p:∀(s:Shared)(u:Value),BindsTo s fd ⟨[u],[]⟩ [(x,u)])
 (O:∀H:Hp,mL H->SqL K H a (ns.map V.int)->sp [.ref a] H (λv _=>v=.bl true) λ_ _ _=>False)
 (Q:∀H e s',CX [] H c (λ_ _ _=>False) e s'->False):
 codeAny (model P w) callerA (.call (.ref B) ⟨[.ref a],[]⟩) (λr s'=>r=.ok (.ret (.bool true))/\OldK c.heap s'.heap/\s'.os=c.os/\AllBare s'.gens) c:=by
 have T:=mT J;have A:=J.length
 have l:∀H:Hp,mL H->SqL K H a (ns.map V.int)->HOk P w H c.heap->(∀b,H b≠none->b=a)->(H a≠none->K.lookup a=none)->
  codeAny (model P w) callerA (.call (.ref B) ⟨[.ref a],[]⟩) (λr s'=>r=.ok (.ret (.bool true))/\OldK c.heap s'.heap/\s'.os=c.os/\AllBare s'.gens) c:=by
  intro H N W hok S hK;have f:∀{b:Addr}{o:Obj},c.heap.get? b=some o->H b=none->(gn c.heap H).get? b=some o:=λe n=>Ff e n
  have I:∀{b:Addr}{o:Obj}{es:Array DictEntry}{i:Nat},c.heap.get? b=some o->o.data=.dict es i->H b=none:=λ{b o es i} e d=>by
   cases q:H b with
   |none=>rfl
   |some u=>
    have G:b=a:=S b (by rw[q];simp);subst G;rw[ha]at e;cases e;have d':Data.seq vs.toArray _=Data.dict es i:=d;cases d'
  have g:∀{b:Addr}{m:Str->LO},c.heap.Ns b m->(gn c.heap H).Ns b m:=λ{b m}⟨o,es,i,e,d,r⟩=>⟨o,es,i,f e (I e d),d,r⟩
  have t:K.In (gn c.heap H):=λb o e=>f (R b o e) (by
   cases q:H b with
   |none=>rfl
   |some u=>
    have G:b=a:=S b (by rw[q];simp);subst G
    rw[hK (by rw[q];simp)]at e;cases e)
  have X:Mod K mg (gn c.heap H):=⟨t,g y,⟨D,g hb,M⟩,let ⟨mc,h1,X0⟩:=E;⟨mc,g h1,X0⟩⟩;have e0:iC P w K mg (gn c.heap H) callerA [] c H:=⟨U,X,λb o e=>DT e,Nat.le_of_eq (Fe _ _),trivial,λb hb=>Q8 (show b∈([]:LK)from hb) (by simp),hok,.of_eq hg⟩;refine codeAny_mono ((F _ t (g y)).run callerA [] c H ⟨[.ref a],[]⟩ [.ref a] [.ref a] _ _ hr e0 (p c (.ref a)) (.cons U .nil) (O H N W)) λr s' h=>?_
  cases r with
  |error e=>exact(Q H e s' h).elim
  |ok fl=>
   cases fl with
   |next=>exact False.elim h
   |brk=>exact False.elim h
   |cont=>exact False.elim h
   |ret u=>
    obtain⟨v,H',os,bare,un,C,r',q⟩:=h;have Z:v=.bl true:=q;subst Z;obtain rfl:u=Value.bool true:=r';refine⟨U,OldK.of_keep λb o e=>?_,os,bare⟩
    cases q:H b with
    |none=>exact un.keep b o e q (by intro z;exact Q8 (show b∈([]:LK)from z) (by simp)) (by simp)
    |some u=>
     rcases N b with z|⟨ob,xs,z⟩
     .rw[q]at z;cases z
     .have z2:=un.frzs b ob _ z;obtain⟨L,_⟩:=hok b _ z;obtain⟨e2,_⟩:=C b _ z2;rw[e]at L;cases L;exact e2
 cases hk:K.lookup a with
 |some o=>
  have e:=R a o hk;rw[ha]at e;cases e;refine l (λ_=>none) (λ_=>.inl U) (.inr ⟨_,vs.toArray,_,hk,U,U,U,by rwa[qF,A],by simpa using T⟩) (λb u z=>by have j:(none:Option HO)=some u:=z;cases j) (λb z=>Q8 U z) λz=>Q8 U z
 |none=>
  refine l (λb=>if b=a then some (.frz { cls:=.type "list",data:=.seq vs.toArray } (.lst (ns.map V.int)))else none) (λb=>?_) (.inl (.inr ⟨{ cls:=.type "list",data:=.seq vs.toArray },Q5 U⟩)) (λb u z=>?_) (λb z=>?_) λ_=>hk
  .by_cases hb:b=a
   .exact .inr ⟨_,_,Q5 hb⟩
   .exact .inl (Q4 hb)
  .by_cases hb:b=a
   .have j:=(Q5 hb).symm.trans z;cases j;subst hb;exact⟨ha,by rwa[qa],vs,_,T,ha⟩
   .have j:=(Q4 hb).symm.trans z;cases j
  .by_cases hb:b=a
   .exact hb
   .exact Q8 (Q4 hb) z
abbrev CX0:CXT:=λ_ _ _ _ _ _=>False
abbrev E0:XK:=λ_ _ _=>False
theorem iW:gY CX0 X E0:=λ_ _ _ _ _ _ _ h=>h.elim
structure Fun(K:W.Frag)(x qual:Str)(st:Stmt)(f:Addr)(fd:FuncData):Prop where
 ex:∃(oc:Value)(od:Option Addr)(kV doc pm:Value)(an:Option Addr)(cdv ct:Value)(osl:Array LO),
  fd=PySem.W.fnOf x qual (gX st) (gq st) (aH st) .none kV doc pm an cdv ct/\K.lookup f=some ⟨oc,od,.func fd,osl⟩/\PySem.W.codeIn K cdv qual=true
 kp:PySem.W.keepIn K (.ref f)=true
theorem Fun.ok{st:Stmt}{k:Nat}(F:Fun K x qual st f fd)(S:aT N ps (aH st))(len:∀vs H Q E,sp vs H Q E->vs.length=ps.length)
 (a:∀(cdv:Value)(A:Around)(outer:List Env)(s:Shared)(H:Hp)(vs:LV)(Q:VK)(E:XK),ca k (A.deeper (envOfC qual (aH st) s.heap.objs.size f cdv))->sp vs H Q E->
  ∃t,PSs (ig CX0 P w K mg base N qual (aH st) f cdv A outer s H E).nox (gq st) t/\t { nx:=λ_ H'=>Q .non H',rt:=Q } (start N vs) H):aM P w K mg base CX0 (k+1) f fd ps sp:=by
 obtain⟨_,od,kV,_,pm,_,cdv,ct,_,rfl,d,b⟩:=F.ex;refine Ft d b S len λA outer s H vs Q E hr c=>?_;obtain⟨t,h,q⟩:=a cdv A outer s H vs Q E hr c;exact⟨t,h.nox,q⟩
theorem Fun.binds{st:Stmt}(F:Fun K x qual st f fd)
 (h:∀(kV a pm:Value)(b:Option Addr)(cdv ct:Value)(us:LL),us.length=ps.length->bindArgs (PySem.W.fnOf x qual (gX st) (gq st) (aH st) .none kV a pm b cdv ct) ⟨us,[]⟩=pure (ps.zip us)):dZ K fd ps []:=by
 obtain⟨_,od,kV,a,pm,b,cdv,ct,_,rfl,_,_⟩:=F.ex;exact .all (h kV a pm b cdv ct)
theorem Fp{st:Stmt}{e:Value}{od d:Option Addr}{kV b pm a ct:Value}(l:K.lookup f=some ⟨e,od,.func (PySem.W.fnOf x qual (gX st) (gq st) (aH st) .none kV b pm d a ct),osl⟩)
 (c:PySem.W.codeIn K a qual=true) (k:PySem.W.keepIn K (.ref f)=true):Fun K x qual st f (PySem.W.fnOf x qual (gX st) (gq st) (aH st) .none kV b pm d a ct):=⟨⟨e,od,kV,b,pm,d,a,ct,osl,U,l,c⟩,k⟩
theorem j3{A:Prop}(h:B):if false=true then A else B:=by
 rwa[Q4 qk]
theorem rZ{A:Prop}(h:A):if true=true then A else B:=by
 rwa[Q5 U]
theorem cX{c A:Prop}[Decidable c](b:c->A)(a:¬ c->B):if c then A else B:=by
 by_cases h:c
 .rw[Q5 h];exact b h
 .rw[Q4 h];exact a h
def a8(H H':Hp):Prop:=∀b o,H b=some o->H' b=some o
theorem a8.refl(H:Hp):a8 H H:=λ_ _ h=>h
theorem a8.trans{e d:Hp}(a:a8 H e)(b:a8 e d):a8 H d:=λc o h=>b c o (a c o h)
theorem a8.free(e:a8 H H'){l:Addr}(h:H' l=Option.none):H l=Option.none:=by
 cases q:H l with
 |none=>rfl
 |some o=>
  rw[e l o q]at h;cases h
theorem a8.seq{xs:LV}(e:a8 H H')(h:SqL K H a xs):SqL K H' a xs:=by
 rcases h with(h|⟨o,h⟩)|h
 .exact .inl (.inl (e _ _ h))
 .exact .inl (.inr ⟨o,e _ _ h⟩)
 .exact .inr h
section
variable [DecidableEq κ]
end
noncomputable def dS(cells:List (Str×Addr)):List (Str×NameKind)->List (Str×Addr)->List (Str×Addr)
 |[],acc=>acc
 |(n,k)::r,acc=>dS cells r (if k == .free then(match cells.lookup n with|some c=>(n,c)::acc|none=>acc)else acc)
theorem Gm(h:∀y∈scope.names,y.2=.free->∃c,env.cells.lookup y.1=some c):closureFor scope env=pure (dS env.cells scope.names []):=by
 simp only[closureFor];generalize ([]:List (Str×Addr))=a
 revert h
 generalize scope.names=l;intro h
 induction l generalizing a with
 |nil=>simp[dS]
 |cons x r b=>
  obtain⟨n,k⟩:=x;rw[List.forIn_cons];have hr:∀y∈r,y.2=NameKind.free->∃c,env.cells.lookup y.1=some c:=λy f=>h y (qp _ f);by_cases hk:k=.free
  .subst hk;obtain⟨c,e⟩:=h (n,.free) qq U;have d:List.lookup n env.cells=some c:=e;have g:cellOf env n=pure c:=by unfold cellOf;rw[d]
   simp only[beq_self_eq_true,if_true,g,pure_bind,dS,d];exact b _ hr
  .have hb:(k == NameKind.free)=false:=by simpa using hk
   simp only[hb,Qn,if_false,pure_bind,dS];exact b _ hr
theorem xS(a:List (Str×Addr)):∀(l:List (Str×NameKind))(b:List (Str×Addr))(p:Str×Addr),p∈dS a l b->p∈b\/(p.1,NameKind.free)∈l/\a.lookup p.1=some p.2
 |[],_,_,h=>.inl h
 |(n,k)::r,b,p,h=>by
  have h':p∈dS a r (if k == .free then(match a.lookup n with|some c=>(n,c)::b|none=>b)else b):=h;rcases xS a r _ p h' with q|⟨f,d⟩
  .by_cases hk:k=.free
   .subst hk;simp only[beq_self_eq_true,if_true]at q
    cases e:a.lookup n with
    |none=>rw[e]at q;exact .inl q
    |some c=>
     rw[e]at q;rcases qw.mp q with rfl|q
     .exact .inr ⟨qq,e⟩
     .exact .inl q
   .have hb:(k == NameKind.free)=false:=by simpa using hk
    simp only[hb,Qn,if_false]at q;exact .inl q
  .exact .inr ⟨qp _ f,d⟩
theorem xg{f g:Type}[BEq f][LawfulBEq f]{x:f}:∀{l:List (f×g)}{c:g},(x,c)∈l->∃d,l.lookup x=some d
 |(a,b)::r,c,h=>by
  by_cases e:x=a
  .subst e;exact⟨b,by simp⟩
  .rcases qw.mp h with q|q
   .cases q;exact Q8 U e
   .obtain⟨d,hd⟩:=xg q;exists d;have i:(x == a)=false:=by simpa using e
    simp only[List.lookup_cons,i];exact hd
theorem xT(a:List (Str×Addr))(x:Str)(c:Addr)(e:a.lookup x=some c):∀(l:List (Str×NameKind))(b:List (Str×Addr)),((x,NameKind.free)∈l\/(x,c)∈b)->(x,c)∈dS a l b
 |[],_,h=>h.elim (λq=>nomatch q) id
 |(n,k)::r,b,h=>by
  refine xT a x c e r _ ?_;rcases h with h|h
  .rcases qw.mp h with q|q
   .cases q;refine .inr ?_;rw[e];exact qq
   .exact .inl q
  .refine .inr ?_;by_cases hk:(k == NameKind.free)=true
   .rw[Q5 hk]
    cases a.lookup n with
    |none=>exact h
    |some _=>exact qp _ h
   .rwa[Q4 hk]
theorem gT{names:List (Str×NameKind)}{c:Addr}(h:(dS cells names []).lookup x=some c):cells.lookup x=some c:=by
 have a:=Ql h;rcases xS cells names [] _ a with q|⟨_,q⟩
 .exact nomatch q
 .exact q
theorem xU{names:List (Str×NameKind)}{c:Addr}(a:(x,NameKind.free)∈names)(e:cells.lookup x=some c):(dS cells names []).lookup x=some c:=by
 obtain⟨d,hd⟩:=xg (xT cells x c e names [] (.inl a));have:=gT hd;rw[e]at this;rw[hd,this]
theorem vR{k:NameKind}(h:(relabel scope env).names.lookup x=some k):∃a,scope.names.lookup x=some a/\(a=k\/(a=.free/\k=.cell)):=by
 have go:∀(l:List (Str×NameKind)),(l.map λ(n,k)=>if(k == NameKind.free && env.scope.kind == .function && env.kindOf n == some .cell)then(n,NameKind.cell)else(n,k)).lookup x=some k->∃a,l.lookup x=some a/\(a=k\/(a=.free/\k=.cell)):=by
  intro l
  induction l with
  |nil=>intro h;simp at h
  |cons p r e=>
   obtain⟨n,c⟩:=p;intro h;simp only[qU]at h;by_cases hx:x=n
   .subst hx;by_cases hc:(c == NameKind.free && env.scope.kind == .function && env.kindOf x == some .cell)=true
    .rw[Q5 hc]at h;simp at h
     have:c=.free:=by
      simp only[Bool.and_eq_true,beq_iff_eq]at hc;exact hc.1.1
     exact⟨c,by simp,.inr ⟨this,h.symm⟩⟩
    .rw[Q4 hc]at h;simp at h;exact⟨c,by simp,.inl h⟩
   .have d:(x == n)=false:=by simpa using hx
    have:∀b:Bool,(if b=true then(n,NameKind.cell)else(n,c)).1=n:=λb=>by cases b<;>rfl
    rw[List.lookup_cons,this,d]at h;obtain⟨a,g,f⟩:=e h;exact⟨a,by rwa[List.lookup_cons,d],f⟩
 exact go scope.names h
theorem BJ(h:scope.names.lookup x=some .free):(relabel scope env).names.lookup x=some .cell\/(relabel scope env).names.lookup x=some .free:=by
 have go:∀(l:List (Str×NameKind)),l.lookup x=some .free->(l.map λ(n,k)=>if(k == NameKind.free && env.scope.kind == .function && env.kindOf n == some .cell)then(n,NameKind.cell)else(n,k)).lookup x=some .cell\/(l.map λ(n,k)=>if(k == NameKind.free && env.scope.kind == .function && env.kindOf n == some .cell)then(n,NameKind.cell)else(n,k)).lookup x=some .free:=by
  intro l
  induction l with
  |nil=>intro h;simp at h
  |cons p r d=>
   obtain⟨n,c⟩:=p;intro h;simp only[qU];by_cases hx:x=n
   .subst hx;simp at h;by_cases hc:(c == NameKind.free && env.scope.kind == .function && env.kindOf x == some .cell)=true
    .rw[Q5 hc];simp
    .rw[Q4 hc];simp[h]
   .have a:(x == n)=false:=by simpa using hx
    have t:∀b:Bool,(if b=true then(n,NameKind.cell)else(n,c)).1=n:=λb=>by cases b<;>rfl
    rw[List.lookup_cons,a]at h;rw[List.lookup_cons,t,a];exact d h
 exact go scope.names h
section
variable {R:Result->Shared->Prop}
theorem Gj{k a o:Expr}{it f:Value}(I:Nat->Shared->Prop)
 (y:∀n s,I n s->wpAny (model prog w) A (pyNext it) (λr b=>match r with
  |none=>R (.ok .next) b
  |some v=>wpAny (model prog w) A (letOwnedTupleGo a it v) (λ_ e=>wpAny (model prog w) A (assign a env v) (λ_ g=>
   wpAny (model prog w) A (forIn ifs true λc r=>if r=true then do let ok <- isTrue c env (eval c env);pure (ForInStep.yield ok)else pure (ForInStep.yield r)) (λok d=>
    if ok=true then wpAny (model prog w) A (eval k env) (λx i=>
     wpAny (model prog w) A (call (.builtin "list.append") [f,x]) (λ_ l=>∃m,m<n/\I m l) (λ_ _=>False) i) (λ_ _=>False) d
    else ∃m,m<n/\I m d) (λ_ _=>False) g) (λ_ _=>False) e) (λ_ _=>False) b) (λ_ _=>False) s)
 (n:Nat) (h:I n s):
 codeAny (model prog w) A (.compLoop (.ListComp k [⟨a,o,ifs,0⟩] scope pos) 0 it f env) R s:=by
 refine codeAny_loop U I (λn s B=>?_) n h;show wpAny _ A ((compTurn (.ListComp k [⟨a,o,ifs,0⟩] scope pos) 0 it f env).onRaise (λx=>do noteFrame x env;theTreesLotGoes x)) _ _ s;refine wpAny_noted ?_;rw[compTurn_list];refine q9 (wpAny_standAt (q9 (wpAny_mono (y n s B) (λr b p=>?_) λ_ _ h'=>h'.elim)))
 cases r with
 |none=>exact qe p
 |some v=>
  refine q9 (wpAny_mono p (λ_ e q=>?_) λ_ _ h'=>h'.elim);refine q9 (wpAny_mono q (λ_ g t=>q9 (wpAny_mono t (λok d j=>?_) λ_ _ h'=>h'.elim)) λ_ _ h'=>h'.elim)
  cases ok with
  |false=>exact qe ⟨U,j⟩
  |true=>
   exact q9 (q9 (wpAny_mono j (λx i u=>q9 (wpAny_mono u (λ_ l z=>qe (qe ⟨U,z⟩)) λ_ _ h'=>h'.elim)) λ_ _ h'=>h'.elim))
end
structure bL(esc:Scope)(N:LS)(scope:Scope)(k:Nat)(Nc:LS)(js:LG):Prop where
 kind:scope.kind=.function
 cell:∀y∈scope.names,y.2≠.cell
 names:∀y∈scope.names,y.2=.local->scope.names.lookup y.1=some .local
 free:∀y∈scope.names,y.2=.free->esc.names.lookup y.1=some .cell\/esc.names.lookup y.1=some .free
 len:Nc.length=k+js.length
 out:∀p∈(Nc.drop k).zip js,N[p.2]?=some p.1/\scope.names.lookup p.1=some .free
noncomputable def ip(k:Nat)(js:LG)(Y:St):St:=List.replicate k none++js.map λj=>(Y[j]?).join
noncomputable def Cx.comp(X:Cx)(pins:List (Addr×Obj))(Nc:LS)(scope:Scope)(fp:LK)(s:Shared)(H:Hp)(C:Addr):Cx:=
 { X with N:=Nc,s₀:=s,H₀:=H,env:=compEnvC scope (dS X.env.cells scope.names []) C X.env,outer:=X.stack,stack:=X.stack,ex:=fp,fn:=λ_=>false,pn:=X.pn++pins,xe:=λ_ _=>False }
section
variable {k:Nat}
theorem bL.some(S:bL X.env.scope X.N scope k Nc js)(I:Inv X pins Y H s):∀y∈scope.names,y.2=.free->∃c,X.env.cells.lookup y.1=some c:=λy a hk=>I.ok.has y.1 (S.free y a hk)
theorem bL.clos(S:bL X.env.scope X.N scope k Nc js)(I:Inv X pins Y H s):closureFor scope X.env=pure (dS X.env.cells scope.names []):=Gm (S.some I)
theorem Gf(S:bL X.env.scope X.N scope k Nc js)(I:Inv X pins Y H s)(i:∀b∈fp,dq X pins H b)(l:∀b∈fp,b<s.heap.objs.size)(j:s.heap.objs.size<=C):(X.comp pins Nc scope fp s H C).Ok:=by
 have m:∀b,b<s.heap.objs.size->b≠C:=λb hb=>qJ (qG hb j)
 have g:∀b∈fp,b∉frs X.stack:=λb hb z=>by
  rcases qw.mp (I.stkSub b z)with e|e
  .exact(i b hb).2.1 e
  .exact(i b hb).2.2.1 e
 refine⟨I.ok.mod,S.kind,I.ok.glob,I.ok.blt,j,λx y c a f=>I.ok.inj x y c (gT a) (gT f),λx t=>?_,λx c h=>?_,I.ok.hd,I.ok.frames,.inl U,λb hb=>⟨?_,λx c e=>(i b hb).2.2.2.2.1 x c (gT e)⟩,
  λb o e=>⟨(I.bs b o e).1,(I.bs b o e).2⟩,qC I.ok.bsz I.sz,λb o e hb=>?_,g,I.stack,I.stkFree⟩
 .have n:(relabel scope X.env).names.lookup x=some .cell\/(relabel scope X.env).names.lookup x=some .free:=t
  have d:(x,NameKind.free)∈scope.names:=by
   rcases n with h|h
   .obtain⟨p,a,f⟩:=vR h;rcases f with rfl|⟨rfl,_⟩
    .exact Q8 U (S.cell _ (Ql a))
    .exact Ql a
   .obtain⟨p,a,f⟩:=vR h;rcases f with rfl|⟨rfl,_⟩
    .exact Ql a
    .exact Ql a
  obtain⟨c,r⟩:=S.some I (x,.free) d U;exact⟨c,xU d r⟩
 .exact Q8 (show false=true from h) qk
 .exact m b (l b hb)
 .rcases(i b hb).2.2.2.1 with q|q
  .exact I.ok.noex b o e q
  .exact Q8 (qG (qt e) (qC I.ok.bsz q)) (Qf _)
theorem Gh(S:bL X.env.scope X.N scope k Nc js)(I:Inv X pins Y H s)(V:∀b∈fp,dq X pins H b)(E:∀b∈fp,b<s.heap.objs.size)(A:s.heap.objs.size<=C){h:Shared}
 (os:h.os=s.os) (bare:AllBare h.gens) (kept:∀b o,s.heap.get? b=some o->h.heap.get? b=some o) (ns:∃m,h.heap.Ns C m):Inv (X.comp pins Nc scope fp s H C) [] (ip k js Y) H h:=by
 have G:∀b,b<s.heap.objs.size->b≠C:=λb hb=>qJ (qG hb A);refine⟨Gf S I V E A,os,bare,Un.kept kept,?_,λx c e=>?_,I.hok.fresh A,λx c e=>I.freeC x c (gT e),λp O=>?_,I.hok.kept kept,?_⟩
 .obtain⟨W,F⟩:=ns;refine⟨W,F,λi x v L a _=>?_⟩;have J:Nc[i]?=some x:=L;by_cases hi:i<k
  .unfold ip at a;rw[Q9 (by simpa using hi),List.getElem?_replicate,Q5 hi]at a;cases a
  .obtain⟨t,rfl⟩:∃t,i=k+t:=⟨i-k,Yo⟩;unfold ip at a;rw[qO (by simp),List.length_replicate,Nat.add_sub_cancel_left,qH]at a
   cases ej:js[t]? with
   |none=>rw[ej]at a;cases a
   |some j=>
    rw[ej]at a;have g:(Y[j]?).join=some v:=qM a
    have P:Y[j]?=some (some v):=by
     cases q:Y[j]? with
     |none=>rw[q]at g;cases g
     |some z=>rw[q]at g;cases z with
      |none=>cases g
      |some z=>cases g;rfl
    have T:(x,j)∈(Nc.drop k).zip js:=qD (i:=t) (List.getElem?_zip_eq_some.mpr ⟨by rw[List.getElem?_drop];exact J,ej⟩);obtain⟨Q,w⟩:=S.out _ T;have y:(x,NameKind.free)∈scope.names:=Ql w;have hk:=S.free _ y U;obtain⟨m,hn,hl⟩:=I.loc;obtain⟨u,r,l⟩:=hl j x v Q P (.inr hk);exists u,r;rcases l with⟨D,_⟩|⟨_,c,M,o,B,hd⟩
    .have f:X.env.scope.names.lookup x=some .local:=D;rcases hk with hk|hk
     .rw[hk]at f;cases f
     .rw[hk]at f;cases f
    .exact .inr ⟨BJ w,c,xU y M,o,kept _ _ B,hd⟩
 .obtain⟨v,o,B,hd⟩:=I.cell x c (gT e);exact⟨v,o,kept _ _ B,hd⟩
 .have K:p∈X.pn++pins:=by
   rcases qi.mp O with z|z
   .exact z
   .exact nomatch z
  obtain⟨e,n,ne,R,d⟩:=I.pin p K;refine⟨kept _ _ e,n,G _ (qt e),λz=>?_,d⟩;rcases qw.mp (I.stkSub _ z)with q|q
  .exact ne q
  .exact R q
 .show(ip k js Y).length=Nc.length;unfold ip;rw[qc,List.length_replicate,qa,S.len]
theorem Gi(I:Inv X pins Y H s)(d:∀b∈fp,dq X pins H b){D:Addr}(f:s.heap.objs.size<=D){g:St}{ys:LV}
 (J:Inv (X.comp pins Nc scope fp s H C) pins' g H' s') (a:H' D=none) (k:ys.length<=sizeLine) (i:ax ys its) (j:s'.heap.get? D=some { cls:=.type "list",data:=.seq its.toArray n }):
 Inv X pins Y (upd H' D (.lst ys)) s':=by
 have B:Un (frs X.stack) fp H H' s.heap s'.heap:=J.base;have h:∀b o,s.heap.get? b=some o->b≠D:=λb o e=>qJ (qG (qt e) f);refine I.call' (ch:=fp) J.os ⟨B.keep,B.slot,λb o e n l=>?_,B.there,λb xs e=>?_,λb o u e=>?_,λb ps e=>?_⟩ (λb o e=>?_) J.bare λb hb=>⟨(d b hb).2.2.2.1,(d b hb).2.1,(d b hb).2.2.2.2.1,(d b hb).2.2.2.2.2⟩
 .rw[ag (h b o e)];exact B.free b o e n l
 .rw[ag (cy (B.tups b xs e) a)];exact B.tups b xs e
 .rw[ag (cy (B.frzs b o u e) a)];exact B.frzs b o u e
 .obtain⟨more,q⟩:=B.tbls b ps e;exact⟨more,by rwa[ag (cy q a)]⟩
 .by_cases hb:b=D
  .subst hb;rw[ah]at e;cases e;exact⟨k,its,n,i,j⟩
  .rw[ag hb]at e;exact(J.hok b o e).stay (λc v _ q=>q) (λc q=>by rwa[ag (cy q a)]) λc xs q=>by rwa[ag (cy q a)]
end
def PTs(X0:Cx)(ifs:LR)(t:TT):Prop:=
 ∀(pins:List (Addr×Obj))(s:Shared)(Y:St)(H:Hp)(Q:Bool->Hp->Prop),Inv X0 pins Y H s->t Y H Q->
  wpAny (model X0.prog X0.w) X0.A (forIn ifs true λc r=>if r=true then do let ok <- isTrue c X0.env (eval c X0.env);pure (ForInStep.yield ok)else pure (ForInStep.yield r)) (TP X0 pins Y Q) X0.xe s
def iG:TT:=λ_ H Q=>Q true H
theorem gJ{X0:Cx}:PTs X0 [] iG:=λ_ _ _ H _ I h=>wpAny_tests_nil ⟨H,I,h⟩
theorem pM{X0:Cx}{c:Expr}{t:TT}(h:PT X0 c t):PTs X0 [c] t:=λa s Y H Q I b=>wpAny_tests_one (h a s Y H Q I b)
def gZ(J:It)(g:TG)(tt:TT)(te:TE)(a0:LV->Hp->Prop)(W:Nat->Nat->LV->St->Hp->Prop):Prop:=
 ∀i m ys Y H,W i m ys Y H->(J.stop i H/\ys.length<=sizeLine/\a0 ys H)\/(J.go i H/\ys.length<sizeLine/\∃N:LV->St->Hp->Prop,(∀V O H',N V O H'->∃m',m'<m/\W (i+1) m' V O H') /\
  ∀x H',J.yld i H x H'->g x Y H' λF H2=>tt F H2 λb H3=>if b=true then te F H3 λy H4=>N (ys++[y]) F H4 else N ys F H3)
section
variable {k:Nat}{iter elt:Expr}{g:TG}
theorem yi{J:It}{tn:Nat->Heap->Prop}{b2:LV->Hp->Prop}{W:Nat->Nat->LV->St->Hp->Prop}{RR:Value->Addr->Result->Shared->Prop}{m0:Nat}
 (S:bL X.env.scope X.N scope k Nc js) (hc:X.calm=true) (I:Inv X pins Y H s) (T:iz X.prog X.w X.K tg J fp it tn) (st:tn 0 s.heap) (L:∀b∈fp,dq X pins H b)
 (hg:∀pins fp s H C,PG (X.comp pins Nc scope fp s H C) tg g) (ht:∀pins fp s H C,PTs (X.comp pins Nc scope fp s H C) ifs tt) (he:∀pins fp s H C,PE (X.comp pins Nc scope fp s H C) elt te)
 (w0:W 0 m0 [] (ip k js Y) H) (b4:gZ J g tt te b2 W)
 (c1:∀D C s' ys H',Inv X pins Y (upd H' D (.lst ys)) s'->dq X pins (upd H' D (.lst ys)) C->(∃m,s'.heap.Ns C m)->H' D=none->b2 ys H'->RR (.ref D) C (.ok .next) s'):
 wpAny (model X.prog X.w) X.A (newList []) (λa' f=>wpAny (model X.prog X.w) X.A (newFunctionEnv scope X.env.globals (dS X.env.cells scope.names []) [] X.env.qual none .none (some X.env)) (λZ b5=>
  codeAny (model X.prog X.w) X.A (.compStart (.ListComp elt [⟨tg,iter,ifs,0⟩] scope pos) 0 (.ref it) a' { Z with scope:=relabel scope X.env }) (RR a' Z.locals) b5) E f) E s:=by
 refine wpAny_newObj_type (wpAny_newFunctionEnv S.cell (by intro y hy;simp at hy) (λO j d=>?_) S.kind);dsimp only at j d ⊢;generalize hH2:s.heap.push { cls:=.type "list",dict:=none,data:=.seq ([]:LL).toArray }=H2 at j d ⊢;have hC:H2.objs.size=s.heap.objs.size+1:=by rw[<- hH2,Qj]
 have t:s.heap.objs.size<=H2.objs.size:=by rw[hC];exact Nat.le_succ _
 have X0:s.heap.objs.size≠H2.objs.size:=by rw[hC];exact qJ (Qe _)
 have old:∀b o,s.heap.get? b=some o->O.get? b=some o:=λb o e=>
  d.extBut b o (qJ (qG (qt e) t)) (qb _ (hH2▸qb _ e))
 have b6:O.get? s.heap.objs.size=some { cls:=.type "list",data:=.seq ([]:LL).toArray 0 }:=d.extBut _ _ X0 (qb _ (hH2▸qr _ U));have b9:∀b∈fp,∃o,s.heap.get? b=some o:=λb hb=>let ⟨o,e,_⟩:=T.obj 0 _ st b hb;⟨o,e⟩;have P:∀b∈fp,b<s.heap.objs.size:=λb hb=>let ⟨_,e⟩:=b9 b hb;qt e
 have a0:∀b∈fp,b∉frs X.stack:=λb hb z=>by
  rcases qw.mp (I.stkSub b z)with e|e
  .exact(L b hb).2.1 e
  .exact(L b hb).2.2.1 e
 have a6:s.heap.objs.size∉frs X.stack:=λz=>by
  rcases qw.mp (I.stkSub _ z)with e|e
  .have:=I.lt;rw[<- e]at this;exact Qf _ this
  .exact I.nofs (qf _) e
 let h:LL->Nat->List (Addr×Obj):=λa n=>[(s.heap.objs.size,{ cls:=.type "list",data:=.seq a.toArray n })]
 have M:∀{H':Hp}{a:LL}{n:Nat},(∀b∈fp,H' b=none)->∀b∈fp,dq (X.comp pins Nc scope fp s H H2.objs.size) (h a n) H' b:=λ{H' a n} hn b hb=>
  ⟨hn b hb,qJ (qG (P b hb) t),a0 b hb,.inl hb,λx c e=>(L b hb).2.2.2.2.1 x c (gT e),λp B z=>by
   rcases qi.mp B with q|q
   .exact(L b hb).2.2.2.2.2 p q z
   .have e:p=(s.heap.objs.size,_):=qV.mp q;rw[e]at z
    exact Q8 (P b hb) (by rw[<- z];exact Qf _)⟩
 have a2:∀f:Shared,f={ s with heap:=O,toks:=s.toks+([]:List (Str×Value)).length }->
  codeAny (model X.prog X.w) X.A (.compLoop (.ListComp elt [⟨tg,iter,ifs,0⟩] scope pos) 0 (.ref it) (.ref s.heap.objs.size) (compEnvC scope (dS X.env.cells scope.names []) H2.objs.size X.env)) (RR (.ref s.heap.objs.size) H2.objs.size) f:=by
  rintro f rfl
  refine Gj (λn s'=>∃i ys a nn b3 H',Inv (X.comp pins Nc scope fp s H H2.objs.size) [] b3 H' s'/\tn i s'.heap/\(∀b∈fp,H' b=none)/\H' s.heap.objs.size=none/\ax ys a /\
   s'.heap.get? s.heap.objs.size=some { cls:=.type "list",data:=.seq a.toArray nn }/\W i n ys b3 H') ?_ m0 ?_
  .rintro n s3 ⟨i,ys,a,nn,F,H3,I3,b1,a7,a5,V,c3,w3⟩
   have a9:Inv (X.comp pins Nc scope fp s H H2.objs.size) (h a nn) F H3 s3:=I3.pins_of λp B=>by
    have e:p=(s.heap.objs.size,_):=qV.mp B;subst e;exact⟨c3,a5,X0,a6,λv z=>by cases z⟩
   rcases b4 i n ys F H3 w3 with⟨stop,hz,fin⟩|⟨go,hz,N,hN,step⟩
   .refine thn (T.done (X.comp pins Nc scope fp s H H2.objs.size) U U U hc i (h a nn) s3 F H3 (λ_ _=>False) a9 (M a7) b1 stop) λr s4 ⟨hr,I4⟩=>?_;subst hr;have c4:=(I4.pin _ (qL _ (qV.mpr U))).1;obtain⟨m4,b7,_⟩:=I4.loc;refine c1 _ _ s4 ys H3 (Gi I L (qf _) I4 a5 hz V c4) (I.fpOk t ?_) ⟨m4,b7⟩ a5 fin;rw[ag (Ne.symm X0)];exact I4.free
   .refine thn (T.item (X.comp pins Nc scope fp s H H2.objs.size) U U U hc i (h a nn) s3 F H3 (λ_ _=>False) a9 (M a7) b1 go) λr s4 ⟨u,hr,h4⟩=>?_;subst hr;refine thn h4 λ_ s5 ⟨x,H5,I5,r5,y5,Q,c5⟩=>?_;have b':=I5.pinned (M c5) (T.obj _ _ Q);refine thn (hg pins fp s H H2.objs.size _ s5 F H5 x u _ b' r5 (step x H5 y5)) λ_ s6 ⟨l,H6,I6,q6⟩=>?_;refine thn (ht pins fp s H H2.objs.size _ s6 l H6 _ I6 q6) λok s7 ⟨H7,I7,q7⟩=>?_
    have G:∀{a8:St}{H':Hp}{s':Shared},Inv (X.comp pins Nc scope fp s H H2.objs.size) (h a nn++jC fp s5.heap) a8 H' s'->
     s'.heap.get? s.heap.objs.size=some { cls:=.type "list",data:=.seq a.toArray nn }/\H' s.heap.objs.size=none/\(∀b∈fp,H' b=none)/\(∀b∈fp,∀o,s5.heap.get? b=some o->s'.heap.get? b=some o):=λ{a8 H' s'} J=>by
     have p1:=J.pin (s.heap.objs.size,_) (qL _ (qY _ (qV.mpr U)));refine⟨p1.1,p1.2.1,λb hb=>?_,λb hb o e=>(J.pin (b,o) (qL _ (qL _ (lK hb e)))).1⟩;obtain⟨o,e,_⟩:=T.obj _ _ Q b hb;exact(J.pin (b,o) (qL _ (qL _ (lK hb e)))).2.1
    cases ok with
    |true=>
     rw[Q5 U]at q7 ⊢;refine thn (he pins fp s H H2.objs.size _ s7 l H7 _ I7 q7) λy s8 ⟨v,H8,I8,r8,q8⟩=>?_;obtain⟨a1,R,a4,k8⟩:=G I8;refine append_at (hsz:=by have:=V.length;show a.toArray.size<=sizeLine;rw[qF,<- this];exact Nat.le_of_lt hz) a1 λh9 b0 c2=>?_;obtain⟨m',a3,w9⟩:=hN _ _ _ q8;have b8:Inv (X.comp pins Nc scope fp s H H2.objs.size) [] l H8 s8:=I8.pins_of λp B=>nomatch B
     have I9:Inv (X.comp pins Nc scope fp s H H2.objs.size) [] l H8 { s8 with heap:=h9 }:=b8.turned (t':=s8.toks) (it:=s.heap.objs.size) (λb o hb e=>(b0.2 b hb).trans e) R X0 (.inr (qf _)) (λx c e z=>by
      obtain⟨v,q⟩:=I.cell x c (gT e)
      exact Q8 q.lt (by rw[z];exact Qf _)) λp B z=>by
       have c0:p∈X.pn++pins:=by
        rcases qi.mp B with q|q
        .exact q
        .exact nomatch q
       exact Q8 (qt (I.pin p c0).1) (by rw[z];exact Qf _)
     refine⟨m',a3,i+1,ys++[v],a++[y],nn+1,l,H8,I9,T.keep _ _ _ Q λb hb o e=>(b0.2 b (qJ (P b hb))).trans (k8 b hb o e),a4,R,V.append (.cons r8 .nil),?_,w9⟩;show h9.get? s.heap.objs.size=_;rw[c2];simp
    |false=>
     rw[Q4 qk]at q7 ⊢;obtain⟨a1,R,a4,k8⟩:=G I7;obtain⟨m',a3,w9⟩:=hN _ _ _ q7;exact⟨m',a3,i+1,ys,a,nn,l,H7,I7.pins_of λp B=>(nomatch B),T.keep _ _ _ Q k8,a4,R,V,a1,w9⟩
  .exact⟨0,[],[],0,_,H,Gh S I L P t U I.bare old ⟨_,j⟩,T.keep _ _ _ st λb _ o e=>old b o e,λb hb=>(L b hb).1,I.hok.fresh (qf _),.nil,b6,w0⟩
 exact codeAny_compStart_list (a2 _ U) (T.self X.A 0 _ _ _ (T.keep _ _ _ st λb _ o e=>old b o e) (a2 _ U))
def uh(F:TI)(k:Nat)(js:LG)(g:TG)(tt:TT)(te:TE):TE:=λY H Q=>F Y H λJ H1=>∃W:Nat->Nat->LV->St->Hp->Prop,(∃m,W 0 m [] (ip k js Y) H1) /\
 gZ J g tt te (λys H=>∀D,H D=none->Q (.ref D) (upd H D (.lst ys))) W
theorem i5{i:TI}(S:bL X.env.scope X.N scope k Nc js)(n:X.calm=true)(l:PI X tg iter i)
 (B:∀pins fp s H C,PG (X.comp pins Nc scope fp s H C) tg g) (ht:∀pins fp s H C,PTs (X.comp pins Nc scope fp s H C) ifs tt) (t:∀pins fp s H C,PE (X.comp pins Nc scope fp s H C) elt te)
 (z:∀x,foldedSetIterable iter X.env x=pure x:=by intro _;rfl):PE X (.ListComp elt [⟨tg,iter,ifs,0⟩] scope pos) (uh i k js g tt te):=by
 intro pins s Y H Q I h;rw[eval_ListComp];refine wpAny_comprehension_free (use:=none) U z (S.clos I) S.kind S.names (thn (l pins s Y H _ I h) λ_ _ y=>thn y λ_ _ r=>?_);obtain⟨it,fp,_,J,_,e,v,T,d,u,W,⟨_,F⟩,c⟩:=r;subst e;refine yi (RR:=λf C=>compPost (model X.prog X.w) X.A X.xe none (EP X pins Y Q) f C) S n v T d u B ht t F c λD C E ys H' p a ns q fin=>?_;obtain⟨m,hn⟩:=ns;exact⟨m,hn,λh' j=>⟨.ref D,_,p.turned (t':=E.toks) (λb o hb e=>(j.2 b hb).trans e) a.1 a.2.1 a.2.2.2.1 a.2.2.2.2.1 a.2.2.2.2.2,U,fin D q⟩⟩
theorem kZ{y:TI}{d f:Pos}(R:X.N.Nodup)(u:X.N[i]?=some x)(O:Loc X.env.scope x)(S:bL X.env.scope X.N scope k Nc js)(G:X.calm=true)(F:PI X tg iter y)
 (hg:∀pins fp s H C,PG (X.comp pins Nc scope fp s H C) tg g) (ht:∀pins fp s H C,PTs (X.comp pins Nc scope fp s H C) ifs tt) (V:∀pins fp s H C,PE (X.comp pins Nc scope fp s H C) elt te)
 (B:swapsWith (.ListComp elt [⟨tg,iter,ifs,0⟩] scope pos) (some (.Name x d)) f.line X.env=pure true:=by rfl)
 (hs:∀x,foldedSetIterable iter X.env x=pure x:=by intro _;rfl) (hf:X.fn x=true\/X.env.scope.names.lookup x=some .local:=by first|exact .inl U|exact .inr U|assumption):
 PS X (.Assign [.Name x d] (.ListComp elt [⟨tg,iter,ifs,0⟩] scope pos) f) (mZ (uh y k js g tt te) (dh i)):=by
 intro pins s Y H D I h;rw[exec_Assign_Name_used _ _ _ _ B];refine q9 (wpAny_standAt (q9 ?_));show wpAny _ X.A (do let _ <- comprehension (.ListComp elt [⟨tg,iter,ifs,0⟩] scope pos) scope X.env _ (newList []) false (eval iter X.env) (some (assign (.Name x d) X.env))) _ _ s
 refine q9 (wpAny_mono (wpAny_comprehension_free (use:=some (assign (.Name x d) X.env)) (Q:=λ_ j=>SP X pins D .next j) U hs (S.clos I) S.kind S.names
  (thn (F pins s Y H _ I h) λ_ _ h1=>thn h1 λ_ _ P=>?_)) (λ_ j Z=>qe (qe Z)) λ_ _ e=>e)
 obtain⟨it,fp,_,J,_,e,I2,T,n,X0,W,⟨_,w0⟩,l⟩:=P;subst e;refine yi (RR:=λq C=>compPost (model X.prog X.w) X.A X.xe (some (assign (.Name x d) X.env)) (λ_ j=>SP X pins D .next j) q C) S G I2 T n X0 hg ht V w0 l λA C j ys H' K c ns L fin=>?_;obtain⟨m,hn⟩:=ns;show wpAny _ X.A (assign (.Name x d) X.env (.ref A)) _ _ _;refine wpAny_assign_Name (ur K R u O (v:=.ref A) U (λt r ⟨a,M,ha⟩=>?_) hf)
 have p:C≠a:=by
  rcases ha with ha|ha
  .rw[ha];exact c.2.1
  .exact λz=>c.2.2.2.2.1 x a ha z.symm
 exact⟨m,hn.sameBut M p,λh' E=>⟨_,_,r.turned (t':=t.toks) (λb o hb e=>(E.2 b hb).trans e) c.1 c.2.1 c.2.2.2.1 c.2.2.2.2.1 c.2.2.2.2.2,fin A L⟩⟩
end
def BN:V->Option Int->Option Int->Hp->VK->Prop:=λx lo hi H Q=>∃z,x=.str z/\z.length<=sizeLine/\Q (.str (Txt.slice z lo hi)) H
theorem jj:SlR X BN:=by
 intro c s Y H x v _ _ m g sl Q I n a pl e h;obtain⟨z,rfl,b,q⟩:=h;obtain⟨t,rfl⟩:=n;exists "str",_,PySem.F.slot_str_getitem.lookup,typeIs_str _ _ _;have fin:∀t' k,EP X c Y Q (.str (Txt.slice z m g) t') { s with toks:=k }:=λt' k=>⟨.str _,H,I.tok k,⟨t',U⟩,q⟩
 cases pl with
 |none=>
  cases e with
  |none=>exact wpAny_getItem_str_slice (l:=none) (u:=none) (st:=none) a U (post_val_or_str ⟨qC (Txt.slice_le z _ _) b,fin⟩)
  |int j d=>exact wpAny_getItem_str_slice (l:=none) (u:=some (j,d)) (st:=none) a U (post_val_or_str ⟨qC (Txt.slice_le z _ _) b,fin⟩)
 |int i f=>
  cases e with
  |none=>exact wpAny_getItem_str_slice (l:=some (i,f)) (u:=none) (st:=none) a U (post_val_or_str ⟨qC (Txt.slice_le z _ _) b,fin⟩)
  |int j d=>exact wpAny_getItem_str_slice (l:=some (i,f)) (u:=some (j,d)) (st:=none) a U (post_val_or_str ⟨qC (Txt.slice_le z _ _) b,fin⟩)
theorem CW:OpR X (binaryOp .Mult) (rI IntMulOk λi j=>.int (i * j)):=opI λ_ _ _ _ _ _ _ a q=>mul_int q a
theorem Gv:cJ X (.builtin "isinstance") (λxs H Q=>∃x t T b,xs=[x,.ty T]/\dU X.K H x t/\PySem.W.kitOne X.K t (.type T)=some b/\Q (.bl b) H):=by
 intro _ s Y H xs us Q I r h;obtain⟨x,t,T,b,rfl,ty,e,q⟩:=h;obtain⟨u,c,rfl,ru,a⟩:=jg r;have d:c=.type T:=a;subst d;exact ET I ru ty e λtk=>⟨.bl b,H,I.tok tk,U,q⟩
def C1(K:W.Frag):R2:=λx y H Q=>∃l b xs zs,x=.ref l/\y=.ref b/\SqL K H l xs/\SqL K H b zs/\xs.length+zs.length<=sizeLine/\∀p,H p=none->Q (.ref p) (upd H p (.lst (xs++zs)))
theorem D7:OpR X (binaryOp .Add) (C1 X.K):=by
 intro _ s Y H x y v u Q I z w h;obtain⟨l,b,xs,zs,rfl,rfl,B,p,_,q⟩:=h;cases z;cases w;obtain⟨c,r,pl,_⟩:=I.list B;obtain⟨a,i,j,_⟩:=I.list p;have C:=r.length;have D:=i.length;obtain⟨⟨_,t,_,sl⟩,n,o,k,_,hd⟩:=pl;obtain⟨⟨_,g,_,m⟩,n2,f,d,_,e⟩:=j;simp only at k hd d e;subst k hd d e;refine concat_meets ⟨_,o,U⟩ ⟨_,f,U⟩ noFill_list_add seq_list_add PySem.F.slot_list_add PySem.F.entry_list_add (PySem.F.args_list_add_2 _ _) (list_addW l b c.toArray a.toArray n n2 t g sl m (by rw[qF,qF];omega)) ⟨o,f,?_⟩;have A:c.toArray++a.toArray=(c++a).toArray:=by simp
 rw[A];exact⟨.ref _,_,I.lnew (t':=s.toks) (r.append i) (by rw[qc];omega),U,q _ I.fresh⟩
theorem mP{N N':V->St->Hp->Prop}{M:St->Hp->Prop}:(λ(a:St)(H2:Hp)=>iG a H2 λb c=>if b=true then te a c λy H4=>N y a H4 else M a c)=λa H2=>te a H2 λy H4=>N y a H4:=by
 funext a H2
 unfold iG;dsimp only;rw[Q5 U]
noncomputable def sR(e:Expr):LC:=match e with
 |.Constant (.str x) _ _=>some (.str x)
 |.Constant (.int i) _ _=>some (.int i)
 |.Constant (.bool b) _ _=>some (.bl b)
 |.Constant .none _ _=>some .non
 |_=>none
noncomputable def sQ:LR->Option LV
 |[]=>some []
 |e::es=>match sR e,sQ es with
  |some v,some vs=>some (v::vs)
  |_,_=>none
def zT(vs:LV):TA:=λ_ H Q=>Q vs H
theorem CL{v:V}(h:sR e=some v):PE X e (tC v)/\∀es,starEach (e::es) X.env=(false,eval e X.env)::starEach es X.env:=by
 unfold sR at h;split at h
 .cases h;exact⟨aS,λ_=>U⟩
 .cases h;exact⟨aa,λ_=>U⟩
 .cases h;exact⟨fA,λ_=>U⟩
 .cases h;exact⟨cr,λ_=>U⟩
 .cases h
theorem lD{X:Cx}:∀{es:LR}{vs:LV},sQ es=some vs->PA X es (zT vs)
 |[],vs,h=>by cases h;exact af
 |e::es,vs,h=>by
  unfold sQ at h;split at h
  .rename_i v a h1 h2;cases h;obtain⟨p,s⟩:=CL (X:=X) h1;exact a9 p (lD h2) (s es)
  .cases h
theorem DR:OpR X (binaryOp .Add) (λx y H Q=>∃i j,x=.int i/\y=.int j/\Q (.int (i+j)) H):=D9
theorem DK:OpR X (binaryOp .Sub) (λx y H Q=>∃i j,x=.int i/\y=.int j/\Q (.int (i-j)) H):=CS
theorem eD:OpR X (binaryOp .Mult) (λx y H Q=>∃i j,x=.int i/\y=.int j/\IntMulOk i j/\Q (.int (i * j)) H):=CW
theorem DQ:OpR X (binaryOp .FloorDiv) (λx y H Q=>∃i j,x=.int i/\y=.int j/\(0<j/\j<1073741824)/\Q (.int (i / j)) H):=D5
theorem DL:OpR X (binaryOp .Mod) (λx y H Q=>∃i j,x=.int i/\y=.int j/\0<j/\Q (.int (i % j)) H):=CY
theorem wJ:OpR X (binaryOp .Pow) (λx y H Q=>∃i j,x=.int i/\y=.int j/\(0<=j/\j<=1000000/\i.natAbs<2 ^ 64)/\Q (.int (i ^ j.toNat)) H):=CT
theorem DM:OpR X (compareOp .Lt) (λx y H Q=>∃i j,x=.int i/\y=.int j/\Q (.bl (decide (i<j))) H):=CZ
theorem DN:OpR X (compareOp .LtE) (λx y H Q=>∃i j,x=.int i/\y=.int j/\Q (.bl (decide (i<=j))) H):=D0
theorem DO:OpR X (compareOp .Gt) (λx y H Q=>∃i j,x=.int i/\y=.int j/\Q (.bl (decide (j<i))) H):=D3
theorem DP:OpR X (compareOp .GtE) (λx y H Q=>∃i j,x=.int i/\y=.int j/\Q (.bl (decide (j<=i))) H):=D4
end L2
namespace Att
open PySem PySem.W PySem.Calls PyProof.Rows
theorem Bd(h:WData.layableAll [WData.list (ns.map WData.int)]=true):∀n∈ns,Builtin.Int.intBits n<=2 ^ 20:=λn hn=>by
 have b:=layableW_arg h _ (qV.mpr U);have a:=layableW_item b (WData.int n) (List.mem_map.mpr ⟨n,hn,U⟩);exact PyData.bits_of_layable (layable0_of_all (lay0_int a))
theorem attach_callB{l:OpenLaw}{q:Program}{d:DefRec}
 (hn:l.most=some n) (x:d.params.defaults=[])
 (call:∀(w:World)(s₀ b:Shared)(mg p:Str->LO)(e:Addr)(o:Obj)(pm h c:Value)(a:Addr)(vs:LL)(ns:LI),
  Ground q loose [] XP w s₀ mg p b.heap->YP w b.heap->
  b.heap.get? e=some o->o.data=.func (docDef d.name d.params d.body d.scope pm h c)->b.heap.CodeRec h d.name->mg d.name=some (.ref e)->
  b.heap.get? a=some { cls:=.type "list",data:=.seq vs.toArray }->IntsAre vs ns->ns.length<=n->(∀k∈ns,Builtin.Int.intBits k<=2 ^ 20)->b.gens=#[]->
  codeAny (model l.prog w) callerA (.call (.ref e) ⟨[.ref a],[]⟩) (λr s'=>r=.ok (.ret (.bool true))/\OldK b.heap s'.heap/\s'.os=b.os/\AllBare s'.gens) b):
 WalkO q loose XP YP l.row.toRowW d [] (λf vs=>PySem.call f vs):=by
 intro w s₀ b mg p G X0 e o pm h c D kV F hd v t y H _ _ as s j _ u _;obtain rfl:D=.none:=Dflts.none t x;obtain rfl:kV=.none:=Dflts.noKw t;obtain⟨a,vs,ns,rfl,rfl,m,g,i⟩:=Bc hn s u;refine enter_call (codeAny_mono (call w s₀ b mg p e o pm h c a vs ns G X0 F (fd_plain hd) v y m g i (Bd j) H) λr s' C=>?_);obtain⟨rfl,B,A,z⟩:=C;exact⟨.inl ⟨.bool true,.bool true,[],U,λ_=>U,.bool true,Cr l _,λ_=>⟨List.Pairwise.nil,λ_ E=>(nomatch E)⟩⟩,B,A,z⟩
end Att
namespace L2
open PySem PySem.Spec PyProof.Rows
theorem zH{l:PySem.W.OpenLaw}{k:Nat}{q:Program}{d:DefRec}{K:Params->PySem.W.Frag}{CX:World->CXT}{sp:World->Sp}
 (hn:l.most=some n) (B:n<=sizeLine) (t:d.params.defaults=[]) (hr:ca k callerA)
 (L:∀(w:World)(h:Heap),YP w h->(K w.params).In h)
 (F:∀(w:World)(mg:Str->LO)(m:Addr)(h:Heap),(K w.params).In h->h.Ns mainGlobals mg->mg d.name=some (.ref m)->
  ∃fd:FuncData,(∀(s:Shared)(u:Value),BindsTo s fd ⟨[u],[]⟩ [(x,u)]) /\
   ∀base:Heap,(K w.params).In base->base.Ns mainGlobals mg->aM l.prog w (K w.params) mg base (CX w) k m fd [x] (sp w))
 (y:∀(w:World)(H:Hp)(a:Addr)(ns:LI),ns.length<=n->(∀k∈ns,Builtin.Int.intBits k<=2 ^ 20)->mL H->SqL (K w.params) H a (ns.map V.int)->sp w [.ref a] H (λv _=>v=.bl true) λ_ _ _=>False)
 (z:∀(w:World)(H:Hp)(s:Shared)(e:Value)(s':Shared),CX w [] H s (λ_ _ _=>False) e s'->False):
 PySem.W.WalkO q loose XP YP l.row.toRowW d [] (λf vs=>PySem.call f vs):=by
 refine Att.attach_callB hn t λw s₀ p mg _ m o pm _ _ a vs ns G X0 _ hd _ C r i c j J=>?_;have A:=L w _ X0;obtain⟨fd,hb,D⟩:=F w mg m _ A G.T.g C;exact EA A G.T.g G.T.b G.T.builtins G.T.nolimit J r i (qC c B) hr D hb (λH E I=>y w H a ns c j E I) λH e s'=>z w H p e s'
theorem a8.new{p:Addr}(h:H p=none)(o:HO):a8 H (upd H p o):=λb u q=>by rwa[ag (cy q h)]
theorem bq{m:Nat}(h:n<=m)(a:m<=1000000:=by decide):n<=sizeLine:=qC h (qC a (by rw[sizeLine_eq];decide))
theorem dB(x y:Str):(x++y).length=x.length+y.length:=strLen_append x y
theorem lZ{L Pc c A:Prop}{a:Decidable c}(hw:¬ c->Pc)(rest:Pc->L)(h:c->(Pc->L)->A)(e:B=L:=by rfl):@ite Prop c a A B:=by
 subst e;by_cases hc:c
 .rw[Q5 hc];exact h hc rest
 .rw[Q4 hc];exact rest (hw hc)
def SIt(h:Heap):Bool->Addr->Addr->Nat->Prop
 |false,it,l,k=>h.IsListIter it l k
 |true,it,l,k=>h.IsTupleIter it l k
def SSq(h:Heap):Bool->Addr->LD->Prop
 |false,l,xs=>h.IsList l xs
 |true,l,xs=>h.IsTuple l xs
theorem SIt.obj:∀{b:Bool}{it l:Addr}{k:Nat},SIt h b it l k->∃o,h.get? it=some o/\∃vs,o.data=.fields vs
 |false,_,_,_,⟨o,e,_,d⟩=>⟨o,e,_,d⟩
 |true,_,_,_,⟨o,e,_,d⟩=>⟨o,e,_,d⟩
theorem SIt.keep:∀{b:Bool}{it l:Addr}{k:Nat},SIt h b it l k->(∀o,h.get? it=some o->h'.get? it=some o)->SIt h' b it l k
 |false,_,_,_,⟨o,e,r⟩,f=>⟨o,f o e,r⟩
 |true,_,_,_,⟨o,e,r⟩,f=>⟨o,f o e,r⟩
theorem SSq.keep:∀{b:Bool}{l:Addr}{xs:LD},SSq h b l xs->(∀o,h.get? l=some o->h'.get? l=some o)->SSq h' b l xs
 |false,_,_,⟨o,e,r⟩,f=>⟨o,f o e,r⟩
 |true,_,_,⟨o,e,r⟩,f=>⟨o,f o e,r⟩
theorem SSq.obj:∀{b:Bool}{l:Addr}{xs:LD},SSq h b l xs->∃o,h.get? l=some o/\∃n,o.data=.seq xs n
 |false,_,_,⟨o,e,_,n,d⟩=>⟨o,e,n,d⟩
 |true,_,_,⟨o,e,_,n,d⟩=>⟨o,e,n,d⟩
theorem DU{t:Addr}{k:Nat}{x:Value}(a:s.heap.IsTupleIter it t k)(ht:s.heap.IsTuple t xs)(f:xs[k]?=some x)
 (q:∀g,g.IsTupleIter it t (k+1)->Heap.SameBut it s.heap g->Q x { s with heap:=g }):wpAny (model prog w) A (Builtin.SmallTypes.nextOf (.ref it)) Q E s:=by
 obtain⟨o,e,c,d⟩:=id a;obtain⟨_,b,_,_,dt⟩:=ht;unfold Builtin.SmallTypes.nextOf;refine q9 (wpAny_callSpecial?_slot (name:=Str.ofString "__next__") a.typeIs PySem.F.slot_tuple_iterator_next (Qm PySem.F.slot_tuple_iterator_next a.typeIs PySem.F.entry_tuple_iterator_next ?_ (PySem.F.args_tuple_iterator_next_1 _)));show wpAny _ _ (field (.ref it) 0 >>= _) _ _ _;refine q9 (wpAny_field e d (x:=.ref t) U ?_);show wpAny _ _ (if(Value.ref t == Value.none)=true then _ else _) _ _ _;rw[Q4 (show ¬ (Value.ref t == Value.none)=true from qk)];show wpAny _ _ (field (.ref it) 1 >>= _) _ _ _;refine q9 (wpAny_field e d (x:=.int k 0) U ?_);show wpAny _ _ (seqItems? (.ref t) >>= _) _ _ _;refine q9 (Qz b dt ?_);simp only[Q0,f];refine q9 (wpAny_setField e d (by simp) (qe ⟨x,U,qe (q _ ?_ (Heap.SameBut.update ..))⟩));exact⟨_,Qk _ e (Obj.isFreed_of_fields (Obj.data_mapFields d _)),(Obj.cls_mapFields ..).trans c,by rw[Obj.data_mapFields d];simp[rawInt]⟩
theorem DV{t:Addr}{k:Nat}(f:A.handled=none)(b:s.heap.IsTupleIter it t k)(ht:s.heap.IsTuple t xs)(i:xs[k]?=none)
 (q:∀g x,Heap.ExtBut it s.heap g->(∃o,g.get? x=some o/\o.cls=.type "StopIteration")->E (.ref x) { s with heap:=g }):wpAny (model prog w) A (Builtin.SmallTypes.nextOf (.ref it)) Q E s:=by
 obtain⟨o,e,c,d⟩:=id b;obtain⟨_,h,_,_,dt⟩:=ht;unfold Builtin.SmallTypes.nextOf;refine q9 (wpAny_callSpecial?_slot (name:=Str.ofString "__next__") b.typeIs PySem.F.slot_tuple_iterator_next (Qm PySem.F.slot_tuple_iterator_next b.typeIs PySem.F.entry_tuple_iterator_next ?_ (PySem.F.args_tuple_iterator_next_1 _)));show wpAny _ _ (field (.ref it) 0 >>= _) _ _ _;refine q9 (wpAny_field e d (x:=.ref t) U ?_);show wpAny _ _ (if(Value.ref t == Value.none)=true then _ else _) _ _ _;rw[Q4 (show ¬ (Value.ref t == Value.none)=true from qk)];show wpAny _ _ (field (.ref it) 1 >>= _) _ _ _;refine q9 (wpAny_field e d (x:=.int k 0) U ?_);show wpAny _ _ (seqItems? (.ref t) >>= _) _ _ _;refine q9 (Qz h dt ?_);simp only[Q0,i];refine q9 (wpAny_rule (q9 (wpAny_setField e d (by simp) ?_)));show wpAny _ _ (newExc (.type "StopIteration") [] >>= _) _ _ _;refine q9 ?_;simp only[newExc,newTuple];refine q9 (wpAny_newObj_type ?_ (by size_fits));refine q9 (m:=firstArgMember _ _) (wpAny_of_eq (a:=Value.none) (by first|rfl|(simp only[firstArgMember];rfl)) (wpAny_newObj_type ?_ (by size_fits)));simp only[raiseNew];refine q9 (wpAny_handled ?_);first|rw[show A.in1.handled=none from f]|rw[f]
 refine q9 (qe (wpAny_throw (q _ _ (((Heap.SameBut.update ..).extBut.push _).push _) ⟨_,qr _ U,U⟩)))
theorem rk{l:Addr}{k:Nat}{x:Value}:∀{b:Bool},SIt s.heap b it l k->SSq s.heap b l xs->xs[k]?=some x->
 (∀g,SIt g b it l (k+1)->Heap.SameBut it s.heap g->Q x { s with heap:=g })->wpAny (model prog w) A (Builtin.SmallTypes.nextOf (.ref it)) Q E s
 |false,a,c,d,q=>wpAny_nextOf_list_item a c d q
 |true,a,c,d,q=>DU a c d q
theorem wK{l:Addr}{k:Nat}(e:A.handled=none):∀{b:Bool},SIt s.heap b it l k->SSq s.heap b l xs->xs[k]?=none->
 (∀g x,Heap.ExtBut it s.heap g->(∃o,g.get? x=some o/\o.cls=.type "StopIteration")->E (.ref x) { s with heap:=g })->wpAny (model prog w) A (Builtin.SmallTypes.nextOf (.ref it)) Q E s
 |false,a,c,d,q=>wpAny_nextOf_list_end e a c d q
 |true,a,c,d,q=>DV e a c d q
structure ZAp(z TI TO i1 i2 l1 l2:Addr):Prop where
 a:TI≠z/\TO≠z/\i1≠z/\i2≠z/\TI≠TO/\TI≠i1/\TI≠i2/\TO≠i1/\TO≠i2/\i1≠i2
 l:∀c,c=l1\/c=l2->c≠z/\c≠TO/\c≠i1/\c≠i2/\c≠TI
theorem ze{z TI TO h f l1 l2:Addr}{J K:Nat}{ys:LD}{x y a b:Value}(D:ZAp z TI TO h f l1 l2)
 (r:IsZip s.heap z TI TO .none) (hI:IsPair s.heap TI (.ref h) (.ref f)) (hO:IsPair s.heap TO a b) (t1:SIt s.heap b1 h l1 J) (t2:SIt s.heap b2 f l2 K) (q1:SSq s.heap b1 l1 xs) (q2:SSq s.heap b2 l2 ys) (ex:xs[J]?=some x) (ey:ys[K]?=some y)
 (q:∀g,IsZip g z TI TO (rawInt s.heap.objs.size)->IsPair g TO x y->SIt g b1 h l1 (J+1)->SIt g b2 f l2 (K+1)->IsPair g s.heap.objs.size x y->(∀c o,c≠z->c≠TO->c≠h->c≠f->s.heap.get? c=some o->g.get? c=some o)->Q (.ref s.heap.objs.size) { s with heap:=g }):
 wpAny (model prog w) A (Builtin.«zip.__next__» ⟨[.ref z],[]⟩) (λfin s'=>∃v,fin=.done (.ret v)/\Q v s') E s:=by
 obtain⟨⟨_,k,u,n,_,_,_,t,B,N⟩,O⟩:=D;obtain⟨a3,_,_,_,_⟩:=O l1 (.inl U);obtain⟨a1,a0,a2,_,_⟩:=O l2 (.inr U);show wpAny _ _ (field (.ref z) 2 >>= _) _ _ _;refine q9 (wpAny_field r U (x:=.bool false) U ?_);show wpAny _ _ (field (.ref z) 3 >>= _) _ _ _;refine q9 (wpAny_field r U (x:=.ref TI) U (q9 (Qz hI U ?_)));show wpAny _ _ (Builtin.SmallTypes.ownedTupleIsFree (.ref z) >>= _) _ _ _;refine q9 ?_;unfold Builtin.SmallTypes.ownedTupleIsFree;refine q9 (wpAny_field r U (x:=.none) U (qe ?_));simp only[if_true];refine q9 (wpAny_rule (q9 (wpAny_field r U (x:=.ref TO) U (q9 (wpAny_setField_rec r (by simp) λg1 P i=>?_)))));replace P:IsZip g1 z TI TO .ellipsis:=P;refine q9 ?_;simp only[List.zipIdx_cons,List.zipIdx_nil,List.forIn_cons,List.forIn_nil];refine q9 (q9 (wpAny_onRaise ?_));show wpAny _ _ (Builtin.SmallTypes.nextOf (.ref h) >>= _) _ _ _;refine q9 (rk (b:=b1) (t1.keep λo e=>i.extBut _ _ u e) (q1.keep λo e=>i.extBut _ _ a3 e) ex λg2 u1 l=>qe ?_);have Z:IsPair g2 TO a b:=l.extBut _ _ t (i.extBut _ _ k hO);refine q9 (Qz Z U (q9 (wpAny_updateSeq_pair Z λg3 V m=>q9 (wpAny_letGo (qe ?_)))));replace V:IsPair g3 TO x b:=V;refine q9 (q9 (wpAny_onRaise ?_));show wpAny _ _ (Builtin.SmallTypes.nextOf (.ref f) >>= _) _ _ _;refine q9 (rk (b:=b2) (t2.keep λo e=>m.extBut _ _ B.symm (l.extBut _ _ N.symm (i.extBut _ _ n e))) (q2.keep λo e=>m.extBut _ _ a0 (l.extBut _ _ a2 (i.extBut _ _ a1 e))) ey λg4 u2 p=>qe ?_);have W:IsPair g4 TO x b:=p.extBut _ _ B V;refine q9 (Qz W U (q9 (wpAny_updateSeq_pair W λd L C=>q9 (wpAny_letGo (qe (qe ?_))))));replace L:IsPair d TO x y:=L;refine q9 (Qz L U (q9 (wpAny_newTuple ?_)));have sz:d.objs.size=s.heap.objs.size:=by rw[C.1,p.1,m.1,l.1,i.1]
 have z5:IsZip d z TI TO .ellipsis:=C.extBut _ _ k.symm (p.extBut _ _ n.symm (m.extBut _ _ k.symm (l.extBut _ _ u.symm P)));have k5:∀c o,c≠z->c≠TO->c≠h->c≠f->s.heap.get? c=some o->d.get? c=some o:=λc o j I S R e=>C.extBut _ _ I (p.extBut _ _ R (m.extBut _ _ I (l.extBut _ _ S (i.extBut _ _ j e))));have v1:SIt d b1 h l1 (J+1):=u1.keep λo e=>C.extBut _ _ t.symm (p.extBut _ _ N (m.extBut _ _ t.symm e));have v2:SIt d b2 f l2 (K+1):=u2.keep λo e=>C.extBut _ _ B.symm e;have M:z<d.objs.size:=qt z5;show wpAny _ _ (Builtin.SmallTypes.ownedTupleHandOut (.ref z) (.ref d.objs.size) >>= _) _ _ _;refine q9 ?_;unfold Builtin.SmallTypes.ownedTupleHandOut;have z6:IsZip (d.push { cls:=.type "tuple",data:=.seq #[x,y] }) z TI TO .ellipsis:=qb _ z5;refine q9 (wpAny_setField_rec z6 (by simp) λg7 T X=>?_);replace T:IsZip g7 z TI TO (rawInt d.objs.size):=T;refine wpAny_setField_rec T (by simp) λG H X0=>?_;replace H:IsZip G z TI TO (rawInt d.objs.size):=H;have F:∀c o,c≠z->d.get? c=some o->G.get? c=some o:=λc o j e=>X0.extBut _ _ j (X.extBut _ _ j (qb _ e));have t8:IsPair G d.objs.size x y:=X0.extBut _ _ (Nat.ne_of_gt M) (X.extBut _ _ (Nat.ne_of_gt M) (qr _ U));rw[sz]at H t8;refine qe ⟨_,U,?_⟩;show Q (.ref d.objs.size) _;rw[sz];exact q G H (F _ _ k L) (v1.keep λo e=>F _ o u e) (v2.keep λo e=>F _ o n e) t8 λc o j I S R e=>F c o j (k5 c o j I S R e)
theorem zg{z TI TO r n l1 l2:Addr}{K L:Nat}{ys:LD}{a b:Value}{Q:Fin->Shared->Prop}(P:A.handled=none)(D:ZAp z TI TO r n l1 l2)
 (l:IsZip s.heap z TI TO .none) (hI:IsPair s.heap TI (.ref r) (.ref n)) (hO:IsPair s.heap TO a b) (t1:SIt s.heap b1 r l1 K) (t2:SIt s.heap b2 n l2 L) (R:SSq s.heap b1 l1 xs) (q2:SSq s.heap b2 l2 ys) (J:xs[K]?=none\/ys[L]?=none)
 (q:∀g e,(∀c o,c≠z->c≠TO->c≠r->c≠n->s.heap.get? c=some o->g.get? c=some o)->(∃o,g.get? e=some o/\o.cls=.type "StopIteration")->E (.ref e) { s with heap:=g }):
 wpAny (model prog w) A (Builtin.«zip.__next__» ⟨[.ref z],[]⟩) Q E s:=by
 obtain⟨⟨_,y,k,u,_,_,_,O,S,a0⟩,C⟩:=D;obtain⟨B,_,_,_,_⟩:=C l1 (.inl U);obtain⟨W,V,X,_,_⟩:=C l2 (.inr U);show wpAny _ _ (field (.ref z) 2 >>= _) _ _ _;refine q9 (wpAny_field l U (x:=.bool false) U ?_);show wpAny _ _ (field (.ref z) 3 >>= _) _ _ _;refine q9 (wpAny_field l U (x:=.ref TI) U (q9 (Qz hI U ?_)));show wpAny _ _ (Builtin.SmallTypes.ownedTupleIsFree (.ref z) >>= _) _ _ _;refine q9 ?_;unfold Builtin.SmallTypes.ownedTupleIsFree;refine q9 (wpAny_field l U (x:=.none) U (qe ?_));simp only[if_true];refine q9 (wpAny_rule (q9 (wpAny_field l U (x:=.ref TO) U (q9 (wpAny_setField_rec l (by simp) λg1 t d=>?_)))));replace t:IsZip g1 z TI TO .ellipsis:=t;refine q9 ?_;simp only[List.zipIdx_cons,List.zipIdx_nil,List.forIn_cons,List.forIn_nil];refine q9 (q9 (wpAny_onRaise ?_));show wpAny _ _ (Builtin.SmallTypes.nextOf (.ref r) >>= _) _ _ _
 cases ex:xs[K]? with
 |none=>
  refine q9 (wK (b:=b1) P (t1.keep λo e=>d.extBut _ _ k e) (R.keep λo e=>d.extBut _ _ B e) ex λF v f G=>?_);obtain⟨ov,j,m⟩:=G;have Z:IsZip F z TI TO .ellipsis:=f _ _ k.symm t;have H:v≠z:=λh=>by subst h;rw[Z]at j;cases j;simp at m
  exact wpAny_setField_rec Z (by simp) λN _ i=>q N v (λc o p _ I _ e=>i.extBut _ _ p (f _ _ I (d.extBut _ _ p e))) ⟨ov,i.extBut _ _ H j,m⟩
 |some x=>
  have ey:ys[L]?=none:=by rcases J with h|h;rw[ex]at h;cases h;exact h
  refine q9 (rk (b:=b1) (t1.keep λo e=>d.extBut _ _ k e) (R.keep λo e=>d.extBut _ _ B e) ex λF _ f=>qe ?_);have T:IsPair F TO a b:=f.extBut _ _ O (d.extBut _ _ y hO);refine q9 (Qz T U (q9 (wpAny_updateSeq_pair T λN _ i=>q9 (wpAny_letGo (qe ?_)))));refine q9 (q9 (wpAny_onRaise ?_));show wpAny _ _ (Builtin.SmallTypes.nextOf (.ref n) >>= _) _ _ _;refine q9 (wK (b:=b2) P (t2.keep λo e=>i.extBut _ _ S.symm (f.extBut _ _ a0.symm (d.extBut _ _ u e))) (q2.keep λo e=>i.extBut _ _ V (f.extBut _ _ X (d.extBut _ _ W e))) ey λg4 v M G=>?_);obtain⟨ov,j,m⟩:=G;have z4:IsZip g4 z TI TO .ellipsis:=M _ _ u.symm (i.extBut _ _ y.symm (f.extBut _ _ k.symm t));have H:v≠z:=λh=>by subst h;rw[z4]at j;cases j;simp at m
  exact wpAny_setField_rec z4 (by simp) λg5 _ X0=>q g5 v (λc o p h2 I h4 e=>X0.extBut _ _ p (M _ _ h4 (i.extBut _ _ h2 (f.extBut _ _ I (d.extBut _ _ p e))))) ⟨ov,X0.extBut _ _ H j,m⟩
theorem Inv.turnedL(I:Inv X pins Y H s)(k:∀b o,b∉ch->s.heap.get? b=some o->h'.get? b=some o)(d:∀b∈ch,dq X pins H b):Inv X pins Y H { s with heap:=h',toks:=t' }:=by
 have f:∀b u,H b=some u->b∉ch:=λb u e z=>by rw[(d b z).1]at e;cases e
 have g:X.env.locals∉ch:=λz=>(d _ z).2.1 U
 refine I.step (g':=s.gens) (d':=s.drawn) (ch:=ch) (λb hb=>⟨(d b hb).2.2.2.1,(d b hb).2.1,(d b hb).2.2.2.2.1,(d b hb).2.2.2.2.2⟩) (λb o _ _ a e _=>k b o a e) (λb o _ _ a e _=>⟨o.slots,k b o a e⟩) (λ_ _ _ _ n=>n)
  (λb o a e=>⟨o,k b o a e⟩) (λ_ _ e=>e) (λ_ _ _ e=>e) (λb ps e=>⟨#[],by rw[e];simp⟩) (λm h=>?_) (λb u e=>?_) I.bare
 .obtain⟨o,es,i,j,r⟩:=h;exact⟨o,es,i,k _ o g j,r⟩
 .refine(I.hok b u e).stay (λc v a q=>k c v ?_ q) (λ_ q=>q) λ_ _ q=>q;rcases a with z|z
  .rw[z];exact f b u e
  .exact f c _ z
theorem Inv.track{T:Addr}{o:HO}(I:Inv X pins Y H s)(f:dq X pins H T)(j:X.s₀.heap.objs.size<=T)(new:bJ X.prog X.w (upd H T o) s.heap T o):Inv X pins Y (upd H T o) s:=by
 obtain⟨a,l,_,_,i,m⟩:=f;have old:∀b u,X.s₀.heap.get? b=some u->b≠T:=λb u e=>qJ (qG (qt e) j);refine⟨I.ok,I.os,I.bare,⟨I.base.keep,I.base.slot,λb u e n k=>?_,I.base.there,λb xs e=>?_,λb u v e=>?_,λb ps e=>?_⟩,I.loc,I.cell,?_,λx c e=>?_,λp g=>?_,λb u e=>?_,I.len⟩
 .rw[ag (old b u e)];exact I.base.free b u e n k
 .rw[ag (cy (I.base.tups b xs e) a)];exact I.base.tups b xs e
 .rw[ag (cy (I.base.frzs b u v e) a)];exact I.base.frzs b u v e
 .obtain⟨more,q⟩:=I.base.tbls b ps e;exact⟨more,by rwa[ag (cy q a)]⟩
 .rw[ag (Ne.symm l)];exact I.free
 .rw[ag (i x c e)];exact I.freeC x c e
 .obtain⟨e,n,ne,h,d⟩:=I.pin p g;exact⟨e,by rwa[ag (m p g)],ne,h,d⟩
 .by_cases hb:b=T
  .subst hb;rw[ah]at e;cases e;exact new
  .rw[ag hb]at e;exact(I.hok b u e).stay (λc v _ q=>q) (λc q=>by rwa[ag (cy q a)]) λc xs q=>by rwa[ag (cy q a)]
def SqB(K:W.Frag)(H:Hp):Bool->Addr->LV->Prop
 |false,a,xs=>SqL K H a xs
 |true,a,xs=>SqT K H a xs
theorem SqB.at(I:Inv X pins Y H s):∀{b:Bool}{a:Addr}{xs:LV},SqB X.K H b a xs->∃its:LL,ax xs its/\SSq s.heap b a its.toArray/\xs.length<=sizeLine
 |false,_,_,h=>let ⟨its,r,p,z⟩:=I.list h;⟨its,r,p.isList,z⟩
 |true,_,_,h=>let ⟨its,r,p,z⟩:=I.tuple h;⟨its,r,p,z⟩
theorem SqB.inj(I:Inv X pins Y H s):∀{b:Bool}{a:Addr}{xs ys:LV},SqB X.K H b a xs->SqB X.K H b a ys->xs=ys
 |false,_,_,_,h,h'=>I.list_inj h h'
 |true,_,_,_,h,h'=>I.tuple_inj h h'
noncomputable def Itz(K:W.Frag)(b1 b2:Bool)(l1 l2:Addr):It:=
 ⟨λi H=>∃xs ys x y,SqB K H b1 l1 xs/\SqB K H b2 l2 ys/\xs[i]?=some x/\ys[i]?=some y,
  λi H v H'=>∃p x y,H p=none/\v=.ref p/\H'=upd H p (.tup [x,y])/\(∀xs,SqB K H b1 l1 xs->xs[i]?=some x)/\∀ys,SqB K H b2 l2 ys->ys[i]?=some y,
  λi H=>∃xs ys,SqB K H b1 l1 xs/\SqB K H b2 l2 ys/\(xs.length<=i\/ys.length<=i)⟩
theorem z9{z TI TO e d l1 l2:Addr}{f h:Nat}{ys:LD}{x y a b:Value}{Q:LO->Shared->Prop}(D:ZAp z TI TO e d l1 l2)
 (i:IsZip s.heap z TI TO .none) (t:IsPair s.heap TI (.ref e) (.ref d)) (n:IsPair s.heap TO a b) (G:SIt s.heap b1 e l1 f) (j:SIt s.heap b2 d l2 h) (p:SSq s.heap b1 l1 xs) (k:SSq s.heap b2 l2 ys) (ex:xs[f]?=some x) (C:ys[h]?=some y)
 (q:∀g,IsZip g z TI TO (rawInt s.heap.objs.size)->IsPair g TO x y->SIt g b1 e l1 (f+1)->SIt g b2 d l2 (h+1)->IsPair g s.heap.objs.size x y->(∀c o,c≠z->c≠TO->c≠e->c≠d->s.heap.get? c=some o->g.get? c=some o)->Q (some (.ref s.heap.objs.size)) { s with heap:=g }):
 wpAny (model prog w) A (pyNext (.ref z)) Q E s:=by
 have ty:s.TypeIs (.ref z) "zip":=⟨_,i,U⟩;unfold pyNext;exact q9 (wpAny_attempt (wpAny_callSpecial?_slot (name:=Str.ofString "__next__") ty PySem.F.slot_zip_next (Qm PySem.F.slot_zip_next ty PySem.F.entry_zip_next (ze D i t n G j p k ex C λg m B r u v l=>qe (q g m B r u v l)) (PySem.F.args_zip_next_1 _))))
theorem zc{z TI TO f d l1 l2:Addr}{i k:Nat}{ys:LD}{a b:Value}{Q:LO->Shared->Prop}(n:A.handled=none)(D:ZAp z TI TO f d l1 l2)
 (j:IsZip s.heap z TI TO .none) (x:IsPair s.heap TI (.ref f) (.ref d)) (t:IsPair s.heap TO a b) (y:SIt s.heap b1 f l1 i) (l:SIt s.heap b2 d l2 k) (v:SSq s.heap b1 l1 xs) (m:SSq s.heap b2 l2 ys) (h:xs[i]?=none\/ys[k]?=none)
 (q:∀g,(∀c o,c≠z->c≠TO->c≠f->c≠d->s.heap.get? c=some o->g.get? c=some o)->Q none { s with heap:=g }):wpAny (model prog w) A (pyNext (.ref z)) Q E s:=by
 have ty:s.TypeIs (.ref z) "zip":=⟨_,j,U⟩;unfold pyNext;refine q9 (wpAny_attempt (wpAny_callSpecial?_slot (name:=Str.ofString "__next__") ty PySem.F.slot_zip_next (Qm PySem.F.slot_zip_next ty PySem.F.entry_zip_next (zg n D j x t y l v m h λg e hk p=>?_) (PySem.F.args_zip_next_1 _))));obtain⟨o,u,r⟩:=p;exact q9 (wpAny_isInstance (T:="StopIteration") (b:=true) ⟨o,u,r⟩ isSubtype_stop (qe (q _ hk)))
theorem zK{tp:Pos}(z TI TO r p l1 l2:Addr)(D:ZAp z TI TO r p l1 l2):
 iz P w K (.Tuple elts kk tp) (Itz K b1 b2 l1 l2) [z,TI,TO,r,p] z (λi h=>IsZip h z TI TO .none/\IsPair h TI (.ref r) (.ref p)/\(∃a b,IsPair h TO a b)/\SIt h b1 r l1 i/\SIt h b2 p l2 i) where
 mem:=by simp
 obj:=λi h st b hb=>by
  obtain⟨m,f,⟨a,c,n⟩,t,l⟩:=st;simp only[qw,qT,or_false]at hb;rcases hb with rfl|rfl|rfl|rfl|rfl
  .exact⟨_,m,λv q=>by cases q⟩
  .exact⟨_,f,λv q=>by cases q⟩
  .exact⟨_,n,λv q=>by cases q⟩
  .obtain⟨o,e,vs,d⟩:=t.obj;exact⟨o,e,λv q=>by rw[d]at q;cases q⟩
  .obtain⟨o,e,vs,d⟩:=l.obj;exact⟨o,e,λv q=>by rw[d]at q;cases q⟩
 keep:=λi h h' st k=>by
  obtain⟨m,f,⟨a,c,n⟩,t,l⟩:=st;exact⟨k z (by simp) _ m,k TI (by simp) _ f,⟨a,c,k TO (by simp) _ n⟩,t.keep λo e=>k r (by simp) o e,l.keep λo e=>k p (by simp) o e⟩
 item:=by
  intro X O hw R X0 i j s Y H E I G st S;subst O hw R;obtain⟨m,f,⟨a,c,n⟩,t,l⟩:=st;obtain⟨xs,ys,x,y,F,C,ex,ey⟩:=S;obtain⟨a9,Q,M,z1⟩:=SqB.at I F;obtain⟨b0,B,L,z2⟩:=SqB.at I C;obtain⟨u,hu,ru⟩:=Q.get ex;obtain⟨v,hv,a8⟩:=B.get ey;refine z9 D m f n t l M L (x:=u) (y:=v) (by simpa using hu) (by simpa using hv) λg a1 a2 a3 a4 a5 T=>⟨_,U,?_⟩;refine wpAny_letOwnedTupleGo_zip a1 λg' a' A=>?_;obtain⟨⟨J,b3,a0,V,b4,a7,Z,_,_,_⟩,_⟩:=id D
  have hT:∀b∈[z,TI,TO,r,p],s.heap.objs.size≠b:=λb hb=>by
   have:∃o,s.heap.get? b=some o:=by
    simp only[qw,qT,or_false]at hb;rcases hb with rfl|rfl|rfl|rfl|rfl
    .exact⟨_,m⟩
    .exact⟨_,f⟩
    .exact⟨_,n⟩
    .obtain⟨o,e,_⟩:=t.obj;exact⟨o,e⟩
    .obtain⟨o,e,_⟩:=l.obj;exact⟨o,e⟩
   obtain⟨o,e⟩:=this;exact Nat.ne_of_gt (qt e)
  have kk:∀b o,b∉[z,TI,TO,r,p]->s.heap.get? b=some o->g'.get? b=some o:=λb o hb e=>by
   simp only[qw,qT,or_false,not_or]at hb;exact A.extBut _ _ hb.1 (T b o hb.1 hb.2.2.1 hb.2.2.2.1 hb.2.2.2.2 e)
  have I1:Inv X j Y H { s with heap:=g' }:=I.turnedL (t':=s.toks) kk G;have W:IsPair g' s.heap.objs.size u v:=A.extBut _ _ (hT z (by simp)) a5;have fT:dq X j H s.heap.objs.size:=I.fpOk (qf _) (I.hok.fresh (qf _));have I2:Inv X j Y (upd H s.heap.objs.size (.tup [x,y])) { s with heap:=g' }:=I1.track fT I.sz ⟨⟨by show 2<=sizeLine;decide,_,W,U⟩,[u,v],.cons ru (.cons a8 .nil),⟨_,W,U,_,U⟩⟩;refine⟨.ref s.heap.objs.size,_,I2,U,⟨_,x,y,I.hok.fresh (qf _),U,U,λ_ h=>by rwa[SqB.inj I h F],λ_ h=>by rwa[SqB.inj I h C]⟩,?_,λb hb=>?_⟩
  .exact⟨a',A.extBut _ _ J (T TI _ J b4 a7 Z f),⟨u,v,A.extBut _ _ b3 a2⟩,a3.keep λo e=>A.extBut _ _ a0 e,a4.keep λo e=>A.extBut _ _ V e⟩
  .rw[ag (Ne.symm (hT b hb))];exact(G b hb).1
 done:=by
  intro X O hw R X0 i j s Y H E I G st S;subst O hw R;obtain⟨m,f,⟨a,c,n⟩,t,l⟩:=st;obtain⟨xs,ys,F,C,N⟩:=S;obtain⟨a9,Q,M,z1⟩:=SqB.at I F;obtain⟨b0,B,L,z2⟩:=SqB.at I C;have e1:=Q.length;have e2:=B.length
  refine zc (I.ok.hd X0) D m f n t l M L (by
   rcases N with h|h
   .exact .inl (by simp;omega)
   .exact .inr (by simp;omega)) λg k=>⟨U,I.turnedL (t':=s.toks) (ch:=[z,TI,TO,r,p]) (λb o hb e=>?_) G⟩
  simp only[qw,qT,or_false,not_or]at hb;exact k b o hb.1 hb.2.2.1 hb.2.2.2.1 hb.2.2.2.2 e
 self:=λ_ _ _ _ _ st h=>wpAny_pyIter_zip st.1 h
noncomputable def gm(b:Bool)(l:Addr):Obj:={ cls:=.type (if b=true then "tuple_iterator" else "list_iterator"),data:=.fields #[.ref l,.int 0 0] }
theorem SIt.new:∀{b:Bool}{it l:Addr},h.get? it=some (gm b l)->SIt h b it l 0
 |false,_,_,e=>⟨_,e,U,U⟩
 |true,_,_,e=>⟨_,e,U,U⟩
noncomputable def zg2(h:Heap)(b1 b2:Bool)(l1 l2:Addr):Heap:=(h.push (gm b1 l1)).push (gm b2 l2)
noncomputable def zg3(h:Heap)(b1 b2:Bool)(l1 l2:Addr):Heap:=(zg2 h b1 b2 l1 l2).push { cls:=.type "tuple",data:=.seq #[.ref h.objs.size,.ref (h.push (gm b1 l1)).objs.size] }
noncomputable def zg4(h:Heap)(b1 b2:Bool)(l1 l2:Addr):Heap:=(zg3 h b1 b2 l1 l2).push { cls:=.type "tuple",data:=.seq #[.none,.none] }
noncomputable def zg5(h:Heap)(b1 b2:Bool)(l1 l2:Addr):Heap:=(zg4 h b1 b2 l1 l2).push { cls:=.type "zip",data:=.fields #[.none,.bool false,.bool false,.ref (zg2 h b1 b2 l1 l2).objs.size,.ref (zg3 h b1 b2 l1 l2).objs.size] }
theorem xG{l:Addr}:∀{b:Bool},SSq s.heap b l xs->Q (.ref s.heap.objs.size) { s with heap:=s.heap.push (gm b l) }->wpAny (model prog w) A (pyIter (.ref l)) Q E s
 |false,h,q=>wpAny_pyIter_list h q
 |true,h,q=>wpAny_pyIter_tuple h q
theorem SSq.push{h:Heap}{b:Bool}{l:Addr}{xs:LD}(x:SSq h b l xs)(o:Obj):SSq (h.push o) b l xs:=x.keep λ_ e=>qb _ e
set_option maxHeartbeats 8000000 in
theorem yZ(b1 b2:Bool)(l1 l2:Addr)(xs ys:LD):
 Meets (Builtin.«zip.__new__» ⟨[.type "zip",.ref l1,.ref l2],[]⟩) (λ_ R s=>SSq s.heap b1 l1 xs/\SSq s.heap b2 l2 ys/\R (.ok (.ret (.ref (zg4 s.heap b1 b2 l1 l2).objs.size))) { s with heap:=zg5 s.heap b1 b2 l1 l2 }):=
 .of_wp λprog w A R s h=>by
  obtain⟨a,g,d,tk,os⟩:=s;obtain⟨i,f,h⟩:=h;have b:=PySem.sub_zip;have c:SSq (Shared.heap ⟨a,g,d,tk,os⟩) b1 l1 xs:=i;have e:SSq (Shared.heap ⟨a.push (gm b1 l1),g,d,tk,os⟩) b2 l2 ys:=SSq.push f _
  wp_walk using xG c,xG e
  exact⟨_,U,h⟩
theorem Gn{l1 l2:Addr}{ys:LD}(v:SSq s.heap b1 l1 xs)(u:SSq s.heap b2 l2 ys)
 (h:∀g n,n=s.heap.objs.size->IsZip g (n+4) (n+2) (n+3) .none->IsPair g (n+2) (.ref n) (.ref (n+1))->IsPair g (n+3) .none .none->SIt g b1 n l1 0->SIt g b2 (n+1) l2 0->
  (∀c o,s.heap.get? c=some o->g.get? c=some o)->Q (.ref (n+4)) { s with heap:=g }):wpAny (model prog w) A (call (.type "zip") [.ref l1,.ref l2]) Q E s:=by
 refine callType_new PySem.F.called_zip Yk (PySem.F.typeCall_zip_2 _ _) (PySem.F.newCall_zip_2 _ _) (λobj=>PySem.F.args_object_init_3 obj _ _) PySem.F.entry_zip_new (yZ b1 b2 l1 l2 xs ys) ⟨v,u,?_⟩;have f:(s.heap.push (gm b1 l1)).objs.size=s.heap.objs.size+1:=Qj ..;have i:(zg2 s.heap b1 b2 l1 l2).objs.size=s.heap.objs.size+2:=by unfold zg2;rw[Qj,f]
 have d:(zg3 s.heap b1 b2 l1 l2).objs.size=s.heap.objs.size+3:=by unfold zg3;rw[Qj,i]
 have k:(zg4 s.heap b1 b2 l1 l2).objs.size=s.heap.objs.size+4:=by unfold zg4;rw[Qj,d]
 have p:∀{c:Addr}{o:Obj},(zg4 s.heap b1 b2 l1 l2).get? c=some o->(zg5 s.heap b1 b2 l1 l2).get? c=some o:=λq=>qb _ q;have a:∀{c:Addr}{o:Obj},(zg3 s.heap b1 b2 l1 l2).get? c=some o->(zg4 s.heap b1 b2 l1 l2).get? c=some o:=λq=>qb _ q;have b:∀{c:Addr}{o:Obj},(zg2 s.heap b1 b2 l1 l2).get? c=some o->(zg3 s.heap b1 b2 l1 l2).get? c=some o:=λq=>qb _ q;have l:∀{c:Addr}{o:Obj},(s.heap.push (gm b1 l1)).get? c=some o->(zg2 s.heap b1 b2 l1 l2).get? c=some o:=λq=>qb _ q;have e:(zg5 s.heap b1 b2 l1 l2).get? (zg4 s.heap b1 b2 l1 l2).objs.size=some _:=qr _ U;have m:(zg5 s.heap b1 b2 l1 l2).get? (zg3 s.heap b1 b2 l1 l2).objs.size=some _:=p (qr _ U);have r:(zg5 s.heap b1 b2 l1 l2).get? (zg2 s.heap b1 b2 l1 l2).objs.size=some _:=p (a (qr _ U));have j:(zg5 s.heap b1 b2 l1 l2).get? (s.heap.push (gm b1 l1)).objs.size=some _:=p (a (b (qr _ U)));have t:(zg5 s.heap b1 b2 l1 l2).get? s.heap.objs.size=some _:=p (a (b (l (qr _ U))));show _/\_;rw[i,d,k]at e;rw[f,i]at r;rw[d]at m;rw[f]at j;rw[k];exact⟨⟨_,e,U⟩,h _ _ U e r m (SIt.new t) (SIt.new j) λc o x=>p (a (b (l (qb _ x))))⟩
def Fa(K:W.Frag)(ta:TA):TI:=λY H R=>ta Y H λvs H1=>∃b1 b2 l1 l2 xs ys,vs=[.ref l1,.ref l2]/\SqB K H1 b1 l1 xs/\SqB K H1 b2 l2 ys/\R (Itz K b1 b2 l1 l2) H1
theorem Cz{a b:Expr}{v:TA}{p F:Pos}(O:Gl X "zip")(G:X.mg "zip"=none)(ha:PA X [a,b] v)(J:starEach [a,b] X.env=[(false,eval a X.env),(false,eval b X.env)]:=by rfl)(l:starEach [b] X.env=[(false,eval b X.env)]:=by rfl):
 PI X (.Tuple elts kk F) (.Call (.Name "zip" p) [a,b] [] pos) (Fa X.K v):=by
 intro f s Y H R I h;refine Call_ (gR I O G PyProof.Rows.Boot.«zip» (PyProof.Rows.callWith_type1 (thn (ha pos f s Y H _ I h) λus B ⟨vs,y,d,P,C⟩=>?_) (by rw[J,l]) (by rw[l];rfl)));obtain⟨b1,b2,l1,l2,xs,ys,rfl,D,A,q⟩:=C;obtain⟨u,_,rfl,ru,x⟩:=jg P;cases ru;cases x;obtain⟨_,_,m,_⟩:=SqB.at d D;obtain⟨_,_,r,_⟩:=SqB.at d A;refine Gn m r λg n hn w N E L M k=>?_
 have lt:∀c,c=l1\/c=l2->c<n:=λc t=>by
  rw[hn];rcases t with rfl|rfl
  .obtain⟨o,e,_⟩:=m.obj;exact qt e
  .obtain⟨o,e,_⟩:=r.obj;exact qt e
 refine wpAny_pyIter_zip w ⟨n+4,[n+4,n+2,n+3,n,n+1],_,_,y,U,d.kept (t':=B.toks) k,zK (n+4) (n+2) (n+3) n (n+1) l1 l2 ⟨?_,λc t=>?_⟩,⟨w,N,⟨_,_,E⟩,L,M⟩,λb hb=>?_,q⟩
 .have e:∀i j:Nat,i≠j->n+i≠n+j:=λi j h z=>h (Nat.add_left_cancel z);exact⟨e 2 4 Yk,e 3 4 Yk,e 0 4 Yk,e 1 4 Yk,e 2 3 Yk,e 2 0 Yk,e 2 1 Yk,e 3 0 Yk,e 3 1 Yk,e 0 1 Yk⟩
 .have q:=lt c t;have e:∀i:Nat,c≠n+i:=λi=>qJ (qG q (Nat.le_add_right _ _));exact⟨e 4,e 3,e 0,e 1,e 2⟩
 .have e:∀i:Nat,dq X f y (n+i):=λi=>d.fpOk (by rw[hn];exact Nat.le_add_right _ _) (d.hok.fresh (by rw[hn];exact Nat.le_add_right _ _));simp only[qw,qT,or_false]at hb;rcases hb with rfl|rfl|rfl|rfl|rfl
  .exact e 4
  .exact e 2
  .exact e 3
  .exact e 0
  .exact e 1
open PySem.Builtin.Str in
@[irreducible] def rStrAny:LV->Hp->VK->Prop:=λxs H Q=>(∃z:Str,xs=[.str z]/\Q (.str z) H)\/∃i:Int,xs=[.int i]/\i.natAbs.log2<1920/\Q (.str (toString i)) H
mutual
inductive Dt(K:W.Frag)(H:Hp):V->PyData->Prop
 |non:Dt K H .non .none
 |bl (b:Bool):Dt K H (.bl b) (.bool b)
 |int (i:Int):Dt K H (.int i) (.int i)
 |str (x:Str):Dt K H (.str x) (.str x)
 |lst {a:Addr}{xs:LV}{ds:List PyData}:SqL K H a xs->dY K H xs ds->Dt K H (.ref a) (.list ds)
 |tup {a:Addr}{xs:LV}{ds:List PyData}:SqT K H a xs->dY K H xs ds->Dt K H (.ref a) (.tuple ds)
inductive dY(K:W.Frag)(H:Hp):LV->List PyData->Prop
 |nil:dY K H [] []
 |cons {v:V}{vs:LV}{d:PyData}{ds:List PyData}:Dt K H v d->dY K H vs ds->dY K H (v::vs) (d::ds)
end
mutual
theorem Dt.reads(I:Inv X pins Y H s):∀{v:V}{d:PyData},Dt X.K H v d->∀{u:Value},aB v u->∃as,Reads s.heap u d as
 |_,_,.non,_,r=>by cases r;exact⟨_,.none⟩
 |_,_,.bl b,_,r=>by cases r;exact⟨_,.bool b⟩
 |_,_,.int i,_,r=>by obtain⟨t,rfl⟩:=r;exact⟨_,.int i t⟩
 |_,_,.str x,_,r=>by obtain⟨t,rfl⟩:=r;exact⟨_,.str x t⟩
 |_,_,.lst hq ha,_,r=>by
  cases r;obtain⟨f,a,⟨o,n,e,c,_,d⟩,_⟩:=I.list hq;obtain⟨as,z⟩:=dY.reads I ha a;exact⟨_,.list e c d (by simpa using z)⟩
 |_,_,.tup hq ha,_,r=>by
  cases r;obtain⟨f,a,⟨o,e,c,n,d⟩,_⟩:=I.tuple hq;obtain⟨as,z⟩:=dY.reads I ha a;exact⟨_,.tuple e c d (by simpa using z)⟩
theorem dY.reads(I:Inv X pins Y H s):∀{vs:LV}{ds:List PyData},dY X.K H vs ds->∀{us:LL},ax vs us->∃as,ReadsAll s.heap us ds as
 |_,_,.nil,_,r=>by cases r;exact⟨_,.nil⟩
 |_,_,.cons h t,_,r=>by
  cases r with
  |cons a b=>
   obtain⟨as,z⟩:=Dt.reads I h a;obtain⟨bs,c⟩:=dY.reads I t b;exact⟨_,.cons z c⟩
end
theorem pV(c:X.A.units+64<cLine):OpR X (compareOp .NotEq) (λx y H Q=>∃d e,Dt X.K H x d/\Dt X.K H y e/\SeqAt.shaped d=true/\SeqAt.shaped e=true/\Q (.bl (!PyData.eqv d e)) H):=by
 intro _ s Y H x y v u Q I g f h;obtain⟨d,e,l,k,j,a,q⟩:=h;obtain⟨as,i⟩:=l.reads I g;obtain⟨bs,b⟩:=k.reads I f;exact ne_dataH i b j a c ⟨.bl _,H,I,U,q⟩
theorem Fs{l1 l2:Addr}{xs ys:LV}{g:TG}(b:Nat->St->Hp->Prop)(h0:b 0 Y H)(hl:∀i Y H,b i Y H->SqB K H b1 l1 xs/\SqB K H b2 l2 ys)
 (k:∀i x y Y H p,xs[i]?=some x->ys[i]?=some y->b i Y H->H p=none->g (.ref p) Y (upd H p (.tup [x,y])) λd H2=>tb { D with nx:=b (i+1),ct:=b (i+1),bk:=D.nx } d H2) (hd:∀Y H,b (min xs.length ys.length) Y H->D.nx Y H):
 ∃W:Nat->Nat->St->Hp->Prop,(∃m,W 0 m Y H)/\∀i m Y H,W i m Y H->
  ((Itz K b1 b2 l1 l2).stop i H/\D.nx Y H)\/((Itz K b1 b2 l1 l2).go i H/\∃N:St->Hp->Prop,(∀c H',N c H'->∃m',m'<m/\W (i+1) m' c H')/\∀x H',(Itz K b1 b2 l1 l2).yld i H x H'->g x Y H' λd H2=>tb { D with nx:=N,ct:=N,bk:=D.nx } d H2):=by
 exists λi m Y H=>m=min xs.length ys.length-i/\i<=min xs.length ys.length/\b i Y H,⟨_,U,qv _,h0⟩;rintro i m Y H ⟨rfl,_,p⟩;obtain⟨h,f⟩:=hl i Y H p;by_cases hlt:i<min xs.length ys.length
 .have q:i<xs.length:=by omega
  have o:i<ys.length:=Yo;refine .inr ⟨⟨xs,ys,xs[i],ys[i],h,f,by simp[q],by simp[o]⟩,b (i+1),λc H' l=>⟨_,Yo,U,hlt,l⟩,λv H' y=>?_⟩;obtain⟨a,x,y,hn,rfl,rfl,j,n⟩:=y;exact k i x y Y H a (j xs h) (n ys f) p hn
 .have e:i=min xs.length ys.length:=by omega
  subst e;exact .inl ⟨⟨xs,ys,h,f,Yo⟩,hd Y H p⟩
theorem Gg{xs:LV}{g:TG}{f:LV->Hp->Prop}(c:Nat->LV->St->Hp->Prop)(h0:c 0 [] Y H)(n:∀i ys Y H,i<=xs.length->c i ys Y H->ys.length<=i)(r:xs.length<=sizeLine)(hl:∀i ys Y H,c i ys Y H->SqL K H a xs)
 (j:∀i x ys Y H,xs[i]?=some x->c i ys Y H->g x Y H λd H2=>tt d H2 λb h=>if b=true then te d h λy H4=>c (i+1) (ys++[y]) d H4 else c (i+1) ys d h)
 (hd:∀ys Y H,c xs.length ys Y H->f ys H):∃W:Nat->Nat->LV->St->Hp->Prop,(∃m,W 0 m [] Y H)/\gZ (Itl K a) g tt te f W:=by
 exists λi m ys Y H=>m=xs.length-i/\i<=xs.length/\c i ys Y H,⟨_,U,qv _,h0⟩;rintro i m ys Y H ⟨rfl,k,p⟩;have o:=n i ys Y H k p;have q:=hl i ys Y H p;by_cases hlt:i<xs.length
 .refine .inr ⟨⟨xs,xs[i],q,by simp[hlt]⟩,Yo,c (i+1),λ_ _ H' l=>⟨_,Yo,U,hlt,l⟩,λv H' y=>?_⟩;obtain⟨e,y⟩:=y;subst e;exact j i v ys Y _ (y xs q) p
 .have e:i=xs.length:=by omega
  subst e;exact .inl ⟨⟨xs,q,qf _⟩,Yo,hd ys Y H p⟩
end L2
namespace L2
open PySem PySem.Spec PyProof.Rows
end L2
namespace L2
open PySem PySem.Spec PyProof.Rows PySem.NumText
theorem rX{P R:α->Prop}{c A:Prop}{a:Decidable c}{w:α}(hw:¬ c->P w)(rest:∀w,P w->R w)(h:c->(∀w,P w->R w)->A)(e:B=R w:=by rfl):@ite Prop c a A B:=by
 subst e;by_cases hc:c
 .rw[Q5 hc];exact h hc rest
 .rw[Q4 hc];exact rest w (hw hc)
end L2
namespace L2
open PySem PySem.Spec PyProof.Rows PySem.W
section
variable {R:Result->Shared->Prop}{d:Drawn}{t:Nat}{os:OsState}
variable {q:Str}{N:Addr}{bs:LL}
end
section
variable {R:Result->Shared->Prop}{d:Drawn}{t:Nat}{os:OsState}
variable {q:Str}{N x:Addr}{bs:LL}{v:Value}{o:Obj}{fs:LD}
end
section
variable {R:Result->Shared->Prop}{d:Drawn}{t:Nat}{os:OsState}
variable {q:Str}{N e:Addr}{bs:LL}
end
section
variable {L e:Addr}{vs:LD}
end
section
variable {cdv:Value}{s0:Shared}{E:XK}
end
section
variable {q:Str}{N:Addr}{bs:LL}
end
section
variable {CX:CXT}{k:Nat}{p:Pos}{es:LR}{t:TA}
end
section
variable {d:Drawn}{t:Nat}{os:OsState}{e:Addr}
variable {q:Str}{N:Addr}{bs:LL}
variable {nm' q':Str}{C' N':Addr}{bs' bm':LL}{hdct':Bool}{sn':LS}{sub':LL}{ab':Bool}{col':Option Bool}{dd':Option Addr}{k0' k1' k2' k3' k5':LO}{newId':String}
end
section
variable {vs:LD}{ex:LK}{fl:Value}
end
section
variable {k:Nat}{C0:Addr}{ds:LL}{fx cx y m n:Str}{iy im inn:Nat}{p py cp pm pn pa hpos tpos:Pos}{es:LR}{t:TA}
end
section
variable {d:Drawn}{t:Nat}{os:OsState}{o:Obj}{vs:LD}
 {q:Str}{N:Addr}{bs:LL}{v:Value}
end
section
variable {d:Drawn}{t:Nat}{os:OsState}{o:Obj}{vs:LD}
 {q:Str}{N:Addr}{bs:LL}
end
theorem dR{x y:Int}(c:decide (V.int x=V.int y)=true):x=y:=by injection (Qg c)
theorem eE{x y:Int}(c:¬ decide (V.int x=V.int y)=true):¬ x=y:=λe=>c (Q6 (by rw[e]))
noncomputable def txt(v:Value):Str:=match v with|.str x _=>x|_=>""
structure bP(P:Program)(w:World)(es:Array (Int×Value))(t:SetTable)(ys:LS):Prop where
 el:ElemsOf (strKind P w) es.toList
 nd:(es.toList.map λe=>txt e.2).Nodup
 mem:∀k,k∈(es.toList.map λe=>txt e.2)↔k∈ys
 few:es.size<scanBound
 fit:t.fits es.size=true
 led:t.led=!w.params.followText "set-order"
 pl:0<es.size->t.plain=false
theorem m5{k:Str}{v:Value}(h:(strKind P w).is k v=true):txt v=k:=by
 obtain⟨t,rfl⟩:=Value.isStrOf_shape h
 rfl
theorem Av(t:SetTable)(n:Nat):(t.orStandIn n).led=t.led/\(t.plain=false->(t.orStandIn n).plain=false):=by
 unfold SetTable.orStandIn;split
 .exact⟨U,λz=>z⟩
 .exact⟨U,λ_=>U⟩
theorem Ez(t:SetTable)(es:Array (Int×Value))(h:Int)(x:Value):(layNew t es h x).2.1.led=t.led/\(t.plain=false->(layNew t es h x).2.1.plain=false):=by
 unfold layNew;split
 .exact Av (t.put _).1 _
 .exact⟨U,λ_=>U⟩
theorem BI(t:SetTable)(es:Array (Int×Value))(n:Nat):(relayAll t es n).2.1.led=t.led/\(t.plain=false->(relayAll t es n).2.1.plain=false):=by
 unfold relayAll SetTable.standIn;split
 .rename_i t' b a;unfold SetTable.relaid SetTable.laid at a
  have:t'.led=t.led/\t'.plain=t.plain:=by
   simp only[Option.bind_eq_bind,Option.bind_eq_some_iff]at a;obtain⟨ow,_,a⟩:=a;injection a with a;injection a with h1 h2;rw[<- h1];exact⟨U,U⟩
  dsimp only;split
  .exact⟨this.1,λz=>this.2.trans z⟩
  .exact⟨U,λ_=>U⟩
 .exact⟨U,λ_=>U⟩
noncomputable def aY(es:Array (Int×Value))(ep:Nat)(t:SetTable):Obj:={ cls:=.type "set",dict:=none,data:=.set es ep t }
theorem nj{es':Array (Int×Value)}{t':SetTable}(b:s.heap.get? a=some (aY es ep t)):
 (s.heap.update a (Obj.putSet es' t')).get? a=some (aY es' (ep+1) t'):=by
 have hd:(aY es ep t).data=.set es ep t:=U;have:=Qk (Obj.putSet es' t') b (by rw[putSet_of es' t' hd];rfl);rw[putSet_of es' t' hd]at this;exact this
theorem yL{k:Str}{tk:Tok}{Q:Bool->Shared->Prop}
 (F:s.heap.get? a=some (aY es ep t)) (T:bP P w es t ys) (room:es.size+1<scanBound)
 (h:∀(b:Bool) h' es' l t',Heap.SameBut a s.heap h'->h'.get? a=some (aY es' l t')->bP P w es' t' (ys++[k])->es'.size<=es.size+1->Q b { s with heap:=h' }):
 wpAny (model P w) A (setAddHashed a (.str k tk) (hashStr w k)) Q E s:=by
 have D:(strKind P w).is k (.str k tk)=true:=by
  show Value.isStrOf k (.str k tk)=true;simp[Value.isStrOf]
 have v:(Value.str k tk).scannable=true:=U;have hd:(aY es ep t).data=.set es ep t:=U;unfold setAddHashed setAddHashedIn;refine Qy (q9 (qZ F hd T.fit ?_));dsimp only;rw[byScan_of v T.few T.el];simp only[↓reduceIte];unfold setAddByScan;refine q9 ?_;refine q9 (wpAny_rule ?_);refine q9 (wpAny_setScan_of (knd:=strKind P w) (k:=k) D F hd T.fit T.el ?_)
 cases hr:List.findIdx? (λe=>(strKind P w).is k e.2) es.toList with
 |some j=>
  dsimp only;obtain⟨hj,a0,_⟩:=List.findIdx?_eq_some_iff_getElem.mp hr;refine qe (qe ?_);have:=h false s.heap es ep t (Heap.SameBut.refl a s.heap) F ⟨T.el,T.nd,λG=>?_,T.few,T.fit,T.led,T.pl⟩ Yo
  .exact this
  .rw[T.mem G,qi,qV];refine⟨.inl,λz=>z.elim id λe=>?_⟩;rw[<- T.mem,e,<- m5 a0];exact List.mem_map.mpr ⟨_,List.getElem_mem hj,U⟩
 |none=>
  dsimp only
  have M:k∉es.toList.map λe=>txt e.2:=by
   intro hm;obtain⟨e,he,hk⟩:=List.mem_map.mp hm;have hn:=List.findIdx?_eq_none_iff.mp hr e he;obtain⟨⟨G,H,_⟩,_⟩:=T.el e he;rw[m5 H]at hk;subst hk;rw[H]at hn;cases hn
  have J:∀(b:Bool){o:Shared}{L:Unit->Shared->Prop},L () o->wpAny (model P w) A (match b with|true=>rule "set.scan.the-table-gave-way"|false=>pure ()) L E o:=by
   intro b o L hq;cases b
   .exact qe hq
   .exact wpAny_rule hq
  have f:=layNew_perm t es (hashStr w k) (.str k tk);have i:=layNew_fits t es (hashStr w k) (.str k tk);have n:=Ez t es (hashStr w k) (.str k tk);show wpAny _ _ (match layNew t es (hashStr w k) (.str k tk)with|(es,t,wasDummy,gave)=>_) _ _ _;generalize layNew t es (hashStr w k) (.str k tk)=Ln at f i n ⊢;obtain⟨c,t1,wd,gv⟩:=Ln;dsimp only at f i n ⊢;rw[Array.toList_push]at f;have N:c.size=es.size+1:=by rw[<- qP,f.length_eq,qc,qP];rfl
  have I:∀(g:Array (Int×Value))(d:SetTable),g.toList.Perm c.toList->d.fits g.size=true->d.led=t.led->d.plain=false->bP P w g d (ys++[k]):=λg d u W hl m=>by
   have p:=u.trans f;refine⟨(T.el.push D v).perm p,?_,λG=>?_,?_,W,hl.trans T.led,λ_=>m⟩
   .refine(p.map _).nodup_iff.mpr ?_;rw[qR,List.nodup_append];refine⟨T.nd,by simp,λx Z y X0=>?_⟩;simp only[qU,List.map_nil,qV]at X0;rintro rfl;rw[X0]at Z;exact M Z
   .rw[(p.map _).mem_iff,qR,qi,T.mem G,qi]
    rfl
   .rwa[<- qP,p.length_eq,qc,qP]
  refine q9 (J _ ?_)
  have tail:∀d:SetTable,d.fits c.size=true->d.led=t.led->d.plain=false->∀R:Option Bool->Shared->Prop,(∀h' es' l t',Heap.SameBut a s.heap h'->h'.get? a=some (aY es' l t')->bP P w es' t' (ys++[k])->es'.size<=es.size+1->R (some true) { s with heap:=h' })->
   wpAny (model P w) A (do
    storeSet a c d
    if(!wd && d.tooFull)=true then do
     (match(relayAll d c (SetTable.grown c.size)).2.2 with|true=>rule "set.scan.the-table-gave-way"|false=>pure ())
     storeSet a (relayAll d c (SetTable.grown c.size)).1 (relayAll d c (SetTable.grown c.size)).2.1
     pure (some true)
    else pure (some true)) R E s:=λd W hl m R hR=>by
   have r:c.size<=sizeLine:=fits_of_scanBound (by rwa[N]);refine q9 (wpAny_storeSet_of F hd ?_ r);have C:=nj (s:=s) (es':=c) (t':=d) F;have K:=Heap.SameBut.update s.heap a (Obj.putSet c d);split
   .have u:=relayAll_perm d c (SetTable.grown c.size);have B:=relayAll_fits d c (SetTable.grown c.size);have q:=BI d c (SetTable.grown c.size);generalize relayAll d c (SetTable.grown c.size)=Rl at u B q ⊢;obtain⟨g,t3,g2⟩:=Rl;dsimp only at u B q ⊢;have hsz2:g.size=c.size:=by rw[<- qP,u.length_eq,qP]
    refine q9 (J _ ?_);refine q9 (wpAny_storeSet_of (s:={ s with heap:=s.heap.update a (Obj.putSet c d) }) C U ?_ (by rwa[hsz2]));exact qe (hR _ g _ t3 (K.trans (Heap.SameBut.update _ a _)) (nj (s:={ s with heap:=s.heap.update a (Obj.putSet c d) }) C) (I g t3 u B (q.1.trans hl) (q.2 m)) Yo)
   .exact qe (hR _ c _ d K C (I c d (.refl _) W hl m) Yo)
  split
  .refine q9 ?_;rw[hashByValue_scannable 8 v];refine qe ?_;refine tail _ (SetTable.fits_plain_off i) n.1 U _ λh' es' l t' O X S V=>?_;exact qe (h true h' es' l t' O X S V)
  .rename_i m;refine q9 (qe ?_);simp only[↓reduceIte];refine tail _ i n.1 (by simpa using m) _ λh' es' l t' O X S V=>?_;exact qe (h true h' es' l t' O X S V)
theorem FC{R:Result->Shared->Prop}{c:LK}{PI:Nat->Value->Prop}{St:Nat->Shared->Prop}
 (W:WalksS P w A.in1 I fp c G n PI St) (S:Addr) (g:S∉fp) (zs:LS) (K:∀i v,PI i v->∃k t,zs[i]?=some k/\v=.str k t) (hb:n+1<scanBound):
 ∀(k i:Nat)(s:Shared),n-i=k->i<=n->St i s->
  (∃es ep t,s.heap.get? S=some (aY es ep t)/\bP P w es t (zs.take i)/\es.size<=i)->
  (∀s',Moved (S::c) G s s'->(∃es ep t,s'.heap.get? S=some (aY es ep t)/\bP P w es t (zs.take n)/\es.size<=n)->R (.ok (.ret .none)) s')->
  codeAny (model P w) A (.builtin "set.update.loop" ⟨[.ref S,.ref I],[]⟩) R s:=by
 have f:S∉c:=λz=>g (W.sub _ z);have r:∀b∈c,b∈S::c:=λb z=>qp _ z;intro k
 induction k with
 |zero=>
  intro i s hk J a j p;obtain rfl:i=n:=Yo;refine codeAny_builtin PyProof.Rows.F.entry_set_update_loop ?_;rw[Around.under_plainId PyProof.Rows.F.plain_set_update_loop _];show wpAny _ A.in1 (pyNext (.ref I) >>= _) _ _ s;refine q9 (W.done s _ _ a λs' d=>?_);show wpAny _ A.in1 (ret Value.none) _ _ s';obtain⟨es,ep,t,m,l,u⟩:=j;exact qe (p s' (d.mono r) ⟨es,ep,t,d.heap S _ f m,l,u⟩)
 |succ k H=>
  intro i s hk J a j p;have lt:i<n:=Yo;refine codeAny_builtin PyProof.Rows.F.entry_set_update_loop ?_;rw[Around.under_plainId PyProof.Rows.F.plain_set_update_loop _];show wpAny _ A.in1 (pyNext (.ref I) >>= _) _ _ s;refine q9 (W.item i s _ _ lt a λv s' O h d=>?_);obtain⟨z,t,B,rfl⟩:=K i v O;obtain⟨es,ep,_,m,l,u⟩:=j;have C:=d.heap S _ f m;show wpAny _ A.in1 (holding [Value.str z t] (setAdd S (.str z t)) >>= _) _ _ s';refine q9 (Qy ?_);unfold setAdd;refine Qy ?_;refine q9 (wpAny_pyHash_str ?_);refine yL (s:={ s' with toks:=s'.toks+1 }) C l Yo λb h' es' y t' x M D _=>?_;have e:zs.take (i+1)=zs.take i++[z]:=by rw[qu,B];rfl
  refine qe ⟨plainId_quiet PyProof.Rows.F.plain_set_update_loop _,H (i+1) _ Yo lt (W.frame _ s' _ _ h (Nat.le_succ _) λb hb o q=>?_) ⟨es',y,t',M,by rw[e];exact D,Yo⟩ λE N L=>?_⟩
  .rw[x.2 b λz:b=S=>g (by rwa[<- z])];exact q
  .refine p E (Moved.trans W.gtrans ((d.mono r).then_heap (Nat.le_succ _) λb o hb q=>?_) N) L;rw[x.2 b λz:b=S=>hb (by rw[z];exact qq)];exact q
theorem fH:Slot "set_iterator" "__next__" "set_iterator.__next__":=
 .of (owner:="set_iterator") (n:="__next__") (by rw[typeLookup_type,builtinLookup_eq_fast];kernel_rfl) Yd Yd Yd (.inl Yd) (by rw[isSubtype_type];kernel_rfl)
theorem kC:entryFor table "set_iterator.__next__"=some Builtin.«set_iterator.__next__»:=entryFor_of_tree (by kernel_rfl)
theorem kD(a:Value):argsOk "set_iterator.__next__" ⟨[a],[]⟩:=by unfold argsOk;kernel_rfl
theorem vD:Slot "set_iterator" "__iter__" "set_iterator.__iter__":=
 .of (owner:="set_iterator") (n:="__iter__") (by rw[typeLookup_type,builtinLookup_eq_fast];kernel_rfl) Yd Yd Yd (by first|exact .inl Yd|exact .inr Yd) (by rw[isSubtype_type];kernel_rfl)
theorem AK:entryFor table "set_iterator.__iter__"=some Builtin.«dict_keyiterator.__iter__»:=entryFor_alias (id':="dict_keyiterator.__iter__") (by kernel_rfl) U Yd (by kernel_rfl)
theorem AL(a:Value):argsOk "set_iterator.__iter__" ⟨[a],[]⟩:=by unfold argsOk;kernel_rfl
theorem Ba:entryFor table "set.__iter__"=some Builtin.«frozenset.__iter__»:=entryFor_alias (id':="frozenset.__iter__") (by kernel_rfl) U Yd (by kernel_rfl)
noncomputable def dM(F:Value)(i:Nat)(a:Addr)(n ep:Nat):Obj:={ cls:=.type "set_iterator",data:=.fields #[F,.int i 0,.ref a,.int n 0,.int ep 0] }
theorem gz{Q:Array (Int×Value)->Shared->Prop}(c:s.heap.get? a=some (aY es ep t))(b:t.fits es.size=true)(h:Q es s):
 wpAny (model P w) A (setEntries a) Q E s:=by
 unfold setEntries;exact q9 (qZ c U b (qe h))
theorem AN{d:Addr}{p:Nat}{c:LD}{x:Int×Value}{nn:Nat}{k:Obj}{tk:Tok}{Q:LO->Shared->Prop}
 (b:s.heap.get? I=some (dM (.ref d) i a n ep)) (f:s.heap.get? a=some (aY es ep t)) (j:t.fits es.size=true) (hn:es.size=n)
 (ht:s.heap.get? d=some k) (e:k.data=.seq c nn) (l:c[i]?=some (.int (p:Int) tk)) (m:es[p]?=some x)
 (h:∀h',h'.get? I=some (dM (.ref d) (i+1) a n ep)->Heap.SameBut I s.heap h'->Q (some x.2) { s with heap:=h' }):
 wpAny (model P w) A (pyNext (.ref I)) Q E s:=by
 have ty:s.TypeIs (.ref I) "set_iterator":=⟨_,b,U⟩;unfold pyNext;refine q9 (wpAny_attempt (wpAny_callSpecial?_slot (name:=Str.ofString "__next__") ty fH (Qm fH ty kC ?_ (kD _))));unfold Builtin.«set_iterator.__next__»;refine q9 (qe ?_);refine q9 (wpAny_fieldsOf b U ?_);dsimp only;refine q9 (gz f j ?_);have ne:((es.size:Int) != (n:Int))=false:=by rw[hn];simp
 rw[ne,Q4 qk];refine q9 (Qz ht e ?_);dsimp only;rw[Q0,l];dsimp only;refine q9 ?_;unfold setNextDrawn;refine q9 (qZ f U j ?_);dsimp only;have g:(ep != (ep:Int).toNat)=false:=by rw[Q0];simp
 rw[g,Q4 qk,Q0,m];dsimp only;refine qe ?_;refine q9 (wpAny_setField b U (by simp) (qe ⟨_,U,qe (h _ ?_ (Heap.SameBut.update ..))⟩));have:=Qk (Obj.mapFields (·.setIfInBounds 1 (rawInt ((i:Int)+1)))) b U;exact this
theorem ut{Q:LO->Shared->Prop}(d:A.handled=none)(h:∀h',(∀b o,s.heap.get? b=some o->h'.get? b=some o)->Q none { s with heap:=h' }):
 wpAny (model P w) A.in1 (newExc (.type "StopIteration") [] >>= λx=>(raiseNew x:Sem Fin)) (λfin s'=>∃v,fin=Fin.done (Flow.ret v)/\wpAny (model P w) A (pure (some v)) Q E s')
  (λe s'=>wpAny (model P w) A (do if <- isInstance e (Value.type "StopIteration")then pure none else throw e) Q E s') s:=by
 refine q9 ?_;simp only[newExc,newTuple];refine q9 (wpAny_newObj_type ?_ (by size_fits));refine q9 (m:=firstArgMember _ _) (wpAny_of_eq (a:=Value.none) (by first|rfl|(simp only[firstArgMember];rfl)) ?_);refine wpAny_newObj_type ?_ (by size_fits);simp only[raiseNew];refine q9 (wpAny_handled ?_);have c:A.in1.handled=none:=d;rw[c];refine q9 (qe (wpAny_throw ?_));refine q9 (wpAny_isInstance (T:="StopIteration") (b:=true) ⟨_,qr _ U,U⟩ isSubtype_stop ?_);exact qe (h _ λb o e=>qb _ (qb _ e))
theorem AM{j:Addr}{d:LD}{nn:Nat}{g:Obj}{Q:LO->Shared->Prop}(m:A.handled=none)
 (c:s.heap.get? I=some (dM (.ref j) i a n ep)) (p:s.heap.get? a=some (aY es ep t)) (r:t.fits es.size=true) (hn:es.size=n)
 (ht:s.heap.get? j=some g) (f:g.data=.seq d nn) (q:d[i]?=none)
 (h:∀h',(∀b o,b≠I->s.heap.get? b=some o->h'.get? b=some o)->Q none { s with heap:=h' }):
 wpAny (model P w) A (pyNext (.ref I)) Q E s:=by
 have ty:s.TypeIs (.ref I) "set_iterator":=⟨_,c,U⟩;unfold pyNext;refine q9 (wpAny_attempt (wpAny_callSpecial?_slot (name:=Str.ofString "__next__") ty fH (Qm fH ty kC ?_ (kD _))));unfold Builtin.«set_iterator.__next__»;refine q9 (qe ?_);refine q9 (wpAny_fieldsOf c U ?_);dsimp only;refine q9 (gz p r ?_);have ne:((es.size:Int) != (n:Int))=false:=by rw[hn];simp
 rw[ne,Q4 qk];refine q9 (Qz ht f ?_);dsimp only;rw[Q0,q];dsimp only;refine q9 (wpAny_setField c U (by simp) ?_);have l:=Qk (Obj.mapFields (·.setIfInBounds 0 (rawInt 0))) c U;refine q9 (wpAny_setField l U (by simp) ?_);refine ut m λh' k=>h h' λb o hb e=>k b o ?_;exact(Qw _ _ (Ne.symm hb)).trans ((Qw _ _ (Ne.symm hb)).trans e)
theorem vC{sl sl':Nat}{x:Value}{Q:LO->Shared->Prop}
 (b:s.heap.get? I=some (dM (.int (sl:Int) 0) i a n ep)) (e:s.heap.get? a=some (aY es ep t)) (f:t.fits es.size=true) (hn:es.size=n)
 (g:∀d:Option (Value×Nat)->Shared->Prop,∀j,d (some (x,sl')) s->wpAny (model P w) A.in1 (setNext a sl i ep) d j s)
 (h:∀h',h'.get? I=some (dM (.int (sl':Int) 0) (i+1) a n ep)->Heap.SameBut I s.heap h'->Q (some x) { s with heap:=h' }):
 wpAny (model P w) A (pyNext (.ref I)) Q E s:=by
 have ty:s.TypeIs (.ref I) "set_iterator":=⟨_,b,U⟩;unfold pyNext;refine q9 (wpAny_attempt (wpAny_callSpecial?_slot (name:=Str.ofString "__next__") ty fH (Qm fH ty kC ?_ (kD _))));unfold Builtin.«set_iterator.__next__»;refine q9 (qe ?_);refine q9 (wpAny_fieldsOf b U ?_);dsimp only;refine q9 (gz e f ?_);have ne:((es.size:Int) != (n:Int))=false:=by rw[hn];simp
 rw[ne,Q4 qk,Q0,Q0,Q0];refine q9 (g _ _ ?_);dsimp only;refine q9 (wpAny_setField b U (by simp) ?_);have c:=Qk (Obj.mapFields (·.setIfInBounds 0 (rawInt (sl':Int)))) b U;refine q9 (wpAny_setField c U (by simp) (qe ⟨_,U,qe (h _ ?_ ((Heap.SameBut.update ..).trans (Heap.SameBut.update ..)))⟩));exact Qk (Obj.mapFields (·.setIfInBounds 1 (rawInt ((i:Int)+1)))) c U
theorem nG{sl:Nat}{Q:LO->Shared->Prop}(f:A.handled=none)
 (c:s.heap.get? I=some (dM (.int (sl:Int) 0) i a n ep)) (g:s.heap.get? a=some (aY es ep t)) (j:t.fits es.size=true) (hn:es.size=n)
 (l:∀d:Option (Value×Nat)->Shared->Prop,∀m,d none s->wpAny (model P w) A.in1 (setNext a sl i ep) d m s)
 (h:∀h',(∀b o,b≠I->s.heap.get? b=some o->h'.get? b=some o)->Q none { s with heap:=h' }):
 wpAny (model P w) A (pyNext (.ref I)) Q E s:=by
 have ty:s.TypeIs (.ref I) "set_iterator":=⟨_,c,U⟩;unfold pyNext;refine q9 (wpAny_attempt (wpAny_callSpecial?_slot (name:=Str.ofString "__next__") ty fH (Qm fH ty kC ?_ (kD _))));unfold Builtin.«set_iterator.__next__»;refine q9 (qe ?_);refine q9 (wpAny_fieldsOf c U ?_);dsimp only;refine q9 (gz g j ?_);have ne:((es.size:Int) != (n:Int))=false:=by rw[hn];simp
 rw[ne,Q4 qk,Q0,Q0,Q0];refine q9 (l _ _ ?_);dsimp only;refine q9 (wpAny_setField c U (by simp) ?_);refine ut f λh' k=>h h' λb o hb e=>k b o ?_;exact(Qw _ _ (Ne.symm hb)).trans e
theorem kB{b:Value}(c:s.heap.get? I=some (dM b i a n ep))(h:Q (.ref I) s):wpAny (model P w) A (pyIter (.ref I)) Q E s:=by
 have ty:s.TypeIs (.ref I) "set_iterator":=⟨_,c,U⟩;refine wpAny_pyIter_slot ty vD (Qm vD ty AK ?_ (AL _));show wpAny _ _ (ret (.ref I)) _ _ s;exact qe ⟨_,U,"set_iterator",_,ty,fH.lookup,h⟩
theorem zj{a:Source}{Q:Nat->Shared->Prop}(hn:n≠0)(h:∀i d,i<n->Q i { s with drawn:=d }):wpAny (model P w) A (choose a n) Q E s:=λΓ p _=>by
 show Sem.wp _ _ (.choose a n .pure) _ _ _ _;rw[Sem.wp_choose];exists hn;have:=h ((model P w).w.draws a (s.drawn.get a) % n) (s.drawn.bump a) (Nat.mod_lt _ (Nat.pos_of_ne_zero hn));simpa using this
theorem wq{xs:List α}{x:α}(h:xs[i]?=some x):(x::xs.eraseIdx i).Perm xs:=by
 induction xs generalizing i with
 |nil=>simp at h
 |cons y r a=>
  cases i with
  |zero=>simp at h;subst h;exact .refl _
  |succ j=>
   simp only[List.getElem?_cons_succ]at h;exact(List.Perm.swap y x _).trans ((a h).cons y)
theorem sL{a:Type}:∀(n:Nat)(xs:List a)(s:Shared)(Q:List a->Shared->Prop),xs.length=n->(∀ys d,ys.Perm xs->Q ys { s with drawn:=d })->wpAny (model P w) A (drawOrder n xs) Q E s
 |0,xs,s,Q,hn,h=>by
  obtain rfl:=List.length_eq_zero_iff.mp hn;exact qe (h [] s.drawn (.refl _))
 |n+1,[],s,Q,hn,h=>by cases hn
 |n+1,x::r,s,Q,hn,h=>by
  unfold drawOrder;refine q9 (zj (by simp) λi d b=>?_);have e:(x::r)[i]?=some (x::r)[i]:=qd b;rw[e];dsimp only;refine q9 (sL n _ _ _ (by rw[List.length_eraseIdx_of_lt b];omega) λys d' c=>qe ?_);exact h _ d' ((c.cons _).trans (wq e))
theorem wn{b:Type}(next:Nat->Nat):∀(a k:Nat)(left:List b)(out:Array b),left.length=a->(pickOrder.go next a k left out).toList.Perm (out.toList++left)
 |0,k,left,out,h=>by
  obtain rfl:=List.length_eq_zero_iff.mp h;unfold pickOrder.go;rw[qA]
 |a+1,k,left,out,h=>by
  unfold pickOrder.go;have c:next k % left.length<left.length:=Nat.mod_lt _ Yo
  have e:=qd c;rw[e];dsimp only;refine(wn next a (k+1) _ _ (by rw[List.length_eraseIdx_of_lt c];omega)).trans ?_;rw[Array.toList_push,qQ];exact(List.Perm.refl _).append (wq e)
theorem wm(next:Nat->Nat)(xs:Array α):(pickOrder next xs).toList.Perm xs.toList:=by
 have:=wn next xs.size 0 xs.toList #[] qP
 simpa[pickOrder]using this
theorem ir{Q:Bool->Shared->Prop}(h:Q (w.params.followText "set-order") s):wpAny (model P w) A setsByText Q E s:=by
 unfold setsByText;exact q9 (wpAny_askSetting (qe h))
structure GN(P:Program)(w:World)(es:Array (Int×Value))(a:Addr)(s s':Shared)(I:Addr):Prop where
 ex:∃(fp:LK)(vs:LL)(St:Nat->Heap->Prop),vs.Perm (es.toList.map (·.2))/\(∀A:Around,A.handled=none->Walks P w A I fp [I] vs.length (λi v=>vs[i]?=some v) St)/\St 0 s'.heap/\(∀b∈fp,b<s'.heap.objs.size/\(b=a\/s.heap.get? b=none))/\I∈fp
 old:∀b o,s.heap.get? b=some o->s'.heap.get? b=some o
 new:s.heap.get? I=none
 gens:s'.gens=s.gens
 os:s'.os=s.os
 toks:s'.toks=s.toks
theorem Fx(h:t.fits n=true):t.place.size=n:=by
 simp only[SetTable.fits,Bool.and_eq_true,beq_iff_eq]at h;exact h.1
theorem gO(k:h.objs.size<=b):h.get? b=none:=by
 cases q:h.get? b with
 |none=>rfl
 |some o=>exact Q8 (qG (qt q) k) (Qf _)
theorem ER(y:s.heap.get? a=some (aY es ep t))(T:bP P w es t ys)
 (h:∀s' I,GN P w es a s s' I->Q (.ref I) s'):wpAny (model P w) A (pyIter (.ref a)) Q E s:=by
 have ty:s.TypeIs (.ref a) "set":=⟨_,y,U⟩;have z:a<s.heap.objs.size:=qt y;refine wpAny_pyIter_slot ty F.slot_set_iter (Qm F.slot_set_iter ty Ba ?_ (F.args_set_iter_1 _));unfold Builtin.«frozenset.__iter__»;refine q9 (qe ?_);refine q9 ?_;unfold Builtin.Frozenset.sizeOf;refine q9 (gz y T.fit (qe ?_));refine q9 ?_;unfold setDrawn;refine q9 (qZ y U T.fit ?_);dsimp only;refine q9 (ir (qe ?_))
 have two:∀(K:Value)(c:Shared),c.heap.get? a=some (aY es ep t)->(∀it s',it=.ref c.heap.objs.size->s'={ c with heap:=c.heap.push (dM K 0 a es.size ep) }->Q it s')->
  wpAny (model P w) A.in1 (do
   let e <- setEpoch a
   let x <- newFields "set_iterator" [K,rawInt 0,.ref a,rawInt (es.size:Int),rawInt (e:Int)]
   ret x) (λfin s'=>∃v,fin=Fin.done (Flow.ret v)/\∃T' r,s'.TypeIs v T'/\typeLookup (Value.type T') (Str.ofString "__next__")=pure (some r)/\Q v s') E c:=λK c m hq=>by
  refine q9 (wpAny_setEpoch_of m U T.fit ?_);unfold newFields;refine q9 (wpAny_newObj_type ?_);refine qe ⟨_,U,"set_iterator",_,⟨_,qr _ U,U⟩,fH.lookup,hq _ _ U U⟩
 show wpAny _ _ (if(!w.params.followText "set-order" && (!t.plain && decide (es.size > 1)))=true then _ else _) _ _ _;have H:=Fx T.fit;by_cases hb:w.params.followText "set-order"=true
 .rw[hb];simp only[Bool.not_true,Bool.false_and,Qn,if_false];refine q9 (qe ?_);refine two _ s y λit s' J S=>?_;subst J S;have pp:=wm (w.params.setOrder a ep) es;have pl:((pickOrder (w.params.setOrder a ep) es).toList.map (·.2)).length=es.size:=by rw[qa,pp.length_eq,qP]
  have nx:∀(D:Around)(i:Nat)(c:Shared)(f:Option (Value×Nat)->Shared->Prop) l,c.heap.get? a=some (aY es ep t)->f (((pickOrder (w.params.setOrder a ep) es)[i]?).map λe=>(e.2,0)) c->wpAny (model P w) D (setNext a 0 i ep) f l c:=λD i c f l m q=>by
   unfold setNext;refine q9 (qZ m U T.fit ?_);dsimp only;refine q9 (ir ?_);rw[hb,Q5 U];have ne:(ep != ep)=false:=by simp
   rw[ne,Q4 qk];refine q9 ?_;unfold setWalk;refine q9 (qZ m U T.fit ?_);dsimp only;refine q9 (ir ?_);rw[hb,Q5 U];refine q9 (wpAny_askSetting (qe ?_));exact qe q
  have R:a≠s.heap.objs.size:=qJ z;refine h _ _ ⟨⟨[s.heap.objs.size,a],(pickOrder (w.params.setOrder a ep) es).toList.map (·.2),λi h'=>h'.get? s.heap.objs.size=some (dM (.int 0 0) i a es.size ep)/\h'.get? a=some (aY es ep t),pp.map _,λD G=>?_,⟨qr _ U,qb _ y⟩,?_,by simp⟩,λb o e=>qb _ e,?_,U,U,U⟩
  .refine⟨λb hb=>by simp at hb;simp[hb],λi m M st k=>⟨k _ (by simp) _ st.1,k _ (by simp) _ st.2⟩,λi c f l u st q=>?_,λc f l st q=>?_,λi c f l st q=>kB st.1 q⟩
   .have n:i<(pickOrder (w.params.setOrder a ep) es).size:=by rw[qa,qP]at u;exact u
    refine vC (sl:=0) (sl':=0) (x:=(pickOrder (w.params.setOrder a ep) es)[i].2) st.1 st.2 T.fit U (λX Z B=>nx _ _ _ _ _ st.2 (by rw[Array.getElem?_eq_getElem n];exact B)) λh' N C=>q _ h' c.toks ?_ ⟨N,?_⟩ λb o hb e=>?_
    .simp[n]
    .rw[C.2 _ R];exact st.2
    .rwa[C.2 _ (by simpa using hb)]
   .have n:(pickOrder (w.params.setOrder a ep) es)[((pickOrder (w.params.setOrder a ep) es).toList.map (·.2)).length]?=none:=by simp
    exact nG (sl:=0) G st.1 st.2 T.fit U (λX Z B=>nx _ _ _ _ _ st.2 (by rw[n];exact B)) λh' g=>q h' c.toks λb o hb e=>g b o (by simpa using hb) e
  .intro b hb;simp only[qw,qT,or_false]at hb;rw[Qj];rcases hb with rfl|rfl
   .exact⟨Qe _,.inr (gO (qf _))⟩
   .exact⟨Qt z,.inl U⟩
  .exact gO (qf _)
 .have O:w.params.followText "set-order"=false:=by simpa using hb
  rw[O];have led:t.led=true:=by rw[T.led,O];rfl
  by_cases hz:es.size > 1
  .have hp:=T.pl Yo;rw[hp];simp only[Bool.not_false,Bool.true_and,hz,decide_true,if_true];refine q9 (sL _ _ _ _ (by simp) λps d L=>?_);refine q9 (wpAny_newTuple ?_ (by rw[qa,L.length_eq,Qh];exact fits_of_scanBound T.few));refine two _ _ (qb _ y) λit s' J S=>?_;subst J S;dsimp only;have lt:∀p∈ps,p<es.size:=λp hm=>List.mem_range.mp (L.mem_iff.mp hm);have sz:(s.heap.push { cls:=.type "tuple",data:=.seq (ps.map λi:Nat=>rawInt i).toArray }).objs.size=s.heap.objs.size+1:=Qj ..
   have vp:(ps.map λp=>(es.toList.map (·.2)).getD p .none).Perm (es.toList.map (·.2)):=by
    refine(L.map _).trans ?_
    have e:(List.range es.size).map (λp=>(es.toList.map (·.2)).getD p .none)=es.toList.map (·.2):=by
     refine List.ext_getElem (by simp) λi m M=>?_;simp only[List.getElem_map,List.getElem_range];rw[qo,qd M];simp
    rw[e]
   have R:a≠(s.heap.push { cls:=.type "tuple",data:=.seq (ps.map λi:Nat=>rawInt i).toArray }).objs.size:=by rw[sz];exact qJ (Qt z)
   have nT:s.heap.objs.size≠(s.heap.push { cls:=.type "tuple",data:=.seq (ps.map λi:Nat=>rawInt i).toArray }).objs.size:=by rw[sz];exact qJ (Qe _)
   refine h _ _ ⟨⟨[(s.heap.push { cls:=.type "tuple",data:=.seq (ps.map λi:Nat=>rawInt i).toArray }).objs.size,a,s.heap.objs.size],ps.map λp=>(es.toList.map (·.2)).getD p .none,
    λi h'=>h'.get? (s.heap.push { cls:=.type "tuple",data:=.seq (ps.map λi:Nat=>rawInt i).toArray }).objs.size=some (dM (.ref s.heap.objs.size) i a es.size ep)/\h'.get? a=some (aY es ep t)/\h'.get? s.heap.objs.size=some { cls:=.type "tuple",data:=.seq (ps.map λi:Nat=>rawInt i).toArray },
    vp,λD G=>?_,⟨qr _ U,qb _ (qb _ y),qb _ (qr _ U)⟩,?_,by simp⟩,λb o e=>qb _ (qb _ e),?_,U,U,U⟩
   .refine⟨λb hb=>by simp at hb;simp[hb],λi m M st k=>⟨k _ (by simp) _ st.1,k _ (by simp) _ st.2.1,k _ (by simp) _ st.2.2⟩,λi c f l u st q=>?_,λc f l st q=>?_,λi c f l st q=>kB st.1 q⟩
    .have n:i<ps.length:=by rw[qa]at u;exact u
     have pl:=lt _ (List.getElem_mem n);refine AN (p:=ps[i]) (tk:=0) (x:=es[ps[i]]) st.1 st.2.1 T.fit U st.2.2 U (by simp[n,rawInt]) (Array.getElem?_eq_getElem pl) λh' N C=>q _ h' c.toks ?_ ⟨N,?_,?_⟩ λb o hb e=>?_
     .simp[n,pl]
     .rw[C.2 _ R];exact st.2.1
     .rw[C.2 _ nT];exact st.2.2
     .rwa[C.2 _ (by simpa using hb)]
    .exact AM G st.1 st.2.1 T.fit U st.2.2 U (by simp) λh' g=>q h' c.toks λb o hb e=>g b o (by simpa using hb) e
   .intro b hb;simp only[qw,qT,or_false]at hb;rw[Qj,sz];rcases hb with rfl|rfl|rfl
    .rw[sz];exact⟨Qe _,.inr (gO (Nat.le_succ _))⟩
    .exact⟨Qt (Qt z),.inl U⟩
    .exact⟨Qt (Qe _),.inr (gO (qf _))⟩
   .rw[sz];exact gO (Nat.le_succ _)
  .have a0:decide (es.size > 1)=false:=Q7 hz;rw[a0,Bool.and_false,Bool.and_false,Q4 qk];refine q9 (qe ?_);refine two _ s y λit s' J S=>?_;subst J S;have R:a≠s.heap.objs.size:=qJ z
   have nx:∀(D:Around)(i sl:Nat)(c:Shared)(f:Option (Value×Nat)->Shared->Prop) l,c.heap.get? a=some (aY es ep t)->f (match es[SetTable.below t.place sl]?,t.place[SetTable.below t.place sl]? with|some (_,x),some j=>some (x,j+1)|_,_=>none) c->wpAny (model P w) D (setNext a sl i ep) f l c:=λD i sl c f l m q=>by
    unfold setNext;refine q9 (qZ m U T.fit ?_);dsimp only;refine q9 (ir ?_);rw[O,Q4 qk];show wpAny _ _ (if(!t.plain && decide (es.size > 1))=true then _ else _) _ _ _;rw[a0,Bool.and_false,Q4 qk];refine q9 ?_;show wpAny _ _ (if(!t.led && !es.isEmpty)=true then _ else _) _ _ _;rw[led,Bool.not_true,Bool.false_and,Q4 qk];exact qe (qe q)
   have X0:∀sl:Nat,es.size=0->SetTable.below t.place sl=0:=λsl h0=>by
    unfold SetTable.below;rw[H,h0]
    rfl
   have W:∀j sl:Nat,t.place=#[j]->SetTable.below t.place sl=if j<sl then 1 else 0:=λj sl e=>by
    rw[e];simp[SetTable.below,SetTable.below.go]
   have old:∀b o,s.heap.get? b=some o->(s.heap.push (dM (rawInt 0) 0 a es.size ep)).get? b=some o:=λb o e=>qb _ e
   have a1:∀b∈[s.heap.objs.size,a],b<(s.heap.push (dM (rawInt 0) 0 a es.size ep)).objs.size/\(b=a\/s.heap.get? b=none):=by
    intro b hb;simp only[qw,qT,or_false]at hb;rw[Qj];rcases hb with rfl|rfl
    .exact⟨Qe _,.inr (gO (qf _))⟩
    .exact⟨Qt z,.inl U⟩
   by_cases h0:es.size=0
   .have e0:es=#[]:=Array.eq_empty_of_size_eq_zero h0;refine h _ _ ⟨⟨[s.heap.objs.size,a],[],λi h'=>h'.get? s.heap.objs.size=some (dM (.int ((0:Nat):Int) 0) i a es.size ep)/\h'.get? a=some (aY es ep t),by rw[e0];exact .refl _,λD G=>?_,⟨qr _ U,old _ _ y⟩,a1,by simp⟩,old,gO (qf _),U,U,U⟩;refine⟨λb hb=>by simp at hb;simp[hb],λi m M st k=>⟨k _ (by simp) _ st.1,k _ (by simp) _ st.2⟩,λi c f l u st q=>Q8 u (QB _),λc f l st q=>?_,λi c f l st q=>kB st.1 q⟩;exact nG (sl:=0) G st.1 st.2 T.fit U (λX Z B=>nx _ _ _ _ _ _ st.2 (by rw[X0 0 h0,e0];exact B)) λh' g=>q h' c.toks λb o hb e=>g b o (by simpa using hb) e
   .have m:es.size=1:=by omega
    obtain⟨x,ex⟩:∃x,es=#[x]:=⟨es[0],by
     refine Array.ext (by simpa using m) λi u V=>?_;have:i=0:=by simp at V;exact V
     subst this
     rfl⟩
    obtain⟨j,ej⟩:∃j,t.place=#[j]:=⟨t.place[0]'(by rw[H,m];decide),by
     refine Array.ext (by simp[H,m]) λi u V=>?_;have:i=0:=by simp at V;exact V
     subst this
     rfl⟩
    refine h _ _ ⟨⟨[s.heap.objs.size,a],[x.2],λi h'=>h'.get? s.heap.objs.size=some (dM (.int ((if i=0 then 0 else j+1:Nat):Int) 0) i a es.size ep)/\h'.get? a=some (aY es ep t),by rw[ex];exact .refl _,λD G=>?_,⟨qr _ U,old _ _ y⟩,a1,by simp⟩,old,gO (qf _),U,U,U⟩;refine⟨λb hb=>by simp at hb;simp[hb],λi m M st k=>⟨k _ (by simp) _ st.1,k _ (by simp) _ st.2⟩,λi c f l u st q=>?_,λc f l st q=>?_,λi c f l st q=>kB st.1 q⟩
    .obtain rfl:i=0:=by simp at u;exact u
     refine vC (sl:=0) (sl':=j+1) (x:=x.2) st.1 st.2 T.fit U (λX Z B=>nx _ _ _ _ _ _ st.2 ?_) λh' N C=>q _ h' c.toks U ⟨N,?_⟩ λb o hb e=>?_
     .rw[W j 0 ej,ej,ex];exact B
     .rw[C.2 _ R];exact st.2
     .rwa[C.2 _ (by simpa using hb)]
    .refine nG (sl:=j+1) G st.1 st.2 T.fit U (λX Z B=>nx _ _ _ _ _ _ st.2 ?_) λh' g=>q h' c.toks λb o hb e=>g b o (by simpa using hb) e;rw[W j (j+1) ej,Q5 (Qe j),ej,ex];exact B
theorem B9:typeLookup (.type "set") "__len__"=pure (some (.builtin "set.__len__")):=by rw[typeLookup_type,builtinLookup_eq_fast];kernel_rfl
theorem kE:isSubtype (.type "set") (.type "set")=pure true:=by rw[isSubtype_type];kernel_rfl
theorem Gk{Q:LL->Shared->Prop}(D:A.handled=none)(B:s.heap.get? a=some (aY es ep t))(T:bP P w es t ys)
 (h:∀s' vs,vs.Perm (es.toList.map (·.2))->(∀b o,s.heap.get? b=some o->s'.heap.get? b=some o)->s'.gens=s.gens->s'.os=s.os->s.heap.objs.size<s'.heap.objs.size->Q vs s'):wpAny (model P w) A (collect (.ref a)) Q E s:=by
 unfold collect;refine q9 (wpAny_runValue (codeAny_builtin F.entry_proto_collect ?_));rw[Around.under_plainId F.plain_proto_collect _];show wpAny _ A.in1 (newList [] >>= λl=>again (.builtin "list.__iadd__" ⟨[l,.ref a],[]⟩)) _ _ s;refine q9 (wpAny_newObj_type ?_);refine qe ⟨plainId_quiet F.plain_list_iadd _,codeAny_builtin F.entry_list_iadd ?_⟩;rw[Around.under_plainId F.plain_list_iadd _];have r:a<s.heap.objs.size:=qt B;have f:(s.heap.push { cls:=.type "list",data:=.seq ([]:LL).toArray }).get? a=some (aY es ep t):=qb _ B;show wpAny _ A.in1 (Builtin.List.listExtendWith (.ref s.heap.objs.size) (.ref a) (.ref s.heap.objs.size)) _ _ _;unfold Builtin.List.listExtendWith;refine q9 (wpAny_typeOf (T:="set") ⟨_,f,U⟩ ?_)
 have M:Builtin.List.listSameRef (.ref s.heap.objs.size) (.ref a)=false:=by
  simp only[Builtin.List.listSameRef,beq_eq_false_iff_ne];exact Nat.ne_of_gt r
 rw[Q4 (by rw[M];decide)];refine q9 (ER (A:=A.in1) (s:={ s with heap:=s.heap.push { cls:=.type "list",data:=.seq ([]:LL).toArray } }) f T λd I W=>?_);obtain⟨⟨N,vs,St,v,G,st0,y,_⟩,old,new,H,C,_⟩:=W;have p:=old _ _ f;have l2:=old _ _ (show(s.heap.push { cls:=.type "list",data:=.seq ([]:LL).toArray }).get? s.heap.objs.size=some { cls:=.type "list",data:=.seq ([]:LL).toArray }from qr _ U);refine q9 (Qy ?_);unfold Builtin.List.listLengthHint;refine q9 (wpAny_specialOf (T:="set") ⟨_,p,U⟩ B9 ?_);have q:d.TypeIs (.ref a) "set":=⟨_,p,U⟩
 (generalize hid:("set.__len__":String)=id0;(fail_if_success (clear hid id0));wp_delta;rw[show splitId id0=some ("set","__len__")from by subst hid;decide +kernel];subst hid)
 refine q9 (wpAny_isInstance (b:=true) q kE ?_);rw[Q4 Yk];show wpAny _ _ (if _=true then _ else _) _ _ _;rw[Q5 Yk];refine q9 (wpAny_typeOf q ?_);refine qe ?_;rw[Q5 Yk];refine q9 (wpAny_rule ?_);refine q9 ?_;show wpAny _ A.in1 (updateSeq s.heap.objs.size (·.push .none) >>= λ_=>updateSeq s.heap.objs.size (·.pop)) _ _ _;refine q9 (wpAny_updateSeq l2 U ?_);have x:=Qk (Obj.mapSeq (·.push Value.none)) l2 U;refine wpAny_updateSeq x U ?_;have K:=Qk (Obj.mapSeq (·.pop)) x U
 have n:∀b o,b≠s.heap.objs.size->d.heap.get? b=some o->((d.heap.update s.heap.objs.size (Obj.mapSeq (·.push Value.none))).update s.heap.objs.size (Obj.mapSeq (·.pop))).get? b=some o:=λb o hb e=>
  (Qw _ _ (Ne.symm hb)).trans ((Qw _ _ (Ne.symm hb)).trans e)
 have c:s.heap.objs.size∉N:=λj=>by
  rcases(y _ j).2 with z|z
  .exact Qf _ (z▸r)
  .rw[show({ s with heap:=s.heap.push { cls:=.type "list",data:=.seq ([]:LL).toArray } }:Shared).heap.get? s.heap.objs.size=some { cls:=.type "list",data:=.seq ([]:LL).toArray }from qr _ U]at z;cases z
 have hn:vs.length<=sizeLine:=by rw[v.length_eq,qa,qP];exact fits_of_scanBound T.few
 have W:=(G A.in1 (by simp[D])).toS
 refine qe ⟨plainId_quiet F.plain_extend_loop _,codeAny_extend_loopS W hn _ c _ vs.length 0 _ _ _ U (qv _)
  (W.frame 0 d _ d.toks st0 (qf _) λb hb o e=>n b o (λz=>c (z▸hb)) e) K (ItemsOf.nil _) λs' k _ j m g=>?_⟩
 show wpAny _ A (load s.heap.objs.size >>= _) _ _ s';refine q9 (wpAny_load m (qe ?_))
 have O:k.toList=vs:=by
  refine List.ext_getElem? λi=>?_;rw[qW];by_cases hi:i<k.size
  .rw[Array.getElem?_eq_getElem hi];exact(g.2 i _ (Array.getElem?_eq_getElem hi)).symm
  .rw[Array.getElem?_eq_none (Nat.not_lt.mp hi),Qs (by have:=g.1;omega)]
 rw[O];refine h s' vs v (λb o e=>?_) (j.gens.trans H) (j.os.trans C) (qt m);have u:b≠s.heap.objs.size:=λz=>by rw[z]at e;exact Qf _ (qt e)
 have J:b≠I:=λz=>by
  rw[z]at e;have L:(s.heap.push { cls:=.type "list",data:=.seq ([]:LL).toArray }).get? I=some o:=qb _ e;exact Q8 (L.symm.trans new) (by simp)
 exact j.heap b o (by simp[u,J]) (n b o u (old b o (qb _ e)))
theorem AC(F:A.handled=none)(L:s.heap.get? a=some (aY es ep t))(T:bP P w es t ys)(few:es.size<64)
 (h:∀s' l n (zs:LS) (out:LL),s.heap.objs.size<=l->s'.heap.get? l=some { cls:=.type "list",data:=.seq out.toArray n }->PyProof.Rows.StrsAre out zs->zs.Nodup->(∀k,k∈zs↔k∈ys)->PyProof.Rows.sortedS zs=true->zs.length=es.size->
  (∀b o,s.heap.get? b=some o->s'.heap.get? b=some o)->s'.gens=s.gens->s'.os=s.os->Q (.ref l) s'):wpAny (model P w) A (call (.builtin "sorted") [.ref a]) Q E s:=by
 refine Calls.call_function_entry PyProof.Rows.kind_sorted PyProof.Rows.plain_sorted PyProof.Rows.entry_sorted (PyProof.Rows.args_sorted1 _) ?_;unfold Builtin.«sorted»;refine q9 (m:=checkCount "sorted" 1 1 _) (qe ?_);refine q9 (Gk (A:=A.in1) (by simpa using F) L T λc vs g old G D x=>?_)
 have str:∀us:LL,(∀v∈us,∃k tk,v=Value.str k tk)->PyProof.Rows.StrsAre us (us.map txt):=by
  intro us
  induction us with
  |nil=>intro _;exact .nil
  |cons v r B=>
   intro f;obtain⟨k,tk,rfl⟩:=f _ qq;exact .cons k tk (B λu M=>f u (qp _ M))
 have all:∀v∈vs,∃k tk,v=Value.str k tk:=λv f=>by
  obtain⟨e,J,rfl⟩:=List.mem_map.mp (g.mem_iff.mp f);obtain⟨⟨k,hk,_⟩,_⟩:=T.el e J;obtain⟨tk,p⟩:=Value.isStrOf_shape hk;exact⟨k,tk,p⟩
 have i:=str vs all;have len:vs.length=es.size:=by rw[g.length_eq,qa,qP]
 refine q9 (wpAny_newList ?_ (by rw[len];exact fits_of_scanBound T.few));have q:(c.heap.push { cls:=.type "list",data:=.seq vs.toArray }).get? c.heap.objs.size=some (PyProof.Rows.seqObj "list" vs.toArray 0):=qr _ U;refine q9 (Qy (Qm PyProof.Rows.slot_list_sort ⟨_,q,U⟩ PyProof.Rows.entry_list_sort (PyProof.Rows.list_sort_treeK PyProof.Rows.strKind_oneLt q i.keysOf (λ_ _ rest e=>PyProof.Rows.keyKind_strs (by rwa[<- e])) Yo λd H N=>⟨_,U,?_⟩) (PyProof.Rows.args_list_sort _)));obtain⟨zs,K,I,C⟩:=PyProof.Rows.sorted_out_str i H N;obtain⟨n,z⟩:=PyProof.Rows.sortedHeap_at (out:=(PyProof.Rows.arrOf d).map (·.2)) q
 have j:zs.Perm (es.toList.map λe=>txt e.2):=by
  refine I.trans ((g.map txt).trans ?_);rw[List.map_map];exact .refl _
 refine qe ⟨_,U,h _ c.heap.objs.size n zs ((PyProof.Rows.arrOf d).map (·.2)).toList (Nat.le_of_lt x) ?_ K (j.nodup_iff.mpr T.nd) (λk=>(j.mem_iff).trans (T.mem k)) C (by rw[j.length_eq,qa,qP]) (λb o e=>?_) G D⟩
 .exact z
 .have y:=old b o e;have lt:=qt y;have p:=(PyProof.Rows.sortedHeap_old (h:=c.heap.push { cls:=.type "list",data:=.seq vs.toArray }) (a:=c.heap.objs.size) (vs:=vs) (out:=(PyProof.Rows.arrOf d).map (·.2)) (qJ lt) (by rw[Qj];exact Qt lt));exact p.trans (qb _ y)
noncomputable def cZ(w:World):Obj:=aY #[] 0 (.fresh 0 0 (!w.params.followText "set-order"))
theorem DW(v:Value){Q1:LP}(h:Q1 (.ref s.heap.objs.size) { s with heap:=s.heap.push (cZ w) }):
 codeAny (model P w) A (.call (.builtin "set.__new__") ⟨[.type "set",v],[]⟩) (wants Q1 E) s:=by
 refine codeAny_of_tree ?_;show wpAny _ A.in1 (do checkBuiltinCall "set.__new__" ⟨[.type "set",v],[]⟩;again (.builtin "set.__new__" ⟨[.type "set",v],[]⟩)) _ _ s;have a:=F.entry_set_new;have pl:=F.plain_set_new;refine q9 (wpAny_of_eq (F.newCall_set_1 v) (qe ⟨plainId_quiet pl _,codeAny_builtin a ?_⟩));rw[Around.under_plainId pl _];unfold Builtin.«set.__new__» Builtin.Frozenset.newClass;have b:=sub_set_self;obtain⟨_,g,d,tk,os⟩:=s;dsimp only
 wp_walk
 refine wpAny_askSetting (qe ?_);dsimp only;simp only[newObj];refine q9 (wpAny_alloc (qe ?_));exact qe h
theorem uj:∀{vs:LL}{zs:LS},PyProof.Rows.StrsAre vs zs->zs.length=vs.length
 |_,_,.nil=>rfl
 |_,_,.cons _ _ r=>by rw[qE,qE,uj r]
theorem uk:∀{vs:LL}{zs:LS},PyProof.Rows.StrsAre vs zs->∀(i:Nat)(v:Value),vs[i]?=some v->∃k t,zs[i]?=some k/\v=.str k t
 |_,_,.nil,i,v,h=>by simp at h
 |_,_,.cons x t r,0,v,h=>by simp at h;exact⟨x,t,U,h.symm⟩
 |_,_,.cons x t r,i+1,v,h=>by
  simp only[List.getElem?_cons_succ]at h ⊢;exact uk r i v h
theorem ub:bP P w #[] (.fresh 0 0 (!w.params.followText "set-order")) []:=
 { el:=(λe a=>by cases a),nd:=List.nodup_nil,mem:=λ_=>Iff.rfl,few:=(by unfold scanBound;decide),fit:=U,led:=U,pl:=λz=>Q8 z (Qf 0) }
set_option maxHeartbeats 3200000 in
theorem Gr{l:Addr}{zs:LS}(X:A.handled=none)(hl:s.heap.IsList l items)(B:PyProof.Rows.StrsAre items.toList zs)(hb:items.size+1<scanBound)
 (h:∀(h':Heap)(tk:Nat) es ep t,h'.get? s.heap.objs.size=some (aY es ep t)->bP P w es t zs->
  (∀b o,b<s.heap.objs.size->s.heap.get? b=some o->h'.get? b=some o)->Q (.ref s.heap.objs.size) { s with heap:=h',toks:=tk }):
 wpAny (model P w) A (call (.type "set") [.ref l]) Q E s:=by
 obtain⟨c,tl,_⟩:=F.called_set.mro;have O:=F.called_set.made;have Z:=F.called_set.sub;refine wpAny_call (codeAny_of_tree ?_);show wpAny _ _ (callAny (.type "set") _) _ _ _;refine qe ⟨Code.quiet_builtin _ Yd,codeAny_builtin F.entry_type_call ?_⟩;rw[Around.under_plain (weight_type_call_type "set" [.ref l] []) U];have h1:=F.called_set.notType;have h2:=F.called_set.canCreate;have a1:=F.typeCall_set_1 (.ref l)
 repeat (any_goals (first|assumption|wp_step))
 refine codeAny_mono (DW (P:=P) (w:=w) (E:=E) (s:=s) (.ref l) (Q1:=λob D=>ob=.ref s.heap.objs.size/\D={ s with heap:=s.heap.push (cZ w) }) ⟨U,U⟩) λr D hr=>?_
 cases r with
 |error e=>exact hr
 |ok fl=>
  cases fl with
  |ret ob=>
   obtain⟨rfl,rfl⟩:=hr;have K:(s.heap.push (cZ w)).get? s.heap.objs.size=some (cZ w):=qr _ U;have hT:Shared.TypeIs { s with heap:=s.heap.push (cZ w) } (.ref s.heap.objs.size) "set":=⟨_,K,U⟩;have a2:=F.called_set.init.lookup;have a0:=F.called_set.init.bind (.ref s.heap.objs.size)
   repeat (any_goals (first|assumption|wp_step))
   refine codeAny_mono (codeAny_call_builtin (R:=wants (λr z=>r=.none/\∃h' tk,z={ s with heap:=h',toks:=tk }/\(∃es ep t,h'.get? s.heap.objs.size=some (aY es ep t)/\bP P w es t zs) /\
    (∀b o,b<s.heap.objs.size->s.heap.get? b=some o->h'.get? b=some o)) E) F.called_set.init.plain F.entry_set_init (check_set_init_1 hT ?_)) λS z d=>?_
   .obtain⟨ol,m,p,I,q⟩:=hl;obtain⟨_,g,_,a⟩:=ol;simp only at p q;subst p q;have x:(s.heap.push (cZ w)).get? l=some { cls:=.type "list",dict:=g,data:=.seq items I,slots:=a }:=qb _ m;have k1:=F.sub_list_set;have k2:=F.sub_list_frozenset;have k3:(Value.type "list" == Value.type "dict")=false:=Yk;have n:(s.heap.push (cZ w)).IsList l items:=⟨_,x,U,I,U⟩;unfold Builtin.«set.__init__» noKeywords Builtin.Frozenset.updateFrom;generalize hPI:pyIter=PI
    wp_walk
    subst hPI;refine wpAny_pyIter_list n ?_;refine q9 (wpAny_runValue ?_);have N:l<s.heap.objs.size:=qt m;have C:A.in1.in1.in1.handled=none:=by simp[X]
    have J:l≠(s.heap.push (cZ w)).objs.size:=by rw[Qj];exact qJ (Qt N)
    have G:s.heap.objs.size∉[(s.heap.push (cZ w)).objs.size,l]:=by
     rw[Qj];simp only[qw,qT,or_false,not_or];exact⟨qJ (Qe _),Nat.ne_of_gt N⟩
    have T:∀(i:Nat)(v:Value),items[i]?=some v->∃k t,zs[i]?=some k/\v=.str k t:=λi v V=>uk B i v (by rw[qW];exact V);have lz:zs.length=items.size:=by rw[<- qP];exact uj B
    refine FC ((Walks.list C _ l J items).toS) s.heap.objs.size G zs T hb (items.size-0) 0 _ Yo (qv _) ⟨⟨_,qr _ U,U,U⟩,(n.push _)⟩ ⟨#[],0,_,qb _ K,ub,qf _⟩ λs' j H=>?_;obtain⟨es,ep,t,u,f,_⟩:=H;obtain⟨h',g',d',L,M⟩:=s';have X0:g'=s.gens:=j.gens;have ed:d'=s.drawn:=j.drawn;have W:M=s.os:=j.os;subst X0 ed W;refine qe ?_;rw[<- lz,qK]at f;refine qe ⟨U,h',L,U,⟨es,ep,t,u,f⟩,λb o hb e=>?_⟩;have n1:b≠s.heap.objs.size:=qJ hb;have n2:b≠(s.heap.push (cZ w)).objs.size:=by rw[Qj];exact qJ (Qt hb)
    exact j.heap b o (by simp only[qw,qT,or_false,not_or];exact⟨n1,n2⟩) (qb _ (qb _ e))
   .cases S with
    |error e=>exact d
    |ok y=>
     cases y with
     |ret r=>
      obtain⟨rfl,h',tk,rfl,⟨es,ep,t,u,f⟩,hk⟩:=d
      repeat (any_goals (first|assumption|wp_step))
      exact h _ _ _ _ _ u f hk
     |_=>exact d.elim
  |_=>exact hr.elim
noncomputable def dW(P:Program)(w:World)(a:Addr)(ys:LS):HO:=.ext λh=>∃es ep t,h.get? a=some (aY es ep t)/\bP P w es t ys
theorem dW.ok(e:h.get? a=some (aY es ep t))(T:bP P w es t ys):bJ P w H h a (dW P w a ys):=
 ⟨⟨es,ep,t,e,T⟩,⟨_,e⟩,λ_ _ ⟨es,ep,t,q,T⟩ k=>⟨es,ep,t,k _ q,T⟩⟩
theorem n8:∀{ys:LS}{its:LL},ax (ys.map V.str) its->StrsAre its ys
 |[],_,.nil=>.nil
 |y::ys,_,.cons r t=>by
  obtain⟨k,rfl⟩:=r;exact .cons y k (n8 t)
theorem rh:∀{ys:LS}{its:LL},StrsAre its ys->ax (ys.map V.str) its
 |_,_,.nil=>.nil
 |_,_,.cons x t r=>.cons ⟨t,U⟩ (rh r)
theorem j7{zs ds:LS}(h:zs.Nodup)(k:∀x∈zs,x∈ds):zs.length<=ds.length:=by
 induction zs generalizing ds with
 |nil=>exact qv _
 |cons x r c=>
  have a:=k x qq;have h':=List.nodup_cons.mp h;have:=c (ds:=ds.erase x) h'.2 λy b=>(List.mem_erase_of_ne (by rintro rfl;exact h'.1 b)).mpr (k y (qp _ b));rw[List.length_erase_of_mem a]at this;have:0<ds.length:=List.length_pos_of_mem a;simp only[qE];omega
theorem Inv.redrawn(I:Inv X pins Y H { s with heap:=s'.heap })(a:s'.gens=s.gens)(b:s'.os=s.os):Inv X pins Y H s':=
 ⟨I.ok,b.trans I.os,by rw[a];exact I.bare,I.base,I.loc,I.cell,I.free,I.freeC,I.pin,I.hok,I.len⟩
theorem mG(g:X.calm=true):cJ X (.type "set") (λxs H Q=>∃p ys,xs=[.ref p]/\SqL X.K H p (ys.map V.str)/\ys.length<4000/\∀l,H l=none->Q (.ref l) (upd H l (dW X.prog X.w l ys))):=by
 intro _ s Y H xs us Q I r h;obtain⟨p,ys,rfl,f,_,q⟩:=h;obtain⟨u,rfl,d⟩:=fF r;cases d;obtain⟨_,c,pl,_⟩:=I.list f;have a:=c.length;rw[qa]at a;refine Gr (I.ok.hd g) pl.isList (zs:=ys) (by simpa using n8 c) (by simp only[qF];unfold scanBound;omega) λh' tk es _ t e T k=>?_;have kp:∀b o,s.heap.get? b=some o->h'.get? b=some o:=λb o q=>k b o (qt q) q;exact⟨.ref s.heap.objs.size,_,I.laid (t':=tk) kp (qf _) (dW.ok e T),U,q _ (I.hok.fresh (qf _))⟩
theorem sW(y:X.calm=true):cJ X (.builtin "sorted") (λxs H Q=>∃(p:Addr)(ys ds:LS),xs=[.ref p]/\H p=some (dW X.prog X.w p ys)/\(∀k∈ys,k∈ds)/\ds.length<64 /\
 ∀l zs,H l=none->zs.Nodup->(∀k,k∈zs↔k∈ys)->sortedS zs=true->Q (.ref l) (upd H l (.lst (zs.map V.str)))):=by
 intro _ s Y H xs us Q I r h;obtain⟨p,ys,ds,rfl,v,hd,_,q⟩:=h;obtain⟨u,rfl,m⟩:=fF r;cases m;obtain⟨⟨es,_,t,e,T⟩,_,_⟩:=I.hok p _ v
 have few:es.size<64:=by
  have:=j7 T.nd λx z=>hd x ((T.mem x).mp z);rw[qa,qP]at this;omega
 refine AC (I.ok.hd y) e T few λA l n zs out hl g i nd d so c kp j b=>?_;have f:zs.length<=sizeLine:=by rw[c];exact fits_of_scanBound T.few
 have J:=I.laid (t':=s.toks) (h':=A.heap) (a:=l) (o:=.lst (zs.map V.str)) kp hl ⟨by rwa[qa],out,n,rh i,g⟩;exact⟨.ref l,_,Inv.redrawn (s:=s) J j b,U,q l zs (I.hok.fresh hl) nd d so⟩
theorem El:typeLookup (.type "list_reverseiterator") "__len__"=pure none:=by rw[typeLookup_type,builtinLookup_eq_fast];kernel_rfl
theorem Em:typeLookup (.type "list_reverseiterator") "__length_hint__"=pure (some (.builtin "list_reverseiterator.__length_hint__")):=by rw[typeLookup_type,builtinLookup_eq_fast];kernel_rfl
theorem Es{l:Addr}(J:A.handled=none)(t:l≠I)(y:s.heap.IsRevIter I l ((items.size:Int)-1))(hl:s.heap.IsList l items)(G:items.size<=sizeLine)
 (h:∀h' tk p,(∀b o,b≠I->s.heap.get? b=some o->h'.get? b=some o)->h'.get? s.heap.objs.size=some { cls:=.type "list",data:=.seq items.toList.reverse.toArray p }->Q (.ref s.heap.objs.size) { s with heap:=h',toks:=tk }):
 wpAny (model P w) A (call (.type "list") [.ref I]) Q E s:=by
 obtain⟨_,N,_,_⟩:=id y;obtain⟨_,O,_⟩:=id hl;have L:=qt N;have D:=qt O;refine callType_codes (Q₁:=λob r=>ob=.ref s.heap.objs.size/\r={ s with heap:=s.heap.push { cls:=.type "list",data:=.seq #[] } }) F.called_list (F.typeCall_list_1 _) F.entry_list_init (code_list_new _ ⟨U,U⟩) λob r f=>?_;obtain⟨rfl,rfl⟩:=f;have j:(s.heap.push { cls:=.type "list",data:=.seq #[] }).get? s.heap.objs.size=some { cls:=.type "list",data:=.seq #[] }:=qr _ U;exists ⟨_,j,U⟩,F.args_list_init_2 _ _;show wpAny _ _ (do let old <- Builtin.List.listItems (.ref s.heap.objs.size);Builtin.List.listUpdate (.ref s.heap.objs.size) (λ_=>#[]);letGo old.toList.reverse;Builtin.List.listExtendWith (.ref s.heap.objs.size) (.ref I) .none) _ _ _;refine q9 ?_;unfold Builtin.List.listItems;refine q9 (Qz j U (qe ?_));refine q9 ?_;show wpAny _ _ (updateSeq s.heap.objs.size (λ_=>#[])) _ _ _;refine wpAny_updateSeq j U ?_;have x:=Qk (Obj.mapSeq (λ_=>(#[]:LD))) j U
 have c:∀b o,b≠s.heap.objs.size->s.heap.get? b=some o->((s.heap.push { cls:=.type "list",data:=.seq #[] }).update s.heap.objs.size (Obj.mapSeq (λ_=>(#[]:LD)))).get? b=some o:=
  λb o hb e=>(Qw _ _ (Ne.symm hb)).trans (qb _ e)
 refine q9 (wpAny_letGo ?_);have n:I≠s.heap.objs.size:=qJ L;have C:l≠s.heap.objs.size:=qJ D;have d:=y.at λo e=>c I o n e;have v:=hl.at λo e=>c l o C e;have ty:=d.typeIs (s:={ s with heap:=(s.heap.push { cls:=.type "list",data:=.seq #[] }).update s.heap.objs.size (Obj.mapSeq (λ_=>(#[]:LD))) });unfold Builtin.List.listExtendWith;refine q9 (wpAny_typeOf ty ?_);have f:Builtin.List.listSameRef (.ref s.heap.objs.size) (.ref I)=false:=by simp[Builtin.List.listSameRef,Ne.symm n]
 rw[Q4 (by rw[f];decide)];refine q9 (wpAny_pyIter_revIter d ?_);refine q9 (Qy ?_);unfold Builtin.List.listLengthHint;refine q9 (wpAny_specialOf ty El ?_);show wpAny _ _ (specialOf (Value.ref I) (Str.ofString "__length_hint__") >>= _) _ _ _;refine q9 (wpAny_specialOf ty Em ?_)
 (generalize hid:("list_reverseiterator.__length_hint__":String)=id0;(fail_if_success (clear hid id0));wp_delta;rw[show splitId id0=some ("list_reverseiterator","__length_hint__")from by subst hid;decide +kernel];subst hid)
 refine q9 (wpAny_isInstance (b:=true) ty (by rw[isSubtype_type];kernel_rfl) ?_);refine qe ?_;rw[Q4 Yk];have W:=(Walks.listRev (prog:=P) (w:=w) (A:=A.in1.in1) (by simp[J]) I l t items).toS;have g:s.heap.objs.size∉[I,l]:=by simp[Ne.symm n,Ne.symm C]
 refine qe ⟨plainId_quiet F.plain_extend_loop _,codeAny_extend_loopS W G _ g _ items.size 0 _ _ _ U (qv _) ⟨qv _,by simpa using d,v⟩ x (ItemsOf.nil _) λS m p k u a=>?_⟩;exists U;obtain⟨h',g',d',z,B⟩:=S;have K:g'=s.gens:=k.gens;have M:d'=s.drawn:=k.drawn;have H:B=s.os:=k.os;subst K M H
 have R:m=items.toList.reverse.toArray:=by
  refine Array.ext (by simp[a.1]) λi f _=>?_;have q:=a.2 i _ (Array.getElem?_eq_getElem f);change items[items.size-1-i]?=some m[i]at q;have lt:items.size-1-i<items.size:=by have:=a.1;omega
  rw[Array.getElem?_eq_getElem lt]at q;simp only[List.getElem_toArray,List.getElem_reverse,Array.getElem_toList,qP];exact(qM q).symm
 subst R;refine h h' z p (λb o hb e=>?_) u
 .have nb:b≠s.heap.objs.size:=qJ (qt e);exact k.heap b o (by simp[nb,hb]) (c b o nb e)
theorem DZ:MtR X "str.index" (λv xs H Q=>∃(z y:Str)(i:Nat)(r:LG),v=.str z/\xs=[.str y]/\Builtin.Str.occurrences z y 0 z.length 1=i::r/\Q (.int (i:Int)) H):=by
 intro _ s Y H x xs v us Q I a r h;obtain⟨z,y,i,l,rfl,rfl,b,q⟩:=h;obtain⟨t,rfl⟩:=a;obtain⟨u,rfl,t',rfl⟩:=fF r;exact call_gives PySem.F.slot_str_index (typeIs_str _ _ _) PySem.F.entry_str_index (PySem.F.args_str_index_2 _ _) (gives_str_index z y t t' i l b) ⟨.int i,H,I.tok _,⟨_,U⟩,q⟩
theorem ax.rev:∀{xs:LV}{us:LL},ax xs us->ax xs.reverse us.reverse
 |_,_,.nil=>.nil
 |_,_,.cons r t=>by
  rw[List.reverse_cons,List.reverse_cons];exact ax.append (ax.rev t) (.cons r .nil)
def A5(K:W.Frag)(te:TE):TE:=λY H Q=>te Y H λx H1=>∃p ys,x=.ref p/\SqL K H1 p ys/\∀l,H1 l=none->Q (.ref l) (upd H1 l (.lst ys.reverse))
theorem CI{w k i f:Pos}(A:X.calm=true)(P:Gl X "list")(N:X.mg "list"=none)(r:Gl X "reversed")(m:X.mg "reversed"=none)(D:PE X e te)
 (v:starEach [e] X.env=[(false,eval e X.env)]:=by rfl) (l:starEach [.Call (.Name "reversed" k) [e] [] f] X.env=[(false,eval (.Call (.Name "reversed" k) [e] [] f) X.env)]:=by rfl):
 PE X (.Call (.Name "list" w) [.Call (.Name "reversed" k) [e] [] f] [] i) (A5 X.K te):=by
 intro j s Y H Q I h;refine wpAny_Call_Name_kw (gR I P N PyProof.Rows.Boot.«list» ?_);refine PyProof.Rows.callWith_type1 ?_ (by rw[l];rfl) U;rw[l];show wpAny _ _ (spliced ((false,eval (.Call (.Name "reversed" k) [e] [] f) X.env)::backTo i [])) _ _ s;refine Calls.spliced_cons ?_;refine wpAny_Call_Name_kw (gR I r m PyProof.Rows.Boot.«reversed» ?_);refine PyProof.Rows.callWith_type1 ?_ (by rw[v];rfl) U;rw[v];show wpAny _ _ (spliced ((false,eval e X.env)::backTo f [])) _ _ s;refine Calls.spliced_cons (thn (D j s Y H _ I h) λu d ⟨x,E,g,R,C⟩=>?_);refine Calls.spliced_nil ?_;obtain⟨p,ys,rfl,F,q⟩:=C;cases R;obtain⟨c,t,pl,B⟩:=g.list F;have z:=t.length;have hl:=pl.isList;obtain⟨_,O,_⟩:=id hl;have y:=qt O;refine call_reversed_list hl ?_;refine Calls.spliced_nil ?_;have S:Inv X j Y E { d with heap:=d.heap.push (revObj p ((c.toArray.size:Int)-1)) }:=g.kept (t':=d.toks) λb o e=>qb _ e;have G:(d.heap.push (revObj p ((c.toArray.size:Int)-1))).IsRevIter d.heap.objs.size p ((c.toArray.size:Int)-1):=⟨_,qr _ U,U,U⟩;refine Es (s:={ d with heap:=d.heap.push (revObj p ((c.toArray.size:Int)-1)) }) (g.ok.hd A) (qJ y) G (hl.at λo e=>qb _ e) (by simp only[qF];omega) λh' tk L kp M=>?_;have n:∀b o,d.heap.get? b=some o->h'.get? b=some o:=λb o e=>kp b o (qJ (qt e)) (qb _ e);have sz:(d.heap.push (revObj p ((c.toArray.size:Int)-1))).objs.size=d.heap.objs.size+1:=Qj ..;have J:=g.laid (t':=tk) (h':=h') (a:=(d.heap.push (revObj p ((c.toArray.size:Int)-1))).objs.size) (o:=.lst ys.reverse) n (by rw[sz];exact Nat.le_succ _) ⟨by rw[List.length_reverse];exact B,c.reverse,L,t.rev,by simpa using M⟩;exact⟨.ref (d.heap.push (revObj p ((c.toArray.size:Int)-1))).objs.size,_,J,U,q _ (g.hok.fresh (by rw[sz];exact Nat.le_succ _))⟩
theorem sS{xs:LV}{g:TG}{f:LV->Hp->Prop}(c:Nat->LV->St->Hp->Prop)(h0:c 0 [] Y H)(n:∀i ys Y H,i<=xs.length->c i ys Y H->ys.length<=i)(o:xs.length<=sizeLine)(hl:∀i ys Y H,c i ys Y H->SqT K H a xs)
 (j:∀i x ys Y H,xs[i]?=some x->c i ys Y H->g x Y H λd H2=>tt d H2 λb h=>if b=true then te d h λy H4=>c (i+1) (ys++[y]) d H4 else c (i+1) ys d h)
 (hd:∀ys Y H,c xs.length ys Y H->f ys H):∃W:Nat->Nat->LV->St->Hp->Prop,(∃m,W 0 m [] Y H)/\gZ (Itt K a) g tt te f W:=by
 exists λi m ys Y H=>m=xs.length-i/\i<=xs.length/\c i ys Y H,⟨_,U,qv _,h0⟩;rintro i m ys Y H ⟨rfl,k,p⟩;have few:=n i ys Y H k p;have q:=hl i ys Y H p;by_cases lt:i<xs.length
 .refine .inr ⟨⟨xs,xs[i],q,by simp[lt]⟩,Yo,c (i+1),λ_ _ H' l=>⟨_,Yo,U,lt,l⟩,λv H' y=>?_⟩;obtain⟨e,y⟩:=y;subst e;exact j i v ys Y _ (y xs q) p
 .obtain rfl:i=xs.length:=by omega
  exact .inl ⟨⟨xs,q,qf _⟩,Yo,hd ys Y H p⟩
theorem bD{b:Bool}{A:Prop}(h:b=true)(x:A):if b=true then A else B:=by rwa[Q5 h]
theorem aL{b:Bool}{A:Prop}(h:b=false)(x:B):if b=true then A else B:=by rw[Q4 (by rw[h];decide)];exact x
theorem ifN{x:V}{A:Prop}(h:x≠y)(b:B):if decide (x=y)=true then A else B:=by rw[Q4 (by rwa[decide_eq_true_iff])];exact b
end L2
namespace Tr
open PySem PySem.Spec PyProof.Rows L2
inductive Val
 |num (n:Int)
 |nm (x:Str)
inductive ae
 |set (x:Str) (a:Val) (sg:Str) (b:Val)
 |put (q x:Str)
 |get (q x:Str)
 |give (x:Str)
 |cond (x:Str) (t o:List ae)
 |whl (x:Str) (b:List ae)
 |rep (n:Int) (b:List ae)
noncomputable def Val.names:Val->LS
 |.num _=>[]
 |.nm x=>[x]
noncomputable def ae.names:ae->LS
 |.set x a _ b=>x::(a.names++b.names)
 |.put _ x|.get _ x|.give x|.cond x _ _|.whl x _=>[x]
 |.rep _ _=>[]
noncomputable def ae.inner:ae->List (List ae)
 |.cond _ t o=>[t,o]
 |.whl _ b|.rep _ b=>[b]
 |_=>[]
noncomputable def ae.others:ae->LS
 |.put q _=>[q++(">":Str)]
 |.get q _=>[q++("<":Str)]
 |.give _|.whl _ _=>[(">":Str)]
 |_=>[]
mutual
noncomputable def ae.flat:ae->List ae
 |.cond x t o=>.cond x t o::(aj t++aj o)
 |.whl x b=>.whl x b::aj b
 |.rep n b=>.rep n b::aj b
 |.set x a F b=>[.set x a F b]
 |.put q x=>[.put q x]
 |.get q x=>[.get q x]
 |.give x=>[.give x]
noncomputable def aj:List ae->List ae
 |[]=>[]
 |d::r=>d.flat++aj r
end
mutual
noncomputable def ae.depth:ae->Nat
 |.cond _ t o=>max (aO t) (aO o)+1
 |.whl _ b=>aO b+1
 |.rep _ b=>aO b+1
 |_=>0
noncomputable def aO:List ae->Nat
 |[]=>0
 |d::r=>max d.depth (aO r)
end
noncomputable def ae.cards(d:ae):LS:=d.names++d.others
noncomputable def cards(b:List ae):LS:=(aj b).flatMap ae.cards
theorem fB:∀(a b:List ae),aj (a++b)=aj a++aj b
 |[],b=>rfl
 |d::a,b=>by rw[Qp,aj,aj,fB a b,qQ]
theorem yq(a b:List ae):cards (a++b)=cards a++cards b:=by unfold cards;rw[fB,qX]
theorem sO:∀(a b:List ae),aO (a++b)=max (aO a) (aO b)
 |[],b=>by rw[Qo,aO,Nat.zero_max]
 |d::a,b=>by rw[Qp,aO,aO,sO a b,Nat.max_assoc]
theorem j6(d:ae):d.flat=d::d.inner.flatMap aj:=by
 cases d<;>simp[ae.flat,ae.inner]
theorem yn(d:ae):cards [d]=d.cards++d.inner.flatMap cards:=by
 unfold cards;rw[aj,aj,qA,j6,qI]
 congr 1
 rw[List.flatMap_assoc]
inductive Op
 |root
 |ifT (x:Str)
 |ifO (x:Str) (t:List ae)
 |whl (x:Str)
 |rep (n:Int)
structure Fr where
 op:Op
 ds:List ae
 shut:Bool
 times:Int
noncomputable def Fr.deed(f:Fr):ae:=match f.op with
 |.root=>.rep 0 f.ds
 |.ifT x=>.cond x f.ds []
 |.ifO x t=>.cond x t f.ds
 |.whl x=>.whl x f.ds
 |.rep n=>.rep n f.ds
noncomputable def Fr.add(g:Fr)(d:ae):Fr:={ g with ds:=g.ds++[d] }
noncomputable def iq:List Fr->List Fr
 |f::g::r=>g.add f.deed::r
 |st=>st
noncomputable def f9:Nat->List Fr->List ae
 |0,st=>(st.head?.map Fr.ds).getD []
 |n+1,st=>f9 n (iq st)
noncomputable def kh(st:List Fr):List ae:=f9 (st.length-1) st
noncomputable def Op.extra:Op->List ae
 |.ifO _ t=>t
 |_=>[]
noncomputable def Op.nms:Op->LS
 |.ifT x|.ifO x _|.whl x=>[x]
 |_=>[]
noncomputable def Op.one:Op->Nat
 |.root=>0
 |_=>1
def eW(C:LS):List Fr->Prop
 |[]=>False
 |[f]=>f.op=.root/\(∀k∈cards f.ds,k∈C)/\aO f.ds<=12
 |f::g::r=>f.op≠.root/\(∀k∈f.op.nms,k∈C)/\(∀k∈cards f.ds,k∈C)/\(∀k∈cards f.op.extra,k∈C)/\aO f.ds+(r.length+1)<=12/\aO f.op.extra+(r.length+1)<=12/\eW C (g::r)
noncomputable def cnt:List Fr->Nat
 |[]=>0
 |f::r=>(aj f.ds).length+(aj f.op.extra).length+f.op.one+cnt r
theorem FU{f:Fr}{C:LS}(h0:f.op≠.root)(d:(">":Str)∈C)(a:∀k∈f.op.nms,k∈C)(c:∀k∈cards f.ds,k∈C)(b:∀k∈cards f.op.extra,k∈C):∀k∈cards [f.deed],k∈C:=by
 intro k hk;rw[yn]at hk;unfold Fr.deed at hk
 cases e:f.op with
 |root=>exact Q8 e h0
 |ifT x=>
  rw[e]at hk a b;simp only[ae.cards,ae.names,ae.others,ae.inner,qI,List.flatMap_nil,qA,qi,qV]at hk;rcases hk with rfl|hk|hk
  .exact a _ (by simp[Op.nms])
  .exact c _ hk
  .exact Q8 hk (by simp[cards,aj])
 |ifO x t=>
  rw[e]at hk a b;simp only[ae.cards,ae.names,ae.others,ae.inner,qI,List.flatMap_nil,qA,qi,qV]at hk;rcases hk with rfl|hk|hk
  .exact a _ (by simp[Op.nms])
  .exact b _ hk
  .exact c _ hk
 |whl x=>
  rw[e]at hk a b;simp only[ae.cards,ae.names,ae.others,ae.inner,qI,List.flatMap_nil,qA,qi,qV]at hk;rcases hk with(rfl|rfl)|hk
  .exact a _ (by simp[Op.nms])
  .exact d
  .exact c _ hk
 |rep n=>
  rw[e]at hk;simp only[ae.cards,ae.names,ae.others,ae.inner,qI,List.flatMap_nil,qA,Qo,qi]at hk;exact c _ hk
theorem FS(f:Fr):aO [f.deed]<=max (aO f.ds) (aO f.op.extra)+1:=by
 unfold Fr.deed;cases e:f.op<;>simp only[aO,ae.depth,Op.extra]<;>omega
theorem FT{f:Fr}(h0:f.op≠.root):(aj [f.deed]).length<=(aj f.ds).length+(aj f.op.extra).length+f.op.one:=by
 unfold Fr.deed
 cases e:f.op with
 |root=>exact Q8 e h0
 |_=>simp[aj,ae.flat,Op.extra,Op.one]<;>omega
theorem eW.add{C:LS}{g:Fr}{r:List Fr}{d:ae}(h:eW C (g::r))(m:∀k∈cards [d],k∈C)(b:aO [d]+r.length<=12):eW C (g.add d::r):=by
 have a:(∀k∈cards g.ds,k∈C)->∀k∈cards (g.add d).ds,k∈C:=λz k hk=>by
  unfold Fr.add at hk;rw[yq,qi]at hk;exact hk.elim (z k) (m k)
 have hd:aO (g.add d).ds=max (aO g.ds) (aO [d]):=by unfold Fr.add;rw[sO]
 cases r with
 |nil=>exact⟨h.1,a h.2.1,by rw[hd];have:=h.2.2;simp at b;omega⟩
 |cons g' _=>
  obtain⟨c,j,e,f,_,i,l⟩:=h;simp only[qE]at b;exact⟨c,j,a e,f,by rw[hd];omega,i,l⟩
theorem eW.close{C:LS}(e:(">":Str)∈C){f g:Fr}{r:List Fr}(h:eW C (f::g::r)):eW C (iq (f::g::r)):=by
 obtain⟨b,d,a,c,_,_,i⟩:=h;refine i.add (FU b e d a c) ?_;have:=FS f;omega
theorem yk(g:Fr)(r:List Fr)(d:ae):cnt (g.add d::r)=cnt (g::r)+(aj [d]).length:=by
 simp only[cnt,Fr.add,fB,qc];omega
theorem yj{f g:Fr}{r:List Fr}(h0:f.op≠.root):cnt (iq (f::g::r))<=cnt (f::g::r):=by
 show cnt (g.add f.deed::r)<=_;rw[yk];have:=FT h0;simp only[cnt];omega
theorem tV{C:LS}(a:(">":Str)∈C):∀(n:Nat)(st:List Fr),st.length=n+1->eW C st->(∀k∈cards (f9 n st),k∈C)/\aO (f9 n st)<=12/\(aj (f9 n st)).length<=cnt st
 |0,[f],_,h=>⟨h.2.1,h.2.2,by simp[f9,cnt];omega⟩
 |n+1,f::g::r,hl,h=>by
  have:=tV a n (iq (f::g::r)) (by simp[iq]at hl ⊢;omega) (h.close a);exact⟨this.1,this.2.1,qC this.2.2 (yj h.1)⟩
noncomputable def aA(c k:Int):Int:=(c % 2147483647 * (48271+1103 * k * k) % 2147483629+k) * (c % 2147483647 * (48271+1103 * k * k) % 2147483629+3 * k) % 2147483587
noncomputable def cW:Str:="abcdefghijklmnopqrstuvwxyz"
noncomputable def jS(n:Int):Nat->Int
 |0=>n
 |i+1=>jS n i / 26
noncomputable def c9(j:Int):Nat:=cW.cps.toList.getD j.toNat 0
noncomputable def sgn(c:Nat):Str:=⟨#[c]⟩
noncomputable def cB(n:Int):Nat->Str
 |0=>""
 |i+1=>cB n i++sgn (c9 (jS n i % 26))
noncomputable def kws:LS:=["ask","store","put","get","give","if","else","while","repeat","end"]
noncomputable def i9(w:Str):Int:=((w.cps.toList.getLastD 97:Nat):Int)-97
noncomputable def cQ(w:Str):Str:=if w∈kws then Txt.slice w none (some (-1))++sgn (c9 ((i9 w+13) % 26))else w
noncomputable def bS(c:Int):Str:=cB (aA c 1 * aA c 1+aA c 1) 8
noncomputable def eR(c k:Int):Str:=sgn (c9 ((aA c 1 / 192+k) % 26))
noncomputable def du(c:Int):Int:=1+aA c 1 / 3 % 8
noncomputable def d7(c:Int):Int:=aA c 1 / 24 % du c
noncomputable def bU(c k:Int):Str:=
 if aA c 1 % 3=0 then Txt.slice (bS c) none (some (d7 c))++eR c k++Txt.slice (bS c) (some (d7 c+1)) (some (du c))
 else if aA c 1 % 3=1 then Txt.slice (bS c) none (some (1+(aA c 1 / 24+k) % 8))
 else Txt.slice (eR c k++cB (aA c (k+2)) 7) none (some (1+aA c (k+40) % 8))
noncomputable def dr(c:Int)(n:Nat):LS:=(List.range n).map λ(k:Nat)=>cQ (bU c k)
noncomputable def cD(c:Int)(n:Nat):LS:=if aA c 1 / 5000 % 2=1 then(dr c n).reverse else dr c n
noncomputable def nth(l:LS)(i:Int):Str:=l.getD (i % l.length).toNat ""
noncomputable def vF(i:Int):Str:=sgn (("+-*/<=&|^":Str).cps.toList.getD (i % 9).toNat 0)
noncomputable def bE(n:Int)(names rooms:LS)(shut:Bool):ae:=
 if n % 14=6 then .give (nth names (n / 14))
 else if(n % 14=1\/n % 14=2\/n % 14=3\/n % 14=4\/n % 14=12\/n % 14=13)/\0<rooms.length/\shut=false then
  (if n % 14=3\/n % 14=4\/n % 14=13 then .get (nth rooms (n / 14 / 5)) (nth names (n / 14))else .put (nth rooms (n / 14 / 5)) (nth names (n / 14)))
 else .set (nth names (n / 14)) (if n / 14 / 125 % 4=0 then .num (n * n * n * 69621 % 1000000000000000000000000000000)else .nm (nth names (n / 14 / 5)))
  (vF (n / 14 / 1500)) (if n / 14 / 500 % 3=0 then .num (n * n * 48271 % 1000000000000000000000000000000)else .nm (nth names (n / 14 / 25)))
noncomputable def cF(n most times:Int):Int:=if 0<times then n / 70 % (1+most / times)else n / 70 % 100
noncomputable def gf(n:Int)(x:Str)(most:Int)(st:List Fr):List Fr:=match st with
 |[]=>[]
 |g::r=>(if n % 14=7 then⟨.ifT x,[],true,0⟩else if n % 14=8 then⟨.whl x,[],true,0⟩else⟨.rep (cF n most g.times),[],g.shut,g.times * cF n most g.times⟩)::g::r
noncomputable def Op.ifT?:Op->Option Str
 |.ifT x=>some x
 |_=>none
noncomputable def bZ(names rooms:LS)(most low:Int)(st:List Fr)(n:Int):List Fr:=match st with
 |[]=>[]
 |g::r=>
  if low<=n % 14/\n % 14<=9/\r.length+1<=12/\(n % 14<9\/0<most\/g.shut=true)then gf n (nth names (n / 14)) most (g::r)
  else match(if n % 14=10 then g.op.ifT? else none)with
   |some x=>{ g with op:=.ifO x g.ds,ds:=[] }::r
   |none=>if 10<=n % 14/\0<r.length then iq (g::r)else g.add (bE n names rooms g.shut)::r
noncomputable def st0:List Fr:=[⟨.root,[],false,1⟩]
noncomputable def df(names rooms:LS)(most low:Int)(cells:LI):List Fr:=cells.foldl (λst c=>bZ names rooms most low st (aA c 1)) st0
noncomputable def dA(names rooms:LS)(most low:Int)(cells:LI):List ae:=kh (df names rooms most low cells)
noncomputable def bn(names rooms:LS):LS:=names++rooms.map (·++(">":Str))++rooms.map (·++("<":Str))++[(">":Str)]
theorem i7{l:LS}(h:0<l.length)(i:Int):nth l i∈l:=by
 unfold nth;have c:0<=i % (l.length:Int):=Qd _ Yo;have b:i % (l.length:Int)<l.length:=Qi _ Yo;have a:(i % (l.length:Int)).toNat<l.length:=Yo;rw[qo,qd a];exact List.getElem_mem a
theorem AZ{n:Int}{names:LS}(h:0<names.length):∀k∈cards [bE n names rooms shut],k∈bn names rooms:=by
 have hn:∀i,nth names i∈bn names rooms:=λi=>by unfold bn;simp[i7 h i]
 have b:(">":Str)∈bn names rooms:=by unfold bn;simp
 intro k hk;unfold bE at hk;split at hk
 .simp[cards,aj,ae.flat,ae.cards,ae.names,ae.others]at hk;rcases hk with rfl|rfl
  .exact hn _
  .exact b
 .split at hk
  .rename_i hr;have a:=i7 hr.2.1 (n / 14 / 5);split at hk
   .simp[cards,aj,ae.flat,ae.cards,ae.names,ae.others]at hk;rcases hk with rfl|rfl
    .exact hn _
    .unfold bn;simp only[qi,List.mem_map];exact .inl (.inr ⟨_,a,U⟩)
   .simp[cards,aj,ae.flat,ae.cards,ae.names,ae.others]at hk;rcases hk with rfl|rfl
    .exact hn _
    .unfold bn;simp only[qi,List.mem_map];exact .inl (.inl (.inr ⟨_,a,U⟩))
  .simp only[cards,aj,ae.flat,ae.cards,ae.names,ae.others,qA,qI,List.flatMap_nil,qw,qi]at hk;rcases hk with rfl|hk|hk
   .exact hn _
   .split at hk
    .exact Q8 hk (by simp[Val.names])
    .simp[Val.names]at hk;subst hk;exact hn _
   .split at hk
    .exact Q8 hk (by simp[Val.names])
    .simp[Val.names]at hk;subst hk;exact hn _
theorem AY(n:Int)(names rooms:LS)(shut:Bool):aO [bE n names rooms shut]=0/\(aj [bE n names rooms shut]).length=1:=by
 unfold bE;split
 .exact⟨U,U⟩
 .split
  .split<;>exact⟨U,U⟩
  .exact⟨U,U⟩
theorem Ar{names:LS}{low n:Int}{st:List Fr}(h:0<names.length)(a:eW (bn names rooms) st)(hl:st.length<=13):
 eW (bn names rooms) (bZ names rooms most low st n)/\(bZ names rooms most low st n).length<=13/\cnt (bZ names rooms most low st n)<=cnt st+1:=by
 have o:(">":Str)∈bn names rooms:=by unfold bn;simp
 have hn:∀i,nth names i∈bn names rooms:=λi=>by unfold bn;simp[i7 h i]
 match st,a,hl with
 |g::r,a,hl=>
  unfold bZ;dsimp only;split
  .rename_i c;unfold gf;dsimp only;have b:cards []=[]:=U;split
   .exact⟨⟨by simp,by simp[Op.nms,hn],by simp[b],by simp[Op.extra,b],by simp[aO];omega,by simp[aO,Op.extra];omega,a⟩,by simp;omega,by simp[cnt,aj,Op.extra,Op.one];omega⟩
   .split
    .exact⟨⟨by simp,by simp[Op.nms,hn],by simp[b],by simp[Op.extra,b],by simp[aO];omega,by simp[aO,Op.extra];omega,a⟩,by simp;omega,by simp[cnt,aj,Op.extra,Op.one];omega⟩
    .exact⟨⟨by simp,by simp[Op.nms],by simp[b],by simp[Op.extra,b],by simp[aO];omega,by simp[aO,Op.extra];omega,a⟩,by simp;omega,by simp[cnt,aj,Op.extra,Op.one];omega⟩
  .split
   .rename_i x d
    have e:g.op=.ifT x:=by
     split at d
     .cases e:g.op<;>rw[e]at d<;>simp[Op.ifT?]at d;rw[d]
     .cases d
    cases r with
    |nil=>have:=a.1;rw[e]at this;cases this
    |cons g' k=>
     obtain⟨q,f,l,s,m,t,p⟩:=a;rw[e]at f;exists ⟨by simp,by simpa[Op.nms]using f,by simp[cards,aj],by simpa[Op.extra]using l,by simp[aO];omega,by simpa[Op.extra]using m,p⟩,hl;simp[cnt,e,Op.extra,Op.one,aj]
   .split
    .rename_i c
     cases r with
     |nil=>exact Q8 c.2 (by simp)
     |cons g' k=>exact⟨a.close o,by simp[iq]at hl ⊢;omega,qC (yj a.1) (Nat.le_succ _)⟩
    .have j:=AY n names rooms g.shut;refine⟨a.add (AZ h) (by rw[j.1];simp at hl;omega),by simpa using hl,?_⟩;rw[yk,j.2];exact qf _
theorem nA{names rooms:LS}{most low:Int}(h:0<names.length):∀(cells:LI)(st:List Fr),eW (bn names rooms) st->st.length<=13->
 eW (bn names rooms) (cells.foldl (λst c=>bZ names rooms most low st (aA c 1)) st)/\(cells.foldl (λst c=>bZ names rooms most low st (aA c 1)) st).length<=13/\cnt (cells.foldl (λst c=>bZ names rooms most low st (aA c 1)) st)<=cnt st+cells.length
 |[],st,hs,hl=>⟨hs,hl,qf _⟩
 |c::cs,st,hs,hl=>by
  obtain⟨b1,b2,_⟩:=Ar (most:=most) (low:=low) (n:=aA c 1) h hs hl;obtain⟨c1,c2,c3⟩:=nA h cs _ b1 b2;exact⟨c1,c2,by simp only[QC,qE];omega⟩
theorem GA{names:LS}{low:Int}(h:0<names.length)(a:LI):
 (∀k∈cards (dA names rooms most low a),k∈bn names rooms)/\aO (dA names rooms most low a)<=12/\(aj (dA names rooms most low a)).length<=a.length:=by
 have e:(">":Str)∈bn names rooms:=by unfold bn;simp
 obtain⟨b,_,d⟩:=nA (rooms:=rooms) (most:=most) (low:=low) h a st0 ⟨U,by simp[st0,cards,aj],by simp[st0,aO]⟩ (by simp[st0]);have ne:df names rooms most low a≠[]:=λz=>by unfold df at z;rw[z]at b;exact b
 have hl:(df names rooms most low a).length=((df names rooms most low a).length-1)+1:=by
  have:=List.length_pos_iff.mpr ne;omega
 obtain⟨b1,b2,c⟩:=tV e _ _ hl b;refine⟨b1,b2,qC c (qC d ?_)⟩;simp[cnt,st0,aj,Op.extra,Op.one]
noncomputable def Val.v:Val->V
 |.num n=>.int n
 |.nm x=>.str x
mutual
inductive RD(H:Hp):V->ae->Prop
 |set {p:Addr}{x:Str}{a:Val}{sg:Str}{b:Val}:H p=some (.tup [.str "set",.str x,a.v,.str sg,b.v])->RD H (.ref p) (.set x a sg b)
 |put {p:Addr}{q x:Str}:H p=some (.tup [.str "put",.str q,.str x])->RD H (.ref p) (.put q x)
 |get {p:Addr}{q x:Str}:H p=some (.tup [.str "get",.str q,.str x])->RD H (.ref p) (.get q x)
 |give {p:Addr}{x:Str}:H p=some (.tup [.str "give",.str x])->RD H (.ref p) (.give x)
 |cond {p t o:Addr}{x:Str}{ts os:List ae}:H p=some (.tup [.str "if",.str x,.ref t,.ref o])->RL H t ts->RL H o os->RD H (.ref p) (.cond x ts os)
 |whl {p b:Addr}{x:Str}{bs:List ae}:H p=some (.tup [.str "while",.str x,.ref b])->RL H b bs->RD H (.ref p) (.whl x bs)
 |rep {p b:Addr}{n:Int}{bs:List ae}:H p=some (.tup [.str "repeat",.int n,.ref b])->RL H b bs->RD H (.ref p) (.rep n bs)
inductive RL(H:Hp):Addr->List ae->Prop
 |mk {l:Addr}{vs:LV}{ds:List ae}:H l=some (.lst vs)->RDs H vs ds->RL H l ds
inductive RDs(H:Hp):LV->List ae->Prop
 |nil:RDs H [] []
 |cons {v:V}{vs:LV}{d:ae}{ds:List ae}:RD H v d->RDs H vs ds->RDs H (v::vs) (d::ds)
end
mutual
theorem RD.same{H H':Hp}(e:a8 H H'):∀{v:V}{d:ae},RD H v d->RD H' v d
 |_,_,.set h=>.set (e _ _ h)
 |_,_,.put h=>.put (e _ _ h)
 |_,_,.get h=>.get (e _ _ h)
 |_,_,.give h=>.give (e _ _ h)
 |_,_,.cond h a b=>.cond (e _ _ h) (RL.same e a) (RL.same e b)
 |_,_,.whl h a=>.whl (e _ _ h) (RL.same e a)
 |_,_,.rep h a=>.rep (e _ _ h) (RL.same e a)
theorem RL.same{H H':Hp}(e:a8 H H'):∀{l:Addr}{ds:List ae},RL H l ds->RL H' l ds
 |_,_,.mk h a=>.mk (e _ _ h) (RDs.same e a)
theorem RDs.same{H H':Hp}(e:a8 H H'):∀{vs:LV}{ds:List ae},RDs H vs ds->RDs H' vs ds
 |_,_,.nil=>.nil
 |_,_,.cons a b=>.cons (RD.same e a) (RDs.same e b)
end
theorem RDs.app{H:Hp}:∀{us vs:LV}{a b:List ae},RDs H us a->RDs H vs b->RDs H (us++vs) (a++b)
 |_,_,_,_,.nil,h=>h
 |_,_,_,_,.cons x r,h=>.cons x (RDs.app r h)
theorem RDs.len{H:Hp}:∀{vs:LV}{ds:List ae},RDs H vs ds->vs.length=ds.length
 |_,_,.nil=>rfl
 |_,_,.cons _ r=>by rw[qE,qE,RDs.len r]
theorem RDs.at{H:Hp}:∀{vs:LV}{ds:List ae},RDs H vs ds->∀(i:Nat)(v:V),vs[i]?=some v->∃d,ds[i]?=some d/\RD H v d
 |_,_,.nil,i,v,h=>by simp at h
 |_,_,.cons x r,0,v,h=>by simp at h;subst h;exact⟨_,U,x⟩
 |_,_,.cons x r,i+1,v,h=>by
  simp only[List.getElem?_cons_succ]at h ⊢;exact RDs.at r i v h
inductive RLs(H:Hp):LK->List (List ae)->Prop
 |nil:RLs H [] []
 |cons {l:Addr}{ls:LK}{d:List ae}{ds:List (List ae)}:RL H l d->RLs H ls ds->RLs H (l::ls) (d::ds)
theorem RLs.same{H H':Hp}(e:a8 H H'):∀{c:LK}{ds:List (List ae)},RLs H c ds->RLs H' c ds
 |_,_,.nil=>.nil
 |_,_,.cons a b=>.cons (RL.same e a) (RLs.same e b)
theorem RLs.len{H:Hp}:∀{a:LK}{ds:List (List ae)},RLs H a ds->a.length=ds.length
 |_,_,.nil=>rfl
 |_,_,.cons _ r=>by rw[qE,qE,RLs.len r]
theorem RLs.at{H:Hp}:∀{a:LK}{ds:List (List ae)},RLs H a ds->∀(i:Nat)(l:Addr),a[i]?=some l->∃d,ds[i]?=some d/\RL H l d
 |_,_,.nil,i,v,h=>by simp at h
 |_,_,.cons x r,0,v,h=>by simp at h;subst h;exact⟨_,U,x⟩
 |_,_,.cons x r,i+1,v,h=>by
  simp only[List.getElem?_cons_succ]at h ⊢;exact RLs.at r i v h
theorem ju:∀(r:LS)(x:Str),risingS x r=true->∀y∈r,x.cps.toList<=y.cps.toList
 |[],_,_,_,h=>nomatch h
 |z::r,x,h,y,a=>by
  have h':(!ltCps z.cps.toList x.cps.toList && risingS z r)=true:=h;rw[Bool.and_eq_true,Bool.not_eq_true',ltCps_eq,decide_eq_false_iff_not]at h';have b:x.cps.toList<=z.cps.toList:=List.not_lt.mp h'.1;rcases qw.mp a with rfl|a
  .exact b
  .exact List.le_trans b (ju r z h'.2 y a)
theorem kT:∀{r:LS},risingS x r=true->sortedS r=true
 |[],_=>rfl
 |z::r,h=>by
  have h':(!ltCps z.cps.toList x.cps.toList && risingS z r)=true:=h;exact(Bool.and_eq_true_iff.mp h').2
theorem um{y:Str}(h:x.cps.toList=y.cps.toList):x=y:=PyProof.Rows.ext_toList h
theorem vA:∀{a b:LS},a.Nodup->b.Nodup->sortedS a=true->sortedS b=true->(∀k,k∈a↔k∈b)->a=b
 |[],[],_,_,_,_,_=>rfl
 |[],y::s,_,_,_,_,h=>Q8 ((h y).mpr qq) (by simp)
 |x::r,[],_,_,_,_,h=>Q8 ((h x).mp qq) (by simp)
 |x::r,y::s,ha,hb,sa,sb,h=>by
  have c:=List.nodup_cons.mp ha;have d:=List.nodup_cons.mp hb
  have e:x=y:=by
   rcases qw.mp ((h x).mp qq)with e|f
   .exact e
   rcases qw.mp ((h y).mpr qq)with e|g
   .exact e.symm
   exact um (List.le_antisymm (ju r x sa y g) (ju s y sb x f))
  subst e;rw[vA c.2 d.2 (kT sa) (kT sb) λk=>?_];constructor
  .intro hk;rcases qw.mp ((h k).mp (qp _ hk))with e|z
   .subst e;exact Q8 hk c.1
   .exact z
  .intro hk;rcases qw.mp ((h k).mpr (qp _ hk))with e|z
   .subst e;exact Q8 hk d.1
   .exact z
end Tr
variable {ds:List Tr.ae}{Pd:Tr.ae->Prop}
abbrev LA:=List Tr.ae
namespace Tr
open PySem PySem.Spec PyProof.Rows L2
theorem a8.over{o:HO}(h:a8 H0 H)(a:H0 f=none):a8 H0 (upd H f o):=λb u q=>by
 rw[ag (cy q a)];exact h b u q
theorem a8.none(h:a8 H0 H)(a:H f=none):H0 f=none:=by
 cases q:H0 f with
 |none=>rfl
 |some o=>rw[h _ _ q]at a;cases a
structure Fz where
 f:Fr
 c:Addr
 p:Addr
 e:Addr
noncomputable def Fz.tupV(x:Fz):LV:=match x.f.op with
 |.root=>[]
 |.ifT n=>[.str "if",.str n,.ref x.c,.ref x.e]
 |.ifO n _=>[.str "if",.str n,.ref x.e,.ref x.c]
 |.whl n=>[.str "while",.str n,.ref x.c]
 |.rep n=>[.str "repeat",.int n,.ref x.c]
noncomputable def Fz.o(x:Fz):V:=match x.f.op with
 |.ifT _=>.ref x.e
 |_=>.non
noncomputable def Fz.muts(x:Fz):LK:=match x.f.op with
 |.ifT _=>[x.c,x.e]
 |_=>[x.c]
def Fz.side(x:Fz)(H0 H:Hp):Prop:=match x.f.op with
 |.ifT _=>H x.e=some (.lst [])
 |.ifO _ t=>RL H0 x.e t
 |_=>True
def ZR(H0 H:Hp):List Fz->LV->Prop
 |[],_=>False
 |x::r,tl=>(∃vs,H x.c=some (.lst (vs++tl))/\RDs H0 vs x.f.ds)/\x.side H0 H/\((x.f.op=.root/\r=[])\/(x.f.op≠.root/\H x.p=some (.tup x.tupV)/\ZR H0 H r [.ref x.p]))
theorem Fz.c_mem(x:Fz):x.c∈x.muts:=by unfold Fz.muts;split<;>simp
theorem ZR.frame{c H H':Hp}:∀{z:List Fz}{tl:LV},ZR c H z tl->(∀m∈z.flatMap Fz.muts,H' m=H m)->(∀p xs,H p=some (.tup xs)->H' p=some (.tup xs))->ZR c H' z tl
 |[],_,h,_,_=>h
 |x::r,tl,⟨⟨vs,h1,h2⟩,h3,b⟩,hm,ht=>by
  have d:∀m∈x.muts,H' m=H m:=λm a=>hm m (by simp[a]);have i:∀m∈r.flatMap Fz.muts,H' m=H m:=λm a=>hm m (by rw[qI];exact qL _ a);refine⟨⟨vs,by rwa[d _ x.c_mem],h2⟩,?_,?_⟩
  .unfold Fz.side at h3 ⊢;split
   .rename_i e;rw[e]at h3;rw[d x.e (by unfold Fz.muts;rw[e];simp)];exact h3
   .rename_i e;rw[e]at h3;exact h3
   .trivial
  .rcases b with b|⟨b,g,f⟩
   .exact .inl b
   .exact .inr ⟨b,ht _ _ g,ZR.frame f i ht⟩
theorem ZR.grow{d c H:Hp}(e:a8 d c):∀{z:List Fz}{tl:LV},ZR d H z tl->ZR c H z tl
 |[],_,h=>h
 |x::r,tl,⟨⟨vs,h1,h2⟩,a,b⟩=>by
  refine⟨⟨vs,h1,h2.same e⟩,?_,?_⟩
  .unfold Fz.side at a ⊢
   revert a
   cases x.f.op<;>intro a<;>first|exact a|exact RL.same e a
  .rcases b with b|⟨b,i,g⟩
   .exact .inl b
   .exact .inr ⟨b,i,ZR.grow e g⟩
noncomputable def wh:List Fr->LA->LA
 |[],_=>[]
 |[f],dt=>f.ds++dt
 |f::g::r,dt=>wh (g::r) [({ f with ds:=f.ds++dt }:Fr).deed]
theorem zE:∀(r:List Fr)(g:Fr)(d:ae),wh (g.add d::r) []=wh (g::r) [d]
 |[],g,d=>by simp[wh,Fr.add]
 |g'::r,g,d=>by simp[wh,Fr.add]
theorem ki:∀(n:Nat)(st:List Fr),st.length=n+1->f9 n st=wh st []
 |0,[f],_=>by simp[f9,wh]
 |n+1,f::g::r,h=>by
  have e:f9 (n+1) (f::g::r)=f9 n (g.add f.deed::r):=U;rw[e,ki n (g.add f.deed::r) (by simp at h ⊢;omega),zE,wh,qA]
noncomputable def jU:List Fz->Addr
 |[]=>0
 |[x]=>x.c
 |_::y::r=>jU (y::r)
theorem ZR.whole{d H:Hp}(e:a8 d H):∀{z:List Fz}{tl:LV}{dt:LA},ZR d H z tl->RDs H tl dt->RL H (jU z) (wh (z.map (·.f)) dt)
 |[],_,_,h,_=>h.elim
 |[x],tl,dt,⟨⟨vs,h1,h2⟩,_,_⟩,ht=>.mk h1 ((h2.same e).app ht)
 |x::y::r,tl,dt,⟨⟨vs,h1,h2⟩,h3,b⟩,ht=>by
  rcases b with⟨_,b⟩|⟨b,a,g⟩
  .cases b
  refine ZR.whole (z:=y::r) e g (.cons ?_ .nil);have hl:RL H x.c (x.f.ds++dt):=.mk h1 ((h2.same e).app ht);unfold Fz.tupV at a;unfold Fz.side at h3;unfold Fr.deed
  cases q:x.f.op with
  |root=>exact Q8 q b
  |ifT n=>
   rw[q]at a h3;exact .cond a hl (.mk h3 .nil)
  |ifO n t=>
   rw[q]at a h3;exact .cond a (RL.same e h3) hl
  |whl n=>
   rw[q]at a;exact .whl a hl
  |rep n=>
   rw[q]at a;exact .rep a hl
noncomputable def bh(S s0 s1 s2 s3:Addr)(z:List Fz):LK:=S::s0::s1::s2::s3::z.flatMap Fz.muts
structure ZI(Hb H0 H:Hp)(S s0 s1 s2 s3:Addr)(z:List Fz):Prop where
 hb:a8 Hb H0
 h0:a8 H0 H
 fz:∀m∈bh S s0 s1 s2 s3 z,H0 m=none
 nd:(bh S s0 s1 s2 s3 z).Nodup
 cS:H S=some (.lst [.ref s0,.ref s1,.ref s2,.ref s3])
 c0:H s0=some (.lst ((z.map λx=>V.ref x.c).reverse))
 c1:H s1=some (.lst ((z.map Fz.o).reverse))
 c2:H s2=some (.lst ((z.map λx=>V.bl x.f.shut).reverse))
 c3:H s3=some (.lst ((z.map λx=>V.int x.f.times).reverse))
 zr:ZR H0 H z []
section
variable {Hb H1:Hp}{S s0 s1 s2 s3:Addr}{z:List Fz}
theorem ZI.hbH(Z:ZI Hb H0 H S s0 s1 s2 s3 z):a8 Hb H:=Z.hb.trans Z.h0
theorem ZI.top(Z:ZI Hb H0 H S s0 s1 s2 s3 z):∃x r vs,z=x::r/\H x.c=some (.lst vs)/\RDs H0 vs x.f.ds:=by
 have:=Z.zr
 match z,this with
 |x::r,⟨⟨vs,h1,h2⟩,_⟩=>exact⟨x,r,vs,U,by simpa using h1,h2⟩
theorem ZR.lsts{tl:LV}:∀{z:List Fz},ZR H0 H z tl->∀m∈z.flatMap Fz.muts,∃vs,H m=some (.lst vs):=by
 intro z
 induction z generalizing tl with
 |nil=>intro h;exact h.elim
 |cons x r e=>
  rintro⟨⟨vs,d,_⟩,b,c⟩ m a;rw[qI]at a;rcases qi.mp a with a|a
  .unfold Fz.muts at a;unfold Fz.side at b;split at a<;>rename_i q
   .rw[q]at b;simp at a;rcases a with rfl|rfl
    .exact⟨_,d⟩
    .exact⟨_,b⟩
   .simp at a;subst a;exact⟨_,d⟩
  .rcases c with⟨_,c⟩|⟨_,_,f⟩
   .subst c;simp at a
   .exact e f m a
theorem ZI.lsts(Z:ZI Hb H0 H S s0 s1 s2 s3 z):∀m∈bh S s0 s1 s2 s3 z,∃vs,H m=some (.lst vs):=by
 intro m a;unfold bh at a;simp only[qw]at a;rcases a with rfl|rfl|rfl|rfl|rfl|a
 .exact⟨_,Z.cS⟩
 .exact⟨_,Z.c0⟩
 .exact⟨_,Z.c1⟩
 .exact⟨_,Z.c2⟩
 .exact⟨_,Z.c3⟩
 .exact Z.zr.lsts m a
theorem ZI.same(Z:ZI Hb H0 H S s0 s1 s2 s3 z)(e:a8 H H1):ZI Hb H0 H1 S s0 s1 s2 s3 z where
 hb:=Z.hb
 h0:=Z.h0.trans e
 fz:=Z.fz
 nd:=Z.nd
 cS:=e _ _ Z.cS
 c0:=e _ _ Z.c0
 c1:=e _ _ Z.c1
 c2:=e _ _ Z.c2
 c3:=e _ _ Z.c3
 zr:=Z.zr.frame (λm a=>by obtain⟨vs,h⟩:=Z.zr.lsts m a;rw[h];exact e _ _ h) λp xs h=>e _ _ h
end
end Tr
variable {z:List Tr.Fz}
abbrev LB:=List Tr.Fz
namespace Tr
open PySem PySem.Spec PyProof.Rows L2
section
variable {Hb H1:Hp}{S s0 s1 s2 s3:Addr}
theorem ZI.ne(Z:ZI Hb H0 H S s0 s1 s2 s3 z){m:Addr}(a:m∈z.flatMap Fz.muts):S≠m/\s0≠m/\s1≠m/\s2≠m/\s3≠m:=by
 have nd:=Z.nd;unfold bh at nd;simp only[List.nodup_cons,qw,not_or]at nd;obtain⟨⟨_,_,_,_,n0⟩,⟨_,_,_,n1⟩,⟨_,_,n2⟩,⟨_,b⟩,c,_⟩:=nd;exact⟨(λe=>n0 (e▸a)),(λe=>n1 (e▸a)),(λe=>n2 (e▸a)),(λe=>b (e▸a)),(λe=>c (e▸a))⟩
theorem ZI.ss(Z:ZI Hb H0 H S s0 s1 s2 s3 z):S≠s0/\S≠s1/\S≠s2/\S≠s3/\s0≠s1/\s0≠s2/\s0≠s3/\s1≠s2/\s1≠s3/\s2≠s3:=by
 have nd:=Z.nd;unfold bh at nd;simp only[List.nodup_cons,qw,not_or]at nd;obtain⟨⟨d,f,c,e,_⟩,⟨b1,b2,b,_⟩,⟨c1,c2,_⟩,⟨a,_⟩,_⟩:=nd;exact⟨d,f,c,e,b1,b2,b,c1,c2,a⟩
theorem ZI.ndz(Z:ZI Hb H0 H S s0 s1 s2 s3 z):(z.flatMap Fz.muts).Nodup:=by
 have nd:=Z.nd;unfold bh at nd;simp only[List.nodup_cons]at nd;exact nd.2.2.2.2.2
theorem ZI.fzz(Z:ZI Hb H0 H S s0 s1 s2 s3 z){m:Addr}(a:m∈z.flatMap Fz.muts):H0 m=none:=Z.fz m (by unfold bh;simp[a])
theorem cP{p m:Addr}{xs vs:LV}(b:H p=some (.tup xs))(a:H m=some (.lst vs)):p≠m:=wW b a (by intro z;cases z)
theorem gP{x:Fz}{r:LB}:x.c∈(x::r).flatMap Fz.muts:=by rw[qI];exact qY _ x.c_mem
theorem rB{x:Fz}{r:LB}{m:Addr}(h:m∈r.flatMap Fz.muts):m∈(x::r).flatMap Fz.muts:=by rw[qI];exact qL _ h
theorem sZ{x:Fz}{r:LB}(nd:((x::r).flatMap Fz.muts).Nodup){m:Addr}(h:m∈r.flatMap Fz.muts):m≠x.c:=by
 rw[qI]at nd;intro e;exact(List.nodup_append.mp nd).2.2 x.c x.c_mem m h e.symm
theorem nH{x:Fz}{r:LB}(nd:((x::r).flatMap Fz.muts).Nodup){n:Str}(q:x.f.op=.ifT n):x.e≠x.c/\x.e∈x.muts/\∀m∈r.flatMap Fz.muts,m≠x.e:=by
 rw[qI]at nd;have h:=List.nodup_append.mp nd;have e:x.muts=[x.c,x.e]:=by unfold Fz.muts;rw[q]
 rw[e]at h;refine⟨?_,by rw[e];simp,λm a z=>h.2.2 x.e (by simp) m a z.symm⟩;have:=h.1;simp at this;exact λz=>this z.symm
theorem ZR.rest{x:Fz}{r:LB}{tl:LV}{o:HO}(zr:ZR H0 H (x::r) tl)(nd:((x::r).flatMap Fz.muts).Nodup){vs:LV}(d:H x.c=some (.lst vs)):
 x.side H0 (upd H x.c o)/\((x.f.op=.root/\r=[])\/(x.f.op≠.root/\(upd H x.c o) x.p=some (.tup x.tupV)/\ZR H0 (upd H x.c o) r [.ref x.p])):=by
 obtain⟨_,a,b⟩:=zr;refine⟨?_,?_⟩
 .unfold Fz.side at a ⊢
  cases q:x.f.op with
  |ifT n=>
   rw[q]at a;show(upd H x.c o) x.e=some (.lst []);rwa[ag (nH nd q).1]
  |ifO n t=>rw[q]at a;exact a
  |root=>trivial
  |whl n=>trivial
  |rep n=>trivial
 .rcases b with b|⟨b,g,j⟩
  .exact .inl b
  .refine .inr ⟨b,by rwa[ag (cP g d)],j.frame (λm i=>ag (sZ nd i)) λp xs h=>by rwa[ag (cP h d)]⟩
theorem ZI.push{x:Fz}{r:LB}{vs xs:LV}{p:Addr}{d:ae}(Z:ZI Hb H0 H S s0 s1 s2 s3 (x::r))(i:H x.c=some (.lst vs))(a:H p=some (.tup xs))(k:H0 p=none)(hd:RD (upd H0 p (.tup xs)) (.ref p) d):
 ZI Hb (upd H0 p (.tup xs)) (upd H x.c (.lst (vs++[.ref p]))) S s0 s1 s2 s3 ({ x with f:=x.f.add d }::r):=by
 have n:=Z.ne (gP (x:=x) (r:=r));have s:=cP a i;have w:H0 x.c=none:=Z.fzz gP;have g:a8 H0 (upd H0 p (.tup xs)):=a8.new k _;have rest:=(Z.zr.rest (o:=.lst (vs++[.ref p])) Z.ndz i);refine{ hb:=Z.hb.trans g,h0:=?_,fz:=?_,nd:=Z.nd,cS:=?_,c0:=?_,c1:=?_,c2:=?_,c3:=?_,zr:=?_ }
 .intro b u q;by_cases e:b=p
  .subst e;rw[ah]at q;cases q;rwa[ag s]
  .rw[ag e]at q;rw[ag (cy q w)];exact Z.h0 _ _ q
 .intro m j;obtain⟨_,hw⟩:=Z.lsts m j;rw[ag (Ne.symm (cP a hw))];exact Z.fz m j
 .rw[ag n.1];exact Z.cS
 .rw[ag n.2.1];exact Z.c0
 .rw[ag n.2.2.1];exact Z.c1
 .rw[ag n.2.2.2.1];exact Z.c2
 .rw[ag n.2.2.2.2];exact Z.c3
 .obtain⟨⟨_,l,y⟩,_,_⟩:=Z.zr;rw[qA,i]at l;cases l;refine⟨⟨vs++[.ref p],by rw[qA];exact ah,(y.same g).app (.cons hd .nil)⟩,?_,?_⟩
  .have q:=rest.1;unfold Fz.side at q ⊢;dsimp only[Fr.add]
   revert q
   cases x.f.op<;>intro q<;>first|exact q|exact RL.same g q
  .rcases rest.2 with h|⟨h,t,v⟩
   .exact .inl h
   .exact .inr ⟨h,t,v.grow g⟩
end
section
variable {Hb:Hp}{S s0 s1 s2 s3:Addr}
theorem ZI.opened{x y:Fz}{r:LB}{vs:LV}(Z:ZI Hb H0 H S s0 s1 s2 s3 (x::r))(v:H x.c=some (.lst vs))
 (k:∀b u,b≠x.c->b≠s0->b≠s1->b≠s2->b≠s3->H b=some u->H' b=some u) (nm:∀m∈y.muts,H m=none/\H' m=some (.lst [])) (M:y.muts.Nodup) (K:H' y.p=some (.tup y.tupV))
 (A:y.f.op≠.root) (z:∀n t,y.f.op≠.ifO n t) (E:y.f.ds=[])
 (Q:H' x.c=some (.lst (vs++[.ref y.p]))) (I:H' s0=some (.lst (((x::r).map λx=>V.ref x.c).reverse++[.ref y.c]))) (N:H' s1=some (.lst (((x::r).map Fz.o).reverse++[y.o])))
 (O:H' s2=some (.lst (((x::r).map λx=>V.bl x.f.shut).reverse++[.bl y.f.shut]))) (J:H' s3=some (.lst (((x::r).map λx=>V.int x.f.times).reverse++[.int y.f.times]))):ZI Hb H0 H' S s0 s1 s2 s3 (y::x::r):=by
 have sn:=Z.ss;have G:=Z.ne (gP (x:=x) (r:=r))
 have fresh:∀m∈y.muts,∀b∈bh S s0 s1 s2 s3 (x::r),m≠b:=λm d b hb e=>by
  obtain⟨P,hw⟩:=Z.lsts b hb;rw[<- e,(nm m d).1]at hw;cases hw
 have F:bh S s0 s1 s2 s3 (y::x::r)=[S,s0,s1,s2,s3]++(y.muts++(x::r).flatMap Fz.muts):=by simp[bh]
 have g:bh S s0 s1 s2 s3 (x::r)=[S,s0,s1,s2,s3]++(x::r).flatMap Fz.muts:=by simp[bh]
 have w:a8 H0 H':=λb u q=>by
  have nb:∀m∈bh S s0 s1 s2 s3 (x::r),b≠m:=λm d=>cy q (Z.fz m d);exact k b u (nb _ (by rw[g];exact qL _ gP)) (nb _ (by rw[g];simp)) (nb _ (by rw[g];simp)) (nb _ (by rw[g];simp)) (nb _ (by rw[g];simp)) (Z.h0 _ _ q)
 have l:∀m,m∈(x::r).flatMap Fz.muts->m≠x.c->H' m=H m:=λm d s=>by
  obtain⟨P,hw⟩:=Z.zr.lsts m d;have n:=Z.ne d;rw[hw];exact k m _ s (Ne.symm n.2.1) (Ne.symm n.2.2.1) (Ne.symm n.2.2.2.1) (Ne.symm n.2.2.2.2) hw
 have B:∀p xs,H p=some (.tup xs)->H' p=some (.tup xs):=λp xs h=>k p _ (cP h v) (cP h Z.c0) (cP h Z.c1) (cP h Z.c2) (cP h Z.c3) h;refine{ hb:=Z.hb,h0:=w,fz:=?_,nd:=?_,cS:=k _ _ G.1 sn.1 sn.2.1 sn.2.2.1 sn.2.2.2.1 Z.cS,c0:=?_,c1:=?_,c2:=?_,c3:=?_,zr:=?_ }
 .intro m d;rw[F,qi,qi]at d;rcases d with d|d|d
  .exact Z.fz m (by rw[g];exact qY _ d)
  .exact a8.none Z.h0 (nm m d).1
  .exact Z.fzz d
 .have nd:=Z.nd;rw[g]at nd;rw[F,List.nodup_append,List.nodup_append];have a:=List.nodup_append.mp nd;refine⟨a.1,⟨M,a.2.1,λm d b hb=>fresh m d b (by rw[g];exact qL _ hb)⟩,λm d b hb=>?_⟩;rcases qi.mp hb with hb|hb
  .exact Ne.symm (fresh b hb m (by rw[g];exact qY _ d))
  .exact a.2.2 m d b hb
 .rw[I];simp
 .rw[N];simp
 .rw[O];simp
 .rw[J];simp
 .obtain⟨⟨_,D,L⟩,j,i⟩:=Z.zr;rw[qA,v]at D;cases D;refine⟨⟨[],(nm _ y.c_mem).2,by rw[E];exact .nil⟩,?_,.inr ⟨A,K,⟨vs,Q,L⟩,?_,?_⟩⟩
  .unfold Fz.side
   cases q:y.f.op with
   |ifT n=>exact(nm y.e (by unfold Fz.muts;rw[q];simp)).2
   |ifO n t=>exact Q8 q (z n t)
   |root=>trivial
   |whl n=>trivial
   |rep n=>trivial
  .unfold Fz.side at j ⊢
   cases q:x.f.op with
   |ifT n=>
    rw[q]at j;have C:=nH Z.ndz q;show H' x.e=some (.lst []);rw[l x.e (by rw[qI];exact qY _ C.2.1) C.1];exact j
   |ifO n t=>rw[q]at j;exact j
   |root=>trivial
   |whl n=>trivial
   |rep n=>trivial
  .rcases i with i|⟨i,T,R⟩
   .exact .inl i
   .exact .inr ⟨i,B _ _ T,R.frame (λm d=>l m (rB d) (sZ Z.ndz d)) B⟩
theorem ZI.elsed{x:Fz}{r:LB}{vs:LV}{n:Str}(Z:ZI Hb H0 H S s0 s1 s2 s3 (x::r))(q:x.f.op=.ifT n)(v:H x.c=some (.lst vs))
 (k:∀b u,b≠s0->b≠s1->H b=some u->H' b=some u) (J:H' s0=some (.lst ((r.map λx=>V.ref x.c).reverse++[.ref x.e]))) (X0:H' s1=some (.lst ((r.map Fz.o).reverse++[.non]))):
 ZI Hb (upd H0 x.c (.lst vs)) H' S s0 s1 s2 s3 (⟨{ x.f with op:=.ifO n x.f.ds,ds:=[] },x.e,x.p,x.c⟩::r):=by
 have sn:=Z.ss;have d:=Z.ne (gP (x:=x) (r:=r));have A:=nH Z.ndz q;have w:x.e∈(x::r).flatMap Fz.muts:=by rw[qI];exact qY _ A.2.1
 have en:=Z.ne w;have g:a8 H0 (upd H0 x.c (.lst vs)):=a8.new (Z.fzz gP) _;have y:x.muts=[x.c,x.e]:=by unfold Fz.muts;rw[q]
 have z:∀p xs,H p=some (.tup xs)->H' p=some (.tup xs):=λp xs h=>k p _ (cP h Z.c0) (cP h Z.c1) h
 have l:∀m,m∈(x::r).flatMap Fz.muts->H' m=H m:=λm a=>by
  obtain⟨_,hw⟩:=Z.zr.lsts m a;have n:=Z.ne a;rw[hw];exact k m _ (Ne.symm n.2.1) (Ne.symm n.2.2.1) hw
 have K:H0 s0=none:=Z.fz _ (by simp[bh]);have E:H0 s1=none:=Z.fz _ (by simp[bh]);obtain⟨⟨_,B,R⟩,t,i⟩:=Z.zr;rw[qA,v]at B;cases B;unfold Fz.side at t;rw[q]at t
 have j:∀m,m∈bh S s0 s1 s2 s3 (⟨{ x.f with op:=.ifO n x.f.ds,ds:=[] },x.e,x.p,x.c⟩::r)->m∈bh S s0 s1 s2 s3 (x::r)/\m≠x.c:=λm a=>by
  simp only[bh,qI,Fz.muts,qw,Qp,Qo]at a;simp only[bh,qI,y,qw,Qp,Qo];rcases a with rfl|rfl|rfl|rfl|rfl|rfl|a
  .exact⟨by simp,d.1⟩
  .exact⟨by simp,d.2.1⟩
  .exact⟨by simp,d.2.2.1⟩
  .exact⟨by simp,d.2.2.2.1⟩
  .exact⟨by simp,d.2.2.2.2⟩
  .exact⟨by simp,A.1⟩
  .have s:m∈r.flatMap Fz.muts:=by simpa using a
   exact⟨by simp[s],sZ Z.ndz s⟩
 refine{ hb:=Z.hb.trans g,h0:=?_,fz:=?_,nd:=?_,cS:=k _ _ sn.1 sn.2.1 Z.cS,c0:=?_,c1:=?_,c2:=?_,c3:=?_,zr:=?_ }
 .intro b u hb;by_cases e:b=x.c
  .subst e;rw[ah]at hb;cases hb;exact k _ _ (Ne.symm d.2.1) (Ne.symm d.2.2.1) v
  .rw[ag e]at hb;exact k _ _ (cy hb K) (cy hb E) (Z.h0 _ _ hb)
 .intro m a;rw[ag (j m a).2];exact Z.fz m (j m a).1
 .have nd:=Z.nd;simp only[bh,qI,y,Qp,Qo,List.nodup_cons,qw,not_or]at nd;simp only[bh,qI,Fz.muts,Qp,Qo,List.nodup_cons,qw,not_or];obtain⟨⟨O,a2,W,a4,_,F,L⟩,⟨b1,b2,N,_,T,G⟩,⟨c1,c2,_,Q,M⟩,⟨C,_,P,D⟩,⟨_,e2,I⟩,_,X,f3⟩:=nd;exact⟨⟨O,a2,W,a4,F,L⟩,⟨b1,b2,N,T,G⟩,⟨c1,c2,Q,M⟩,⟨C,P,D⟩,⟨e2,I⟩,X,f3⟩
 .rw[J];simp
 .rw[X0];simp[Fz.o]
 .refine(k _ _ (Ne.symm sn.2.2.2.2.2.1) (Ne.symm sn.2.2.2.2.2.2.2.1) Z.c2).trans ?_;simp
 .refine(k _ _ (Ne.symm sn.2.2.2.2.2.2.1) (Ne.symm sn.2.2.2.2.2.2.2.2.1) Z.c3).trans ?_;simp
 .refine⟨⟨[],?_,.nil⟩,.mk ah (R.same g),?_⟩
  .show H' x.e=some (.lst ([]++[]));rwa[l x.e w]
  .rcases i with⟨i,_⟩|⟨i,h5,h6⟩
   .rw[q]at i;cases i
   .refine .inr ⟨by simp,?_,(h6.frame (λm a=>l m (rB a)) z).grow g⟩;have:=z _ _ h5;unfold Fz.tupV at this ⊢;rw[q]at this;exact this
theorem ZI.closed{x g:Fz}{r:LB}(Z:ZI Hb H0 H S s0 s1 s2 s3 (x::g::r))
 (k:∀b u,b≠s0->b≠s1->b≠s2->b≠s3->H b=some u->H' b=some u) (L:H' s0=some (.lst (((g::r).map λx=>V.ref x.c).reverse))) (R:H' s1=some (.lst (((g::r).map Fz.o).reverse)))
 (T:H' s2=some (.lst (((g::r).map λx=>V.bl x.f.shut).reverse))) (M:H' s3=some (.lst (((g::r).map λx=>V.int x.f.times).reverse))):
 ∃H0',ZI Hb H0' H' S s0 s1 s2 s3 ({ g with f:=g.f.add x.f.deed }::r):=by
 have sn:=Z.ss;obtain⟨⟨vs,G,Q⟩,j,e⟩:=Z.zr;rw[qA]at G;rcases e with⟨_,e⟩|⟨e,v,X⟩
 .cases e
 have F:∀p xs,H p=some (.tup xs)->H' p=some (.tup xs):=λp xs h=>k p _ (cP h Z.c0) (cP h Z.c1) (cP h Z.c2) (cP h Z.c3) h
 have w:∀m,m∈(x::g::r).flatMap Fz.muts->H' m=H m:=λm d=>by
  obtain⟨D,hw⟩:=Z.zr.lsts m d;have n:=Z.ne d;rw[hw];exact k m _ (Ne.symm n.2.1) (Ne.symm n.2.2.1) (Ne.symm n.2.2.2.1) (Ne.symm n.2.2.2.2) hw
 have E:∀m∈x.muts,m∈(x::g::r).flatMap Fz.muts:=λm d=>by rw[qI];exact qY _ d
 let H0':Hp:=λb=>if b∈x.muts\/b=x.p then H b else H0 b
 have i:∀b,b∈x.muts\/b=x.p->H0' b=H b:=λb hb=>Q5 hb;have C:∀b,¬ (b∈x.muts\/b=x.p)->H0' b=H0 b:=λb hb=>Q4 hb
 have l:a8 H0 H0':=λb u hb=>by
  by_cases c:b∈x.muts\/b=x.p
  .rw[i b c];exact Z.h0 _ _ hb
  .rwa[C b c]
 have hl:RL H0' x.c x.f.ds:=.mk ((i _ (.inl x.c_mem)).trans G) (Q.same l);have ht:H0' x.p=some (.tup x.tupV):=(i _ (.inr U)).trans v
 have hd:RD H0' (.ref x.p) x.f.deed:=by
  unfold Fz.tupV at ht;unfold Fz.side at j;unfold Fr.deed
  cases q:x.f.op with
  |root=>exact Q8 q e
  |ifT n=>
   rw[q]at ht j;exact .cond ht hl (.mk ((i _ (.inl (by unfold Fz.muts;rw[q];simp))).trans j) .nil)
  |ifO n t=>
   rw[q]at ht j;exact .cond ht (RL.same l j) hl
  |whl n=>
   rw[q]at ht;exact .whl ht hl
  |rep n=>
   rw[q]at ht;exact .rep ht hl
 have B:=Z.ndz;rw[qI]at B;have y:=List.nodup_append.mp B
 have ex:∀m,m∈bh S s0 s1 s2 s3 (g::r)->H0' m=none:=λm d=>by
  have A:m∈bh S s0 s1 s2 s3 (x::g::r):=by
   simp only[bh,qI,qw,qi]at d ⊢;rcases d with h|h|h|h|h|h
   .exact .inl h
   .exact .inr (.inl h)
   .exact .inr (.inr (.inl h))
   .exact .inr (.inr (.inr (.inl h)))
   .exact .inr (.inr (.inr (.inr (.inl h))))
   .exact .inr (.inr (.inr (.inr (.inr (.inr h)))))
  rw[C m ?_]
  .exact Z.fz m A
  .rintro(s|s)
   .have n:=Z.ne (E m s);simp only[bh,qw]at d;rcases d with h|h|h|h|h|h
    .exact n.1 h.symm
    .exact n.2.1 h.symm
    .exact n.2.2.1 h.symm
    .exact n.2.2.2.1 h.symm
    .exact n.2.2.2.2 h.symm
    .exact y.2.2 m s m h U
   .obtain⟨D,hw⟩:=Z.lsts m A;exact cP v hw s.symm
 refine⟨H0',{ hb:=Z.hb.trans l,h0:=?_,fz:=ex,nd:=?_,cS:=k _ _ sn.1 sn.2.1 sn.2.2.1 sn.2.2.2.1 Z.cS,c0:=L,c1:=R,c2:=T,c3:=M,zr:=?_ }⟩
 .intro b u hb;by_cases c:b∈x.muts\/b=x.p
  .rw[i b c]at hb;rcases c with c|c
   .rwa[w b (E b c)]
   .subst c;rw[v]at hb;cases hb;exact F _ _ v
  .rw[C b c]at hb;have z:∀m,m∈bh S s0 s1 s2 s3 (x::g::r)->b≠m:=λm d=>cy hb (Z.fz m d);exact k _ _ (z _ (by simp[bh])) (z _ (by simp[bh])) (z _ (by simp[bh])) (z _ (by simp[bh])) (Z.h0 _ _ hb)
 .have nd:=Z.nd;have W:bh S s0 s1 s2 s3 (x::g::r)=[S,s0,s1,s2,s3]++(x.muts++(g::r).flatMap Fz.muts):=by simp[bh]
  rw[W]at nd;have a:=List.nodup_append.mp nd;show(bh S s0 s1 s2 s3 (g::r)).Nodup;have I:bh S s0 s1 s2 s3 (g::r)=[S,s0,s1,s2,s3]++(g::r).flatMap Fz.muts:=by simp[bh]
  rw[I,List.nodup_append];exact⟨a.1,y.2.1,λm d b hb=>a.2.2 m d b (qL _ hb)⟩
 .have K:=(X.frame (H':=H') (λm d=>w m (rB d)) F).grow l;obtain⟨⟨D,O,J⟩,P,N⟩:=K;exact⟨⟨D++[.ref x.p],by rw[qA];exact O,J.app (.cons hd .nil)⟩,P,N⟩
end
section
variable {Hb H4:Hp}{S s0 s1 s2 s3:Addr}
theorem pU{x y:Fz}{r:LB}{vs:LV}(Z:ZI Hb H0 H S s0 s1 s2 s3 (x::r))(D:H x.c=some (.lst vs))(i:∀b u,b≠x.c->H b=some u->H4 b=some u)(nm:∀m∈y.muts,H m=none/\H4 m=some (.lst []))(G:y.muts.Nodup)
 (d:H4 y.p=some (.tup y.tupV)) (s:y.f.op≠.root) (q:∀n t,y.f.op≠.ifO n t) (z:y.f.ds=[]) (J:H4 x.c=some (.lst (vs++[.ref y.p]))):
 ZI Hb H0 (upd (upd (upd (upd H4 s0 (.lst (((x::r).map λx=>V.ref x.c).reverse++[.ref y.c]))) s1 (.lst (((x::r).map Fz.o).reverse++[y.o]))) s2 (.lst (((x::r).map λx=>V.bl x.f.shut).reverse++[.bl y.f.shut]))) s3 (.lst (((x::r).map λx=>V.int x.f.times).reverse++[.int y.f.times]))) S s0 s1 s2 s3 (y::x::r):=by
 obtain⟨_,_,_,_,v,k,j,w,A,l⟩:=Z.ss;have a:=Z.ne (gP (x:=x) (r:=r))
 have ms:∀m∈y.muts,m≠s0/\m≠s1/\m≠s2/\m≠s3:=λm g=>by
  have hn:=(nm m g).1;exact⟨(λe=>by rw[e,Z.c0]at hn;cases hn),(λe=>by rw[e,Z.c1]at hn;cases hn),(λe=>by rw[e,Z.c2]at hn;cases hn),(λe=>by rw[e,Z.c3]at hn;cases hn)⟩
 have c0:=i _ _ a.2.1 Z.c0;have c1:=i _ _ a.2.2.1 Z.c1;have c2:=i _ _ a.2.2.2.1 Z.c2;have c3:=i _ _ a.2.2.2.2 Z.c3;refine Z.opened (y:=y) D (λb u I F E C B hb=>?_) (λm g=>⟨(nm m g).1,?_⟩) G ?_ s q z ?_ ?_ ?_ ?_ ?_
 .rw[ag B,ag C,ag E,ag F];exact i b u I hb
 .have h:=ms m g;rw[ag h.2.2.2,ag h.2.2.1,ag h.2.1,ag h.1];exact(nm m g).2
 .rwa[ag (cP d c3),ag (cP d c2),ag (cP d c1),ag (cP d c0)]
 .rw[ag (Ne.symm a.2.2.2.2),ag (Ne.symm a.2.2.2.1),ag (Ne.symm a.2.2.1),ag (Ne.symm a.2.1)];exact J
 .rw[ag j,ag k,ag v,ah]
 .rw[ag A,ag w,ah]
 .rw[ag l,ah]
 .rw[ah]
theorem xA{l:List α}{v:α}:atI (l++[v]) (-1)=some v:=by
 unfold atI
 have e:ixN (l++[v]).length (-1)=some l.length:=by
  unfold ixN;simp;omega
 rw[e];simp
theorem gh{a:Type}{f:α->a}{x:α}{r:List α}:atI (((x::r).map f).reverse) (-1)=some (f x):=by
 rw[qU,List.reverse_cons];exact xA
end
theorem y6:∀ds:LA,ds.length<=(aj ds).length
 |[]=>qf _
 |d::r=>by
  have:=y6 r;rw[aj,qc,qE,j6,qE];omega
theorem zP{f:Fr}{r:List Fr}:f.ds.length<=cnt (f::r):=by
 have:=y6 f.ds;rw[cnt];omega
def mK(st:List Fr):Prop:=∀f∈st,0<=f.times/\f.times<=1000
theorem Aq{names:LS}{low n:Int}{st:List Fr}(h0:0<=most)(e:most<=1000)(hn:0<=n)(ht:mK st):mK (bZ names rooms most low st n):=by
 match st,ht with
 |[],ht=>exact ht
 |g::r,ht=>
  have b:=ht g qq;have hr:∀f∈r,0<=f.times/\f.times<=1000:=λf a=>ht f (qp _ a);unfold bZ;dsimp only;split
  .unfold gf;dsimp only;intro f a;rcases qw.mp a with rfl|a
   .split
    .exact⟨by simp,by simp⟩
    .split
     .exact⟨by simp,by simp⟩
     .dsimp only;unfold cF;by_cases tp:0<g.times
      .rw[Q5 tp];have d:0<=most / g.times:=Int.ediv_nonneg h0 b.1;have c:0<=n / 70 % (1+most / g.times):=Qd _ Yo;have j:n / 70 % (1+most / g.times)<1+most / g.times:=Qi _ Yo;exists Int.mul_nonneg b.1 c;have h:g.times * (n / 70 % (1+most / g.times))<=g.times * (most / g.times):=Int.mul_le_mul_of_nonneg_left Yo b.1;have i:g.times * (most / g.times)<=most:=Int.mul_ediv_self_le Yo;omega
      .have:g.times=0:=by omega
       rw[this];simp
   .exact ht f a
  .split
   .intro f a;rcases qw.mp a with rfl|a
    .exact b
    .exact hr f a
   .split
    .cases r with
     |nil=>exact ht
     |cons g' _=>
      intro f a;rcases qw.mp a with rfl|a
      .exact hr g' qq
      .exact hr f (qp _ a)
    .intro f a;rcases qw.mp a with rfl|a
     .exact b
     .exact hr f a
theorem Au{names:LS}{low:Int}{a:LI}{c:Int}(h:a[i]?=some c):df names rooms most low (a.take (i+1))=bZ names rooms most low (df names rooms most low (a.take i)) (aA c 1):=by
 unfold df;rw[qu,h,List.foldl_append]
 rfl
theorem uv{names rooms:LS}{most low:Int}(h0:0<=most)(a:most<=1000):∀(cells:LI)(st:List Fr),mK st->mK (cells.foldl (λst c=>bZ names rooms most low st (aA c 1)) st)
 |[],st,h=>h
 |c::cs,st,h=>uv h0 a cs _ (Aq h0 a (by unfold aA;exact Qd _ Yk) h)
theorem yv{x a:Fz}{r:LB}(h:a.c=x.c):jU (a::r)=jU (x::r):=by
 cases r with
 |nil=>exact h
 |cons y r=>rfl
theorem EL{L Pc c A:Prop}{a:Decidable c}(hw:c->Pc)(rest:Pc->L)(h:¬ c->(Pc->L)->B)(e:A=L:=by rfl):@ite Prop c a A B:=by
 subst e;by_cases hc:c
 .rw[Q5 hc];exact rest (hw hc)
 .rw[Q4 hc];exact h hc rest
theorem xD{l:List α}{v:α}:ixN (l++[v]).length (-1)=some l.length:=by
 unfold ixN;simp;omega
theorem vG{l:List α}{v w:α}:(l++[v]).set l.length w=l++[w]:=by
 induction l with
 |nil=>rfl
 |cons a r b=>simp[b]
theorem goB{Pc:Prop}{F:Bool->Prop}(go:Pc->∃k,V.bl false=V.bl k/\F k)(p:Pc):F false:=by
 obtain⟨k,e,h⟩:=go p;cases e;exact h
end Tr
namespace Tr
theorem mB{a:Type}{f:α->a}{x:α}{r:List α}:(((x::r).map f).reverse).dropLast=(r.map f).reverse:=by
 rw[qU,List.reverse_cons,List.dropLast_concat]
theorem lW{a:Type}{f:α->a}{x:α}{r:List α}:(((x::r).map f).reverse)[(((x::r).map f).reverse).length-1]?=some (f x):=by
 rw[qU,List.reverse_cons];simp
end Tr
namespace Tr
open PySem PySem.Spec PyProof.Rows L2
noncomputable def vE:LS:=("+-*/<=&|^":Str).cps.toList.map sgn
noncomputable def jW(names rooms:LS):LS:=names++rooms++vE
def Low(x:Str):Prop:=∀c∈x.cps.toList,c<128
theorem Low.app{y:Str}(d:Low x)(b:Low y):Low (x++y):=λc a=>by
 have e:(x++y).cps.toList=x.cps.toList++y.cps.toList:=by
  show(x.cps++y.cps).toList=_;simp
 rw[e,qi]at a;exact a.elim (d c) (b c)
theorem Low.slice{x:Str}(h:Low x)(a b:Option Int):Low (Txt.slice x a b):=λc d=>by
 unfold Txt.slice at d;split at d
 .exact h c d
 .simp only[List.mem_filterMap]at d;obtain⟨i,_,e⟩:=d;have:=Array.mem_of_getElem? e;exact h c (by simpa using this)
theorem tD(j:Int):c9 j<128:=by
 unfold c9;have all:∀c∈cW.cps.toList,c<128:=Yd;rw[qo]
 cases e:cW.cps.toList[j.toNat]? with
 |none=>decide
 |some c=>exact all c (qD e)
theorem nJ{c:Nat}(h:c<128):Low (sgn c):=λd hd=>by
 simp[sgn]at hd;subst hd;exact h
theorem rO(n:Int):∀k,Low (cB n k)
 |0=>λc a=>by simp[cB]at a;exact Q8 a (by decide +kernel +revert)
 |k+1=>by rw[cB];exact(rO n k).app (nJ (tD _))
theorem Az{w:Str}(h:Low w):Low (cQ w):=by
 unfold cQ;split
 .exact(h.slice _ _).app (nJ (tD _))
 .exact h
theorem Cv(c k:Int):Low (bU c k):=by
 have b:Low (bS c):=rO _ _;have s:Low (eR c k):=nJ (tD _);unfold bU;split
 .exact((b.slice _ _).app s).app (b.slice _ _)
 .split
  .exact b.slice _ _
  .exact(s.app (rO _ _)).slice _ _
theorem jA(c:Int)(n:Nat):∀w∈cD c n,Low w:=by
 have a:∀w∈dr c n,Low w:=λw hw=>by
  unfold dr at hw;obtain⟨k,_,rfl⟩:=List.mem_map.mp hw;exact Az (Cv c k)
 unfold cD;split
 .intro w hw;exact a w (List.mem_reverse.mp hw)
 .exact a
theorem rH{w:Str}(h:Low w):PyData.strOk w=true:=by
 unfold PyData.strOk;rw[<- Array.all_toList,List.all_eq_true];intro c a;have:=h c a;simp;omega
theorem B0:∀s∈vE,PyData.strOk s=true:=Yd
theorem zQ{c1 c2:Int}{n1 n2:Nat}:∀s∈jW (cD c1 n1) (cD c2 n2),PyData.strOk s=true:=by
 intro s a;unfold jW at a;simp only[qi]at a;rcases a with(a|a)|a
 .exact rH (jA _ _ s a)
 .exact rH (jA _ _ s a)
 .exact B0 s a
theorem AB{w:Str}(h:w.length<=50):(cQ w).length<=51:=by
 unfold cQ;split
 .have:=Txt.slice_le w none (some (-1));rw[dB];have:(sgn (c9 ((i9 w+13) % 26))).length=1:=U;omega
 .omega
theorem rQ(n:Int):∀k:Nat,(cB n k).length=k
 |0=>rfl
 |k+1=>by rw[cB,dB,rQ n k];rfl
theorem Cw(c k:Int):(bU c k).length<=50:=by
 unfold bU;have b:(bS c).length=8:=rQ _ 8;have s:(eR c k).length=1:=U;split
 .have a:=Txt.slice_le (bS c) none (some (d7 c));have d:=Txt.slice_le (bS c) (some (d7 c+1)) (some (du c));rw[dB,dB];omega
 .split
  .have a:=Txt.slice_le (bS c) none (some (1+(aA c 1 / 24+k) % 8));omega
  .have a:=Txt.slice_le (eR c k++cB (aA c (k+2)) 7) none (some (1+aA c (k+40) % 8));rw[dB,rQ]at a;omega
theorem l5(c:Int)(n:Nat):∀w∈cD c n,w.length<=51:=by
 have a:∀w∈dr c n,w.length<=51:=λw hw=>by
  unfold dr at hw;obtain⟨k,_,rfl⟩:=List.mem_map.mp hw;exact AB (Cw c k)
 unfold cD;split
 .intro w hw;exact a w (List.mem_reverse.mp hw)
 .exact a
theorem GK{c1 c2:Int}{n1 n2:Nat}:∀s∈bn (cD c1 n1) (cD c2 n2),s.length<=1000:=by
 intro s a;unfold bn at a;simp only[qi,List.mem_map,qV]at a;rcases a with((a|⟨q,b,rfl⟩)|⟨q,b,rfl⟩)|rfl
 .have:=l5 _ _ s a;omega
 .have:=l5 _ _ q b;rw[dB];have:((">":Str)).length=1:=by decide +kernel
  omega
 .have:=l5 _ _ q b;rw[dB];have:(("<":Str)).length=1:=by decide +kernel
  omega
 .decide +kernel
theorem GL{names:LS}:(bn names rooms).length=names.length+2 * rooms.length+1:=by
 unfold bn;simp;omega
end Tr
namespace L2
open PySem PySem.Spec PyProof.Rows
theorem yh{g:TG}{d:LV->Hp->Prop}(a:Nat->LV->St->Hp->Prop)(h0:a 0 [] Y H)(l:∀i ys Y H,i<=n->a i ys Y H->ys.length<=i)(o:n<=sizeLine)
 (h:∀i ys Y H,i<n->a i ys Y H->g (.int i) Y H λc H2=>tt c H2 λb f=>if b=true then te c f λy H4=>a (i+1) (ys++[y]) c H4 else a (i+1) ys c f)
 (hd:∀ys Y H,a n ys Y H->d ys H):∃W:Nat->Nat->LV->St->Hp->Prop,(∃m,W 0 m [] Y H)/\gZ (Itr 0 n) g tt te d W:=by
 exists λi m ys Y H=>m=n-i/\i<=n/\a i ys Y H,⟨_,U,qv _,h0⟩;rintro i m ys Y H ⟨rfl,j,p⟩;have few:=l i ys Y H j p;by_cases lt:i<n
 .refine .inr ⟨lt,Yo,a (i+1),λ_ _ H' k=>⟨_,Yo,U,lt,k⟩,λv H' y=>?_⟩;obtain⟨e,y⟩:=y;rw[Int.zero_add]at y;subst e y;exact h i ys Y _ lt p
 .obtain rfl:i=n:=by omega
  exact .inl ⟨qf _,Yo,hd ys Y H p⟩
theorem yg{g:TG}{b:LV->Hp->Prop}(a:Nat->LV->St->Hp->Prop)(h0:a 0 [] Y H)(e:∀i ys Y H,i<=n->a i ys Y H->ys.length<=i)(f:n<=sizeLine)
 (d:∀i ys Y H,i<n->a i ys Y H->g (.int i) Y H λc H2=>te c H2 λy H4=>a (i+1) (ys++[y]) c H4)
 (hd:∀ys Y H,a n ys Y H->b ys H):∃W:Nat->Nat->LV->St->Hp->Prop,(∃m,W 0 m [] Y H)/\gZ (Itr 0 n) g iG te b W:=
 yh a h0 e f (λi ys Y H lt p=>by
  rw[mP (N':=λ_ _ _=>True)]
  exact d i ys Y H lt p) hd
theorem mE{xs:LV}{g:TG}{c:LV->Hp->Prop}(b:Nat->LV->St->Hp->Prop)(h0:b 0 [] Y H)(h:∀i ys Y H,i<=xs.length->b i ys Y H->ys.length<=i)(e:xs.length<=sizeLine)(hl:∀i ys Y H,b i ys Y H->SqL K H a xs)
 (f:∀i x ys Y H,xs[i]?=some x->b i ys Y H->g x Y H λd H2=>te d H2 λy H4=>b (i+1) (ys++[y]) d H4)
 (hd:∀ys Y H,b xs.length ys Y H->c ys H):∃W:Nat->Nat->LV->St->Hp->Prop,(∃m,W 0 m [] Y H)/\gZ (Itl K a) g iG te c W:=
 Gg b h0 h e hl (λi x ys Y H e p=>by
  rw[mP (N':=λ_ _ _=>True)]
  exact f i x ys Y H e p) hd
end L2
namespace Tr
open PySem PySem.Spec PyProof.Rows L2
inductive RSs(H:Hp):LV->LF->Prop
 |nil:RSs H [] []
 |cons {p:Addr}{vs:LV}{q:Str}{n:Int}{ss:LF}:H p=some (.tup [.str q,.int n])->RSs H vs ss->RSs H (.ref p::vs) ((q,n)::ss)
theorem RSs.same{H H':Hp}(e:a8 H H'):∀{vs:LV}{ss:LF},RSs H vs ss->RSs H' vs ss
 |_,_,.nil=>.nil
 |_,_,.cons h r=>.cons (e _ _ h) (RSs.same e r)
theorem RSs.snoc{H:Hp}{p:Addr}{q:Str}{n:Int}(h:H p=some (.tup [.str q,.int n])):∀{vs:LV}{ss:LF},RSs H vs ss->RSs H (vs++[.ref p]) (ss++[(q,n)])
 |_,_,.nil=>.cons h .nil
 |_,_,.cons h' r=>.cons h' (RSs.snoc h r)
theorem RSs.len{H:Hp}:∀{vs:LV}{ss:LF},RSs H vs ss->vs.length=ss.length
 |_,_,.nil=>rfl
 |_,_,.cons _ r=>congrArg (·+1) (RSs.len r)
theorem RSs.at{H:Hp}:∀{vs:LV}{ss:LF},RSs H vs ss->∀(i:Nat)(v:V),vs[i]?=some v->∃p q n,v=.ref p/\ss[i]?=some (q,n)/\H p=some (.tup [.str q,.int n])
 |_,_,.nil,i,v,h=>by simp at h
 |_,_,.cons (p:=p) (q:=q) (n:=n) h' r,0,v,h=>by
  simp at h;exact⟨p,q,n,h.symm,U,h'⟩
 |_,_,.cons h' r,i+1,v,h=>RSs.at r i v (by simpa using h)
noncomputable def fG(s:Str×Int):PyData:=.tuple [.str s.1,.int s.2]
theorem RSs.dt{K:W.Frag}{H:Hp}:∀{vs:LV}{ss:LF},RSs H vs ss->dY K H vs (ss.map fG)
 |_,_,.nil=>.nil
 |_,_,.cons h r=>.cons (.tup (SqT.of h) (.cons (.str _) (.cons (.int _) .nil))) (RSs.dt r)
theorem n9{K:W.Frag}{H:Hp}:∀xs:LS,dY K H (xs.map V.str) (xs.map PyData.str)
 |[]=>.nil
 |x::r=>.cons (.str x) (n9 r)
theorem rT:∀xs:LS,(∀s∈xs,PyData.strOk s=true)->PyData.canLayAll0 (xs.map PyData.str)=true/\PyData.depthAll (xs.map PyData.str)<=1
 |[],_=>by simp[PyData.canLayAll0,PyData.depthAll]
 |x::r,h=>by
  have h1:=h x qq;have b:=rT r λs a=>h s (qp _ a);simp[PyData.canLayAll0,PyData.canLay0,PyData.depthAll,PyData.depth,h1,b]
theorem xu:∀ss:LF,(∀s∈ss,PyData.strOk s.1=true)->PyData.canLayAll0 (ss.map fG)=true/\PyData.depthAll (ss.map fG)<=2
 |[],_=>by simp[PyData.canLayAll0,PyData.depthAll]
 |x::r,h=>by
  have h1:=h x qq;have a:=xu r λs b=>h s (qp _ b);simp[fG,PyData.canLayAll0,PyData.canLay0,PyData.depthAll,PyData.depth,h1];exact⟨a.1,by have:=a.2;omega⟩
structure RP(H:Hp)(p:Addr)(asks:LS)(ss:LF)(ds:LA)(la ls lb:Addr)(us:LV):Prop where
 top:H p=some (.tup [.ref la,.ref ls,.ref lb])
 as:H la=some (.lst (asks.map V.str))
 st:H ls=some (.lst us)
 ro:RSs H us ss
 bo:RL H lb ds
theorem RP.same{H H':Hp}{p:Addr}{a:LS}{ss:LF}{ds:LA}{la c b:Addr}{us:LV}(e:a8 H H')(h:RP H p a ss ds la c b us):RP H' p a ss ds la c b us:=
 ⟨e _ _ h.top,e _ _ h.as,e _ _ h.st,h.ro.same e,RL.same e h.bo⟩
noncomputable def dD(F:LS)(ss:LF)(ds:LA):LS:=F++cards ds++[(">":Str)]++ss.flatMap λs=>[s.1++(">":Str),s.1++("<":Str)]
noncomputable def eV(F:LS)(t:Int):Nat->LS
 |0=>[]
 |i+1=>eV F t i++(if aA t ((i:Int)+10) % 2=1 then[F.getD i (">":Str)]else[])
theorem tm(a:LS)(t:Int):∀i,(eV a t i).length<=i
 |0=>qf _
 |i+1=>by
  have:=tm a t i;rw[eV];split<;>simp<;>omega
theorem yJ{a:LS}{t:Int}:∀{i:Nat},i<=a.length->∀x∈eV a t i,x∈a
 |0,_,x,h=>by simp[eV]at h
 |i+1,hi,x,h=>by
  rw[eV,qi]at h;rcases h with h|h
  .exact yJ Yo x h
  .split at h
   .rw[qV]at h;subst h;rw[qo,qd Yo];exact List.getElem_mem _
   .simp at h
theorem GJ{a b r:LS}(h:∀x∈a,x∈b):∀x∈bn a r,x∈bn b r:=λx c=>by
 unfold bn at *;simp only[qi]at *;rcases c with((c|c)|c)|c
 .exact .inl (.inl (.inl (h x c)))
 .exact .inl (.inl (.inr c))
 .exact .inl (.inr c)
 .exact .inr c
theorem Cq{d rs:LS}{b:LS}{ss:LF}(ha:∀x∈b,x∈d)(e:∀s∈ss,s.1∈rs)(hd:∀x∈cards ds,x∈bn d rs):∀x∈dD b ss ds,x∈bn d rs:=λx a=>by
 unfold dD at a;simp only[qi,List.mem_flatMap]at a;rcases a with((a|a)|a)|⟨s,c,a⟩
 .unfold bn;simp only[qi];exact .inl (.inl (.inl (ha x a)))
 .exact hd x a
 .unfold bn;simp only[qi];exact .inr a
 .simp only[qw,qT,or_false]at a;unfold bn;simp only[qi,List.mem_map];rcases a with rfl|rfl
  .exact .inl (.inl (.inr ⟨_,e s c,U⟩))
  .exact .inl (.inr ⟨_,e s c,U⟩)
theorem yH{a:LS}(h:i<a.length):atI (a.map V.str) (i:Int)=some (.str (a.getD i (">":Str))):=
 da (by rw[qH,qo,qd h];rfl)
theorem Gb(a:LS)(h:0<a.length):eT (a.map V.str) none (some (-1))=a.dropLast.map V.str:=by
 unfold eT;have b:HT.sIx (a.map V.str).length 0 none=0:=U
 have c:HT.sIx (a.map V.str).length (a.map V.str).length (some (-1))=a.length-1:=by
  rw[qa];show(if(-1:Int)<0 then((-1:Int)+(a.length:Int)).toNat else min (-1:Int).toNat a.length)=_;rw[Q5 Yk];omega
 rw[b,c,List.drop_zero,Nat.sub_zero,<- List.map_take,List.dropLast_eq_take]
end Tr
namespace L2
open PySem
theorem mU(T:bP P w es t ys){e:Int×Value}(a:e∈es.toList):∃k tk,e=(hashStr w k,.str k tk)/\k∈ys:=by
 obtain⟨⟨k,hk,c⟩,_⟩:=T.el e a;obtain⟨tk,b⟩:=Value.isStrOf_shape hk;refine⟨k,tk,Prod.ext c b,(T.mem k).mp (List.mem_map.mpr ⟨e,a,m5 hk⟩)⟩
theorem C4{c:LK}{Q:Bool->Shared->Prop}(h:∀b∈c,∃es ep t ys,s.heap.get? b=some (aY es ep t)/\bP P w es t ys)(q:Q true s):wpAny (model P w) A (setsQuiet c) Q E s:=by
 unfold setsQuiet;refine q9 (wpAny_forIn_list _ (λrest b d=>b.1=none/\s=d/\∀x∈rest,x∈c) _ ?_ ?_ c _ ⟨U,U,λ_ h=>h⟩)
 .rintro x rest b d ⟨hb,rfl,i⟩;obtain⟨es,ep,t,ys,l,T⟩:=h x (i x qq);refine q9 (gz l T.fit ?_);refine q9 (PySem.wpAny_forIn_array' _ (λrest b d=>b.1=none/\s=d/\∀e∈rest,e∈es.toList) _ ?_ ?_ es _ ⟨U,U,λ_ h=>h⟩)
  .rintro e _ b2 j ⟨a,rfl,f⟩;obtain⟨k,tk,rfl,_⟩:=mU T (f e qq);refine qe ⟨U,U,λz g=>f z (qp _ g)⟩
  .rintro⟨b1,b2⟩ j ⟨a,rfl,_⟩;dsimp only at a;subst a;refine qe ⟨U,U,λz g=>i z (qp _ g)⟩
 .rintro⟨b1,b2⟩ j ⟨a,rfl,_⟩;dsimp only at a;subst a;exact qe q
theorem zG{Q:Array (Int×Value)->Shared->Prop}(b:s.heap.get? a=some (aY es ep t))(T:bP P w es t ys)
 (h:∀arr d,arr.toList.Perm es.toList->Q arr { s with drawn:=d }):wpAny (model P w) A (setWalk a) Q E s:=by
 unfold setWalk;refine q9 (qZ b U T.fit ?_);dsimp only;refine q9 (ir ?_);by_cases hb:w.params.followText "set-order"=true
 .rw[Q5 hb];exact q9 (wpAny_askSetting (qe (h _ s.drawn (wm _ es))))
 .rw[Q4 hb];show wpAny _ _ (if(!t.plain && decide (es.size > 1))=true then _ else _) _ _ _;split
  .refine q9 (sL es.size es.toList s _ (by simp) λzs d c=>qe ?_);exact h _ d (by simpa using c)
  .have hl:t.led=true:=by rw[T.led];simpa using hb
   show wpAny _ _ ((if(!t.led && decide (es.size > 1))=true then _ else _) >>= _) _ _ _;rw[hl];refine q9 ?_;simp only[Bool.not_true,Bool.false_and,Qn,if_false];exact qe (qe (h es s.drawn (.refl _)))
theorem B7:entryFor table "set.__sub__"=some Builtin.«frozenset.__sub__»:=entryFor_alias (id':="frozenset.__sub__") (by kernel_rfl) U Yd (by kernel_rfl)
theorem zR{l p:Bool}(T:bP P w #[] t [])(hl:l=t.led):bP P w #[] { t with led:=l,plain:=p } []:=
 ⟨T.el,T.nd,T.mem,T.few,T.fit,hl.trans T.led,λz=>Q8 z (Qf 0)⟩
theorem zF{o r:Addr}{e:Array (Int×Value)}{l m:Nat}{j g:SetTable}{zs:LS}{Q:Array (Int×Value)->Shared->Prop}(i:s.heap.get? a=some (aY es ep t))(T:bP P w es t ys)
 (q:s.heap.get? o=some (aY e l j)) (n:bP P w e j zs) (hr:s.heap.get? r=some (aY #[] m g)) (c:bP P w #[] g [])
 (h:∀arr h' d k f,arr.toList.Perm es.toList->Heap.SameBut r s.heap h'->h'.get? r=some (aY #[] k f)->bP P w #[] f []->Q arr { s with heap:=h',drawn:=d }):wpAny (model P w) A (setWalkUnseen a [o,r] (some r)) Q E s:=by
 have old:∀arr d,arr.toList.Perm es.toList->Q arr { s with drawn:=d }:=λarr d p=>h arr s.heap d m g p (Heap.SameBut.refl r s.heap) hr c;unfold setWalkUnseen;refine q9 (qZ i U T.fit ?_);dsimp only;refine q9 (ir ?_);split
 .exact zG i T old
 .refine q9 (C4 (λb hb=>?_) ?_)
  .simp only[qw,qT,or_false]at hb;rcases hb with rfl|rfl|rfl
   .exact⟨_,_,_,_,i,T⟩
   .exact⟨_,_,_,_,q,n⟩
   .exact⟨_,_,_,_,hr,c⟩
  .simp only[Bool.not_true,Qn,if_false];refine q9 (wpAny_rule ?_);refine q9 (qZ hr U c.fit ?_);dsimp only;split
   .refine q9 (wpAny_storeSet_of hr U ?_ Yk);refine qe (h es _ s.drawn _ _ (.refl _) (Heap.SameBut.update _ r _) (nj (s:=s) hr) (zR c ?_));rw[c.led,T.led];simp
   .exact qe (old es s.drawn (.refl _))
theorem Fy{o:Addr}{zs:LS}{k:Str}{tk:Tok}{Q:Option Nat->Shared->Prop}(b:s.heap.get? o=some (aY es ep t))(T:bP P w es t zs)
 (h:∀r:Option Nat,r.isSome=decide (k∈zs)->Q r s):wpAny (model P w) A (setFind o (.str k tk) (hashStr w k)) Q E s:=by
 refine wpAny_setFind_of (knd:=strKind P w) (k:=k) (S:=λk=>decide (k∈zs)) (n:=es.size) (by show Value.isStrOf k (.str k tk)=true;simp[Value.isStrOf]) U ⟨_,es,ep,t,b,?_,U,T.el,λ_=>?_,T.few,T.fit,U⟩ h
 .exact⟨U,U,U⟩
 .rw[decide_eq_true_iff,<- T.mem,List.mem_map];constructor
  .rintro⟨e,a,rfl⟩;obtain⟨k,tk,rfl,_⟩:=mU T a;exact⟨_,a,by show Value.isStrOf k (.str k tk)=true;simp[Value.isStrOf]⟩
  .rintro⟨e,a,hk⟩;exact⟨e,a,m5 hk⟩
theorem tq{v:Value}{Q:Bool->Shared->Prop}(ty:s.TypeIs v "set")(h:Q true s):wpAny (model P w) A (Builtin.Frozenset.isAnySet v) Q E s:=by
 unfold Builtin.Frozenset.isAnySet;exact q9 (wpAny_isInstance (b:=true) ty kE (qe h))
set_option maxHeartbeats 3200000 in
theorem Aj{o:Addr}{M:Array (Int×Value)}{X0:Nat}{X:SetTable}{zs:LS}(G:s.heap.get? a=some (aY es ep t))(T:bP P w es t ys)
 (L:s.heap.get? o=some (aY M X0 X)) (R:bP P w M X zs) (few:es.size<4)
 (h:∀h' d es' g t',h'.get? s.heap.objs.size=some (aY es' g t')->bP P w es' t' (ys.filter λk=>!decide (k∈zs))->
  (∀b ob,s.heap.get? b=some ob->h'.get? b=some ob)->Q (.ref s.heap.objs.size) { s with heap:=h',drawn:=d }):wpAny (model P w) A (binaryOp .Sub (.ref a) (.ref o)) Q E s:=by
 have K:s.TypeIs (.ref a) "set":=⟨_,G,U⟩;have N:s.TypeIs (.ref o) "set":=⟨_,L,U⟩;have k1:=kE;refine wpAny_binaryOp_same (op:=.Sub) (T:="set") K N F.fills_set_sub F.slot_set_sub (Qm F.slot_set_sub K B7 ?_ (F.args_set_sub_2 _ _));unfold Builtin.«frozenset.__sub__»;refine q9 (m:=Builtin.Frozenset.slot1 "__sub__" ⟨[.ref a,.ref o],[]⟩) (qe ?_);dsimp only;simp only[Qn,if_false];refine q9 (q9 (tq K (tq N ?_)));simp only[Bool.not_true,Qn,if_false];refine q9 (qe ?_);refine q9 ?_;unfold Builtin.Frozenset.difference;refine q9 (tq N ?_);simp only[Bool.not_true,Qn,if_false];refine q9 (qe ?_);simp only[Bool.false_and,Qn,if_false,if_true];unfold Builtin.Frozenset.sizeOf;refine q9 (q9 (gz L R.fit (qe ?_)));refine q9 (q9 (gz G T.fit (qe ?_)));rw[Q4 Yo];unfold Builtin.Frozenset.baseOf;refine q9 (q9 (wpAny_isInstance (b:=true) K kE (qe ?_)));simp only[if_true];refine q9 ?_;unfold newSet;refine q9 (ir ?_);dsimp only;refine wpAny_newObj_type ?_;refine q9 (qe ?_);have C:∀b ob,s.heap.get? b=some ob->(s.heap.push (cZ w)).get? b=some ob:=λb ob q=>qb _ q;have gr:(s.heap.push (cZ w)).get? s.heap.objs.size=some (cZ w):=qr _ U;have W:∀b ob,s.heap.get? b=some ob->b≠s.heap.objs.size:=λb ob q=>qJ (qt q);refine q9 (wpAny_setEpoch_of (s:={ s with heap:=s.heap.push (cZ w) }) (C _ _ G) U T.fit ?_);refine q9 (Qy ?_);refine q9 (zF (s:={ s with heap:=s.heap.push (cZ w) }) (C _ _ G) T (C _ _ L) R gr ub λI h1 d er tr S sb hr Tr=>?_);refine q9 (PySem.wpAny_forIn_array' _ (λrest _ v=>∃i es' g t' c,c++rest=I.toList/\v={ s with heap:=i,drawn:=d }/\Heap.SameBut s.heap.objs.size (s.heap.push (cZ w)) i/\i.get? s.heap.objs.size=some (aY es' g t')/\bP P w es' t' ((c.map λe:Int×Value=>txt e.2).filter λk=>!decide (k∈zs))/\es'.size<=c.length) _ ?_ ?_ I _ ⟨h1,#[],er,tr,[],U,U,sb,hr,Tr,qf _⟩)
 .rintro x rest b v ⟨i,es',g,t',c,l,rfl,u,B,f,Z⟩;have xm:x∈es.toList:=S.mem_iff.mp (by rw[<- l];simp);obtain⟨k,tk,rfl,_⟩:=mU T xm
  have pl:c.length+(rest.length+1)=es.size:=by
   have:=congrArg List.length l;rw[S.length_eq]at this;simpa using this
  have V:∀b ob,s.heap.get? b=some ob->i.get? b=some ob:=λb ob q=>by
   rw[u.2 _ (W b ob q)];exact C b ob q
  refine q9 (Qy ?_);refine q9 (Fy (s:={ s with heap:=i,drawn:=d }) (V _ _ L) R λr hr=>?_);refine q9 (qe ?_);rw[hr]
  have fin:∀n j p D,Heap.SameBut s.heap.objs.size (s.heap.push (cZ w)) n->n.get? s.heap.objs.size=some (aY j p D)->bP P w j D (((c++[(hashStr w k,Value.str k tk)]).map λe:Int×Value=>txt e.2).filter λk=>!decide (k∈zs))->j.size<=c.length+1->
   wpAny (model P w) A.in1 (do
    Builtin.Frozenset.unchanged (toString "frozenset."++toString "__sub__") a ep
    pure (ForInStep.yield PUnit.unit)) (λr v=>match r with
     |.yield b'=>∃i es' g t' c,c++rest=I.toList/\v={ s with heap:=i,drawn:=d }/\Heap.SameBut s.heap.objs.size (s.heap.push (cZ w)) i/\i.get? s.heap.objs.size=some (aY es' g t')/\bP P w es' t' ((c.map λe:Int×Value=>txt e.2).filter λk=>!decide (k∈zs))/\es'.size<=c.length
     |.done b'=>False) E { s with heap:=n,drawn:=d }:=λn j p D y H J O=>by
   unfold Builtin.Frozenset.unchanged;have g3:n.get? a=some (aY es ep t):=by rw[y.2 _ (W _ _ G)];exact C _ _ G
   refine q9 (q9 (wpAny_setEpoch_of (s:={ s with heap:=n,drawn:=d }) g3 U T.fit ?_));simp only[bne_self_eq_false,Qn,if_false];refine qe (qe ⟨n,j,p,D,c++[(hashStr w k,Value.str k tk)],by rw[<- l];simp,U,y,H,J,by simpa using O⟩)
  by_cases hk:k∈zs
  .rw[Q6 hk];simp only[Bool.not_true,Qn,if_false];refine qe (wpAny_mono (fin i es' g t' u B ?_ Yo) (λr v hr=>?_) λ_ _ h=>h)
   .rw[qR,Qv];have:([(hashStr w k,Value.str k tk)].map λe:Int×Value=>txt e.2).filter (λk=>!decide (k∈zs))=[]:=by simp[txt,hk]
    rwa[this,qA]
   .cases r with
    |done _=>exact hr.elim
    |yield _=>exact hr
  .rw[Q7 hk];simp only[Bool.not_false,if_true];refine q9 (yL (s:={ s with heap:=i,drawn:=d }) B f (by unfold scanBound;omega) λb n j p D y H J _=>qe ?_);refine wpAny_mono (fin n j p D (u.trans y) H ?_ Yo) (λr v hr=>?_) λ_ _ h=>h
   .rw[qR,Qv];have:([(hashStr w k,Value.str k tk)].map λe:Int×Value=>txt e.2).filter (λk=>!decide (k∈zs))=[k]:=by simp[txt,hk]
    rw[this];exact J
   .cases r with
    |done _=>exact hr.elim
    |yield _=>exact hr
 .rintro b v ⟨i,es',g,t',c,l,rfl,u,B,f,Z⟩;rw[qA]at l;subst l;refine qe (qe (qe ⟨_,U,(λz=>by cases z),h i d es' g t' B ⟨f.el,f.nd,λk=>?_,f.few,f.fit,f.led,f.pl⟩ λb ob q=>?_⟩))
  .rw[f.mem k,List.mem_filter,List.mem_filter,<- T.mem k];exact and_congr_left' ((S.map λe:Int×Value=>txt e.2).mem_iff)
  .rw[u.2 _ (W b ob q)];exact C b ob q
end L2
namespace L2
open PySem PySem.Spec PyProof.Rows
def BM(P:Program)(w:World):R2:=λx y H Q=>∃(a o:Addr)(ys zs:LS),x=.ref a/\y=.ref o/\H a=some (dW P w a ys)/\H o=some (dW P w o zs)/\ys.length<4/\∀p,H p=none->Q (.ref p) (upd H p (dW P w p (ys.filter λk=>!decide (k∈zs))))
theorem CQ:OpR X (binaryOp .Sub) (BM X.prog X.w):=by
 intro _ s Y H x y v u Q I l j h;obtain⟨a,o,ys,zs,rfl,rfl,n,f,_,q⟩:=h;cases l;cases j;obtain⟨⟨es,_,t,c,b⟩,_,_⟩:=I.hok a _ n;obtain⟨⟨_,_,_,m,e⟩,_,_⟩:=I.hok o _ f
 have few:es.size<4:=by
  have:=j7 b.nd λx i=>(b.mem x).mp i;rw[qa,qP]at this;omega
 refine Aj c b m e few λh' d es' _ t' g p old=>?_;have J:=I.laid (t':=s.toks) (h':=h') (a:=s.heap.objs.size) (o:=dW X.prog X.w s.heap.objs.size (ys.filter λk=>!decide (k∈zs))) old (qf _) (dW.ok g p);exact⟨.ref s.heap.objs.size,_,Inv.redrawn (s:=s) J U U,U,q _ (I.hok.fresh (qf _))⟩
theorem Gp(v:X.calm=true):cJ X (.builtin "sorted") (λxs H Q=>∃(p:Addr)(ys:LS),xs=[.ref p]/\SqL X.K H p (ys.map V.str)/\ys.length<64 /\
 ∀l zs,H l=none->zs.Perm ys->sortedS zs=true->Q (.ref l) (upd H l (.lst (zs.map V.str)))):=by
 intro _ s Y H xs us Q I r h;obtain⟨p,ys,rfl,t,i,q⟩:=h;obtain⟨u,rfl,m⟩:=fF r;cases m;obtain⟨c,f,pl,_⟩:=I.list t;have d:=f.length;rw[qa]at d;refine sorted_strs (vs:=c) pl.isList (n8 f) Yo λout zs k g so=>?_;obtain⟨n,e⟩:=sortedAll_at s.heap c out;have j:zs.length<=sizeLine:=by rw[g.length_eq];exact qC (Nat.le_of_lt i) Yk
 have J:=I.laid (t':=s.toks) (h':=sortedAll s.heap c out) (a:=s.heap.objs.size+1) (o:=.lst (zs.map V.str)) (λb o q=>sortedAll_old q) (Nat.le_succ _) ⟨by rwa[qa],out.toList,n,rh k,e⟩;exact⟨.ref (s.heap.objs.size+1),_,J,U,q _ zs (I.hok.fresh (Nat.le_succ _)) g so⟩
noncomputable def Ite(K:W.Frag)(l:Addr):It:=
 ⟨λi H=>∃xs x,SqL K H l xs/\xs[i]?=some x,
  λi H v H'=>∃p x,H p=none/\v=.ref p/\H'=upd H p (.tup [.int i,x])/\∀xs,SqL K H l xs->xs[i]?=some x,
  λi H=>∃xs,SqL K H l xs/\xs.length<=i⟩
theorem zO{Q:Pos}(e it l:Addr)(ne:e≠it):
 iz P w K (.Tuple elts kk Q) (Ite K l) [e,it] e (λi h=>(∃old,IsEnum h e it i old)/\h.IsListIter it l i) where
 mem:=by simp
 obj:=λi h st b hb=>by
  obtain⟨⟨old,a⟩,o,j,c,d⟩:=st;simp only[qw,qT,or_false]at hb;rcases hb with rfl|rfl
  .exact⟨_,a,λv q=>by cases q⟩
  .exact⟨o,j,λv q=>by rw[d]at q;cases q⟩
 keep:=λi h h' st k=>by
  obtain⟨⟨old,a⟩,o,j,r⟩:=st;exact⟨⟨old,k e (by simp) _ a⟩,o,k it (by simp) o j,r⟩
 item:=by
  intro X y hw A D i f s Y H E I p st B;subst y hw A;obtain⟨⟨old,a⟩,m⟩:=st;obtain⟨xs,x,n,ex⟩:=B;obtain⟨G,z,pl,L⟩:=I.list n;obtain⟨u,T,ru⟩:=z.get ex;refine wpAny_pyNext_enum_item a m pl.isList (x:=u) (by simpa using T) ne λg M W O _ V=>⟨_,U,?_⟩;refine wpAny_letOwnedTupleGo_enum M λg' J t=>?_
  have F:∀b∈[e,it],s.heap.objs.size≠b:=λb hb=>by
   simp only[qw,qT,or_false]at hb;rcases hb with rfl|rfl
   .exact Nat.ne_of_gt (qt a)
   .obtain⟨o,j,_⟩:=m;exact Nat.ne_of_gt (qt j)
  have ky:∀b o,b∉[e,it]->s.heap.get? b=some o->g'.get? b=some o:=λb o hb q=>by
   simp only[qw,qT,or_false,not_or]at hb;exact t.extBut _ _ hb.1 (V b o hb.1 hb.2 q)
  have N:Inv X f Y H { s with heap:=g',toks:=s.toks+1 }:=I.turnedL (t':=s.toks+1) ky p;have C:=t.extBut _ _ (F e (by simp)) O;have S:dq X f H s.heap.objs.size:=I.fpOk (qf _) (I.hok.fresh (qf _));have R:Inv X f Y (upd H s.heap.objs.size (.tup [.int i,x])) { s with heap:=g',toks:=s.toks+1 }:=N.track S I.sz ⟨⟨by show 2<=sizeLine;decide,_,C,U⟩,[.int i s.toks,u],.cons ⟨_,U⟩ (.cons ru .nil),⟨_,C,U,_,U⟩⟩;refine⟨.ref s.heap.objs.size,_,R,U,⟨_,x,I.hok.fresh (qf _),U,U,λ_ h=>by rwa[I.list_inj h n]⟩,⟨⟨u,J⟩,?_⟩,λb hb=>?_⟩
  .obtain⟨o,j,r⟩:=W;exact⟨o,t.extBut _ _ (Ne.symm ne) j,r⟩
  .rw[ag (Ne.symm (F b hb))];exact(p b hb).1
 done:=by
  intro X y hw A D i f s Y H E I p st B;subst y hw A;obtain⟨⟨old,a⟩,m⟩:=st;obtain⟨xs,n,_⟩:=B;obtain⟨G,z,pl,L⟩:=I.list n;have X0:=z.length;refine wpAny_pyNext_enum_end (I.ok.hd D) a m pl.isList (by simp;omega) λg k=>⟨U,I.turnedL (t':=s.toks) (ch:=[e,it]) (λb o hb q=>?_) p⟩;simp only[qw,qT,or_false,not_or]at hb;exact k b o hb.2 q
 self:=λ_ _ _ _ _ st h=>by
  obtain⟨⟨old,a⟩,_⟩:=st;exact wpAny_pyIter_enum a h
def Fd(K:W.Frag)(ta:TA):TI:=λY H R=>ta Y H λvs H1=>∃l xs,vs=[.ref l]/\SqL K H1 l xs/\R (Ite K l) H1
theorem lB{a:Expr}{i:TA}{p v:Pos}(t:Gl X "enumerate")(j:X.mg "enumerate"=none)(ha:PA X [a] i)(m:starEach [a] X.env=[(false,eval a X.env)]:=by rfl):
 PI X (.Tuple elts kk v) (.Call (.Name "enumerate" p) [a] [] pos) (Fd X.K i):=by
 intro e s Y H R I h;refine Call_ (gR I t j PyProof.Rows.Boot.«enumerate» (PyProof.Rows.callWith_type1 (thn (ha pos e s Y H _ I h) λus d ⟨vs,n,c,x,w⟩=>?_) (by rw[m];rfl) (by rfl)));obtain⟨l,xs,rfl,o,q⟩:=w;obtain⟨u,rfl,ru⟩:=fF x;cases ru;obtain⟨_,_,pl,_⟩:=c.list o;refine call_enumerate_list pl.isList λg f r _ k=>?_;refine wpAny_pyIter_enum f ⟨d.heap.objs.size+1,[d.heap.objs.size+1,d.heap.objs.size],_,_,n,U,c.kept (t':=d.toks) k,zO _ _ l (Nat.succ_ne_self _),⟨⟨_,f⟩,r⟩,λb hb=>?_,q⟩;simp only[qw,qT,or_false]at hb;rcases hb with rfl|rfl
 .exact c.fpOk (Nat.le_succ _) (c.hok.fresh (Nat.le_succ _))
 .exact c.fpOk (qf _) (c.hok.fresh (qf _))
theorem mh{l:Addr}{xs:LV}{g:TG}(b:Nat->St->Hp->Prop)(h0:b 0 Y H)(hl:∀i Y H,b i Y H->SqL K H l xs)
 (f:∀i x Y H p,xs[i]?=some x->b i Y H->H p=none->g (.ref p) Y (upd H p (.tup [.int i,x])) λd H2=>tb { D with nx:=b (i+1),ct:=b (i+1),bk:=D.nx } d H2)
 (hd:∀Y H,b xs.length Y H->D.nx Y H):
 ∃W:Nat->Nat->St->Hp->Prop,(∃m,W 0 m Y H)/\∀i m Y H,W i m Y H->
  ((Ite K l).stop i H/\D.nx Y H)\/((Ite K l).go i H/\∃N:St->Hp->Prop,(∀c H',N c H'->∃m',m'<m/\W (i+1) m' c H')/\∀x H',(Ite K l).yld i H x H'->g x Y H' λd H2=>tb { D with nx:=N,ct:=N,bk:=D.nx } d H2):=by
 exists λi m Y H=>m=xs.length-i/\i<=xs.length/\b i Y H,⟨_,U,qv _,h0⟩;rintro i m Y H ⟨rfl,_,p⟩;have q:=hl i Y H p;by_cases lt:i<xs.length
 .refine .inr ⟨⟨xs,xs[i],q,by simp[lt]⟩,b (i+1),λc H' h=>⟨_,Yo,U,lt,h⟩,λv H' y=>?_⟩;obtain⟨a,x,hn,rfl,rfl,e⟩:=y;exact f i x Y H a (e xs q) p hn
 .obtain rfl:i=xs.length:=by omega
  exact .inl ⟨⟨xs,q,qf _⟩,hd Y H p⟩
end L2
namespace L2
theorem ca.one{A:PySem.Around}(h:ca n A):A.units+1<PySem.cLine:=by
 have:=h.units;omega
end L2
namespace Tr
open PySem PySem.Spec PyProof.Rows L2
theorem vz:∀{a b:LS},a.Perm b->sortedS a=true->sortedS b=true->a=b
 |[],b,h,_,_=>(List.nil_perm.mp h).symm
 |x::r,[],h,_,_=>Q8 h.length_eq (by simp)
 |x::r,y::s,h,sa,sb=>by
  have e:x=y:=by
   rcases qw.mp (h.mem_iff.mp (qq (a:=x)))with e|c
   .exact e
   rcases qw.mp (h.mem_iff.mpr (qq (a:=y)))with e|d
   .exact e.symm
   exact um (List.le_antisymm (ju r x sa y d) (ju s y sb x c))
  subst e;rw[vz ((List.perm_cons x).mp h) (kT sa) (kT sb)]
noncomputable def srt(l:LS):LS:=by
 classical
 exact if h:∃zs:LS,zs.Nodup/\(∀k,k∈zs↔k∈l)/\sortedS zs=true then Classical.choose h else[]
theorem kx{l zs:LS}(nd:zs.Nodup)(d:∀k,k∈zs↔k∈l)(so:sortedS zs=true):zs=srt l:=by
 have h:∃zs:LS,zs.Nodup/\(∀k,k∈zs↔k∈l)/\sortedS zs=true:=⟨zs,nd,d,so⟩;unfold srt;rw[dif_pos h];obtain⟨a,b,c⟩:=Classical.choose_spec h;exact vA nd a so c λk=>(d k).trans (b k).symm
noncomputable def eP(l:LS):LS:=by
 classical
 exact if h:∃zs:LS,zs.Perm l/\sortedS zs=true then Classical.choose h else[]
theorem uA{l zs:LS}(c:zs.Perm l)(so:sortedS zs=true):zs=eP l:=by
 have h:∃zs:LS,zs.Perm l/\sortedS zs=true:=⟨zs,c,so⟩;unfold eP;rw[dif_pos h];obtain⟨a,b⟩:=Classical.choose_spec h;exact vz (c.trans a.symm) so b
structure Row where
 kind:Str
 owns:LS
 reads:LS
 into:Option Str
 outof:Option Str
noncomputable def gM:Option Str->V
 |none=>.non
 |some q=>.str q
def cH(H:Hp)(v:V)(r:Row):Prop:=∃p po F,v=.ref p/\H p=some (.tup [.str r.kind,.ref po,.ref F,gM r.into,gM r.outof])/\H po=some (.tup (r.owns.map V.str))/\H F=some (.tup (r.reads.map V.str))
theorem cH.same{v:V}{r:Row}(e:a8 H H')(h:cH H v r):cH H' v r:=by
 obtain⟨p,po,b,rfl,d,c,a⟩:=h;exact⟨p,po,b,U,e _ _ d,e _ _ c,e _ _ a⟩
inductive aU(H:Hp):LV->List Row->Prop
 |nil:aU H [] []
 |cons {v:V}{vs:LV}{r:Row}{rs:List Row}:cH H v r->aU H vs rs->aU H (v::vs) (r::rs)
theorem aU.same{H H':Hp}(e:a8 H H'):∀{vs:LV}{rs:List Row},aU H vs rs->aU H' vs rs
 |_,_,.nil=>.nil
 |_,_,.cons h r=>.cons (h.same e) (aU.same e r)
theorem aU.snoc{H:Hp}{v:V}{r:Row}(h:cH H v r):∀{vs:LV}{rs:List Row},aU H vs rs->aU H (vs++[v]) (rs++[r])
 |_,_,.nil=>.cons h .nil
 |_,_,.cons h' t=>.cons h' (aU.snoc h t)
theorem aU.len{H:Hp}:∀{vs:LV}{rs:List Row},aU H vs rs->vs.length=rs.length
 |_,_,.nil=>rfl
 |_,_,.cons _ t=>congrArg (·+1) (aU.len t)
theorem aU.at{H:Hp}:∀{vs:LV}{rs:List Row},aU H vs rs->∀(i:Nat)(v:V),vs[i]?=some v->∃r,rs[i]?=some r/\cH H v r
 |_,_,.nil,i,v,h=>by simp at h
 |_,_,.cons (r:=r) h' t,0,v,h=>by
  simp at h;subst h;exact⟨r,U,h'⟩
 |_,_,.cons h' t,i+1,v,h=>aU.at t i v (by simpa using h)
noncomputable def aP:ae->Row
 |.set x a F b=>⟨"set",[x],srt ((a.names++b.names).filter λy=>!decide (y=x)),none,none⟩
 |.put q x=>⟨"put",[q++(">":Str)],[x],some q,none⟩
 |.get q x=>⟨"get",eP [x,q++("<":Str)],[],none,some q⟩
 |.give x=>⟨"give",[(">":Str)],[x],none,none⟩
 |.cond x t o=>⟨"if",srt (cards [.cond x t o]),[],none,none⟩
 |.whl x b=>⟨"while",srt (cards [.whl x b]),[],none,none⟩
 |.rep n b=>⟨"repeat",srt (cards [.rep n b]),[],none,none⟩
theorem cH.new{H:Hp}{p po a:Addr}{r:Row}(d:H po=some (.tup (r.owns.map V.str)))(c:H a=some (.tup (r.reads.map V.str)))(b:H p=none):cH (upd H p (.tup [.str r.kind,.ref po,.ref a,gM r.into,gM r.outof])) (.ref p) r:=
 ⟨p,po,a,U,ah,a8.new b _ _ _ d,a8.new b _ _ _ c⟩
end Tr
variable {r:Tr.Row}{rs:List Tr.Row}
namespace Tr
open PySem PySem.Spec PyProof.Rows L2
noncomputable def bal(rs:List Row)(q:Str):Int:=((rs.filter λr=>decide (r.into=some q)).length:Int)-((rs.filter λr=>decide (r.outof=some q)).length:Int)
theorem j9(rs:List Row)(r:Row)(q:Str):bal (rs++[r]) q=bal rs q+(if r.into=some q then 1 else 0)-(if r.outof=some q then 1 else 0):=by
 unfold bal;rw[Qv,Qv,qc,qc];by_cases h1:r.into=some q<;>by_cases h2:r.outof=some q<;>simp[h1,h2]<;>omega
def Fed(rs:List Row):Prop:=∀i r q,rs[i]?=some r->r.outof=some q->0<bal (rs.take i) q
def fE(r:Row):Prop:=r.into=none\/r.outof=none
def jZ(kvs:LN)(rs:List Row):Prop:=∀q:Str,(aI kvs (.inr q)).getD (.int 0)=.int (bal rs q)
def yR(ds:LA):Prop:=∀d∈ds,∀n b,d≠.rep n b
noncomputable def dv(F:LS)(ss:LF)(ds:LA):Row:=⟨"end",srt (dD F ss ds),[],none,none⟩
theorem BA(d:ae):fE (aP d):=by
 cases d<;>simp[fE,aP]
theorem Fed.snoc(h:Fed rs)(hr:r.outof=none):Fed (rs++[r]):=λi c q a b=>by
 by_cases lt:i<rs.length
 .rw[Q9 lt]at a;rw[List.take_append_of_le_length (Nat.le_of_lt lt)];exact h i c q a b
 .rw[qO (Nat.not_lt.mp lt)]at a
  have:c=r:=by
   cases e:i-rs.length with
   |zero=>rw[e]at a;exact(qM a).symm
   |succ n=>rw[e]at a;simp at a
  rw[this,hr]at b;cases b
noncomputable def ae.word:ae->Str
 |.set ..=>"set"
 |.put ..=>"put"
 |.get ..=>"get"
 |.give ..=>"give"
 |.cond ..=>"if"
 |.whl ..=>"while"
 |.rep ..=>"repeat"
theorem RD.tuple{v:V}{d:ae}(h:RD H v d):∃p r,v=.ref p/\H p=some (.tup (.str d.word::r)):=by
 cases h with
 |set h=>exact⟨_,_,U,h⟩
 |put h=>exact⟨_,_,U,h⟩
 |get h=>exact⟨_,_,U,h⟩
 |give h=>exact⟨_,_,U,h⟩
 |cond h _ _=>exact⟨_,_,U,h⟩
 |whl h _=>exact⟨_,_,U,h⟩
 |rep h _=>exact⟨_,_,U,h⟩
theorem cH.off{c:Addr}{xs:LV}{o:HO}{v:V}(g:H c=some (.lst xs))(h:cH H v r):cH (upd H c o) v r:=by
 obtain⟨p,po,f,rfl,e,d,a⟩:=h;have ne:∀b ys,H b=some (.tup ys)->b≠c:=λb ys q z=>by rw[z,g]at q;cases q
 exact⟨p,po,f,U,by rwa[ag (ne _ _ e)],by rwa[ag (ne _ _ d)],by rwa[ag (ne _ _ a)]⟩
theorem aU.off{H:Hp}{c:Addr}{xs:LV}{o:HO}(a:H c=some (.lst xs)):∀{vs:LV}{rs:List Row},aU H vs rs->aU (upd H c o) vs rs
 |_,_,.nil=>.nil
 |_,_,.cons h r=>.cons (h.off a) (aU.off a r)
theorem at0{v:α}{r:List α}:atI (v::r) (0:Int)=some v:=da (j:=0) U
theorem tU{d:ae}(h:∀n b,d≠.rep n b):V.str d.word≠V.str "repeat":=by
 cases d with
 |rep n b=>exact Q8 U (h n b)
 |_=>exact λz=>Q8 (V.str.inj z) (by simp only[ae.word];decide +kernel)
theorem ya:∀{ds:LA}{i:Nat}{d:ae},ds[i]?=some d->d.depth<=aO ds
 |[],_,_,h=>by simp at h
 |e::r,0,d,h=>by
  simp at h;subst h;rw[aO];exact Nat.le_max_left _ _
 |e::r,i+1,d,h=>by
  have:=ya (ds:=r) (i:=i) (by simpa using h);rw[aO];omega
theorem sI{d:ae}(h:ds[i]?=some d):d.flat.length<=(aj ds).length/\∀e∈d.flat,e∈aj ds:=by
 have sp:ds=ds.take i++([d]++ds.drop (i+1)):=by
  rw[<- qQ,show ds.take i++[d]=ds.take (i+1)by rw[qu,h];rfl,Qx]
 have e:aj ds=aj (ds.take i)++(d.flat++aj (ds.drop (i+1))):=by
  conv=>lhs;rw[sp]
  rw[fB,fB,aj,aj,qA]
 rw[e];refine⟨by simp only[qc];omega,λx a=>by simp[a]⟩
theorem yp{d:ae}(h:ds[i]?=some d):∀q∈cards [d],q∈cards ds:=λq a=>by
 unfold cards at *;rw[aj,aj,qA]at a;obtain⟨e,b,a⟩:=List.mem_flatMap.mp a;exact List.mem_flatMap.mpr ⟨e,(sI h).2 e b,a⟩
end Tr
namespace L2
open PySem PySem.Spec PyProof.Rows
end L2
namespace Tr
open PySem PySem.Spec PyProof.Rows L2
inductive RMs(H:Hp):LV->List (Str×Str)->Prop
 |nil:RMs H [] []
 |cons {p:Addr}{vs:LV}{m:Str×Str}{ms:List (Str×Str)}:H p=some (.tup [.str m.1,.str m.2])->RMs H vs ms->RMs H (.ref p::vs) (m::ms)
theorem RMs.same{H H':Hp}(e:a8 H H'):∀{vs:LV}{ms:List (Str×Str)},RMs H vs ms->RMs H' vs ms
 |_,_,.nil=>.nil
 |_,_,.cons h r=>.cons (e _ _ h) (RMs.same e r)
theorem RMs.off{H:Hp}{c:Addr}{xs:LV}{o:HO}(a:H c=some (.lst xs)):∀{vs:LV}{ms:List (Str×Str)},RMs H vs ms->RMs (upd H c o) vs ms
 |_,_,.nil=>.nil
 |_,_,.cons (p:=p) h r=>.cons (by rw[ag (λz=>by rw[z,a]at h;cases h)];exact h) (RMs.off a r)
theorem RMs.snoc{H:Hp}{p:Addr}{m:Str×Str}(h:H p=some (.tup [.str m.1,.str m.2])):∀{vs:LV}{ms:List (Str×Str)},RMs H vs ms->RMs H (vs++[.ref p]) (ms++[m])
 |_,_,.nil=>.cons h .nil
 |_,_,.cons h' r=>.cons h' (RMs.snoc h r)
theorem RMs.len{H:Hp}:∀{vs:LV}{ms:List (Str×Str)},RMs H vs ms->vs.length=ms.length
 |_,_,.nil=>rfl
 |_,_,.cons _ r=>congrArg (·+1) (RMs.len r)
theorem RMs.at{H:Hp}:∀{vs:LV}{ms:List (Str×Str)},RMs H vs ms->∀(i:Nat)(v:V),vs[i]?=some v->∃p m,v=.ref p/\ms[i]?=some m/\H p=some (.tup [.str m.1,.str m.2])
 |_,_,.nil,i,v,h=>by simp at h
 |_,_,.cons (p:=p) (m:=m) h' r,0,v,h=>by
  simp at h;exact⟨p,m,h.symm,U,h'⟩
 |_,_,.cons h' r,i+1,v,h=>RMs.at r i v (by simpa using h)
noncomputable def ae.moves:ae->List (Str×Str)
 |.put q _=>[("put",q)]
 |.get q _=>[("get",q)]
 |_=>[]
noncomputable def fZ(s:Int×Int×Int)(m:Str×Str):Int:=s.1+(if m.1="put" then 1 else -1)
noncomputable def d5(q:Str)(s:Int×Int×Int)(m:Str×Str):Int×Int×Int:=
 if m.2=q then(fZ s m,if fZ s m<s.2.1 then fZ s m else s.2.1,if fZ s m > s.2.2 then fZ s m else s.2.2)else s
noncomputable def aW(q:Str)(ms:List (Str×Str)):Int×Int×Int:=ms.foldl (d5 q) (0,0,0)
theorem pk(q:Str)(ms:List (Str×Str))(m:Str×Str):aW q (ms++[m])=d5 q (aW q ms) m:=by
 unfold aW;rw[List.foldl_append]
 rfl
noncomputable def jK(F J:Int):Int:=if F % 4=0 then 1+F / 4 % 2000 else if F % 4=1 then 1+F / 4 % 3 else 1+F / 4 % (if J > 1 then J else 1)
theorem kU(q:Str):∀ms:List (Str×Str),-(ms.length:Int)<=(aW q ms).2.1/\(aW q ms).2.1<=0/\(aW q ms).2.1<=(aW q ms).1/\(aW q ms).1<=(aW q ms).2.2/\(aW q ms).2.2<=ms.length:=λms=>by
 have f:∀(l:List (Str×Str))(s:Int×Int×Int)(n:Nat),-(n:Int)<=s.2.1->s.2.1<=0->s.2.1<=s.1->s.1<=s.2.2->s.2.2<=n->
  -((n+l.length:Nat):Int)<=(l.foldl (d5 q) s).2.1/\(l.foldl (d5 q) s).2.1<=0/\(l.foldl (d5 q) s).2.1<=(l.foldl (d5 q) s).1/\(l.foldl (d5 q) s).1<=(l.foldl (d5 q) s).2.2/\(l.foldl (d5 q) s).2.2<=((n+l.length:Nat):Int):=by
  intro l
  induction l with
  |nil=>
   intro s n a b c d e;exact⟨a,b,c,d,e⟩
  |cons m r i=>
   intro s n a b c d e;rw[QC,qE]
   have h:∀t:Int×Int×Int,t=d5 q s m->-((n+1:Nat):Int)<=t.2.1/\t.2.1<=0/\t.2.1<=t.1/\t.1<=t.2.2/\t.2.2<=((n+1:Nat):Int):=by
    intro t ht;subst ht;unfold d5 fZ;split
    .dsimp only;split<;>split<;>split<;>omega
    .omega
   obtain⟨p,o,g,k,j⟩:=h _ U;have:=i (d5 q s m) (n+1) p o g k j;rw[show n+1+r.length=n+(r.length+1)by omega]at this;exact this
 have:=f ms (0,0,0) 0 (by simp) (by simp) (by simp) (by simp) (by simp);rw[Nat.zero_add]at this;exact this
noncomputable def fP(q:Str)(ms:List (Str×Str)):Nat:=(-(aW q ms).2.1).toNat
noncomputable def bX(rs names:LS)(ms:List (Str×Str)):Nat->LA
 |0=>[]
 |i+1=>bX rs names ms i++List.replicate (fP (rs.getD i (">":Str)) ms) (.put (rs.getD i (">":Str)) (nth names (i:Int)))
noncomputable def eh(rs:LS)(t:Int)(ms:List (Str×Str)):Nat->LF
 |0=>[]
 |i+1=>eh rs t ms i++[(rs.getD i (">":Str),jK (aA t ((i:Int)+1)) ((aW (rs.getD i (">":Str)) ms).2.2-(aW (rs.getD i (">":Str)) ms).2.1))]
theorem xC(q:Str)(ms:List (Str×Str)):fP q ms<=ms.length:=by
 have:=kU q ms;unfold fP;omega
theorem me(rs names:LS)(ms:List (Str×Str)):∀i,(bX rs names ms i).length<=i * ms.length
 |0=>by simp[bX]
 |i+1=>by
  have h1:=me rs names ms i;have a:=xC (rs.getD i (">":Str)) ms;rw[bX,qc,List.length_replicate,Nat.succ_mul];omega
theorem ni(rs:LS)(t:Int)(ms:List (Str×Str)):∀i,(eh rs t ms i).length=i
 |0=>rfl
 |i+1=>by rw[eh,qc,ni rs t ms i];rfl
theorem uq{rs:LS}{t:Int}{ms:List (Str×Str)}:∀{i:Nat},i<=rs.length->∀x∈eh rs t ms i,x.1∈rs
 |0,_,x,h=>by simp[eh]at h
 |i+1,hi,x,h=>by
  rw[eh,qi]at h;rcases h with h|h
  .exact uq Yo x h
  .rw[qV]at h;subst h;show rs.getD i _∈rs;rw[qo,qd Yo];exact List.getElem_mem _
theorem xP(rs names:LS)(ms:List (Str×Str)):∀i,yR (bX rs names ms i)
 |0=>λd h=>by simp[bX]at h
 |i+1=>λd h=>by
  rw[bX,qi]at h;rcases h with h|h
  .exact xP rs names ms i d h
  .rw[(List.mem_replicate.mp h).2];intro n b z;cases z
inductive RPs(H:Hp):LV->List (Str×Str)->Prop
 |nil:RPs H [] []
 |cons {p:Addr}{vs:LV}{m:Str×Str}{ms:List (Str×Str)}:H p=some (.tup [.str "put",.str m.1,.str m.2])->RPs H vs ms->RPs H (.ref p::vs) (m::ms)
theorem RPs.same{H H':Hp}(e:a8 H H'):∀{vs:LV}{ms:List (Str×Str)},RPs H vs ms->RPs H' vs ms
 |_,_,.nil=>.nil
 |_,_,.cons h r=>.cons (e _ _ h) (RPs.same e r)
theorem RPs.off{H:Hp}{c:Addr}{xs:LV}{o:HO}(a:H c=some (.lst xs)):∀{vs:LV}{ms:List (Str×Str)},RPs H vs ms->RPs (upd H c o) vs ms
 |_,_,.nil=>.nil
 |_,_,.cons h r=>.cons (by rw[ag (λz=>by rw[z,a]at h;cases h)];exact h) (RPs.off a r)
theorem RPs.app{H:Hp}:∀{us vs:LV}{a b:List (Str×Str)},RPs H us a->RPs H vs b->RPs H (us++vs) (a++b)
 |_,_,_,_,.nil,h=>h
 |_,_,_,_,.cons x r,h=>.cons x (RPs.app r h)
theorem RPs.rep{H:Hp}{p:Addr}{m:Str×Str}(h:H p=some (.tup [.str "put",.str m.1,.str m.2])):∀n:Nat,RPs H (List.replicate n (.ref p)) (List.replicate n m)
 |0=>.nil
 |n+1=>.cons h (RPs.rep h n)
theorem RPs.len{H:Hp}:∀{vs:LV}{ms:List (Str×Str)},RPs H vs ms->vs.length=ms.length
 |_,_,.nil=>rfl
 |_,_,.cons _ r=>congrArg (·+1) (RPs.len r)
theorem RPs.rds{H:Hp}:∀{vs:LV}{ms:List (Str×Str)},RPs H vs ms->RDs H vs (ms.map λm=>.put m.1 m.2)
 |_,_,.nil=>.nil
 |_,_,.cons h r=>.cons (.put h) (RPs.rds r)
noncomputable def ic(rs names:LS)(ms:List (Str×Str)):Nat->List (Str×Str)
 |0=>[]
 |i+1=>ic rs names ms i++List.replicate (fP (rs.getD i (">":Str)) ms) (rs.getD i (">":Str),nth names (i:Int))
theorem mf(rs names:LS)(ms:List (Str×Str)):∀i,(ic rs names ms i).map (λm=>ae.put m.1 m.2)=bX rs names ms i
 |0=>rfl
 |i+1=>by rw[ic,bX,qR,mf rs names ms i,List.map_replicate]
theorem RSs.off{H:Hp}{c:Addr}{xs:LV}{o:HO}(a:H c=some (.lst xs)):∀{vs:LV}{ss:LF},RSs H vs ss->RSs (upd H c o) vs ss
 |_,_,.nil=>.nil
 |_,_,.cons h r=>.cons (by rw[ag (λz=>by rw[z,a]at h;cases h)];exact h) (RSs.off a r)
theorem Fv(n:Nat)(v:V):(List.replicate n [v]).flatten=List.replicate n v:=by
 induction n with
 |zero=>rfl
 |succ n a=>rw[List.replicate_succ,List.flatten_cons,a];rfl
theorem AS(n:Int)(names rooms:LS)(shut:Bool):∀k b,bE n names rooms shut≠.rep k b:=λk b z=>by
 unfold bE at z;split at z
 .cases z
 .split at z
  .split at z<;>cases z
  .cases z
theorem yG(a b:List Row)(q:Str):bal (a++b) q=bal a q+bal b q:=by
 unfold bal;rw[Qv,Qv,qc,qc];omega
theorem Ci:¬ ("get":Str)="put":=Yd
theorem BK(q:Str)(a:List (Str×Str)):∀n,∀b:List (Str×Str),b.length=n->(aW q (a++b)).2.1<=(aW q a).1:=by
 have mono:∀(b:List (Str×Str))(s:Int×Int×Int),(b.foldl (d5 q) s).2.1<=s.2.1:=by
  intro b
  induction b with
  |nil=>intro s;exact Int.le_refl _
  |cons m r c=>
   intro s;rw[QC];refine Int.le_trans (c _) ?_;unfold d5;split
   .dsimp only;split<;>omega
   .exact Int.le_refl _
 intro n b _;have f:=mono b (aW q a);have d:=(kU q a).2.2.1;have e:aW q (a++b)=b.foldl (d5 q) (aW q a):=by unfold aW;rw[List.foldl_append]
 rw[e];omega
theorem GG{q p:Str}(n:Nat):bal ((List.replicate n (ae.put p x)).map aP) q=if p=q then(n:Int)else 0:=by
 rw[List.map_replicate];unfold bal;by_cases h:p=q
 .simp[aP,h]
 .simp[aP,h]
theorem yF(rs names:LS)(ms:List (Str×Str))(q:Str):∀i,0<=bal ((bX rs names ms i).map aP) q/\∀k,k<i->rs.getD k (">":Str)=q->(fP q ms:Int)<=bal ((bX rs names ms i).map aP) q
 |0=>⟨by simp[bX,bal],λk hk=>Q8 hk (QB _)⟩
 |i+1=>by
  obtain⟨h1,h2⟩:=yF rs names ms q i
  have e:bal ((bX rs names ms (i+1)).map aP) q=bal ((bX rs names ms i).map aP) q+(if rs.getD i (">":Str)=q then((fP (rs.getD i (">":Str)) ms:Nat):Int)else 0):=by
   rw[bX,qR,yG,GG]
  rw[e];refine⟨by split<;>omega,λk hk a=>?_⟩;by_cases lt:k<i
  .have:=h2 k lt a;split<;>omega
  .obtain rfl:k=i:=by omega
   rw[Q5 a,a];omega
theorem xO(rs names:LS)(ms:List (Str×Str)):∀i,∀d∈bX rs names ms i,(aP d).outof=none
 |0,d,h=>by simp[bX]at h
 |i+1,d,h=>by
  rw[bX,qi]at h;rcases h with h|h
  .exact xO rs names ms i d h
  .rw[(List.mem_replicate.mp h).2]
   rfl
theorem BD{d:ae}{q:Str}(h:(aP d).outof=some q):∃x,d=.get q x:=by
 cases d with
 |get p x=>
  have:p=q:=qM h;exact⟨x,by rw[this]⟩
 |_=>simp[aP]at h
def yW(rooms:LS)(d:ae):Prop:=∀q x,d=.get q x->q∈rooms
theorem AX(n:Int)(names rooms:LS)(shut:Bool):yW rooms (bE n names rooms shut):=λq x z=>by
 unfold bE at z;split at z
 .cases z
 .split at z
  .rename_i c;split at z
   .injection z with z1 z2;rw[<- z1];exact i7 c.2.1 _
   .cases z
  .cases z
theorem rR:∀ds:LA,ds.length<=(aj ds).length
 |[]=>qf _
 |d::r=>by
  have:=rR r;rw[aj,qc,j6,qE,qE];omega
theorem xQ(rs names:LS)(ms:List (Str×Str))(hn:0<names.length):∀i,i<=rs.length->∀d∈bX rs names ms i,∃q x,d=.put q x/\q∈rs/\x∈names
 |0,_,d,h=>by simp[bX]at h
 |i+1,hi,d,h=>by
  rw[bX,qi]at h;rcases h with h|h
  .exact xQ rs names ms hn i Yo d h
  .refine⟨_,_,(List.mem_replicate.mp h).2,?_,i7 hn _⟩;rw[qo,qd Yo];exact List.getElem_mem _
theorem Cf(h:∀d∈ds,∃q x,d=.put q x):aj ds=ds/\aO ds=aO ds/\∀d∈ds,d.depth=0:=by
 refine⟨?_,U,λd hd=>?_⟩
 .induction ds with
  |nil=>rfl
  |cons d r a=>
   obtain⟨q,x,rfl⟩:=h d qq;rw[aj,a λe b=>h e (qp _ b)]
   rfl
 .obtain⟨q,x,rfl⟩:=h d hd
  rfl
theorem y9:∀{ds:LA},(∀d∈ds,d.depth=0)->aO ds=0
 |[],_=>rfl
 |d::r,h=>by
  rw[aO,h d qq,y9 λe a=>h e (qp _ a)]
  rfl
theorem ku(l:LS):(srt l).length<=l.length:=by
 unfold srt;split
 .rename_i h;obtain⟨a,b,_⟩:=Classical.choose_spec h;exact j7 a λx c=>(b x).mp c
 .exact qv _
theorem Ay(l:LS):(eP l).length<=l.length:=by
 unfold eP;split
 .rename_i h;exact Nat.le_of_eq (Classical.choose_spec h).1.length_eq
 .exact qv _
noncomputable def fQ(b:LA):Row:=⟨"gate",srt (cards b),[],none,none⟩
noncomputable def reps(n:Nat)(l:List α):List α:=(List.replicate n l).flatten
theorem vQ(l:List α):reps 0 l=[]:=U
theorem gE(n:Nat)(l:List α):reps (n+1) l=l++reps n l:=by unfold reps;rw[List.replicate_succ,List.flatten_cons]
theorem gF(n:Nat)(l:List α):(reps n l).length=n * l.length:=by
 induction n with
 |zero=>simp[reps]
 |succ n a=>rw[gE,qc,a,Nat.succ_mul];omega
theorem BH{b:Type}(f:α->List b)(n:Nat)(l:List α):(reps n l).flatMap f=reps n (l.flatMap f):=by
 induction n with
 |zero=>rfl
 |succ n a=>rw[gE,gE,qX,a]
theorem BG{l:List α}{x:α}(h:x∈reps n l):x∈l:=by
 induction n with
 |zero=>simp[reps]at h
 |succ n a=>rw[gE,qi]at h;exact h.elim id a
theorem BF(n:Nat)(l:List α):reps (n+1) l=reps n l++l:=by
 induction n with
 |zero=>simp[reps]
 |succ n a=>
  have e:reps (n+1+1) l=l++(reps n l++l):=by rw[gE,a]
  rw[e,<- qQ,<- gE]
mutual
noncomputable def bH:ae->List Row
 |.rep n b=>fQ b::reps n.toNat (aJ b++[fQ b])
 |.set x a F b=>[aP (.set x a F b)]
 |.put q x=>[aP (.put q x)]
 |.get q x=>[aP (.get q x)]
 |.give x=>[aP (.give x)]
 |.cond x t o=>[aP (.cond x t o)]
 |.whl x b=>[aP (.whl x b)]
noncomputable def aJ:LA->List Row
 |[]=>[]
 |d::r=>bH d++aJ r
end
theorem oZ{d:ae}(h:∀n b,d≠.rep n b):bH d=[aP d]:=by
 cases d with
 |rep n b=>exact Q8 U (h n b)
 |_=>simp[bH]
theorem kR:∀(a b:LA),aJ (a++b)=aJ a++aJ b
 |[],b=>by simp[aJ]
 |d::a,b=>by rw[Qp,aJ,aJ,kR a b,qQ]
theorem Bz(h:∀d∈ds,∀n b,d≠.rep n b):aJ ds=ds.map aP:=by
 induction ds with
 |nil=>simp[aJ]
 |cons d r a=>rw[aJ,oZ (h d qq),a λe c=>h e (qp _ c)];rfl
theorem oY{d:ae}(h:ds[i]?=some d):aJ (ds.take (i+1))=aJ (ds.take i)++bH d:=by
 rw[qu,h,kR];simp[aJ]
theorem Bv{n:Int}{b:LA}(h:0<n):(aJ b).length+2<=(bH (.rep n b)).length:=by
 rw[bH,qE,gF,qc,Qa];have a:1<=n.toNat:=Yo;have:=Nat.mul_le_mul_right ((aJ b).length+1) a;omega
theorem By{d:ae}(h:ds[i]?=some d):(bH d).length+(aJ (ds.take i)).length<=(aJ ds).length:=by
 have e:ds=ds.take (i+1)++ds.drop (i+1):=(Qx _ _).symm
 conv=>rhs;rw[e]
 rw[kR,oY h,qc,qc];omega
noncomputable def ck(r:Row):List (Str×Str):=match r.into,r.outof with
 |some q,_=>[("put",q)]
 |none,some q=>[("get",q)]
 |none,none=>[]
mutual
noncomputable def cA:ae->List (Str×Str)
 |.rep n b=>reps n.toNat (bB b)
 |.put q _=>[("put",q)]
 |.get q _=>[("get",q)]
 |.set _ _ _ _=>[]
 |.give _=>[]
 |.cond _ _ _=>[]
 |.whl _ _=>[]
noncomputable def bB:LA->List (Str×Str)
 |[]=>[]
 |d::r=>cA d++bB r
end
theorem rD:∀(a b:LA),bB (a++b)=bB a++bB b
 |[],b=>by simp[bB]
 |d::a,b=>by rw[Qp,bB,bB,rD a b,qQ]
theorem wZ{d:ae}(h:ds[i]?=some d):bB (ds.take (i+1))=bB (ds.take i)++cA d:=by
 rw[qu,h,rD];simp[bB]
theorem E4{d:ae}(h:ds[i]?=some d):(cA d).length+(bB (ds.take i)).length<=(bB ds).length:=by
 have e:ds=ds.take (i+1)++ds.drop (i+1):=(Qx _ _).symm
 conv=>rhs;rw[e]
 rw[rD,wZ h,qc,qc];omega
mutual
theorem E3:∀d:ae,(bH d).flatMap ck=cA d
 |.rep n b=>by
  rw[bH,cA,qI,BH,qX,rC b];simp[ck,fQ]
 |.set x a _ b=>by simp[bH,cA,ck,aP]
 |.put q x=>by simp[bH,cA,ck,aP]
 |.get q x=>by simp[bH,cA,ck,aP]
 |.give x=>by simp[bH,cA,ck,aP]
 |.cond x t o=>by simp[bH,cA,ck,aP]
 |.whl x b=>by simp[bH,cA,ck,aP]
theorem rC:∀ds:LA,(aJ ds).flatMap ck=bB ds
 |[]=>by simp[aJ,bB]
 |d::r=>by rw[aJ,bB,qX,E3 d,rC r]
end
mutual
theorem Bx:∀(d:ae)(r:Row),r∈bH d->(∃b,r=fQ b/\∀e∈aj b,e∈d.flat)\/∃e∈d.flat,r=aP e/\∀n b,e≠.rep n b
 |.rep n b,r,h=>by
  rw[bH,qw]at h
  have g:(∃f,r=fQ f/\∀e∈aj f,e∈(ae.rep n b).flat)\/r∈aJ b:=by
   rcases h with h|h
   .exact .inl ⟨b,h,λe c=>by simp[ae.flat,c]⟩
   .rcases qi.mp (BG h)with h|h
    .exact .inr h
    .exact .inl ⟨b,by simpa using h,λe c=>by simp[ae.flat,c]⟩
  rcases g with g|g
  .exact .inl g
  .rcases fY b r g with⟨f,e,h'⟩|⟨e,c,h'⟩
   .exact .inl ⟨f,e,λx i=>by simp[ae.flat,h' x i]⟩
   .exact .inr ⟨e,by simp[ae.flat,c],h'⟩
 |.set x a sg b,r,h=>by
  rw[bH,qV]at h;exact .inr ⟨_,by simp[ae.flat],h,λn b z=>by cases z⟩
 |.put q x,r,h=>by
  rw[bH,qV]at h;exact .inr ⟨_,by simp[ae.flat],h,λn b z=>by cases z⟩
 |.get q x,r,h=>by
  rw[bH,qV]at h;exact .inr ⟨_,by simp[ae.flat],h,λn b z=>by cases z⟩
 |.give x,r,h=>by
  rw[bH,qV]at h;exact .inr ⟨_,by simp[ae.flat],h,λn b z=>by cases z⟩
 |.cond x t o,r,h=>by
  rw[bH,qV]at h;exact .inr ⟨_,by simp[ae.flat],h,λn b z=>by cases z⟩
 |.whl x b,r,h=>by
  rw[bH,qV]at h;exact .inr ⟨_,by simp[ae.flat],h,λn b z=>by cases z⟩
theorem fY:∀(ds:LA)(r:Row),r∈aJ ds->(∃b,r=fQ b/\∀e∈aj b,e∈aj ds)\/∃e∈aj ds,r=aP e/\∀n b,e≠.rep n b
 |[],r,h=>by simp[aJ]at h
 |d::ds,r,h=>by
  rw[aJ,qi]at h;rcases h with h|h
  .rcases Bx d r h with⟨b,e,h'⟩|⟨e,c,h'⟩
   .exact .inl ⟨b,e,λx a=>by simp[aj,h' x a]⟩
   .exact .inr ⟨e,by simp[aj,c],h'⟩
  .rcases fY ds r h with⟨b,e,h'⟩|⟨e,c,h'⟩
   .exact .inl ⟨b,e,λx a=>by simp[aj,h' x a]⟩
   .exact .inr ⟨e,by simp[aj,c],h'⟩
end
theorem oX(ds:LA):∀r∈aJ ds,fE r:=λr h=>by
 rcases fY ds r h with⟨b,rfl,_⟩|⟨e,_,rfl,_⟩
 .exact .inl U
 .exact BA e
theorem Bw{q:Str}(h:r∈aJ ds)(a:r.outof=some q):∃x,.get q x∈aj ds:=by
 rcases fY ds r h with⟨b,rfl,_⟩|⟨e,c,rfl,_⟩
 .simp[fQ]at a
 .obtain⟨x,rfl⟩:=BD a;exact⟨x,c⟩
theorem GF(q:Str):∀(rs:List Row),(∀r∈rs,fE r)->bal rs q=(aW q (rs.flatMap ck)).1:=λrs h=>by
 have a:∀n,∀rs:List Row,rs.length=n->(∀r∈rs,fE r)->bal rs q=(aW q (rs.flatMap ck)).1:=by
  intro n
  induction n with
  |zero=>
   intro rs h _;rw[List.length_eq_zero_iff]at h;subst h
   rfl
  |succ n c=>
   intro rs h ow;have ne:rs≠[]:=λz=>by rw[z]at h;cases h
   have e:rs=rs.dropLast++[rs.getLast ne]:=(List.dropLast_concat_getLast ne).symm;have f:=c rs.dropLast (by rw[QD];omega) λr hr=>ow r ((List.dropLast_sublist _).subset hr);have hl:=ow _ (List.getLast_mem ne);generalize rs.getLast ne=d at e hl;rw[e,qX,j9,f];obtain⟨kd,ow,_,into,outof⟩:=d
   cases into with
   |some p=>
    have b:outof=none:=by
     rcases hl with h|h
     .cases h
     .exact h
    subst b;show _=(aW q (List.flatMap ck rs.dropLast++[(("put":Str),p)])).1;rw[pk];unfold d5 fZ;by_cases h:p=q<;>simp[h]
   |none=>
    cases outof with
    |none=>simp[ck]
    |some p=>
     show _=(aW q (List.flatMap ck rs.dropLast++[(("get":Str),p)])).1;rw[pk];unfold d5 fZ;by_cases h:p=q<;>simp[h,Ci]<;>omega
 exact a _ rs U h
theorem FD{rs names:LS}{rows:List Row}(ow:∀r∈rows,fE r)(g:∀r∈rows,∀q,r.outof=some q->q∈rs):
 Fed ((bX rs names (rows.flatMap ck) rs.length).map aP++rows):=λi r q a b=>by
 have ge:((bX rs names (rows.flatMap ck) rs.length).map aP).length<=i:=by
  rcases Nat.lt_or_ge i ((bX rs names (rows.flatMap ck) rs.length).map aP).length with lt|ge
  .rw[Q9 lt]at a;obtain⟨d,hd,e⟩:=List.mem_map.mp (qD a);have:=xO rs names (rows.flatMap ck) rs.length d hd;rw[e,b]at this;cases this
  .exact ge
 rw[qO ge]at a;generalize hj:i-((bX rs names (rows.flatMap ck) rs.length).map aP).length=j at a;have c:=qD a;have n:=g r c q b;obtain⟨k,hk,l⟩:=List.mem_iff_getElem.mp n;have b1:=(yF rs names (rows.flatMap ck) q rs.length).2 k hk (by rwa[qo,qd hk])
 have tk:((bX rs names (rows.flatMap ck) rs.length).map aP++rows).take i=(bX rs names (rows.flatMap ck) rs.length).map aP++rows.take j:=by
  rw[List.take_append,List.take_of_length_le ge,hj]
 rw[tk,yG];have o:rows.take (j+1)=rows.take j++[r]:=by rw[qu,a];rfl
 have f:r.into=none:=by
  rcases ow r c with h|h
  .exact h
  .rw[h]at b;cases b
 have b2:bal (rows.take (j+1)) q=bal (rows.take j) q-1:=by
  rw[o,j9,f,b];simp
 have m:=BK q ((rows.take (j+1)).flatMap ck) _ ((rows.drop (j+1)).flatMap ck) U;rw[<- qX,Qx,<- GF q _ (λr hr=>ow r (List.mem_of_mem_take hr))]at m;have p:=kU q (rows.flatMap ck);unfold fP at b1;omega
def eZ(d:ae):Prop:=∀n b,d=.rep n b->0<=n/\n<=99
def bM(Pd:ae->Prop)(ds:LA):Prop:=∀d∈aj ds,Pd d
theorem bM.app{a b:LA}(e:bM Pd a)(c:bM Pd b):bM Pd (a++b):=λd h=>by
 rw[fB,qi]at h;exact h.elim (e d) (c d)
theorem bM.nil:bM Pd []:=λd h=>by simp[aj]at h
theorem bM.one{d:ae}(h:Pd d)(c:∀b∈d.inner,bM Pd b):bM Pd [d]:=λe a=>by
 rw[aj,aj,qA,j6,qw,List.mem_flatMap]at a;rcases a with rfl|⟨b,hb,a⟩
 .exact h
 .exact c b hb e a
def GQ(o:Op):Prop:=∀n,o=.rep n->0<=n/\n<=99
def FrA(Pd:ae->Prop)(f:Fr):Prop:=bM Pd f.ds/\bM Pd f.op.extra/\GQ f.op
structure k7(Pd:ae->Prop):Prop where
 cond:∀x t o,Pd (.cond x t o)
 whl:∀x b,Pd (.whl x b)
 rep:∀n b,0<=n->n<=99->Pd (.rep n b)
theorem FrA.deed{Pd:ae->Prop}(b:k7 Pd){f:Fr}(h:FrA Pd f):bM Pd [f.deed]:=by
 obtain⟨a,d,c⟩:=h;unfold Fr.deed;cases q:f.op<;>rw[q]at d c
 .exact .one (b.rep _ _ Yk Yk) (by simpa[ae.inner]using a)
 .exact .one (b.cond _ _ _) (by simpa[ae.inner]using⟨a,bM.nil⟩)
 .exact .one (b.cond _ _ _) (by simpa[ae.inner]using⟨d,a⟩)
 .exact .one (b.whl _ _) (by simpa[ae.inner]using a)
 .exact .one (b.rep _ _ (c _ U).1 (c _ U).2) (by simpa[ae.inner]using a)
theorem AU(n:Int)(names rooms:LS)(shut:Bool):(bE n names rooms shut).inner=[]:=by
 unfold bE;split
 .rfl
 .split
  .split<;>rfl
  .rfl
def jY(f g:Fr):Prop:=match f.op with
 |.root=>False
 |.rep n=>f.times=g.times * n
 |_=>f.times=0
def TR(most:Int):List Fr->Prop
 |[]=>False
 |[f]=>f.op=.root/\f.times=1
 |f::g::r=>jY f g/\0<=f.times/\f.times<=most/\TR most (g::r)
theorem TR.head(a:1<=most){f:Fr}{r:List Fr}(h:TR most (f::r)):0<=f.times/\f.times<=most:=by
 cases r with
 |nil=>rw[h.2];omega
 |cons g r=>exact⟨h.2.1,h.2.2.1⟩
theorem TR.same{f f':Fr}{r:List Fr}(i:f'.op=f.op)(e:f'.times=f.times)(h:TR most (f::r)):TR most (f'::r):=by
 cases r with
 |nil=>exact⟨i.trans h.1,e.trans h.2⟩
 |cons g r=>
  obtain⟨a,b,c,d⟩:=h;refine⟨?_,by rwa[e],by rwa[e],d⟩;unfold jY at a ⊢;rwa[i,e]
theorem xf{n t:Int}(h0:0<=most)(c:most<=98)(ht:0<=t):0<=cF n most t/\cF n most t<=99/\0<=t * cF n most t/\t * cF n most t<=most:=by
 unfold cF;by_cases tp:0<t
 .rw[Q5 tp];have b:0<=most / t:=Int.ediv_nonneg h0 ht;have f:most / t<=most:=Int.ediv_le_self _ h0;have a:0<=n / 70 % (1+most / t):=Qd _ Yo;have g:n / 70 % (1+most / t)<1+most / t:=Qi _ Yo;have d:t * (n / 70 % (1+most / t))<=t * (most / t):=Int.mul_le_mul_of_nonneg_left Yo ht;have e:t * (most / t)<=most:=Int.mul_ediv_self_le Yo;exact⟨a,Yo,Int.mul_nonneg ht a,Yo⟩
 .rw[Q4 tp];obtain rfl:t=0:=Yo;exact⟨Qd _ Yk,Yo,by simp,by simpa using h0⟩
structure Wt where
 g:Int
 e:ae->Int
mutual
noncomputable def Wt.d(w:Wt):ae->Int
 |.rep n b=>w.g+n * (Wt.l w b+w.g)
 |.cond _ _ _=>w.g
 |.whl _ _=>w.g
 |.set x a F b=>w.e (.set x a F b)
 |.put q x=>w.e (.put q x)
 |.get q x=>w.e (.get q x)
 |.give x=>w.e (.give x)
noncomputable def Wt.l(w:Wt):LA->Int
 |[]=>0
 |d::r=>Wt.d w d+Wt.l w r
end
theorem Wt.l_append(w:Wt):∀(a b:LA),w.l (a++b)=w.l a+w.l b
 |[],b=>by simp[Wt.l]
 |d::a,b=>by rw[Qp,Wt.l,Wt.l,Wt.l_append w a b];omega
noncomputable def Wt.m(w:Wt):List Fr->Int
 |[]=>0
 |[f]=>f.times * w.l f.ds
 |f::g::r=>f.times * w.l f.ds+(g.times * w.g+match f.op with|.rep _=>f.times * w.g|_=>0)+Wt.m w (g::r)
theorem Wt.m_add(w:Wt)(f:Fr)(d:ae)(r:List Fr):w.m (f.add d::r)=w.m (f::r)+f.times * w.d d:=by
 have e:w.l (f.ds++[d])=w.l f.ds+w.d d:=by rw[Wt.l_append];simp[Wt.l]
 cases r with
 |nil=>simp only[Wt.m,Fr.add,e,Int.mul_add]
 |cons g r=>simp only[Wt.m,Fr.add,e,Int.mul_add];omega
theorem Wt.deed(w:Wt){f g:Fr}(h:jY f g):g.times * w.d f.deed=f.times * w.l f.ds+(g.times * w.g+match f.op with|.rep _=>f.times * w.g|_=>0):=by
 unfold jY at h;unfold Fr.deed;cases q:f.op<;>rw[q]at h<;>simp only[Wt.d]at h ⊢
 .rw[h];simp
 .rw[h];simp
 .rw[h];simp
 .rw[h,Int.mul_add,Int.mul_add,Int.mul_add,<- Int.mul_assoc,<- Int.mul_assoc];omega
theorem Wt.wh(w:Wt){most:Int}:∀(f:Fr)(r:List Fr)(dt:LA),TR most (f::r)->w.l (wh (f::r) dt)=w.m (f::r)+f.times * w.l dt
 |f,[],dt,h=>by
  rw[Tr.wh,Wt.l_append,Wt.m,h.2];omega
 |f,g::r,dt,h=>by
  rw[Tr.wh,Wt.wh w g r _ h.2.2.2];have:=Wt.deed w (f:={ f with ds:=f.ds++dt }) (g:=g) h.1;simp only[Wt.l,Int.add_zero];rw[this,Wt.l_append,Int.mul_add,Wt.m];dsimp only;omega
theorem AO(w:Wt)(n:Int)(names rooms:LS)(shut:Bool):w.d (bE n names rooms shut)=w.e (bE n names rooms shut):=by
 unfold bE;split
 .rfl
 .split
  .split<;>rfl
  .rfl
theorem uu{names:LS}{low n:Int}{st:List Fr}(w:Wt)(c:Int)(i:0<=w.g)(k:w.g<=1)(t:∀d,0<=w.e d/\w.e d<=1)(hn:0<=n)(s:1<=most)(p:most<=98)(ht:TR most st):
 TR most (bZ names rooms most low st n)/\w.m (bZ names rooms most low st n)<=w.m st+most+most * w.g:=by
 match st,ht with
 |g::r,ht=>
  obtain⟨h,o⟩:=ht.head s;have D:0<=most * w.g:=Int.mul_nonneg Yo i;have B:g.times * w.g<=most * w.g:=Int.mul_le_mul_of_nonneg_right o i;have v:most * w.g<=most:=by have:=Int.mul_le_mul_of_nonneg_left k (show 0<=most by omega);omega
  unfold bZ;dsimp only;split
  .unfold gf;dsimp only;split
   .exists ⟨U,Int.le_refl _,by show(0:Int)<=most;omega,ht⟩;simp only[Wt.m,Wt.l];omega
   .split
    .exists ⟨U,Int.le_refl _,by show(0:Int)<=most;omega,ht⟩;simp only[Wt.m,Wt.l];omega
    .obtain⟨y,A,q,j⟩:=xf (by omega:0<=most) p h;exists ⟨U,q,j,ht⟩;have:=Int.mul_le_mul_of_nonneg_right j i;simp only[Wt.m,Wt.l];omega
  .split
   .rename_i x a
    have e:g.op=.ifT x:=by
     split at a
     .cases e:g.op<;>rw[e]at a<;>simp[Op.ifT?]at a;rw[a]
     .cases a
    cases r with
    |nil=>have:=ht.1;rw[e]at this;cases this
    |cons g' b=>
     have z:g.times=0:=by
      have:=ht.1;unfold jY at this;rw[e]at this;exact this
     exists ⟨z,h,o,ht.2.2.2⟩;simp only[Wt.m,e,z];omega
   .split
    .rename_i c
     cases r with
     |nil=>exact Q8 c.2 (by simp)
     |cons g' b=>
      show TR most (g'.add g.deed::b)/\w.m (g'.add g.deed::b)<=_;exists TR.same (f:=g') (f':=g'.add g.deed) U U ht.2.2.2;rw[Wt.m_add,Wt.deed w ht.1,Wt.m];omega
    .exists TR.same (f:=g) (f':=g.add (bE n names rooms g.shut)) U U ht;rw[Wt.m_add];obtain⟨C,u⟩:=t (bE n names rooms g.shut);rw[AO];have:=Int.mul_le_mul_of_nonneg_left u h;omega
theorem nu{names rooms:LS}{most low:Int}(w:Wt)(l:0<=w.g)(f:w.g<=1)(k:∀d,0<=w.e d/\w.e d<=1)(j:1<=most)(i:most<=98):∀(cells:LI)(st:List Fr),TR most st->
 TR most (cells.foldl (λst c=>bZ names rooms most low st (aA c 1)) st)/\w.m (cells.foldl (λst c=>bZ names rooms most low st (aA c 1)) st)<=w.m st+cells.length * (most+most * w.g)
 |[],st,h=>⟨h,by simp⟩
 |c::cs,st,h=>by
  obtain⟨a,b⟩:=uu (low:=low) (n:=aA c 1) w 0 l f k (by unfold aA;exact Qd _ Yk) j i h;obtain⟨o,_⟩:=nu (low:=low) w l f k j i cs _ a;exists o;rw[QC,qE,Int.natCast_add,Int.add_mul];simp only[Int.natCast_one,Int.one_mul];omega
theorem yw{names:LS}{low:Int}(w:Wt)(p:0<=w.g)(i:w.g<=1)(o:∀d,0<=w.e d/\w.e d<=1)(n:1<=most)(j:most<=98)(h:LI):w.l (dA names rooms most low h)<=h.length * (most+most * w.g):=by
 obtain⟨a,b⟩:=nu (low:=low) w p i o n j h st0 ⟨U,U⟩;have e:w.m st0=0:=by simp[st0,Wt.m,Wt.l]
 rw[e,Int.zero_add]at b;unfold dA kh;show w.l (f9 ((df names rooms most low h).length-1) (df names rooms most low h))<=_;have k:df names rooms most low h=h.foldl (λst c=>bZ names rooms most low st (aA c 1)) st0:=U;rw[<- k]at a b
 cases q:df names rooms most low h with
 |nil=>rw[q]at a;exact a.elim
 |cons f r=>
  rw[q]at a b;rw[ki _ _ (by simp),Wt.wh w f r [] a,Wt.l];omega
theorem As(i:k7 Pd){names:LS}{low n:Int}{st:List Fr}(d:∀k s,Pd (bE k names rooms s))(hn:0<=n)(l:1<=most)(c:most<=98)(ht:TR most st)(ha:∀f∈st,FrA Pd f):∀f∈bZ names rooms most low st n,FrA Pd f:=by
 match st,ht,ha with
 |g::r,ht,ha=>
  have b:=ha g qq;have hr:∀f∈r,FrA Pd f:=λf a=>ha f (qp _ a);obtain⟨j,p⟩:=ht.head l;unfold bZ;dsimp only;split
  .unfold gf;dsimp only;intro f a;rcases qw.mp a with rfl|a
   .split
    .exact⟨.nil,.nil,λn z=>by cases z⟩
    .split
     .exact⟨.nil,.nil,λn z=>by cases z⟩
     .obtain⟨e,h,_⟩:=xf (by omega:0<=most) c j;exact⟨.nil,.nil,λn z=>by cases z;exact⟨e,h⟩⟩
   .exact ha f a
  .split
   .rename_i x o;intro f a;rcases qw.mp a with rfl|a
    .exact⟨.nil,b.1,λn z=>by cases z⟩
    .exact hr f a
   .split
    .cases r with
     |nil=>exact ha
     |cons g' m=>
      intro f a;rcases qw.mp a with rfl|a
      .have h':=hr g' qq;exact⟨h'.1.app (b.deed i),h'.2⟩
      .exact hr f (qp _ a)
    .intro f a;rcases qw.mp a with rfl|a
     .exact⟨b.1.app (.one (d _ _) (by rw[AU];simp)),b.2⟩
     .exact hr f a
theorem uw{Pd:ae->Prop}(e:k7 Pd){names rooms:LS}{most low:Int}(d:∀k s,Pd (bE k names rooms s))(b:1<=most)(a:most<=98):∀(cells:LI)(st:List Fr),TR most st->(∀f∈st,FrA Pd f)->
 ∀f∈cells.foldl (λst c=>bZ names rooms most low st (aA c 1)) st,FrA Pd f
 |[],st,_,h=>h
 |c::cs,st,ht,h=>by
  have hn:0<=aA c 1:=by unfold aA;exact Qd _ Yk
  exact uw e d b a cs _ (uu (low:=low) (n:=aA c 1) ⟨0,λ_=>0⟩ 0 Yk Yk (λ_=>⟨by simp,by simp⟩) hn b a ht).1 (As e d hn b a ht h)
theorem tW{Pd:ae->Prop}(b:k7 Pd):∀(st:List Fr)(dt:LA),(∀f∈st,FrA Pd f)->bM Pd dt->bM Pd (wh st dt)
 |[],_,_,_=>.nil
 |[f],dt,h,hd=>(h f qq).1.app hd
 |f::g::r,dt,h,hd=>by
  have c:=h f qq;exact tW b (g::r) _ (λf' a=>h f' (qp _ a)) (FrA.deed b (f:={ f with ds:=f.ds++dt }) ⟨c.1.app hd,c.2⟩)
theorem mH(e:k7 Pd){names:LS}{low:Int}(i:∀k s,Pd (bE k names rooms s))(h:1<=most)(d:most<=98)(c:LI):bM Pd (dA names rooms most low c):=by
 have a:=(nu (names:=names) (rooms:=rooms) (low:=low) ⟨0,λ_=>0⟩ Yk Yk (λ_=>⟨by simp,by simp⟩) h d c st0 ⟨U,U⟩).1
 have b:=uw e (low:=low) i h d c st0 ⟨U,U⟩ λf g=>by
  simp[st0]at g;subst g;exact⟨.nil,.nil,λn z=>by cases z⟩
 have ne:(df names rooms most low c).length≠0:=λz=>by
  rw[List.length_eq_zero_iff]at z;unfold df at z;rw[z]at a;exact a
 unfold dA kh;rw[ki _ _ Yo];exact tW e _ _ b .nil
noncomputable def iF:Wt:=⟨1,λ_=>1⟩
noncomputable def jf:Wt:=⟨0,λd=>d.moves.length⟩
mutual
theorem zh:∀d:ae,(∀e∈d.flat,eZ e)->((bH d).length:Int)=iF.d d
 |.rep n b,h=>by
  have h1:=mQ b λe c=>h e (by simp[ae.flat,c]);have f:=(h (.rep n b) (by simp[ae.flat]) n b U).1;rw[bH,Wt.d,qE,gF,qc,Qa,<- h1];have e:(n.toNat:Int)=n:=Int.toNat_of_nonneg f;simp only[Int.natCast_add,Int.natCast_mul,e];show n * (((aJ b).length:Int)+1)+1=1+n * (((aJ b).length:Int)+1);omega
 |.set x a sg b,_=>rfl
 |.put q x,_=>rfl
 |.get q x,_=>rfl
 |.give x,_=>rfl
 |.cond x t o,_=>rfl
 |.whl x b,_=>rfl
theorem mQ:∀ds:LA,(∀e∈aj ds,eZ e)->((aJ ds).length:Int)=iF.l ds
 |[],_=>by simp[aJ,Wt.l]
 |d::r,h=>by
  rw[aJ,Wt.l,qc,Int.natCast_add,zh d λe a=>h e (by simp[aj,a]),mQ r λe a=>h e (by simp[aj,a])]
end
mutual
theorem zi:∀d:ae,(∀e∈d.flat,eZ e)->((cA d).length:Int)=jf.d d
 |.rep n b,h=>by
  have h1:=mR b λe c=>h e (by simp[ae.flat,c]);have f:=(h (.rep n b) (by simp[ae.flat]) n b U).1;rw[cA,Wt.d,gF,<- h1];have e:(n.toNat:Int)=n:=Int.toNat_of_nonneg f;simp only[Int.natCast_mul,e];show n * ((bB b).length:Int)=0+n * (((bB b).length:Int)+0);rw[Int.add_zero,Int.zero_add]
 |.set x a sg b,_=>rfl
 |.put q x,_=>rfl
 |.get q x,_=>rfl
 |.give x,_=>rfl
 |.cond x t o,_=>rfl
 |.whl x b,_=>rfl
theorem mR:∀ds:LA,(∀e∈aj ds,eZ e)->((bB ds).length:Int)=jf.l ds
 |[],_=>by simp[bB,Wt.l]
 |d::r,h=>by
  rw[bB,Wt.l,qc,Int.natCast_add,zi d λe a=>h e (by simp[aj,a]),mR r λe a=>h e (by simp[aj,a])]
end
theorem t5{names:LS}{low:Int}(d:1<=most)(c:most<=98)(a:LI):bM eZ (dA names rooms most low a):=
 mH ⟨λ_ _ _ n b z=>(by cases z),λ_ _ n b z=>(by cases z),λn b h0 e _ _ z=>(by cases z;exact⟨h0,e⟩)⟩ (λk s n b z=>Q8 z (AS _ _ _ _ n b)) d c a
theorem Gy{names:LS}{low:Int}(c:1<=most)(b:most<=98)(a:LI):((aJ (dA names rooms most low a)).length:Int)<=a.length * (most+most):=by
 rw[mQ _ (t5 c b a)];have:=yw (names:=names) (rooms:=rooms) (low:=low) iF Yk Yk (λ_=>⟨by simp[iF],by simp[iF]⟩) c b a;simpa[iF]using this
theorem GB{names:LS}{low:Int}(c:1<=most)(b:most<=98)(a:LI):((bB (dA names rooms most low a)).length:Int)<=a.length * most:=by
 rw[mR _ (t5 c b a)];have:=yw (names:=names) (rooms:=rooms) (low:=low) jf Yk Yk (λd=>by cases d<;>simp[jf,ae.moves]) c b a;simpa[jf]using this
theorem yx{names:LS}{low:Int}(d:1<=most)(c:most<=98)(a:LI):∀q x,.get q x∈aj (dA names rooms most low a)->q∈rooms:=λq x h=>
 mH (Pd:=yW rooms) ⟨λ_ _ _ q x z=>(by cases z),λ_ _ q x z=>(by cases z),λn b _ _ q x z=>(by cases z)⟩ (λk s=>AX _ _ _ _) d c a _ h q x U
end Tr
namespace Tr
open PySem PySem.Spec PyProof.Rows L2
theorem aU.app{H:Hp}:∀{us vs:LV}{a b:List Row},aU H us a->aU H vs b->aU H (us++vs) (a++b)
 |_,_,_,_,.nil,h=>h
 |_,_,_,_,.cons x r,h=>.cons x (aU.app r h)
theorem aU.reps{H:Hp}{us:LV}{rs:List Row}(h:aU H us rs):∀n:Nat,aU H (reps n us) (reps n rs)
 |0=>.nil
 |n+1=>by rw[gE,gE];exact h.app (aU.reps h n)
theorem RMs.app{H:Hp}:∀{us vs:LV}{a b:List (Str×Str)},RMs H us a->RMs H vs b->RMs H (us++vs) (a++b)
 |_,_,_,_,.nil,h=>h
 |_,_,_,_,.cons x r,h=>.cons x (RMs.app r h)
theorem bM.at{d:ae}(h:bM Pd ds)(b:ds[i]?=some d):bM Pd [d]:=λe a=>h e (by
 rw[aj,aj,qA]at a
 exact(sI b).2 e a)
theorem bM.rep{Pd:ae->Prop}{n:Int}{b:LA}(h:bM Pd [.rep n b]):Pd (.rep n b)/\bM Pd b:=
 ⟨h _ (by simp[aj,ae.flat]),λe a=>h e (by simp[aj,ae.flat,a])⟩
theorem AG{i j:Int}(h0:0<=i)(a:i<=99):IntMulOk i j:=tK.ok (.inl ⟨Yo,Yo⟩)
end Tr
namespace L2
open PySem PySem.Spec PyProof.Rows
section
variable {CX:CXT}{k:Nat}{E:XK}{m:Str}{p:Pos}{o:Expr}{es:LR}{t:TA}{ds:LL}
end
theorem iU{f:Str}{v:V}:∀{fs:List (Str×V)}(ks:LS),fs.map (·.1)=ks->(ks.all λg=>!decide (g=f))=true->d6 f v fs=fs++[(f,v)]
 |[],_,_,_=>rfl
 |(g,x)::r,ks,e,h=>by
  subst e;simp only[qU,List.all_cons,Bool.and_eq_true,Bool.not_eq_true',decide_eq_false_iff_not]at h;rw[d6,Q4 h.1,iU (r.map (·.1)) U h.2]
  rfl
theorem jG{k:Str}{v:V}{r:List (Str×V)}:List.lookup k ((k,v)::r)=some v:=by simp[List.lookup]
theorem fO{k g:Str}{v:V}{r:List (Str×V)}(h:(k == g)=false):List.lookup k ((g,v)::r)=List.lookup k r:=by simp[List.lookup,h]
theorem yI{xs:List α}{i:Int}{v:α}(h:0<=i)(e:xs[i.toNat]?=some v):atI xs i=some v:=by
 have:=da (xs:=xs) (j:=i.toNat) (v:=v) e
 rwa [Int.toNat_of_nonneg h]at this
inductive jv(i:Nat)(Y:St)(H:Hp)(Q:VK):Prop
 |mk (v:V) (h:Y[i]?=some (some v)) (q:Q v H):jv i Y H Q
theorem C8(i:Nat):jv i=uc i:=by
 funext Y H Q
 exact propext ⟨λ⟨v,h,q⟩=>⟨v,h,q⟩,λ⟨v,h,q⟩=>⟨v,h,q⟩⟩
inductive qB(x:V)(H:Hp)(Q:Bool->Hp->Prop):Prop
 |mk (k:Bool) (h:x=.bl k) (q:Q k H):qB x H Q
theorem w8(Q:Bool->Hp->Prop):(λx H=>qB x H Q)=λx H=>∃k,x=V.bl k/\Q k H:=by
 funext x H
 exact propext ⟨λ⟨v,h,q⟩=>⟨v,h,q⟩,λ⟨v,h,q⟩=>⟨v,h,q⟩⟩
def iS(t:TE):TT:=λY H Q=>t Y H λx H'=>qB x H' Q
theorem Cb(t:TE):iS t=kr t:=by
 funext Y H Q
 unfold iS kr;rw[w8]
theorem Ca(t:TE):iS t=tB t:=by
 funext Y H Q
 unfold iS tB;rw[w8]
inductive wc(x y:V)(H:Hp)(Q:VK):Prop
 |mk (i j:Int) (h1:x=.int i) (h2:y=.int j) (q:Q (.int (i+j)) H):wc x y H Q
inductive vU(x y:V)(H:Hp)(Q:VK):Prop
 |mk (i j:Int) (h1:x=.int i) (h2:y=.int j) (q:Q (.int (i-j)) H):vU x y H Q
inductive w5(x y:V)(H:Hp)(Q:VK):Prop
 |mk (i j:Int) (h1:x=.int i) (h2:y=.int j) (c:0<j/\j<1073741824) (q:Q (.int (i / j)) H):w5 x y H Q
inductive vW(x y:V)(H:Hp)(Q:VK):Prop
 |mk (i j:Int) (h1:x=.int i) (h2:y=.int j) (c:0<j) (q:Q (.int (i % j)) H):vW x y H Q
inductive qLt(x y:V)(H:Hp)(Q:VK):Prop
 |mk (i j:Int) (h1:x=.int i) (h2:y=.int j) (q:Q (.bl (decide (i<j))) H):qLt x y H Q
inductive qLe(x y:V)(H:Hp)(Q:VK):Prop
 |mk (i j:Int) (h1:x=.int i) (h2:y=.int j) (q:Q (.bl (decide (i<=j))) H):qLe x y H Q
inductive qGt(x y:V)(H:Hp)(Q:VK):Prop
 |mk (i j:Int) (h1:x=.int i) (h2:y=.int j) (q:Q (.bl (decide (j<i))) H):qGt x y H Q
inductive qGe(x y:V)(H:Hp)(Q:VK):Prop
 |mk (i j:Int) (h1:x=.int i) (h2:y=.int j) (q:Q (.bl (decide (j<=i))) H):qGe x y H Q
inductive qEq(x y:V)(H:Hp)(Q:VK):Prop
 |mk (c:vH x y=true) (q:Q (.bl (decide (x=y))) H):qEq x y H Q
inductive vZ(x y:V)(H:Hp)(Q:VK):Prop
 |mk (c:y=.non) (q:Q (.bl (decide (x=.non))) H):vZ x y H Q
inductive vV(x y:V)(H:Hp)(Q:VK):Prop
 |mk (c:y=.non) (q:Q (.bl (!decide (x=.non))) H):vV x y H Q
inductive pH(K:W.Frag)(x y:V)(H:Hp)(Q:VK):Prop
 |mk (p:Addr) (xs:LV) (i:Int) (v:V) (h1:x=.ref p) (h2:y=.int i) (h3:SqL K H p xs) (h4:atI xs i=some v) (q:Q v H):pH K x y H Q
inductive vY(K:W.Frag)(x y:V)(H:Hp)(Q:VK):Prop
 |mk (p:Addr) (xs:LV) (i:Int) (v:V) (h1:x=.ref p) (h2:y=.int i) (h3:SqT K H p xs) (h4:atI xs i=some v) (q:Q v H):vY K x y H Q
inductive wb(x y:V)(H:Hp)(Q:VK):Prop
 |mk (i j:Str) (h1:x=.str i) (h2:y=.str j) (c:i.length+j.length<=sizeLine) (q:Q (.str (i++j)) H):wb x y H Q
inductive vX(K:W.Frag)(xs:LV)(H:Hp)(Q:VK):Prop
 |mk (p:Addr) (ys:LV) (h1:xs=[.ref p]) (h2:SqL K H p ys\/SqT K H p ys) (q:Q (.int ys.length) H):vX K xs H Q
inductive pI(K:W.Frag)(xs:LV)(H:Hp)(Q:VK):Prop
 |mk (x:V) (t:Value) (T:String) (b:Bool) (h1:xs=[x,.ty T]) (h2:dU K H x t) (h3:PySem.W.kitOne K t (.type T)=some b) (q:Q (.bl b) H):pI K xs H Q
inductive pG(K:W.Frag)(xs:LV)(H:Hp)(Q:VK):Prop
 |mk (p:Addr) (ys:LV) (h1:xs=[.ref p]) (h2:SqL K H p ys\/SqT K H p ys) (q:∀l,H l=none->Q (.ref l) (upd H l (.lst ys))):pG K xs H Q
inductive wa(x:V)(vs:LV)(H:Hp)(Q:VK):Prop
 |mk (l:Addr) (xs:LV) (y:V) (h1:x=.ref l) (h2:vs=[y]) (h3:H l=some (.lst xs)) (h4:xs.length<sizeLine) (q:Q .non (upd H l (.lst (xs++[y])))):wa x vs H Q
inductive w6(K:W.Frag)(x y:V)(H:Hp)(Q:VK):Prop
 |mk (l b:Addr) (xs zs:LV) (h1:x=.ref l) (h2:y=.ref b) (h3:SqL K H l xs) (h4:SqL K H b zs) (h5:xs.length+zs.length<=sizeLine) (q:∀p,H p=none->Q (.ref p) (upd H p (.lst (xs++zs)))):w6 K x y H Q
inductive jw(A B:Prop):Prop
 |mk (h:A) (q:B):jw A B
theorem pL(A B:Prop):jw A B=(A/\B):=propext ⟨λ⟨a,b⟩=>⟨a,b⟩,λ⟨a,b⟩=>⟨a,b⟩⟩
theorem pq(i:Nat)(b:X.N[i]?=some x:=by rfl)(c:Vis X.env.scope x:=by first|exact Or.inl U|exact Or.inr Oi|exact Or.inr (Or.inr U))(hd:(x == ("__debug__":Str))=false:=by decide)
 (a:(x == ("__classdict__":Str))=false:=by decide):PE X (.Name x pos) (jv i):=by
 rw[C8];exact CB b c hd a
theorem aD{op:CmpOp}{r:R2}{a b:Expr}{c:TE}(e:OpR X (compareOp op) r)(ha:PE X a ta)(hb:PE X b c)(d:behindInMarks op b=false):PT X (.Compare a [op] [b] pos) (iS (tOp r ta c)):=by
 rw[Cb];exact Cm e ha hb d
theorem hX{t:TE}(h:PE X e t)(a:∀whole,isTrue e X.env whole=(do let v <- whole;standAt e.pos;holding [v] (truthy v)):=by intro _;rfl):PT X e (iS t):=by
 rw[Ca];exact Ck h a
theorem OpR.as{f:Value->Value->Sem Value}{r b:R2}(h:OpR X f r)(e:∀x y H Q,b x y H Q->r x y H Q):OpR X f b:=λa s Y H x y v u Q I d c q=>h a s Y H x y v u Q I d c (e _ _ _ _ q)
theorem cJ.as{f:Value}{r b:LV->Hp->VK->Prop}(h:cJ X f r)(e:∀x H Q,b x H Q->r x H Q):cJ X f b:=λa s Y H x u Q I c q=>h a s Y H x u Q I c (e _ _ _ q)
theorem IxR.as{r d:R2}(h:IxR X r)(e:∀x y H Q,d x y H Q->r x y H Q):IxR X d:=λa b c s Y H x y v u Q I g f q=>h a b c s Y H x y v u Q I g f (e _ _ _ _ q)
theorem bK:OpR X (binaryOp .Add) wc:=DR.as λ_ _ _ _ ⟨i,j,a,b,q⟩=>⟨i,j,a,b,q⟩
theorem kW:OpR X (binaryOp .Sub) vU:=DK.as λ_ _ _ _ ⟨i,j,a,b,q⟩=>⟨i,j,a,b,q⟩
theorem cT:OpR X (binaryOp .FloorDiv) w5:=DQ.as λ_ _ _ _ ⟨i,j,a,b,c,q⟩=>⟨i,j,a,b,c,q⟩
theorem bf:OpR X (binaryOp .Mod) vW:=DL.as λ_ _ _ _ ⟨i,j,a,b,c,q⟩=>⟨i,j,a,b,c,q⟩
theorem hV:OpR X (compareOp .Lt) qLt:=DM.as λ_ _ _ _ ⟨i,j,a,b,q⟩=>⟨i,j,a,b,q⟩
theorem pB:OpR X (compareOp .LtE) qLe:=DN.as λ_ _ _ _ ⟨i,j,a,b,q⟩=>⟨i,j,a,b,q⟩
theorem gG:OpR X (compareOp .Gt) qGt:=DO.as λ_ _ _ _ ⟨i,j,a,b,q⟩=>⟨i,j,a,b,q⟩
theorem vT:OpR X (compareOp .GtE) qGe:=DP.as λ_ _ _ _ ⟨i,j,a,b,q⟩=>⟨i,j,a,b,q⟩
theorem br:OpR X (compareOp .Eq) qEq:=D6.as λ_ _ _ _ ⟨c,q⟩=>⟨c,q⟩
theorem C5:OpR X (compareOp .Is) vZ:=D1.as λ_ _ _ _ ⟨c,q⟩=>⟨c,q⟩
theorem fK:OpR X (compareOp .IsNot) vV:=CV.as λ_ _ _ _ ⟨c,q⟩=>⟨c,q⟩
theorem hU:OpR X (binaryOp .Add) wb:=D8.as λ_ _ _ _ ⟨i,j,a,b,c,q⟩=>⟨i,j,a,b,c,q⟩
theorem hJ:OpR X (binaryOp .Add) (w6 X.K):=D7.as λ_ _ _ _ ⟨l,b,xs,zs,c,e,a,d,f,q⟩=>⟨l,b,xs,zs,c,e,a,d,f,q⟩
theorem aK:IxR X (pH X.K):=EO.as λ_ _ _ _ ⟨p,xs,i,v,a,b,c,d,q⟩=>⟨p,xs,i,v,a,b,c,d,q⟩
theorem ay:IxR X (vY X.K):=EN.as λ_ _ _ _ ⟨p,xs,i,v,a,b,c,d,q⟩=>⟨p,xs,i,v,a,b,c,d,q⟩
theorem C3(e:X.K=K):IxR X (pH K):=by
 subst e;exact aK
theorem bT:cJ X (.builtin "len") (vX X.K):=Gu.as λ_ _ _ ⟨p,ys,a,b,q⟩=>⟨p,ys,a,b,q⟩
theorem iR:cJ X (.builtin "isinstance") (pI X.K):=Gv.as λ_ _ _ ⟨x,t,T,b,a,d,c,q⟩=>⟨x,t,T,b,a,d,c,q⟩
theorem C7(e:X.K=K):cJ X (.builtin "isinstance") (pI K):=by
 subst e;exact iR
theorem pC:cJ X (.type "list") (pG X.K):=Gs.as λ_ _ _ ⟨p,ys,a,b,q⟩=>⟨p,ys,a,b,q⟩
theorem C6(e:X.K=K):cJ X (.type "list") (pG K):=by
 subst e;exact pC
theorem cC:MtM X "list.append" wa:=λa s Y H x xs v us Q I d c ⟨l,ys,y,g,f,b,e,q⟩=>E1 a s Y H x xs v us Q I d c ⟨l,ys,y,g,f,b,e,q⟩
inductive pJ(K:W.Frag)(f:Str)(x:V)(H:Hp)(Q:VK):Prop
 |mk (a C dx:Addr) (fs:List (Str×V)) (v:V) (h1:x=.ref a) (h2:H a=some (.ins C dx fs)) (h3:Cls K C) (h4:dX K C f) (h5:fs.lookup f=some v) (q:Q v H):pJ K f x H Q
def pK(K:W.Frag)(ta:TE)(f:Str):TE:=λY H Q=>ta Y H λx H1=>pJ K f x H1 Q
theorem Cd(K:W.Frag)(j:TE)(f:Str):pK K j f=mY K j f:=by
 funext Y H Q
 unfold pK mY
 have:(λx b=>pJ K f x b Q)=λx b=>∃a C c fs v,x=V.ref a/\b a=some (.ins C c fs)/\Cls K C/\dX K C f/\fs.lookup f=some v/\Q v b:=by
  funext x b
  exact propext ⟨λ⟨a,C,c,fs,v,i,h,d,g,e,q⟩=>⟨a,C,c,fs,v,i,h,d,g,e,q⟩,λ⟨a,C,c,fs,v,i,h,d,g,e,q⟩=>⟨a,C,c,fs,v,i,h,d,g,e,q⟩⟩
 rw[this]
theorem dO{f:Str}(a:PE X e ta)(hb:attributeBase e f X.env (eval e X.env)=eval e X.env):PE X (.Attribute e f pos) (pK X.K ta f):=by
 rw[Cd];exact CJ a hb
def pD(t:TA):TE:=λY H Q=>t Y H λxs H1=>jw (xs.length<=sizeLine) (∀p,H1 p=none->Q (.ref p) (upd H1 p (.tup xs)))
def pF(t:TA):TE:=λY H Q=>t Y H λxs H1=>jw (xs.length<=sizeLine) (∀p,H1 p=none->Q (.ref p) (upd H1 p (.lst xs)))
theorem C9(t:TA):pD t=mW t:=by
 funext Y H Q
 unfold pD mW;simp only[pL]
theorem Cc(t:TA):pF t=mX t:=by
 funext Y H Q
 unfold pF mX;simp only[pL]
theorem bA{a}{es:LR}{t:TA}(h:PA X es t):PE X (.Tuple es a pos) (pD t):=by
 rw[C9];exact CC h
theorem ba{es:LR}{t:TA}(h:PA X es t):PE X (.List es pos) (pF t):=by
 rw[Cc];exact CH h
inductive pE(vs:LV)(H:Hp)(R:It->Hp->Prop):Prop
 |mk (j:Int) (h:vs=[.int j]) (h1:-(2 ^ 62)<=j) (h2:j<2 ^ 62) (q:R (Itr 0 j.toNat) H):pE vs H R
def rY(ta:TA):TI:=λY H R=>ta Y H λvs H1=>pE vs H1 R
theorem EM(d:TA):rY d=sA d:=by
 funext Y H R
 unfold rY sA
 have:(λvs a=>pE vs a R)=λvs a=>∃j:Int,vs=[V.int j]/\-(2 ^ 62)<=j/\j<2 ^ 62/\R (Itr 0 j.toNat) a:=by
  funext vs a
  exact propext ⟨λ⟨j,h,b,c,q⟩=>⟨j,h,b,c,q⟩,λ⟨j,h,b,c,q⟩=>⟨j,h,b,c,q⟩⟩
 rw[this]
theorem g9{a:Expr}{b:TA}{p:Pos}(c:Gl X "range")(d:X.mg "range"=none)(ha:PA X [a] b)(e:starEach [a] X.env=[(false,eval a X.env)]:=by rfl):PI X tg (.Call (.Name "range" p) [a] [] pos) (rY b):=by
 rw[EM];exact CA c d ha e
def qBM(K:W.Frag)(T:String)(r:V->LV->Hp->VK->Prop)(to:TE)(t:TA):TE:=λY H Q=>to Y H λx H1=>jw (tyV K T x H1) (t Y H1 λxs H2=>r x xs H2 Q)
theorem Ce(K:W.Frag)(T:String)(r:V->LV->Hp->VK->Prop)(a:TE)(t:TA):qBM K T r a t=tBM K T r a t:=by
 funext Y H Q
 unfold qBM tBM;simp only[pL]
theorem bF{o:Expr}{es:LR}{g:TE}{t:TA}{T f:String}{r:V->LV->Hp->VK->Prop}(k:PlainAttrs T)(slot:Slot T name f)(h:typeOf (.builtin f)=pure (.type "method_descriptor"))(i:MtR X f r)(l:PE X o g)(ha:PA X (e::es) t)
 (b:attributeBase o name X.env (eval o X.env)=eval o X.env:=by rfl)
 (d:((backTo cpos (starEach (e::es) X.env)).all (λx=>!x.1) && (backToKw cpos (keywordEach [] X.env)).all (λx=>x.1.isSome)
  && decide ((e::es).length+([]:List Keyword).length+(if([]:List Keyword).isEmpty then 0 else 1)<30))=true:=by rfl)
 (c:(apos.endLine == cpos.line)=true:=by rfl) (j:starEach (e::es) X.env=(false,eval e X.env)::starEach es X.env:=by rfl) (a:(backTo cpos (starEach es X.env)).any (·.1)=false:=by rfl):
 PE X (.Call (.Attribute o name apos) (e::es) [] cpos) (qBM X.K T r g t):=by
 rw[Ce];exact CO k slot h i l ha b d c j a
theorem ES{b:Bool}{Q:VK}{x y:Int}(a:Y[i]?=some (some (.int x)))(c:Y[j]?=some (some (.int y)))(h:Q (.int (if b=true then x else y)) H):if b=true then jv i Y H Q else jv j Y H Q:=by
 cases b
 .exact⟨_,c,h⟩
 .exact⟨_,a,h⟩
section
variable {k:Key}{z:V}{r:Value}
theorem cu.not_got{o:LC}(h:cu o none):o=none:=by
 cases o with
 |none=>rfl
 |some v=>exact h.elim
theorem cu.got{o:LC}(h:cu o (some u)):∃v,o=some v/\aB v u:=by
 cases o with
 |none=>exact h.elim
 |some v=>exact⟨v,U,h⟩
theorem FZ(I:Inv X pins Y H s)(e:H a=some (.dK kvs))(o:aB (kV k) u)(p:aB z r)(few:kvs.length<sizeLine)
 (C:∀v g s',aI kvs k=some v->Inv X pins Y H s'->aB v g->Q g s') (B:∀s',aI kvs k=none->Inv X pins Y (upd H a (.dK (bu kvs k z))) s'->Q r s'):
 wpAny (model X.prog X.w) A (call (.builtin "dict.setdefault") [.ref a,u,r]) Q E s:=by
 obtain⟨t,hd,vs,b,f⟩:=jR I.hok e;have i:vs.length<=sizeLine:=by rwa[<- b.length]
 have hl:(bu kvs k z).length<=sizeLine:=by have:=dQ kvs k z;omega
 have c:=b.val k;refine call_meetsIn PySem.F.slot_dict_setdefault f.typeIs PySem.F.entry_dict_setdefault (PySem.F.args_dict_setdefault_3 _ _ _) (kt_meets_setdefault (d9 X.prog X.w) a (gj o) hd r) ⟨vs,f,i,λl h=>?_,λhn h' d m=>?_⟩
 .rw[h]at c;obtain⟨v,j,y⟩:=cu.got c;exact C v l _ j (I.tok _) y
 .rw[hn]at c;have n:∃q,h'.get? a=some q:=let ⟨q,_,_,x,_⟩:=d;⟨q,x⟩;exact B _ (cu.not_got c) (sP I (by rw[e];exact True.intro) m n (sN hl hd (b.put k p) d))
end
def A9(td ty tx:TE):TE:=λY H Q=>td Y H λx H1=>∃a,x=.ref a/\IsD H1 a/\ty Y H1 λy H2=>tx Y H2 λz F=>∃kvs k,F a=some (.dK kvs)/\y=kV k/\kvs.length<sizeLine /\
 (∀v,aI kvs k=some v->Q v F)/\(aI kvs k=none->Q z (upd F a (.dK (bu kvs k z))))
section
variable {o f:Expr}{td ty tx:TE}
theorem CK(P:PE X o td)(D:PE X e ty)(O:PE X f tx)(m:M2 X o "setdefault" apos e f cpos):PE X (.Call (.Attribute o "setdefault" apos) [e,f] [] cpos) (A9 td ty tx):=by
 intro b s Y H Q I h;refine wpAny_Call_method m.base m.few m.line PySem.F.plainAttrs_dict PySem.F.slot_dict_setdefault PySem.F.type_dict_setdefault (thn (P b s Y H _ I h) λu r ⟨x,G,i,K,a,ex,d,B⟩=>?_);subst ex;obtain rfl:u=Value.ref a:=K;obtain⟨T,l,_⟩:=xJ i d;exists T,l;rw[m.trees]
 refine Calls.callWith_builtin U (Calls.evalArgs_plain (Calls.spliced_cons (thn (D b r Y G _ i B) λ_ p ⟨y,w,M,E,n⟩=>
  Calls.spliced_cons (thn (O b p Y w _ M n) λ_ _ ⟨z,L,t,j,_,k,A,R,few,C,q⟩=>Calls.spliced_nil ?_))))
 subst R;exact FZ t A E j few (λv _ S N c g=>⟨v,L,c,g,C v N⟩) λS J c=>⟨z,_,c,j,q J⟩
end
theorem Ej:typeLookup (.type "list") "keys"=pure none:=by rw[typeLookup_type,builtinLookup_eq_fast];kernel_rfl
theorem Et{k:Nat}{sl:Array LO}{Q:LO->Shared->Prop}(m:A.handled=none)(j:s.heap.get? a=some { cls:=.type "list",dict:=none,data:=.seq xs k,slots:=sl })
 (h:∀h' tk,(∀b o,s.heap.get? b=some o->h'.get? b=some o)->Q none { s with heap:=h',toks:=tk }):wpAny (model prog w) A (getAttr? (.ref a) "keys") Q E s:=by
 obtain⟨l,g,d,tk,os⟩:=s;have i:∀f,(⟨l,g,d,f,os⟩:Shared).TypeIs (.ref a) "list":=λ_=>⟨_,j,U⟩;have r:=sub_AttributeError;have p:=F.slot_list_getattribute.lookup;have n:=F.slot_list_getattribute.bind (.ref a);have q:=am_list_getattr_none;unfold getAttr? getAttrBy? getAttrBy
 repeat (any_goals (first|assumption|exact i _|((with_reducible show wpAny _ _ (call (Value.builtin "list.__getattribute__") _ _) _ _ _);refine call_meets F.slot_list_getattribute (i _) am_entry_list_getattribute (F.args_list_getattribute_2 _ _) (meets_getattribute_miss_list a xs k sl "keys" _ Ej Yd) ⟨j,m,λh' f e c=>?_⟩)|wp_step))
 obtain⟨t',_,_⟩:=c.there;show wpAny _ _ (getattributeRaised _ _ _ _ _ _ _) _ _ _;unfold getattributeRaised
 repeat (any_goals (first|assumption|wp_step))
 exact h _ _ c.keeps
theorem lA:plainId "dict.update.loop"=true:=Yd
theorem y4:entryFor table "dict.update.loop"=some Builtin.«dict.update.loop»:=entryFor_of_fast (by kernel_rfl)
noncomputable def eu{K:Type}[DecidableEq K](ps:List (K×Value)):List (K×Value):=ps.foldl (λkvs p=>stored kvs p.1 p.2) []
theorem Ao{K:Type}[DecidableEq K](ps:List (K×Value))(p:K×Value):eu (ps++[p])=stored (eu ps) p.1 p.2:=by
 unfold eu;rw[List.foldl_append]
 rfl
section
variable {R:Result->Shared->Prop}{K:Type} [DecidableEq K] {knd:KeyKind prog w K}
def k9(knd:KeyKind prog w K)(h:Heap)(items:LD)(ps:List (K×Value)):Prop:=
 items.size=ps.length/\∀(i:Nat)(p:K×Value),ps[i]?=some p->∃t key,items[i]?=some (.ref t)/\h.IsTuple t #[key,p.2]/\knd.is p.1 key=true
theorem k9.keep{ps:List (K×Value)}(x:k9 knd h items ps)(e:∀t o,h.get? t=some o->o.cls=.type "tuple"->h'.get? t=some o):k9 knd h' items ps:=
 ⟨x.1,λi p j=>let ⟨t,f,a,b,c⟩:=x.2 i p j;⟨t,f,a,(let ⟨o,g,d,r⟩:=b;⟨o,e t o g d,d,r⟩),c⟩⟩
theorem FQ{l d:Addr}{ps:List (K×Value)}{y:Value}(W:A.handled=none)(D:it≠l)(n:it≠d)(M:l≠d)(few:ps.length<=sizeLine)
 (x:∀qs,qs.length<=ps.length->(eu (qs:List (K×Value))).length<=qs.length):
 ∀(m i:Nat)(s:Shared)(tk:Tok),ps.length-i=m->i<=ps.length->s.heap.IsListIter it l i->s.heap.IsList l items->s.heap.DictOf knd d (eu (ps.take i))->k9 knd s.heap items ps->
 (∀h' u,(∀b o,b≠it->b≠d->s.heap.get? b=some o->h'.get? b=some o)->h'.DictOf knd d (eu ps)->R (.ok (.ret y)) { s with heap:=h',toks:=u })->
 codeAny (model prog w) A (.builtin "dict.update.loop" ⟨[.ref d,.ref it,.int i tk,y],[]⟩) R s:=by
 intro m
 induction m with
 |zero=>
  intro i s tk hm S j hl hd v G;have e:i=ps.length:=Yo;subst e;rw[qK]at hd;refine codeAny_builtin y4 ?_;rw[Around.under_plainId lA _];show wpAny _ A.in1 (pyNext (.ref it) >>= _) _ _ s;refine q9 (wpAny_pyNext_list_end (by simpa using W) j hl (Array.getElem?_eq_none (by rw[v.1];exact qf _)) λh' ex=>?_);show wpAny _ _ (Builtin.Dict.addKeywords d [] >>= _) _ _ _;refine q9 (qe (qe (G h' s.toks (λb o nb _ q=>ex b o nb q) ?_)));obtain⟨o,es,X0,ho,r⟩:=hd;exact⟨o,es,X0,ex d o (Ne.symm n) ho,r⟩
 |succ m Q=>
  intro i s tk hm S j hl hd v G;have lt:i<ps.length:=Yo;obtain⟨t,_,V,e2,T⟩:=v.2 i ps[i] (qd lt);refine codeAny_builtin y4 ?_;rw[Around.under_plainId lA _];show wpAny _ A.in1 (pyNext (.ref it) >>= _) _ _ s;refine q9 (wpAny_pyNext_list_item j hl V λF C g=>?_);obtain⟨ot,f,h,_,L⟩:=e2
  have H:t≠it:=λz=>by
   obtain⟨Z,a,c,_⟩:=j;rw[z,a]at f;cases f;rw[c]at h;exact Q8 (Value.type.inj h) Yk
  have a0:t≠d:=λz=>by
   obtain⟨od,a,c⟩:=(show s.TypeIs (.ref d) "dict" from hd.typeIs);rw[z,a]at f;cases f;rw[c]at h;exact Q8 (Value.type.inj h) Yk
  have p:F.get? t=some ot:=(g.2 t H).trans f;have J:F.DictOf knd d (eu (ps.take i)):=hd.sameBut g (Ne.symm n);refine q9 (Qy (q9 (wpAny_tryCatch ?_)));unfold Builtin.Dict.pairItems;refine q9 (wpAny_typeOf_ref p ?_);rw[h];refine q9 (Qz p L (qe ?_));refine Qy (wpAny_dictSet_pairs T J (λE N k=>?_) ?_)
  .refine qe ⟨plainId_quiet lA _,Q (i+1) { s with heap:=E,toks:=s.toks+1 } 0 Yo Yo ?_ ?_ ?_ ?_ λh' u kp X=>G h' u (λb o n1 n2 q=>kp b o n1 n2 ((k.2 b n2).trans ((g.2 b n1).trans q))) X⟩
   .obtain⟨o,a,r⟩:=C;exact⟨o,(k.2 it n).trans a,r⟩
   .obtain⟨o,a,r⟩:=hl;exact⟨o,(k.2 l M).trans ((g.2 l (Ne.symm D)).trans a),r⟩
   .rw[qu,qd lt];show E.DictOf knd d (eu (ps.take i++[ps[i]]));rw[Ao];exact N
   .refine v.keep λb o a c=>?_
    have P:b≠it:=λz=>by
     obtain⟨Z,I,B,_⟩:=j;rw[z,I]at a;cases a;rw[B]at c;exact Q8 (Value.type.inj c) Yk
    have O:b≠d:=λz=>by
     obtain⟨od,I,B⟩:=(show s.TypeIs (.ref d) "dict" from hd.typeIs);rw[z,I]at a;cases a;rw[B]at c;exact Q8 (Value.type.inj c) Yk
    exact(k.2 b O).trans ((g.2 b P).trans a)
  .have F:=x (ps.take i) (by rw[qN];omega);have E:(ps.take i).length<=ps.length:=by rw[qN];omega
   omega
end
section
variable {K:Type} [DecidableEq K] {knd:KeyKind prog w K}
theorem FP{l:Addr}{k:Nat}{sl:Array LO}{ps:List (K×Value)}(n:A.handled=none)(hl:s.heap.get? l=some { cls:=.type "list",dict:=none,data:=.seq xs k,slots:=sl })(y:k9 knd s.heap xs ps)(few:ps.length<=sizeLine)
 (g:∀qs,qs.length<=ps.length->(eu (qs:List (K×Value))).length<=qs.length)
 (h:∀h' tk,(∀b o,s.heap.get? b=some o->h'.get? b=some o)->h'.DictOf knd s.heap.objs.size (eu ps)->Q (.ref s.heap.objs.size) { s with heap:=h',toks:=tk }):
 wpAny (model prog w) A (call (.type "dict") [.ref l]) Q E s:=by
 refine callType_codes (Q₁:=λobj d=>obj=.ref s.heap.objs.size/\d={ s with heap:=s.heap.push { cls:=.type "dict",data:=.dict #[] } }) PySem.F.kt_called_dict (PySem.F.kt_typeCall_dict_1 _) PySem.F.entry_dict_init (kt_code_dict_new _ ⟨U,U⟩) ?_;rintro obj d ⟨rfl,rfl⟩;have a:(s.heap.push { cls:=.type "dict",data:=.dict #[] }).DictOf knd s.heap.objs.size []:=Heap.DictOf.new s.heap;exists a.typeIs,PySem.F.args_dict_init_2 _ _;unfold Builtin.«dict.__init__»;refine q9 ?_;unfold Builtin.Dict.selfAndRest;refine q9 (wpAny_notOrdered_dict a.typeIs ?_);show wpAny _ _ (pure (s.heap.objs.size,[Value.ref l])) _ _ _;refine qe ?_;show wpAny _ _ (Builtin.Dict.updateFrom "dict.__init__" s.heap.objs.size (.ref l) [] .none) _ _ _;unfold Builtin.Dict.updateFrom;have f:(s.heap.push { cls:=.type "dict",data:=.dict #[] }).get? l=some { cls:=.type "list",dict:=none,data:=.seq xs k,slots:=sl }:=qb _ hl;refine q9 (wpAny_typeOf_ref f ?_);rw[Q5 (show((Value.type "list":Value) != Value.type "dict")=true by decide)];refine q9 (Et (by simpa using n) f λj _ c=>?_);rw[Q5 (show(none:LO).isNone=true from rfl)];refine q9 (wpAny_rule ?_);have e:=c _ _ f
 have i:j.DictOf knd s.heap.objs.size []:=by
  obtain⟨o,es,x,m,r⟩:=a;exact⟨o,es,x,c _ _ m,r⟩
 refine q9 (wpAny_pyIter_list (items:=xs) ⟨_,e,U,_,U⟩ ?_);have B:l≠s.heap.objs.size:=λz=>Q8 (qt hl) (by rw[z];exact Qf _)
 have sz:s.heap.objs.size<j.objs.size:=by
  obtain⟨o,_,_,m,_⟩:=i;exact qt m
 have u:j.objs.size≠l:=λz=>Q8 (qt e) (by rw[<- z];exact Qf _);refine qe ⟨plainId_quiet lA _,FQ (knd:=knd) (items:=xs) (ps:=ps) (by simpa using n) u (Nat.ne_of_gt sz) B few g ps.length 0 _ 0 (Nat.sub_zero _) (qv _) ?_ ?_ ?_ ?_ λh' p kp v=>?_⟩
 .exact⟨_,qr _ U,U,U⟩
 .exact⟨_,qb _ e,U,_,U⟩
 .exact i.push _
 .exact(y.keep λt o q _=>c _ _ (qb _ q)).keep λt o q _=>qb _ q
 .refine⟨U,h h' p (λb o q=>?_) v⟩;have lt:=qt q;exact kp b o (qJ (Nat.lt_trans lt sz)) (qJ lt) (qb _ (c _ _ (qb _ q)))
end
noncomputable def cU(ps:LN):LN:=ps.foldl (λkvs p=>bu kvs p.1 p.2) []
theorem Cj(ps:LN):(cU ps).length<=ps.length:=by
 have:∀(ps a:LN),(ps.foldl (λa p=>bu a p.1 p.2) a).length<=a.length+ps.length:=by
  intro ps
  induction ps with
  |nil=>intro a;simp
  |cons p r b=>
   intro a;have d:=b (bu a p.1 p.2);have c:=dQ a p.1 p.2;rw[QC,qE];omega
 have:=this ps [];simpa[cU]using this
theorem Am{K:Type}[DecidableEq K](a:List (K×Value))(k:K)(v:Value):(stored a k v).length<=a.length+1:=by
 unfold stored;split<;>simp
theorem Ap{K:Type}[DecidableEq K](qs:List (K×Value)):(eu qs).length<=qs.length:=by
 have:∀(ps a:List (K×Value)),(ps.foldl (λa p=>stored a p.1 p.2) a).length<=a.length+ps.length:=by
  intro ps
  induction ps with
  |nil=>intro a;simp
  |cons p r b=>
   intro a;have d:=b (stored a p.1 p.2);have c:=Am a p.1 p.2;rw[QC,qE];omega
 have:=this qs [];simpa[eu]using this
def BZ(K:W.Frag):LV->Hp->VK->Prop:=λvs H Q=>∃l us ps,vs=[.ref l]/\H l=some (.lst us)/\us.length=ps.length/\ps.length<=sizeLine/\(∀(i:Nat)(p:Key×V),ps[i]?=some p->∃t,us[i]?=some (.ref t)/\H t=some (.tup [kV p.1,p.2]))/\∀d,H d=none->Q (.ref d) (upd H d (.dK (cU ps)))
theorem wy{h:Heap}(ok:HOk X.prog X.w H h):∀(us:LV)(its:LL)(ps:LN),ax us its->us.length=ps.length->(∀(i:Nat)(p:Key×V),ps[i]?=some p->∃t,us[i]?=some (.ref t)/\H t=some (.tup [kV p.1,p.2]))->
 ∃qs:List (Key×Value),KV ps qs/\its.length=qs.length/\∀(i:Nat)(q:Key×Value),qs[i]?=some q->∃t key,its[i]?=some (.ref t)/\h.IsTuple t #[key,q.2]/\(d9 X.prog X.w).is q.1 key=true
 |[],_,[],.nil,_,_=>⟨[],.nil,U,λi q c=>by simp at c⟩
 |u::us,_,[],_,hl,_=>by simp at hl
 |[],_,p::ps,_,hl,_=>by simp at hl
 |u::us,_,p::ps,@Paired.cons _ _ _ _ y _ ys rx r,hl,hp=>by
  obtain⟨t,v,x⟩:=hp 0 p U;obtain rfl:u=.ref t:=by simpa using v
  obtain⟨qs,m,f,c⟩:=wy ok us ys ps r (by simpa using hl) λi z h'=>by
   obtain⟨t',a,b⟩:=hp (i+1) z (by simpa using h');exact⟨t',by simpa using a,b⟩
  obtain⟨_,_,g,o,B,A,n,j⟩:=(show bJ X.prog X.w H h t (.tup [kV p.1,p.2])from ok t _ x);obtain⟨s,d,rfl,k,l⟩:=jg g;cases rx;refine⟨(p.1,d)::qs,.cons ⟨U,l⟩ m,by simp[f],λi q h'=>?_⟩
  cases i with
  |zero=>
   have e:(p.1,d)=q:=by simpa using h'
   subst e;exact⟨t,s,U,⟨o,B,A,n,j⟩,gj k⟩
  |succ i=>exact c i q (by simpa using h')
theorem KV.all:∀{ps:LN}{qs:List (Key×Value)},KV ps qs->KV (cU ps) (eu qs):=by
 have:∀{ps:LN}{qs:List (Key×Value)},KV ps qs->∀{a:LN}{b:List (Key×Value)},KV a b->KV (ps.foldl (λc p=>bu c p.1 p.2) a) (qs.foldl (λc p=>stored c p.1 p.2) b):=by
  intro ps qs h
  induction h with
  |nil=>intro a b h;exact h
  |cons g _ d=>
   intro a b h;obtain⟨f,e⟩:=g;rw[QC,QC,<- f];exact d (h.put _ e)
 intro ps qs h;exact this h .nil
theorem Gw(y:X.calm=true):cJ X (.type "dict") (BZ X.K):=by
 intro _ s Y H xs us Q I r h;obtain⟨l,ys,ps,rfl,hl,m,few,d,q⟩:=h;obtain⟨u,rfl,v⟩:=fF r;cases v;obtain⟨_,f,_,n,e⟩:=(show bJ X.prog X.w H s.heap l (.lst ys)from I.hok l _ hl);obtain⟨qs,k,j,x⟩:=wy I.hok ys f ps n m d;have z:=k.length;refine FP (knd:=d9 X.prog X.w) (ps:=qs) (I.ok.hd y) e ⟨by simpa using j,λi p d=>?_⟩ Yo (λqs _=>Ap qs) λh' tk kp o=>?_
 .obtain⟨t,g,a,b,c⟩:=x i p d;exact⟨t,g,by simpa using a,b,c⟩
 .have len:=Cj ps;refine⟨.ref s.heap.objs.size,_,I.laid (t':=tk) kp (qf _) (sN Yo ?_ k.all o),U,q _ (I.hok.fresh (qf _))⟩;exact(y8 s.heap I.big:bJ X.prog X.w H _ s.heap.objs.size (.dK [])).2.1
end L2
namespace Tr
open PySem PySem.Spec PyProof.Rows L2
noncomputable abbrev sl(x:Str):LG:=x.cps.toList
theorem hE(x y:Str):sl (x++y)=sl x++sl y:=by
 show(x.cps++y.cps).toList=_;simp
theorem AJ(x:Str):x.length=(sl x).length:=U
theorem nF(x:Str)(l u:Option Int):sl (Txt.slice x l u)=((sl x).drop (HT.sIx x.length 0 l)).take (HT.sIx x.length x.length u-HT.sIx x.length 0 l):=by
 have e:Builtin.Str.strSliceIndices l u 1 x.length=(List.range (HT.sIx x.length x.length u-HT.sIx x.length 0 l)).map (HT.sIx x.length 0 l+·):=by
  rw[<- sliceRange_one];unfold Builtin.Str.strSliceIndices;simp only[show(1:Int) > 0 by decide,if_true]
  congr 1
  .cases l with
   |none=>rfl
   |some i=>
    simp only[HT.sIx];split<;>omega
  .cases u with
   |none=>rfl
   |some i=>
    simp only[HT.sIx];split<;>omega
 unfold Txt.slice;rw[e];split
 .rename_i h;simp only[qa,Qh,Bool.and_eq_true,beq_iff_eq]at h;have b:=HT.sIx_le x.length 0 (qv _) l;have a:=HT.sIx_le x.length x.length (qf _) u;by_cases z:x.length=0
  .have:sl x=[]:=List.length_eq_zero_iff.mp z;rw[this];simp
  .have a0:HT.sIx x.length 0 l=0:=by omega
   have b0:HT.sIx x.length x.length u=x.length:=Yo;rw[a0,b0];simp only[List.drop_zero,Nat.sub_zero];exact(qK).symm
 .show(((List.range _).map _).filterMap (x.cps[·]?)).toArray.toList=_;rw[pick_run]
theorem nE{k:Int}(h:0<=k):sl (Txt.slice x none (some k))=(sl x).take k.toNat:=by
 obtain⟨n,rfl⟩:=Int.eq_ofNat_of_zero_le h;rw[nF];simp only[HT.sIx_none,List.drop_zero,Nat.sub_zero];rw[show(some (n:Int))=some ((n:Nat):Int)from rfl,HT.sIx_nat];show _=(sl x).take n;rw[List.take_eq_take_iff];show min (min n (sl x).length) _=_;omega
theorem jV{j:Int}(a:0<=j)(b:j<26):c9 j=97+j.toNat:=by
 obtain⟨n,rfl⟩:=Int.eq_ofNat_of_zero_le a;have all:∀n:_root_.Fin 26,cW.cps.toList.getD n.1 0=97+n.1:=Yd;exact all ⟨n,Yo⟩
theorem EC:∀w∈kws,sl w=(sl w).dropLast++[(sl w).getLastD 97]/\2<=(sl w).length:=Yd
theorem vB(w:Str):sl (cQ w)=sl w\/(2<=(sl w).length/\sl (cQ w)=(sl w).dropLast++[c9 ((i9 w+13) % 26)]):=by
 unfold cQ;split
 .rename_i h;obtain⟨e,a⟩:=EC w h;refine .inr ⟨a,?_⟩;rw[hE,nF];simp only[HT.sIx_none,List.drop_zero,Nat.sub_zero]
  have:HT.sIx w.length w.length (some (-1))=(sl w).length-1:=by
   simp only[HT.sIx,show((-1:Int)<0)by decide,if_true];rw[AJ];omega
  rw[this,List.dropLast_eq_take]
  rfl
 .exact .inl U
theorem AA(w:Str):(sl (cQ w)).length=(sl w).length:=by
 rcases vB w with h|⟨_,h⟩
 .rw[h]
 .rw[h,qc,QD,Qa];omega
theorem kz{w:Str}{p:Nat}{m:Int}(d:0<=m)(c:m<26)(e:(sl w)[p]?=some (c9 m)):(sl (cQ w))[p]?=some (c9 m)\/(sl (cQ w))[p]?=some (c9 ((m+13) % 26)):=by
 rcases vB w with h|⟨hl,h⟩
 .rw[h];exact .inl e
 .obtain⟨_,b⟩:=qg.mp e;rw[h];by_cases q:p=(sl w).length-1
  .refine .inr ?_
   have a:(sl w).getLastD 97=c9 m:=by
    rw[<- b,List.getLastD_eq_getLast?,List.getLast?_eq_getElem?,<- q,e,<- b]
    rfl
   have:i9 w=m:=by
    unfold i9;show(((sl w).getLastD 97:Nat):Int)-97=m;rw[a,jV d c];omega
   rw[this,qO (by rw[QD];omega),QD,show p-((sl w).length-1)=0 by omega]
   rfl
  .refine .inl ?_;rw[Q9 (by rw[QD];omega),List.getElem?_dropLast,Q5 Yo];exact e
theorem apart{q i j:Int}(d:0<=i/\i<13)(c:0<=j/\j<13)(ne:i≠j){a b:Nat}(ha:a=c9 ((q+i) % 26)\/a=c9 (((q+i) % 26+13) % 26))(hb:b=c9 ((q+j) % 26)\/b=c9 (((q+j) % 26+13) % 26)):a≠b:=by
 intro e;have f:=jV (j:=(q+i) % 26) Yo Yo;have g:=jV (j:=((q+i) % 26+13) % 26) Yo Yo;have k:=jV (j:=(q+j) % 26) Yo Yo;have h:=jV (j:=((q+j) % 26+13) % 26) Yo Yo;rcases ha with rfl|rfl<;>rcases hb with rfl|rfl<;>omega
theorem xk(n:Int):∀k,(sl (cB n k)).length=k
 |0=>rfl
 |k+1=>by rw[cB,hE,qc,xk n k];rfl
theorem Cu(c:Int)(h:i<8)(g:j<8)(ne:i≠j):cQ (bU c i)≠cQ (bU c j):=by
 intro e;have a:=congrArg sl e;have d:∀k:Nat,sl (eR c k)=[c9 ((aA c 1 / 192+k) % 26)]:=λ_=>U;have bl:(sl (bS c)).length=8:=xk _ 8;by_cases h0:aA c 1 % 3=0
 .have l:1<=du c/\du c<=8:=by unfold du;omega
  have f:0<=d7 c/\d7 c<du c:=by
   unfold d7;exact⟨Qd _ Yo,Qi _ Yo⟩
  have at_:∀k:Nat,(sl (bU c k))[(d7 c).toNat]?=some (c9 ((aA c 1 / 192+k) % 26)):=λk=>by
   unfold bU;rw[Q5 h0,hE,hE,nE f.1,d,qQ,qO (by rw[qN];omega),qN,bl,show(d7 c).toNat-min (d7 c).toNat 8=0 by omega]
   rfl
  have x:=kz Yo Yo (at_ i);have y:=kz Yo Yo (at_ j);rw[<- a]at y;rcases x with x|x<;>rcases y with y|y<;>rw[x]at y<;>refine apart (q:=aA c 1 / 192) (i:=i) (j:=j) Yo Yo Yo ?_ ?_ (qM y)<;>simp
 .by_cases h1:aA c 1 % 3=1
  .have b:∀k:Nat,((sl (cQ (bU c k))).length:Int)=1+(aA c 1 / 24+k) % 8:=λk=>by
    rw[AA];unfold bU;rw[Q4 h0,Q5 h1,nE Yo,qN,bl];omega
   have x:=b i;have y:=b j;rw[a]at x;omega
  .have at_:∀k:Nat,(sl (bU c k))[0]?=some (c9 ((aA c 1 / 192+k) % 26)):=λk=>by
    unfold bU;rw[Q4 h0,Q4 h1,nE Yo,hE,d,List.getElem?_take,Q5 Yo]
    rfl
   have x:=kz Yo Yo (at_ i);have y:=kz Yo Yo (at_ j);rw[<- a]at y;rcases x with x|x<;>rcases y with y|y<;>rw[x]at y<;>refine apart (q:=aA c 1 / 192) (i:=i) (j:=j) Yo Yo Yo ?_ ?_ (qM y)<;>simp
theorem Ct(c:Int)(h:n<=8):(cD c n).Nodup:=by
 have d:(dr c n).Nodup:=by
  unfold dr;refine List.pairwise_map.mpr (List.Pairwise.imp_of_mem (λ{a b} ha hb lt=>?_) (List.pairwise_lt_range (n:=n)));have f:=List.mem_range.mp ha;have e:=List.mem_range.mp hb;exact Cu c Yo Yo Yo
 unfold cD;split
 .exact List.pairwise_reverse.mpr (List.Pairwise.imp (λh=>Ne.symm h) d)
 .exact d
end Tr
namespace L2
open PySem PySem.Spec PyProof.Rows
theorem D2:OpR X (compareOp .In) (λx y H Q=>∃a kvs k,y=.ref a/\H a=some (.dK kvs)/\x=kV k/\Q (.bl (aI kvs k).isSome) H):=by
 intro _ s Y H x y v u Q I e d h;obtain⟨a,kvs,k,rfl,hd,rfl,q⟩:=h;cases d;obtain⟨_,ne,vs,b,c⟩:=jR I.hok hd;refine wpAny_in_of (gj e) ne c.mapOf ⟨.bl _,H,I.tok _,?_,q⟩;rw[<- (b.val k).isSome_eq]
 rfl
theorem EQ:IxR X (λx y H Q=>∃a kvs k v,x=.ref a/\H a=some (.dK kvs)/\y=kV k/\aI kvs k=some v/\Q v H):=by
 intro _ slice _ s Y H x y v u Q I i g h f;obtain⟨a,kvs,k,z,rfl,hd,rfl,e,q⟩:=h;cases i;obtain⟨_,ne,vs,d,c⟩:=jR I.hok hd;obtain⟨_,hw,b⟩:=cu.some_of (v:=z) (o:=valueAt vs k) (by rw[<- e];exact d.val k);exact tail_any c.typeIs PySem.F.slot_dict_getitem.lookup (wpAny_getItem_of (gj g) c.mapOf hw ⟨z,H,I.tok _,b,q⟩) f
end L2
namespace Tr
open PySem PySem.Spec PyProof.Rows L2
abbrev Wat:=Int×Str×Str
noncomputable abbrev fc(e:Wat):HO:=.tup [.int e.1,.str e.2.1,.str e.2.2]
inductive RWs(H:Hp):LV->List Wat->Prop
 |nil:RWs H [] []
 |cons {p:Addr}{vs:LV}{e:Wat}{es:List Wat}:H p=some (fc e)->RWs H vs es->RWs H (.ref p::vs) (e::es)
theorem RWs.same{H H':Hp}(s:a8 H H'):∀{vs:LV}{es:List Wat},RWs H vs es->RWs H' vs es
 |_,_,.nil=>.nil
 |_,_,.cons h r=>.cons (s _ _ h) (RWs.same s r)
theorem RWs.snoc{H:Hp}{p:Addr}{e:Wat}(h:H p=some (fc e)):∀{vs:LV}{es:List Wat},RWs H vs es->RWs H (vs++[.ref p]) (es++[e])
 |_,_,.nil=>.cons h .nil
 |_,_,.cons h' r=>.cons h' (RWs.snoc h r)
theorem RWs.app{H:Hp}{us:LV}{fs:List Wat}(h:RWs H us fs):∀{vs:LV}{es:List Wat},RWs H vs es->RWs H (vs++us) (es++fs)
 |_,_,.nil=>h
 |_,_,.cons h' r=>.cons h' (RWs.app h r)
theorem RWs.len{H:Hp}:∀{vs:LV}{es:List Wat},RWs H vs es->vs.length=es.length
 |_,_,.nil=>rfl
 |_,_,.cons _ t=>congrArg (·+1) (RWs.len t)
theorem RWs.off{H:Hp}{c:Addr}{xs:LV}{o:HO}(a:H c=some (.lst xs)):∀{vs:LV}{es:List Wat},RWs H vs es->RWs (upd H c o) vs es
 |_,_,.nil=>.nil
 |_,_,.cons (p:=p) h r=>.cons (by rw[ag (λz=>by rw[z,a]at h;cases h)];exact h) (RWs.off a r)
noncomputable def dH(ow:Str->Option Int)(kd:Str)(F:LS):List Wat:=F.filterMap λc=>(ow c).map λn=>(n,kd,c)
theorem Gx(ow:Str->Option Int)(kd c:Str)(a:LS):dH ow kd (a++[c])=dH ow kd a++((ow c).map λn=>(n,kd,c)).toList:=by
 unfold dH;rw[List.filterMap_append,List.filterMap_cons,List.filterMap_nil];cases ow c<;>rfl
theorem iu(ow:Str->Option Int)(kd:Str)(a:LS):(dH ow kd a).length<=a.length:=List.length_filterMap_le _ _
def jc(kvs:LN)(ow:Str->Option Int):Prop:=∀c:Str,aI kvs (.inr c)=(ow c).map V.int
inductive RWL(H:Hp):LV->List (List Wat)->Prop
 |nil:RWL H [] []
 |cons {p:Addr}{us vs:LV}{es:List Wat}{ws:List (List Wat)}:H p=some (.lst us)->RWs H us es->RWL H vs ws->RWL H (.ref p::vs) (es::ws)
theorem RWL.same{H H':Hp}(s:a8 H H'):∀{vs:LV}{a:List (List Wat)},RWL H vs a->RWL H' vs a
 |_,_,.nil=>.nil
 |_,_,.cons h h' r=>.cons (s _ _ h) (h'.same s) (RWL.same s r)
theorem RWL.snoc{H:Hp}{p:Addr}{us:LV}{es:List Wat}(h:H p=some (.lst us))(h':RWs H us es):∀{vs:LV}{c:List (List Wat)},RWL H vs c->RWL H (vs++[.ref p]) (c++[es])
 |_,_,.nil=>.cons h h' .nil
 |_,_,.cons a b r=>.cons a b (RWL.snoc h h' r)
theorem RWL.len{H:Hp}:∀{vs:LV}{a:List (List Wat)},RWL H vs a->vs.length=a.length
 |_,_,.nil=>rfl
 |_,_,.cons _ _ t=>congrArg (·+1) (RWL.len t)
noncomputable def bO(rs:List Row)(c:Str):Option Int:=rs.zipIdx.foldl (λo p=>if c∈p.1.owns then some (p.2:Int)else o) none
theorem xB(rs:List Row)(r:Row)(c:Str):bO (rs++[r]) c=if c∈r.owns then some (rs.length:Int)else bO rs c:=by
 unfold bO;rw[List.zipIdx_append,List.foldl_append];simp
noncomputable def eG(rs:List Row)(r:Row):List Wat:=dH (bO rs) "card" r.owns++dH (bO rs) "copy" r.reads
noncomputable def cG(rs:List Row):Nat->List (List Wat)
 |0=>[]
 |i+1=>cG rs i++((rs[i]?).map λr=>eG (rs.take i) r).toList
theorem RWL.off{H:Hp}{c:Addr}{xs:LV}{o:HO}(a:H c=some (.lst xs)):∀{vs:LV}{b:List (List Wat)},RWL H vs b->(∀v∈vs,v≠.ref c)->RWL (upd H c o) vs b
 |_,_,.nil,_=>.nil
 |_,_,.cons (p:=p) h h' r,ne=>.cons (by rw[ag (λz=>ne (.ref p) qq (by rw[z]))];exact h) (h'.off a) (RWL.off a r λv d=>ne v (qp _ d))
theorem RWs.offD{H:Hp}{c:Addr}{b:LN}{o:HO}(a:H c=some (.dK b)):∀{vs:LV}{es:List Wat},RWs H vs es->RWs (upd H c o) vs es
 |_,_,.nil=>.nil
 |_,_,.cons (p:=p) h r=>.cons (by rw[ag (λz=>by rw[z,a]at h;cases h)];exact h) (RWs.offD a r)
theorem RWL.offD{H:Hp}{c:Addr}{b:LN}{o:HO}(a:H c=some (.dK b)):∀{vs:LV}{d:List (List Wat)},RWL H vs d->RWL (upd H c o) vs d
 |_,_,.nil=>.nil
 |_,_,.cons (p:=p) h h' r=>.cons (by rw[ag (λz=>by rw[z,a]at h;cases h)];exact h) (h'.offD a) (RWL.offD a r)
theorem jX(rs:List Row):∀i,i<=rs.length->(cG rs i).length=i
 |0,_=>rfl
 |i+1,h=>by rw[cG,qc,jX rs i Yo,qd Yo];rfl
noncomputable def jD(ow:Str->Option Int)(n:Int)(F:LS):Str->Option Int:=λc=>if c∈F then some n else ow c
theorem jc.put{ow:Str->Option Int}{n:Int}{a:LS}(h:jc kvs (jD ow n a)):jc (bu kvs (.inr c) (.int n)) (jD ow n (a++[c])):=λq=>by
 rw[dL];unfold jD;by_cases e:q=c
 .subst e;rw[Q5 U,Q5 (by simp)]
  rfl
 .rw[Q4 (λz=>e (Sum.inr.inj z)),h q];unfold jD;by_cases m:q∈a
  .rw[Q5 m,Q5 (by simp[m])]
  .rw[Q4 m,Q4 (by simp[m,e])]
noncomputable def ar(f:Row->Option Str)(rs:List Row)(q:Str):LI:=rs.zipIdx.filterMap λp=>if f p.1=some q then some (p.2:Int)else none
theorem wM(f:Row->Option Str)(rs:List Row)(r:Row)(q:Str):ar f (rs++[r]) q=ar f rs q++(if f r=some q then[(rs.length:Int)]else[]):=by
 unfold ar;rw[List.zipIdx_append,List.filterMap_append]
 congr 1
 by_cases h:f r=some q<;>simp[h]
theorem wO(f:Row->Option Str)(rs:List Row)(q:Str):(ar f rs q).length<=rs.length:=by
 unfold ar;refine qC (List.length_filterMap_le _ _) ?_;rw[List.length_zipIdx];exact qf _
structure RN(H:Hp)(kvs:LN)(m:Str->LI):Prop where
 at_:∀q:Str,(aI kvs (.inr q)=none/\m q=[])\/∃p,aI kvs (.inr q)=some (.ref p)/\H p=some (.lst ((m q).map V.int))
 one:∀(q q':Str)(p:Addr),aI kvs (.inr q)=some (.ref p)->aI kvs (.inr q')=some (.ref p)->q=q'
theorem RN.same{m:Str->LI}(s:a8 H H')(h:RN H kvs m):RN H' kvs m:=
 ⟨λq=>(h.at_ q).imp id λ⟨p,a,b⟩=>⟨p,a,s _ _ b⟩,h.one⟩
theorem RN.eq{m:Str->LI}(h:RN H kvs m)(e:∀q,m' q=m q):RN H kvs m':=
 ⟨λq=>by rw[e q];exact h.at_ q,h.one⟩
theorem RN.old{m:Str->LI}{q:Str}{p:Addr}{n:Int}(h:RN H kvs m)(c:aI kvs (.inr q)=some (.ref p))(e:m' q=m q++[n])(f:∀q',q'≠q->m' q'=m q'):RN (upd H p (.lst ((m q).map V.int++[.int n]))) kvs m':=by
 refine⟨λq'=>?_,h.one⟩;by_cases z:q'=q
 .subst z;refine .inr ⟨p,c,?_⟩;rw[ah,e,qR]
  rfl
 .rw[f q' z];rcases h.at_ q' with a|⟨d,a,b⟩
  .exact .inl a
  .refine .inr ⟨d,a,?_⟩;rw[ag (λy=>z (h.one q' q p (by rw[a,y]) c))];exact b
theorem RN.new{m:Str->LI}{q:Str}{d l:Addr}{n:Int}{o:HO}(h:RN H kvs m)(hd:H d=some (.dK kvs))(hl:H l=none)(t:aI kvs (.inr q)=none)(e:m' q=[n])(r:∀q',q'≠q->m' q'=m q'):RN (upd (upd (upd H l o) d (.dK (bu kvs (.inr q) (.ref l)))) l (.lst [.int n])) (bu kvs (.inr q) (.ref l)) m':=by
 have val:∀q':Str,aI (bu kvs (.inr q) (.ref l)) (.inr q')=if q'=q then some (.ref l)else aI kvs (.inr q'):=λq'=>by
  rw[dL];by_cases z:q'=q
  .rw[Q5 z,Q5 (by rw[z])]
  .rw[Q4 z,Q4 (λy=>z (Sum.inr.inj y))]
 have old:∀(q':Str)(p:Addr),aI kvs (.inr q')=some (.ref p)->p≠l:=λq' p g z=>by
  rcases h.at_ q' with⟨a,_⟩|⟨i,a,b⟩
  .rw[a]at g;cases g
  .rw[a]at g;cases g;rw[z,hl]at b;cases b
 refine⟨λq'=>?_,λs k p f c=>?_⟩
 .rw[val];by_cases z:q'=q
  .rw[Q5 z,z,e];exact .inr ⟨l,U,ah⟩
  .rw[Q4 z,r q' z];rcases h.at_ q' with a|⟨i,a,b⟩
   .exact .inl a
   .refine .inr ⟨i,a,?_⟩;have j:=old q' i a;have nd:i≠d:=λy=>by rw[y,hd]at b;cases b
    rwa[ag j,ag nd,ag j]
 .rw[val]at f c;by_cases z1:s=q<;>by_cases z2:k=q
  .rw[z1,z2]
  .rw[Q5 z1]at f;rw[Q4 z2]at c;cases f;exact Q8 U (old _ _ c)
  .rw[Q4 z1]at f;rw[Q5 z2]at c;cases c;exact Q8 U (old _ _ f)
  .rw[Q4 z1]at f;rw[Q4 z2]at c;exact h.one _ _ _ f c
noncomputable def fU(W:List (List Wat))(i:Nat)(e:Wat):List (List Wat):=W.modify i (·++[e])
theorem tG(W:List (List Wat))(i:Nat)(e:Wat):(fU W i e).length=W.length:=List.length_modify ..
theorem mJ(W:List (List Wat))(i j:Nat)(e:Wat):(fU W i e)[j]?=(W[j]?).map λes=>if i=j then es++[e]else es:=by
 unfold fU;rw[List.getElem?_modify];by_cases h:i=j
 .simp[h]
 .simp[h]
structure RWM(H:Hp)(as:LK)(W:List (List Wat)):Prop where
 nd:as.Nodup
 len:as.length=W.length
 at_:∀(i:Nat)(p:Addr)(es:List Wat),as[i]?=some p->W[i]?=some es->∃us,H p=some (.lst us)/\RWs H us es
theorem RWM.same{H H':Hp}{as:LK}{W:List (List Wat)}(s:a8 H H')(h:RWM H as W):RWM H' as W:=
 ⟨h.nd,h.len,λi p es a b=>let ⟨us,c,d⟩:=h.at_ i p es a b;⟨us,s _ _ c,d.same s⟩⟩
theorem RWM.lists{H:Hp}:∀{as:LK}{W:List (List Wat)},as.length=W.length->(∀(i:Nat)(p:Addr)(es:List Wat),as[i]?=some p->W[i]?=some es->∃us,H p=some (.lst us)/\RWs H us es)->RWL H (as.map V.ref) W
 |[],[],_,_=>.nil
 |[],_::_,h,_=>by simp at h
 |_::_,[],h,_=>by simp at h
 |p::as,es::W,h,g=>by
  obtain⟨us,a,b⟩:=g 0 p es U U;exact .cons a b (RWM.lists (by simpa using h) λi c es' x y=>g (i+1) c es' (by simpa using x) (by simpa using y))
theorem RWM.rwl{as:LK}{W:List (List Wat)}(h:RWM H as W):RWL H (as.map V.ref) W:=RWM.lists h.len h.at_
theorem RWM.add{as:LK}{W:List (List Wat)}{p t:Addr}{us:LV}{e:Wat}(h:RWM H as W)(g:as[n]?=some p)(f:H p=some (.lst us))(ht:H t=some (fc e)):RWM (upd H p (.lst (us++[.ref t]))) as (fU W n e):=by
 refine⟨h.nd,by rw[tG];exact h.len,λi k es d hw=>?_⟩;rw[mJ]at hw
 cases ew:W[i]? with
 |none=>rw[ew]at hw;cases hw
 |some c=>
  rw[ew]at hw;obtain⟨j,a,b⟩:=h.at_ i k c d ew;by_cases z:n=i
  .subst z;rw[g]at d;cases d;rw[f]at a;cases a;have:c++[e]=es:=by simpa using hw
   subst this;exact⟨_,ah,(b.off f).snoc (by rw[ag (λy=>by rw[y,f]at ht;cases ht)];exact ht)⟩
  .have:c=es:=by simpa[z]using hw
   subst this
   have m:k≠p:=λy=>z (by
    obtain⟨l1,l⟩:=qg.mp g;obtain⟨l2,o⟩:=qg.mp d
    exact(List.getElem_inj h.nd).mp (by rw[l,o,y]))
   exact⟨j,by rwa[ag m],b.off f⟩
def Sm(W:List (List Wat))(n:Nat):Prop:=∀(i:Nat)(es:List Wat),W[i]?=some es->es.length<=n
theorem Sm.add{W:List (List Wat)}{e:Wat}(h:Sm W n):Sm (fU W i e) (n+1):=λj es a=>by
 rw[mJ]at a
 cases ew:W[j]? with
 |none=>rw[ew]at a;cases a
 |some b=>
  rw[ew]at a;have:=h j b ew;have c:(if i=j then b++[e]else b)=es:=by simpa using a
  rw[<- c];split
  .rw[qc,Qa];omega
  .omega
theorem Sm.mono{W:List (List Wat)}{m:Nat}(h:Sm W n)(l:n<=m):Sm W m:=λi es a=>qC (h i es a) l
noncomputable def ee(q:Str)(ps F:LI)(W:List (List Wat)):Nat->List (List Wat)
 |0=>W
 |k+1=>fU (ee q ps F W k) (F.getD k 0).toNat (ps.getD k 0,"thing",q)
noncomputable def awaited(n:Nat)(F:LI)(k:Nat):Int:=if k<F.length then F.getD k 0 else(n:Int)-1
noncomputable def dN(q:Str)(n:Nat)(F J:LI)(W:List (List Wat)):Nat->List (List Wat)
 |0=>W
 |k+1=>fU (dN q n F J W k) (F.getD k 0).toNat (awaited n J k,"room",q)
noncomputable def iw(rs:List Row)(s:Str×Int)(W:List (List Wat)):List (List Wat):=
 dN s.1 rs.length ((ar Row.into rs s.1).drop s.2.toNat) (ar Row.outof rs s.1) (ee s.1 (ar Row.into rs s.1) (ar Row.outof rs s.1) W (min (ar Row.into rs s.1).length (ar Row.outof rs s.1).length)) ((ar Row.into rs s.1).drop s.2.toNat).length
noncomputable def cR(rs:List Row)(ss:LF)(W:List (List Wat)):Nat->List (List Wat)
 |0=>W
 |j+1=>iw rs (ss.getD j ("",0)) (cR rs ss W j)
theorem lH{f:Row->Option Str}{q:Str}{k:Nat}{n:Int}(h:(ar f rs q)[k]?=some n):0<=n/\n.toNat<rs.length/\∃r,rs[n.toNat]?=some r/\f r=some q:=by
 have m:=qD h;unfold ar at m;obtain⟨⟨r,i⟩,b,e⟩:=List.mem_filterMap.mp m;by_cases z:f r=some q
 .have a:(i:Int)=n:=by simpa[z]using e
  subst a;have:=List.mem_zipIdx_iff_getElem?.mp b;exact⟨Yo,(qg.mp this).1,r,this,z⟩
 .simp[z]at e
theorem RWL.at{H:Hp}:∀{vs:LV}{c:List (List Wat)},RWL H vs c->∀(i:Nat)(v:V),vs[i]?=some v->∃p us es,v=.ref p/\H p=some (.lst us)/\RWs H us es/\c[i]?=some es
 |_,_,.nil,i,v,h=>by simp at h
 |_,_,.cons (p:=p) (us:=us) (es:=es) a b r,0,v,h=>⟨p,us,es,by simpa using h.symm,a,b,U⟩
 |_,_,.cons _ _ r,i+1,v,h=>RWL.at r i v (by simpa using h)
theorem RWM.push{as:LK}{W:List (List Wat)}{l:Addr}{us:LV}{es:List Wat}(h:RWM H as W)(hl:H l=none)(w:RWs H us es):RWM (upd H l (.lst us)) (as++[l]) (W++[es]):=by
 have s:a8 H (upd H l (.lst us)):=a8.new hl _
 have old:l∉as:=λm=>by
  obtain⟨i,d,e⟩:=List.mem_iff_getElem.mp m;have f:i<W.length:=by rwa[<- h.len]
  obtain⟨_,c,_⟩:=h.at_ i l W[i] (by rw[qd d,e]) (qd f);rw[hl]at c;cases c
 refine⟨List.nodup_append.mpr ⟨h.nd,by simp,λa ha b hb z=>?_⟩,by simp[h.len],λi p es' d hw=>?_⟩
 .rw[qV.mp hb]at z;exact old (z▸ha)
 .by_cases lt:i<as.length
  .rw[Q9 lt]at d;rw[Q9 (by rwa[<- h.len])]at hw;exact(h.same s).at_ i p es' d hw
  .have:i=as.length:=by
    have:=(qg.mp d).1;simp at this;omega
   subst this;rw[qO (qf _),Nat.sub_self]at d;rw[h.len,qO (qf _),Nat.sub_self]at hw;cases d;cases hw;exact⟨us,ah,w.same s⟩
theorem RWM.there{as:LK}{W:List (List Wat)}{p:Addr}(h:RWM H as W)(m:p∈as):∃us,H p=some (.lst us):=by
 obtain⟨i,a,e⟩:=List.mem_iff_getElem.mp m;have d:i<W.length:=by rwa[<- h.len]
 obtain⟨b,c,_⟩:=h.at_ i p W[i] (by rw[qd a,e]) (qd d);exact⟨b,c⟩
noncomputable def cN(as:LK)(H:Hp):Hp:=λa=>if a∈as then none else H a
theorem yc(as:LK)(H:Hp):a8 (cN as H) H:=λa o h=>by
 unfold cN at h;split at h
 .cases h
 .exact h
theorem ii{as:LK}{o:HO}(h:H a=some o)(n:a∉as):cN as H a=some o:=by
 unfold cN;rwa[Q4 n]
theorem ye{as:LK}(m:a∈as):cN as H a=none:=Q5 m
theorem yd{as:LK}(s:a8 H0 H)(f:∀p∈as,H0 p=none):a8 H0 (cN as H):=λa o h=>ii (s _ _ h) λm=>by rw[f a m]at h;cases h
theorem RN.cut{as:LK}{m:Str->LI}(h:RN H kvs m)(f:∀(q:Str)(p:Addr),aI kvs (.inr q)=some (.ref p)->p∉as):RN (cN as H) kvs m:=
 ⟨λq=>(h.at_ q).imp id λ⟨p,a,b⟩=>⟨p,a,ii b (f q p a)⟩,h.one⟩
theorem Gc(xs:LI){n:Int}(h:0<=n):eT (xs.map V.int) (some n) none=(xs.drop n.toNat).map V.int:=by
 obtain⟨k,rfl⟩:=Int.eq_ofNat_of_zero_le h;unfold eT;rw[HT.sIx_none,show(some ((k:Nat):Int))=some ((k:Nat):Int)from rfl,HT.sIx_nat,qa,Q0,<- List.map_drop,<- List.map_take]
 congr 1
 by_cases z:k<=xs.length
 .rw[Nat.min_eq_left z,List.take_of_length_le (by rw[Q3];omega)]
 .rw[Nat.min_eq_right Yo,List.drop_of_length_le (qf _),List.drop_of_length_le Yo];simp
theorem tF{rs:List Row}(c:∀r∈rs,r.owns.length<=4000/\r.reads.length<=4000):∀n,Sm (cG rs n) 8000
 |0=>λi es h=>by simp[cG]at h
 |n+1=>λi es h=>by
  rw[cG]at h
  cases e:rs[n]? with
  |none=>rw[e]at h;exact tF c n i es (by simpa using h)
  |some r=>
   rw[e]at h;by_cases lt:i<(cG rs n).length
   .rw[Q9 lt]at h;exact tF c n i es h
   .rw[qO Yo]at h
    have:es=eG (rs.take n) r:=by
     cases ei:i-(cG rs n).length with
     |zero=>rw[ei]at h;simpa using h.symm
     |succ m=>rw[ei]at h;simp at h
    subst this;obtain⟨a,b⟩:=c r (qD e);have f:=iu (bO (rs.take n)) "card" r.owns;have d:=iu (bO (rs.take n)) "copy" r.reads;unfold eG;rw[qc];omega
theorem wL(f:Row->Option Str)(a:List Row)(r:Row)(b:List Row)(q:Str):∃hi:LI,(∀x∈hi,(a.length:Int)<x)/\(∀x∈ar f a q,0<=x/\x<(a.length:Int))/\ar f (a++r::b) q=ar f a q++((if f r=some q then[(a.length:Int)]else[])++hi):=by
 refine⟨(b.zipIdx (a.length+1)).filterMap λp=>if f p.1=some q then some (p.2:Int)else none,λx c=>?_,λx c=>?_,?_⟩
 .obtain⟨⟨d,i⟩,hi,e⟩:=List.mem_filterMap.mp c;have:=(List.mem_zipIdx hi).1;by_cases z:f d=some q
  .have g:(i:Int)=x:=by simpa[z]using e
   omega
  .simp[z]at e
 .obtain⟨k,hk⟩:=List.getElem?_of_mem c;obtain⟨_,_,_⟩:=lH hk;omega
 .unfold ar;rw[List.zipIdx_append,List.filterMap_append,List.zipIdx_cons,List.filterMap_cons]
  congr 1
  by_cases z:f r=some q
  .simp[z]
  .simp[z]
theorem wN{f:Row->Option Str}(q:Str)(h:rs[i]?=some r)(k:Nat):(ar f rs q)[k]?=some (i:Int)↔f r=some q/\k=(ar f (rs.take i) q).length:=by
 have lt:=(qg.mp h).1
 have sp:rs=rs.take i++r::rs.drop (i+1):=by
  rw[<- List.singleton_append,<- qQ,show rs.take i++[r]=rs.take (i+1)by rw[qu,h];rfl,Qx]
 obtain⟨_,a,b,e⟩:=wL f (rs.take i) r (rs.drop (i+1)) q;rw[<- sp]at e;have c:(rs.take i).length=i:=by rw[qN];omega
 rw[c]at a b e;rw[e];constructor
 .intro g;by_cases kl:k<(ar f (rs.take i) q).length
  .rw[Q9 kl]at g;have:=(b _ (qD g)).2;omega
  .rw[qO Yo]at g;by_cases z:f r=some q
   .rw[Q5 z,List.singleton_append]at g
    cases ek:k-(ar f (rs.take i) q).length with
    |zero=>exact⟨z,Yo⟩
    |succ m=>
     rw[ek,List.getElem?_cons_succ]at g;have:=a _ (qD g);omega
   .rw[Q4 z,Qo]at g;have:=a _ (qD g);omega
 .rintro⟨z,rfl⟩;rw[qO (qf _),Nat.sub_self,Q5 z]
  rfl
theorem wQ{f:Row->Option Str}(q:Str)(h:rs[i]?=some r){k:Nat}(lt:k<(ar f rs q).length):((ar f rs q).getD k 0).toNat=i↔f r=some q/\k=(ar f (rs.take i) q).length:=by
 rw[<- wN q h k,qo,qd lt];obtain⟨_,_⟩:=lH (qd lt);show(ar f rs q)[k].toNat=i↔some (ar f rs q)[k]=some (i:Int);constructor
 .intro e
  congr 1
  omega
 .intro e;have:=qM e;omega
theorem u9(q:Str)(ps b:LI)(W:List (List Wat))(i:Nat)(c:Nat)(a:Prop)[Decidable a]:∀K,(∀k,k<K->((b.getD k 0).toNat=i↔a/\k=c))->(ee q ps b W K)[i]?=(W[i]?).map λes=>es++(if a/\c<K then([(ps.getD c 0,"thing",q)]:List Wat)else[])
 |0,_=>by simp[ee]
 |K+1,h=>by
  rw[ee,mJ,u9 q ps b W i c a K λk hk=>h k Yo,Option.map_map];have d:=h K Yo
  congr 1
  funext es
  show(if(b.getD K 0).toNat=i then _++_ else _)=_;by_cases o:a
  .by_cases z:K=c
   .subst z;rw[Q5 (d.mpr ⟨o,U⟩),Q4 Yo,Q5 ⟨o,Yo⟩];show(es++[])++_=_;rw[qA]
   .rw[Q4 (λy=>z (d.mp y).2)];by_cases l:c<K
    .rw[Q5 ⟨o,l⟩,Q5 ⟨o,Yo⟩]
    .rw[Q4 (λy=>l y.2),Q4 (λy=>by have:=y.2;omega)]
  .rw[Q4 (λy=>o (d.mp y).1),Q4 (λy=>o y.1),Q4 (λy=>o y.1)]
theorem vP(q:Str)(n:Nat)(b e:LI)(W:List (List Wat))(i:Nat)(c:Nat)(a:Prop)[Decidable a]:∀K,(∀k,k<K->((b.getD k 0).toNat=i↔a/\k=c))->(dN q n b e W K)[i]?=(W[i]?).map λes=>es++(if a/\c<K then([(awaited n e c,"room",q)]:List Wat)else[])
 |0,_=>by simp[dN]
 |K+1,h=>by
  rw[dN,mJ,vP q n b e W i c a K λk hk=>h k Yo,Option.map_map];have d:=h K Yo
  congr 1
  funext es
  show(if(b.getD K 0).toNat=i then _++_ else _)=_;by_cases o:a
  .by_cases z:K=c
   .subst z;rw[Q5 (d.mpr ⟨o,U⟩),Q4 Yo,Q5 ⟨o,Yo⟩];show(es++[])++_=_;rw[qA]
   .rw[Q4 (λy=>z (d.mp y).2)];by_cases l:c<K
    .rw[Q5 ⟨o,l⟩,Q5 ⟨o,Yo⟩]
    .rw[Q4 (λy=>l y.2),Q4 (λy=>by have:=y.2;omega)]
  .rw[Q4 (λy=>o (d.mp y).1),Q4 (λy=>o y.1),Q4 (λy=>o y.1)]
noncomputable def gy(rs:List Row)(i:Nat)(r:Row)(q:Str):List Wat:=if r.outof=some q then[((ar Row.into rs q).getD (ar Row.outof (rs.take i) q).length 0,"thing",q)]else[]
noncomputable def gD(rs:List Row)(i:Nat)(r:Row)(s:Str×Int):List Wat:=if r.into=some s.1/\s.2.toNat<=(ar Row.into (rs.take i) s.1).length then[(awaited rs.length (ar Row.outof rs s.1) ((ar Row.into (rs.take i) s.1).length-s.2.toNat),"room",s.1)]else[]
theorem GE(h:rs[i]?=some r)(s:Str×Int)(W:List (List Wat))(fed:∀q,r.outof=some q->(ar Row.outof (rs.take i) q).length<(ar Row.into rs q).length):(iw rs s W)[i]?=(W[i]?).map λes=>es++(gy rs i r s.1++gD rs i r s):=by
 unfold iw
 have pl:∀f:Row->Option Str,f r=some s.1->(ar f (rs.take i) s.1).length<(ar f rs s.1).length:=λf j=>by
  have:=(wN s.1 h (ar f (rs.take i) s.1).length).mpr ⟨j,U⟩;exact(qg.mp this).1
 rw[vP s.1 rs.length _ _ _ i ((ar Row.into (rs.take i) s.1).length-s.2.toNat) (r.into=some s.1/\s.2.toNat<=(ar Row.into (rs.take i) s.1).length) _ ?hr,u9 s.1 _ _ W i (ar Row.outof (rs.take i) s.1).length (r.outof=some s.1) _ ?ht,Option.map_map]
 case ht=>
  intro k hk;exact wQ s.1 h Yo
 case hr=>
  intro k hk;rw[Q3]at hk;have e:((ar Row.into rs s.1).drop s.2.toNat).getD k 0=(ar Row.into rs s.1).getD (s.2.toNat+k) 0:=by rw[qo,List.getElem?_drop,qo]
  rw[e,wQ s.1 h Yo];constructor
  .rintro⟨a,b⟩;exact⟨⟨a,Yo⟩,Yo⟩
  .rintro⟨⟨a,b⟩,c⟩;exact⟨a,Yo⟩
 congr 1
 funext es
 show(es++_)++_=es++(_++_);rw[qQ]
 congr 1
 congr 1
 .unfold gy;by_cases z:r.outof=some s.1
  .have g:=pl Row.outof z;have d:=fed _ z;rw[Q5 ⟨z,Yo⟩,Q5 z]
  .rw[Q4 (λy=>z y.1),Q4 z]
 .unfold gD;by_cases z:r.into=some s.1/\s.2.toNat<=(ar Row.into (rs.take i) s.1).length
  .have g:=pl Row.into z.1;have d:=z.2;rw[Q5 ⟨z,by rw[Q3];omega⟩,Q5 z]
  .rw[Q4 (λy=>z y.1),Q4 z]
theorem yE{rs:List Row}{ss:LF}{i:Nat}{r:Row}(h:rs[i]?=some r)(W:List (List Wat))(fed:∀q,r.outof=some q->(ar Row.outof (rs.take i) q).length<(ar Row.into rs q).length):∀j,j<=ss.length->(cR rs ss W j)[i]?=(W[i]?).map λes=>es++(ss.take j).flatMap λs=>gy rs i r s.1++gD rs i r s
 |0,_=>by simp[cR]
 |j+1,hj=>by
  have lt:j<ss.length:=Yo;rw[cR,GE h _ _ fed,yE h W fed j Yo,Option.map_map];have e:ss.getD j ("",0)=ss[j]:=by rw[qo,qd lt];rfl
  congr 1
  funext es
  show(es++_)++_=es++_;rw[e,qQ,qu,qd lt,qX];simp
theorem sH{c:Type}{g:Str×Int->List c}:∀{ss:LF}{q:Str}{n:Int},(ss.map (·.1)).Nodup->(q,n)∈ss->(∀s∈ss,s.1≠q->g s=[])->ss.flatMap g=g (q,n)
 |[],_,_,_,m,_=>by simp at m
 |s::ss,q,n,nd,m,hg=>by
  rw[qU,List.nodup_cons]at nd;rw[qI];rcases qw.mp m with e|m
  .subst e
   have:ss.flatMap g=[]:=by
    rw[List.flatMap_eq_nil_iff];intro b a;exact hg b (qp _ a) λy=>nd.1 (by rw[<- y];exact List.mem_map_of_mem (f:=(·.1)) a)
   rw[this,qA]
  .have ne:s.1≠q:=λy=>nd.1 (by rw[y];exact List.mem_map_of_mem (f:=(·.1)) m);rw[hg s qq ne,Qo];exact sH nd.2 m λb a=>hg b (qp _ a)
theorem yK{rs:List Row}{i:Nat}{r:Row}(h:rs[i]?=some r):∀n,i<n->n<=rs.length->(cG rs n)[i]?=some (eG (rs.take i) r)
 |0,l,_=>Yo
 |n+1,l,hn=>by
  have ln:=jX rs n Yo;rw[cG];by_cases z:i<n
  .rw[Q9 Yo];exact yK h n z Yo
  .have:i=n:=by omega
   subst this;rw[qO Yo,ln,Nat.sub_self,h]
   rfl
theorem GD(rs:List Row)(s:Str×Int)(W:List (List Wat)):(iw rs s W).length=W.length:=by
 have e:∀K,(ee s.1 (ar Row.into rs s.1) (ar Row.outof rs s.1) W K).length=W.length:=λK=>by
  induction K with
  |zero=>rfl
  |succ K a=>rw[ee,tG,a]
 have d:∀(b:List (List Wat))(c:LI) K,(dN s.1 rs.length c (ar Row.outof rs s.1) b K).length=b.length:=λb c K=>by
  induction K with
  |zero=>rfl
  |succ K a=>rw[dN,tG,a]
 unfold iw;rw[d,e]
theorem yD(rs:List Row)(ss:LF)(W:List (List Wat)):∀j,(cR rs ss W j).length=W.length
 |0=>rfl
 |j+1=>by rw[cR,GD,yD rs ss W j]
theorem nh(rs:LS)(t:Int)(ms:List (Str×Str)):∀i,i<=rs.length->(eh rs t ms i).map (·.1)=rs.take i
 |0,_=>rfl
 |i+1,h=>by
  rw[eh,qR,nh rs t ms i Yo,qu,qd Yo];show _++[rs.getD i _]=_;rw[qo,qd Yo]
  rfl
theorem Eu(i j:Int):0<=jK i j:=by
 unfold jK;split
 .omega
 .split
  .omega
  .have:=Qd (i / 4) (b:=if j > 1 then j else 1) (by split<;>omega);omega
theorem uo(rs:LS)(t:Int)(ms:List (Str×Str)):∀i,∀s∈eh rs t ms i,0<=s.2
 |0,s,h=>by simp[eh]at h
 |i+1,s,h=>by
  rw[eh,qi]at h;rcases h with h|h
  .exact uo rs t ms i s h
  .rw[qV.mp h];exact Eu _ _
theorem u5{k:Key}:∀(ps kvs:LN),k∉ps.map (·.1)->aI (ps.foldl (λkvs p=>bu kvs p.1 p.2) kvs) k=aI kvs k
 |[],_,_=>rfl
 |p::r,kvs,h=>by
  rw[qU,qw,not_or]at h;rw[QC,u5 r _ h.2,dL,Q4 h.1]
theorem u6{k:Key}{v:V}:∀(ps kvs:LN),(ps.map (·.1)).Nodup->(k,v)∈ps->aI (ps.foldl (λkvs p=>bu kvs p.1 p.2) kvs) k=some v
 |[],_,_,h=>by simp at h
 |p::r,kvs,nd,h=>by
  rw[qU,List.nodup_cons]at nd;rw[QC];rcases qw.mp h with e|h
  .subst e;rw[u5 r _ nd.1,dL,Q5 U]
  .exact u6 r _ nd.2 h
noncomputable def cL(ss:LF):LN:=ss.map λs=>(.inr s.1,.int s.2)
theorem An{ss:LF}{q:Str}{n:Int}(nd:(ss.map (·.1)).Nodup)(h:(q,n)∈ss):aI (cU (cL ss)) (.inr q)=some (.int n):=by
 refine u6 _ _ ?_ (List.mem_map.mpr ⟨(q,n),h,U⟩);unfold cL;rw[List.map_map];have:((λx:Key×V=>x.1) ∘ λs:Str×Int=>((Sum.inr s.1:Key),V.int s.2))=(λq:Str=>(Sum.inr q:Key)) ∘ (·.1):=U;rw[this,<- List.map_map];exact List.pairwise_map.mpr (List.Pairwise.imp (λh e=>h (Sum.inr.inj e)) nd)
noncomputable def i6:Option Str->PyData
 |none=>.none
 |some q=>.str q
noncomputable def fj(r:Row):PyData:=.tuple [.str r.kind,.tuple (r.owns.map PyData.str),.tuple (r.reads.map PyData.str),i6 r.into,i6 r.outof]
theorem wz(o:Option Str):Dt K H (gM o) (i6 o):=by cases o<;>constructor
theorem cH.dt{v:V}(h:cH H v r):Dt K H v (fj r):=by
 obtain⟨p,po,_,rfl,c,b,a⟩:=h;exact .tup (SqT.of c) (.cons (.str _) (.cons (.tup (SqT.of b) (n9 _)) (.cons (.tup (SqT.of a) (n9 _)) (.cons (wz _) (.cons (wz _) .nil)))))
theorem aU.dt{K:W.Frag}{H:Hp}:∀{vs:LV}{rs:List Row},aU H vs rs->dY K H vs (rs.map fj)
 |_,_,.nil=>.nil
 |_,_,.cons h r=>.cons h.dt (aU.dt r)
def jb(r:Row):Prop:=PyData.strOk r.kind=true/\(∀s∈r.owns,PyData.strOk s=true)/\(∀s∈r.reads,PyData.strOk s=true)/\(∀q,r.into=some q->PyData.strOk q=true)/\∀q,r.outof=some q->PyData.strOk q=true
theorem xx(o:Option Str)(h:∀q,o=some q->PyData.strOk q=true):PyData.canLay0 (i6 o)=true/\PyData.depth (i6 o)<=1:=by
 cases o with
 |none=>simp[i6,PyData.canLay0,PyData.depth]
 |some q=>simp[i6,PyData.canLay0,PyData.depth,h q U]
theorem xw:∀rs:List Row,(∀r∈rs,jb r)->PyData.canLayAll0 (rs.map fj)=true/\PyData.depthAll (rs.map fj)<=4
 |[],_=>by simp[PyData.canLayAll0,PyData.depthAll]
 |r::rs,h=>by
  obtain⟨a,b,c,d,e⟩:=h r qq;obtain⟨j,_⟩:=xw rs λx i=>h x (qp _ i);obtain⟨b1,b2⟩:=rT _ b;obtain⟨c1,c2⟩:=rT _ c;obtain⟨f,_⟩:=xx _ d;obtain⟨g,_⟩:=xx _ e;simp[fj,PyData.canLayAll0,PyData.canLay0,PyData.depthAll,PyData.depth,a,b1,c1,f,g,j];omega
theorem B3(h:∀r∈rs,jb r):SeqAt.shaped (.list (rs.map fj))=true:=by
 obtain⟨a,_⟩:=xw rs h;unfold SeqAt.shaped;simp[PyData.canLay0,PyData.depth,a];omega
theorem B2{ss:LF}(h:∀s∈ss,PyData.strOk s.1=true):SeqAt.shaped (.list (ss.map fG))=true:=by
 obtain⟨a,_⟩:=xu ss h;unfold SeqAt.shaped;simp[PyData.canLay0,PyData.depth,a];omega
theorem eA(l:LS):∀x∈srt l,x∈l:=by
 unfold srt;split
 .rename_i h;obtain⟨a,b,_⟩:=Classical.choose_spec h;exact λx c=>(b x).mp c
 .exact λx c=>by simp at c
theorem uz(l:LS):∀x∈eP l,x∈l:=by
 unfold eP;split
 .rename_i h;exact λx a=>(Classical.choose_spec h).1.mem_iff.mp a
 .exact λx a=>by simp at a
theorem BB{d:ae}(f:∀c∈cards [d],PyData.strOk c=true)(i:∀q x,d=.put q x\/d=.get q x->PyData.strOk q=true):jb (aP d):=by
 cases d with
 |set x a _ b=>
  refine⟨show PyData.strOk ("set":Str)=true by decide +kernel,λs e=>?_,λs e=>?_,λq h=>(nomatch h),λq h=>(nomatch h)⟩
  .rw[qV.mp e];exact f _ (by simp[cards,aj,ae.flat,ae.cards,ae.names])
  .have:=(List.mem_filter.mp (eA _ s e)).1;refine f _ ?_;rcases qi.mp this with h|h<;>simp[cards,aj,ae.flat,ae.cards,ae.names,h]
 |put q x=>
  refine⟨show PyData.strOk ("put":Str)=true by decide +kernel,λs e=>?_,λs e=>?_,λg h=>?_,λq h=>(nomatch h)⟩
  .rw[qV.mp e];exact f _ (by simp[cards,aj,ae.flat,ae.cards,ae.names,ae.others])
  .rw[qV.mp e];exact f _ (by simp[cards,aj,ae.flat,ae.cards,ae.names,ae.others])
  .cases h;exact i _ x (.inl U)
 |get q x=>
  refine⟨show PyData.strOk ("get":Str)=true by decide +kernel,λs e=>?_,λs e=>(nomatch e),λg h=>(nomatch h),λg h=>?_⟩
  .have:=uz _ s e;simp only[qw,qT,or_false]at this;rcases this with rfl|rfl
   .exact f _ (by simp[cards,aj,ae.flat,ae.cards,ae.names,ae.others])
   .exact f _ (by simp[cards,aj,ae.flat,ae.cards,ae.names,ae.others])
  .cases h;exact i _ x (.inr U)
 |give x=>
  refine⟨show PyData.strOk ("give":Str)=true by decide +kernel,λs e=>?_,λs e=>?_,λq h=>(nomatch h),λq h=>(nomatch h)⟩
  .rw[qV.mp e];exact f _ (by simp[cards,aj,ae.flat,ae.cards,ae.names,ae.others])
  .rw[qV.mp e];exact f _ (by simp[cards,aj,ae.flat,ae.cards,ae.names,ae.others])
 |cond x t o=>exact⟨show PyData.strOk ("if":Str)=true by decide +kernel,λs e=>f _ (eA _ s e),λs e=>(nomatch e),λq h=>(nomatch h),λq h=>(nomatch h)⟩
 |whl x b=>exact⟨show PyData.strOk ("while":Str)=true by decide +kernel,λs e=>f _ (eA _ s e),λs e=>(nomatch e),λq h=>(nomatch h),λq h=>(nomatch h)⟩
 |rep n b=>exact⟨show PyData.strOk ("repeat":Str)=true by decide +kernel,λs e=>f _ (eA _ s e),λs e=>(nomatch e),λq h=>(nomatch h),λq h=>(nomatch h)⟩
theorem sU{c1 c2:Int}{n1 n2:Nat}:∀s∈bn (cD c1 n1) (cD c2 n2),PyData.strOk s=true:=λs a=>by
 unfold bn at a;simp only[qi,List.mem_map,qV]at a;refine rH ?_;have l1:Low (">":Str):=by unfold Low;decide +kernel
 have l2:Low ("<":Str):=by unfold Low;decide +kernel
 rcases a with((a|⟨q,b,rfl⟩)|⟨q,b,rfl⟩)|rfl
 .exact jA _ _ s a
 .exact(jA _ _ q b).app l1
 .exact(jA _ _ q b).app l2
 .exact l1
theorem kS{d:ae}(h:(cards [d]).length<=4000):(aP d).owns.length<=4000/\(aP d).reads.length<=4000:=by
 have nm:∀v:Val,v.names.length<=1:=λv=>by cases v<;>simp[Val.names]
 cases d with
 |set x a _ b=>
  refine⟨by simp[aP],?_⟩;have c:=ku ((a.names++b.names).filter λy=>!decide (y=x));have e:=List.length_filter_le (λy=>!decide (y=x)) (a.names++b.names);rw[qc]at e;have f:=nm a;have g:=nm b;show(srt _).length<=4000;omega
 |put q x=>simp[aP]
 |get q x=>
  have c:=Ay [x,q++("<":Str)];refine⟨?_,by simp[aP]⟩;show(eP _).length<=4000;simp at c;omega
 |give x=>simp[aP]
 |cond x t o=>exact⟨qC (ku _) h,by simp[aP]⟩
 |whl x b=>exact⟨qC (ku _) h,by simp[aP]⟩
 |rep n b=>exact⟨qC (ku _) h,by simp[aP]⟩
theorem rq(f:Row->Option Str)(q:Str)(rs:List Row):(ar f rs q).length=(rs.filter λr=>decide (f r=some q)).length:=by
 have:∀n,((rs.zipIdx n).filterMap λp=>if f p.1=some q then some (p.2:Int)else none).length=(rs.filter λr=>decide (f r=some q)).length:=by
  induction rs with
  |nil=>intro n;rfl
  |cons r t a=>
   intro n;rw[List.zipIdx_cons,List.filterMap_cons,List.filter_cons];by_cases z:f r=some q
   .simp[z,a]
   .simp[z,a]
 exact this 0
theorem xZ{q:Str}(h:Fed rs)(hr:rs[i]?=some r)(a:r.outof=some q):(ar Row.outof (rs.take i) q).length<(ar Row.into rs q).length:=by
 have b:=h i r q hr a;unfold bal at b;have d:=rq Row.outof q (rs.take i);have c:=rq Row.into q (rs.take i)
 have sp:rs=rs.take i++r::rs.drop (i+1):=by
  rw[<- List.singleton_append,<- qQ,show rs.take i++[r]=rs.take (i+1)by rw[qu,hr];rfl,Qx]
 obtain⟨_,_,_,e⟩:=wL Row.into (rs.take i) r (rs.drop (i+1)) q;rw[<- sp]at e;rw[e,qc];omega
noncomputable def j0(kvs:LN)(q:Str):Int:=match aI kvs (.inr q)with
 |some (.int n)=>n
 |_=>0
theorem rL{q:Str}{n:Int}(h:aI kvs (.inr q)=some (.int n)):j0 kvs q=n:=by
 unfold j0;rw[h]
end Tr
namespace L2
open PySem
end L2
namespace L2
open PySem PySem.Spec PyProof.Rows
end L2
namespace Tr
open PySem PySem.Spec PyProof.Rows L2
end Tr
namespace L2
open PySem PySem.Spec PyProof.Rows
end L2
namespace L2
open PySem PySem.Spec PyProof.Rows PySem.W
section
variable {k:Nat}{C0:Addr}{ds:LL}{fx cx y m n:Str}{iy im inn:Nat}{p py cp pm pn pa hpos:Pos}{es:LR}{t:TA}
end
end L2
namespace Tr
open PySem PySem.Spec PyProof.Rows L2
end Tr
namespace L2
open PySem PySem.Spec PyProof.Rows PySem.W
end L2
namespace L2
open PySem PySem.F PySem.Spec PyProof.Rows PySem.W
set_option maxRecDepth 100000
section
variable {k:Nat}{p:Pos}{es:LR}{t:TA}
end
theorem CU:OpR X (compareOp .NotIn) (λx y H Q=>∃a kvs k,y=.ref a/\H a=some (.dK kvs)/\x=kV k/\Q (.bl (!(aI kvs k).isSome)) H):=by
 intro _ s Y H x y v u Q I e d h;obtain⟨a,kvs,k,rfl,hd,rfl,q⟩:=h;cases d;obtain⟨_,ne,vs,b,c⟩:=jR I.hok hd;refine wpAny_notIn_of (gj e) ne c.mapOf ⟨.bl _,H,I.tok _,?_,q⟩;rw[<- (b.val k).isSome_eq]
 rfl
section
variable {o:Expr}{es:LR}{to:TE}{t:TA}{T id:String}{r:V->LV->Hp->VK->Prop}
end
section
variable {κ:KeyKind}
def KOk(κ:KeyKind)(p:Keyed):Prop:=∃z,κ.keyOf p.1=some z
noncomputable def ky(κ:KeyKind)(p:Keyed):κ.α:=KK κ #[p] 0
theorem lX{p:Keyed}{z:κ.α}(h:κ.keyOf p.1=some z):ky κ p=z:=by
 unfold ky KK;show(κ.keyOf p.1).getD _=z;rw[h]
 rfl
theorem kg(d:κ.OneLt){x y:Keyed}{st:SortSt}{Q:Option Bool->SortSt->Prop}(hk:kindOf st=oneType')(e:KOk κ x)(c:KOk κ y)(h:Q (some (κ.blt (ky κ x) (ky κ y))) st):wpS (model prog w) A E s (lt' x y) Q st:=by
 obtain⟨p,a⟩:=e;obtain⟨q,b⟩:=c;rw[lX a,lX b]at h;rw[lt'_eq];refine wpS_bind (wpS_get ?_);rw[hk,keyLt'_oneType];exact wpS_bind (wpS_lift (wpAny_attempt (d prog w A _ s x.1 y.1 p q a b ⟨U,wpS_pure h⟩)))
theorem cK{a:Array Keyed}{p:Keyed}{st:SortSt}{Q:Keyed->SortSt->Prop}(e:a[i]?=some p)(h:Q p st):wpS (model prog w) A E s (elem' a i) Q st:=by
 rw[elem'_eq,e];exact wpS_pure h
noncomputable def eF:Bool->Keyed->Array Keyed->Nat->Nat->Nat->StateT SortSt Sem (Option Nat):=sortPriv% PySem.Builtin.gallop
noncomputable def byd(left:Bool)(key:Keyed)(arr:Array Keyed)(base i:Nat):StateT SortSt Sem (Option Bool):=do
 let x <- elem' arr (base+i)
 if left then lt' x key else return (<- lt' key x).map (!·)
theorem Fk(left:Bool)(d:Keyed)(c:Array Keyed)(base n a:Nat):eF left d c base n a=(do
 let mut la:=0
 let mut b:=1
 let mut lo:=0
 let mut hi:=0
 let some rt <- byd left d c base a|return none
 if rt then
  let e:=n-a
  for _ in[0:n] do
   if b >= e then break
   let some f <- byd left d c base (a+b)|return none
   if !f then break
   la:=b
   b:=2 * b+1
  lo:=a+la+1
  hi:=a+min b e
 else
  let e:=a+1
  for _ in[0:n] do
   if b >= e then break
   let some fo <- byd left d c base (a-b)|return none
   if fo then break
   la:=b
   b:=2 * b+1
  lo:=a+1-min b e
  hi:=a-la
 for _ in[0:n] do
  if lo >= hi then break
  let m:=lo+(hi-lo) / 2
  let some f <- byd left d c base m|return none
  if f then lo:=m+1 else hi:=m
 return some hi):=U
noncomputable def ma(left:Bool)(key:Keyed)(arr:Array Keyed)(base n lo hi:Nat):StateT SortSt Sem (Option Nat):=do
 let mut lo:=lo
 let mut hi:=hi
 for _ in[0:n] do
  if lo >= hi then break
  let m:=lo+(hi-lo) / 2
  let some F <- byd left key arr base m|return none
  if F then lo:=m+1 else hi:=m
 return some hi
section
variable {left:Bool}{key:Keyed}{arr:Array Keyed}{base hint:Nat}{st:SortSt}{Q:Option Nat->SortSt->Prop}
theorem tR{a:Nat}(b:Nat->Bool)
 (q:∀i,i<n->∀Q:Option Bool->SortSt->Prop,Q (some (b i)) st->wpS (model prog w) A E s (byd left key arr base i) Q st)
 (mono:∀i j,i<=j->j<n->b j=true->b i=true)
 (h:∀k,k<=n->(∀i,i<k->b i=true)->(∀i,k<=i->i<n->b i=false)->Q (some k) st) (u:lo<=a) (t:a<=n) (p:∀i,i<lo->b i=true) (r:∀i,a<=i->i<n->b i=false):wpS (model prog w) A E s (ma left key arr base n lo a) Q st:=by
 unfold ma;refine wpS_bind (wpS_mono (wpS_forRange (I:=λx c d=>d=st/\∃lo a,c=(none,lo,a)/\lo<=a/\a<=n/\a-lo<=n-x/\(∀i,i<lo->b i=true)/\∀i,a<=i->i<n->b i=false) (Q:=λc d=>d=st/\∃k,c=(none,k,k)/\k<=n/\(∀i,i<k->b i=true)/\∀i,k<=i->i<n->b i=false) ?_ ?_ ⟨U,lo,a,U,u,t,Yo,p,r⟩) ?_)
 .rintro x c d _ _ ⟨rfl,lo,a,rfl,m,f,o,g,l⟩;dsimp only;by_cases c1:lo >= a
  .rw[Q5 c1];obtain rfl:lo=a:=Yo;exact wpS_pure ⟨U,lo,U,f,g,l⟩
  .rw[Q4 c1];refine wpS_bind (q _ Yo _ ?_);dsimp only
   cases e:b (lo+(a-lo) / 2)with
   |true=>
    rw[Q5 U];exact wpS_pure ⟨U,_,_,U,Yo,f,Yo,λi _=>mono i _ Yo Yo e,l⟩
   |false=>
    rw[Q4 Yk];refine wpS_pure ⟨U,_,_,U,Yo,Yo,Yo,g,λi b1 b2=>?_⟩
    cases e2:b i with
    |false=>rfl
    |true=>rw[mono _ i b1 b2 e2]at e;cases e
 .rintro c d ⟨rfl,lo,a,rfl,m,f,o,g,l⟩;obtain rfl:lo=a:=Yo;exact⟨U,lo,U,f,g,l⟩
 .rintro c d ⟨rfl,k,rfl,m,f,o⟩;exact wpS_pure (h k m f o)
theorem zA(d:Nat->Bool)
 (p:∀i,i<n->∀Q:Option Bool->SortSt->Prop,Q (some (d i)) st->wpS (model prog w) A E s (byd left key arr base i) Q st)
 (mono:∀i j,i<=j->j<n->d j=true->d i=true) (v:hint<n)
 (h:∀k,k<=n->(∀i,i<k->d i=true)->(∀i,k<=i->i<n->d i=false)->Q (some k) st):wpS (model prog w) A E s (eF left key arr base n hint) Q st:=by
 have o:∀i j,i<=j->j<n->d i=false->d j=false:=λi j t u q=>by
  cases e:d j with
  |false=>rfl
  |true=>rw[mono i j t u e]at q;cases q
 rw[Fk];refine wpS_bind (p hint v _ ?_);dsimp only
 cases e:d hint with
 |true=>
  simp only[if_true];refine wpS_bind (wpS_mono (wpS_forRange (I:=λx c b=>b=st/\∃la a,c=(none,la,a)/\la<a/\x<a/\hint+la<n/\d (hint+la)=true) (Q:=λc b=>b=st/\∃la a,c=(none,la,a)/\la<a/\hint+la<n/\d (hint+la)=true/\(a >= n-hint\/d (hint+a)=false)) ?_ ?_ ⟨U,0,1,U,Yo,Yo,Yo,e⟩) ?_)
  .rintro x c b _ y ⟨rfl,la,a,rfl,l,r,g,f⟩;dsimp only;by_cases c1:a >= n-hint
   .rw[Q5 c1];exact wpS_pure ⟨U,la,a,U,l,g,f,.inl c1⟩
   .rw[Q4 c1];refine wpS_bind (p _ Yo _ ?_);dsimp only
    cases e2:d (hint+a)with
    |true=>
     rw[Q4 Yk];exact wpS_pure ⟨U,a,_,U,Yo,Yo,Yo,e2⟩
    |false=>
     rw[Q5 Yk];exact wpS_pure ⟨U,la,a,U,l,g,f,.inr e2⟩
  .rintro c b ⟨rfl,la,a,rfl,l,r,g,f⟩;exact⟨U,la,a,U,l,g,f,.inl Yo⟩
  .rintro c b ⟨rfl,la,a,rfl,l,g,f,m⟩;show wpS (model prog w) A E s (ma left key arr base n (hint+la+1) (hint+min a (n-hint))) Q _;refine tR d p mono h Yo Yo (λi q=>mono i _ Yo g f) λi b1 b2=>?_;rcases m with m|m
   .omega
   .rcases Nat.lt_or_ge a (n-hint)with c2|c2
    .exact o _ i Yo b2 m
    .omega
 |false=>
  simp only[Qn,if_false];refine wpS_bind (wpS_mono (wpS_forRange (I:=λx c b=>b=st/\∃la a,c=(none,la,a)/\la<a/\x<a/\la<=hint/\d (hint-la)=false) (Q:=λc b=>b=st/\∃la a,c=(none,la,a)/\la<a/\la<=hint/\d (hint-la)=false/\(a >= hint+1\/d (hint-a)=true)) ?_ ?_ ⟨U,0,1,U,Yo,Yo,Yo,e⟩) ?_)
  .rintro x c b _ y ⟨rfl,la,a,rfl,l,r,g,f⟩;dsimp only;by_cases c1:a >= hint+1
   .rw[Q5 c1];exact wpS_pure ⟨U,la,a,U,l,g,f,.inl c1⟩
   .rw[Q4 c1];refine wpS_bind (p _ Yo _ ?_);dsimp only
    cases e2:d (hint-a)with
    |true=>
     rw[Q5 U];exact wpS_pure ⟨U,la,a,U,l,g,f,.inr e2⟩
    |false=>
     rw[Q4 Yk];exact wpS_pure ⟨U,a,_,U,Yo,Yo,Yo,e2⟩
  .rintro c b ⟨rfl,la,a,rfl,l,r,g,f⟩;exact⟨U,la,a,U,l,g,f,.inl Yo⟩
  .rintro c b ⟨rfl,la,a,rfl,l,g,f,m⟩;show wpS (model prog w) A E s (ma left key arr base n (hint+1-min a (hint+1)) (hint-la)) Q _;refine tR d p mono h Yo Yo (λi q=>?_) λi b1 b2=>o _ i Yo b2 f;rcases m with m|m
   .omega
   .rcases Nat.lt_or_ge a (hint+1)with c2|c2
    .exact mono i _ Yo Yo m
    .omega
end
theorem zC(d:κ.OneLt){left:Bool}{a:Keyed}{b:Array Keyed}{base:Nat}{p:Keyed}{st:SortSt}{Q:Option Bool->SortSt->Prop}(hk:kindOf st=oneType')(f:KOk κ a)(e:b[base+i]?=some p)(c:KOk κ p)(h:Q (some (if left=true then κ.blt (ky κ p) (ky κ a)else !κ.blt (ky κ a) (ky κ p))) st):wpS (model prog w) A E s (byd left a b base i) Q st:=by
 unfold byd;refine wpS_bind (cK e ?_)
 cases left with
 |true=>exact kg d hk c f h
 |false=>exact wpS_bind (kg d hk f c (wpS_pure h))
end
section
variable {κ:KeyKind}
structure MS(r:Keyed->Keyed->Prop)(T o X X0:List Keyed):Prop where
 pm:(o++X++X0).Perm T
 sx:(o++X).Pairwise r
 sy:(o++X0).Pairwise r
section
variable {r:Keyed->Keyed->Prop}{T o X X0 Z:List Keyed}
theorem MS.left(h:MS r T o (Z++X) X0)(k:∀x∈Z,∀y∈X0,r x y):MS r T (o++Z) X X0:=by
 refine⟨?_,?_,?_⟩
 .have:=h.pm;simpa[qQ]using this
 .rw[qQ];exact h.sx
 .have a:=h.sx;have b:=h.sy;rw[<- qQ]at a;rw[List.pairwise_append]at a b ⊢;refine⟨a.1,b.2.1,λx d y c=>?_⟩;rcases qi.mp d with q|q
  .exact b.2.2 x q y c
  .exact k x q y c
theorem MS.right(h:MS r T o X (Z++X0))(k:∀y∈Z,∀x∈X,r y x):MS r T (o++Z) X X0:=by
 refine⟨?_,?_,?_⟩
 .refine List.Perm.trans ?_ h.pm;rw[qQ,qQ,qQ];refine List.Perm.append_left _ ?_;rw[<- qQ,<- qQ];exact List.perm_append_comm.append_right _
 .have a:=h.sx;have b:=h.sy;rw[<- qQ]at b;rw[List.pairwise_append]at a b ⊢;refine⟨b.1,a.2.1,λx d y c=>?_⟩;rcases qi.mp d with q|q
  .exact a.2.2 x q y c
  .exact k x q y c
 .rw[qQ];exact h.sy
def Mgd(r:Keyed->Keyed->Prop)(T out:List Keyed):Prop:=out.Perm T/\out.Pairwise r
theorem MS.endY(h:MS r T o X []):Mgd r T (o++X):=⟨by have:=h.pm;rwa [qA]at this,h.sx⟩
theorem MS.endX(h:MS r T o [] X0):Mgd r T (o++X0):=⟨by have:=h.pm;rwa [qA]at this,h.sy⟩
theorem MS.lastX{z:Keyed}(h:MS r T o [z] X0)(k:∀y∈X0,r y z):Mgd r T (o++X0++[z]):=by
 refine⟨?_,?_⟩
 .refine List.Perm.trans ?_ h.pm;rw[qQ,qQ];exact List.Perm.append_left _ List.perm_append_comm
 .have a:=h.sx;have b:=h.sy;rw[List.pairwise_append]at a b ⊢;refine⟨List.pairwise_append.mpr b,Qu _ _,λx d y c=>?_⟩;rcases qi.mp d with q|q
  .exact a.2.2 x q y c
  .obtain rfl:=qV.mp c;exact k x q
end
def kLe(κ:KeyKind)(p q:Keyed):Prop:=κ.kle (ky κ p) (ky κ q)
def kLt(κ:KeyKind)(p q:Keyed):Prop:=κ.klt (ky κ p) (ky κ q)
theorem kLt.le{p q:Keyed}(h:kLt κ p q):kLe κ p q:=KeyOrd.kle_of_klt h
noncomputable def rE:Array Keyed->Array Keyed->StateT SortSt Sem (Array Keyed):=sortPriv% PySem.Builtin.mergeLo
noncomputable def fI(g:Nat):StateT SortSt Sem Unit:=modify λs=>SortSt.mk' (kindOf s) (arrOf s) (pendingOf s) g (failedOf s)
noncomputable def fS(a b out:Array Keyed)(ia ib:Nat):Array Keyed:=out++a.extract ia a.size++b.extract ib b.size
noncomputable def iZ(a b out:Array Keyed)(ia ib:Nat):Array Keyed:=out++b.extract ib b.size++a.extract ia a.size
abbrev L6:Type:=Option (Array Keyed)×Array Keyed×Nat×Nat×Nat×Nat
abbrev L7:Type:=Option (Array Keyed)×Array Keyed×Nat×Nat×Nat×Nat×Nat
noncomputable def lo1(a b:Array Keyed)(mg:Nat)(c:L6):StateT SortSt Sem (ForInStep L6):=do
 let y <- elem' b c.2.2.2.1
 let x <- elem' a c.2.2.1
 let t <- lt' y x
 match t with
 |some F=>
  if F=true then do
   let y <- elem' b c.2.2.2.1
   if(c.2.2.2.1+1 == b.size)=true then pure (.done (some (fS a b (c.2.1.push y) c.2.2.1 (c.2.2.2.1+1)),c.2.1.push y,c.2.2.1,c.2.2.2.1+1,0,c.2.2.2.2.2+1))
   else if c.2.2.2.2.2+1 >= mg then pure (.done (none,c.2.1.push y,c.2.2.1,c.2.2.2.1+1,0,c.2.2.2.2.2+1))
   else pure (.yield (none,c.2.1.push y,c.2.2.1,c.2.2.2.1+1,0,c.2.2.2.2.2+1))
  else do
   let x <- elem' a c.2.2.1
   if(c.2.2.1+1+1 == a.size)=true then pure (.done (some (iZ a b (c.2.1.push x) (c.2.2.1+1) c.2.2.2.1),c.2.1.push x,c.2.2.1+1,c.2.2.2.1,c.2.2.2.2.1+1,0))
   else if c.2.2.2.2.1+1 >= mg then pure (.done (none,c.2.1.push x,c.2.2.1+1,c.2.2.2.1,c.2.2.2.2.1+1,0))
   else pure (.yield (none,c.2.1.push x,c.2.2.1+1,c.2.2.2.1,c.2.2.2.2.1+1,0))
 |_=>pure (.done (some (fS a b c.2.1 c.2.2.1 c.2.2.2.1),c.2.1,c.2.2.1,c.2.2.2.1,c.2.2.2.2.1,c.2.2.2.2.2))
noncomputable def lO(a b out:Array Keyed)(ia ib mg ac bc:Nat):StateT SortSt Sem (ForInStep L7):=do
 let x <- elem' a ia
 if(ia+1+1 == a.size)=true then pure (.done (some (iZ a b (out.push x) (ia+1) ib),out.push x,ia+1,ib,mg,ac,bc))
 else if(decide (ac<7) && decide (bc<7))=true then pure (.done (none,out.push x,ia+1,ib,mg,ac,bc))
 else pure (.yield (none,out.push x,ia+1,ib,mg,ac,bc))
noncomputable def lP(a b out:Array Keyed)(ia ib mg ac bc:Nat):StateT SortSt Sem (ForInStep L7):=do
 let y <- elem' b ib
 if(ib+1 == b.size)=true then pure (.done (some (fS a b (out.push y) ia (ib+1)),out.push y,ia,ib+1,mg,ac,bc))
 else do
  let x <- elem' a ia
  let t <- eF true x b (ib+1) (b.size-(ib+1)) 0
  match t with
  |some k=>
   if k > 0 then
    if(ib+1+k == b.size)=true then pure (.done (some (fS a b (out.push y++b.extract (ib+1) (ib+1+k)) ia (ib+1+k)),out.push y++b.extract (ib+1) (ib+1+k),ia,ib+1+k,mg,ac,k))
    else lO a b (out.push y++b.extract (ib+1) (ib+1+k)) ia (ib+1+k) mg ac k
   else lO a b (out.push y) ia (ib+1) mg ac k
  |_=>pure (.done (some (fS a b (out.push y) ia (ib+1)),out.push y,ia,ib+1,mg,ac,bc))
noncomputable def lo3(a b out:Array Keyed)(ia ib mg ac bc:Nat):StateT SortSt Sem (ForInStep L7):=do
 fI mg
 let y <- elem' b ib
 let t <- eF false y a ia (a.size-ia) 0
 match t with
 |some k=>
  if k > 0 then
   if(ia+k+1 == a.size)=true then pure (.done (some (iZ a b (out++a.extract ia (ia+k)) (ia+k) ib),out++a.extract ia (ia+k),ia+k,ib,mg,k,bc))
   else if(ia+k == a.size)=true then pure (.done (some (fS a b (out++a.extract ia (ia+k)) (ia+k) ib),out++a.extract ia (ia+k),ia+k,ib,mg,k,bc))
   else lP a b (out++a.extract ia (ia+k)) (ia+k) ib mg k bc
  else lP a b out ia ib mg k bc
 |_=>pure (.done (some (fS a b out ia ib),out,ia,ib,mg,ac,bc))
theorem E9(a b:Array Keyed):rE a b=(do
 rule "list.sort.merge-lo"
 let c:=a.size+b.size
 let fin (out:Array Keyed) (ia ib:Nat):=out++a.extract ia a.size++b.extract ib b.size
 let lst (out:Array Keyed) (ia ib:Nat):=out++b.extract ib b.size++a.extract ia a.size
 let mut out:Array Keyed:=#[<- elem' b 0]
 let mut ia:=0
 let mut ib:=1
 if ib == b.size then return fin out ia ib
 if ia+1 == a.size then return lst out ia ib
 let mut mg:=gallopOf (<- get)
 for _ in[0:c] do
  let mut ac:=0
  let mut bc:=0
  for _ in[0:c] do
   let some d <- lt' (<- elem' b ib) (<- elem' a ia)|return fin out ia ib
   if d then
    out:=out.push (<- elem' b ib);ib:=ib+1;bc:=bc+1;ac:=0
    if ib == b.size then return fin out ia ib
    if bc >= mg then break
   else
    out:=out.push (<- elem' a ia);ia:=ia+1;ac:=ac+1;bc:=0
    if ia+1 == a.size then return lst out ia ib
    if ac >= mg then break
  rule "list.sort.gallop"
  mg:=mg+1
  for _ in[0:c] do
   if mg > 1 then mg:=mg-1
   fI mg
   let some k <- eF false (<- elem' b ib) a ia (a.size-ia) 0|return fin out ia ib
   ac:=k
   if k > 0 then
    out:=out++a.extract ia (ia+k);ia:=ia+k
    if ia+1 == a.size then return lst out ia ib
    if ia == a.size then return fin out ia ib
   out:=out.push (<- elem' b ib);ib:=ib+1
   if ib == b.size then return fin out ia ib
   let some k <- eF true (<- elem' a ia) b ib (b.size-ib) 0|return fin out ia ib
   bc:=k
   if k > 0 then
    out:=out++b.extract ib (ib+k);ib:=ib+k
    if ib == b.size then return fin out ia ib
   out:=out.push (<- elem' a ia);ia:=ia+1
   if ia+1 == a.size then return lst out ia ib
   if ac<7 && bc<7 then break
  mg:=mg+1
  fI mg
 unsupported "internal:list.sort.merge-bound"):=U
noncomputable def pb(κ:KeyKind)(left:Bool)(key p:Keyed):Bool:=if left=true then κ.blt (ky κ p) (ky κ key)else !κ.blt (ky κ key) (ky κ p)
theorem CP{left:Bool}{a p q:Keyed}(h:kLe κ p q)(e:pb κ left a q=true):pb κ left a p=true:=by
 unfold pb at *
 cases left with
 |true=>exact KeyOrd.klt_of_kle_of_klt h e
 |false=>
  have e:(!κ.blt (ky κ a) (ky κ q))=true:=e;show(!κ.blt (ky κ a) (ky κ p))=true;have e:κ.blt (ky κ a) (ky κ q)=false:=by simpa using e
  have:κ.kle (ky κ p) (ky κ a):=KeyOrd.kle_trans h e;rw[show κ.blt (ky κ a) (ky κ p)=false from this]
  rfl
theorem iE(x:κ.OneLt){left:Bool}{d:Keyed}{a:Array Keyed}{base g:Nat}{st:SortSt}{Q:Option Nat->SortSt->Prop}(hk:kindOf st=oneType')(y:KOk κ d)(ok:∀p∈a.toList,KOk κ p)(hb:base+n<=a.size)(v:g<n)(so:((a.toList.drop base).take n).Pairwise (kLe κ))
 (h:∀k,k<=n->(∀p∈((a.toList.drop base).take n).take k,pb κ left d p=true)->(∀p∈((a.toList.drop base).take n).drop k,pb κ left d p=false)->Q (some k) st):wpS (model prog w) A E s (eF left d a base n g) Q st:=by
 have H:((a.toList.drop base).take n).length=n:=by rw[qN,Q3,qP];omega
 have m:∀i,i<n->a[base+i]?=((a.toList.drop base).take n)[i]?:=λi b=>by
  rw[List.getElem?_take_of_lt b,List.getElem?_drop,qW]
 have mem:∀p∈(a.toList.drop base).take n,p∈a.toList:=λp f=>List.mem_of_mem_drop (List.mem_of_mem_take f);generalize (a.toList.drop base).take n=L at H m so h mem;have get:∀i,i<n->∃p,L[i]?=some p/\p∈L:=λi b=>⟨L[i]' Yo,qd Yo,List.getElem_mem _⟩;refine zA (λi=>match L[i]? with|some p=>pb κ left d p|none=>false) (λi b _ t=>?_) (λi j G C e=>?_) v (λk B F z=>h k B (λp f=>?_) (λp f=>?_))
 .obtain⟨p,e,f⟩:=get i b;rw[e]at t;exact zC x hk y (by rwa[m i b]) (ok p (mem p f)) t
 .obtain⟨p,o,_⟩:=get i Yo;obtain⟨q,l,_⟩:=get j C;rw[l]at e;rw[o];rcases Nat.lt_or_eq_of_le G with c|rfl
  .refine CP ?_ e;rw[List.pairwise_iff_getElem]at so;have:=so i j Yo Yo c;obtain⟨_,D⟩:=qg.mp o;obtain⟨_,u⟩:=qg.mp l
   rwa [D,u]at this
  .rw[o]at l;cases l;exact e
 .obtain⟨i,b⟩:=List.getElem?_of_mem f;have r:=(qg.mp b).1;rw[qN]at r;rw[List.getElem?_take_of_lt Yo]at b;have:=F i Yo
  rwa [b]at this
 .obtain⟨i,b⟩:=List.getElem?_of_mem f;have r:=(qg.mp b).1;rw[Q3]at r;rw[List.getElem?_drop]at b;have:=z (k+i) Yo Yo
  rwa [b]at this
theorem drp{a:Array Keyed}(h:i<a.size):∃x,a[i]?=some x/\a.toList.drop i=x::a.toList.drop (i+1)/\x∈a.toList:=by
 have hl:i<a.toList.length:=by rwa[qP]
 exact⟨a.toList[i],by rw[<- qW];exact qd hl,List.drop_eq_getElem_cons hl,List.getElem_mem _⟩
theorem mj(a:Array Keyed)(i:Nat):(a.extract i a.size).toList=a.toList.drop i:=by
 rw[Array.toList_extract,List.extract_eq_take_drop,List.take_of_length_le (by rw[Q3,qP];omega)]
theorem y2(a:Array Keyed)(i k:Nat):(a.extract i (i+k)).toList=(a.toList.drop i).take k:=by
 rw[Array.toList_extract,List.extract_eq_take_drop,Nat.add_sub_cancel_left]
theorem FB(a b out:Array Keyed)(c d:Nat):(fS a b out c d).toList=out.toList++a.toList.drop c++b.toList.drop d:=by
 unfold fS;rw[Array.toList_append,Array.toList_append,mj,mj]
theorem Ek(a b out:Array Keyed)(c d:Nat):(iZ a b out c d).toList=out.toList++b.toList.drop d++a.toList.drop c:=by
 unfold iZ;rw[Array.toList_append,Array.toList_append,mj,mj]
structure jd(κ:KeyKind)(a b:Array Keyed):Prop where
 ka:∀p∈a.toList,KOk κ p
 kb:∀p∈b.toList,KOk κ p
 za:0<a.size
 zb:0<b.size
 la:∀y∈b.toList,∀z,a[a.size-1]?=some z->kLt κ y z
structure LoI(κ:KeyKind)(a b:Array Keyed)(n:Nat)(out:Array Keyed)(ia ib:Nat):Prop where
 ms:MS (kLe κ) (a.toList++b.toList) out.toList (a.toList.drop ia) (b.toList.drop ib)
 ha:ia+1<a.size
 hb:ib<b.size
 hn:n<=out.size
def bG(st F:SortSt):Prop:=kindOf F=kindOf st/\arrOf F=arrOf st/\pendingOf F=pendingOf st/\failedOf F=failedOf st
theorem bG.refl(st:SortSt):bG st st:=⟨U,U,U,U⟩
theorem bG.trans{x y z:SortSt}(h:bG x y)(k:bG y z):bG x z:=⟨k.1.trans h.1,k.2.1.trans h.2.1,k.2.2.1.trans h.2.2.1,k.2.2.2.trans h.2.2.2⟩
def cw(κ:KeyKind)(a b r:Array Keyed):Prop:=Mgd (kLe κ) (a.toList++b.toList) r.toList
section
variable {a b out:Array Keyed}{ia ib:Nat}
theorem rK{o X X0 T:List Keyed}(h:MS (kLe κ) T o X X0):X.Pairwise (kLe κ)/\X0.Pairwise (kLe κ):=⟨(List.pairwise_append.mp h.sx).2.1,(List.pairwise_append.mp h.sy).2.1⟩
theorem jH(h:MS (kLe κ) (a.toList++b.toList) out.toList (a.toList.drop ia) (b.toList.drop ib))(e:ia=a.size\/ib=b.size):cw κ a b (fS a b out ia ib):=by
 unfold cw;rw[FB];rcases e with rfl|rfl
 .have c:a.toList.drop a.size=[]:=List.drop_of_length_le (by rw[qP];exact qf _);rw[c]at h ⊢;rw[qA];exact h.endX
 .have c:b.toList.drop b.size=[]:=List.drop_of_length_le (by rw[qP];exact qf _);rw[c]at h ⊢;rw[qA];exact h.endY
theorem lN(pre:jd κ a b)(h:MS (kLe κ) (a.toList++b.toList) out.toList (a.toList.drop ia) (b.toList.drop ib))(e:ia+1=a.size):cw κ a b (iZ a b out ia ib):=by
 unfold cw;rw[Ek];obtain⟨z,d,c,_⟩:=drp (a:=a) (i:=ia) Yo;have f:a.toList.drop (ia+1)=[]:=List.drop_of_length_le (by rw[qP];omega);rw[f]at c;rw[c]at h ⊢;refine h.lastX λy g=>(pre.la y (List.mem_of_mem_drop g) z ?_).le;rwa[show a.size-1=ia by omega]
theorem rJ(h:MS (kLe κ) (a.toList++b.toList) out.toList (a.toList.drop ia) (b.toList.drop ib)){y:Keyed}(e:b.toList.drop ib=y::b.toList.drop (ib+1))(le:∀x∈a.toList.drop ia,kLe κ y x):MS (kLe κ) (a.toList++b.toList) (out.push y).toList (a.toList.drop ia) (b.toList.drop (ib+1)):=by
 rw[e]at h;rw[Array.toList_push];exact MS.right (Z:=[y]) h λ_ c x d=>by obtain rfl:=qV.mp c;exact le x d
theorem xi(h:MS (kLe κ) (a.toList++b.toList) out.toList (a.toList.drop ia) (b.toList.drop ib)){x:Keyed}(d:a.toList.drop ia=x::a.toList.drop (ia+1))(le:∀y∈b.toList.drop ib,kLe κ x y):MS (kLe κ) (a.toList++b.toList) (out.push x).toList (a.toList.drop (ia+1)) (b.toList.drop ib):=by
 rw[d]at h;rw[Array.toList_push];exact MS.left (Z:=[x]) h λ_ c y e=>by obtain rfl:=qV.mp c;exact le y e
theorem jO{x:Keyed}{X:List Keyed}(h:(x::X).Pairwise (kLe κ)):∀z∈x::X,kLe κ x z:=λz a=>by
 rcases qw.mp a with rfl|a
 .exact KeyOrd.kle_refl _
 .exact(List.pairwise_cons.mp h).1 z a
theorem zu(v:κ.OneLt){st:SortSt}(hk:kindOf st=oneType')(pre:jd κ a b){mg:Nat}(h:LoI κ a b n out ia ib){R:ForInStep L6->SortSt->Prop}
 (m:∀r c,cw κ a b r->R (.done (some r,c)) st) (k:∀out ia ib ac bc,LoI κ a b (n+1) out ia ib->R (.done (none,out,ia,ib,ac,bc)) st) (l:∀out ia ib ac bc,LoI κ a b (n+1) out ia ib->R (.yield (none,out,ia,ib,ac,bc)) st):
 wpS (model prog w) A E s (lo1 a b mg (none,out,ia,ib,ac,bc)) R st:=by
 obtain⟨y,q,o,u⟩:=drp h.hb;obtain⟨x,ex,p,t⟩:=drp (a:=a) (i:=ia) (by have:=h.ha;omega);obtain⟨sx,sy⟩:=rK h.ms;unfold lo1;refine wpS_bind (cK q (wpS_bind (cK ex (wpS_bind (kg v hk (pre.kb y u) (pre.ka x t) ?_)))));dsimp only;have B:=h.hn
 cases e:κ.blt (ky κ y) (ky κ x)with
 |true=>
  rw[Q5 U];refine wpS_bind (cK q ?_)
  have f:=rJ h.ms o λz d=>by
   rw[p]at d sx;exact KeyOrd.kle_trans (KeyOrd.kle_of_klt e) (jO sx z d)
  have g:n+1<=(out.push y).size:=by rw[Array.size_push];omega
  by_cases c1:ib+1=b.size
  .rw[Q5 (by simpa using c1)];exact wpS_pure (m _ _ (jH f (.inr c1)))
  .rw[Q4 (by simpa using c1)];have j:LoI κ a b (n+1) (out.push y) ia (ib+1):=⟨f,h.ha,by have:=h.hb;omega,g⟩;by_cases c2:bc+1 >= mg
   .rw[Q5 c2];exact wpS_pure (k _ _ _ _ _ j)
   .rw[Q4 c2];exact wpS_pure (l _ _ _ _ _ j)
 |false=>
  rw[Q4 Yk];refine wpS_bind (cK ex ?_)
  have f:=xi h.ms p λz d=>by
   rw[o]at d sy;exact KeyOrd.kle_trans (show κ.kle (ky κ x) (ky κ y)from e) (jO sy z d)
  have g:n+1<=(out.push x).size:=by rw[Array.size_push];omega
  by_cases c1:ia+1+1=a.size
  .rw[Q5 (by simpa using c1)];exact wpS_pure (m _ _ (lN pre f c1))
  .rw[Q4 (by simpa using c1)];have j:LoI κ a b (n+1) (out.push x) (ia+1) ib:=⟨f,by have:=h.ha;omega,h.hb,g⟩;by_cases c2:ac+1 >= mg
   .rw[Q5 c2];exact wpS_pure (k _ _ _ _ _ j)
   .rw[Q4 c2];exact wpS_pure (l _ _ _ _ _ j)
end
end
section
variable {κ:KeyKind}
section
variable {a b out:Array Keyed}{ia ib:Nat}
theorem tL{st:SortSt}(pre:jd κ a b){mg:Nat}(ms:MS (kLe κ) (a.toList++b.toList) out.toList (a.toList.drop ia) (b.toList.drop ib))(ha:ia+1<a.size)(hb:ib<b.size)(hn:n<=out.size){x:Keyed}(ex:a[ia]?=some x)(le:∀y∈b.toList.drop ib,kLe κ x y){R:ForInStep L7->SortSt->Prop}
 (l:∀r c,cw κ a b r->R (.done (some r,c)) st) (h:∀out ia ib mg ac bc,LoI κ a b n out ia ib->R (.done (none,out,ia,ib,mg,ac,bc)) st) (k:∀out ia ib mg ac bc,LoI κ a b n out ia ib->R (.yield (none,out,ia,ib,mg,ac,bc)) st):
 wpS (model prog w) A E s (lO a b out ia ib mg ac bc) R st:=by
 obtain⟨_,d,j,_⟩:=drp (a:=a) (i:=ia) Yo;rw[ex]at d;obtain rfl:=qM d;unfold lO;refine wpS_bind (cK ex ?_);have e:=xi ms j le;have f:n<=(out.push x).size:=by rw[Array.size_push];omega
 by_cases c1:ia+1+1=a.size
 .rw[Q5 (by simpa using c1)];exact wpS_pure (l _ _ (lN pre e c1))
 .rw[Q4 (by simpa using c1)];have g:LoI κ a b n (out.push x) (ia+1) ib:=⟨e,Yo,hb,f⟩;by_cases c2:(decide (ac<7) && decide (bc<7))=true
  .rw[Q5 c2];exact wpS_pure (h _ _ _ _ _ _ g)
  .rw[Q4 c2];exact wpS_pure (k _ _ _ _ _ _ g)
theorem kG(a:Array Keyed)(i:Nat):(a.toList.drop i).take (a.size-i)=a.toList.drop i:=List.take_of_length_le (by rw[Q3,qP];omega)
theorem tM(F:κ.OneLt){st:SortSt}(hk:kindOf st=oneType')(pre:jd κ a b){mg:Nat}(ms:MS (kLe κ) (a.toList++b.toList) out.toList (a.toList.drop ia) (b.toList.drop ib))(ha:ia+1<a.size)(hb:ib<b.size)(hn:n<=out.size){y:Keyed}(B:b[ib]?=some y)(lt:∀x∈a.toList.drop ia,kLt κ y x){R:ForInStep L7->SortSt->Prop}
 (f:∀r c,cw κ a b r->R (.done (some r,c)) st) (o:∀out ia ib mg ac bc,LoI κ a b n out ia ib->R (.done (none,out,ia,ib,mg,ac,bc)) st) (p:∀out ia ib mg ac bc,LoI κ a b n out ia ib->R (.yield (none,out,ia,ib,mg,ac,bc)) st):
 wpS (model prog w) A E s (lP a b out ia ib mg ac bc) R st:=by
 obtain⟨d,j,C,_⟩:=drp hb;rw[B]at j;obtain rfl:=qM j;obtain⟨x,ex,G,H⟩:=drp (a:=a) (i:=ia) Yo;unfold lP;refine wpS_bind (cK B ?_);have g:=rJ ms C λz D=>(lt z D).le;have t:n<=(out.push y).size:=by rw[Array.size_push];omega
 obtain⟨sx,sy⟩:=rK g;by_cases c1:ib+1=b.size
 .rw[Q5 (by simpa using c1)];exact wpS_pure (f _ _ (jH g (.inr c1)))
 .rw[Q4 (by simpa using c1)];refine wpS_bind (cK ex (wpS_bind (iE F hk (pre.ka x H) pre.kb Yo Yo (by rwa[kG]) λk _ v m=>?_)));rw[kG]at v m;dsimp only;have q:(b.toList.drop (ib+1)).drop k=b.toList.drop (ib+1+k):=by rw[List.drop_drop]
  rw[q]at m;have l:∀d∈b.toList.drop (ib+1+k),kLe κ x d:=λd e=>m d e
  have u:MS (kLe κ) (a.toList++b.toList) (out.push y++b.extract (ib+1) (ib+1+k)).toList (a.toList.drop ia) (b.toList.drop (ib+1+k)):=by
   rw[Array.toList_append,y2];refine MS.right (Z:=(b.toList.drop (ib+1)).take k) (by rwa[<- q,Qx]) λd e I h=>?_;have l1:kLt κ d x:=v d e;rw[G]at h sx;exact KeyOrd.kle_trans l1.le (jO sx I h)
  by_cases c2:k > 0
  .rw[Q5 c2];by_cases c3:ib+1+k=b.size
   .rw[Q5 (by simpa using c3)];exact wpS_pure (f _ _ (jH u (.inr c3)))
   .rw[Q4 (by simpa using c3)];exact tL pre u ha Yo (by rw[Array.size_append];omega) ex l f o p
  .rw[Q4 c2];obtain rfl:k=0:=Yo;exact tL pre g ha Yo t ex l f o p
theorem tN(q:κ.OneLt){st:SortSt}(hk:kindOf st=oneType')(pre:jd κ a b){mg:Nat}(h:LoI κ a b n out ia ib){R:ForInStep L7->SortSt->Prop}
 (f:∀r c d,bG st d->cw κ a b r->R (.done (some r,c)) d) (z:∀out ia ib mg ac bc d,bG st d->LoI κ a b n out ia ib->R (.done (none,out,ia,ib,mg,ac,bc)) d) (C:∀out ia ib mg ac bc d,bG st d->LoI κ a b n out ia ib->R (.yield (none,out,ia,ib,mg,ac,bc)) d):
 wpS (model prog w) A E s (lo3 a b out ia ib mg ac bc) R st:=by
 obtain⟨y,v,G,J⟩:=drp h.hb;obtain⟨sx,sy⟩:=rK h.ms;have ha:=h.ha;unfold lo3 fI;refine wpS_bind (wpS_modify ?_);have ss:bG st (SortSt.mk' (kindOf st) (arrOf st) (pendingOf st) mg (failedOf st)):=⟨U,U,U,U⟩;have e:kindOf (SortSt.mk' (kindOf st) (arrOf st) (pendingOf st) mg (failedOf st))=oneType':=hk;generalize SortSt.mk' (kindOf st) (arrOf st) (pendingOf st) mg (failedOf st)=st2 at ss e ⊢;refine wpS_bind (cK v (wpS_bind (iE q e (pre.kb y J) pre.ka Yo Yo (by rwa[kG]) λk _ F t=>?_)));rw[kG]at F t;dsimp only;have D:(a.toList.drop ia).drop k=a.toList.drop (ia+k):=by rw[List.drop_drop]
 rw[D]at t
 have m:∀x∈a.toList.drop (ia+k),kLt κ y x:=λx I=>by
  have:=t x I;have this:(!κ.blt (ky κ y) (ky κ x))=false:=this;show κ.blt (ky κ y) (ky κ x)=true;simpa using this
 have u:MS (kLe κ) (a.toList++b.toList) (out++a.extract ia (ia+k)).toList (a.toList.drop (ia+k)) (b.toList.drop ib):=by
  rw[Array.toList_append,y2];refine MS.left (Z:=(a.toList.drop ia).take k) (by rw[<- D,Qx];exact h.ms) λl B H p=>?_;have l1:(!κ.blt (ky κ y) (ky κ l))=true:=F l B;have l1:κ.blt (ky κ y) (ky κ l)=false:=by simpa using l1
  rw[G]at p sy;exact KeyOrd.kle_trans (show κ.kle (ky κ l) (ky κ y)from l1) (jO sy H p)
 by_cases c2:k > 0
 .rw[Q5 c2];by_cases c3:ia+k+1=a.size
  .rw[Q5 (by simpa using c3)];exact wpS_pure (f _ _ _ ss (lN pre u c3))
  .rw[Q4 (by simpa using c3)];by_cases c4:ia+k=a.size
   .rw[Q5 (by simpa using c4)];exact wpS_pure (f _ _ _ ss (jH u (.inl c4)))
   .rw[Q4 (by simpa using c4)];exact tM q e pre u Yo h.hb (by have:=h.hn;rw[Array.size_append];omega) v m (λr c=>f r c _ ss) (λo i j g x y=>z o i j g x y _ ss) (λo i j g x y=>C o i j g x y _ ss)
 .rw[Q4 c2];obtain rfl:k=0:=Yo;exact tM q e pre h.ms ha h.hb h.hn v m (λr c=>f r c _ ss) (λo i j g x y=>z o i j g x y _ ss) (λo i j g x y=>C o i j g x y _ ss)
theorem LoI.less{m:Nat}(h:LoI κ a b m out ia ib)(k:n<=m):LoI κ a b n out ia ib:=⟨h.ms,h.ha,h.hb,qC k h.hn⟩
theorem LoI.room(h:LoI κ a b n out ia ib):n<a.size+b.size:=by
 have l:=h.ms.pm.length_eq;simp only[qc,Q3,qP]at l;have:=h.ha;have:=h.hb;have:=h.hn;omega
theorem zn(F:κ.OneLt){st:SortSt}(hk:kindOf st=oneType')(pre:jd κ a b)(sa:a.toList.Pairwise (kLe κ))(M:b.toList.Pairwise (kLe κ))(K:∀y,b[0]?=some y->∀x∈a.toList,kLe κ y x){Q:Array Keyed->SortSt->Prop}(q:∀r j,bG st j->cw κ a b r->Q r j):wpS (model prog w) A E s (rE a b) Q st:=by
 rw[E9];refine wpS_bind (wpS_lift (wpAny_rule ⟨U,?_⟩));dsimp only;obtain⟨y,G,J,_⟩:=drp pre.zb;have za:=pre.za;have zb:=pre.zb;refine wpS_bind (cK G ?_);have P:MS (kLe κ) (a.toList++b.toList) (#[]:Array Keyed).toList (a.toList.drop 0) (b.toList.drop 0):=⟨List.Perm.refl _,sa,M⟩;have B:=rJ P J (K y G);have B:MS (kLe κ) (a.toList++b.toList) (#[y]:Array Keyed).toList (a.toList.drop 0) (b.toList.drop 1):=B;by_cases c1:1=b.size
 .rw[Q5 (by simpa using c1)];exact wpS_pure (q _ _ (bG.refl _) (jH B (.inr c1)))
 .rw[Q4 (by simpa using c1)];by_cases c2:0+1=a.size
  .rw[Q5 (by simpa using c2)];exact wpS_pure (q _ _ (bG.refl _) (lN pre B c2))
  .rw[Q4 (by simpa using c2)];refine wpS_bind (wpS_get ?_);have O:LoI κ a b 1 #[y] 0 1:=⟨B,Yo,Yo,qf _⟩;refine wpS_bind (wpS_mono (wpS_forRange (I:=λx c j=>bG st j/\∃out m l mg,c=(none,out,m,l,mg)/\LoI κ a b (x+1) out m l) (Q:=λc j=>bG st j/\∃r d,c=(some r,d)/\cw κ a b r) ?_ ?_ ⟨bG.refl _,_,_,_,_,U,O⟩) ?_)
   .rintro x c j _ _ ⟨ss,out,m,l,mg,rfl,I⟩;have D:kindOf j=oneType':=ss.1.trans hk;refine wpS_bind (wpS_mono (wpS_forRange (I:=λi c n=>n=j/\∃out m l f e,c=(none,out,m,l,f,e)/\LoI κ a b (x+1+i) out m l) (Q:=λc n=>n=j/\((∃r d,c=(some r,d)/\cw κ a b r)\/∃out m l f e,c=(none,out,m,l,f,e)/\LoI κ a b (x+2) out m l)) ?_ ?_ ⟨U,_,_,_,_,_,U,I⟩) ?_)
    .rintro i c n _ H ⟨rfl,o,p,k,f,e,rfl,I⟩;exact zu F D pre I (λr c h=>⟨U,.inl ⟨r,c,U,h⟩⟩) (λo p k f e h=>⟨U,.inr ⟨o,p,k,f,e,U,h.less Yo⟩⟩) (λo p k f e h=>⟨U,o,p,k,f,e,U,h.less Yo⟩)
    .rintro c n ⟨rfl,o,p,k,f,e,rfl,I⟩;exact⟨U,.inr ⟨o,p,k,f,e,U,I.less Yo⟩⟩
    .rintro c n ⟨rfl,⟨r,d,rfl,h⟩|⟨o,p,k,f,e,rfl,N⟩⟩
     .exact wpS_pure ⟨ss,r,_,U,h⟩
     .refine wpS_bind (wpS_lift (wpAny_rule ⟨U,?_⟩));refine wpS_bind (wpS_mono (wpS_forRange (I:=λi c u=>bG n u/\∃out m l mg f e,c=(none,out,m,l,mg,f,e)/\LoI κ a b (x+2) out m l) (Q:=λc u=>bG n u/\((∃r d,c=(some r,d)/\cw κ a b r)\/∃out m l mg f e,c=(none,out,m,l,mg,f,e)/\LoI κ a b (x+2) out m l)) ?_ ?_ ⟨bG.refl _,_,_,_,_,_,_,U,N⟩) ?_)
      .rintro i c u _ H ⟨t,o,p,k,g,f,e,rfl,I⟩;have C:kindOf u=oneType':=t.1.trans D;dsimp only;by_cases cg:g > 1
       .rw[Q5 cg];exact tN F C pre I (λr c z v h=>⟨t.trans v,.inl ⟨r,c,U,h⟩⟩) (λo p k g f e z v h=>⟨t.trans v,.inr ⟨o,p,k,g,f,e,U,h⟩⟩) (λo p k g f e z v h=>⟨t.trans v,o,p,k,g,f,e,U,h⟩)
       .rw[Q4 cg];exact tN F C pre I (λr c z v h=>⟨t.trans v,.inl ⟨r,c,U,h⟩⟩) (λo p k g f e z v h=>⟨t.trans v,.inr ⟨o,p,k,g,f,e,U,h⟩⟩) (λo p k g f e z v h=>⟨t.trans v,o,p,k,g,f,e,U,h⟩)
      .rintro c u ⟨t,o,p,k,g,f,e,rfl,I⟩;exact⟨t,.inr ⟨o,p,k,g,f,e,U,I⟩⟩
      .rintro c u ⟨t,⟨r,d,rfl,h⟩|⟨o,p,k,g,f,e,rfl,L⟩⟩
       .exact wpS_pure ⟨ss.trans t,r,_,U,h⟩
       .dsimp only;unfold fI;exact wpS_bind (wpS_modify (wpS_pure ⟨(ss.trans t).trans ⟨U,U,U,U⟩,_,_,_,_,U,L⟩))
   .rintro c j ⟨ss,out,m,l,mg,rfl,I⟩;have:=I.room;omega
   .rintro c j ⟨ss,r,d,rfl,h⟩;exact wpS_pure (q r j ss h)
end
end
section
variable {κ:KeyKind}
theorem MS.symm{r:Keyed->Keyed->Prop}{T o X X0:List Keyed}(h:MS r T o X X0):MS r T o X0 X:=⟨by
 refine List.Perm.trans ?_ h.pm;rw[qQ,qQ]
 exact List.Perm.append_left _ List.perm_append_comm,h.sy,h.sx⟩
def gLe(κ:KeyKind)(p q:Keyed):Prop:=kLe κ q p
theorem Mgd.rev{T l:List Keyed}(h:Mgd (gLe κ) T l):Mgd (kLe κ) T l.reverse:=⟨(List.reverse_perm _).trans h.1,List.pairwise_reverse.mpr h.2⟩
noncomputable def rF:Array Keyed->Array Keyed->StateT SortSt Sem (Array Keyed):=sortPriv% PySem.Builtin.mergeHi
noncomputable def fR(a b out:Array Keyed)(na nb:Nat):Array Keyed:=a.extract 0 na++b.extract 0 nb++out.reverse
noncomputable def j4(a b out:Array Keyed)(na nb:Nat):Array Keyed:=b.extract 0 nb++a.extract 0 na++out.reverse
abbrev H6:Type:=Option (Array Keyed)×Nat×Nat×Array Keyed×Nat×Nat
abbrev H7:Type:=Option (Array Keyed)×Nat×Nat×Array Keyed×Nat×Nat×Nat
noncomputable def hi1(a b:Array Keyed)(mg:Nat)(na nb:Nat)(out:Array Keyed)(ac bc:Nat):StateT SortSt Sem (ForInStep H6):=do
 let y <- elem' b (nb-1)
 let x <- elem' a (na-1)
 let t <- lt' y x
 match t with
 |some F=>
  if F=true then do
   let x <- elem' a (na-1)
   if(na-1 == 0)=true then pure (.done (some (fR a b (out.push x) (na-1) nb),na-1,nb,out.push x,ac+1,0))
   else if ac+1 >= mg then pure (.done (none,na-1,nb,out.push x,ac+1,0))
   else pure (.yield (none,na-1,nb,out.push x,ac+1,0))
  else do
   let y <- elem' b (nb-1)
   if(nb-1 == 1)=true then pure (.done (some (j4 a b (out.push y) na (nb-1)),na,nb-1,out.push y,0,bc+1))
   else if bc+1 >= mg then pure (.done (none,na,nb-1,out.push y,0,bc+1))
   else pure (.yield (none,na,nb-1,out.push y,0,bc+1))
 |_=>pure (.done (some (fR a b out na nb),na,nb,out,ac,bc))
noncomputable def m8(a b:Array Keyed)(na nb:Nat)(out:Array Keyed)(mg ac bc:Nat):StateT SortSt Sem (ForInStep H7):=do
 let x <- elem' a (na-1)
 if(na-1 == 0)=true then pure (.done (some (fR a b (out.push x) (na-1) nb),na-1,nb,out.push x,mg,ac,bc))
 else if(decide (ac<7) && decide (bc<7))=true then pure (.done (none,na-1,nb,out.push x,mg,ac,bc))
 else pure (.yield (none,na-1,nb,out.push x,mg,ac,bc))
noncomputable def m9(a b:Array Keyed)(na nb:Nat)(out:Array Keyed)(mg ac bc:Nat):StateT SortSt Sem (ForInStep H7):=do
 let y <- elem' b (nb-1)
 if(nb-1 == 1)=true then pure (.done (some (j4 a b (out.push y) na (nb-1)),na,nb-1,out.push y,mg,ac,bc))
 else do
  let x <- elem' a (na-1)
  let t <- eF true x b 0 (nb-1) (nb-1-1)
  match t with
  |some k=>
   if nb-1-k > 0 then
    if(k == 1)=true then pure (.done (some (j4 a b (out.push y++(b.extract k (nb-1)).reverse) na k),na,k,out.push y++(b.extract k (nb-1)).reverse,mg,ac,nb-1-k))
    else if(k == 0)=true then pure (.done (some (fR a b (out.push y++(b.extract k (nb-1)).reverse) na k),na,k,out.push y++(b.extract k (nb-1)).reverse,mg,ac,nb-1-k))
    else m8 a b na k (out.push y++(b.extract k (nb-1)).reverse) mg ac (nb-1-k)
   else m8 a b na (nb-1) (out.push y) mg ac (nb-1-k)
  |_=>pure (.done (some (fR a b (out.push y) na (nb-1)),na,nb-1,out.push y,mg,ac,bc))
noncomputable def hi3(a b:Array Keyed)(na nb:Nat)(out:Array Keyed)(mg ac bc:Nat):StateT SortSt Sem (ForInStep H7):=do
 fI mg
 let y <- elem' b (nb-1)
 let t <- eF false y a 0 na (na-1)
 match t with
 |some k=>
  if na-k > 0 then
   if(k == 0)=true then pure (.done (some (fR a b (out++(a.extract k na).reverse) k nb),k,nb,out++(a.extract k na).reverse,mg,na-k,bc))
   else m9 a b k nb (out++(a.extract k na).reverse) mg (na-k) bc
  else m9 a b na nb out mg (na-k) bc
 |_=>pure (.done (some (fR a b out na nb),na,nb,out,mg,ac,bc))
theorem Ea(a b:Array Keyed):rF a b=(do
 rule "list.sort.merge-hi"
 let d:=a.size+b.size
 let fin (out:Array Keyed) (na nb:Nat):=a.extract 0 na++b.extract 0 nb++out.reverse
 let c (out:Array Keyed) (na nb:Nat):=b.extract 0 nb++a.extract 0 na++out.reverse
 let mut na:=a.size-1
 let mut nb:=b.size
 let mut out:Array Keyed:=#[<- elem' a na]
 if na == 0 then return fin out na nb
 if nb == 1 then return c out na nb
 let mut mg:=gallopOf (<- get)
 for _ in[0:d] do
  let mut ac:=0
  let mut bc:=0
  for _ in[0:d] do
   let some e <- lt' (<- elem' b (nb-1)) (<- elem' a (na-1))|return fin out na nb
   if e then
    na:=na-1;out:=out.push (<- elem' a na);ac:=ac+1;bc:=0
    if na == 0 then return fin out na nb
    if ac >= mg then break
   else
    nb:=nb-1;out:=out.push (<- elem' b nb);bc:=bc+1;ac:=0
    if nb == 1 then return c out na nb
    if bc >= mg then break
  rule "list.sort.gallop"
  mg:=mg+1
  for _ in[0:d] do
   if mg > 1 then mg:=mg-1
   fI mg
   let some at_ <- eF false (<- elem' b (nb-1)) a 0 na (na-1)|return fin out na nb
   let k:=na-at_
   ac:=k
   if k > 0 then
    out:=out++(a.extract at_ na).reverse;na:=at_
    if na == 0 then return fin out na nb
   nb:=nb-1;out:=out.push (<- elem' b nb)
   if nb == 1 then return c out na nb
   let some at_ <- eF true (<- elem' a (na-1)) b 0 nb (nb-1)|return fin out na nb
   let k:=nb-at_
   bc:=k
   if k > 0 then
    out:=out++(b.extract at_ nb).reverse;nb:=at_
    if nb == 1 then return c out na nb
    if nb == 0 then return fin out na nb
   na:=na-1;out:=out.push (<- elem' a na)
   if na == 0 then return fin out na nb
   if ac<7 && bc<7 then break
  mg:=mg+1
  fI mg
 unsupported "internal:list.sort.merge-bound"):=U
theorem tkp{a:Array Keyed}(h0:0<i)(h:i<=a.size):∃x,a[i-1]?=some x/\(a.toList.take i).reverse=x::(a.toList.take (i-1)).reverse/\x∈a.toList:=by
 have hl:i-1<a.toList.length:=by rw[qP];omega
 refine⟨a.toList[i-1],by rw[<- qW];exact qd hl,?_,List.getElem_mem _⟩
 have e:a.toList.take i=a.toList.take (i-1)++[a.toList[i-1]]:=by
  have:=qu (l:=a.toList) (i:=i-1);rw[show i-1+1=i by omega,qd hl]at this;exact this
 rw[e,List.reverse_append]
 rfl
theorem mq(a:Array Keyed)(k:Nat):(a.extract 0 k).toList=a.toList.take k:=by
 rw[Array.toList_extract,List.extract_eq_take_drop]
 rfl
theorem y1(a:Array Keyed)(i k:Nat):(a.extract i k).toList=(a.toList.take k).drop i:=by
 rw[Array.toList_extract,List.extract_eq_take_drop,List.drop_take]
theorem FA(a b out:Array Keyed)(c nb:Nat):(fR a b out c nb).toList=a.toList.take c++b.toList.take nb++out.toList.reverse:=by
 unfold fR;rw[Array.toList_append,Array.toList_append,mq,mq,Array.toList_reverse]
theorem Fq(a b out:Array Keyed)(c nb:Nat):(j4 a b out c nb).toList=b.toList.take nb++a.toList.take c++out.toList.reverse:=by
 unfold j4;rw[Array.toList_append,Array.toList_append,mq,mq,Array.toList_reverse]
structure ke(κ:KeyKind)(a b:Array Keyed):Prop where
 ka:∀p∈a.toList,KOk κ p
 kb:∀p∈b.toList,KOk κ p
 za:0<a.size
 zb:0<b.size
 fb:∀x∈a.toList,∀z,b[0]?=some z->kLt κ z x
structure HiI(κ:KeyKind)(a b:Array Keyed)(n:Nat)(na nb:Nat)(out:Array Keyed):Prop where
 ms:MS (gLe κ) (a.toList++b.toList) out.toList (a.toList.take na).reverse (b.toList.take nb).reverse
 a0:0<na
 b0:1<nb
 az:na<=a.size
 bz:nb<=b.size
 hn:n<=out.size
section
variable {a b out:Array Keyed}{na nb:Nat}
theorem jN(h:MS (gLe κ) (a.toList++b.toList) out.toList (a.toList.take na).reverse (b.toList.take nb).reverse)(e:na=0\/nb=0):cw κ a b (fR a b out na nb):=by
 unfold cw;rw[FA];rcases e with rfl|rfl
 .have:=(MS.endX (show MS (gLe κ) (a.toList++b.toList) out.toList [] (b.toList.take nb).reverse from h)).rev;rw[List.reverse_append,List.reverse_reverse]at this;exact this
 .have:=(MS.endY (show MS (gLe κ) (a.toList++b.toList) out.toList (a.toList.take na).reverse []from h)).rev;rw[List.reverse_append,List.reverse_reverse]at this;rwa[List.take_zero,qA]
theorem m7(pre:ke κ a b)(h:MS (gLe κ) (a.toList++b.toList) out.toList (a.toList.take na).reverse (b.toList.take nb).reverse)(e:nb=1):cw κ a b (j4 a b out na nb):=by
 unfold cw;rw[Fq];subst e;obtain⟨z,g,c,_⟩:=tkp (a:=b) (i:=1) Yk pre.zb;have c:(b.toList.take 1).reverse=[z]:=c;rw[c]at h;have:=(h.symm.lastX λx f=>(pre.fb x (List.mem_of_mem_take (List.mem_reverse.mp f)) z g).le).rev;have d:b.toList.take 1=[z]:=by rw[<- List.reverse_reverse (b.toList.take 1),c];rfl
 rw[d];rw[List.reverse_append,List.reverse_append,List.reverse_reverse]at this;rwa[qQ]
theorem sB(h:MS (gLe κ) (a.toList++b.toList) out.toList (a.toList.take na).reverse (b.toList.take nb).reverse){x:Keyed}(d:(a.toList.take na).reverse=x::(a.toList.take (na-1)).reverse)(le:∀y∈b.toList.take nb,kLe κ y x):MS (gLe κ) (a.toList++b.toList) (out.push x).toList (a.toList.take (na-1)).reverse (b.toList.take nb).reverse:=by
 rw[d]at h;rw[Array.toList_push];exact MS.left (Z:=[x]) h λ_ c y e=>by obtain rfl:=qV.mp c;exact le y (List.mem_reverse.mp e)
theorem xL(h:MS (gLe κ) (a.toList++b.toList) out.toList (a.toList.take na).reverse (b.toList.take nb).reverse){y:Keyed}(e:(b.toList.take nb).reverse=y::(b.toList.take (nb-1)).reverse)(le:∀x∈a.toList.take na,kLe κ x y):MS (gLe κ) (a.toList++b.toList) (out.push y).toList (a.toList.take na).reverse (b.toList.take (nb-1)).reverse:=by
 rw[e]at h;rw[Array.toList_push];exact MS.right (Z:=[y]) h λ_ c x d=>by obtain rfl:=qV.mp c;exact le x (List.mem_reverse.mp d)
theorem sD{o X X0 T:List Keyed}(h:MS (gLe κ) T o X.reverse X0.reverse):X.Pairwise (kLe κ)/\X0.Pairwise (kLe κ):=⟨List.pairwise_reverse.mp (List.pairwise_append.mp h.sx).2.1,List.pairwise_reverse.mp (List.pairwise_append.mp h.sy).2.1⟩
theorem lV{x:Keyed}{X b:List Keyed}(d:X.reverse=x::b.reverse)(h:X.Pairwise (kLe κ)):∀z∈X,kLe κ z x:=λz a=>by
 have e:X=b++[x]:=by rw[<- List.reverse_reverse X,d,List.reverse_cons,List.reverse_reverse]
 rw[e]at h a;rcases qi.mp a with q|q
 .exact(List.pairwise_append.mp h).2.2 z q x (by simp)
 .obtain rfl:=qV.mp q;exact KeyOrd.kle_refl _
theorem zw(v:κ.OneLt){st:SortSt}(hk:kindOf st=oneType')(pre:ke κ a b){mg:Nat}(h:HiI κ a b n na nb out){R:ForInStep H6->SortSt->Prop}
 (m:∀r c,cw κ a b r->R (.done (some r,c)) st) (k:∀na nb out ac bc,HiI κ a b (n+1) na nb out->R (.done (none,na,nb,out,ac,bc)) st) (l:∀na nb out ac bc,HiI κ a b (n+1) na nb out->R (.yield (none,na,nb,out,ac,bc)) st):
 wpS (model prog w) A E s (hi1 a b mg na nb out ac bc) R st:=by
 obtain⟨ms,a0,b0,az,bz,_⟩:=h;obtain⟨y,q,o,u⟩:=tkp (a:=b) (i:=nb) Yo bz;obtain⟨x,ex,p,t⟩:=tkp (a:=a) (i:=na) a0 az;obtain⟨sx,sy⟩:=sD ms;unfold hi1;refine wpS_bind (cK q (wpS_bind (cK ex (wpS_bind (kg v hk (pre.kb y u) (pre.ka x t) ?_)))));dsimp only
 cases e:κ.blt (ky κ y) (ky κ x)with
 |true=>
  rw[Q5 U];refine wpS_bind (cK ex ?_);have d:=sB ms p λz j=>KeyOrd.kle_trans (lV o sy z j) (KeyOrd.kle_of_klt e);have f:n+1<=(out.push x).size:=by rw[Array.size_push];omega
  by_cases c1:na-1=0
  .rw[Q5 (by simpa using c1)];exact wpS_pure (m _ _ (jN d (.inl c1)))
  .rw[Q4 (by simpa using c1)];have g:HiI κ a b (n+1) (na-1) nb (out.push x):=⟨d,Yo,b0,Yo,bz,f⟩;by_cases c2:ac+1 >= mg
   .rw[Q5 c2];exact wpS_pure (k _ _ _ _ _ g)
   .rw[Q4 c2];exact wpS_pure (l _ _ _ _ _ g)
 |false=>
  rw[Q4 Yk];refine wpS_bind (cK q ?_);have d:=xL ms o λz j=>KeyOrd.kle_trans (lV p sx z j) (show κ.kle (ky κ x) (ky κ y)from e);have f:n+1<=(out.push y).size:=by rw[Array.size_push];omega
  by_cases c1:nb-1=1
  .rw[Q5 (by simpa using c1)];exact wpS_pure (m _ _ (m7 pre d c1))
  .rw[Q4 (by simpa using c1)];have g:HiI κ a b (n+1) na (nb-1) (out.push y):=⟨d,a0,Yo,az,Yo,f⟩;by_cases c2:bc+1 >= mg
   .rw[Q5 c2];exact wpS_pure (k _ _ _ _ _ g)
   .rw[Q4 c2];exact wpS_pure (l _ _ _ _ _ g)
theorem tO{st:SortSt}{mg:Nat}(ms:MS (gLe κ) (a.toList++b.toList) out.toList (a.toList.take na).reverse (b.toList.take nb).reverse)(a0:0<na)(b0:1<nb)(az:na<=a.size)(bz:nb<=b.size)(hn:n<=out.size){x:Keyed}(ex:a[na-1]?=some x)(le:∀y∈b.toList.take nb,kLe κ y x){R:ForInStep H7->SortSt->Prop}
 (l:∀r c,cw κ a b r->R (.done (some r,c)) st) (h:∀na nb out mg ac bc,HiI κ a b n na nb out->R (.done (none,na,nb,out,mg,ac,bc)) st) (k:∀na nb out mg ac bc,HiI κ a b n na nb out->R (.yield (none,na,nb,out,mg,ac,bc)) st):
 wpS (model prog w) A E s (m8 a b na nb out mg ac bc) R st:=by
 obtain⟨_,d,j,_⟩:=tkp (a:=a) (i:=na) a0 az;rw[ex]at d;obtain rfl:=qM d;unfold m8;refine wpS_bind (cK ex ?_);have e:=sB ms j le;have f:n<=(out.push x).size:=by rw[Array.size_push];omega
 by_cases c1:na-1=0
 .rw[Q5 (by simpa using c1)];exact wpS_pure (l _ _ (jN e (.inl c1)))
 .rw[Q4 (by simpa using c1)];have g:HiI κ a b n (na-1) nb (out.push x):=⟨e,Yo,b0,Yo,bz,f⟩;by_cases c2:(decide (ac<7) && decide (bc<7))=true
  .rw[Q5 c2];exact wpS_pure (h _ _ _ _ _ _ g)
  .rw[Q4 c2];exact wpS_pure (k _ _ _ _ _ _ g)
theorem kH(a:Array Keyed)(n:Nat):(a.toList.drop 0).take n=a.toList.take n:=U
theorem tP(C:κ.OneLt){st:SortSt}(hk:kindOf st=oneType')(pre:ke κ a b){mg:Nat}(ms:MS (gLe κ) (a.toList++b.toList) out.toList (a.toList.take na).reverse (b.toList.take nb).reverse)(a0:0<na)(b0:1<nb)(az:na<=a.size)(bz:nb<=b.size)(hn:n<=out.size){y:Keyed}(z:b[nb-1]?=some y)(le:∀x∈a.toList.take na,kLe κ x y){R:ForInStep H7->SortSt->Prop}
 (e:∀r c,cw κ a b r->R (.done (some r,c)) st) (o:∀na nb out mg ac bc,HiI κ a b n na nb out->R (.done (none,na,nb,out,mg,ac,bc)) st) (q:∀na nb out mg ac bc,HiI κ a b n na nb out->R (.yield (none,na,nb,out,mg,ac,bc)) st):
 wpS (model prog w) A E s (m9 a b na nb out mg ac bc) R st:=by
 obtain⟨d,h,B,_⟩:=tkp (a:=b) (i:=nb) Yo bz;rw[z]at h;obtain rfl:=qM h;obtain⟨x,ex,D,G⟩:=tkp (a:=a) (i:=na) a0 az;unfold m9;refine wpS_bind (cK z ?_);have g:=xL ms B le;have u:n<=(out.push y).size:=by rw[Array.size_push];omega
 obtain⟨sx,sy⟩:=sD g;by_cases c1:nb-1=1
 .rw[Q5 (by simpa using c1)];exact wpS_pure (e _ _ (m7 pre g c1))
 .rw[Q4 (by simpa using c1)];refine wpS_bind (cK ex (wpS_bind (iE C hk (pre.ka x G) pre.kb Yo Yo (by rwa[kH]) λk F m v=>?_)));rw[kH]at m v;dsimp only;have t:(b.toList.take (nb-1)).take k=b.toList.take k:=by rw[List.take_take,Nat.min_eq_left F]
  rw[t]at m;have j:∀d∈b.toList.take k,kLe κ d x:=λd f=>(show kLt κ d x from m d f).le
  have l:MS (gLe κ) (a.toList++b.toList) (out.push y++(b.extract k (nb-1)).reverse).toList (a.toList.take na).reverse (b.toList.take k).reverse:=by
   rw[Array.toList_append,Array.toList_reverse,y1];refine MS.right (Z:=((b.toList.take (nb-1)).drop k).reverse) (by rwa[<- List.reverse_append,<- t,Qx]) λd f H p=>?_;have l1:kLe κ x d:=v d (List.mem_reverse.mp f);exact KeyOrd.kle_trans (lV D sx H (List.mem_reverse.mp p)) l1
  by_cases c2:nb-1-k > 0
  .rw[Q5 c2];by_cases c3:k=1
   .rw[Q5 (by simpa using c3)];exact wpS_pure (e _ _ (m7 pre l c3))
   .rw[Q4 (by simpa using c3)];by_cases c4:k=0
    .rw[Q5 (by simpa using c4)];exact wpS_pure (e _ _ (jN l (.inr c4)))
    .rw[Q4 (by simpa using c4)];exact tO l a0 Yo az Yo (by rw[Array.size_append];omega) ex j e o q
  .rw[Q4 c2];obtain rfl:k=nb-1:=Yo;exact tO g a0 Yo az Yo u ex j e o q
theorem tQ(l:κ.OneLt){st:SortSt}(hk:kindOf st=oneType')(pre:ke κ a b){mg:Nat}(h:HiI κ a b n na nb out){R:ForInStep H7->SortSt->Prop}
 (m:∀r c d,bG st d->cw κ a b r->R (.done (some r,c)) d) (u:∀na nb out mg ac bc d,bG st d->HiI κ a b n na nb out->R (.done (none,na,nb,out,mg,ac,bc)) d) (z:∀na nb out mg ac bc d,bG st d->HiI κ a b n na nb out->R (.yield (none,na,nb,out,mg,ac,bc)) d):
 wpS (model prog w) A E s (hi3 a b na nb out mg ac bc) R st:=by
 obtain⟨ms,a0,b0,az,bz,K⟩:=h;obtain⟨y,t,G,L⟩:=tkp (a:=b) (i:=nb) Yo bz;obtain⟨sx,sy⟩:=sD ms;unfold hi3 fI;refine wpS_bind (wpS_modify ?_);have ss:bG st (SortSt.mk' (kindOf st) (arrOf st) (pendingOf st) mg (failedOf st)):=⟨U,U,U,U⟩;have e:kindOf (SortSt.mk' (kindOf st) (arrOf st) (pendingOf st) mg (failedOf st))=oneType':=hk;generalize SortSt.mk' (kindOf st) (arrOf st) (pendingOf st) mg (failedOf st)=st2 at ss e ⊢;refine wpS_bind (cK t (wpS_bind (iE l e (pre.kb y L) pre.ka Yo Yo (by rwa[kH]) λk J q C=>?_)));rw[kH]at q C;dsimp only;have B:(a.toList.take na).take k=a.toList.take k:=by rw[List.take_take,Nat.min_eq_left J]
 rw[B]at q
 have f:∀x∈a.toList.take k,kLe κ x y:=λx I=>by
  have this:(!κ.blt (ky κ y) (ky κ x))=true:=q x I;show κ.blt (ky κ y) (ky κ x)=false;simpa using this
 have D:MS (gLe κ) (a.toList++b.toList) (out++(a.extract k na).reverse).toList (a.toList.take k).reverse (b.toList.take nb).reverse:=by
  rw[Array.toList_append,Array.toList_reverse,y1];refine MS.left (Z:=((a.toList.take na).drop k).reverse) (by rwa[<- List.reverse_append,<- B,Qx]) λp v H F=>?_;have l1:(!κ.blt (ky κ y) (ky κ p))=false:=C p (List.mem_reverse.mp v);have l1:κ.blt (ky κ y) (ky κ p)=true:=by simpa using l1
  exact KeyOrd.kle_trans (lV G sy H (List.mem_reverse.mp F)) (KeyOrd.kle_of_klt l1)
 by_cases c2:na-k > 0
 .rw[Q5 c2];by_cases c4:k=0
  .rw[Q5 (by simpa using c4)];exact wpS_pure (m _ _ _ ss (jN D (.inl c4)))
  .rw[Q4 (by simpa using c4)];exact tP l e pre D Yo b0 Yo bz (by rw[Array.size_append];omega) t f (λr c=>m r c _ ss) (λo i j g x y=>u o i j g x y _ ss) (λo i j g x y=>z o i j g x y _ ss)
 .rw[Q4 c2];obtain rfl:k=na:=Yo;exact tP l e pre ms a0 b0 az bz K t f (λr c=>m r c _ ss) (λo i j g x y=>u o i j g x y _ ss) (λo i j g x y=>z o i j g x y _ ss)
theorem HiI.less{m:Nat}(h:HiI κ a b m na nb out)(k:n<=m):HiI κ a b n na nb out:=⟨h.ms,h.a0,h.b0,h.az,h.bz,qC k h.hn⟩
theorem HiI.room(h:HiI κ a b n na nb out):n<a.size+b.size:=by
 have l:=h.ms.pm.length_eq;simp only[qc,List.length_reverse,qN,qP]at l;have:=h.a0;have:=h.b0;have:=h.az;have:=h.bz;have:=h.hn;omega
theorem zq(D:κ.OneLt){st:SortSt}(hk:kindOf st=oneType')(pre:ke κ a b)(sa:a.toList.Pairwise (kLe κ))(K:b.toList.Pairwise (kLe κ))(M:∀x,a[a.size-1]?=some x->∀y∈b.toList,kLe κ y x){Q:Array Keyed->SortSt->Prop}(q:∀r k,bG st k->cw κ a b r->Q r k):wpS (model prog w) A E s (rF a b) Q st:=by
 rw[Ea];refine wpS_bind (wpS_lift (wpAny_rule ⟨U,?_⟩));dsimp only;have za:=pre.za;have zb:=pre.zb;obtain⟨x,ex,L,_⟩:=tkp (a:=a) (i:=a.size) za (qf _);refine wpS_bind (cK ex ?_);have H:a.toList.take a.size=a.toList:=List.take_of_length_le (by rw[qP];exact qf _);have F:b.toList.take b.size=b.toList:=List.take_of_length_le (by rw[qP];exact qf _)
 have P:MS (gLe κ) (a.toList++b.toList) (#[]:Array Keyed).toList (a.toList.take a.size).reverse (b.toList.take b.size).reverse:=by
  rw[H,F];exact⟨((List.reverse_perm _).append (List.reverse_perm _)),List.pairwise_reverse.mpr sa,List.pairwise_reverse.mpr K⟩
 have z:=sB P L (by rw[F];exact M x ex);have z:MS (gLe κ) (a.toList++b.toList) (#[x]:Array Keyed).toList (a.toList.take (a.size-1)).reverse (b.toList.take b.size).reverse:=z;by_cases c1:a.size-1=0
 .rw[Q5 (by simpa using c1)];exact wpS_pure (q _ _ (bG.refl _) (jN z (.inl c1)))
 .rw[Q4 (by simpa using c1)];by_cases c2:b.size=1
  .rw[Q5 (by simpa using c2)];exact wpS_pure (q _ _ (bG.refl _) (m7 pre z c2))
  .rw[Q4 (by simpa using c2)];refine wpS_bind (wpS_get ?_);have O:HiI κ a b 1 (a.size-1) b.size #[x]:=⟨z,Yo,Yo,Yo,qf _,qf _⟩;refine wpS_bind (wpS_mono (wpS_forRange (I:=λx c k=>bG st k/\∃l nb out mg,c=(none,l,nb,out,mg)/\HiI κ a b (x+1) l nb out) (Q:=λc k=>bG st k/\∃r d,c=(some r,d)/\cw κ a b r) ?_ ?_ ⟨bG.refl _,_,_,_,_,U,O⟩) ?_)
   .rintro x c k _ _ ⟨ss,p,j,o,mg,rfl,I⟩;have C:kindOf k=oneType':=ss.1.trans hk;refine wpS_bind (wpS_mono (wpS_forRange (I:=λi c m=>m=k/\∃l nb out f e,c=(none,l,nb,out,f,e)/\HiI κ a b (x+1+i) l nb out) (Q:=λc m=>m=k/\((∃r d,c=(some r,d)/\cw κ a b r)\/∃l nb out f e,c=(none,l,nb,out,f,e)/\HiI κ a b (x+2) l nb out)) ?_ ?_ ⟨U,_,_,_,_,_,U,I⟩) ?_)
    .rintro i c m _ G ⟨rfl,p,j,o,f,e,rfl,I⟩;exact zw D C pre I (λr c h=>⟨U,.inl ⟨r,c,U,h⟩⟩) (λp j o f e h=>⟨U,.inr ⟨p,j,o,f,e,U,h.less Yo⟩⟩) (λp j o f e h=>⟨U,p,j,o,f,e,U,h.less Yo⟩)
    .rintro c m ⟨rfl,p,j,o,f,e,rfl,I⟩;exact⟨U,.inr ⟨p,j,o,f,e,U,I.less Yo⟩⟩
    .rintro c m ⟨rfl,⟨r,d,rfl,h⟩|⟨p,j,o,f,e,rfl,N⟩⟩
     .exact wpS_pure ⟨ss,r,_,U,h⟩
     .refine wpS_bind (wpS_lift (wpAny_rule ⟨U,?_⟩));refine wpS_bind (wpS_mono (wpS_forRange (I:=λi c t=>bG m t/\∃l nb out mg f e,c=(none,l,nb,out,mg,f,e)/\HiI κ a b (x+2) l nb out) (Q:=λc t=>bG m t/\((∃r d,c=(some r,d)/\cw κ a b r)\/∃l nb out mg f e,c=(none,l,nb,out,mg,f,e)/\HiI κ a b (x+2) l nb out)) ?_ ?_ ⟨bG.refl _,_,_,_,_,_,_,U,N⟩) ?_)
      .rintro i c t _ G ⟨n,p,j,o,g,f,e,rfl,I⟩;have B:kindOf t=oneType':=n.1.trans C;dsimp only;by_cases cg:g > 1
       .rw[Q5 cg];exact tQ D B pre I (λr c v u h=>⟨n.trans u,.inl ⟨r,c,U,h⟩⟩) (λp j o g f e v u h=>⟨n.trans u,.inr ⟨p,j,o,g,f,e,U,h⟩⟩) (λp j o g f e v u h=>⟨n.trans u,p,j,o,g,f,e,U,h⟩)
       .rw[Q4 cg];exact tQ D B pre I (λr c v u h=>⟨n.trans u,.inl ⟨r,c,U,h⟩⟩) (λp j o g f e v u h=>⟨n.trans u,.inr ⟨p,j,o,g,f,e,U,h⟩⟩) (λp j o g f e v u h=>⟨n.trans u,p,j,o,g,f,e,U,h⟩)
      .rintro c t ⟨n,p,j,o,g,f,e,rfl,I⟩;exact⟨n,.inr ⟨p,j,o,g,f,e,U,I⟩⟩
      .rintro c t ⟨n,⟨r,d,rfl,h⟩|⟨p,j,o,g,f,e,rfl,J⟩⟩
       .exact wpS_pure ⟨ss.trans n,r,_,U,h⟩
       .dsimp only;unfold fI;exact wpS_bind (wpS_modify (wpS_pure ⟨(ss.trans n).trans ⟨U,U,U,U⟩,_,_,_,_,U,J⟩))
   .rintro c k ⟨ss,p,j,o,mg,rfl,I⟩;have:=I.room;omega
   .rintro c k ⟨ss,r,d,rfl,h⟩;exact wpS_pure (q r k ss h)
end
end
section
variable {κ:KeyKind}
theorem zm{st a:SortSt}{Q:PUnit->SortSt->Prop}(h:Q ⟨⟩ a):wpS (model prog w) A E s (set a:StateT SortSt Sem PUnit) Q st:=by
 unfold wpS;rw[StateT.run_set];exact qe ⟨U,h⟩
theorem Eb(i:Nat):mergeAt' i=(do
 let s <- get
 let (some (sa,na,d),some (b,nb,_)):=((pendingOf s)[i]?,(pendingOf s)[i+1]?)|unsupported "internal:list.sort.pending"
 set (SortSt.mk' (kindOf s) (arrOf s) (((pendingOf s).setIfInBounds i (sa,na+nb,d)).eraseIdxIfInBounds (i+1)) (gallopOf s) (failedOf s))
 let some k <- eF false (<- elem' (arrOf s) b) (arrOf s) sa na 0|return false
 let (sa,na):=(sa+k,na-k)
 if na == 0 then return true
 let some nb <- eF true (<- elem' (arrOf s) (sa+na-1)) (arrOf s) b nb (nb-1)|return false
 if nb == 0 then return true
 let x:=(arrOf s).extract sa b
 let y:=(arrOf s).extract b (b+nb)
 let c <- if na<=nb then rE x y else rF x y
 modify λs=>setArr s (c.toList.zipIdx.foldl (λa (p,j)=>a.setIfInBounds (sa+j) p) (arrOf s))
 return (failedOf (<- get)).isNone):=U
theorem we{sa:Nat}:∀(M:List Keyed)(n:Nat)(arr:Array Keyed),sa+n+M.length<=arr.size->((M.zipIdx n).foldl (λa (c:Keyed×Nat)=>a.setIfInBounds (sa+c.2) c.1) arr).toList=arr.toList.take (sa+n)++M++arr.toList.drop (sa+n+M.length)
 |[],n,arr,_=>by simp
 |x::M,n,arr,h=>by
  rw[List.zipIdx_cons,QC];simp only[qE]at h;have d:=we (sa:=sa) M (n+1) (arr.setIfInBounds (sa+n) x) (by rw[Array.size_setIfInBounds];omega);rw[d,Array.toList_setIfInBounds,List.set_eq_take_append_cons_drop,Q5 (by rw[qP];omega)];have b:(arr.toList.take (sa+n)).length=sa+n:=by rw[qN,qP];omega
  have e:(arr.toList.take (sa+n)++x::arr.toList.drop (sa+n+1)).take (sa+(n+1))=arr.toList.take (sa+n)++[x]:=by
   rw[List.take_append,b,List.take_of_length_le Yo,show sa+(n+1)-(sa+n)=1 by omega]
   rfl
  have f:(arr.toList.take (sa+n)++x::arr.toList.drop (sa+n+1)).drop (sa+(n+1)+M.length)=arr.toList.drop (sa+n+(M.length+1)):=by
   rw[List.drop_append,b,List.drop_of_length_le Yo,show sa+(n+1)+M.length-(sa+n)=M.length+1 by omega];show[]++(arr.toList.drop (sa+n+1)).drop M.length=_;rw[List.drop_drop,Qo]
   congr 1
   omega
  rw[e,f,qE,qQ,qQ,qQ]
  rfl
section
variable {arr:Array Keyed}{P X X0 R:List Keyed}
theorem x9(e:arr.toList=P++(X++R)):(arr.toList.drop P.length).take X.length=X:=by
 rw[e,List.drop_left,List.take_left]
theorem xc(e:arr.toList=P++(X++R))(h:i<X.length):arr[P.length+i]?=X[i]?:=by
 rw[<- qW,e,qO Yo,Nat.add_sub_cancel_left,Q9 h]
theorem E8(e:arr.toList=P++(X++R))(k:Nat):(arr.extract (P.length+k) (P.length+X.length)).toList=X.drop k:=by
 rw[Array.toList_extract,List.extract_eq_take_drop,e,List.drop_append,List.drop_of_length_le Yo,show P.length+k-P.length=k by omega,Qo,List.drop_append];rw[List.take_append,List.take_of_length_le (by rw[Q3];omega),Q3];rw[show P.length+X.length-(P.length+k)-(X.length-k)=0 by omega,List.take_zero,qA]
theorem E7(e:arr.toList=P++(X++R)){k:Nat}(h:k<=X.length):(arr.extract P.length (P.length+k)).toList=X.take k:=by
 rw[Array.toList_extract,List.extract_eq_take_drop,e,List.drop_left,Nat.add_sub_cancel_left,List.take_append_of_le_length h]
end
theorem zt(hO:κ.OneLt){st:SortSt}(hk:kindOf st=oneType')(ok:∀p∈(arrOf st).toList,KOk κ p)(hf:failedOf st=none){sa f pw h nb a':Nat}(p1:(pendingOf st)[i]?=some (sa,f,pw))(p2:(pendingOf st)[i+1]?=some (h,nb,a')){P X X0 R:List Keyed}(eL:(arrOf st).toList=P++(X++(X0++R)))(lp:P.length=sa)(t:X.length=f)(ly:X0.length=nb)(es:h=sa+f)(x0:0<f)(y0:0<nb)(B:X.Pairwise (kLe κ))(v:X0.Pairwise (kLe κ)){Q:Bool->SortSt->Prop}
 (q:∀M d,Mgd (kLe κ) (X++X0) M->(arrOf d).toList=P++(M++R)->kindOf d=oneType'->failedOf d=none->pendingOf d=((pendingOf st).setIfInBounds i (sa,f+nb,pw)).eraseIdxIfInBounds (i+1)->Q true d):wpS (model prog w) A E s (mergeAt' i) Q st:=by
 have V:(arrOf st).toList=(P++X)++(X0++R):=by rw[eL,qQ]
 have F:(P++X).length=h:=by rw[qc,lp,t,es]
 have b0:(arrOf st).size=sa+f+nb+R.length:=by
  rw[<- qP,eL];simp only[qc];omega
 have a1:∀p∈X,KOk κ p:=λp C=>ok p (by rw[eL];simp[C]);have a5:∀p∈X0,KOk κ p:=λp C=>ok p (by rw[eL];simp[C]);rw[Eb];refine wpS_bind (wpS_get ?_);rw[p1,p2];dsimp only;refine wpS_bind (zm ?_);generalize hst:SortSt.mk' (kindOf st) (arrOf st) (((pendingOf st).setIfInBounds i (sa,f+nb,pw)).eraseIdxIfInBounds (i+1)) (gallopOf st) (failedOf st)=st2;have D:kindOf st2=oneType':=by rw[<- hst];exact hk
 have a2:arrOf st2=arrOf st:=by rw[<- hst]
 have f2:failedOf st2=none:=by rwa[<- hst]
 have K:pendingOf st2=((pendingOf st).setIfInBounds i (sa,f+nb,pw)).eraseIdxIfInBounds (i+1):=by rw[<- hst]
 clear hst
 obtain⟨y,Y',eY⟩:∃y Y',X0=y::Y':=by
  cases X0 with
  |nil=>simp at ly;omega
  |cons y Y'=>exact⟨y,Y',U⟩
 have ey:(arrOf st)[h]?=some y:=by
  have:=xc V (i:=0) Yo;rw[F,Nat.add_zero]at this;rw[this,eY]
  rfl
 have yY:∀z∈X0,kLe κ y z:=by rw[eY]at v ⊢;exact jO v
 have my:y∈X0:=by rw[eY];simp
 have O:((arrOf st).toList.drop sa).take f=X:=by rw[<- lp,<- t];exact x9 eL
 have H:((arrOf st).toList.drop h).take nb=X0:=by rw[<- F,<- ly];exact x9 V
 refine wpS_bind (cK ey (wpS_bind (iE hO D (a5 y my) ok Yo x0 (by rw[O];exact B) λk _ h1 h2=>?_)));rw[O]at h1 h2;dsimp only
 have a0:∀x∈X.take k,kLe κ x y:=λx T=>by
  have this:(!κ.blt (ky κ y) (ky κ x))=true:=h1 x T;show κ.blt (ky κ y) (ky κ x)=false;simpa using this
 have J:∀x∈X.drop k,kLt κ y x:=λx T=>by
  have this:(!κ.blt (ky κ y) (ky κ x))=false:=h2 x T;show κ.blt (ky κ y) (ky κ x)=true;simpa using this
 by_cases c1:f-k=0
 .rw[Q5 (by simpa using c1)];refine wpS_pure (q (X++X0) st2 ⟨List.Perm.refl _,List.pairwise_append.mpr ⟨B,v,λx T z b=>?_⟩⟩ (by rw[a2,eL,qQ]) D f2 K);rw[List.take_of_length_le Yo]at a0;exact KeyOrd.kle_trans (a0 x T) (yY z b)
 .rw[Q4 (by simpa using c1)]
  obtain⟨L,x,Z⟩:∃L x,X=L++[x]:=by
   rcases List.eq_nil_or_concat X with e|⟨L,x,e⟩
   .rw[e]at t;simp at t;omega
   .exact⟨L,x,by rw[e,List.concat_eq_append]⟩
  have a4:L.length=f-1:=by rw[Z,qc]at t;simp at t;omega
  have ex:(arrOf st)[sa+k+(f-k)-1]?=some x:=by
   have:=xc eL (i:=f-1) Yo;rw[show sa+k+(f-k)-1=P.length+(f-1)by omega,this,Z,qO (by omega),a4,Nat.sub_self]
   rfl
  have xX:∀z∈X,kLe κ z x:=λz b=>by
   rw[Z]at B b;rcases qi.mp b with c|c
   .exact(List.pairwise_append.mp B).2.2 z c x (by simp)
   .obtain rfl:=qV.mp c;exact KeyOrd.kle_refl _
  have mx:x∈X:=by rw[Z];simp
  refine wpS_bind (cK ex (wpS_bind (iE hO D (a1 x mx) ok Yo Yo (by rwa[H]) λm _ h3 h4=>?_)));rw[H]at h3 h4;dsimp only;have W:∀z∈X0.take m,kLt κ z x:=λz b=>h3 z b;have G:∀z∈X0.drop m,kLe κ x z:=λz b=>h4 z b;by_cases c2:m=0
  .rw[Q5 (by simpa using c2)];refine wpS_pure (q (X++X0) st2 ⟨List.Perm.refl _,List.pairwise_append.mpr ⟨B,v,λu g z b=>?_⟩⟩ (by rw[a2,eL,qQ]) D f2 K);rw[c2]at G;exact KeyOrd.kle_trans (xX u g) (G z b)
  .rw[Q4 (by simpa using c2)]
   have l:((arrOf st).extract (sa+k) h).toList=X.drop k:=by
    have:=E8 eL k;rw[lp,t,<- es]at this;exact this
   have o:((arrOf st).extract h (h+m)).toList=X0.take m:=by
    have:=E7 V (k:=m) Yo;rw[F]at this;exact this
   generalize (arrOf st).extract (sa+k) h=xa at l ⊢;generalize (arrOf st).extract h (h+m)=yb at o ⊢;have zx:xa.size=f-k:=by rw[<- qP,l,Q3,t]
   have zy:yb.size=m:=by rw[<- qP,o,qN,ly];omega
   have N:∀z,yb[0]?=some z->z=y:=λz b=>by
    rw[<- qW,o,eY]at b
    cases m with
    |zero=>exact Q8 U c2
    |succ m=>exact(qM b).symm
   have S:∀z,xa[xa.size-1]?=some z->z=x:=λz b=>by
    rw[<- qW,l,List.getElem?_drop,zx,show k+(f-k-1)=f-1 by omega,Z,qO (by omega),a4,Nat.sub_self]at b;exact(qM b).symm
   have a9:∀p∈xa.toList,KOk κ p:=λp C=>a1 p (List.mem_of_mem_drop (l▸C));have a6:∀p∈yb.toList,KOk κ p:=λp C=>a5 p (List.mem_of_mem_take (o▸C));have a7:xa.toList.Pairwise (kLe κ):=by rw[l];exact B.sublist (List.drop_sublist _ _)
   have a8:yb.toList.Pairwise (kLe κ):=by rw[o];exact v.sublist (List.take_sublist _ _)
   have I:∀r d,bG st2 d->cw κ xa yb r->wpS (model prog w) A E s (do
    modify λs=>setArr s (r.toList.zipIdx.foldl (λa (p,j)=>a.setIfInBounds (sa+k+j) p) (arrOf s))
    let s <- get
    pure (failedOf s).isNone) Q d:=λr d ss hr=>by
    have a3:arrOf d=arrOf st:=ss.2.1.trans a2
    have n:Mgd (kLe κ) (X.drop k++X0.take m) r.toList:=by
     have hr:Mgd (kLe κ) (xa.toList++yb.toList) r.toList:=hr
     rwa [l,o]at hr
    have lr:r.toList.length=f-k+m:=by
     rw[n.1.length_eq,qc,Q3,qN];omega
    refine wpS_bind (wpS_modify (wpS_bind (wpS_get (wpS_pure ?_))));have f4:failedOf d=none:=ss.2.2.2.trans f2;show Q (failedOf d).isNone _;rw[f4];have pl:=we (sa:=sa+k) r.toList 0 (arrOf st) (by rw[lr];omega);refine q (X.take k++(r.toList++X0.drop m)) _ ?_ ?_ (ss.1.trans D) f4 (ss.2.2.1.trans K)
    .refine⟨?_,?_⟩
     .have p0:(X.take k++(r.toList++X0.drop m)).Perm (X.take k++((X.drop k++X0.take m)++X0.drop m)):=List.Perm.append_left _ (n.1.append_right _);refine p0.trans ?_;rw[qQ,Qx,<- qQ,Qx]
     .refine List.pairwise_append.mpr ⟨B.sublist (List.take_sublist _ _),List.pairwise_append.mpr ⟨n.2,v.sublist (List.drop_sublist _ _),λu g z b=>?_⟩,λu g z b=>?_⟩
      .have g:=n.1.mem_iff.mp g;rcases qi.mp g with c|c
       .exact KeyOrd.kle_trans (xX u (List.mem_of_mem_drop c)) (G z b)
       .exact KeyOrd.kle_trans (W u c).le (G z b)
      .have yz:kLe κ u y:=a0 u g;rcases qi.mp b with c|c
       .have c:=n.1.mem_iff.mp c;rcases qi.mp c with c|c
        .exact KeyOrd.kle_trans yz (J z c).le
        .exact KeyOrd.kle_trans yz (yY z (List.mem_of_mem_take c))
       .exact KeyOrd.kle_trans yz (yY z (List.mem_of_mem_drop c))
    .show(r.toList.zipIdx.foldl (λa (p,j)=>a.setIfInBounds (sa+k+j) p) (arrOf d)).toList=_;rw[a3];refine Eq.trans pl ?_;rw[Nat.add_zero,lr,eL]
     have e1:(P++(X++(X0++R))).take (sa+k)=P++X.take k:=by
      rw[List.take_append,lp,List.take_of_length_le Yo,show sa+k-sa=k by omega,List.take_append_of_le_length (by omega)]
     have e2:(P++(X++(X0++R))).drop (sa+k+(f-k+m))=X0.drop m++R:=by
      rw[<- qQ,List.drop_append,F,List.drop_of_length_le Yo,show sa+k+(f-k+m)-h=m by omega,Qo,List.drop_append_of_le_length (by omega)]
     rw[e1,e2];simp only[qQ]
   by_cases c3:f-k<=m
   .rw[Q5 c3];refine wpS_bind (zn hO D ⟨a9,a6,Yo,Yo,λz b u g=>by rw[S u g];exact W z (o▸b)⟩ a7 a8 (λz b u g=>by rw[N z b];exact(J u (l▸g)).le) λr d ss hr=>?_);exact I r d ss hr
   .rw[Q4 c3];refine wpS_bind (zq hO D ⟨a9,a6,Yo,Yo,λu g z b=>by rw[N z b];exact J u (l▸g)⟩ a7 a8 (λz b u g=>by rw[S z b];exact(W u (o▸g)).le) λr d ss hr=>?_);exact I r d ss hr
end
section
variable {κ:KeyKind}
structure SBL(st0:SortSt)(lo:Nat)(st:SortSt):Prop where
 pm:(arrOf st).Perm (arrOf st0)
 lw:∀i,i<lo->(arrOf st)[i]?=(arrOf st0)[i]?
 kd:kindOf st=oneType'
 fl:failedOf st=failedOf st0
 pd:pendingOf st=pendingOf st0
section
variable {st0 st:SortSt}
theorem SBL.size(h:SBL st0 lo st):(arrOf st).size=(arrOf st0).size:=h.pm.size_eq
theorem SBL.put(h:SBL st0 lo st){xs:Array Keyed}(p:xs.Perm (arrOf st))(l:∀i,i<lo->xs[i]?=(arrOf st)[i]?):SBL st0 lo (setArr st xs):=⟨p.trans h.pm,λi a=>(l i a).trans (h.lw i a),h.kd,h.fl,h.pd⟩
theorem SBL.at(h:SBL st0 lo st)(ok:∀p∈(arrOf st0).toList,KOk κ p)(b:i<(arrOf st0).size):∃p,(arrOf st)[i]?=some p/\KOk κ p/\KK κ (arrOf st) i=ky κ p:=by
 have a:i<(arrOf st).size:=by rwa[h.size]
 have e:(arrOf st)[i]?=some (arrOf st)[i]:=getElem?_pos _ i a;refine⟨_,e,ok _ ((Array.perm_iff_toList_perm.mp h.pm).mem_iff.mp (by simp)),KK_congr (e.trans U)⟩
theorem iD(k:κ.OneLt)(h:SBL st0 lo st)(ok:∀p∈(arrOf st0).toList,KOk κ p)(f:i<(arrOf st0).size)(e:j<(arrOf st0).size){Q:Option Bool->SortSt->Prop}(q:Q (some (κ.blt (KK κ (arrOf st) i) (KK κ (arrOf st) j))) st):wpS (model prog w) A E s (ltAt' i j) Q st:=by
 obtain⟨p,g,⟨z,d⟩,kp⟩:=h.at ok f;obtain⟨_,c,⟨_,a⟩,b⟩:=h.at ok e;rw[kp,b,lX d,lX a]at q;exact wpS_ltAtK k h.kd g c d a q
def cO(κ:KeyKind)(xs:Array Keyed)(lo n:Nat):Prop:=∀i j,i<=j->j<n->κ.kle (KK κ xs (lo+i)) (KK κ xs (lo+j))
def eJ(κ:KeyKind)(xs:Array Keyed)(lo n:Nat):Prop:=∀i j,i<=j->j<n->κ.kle (KK κ xs (lo+j)) (KK κ xs (lo+i))
theorem cO.one{xs:Array Keyed}:cO κ xs lo 1:=λi j _ _=>by
 obtain rfl:i=j:=Yo;exact KeyOrd.kle_refl _
theorem cO.more{xs:Array Keyed}(h:cO κ xs lo n)(n0:0<n)(k:κ.kle (KK κ xs (lo+n-1)) (KK κ xs (lo+n))):cO κ xs lo (n+1):=λi j a _=>by
 by_cases c:j<n
 .exact h i j a c
 .obtain rfl:j=n:=by omega
  by_cases d:i=j
  .subst d;exact KeyOrd.kle_refl _
  .have:=h i (j-1) Yo Yo;rw[show lo+(j-1)=lo+j-1 by omega]at this;exact KeyOrd.kle_trans this k
theorem eJ.more{xs:Array Keyed}(h:eJ κ xs lo n)(n0:0<n)(k:κ.kle (KK κ xs (lo+n)) (KK κ xs (lo+n-1))):eJ κ xs lo (n+1):=λi j a _=>by
 by_cases c:j<n
 .exact h i j a c
 .obtain rfl:j=n:=by omega
  by_cases d:i=j
  .subst d;exact KeyOrd.kle_refl _
  .have:=h i (j-1) Yo Yo;rw[show lo+(j-1)=lo+j-1 by omega]at this;exact KeyOrd.kle_trans k this
theorem SBL.flip(h:SBL st0 lo st)(b:lo<=i)(a:j<=(arrOf st0).size):SBL st0 lo (setArr st (mirror (arrOf st) i j ((j-i) / 2))):=by
 refine h.put (mirror_perm _ _ _ _) λk hk=>?_;rw[getElem?_mirror_all (by rwa[h.size]),Q4 Yo]
theorem kf{Q:PUnit->SortSt->Prop}(q:Q ⟨⟩ (setArr st (mirror (arrOf st) i j ((j-i) / 2)))):wpS (model prog w) A E s (reverseSlice' i j) Q st:=by
 rw[reverseSlice'_eq];exact wpS_modify q
noncomputable def t4(lo n F:Nat):StateT SortSt Sem (Option Nat):=do
 let mut n:=n
 reverseSlice' lo (lo+n)
 for _ in[n:F] do
  let some sm <- ltAt' (lo+n) (lo+n-1)|return none
  if sm then break
  n:=n+1
 return some n
theorem tS(r:κ.OneLt)(h:SBL st0 lo st)(ok:∀p∈(arrOf st0).toList,KOk κ p){a:Nat}(n1:1<=n)(nn:n<=a)(u:lo+a<=(arrOf st0).size)(t:eJ κ (arrOf st) lo n){Q:Option Nat->SortSt->Prop}(q:∀m f,SBL st0 lo f->1<=m->m<=a->cO κ (arrOf f) lo m->Q (some m) f):wpS (model prog w) A E s (t4 lo n a) Q st:=by
 unfold t4;refine wpS_bind (kf ?_);have k:=h.flip (i:=lo) (j:=lo+n) (qf _) Yo
 have g:cO κ (mirror (arrOf st) lo (lo+n) ((lo+n-lo) / 2)) lo n:=λi j _ _=>by
  rw[KK_mirror (by rw[h.size];omega),KK_mirror (by rw[h.size];omega),Q5 Yo,Q5 Yo];have:=t (n-1-j) (n-1-i) Yo Yo;rw[show lo+(n-1-i)=lo+(lo+n)-1-(lo+i)by omega,show lo+(n-1-j)=lo+(lo+n)-1-(lo+j)by omega]at this;exact this
 have g:cO κ (arrOf (setArr st (mirror (arrOf st) lo (lo+n) ((lo+n-lo) / 2)))) lo n:=g;generalize setArr st (mirror (arrOf st) lo (lo+n) ((lo+n-lo) / 2))=st2 at k g ⊢;refine wpS_bind (wpS_mono (wpS_forRange (I:=λx c b=>b=st2/\c=(none,x)/\cO κ (arrOf st2) lo x) (Q:=λc b=>b=st2/\∃m,c=(none,m)/\1<=m/\m<=a/\cO κ (arrOf st2) lo m) ?_ ?_ ⟨U,U,g⟩) ?_)
 .rintro x c b _ _ ⟨rfl,rfl,d⟩;refine wpS_bind (iD r k ok Yo Yo ?_);dsimp only
  cases e:κ.blt (KK κ (arrOf b) (lo+x)) (KK κ (arrOf b) (lo+x-1))with
  |true=>exact wpS_pure ⟨U,x,U,Yo,Yo,d⟩
  |false=>exact wpS_pure ⟨U,U,d.more Yo e⟩
 .rintro c b ⟨rfl,rfl,d⟩;rw[show max n a=a by omega]at d ⊢;exact⟨U,a,U,Yo,qf _,d⟩
 .rintro c b ⟨rfl,m,rfl,l,o,d⟩;exact wpS_pure (q m b k l o d)
noncomputable def yu(lo n J:Nat):StateT SortSt Sem (Option Nat):=do
 let mut n:=n
 rule "list.sort.descending-run"
 n:=n+1
 let mut F:=0
 for _ in[n:J] do
  let some sm <- ltAt' (lo+n) (lo+n-1)|return none
  if sm then
   if F > 0 then reverseSlice' (lo+n-(F+1)) (lo+n)
   F:=0
  else
   let some O <- ltAt' (lo+n-1) (lo+n)|return none
   if O then break
   F:=F+1
  n:=n+1
 if F > 0 then reverseSlice' (lo+n-(F+1)) (lo+n)
 t4 lo n J
theorem gW{xs:Array Keyed}(a:j<=xs.size)(h:∀k,i<=k->k<j->KK κ xs k=KK κ xs (j-1))(k:Nat):KK κ (mirror xs i j ((j-i) / 2)) k=KK κ xs k:=KK_mirror_equal a h k
theorem tT(k:κ.OneLt)(h:SBL st0 lo st)(ok:∀p∈(arrOf st0).toList,KOk κ p){d:Nat}(nn:n+1<=d)(r:lo+d<=(arrOf st0).size)(z:eJ κ (arrOf st) lo (n+1)){Q:Option Nat->SortSt->Prop}(q:∀m a,SBL st0 lo a->1<=m->m<=d->cO κ (arrOf a) lo m->Q (some m) a):wpS (model prog w) A E s (yu lo n d) Q st:=by
 unfold yu;refine wpS_bind (wpS_lift (wpAny_rule ⟨U,?_⟩))
 have same:∀{a:SortSt}{m b:Nat},SBL st0 lo a->lo+m<=(arrOf st0).size->b+1<=m->(∀i,lo+m-(b+1)<=i->i<lo+m->KK κ (arrOf a) i=KK κ (arrOf a) (lo+m-1))->eJ κ (arrOf a) lo m->eJ κ (arrOf (setArr a (mirror (arrOf a) (lo+m-(b+1)) (lo+m) ((lo+m-(lo+m-(b+1))) / 2)))) lo m:=λh' v g f hd i j B C=>by
  show κ.kle (KK κ (mirror _ _ _ _) _) (KK κ (mirror _ _ _ _) _);rw[gW (by rwa[h'.size]) f,gW (by rwa[h'.size]) f];exact hd i j B C
 refine wpS_bind (wpS_mono (wpS_forRange (I:=λx c a=>∃b,c=(none,x,b)/\SBL st0 lo a/\eJ κ (arrOf a) lo x/\b+1<=x/\∀i,lo+x-(b+1)<=i->i<lo+x->KK κ (arrOf a) i=KK κ (arrOf a) (lo+x-1)) (Q:=λc a=>∃m b,c=(none,m,b)/\SBL st0 lo a/\n+1<=m/\m<=d/\eJ κ (arrOf a) lo m/\b+1<=m/\∀i,lo+m-(b+1)<=i->i<lo+m->KK κ (arrOf a) i=KK κ (arrOf a) (lo+m-1)) ?_ ?_ ⟨0,U,h,z,Yo,λi o l=>by congr 1;omega⟩) ?_)
 .rintro x c a _ _ ⟨b,rfl,h',d',g,f⟩;dsimp only;refine wpS_bind (iD k h' ok Yo Yo ?_);dsimp only
  cases e:κ.blt (KK κ (arrOf a) (lo+x)) (KK κ (arrOf a) (lo+x-1))with
  |true=>
   rw[Q5 U];by_cases cq:b > 0
   .rw[Q5 cq];refine wpS_bind (kf (wpS_pure ⟨0,U,h'.flip Yo Yo,?_,Yo,λi o l=>by congr 1;omega⟩));have y:=same h' Yo g f d';refine eJ.more y Yo ?_;show κ.kle (KK κ (mirror _ _ _ _) _) (KK κ (mirror _ _ _ _) _);rw[gW (by rw[h'.size];omega) f,gW (by rw[h'.size];omega) f];exact KeyOrd.kle_of_klt e
   .rw[Q4 cq];exact wpS_pure ⟨0,U,h',d'.more Yo (KeyOrd.kle_of_klt e),Yo,λi o l=>by congr 1;omega⟩
  |false=>
   rw[Q4 Yk];refine wpS_bind (iD k h' ok Yo Yo ?_);dsimp only
   cases e2:κ.blt (KK κ (arrOf a) (lo+x-1)) (KK κ (arrOf a) (lo+x))with
   |true=>exact wpS_pure ⟨x,b,U,h',Yo,Yo,d',g,f⟩
   |false=>
    have u:KK κ (arrOf a) (lo+x)=KK κ (arrOf a) (lo+x-1):=KeyOrd.kle_antisymm e2 e;refine wpS_pure ⟨b+1,U,h',d'.more Yo e2,Yo,λi o l=>?_⟩;rw[show lo+(x+1)-1=lo+x by omega];by_cases ix:i=lo+x
    .rw[ix]
    .rw[u];exact f i Yo Yo
 .rintro c a ⟨b,rfl,h',d',g,f⟩;rw[show max (n+1) d=d by omega]at d' g f ⊢;exact⟨d,b,U,h',nn,qf _,d',g,f⟩
 .rintro c a ⟨m,b,rfl,h',_,t,d',g,f⟩;dsimp only;by_cases cq:b > 0
  .rw[Q5 cq];exact wpS_bind (kf (tS k (h'.flip Yo Yo) ok Yo t r (same h' Yo g f d') q))
  .rw[Q4 cq];exact tS k h' ok Yo t r d' q
theorem zB(l:κ.OneLt)(h:SBL st0 lo st)(ok:∀p∈(arrOf st0).toList,KOk κ p){b:Nat}(n1:1<=b)(t:lo+b<=(arrOf st0).size){Q:Option Nat->SortSt->Prop}(q:∀m f,SBL st0 lo f->1<=m->m<=b->cO κ (arrOf f) lo m->Q (some m) f):wpS (model prog w) A E s (countRun' lo b) Q st:=by
 rw[countRun'_eq];refine wpS_bind (wpS_mono (wpS_forRange (I:=λx c a=>a=st/\c=(none,x)/\cO κ (arrOf st) lo x) (Q:=λc a=>a=st/\∃m,c=(none,m)/\1<=m/\m<=b/\cO κ (arrOf st) lo m/\(m=b\/κ.klt (KK κ (arrOf st) (lo+m)) (KK κ (arrOf st) (lo+m-1)))) ?_ ?_ ⟨U,U,cO.one⟩) ?_)
 .rintro x c a _ _ ⟨rfl,rfl,d⟩;refine wpS_bind (iD l h ok Yo Yo ?_);dsimp only
  cases e:κ.blt (KK κ (arrOf a) (lo+x)) (KK κ (arrOf a) (lo+x-1))with
  |true=>exact wpS_pure ⟨U,x,U,Yo,Yo,d,.inr e⟩
  |false=>exact wpS_pure ⟨U,U,d.more Yo e⟩
 .rintro c a ⟨rfl,rfl,d⟩;rw[show max 1 b=b by omega]at d ⊢;exact⟨U,b,U,n1,qf _,d,.inl U⟩
 .rintro c a ⟨rfl,m,rfl,n,o,d,r⟩;dsimp only;by_cases c1:m=b
  .rw[Q5 (by simpa using c1)];exact wpS_pure (q m a h n o d)
  .rw[Q4 (by simpa using c1)];have lt:=r.resolve_left c1;by_cases c2:m > 1
   .rw[Q5 c2];refine wpS_bind (iD l h ok Yo Yo ?_);dsimp only
    cases e:κ.blt (KK κ (arrOf a) lo) (KK κ (arrOf a) (lo+m-1))with
    |true=>exact wpS_pure (q m a h n o d)
    |false=>
     have all:∀k,lo<=k->k<lo+m->KK κ (arrOf a) k=KK κ (arrOf a) (lo+m-1):=λk _ _=>by
      have b1:=d 0 (k-lo) Yo Yo;have b2:=d (k-lo) (m-1) Yo Yo;rw[show lo+(k-lo)=k by omega]at b1 b2;rw[show lo+(m-1)=lo+m-1 by omega]at b2;exact KeyOrd.kle_antisymm b2 (KeyOrd.kle_trans e b1)
     have u:eJ κ (arrOf (setArr a (mirror (arrOf a) lo (lo+m) ((lo+m-lo) / 2)))) lo (m+1):=by
      have g:lo+m<=(arrOf a).size:=by rw[h.size];omega
      refine eJ.more (λi j v y=>?_) Yo ?_
      .show κ.kle (KK κ (mirror _ _ _ _) _) (KK κ (mirror _ _ _ _) _);rw[gW g all,gW g all,all (lo+i) Yo Yo,all (lo+j) Yo Yo];exact KeyOrd.kle_refl _
      .show κ.kle (KK κ (mirror _ _ _ _) _) (KK κ (mirror _ _ _ _) _);rw[gW g all,gW g all];exact KeyOrd.kle_of_klt lt
     exact wpS_bind (kf (tT l (h.flip (qf _) Yo) ok Yo t u q))
   .rw[Q4 c2];obtain rfl:m=1:=Yo;refine tT l h ok Yo t (eJ.more (λi j v y=>?_) Yo (KeyOrd.kle_of_klt lt)) q;obtain rfl:i=j:=Yo;exact KeyOrd.kle_refl _
theorem zD(F:κ.OneLt)(h:SBL st0 lo st)(ok:∀p∈(arrOf st0).toList,KOk κ p){m:Nat}(K:m<=n)(J:lo+n<=(arrOf st0).size)(so:cO κ (arrOf st) lo m){Q:Bool->SortSt->Prop}(q:∀a,SBL st0 lo a->cO κ (arrOf a) lo n->Q true a):wpS (model prog w) A E s (binarySort' lo n m) Q st:=by
 rw[binarySort'_eq];refine wpS_bind (wpS_mono (wpS_forRange (I:=λk c a=>c=(none,())/\SBL st0 lo a/\cO κ (arrOf a) lo (min k n)) (Q:=λc a=>c=(none,())/\SBL st0 lo a/\cO κ (arrOf a) lo n) ?_ ?_ ⟨U,h,λi j y _=>?_⟩) ?_)
 .rintro k c a _ _ ⟨rfl,h',d⟩;rw[show min k n=k by omega]at d;refine wpS_bind (wpS_mono (wpS_forRange (I:=λx c b=>b=a/\∃l r,c=(none,l,r)/\l<=r/\r<=k/\r-l<=k-x/\(∀i,i<l->κ.kle (KK κ (arrOf a) (lo+i)) (KK κ (arrOf a) (lo+k)))/\∀i,r<=i->i<k->κ.klt (KK κ (arrOf a) (lo+k)) (KK κ (arrOf a) (lo+i))) (Q:=λc b=>b=a/\∃l,c=(none,l,l)/\l<=k/\(∀i,i<l->κ.kle (KK κ (arrOf a) (lo+i)) (KK κ (arrOf a) (lo+k)))/\∀i,l<=i->i<k->κ.klt (KK κ (arrOf a) (lo+k)) (KK κ (arrOf a) (lo+i))) ?_ ?_ ⟨U,0,k,U,Yo,Yo,Yo,λi B=>Yo,λi u v=>Yo⟩) ?_)
  .rintro x c b _ _ ⟨rfl,l,r,rfl,D,o,G,f,g⟩;dsimp only;by_cases c1:l >= r
   .rw[Q5 c1];obtain rfl:l=r:=Yo;exact wpS_pure ⟨U,l,U,o,f,g⟩
   .rw[Q4 c1];refine wpS_bind (iD F h' ok Yo Yo ?_);dsimp only
    cases e:κ.blt (KK κ (arrOf b) (lo+k)) (KK κ (arrOf b) (lo+(l+r) / 2))with
    |true=>
     rw[Q5 U];exact wpS_pure ⟨U,l,(l+r) / 2,U,Yo,Yo,Yo,f,λi u v=>KeyOrd.klt_of_klt_of_kle e (d _ _ u v)⟩
    |false=>
     rw[Q4 Yk];exact wpS_pure ⟨U,(l+r) / 2+1,r,U,Yo,Yo,Yo,λi u=>KeyOrd.kle_trans (d i ((l+r) / 2) Yo Yo) (show κ.kle _ _ from e),g⟩
  .rintro c b ⟨rfl,l,r,rfl,D,o,G,f,g⟩;obtain rfl:l=r:=Yo;exact⟨U,l,U,o,f,g⟩
  .rintro c b ⟨rfl,l,rfl,o,f,g⟩;dsimp only;rw[moveDown'_eq];have t:lo+k<(arrOf b).size:=by rw[h'.size];omega
   refine wpS_bind (wpS_modify (wpS_pure ⟨U,h'.put (bubble_perm _ _ _) λi B=>?_,?_⟩))
   .rw[getElem?_bubble t _ Yo];rw[Q4 Yo,Q4 Yo]
   .rw[show min (k+1) n=k+1 by omega];intro i j y _;show κ.kle (KK κ (bubble (arrOf b) (lo+k) (lo+k-(lo+l))) (lo+i)) (KK κ (bubble (arrOf b) (lo+k) (lo+k-(lo+l))) (lo+j));rw[KK_bubble t Yo,KK_bubble t Yo,show lo+k-(lo+k-(lo+l))=lo+l by omega];have H:∀z,lo+z-1=lo+(z-1)\/z=0:=λz=>Yo
    repeat' split
    all_goals first
     |(exfalso;omega)
     |exact KeyOrd.kle_refl _
     |exact f _ Yo
     |exact KeyOrd.kle_of_klt (g _ Yo Yo)
     |exact d _ _ Yo Yo
     |(rw[show lo+i-1=lo+(i-1)by omega,show lo+j-1=lo+(j-1)by omega];exact d _ _ (by omega) (by omega))
     |(rw[show lo+j-1=lo+(j-1)by omega];first|exact d _ _ (by omega) (by omega)|exact KeyOrd.kle_of_klt (g _ Yo Yo))
     |(rw[show lo+i-1=lo+(i-1)by omega];first|exact d _ _ (by omega) (by omega)|exact f _ (by omega))
 .rintro c a ⟨C,h',d⟩;exists C,h'
  rwa [show min (max (max m 1) n) n=n by omega]at d
 .by_cases c:m=0
  .obtain rfl:i=j:=by omega
   exact KeyOrd.kle_refl _
  .exact so i j y Yo
 .rintro c a ⟨rfl,h',d⟩;exact wpS_pure (q a h' d)
end
end
section
variable {κ:KeyKind}
def ce(κ:KeyKind):Nat->List (Nat×Nat×Nat)->List (List Keyed)->Prop
 |_,[],[]=>True
 |b,t::r,X::Xs=>t.1=b/\t.2.1=X.length/\0<X.length/\X.Pairwise (kLe κ)/\ce κ (b+X.length) r Xs
 |_,_,_=>False
theorem ce.len:∀{b:Nat}{p:List (Nat×Nat×Nat)}{Xs:List (List Keyed)},ce κ b p Xs->p.length=Xs.length
 |_,[],[],_=>rfl
 |_,_::_,_::_,h=>congrArg (·+1) (ce.len h.2.2.2.2)
theorem ce.few:∀{b:Nat}{p:List (Nat×Nat×Nat)}{Xs:List (List Keyed)},ce κ b p Xs->Xs.length<=Xs.flatten.length
 |_,[],[],_=>qf _
 |_,_::_,X::Xs,h=>by
  have:=ce.few h.2.2.2.2;have:=h.2.2.1;rw[List.flatten_cons,qc,qE];omega
theorem ce.snoc{X:List Keyed}{n w:Nat}(h0:0<X.length)(hn:n=X.length)(a:X.Pairwise (kLe κ)):∀{b:Nat}{p:List (Nat×Nat×Nat)}{Xs:List (List Keyed)}{lo:Nat},ce κ b p Xs->lo=b+Xs.flatten.length->ce κ b (p++[(lo,n,w)]) (Xs++[X])
 |b,[],[],lo,_,e=>⟨e,hn,h0,a,trivial⟩
 |b,t::r,X0::Xs,lo,h,e=>⟨h.1,h.2.1,h.2.2.1,h.2.2.2.1,ce.snoc h0 hn a h.2.2.2.2 (by rw[e,List.flatten_cons,qc];omega)⟩
theorem ce.alike:∀{b:Nat}{p c:List (Nat×Nat×Nat)}{Xs:List (List Keyed)},p.map (λt=>(t.1,t.2.1))=c.map (λt=>(t.1,t.2.1))->ce κ b p Xs->ce κ b c Xs
 |_,[],[],[],_,_=>trivial
 |_,t::r,t'::r',X::Xs,e,h=>by
  rw[qU,qU]at e;obtain⟨a,g⟩:=List.cons.inj e;have f:t.1=t'.1:=congrArg (·.1) a;have d:t.2.1=t'.2.1:=congrArg (·.2) a;exact⟨f.symm.trans h.1,d.symm.trans h.2.1,h.2.2.1,h.2.2.2.1,ce.alike g h.2.2.2.2⟩
theorem ce.two:∀{i b:Nat}{p:List (Nat×Nat×Nat)}{Xs:List (List Keyed)},ce κ b p Xs->i+1<p.length->∃pa sa na d c nb a pb,∃(C:List (List Keyed))(X X0:List Keyed)(D:List (List Keyed)),p=pa++(sa,na,d)::(c,nb,a)::pb/\pa.length=i/\Xs=C++X::X0::D/\sa=b+C.flatten.length/\na=X.length/\c=sa+na/\nb=X0.length/\0<na/\0<nb/\X.Pairwise (kLe κ)/\X0.Pairwise (kLe κ)/\∀M:List Keyed,M.length=na+nb->M.Pairwise (kLe κ)->ce κ b (pa++(sa,na+nb,d)::pb) (C++M::D)
 |0,b,(sa,na,d)::(c,nb,a)::pb,X::X0::D,h,_=>by
  obtain⟨h1,h2,j,f,n,e,_,z,v⟩:=h;have h1:sa=b:=h1;have h2:na=X.length:=h2;have n:c=b+X.length:=n;have e:nb=X0.length:=e;refine⟨[],sa,na,d,c,nb,a,pb,[],X,X0,D,U,U,U,by rw[h1];rfl,h2,Yo,e,Yo,Yo,f,z,λM l g=>⟨h1,l.symm,Yo,g,?_⟩⟩;rwa[l,h2,e,<- Nat.add_assoc]
 |0,_,[_],_,_,h=>by simp at h
 |0,_,(_::_::_),[_],h,_=>by
  exact Q8 h.2.2.2.2 (by simp[ce])
 |i+1,b,t::r,Z::Xs,h,hi=>by
  obtain⟨h1,h2,j,f,F⟩:=h;obtain⟨pa,sa,na,d,c,nb,a,pb,C,X,X0,D,s,y,q,x,w,A,B,E,u,m,o,k⟩:=ce.two (i:=i) F (by simpa using hi);refine⟨t::pa,sa,na,d,c,nb,a,pb,Z::C,X,X0,D,by rw[s];rfl,by rw[qE,y],by rw[q];rfl,by rw[x,List.flatten_cons,qc];omega,w,A,B,E,u,m,o,λM l g=>⟨h1,h2,j,f,k M l g⟩⟩
structure SI(κ:KeyKind)(a₀:Array Keyed)(st:SortSt)(Xs:List (List Keyed))(R:List Keyed):Prop where
 kd:kindOf st=oneType'
 fl:failedOf st=none
 pm:(arrOf st).toList.Perm a₀.toList
 eL:(arrOf st).toList=Xs.flatten++R
 ru:ce κ 0 (pendingOf st).toList Xs
section
variable {a₀:Array Keyed}{st:SortSt}{Xs:List (List Keyed)}{R:List Keyed}
theorem SI.size(h:SI κ a₀ st Xs R):Xs.flatten.length+R.length=a₀.size:=by
 have:=h.pm.length_eq;rw[h.eL,qc,qP]at this;exact this
theorem mS(I:κ.OneLt)(ok:∀p∈a₀.toList,KOk κ p)(h:SI κ a₀ st Xs R)(B:i+1<(pendingOf st).size){Q:Bool->SortSt->Prop}(q:∀a b,SI κ a₀ a b R->b.length+1=Xs.length->b.flatten.length=Xs.flatten.length->Q true a):wpS (model prog w) A E s (mergeAt' i) Q st:=by
 obtain⟨g,sa,l,n,H,nb,x,pb,C,X,X0,D,d,j,c,K,e,N,k,O,G,u,v,t⟩:=h.ru.two (i:=i) (by rw[qP];exact B)
 have F:(pendingOf st)[i]?=some (sa,l,n):=by
  rw[<- qW,d,qO Yo,j,Nat.sub_self]
  rfl
 have L:(pendingOf st)[i+1]?=some (H,nb,x):=by
  rw[<- qW,d,qO Yo,j,show i+1-i=1 by omega]
  rfl
 have eL:(arrOf st).toList=C.flatten++(X++(X0++(D.flatten++R))):=by
  rw[h.eL,c];simp only[List.flatten_append,List.flatten_cons,qQ]
 refine zt I h.kd (λp J=>ok p (h.pm.mem_iff.mp J)) h.fl F L eL (by rw[K,Nat.zero_add]) e.symm k.symm N O G u v λM a f z y m o=>?_;have r:M.length=l+nb:=by rw[f.1.length_eq,qc,e,k]
 refine q a (C++M::D) ⟨y,m,?_,?_,?_⟩ ?_ ?_
 .refine List.Perm.trans ?_ h.pm;rw[z,eL];refine List.Perm.append_left _ ?_;rw[<- qQ X X0];exact f.1.append_right _
 .rw[z];simp only[List.flatten_append,List.flatten_cons,qQ]
 .have:(pendingOf a).toList=g++(sa,l+nb,n)::pb:=by
   rw[o,Array.toList_eraseIdxIfInBounds,Array.toList_setIfInBounds,d,<- j,List.set_append_right _ _ (qf _),Nat.sub_self,List.eraseIdx_append_of_length_le Yo,show g.length+1-g.length=1 by omega]
   rfl
  rw[this];exact t M r f.2
 .rw[c];simp only[qc,qE];omega
 .rw[c];simp only[List.flatten_append,List.flatten_cons,qc,r,e,k];omega
end
theorem Bb{xs:Array Keyed}(c:lo+n<=xs.size)(h:cO κ xs lo n):((xs.toList.drop lo).take n).Pairwise (kLe κ):=by
 rw[List.pairwise_iff_getElem];intro i j a b _;rw[qN,Q3,qP]at a b;rw[List.getElem_take,List.getElem_take,List.getElem_drop,List.getElem_drop];have:=h i j Yo Yo
 have k:∀i (a:lo+i<xs.toList.length),KK κ xs (lo+i)=ky κ (xs.toList[lo+i]):=λi a=>KK_congr (by
  rw[<- qW,qd a]
  rfl)
 rw[k i (by rw[qP];omega),k j (by rw[qP];omega)]at this;exact this
theorem SBL.tail{st0 st:SortSt}(h:SBL st0 lo st){P R:List Keyed}(e:(arrOf st0).toList=P++R)(l:P.length=lo):(arrOf st).toList=P++(arrOf st).toList.drop lo/\((arrOf st).toList.drop lo).Perm R:=by
 have t:(arrOf st).toList.take lo=P:=by
  apply List.ext_getElem?;intro i;by_cases c:i<lo
  .rw[List.getElem?_take_of_lt c,qW,h.lw i c,<- qW,e,Q9 Yo]
  .rw[Qs (by rw[qN];omega),Qs Yo]
 have a:(arrOf st).toList=P++(arrOf st).toList.drop lo:=by
  conv=>lhs;rw[<- Qx lo (arrOf st).toList]
  rw[t]
 exists a;have:=Array.perm_iff_toList_perm.mp h.pm;rw[e,a]at this;exact(List.perm_append_left_iff P).mp this
theorem x6{p:Array (Nat×Nat×Nat)}{w:Nat}:((p.modify i λ(st,len,_)=>(st,len,w)).toList).map (λt=>(t.1,t.2.1))=p.toList.map (λt=>(t.1,t.2.1)):=by
 rw[Array.toList_modify];apply List.ext_getElem?;intro j;rw[qH,qH,List.getElem?_modify]
 cases p.toList[j]? with
 |none=>rfl
 |some t=>
  by_cases c:i=j
  .simp[c]
  .simp[c]
theorem SBL.refl{st:SortSt}{a:Nat}(h:kindOf st=oneType'):SBL st a st:=⟨Array.Perm.refl _,λ_ _=>U,h,U,U⟩
section
variable {a₀:Array Keyed}{st:SortSt}{Xs:List (List Keyed)}{R:List Keyed}
theorem SI.push(h:SI κ a₀ st Xs R)(el:Xs.flatten.length=lo)(n0:0<n)(a:n<=R.length)(so:(R.take n).Pairwise (kLe κ)):SI κ a₀ (setPending st ((pendingOf st).push (lo,n,0))) (Xs++[R.take n]) (R.drop n)/\(Xs++[R.take n]).flatten.length=lo+n:=by
 have lt:(R.take n).length=n:=by rw[qN];omega
 refine⟨⟨h.kd,h.fl,h.pm,?_,?_⟩,?_⟩
 .show(arrOf st).toList=_;rw[h.eL,List.flatten_append,qQ];show _=Xs.flatten++((R.take n++[])++R.drop n);rw[qA,Qx]
 .show ce κ 0 ((pendingOf st).push (lo,n,0)).toList _;rw[Array.toList_push];exact ce.snoc Yo lt.symm so h.ru (by rw[el,Nat.zero_add])
 .rw[List.flatten_append,qc,el];show lo+(R.take n++[]).length=_;rw[qA,lt]
end
theorem AD{xs:Array Keyed}(h:xs.toList.Pairwise (kLe κ)):SortedToK κ xs xs.size:=λi j d js=>by
 have k:∀i (a:i<xs.toList.length),KK κ xs i=ky κ (xs.toList[i]):=λi a=>KK_congr (by
  rw[<- qW,qd a]
  rfl)
 have b:j<xs.toList.length:=by rwa[qP]
 rcases Nat.lt_or_eq_of_le d with c|rfl
 .rw[k i Yo,k j b];exact List.pairwise_iff_getElem.mp h i j Yo b c
 .exact KeyOrd.kle_refl _
theorem zk{a₀:Array Keyed}{st:SortSt}{Q:Unit->SortSt->Prop}(C:κ.OneLt)(ok:∀p∈a₀.toList,KOk κ p)(Z:kindOf st=oneType')(f0:failedOf st=none)(p0:pendingOf st=#[])(M:arrOf st=a₀)(k:2<=a₀.size)(q:∀g,(arrOf g).Perm a₀->failedOf g=none->SortedToK κ (arrOf g) a₀.size->Q () g):wpS (model prog w) A E s sortRuns' Q st:=by
 rw[sortRuns'_eq];refine wpS_bind (wpS_get ?_);dsimp only;rw[M];refine wpS_bind (wpS_mono (wpS_forRange (I:=λx c g=>∃d i R,c=(none,d)/\SI κ a₀ g i R/\i.flatten.length=d/\x<=d) (Q:=λc g=>∃d i,c=(none,d)/\SI κ a₀ g i []) ?_ ?_ ⟨0,[],a₀.toList,U,⟨Z,f0,by rw[M],by rw[M];rfl,by rw[p0];trivial⟩,U,qf _⟩) ?_)
 .rintro x c g _ hx ⟨d,i,R,rfl,h,el,xl⟩;dsimp only;have sz:=h.size;by_cases c1:d >= a₀.size
  .rw[Q5 c1];obtain rfl:R=[]:=List.length_eq_zero_iff.mp Yo;exact wpS_pure ⟨d,i,U,h⟩
  .rw[Q4 c1];have za:(arrOf g).size=a₀.size:=by rw[<- qP,h.pm.length_eq,qP]
   refine wpS_bind (zB C (SBL.refl h.kd) (λp L=>ok p (h.pm.mem_iff.mp L)) Yo Yo λm b b2 m1 m2 J=>?_);dsimp only
   have H:∀n b,SBL g d b->1<=n->n<=a₀.size-d->cO κ (arrOf b) d n->SI κ a₀ b i ((arrOf b).toList.drop d)/\n<=((arrOf b).toList.drop d).length/\(((arrOf b).toList.drop d).take n).Pairwise (kLe κ):=λn b b2 n1 n2 J=>by
    obtain⟨t1,_⟩:=b2.tail h.eL el;have W:(arrOf b).size=a₀.size:=b2.size.trans za;refine⟨⟨b2.kd,b2.fl.trans h.fl,(Array.perm_iff_toList_perm.mp b2.pm).trans h.pm,t1,by rw[b2.pd];exact h.ru⟩,by rw[Q3,qP];omega,Bb Yo J⟩
   by_cases c2:m<minRun' a₀.size a₀.size 0
   .rw[Q5 c2];refine wpS_bind (wpS_lift (wpAny_rule ⟨U,?_⟩));refine wpS_bind (zD C b2 (λp L=>ok p (h.pm.mem_iff.mp L)) Yo Yo J λl b3 s3=>?_);rw[Q4 Yk];obtain⟨B,G,F⟩:=H _ l b3 Yo Yo s3;refine wpS_bind (wpS_get ?_)
    cases(pendingOf l).back? with
    |none=>
     dsimp only;obtain⟨e,j⟩:=B.push el Yo G F;exact wpS_bind (wpS_modify (wpS_pure ⟨_,_,_,U,e,j,Yo⟩))
    |some t=>
     obtain⟨u,v,z⟩:=t;dsimp only;generalize power' a₀.size (2 * u+v) _ a₀.size=pw;refine wpS_bind (wpS_mono (wpS_forRange (I:=λ_ c a=>c=(none,())/\∃f,SI κ a₀ a f ((arrOf l).toList.drop d)/\f.flatten.length=d) (Q:=λc a=>c=(none,())/\∃f,SI κ a₀ a f ((arrOf l).toList.drop d)/\f.flatten.length=d) ?_ (λc a K=>K) ⟨U,i,B,el⟩) ?_)
     .rintro y c a _ _ ⟨rfl,f,e,j⟩;refine wpS_bind (wpS_get ?_);by_cases c3:(pendingOf a).size > 1
      .rw[Q5 c3,getElem?_pos (pendingOf a) ((pendingOf a).size-2) Yo];dsimp only;by_cases c4:((pendingOf a)[(pendingOf a).size-2]' Yo).2.2<=pw
       .rw[Q5 c4];exact wpS_pure ⟨U,f,e,j⟩
       .rw[Q4 c4];refine wpS_bind (mS C ok e Yo λT O o _ N=>?_);exact wpS_pure ⟨U,O,o,N.trans j⟩
      .rw[Q4 c3];exact wpS_pure ⟨U,f,e,j⟩
     .rintro c a ⟨rfl,f,e,j⟩;dsimp only;refine wpS_bind (wpS_modify ?_);have o:SI κ a₀ (setPending a ((pendingOf a).modify ((pendingOf a).size-1) λx=>(x.1,x.2.1,pw))) f ((arrOf l).toList.drop d):=⟨e.kd,e.fl,e.pm,e.eL,ce.alike x6.symm e.ru⟩;obtain⟨S,P⟩:=o.push j Yo G F;exact wpS_bind (wpS_modify (wpS_pure ⟨_,_,_,U,S,P,Yo⟩))
   .rw[Q4 c2];obtain⟨B,G,F⟩:=H _ b b2 m1 m2 J;refine wpS_bind (wpS_get ?_)
    cases(pendingOf b).back? with
    |none=>
     dsimp only;obtain⟨e,j⟩:=B.push el Yo G F;exact wpS_bind (wpS_modify (wpS_pure ⟨_,_,_,U,e,j,Yo⟩))
    |some t=>
     obtain⟨u,v,z⟩:=t;dsimp only;generalize power' a₀.size (2 * u+v) _ a₀.size=pw;refine wpS_bind (wpS_mono (wpS_forRange (I:=λ_ c a=>c=(none,())/\∃f,SI κ a₀ a f ((arrOf b).toList.drop d)/\f.flatten.length=d) (Q:=λc a=>c=(none,())/\∃f,SI κ a₀ a f ((arrOf b).toList.drop d)/\f.flatten.length=d) ?_ (λc a K=>K) ⟨U,i,B,el⟩) ?_)
     .rintro y c a _ _ ⟨rfl,f,e,j⟩;refine wpS_bind (wpS_get ?_);by_cases c3:(pendingOf a).size > 1
      .rw[Q5 c3,getElem?_pos (pendingOf a) ((pendingOf a).size-2) Yo];dsimp only;by_cases c4:((pendingOf a)[(pendingOf a).size-2]' Yo).2.2<=pw
       .rw[Q5 c4];exact wpS_pure ⟨U,f,e,j⟩
       .rw[Q4 c4];refine wpS_bind (mS C ok e Yo λT O o _ N=>?_);exact wpS_pure ⟨U,O,o,N.trans j⟩
      .rw[Q4 c3];exact wpS_pure ⟨U,f,e,j⟩
     .rintro c a ⟨rfl,f,e,j⟩;dsimp only;refine wpS_bind (wpS_modify ?_);have o:SI κ a₀ (setPending a ((pendingOf a).modify ((pendingOf a).size-1) λx=>(x.1,x.2.1,pw))) f ((arrOf b).toList.drop d):=⟨e.kd,e.fl,e.pm,e.eL,ce.alike x6.symm e.ru⟩;obtain⟨S,P⟩:=o.push j Yo G F;exact wpS_bind (wpS_modify (wpS_pure ⟨_,_,_,U,S,P,Yo⟩))
 .rintro c g ⟨d,i,R,rfl,h,el,xl⟩;have sz:=h.size;obtain rfl:R=[]:=List.length_eq_zero_iff.mp Yo;exact⟨d,i,U,h⟩
 .rintro c g ⟨d,i,rfl,h⟩;dsimp only;have few:=h.ru.few;have sz:=h.size;rw[List.length_nil]at sz;refine wpS_bind (wpS_mono (wpS_forRange (I:=λx c b=>c=(none,())/\∃i,SI κ a₀ b i []/\(i.length<=1\/i.length+x<=a₀.size)) (Q:=λc b=>c=(none,())/\∃i,SI κ a₀ b i []/\i.length<=1) ?_ ?_ ⟨U,i,h,.inr Yo⟩) ?_)
  .rintro x c b _ hx ⟨rfl,D,k,V⟩;refine wpS_bind (wpS_get ?_);have l2:=k.ru.len;rw[qP]at l2;by_cases c1:(pendingOf b).size<=1
   .rw[Q5 c1];exact wpS_pure ⟨U,D,k,Yo⟩
   .rw[Q4 c1];have X0:∀(c:Prop)[Decidable c],(if c then(pendingOf b).size-2-1 else(pendingOf b).size-2)+1<(pendingOf b).size:=λc _=>by split<;>omega
    refine wpS_bind (mS C ok k (X0 _) λl X3 B _ _=>?_);exact wpS_pure ⟨U,X3,B,Yo⟩
  .rintro c b ⟨rfl,D,k,V⟩;exact⟨U,D,k,Yo⟩
  .rintro c b ⟨rfl,D,k,l2⟩;refine wpS_pure (q b (Array.perm_iff_toList_perm.mpr k.pm) k.fl ?_);have W:(arrOf b).size=a₀.size:=by rw[<- qP,k.pm.length_eq,qP]
   rw[<- W];refine AD ?_;rw[k.eL,qA]
   match D,k,l2 with
   |[],_,_=>exact List.Pairwise.nil
   |[X],k,_=>
    have r:=k.ru
    cases ep:(pendingOf b).toList with
    |nil=>rw[ep]at r;exact Q8 r (by simp[ce])
    |cons t _=>
     rw[ep]at r;have:=r.2.2.2.1;show(X++[]).Pairwise (kLe κ);rwa[qA]
end
theorem AF{κ:KeyKind}(d:κ.OneLt){l:Addr}{P:Fin->Shared->Prop}(at0:s.heap.get? l=some (seqObj "list" us.toArray n))(c:KeysOf κ (pairsOf us))(one:∀u v r,us=u::v::r->keyKind' (u::v::r).toArray=pure oneType')(m:us.length<=100000)
 (fin:∀z:SortSt,(arrOf z).Perm (pairsOf us)->SortedToK κ (arrOf z) (pairsOf us).size->P (.done (.ret .none)) { s with heap:=sortedHeap s.heap l us ((arrOf z).map (·.2)) }):
 wpAny (model prog w) A (Builtin.«list.sort» ⟨[.ref l],[]⟩) P E s:=by
 have big:(100000:Nat)<=sizeLine:=Yk;by_cases h64:us.length<64
 .exact list_sort_treeK d at0 c one h64 fin
 have lt:=qt at0;have sz:us.toArray.size=us.length:=qF;rw[list_sort_plain];refine q9 (listItems_at at0 U (q9 (listUpdate_at at0 U ?_)));obtain⟨b,a⟩:∃b,(s.heap.update l (Obj.mapSeq λ_=>#[])).get? l=some (seqObj "list" #[] b):=⟨_,get?_update_seq at0 (λ_=>#[])⟩;refine q9 (seqEpoch_at a U (q9 (wpAny_newTuple (q9 (wpAny_newList (Qy ?_)))) ))
 have at2:(((s.heap.update l (Obj.mapSeq λ_=>#[])).push (seqObj "tuple" us.toArray 0)).push (seqObj "list" #[] 0)).get? l=some (seqObj "list" #[] b):=by
  rw[Heap.get?_push_ne _ _ _ (by rw[size_push',Heap.size_update];exact qJ (Qt lt)),Heap.get?_push_ne _ _ _ (by rw[Heap.size_update];exact qJ lt)];exact a
 show wpAny (model prog w) A _ P E { s with heap:=((s.heap.update l (Obj.mapSeq λ_=>#[])).push (seqObj "tuple" us.toArray 0)).push (seqObj "list" #[] 0) };dsimp only;have two:¬ us.toArray.size<2:=Yo;rw[Q4 two,Q4 two]
 obtain⟨u,v,r,rfl⟩:∃u v r,us=u::v::r:=by
  match us,sz,two with
  |[],_,h=>simp at h
  |[_],_,h=>simp at h
  |u::v::r,_,_=>exact⟨u,v,r,U⟩
 rw[one _ _ _ U];refine q9 (qe ?_)
 refine q9 (wpAny_mono (zk (κ:=κ) (a₀:=pairsOf (u::v::r)) (st:=SortSt.mk' oneType' ((u::v::r).toArray.zip (u::v::r).toArray) #[] 7 none) (Q:=λ_ z=>(arrOf z).Perm (pairsOf (u::v::r))/\failedOf z=none/\SortedToK κ (arrOf z) (pairsOf (u::v::r)).size)
  d c U U U U (by rw[pairsOf_size];simp) λz g j k=>⟨g,j,k⟩) ?_ λ_ _ e=>e)
 rintro⟨⟨⟩,z⟩ _ ⟨rfl,f,i,zs⟩;dsimp only
 refine q9 (seqEpoch_at at2 U (q9 (listUpdate_at at2 U ?_ (hsz2:=by
  refine qC (Nat.le_of_eq ((Array.size_map ..).trans (f.size_eq.trans (pairsOf_size _)))) ?_
  omega))))
 rw[i];simp only[bne_self_eq_false,Qn,if_false];exact qe (fin z f zs)
end L2
namespace Tr
open PySem PySem.Spec PyProof.Rows L2
section
variable {Hb H0' H1:Hp}{own:LK}
end
section
variable {Hb H0' H1:Hp}{s0 s1 s2:Addr}
end
end Tr
namespace L2
open PySem PySem.Spec PyProof.Rows PySem.W
section
variable {k:Nat}{C0:Addr}{ds:LL}{fx cx y m n:Str}{iy im inn:Nat}{p py cp pm pn pl pa hpos tpos:Pos}{es:LR}{t:TA}
end
end L2
namespace Tr
open PySem PySem.Spec PyProof.Rows L2
end Tr
namespace L2
open PySem PySem.Spec PyProof.Rows
theorem xK:∀{ys:LI}{its:LL},ax (ys.map V.int) its->IntsAre its ys
 |[],[],_=>.nil
 |y::ys,_::_,.cons h r=>by
  obtain⟨t,rfl⟩:=h;exact .cons y t (xK r)
end L2
namespace Tr
open PySem PySem.Spec PyProof.Rows L2
section
variable {Hb H0' H1:Hp}{s0 s1 s2:Addr}{os:LV}
end
end Tr
namespace L2
open PySem PySem.Spec PyProof.Rows
@[reducible] def intKey:KeyKind where
  α:=Int
  blt a b:=decide (a<b)
  irrefl a:=by simp
  trans a b c h1 h2:=by simp only[decide_eq_true_eq]at *;omega
  negTrans a b c h:=by simp only[decide_eq_true_eq]at *;omega
  total a b h1 h2:=by simp only[decide_eq_false_iff_not]at *;omega
  keyOf v:=match v with|.int n _=>some n|_=>none
  dflt:=0
theorem EY:intKey.OneLt:=by
 intro prog w A E s x y a b Q ha hb h;cases x<;>simp only[intKey,reduceCtorEq,Option.some.injEq]at ha;cases y<;>simp only[intKey,reduceCtorEq,Option.some.injEq]at hb;cases ha;cases hb;exact oneLt_int h
theorem EX{vs:LL}(h:IntsAre vs ns):KeysOf intKey (pairsOf vs):=λp a=>by
 obtain⟨n,t,e⟩:=h.intKeys p a;rw[e];exact⟨n,U⟩
theorem yU{xs:Array Keyed}(h:IntKeys xs)(a:i<xs.size):KK intKey xs i=PyProof.Rows.K xs i:=by
 unfold KK PyProof.Rows.K;rw[getElem?_pos xs i a];obtain⟨n,t,e⟩:=h xs[i] (by simp);dsimp only;rw[e]
 rfl
theorem AE{l:Addr}{vs:LL}(hl:s.heap.IsList l vs.toArray)(a:IntsAre vs ns)(d:vs.length<=100000)
 (q:∀(out:LD)(zs:LI),IntsAre out.toList zs->zs.Perm ns->zs.Pairwise (·<=·)->Q (.ref (s.heap.objs.size+1)) { s with heap:=sortedAll s.heap vs out }):wpAny (model prog w) A (call (.builtin "sorted") [.ref l]) Q E s:=by
 refine Calls.call_function_entry kind_sorted plain_sorted entry_sorted (args_sorted1 _) ?_;unfold Builtin.«sorted»;refine q9 (m:=checkCount "sorted" 1 1 _) (qe (q9 (collect_list hl (q9 (wpAny_newList ?_)))));have n1:((s.heap.push (seqObj "list" #[] 0)).update s.heap.objs.size (Obj.mapSeq (·++vs.toArray))).objs.size=s.heap.objs.size+1:=by rw[Heap.size_update,size_push']
 have b:(((s.heap.push (seqObj "list" #[] 0)).update s.heap.objs.size (Obj.mapSeq (·++vs.toArray))).push (seqObj "list" vs.toArray 0)).get? (s.heap.objs.size+1)=some (seqObj "list" vs.toArray 0):=by rw[<- n1];exact qr _ U
 show wpAny _ _ _ _ _ { s with heap:=((s.heap.push (seqObj "list" #[] 0)).update s.heap.objs.size (Obj.mapSeq (·++vs.toArray))).push (seqObj "list" vs.toArray 0) };rw[n1];refine q9 (Qy (Qm slot_list_sort ⟨_,b,U⟩ entry_list_sort (AF EY b (EX a) (λu v r e=>keyKind_ints (by rwa[<- e])) d λz c o=>⟨_,U,?_⟩) (args_list_sort _)));have g:IntKeys (arrOf z):=λp n=>a.intKeys p ((Array.perm_iff_toList_perm.mp c).mem_iff.mp n);have sz:(arrOf z).size=(pairsOf vs).size:=c.size_eq
 obtain⟨zs,x,t,k⟩:=sorted_out a c (λi j f h=>by
  have:=o i j f h;rw[yU g Yo,yU g Yo]at this;have this:decide (PyProof.Rows.K (arrOf z) j<PyProof.Rows.K (arrOf z) i)=false:=this;simp only[decide_eq_false_iff_not]at this
  omega)
 exact qe ⟨_,U,q _ zs x t k⟩
theorem Gq(x:X.calm=true):cJ X (.builtin "sorted") (λxs H Q=>∃(p:Addr)(ys:LI),xs=[.ref p]/\SqL X.K H p (ys.map V.int)/\ys.length<=100000 /\
 ∀l zs,H l=none->zs.Perm ys->List.Pairwise (λj k=>j<=k) zs->Q (.ref l) (upd H l (.lst (zs.map V.int)))):=by
 intro _ s Y H xs us Q I r h;obtain⟨p,ys,rfl,v,i,q⟩:=h;obtain⟨u,rfl,w⟩:=fF r;cases w;obtain⟨c,f,pl,_⟩:=I.list v;have d:=f.length;rw[qa]at d;refine AE (vs:=c) pl.isList (xK f) Yo λout zs t g so=>?_;obtain⟨n,e⟩:=sortedAll_at s.heap c out;have m:zs.length<=sizeLine:=by rw[g.length_eq];exact qC i Yk
 have J:=I.laid (t':=s.toks) (h':=sortedAll s.heap c out) (a:=s.heap.objs.size+1) (o:=.lst (zs.map V.int)) (λb o q=>sortedAll_old q) (Nat.le_succ _) ⟨by rwa[qa],out.toList,n,mT t,e⟩;exact⟨.ref (s.heap.objs.size+1),_,J,U,q _ zs (I.hok.fresh (Nat.le_succ _)) g so⟩
end L2
namespace Tr
open PySem PySem.Spec PyProof.Rows L2
end Tr
namespace L2
open PySem PySem.Spec PyProof.Rows
section
variable [DecidableEq κ] {knd:PySem.KeyKind P w κ}
end
end L2
namespace Tr
open PySem PySem.Spec PyProof.Rows L2
end Tr
namespace L2
open PySem PySem.Spec PyProof.Rows
section
variable {m:Nat}{p:Array Nat}
end
theorem yf{xs:LV}{g:TG}{c:LV->Hp->Prop}(b:Nat->LV->St->Hp->Prop)(h0:b 0 [] Y H)(h:∀i ys Y H,i<=xs.length->b i ys Y H->ys.length<=i)(e:xs.length<=sizeLine)(hl:∀i ys Y H,b i ys Y H->SqT K H a xs)
 (f:∀i x ys Y H,xs[i]?=some x->b i ys Y H->g x Y H λd H2=>te d H2 λy H4=>b (i+1) (ys++[y]) d H4)
 (hd:∀ys Y H,b xs.length ys Y H->c ys H):∃W:Nat->Nat->LV->St->Hp->Prop,(∃m,W 0 m [] Y H)/\gZ (Itt K a) g iG te c W:=
 sS b h0 h e hl (λi x ys Y H e p=>by
  rw[mP (N':=λ_ _ _=>True)]
  exact f i x ys Y H e p) hd
end L2
namespace Tr
open PySem PySem.Spec PyProof.Rows L2
end Tr
namespace L2
open PySem
set_option maxHeartbeats 3200000 in
open PySem.Spec PyProof.Rows
end L2
namespace Tr
open PySem PySem.Spec PyProof.Rows L2
end Tr
namespace L2
open PySem PySem.Spec PyProof.Rows
end L2
namespace Tr
open PySem PySem.Spec PyProof.Rows L2 PySem.NumText
end Tr
namespace HT
open PySem PyProof.Rows
end HT
namespace L2
open PySem PySem.Spec PyProof.Rows
end L2
namespace Tr
open PySem PySem.Spec PyProof.Rows L2
end Tr
namespace L2
open PySem PySem.Spec PyProof.Rows
section
variable {o f i value:Expr}{td ty tx tv:TE}
end
theorem tY:∀{bs:List Bool}{us:LL},ax (bs.map V.bl) us->us=bs.map Value.bool
 |[],_,.nil=>rfl
 |_::_,_,.cons h r=>by rw[tY r,show _=Value.bool _ from h];rfl
noncomputable def t6(x:Bool):Value->Bool
 |.bool y=>y == x
 |_=>false
def BX:V->LV->Hp->VK->Prop:=λv xs H Q=>∃(l:Addr)(bs:List Bool)(x:Bool)(i:Nat),v=.ref l/\xs=[.bl x]/\H l=some (.lst (bs.map V.bl))/\bs[i]?=some x/\(∀j,j<i->bs[j]?=some (!x))/\bs.length<=1000/\Q (.int (i:Nat)) H
theorem DY:MtM X "list.index" BX:=by
 intro _ s Y H x vs v us Q I g f h;obtain⟨l,bs,y,i,rfl,rfl,j,d,hn,_,q⟩:=h;cases g;obtain⟨u,rfl,rfl⟩:=f.one;obtain⟨z,_,n,r,hl,e⟩:=I.lstM j;cases tY r;have lt:=(qg.mp d).1
 have at2:∀{m:Nat}{b:Bool}(a:m<(bs.map Value.bool).toArray.size),bs[m]?=some b->(bs.map Value.bool).toArray[m]=.bool b:=λ{m b} a h=>by
  rw[List.getElem_toArray,List.getElem_map,(qg.mp h).2]
 have sz:(bs.map Value.bool).toArray.size=bs.length:=by simp
 refine call_meets PySem.F.slot_list_index ⟨_,e,U⟩ PySem.F.entry_list_index (PySem.F.args_list_index_2 _ _)
  (MeetsSeq.list_index l (bs.map Value.bool).toArray n (.bool y) (t6 y) (λw hw=>?_) i Yo Yo ?_ (λm a c=>?_)) ⟨e,?_⟩
 .obtain⟨b,_,rfl⟩:=List.mem_map.mp (by simpa using hw:w∈bs.map Value.bool);exact λprog w A E s Q h=>PySem.SeqAt.EqAt.bool_bool b y prog w E Q h
 .rw[at2 _ d];simp[t6]
 .rw[at2 _ (hn m c)];simp[t6]
 .exact⟨.int i,H,I.tok _,⟨_,U⟩,q⟩
end L2
namespace L2
open PySem PySem.Spec PyProof.Rows PySem.W
section
variable {x0:Str}{k:Nat}
end
section
variable {x0:Str}{k:Nat}{iter elt:Expr}{g:TG}
end
open PySem.SeqAt
open PySem.AutoSeq1 (wpAny_loadPart')
open PySem.MeetsSeq PySem.MeetsSeq2 PySem.MeetsSeq3
section
variable {R:Result->Shared->Prop}{wr:LK}{P:Nat->Value->Prop}{St:Nat->Heap->Prop}
end
end L2
namespace Tr
open PySem PySem.Spec PyProof.Rows L2
end Tr
namespace L2
open PySem PySem.Spec PyProof.Rows PySem.W
noncomputable def sw(x:Int):Value->Bool
 |.int y _=>y == x
 |_=>false
theorem tX(r:ax (ns.map V.int) us):∀{i:Nat}{u:Value},us[i]?=some u->∃n t,ns[i]?=some n/\u=.int n t:=by
 induction ns generalizing us with
 |nil=>cases r;intro i u h;simp at h
 |cons n ns b=>
  cases r with
  |cons h r=>
   obtain⟨t,rfl⟩:=h;intro i u a
   cases i with
   |zero=>cases a;exact⟨n,t,U,U⟩
   |succ i=>exact b r (by simpa using a)
theorem zJ{xs:LV}(r:ax xs us):∀i:Nat,ax (xs.eraseIdx i) (us.eraseIdx i):=by
 induction r with
 |nil=>intro i;exact .nil
 |cons h r a=>
  intro i
  cases i with
  |zero=>exact r
  |succ i=>exact .cons h (a i)
theorem sJ{b c:Type}(f:b->c):∀(l:List b)(i:Nat),(l.eraseIdx i).map f=(l.map f).eraseIdx i
 |[],_=>rfl
 |_::_,0=>rfl
 |a::l,i+1=>by simp[List.eraseIdx,sJ f l i]
def BR:V->LV->Hp->VK->Prop:=λv xs H Q=>∃(l:Addr)(ns:LI)(x:Int)(i:Nat),v=.ref l/\xs=[.int x]/\H l=some (.lst (ns.map V.int))/\ns[i]?=some x/\(∀j,j<i->ns[j]?≠some x)/\ns.length<=100000/\Q .non (upd H l (.lst ((ns.eraseIdx i).map V.int)))
theorem DX:MtM X "list.remove" BR:=by
 intro _ s Y H x vs v us Q I C B h;obtain⟨l,ns,y,i,rfl,rfl,p,o,hn,_,q⟩:=h;cases C;obtain⟨u,rfl,t,rfl⟩:=B.one;obtain⟨z,a,n,r,hl,e⟩:=I.lstM p;have D:a.length=ns.length:=by have:=r.length;rw[qa]at this;exact this.symm
 have lt:=(qg.mp o).1;have big:(100000:Nat)<sizeLine:=Yk
 have k:∀{m:Nat}(g:m<a.toArray.size),∃b t',ns[m]?=some b/\a.toArray[m]=.int b t':=λ{m} g=>by
  obtain⟨b,t',c,f⟩:=tX r (qd (by simpa using g));exact⟨b,t',c,by rwa[List.getElem_toArray]⟩
 refine call_meets PySem.F.slot_list_remove ⟨_,e,U⟩ PySem.F.entry_list_remove (PySem.F.args_list_remove_2 _ _)
  (MeetsSeq.list_remove l a.toArray n (.int y t) (sw y) (λw hw=>?_) i (by rw[qF];omega) ?_ (λm g d=>?_) (by rw[qF];omega)) ⟨e,?_⟩
 .obtain⟨j,A⟩:=List.mem_iff_getElem?.mp (by simpa using hw:w∈a);obtain⟨b,t',_,rfl⟩:=tX r A;exact MeetsSeq.EqGives.int b y t' t
 .obtain⟨b,t',c,f⟩:=k (m:=i) (by rw[qF];omega);rw[f];rw[o]at c;cases c;simp[sw]
 .obtain⟨b,t',c,f⟩:=k g;rw[f];have:b≠y:=λz=>hn m d (by rw[c,z]);simp[sw,this]
 .refine⟨.non,_,I.lset (its':=a.eraseIdx i) p e ?_ (by rw[sJ];exact zJ r i) ?_,U,q⟩
  .have d:i<a.toArray.size:=by rw[qF];omega
   show a.toArray.eraseIdxIfInBounds i=_;unfold Array.eraseIdxIfInBounds;rw[dif_pos d];simp
  .rw[qa,List.length_eraseIdx];split<;>omega
end L2
set_option Elab.async false
set_option maxRecDepth 100000
set_option maxHeartbeats 4000000
namespace K28
open PySem L2 Tr
seal PE PT PW PA PS PSs PG PGs PI PTs PO OpR UnR cJ TruR IxR SlR
local macro_rules|`(tactic| obtain⟨$ps,*⟩:=$t:term)=>do if ps.getElems.size<4 then Lean.Macro.throwUnsupported else `(tactic| (refine hide ?_;intro G go;(rcases $t:term with⟨$ps,*⟩)<;>(refine go ?_;clear go G)))
local macro_rules|`(tactic| rintro $ps:rintroPat*)=>do match ps.back! with|`(rintroPat| ⟨$qs,*⟩)=>(if qs.getElems.size<4 then Lean.Macro.throwUnsupported else if ps.size=1 then `(tactic| (intro h;obtain⟨$qs,*⟩:=h))else `(tactic| (rintro $(ps.pop)*;intro h;obtain⟨$qs,*⟩:=h)))|_=>Lean.Macro.throwUnsupported
local macro_rules|`(tactic| walk_at "rds")=>`(tactic| first|assumption|decide|omega)
local macro_rules|`(tactic| walk_at "rd")=>`(tactic| repeat (first|refine⟨_,rfl,?_⟩|refine⟨_,_,rfl,rfl,?_⟩|refine⟨rfl,_,rfl,?_⟩|refine⟨_,_,rfl,rfl,by walk_at "rds",?_⟩|refine And.intro (by walk_at "rds") ?_))
local macro_rules|`(tactic| walk_at "yes")=>`(tactic| refine bD (by decide +kernel) ?_)
local macro_rules|`(tactic| walk_at "no")=>`(tactic| refine aL (by decide +kernel) ?_)
local macro_rules|`(tactic| walk_at "l")=>`(tactic| (intro _ _ _ _ h;cases h;subst_vars;rfl))
local macro_rules|`(tactic| walk_at "q")=>`(tactic| try dsimp only[ig,Cx.nox])
abbrev nV:Stmt:=top 3
abbrev kN:Stmt:=top 4
abbrev nW:Stmt:=top 5
abbrev kM:Stmt:=top 6
abbrev o7:Stmt:=top 7
abbrev iQ:Stmt:=inClass (top 9) 0
abbrev oU:Stmt:=inClass (top 9) 1
abbrev oS:Stmt:=inClass (top 9) 2
abbrev oT:Stmt:=inClass (top 9) 3
abbrev o9:Stmt:=top 10
abbrev o8:Stmt:=top 11
abbrev oy:Stmt:=top 15
abbrev ox:Stmt:=top 16
abbrev kO:Stmt:=top 17
abbrev nY:Stmt:=top 18
abbrev nX:Stmt:=top 22
abbrev o6:Stmt:=top 23
abbrev nZ:Stmt:=top 24
abbrev oa:Stmt:=top 25
abbrev ou:Stmt:=top 26
abbrev oh:Stmt:=top 33
abbrev oo:Stmt:=top 34
abbrev nU:Stmt:=top 35
abbrev nR:Stmt:=top 36
abbrev nS:Stmt:=top 37
abbrev o1:Stmt:=top 38
abbrev oq:Stmt:=top 39
abbrev oQ:Stmt:=top 41
abbrev oJ:Stmt:=top 42
abbrev oz:Stmt:=top 43
abbrev oK:Stmt:=top 44
abbrev oA:Stmt:=top 45
abbrev oE:Stmt:=top 46
abbrev oB:Stmt:=top 47
abbrev oF:Stmt:=top 48
abbrev oR:Stmt:=top 49
abbrev oH:Stmt:=top 50
abbrev oC:Stmt:=top 51
abbrev oN:Stmt:=top 52
abbrev kP:Stmt:=top 53
abbrev jt:Stmt:=top 54
abbrev oO:Stmt:=top 55
abbrev oP:Stmt:=top 56
abbrev oG:Stmt:=top 57
abbrev kQ:Stmt:=top 58
abbrev gC:Stmt:=top 59
theorem Be:aT ["deeds","stores"] ["deeds","stores"] (aH nV):=⟨U,U,U,Yd,U,Yd,Yd⟩
theorem eB:aT ["waits_by_cards","deeds","stores","waits","puts_by_store","gets_by_store","store","length","puts","gets","put","get","count","awaited"] ["waits_by_cards","deeds","stores"] (aH kN):=⟨U,U,U,Yd,U,Yd,Yd⟩
theorem iI:aT ["deeds","owners","waits","number","deed","card"] ["deeds"] (aH nW):=⟨U,U,U,Yd,U,Yd,Yd⟩
theorem Bf:aT ["cards","kind","owners"] ["cards","kind","owners"] (aH kM):=⟨U,U,U,Yd,U,Yd,Yd⟩
theorem kJ:aT ["deeds","place","numbers","number","deed"] ["deeds","place"] (aH o7):=⟨U,U,U,Yd,U,Yd,Yd⟩
theorem Bq:aT ["self","waits"] ["self","waits"] (aH iQ):=⟨U,U,U,Yd,U,Yd,Yd⟩
theorem kL:aT ["self","deed","ready","looking","wait"] ["self","deed"] (aH oU):=⟨U,U,U,Yd,U,Yd,Yd⟩
theorem nQ:aT ["self","deed","waits","wait"] ["self","deed"] (aH oS):=⟨U,U,U,Yd,U,Yd,Yd⟩
theorem iO:aT ["self","deed","places","path","wait"] ["self"] (aH oT):=⟨U,U,U,Yd,U,Yd,Yd⟩
theorem Bk:aT ["deeds","stores"] ["deeds","stores"] (aH o9):=⟨U,U,U,Yd,U,Yd,Yd⟩
theorem nN:aT ["waits","looking","deed"] ["waits"] (aH o8):=⟨U,U,U,Yd,U,Yd,Yd⟩
theorem jr:aT ["block","found","deed","inner"] ["block"] (aH oy):=⟨U,U,U,Yd,U,Yd,Yd⟩
theorem Bm:aT ["deed"] ["deed"] (aH ox):=⟨U,U,U,Yd,U,Yd,Yd⟩
theorem vK:aT ["deed","kind"] ["deed"] (aH kO):=⟨U,U,U,Yd,U,Yd,Yd⟩
theorem Bg:aT ["deed"] ["deed"] (aH nY):=⟨U,U,U,Yd,U,Yd,Yd⟩
theorem nK:aT ["block","cards","deed"] ["block"] (aH nX):=⟨U,U,U,Yd,U,Yd,Yd⟩
theorem Bj:aT ["deed"] ["deed"] (aH o6):=⟨U,U,U,Yd,U,Yd,Yd⟩
theorem Bh:aT ["store"] ["store"] (aH nZ):=⟨U,U,U,Yd,U,Yd,Yd⟩
theorem Bl:aT ["store"] ["store"] (aH oa):=⟨U,U,U,Yd,U,Yd,Yd⟩
theorem kK:aT ["program","cards","store","length"] ["program"] (aH ou):=⟨U,U,U,Yd,U,Yd,Yd⟩
theorem vL:aT ["program","deeds"] ["program"] (aH oh):=⟨U,U,U,Yd,U,Yd,Yd⟩
theorem jq:aT ["block","count","deed"] ["block"] (aH oo):=⟨U,U,U,Yd,U,Yd,Yd⟩
theorem kI:aT ["block","deeds","deed"] ["block"] (aH nU):=⟨U,U,U,Yd,U,Yd,Yd⟩
theorem vI:aT ["rounds","body","gate"] ["rounds","body"] (aH nR):=⟨U,U,U,Yd,U,Yd,Yd⟩
theorem vJ:aT ["deed","kind"] ["deed"] (aH nS):=⟨U,U,U,Yd,U,Yd,Yd⟩
theorem Bi:aT ["kind","cards"] ["kind","cards"] (aH o1):=⟨U,U,U,Yd,U,Yd,Yd⟩
theorem iJ:aT ["deeds","standing","number","deed","into","outof"] ["deeds"] (aH oq):=⟨U,U,U,Yd,U,Yd,Yd⟩
theorem Bp:aT ["_law_script","_law_k"] ["_law_script","_law_k"] (aH oQ):=⟨U,U,U,Yd,U,Yd,Yd⟩
theorem vN:aT ["_law_cell","_law_k","_law_number"] ["_law_cell","_law_k"] (aH oJ):=⟨U,U,U,Yd,U,Yd,Yd⟩
theorem Bn:aT ["_law_found"] ["_law_found"] (aH oz):=⟨U,U,U,Yd,U,Yd,Yd⟩
theorem iL:aT ["_law_number","_law_size","_law_some","_law_word","_law_k"] ["_law_number","_law_size"] (aH oK):=⟨U,U,U,Yd,U,Yd,Yd⟩
theorem vM:aT ["_law_word","_law_some"] ["_law_word"] (aH oA):=⟨U,U,U,Yd,U,Yd,Yd⟩
theorem eQ:aT ["_law_cell","_law_many","_law_some","_law_number","_law_base","_law_size","_law_at","_law_words","_law_k","_law_sign","_law_word"] ["_law_cell","_law_many"] (aH oE):=⟨U,U,U,Yd,U,Yd,Yd⟩
theorem gB:aT ["_law_number","_law_names","_law_rooms","_law_shut","_law_kind","_law_rest","_law_x","_law_a","_law_b"] ["_law_number","_law_names","_law_rooms","_law_shut"] (aH oB):=⟨U,U,U,Yd,U,Yd,Yd⟩
theorem eC:aT ["_law_state","_law_number","_law_x","_law_most","_law_kind","_law_rest","_law_inner","_law_other","_law_shut","_law_times","_law_now","_law_many"] ["_law_state","_law_number","_law_x","_law_most"] (aH oF):=⟨U,U,U,Yd,U,Yd,Yd⟩
theorem hG:aT ["_law_cells","_law_names","_law_rooms","_law_most","_law_low","_law_body","_law_state","_law_cell","_law_number","_law_kind","_law_part"] ["_law_cells","_law_names","_law_rooms","_law_most","_law_low"] (aH oR):=⟨U,U,U,Yd,U,Yd,Yd⟩
theorem iK:aT ["_law_block_here","_law_moves_here","_law_one","_law_inner","_law_k"] ["_law_block_here"] (aH oH):=⟨U,U,U,Yd,U,Yd,Yd⟩
theorem fX:aT ["_law_moves_here","_law_q","_law_now","_law_low","_law_high","_law_kind","_law_store"] ["_law_moves_here","_law_q"] (aH oC):=⟨U,U,U,Yd,U,Yd,Yd⟩
theorem Bo:aT ["_law_pick","_law_peak"] ["_law_pick","_law_peak"] (aH oN):=⟨U,U,U,Yd,U,Yd,Yd⟩
theorem dC:aT ["_law_script","_law_most","_law_first","_law_second","_law_third","_law_words","_law_names","_law_rooms","_law_body","_law_moves_here","_law_front","_law_stores","_law_k","_law_lacking","_law_peak","_law_asks"] ["_law_script","_law_most"] (aH kP):=⟨U,U,U,Yd,U,Yd,Yd⟩
theorem iN:aT ["_law_deeds","_law_many","_law_rows","_law_row","_law_owned","_law_card"] ["_law_deeds"] (aH jt):=⟨U,U,U,Yd,U,Yd,Yd⟩
theorem iM:aT ["_law_deeds","_law_ahead_here","_law_lengths","_law_state","_law_k","_law_card","_law_many","_law_row"] ["_law_deeds","_law_ahead_here","_law_lengths","_law_state","_law_k"] (aH oO):=⟨U,U,U,Yd,U,Yd,Yd⟩
theorem nP:aT ["_law_deeds","_law_state","_law_k","_law_row","_law_card"] ["_law_deeds","_law_state","_law_k"] (aH oP):=⟨U,U,U,Yd,U,Yd,Yd⟩
theorem nO:aT ["_law_rows","_law_ahead_here","_law_lengths","_law_state","_law_left_here","_law_pick","_law_k","_law_at"] ["_law_rows","_law_ahead_here","_law_lengths","_law_state","_law_left_here","_law_pick"] (aH oG):=⟨U,U,U,Yd,U,Yd,Yd⟩
theorem fJ:aT ["_law_rows","_law_stores","_law_script","_law_ahead_here","_law_lengths","_law_state","_law_left_here","_law_at","_law_step","_law_pick"] ["_law_rows","_law_stores","_law_script"] (aH kQ):=⟨U,U,U,Yd,U,Yd,Yd⟩
theorem gA:aT ["_law_script","_law_program_here","_law_rows","_law_handed","_law_stores","_law_found","_law_at","_law_left_here"] ["_law_script"] (aH gC):=⟨U,U,U,Yd,U,Yd,Yd⟩
set_option genInjectivity false in
structure Adr where
 HF:Addr
 HG:FuncData
 HH:Addr
 HI:FuncData
 HJ:Addr
 HK:FuncData
 HL:Addr
 HM:FuncData
 HN:Addr
 HP:FuncData
 Hm:Addr
 Hn:FuncData
 Ho:Addr
 Hq:FuncData
 Hr:Addr
 Hs:FuncData
 Ht:Addr
 Hu:FuncData
 HQ:Addr
 HR:FuncData
 HS:Addr
 HU:FuncData
 HV:Addr
 HW:FuncData
 HX:Addr
 HY:FuncData
 HZ:Addr
 Ia:FuncData
 Ib:Addr
 Ic:FuncData
 Id:Addr
 Ie:FuncData
 Ig:Addr
 Ih:FuncData
 Ii:Addr
 Ij:FuncData
 Ik:Addr
 Il:FuncData
 Im:Addr
 Io:FuncData
 Ip:Addr
 Iq:FuncData
 Ir:Addr
 Iu:FuncData
 Hv:Addr
 Hw:FuncData
 Iv:Addr
 Iw:FuncData
 Ix:Addr
 Iy:FuncData
 Iz:Addr
 IA:FuncData
 IB:Addr
 IC:FuncData
 ID:Addr
 IE:FuncData
 IF:Addr
 IG:FuncData
 IH:Addr
 II:FuncData
 IJ:Addr
 IK:FuncData
 IL:Addr
 IM:FuncData
 IN:Addr
 IO:FuncData
 IP:Addr
 IQ:FuncData
 IR:Addr
 IS:FuncData
 IT:Addr
 IU:FuncData
 IV:Addr
 IW:FuncData
 IX:Addr
 IY:FuncData
 IZ:Addr
 J0:FuncData
 J1:Addr
 J2:FuncData
 J3:Addr
 J4:FuncData
 J5:Addr
 J6:FuncData
 J7:Addr
 J8:FuncData
 J9:Addr
 Ja:FuncData
 Jb:Addr
 Jc:FuncData
 Jd:Addr
 Je:FuncData
 Jf:Tok
 Jg:Tok
 Cn:Addr
 Db:Addr
 Jh:Tok
 Ev:Addr
 Ji:Tok
 ad:Addr
structure Fb3(K:W.Frag)(mg:Str->LO)(x:Str)(st:Stmt)(f:Addr)(fd:FuncData)(ps:LS):Prop where
 m:mg x=some (.ref f)
 F:Fun K x x st f fd
 b:dZ K fd ps []
theorem aF{k:Nat}{st:Stmt}{es:LR}{t:TA}{p:Pos}(F:aM X.prog X.w X.K X.mg X.base CX0 k f fd ps sp)(hr:ca k X.A)(h:Fb3 X.K X.mg x st f fd ps)(ha:PA X (e::es) t)(d:Gl X x:=by rfl)(g:gY CX0 X E0:=by exact iW)(hd:(x == ("__debug__":Str))=false:=by decide)(a:starEach (e::es) X.env=(false,eval e X.env)::starEach es X.env:=by rfl)(c:(backTo pos (starEach es X.env)).any (·.1)=false:=by rfl):PE X (.Call (.Name x p) (e::es) [] pos) (ui sp [] E0 t):=CN F hr d h.m h.F.kp h.b .nil g ha hd a c
structure Tx(P:Program)(w:World)(K:W.Frag)(mg:Str->LO)(a:Adr):Prop where
 Jj:Fb3 K mg "waits_of" nV a.HF a.HG ["deeds","stores"]
 Jk:Fb3 K mg "waits_behind" kN a.HH a.HI ["waits_by_cards","deeds","stores"]
 Jl:Fb3 K mg "waits_for_cards" nW a.HJ a.HK ["deeds"]
 Hy:Fb3 K mg "waits_by" kM a.HL a.HM ["cards","kind","owners"]
 Hz:Fb3 K mg "numbers_by_store" o7 a.HN a.HP ["deeds","place"]
 JP:Fun K "__init__" "Looking.__init__" iQ a.Hm a.Hn
 JQ:dZ K a.Hn ["self","waits"] []
 JR:Fun K "look_at" "Looking.look_at" oU a.Ho a.Hq
 JS:dZ K a.Hq ["self","deed"] []
 JT:Fun K "stopped_by" "Looking.stopped_by" oS a.Hr a.Hs
 Jm:dZ K a.Hs ["self","deed"] []
 JU:Fun K "ring" "Looking.ring" oT a.Ht a.Hu
 JV:dZ K a.Hu ["self"] []
 Jn:Fb3 K mg "looked" o9 a.HQ a.HR ["deeds","stores"]
 Jo:Fb3 K mg "looked_through" o8 a.HS a.HU ["waits"]
 Go:Fb3 K mg "all_deeds" oy a.HV a.HW ["block"]
 Jp:Fb3 K mg "blocks_within" ox a.HX a.HY ["deed"]
 HA:Fb3 K mg "names_in" kO a.HZ a.Ia ["deed"]
 Jq:Fb3 K mg "read_by_set" nY a.Ib a.Ic ["deed"]
 GZ:Fb3 K mg "touched" nX a.Id a.Ie ["block"]
 Jr:Fb3 K mg "other_cards_in" o6 a.Ig a.Ih ["deed"]
 Ha:Fb3 K mg "put_card" nZ a.Ii a.Ij ["store"]
 Hd:Fb3 K mg "get_card" oa a.Ik a.Il ["store"]
 Js:Fb3 K mg "cards_of" ou a.Im a.Io ["program"]
 Jt:Fb3 K mg "deeds_of" oh a.Ip a.Iq ["program"]
 He:Fb3 K mg "counted" oo a.Ir a.Iu ["block"]
 Hf:Fb3 K mg "written" nU a.Hv a.Hw ["block"]
 Ju:Fb3 K mg "written_rounds" nR a.Iv a.Iw ["rounds","body"]
 Jv:Fb3 K mg "written_once" nS a.Ix a.Iy ["deed"]
 Hg:Fb3 K mg "owner_of" o1 a.Iz a.IA ["kind","cards"]
 Jw:Fb3 K mg "check_gets" oq a.IB a.IC ["deeds"]
 wS:Fb3 K mg "_law_cell_at" oQ a.ID a.IE ["_law_script","_law_k"]
 mt:Fb3 K mg "_law_mixed" oJ a.IF a.IG ["_law_cell","_law_k"]
 Jx:Fb3 K mg "_law_whole" oz a.IH a.II ["_law_found"]
 HB:Fb3 K mg "_law_letters" oK a.IJ a.IK ["_law_number","_law_size"]
 Jy:Fb3 K mg "_law_spelt" oA a.IL a.IM ["_law_word"]
 HC:Fb3 K mg "_law_pool" oE a.IN a.IO ["_law_cell","_law_many"]
 Jz:Fb3 K mg "_law_simple" oB a.IP a.IQ ["_law_number","_law_names","_law_rooms","_law_shut"]
 JA:Fb3 K mg "_law_opened" oF a.IR a.IS ["_law_state","_law_number","_law_x","_law_most"]
 JB:Fb3 K mg "_law_block" oR a.IT a.IU ["_law_cells","_law_names","_law_rooms","_law_most","_law_low"]
 Hh:Fb3 K mg "_law_moves" oH a.IV a.IW ["_law_block_here"]
 JC:Fb3 K mg "_law_reach" oC a.IX a.IY ["_law_moves_here","_law_q"]
 JD:Fb3 K mg "_law_length" oN a.IZ a.J0 ["_law_pick","_law_peak"]
 JE:Fb3 K mg "_law_program" kP a.J1 a.J2 ["_law_script","_law_most"]
 JF:Fb3 K mg "_law_ahead" jt a.J3 a.J4 ["_law_deeds"]
 JG:Fb3 K mg "_law_lacks" oO a.J5 a.J6 ["_law_deeds","_law_ahead_here","_law_lengths","_law_state","_law_k"]
 JH:Fb3 K mg "_law_do" oP a.J7 a.J8 ["_law_deeds","_law_state","_law_k"]
 JI:Fb3 K mg "_law_next" oG a.J9 a.Ja ["_law_rows","_law_ahead_here","_law_lengths","_law_state","_law_left_here","_law_pick"]
 JJ:Fb3 K mg "_law_left" kQ a.Jb a.Jc ["_law_rows","_law_stores","_law_script"]
 JW:Fb3 K mg "law" gC a.Jd a.Je ["_law_script"]
 JX:mg "bool"=none
 JY:mg "dict"=none
 Hi:mg "enumerate"=none
 JZ:mg "int"=none
 wP:mg "isinstance"=none
 f8:mg "len"=none
 wT:mg "list"=none
 JK:mg "max"=none
 JL:mg "min"=none
 om:mg "range"=none
 K0:mg "reversed"=none
 Hj:mg "set"=none
 At:mg "sorted"=none
 JM:mg "str"=none
 Hk:mg "tuple"=none
 K1:mg "zip"=none
 K2:mg "INTO"=some (.int 3 a.Jf)
 K3:mg "OUT_OF"=some (.int 4 a.Jg)
 K4:mg "LOOPS"=some (.ref a.Cn)
 or:∀H:Hp,SqT K H a.Cn [.str "while",.str "repeat"]
 K5:mg "LOOKERS"=some (.ref a.Db)
 u8:∀H:Hp,SqT K H a.Db [.str "if",.str "while"]
 HD:mg "OUTLET"=some (.str ">" a.Jh)
 K6:mg "OUTLET_KEEPERS"=some (.ref a.Ev)
 wE:∀H:Hp,SqT K H a.Ev [.str "give",.str "while"]
 K7:mg "MOST_DEEDS"=some (.int 2000 a.Ji)
 K8:mg "Looking"=some (.ref a.ad)
 gt:Cls K a.ad
 K9:Mk K a.ad a.Hm
 Ka:fV K a.ad "look_at" a.Ho
 JN:fV K a.ad "stopped_by" a.Hr
 Kb:fV K a.ad "ring" a.Ht
 JO:dX K a.ad "waits"
 Ch:dX K a.ad "order"
 Hl:dX K a.ad "finished"
 Cl:dX K a.ad "over"
 HE:dX K a.ad "stuck"
theorem Tx.r_INTO{a:Adr}(_:Tx P w K mg a):aB (.int 3) (.int 3 a.Jf):=⟨_,U⟩
theorem Tx.r_OUT_OF{a:Adr}(_:Tx P w K mg a):aB (.int 4) (.int 4 a.Jg):=⟨_,U⟩
theorem Tx.r_LOOPS{a:Adr}(_:Tx P w K mg a):aB (.ref a.Cn) (.ref a.Cn):=U
theorem Tx.r_LOOKERS{a:Adr}(_:Tx P w K mg a):aB (.ref a.Db) (.ref a.Db):=U
theorem Tx.r_OUTLET{a:Adr}(_:Tx P w K mg a):aB (.str ">") (.str ">" a.Jh):=⟨_,U⟩
theorem Tx.r_OUTLET_KEEPERS{a:Adr}(_:Tx P w K mg a):aB (.ref a.Ev) (.ref a.Ev):=U
theorem Tx.r_MOST_DEEDS{a:Adr}(_:Tx P w K mg a):aB (.int 2000) (.int 2000 a.Ji):=⟨_,U⟩
inductive uI(vs:LV)(H:Hp)(Q:VK)(E:XK):Prop
 |mk (q:Str) (h0_:vs=[.str q]) (h1_:q.length<=1000) (h2_:Q (.str (q++(">":Str))) H):uI vs H Q E
inductive uO(vs:LV)(H:Hp)(Q:VK)(E:XK):Prop
 |mk (q:Str) (h0_:vs=[.str q]) (h1_:q.length<=1000) (h2_:Q (.str (q++("<":Str))) H):uO vs H Q E
inductive uL(vs:LV)(H:Hp)(Q:VK)(E:XK):Prop
 |mk (H0:Hp) (v:V) (d:ae) (h0_:vs=[v]) (h1_:a8 H0 H) (h2_:RD H0 v d) (h3_:∀H' l,a8 H H'->H l=none->H' l=some (.lst (d.names.map V.str))->Q (.ref l) H'):uL vs H Q E
inductive uT(vs:LV)(H:Hp)(Q:VK)(E:XK):Prop
 |mk (H0:Hp) (v:V) (d:ae) (h0_:vs=[v]) (h1_:a8 H0 H) (h2_:RD H0 v d) (h3_:∀H' l bs,a8 H H'->H l=none->H' l=some (.lst (bs.map V.ref))->RLs H0 bs d.inner->Q (.ref l) H'):uT vs H Q E
inductive uJ(vs:LV)(H:Hp)(Q:VK)(E:XK):Prop
 |mk (H0:Hp) (v:V) (d:ae) (h0_:vs=[v]) (h1_:a8 H0 H) (h2_:RD H0 v d) (h3_:(∀k∈d.others,k.length<=1000)) (h4_:∀H' l,a8 H H'->H l=none->H' l=some (.lst (d.others.map V.str))->Q (.ref l) H'):uJ vs H Q E
inductive uU(n:Nat)(vs:LV)(H:Hp)(Q:VK)(E:XK):Prop
 |mk (H0:Hp) (b:Addr) (ds:LA) (h0_:vs=[.ref b]) (h1_:a8 H0 H) (h2_:RL H0 b ds) (h3_:aO ds<n) (h4_:(aj ds).length<=1000) (h5_:∀H' l us,a8 H H'->H l=none->H' l=some (.lst us)->RDs H0 us (aj ds)->Q (.ref l) H'):uU n vs H Q E
inductive nC(vs:LV)(H:Hp)(Q:VK)(E:XK):Prop
 |mk (H0:Hp) (b:Addr) (ds:LA) (C:LS) (h0_:vs=[.ref b]) (h1_:a8 H0 H) (h2_:RL H0 b ds) (h3_:aO ds<=12) (h4_:(aj ds).length<=1000) (h5_:(∀k∈cards ds,k∈C)) (h6_:C.length<64) (h7_:(∀k∈C,k.length<=1000) /\
 ∀H' l zs,a8 H H'->H l=none->H' l=some (.lst (zs.map V.str))->zs.Nodup->(∀k,k∈zs↔k∈cards ds)->PyProof.Rows.sortedS zs=true->Q (.ref l) H'):nC vs H Q E
inductive vn(K:W.Frag)(vs:LV)(H:Hp)(Q:VK)(E:XK):Prop
 |mk (l:Addr) (ns:LI) (k:Int) (h0_:vs=[.ref l,.int k]) (h1_:SqL K H l (ns.map V.int)) (h2_:ns.length<=1000) (h3_:0<=k) (h4_:Q (.int (ns.getD k.toNat 0)) H):vn K vs H Q E
inductive vg(vs:LV)(H:Hp)(Q:VK)(E:XK):Prop
 |mk (c k:Int) (h0_:vs=[.int c,.int k]) (h1_:0<=k) (h2_:k<=1000) (h3_:Q (.int (aA c k)) H):vg vs H Q E
inductive vh(vs:LV)(H:Hp)(Q:VK)(E:XK):Prop
 |mk (n k:Int) (h0_:vs=[.int n,.int k]) (h1_:0<=k) (h2_:k<=200) (h3_:Q (.str (cB n k.toNat)) H):vh vs H Q E
inductive uW(vs:LV)(H:Hp)(Q:VK)(E:XK):Prop
 |mk (w:Str) (h0_:vs=[.str w]) (h1_:w.length<=200) (h2_:∀H',a8 H H'->Q (.str (cQ w)) H'):uW vs H Q E
inductive vc(vs:LV)(H:Hp)(Q:VK)(E:XK):Prop
 |mk (c k:Int) (h0_:vs=[.int c,.int k]) (h1_:0<=k) (h2_:k<=50) (h3_:∀H' l,a8 H H'->H l=none->H' l=some (.lst ((cD c k.toNat).map V.str))->Q (.ref l) H'):vc vs H Q E
inductive uX(K:W.Frag)(vs:LV)(H:Hp)(Q:VK)(E:XK):Prop
 |mk (n:Int) (ln lr:Addr) (names rooms:LS) (shut:Bool) (h0_:vs=[.int n,.ref ln,.ref lr,.bl shut]) (h1_:SqL K H ln (names.map V.str)) (h2_:SqL K H lr (rooms.map V.str)) (h3_:0<names.length) (h4_:names.length<=100) (h5_:rooms.length<=100) (h6_:0<=n) (h7_:n<2147483648 /\
 ∀H' p xs,a8 H H'->H p=none->H' p=some (.tup xs)->(∀H0:Hp,H0 p=some (.tup xs)->RD H0 (.ref p) (bE n names rooms shut))->Q (.ref p) H'):uX K vs H Q E
inductive vd(vs:LV)(H:Hp)(Q:VK)(E:XK):Prop
 |mk (Hb H0:Hp) (S s0 s1 s2 s3:Addr) (x:Fz) (r:LB) (n most:Int) (nm:Str) (h0_:vs=[.ref S,.int n,.str nm,.int most]) (h1_:ZI Hb H0 H S s0 s1 s2 s3 (x::r)) (h2_:(x::r).length<=1000) (h3_:x.f.ds.length<=1000) (h4_:0<=n) (h5_:n<2147483648) (h6_:0<=most) (h7_:most<=1000) (h8_:0<=x.f.times) (h9_:x.f.times<=100000 /\
 ∀H' y,ZI Hb H0 H' S s0 s1 s2 s3 (y::x::r)->y.f::x.f::r.map (·.f)=gf n nm most (x.f::r.map (·.f))->Q .non H'):vd vs H Q E
inductive vo(K:W.Frag)(vs:LV)(H:Hp)(Q:VK)(E:XK):Prop
 |mk (lc ln lr:Addr) (cells:LI) (names rooms:LS) (most low:Int) (h0_:vs=[.ref lc,.ref ln,.ref lr,.int most,.int low]) (h1_:SqL K H lc (cells.map V.int)) (h2_:SqL K H ln (names.map V.str)) (h3_:SqL K H lr (rooms.map V.str)) (h4_:cells.length<=100) (h5_:0<names.length) (h6_:names.length<=100) (h7_:rooms.length<=100) (h8_:0<=most) (h9_:most<=1000 /\
 ∀H' l,a8 H H'->H l=none->RL H' l (dA names rooms most low cells)->Q (.ref l) H'):vo K vs H Q E
inductive uS(vs:LV)(H:Hp)(Q:VK)(E:XK):Prop
 |mk (p la ls lb:Addr) (asks:LS) (ss:LF) (ds:LA) (us:LV) (C:LS) (h0_:vs=[.ref p]) (h1_:RP H p asks ss ds la ls lb us) (h2_:aO ds<=12) (h3_:(aj ds).length<=1000) (h4_:asks.length<=100) (h5_:ss.length<=100) (h6_:(∀s∈ss,s.1.length<=1000)) (h7_:(∀k∈dD asks ss ds,k∈C)) (h8_:C.length<64) (h9_:(∀k∈C,k.length<=1000) /\
 ∀H' l zs,a8 H H'->H' l=some (.lst (zs.map V.str))->zs.Nodup->(∀k,k∈zs↔k∈dD asks ss ds)->PyProof.Rows.sortedS zs=true->Q (.ref l) H'):uS vs H Q E
noncomputable def ph(x:Str)(J F:Val):LS:=srt ((J.names++F.names).filter λy=>!decide (y=x))
inductive uH(vs:LV)(H:Hp)(Q:VK)(E:XK):Prop
 |mk (H0:Hp) (p:Addr) (x sg:Str) (va vb:Val) (C:LS) (h0_:vs=[.ref p]) (h1_:a8 H0 H) (h2_:H0 p=some (.tup [.str "set",.str x,va.v,.str sg,vb.v])) (h3_:(∀k∈(ae.set x va sg vb).names,k∈C)) (h4_:C.length<64) (h5_:∀H' l,a8 H H'->H' l=some (.lst ((ph x va vb).map V.str))->Q (.ref l) H'):uH vs H Q E
inductive nD(vs:LV)(H:Hp)(Q:VK)(E:XK):Prop
 |mk (kd:Str) (l:Addr) (zs:LS) (h0_:vs=[.str kd,.ref l]) (h1_:H l=some (.lst (zs.map V.str))) (h2_:∀H' v,a8 H H'->cH H' v ⟨kd,zs,[],none,none⟩->Q v H'):nD vs H Q E
inductive uC(vs:LV)(H:Hp)(Q:VK)(E:XK):Prop
 |mk (H0:Hp) (v:V) (d:ae) (C:LS) (h0_:vs=[v]) (h1_:a8 H0 H) (h2_:RD H0 v d) (h3_:d.depth<=12) (h4_:d.flat.length<=1000) (h5_:(∀k∈cards [d],k∈C)) (h6_:C.length<64) (h7_:(∀k∈C,k.length<=1000)) (h8_:(∀n b,d≠.rep n b)) (h9_:∀H' u,a8 H H'->cH H' u (aP d)->Q u H'):uC vs H Q E
inductive uR(vs:LV)(H:Hp)(Q:VK)(E:XK):Prop
 |mk (l:Addr) (us:LV) (rs:List Row) (h0_:vs=[.ref l]) (h1_:H l=some (.lst us)) (h2_:aU H us rs) (h3_:rs.length<=2000) (h4_:Fed rs) (h5_:(∀r∈rs,fE r)) (h6_:∀H',a8 H H'->Q .non H'):uR vs H Q E
def yX(C:LS)(ds:LA):Prop:=aO ds<=12/\(aj ds).length<=1000/\(∀k∈cards ds,k∈C)/\C.length<64/\(∀k∈C,k.length<=1000)/\bM eZ ds
inductive nB(n:Nat)(vs:LV)(H:Hp)(Q:VK)(E:XK):Prop
 |mk (H0:Hp) (b:Addr) (ds:LA) (C:LS) (h0_:vs=[.ref b]) (h1_:a8 H0 H) (h2_:RL H0 b ds) (h3_:aO ds<n) (h4_:yX C ds) (h5_:(aJ ds).length<=2000) (h6_:∀H' l us,a8 H H'->H l=none->H' l=some (.lst us)->aU H' us (aJ ds)->Q (.ref l) H'):nB n vs H Q E
inductive uB(n:Nat)(vs:LV)(H:Hp)(Q:VK)(E:XK):Prop
 |mk (H0:Hp) (r:Int) (b:Addr) (ds:LA) (C:LS) (h0_:vs=[.int r,.ref b]) (h1_:0<=r) (h2_:r<=99) (h3_:a8 H0 H) (h4_:RL H0 b ds) (h5_:aO ds<n) (h6_:yX C ds) (h7_:(bH (.rep r ds)).length<=2000) (h8_:∀H' l us,a8 H H'->H l=none->H' l=some (.lst us)->aU H' us (bH (.rep r ds))->Q (.ref l) H'):uB n vs H Q E
inductive uQ(n:Nat)(vs:LV)(H:Hp)(Q:VK)(E:XK):Prop
 |mk (H0:Hp) (b:Addr) (ds:LA) (h0_:vs=[.ref b]) (h1_:a8 H0 H) (h2_:RL H0 b ds) (h3_:aO ds<n) (h4_:bM eZ ds) (h5_:Q (.int (aJ ds).length) H):uQ n vs H Q E
inductive uP(vs:LV)(H:Hp)(Q:VK)(E:XK):Prop
 |mk (p la ls lb:Addr) (asks:LS) (ss:LF) (ds:LA) (us:LV) (C:LS) (h0_:vs=[.ref p]) (h1_:RP H p asks ss ds la ls lb us) (h2_:aO ds<=12) (h3_:(aj ds).length<=1000) (h4_:asks.length<=100) (h5_:ss.length<=100) (h6_:(∀s∈ss,s.1.length<=1000)) (h7_:(∀k∈dD asks ss ds,k∈C)) (h8_:C.length<64) (h9_:(∀k∈C,k.length<=1000)) (h10_:bM eZ ds) (h11_:(aJ ds).length<2000) (h12_:Fed (aJ ds) /\
 ∀H' l us',a8 H H'->H' l=some (.lst us')->aU H' us' (aJ ds++[dv asks ss ds])->Q (.ref l) H'):uP vs H Q E
inductive uV(vs:LV)(H:Hp)(Q:VK)(E:XK):Prop
 |mk (i:Int) (h0_:vs=[.int i]) (h1_:Q (.bl true) H):uV vs H Q E
inductive vi(vs:LV)(H:Hp)(Q:VK)(E:XK):Prop
 |mk (i j:Int) (h0_:vs=[.int i,.int j]) (h1_:Q (.int (jK i j)) H):vi vs H Q E
inductive uY(vs:LV)(H:Hp)(Q:VK)(E:XK):Prop
 |mk (l:Addr) (us:LV) (ms:List (Str×Str)) (q:Str) (h0_:vs=[.ref l,.str q]) (h1_:H l=some (.lst us)) (h2_:RMs H us ms) (h3_:ms.length<=1000) (h4_:∀p,H p=none->Q (.ref p) (upd H p (.tup [.int (-(aW q ms).2.1),.int ((aW q ms).2.2-(aW q ms).2.1)]))):uY vs H Q E
inductive vf(n:Nat)(vs:LV)(H:Hp)(Q:VK)(E:XK):Prop
 |mk (H0:Hp) (b:Addr) (ds:LA) (h0_:vs=[.ref b]) (h1_:a8 H0 H) (h2_:RL H0 b ds) (h3_:aO ds<n) (h4_:bM eZ ds) (h5_:(bB ds).length<=1000) (h6_:∀H' l us,a8 H H'->H l=none->H' l=some (.lst us)->RMs H' us (bB ds)->Q (.ref l) H'):vf n vs H Q E
noncomputable def bQ(ns:LI):LS:=cD (ns.getD 0 0) (2+aA (ns.getD 1 0) 1 % 4).toNat
noncomputable def bN(ns:LI):LS:=(bQ ns).dropLast
noncomputable def aC(ns:LI):LS:=cD (if aA (ns.getD 1 0) 2 % 3=0 then ns.getD 0 0 else ns.getD 1 0) (if aA (ns.getD 1 0) 3 % 5<3 then aA (ns.getD 1 0) 3 % 5 else 3).toNat
noncomputable def eU(ns:LI)(lo hi:Nat):LI:=(ns.drop (min lo ns.length)).take (min hi ns.length-min lo ns.length)
noncomputable def aX(ns:LI):LA:=dA (bN ns) (aC ns) 1 7 (eU ns 3 63)
noncomputable def eI(ns:LI):LS:=eV (bQ ns) (ns.getD 2 0) (bQ ns).length
noncomputable def bg(ns:LI):List (Str×Str):=bB (aX ns)
noncomputable def bC(ns:LI):LA:=bX (aC ns) (bN ns) (bg ns) (aC ns).length
noncomputable def bY(ns:LI):LF:=eh (aC ns) (ns.getD 2 0) (bg ns) (aC ns).length
inductive uZ(K:W.Frag)(vs:LV)(H:Hp)(Q:VK)(E:XK):Prop
 |mk (l:Addr) (ns:LI) (h0_:vs=[.ref l,.int 1]) (h1_:SqL K H l (ns.map V.int)) (h2_:ns.length<=63) (h3_:aO (aX ns)<=12) (h4_:bM eZ (aX ns)) (h5_:(bg ns).length<=240) (h6_:(aj (aX ns)).length<=60) (h7_:∀H' p la ls lb us,a8 H H'->RP H' p (eI ns) (bY ns) (bC ns++aX ns) la ls lb us->Q (.ref p) H'):uZ K vs H Q E
inductive uF(vs:LV)(H:Hp)(Q:VK)(E:XK):Prop
 |mk (p d:Addr) (cs:LS) (kd:Str) (kvs:LN) (ow:Str->Option Int) (h0_:vs=[.ref p,.str kd,.ref d]) (h1_:H p=some (.tup (cs.map V.str))) (h2_:H d=some (.dK kvs)) (h3_:jc kvs ow) (h4_:cs.length<=10000) (h5_:∀H' l us,a8 H H'->H l=none->H' l=some (.lst us)->RWs H' us (dH ow kd cs)->Q (.ref l) H'):uF vs H Q E
inductive uE(vs:LV)(H:Hp)(Q:VK)(E:XK):Prop
 |mk (l:Addr) (us:LV) (rs:List Row) (h0_:vs=[.ref l]) (h1_:H l=some (.lst us)) (h2_:aU H us rs) (h3_:rs.length<=1000) (h4_:(∀r∈rs,r.owns.length<=4000/\r.reads.length<=4000)) (h5_:∀H' lw ws,a8 H H'->H lw=none->H' lw=some (.lst ws)->RWL H' ws (cG rs rs.length)->Q (.ref lw) H'):uE vs H Q E
inductive uK(vs:LV)(H:Hp)(Q:VK)(E:XK):Prop
 |mk (l:Addr) (us:LV) (rs:List Row) (pl:Int) (f:Row->Option Str) (h0_:vs=[.ref l,.int pl]) (h1_:H l=some (.lst us)) (h2_:aU H us rs) (h3_:rs.length<=1000) (h4_:((pl=3/\f=Row.into)\/(pl=4/\f=Row.outof))) (h5_:∀H' d kvs,a8 H H'->H' d=some (.dK kvs)->RN H' kvs (ar f rs)->(∀(q:Str)(p:Addr),aI kvs (.inr q)=some (.ref p)->H p=none)->Q (.ref d) H'):uK vs H Q E
inductive uG(vs:LV)(H:Hp)(Q:VK)(E:XK):Prop
 |mk (lc l ls:Addr) (ws us sv:LV) (W:List (List Wat)) (rs:List Row) (ss:LF) (h0_:vs=[.ref lc,.ref l,.ref ls]) (h1_:H lc=some (.lst ws)) (h2_:RWL H ws W) (h3_:W.length=rs.length) (h4_:Sm W 8000) (h5_:H l=some (.lst us)) (h6_:aU H us rs) (h7_:rs.length<=1000) (h8_:H ls=some (.lst sv)) (h9_:RSs H sv ss) (h10_:ss.length<=100) (h11_:(∀s∈ss,0<=s.2)) (h12_:∀H' lw ws',a8 H H'->H' lw=some (.lst ws')->RWL H' ws' (cR rs ss W ss.length)->Q (.ref lw) H'):uG vs H Q E
inductive uD(vs:LV)(H:Hp)(Q:VK)(E:XK):Prop
 |mk (l ls:Addr) (us sv:LV) (rs:List Row) (ss:LF) (h0_:vs=[.ref l,.ref ls]) (h1_:H l=some (.lst us)) (h2_:aU H us rs) (h3_:rs.length<=1000) (h4_:(∀r∈rs,r.owns.length<=4000/\r.reads.length<=4000)) (h5_:H ls=some (.lst sv)) (h6_:RSs H sv ss) (h7_:ss.length<=100) (h8_:(∀s∈ss,0<=s.2)) (h9_:∀H' lw ws',a8 H H'->H' lw=some (.lst ws')->RWL H' ws' (cR rs ss (cG rs rs.length) ss.length)->Q (.ref lw) H'):uD vs H Q E
noncomputable def eO(rs:List Row)(i:Nat)(r:Row):List Wat:=match r.outof with
 |some q=>[((ar Row.into rs q).getD (ar Row.outof (rs.take i) q).length 0,"thing",q)]
 |none=>[]
noncomputable def ja(rs:List Row)(n:Int)(i:Nat)(q:Str):Int:=((ar Row.into (rs.take i) q).length:Int)-n
noncomputable def roomV(rs:List Row)(ln:Str->Int)(i:Nat)(r:Row):List Wat:=match r.into with
 |some q=>if 0<=ja rs (ln q) i q then[(awaited rs.length (ar Row.outof rs q) (ja rs (ln q) i q).toNat,"room",q)]else[]
 |none=>[]
noncomputable def cM(rs:List Row)(ln:Str->Int)(i:Nat)(r:Row):List Wat:=eG (rs.take i) r++eO rs i r++roomV rs ln i r
noncomputable def cnO(rs:List Row)(c:Str):Nat:=(rs.flatMap Row.owns).count c
def tJ(kvs:LN)(rs:List Row):Prop:=∀c:Str,(aI kvs (.inr c)).getD (.int 0)=.int (cnO rs c)
inductive RCs(H:Hp)(rs:List Row):LV->LS->Prop
 |nil:RCs H rs [] []
 |cons {p:Addr}{vs:LV}{c:Str}{cs:LS}:H p=some (.tup [.str c,.int (cnO rs c)])->RCs H rs vs cs->RCs H rs (.ref p::vs) (c::cs)
def RAt(H:Hp)(rs:List Row)(i:Nat)(r:Row)(v:V):Prop:=∃p l1 l2 J F,v=.ref p/\H p=some (.tup [.ref l1,.ref l2])/\H l1=some (.lst J)/\H l2=some (.lst F)/\RCs H (rs.take i) J r.owns/\RCs H (rs.take i) F r.reads
def RAs(H:Hp)(us:LV)(rs:List Row)(n:Nat):Prop:=us.length=n/\∀i r,i<n->rs[i]?=some r->∃v,us[i]?=some v/\RAt H rs i r v
inductive vq(vs:LV)(H:Hp)(Q:VK)(E:XK):Prop
 |mk (l:Addr) (us:LV) (rs:List Row) (h0_:vs=[.ref l]) (h1_:H l=some (.lst us)) (h2_:aU H us rs) (h3_:rs.length<=1000) (h4_:(∀r∈rs,r.owns.length<=4000/\r.reads.length<=4000)) (h5_:∀H' l' us',a8 H H'->H' l'=some (.lst us')->RAs H' us' rs rs.length->Q (.ref l') H'):vq vs H Q E
noncomputable def dnR(rs:List Row)(o:LG):List Row:=o.filterMap (rs[·]?)
def eN(rs R:List Row)(k:Nat)(r:Row):Prop:=∀c,(c∈r.owns\/c∈r.reads)->cnO (rs.take k) c<=cnO R c
def gx(R:List Row)(r:Row):Prop:=∀q,r.outof=some q->bal R q≠0
def iA(ln:Str->Int)(R:List Row)(r:Row):Prop:=∀q,r.into=some q->bal R q<ln q
def ci(o:LG)(e:Wat):Prop:=∃j:Nat,e.1=(j:Int)/\j∈o
noncomputable def wsV(W:List (List Wat))(k:Nat):List Wat:=(W[k]?).getD []
def Tgt(W:List (List Wat)):Prop:=∀k,∀e∈wsV W k,∃j:Nat,e.1=(j:Int)/\j<W.length
structure LkI(W:List (List Wat))(m:Nat)(o R:LG)(zs:Nat->Nat)(st:Nat->LG):Prop where
 nd:o.Nodup
 lt:∀k∈o,k<m
 ord:∀(t k:Nat),o[t]?=some k->∀e∈wsV W k,ci (o.take t) e
 zl:∀k,zs k<=(wsV W k).length
 zd:∀k,∀e∈(wsV W k).take (zs k),ci o e
 rn:R.Nodup
 ro:∀k∈R,k<m/\k∉o
 sn:∀w,w∉o->(st w).Nodup
 so:∀w,w∉o->∀k∈st w,k<m/\k∉o/\k∉R/\∃e,(wsV W k)[zs k]?=some e/\e.1=(w:Int)
 al:∀k,k<m->k∈o\/k∈R\/∃w,w∉o/\k∈st w
structure mO(H:Hp)(l la d:Addr)(us as:LV)(rs:List Row)(kvs:LN)(ln:Str->Int):Prop where
 hl:H l=some (.lst us)
 rr:aU H us rs
 ha:H la=some (.lst as)
 ra:RAs H as rs rs.length
 hd:H d=some (.dK kvs)
 few:rs.length<=1000
 sm:∀r∈rs,r.owns.length<=4000/\r.reads.length<=4000
 dl:∀r∈rs,∀q,r.into=some q->aI kvs (.inr q)=some (.int (ln q))
structure bp(H0 H:Hp)(ow:LK)(cn:List HO):Prop where
 sa:a8 H0 H
 nd:ow.Nodup
 nw:∀x∈ow,H0 x=none
 av:∀{i:Nat}{x:Addr}{o:HO},ow[i]?=some x->cn[i]?=some o->H x=some o
noncomputable def aN(o:LG):LV:=o.map λj:Nat=>V.int j
noncomputable def LkO(a:Adr)(dx lw lo J O F:Addr):HO:=.ins a.ad dx [("waits",.ref lw),("order",.ref lo),("finished",.ref J),("over",.ref O),("stuck",.ref F)]
noncomputable def cnL(n:Nat)(o:LG)(zs:Nat->Nat)(st:Nat->LG):List HO:=.lst (aN o)::.lst ((List.range n).map λj:Nat=>V.bl (decide (j∈o)))::.lst ((List.range n).map λj:Nat=>V.int (zs j))::(List.range n).map λj:Nat=>HO.lst (aN (st j))
structure LkA where
 (b dx lw lo lf lv lk:Addr)
 qs:LK
 us:LV
structure LkS(a:Adr)(H0:Hp)(L:LkA)(W:List (List Wat)):Prop where
 ob:H0 L.b=some (LkO a L.dx L.lw L.lo L.lf L.lv L.lk)
 sk:H0 L.lk=some (.lst (L.qs.map V.ref))
 ql:L.qs.length=W.length
 hw:H0 L.lw=some (.lst L.us)
 rl:RWL H0 L.us W
 sm:Sm W 9000
 tg:Tgt W
 few:W.length<=1000
def LkH(H0 H:Hp)(L:LkA)(W:List (List Wat))(o:LG)(zs:Nat->Nat)(st:Nat->LG):Prop:=bp H0 H (L.lo::L.lf::L.lv::L.qs) (cnL W.length o zs st)
inductive vy(a:Adr)(vs:LV)(H:Hp)(Q:VK)(E:XK):Prop
 |mk (b dx lw:Addr) (us:LV) (h0_:vs=[.ref b,.ref lw]) (h1_:H b=some (.ins a.ad dx [])) (h2_:H lw=some (.lst us)) (h3_:us.length<=1000) (h4_:∀H' H0 lo lf lv lk qs,(∀c o,c≠b->H c=some o->H0 c=some o)->H0 b=some (LkO a dx lw lo lf lv lk)->H0 lk=some (.lst (qs.map V.ref))->qs.length=us.length->bp H0 H' (lo::lf::lv::qs) (cnL us.length [] (λ_=>0) λ_=>[])->Q .non H'):vy a vs H Q E
inductive vt(a:Adr)(vs:LV)(H:Hp)(Q:VK)(E:XK):Prop
 |mk (H0:Hp) (L:LkA) (W:List (List Wat)) (o:LG) (zs:Nat->Nat) (st:Nat->LG) (x:Nat) (h0_:vs=[.ref L.b,.int x]) (h1_:LkS a H0 L W) (h2_:LkH H0 H L W o zs st) (h3_:x<W.length) (h4_:zs x<=(wsV W x).length) (h5_:∀H' z,LkH H0 H' L W o (λk=>if k=x then z else zs k) st->zs x<=z->z<=(wsV W x).length->(∀t e,zs x<=t->t<z->(wsV W x)[t]?=some e->ci o e)->(z=(wsV W x).length->Q .non H')/\∀e p,(wsV W x)[z]?=some e->¬ ci o e->H0 p=some (fc e)->Q (.ref p) H'):vt a vs H Q E
inductive vx(a:Adr)(vs:LV)(H:Hp)(Q:VK)(E:XK):Prop
 |mk (H0:Hp) (L:LkA) (W:List (List Wat)) (o:LG) (zs:Nat->Nat) (st:Nat->LG) (m:Nat) (h0_:vs=[.ref L.b,.int m]) (h1_:LkS a H0 L W) (h2_:LkH H0 H L W o zs st) (h3_:LkI W m o [] zs st) (h4_:m<W.length) (h5_:∀H' o' zs' st',LkH H0 H' L W o' zs' st'->LkI W (m+1) o' [] zs' st'->Q .non H'):vx a vs H Q E
noncomputable def rgW(p:Nat×Wat):Wat:=(p.1,p.2.2)
structure k6(W:List (List Wat))(o:LG)(ps:List (Nat×Wat)):Prop where
 nn:ps≠[]
 nd:(ps.map (·.1)).Nodup
 is:∀p∈ps,p.1∉o/\p.1<W.length/\∃z,(wsV W p.1)[z]?=some p.2/\(∀e∈(wsV W p.1).take z,ci o e)/\¬ ci o p.2
 nx:∀i p,ps[i]?=some p->∃p',ps[(i+1) % ps.length]?=some p'/\p.2.1=(p'.1:Int)
inductive vv(a:Adr)(vs:LV)(H:Hp)(Q:VK)(E:XK):Prop
 |mk (H0:Hp) (L:LkA) (W:List (List Wat)) (o:LG) (zs:Nat->Nat) (st:Nat->LG) (h0_:vs=[.ref L.b]) (h1_:LkS a H0 L W) (h2_:LkH H0 H L W o zs st) (h3_:LkI W W.length o [] zs st) (h4_:o.length≠W.length) (h5_:∀H' lp us ps,LkH H0 H' L W o zs st->H' lp=some (.lst us)->RWs H' us (ps.map rgW)->k6 W o ps->Q (.ref lp) H'):vv a vs H Q E
def LkT(W:List (List Wat))(H:Hp)(Q:V->Hp->Prop):Prop:=∀H' p lo o zs st,a8 H H'->H' lo=some (.lst (aN o))->LkI W W.length o [] zs st->(o.length=W.length->H' p=some (.tup [.str "by",.ref lo])->Q (.ref p) H')/\∀F us ps,H' p=some (.tup [.str "ring",.ref lo,.ref F])->H' F=some (.lst us)->RWs H' us (ps.map rgW)->k6 W o ps->Q (.ref p) H'
inductive uM(vs:LV)(H:Hp)(Q:VK)(E:XK):Prop
 |mk (lw:Addr) (us:LV) (W:List (List Wat)) (h0_:vs=[.ref lw]) (h1_:H lw=some (.lst us)) (h2_:RWL H us W) (h3_:Sm W 9000) (h4_:Tgt W) (h5_:W.length<=1000) (h6_:LkT W H Q):uM vs H Q E
inductive uN(vs:LV)(H:Hp)(Q:VK)(E:XK):Prop
 |mk (l ls:Addr) (us sv:LV) (rs:List Row) (ss:LF) (W:List (List Wat)) (h0_:vs=[.ref l,.ref ls]) (h1_:H l=some (.lst us)) (h2_:aU H us rs) (h3_:rs.length<=1000) (h4_:(∀r∈rs,r.owns.length<=4000/\r.reads.length<=4000)) (h5_:H ls=some (.lst sv)) (h6_:RSs H sv ss) (h7_:ss.length<=100) (h8_:(∀s∈ss,0<=s.2)) (h9_:cR rs ss (cG rs rs.length) ss.length=W) (h10_:Sm W 9000) (h11_:Tgt W) (h12_:W.length<=1000) (h13_:LkT W H Q):uN vs H Q E
structure WkH(H0 H:Hp)(s d0 d1 d2:Addr)(rs:List Row)(o:LG):Prop where
 so:H s=some (.lst [.ref d0,.ref d1,.ref d2])
 c0:∃kvs,H d0=some (.dK kvs)/\tJ kvs (dnR rs o)/\kvs.length<=4000 * o.length
 c1:∃kvs,H d1=some (.dK kvs)/\jZ kvs (dnR rs o)/\kvs.length<=2 * o.length
 c2:∃kvs,H d2=some (.dK kvs)/\(∀j:Nat,(aI kvs (.inl (j:Int))).isSome=decide (j∈o))/\kvs.length<=o.length
 nd:d0≠d1/\d0≠d2/\d1≠d2
 sa:a8 H0 H
 n0:H0 d0=none
 n1:H0 d1=none
 n2:H0 d2=none
inductive dc(rs:List Row)(ln:Str->Int)(R:List Row)(k:Nat)(r:Row):Str->Prop
 |card:¬ eN rs R k r->dc rs ln R k r "card"
 |thing:eN rs R k r->¬ gx R r->dc rs ln R k r "thing"
 |room:eN rs R k r->gx R r->¬ iA ln R r->dc rs ln R k r "room"
 |no:eN rs R k r->gx R r->iA ln R r->dc rs ln R k r ""
inductive vk(vs:LV)(H:Hp)(Q:VK)(E:XK):Prop
 |mk (H0:Hp) (l la d s d0 d1 d2:Addr) (us as:LV) (rs:List Row) (kvs:LN) (ln:Str->Int) (o:LG) (k:Nat) (r:Row) (h0_:vs=[.ref l,.ref la,.ref d,.ref s,.int k]) (h1_:WkH H0 H s d0 d1 d2 rs o) (h2_:mO H0 l la d us as rs kvs ln) (h3_:rs[k]?=some r) (h4_:∀z,dc rs ln (dnR rs o) k r z->Q (.str z) H):vk vs H Q E
inductive vm(vs:LV)(H:Hp)(Q:VK)(E:XK):Prop
 |mk (H0:Hp) (l s d0 d1 d2:Addr) (us:LV) (rs:List Row) (o:LG) (k:Nat) (r:Row) (h0_:vs=[.ref l,.ref s,.int k]) (h1_:WkH H0 H s d0 d1 d2 rs o) (h2_:H0 l=some (.lst us)) (h3_:aU H0 us rs) (h4_:rs[k]?=some r) (h5_:o.length<=1000) (h6_:(∀r∈rs,r.owns.length<=4000/\r.reads.length<=4000)) (h7_:∀H',WkH H0 H' s d0 d1 d2 rs (o++[k])->Q .non H'):vm vs H Q E
inductive ve(vs:LV)(H:Hp)(Q:VK)(E:XK):Prop
 |mk (H0:Hp) (l la d s d0 d1 d2 ll:Addr) (us as:LV) (rs:List Row) (kvs:LN) (ln:Str->Int) (o lf:LG) (p:Int) (h0_:vs=[.ref l,.ref la,.ref d,.ref s,.ref ll,.int p]) (h1_:WkH H0 H s d0 d1 d2 rs o) (h2_:mO H0 l la d us as rs kvs ln) (h3_:H ll=some (.lst (aN lf))) (h4_:0<lf.length) (h5_:lf.length<=1000) (h6_:(∀k∈lf,k<rs.length)) (h7_:0<=p) (h8_:(∀k r,k∈lf->rs[k]?=some r->dc rs ln (dnR rs o) k r ""->Q (.int (k:Nat)) H)) (h9_:((∀k r,k∈lf->rs[k]?=some r->¬ dc rs ln (dnR rs o) k r "")->Q .non H)):ve vs H Q E
structure Grd(rs:List Row)(ln:Str->Int)(o:LG):Prop where
 nd:o.Nodup
 ok:∀t k,o[t]?=some k->∃r,rs[k]?=some r/\dc rs ln (dnR rs (o.take t)) k r ""
inductive vj(K:W.Frag)(vs:LV)(H:Hp)(Q:VK)(E:XK):Prop
 |mk (l ls lc:Addr) (us sv:LV) (rs:List Row) (ss:LF) (ns:LI) (ln:Str->Int) (h0_:vs=[.ref l,.ref ls,.ref lc]) (h1_:H l=some (.lst us)) (h2_:aU H us rs) (h3_:rs.length<=1000) (h4_:(∀r∈rs,r.owns.length<=4000/\r.reads.length<=4000)) (h5_:H ls=some (.lst sv)) (h6_:RSs H sv ss) (h7_:ss.length<=100) (h8_:(∀r∈rs,∀q,r.into=some q->aI (cU (cL ss)) (.inr q)=some (.int (ln q)))) (h9_:SqL K H lc (ns.map V.int)) (h10_:ns.length<=63) (h11_:∀H' lr o,a8 H H'->Grd rs ln o->(∀k r,rs[k]?=some r->k∉o->¬ dc rs ln (dnR rs o) k r "")->H' lr=some (.lst (aN ((List.range rs.length).filter λk=>!decide (k∈o))))->Q (.ref lr) H'):vj K vs H Q E
inductive ji(K:W.Frag)(vs:LV)(H:Hp)(Q:VK)(E:XK):Prop
 |mk (a:Addr) (ns:LI) (h0_:vs=[.ref a]) (h1_:SqL K H a (ns.map V.int)) (h2_:ns.length<=63) (h3_:(∀n∈ns,Builtin.Int.intBits n<=2 ^ 20)) (h4_:mL H) (h5_:∀H',Q (.bl true) H'):ji K vs H Q E
theorem ln1:1<=sizeLine:=Yk
theorem ln2:2<=sizeLine:=Yk
theorem ln3:3<=sizeLine:=Yk
theorem ln5:5<=sizeLine:=Yk
section
variable {a:Adr}
theorem pX(T:Tx P w K mg a):aM P w K mg base CX0 1 a.Ii a.Ij ["store"] uI:=by
 refine T.Ha.F.ok Bh (by walk_at "l") λ_ A outer s H vs Q E hr h=>?_;obtain⟨q,rfl,_,k⟩:=h;exists _,(ap (aE (aq hU (pq 0) aS)));walk_at "q";exact⟨_,U,_,_,U,U,bq (m:=1001) (by show q.length+1<=1001;omega),k⟩
theorem pZ(T:Tx P w K mg a):aM P w K mg base CX0 1 a.Ik a.Il ["store"] uO:=by
 refine T.Hd.F.ok Bl (by walk_at "l") λ_ A outer s H vs Q E hr h=>?_;obtain⟨q,rfl,_,k⟩:=h;exists _,(ap (aE (aq hU (pq 0) aS)));walk_at "q";exact⟨_,U,_,_,U,U,bq (m:=1001) (by show q.length+1<=1001;omega),k⟩
theorem Dq(T:Tx P w K mg a):aM P w K mg base CX0 1 a.HX a.HY ["deed"] uT:=by
 refine T.Jp.F.ok Bm (by walk_at "l") λ_ A outer s H vs Q E hr h=>?_;obtain⟨g,v,d,rfl,e,hd,k⟩:=h
 refine⟨_,(ai (aQ (aD br (ao ay (pq 0) aa Oy) aS (aG _)) (ap (aE (ba (a9 (ao ay (pq 0) aa Oy) (a9 (ao ay (pq 0) aa Oy) af))))) aZ)
  (ai (aQ (aD iX (ao ay (pq 0) aa Oy) (gc U T.K4 T.r_LOOPS) (by with_unfolding_all rfl)) (ap (aE (ba (a9 (ao ay (pq 0) aa Oy) af)))) aZ)
  (ap (aE (ba af))))),?_⟩
 walk_at "q";have nil:∀p,H p=none->d.inner=[]->Q (.ref p) (upd H p (.lst [])):=λp c z=>k _ p [] (a8.new c _) c ah (by rw[z];exact .nil);have one:∀p b bs,H p=none->d.inner=[bs]->RL g b bs->Q (.ref p) (upd H p (.lst [.ref b])):=λp b bs c z hb=>k _ p [b] (a8.new c _) c ah (by rw[z];exact .cons hb .nil)
 cases hd with
 |cond h f i=>
  exists _,U,_,_,_,_,U,U,SqT.of (e _ _ h),U,U,_,U;walk_at "yes";refine⟨_,U,_,_,_,_,U,U,SqT.of (e _ _ h),U,_,U,_,_,_,_,U,U,SqT.of (e _ _ h),U,ln2,λp c=>?_⟩;exact k _ p [_,_] (a8.new c _) c ah (.cons f (.cons i .nil))
 |whl h f=>
  exists _,U,_,_,_,_,U,U,SqT.of (e _ _ h),U,U,_,U;walk_at "no";exists _,U,_,_,_,_,U,U,SqT.of (e _ _ h),U,_,_,U,.inr (T.or _),U,U,_,U;walk_at "yes";exact⟨_,U,_,_,_,_,U,U,SqT.of (e _ _ h),U,ln1,λp c=>one p _ _ c U f⟩
 |rep h f=>
  exists _,U,_,_,_,_,U,U,SqT.of (e _ _ h),U,U,_,U;walk_at "no";exists _,U,_,_,_,_,U,U,SqT.of (e _ _ h),U,_,_,U,.inr (T.or _),U,U,_,U;walk_at "yes";exact⟨_,U,_,_,_,_,U,U,SqT.of (e _ _ h),U,ln1,λp c=>one p _ _ c U f⟩
 |set h=>
  exists _,U,_,_,_,_,U,U,SqT.of (e _ _ h),U,U,_,U;walk_at "no";exists _,U,_,_,_,_,U,U,SqT.of (e _ _ h),U,_,_,U,.inr (T.or _),U,U,_,U;walk_at "no";exact⟨qv _,λp c=>nil p c U⟩
 |put h=>
  exists _,U,_,_,_,_,U,U,SqT.of (e _ _ h),U,U,_,U;walk_at "no";exists _,U,_,_,_,_,U,U,SqT.of (e _ _ h),U,_,_,U,.inr (T.or _),U,U,_,U;walk_at "no";exact⟨qv _,λp c=>nil p c U⟩
 |get h=>
  exists _,U,_,_,_,_,U,U,SqT.of (e _ _ h),U,U,_,U;walk_at "no";exists _,U,_,_,_,_,U,U,SqT.of (e _ _ h),U,_,_,U,.inr (T.or _),U,U,_,U;walk_at "no";exact⟨qv _,λp c=>nil p c U⟩
 |give h=>
  exists _,U,_,_,_,_,U,U,SqT.of (e _ _ h),U,U,_,U;walk_at "no";exists _,U,_,_,_,_,U,U,SqT.of (e _ _ h),U,_,_,U,.inr (T.or _),U,U,_,U;walk_at "no";exact⟨qv _,λp c=>nil p c U⟩
theorem Di(T:Tx P w K mg a):aM P w K mg base CX0 2 a.Ig a.Ih ["deed"] uJ:=by
 refine T.Jr.F.ok Bj (by walk_at "l") λ_ A outer s H vs Q E hr h=>?_;obtain⟨_,v,d,rfl,b,hd,hk,k⟩:=h
 refine⟨_,(ai (aQ (aD br (ao ay (pq 0) aa Oy) aS (aG _)) (ap (aE (ba (a9 (aF (pX T) (hr.mono Yk) T.Ha (a9 (ao ay (pq 0) aa Oy) af)) af)))) aZ)
  (ai (aQ (aD br (ao ay (pq 0) aa Oy) aS (aG _)) (ap (aE (ba (a9 (aF (pZ T) (hr.mono Yk) T.Hd (a9 (ao ay (pq 0) aa Oy) af)) af)))) aZ)
  (ap (aE (i4 (aD iX (ao ay (pq 0) aa Oy) (gc U T.K6 T.r_OUTLET_KEEPERS) (by with_unfolding_all rfl)) (ba (a9 (gc U T.HD T.r_OUTLET) af)) (ba af)))))),?_⟩
 walk_at "q"
 have fin:∀p xs,H p=none->d.others.map V.str=xs->Q (.ref p) (upd H p (.lst xs)):=λp xs c z=>by
  subst z;exact k _ p (a8.new c _) c ah
 have bW:∀q z:Str,q++z∈d.others->q.length<=1000:=λq z f=>by
  have:=hk _ f;rw[dB]at this;omega
 cases hd with
 |put h=>
  exists _,U,_,_,_,_,U,U,SqT.of (b _ _ h),U,U,_,U;walk_at "yes";exact⟨_,U,_,_,_,_,U,U,SqT.of (b _ _ h),U,_,U,bW _ ">" (by simp[ae.others]),ln1,λp c=>fin p _ c U⟩
 |get h=>
  exists _,U,_,_,_,_,U,U,SqT.of (b _ _ h),U,U,_,U;walk_at "no";exists _,U,_,_,_,_,U,U,SqT.of (b _ _ h),U,U,_,U;walk_at "yes";exact⟨_,U,_,_,_,_,U,U,SqT.of (b _ _ h),U,_,U,bW _ "<" (by simp[ae.others]),ln1,λp c=>fin p _ c U⟩
 |give h=>
  exists _,U,_,_,_,_,U,U,SqT.of (b _ _ h),U,U,_,U;walk_at "no";exists _,U,_,_,_,_,U,U,SqT.of (b _ _ h),U,U,_,U;walk_at "no";exists _,U,_,_,_,_,U,U,SqT.of (b _ _ h),U,_,_,U,.inr (T.wE _),U,U,_,U;walk_at "yes";exact⟨Yk,λp c=>fin p _ c U⟩
 |whl h e=>
  exists _,U,_,_,_,_,U,U,SqT.of (b _ _ h),U,U,_,U;walk_at "no";exists _,U,_,_,_,_,U,U,SqT.of (b _ _ h),U,U,_,U;walk_at "no";exists _,U,_,_,_,_,U,U,SqT.of (b _ _ h),U,_,_,U,.inr (T.wE _),U,U,_,U;walk_at "yes";exact⟨Yk,λp c=>fin p _ c U⟩
 |set h=>
  exists _,U,_,_,_,_,U,U,SqT.of (b _ _ h),U,U,_,U;walk_at "no";exists _,U,_,_,_,_,U,U,SqT.of (b _ _ h),U,U,_,U;walk_at "no";exists _,U,_,_,_,_,U,U,SqT.of (b _ _ h),U,_,_,U,.inr (T.wE _),U,U,_,U;walk_at "no";exact⟨Yk,λp c=>fin p _ c U⟩
 |cond h e _=>
  exists _,U,_,_,_,_,U,U,SqT.of (b _ _ h),U,U,_,U;walk_at "no";exists _,U,_,_,_,_,U,U,SqT.of (b _ _ h),U,U,_,U;walk_at "no";exists _,U,_,_,_,_,U,U,SqT.of (b _ _ h),U,_,_,U,.inr (T.wE _),U,U,_,U;walk_at "no";exact⟨Yk,λp c=>fin p _ c U⟩
 |rep h e=>
  exists _,U,_,_,_,_,U,U,SqT.of (b _ _ h),U,U,_,U;walk_at "no";exists _,U,_,_,_,_,U,U,SqT.of (b _ _ h),U,U,_,U;walk_at "no";exists _,U,_,_,_,_,U,U,SqT.of (b _ _ h),U,_,_,U,.inr (T.wE _),U,U,_,U;walk_at "no";exact⟨Yk,λp c=>fin p _ c U⟩
noncomputable def ng(vs:LV):LV:=vs.filter λv=>match v with|.str _=>true|_=>false
theorem wF(T:Tx P w K mg a):aM P w K mg base CX0 1 a.HZ a.Ia ["deed"] uL:=by
 refine T.HA.F.ok vK (by walk_at "l") λC A outer s H vs Q E hr h=>?_;obtain⟨G,v,d,rfl,b,hd,k⟩:=h
 refine⟨_,(ai (au (i:=1) vK.nd U Oi (ao ay (pq 0) aa Oy))
  (ai (aQ (aD br (pq 1) aS (aG _)) (ap (aE (i5 (k:=1) (Nc:=["word"]) (js:=[]) (show bL (aH kO) ["deed","kind"] _ 1 ["word"] []from bL.mk U (by decide +kernel) (by decide +kernel) (by decide +kernel) U (by decide +kernel)) U (i3 (bA (a9 (ao ay (pq 0) aa Oy) (a9 (ao ay (pq 0) aa Oy) (a9 (ao ay (pq 0) aa Oy) af))))) (λ_ _ _ _ _=>(aR (i:=0) (show List.Nodup (["word"]:LS)from by decide +kernel) U Oi)) (λ_ _ _ _ _=>(pM (hX (be (C7 (K:=K) U) U T.wP PyProof.Rows.Boot.«isinstance» (a9 (pq 0) (a9 (iV (v:=.ty "str") U T.JM PyProof.Rows.Boot.«str» rfl) af)))))) (λ_ _ _ _ _=>(pq 0))))) aZ)
  (ai (aQ (aD br (pq 1) aS (aG _)) (ap (aE (ba af))) aZ)
  (ap (aE (i4 (aD iX (pq 1) (gc U T.K5 T.r_LOOKERS) (by with_unfolding_all rfl)) (ba (a9 (ao ay (pq 0) aa Oy) af)) (ba (a9 (ao ay (pq 0) (d8 cY aa) Oy) af)))))))),?_⟩
 walk_at "q"
 have fin:∀l p xs,a8 H l->l p=none->d.names.map V.str=xs->Q (.ref p) (upd l p (.lst xs)):=λl p xs j c z=>by
  subst z;refine k _ p (j.trans (a8.new c _)) ?_ ah
  cases q:H p with
  |none=>rfl
  |some o=>rw[j _ _ q]at c;cases c
 cases hd with
 |set h=>
  rename_i p x f J e;exists _,U,_,_,_,_,U,U,SqT.of (b _ _ h),U;exists _,U,U,_,U;walk_at "yes";refine⟨_,U,_,_,_,_,U,U,SqT.of (b _ _ h),U,_,U,_,_,_,_,U,U,SqT.of (b _ _ h),U,_,U,_,_,_,_,U,U,SqT.of (b _ _ h),U,ln3,λt ht=>⟨t,U,⟨_,SqT.of ah⟩,?_⟩⟩;refine sS (K:=K) (a:=t) (xs:=[.str x,f.v,e.v]) (λi ys Y g=>g=upd H t (.tup [.str x,f.v,e.v])/\(∃u,Y=[u])/\ys=ng (([.str x,f.v,e.v]:LV).take i)) ⟨U,⟨_,U⟩,U⟩ ?_ ln3 ?_ ?_ ?_
  .rintro i ys Y g I ⟨_,_,rfl⟩;refine qC (List.length_filter_le _ _) ?_;rw[qN];omega
  .rintro i ys Y g ⟨rfl,_⟩;exact SqT.of ah
  .rintro i z ys Y g m ⟨rfl,⟨u,rfl⟩,rfl⟩;have r:z=.str x\/z=f.v\/z=e.v:=by simpa using qD m
   have kind:(∃y,z=.str y)\/∃n,z=.int n:=by
    rcases r with rfl|rfl|rfl
    .exact .inl ⟨_,U⟩
    .cases f<;>simp[Val.v]
    .cases e<;>simp[Val.v]
   rcases kind with⟨y,rfl⟩|⟨n,rfl⟩
   .exists _,U,_,_,_,true,U,.str y,U,_,U;refine rZ ⟨_,U,U,⟨_,U⟩,?_⟩;rw[qu,m];simp[ng]
   .exists _,U,_,_,_,false,U,.int n,U,_,U;refine j3 ⟨U,⟨_,U⟩,?_⟩;rw[qu,m];simp[ng]
  .rintro ys Y g ⟨rfl,_,rfl⟩ D B;refine fin _ D _ (a8.new ht _) B ?_;cases f<;>cases e<;>rfl
 |rep h j=>
  exists _,U,_,_,_,_,U,U,SqT.of (b _ _ h),U;exists _,U,U,_,U;walk_at "no";exists _,U,U,_,U;walk_at "yes";exact⟨qv _,λp c=>fin H p _ (a8.refl H) c U⟩
 |cond h j L=>
  exists _,U,_,_,_,_,U,U,SqT.of (b _ _ h),U;exists _,U,U,_,U;walk_at "no";exists _,U,U,_,U;walk_at "no";exists _,U,_,_,U,.inr (T.u8 _),U,U,_,U;walk_at "yes";exact⟨_,U,_,_,_,_,U,U,SqT.of (b _ _ h),U,ln1,λp c=>fin H p _ (a8.refl H) c U⟩
 |whl h j=>
  exists _,U,_,_,_,_,U,U,SqT.of (b _ _ h),U;exists _,U,U,_,U;walk_at "no";exists _,U,U,_,U;walk_at "no";exists _,U,_,_,U,.inr (T.u8 _),U,U,_,U;walk_at "yes";exact⟨_,U,_,_,_,_,U,U,SqT.of (b _ _ h),U,ln1,λp c=>fin H p _ (a8.refl H) c U⟩
 |put h=>
  exists _,U,_,_,_,_,U,U,SqT.of (b _ _ h),U;exists _,U,U,_,U;walk_at "no";exists _,U,U,_,U;walk_at "no";exists _,U,_,_,U,.inr (T.u8 _),U,U,_,U;walk_at "no";exact⟨_,U,_,U,_,_,_,_,U,U,SqT.of (b _ _ h),U,ln1,λp c=>fin H p _ (a8.refl H) c U⟩
 |get h=>
  exists _,U,_,_,_,_,U,U,SqT.of (b _ _ h),U;exists _,U,U,_,U;walk_at "no";exists _,U,U,_,U;walk_at "no";exists _,U,_,_,U,.inr (T.u8 _),U,U,_,U;walk_at "no";exact⟨_,U,_,U,_,_,_,_,U,U,SqT.of (b _ _ h),U,ln1,λp c=>fin H p _ (a8.refl H) c U⟩
 |give h=>
  exists _,U,_,_,_,_,U,U,SqT.of (b _ _ h),U;exists _,U,U,_,U;walk_at "no";exists _,U,U,_,U;walk_at "no";exists _,U,_,_,U,.inr (T.u8 _),U,U,_,U;walk_at "no";exact⟨_,U,_,U,_,_,_,_,U,U,SqT.of (b _ _ h),U,ln1,λp c=>fin H p _ (a8.refl H) c U⟩
theorem Fu{d:ae}(h:ds[i]?=some d):aj (ds.take (i+1))=aj (ds.take i)++(d::d.inner.flatMap aj):=by
 rw[qu,h,fB];show _++aj [d]=_;rw[aj,aj,qA,j6]
theorem mD:∀{ds:LA}{i:Nat}{d:ae},ds[i]?=some d->d.depth<=aO ds
 |[],i,d,h=>by simp at h
 |x::r,0,d,h=>by simp at h;subst h;rw[aO];omega
 |x::r,i+1,d,h=>by
  simp only[List.getElem?_cons_succ]at h;have:=mD h;rw[aO];omega
theorem EZ{d:ae}{b:LA}(h:d.inner[j]?=some b):aO b<d.depth:=by
 have a:=qD h;cases d<;>simp[ae.inner]at a
 .rcases a with rfl|rfl<;>rw[ae.depth]<;>omega
 .subst a;rw[ae.depth];omega
 .subst a;rw[ae.depth];omega
theorem xW:(aj (ds.take i)).length<=(aj ds).length:=by
 have:aj ds=aj (ds.take i)++aj (ds.drop i):=by rw[<- fB,Qx]
 rw[this,qc];omega
theorem Dr(T:Tx P w K mg a):∀n:Nat,aM P w K mg base CX0 (n+2) a.HV a.HW ["block"] (uU n):=by
 intro n
 induction n with
 |zero=>
  refine T.Go.F.ok jr (by walk_at "l") λa2 A outer s H vs Q E hr h=>?_
  .obtain⟨_,_,_,_,_,_,h0,_⟩:=h;exact Q8 h0 (QB _)
 |succ n ih=>
  refine T.Go.F.ok jr (by walk_at "l") λa2 A outer s H vs Q E hr h=>?_;obtain⟨C,b,ds,rfl,D,hb,a5,Z,k⟩:=h
  refine⟨_,(ai (au (i:=1) jr.nd U Oi (ba af))
   (ai (bR PassesOwn.never U (cV (pq 0)) (aR (i:=2) jr.nd U Oi)
   (ai (bx (bF qh qy qz cC (pq 1) (a9 (pq 2) af)))
   (ap (bR PassesOwn.never U (cV (aF (Dq T) (hr.mono Yo) T.Jp (a9 (pq 2) af))) (aR (i:=3) jr.nd U Oi)
   (ap (bx (bF qh Qr Qq gQ (pq 1) (a9 (aF ih (hr.mono Yo) T.Go (a9 (pq 3) af)) af))))))))
   (ap (aE (pq 1))))),?_⟩
  walk_at "q";obtain⟨L,M⟩:=hb;rename_i vs;refine⟨qv _,λf B=>?_⟩;have a0:=a8.none D B;exists _,U,b,U,⟨_,SqL.of ((a8.new B _) _ _ (D _ _ L))⟩;refine dG (K:=K) (a:=b) (xs:=vs) (λi Y r=>∃us I o,Y=[some (.ref b),some (.ref f),I,o]/\a8 H r/\r f=some (.lst us)/\RDs C us (aj (ds.take i))) ⟨[],_,_,U,a8.new B _,ah,.nil⟩ ?_ ?_ ?_
  .rintro i Y r _ ⟨us,I,o,_,v,_,_⟩;exact SqL.of (v _ _ (D _ _ L))
  .rintro i x Y r hx ⟨us,I,o,rfl,v,u,q⟩;obtain⟨d,hd,N⟩:=M.at i x hx;have lu:us.length<=1000:=by rw[q.len];exact qC xW Z
   exists _,U,.inl ⟨U,_,SqL.of u⟩,_,U,f,_,_,U,U,u,bq (m:=1001) Yo;have s3:a8 C (upd r f (.lst (us++[x]))):=a8.over (D.trans v) a0;refine⟨_,U,C,x,d,U,s3,N,λH4 l bs X nl hl O=>⟨l,U,⟨_,SqL.of hl⟩,?_⟩⟩;have lf:l≠f:=λz=>by rw[z,ah]at nl;cases nl
   have all:aj (ds.take (i+1))=aj (ds.take i)++([d]++d.inner.flatMap aj):=Fu hd
   refine dG (K:=K) (a:=l) (xs:=bs.map V.ref) (λj Y y=>∃g o,Y=[some (.ref b),some (.ref f),some x,o]/\a8 H y/\y f=some (.lst g)/\y l=some (.lst (bs.map V.ref))/\RDs C g (aj (ds.take i)++([d]++(d.inner.take j).flatMap aj)))
    ⟨us++[x],_,U,(a8.over v B).trans X,X _ _ ah,hl,q.app (.cons N .nil)⟩ ?_ ?_ ?_
   .rintro j Y y _ ⟨g,o,_,_,_,t,_⟩;exact SqL.of t
   .rintro j z Y y X0 ⟨g,o,rfl,G,p,t,c⟩;rw[qH]at X0;obtain⟨bj,a1,rfl⟩:=qS.mp X0;obtain⟨S,J,a3⟩:=O.at j bj a1;have dd:=mD hd;have di:=EZ J
    have st:(d.inner.take (j+1)).flatMap aj=(d.inner.take j).flatMap aj++aj S:=by
     rw[qu,J,qX];simp
    have pre:(aj (ds.take i)++([d]++(d.inner.take (j+1)).flatMap aj)).length<=1000:=by
     have e:d.inner.flatMap aj=(d.inner.take (j+1)).flatMap aj++(d.inner.drop (j+1)).flatMap aj:=by rw[<- qX,Qx]
     have:=xW (ds:=ds) (i:=i+1);rw[all,e]at this;simp only[qc]at this ⊢;omega
    rw[st]at pre;simp only[qc]at pre;have a4:g.length<=1000:=by rw[c.len];simp only[qc];omega
    refine⟨_,U,.inl ⟨U,_,SqL.of p⟩,_,U,C,bj,S,U,D.trans G,a3,Yo,Yo,λH6 l6 W R n6 h6 r6=>?_⟩;have f6:l6≠f:=λz=>by rw[z,p]at n6;cases n6
    exists f,l6,_,_,U,U,R _ _ p,h6,bq (m:=2000) (by rw[r6.len];omega);refine⟨g++W,_,U,a8.over (G.trans R) B,ah,?_,?_⟩
    .rw[ag lf];exact R _ _ t
    .rw[st,<- qQ,<- qQ];rw[<- qQ]at c;exact c.app r6
   .rintro Y y ⟨g,o,rfl,G,p,t,c⟩;exists g,_,_,U,G,p;rw[all];rw[qa,O.len,qK]at c;exact c
  .rintro Y r ⟨us,I,o,rfl,v,u,q⟩;rw[M.len,qK]at q;exact⟨_,U,k r f us v B u q⟩
theorem FR(d:ae):d.cards.length<=3:=by
 cases d with
 |set x a _ b=>cases a<;>cases b<;>simp[ae.cards,ae.names,ae.others,Val.names]
 |_=>simp[ae.cards,ae.names,ae.others]
theorem j8:∀(l:LA),(l.flatMap ae.cards).length<=3 * l.length
 |[]=>by simp
 |d::r=>by
  have h1:=FR d;have a:=j8 r;rw[qI,qc,qE];omega
theorem pW(T:Tx P w K mg a):aM P w K mg base CX0 16 a.Id a.Ie ["block"] nC:=by
 refine T.GZ.F.ok nK (by walk_at "l") λ_ A outer s H vs Q E hr h=>?_;obtain⟨L,b,ds,C,rfl,t,hb,_,O,X0,W,J,k⟩:=h
 refine⟨_,(ai (au (i:=1) nK.nd U Oi (ba af))
  (ai (bR PassesOwn.never U (cV (aF (Dr T 13) (hr.mono Yk) T.Go (a9 (pq 0) af))) (aR (i:=2) nK.nd U Oi)
  (ai (bx (bF qh Qr Qq gQ (pq 1) (a9 (aF (wF T) (hr.mono Yk) T.HA (a9 (pq 2) af)) af)))
  (ap (bx (bF qh Qr Qq gQ (pq 1) (a9 (aF (Di T) (hr.mono Yk) T.Jr (a9 (pq 2) af)) af))))))
  (ap (aE (be (sW U) U T.At PyProof.Rows.Boot.«sorted» (a9 (fw (mG U) U T.Hj PyProof.Rows.Boot.«set» (a9 (pq 1) af)) af)))))),?_⟩
 walk_at "q";refine⟨qv _,λc j=>?_⟩;have c0:=a8.none t j;refine⟨_,U,L,b,ds,U,a8.over t c0,hb,Yo,O,λ_ l us M S hl y=>⟨l,U,⟨_,SqL.of hl⟩,?_⟩⟩;have Z:l≠c:=λz=>by rw[z,ah]at S;cases S
 have few:∀i,(((aj ds).take i).flatMap ae.cards).length<=3000:=λi=>by
  have:=j8 ((aj ds).take i);rw[qN]at this;omega
 refine dG (K:=K) (a:=l) (xs:=us) (λi Y f=>∃v,Y=[some (.ref b),some (.ref c),v]/\a8 H f/\f c=some (.lst ((((aj ds).take i).flatMap ae.cards).map V.str))/\f l=some (.lst us)) ⟨_,U,(a8.new j _).trans M,M _ _ ah,hl⟩ ?_ ?_ ?_
 .rintro i Y f _ ⟨v,_,_,_,h⟩;exact SqL.of h
 .rintro i x Y f hx ⟨v,rfl,g,e,u⟩;obtain⟨d,hd,D⟩:=y.at i x hx;have dm:d∈aj ds:=qD hd;have n:=few (i+1);rw[qu,hd]at n
  have a0:(((aj ds).take i).flatMap ae.cards).length+(d.names.length+d.others.length)<=3000:=by
   simpa[qX,ae.cards]using n
  refine⟨_,U,.inl ⟨U,_,SqL.of e⟩,_,U,L,x,d,U,t.trans g,D,λH4 l4 I _ h4=>?_⟩;exists c,l4,_,_,U,U,I _ _ e,h4,bq (m:=3000) (by rw[qa,qa];omega);have X:a8 H (upd H4 c (.lst ((((aj ds).take i).flatMap ae.cards).map V.str++d.names.map V.str))):=a8.over (g.trans I) j;refine⟨_,U,.inl ⟨U,_,SqL.of ah⟩,_,U,L,x,d,U,t.trans X,D,λz hz=>J _ (X0 _ (List.mem_flatMap.mpr ⟨d,dm,qL _ hz⟩)),λH6 l6 G _ h6=>?_⟩;exists c,l6,_,_,U,U,G _ _ ah,h6,bq (m:=3000) (by rw[qc,qa,qa,qa];omega);refine⟨_,U,a8.over (X.trans G) j,?_,?_⟩
  .rw[ah,qu,hd];simp[qX,ae.cards]
  .rw[ag Z];refine G _ _ ?_;rw[ag Z];exact I _ _ u
 .rintro Y f ⟨v,rfl,g,e,u⟩;rw[y.len,qK]at e;have n:=few (aj ds).length;rw[qK]at n;refine⟨_,U,c,(aj ds).flatMap ae.cards,U,SqL.of e,Yo,λp R=>?_⟩;refine⟨p,(aj ds).flatMap ae.cards,C,U,ah,X0,W,λr zs B nd hm so=>?_⟩;have p0:=a8.none g R
  have N:H r=none:=by
   refine a8.none g ?_
   cases q:f r with
   |none=>rfl
   |some o=>
    have:r≠p:=cy q R;rw[ag this,q]at B;cases B
  exact k _ r zs (a8.over (a8.over g p0) N) N ah nd hm so
theorem lF(T:Tx P w K mg a):aM P w K mg base CX0 1 a.ID a.IE ["_law_script","_law_k"] (vn K):=by
 refine T.wS.F.ok Bp (by walk_at "l") λ_ A outer s H vs Q E hr h=>?_;obtain⟨l,ns,k,rfl,hl,hn,h0,q⟩:=h
 refine⟨_,(ai (aQ (aD hV (pq 1) (be bT U T.f8 Qb (a9 (pq 0) af)) (aG _)) (ap (aE (ao aK (pq 0) (pq 1) Oy))) aZ)
  (ap (aE aa))),?_⟩
 walk_at "q";have len:(ns.map V.int).length=ns.length:=qa _;exists _,U,_,U,l,_,U,.inl hl,_,_,U,U,_,U;refine cX (λc=>?_) (λc=>?_)
 .have c:=Qg c;rw[len]at c;have lt:k.toNat<ns.length:=Yo
  have e:atI (ns.map V.int) k=some (.int (ns.getD k.toNat 0)):=by
   have:=da (xs:=ns.map V.int) (j:=k.toNat) (v:=.int (ns.getD k.toNat 0)) (by rw[qH,qo,qd lt];rfl)
   rwa [Int.toNat_of_nonneg h0]at this
  exact⟨_,U,_,U,l,_,_,_,U,U,hl,e,q⟩
 .have c:¬ k<((ns.map V.int).length:Int):=λz=>c (Q6 z);rw[len]at c;have e:ns.getD k.toNat 0=0:=by rw[qo,Qs Yo];rfl
  rw[e]at q;exact q
theorem fN(T:Tx P w K mg a):aM P w K mg base CX0 1 a.IF a.IG ["_law_cell","_law_k"] vg:=by
 refine T.mt.F.ok vN (by walk_at "l") λ_ A outer s H vs Q E hr h=>?_;obtain⟨c,k,rfl,h0,_,q⟩:=h;unfold aA at q
 refine⟨_,(ai (au (i:=2) vN.nd U Oi (aq bf (aq eD (aq bf (pq 0) aa) (aq bK aa (aq eD (aq eD aa (pq 1)) (pq 1)))) aa))
  (ap (aE (aq bf (aq eD (aq bK (pq 2) (pq 1)) (aq bK (pq 2) (aq eD aa (pq 1)))) aa)))),?_⟩
 walk_at "q";have kb:Builtin.Int.intBits k<=64:=intBits_le_64 Yo Yo;walk_at "rd";exists IntMulOk.of_right kb;walk_at "rd";exists IntMulOk.of_right kb;walk_at "rd";exists IntMulOk.of_left (intBits_le_64 Yo Yo);walk_at "rd";have n0:=Qd (c % 2147483647 * (48271+1103 * k * k)) (show(2147483629:Int)≠0 by decide);have n1:=Qi (c % 2147483647 * (48271+1103 * k * k)) (show(0:Int)<2147483629 by decide);generalize c % 2147483647 * (48271+1103 * k * k) % 2147483629=m at n0 n1 q ⊢;exists IntMulOk.of_right kb;walk_at "rd";exists IntMulOk.of_left (intBits_le_64 Yo Yo);walk_at "rd";exact q
theorem tE{j:Int}(h0:0<=j)(a:j<26):atI cW.cps.toList j=some (c9 j):=by
 have lt:j.toNat<cW.cps.toList.length:=by
  have:cW.cps.toList.length=26:=Yd;omega
 have:=da (xs:=cW.cps.toList) (j:=j.toNat) (v:=c9 j) (by unfold c9;rw[qo,qd lt];rfl)
 rwa [Int.toNat_of_nonneg h0]at this
theorem rP:cW.length<=sizeLine:=Yd
theorem B5(c:Nat):(sgn c).length=1:=U
theorem jJ(n:Int):∀k:Nat,(cB n k).length=k
 |0=>rfl
 |k+1=>by rw[cB,dB,jJ n k,B5]
theorem wH(T:Tx P w K mg a):aM P w K mg base CX0 1 a.IJ a.IK ["_law_number","_law_size"] vh:=by
 refine T.HB.F.ok iL (by walk_at "l") λ_ A outer s H vs Q E hr h=>?_;obtain⟨n,k,rfl,h0,_,q⟩:=h
 refine⟨_,(ai (au (i:=2) iL.nd U Oi aS)
  (ai (au (i:=3) iL.nd U Oi aS)
  (ai (bR PassesOwn.never U (g9 U T.om (a9 (pq 1) af)) (aR (i:=4) iL.nd U Oi)
  (ai (au (i:=3) iL.nd U Oi (aq hU (pq 3) (ao jM (pq 2) (aq bf (pq 0) aa) Oy)))
  (ap (au (i:=0) iL.nd U Oi (aq cT (pq 0) aa)))))
  (ap (aE (pq 3)))))),?_⟩
 walk_at "q";refine⟨_,U,k,U,Yo,Yo,j5 (λi Y b=>b=H/\i<=k.toNat/\∃v:LC,Y=[some (.int (jS n i)),some (.int k),some (.str cW),some (.str (cB n i)),v]) ⟨U,qv _,_,U⟩ ?_ ?_⟩
 .rintro i Y b c ⟨rfl,_,v,rfl⟩;have e:=tE (Qd (jS n i) (show(26:Int)≠0 by decide)) (Qi (jS n i) Yk);exists _,U,_,U,_,U,_,_,U,U,Yk,cW,_,_,U,U,rP,e,_,_,U,U,bq (m:=1000) (by rw[jJ];show i+1<=1000;omega);exact⟨_,U,_,_,U,U,⟨Yk,Yk⟩,U,c,_,U⟩
 .rintro Y b ⟨rfl,_,v,rfl⟩;exact⟨_,U,q⟩
theorem sj{w:Str}:∀{ks:LS},inV (.str w) (ks.map V.str)=decide (w∈ks)
 |[]=>rfl
 |k::ks=>by
  show(eqV (.str k) (.str w) || inV (.str w) (ks.map V.str))=decide (w∈k::ks);rw[sj];show((k == w) || decide (w∈ks))=_;by_cases e:k=w
  .subst e;simp
  .have a:¬ w=k:=λz=>e z.symm;simp[e,a]
theorem ED:∀w∈kws,atI w.cps.toList (-1)=some (w.cps.toList.getLastD 97)/\Builtin.Str.occurrences cW ⟨#[w.cps.toList.getLastD 97]⟩ 0 cW.length 1=[w.cps.toList.getLastD 97-97]/\(97<=w.cps.toList.getLastD 97/\w.cps.toList.getLastD 97<=122)/\w.length<=8:=Yd
theorem Du(T:Tx P w K mg a):aM P w K mg base CX0 1 a.IL a.IM ["_law_word"] uW:=by
 refine T.Jy.F.ok vM (by walk_at "l") λ_ A outer s H vs Q E hr h=>?_;obtain⟨x,rfl,l,q⟩:=h
 refine⟨_,(ai (au (i:=1) vM.nd U Oi aS)
  (ai (aQ (aD iX (pq 0) (bA (lD U)) (by with_unfolding_all rfl)) (ap (aE (aq hU (gb jj (pq 0) hZ (fk (d8 cY aa))) (ao jM (pq 1) (aq bf (aq bK (bF PySem.F.plainAttrs_str PySem.F.slot_str_index PySem.F.type_str_index DZ (pq 1) (a9 (ao jM (pq 0) (d8 cY aa) Oy) af)) aa) aa) Oy)))) aZ)
  (ap (aE (pq 0))))),?_⟩
 walk_at "q";refine⟨_,U,(by show 10<=sizeLine;decide),λp f=>?_⟩;exists p,kws.map V.str,U,.inr (SqT.of ah),U,U,_,U;have sm:=a8.new f (.tup (kws.map V.str));have d:=bq (m:=200) l;refine cX (λc=>?_) (λc=>?_)
 .have c:inV (.str x) (kws.map V.str)=true:=c;rw[sj]at c;have hk:=Qg c;obtain⟨k,n,_,_⟩:=ED x hk;have g:((x.cps.toList.getLastD 97-97:Nat):Int)=i9 x:=by unfold i9;omega
  have e:=tE (j:=(((x.cps.toList.getLastD 97-97:Nat):Int)+13) % 26) (Qd _ Yk) (Qi _ Yk);have b:=q _ sm;unfold cQ at b;rw[Q5 hk,<- g]at b;exists _,U,_,U,_,U,x,U,d;exists _,U,_,U,U;exists _,U,_,U,x,_,_,U,U,d,k,cW,_,_,_,U,U,n;exists _,_,U,U,_,_,U,U,Yk,cW,_,_,U,U,rP,e;refine⟨_,_,U,U,bq (m:=1000) ?_,b⟩;have:=Txt.slice_le x none (some (-1));show _+1<=1000;omega
 .have c:¬ inV (.str x) (kws.map V.str)=true:=c;rw[sj]at c;have b:=q _ sm;unfold cQ at b;rw[Q4 (λz=>c (Q6 z))]at b;exact⟨_,U,b⟩
theorem jF(c k:Int):0<=aA c k:=by unfold aA;exact Qd _ Yk
theorem x8(c k:Int):aA c k<2147483587:=by unfold aA;exact Qi _ Yk
theorem iH(z:Str)(a b:Option Int):(Txt.slice z a b).length<=z.length:=Txt.slice_le z a b
theorem wj(c:Int):(bS c).length=8:=by unfold bS;exact jJ _ 8
theorem Cy(c k:Int):(bU c k).length<=30:=by
 unfold bU;have b:=wj c;split
 .have a:=iH (bS c) none (some (d7 c));have d:=iH (bS c) (some (d7 c+1)) (some (du c));rw[dB,dB];have:(eR c k).length=1:=U;omega
 .split
  .have a:=iH (bS c) none (some (1+(aA c 1 / 24+k) % 8));omega
  .have a:=iH (eR c k++cB (aA c (k+2)) 7) none (some (1+aA c (k+40) % 8));rw[dB,jJ]at a;have:(eR c k).length=1:=U;omega
theorem pP(c:Int)(i:Nat):dr c (i+1)=dr c i++[cQ (bU c i)]:=by
 unfold dr;rw[List.range_succ,qR]
 rfl
theorem jB(c:Int)(i:Nat):(dr c i).length=i:=by unfold dr;simp
seal aA cB bS bU cQ
theorem wG(T:Tx P w K mg a):aM P w K mg base CX0 2 a.IN a.IO ["_law_cell","_law_many"] vc:=by
 refine T.HC.F.ok eQ (by walk_at "l") λ_ A outer s H vs Q E hr h=>?_;obtain⟨c,k,rfl,h0,D,q⟩:=h
 refine⟨_,(ai (au (i:=2) eQ.nd U Oi aS)
  (ai (au (i:=3) eQ.nd U Oi (aF (fN T) (hr.mono Yk) T.mt (a9 (pq 0) (a9 aa af))))
  (ai (au (i:=4) eQ.nd U Oi (aF (wH T) (hr.mono Yk) T.HB (a9 (aq bK (aq eD (pq 3) (pq 3)) (pq 3)) (a9 aa af))))
  (ai (au (i:=5) eQ.nd U Oi (aq bK aa (aq bf (aq cT (pq 3) aa) aa)))
  (ai (au (i:=6) eQ.nd U Oi (aq bf (aq cT (pq 3) aa) (pq 5)))
  (ai (au (i:=7) eQ.nd U Oi (ba af))
  (ai (bR PassesOwn.never U (g9 U T.om (a9 (pq 1) af)) (aR (i:=8) eQ.nd U Oi)
  (ai (au (i:=9) eQ.nd U Oi (ao jM (pq 2) (aq bf (aq bK (aq cT (pq 3) aa) (pq 8)) aa) Oy))
  (ai (aQ (aD br (aq bf (pq 3) aa) aa (aG _)) (ap (au (i:=10) eQ.nd U Oi (aq hU (aq hU (gb jj (pq 4) hZ (fk (pq 6))) (pq 9)) (gb jj (pq 4) (fk (aq bK (pq 6) aa)) (fk (pq 5)))))) (ap (aQ (aD br (aq bf (pq 3) aa) aa (aG _)) (ap (au (i:=10) eQ.nd U Oi (gb jj (pq 4) hZ (fk (aq bK aa (aq bf (aq bK (aq cT (pq 3) aa) (pq 8)) aa)))))) (ap (au (i:=10) eQ.nd U Oi (gb jj (aq hU (pq 9) (aF (wH T) (hr.mono Yk) T.HB (a9 (aF (fN T) (hr.mono Yk) T.mt (a9 (pq 0) (a9 (aq bK (pq 8) aa) af))) (a9 aa af)))) hZ (fk (aq bK aa (aq bf (aF (fN T) (hr.mono Yk) T.mt (a9 (pq 0) (a9 (aq bK (pq 8) aa) af))) aa)))))))))
  (ap (bx (bF qh qy qz cC (pq 7) (a9 (aF (Du T) (hr.mono Yk) T.Jy (a9 (pq 10) af)) af)))))))
  (ai (aQ (aD br (aq bf (aq cT (pq 3) aa) aa) aa (aG _)) (ap (aE (CI U U T.wT U T.K0 (pq 7)))) aZ)
  (ap (aE (pq 7))))))))))),?_⟩
 walk_at "q";have n0:=jF c 1;have n1:=x8 c 1;have nb:Builtin.Int.intBits (aA c 1)<=64:=intBits_le_64 Yo Yo;exists _,U,c,1,U,Yk,Yk;exists _,U,_,U,_,_,U,U,IntMulOk.of_right nb,_,U,_,_,U,U,_,8,U,Yk,Yk;have base:cB (aA c 1 * aA c 1+aA c 1) (8:Int).toNat=bS c:=by unfold bS;rfl
 rw[base];exists _,U,_,_,U,U,⟨Yk,Yk⟩,_,_,U,U,Yk,_,_,U,U;have size:1+aA c 1 / 3 % 8=du c:=U;rw[size];have sz:1<=du c/\du c<=8:=by unfold du;omega
 exists _,U,_,_,U,U,⟨Yk,Yk⟩,_,U,_,_,U,U,Yo;have y:aA c 1 / 24 % du c=d7 c:=U;rw[y];refine⟨qv _,λl hl=>?_⟩;have bl:=wj c;have bz:(bS c).length<=sizeLine:=bq (m:=100) Yo
 refine⟨_,U,k,U,Yo,Yo,j5 (λi Y o=>a8 H o/\i<=k.toNat/\o l=some (.lst ((dr c i).map V.str))/\∃t v j:LC,Y=[some (.int c),some (.int k),some (.str cW),some (.int (aA c 1)),some (.str (bS c)),some (.int (du c)),some (.int (d7 c)),some (.ref l),t,v,j])
  ⟨a8.new hl _,qv _,ah,_,_,_,U⟩ ?_ ?_⟩
 .rintro i Y o u ⟨d,_,b,t,v,j,rfl⟩;have B:=tE (Qd (aA c 1 / 192+(0+(i:Int))) (show(26:Int)≠0 by decide)) (Qi _ Yk);exists _,U,_,U,_,_,U,U,⟨Yk,Yk⟩,_,U,_,_,U,U,_,_,U,U,Yk,cW,_,_,U,U,rP,B;have C:(0:Int)+(i:Int)=(i:Int):=Yo;rw[C];have g:(⟨#[c9 ((aA c 1 / 192+(i:Int)) % 26)]⟩:Str)=eR c i:=U;have sl:(eR c i).length=1:=U;have I:=Cy c i;exists _,U,_,_,U,U,Yk,U,_,U;refine cX (λc1=>?_) (λc1=>?_)
  .have c1:=dR c1;have D:=iH (bS c) none (some (d7 c));have J:=iH (bS c) (some (d7 c+1)) (some (du c));exists _,U,_,U,_,U,bS c,U,bz,_,U,_,_,U,U,bq (m:=100) (by rw[g,sl];omega),_,U,_,U,_,_,U,U,_,U,_,U,_,U,bS c,U,bz,_,_,U,U,bq (m:=100) (by rw[dB,g,sl];omega)
   have n:Txt.slice (bS c) none (some (d7 c))++(⟨#[c9 ((aA c 1 / 192+(i:Int)) % 26)]⟩:Str)++Txt.slice (bS c) (some (d7 c+1)) (some (du c))=bU c i:=by
    rw[g];unfold bU;rw[Q5 c1]
   rw[n];refine⟨_,U,.inl ⟨U,_,SqL.of b⟩,_,U,bU c i,U,Yo,λz e=>?_⟩;exists l,_,_,U,U,e _ _ b,bq (m:=1000) (by rw[qa,jB];omega);refine⟨a8.over (d.trans e) hl,u,?_,_,_,_,U⟩;rw[ah,pP,qR]
   rfl
  have c1:=eE c1;exists _,U,_,_,U,U,Yk,U,_,U;refine cX (λc2=>?_) (λc2=>?_)
  .have c2:=dR c2;exists _,U,_,U,_,_,U,U,⟨Yk,Yk⟩,_,U,_,_,U,U,_,_,U,U,Yk,_,_,U,U,_,U,bS c,U,bz
   have n:Txt.slice (bS c) none (some (1+(aA c 1 / 24+(i:Int)) % 8))=bU c i:=by
    unfold bU;rw[Q4 c1,Q5 c2]
   rw[n];refine⟨_,U,.inl ⟨U,_,SqL.of b⟩,_,U,bU c i,U,Yo,λz e=>?_⟩;exists l,_,_,U,U,e _ _ b,bq (m:=1000) (by rw[qa,jB];omega);refine⟨a8.over (d.trans e) hl,u,?_,_,_,_,U⟩;rw[ah,pP,qR]
   rfl
  .have c2:=eE c2;exists _,U,_,U,_,U,_,_,U,U,c,_,U,Yo,Yo,_,7,U,Yk,Yk;have x:(cB (aA c ((i:Int)+2)) (7:Int).toNat).length=7:=jJ _ 7;exists _,_,U,U,bq (m:=100) (by rw[g,sl,x];omega);exists _,U,_,U,_,_,U,U,c,_,U,Yo,Yo,_,_,U,U,Yk,_,_,U,U,_,U,_,U,bq (m:=100) (by rw[dB,g,sl,x];omega)
   have n:Txt.slice ((⟨#[c9 ((aA c 1 / 192+(i:Int)) % 26)]⟩:Str)++cB (aA c ((i:Int)+2)) (7:Int).toNat) none (some (1+aA c ((i:Int)+40) % 8))=bU c i:=by
    rw[g];unfold bU;rw[Q4 c1,Q4 c2]
    rfl
   rw[n];refine⟨_,U,.inl ⟨U,_,SqL.of b⟩,_,U,bU c i,U,Yo,λz e=>?_⟩;exists l,_,_,U,U,e _ _ b,bq (m:=1000) (by rw[qa,jB];omega);refine⟨a8.over (d.trans e) hl,u,?_,_,_,_,U⟩;rw[ah,pP,qR]
   rfl
 .rintro Y o ⟨d,_,b,t,v,j,rfl⟩;have G:(0:Int)+k.toNat=k:=Yo;exists _,U,_,_,U,U,⟨Yk,Yk⟩,_,_,U,U,Yk,U,_,U;refine cX (λf=>?_) (λf=>?_)
  .have f:=dR f;refine⟨_,U,l,_,U,SqL.of b,λr p=>?_⟩;refine q _ r (a8.over d (a8.none d p)) (a8.none d p) ?_;rw[ah];unfold cD;rw[Q5 f,List.map_reverse]
  .have f:=eE f;refine⟨_,U,q _ l d hl ?_⟩;unfold cD;rwa[Q4 f]
theorem i8{l:LS}(h:0<l.length)(i:Int):atI (l.map V.str) (i % ((l.map V.str).length:Int))=some (.str (nth l i)):=by
 have e:((l.map V.str).length:Int)=(l.length:Int):=by rw[qa]
 rw[e];have a:0<=i % (l.length:Int):=Qd _ Yo;have b:i % (l.length:Int)<l.length:=Qi _ Yo;have lt:(i % (l.length:Int)).toNat<l.length:=Yo;have:=da (xs:=l.map V.str) (j:=(i % (l.length:Int)).toNat) (v:=.str (nth l i)) (by unfold nth;rw[qH,qo,qd lt];rfl)
 rwa [Int.toNat_of_nonneg a]at this
theorem B1(i:Int):atI ("+-*/<=&|^":Str).cps.toList (i % 9)=some (("+-*/<=&|^":Str).cps.toList.getD (i % 9).toNat 0):=by
 have a:0<=i % 9:=Qd _ Yk;have c:i % 9<9:=Qi _ Yk;have b:("+-*/<=&|^":Str).cps.toList.length=9:=Yd;have lt:(i % 9).toNat<("+-*/<=&|^":Str).cps.toList.length:=Yo;have:=da (xs:=("+-*/<=&|^":Str).cps.toList) (j:=(i % 9).toNat) (v:=("+-*/<=&|^":Str).cps.toList.getD (i % 9).toNat 0) (by rw[qo,qd lt];rfl)
 rwa [Int.toNat_of_nonneg a]at this
theorem su{n:Int}:∀{ks:LI},inV (.int n) (ks.map V.int)=decide (n∈ks)
 |[]=>rfl
 |k::ks=>by
  show(eqV (.int k) (.int n) || inV (.int n) (ks.map V.int))=decide (n∈k::ks);rw[su];show((k == n) || decide (n∈ks))=_;by_cases e:k=n
  .subst e;simp
  .have a:¬ n=k:=λz=>e z.symm;simp[e,a]
theorem p30:(10:Int) ^ (30:Int).toNat=1000000000000000000000000000000:=Yd
noncomputable def aV(n:Int)(names:LS):Val:=if n / 14 / 125 % 4=0 then .num (n * n * n * 69621 % 1000000000000000000000000000000)else .nm (nth names (n / 14 / 5))
noncomputable def bV(n:Int)(names:LS):Val:=if n / 14 / 500 % 3=0 then .num (n * n * 48271 % 1000000000000000000000000000000)else .nm (nth names (n / 14 / 25))
abbrev iY(n:Int):Prop:=n % 14=1\/n % 14=2\/n % 14=3\/n % 14=4\/n % 14=12\/n % 14=13
abbrev md(n:Int):Prop:=n % 14=3\/n % 14=4\/n % 14=13
theorem wY{n:Int}:inV (.int (n % 14)) (([1,2,3,4,12,13]:LI).map V.int)=true↔iY n:=by rw[su];simp[iY]
theorem xN{n:Int}:inV (.int (n % 14)) (([3,4,13]:LI).map V.int)=true↔md n:=by rw[su];simp[md]
theorem AV{n:Int}{names:LS}(h:n % 14=6):bE n names rooms shut=.give (nth names (n / 14)):=by unfold bE;rw[Q5 h]
theorem AT{n:Int}{names:LS}(h:iY n)(c:0<rooms.length)(a:shut=false):(md n->bE n names rooms shut=.get (nth rooms (n / 14 / 5)) (nth names (n / 14)))/\(¬ md n->bE n names rooms shut=.put (nth rooms (n / 14 / 5)) (nth names (n / 14))):=by
 have b:¬ n % 14=6:=by unfold iY at h;omega
 unfold bE;rw[Q4 b,Q5 ⟨h,c,a⟩];exact⟨λg=>by rw[Q5 g],λg=>by rw[Q4 g]⟩
theorem AQ{n:Int}{names:LS}(a:¬ n % 14=6)(h:¬ (iY n/\0<rooms.length/\shut=false)):bE n names rooms shut=.set (nth names (n / 14)) (aV n names) (vF (n / 14 / 1500)) (bV n names):=by
 unfold bE;rw[Q4 a,Q4 h]
 rfl
theorem Dv(T:Tx P w K mg a):aM P w K mg base CX0 1 a.IP a.IQ ["_law_number","_law_names","_law_rooms","_law_shut"] (uX K):=by
 refine T.Jz.F.ok gB (by walk_at "l") λ_ A outer s H vs Q E hr h=>?_;obtain⟨n,k,l,names,rooms,shut,rfl,hn,o,n0,n1,_,b0,b1,q⟩:=h
 refine⟨_,(ai (au (i:=4) gB.nd U Oi (aq bf (pq 0) aa))
  (ai (au (i:=5) gB.nd U Oi (aq cT (pq 0) aa))
  (ai (au (i:=6) gB.nd U Oi (ao aK (pq 1) (aq bf (pq 5) (be bT U T.f8 Qb (a9 (pq 1) af))) Oy))
  (ai (aQ (aD br (pq 4) aa (aG _)) (ap (aE (bA (a9 aS (a9 (pq 6) af))))) aZ)
  (ai (aQ (PW.pt (fL (aD iX (pq 4) (bA (lD U)) (by with_unfolding_all rfl)) (fL (aD gG (be bT U T.f8 Qb (a9 (pq 2) af)) aa (aG _)) (gH (jx (hX (pq 3))))))) (ap (aE (bA (a9 (i4 (aD iX (pq 4) (bA (lD U)) (by with_unfolding_all rfl)) aS aS) (a9 (ao aK (pq 2) (aq bf (aq cT (pq 5) aa) (be bT U T.f8 Qb (a9 (pq 2) af))) Oy) (a9 (pq 6) af)))))) aZ)
  (ai (au (i:=7) gB.nd U Oi (ao aK (pq 1) (aq bf (aq cT (pq 5) aa) (be bT U T.f8 Qb (a9 (pq 1) af))) Oy))
  (ai (au (i:=8) gB.nd U Oi (ao aK (pq 1) (aq bf (aq cT (pq 5) aa) (be bT U T.f8 Qb (a9 (pq 1) af))) Oy))
  (ai (aQ (aD br (aq bf (aq cT (pq 5) aa) aa) aa (aG _)) (ap (au (i:=7) gB.nd U Oi (aq bf (aq eD (aq eD (aq eD (pq 0) (pq 0)) (pq 0)) aa) (aq wJ aa aa)))) aZ)
  (ai (aQ (aD br (aq bf (aq cT (pq 5) aa) aa) aa (aG _)) (ap (au (i:=8) gB.nd U Oi (aq bf (aq eD (aq eD (pq 0) (pq 0)) aa) (aq wJ aa aa)))) aZ)
  (ap (aE (bA (a9 aS (a9 (pq 6) (a9 (pq 7) (a9 (ao jM aS (aq bf (aq cT (pq 5) aa) aa) Oy) (a9 (pq 8) af))))))))))))))))),?_⟩
 walk_at "q";have J:(names.map V.str).length=names.length:=qa _;have rl:(rooms.map V.str).length=rooms.length:=qa _
 have fin:∀(m:Hp)(p:Addr)(xs:LV),a8 H m->m p=none->(∀j:Hp,j p=some (.tup xs)->RD j (.ref p) (bE n names rooms shut))->Q (.ref p) (upd m p (.tup xs)):=λm p xs d b hd=>
  q _ p xs (a8.over d (a8.none d b)) (a8.none d b) ah hd
 exists _,U,_,_,U,U,Yk;exists _,U,_,_,U,U,⟨Yk,Yk⟩;exists _,U,_,U,_,U,k,_,U,.inl hn,_,_,U,U,Yo,k,_,_,_,U,U,hn,i8 n0 _;exists _,U,U,_,U;refine cX (λc=>?_) (λc=>?_)
 .have c:=dR c;exact⟨_,U,ln2,λp b=>fin H p _ (a8.refl H) b λj h0=>by rw[AV c];exact .give h0⟩
 have D:=eE c;refine⟨_,U,(by show 6<=sizeLine;decide),λt ht=>?_⟩;exists t,([1,2,3,4,12,13]:LI).map V.int,U,.inr (SqT.of ah),U,U,_,U;have d:a8 H (upd H t (.tup (([1,2,3,4,12,13]:LI).map V.int))):=a8.new ht _;have f:=d.seq hn;have y:=d.seq o;refine lZ (Pc:=¬ (iY n/\0<rooms.length/\shut=false)) (λc z=>c (wY.mpr z.1)) ?_ λc go=>?_
 .intro nm;refine j3 ?_;exists _,U,_,U,_,_,U,U,⟨Yk,Yk⟩,_,U,k,_,U,.inl f,_,_,U,U,Yo,k,_,_,_,U,U,f,i8 n0 _;exists _,U,_,U,_,_,U,U,⟨Yk,Yk⟩,_,U,k,_,U,.inl f,_,_,U,U,Yo,k,_,_,_,U,U,f,i8 n0 _;exists _,U,_,_,U,U,⟨Yk,Yk⟩,_,_,U,U,Yk,U,_,U;have nb:Builtin.Int.intBits n<=64:=intBits_le_64 Yo Yo;have I:0<=n * n:=Int.mul_nonneg b0 b0;have G:n * n<=2147483648 * 2147483648:=Int.mul_le_mul Yo Yo b0 Yk;generalize hv0:V.str (nth names (n / 14 / 5))=v0;refine rX (P:=λv=>v=(aV n names).v) (w:=v0) (λc=>?_) ?_ λc go=>?_
  .rw[<- hv0];unfold aV;rw[Q4 (eE c)]
   rfl
  .rintro _ rfl;exists _,U,_,_,U,U,⟨Yk,Yk⟩,_,_,U,U,Yk,U,_,U;generalize hv1:V.str (nth names (n / 14 / 25))=v1;refine rX (P:=λv=>v=(bV n names).v) (w:=v1) (λc=>?_) ?_ λc go=>?_
   .rw[<- hv1];unfold bV;rw[Q4 (eE c)]
    rfl
   .rintro _ rfl;refine⟨_,U,_,U,_,U,_,_,U,U,⟨Yk,Yk⟩,_,_,U,U,Yk,_,_,_,U,U,Yd,B1 _,_,U,(by show 5<=sizeLine;decide),λp b=>fin _ p _ d b λj h0=>?_⟩;rw[AQ D nm];exact .set h0
   .refine⟨_,U,_,U,_,_,U,U,IntMulOk.of_right nb,_,_,U,U,IntMulOk.of_right (intBits_le_64 Yk Yk),_,_,U,U,⟨Yk,Yk,Yk⟩,_,_,U,U,by rw[p30];decide,?_⟩;rw[p30];refine go _ ?_;unfold bV;rw[Q5 (dR c)]
    rfl
  .refine⟨_,U,_,U,_,_,U,U,IntMulOk.of_right nb,_,U,_,_,U,U,IntMulOk.of_right nb,_,_,U,U,IntMulOk.of_right (intBits_le_64 Yk Yk),_,_,U,U,⟨Yk,Yk,Yk⟩,_,_,U,U,by rw[p30];decide,?_⟩;rw[p30];refine go _ ?_;unfold aV;rw[Q5 (dR c)]
   rfl
 .have B:=wY.mp c;exists _,U,l,_,U,.inl y,_,_,U,U,_,U;refine cX (λc2=>?_) (λc2=>?_)
  .have c2:0<rooms.length:=by
    have:=Qg c2;rw[rl]at this;omega
   cases shut with
   |true=>
    exists _,U,_,U;exact go λz=>nomatch z.2.2
   |false=>
    exists _,U,_,U;refine rZ ?_;have x:=AT (names:=names) B c2 (shut:=false) U;refine⟨_,U,(by show 3<=sizeLine;decide),λu C=>?_⟩;exists u,([3,4,13]:LI).map V.int,U,.inr (SqT.of ah),U,U,_,U;have r:a8 H (upd (upd H t (.tup (([1,2,3,4,12,13]:LI).map V.int))) u (.tup (([3,4,13]:LI).map V.int))):=a8.over d (a8.none d C);have e:=r.seq o;refine cX (λc3=>?_) (λc3=>?_)
    .refine⟨_,U,_,U,_,_,U,U,⟨Yk,Yk⟩,_,U,l,_,U,.inl e,_,_,U,U,Yo,l,_,_,_,U,U,e,i8 c2 _,_,U,ln3,λp b=>fin _ p _ r b λj h0=>?_⟩;rw[x.1 (xN.mp c3)];exact .get h0
    .refine⟨_,U,_,U,_,_,U,U,⟨Yk,Yk⟩,_,U,l,_,U,.inl e,_,_,U,U,Yo,l,_,_,_,U,U,e,i8 c2 _,_,U,ln3,λp b=>fin _ p _ r b λj h0=>?_⟩;rw[x.2 λg=>c3 (xN.mpr g)];exact .put h0
  .exact go λz=>c2 (Q6 (by rw[rl];have:=z.2.1;omega))
theorem Dy(T:Tx P w K mg a):aM P w K mg base CX0 1 a.IR a.IS ["_law_state","_law_number","_law_x","_law_most"] vd:=by
 refine T.JA.F.ok eC (by walk_at "l") λ_ A outer s H vs Q E hr h=>?_;obtain⟨_,_,S,B,C,l,t,x,r,n,most,nm,rfl,Z,d3,d4,n0,n1,m0,_,t0,_,q⟩:=h
 refine⟨_,(ai (au (i:=4) eC.nd U Oi (aq bf (pq 1) aa))
  (ai (au (i:=5) eC.nd U Oi (aq cT (pq 1) aa))
  (ai (au (i:=6) eC.nd U Oi (ba af))
  (ai (au (i:=7) eC.nd U Oi cr)
  (ai (au (i:=8) eC.nd U Oi fA)
  (ai (au (i:=9) eC.nd U Oi aa)
  (ai (aQ (aD br (pq 4) aa (aG _)) (ai (au (i:=7) eC.nd U Oi (ba af))
  (ap (bx (bF qh qy qz cC (ao aK (ao aK (pq 0) aa Oy) (d8 cY aa) Oy) (a9 (bA (a9 aS (a9 (pq 2) (a9 (pq 6) (a9 (pq 7) af))))) af))))) (ap (aQ (aD br (pq 4) aa (aG _)) (ap (bx (bF qh qy qz cC (ao aK (ao aK (pq 0) aa Oy) (d8 cY aa) Oy) (a9 (bA (a9 aS (a9 (pq 2) (a9 (pq 6) af)))) af)))) (ai (au (i:=10) eC.nd U Oi (ao aK (ao aK (pq 0) aa Oy) (d8 cY aa) Oy))
  (ai (au (i:=11) eC.nd U Oi (aq bf (pq 5) aa))
  (ai (aQ (aD gG (pq 10) aa (aG _)) (ap (au (i:=11) eC.nd U Oi (aq bf (pq 5) (aq bK aa (aq cT (pq 3) (pq 10)))))) aZ)
  (ai (bx (bF qh qy qz cC (ao aK (ao aK (pq 0) aa Oy) (d8 cY aa) Oy) (a9 (bA (a9 aS (a9 (pq 11) (a9 (pq 6) af)))) af)))
  (ai (au (i:=8) eC.nd U Oi (ao aK (ao aK (pq 0) aa Oy) (d8 cY aa) Oy))
  (ap (au (i:=9) eC.nd U Oi (aq eD (pq 10) (pq 11))))))))))))
  (ai (bx (bF qh qy qz cC (ao aK (pq 0) aa Oy) (a9 (pq 6) af)))
  (ai (bx (bF qh qy qz cC (ao aK (pq 0) aa Oy) (a9 (pq 7) af)))
  (ai (bx (bF qh qy qz cC (ao aK (pq 0) aa Oy) (a9 (pq 8) af)))
  (ap (bx (bF qh qy qz cC (ao aK (pq 0) aa Oy) (a9 (pq 9) af)))))))))))))),?_⟩
 walk_at "q";obtain⟨a1,a2,a3,_,d0,c6,c5,d1,d2,c'⟩:=Z.ss;have D:=Z.ne (gP (x:=x) (r:=r));obtain⟨_,_,vs,e1,I,d7⟩:=Z.top;cases e1;have lv:vs.length<=1000:=by rwa[d7.len]
 have g:∀{β:Type}(f:Fz->β),(((x::r).map f).reverse).length<sizeLine:=λf=>by
  rw[List.length_reverse,qa];exact qG (Nat.lt_succ_of_le d3) Yk
 have b9:vs.length<sizeLine:=qG (Nat.lt_succ_of_le lv) Yk;exists _,U,_,_,U,U,Yk;exists _,U,_,_,U,U,⟨Yk,Yk⟩;refine⟨qv _,λd a7=>?_⟩;have b':d≠x.c:=λe=>by rw[e,I]at a7;cases a7
 have v:a8 H (upd H d (.lst [])):=a8.new a7 _;exists _,U,U,_,U;refine cX (λc7=>?_) (λc7=>?_)
 .have c7:=dR c7;refine⟨qv _,λk c4=>?_⟩;have c9:k≠d:=λe=>by rw[e,ah]at c4;cases c4
  have a':H k=none:=a8.none v c4;have d6:k≠x.c:=λe=>by rw[e,I]at a';cases a'
  have b5:a8 H (upd (upd H d (.lst [])) k (.lst [])):=a8.over v a';refine⟨_,U,S,_,_,_,U,U,SqL.of (b5 _ _ Z.cS),U,_,U,B,_,_,_,U,U,SqL.of (b5 _ _ Z.c0),gh,.inl ⟨U,_,SqL.of (b5 _ _ I)⟩,_,U,_,U,_,U,(by show 4<=sizeLine;decide),λp L=>?_⟩;have G:H p=none:=a8.none b5 L;have a6:a8 H (upd (upd (upd H d (.lst [])) k (.lst [])) p (.tup [.str "if",.str nm,.ref d,.ref k])):=a8.over b5 G;have b0:p≠d:=λe=>by rw[e,ag (Ne.symm c9),ah]at L;cases L
  have d5:p≠k:=λe=>by rw[e,ah]at L;cases L
  have pc:p≠x.c:=λe=>by rw[e,I]at G;cases G
  exists x.c,_,_,U,U,a6 _ _ I,b9;have j:∀b u,b≠x.c->H b=some u->(upd (upd (upd (upd H d (.lst [])) k (.lst [])) p (.tup [.str "if",.str nm,.ref d,.ref k])) x.c (.lst (vs++[.ref p]))) b=some u:=λb u hb h=>by rw[ag hb];exact a6 _ _ h
  have X:(upd (upd (upd (upd H d (.lst [])) k (.lst [])) p (.tup [.str "if",.str nm,.ref d,.ref k])) x.c (.lst (vs++[.ref p]))) x.c=some (.lst (vs++[.ref p])):=ah;have a5:(upd (upd (upd (upd H d (.lst [])) k (.lst [])) p (.tup [.str "if",.str nm,.ref d,.ref k])) x.c (.lst (vs++[.ref p]))) p=some (.tup [.str "if",.str nm,.ref d,.ref k]):=by rw[ag pc,ah]
  have J:(upd (upd (upd (upd H d (.lst [])) k (.lst [])) p (.tup [.str "if",.str nm,.ref d,.ref k])) x.c (.lst (vs++[.ref p]))) d=some (.lst [])/\(upd (upd (upd (upd H d (.lst [])) k (.lst [])) p (.tup [.str "if",.str nm,.ref d,.ref k])) x.c (.lst (vs++[.ref p]))) k=some (.lst []):=
   ⟨by rw[ag b',ag (Ne.symm b0),ag (Ne.symm c9),ah],by rw[ag d6,ag (Ne.symm d5),ah]⟩
  generalize (upd (upd (upd (upd H d (.lst [])) k (.lst [])) p (.tup [.str "if",.str nm,.ref d,.ref k])) x.c (.lst (vs++[.ref p])))=H4 at j X a5 J ⊢;have a0:=j _ _ D.1 Z.cS;have W:=j _ _ D.2.1 Z.c0;have b3:=j _ _ D.2.2.1 Z.c1;have b4:=j _ _ D.2.2.2.1 Z.c2;have b2:=j _ _ D.2.2.2.2 Z.c3;exists _,U,S,_,_,_,U,U,SqL.of a0,U,.inl ⟨U,_,SqL.of W⟩,_,U,B,_,_,U,U,W,g _;generalize hH5:upd H4 B (.lst (((x::r).map λx=>V.ref x.c).reverse++[.ref d]))=H5;have M:H5 S=some (.lst [.ref B,.ref C,.ref l,.ref t]):=by rwa[<- hH5,ag a1]
  have X0:H5 C=some (.lst (((x::r).map Fz.o).reverse)):=by rwa[<- hH5,ag (Ne.symm d0)]
  have b8:H5 l=some (.lst (((x::r).map λx=>V.bl x.f.shut).reverse)):=by rwa[<- hH5,ag (Ne.symm c6)]
  have b6:H5 t=some (.lst (((x::r).map λx=>V.int x.f.times).reverse)):=by rwa[<- hH5,ag (Ne.symm c5)]
  exists _,U,S,_,_,_,U,U,SqL.of M,U,.inl ⟨U,_,SqL.of X0⟩,_,U,C,_,_,U,U,X0,g _;generalize hH6:upd H5 C (.lst (((x::r).map Fz.o).reverse++[.ref k]))=H6;have R:H6 S=some (.lst [.ref B,.ref C,.ref l,.ref t]):=by rw[<- hH6,ag a2];exact M
  have O:H6 l=some (.lst (((x::r).map λx=>V.bl x.f.shut).reverse)):=by rwa[<- hH6,ag (Ne.symm d1)]
  have b1:H6 t=some (.lst (((x::r).map λx=>V.int x.f.times).reverse)):=by rwa[<- hH6,ag (Ne.symm d2)]
  exists _,U,S,_,_,_,U,U,SqL.of R,U,.inl ⟨U,_,SqL.of O⟩,_,U,l,_,_,U,U,O,g _;generalize hH7:upd H6 l (.lst (((x::r).map λx=>V.bl x.f.shut).reverse++[.bl true]))=H7;have b7:H7 S=some (.lst [.ref B,.ref C,.ref l,.ref t]):=by rw[<- hH7,ag a3];exact R
  have N:H7 t=some (.lst (((x::r).map λx=>V.int x.f.times).reverse)):=by rwa[<- hH7,ag (Ne.symm c')]
  exists _,U,S,_,_,_,U,U,SqL.of b7,U,.inl ⟨U,_,SqL.of N⟩,_,U,t,_,_,U,U,N,g _;subst hH7 hH6 hH5;refine q _ ⟨⟨.ifT nm,[],true,0⟩,d,p,k⟩ (pU (y:=⟨⟨.ifT nm,[],true,0⟩,d,p,k⟩) Z I j (λm hm=>?_) ?_ a5 (by simp) (by simp) U X) ?_
  .simp[Fz.muts]at hm;rcases hm with rfl|rfl
   .exact⟨a7,J.1⟩
   .exact⟨a',J.2⟩
  .simp[Fz.muts];exact Ne.symm c9
  .unfold gf;dsimp only;rw[Q5 c7]
 have c7:=eE c7;exists _,U,U,_,U;refine cX (λc8=>?_) (λc8=>?_)
 .have c8:=dR c8;refine⟨_,U,S,_,_,_,U,U,SqL.of (v _ _ Z.cS),U,_,U,B,_,_,_,U,U,SqL.of (v _ _ Z.c0),gh,.inl ⟨U,_,SqL.of (v _ _ I)⟩,_,U,_,U,(by show 3<=sizeLine;decide),λp L=>?_⟩;have G:H p=none:=a8.none v L;have a6:a8 H (upd (upd H d (.lst [])) p (.tup [.str "while",.str nm,.ref d])):=a8.over v G;have b0:p≠d:=λe=>by rw[e,ah]at L;cases L
  have pc:p≠x.c:=λe=>by rw[e,I]at G;cases G
  exists x.c,_,_,U,U,a6 _ _ I,b9;have j:∀b u,b≠x.c->H b=some u->(upd (upd (upd H d (.lst [])) p (.tup [.str "while",.str nm,.ref d])) x.c (.lst (vs++[.ref p]))) b=some u:=λb u hb h=>by rw[ag hb];exact a6 _ _ h
  have X:(upd (upd (upd H d (.lst [])) p (.tup [.str "while",.str nm,.ref d])) x.c (.lst (vs++[.ref p]))) x.c=some (.lst (vs++[.ref p])):=ah;have a5:(upd (upd (upd H d (.lst [])) p (.tup [.str "while",.str nm,.ref d])) x.c (.lst (vs++[.ref p]))) p=some (.tup [.str "while",.str nm,.ref d]):=by rw[ag pc,ah]
  have J:(upd (upd (upd H d (.lst [])) p (.tup [.str "while",.str nm,.ref d])) x.c (.lst (vs++[.ref p]))) d=some (.lst []):=by rw[ag b',ag (Ne.symm b0),ah]
  generalize (upd (upd (upd H d (.lst [])) p (.tup [.str "while",.str nm,.ref d])) x.c (.lst (vs++[.ref p])))=H4 at j X a5 J ⊢;have a0:=j _ _ D.1 Z.cS;have W:=j _ _ D.2.1 Z.c0;have b3:=j _ _ D.2.2.1 Z.c1;have b4:=j _ _ D.2.2.2.1 Z.c2;have b2:=j _ _ D.2.2.2.2 Z.c3;exists _,U,S,_,_,_,U,U,SqL.of a0,U,.inl ⟨U,_,SqL.of W⟩,_,U,B,_,_,U,U,W,g _;generalize hH5:upd H4 B (.lst (((x::r).map λx=>V.ref x.c).reverse++[.ref d]))=H5;have M:H5 S=some (.lst [.ref B,.ref C,.ref l,.ref t]):=by rwa[<- hH5,ag a1]
  have X0:H5 C=some (.lst (((x::r).map Fz.o).reverse)):=by rwa[<- hH5,ag (Ne.symm d0)]
  have b8:H5 l=some (.lst (((x::r).map λx=>V.bl x.f.shut).reverse)):=by rwa[<- hH5,ag (Ne.symm c6)]
  have b6:H5 t=some (.lst (((x::r).map λx=>V.int x.f.times).reverse)):=by rwa[<- hH5,ag (Ne.symm c5)]
  exists _,U,S,_,_,_,U,U,SqL.of M,U,.inl ⟨U,_,SqL.of X0⟩,_,U,C,_,_,U,U,X0,g _;generalize hH6:upd H5 C (.lst (((x::r).map Fz.o).reverse++[.non]))=H6;have R:H6 S=some (.lst [.ref B,.ref C,.ref l,.ref t]):=by rw[<- hH6,ag a2];exact M
  have O:H6 l=some (.lst (((x::r).map λx=>V.bl x.f.shut).reverse)):=by rwa[<- hH6,ag (Ne.symm d1)]
  have b1:H6 t=some (.lst (((x::r).map λx=>V.int x.f.times).reverse)):=by rwa[<- hH6,ag (Ne.symm d2)]
  exists _,U,S,_,_,_,U,U,SqL.of R,U,.inl ⟨U,_,SqL.of O⟩,_,U,l,_,_,U,U,O,g _;generalize hH7:upd H6 l (.lst (((x::r).map λx=>V.bl x.f.shut).reverse++[.bl true]))=H7;have b7:H7 S=some (.lst [.ref B,.ref C,.ref l,.ref t]):=by rw[<- hH7,ag a3];exact R
  have N:H7 t=some (.lst (((x::r).map λx=>V.int x.f.times).reverse)):=by rwa[<- hH7,ag (Ne.symm c')]
  exists _,U,S,_,_,_,U,U,SqL.of b7,U,.inl ⟨U,_,SqL.of N⟩,_,U,t,_,_,U,U,N,g _;subst hH7 hH6 hH5;refine q _ ⟨⟨.whl nm,[],true,0⟩,d,p,d⟩ (pU (y:=⟨⟨.whl nm,[],true,0⟩,d,p,d⟩) Z I j (λm hm=>?_) (by simp[Fz.muts]) a5 (by simp) (by simp) U X) ?_
  .simp[Fz.muts]at hm;subst hm;exact⟨a7,J⟩
  .unfold gf;dsimp only;rw[Q4 c7,Q5 c8]
 have c8:=eE c8;exists _,U,S,_,_,_,U,U,SqL.of (v _ _ Z.cS),U,_,U,t,_,_,_,U,U,SqL.of (v _ _ Z.c3),gh;exists _,U,_,_,U,U,Yk;exists _,U,_,_,U,U,_,U;generalize hm0:n / 70 % 100=mm;refine rX (P:=λm=>m=cF n most x.f.times) (w:=mm) (λcc=>?_) ?_ λcc go=>?_
 .rw[<- hm0];unfold cF;rw[Q4 (λz=>cc (Q6 z))]
 .rintro m rfl;refine⟨_,U,S,_,_,_,U,U,SqL.of (v _ _ Z.cS),U,_,U,B,_,_,_,U,U,SqL.of (v _ _ Z.c0),gh,.inl ⟨U,_,SqL.of (v _ _ I)⟩,_,U,_,U,(by show 3<=sizeLine;decide),λp L=>?_⟩;have G:H p=none:=a8.none v L;have a6:a8 H (upd (upd H d (.lst [])) p (.tup [.str "repeat",.int (cF n most x.f.times),.ref d])):=a8.over v G;have b0:p≠d:=λe=>by rw[e,ah]at L;cases L
  have pc:p≠x.c:=λe=>by rw[e,I]at G;cases G
  exists x.c,_,_,U,U,a6 _ _ I,b9;have j:∀b u,b≠x.c->H b=some u->(upd (upd (upd H d (.lst [])) p (.tup [.str "repeat",.int (cF n most x.f.times),.ref d])) x.c (.lst (vs++[.ref p]))) b=some u:=λb u hb h=>by rw[ag hb];exact a6 _ _ h
  have X:(upd (upd (upd H d (.lst [])) p (.tup [.str "repeat",.int (cF n most x.f.times),.ref d])) x.c (.lst (vs++[.ref p]))) x.c=some (.lst (vs++[.ref p])):=ah;have a5:(upd (upd (upd H d (.lst [])) p (.tup [.str "repeat",.int (cF n most x.f.times),.ref d])) x.c (.lst (vs++[.ref p]))) p=some (.tup [.str "repeat",.int (cF n most x.f.times),.ref d]):=by rw[ag pc,ah]
  have J:(upd (upd (upd H d (.lst [])) p (.tup [.str "repeat",.int (cF n most x.f.times),.ref d])) x.c (.lst (vs++[.ref p]))) d=some (.lst []):=by rw[ag b',ag (Ne.symm b0),ah]
  exists _,U,S,_,_,_,U,U,SqL.of (j _ _ D.1 Z.cS),U,_,U,l,_,_,_,U,U,SqL.of (j _ _ D.2.2.2.1 Z.c2),gh;exists _,U,_,U,_,_,U,U,IntMulOk.of_left (intBits_le_64 Yo Yo);generalize (upd (upd (upd H d (.lst [])) p (.tup [.str "repeat",.int (cF n most x.f.times),.ref d])) x.c (.lst (vs++[.ref p])))=H4 at j X a5 J ⊢;have a0:=j _ _ D.1 Z.cS;have W:=j _ _ D.2.1 Z.c0;have b3:=j _ _ D.2.2.1 Z.c1;have b4:=j _ _ D.2.2.2.1 Z.c2;have b2:=j _ _ D.2.2.2.2 Z.c3;exists _,U,S,_,_,_,U,U,SqL.of a0,U,.inl ⟨U,_,SqL.of W⟩,_,U,B,_,_,U,U,W,g _;generalize hH5:upd H4 B (.lst (((x::r).map λx=>V.ref x.c).reverse++[.ref d]))=H5;have M:H5 S=some (.lst [.ref B,.ref C,.ref l,.ref t]):=by rwa[<- hH5,ag a1]
  have X0:H5 C=some (.lst (((x::r).map Fz.o).reverse)):=by rwa[<- hH5,ag (Ne.symm d0)]
  have b8:H5 l=some (.lst (((x::r).map λx=>V.bl x.f.shut).reverse)):=by rwa[<- hH5,ag (Ne.symm c6)]
  have b6:H5 t=some (.lst (((x::r).map λx=>V.int x.f.times).reverse)):=by rwa[<- hH5,ag (Ne.symm c5)]
  exists _,U,S,_,_,_,U,U,SqL.of M,U,.inl ⟨U,_,SqL.of X0⟩,_,U,C,_,_,U,U,X0,g _;generalize hH6:upd H5 C (.lst (((x::r).map Fz.o).reverse++[.non]))=H6;have R:H6 S=some (.lst [.ref B,.ref C,.ref l,.ref t]):=by rw[<- hH6,ag a2];exact M
  have O:H6 l=some (.lst (((x::r).map λx=>V.bl x.f.shut).reverse)):=by rwa[<- hH6,ag (Ne.symm d1)]
  have b1:H6 t=some (.lst (((x::r).map λx=>V.int x.f.times).reverse)):=by rwa[<- hH6,ag (Ne.symm d2)]
  exists _,U,S,_,_,_,U,U,SqL.of R,U,.inl ⟨U,_,SqL.of O⟩,_,U,l,_,_,U,U,O,g _;generalize hH7:upd H6 l (.lst (((x::r).map λx=>V.bl x.f.shut).reverse++[.bl x.f.shut]))=H7;have b7:H7 S=some (.lst [.ref B,.ref C,.ref l,.ref t]):=by rw[<- hH7,ag a3];exact R
  have N:H7 t=some (.lst (((x::r).map λx=>V.int x.f.times).reverse)):=by rwa[<- hH7,ag (Ne.symm c')]
  exists _,U,S,_,_,_,U,U,SqL.of b7,U,.inl ⟨U,_,SqL.of N⟩,_,U,t,_,_,U,U,N,g _;subst hH7 hH6 hH5;refine q _ ⟨⟨.rep (cF n most x.f.times),[],x.f.shut,x.f.times * cF n most x.f.times⟩,d,p,d⟩ (pU (y:=⟨⟨.rep (cF n most x.f.times),[],x.f.shut,x.f.times * cF n most x.f.times⟩,d,p,d⟩) Z I j (λm hm=>?_) (by simp[Fz.muts]) a5 (by simp) (by simp) U X) ?_
  .simp[Fz.muts]at hm;subst hm;exact⟨a7,J⟩
  .unfold gf;dsimp only;rw[Q4 c7,Q4 c8]
 .have tp:0<x.f.times:=Qg cc;refine⟨_,U,_,U,_,U,_,_,U,U,⟨tp,Yo⟩,_,_,U,U,_,_,U,U,?_,?_⟩
  .have:=Int.ediv_nonneg m0 t0;omega
  .refine go _ ?_;unfold cF;rw[Q5 tp]
abbrev c1P(low n most:Int)(len:Nat)(shut:Bool):Prop:=low<=n % 14/\n % 14<=9/\len+1<=12/\(n % 14<9\/0<most\/shut=true)
theorem DF(T:Tx P w K mg a):aM P w K mg base CX0 2 a.IT a.IU ["_law_cells","_law_names","_law_rooms","_law_most","_law_low"] (vo K):=by
 refine T.JB.F.ok hG (by walk_at "l") λ_ A outer s H vs Q E hr h=>?_;obtain⟨lc,ln,lr,l,names,rooms,most,low,rfl,f1,h',g8,_,b4,h8,h7,m0,m1,q⟩:=h
 refine⟨_,(ai (au (i:=5) hG.nd U Oi (ba af))
  (ai (au (i:=6) hG.nd U Oi (ba (a9 (ba (a9 (pq 5) af)) (a9 (ba (a9 cr af)) (a9 (ba (a9 fA af)) (a9 (ba (a9 aa af)) af))))))
  (ai (bR PassesOwn.never U (cV (pq 0)) (aR (i:=7) hG.nd U Oi)
  (ai (au (i:=8) hG.nd U Oi (aF (fN T) (hr.mono Yk) T.mt (a9 (pq 7) (a9 aa af))))
  (ai (au (i:=9) hG.nd U Oi (aq bf (pq 8) aa))
  (ap (aQ (PW.pt (fL (Co pB pB (pq 4) (pq 9) aa) (fL (aD pB (be bT U T.f8 Qb (a9 (ao aK (pq 6) aa Oy) af)) aa (aG _)) (gH (PW.pt (iT (aD hV (pq 9) aa (aG _)) (iT (aD gG (pq 3) aa (aG _)) (kX (hX (ao aK (ao aK (pq 6) aa Oy) (d8 cY aa) Oy)))))))))) (ap (bx (aF (Dy T) (hr.mono Yk) T.JA (a9 (pq 6) (a9 (pq 8) (a9 (ao aK (pq 1) (aq bf (aq cT (pq 8) aa) (be bT U T.f8 Qb (a9 (pq 1) af))) Oy) (a9 (pq 3) af))))))) (ap (aQ (PW.pt (fL (aD br (pq 9) aa (aG _)) (gH (aD fK (ao aK (ao aK (pq 6) aa Oy) (d8 cY aa) Oy) cr (aG _))))) (ai (jz (ao aK (ao aK (pq 6) aa Oy) (d8 cY aa) Oy) (lC (ao aK (pq 6) aa Oy) (d8 cY aa) kF))
  (ap (jz cr (lC (ao aK (pq 6) aa Oy) (d8 cY aa) kF)))) (ap (aQ (PW.pt (fL (aD vT (pq 9) aa (aG _)) (gH (aD gG (be bT U T.f8 Qb (a9 (ao aK (pq 6) aa Oy) af)) aa (aG _))))) (ap (bR PassesOwn.never U (cV (pq 6)) (aR (i:=10) hG.nd U Oi)
  (ap (bx (ww qh PySem.F.slot_list_pop PySem.F.type_list_pop wX (pq 10)))))) (ap (bx (bF qh qy qz cC (ao aK (ao aK (pq 6) aa Oy) (d8 cY aa) Oy) (a9 (aF (Dv T) (hr.mono Yk) T.Jz (a9 (pq 8) (a9 (pq 1) (a9 (pq 2) (a9 (ao aK (ao aK (pq 6) aa Oy) (d8 cY aa) Oy) af))))) af)))))))))))))
  (ap (aE (pq 5)))))),?_⟩
 walk_at "q";refine⟨qv _,λb hb=>?_⟩;refine⟨_,U,ln1,λd h0=>⟨ln1,λt h1=>⟨ln1,λB h2=>⟨ln1,λC h3=>⟨(by show 4<=sizeLine;decide),λS hS=>?_⟩⟩⟩⟩⟩;have sb:a8 H (upd H b (.lst [])):=a8.new hb _;have g0:=a8.none sb h0;have c7:a8 H (upd (upd H b (.lst [])) d (.lst [.ref b])):=a8.over sb g0;have g1:=a8.none c7 h1;have d4:a8 H (upd (upd (upd H b (.lst [])) d (.lst [.ref b])) t (.lst [.non])):=a8.over c7 g1;have g2:=a8.none d4 h2;have f2:a8 H (upd (upd (upd (upd H b (.lst [])) d (.lst [.ref b])) t (.lst [.non])) B (.lst [.bl false])):=a8.over d4 g2;have g3:=a8.none f2 h3;have c':a8 H (upd (upd (upd (upd (upd H b (.lst [])) d (.lst [.ref b])) t (.lst [.non])) B (.lst [.bl false])) C (.lst [.int 1])):=a8.over f2 g3;have gS:=a8.none c' hS;have ne:∀{X:Hp}{u v:Addr}{o:HO},(upd X u o) v=none->v≠u:=λh e=>by rw[e,ah]at h;cases h
 have f5:=ne h0;have b7:=ne h1;have c9:t≠b:=ne (by rw[ag b7]at h1;exact h1);have a6:=ne h2;have c6:(upd (upd H b (.lst [])) d (.lst [.ref b])) B=none:=by rw[ag a6]at h2;exact h2
 have b0:=ne c6;have d9:B≠b:=ne (by rw[ag b0]at c6;exact c6);have b1:=ne h3;have b8:(upd (upd (upd H b (.lst [])) d (.lst [.ref b])) t (.lst [.non])) C=none:=by rw[ag b1]at h3;exact h3
 have a0:=ne b8;have N:(upd (upd H b (.lst [])) d (.lst [.ref b])) C=none:=by rw[ag a0]at b8;exact b8
 have a':=ne N;have f0:C≠b:=ne (by rw[ag a']at N;exact N);have b3:=ne hS;have b':(upd (upd (upd (upd H b (.lst [])) d (.lst [.ref b])) t (.lst [.non])) B (.lst [.bl false])) S=none:=by rw[ag b3]at hS;exact hS
 have b6:=ne b';have c5:(upd (upd (upd H b (.lst [])) d (.lst [.ref b])) t (.lst [.non])) S=none:=by rw[ag b6]at b';exact b'
 have c4:=ne c5;have b2:(upd (upd H b (.lst [])) d (.lst [.ref b])) S=none:=by rw[ag c4]at c5;exact c5
 have b9:=ne b2;have f3:S≠b:=ne (by rw[ag b9]at b2;exact b2)
 have Z0:ZI H H (upd (upd (upd (upd (upd (upd H b (.lst [])) d (.lst [.ref b])) t (.lst [.non])) B (.lst [.bl false])) C (.lst [.int 1])) S (.lst [.ref d,.ref t,.ref B,.ref C])) S d t B C [⟨⟨.root,[],false,1⟩,b,b,b⟩]:=by
  refine{ hb:=a8.refl H,h0:=a8.over c' gS,fz:=?_,nd:=?_,cS:=ah,c0:=?_,c1:=?_,c2:=?_,c3:=?_,zr:=?_ }
  .intro m W;simp[bh,Fz.muts]at W;rcases W with rfl|rfl|rfl|rfl|rfl|rfl<;>assumption
  .simp[bh,Fz.muts];exact⟨⟨b9,c4,b6,b3,f3⟩,⟨Ne.symm b7,Ne.symm b0,Ne.symm a',f5⟩,⟨Ne.symm a6,Ne.symm a0,c9⟩,⟨Ne.symm b1,d9⟩,f0⟩
  .rw[ag (Ne.symm b9),ag (Ne.symm a'),ag (Ne.symm b0),ag (Ne.symm b7),ah];rfl
  .rw[ag (Ne.symm c4),ag (Ne.symm a0),ag (Ne.symm a6),ah];rfl
  .rw[ag (Ne.symm b6),ag (Ne.symm b1),ah];rfl
  .rw[ag (Ne.symm b3),ah];rfl
  .refine⟨⟨[],?_,.nil⟩,trivial,.inl ⟨U,U⟩⟩;show _=some (HO.lst ([]++[]));rw[ag (Ne.symm f3),ag (Ne.symm f0),ag (Ne.symm d9),ag (Ne.symm c9),ag (Ne.symm f5),ah]
   rfl
 generalize upd (upd (upd (upd (upd (upd H b (.lst [])) d (.lst [.ref b])) t (.lst [.non])) B (.lst [.bl false])) C (.lst [.int 1])) S (.lst [.ref d,.ref t,.ref B,.ref C])=H1 at Z0 ⊢;exists _,U,lc,U,⟨_,Z0.hbH.seq f1⟩;have h9:(l.map V.int).length=l.length:=qa _
 refine dG (K:=K) (a:=lc) (xs:=l.map V.int) (λi Y G=>∃(M:Hp)(z:LB)(v7 v8 v9 I:LC),Y=[some (.ref lc),some (.ref ln),some (.ref lr),some (.int most),some (.int low),some (.ref b),some (.ref S),v7,v8,v9,I]/\ZI H M G S d t B C z/\z.map (·.f)=df names rooms most low (l.take i)/\jU z=b)
  ⟨H,_,_,_,_,_,U,Z0,U,U⟩ ?_ ?_ ?_
 .rintro i Y G _ ⟨M,z,v7,v8,v9,I,_,Z,_⟩;exact Z.hbH.seq f1
 .rintro i _ Y G c8 ⟨M,z,v7,v8,v9,I,rfl,Z,X0,J⟩;rw[qH]at c8;obtain⟨c,hc,rfl⟩:=qS.mp c8
  have hi:i<l.length:=by
   rcases Nat.lt_or_ge i l.length with h|h
   .exact h
   .rw[Qs h]at hc;cases hc
  obtain⟨x,r,vs,rfl,hx,h6⟩:=Z.top;obtain⟨e8,d',d1⟩:=nA (names:=names) (rooms:=rooms) (most:=most) (low:=low) b4 (l.take i) st0 ⟨U,by simp[st0,cards,aj],by simp[st0,aO]⟩ (by simp[st0]);have tok:=uv (names:=names) (rooms:=rooms) (most:=most) (low:=low) m0 m1 (l.take i) st0 (by intro f hf;simp[st0]at hf;subst hf;exact⟨Yk,Yk⟩);have f9:(l.take i).foldl (λst c=>bZ names rooms most low st (aA c 1)) st0=x.f::r.map (·.f):=X0.symm;rw[f9]at e8 d' d1 tok;have zl:(x::r).length<=13:=by simpa using d'
  have i0:cnt st0=0:=U
  have dl:x.f.ds.length<=1000:=by
   have:=zP (f:=x.f) (r:=r.map (·.f));rw[qN]at d1;omega
  have tx:=tok x.f qq;have n0:=jF c 1;have n1:=x8 c 1;have f':df names rooms most low (l.take (i+1))=bZ names rooms most low (x.f::r.map (·.f)) (aA c 1):=by rw[Au hc,<- X0];rfl
  rw[f'];have R:(r.map (·.f)).length=r.length:=qa _;have b5:=Z.hbH.seq h';have g7:=Z.hbH.seq g8;exists _,U,c,1,U,Yk,Yk;generalize aA c 1=n at n0 n1 ⊢;exists _,U,_,_,U,U,Yk;have k0:0<=n % 14:=Qd _ Yk;have l0:((((x::r).map λx=>V.ref x.c).reverse).length:Int)=(r.length:Int)+1:=by simp
  exists _,U,_,U,_,_,U,U,_,U;refine lZ (Pc:=¬ c1P low n most r.length x.f.shut) (λk z=>k (Q6 z.1)) ?_ λk go=>?_
  .intro nc;refine⟨_,U,j3 ?_⟩
   try refine j3 ?_
   exists _,U,U,_,U;refine lZ (Pc:=(if n % 14=10 then x.f.op.ifT? else none)=none) (λk=>by rw[Q4 (eE k)]) ?_ λk go=>?_
   .intro ne;refine j3 ?_;exists _,U,_,_,U,U,_,U;refine lZ (Pc:=¬ (10<=n % 14/\0<r.length)) (λk z=>k (Q6 z.1)) ?_ λk go=>?_
    .intro nx;refine j3 ?_;exists _,U,S,_,_,_,U,U,SqL.of Z.cS,U,_,U,d,_,_,_,U,U,SqL.of Z.c0,gh,.inl ⟨U,_,SqL.of hx⟩,_,U,_,U,_,U,_,U,S,_,_,_,U,U,SqL.of Z.cS,U,_,U,B,_,_,_,U,U,SqL.of Z.c2,gh;refine⟨n,ln,lr,names,rooms,x.f.shut,U,b5,g7,b4,h8,h7,n0,Yo,λD p xs a7 hp g9 f7=>?_⟩;have Z3:=Z.same a7;have p0:M p=none:=a8.none Z.h0 hp;exists x.c,_,_,U,U,a7 _ _ hx,qG (Nat.lt_succ_of_le (by rwa[h6.len])) Yk;refine⟨_,_,_,_,_,_,U,Z3.push (a7 _ _ hx) g9 p0 (f7 _ ah),?_,?_⟩
     .unfold bZ;dsimp only;rw[R,Q4 nc,ne,Q4 nx]
      rfl
     .rw[<- J];exact yv U
    .have h5:=Qg k;exists _,U,S,_,_,_,U,U,SqL.of Z.cS,U,d,_,U,.inl (SqL.of Z.c0),_,_,U,U,_,U;rw[l0];refine cX (λk=>?_) (λk=>by have h:=go λz=>k (Q6 Yo);exact h);have r0:0<r.length:=by have:=Qg k;omega
     cases r with
     |nil=>cases r0
     |cons g r=>
     obtain⟨q0,q1,q2,q3,e0,d5,e9,e6,f6,d7⟩:=Z.ss;have F:=λ(j:Nat)(D:Hp)=>(j=0/\D=G);exists _,U,S,U,⟨_,SqL.of Z.cS⟩;generalize hA1:upd G d (.lst (((g::r).map λx=>V.ref x.c).reverse))=A1;generalize hA2:upd A1 t (.lst (((g::r).map Fz.o).reverse))=A2;generalize hA3:upd A2 B (.lst (((g::r).map λx=>V.bl x.f.shut).reverse))=A3;generalize hA4:upd A3 C (.lst (((g::r).map λx=>V.int x.f.times).reverse))=A4;have d6:A1 S=some (.lst [.ref d,.ref t,.ref B,.ref C]):=by rw[<- hA1,ag q0];exact Z.cS
     have d2:A2 S=some (.lst [.ref d,.ref t,.ref B,.ref C]):=by rw[<- hA2,ag q1];exact d6
     have O:A3 S=some (.lst [.ref d,.ref t,.ref B,.ref C]):=by rwa[<- hA3,ag q2]
     have g':A4 S=some (.lst [.ref d,.ref t,.ref B,.ref C]):=by rw[<- hA4,ag q3];exact O
     have e7:A1 t=some (.lst (((x::g::r).map Fz.o).reverse)):=by rw[<- hA1,ag (Ne.symm e0)];exact Z.c1
     have f4:A2 B=some (.lst (((x::g::r).map λx=>V.bl x.f.shut).reverse)):=by rw[<- hA2,ag (Ne.symm e6),<- hA1,ag (Ne.symm d5)];exact Z.c2
     have e5:A3 C=some (.lst (((x::g::r).map λx=>V.int x.f.times).reverse)):=by rw[<- hA3,ag (Ne.symm d7),<- hA2,ag (Ne.symm f6),<- hA1,ag (Ne.symm e9)];exact Z.c3
     refine dG (K:=K) (a:=S) (xs:=[.ref d,.ref t,.ref B,.ref C]) (λj Y D=>(∃I,Y=[some (.ref lc),some (.ref ln),some (.ref lr),some (.int most),some (.int low),some (.ref b),some (.ref S),some (.int c),some (.int n),some (.int (n % 14)),I])/\((j=0/\D=G)\/(j=1/\D=A1)\/(j=2/\D=A2)\/(j=3/\D=A3)\/(j=4/\D=A4))) ⟨⟨_,U⟩,.inl ⟨U,U⟩⟩ ?_ ?_ ?_
     .rintro j Y D _ ⟨_,⟨_,rfl⟩|⟨_,rfl⟩|⟨_,rfl⟩|⟨_,rfl⟩|⟨_,rfl⟩⟩
      .exact SqL.of Z.cS
      .exact SqL.of d6
      .exact SqL.of d2
      .exact SqL.of O
      .exact SqL.of g'
     .rintro j y Y D L ⟨⟨v,rfl⟩,⟨rfl,rfl⟩|⟨rfl,rfl⟩|⟨rfl,rfl⟩|⟨rfl,rfl⟩|⟨rfl,rfl⟩⟩
      .simp at L;subst L;refine⟨_,U,.inl ⟨U,_,SqL.of Z.c0⟩,d,_,_,U,U,Z.c0,lW,⟨_,U⟩,.inr (.inl ⟨U,?_⟩)⟩;rwa[mB]
      .simp at L;subst L;refine⟨_,U,.inl ⟨U,_,SqL.of e7⟩,t,_,_,U,U,e7,lW,⟨_,U⟩,.inr (.inr (.inl ⟨U,?_⟩))⟩;rwa[mB]
      .simp at L;subst L;refine⟨_,U,.inl ⟨U,_,SqL.of f4⟩,B,_,_,U,U,f4,lW,⟨_,U⟩,.inr (.inr (.inr (.inl ⟨U,?_⟩)))⟩;rwa[mB]
      .simp at L;subst L;refine⟨_,U,.inl ⟨U,_,SqL.of e5⟩,C,_,_,U,U,e5,lW,⟨_,U⟩,.inr (.inr (.inr (.inr ⟨U,?_⟩)))⟩;rwa[mB]
      .simp at L
     .rintro Y D ⟨⟨v,rfl⟩,hj⟩
      have e4:D=A4:=by
       rcases hj with⟨j,_⟩|⟨j,_⟩|⟨j,_⟩|⟨j,_⟩|⟨_,e⟩
       .simp at j
       .simp at j
       .simp at j
       .simp at j
       .exact e
      subst e4
      obtain⟨g4,Z'⟩:=Z.closed (H':=D) (λm u e1 e2 e3 e4 W=>by rw[<- hA4,ag e4,<- hA3,ag e3,<- hA2,ag e2,<- hA1,ag e1];exact W)
       (by rw[<- hA4,ag e9,<- hA3,ag d5,<- hA2,ag e0,<- hA1,ah]) (by rw[<- hA4,ag f6,<- hA3,ag e6,<- hA2,ah]) (by rw[<- hA4,ag d7,<- hA3,ah]) (by rw[<- hA4,ah])
      refine⟨g4,_,_,_,_,_,U,Z',?_,?_⟩
      .unfold bZ;dsimp only;rw[R,Q4 nc,ne,Q5 ⟨h5,r0⟩]
       rfl
      .rw[<- J];exact yv U
   .have d3:=dR k;exists _,U,S,_,_,_,U,U,SqL.of Z.cS,U,_,U,t,_,_,_,U,U,SqL.of Z.c1,gh,U,_,U
    cases hop:x.f.op.ifT? with
    |none=>
     have xo:x.o=.non:=by unfold Fz.o;cases q:x.f.op<;>rw[q]at hop<;>first|rfl|cases hop
     rw[xo];have h:=go (by rwa[Q5 d3]);exact h
    |some g6=>
     have q:x.f.op=.ifT g6:=by cases q:x.f.op<;>rw[q]at hop<;>simp[Op.ifT?]at hop;rw[hop]
     have xo:x.o=.ref x.e:=by unfold Fz.o;rw[q]
     rw[xo];refine bD (by simp) ?_;have h4:G d=some (.lst ((r.map λx=>V.ref x.c).reverse++[.ref x.c])):=by rw[Z.c0];simp
     have d0:G t=some (.lst ((r.map Fz.o).reverse++[.ref x.e])):=by rw[Z.c1,qU,List.reverse_cons,xo]
     have sn:=Z.ss;exists _,U,S,_,_,_,U,U,SqL.of Z.cS,U,_,U,t,_,_,_,U,U,SqL.of d0,xA,_,U,S,_,_,_,U,U,SqL.of Z.cS,U,_,U,d,_,_,_,U,U,h4,xD;rw[vG];have O:(upd G d (.lst ((r.map λx=>V.ref x.c).reverse++[.ref x.e]))) S=some (.lst [.ref d,.ref t,.ref B,.ref C]):=by rw[ag sn.1];exact Z.cS
     have g5:(upd G d (.lst ((r.map λx=>V.ref x.c).reverse++[.ref x.e]))) t=some (.lst ((r.map Fz.o).reverse++[.ref x.e])):=by rwa[ag (Ne.symm sn.2.2.2.2.1)]
     exists _,U,S,_,_,_,U,U,SqL.of O,U,_,U,t,_,_,_,U,U,g5,xD;rw[vG];refine⟨_,_,_,_,_,_,U,Z.elsed q hx (λm u e1 e2 W=>by rw[ag e2,ag e1];exact W) (by rw[ag sn.2.2.2.2.1,ah]) ah,?_,?_⟩
     .unfold bZ;dsimp only;rw[R,Q4 nc,Q5 d3,hop]
      rfl
     .cases r with
      |nil=>have:=e8.1;rw[q]at this;cases this
      |cons y _=>exact J
  .have a1:=Qg k;exists _,_,U,U,_,U;refine cX (λk=>?_) (λk=>by have h:=goB (Pc:=¬ c1P low n most r.length x.f.shut) go λz=>k (Q6 z.2.1);exact h);have a2:=Qg k;exists _,U,S,_,_,_,U,U,SqL.of Z.cS,U,d,_,U,.inl (SqL.of Z.c0),_,_,U,U,_,U;rw[l0];refine cX (λk=>?_) (λk=>by have h:=goB (Pc:=¬ c1P low n most r.length x.f.shut) go λz=>k (Q6 (by have:=z.2.2.1;omega));exact h);have a3:=Qg k;exists _,U,_,_,U,U,_,U;refine EL (Pc:=n % 14<9\/0<most\/x.f.shut=true) (λk=>.inl (Qg k)) ?_ λk e'=>?_
   .intro pc;refine rZ ?_;exists _,U,_,U,_,U,_,U,_,_,U,U,⟨Yk,Yk⟩,_,U,ln,_,U,.inl b5,_,_,U,U,(by rw[qa];omega),ln,_,_,_,U,U,b5,i8 b4 _,_,U;refine⟨H,M,S,d,t,B,C,x,r,n,most,nth names (n / 14),U,Z,Yo,dl,n0,Yo,m0,m1,tx.1,Yo,λH' y Z' e=>?_⟩;refine⟨M,y::x::r,_,_,_,_,U,Z',?_,J⟩;unfold bZ;dsimp only;rwa[R,Q5 ⟨a1,a2,Yo,pc⟩]
   .have a4:¬ n % 14<9:=λz=>k (Q6 z);exists _,U,_,_,U,U,_,U;refine cX (λk=>e' (.inr (.inl (Qg k)))) (λk=>?_);have a5:¬ 0<most:=λz=>k (Q6 z);exists _,U,S,_,_,_,U,U,SqL.of Z.cS,U,_,U,B,_,_,_,U,U,SqL.of Z.c2,gh,_,U
    cases hsh:x.f.shut with
    |true=>exact e' (.inr (.inr hsh))
    |false=>
     have h:=goB (Pc:=¬ c1P low n most r.length x.f.shut) go λz=>by
      rcases z.2.2.2 with z|z|z
      .exact a4 z
      .exact a5 z
      .rw[hsh]at z;cases z
     exact h
 .rintro Y G ⟨M,z,v7,v8,v9,I,rfl,Z,X0,J⟩;rw[h9,qK]at X0;refine⟨_,U,q G b Z.hbH hb ?_⟩;have w:=Z.zr.whole Z.h0 (tl:=[]) (dt:=[]) .nil;rw[J,X0]at w
  have ne:df names rooms most low l≠[]:=by
   rw[<- X0];intro e;have:=Z.zr;rw[List.map_eq_nil_iff.mp e]at this;exact this
  unfold dA kh;rw[ki _ _ (by have:=List.length_pos_iff.mpr ne;omega)];exact w
theorem Dp(T:Tx P w K mg a):aM P w K mg base CX0 17 a.Im a.Io ["program"] uS:=by
 refine T.Js.F.ok kK (by walk_at "l") λ_ A outer s H vs Q E hr h=>?_;obtain⟨p,la,ls,lb,b,ss,ds,us,C,rfl,d,a2,S,ha,_,L,hC,j,D,k⟩:=h
 refine⟨_,(ai (au (i:=1) kK.nd U Oi (aq hJ (aq hJ (ao ay (pq 0) aa Oy) (aF (pW T) (hr.mono Yk) T.GZ (a9 (ao ay (pq 0) aa Oy) af))) (ba (a9 (gc U T.HD T.r_OUTLET) af))))
  (ai (bR PassesOwn.never U (cV (ao ay (pq 0) aa Oy)) (fu U (cE (aR (i:=2) kK.nd U Oi) (cE (aR (i:=3) kK.nd U Oi) fq)))
  (ap (bx (bF qh Qr Qq gQ (pq 1) (a9 (ba (a9 (aF (pX T) (hr.mono Yk) T.Ha (a9 (pq 2) af)) (a9 (aF (pZ T) (hr.mono Yk) T.Hd (a9 (pq 2) af)) af))) af)))))
  (ap (aE (be (sW U) U T.At PyProof.Rows.Boot.«sorted» (a9 (fw (mG U) U T.Hj PyProof.Rows.Boot.«set» (a9 (pq 1) af)) af)))))),?_⟩
 walk_at "q";have t:∀q∈cards ds,q∈C:=λq J=>hC q (by unfold dD;simp[J]);exists _,U,p,_,_,_,U,U,SqT.of d.top,U;refine⟨_,U,p,_,_,_,U,U,SqT.of d.top,U,H,lb,ds,C,U,a8.refl H,d.bo,a2,S,t,j,D,λH1 l1 c O n1 h1 X z _=>?_⟩;have a3:c.length<64:=Nat.lt_of_le_of_lt (j7 X λq J=>t q ((z q).mp J)) j;refine⟨la,l1,_,_,U,U,SqL.of (O _ _ d.as),SqL.of h1,bq (m:=3000) (by rw[qa,qa];omega),λM X0=>?_⟩;refine⟨ln1,λp2 y=>?_⟩;refine⟨M,p2,_,_,U,U,SqL.of (a8.new y _ _ _ ah),SqL.of ah,bq (m:=3000) (by rw[qc,qa,qa,Qa];omega),λl a1=>?_⟩;have s2:=O.trans (a8.new X0 (.lst (b.map V.str++c.map V.str)));have Z:=s2.trans (a8.new y (.lst [V.str (">":Str)]));have n3:=a8.none Z a1;have B:a8 H (upd (upd (upd H1 M (.lst (b.map V.str++c.map V.str))) p2 (.lst [V.str (">":Str)])) l (.lst (b.map V.str++c.map V.str++[V.str (">":Str)]))):=a8.over Z n3;exists _,U,p,_,_,_,U,U,SqT.of (B _ _ d.top),U,ls,U,⟨_,SqL.of (B _ _ d.st)⟩;have ul:=d.ro.len
 have fl:∀i,((ss.take i).flatMap λs=>[s.1++(">":Str),s.1++("<":Str)]).length=2 * (ss.take i).length:=λi=>by
  induction ss.take i with
  |nil=>rfl
  |cons x r ih=>rw[qI,qc,ih,qE];simp;omega
 refine dG (K:=K) (a:=ls) (xs:=us) (λi Y e=>∃v o,Y=[some (.ref p),some (.ref l),v,o]/\a8 H e/\e l=some (.lst ((b++c++[(">":Str)]++(ss.take i).flatMap λs=>[s.1++(">":Str),s.1++("<":Str)]).map V.str))) ⟨_,_,U,B,?_⟩ ?_ ?_ ?_
 .rw[ah];simp
 .rintro i Y e _ ⟨v,o,_,g,f⟩;exact SqL.of (g _ _ d.st)
 .rintro i x Y e I ⟨v,o,rfl,g,f⟩;obtain⟨px,q,n,rfl,N,W⟩:=d.ro.at i x I;have qm:q.length<=1000:=L _ (qD N);exists px,_,U,SqT.of (g _ _ W),U,_,_,U,_,_,U,U;refine⟨_,U,.inl ⟨U,_,SqL.of f⟩,_,U,q,U,qm,_,U,q,U,qm,ln2,λp4 u=>?_⟩;have lt:(ss.take i).length<=100:=by rw[qN];omega
  refine⟨l,p4,_,_,U,U,a8.new u _ _ _ f,ah,bq (m:=3000) ?_,?_⟩
  .rw[qa,qc,fl,qc,qc];simp;omega
  exists _,_,U,a8.over (g.trans (a8.new u _)) n3;rw[ah,qu,N];simp
 .rintro Y e ⟨v,o,rfl,g,f⟩;rw[ul,qK]at f;have f1:=fl ss.length;rw[qK]at f1
  have mm:∀x,x∈b++c++[(">":Str)]++(ss.flatMap λs=>[s.1++(">":Str),s.1++("<":Str)])↔x∈dD b ss ds:=λx=>by
   unfold dD;simp only[qi,z x]
  refine⟨_,U,l,_,U,SqL.of f,?_,λG R=>?_⟩
  .rw[qc,f1,qc,qc,Qa];omega
  refine⟨G,_,C,U,ah,λx I=>hC x ((mm x).mp I),j,λr zs a0 nd hm so=>?_⟩;have s6:a8 e (upd e G (dW P w G (b++c++[(">":Str)]++(ss.flatMap λs=>[s.1++(">":Str),s.1++("<":Str)])))):=a8.new R _;exact k _ r zs ((g.trans s6).trans (a8.new a0 _)) ah nd (λx=>(hm x).trans (mm x)) so
theorem Dh(T:Tx P w K mg a):aM P w K mg base CX0 2 a.Ib a.Ic ["deed"] uH:=by
 refine T.Jq.F.ok Bg (by walk_at "l") λ_ A outer s H vs Q E hr h=>?_;obtain⟨B,p,x,g,c,b,C,rfl,u,h,c1,m,k⟩:=h;exists _,(ap (aE (be (sW U) U T.At PyProof.Rows.Boot.«sorted» (a9 (aq CQ (fw (mG U) U T.Hj PyProof.Rows.Boot.«set» (a9 (aF (wF T) (hr.mono Yk) T.HA (a9 (pq 0) af)) af)) (fw (mG U) U T.Hj PyProof.Rows.Boot.«set» (a9 (ba (a9 (ao ay (pq 0) aa Oy) af)) af))) af))));walk_at "q";refine⟨_,U,B,_,_,U,u,.set h,λ_ l1 y n1 J=>?_⟩;have L:(ae.set x c g b).names.length<4:=by cases c<;>cases b<;>simp[ae.names,Val.names]
 refine⟨l1,_,U,SqL.of J,Yo,λn r=>?_⟩;have f:=y.trans (a8.new r (dW P w n (ae.set x c g b).names));refine⟨_,U,_,_,_,_,U,U,SqT.of (f _ _ (u _ _ h)),U,ln1,λD d=>?_⟩;have N:=f.trans (a8.new d (.lst [V.str x]));refine⟨D,[x],U,SqL.of ah,by simp,λi o=>?_⟩;have e:=(a8.new d (.lst [V.str x])).trans (a8.new o (dW P w i [x]));have v:=f.trans e;refine⟨n,i,_,_,U,U,e _ _ ah,ah,L,λl t=>?_⟩;have G:=v.trans (a8.new t (dW P w l ((ae.set x c g b).names.filter λk=>!decide (k∈[x]))));refine⟨l,_,C,U,ah,λq I=>c1 q (List.mem_filter.mp I).1,m,λ_ zs j nd M so=>?_⟩;have z:zs=ph x c b:=kx nd (λq=>(M q).trans (by simp[ae.names])) so;subst z;exact k _ _ (G.trans (a8.new j _)) ah
theorem pY(T:Tx P w K mg a):aM P w K mg base CX0 1 a.Iz a.IA ["kind","cards"] nD:=by
 refine T.Hg.F.ok Bi (by walk_at "l") λ_ A outer s H vs Q E hr h=>?_;obtain⟨kd,l,zs,rfl,hl,k⟩:=h;exists _,(ap (aE (bA (a9 (pq 0) (a9 (fw sV U T.Hk PyProof.Rows.Boot.«tuple» (a9 (pq 1) af)) (a9 (bA af) (a9 cr (a9 cr af))))))));walk_at "q";refine⟨_,U,_,U,l,_,U,.inl ⟨SqL.of hl,λpo d=>?_⟩⟩;refine⟨qv _,λ_ e=>⟨ln5,λp c=>?_⟩⟩;have f:a8 H (upd H po (.tup (zs.map V.str))):=a8.new d _;have b:=a8.new e (.tup []);exact k _ _ ((f.trans b).trans (a8.new c _)) (cH.new (r:=⟨kd,zs,[],none,none⟩) (b _ _ ah) ah c)
theorem Dc(T:Tx P w K mg a):aM P w K mg base CX0 17 a.Ix a.Iy ["deed"] uC:=by
 refine T.Jv.F.ok vJ (by walk_at "l") λa3 A outer s H vs Q E hr h=>?_;obtain⟨Z,v,d,C,rfl,c,hd,a4,X0,hC,G,o,O,k⟩:=h
 refine⟨_,(ai (au (i:=1) vJ.nd U Oi (ao ay (pq 0) aa Oy))
  (ai (aQ (aD br (pq 1) aS (aG _)) (ap (aE (bA (a9 aS (a9 (bA (a9 (ao ay (pq 0) aa Oy) af)) (a9 (fw sV U T.Hk PyProof.Rows.Boot.«tuple» (a9 (aF (Dh T) (hr.mono Yk) T.Jq (a9 (pq 0) af)) af)) (a9 cr (a9 cr af)))))))) aZ)
  (ai (aQ (aD br (pq 1) aS (aG _)) (ap (aE (bA (a9 aS (a9 (bA (a9 (aF (pX T) (hr.mono Yk) T.Ha (a9 (ao ay (pq 0) aa Oy) af)) af)) (a9 (bA (a9 (ao ay (pq 0) aa Oy) af)) (a9 (ao ay (pq 0) aa Oy) (a9 cr af)))))))) aZ)
  (ai (aQ (aD br (pq 1) aS (aG _)) (ap (aE (bA (a9 aS (a9 (fw sV U T.Hk PyProof.Rows.Boot.«tuple» (a9 (be (Gp U) U T.At PyProof.Rows.Boot.«sorted» (a9 (ba (a9 (ao ay (pq 0) aa Oy) (a9 (aF (pZ T) (hr.mono Yk) T.Hd (a9 (ao ay (pq 0) aa Oy) af)) af))) af)) af)) (a9 (bA af) (a9 cr (a9 (ao ay (pq 0) aa Oy) af)))))))) aZ)
  (ai (aQ (aD br (pq 1) aS (aG _)) (ap (aE (bA (a9 aS (a9 (bA (a9 (gc U T.HD T.r_OUTLET) af)) (a9 (bA (a9 (ao ay (pq 0) aa Oy) af)) (a9 cr (a9 cr af)))))))) aZ)
  (ap (aE (aF (pY T) (hr.mono Yk) T.Hg (a9 (pq 1) (a9 (aF (pW T) (hr.mono Yk) T.GZ (a9 (ba (a9 (pq 0) af)) af)) af)))))))))),?_⟩
 walk_at "q"
 have c1:∀q∈d.cards,q∈C:=λq y=>hC q (by
  unfold cards;rw[aj,aj,qA,j6]
  exact List.mem_flatMap.mpr ⟨d,qq,y⟩)
 have bW:∀q z:Str,q++z∈d.others->q.length<=1000:=λq z y=>by
  have:=o _ (c1 _ (qL _ y));rw[dB]at this;omega
 have dp:aO [d]<=12:=by simp only[aO];omega
 have fl:(aj [d]).length<=1000:=by rw[aj,aj,qA];exact X0
 have own:∀(t:Hp)(kd:Str),a8 H t->∀p,t p=none->aP d=⟨kd,srt (cards [d]),[],none,none⟩->RD Z v d->nC [.ref p] (upd t p (.lst [v])) (λu H2=>nD [.str kd,u] H2 Q E0) E0:=λt kd e p hp er hd=>by
  have g:=a8.new hp (.lst [v]);refine⟨_,p,[d],C,U,a8.refl _,.mk ah (.cons (RD.same ((c.trans e).trans g) hd) .nil),dp,fl,hC,G,o,λH3 l zs B nl hl nd hm so=>?_⟩;refine⟨kd,l,zs,U,hl,λH4 u n hu=>k H4 u ((e.trans g).trans (B.trans n)) ?_⟩;rwa[er,<- kx nd hm so]
 have I:=hd
 cases hd with
 |set h=>
  rename_i p x M S L;exists _,U,_,_,_,_,U,U,SqT.of (c _ _ h),U;exists _,U,U,_,U;walk_at "yes";refine⟨_,U,_,_,_,_,U,U,SqT.of (c _ _ h),U,ln1,λp7 R=>?_⟩;have W:=a8.new R (.tup [V.str x]);refine⟨_,U,Z,p,x,S,M,L,C,U,c.trans W,h,λq y=>c1 q (qY _ y),G,λt l1 e D=>?_⟩;refine⟨l1,_,U,.inl ⟨SqL.of D,λp8 a2=>⟨ln5,λJ b=>?_⟩⟩⟩;have X:=a8.new a2 (.tup ((ph x M L).map V.str));exact k _ _ (((W.trans e).trans X).trans (a8.new b _)) (cH.new (r:=aP (.set x M S L)) (X _ _ (e _ _ ah)) ah b)
 |put h=>
  rename_i p q x;exists _,U,_,_,_,_,U,U,SqT.of (c _ _ h),U;exists _,U,U,_,U;walk_at "no";exists _,U,U,_,U;walk_at "yes";refine⟨_,U,_,_,_,_,U,U,SqT.of (c _ _ h),U,_,U,bW _ ">" (by simp[ae.others]),ln1,λm f=>?_⟩;have e:=a8.new f (.tup [V.str (q++(">":Str))]);refine⟨_,U,_,_,_,_,U,U,SqT.of (e _ _ (c _ _ h)),U,ln1,λN j=>?_⟩;have g:=a8.new j (.tup [V.str x]);refine⟨_,U,_,_,_,_,U,U,SqT.of (g _ _ (e _ _ (c _ _ h))),U,ln5,λJ b=>?_⟩;exact k _ _ ((e.trans g).trans (a8.new b _)) (cH.new (r:=aP (.put q x)) (g _ _ ah) ah b)
 |get h=>
  rename_i p q x;exists _,U,_,_,_,_,U,U,SqT.of (c _ _ h),U;exists _,U,U,_,U;walk_at "no";exists _,U,U,_,U;walk_at "no";exists _,U,U,_,U;walk_at "yes";refine⟨_,U,_,_,_,_,U,U,SqT.of (c _ _ h),U,_,U,_,_,_,_,U,U,SqT.of (c _ _ h),U,_,U,bW _ "<" (by simp[ae.others]),ln2,λm f=>?_⟩;have e:=a8.new f (.lst [V.str x,V.str (q++("<":Str))]);refine⟨m,[x,q++("<":Str)],U,SqL.of ah,by simp,λN zs j pm so=>?_⟩;have g:=a8.new j (.lst (zs.map V.str));refine⟨N,_,U,.inl ⟨SqL.of ah,λp3 a1=>?_⟩⟩;have B:=a8.new a1 (.tup (zs.map V.str));refine⟨qv _,λp4 a0=>?_⟩;have n:=a8.new a0 (.tup []);refine⟨_,U,_,_,_,_,U,U,SqT.of (n _ _ (B _ _ (g _ _ (e _ _ (c _ _ h))))),U,ln5,λJ b=>?_⟩;have ez:=uA pm so;refine k _ _ ((((e.trans g).trans B).trans n).trans (a8.new b _)) (cH.new (r:=aP (.get q x)) ?_ ah b);show _=some (HO.tup ((eP [x,q++("<":Str)]).map V.str));rw[<- ez];exact n _ _ ah
 |give h=>
  rename_i p x;exists _,U,_,_,_,_,U,U,SqT.of (c _ _ h),U;exists _,U,U,_,U;walk_at "no";exists _,U,U,_,U;walk_at "no";exists _,U,U,_,U;walk_at "no";exists _,U,U,_,U;walk_at "yes";refine⟨ln1,λm f=>?_⟩;have e:=a8.new f (.tup [V.str (">":Str)]);refine⟨_,U,_,_,_,_,U,U,SqT.of (e _ _ (c _ _ h)),U,ln1,λN j=>⟨ln5,λJ b=>?_⟩⟩;have g:=a8.new j (.tup [V.str x]);exact k _ _ ((e.trans g).trans (a8.new b _)) (cH.new (r:=aP (.give x)) (g _ _ ah) ah b)
 |cond h D h2=>
  exists _,U,_,_,_,_,U,U,SqT.of (c _ _ h),U;exists _,U,U,_,U;walk_at "no";exists _,U,U,_,U;walk_at "no";exists _,U,U,_,U;walk_at "no";exists _,U,U,_,U;walk_at "no";exact⟨_,U,_,U,ln1,λm f=>own H "if" (a8.refl H) m f U I⟩
 |whl h D=>
  exists _,U,_,_,_,_,U,U,SqT.of (c _ _ h),U;exists _,U,U,_,U;walk_at "no";exists _,U,U,_,U;walk_at "no";exists _,U,U,_,U;walk_at "no";exists _,U,U,_,U;walk_at "no";exact⟨_,U,_,U,ln1,λm f=>own H "while" (a8.refl H) m f U I⟩
 |rep h D=>exact Q8 U (O _ _)
theorem Do(T:Tx P w K mg a):aM P w K mg base CX0 1 a.IB a.IC ["deeds"] uR:=by
 refine T.Jw.F.ok iJ (by walk_at "l") λ_ A outer s H vs Q E hr h=>?_;obtain⟨l,us,rs,rfl,hl,J,_,fed,one,k⟩:=h
 refine⟨_,(ai (au (i:=1) iJ.nd U Oi gK)
  (ap (bR PassesOwn.never U (lB U T.Hi (a9 (pq 0) af)) (fu U (cE (aR (i:=2) iJ.nd U Oi) (cE (aR (i:=3) iJ.nd U Oi) fq)))
  (ai (au (i:=4) iJ.nd U Oi (ao ay (pq 3) aa Oy))
  (ai (au (i:=5) iJ.nd U Oi (ao ay (pq 3) aa Oy))
  (ai (aQ (aD fK (pq 4) cr (aG _)) (ap (g6 (hr.one) (pq 1) (pq 4) (aq bK (dP hr.one (pq 1) (pq 4) aa ⟨U,U,U,U⟩) aa) U)) aZ)
  (ap (aQ (aD fK (pq 5) cr (aG _)) (ai (aQ (aD br (dP hr.one (pq 1) (pq 5) aa ⟨U,U,U,U⟩) aa (aG _)) (ap wf) aZ)
  (ap (g6 (hr.one) (pq 1) (pq 5) (aq kW (pR hr.one (pq 1) (pq 5) Oy) aa) U))) aZ)))))))),?_⟩
 walk_at "q";intro p R;have X0:a8 H (upd H p (.dK [])):=a8.new R _;have ul:=J.len;exists _,U,l,us,U,SqL.of (X0 _ _ hl);refine mh (K:=K) (l:=l) (xs:=us) (λi Y f=>∃o y t B b,Y=[some (.ref l),some (.ref p),o,y,t,B]/\a8 H f/\f p=some (.dK b)/\b.length<=2 * i/\jZ b (rs.take i)) ⟨_,_,_,_,[],U,X0,ah,qf _,λq=>U⟩ ?_ ?_ ?_
 .rintro i Y f ⟨o,y,t,B,b,_,C,_⟩;exact SqL.of (C _ _ hl)
 .rintro i x Y f pt hx ⟨o,y,t,B,b,rfl,C,hd,_,st⟩ m;obtain⟨r,n,j,po,_,rfl,h1,_,_⟩:=J.at i x hx;have lt:i<rs.length:=(qg.mp n).1;have u:a8 H (upd f pt (.tup [.int i,.ref j])):=C.trans (a8.new m _);have np:pt≠p:=λz=>by rw[z,hd]at m;cases m
  have c:(upd f pt (.tup [.int i,.ref j])) p=some (.dK b):=a8.new m _ _ _ hd;have G:(upd f pt (.tup [.int i,.ref j])) pt=some (.tup [.int i,.ref j]):=ah;generalize upd f pt (.tup [.int i,.ref j])=H3 at u c G ⊢;exists pt,_,U,SqT.of G,U,_,_,U,_,_,U,U;exists _,U,j,_,_,_,U,U,SqT.of (u _ _ h1),U;exists _,U,j,_,_,_,U,U,SqT.of (u _ _ h1),U;have tk:rs.take (i+1)=rs.take i++[r]:=by rw[qu,n];rfl
  have S:=one r (qD n);have M:=fed i r;have big:(10000:Nat)<sizeLine:=Yk;have L:b.length<sizeLine:=Yo
  have fin:∀(D:Hp)(d:LN) w3 Z,a8 H D->D p=some (.dK d)->d.length<=b.length+1->(∀q:Str,(aI d (.inr q)).getD (.int 0)=.int (bal (rs.take i++[r]) q))->
   ∃o y t B b,([some (.ref l),some (.ref p),some (.int i),some (.ref j),w3,Z]:St)=[some (.ref l),some (.ref p),o,y,t,B]/\a8 H D/\D p=some (.dK b)/\b.length<=2 * (i+1)/\jZ b (rs.take (i+1)):=λD d w3 Z s4 h4 _ X=>
   ⟨_,_,_,_,d,U,s4,h4,Yo,by rw[tk];exact X⟩
  clear hd m tk;obtain⟨kd,ow,_,into,outof⟩:=r
  cases into with
  |none=>
   refine⟨_,U,U,_,U,aL U ?_⟩
   cases outof with
   |none=>
    refine⟨_,U,U,_,U,aL U ?_⟩;exact fin H3 b _ _ u c (Nat.le_succ _) λq=>by rw[j9,st q];simp
   |some q=>
    have a0:0<bal (rs.take i) q:=M q n U;have I:=st q
    obtain⟨v,O⟩:∃v,aI b (.inr q)=some v:=by
     cases e:aI b (.inr q)with
     |some v=>exact⟨v,U⟩
     |none=>
      rw[e]at I;have:(0:Int)=bal (rs.take i) q:=V.int.inj I;omega
    rw[O]at I;have ev:v=.int (bal (rs.take i) q):=I;subst ev;refine⟨_,U,U,_,U,bD U ?_⟩;exists _,U,p,U,.inl ⟨b,.inl c⟩,_,U,_,cj.k (k:=.inr q) c;rw[O];exists U,_,U;refine ifN (λz=>?_) ?_
    .have:bal (rs.take i) q=0:=V.int.inj z;omega
    exists _,U,_,U,p,_,U,by rw[<- O];exact cj.k (k:=.inr q) c,_,_,U,U;exists _,U,_,U,p,_,U,eK.k (k:=.inr q) c L;refine fin _ _ _ _ (a8.over u R) ah (dQ _ _ _) λg=>?_;rw[dL,j9];by_cases e:g=q
    .subst e;simp
    .have N:¬ (Sum.inr g:Key)=Sum.inr q:=λz=>e (Sum.inr.inj z);have W:¬ q=g:=λz=>e z.symm;rw[Q4 N,st g];simp[W]
  |some q=>
   have on:outof=none:=by
    rcases S with h|h
    .cases h
    .exact h
   subst on;refine⟨_,U,U,_,U,bD U ?_⟩;exists _,U,p,U,.inl ⟨b,.inl c⟩,_,U,_,cj.k (k:=.inr q) c,_,_,st q,U;exists _,U,_,U,p,_,U,eK.k (k:=.inr q) c L;refine⟨_,U,U,_,U,aL U ?_⟩;refine fin _ _ _ _ (a8.over u R) ah (dQ _ _ _) λg=>?_;rw[dL,j9];by_cases e:g=q
   .subst e;simp
   .have N:¬ (Sum.inr g:Key)=Sum.inr q:=λz=>e (Sum.inr.inj z);have W:¬ q=g:=λz=>e z.symm;rw[Q4 N,st g];simp[W]
 .rintro Y f ⟨o,y,t,B,b,rfl,C,_⟩;exact k f C
theorem Dn(T:Tx P w K mg a):∀n:Nat,aM P w K mg base CX0 (n+1) a.Ir a.Iu ["block"] (uQ n):=by
 intro n
 induction n with
 |zero=>
  refine T.He.F.ok jq (by walk_at "l") λy A outer s H vs Q E hr h=>?_
  .obtain⟨_,_,_,_,_,_,h0,_⟩:=h;exact Q8 h0 (QB _)
 |succ n C=>
  refine T.He.F.ok jq (by walk_at "l") λy A outer s H vs Q E hr h=>?_;obtain⟨N,b,ds,rfl,f,hb,S,ra,k⟩:=h
  refine⟨_,(ai (au (i:=1) jq.nd U Oi (be bT U T.f8 Qb (a9 (pq 0) af)))
   (ai (bR PassesOwn.never U (cV (pq 0)) (aR (i:=2) jq.nd U Oi)
   (ap (aQ (aD br (ao ay (pq 2) aa Oy) aS (aG _)) (ap (au (i:=1) jq.nd U Oi (aq bK (pq 1) (aq eD (ao ay (pq 2) aa Oy) (aq bK (aF C (hr.mono Yo) T.He (a9 (ao ay (pq 2) aa Oy) af)) aa))))) aZ)))
   (ap (aE (pq 1))))),?_⟩
  walk_at "q";obtain⟨q,l⟩:=hb;rename_i vs;have R:=l.len;exists _,U,b,_,U,.inl (SqL.of (f _ _ q));exists _,U,b,U,⟨_,SqL.of (f _ _ q)⟩;refine dG (K:=K) (a:=b) (xs:=vs) (λi Y j=>j=H/\∃v c,Y=[some (.ref b),some (.int c),v]/\c=(vs.length:Int)-i+(aJ (ds.take i)).length) ⟨U,_,_,U,by simp[aJ]⟩ ?_ ?_ ?_
  .rintro i Y j _ ⟨rfl,_⟩;exact SqL.of (f _ _ q)
  .rintro i x Y j M ⟨rfl,v,c,rfl,t⟩;obtain⟨d,hd,o⟩:=l.at i x M;have tk:=oY hd;by_cases nr:∀m g,d≠.rep m g
   .obtain⟨G,r,rfl,L⟩:=o.tuple;exists _,U,G,_,_,_,U,U,SqT.of (f _ _ L),at0,U,_,U;refine ifN (tU nr) ⟨U,_,_,U,?_⟩;rw[tk,oZ nr,qc,Qa];omega
   .cases o with
    |rep h u=>
     rename_i p g m bs;obtain⟨I,O⟩:=(ra.at hd).rep;obtain⟨B,D⟩:=I m bs U;have J:=mD hd;rw[ae.depth]at J;refine⟨_,U,_,_,_,_,U,U,SqT.of (f _ _ h),U,U,_,U,bD Yd ?_⟩;exists _,U,_,U,_,_,_,_,U,U,SqT.of (f _ _ h),U,_,U,_,_,_,_,U,U,SqT.of (f _ _ h),U,N,g,bs,U,f,u,Yo,O,_,_,U,U,_,_,U,U,AG B D,_,_,U,U;exists U,_,_,U;rw[tk,qc,bH,qE,gF,qc,Qa];have e:(m.toNat:Int)=m:=Int.toNat_of_nonneg B;simp only[Int.natCast_add,Int.natCast_mul,e,Int.natCast_one];omega
    |_=>exact Q8 (λm g z=>by cases z) nr
  .rintro Y j ⟨rfl,v,c,rfl,t⟩;rw[R,qK]at t;have:c=((aJ ds).length:Int):=Yo;rw[this];exact⟨_,U,k⟩
theorem Da(T:Tx P w K mg a)(O:aM P w K mg base CX0 (2 * n+18) a.Hv a.Hw ["block"] (nB n)):aM P w K mg base CX0 (2 * n+19) a.Iv a.Iw ["rounds","body"] (uB n):=by
 refine T.Ju.F.ok vI (by walk_at "l") λ_ A outer s H vs Q E hr h=>?_;obtain⟨B,r,b,ds,C,rfl,_,_,L,hb,I,y,_,k⟩:=h
 refine⟨_,(ai (au (i:=2) vI.nd U Oi (aF (pY T) (hr.mono Yo) T.Hg (a9 aS (a9 (aF (pW T) (hr.mono Yo) T.GZ (a9 (pq 1) af)) af))))
  (ai (aQ (aD br (pq 0) aa (aG _)) (ap (aE (ba (a9 (pq 2) af)))) aZ)
  (ap (aE (aq hJ (ba (a9 (pq 2) af)) (aq wA (aq hJ (aF O (hr.mono Yo) T.Hf (a9 (pq 1) af)) (ba (a9 (pq 2) af))) (pq 0))))))),?_⟩
 walk_at "q";obtain⟨b1,b2,b3,b4,b5,_⟩:=id y;refine⟨_,U,B,b,ds,C,U,L,hb,b1,b2,b3,b4,b5,λ_ lz zs X _ V nd hm so=>?_⟩;have X0:=kx nd hm so;subst X0;refine⟨_,lz,_,U,V,λH2 g N t=>?_⟩;have t:cH H2 g (fQ ds):=t;have e:=X.trans N;exists _,U,U,_,U;refine cX (λc=>?_) (λc=>?_)
 .obtain rfl:r=0:=dR c;refine⟨_,U,ln1,λp j=>?_⟩;refine k _ p [g] (e.trans (a8.new j _)) (a8.none e j) ah ?_;rw[bH];exact .cons (t.same (a8.new j _)) .nil
 .have R:0<r:=by
   have:=eE c;omega
  refine⟨_,U,ln1,λp j=>?_⟩;have q:=a8.new j (.lst [g]);have ri:=Bv (b:=ds) R;refine⟨_,U,B,b,ds,C,U,(L.trans e).trans q,hb,I,y,Yo,λ_ l4 d o _ W G=>?_⟩;refine⟨_,U,ln1,λp5 J=>?_⟩;have D:=a8.new J (.lst [g]);have u4:=G.len;refine⟨l4,p5,_,_,U,U,SqL.of (D _ _ W),SqL.of ah,bq (m:=3000) (by rw[Qa];omega),λp6 x=>?_⟩;have M:=a8.new x (.lst (d++[g]));have ln:(bH (.rep r ds)).length=r.toNat * ((aJ ds).length+1)+1:=by rw[bH,qE,gF,qc,Qa]
  have lr:(d++[g]).length * r.toNat<=2000:=by
   rw[qc,Qa,u4,Nat.mul_comm];omega
  refine⟨_,U,p6,_,_,U,U,ah,Yo,Yo,bq (m:=3000) Yo,λp7 v=>?_⟩;have Z:=a8.new v (.lst (List.replicate r.toNat (d++[g])).flatten);have f:=(D.trans M).trans Z;refine⟨p,p7,_,_,U,U,SqL.of (f _ _ (o _ _ ah)),SqL.of ah,bq (m:=3000) ?_,λS u=>?_⟩
  .have:((List.replicate r.toNat (d++[g])).flatten).length=r.toNat * (d++[g]).length:=gF _ _;rw[Qa,this,Nat.mul_comm];omega
  .have s8:=a8.new u (.lst ([g]++(List.replicate r.toNat (d++[g])).flatten));have l:=f.trans s8;have z:cH _ g (fQ ds):=(t.same q).same (o.trans l);have sf:=(e.trans q).trans (o.trans l);refine k _ S _ sf (a8.none ((e.trans q).trans (o.trans f)) u) ah ?_;rw[bH];exact .cons z (((G.same l).app (.cons z .nil)).reps r.toNat)
theorem Dd(T:Tx P w K mg a):∀n:Nat,aM P w K mg base CX0 (2 * n+18) a.Hv a.Hw ["block"] (nB n):=by
 intro n
 induction n with
 |zero=>
  refine T.Hf.F.ok kI (by walk_at "l") λX0 A outer s H vs Q E hr h=>?_
  .obtain⟨_,_,_,_,_,_,_,h0,_⟩:=h;exact Q8 h0 (QB _)
 |succ n Z=>
  refine T.Hf.F.ok kI (by walk_at "l") λX0 A outer s H vs Q E hr h=>?_;obtain⟨X,b,ds,C,rfl,j,hb,a2,bi,a0,k⟩:=h
  refine⟨_,(ai (au (i:=1) kI.nd U Oi (ba af))
   (ai (bR PassesOwn.never U (cV (pq 0)) (aR (i:=2) kI.nd U Oi)
   (ap (aQ (aD br (ao ay (pq 2) aa Oy) aS (aG _)) (ap (bx (bF qh Qr Qq gQ (pq 1) (a9 (aF (Da T Z) (hr.mono Yo) T.Ju (a9 (ao ay (pq 2) aa Oy) (a9 (ao ay (pq 2) aa Oy) af))) af)))) (ap (bx (bF qh qy qz cC (pq 1) (a9 (aF (Dc T) (hr.mono Yo) T.Jv (a9 (pq 2) af)) af)))))))
   (ap (aE (pq 1))))),?_⟩
  walk_at "q";obtain⟨b1,b2,N,R,V,b6⟩:=id bi;obtain⟨M,G⟩:=hb;rename_i vs;have vl:=G.len;refine⟨qv _,λc B=>?_⟩;have L:=a8.new B (.lst []);have big:(10000:Nat)<sizeLine:=Yk;exists _,U,b,U,⟨_,SqL.of (L _ _ (j _ _ M))⟩;refine dG (K:=K) (a:=b) (xs:=vs) (λi Y l=>∃v us,Y=[some (.ref b),some (.ref c),v]/\a8 H l/\l c=some (.lst us)/\aU l us (aJ (ds.take i))) ⟨_,[],U,L,ah,by rw[List.take_zero,aJ];exact .nil⟩ ?_ ?_ ?_
  .rintro i Y l _ ⟨v,us,_,e,_⟩;exact SqL.of (e _ _ (j _ _ M))
  .rintro i x Y l hx ⟨v,us,rfl,e,g,o⟩;obtain⟨d,hd,t⟩:=G.at i x hx;have tk:=oY hd;have a1:=By hd;have ue:=o.len;have dp:=ya hd;obtain⟨f1,_⟩:=sI hd;by_cases nrd:∀m y,d≠.rep m y
   .obtain⟨px,r,rfl,hp⟩:=t.tuple;exists _,U,px,_,_,_,U,U,SqT.of (e _ _ (j _ _ hp)),at0,U,_,U;refine ifN (tU nrd) ?_;refine⟨_,U,.inl ⟨U,_,SqL.of g⟩,_,U,X,_,d,C,U,j.trans e,t,Yo,Yo,λq I=>N q (yp hd q I),R,V,nrd,λH3 u f J=>?_⟩;exists c,us,u,U,U,f _ _ g,Yo;exists _,us++[u],U,a8.over (e.trans f) B,ah;rw[tk,oZ nrd];exact((o.same f).off (f _ _ g)).snoc (J.off (f _ _ g))
   .cases t with
    |rep h W=>
     rename_i p y m bs _;obtain⟨r0,rb⟩:=(b6.at hd).rep;obtain⟨r1,r2⟩:=r0 m bs U;rw[ae.depth]at dp
     have S:(aj bs).length<=1000:=by
      simp only[ae.flat,qE]at f1;omega
     have cb:∀q∈cards bs,q∈C:=λq I=>N q (yp hd q (by rw[yn];simp[ae.cards,ae.names,ae.others,ae.inner,I]));refine⟨_,U,_,_,_,_,U,U,SqT.of (e _ _ (j _ _ h)),U,U,_,U,bD Yd ?_⟩;refine⟨_,U,.inl ⟨U,_,SqL.of g⟩,_,U,_,_,_,_,U,U,SqT.of (e _ _ (j _ _ h)),U,_,U,_,_,_,_,U,U,SqT.of (e _ _ (j _ _ h)),U,X,m,y,bs,C,U,r1,r2,j.trans e,W,Yo,⟨Yo,S,cb,R,V,rb⟩,Yo,λH3 l3 O f n3 h3 D=>?_⟩;have u3:=D.len;exists c,l3,_,_,U,U,f _ _ g,h3,bq (m:=9000) Yo;exists _,us++O,U,a8.over (e.trans f) B,ah;rw[tk];exact((o.same f).app D).off (f _ _ g)
    |_=>exact Q8 (λm y z=>by cases z) nrd
  .rintro Y l ⟨v,us,rfl,e,g,o⟩;rw[vl,qK]at o;exact⟨_,U,k l c us e B g o⟩
theorem Dm(T:Tx P w K mg a):aM P w K mg base CX0 45 a.Ip a.Iq ["program"] uP:=by
 refine T.Jt.F.ok vL (by walk_at "l") λ_ A outer s H vs Q E hr h=>?_;obtain⟨p,la,V,u,f,ss,ds,us,C,rfl,d,t,m,ha,X0,z,L,n,e,ra,dl,fed,k⟩:=h
 refine⟨_,(ai (aQ (aD gG (aq bK (aF (Dn T 13) (hr.mono Yk) T.He (a9 (ao ay (pq 0) aa Oy) af)) aa) (gc U T.K7 T.r_MOST_DEEDS) (aG _)) (ap wf) aZ)
  (ai (au (i:=1) vL.nd U Oi (aF (Dd T 13) (hr.mono Yk) T.Hf (a9 (ao ay (pq 0) aa Oy) af)))
  (ai (bx (bF qh qy qz cC (pq 1) (a9 (aF (pY T) (hr.mono Yk) T.Hg (a9 aS (a9 (aF (Dp T) (hr.mono Yk) T.Js (a9 (pq 0) af)) af))) af)))
  (ai (bx (aF (Do T) (hr.mono Yk) T.Jw (a9 (pq 1) af)))
  (ap (aE (pq 1))))))),?_⟩
 walk_at "q";have D:∀q∈cards ds,q∈C:=λq W=>L q (by unfold dD;simp[W]);exists _,U,p,_,_,_,U,U,SqT.of d.top,U,H,u,ds,U,a8.refl H,d.bo,Yo,ra,_,_,U,U;exists _,_,U,U,_,U;refine aL (Q7 Yo) ?_;refine⟨_,U,p,_,_,_,U,U,SqT.of d.top,U,H,u,ds,C,U,a8.refl H,d.bo,Yo,⟨t,m,D,n,e,ra⟩,Yo,λ_ l c B n1 g o=>?_⟩;have big:(10000:Nat)<sizeLine:=Yk;have Z:=o.len;refine⟨_,U,.inl ⟨U,_,SqL.of g⟩,_,U,p,la,V,u,f,ss,ds,us,C,U,d.same B,t,m,ha,X0,z,L,n,e,λ_ l2 zs y S nd X so=>?_⟩;refine⟨"end",l2,zs,U,S,λJ v G R=>?_⟩;exists l,c,v,U,U,G _ _ (y _ _ g),Yo;have b:=y.trans G;have O:=kx nd X so
 have j:aU (upd J l (.lst (c++[v]))) (c++[v]) (aJ ds++[dv f ss ds]):=by
  refine((o.same b).off (b _ _ g)).snoc ?_;unfold dv;rw[<- O];exact R.off (b _ _ g)
 have N:a8 H (upd J l (.lst (c++[v]))):=a8.over (B.trans b) n1;refine⟨_,U,l,_,_,U,ah,j,by rw[qc,Qa];omega,fed.snoc U,λr I=>?_,λM x=>?_⟩
 .rcases qi.mp I with h|h
  .exact oX ds r h
  .rw[qV.mp h];exact .inl U
 .exact⟨_,U,k M l _ (N.trans x) (x _ _ ah) (j.same x)⟩
theorem DB(T:Tx P w K mg a):aM P w K mg base CX0 1 a.IZ a.J0 ["_law_pick","_law_peak"] vi:=by
 refine T.JD.F.ok Bo (by walk_at "l") λ_ A outer s H vs Q E hr h=>?_;obtain⟨i,j,rfl,k⟩:=h
 refine⟨_,(ai (aQ (aD br (aq bf (pq 0) aa) aa (aG _)) (ap (aE (aq bK aa (aq bf (aq cT (pq 0) aa) aa)))) aZ)
  (ai (aQ (aD br (aq bf (pq 0) aa) aa (aG _)) (ap (aE (aq bK aa (aq bf (aq cT (pq 0) aa) aa)))) aZ)
  (ap (aE (aq bK aa (aq bf (aq cT (pq 0) aa) (be (yt U) U T.JK PyProof.Rows.Boot.«max» (a9 aa (a9 (pq 1) af))))))))),?_⟩
 walk_at "q";unfold jK at k;exists _,U,_,_,U,U,Yk,U,_,U;refine cX (λc=>?_) (λc=>?_)
 .rw[Q5 (dR c)]at k;exact⟨_,U,_,_,U,U,⟨Yk,Yk⟩,_,_,U,U,Yk,_,_,U,U,k⟩
 rw[Q4 (eE c)]at k;exists _,U,_,_,U,U,Yk,U,_,U;refine cX (λc=>?_) (λc=>?_)
 .rw[Q5 (dR c)]at k;exact⟨_,U,_,_,U,U,⟨Yk,Yk⟩,_,_,U,U,Yk,_,_,U,U,k⟩
 rw[Q4 (eE c)]at k;refine⟨_,U,_,_,U,U,⟨Yk,Yk⟩,_,U,1,j,U,_,_,U,U,?_,_,_,U,U,k⟩;split<;>omega
theorem Dw(T:Tx P w K mg a):aM P w K mg base CX0 1 a.IX a.IY ["_law_moves_here","_law_q"] uY:=by
 refine T.JC.F.ok fX (by walk_at "l") λ_ A outer s H vs Q E hr h=>?_;obtain⟨l,us,ms,q,rfl,hl,d,_,k⟩:=h
 refine⟨_,(ai (au (i:=2) fX.nd U Oi aa)
  (ai (au (i:=3) fX.nd U Oi aa)
  (ai (au (i:=4) fX.nd U Oi aa)
  (ai (bR PassesOwn.never U (cV (pq 0)) (fu U (cE (aR (i:=5) fX.nd U Oi) (cE (aR (i:=6) fX.nd U Oi) fq)))
  (ap (aQ (aD br (pq 6) (pq 1) (aG _)) (ai (au (i:=2) fX.nd U Oi (aq bK (pq 2) (i4 (aD br (pq 5) aS (aG _)) aa (d8 cY aa))))
  (ai (au (i:=3) fX.nd U Oi (be (yr U) U T.JL PyProof.Rows.Boot.«min» (a9 (pq 3) (a9 (pq 2) af))))
  (ap (au (i:=4) fX.nd U Oi (be (yt U) U T.JK PyProof.Rows.Boot.«max» (a9 (pq 4) (a9 (pq 2) af))))))) aZ)))
  (ap (aE (bA (a9 (d8 cY (pq 3)) (a9 (aq kW (pq 4) (pq 3)) af))))))))),?_⟩
 walk_at "q";have j:=d.len;exists _,U,l,U,⟨_,SqL.of hl⟩;refine dG (K:=K) (a:=l) (xs:=us) (λi Y b=>b=H/\∃v c,Y=[some (.ref l),some (.str q),some (.int (aW q (ms.take i)).1),some (.int (aW q (ms.take i)).2.1),some (.int (aW q (ms.take i)).2.2),v,c]) ⟨U,_,_,U⟩ ?_ ?_ ?_
 .rintro i Y b _ ⟨rfl,_⟩;exact SqL.of hl
 .rintro i x Y b n ⟨rfl,v,c,rfl⟩;obtain⟨p,m,rfl,f,g⟩:=d.at i x n;have tk:ms.take (i+1)=ms.take i++[m]:=by rw[qu,f];rfl
  exists p,_,U,SqT.of g,U,_,_,U,_,_,U,U;exists _,U,_,U,U,_,U;rw[tk,pk];unfold d5 fZ;by_cases e:m.2=q
  .rw[Q5 e];refine bD (by rw[e];simp) ?_;exists _,U,_,U,U,_,U;by_cases e2:m.1="put"
   .simp only[Q5 e2];refine bD (by rw[e2];simp) ?_;exact⟨_,_,U,U,_,U,_,U,_,_,U,_,U,_,U,_,_,U,U,_,_,U⟩
   .simp only[Q4 e2];refine aL (by simp[e2]) ?_;exact⟨1,U,_,_,U,U,_,U,_,U,_,_,U,_,U,_,U,_,_,U,U,_,_,U⟩
  .rw[Q4 e];exact aL (by simp[e]) ⟨U,_,_,U⟩
 .rintro Y b ⟨rfl,v,c,rfl⟩;rw[j,qK];exact⟨_,U,_,U,_,U,_,U,_,_,U,U,ln2,k⟩
theorem DA(T:Tx P w K mg a):∀n:Nat,aM P w K mg base CX0 (n+1) a.IV a.IW ["_law_block_here"] (vf n):=by
 intro n
 induction n with
 |zero=>
  refine T.Hh.F.ok iK (by walk_at "l") λa1 A outer s H vs Q E hr h=>?_
  .obtain⟨_,_,_,_,_,_,h0,_⟩:=h;exact Q8 h0 (QB _)
 |succ n ih=>
 refine T.Hh.F.ok iK (by walk_at "l") λa1 A outer s H vs Q E hr h=>?_;obtain⟨H0,b,ds,rfl,f,hb,a4,ra,dl,k⟩:=h
 refine⟨_,(ai (au (i:=1) iK.nd U Oi (ba af))
  (ai (bR PassesOwn.never U (cV (pq 0)) (aR (i:=2) iK.nd U Oi)
  (ai (aQ (PW.pt (iT (aD br (ao ay (pq 2) aa Oy) aS (aG _)) (kX (aD br (ao ay (pq 2) aa Oy) aS (aG _))))) (ap (bx (bF qh qy qz cC (pq 1) (a9 (bA (a9 (ao ay (pq 2) aa Oy) (a9 (ao ay (pq 2) aa Oy) af))) af)))) aZ)
  (ap (aQ (PW.pt (fL (aD br (ao ay (pq 2) aa Oy) aS (aG _)) (gH (aD gG (ao ay (pq 2) aa Oy) aa (aG _))))) (ai (au (i:=3) iK.nd U Oi (aF ih (hr.mono Yo) T.Hh (a9 (ao ay (pq 2) aa Oy) af)))
  (ap (bR PassesOwn.never U (g9 U T.om (a9 (ao ay (pq 2) aa Oy) af)) (aR (i:=4) iK.nd U Oi)
  (ap (bx (bF qh Qr Qq gQ (pq 1) (a9 (pq 3) af))))))) aZ))))
  (ap (aE (pq 1))))),?_⟩
 walk_at "q";obtain⟨Z,R⟩:=hb;rename_i vs;have vl:=R.len;refine⟨qv _,λc J=>?_⟩;have X0:=a8.new J (.lst []);exists _,U,b,U,⟨_,SqL.of (X0 _ _ (f _ _ Z))⟩;refine dG (K:=K) (a:=b) (xs:=vs) (λi Y C=>∃v M G us,Y=[some (.ref b),some (.ref c),v,M,G]/\a8 H C/\C c=some (.lst us)/\RMs C us (bB (ds.take i))) ⟨_,_,_,[],U,X0,ah,by rw[List.take_zero,bB];exact .nil⟩ ?_ ?_ ?_
 .rintro i Y C _ ⟨v,M,G,us,_,e,_⟩;exact SqL.of (e _ _ (f _ _ Z))
 .rintro i x Y C hx ⟨v,M,G,us,rfl,e,g,o⟩;obtain⟨d,hd,a2⟩:=R.at i x hx;have tk:=wZ hd;have a3:=E4 hd;have ul:=o.len;rw[tk];have big:(10000:Nat)<sizeLine:=Yk
  cases a2 with
  |put h=>
   rename_i p q x;exists _,U,_,_,_,_,U,U,SqT.of (e _ _ (f _ _ h)),U,U,_,U;refine bD Yd (bD U ?_);refine⟨_,U,.inl ⟨U,_,SqL.of g⟩,_,U,_,_,_,_,U,U,SqT.of (e _ _ (f _ _ h)),U,_,U,_,_,_,_,U,U,SqT.of (e _ _ (f _ _ h)),U,ln2,λy r=>?_⟩;have l:=a8.new r (.tup [V.str "put",V.str q]);exists c,us,.ref y,U,U,l _ _ g,Yo;have B:a8 H (upd (upd C y (.tup [V.str "put",V.str q])) c (.lst (us++[.ref y]))):=a8.over (e.trans l) J;refine⟨_,U,_,_,_,_,U,U,SqT.of (B _ _ (f _ _ h)),U,U,_,U,aL Yd (aL U ?_)⟩;exists _,_,_,us++[.ref y],U,B,ah;rw[cA];refine((o.same l).off (l _ _ g)).snoc (m:=("put",q)) ?_;rw[ag (λz=>by rw[z,g]at r;cases r)];exact ah
  |get h=>
   rename_i p q x;exists _,U,_,_,_,_,U,U,SqT.of (e _ _ (f _ _ h)),U,U,_,U;refine aL Yd ?_;exists _,U,_,_,_,_,U,U,SqT.of (e _ _ (f _ _ h)),U,U,_,U;refine bD Yd ?_;refine⟨_,U,.inl ⟨U,_,SqL.of g⟩,_,U,_,_,_,_,U,U,SqT.of (e _ _ (f _ _ h)),U,_,U,_,_,_,_,U,U,SqT.of (e _ _ (f _ _ h)),U,ln2,λy r=>?_⟩;have l:=a8.new r (.tup [V.str "get",V.str q]);exists c,us,.ref y,U,U,l _ _ g,Yo;have B:a8 H (upd (upd C y (.tup [V.str "get",V.str q])) c (.lst (us++[.ref y]))):=a8.over (e.trans l) J;refine⟨_,U,_,_,_,_,U,U,SqT.of (B _ _ (f _ _ h)),U,U,_,U,aL Yd (aL U ?_)⟩;exists _,_,_,us++[.ref y],U,B,ah;rw[cA];refine((o.same l).off (l _ _ g)).snoc (m:=("get",q)) ?_;rw[ag (λz=>by rw[z,g]at r;cases r)];exact ah
  |set h=>
   exists _,U,_,_,_,_,U,U,SqT.of (e _ _ (f _ _ h)),U,U,_,U;refine aL Yd ?_;exists _,U,_,_,_,_,U,U,SqT.of (e _ _ (f _ _ h)),U,U,_,U;refine aL Yd ?_;exists _,U,_,_,_,_,U,U,SqT.of (e _ _ (f _ _ h)),U,U,_,U;refine aL Yd (aL U ?_);exact⟨_,_,_,us,U,e,g,by simpa[cA]using o⟩
  |give h=>
   exists _,U,_,_,_,_,U,U,SqT.of (e _ _ (f _ _ h)),U,U,_,U;refine aL Yd ?_;exists _,U,_,_,_,_,U,U,SqT.of (e _ _ (f _ _ h)),U,U,_,U;refine aL Yd ?_;exists _,U,_,_,_,_,U,U,SqT.of (e _ _ (f _ _ h)),U,U,_,U;refine aL Yd (aL U ?_);exact⟨_,_,_,us,U,e,g,by simpa[cA]using o⟩
  |cond h _ _=>
   exists _,U,_,_,_,_,U,U,SqT.of (e _ _ (f _ _ h)),U,U,_,U;refine aL Yd ?_;exists _,U,_,_,_,_,U,U,SqT.of (e _ _ (f _ _ h)),U,U,_,U;refine aL Yd ?_;exists _,U,_,_,_,_,U,U,SqT.of (e _ _ (f _ _ h)),U,U,_,U;refine aL Yd (aL U ?_);exact⟨_,_,_,us,U,e,g,by simpa[cA]using o⟩
  |whl h _=>
   exists _,U,_,_,_,_,U,U,SqT.of (e _ _ (f _ _ h)),U,U,_,U;refine aL Yd ?_;exists _,U,_,_,_,_,U,U,SqT.of (e _ _ (f _ _ h)),U,U,_,U;refine aL Yd ?_;exists _,U,_,_,_,_,U,U,SqT.of (e _ _ (f _ _ h)),U,U,_,U;refine aL Yd (aL U ?_);exact⟨_,_,_,us,U,e,g,by simpa[cA]using o⟩
  |rep h a0=>
   rename_i p bb m bs;obtain⟨r0,rb⟩:=(ra.at hd).rep;obtain⟨r1,r2⟩:=r0 m bs U;have dd:=mD hd;rw[ae.depth]at dd;have ml:(cA (.rep m bs)).length=m.toNat * (bB bs).length:=by rw[cA,gF]
   exists _,U,_,_,_,_,U,U,SqT.of (e _ _ (f _ _ h)),U,U,_,U;refine aL Yd ?_;exists _,U,_,_,_,_,U,U,SqT.of (e _ _ (f _ _ h)),U,U,_,U;refine aL Yd ?_;exists _,U,_,_,_,_,U,U,SqT.of (e _ _ (f _ _ h)),U,U,_,U;refine bD Yd ?_;exists _,U,_,_,_,_,U,U,SqT.of (e _ _ (f _ _ h)),U,_,_,U,U,_,U;refine cX (λW=>?_) (λW=>?_)
   .have mp:0<m:=Qg W
    have bl:(bB bs).length<=1000:=by
     have:1 * (bB bs).length<=m.toNat * (bB bs).length:=Nat.mul_le_mul_right _ Yo;omega
    refine⟨_,U,_,_,_,_,U,U,SqT.of (e _ _ (f _ _ h)),U,H0,bb,bs,U,f.trans e,a0,Yo,rb,bl,λH3 N L l n3 h3 r3=>?_⟩;have nl:N≠c:=λz=>by rw[z,g]at n3;cases n3
    have u3:=r3.len;have O:=e.trans l;exists _,U,_,_,_,_,U,U,SqT.of (O _ _ (f _ _ h)),U,_,U,Yo,Yo;refine j5 (λj Y D=>∃v,Y=[some (.ref b),some (.ref c),some (.ref p),some (.ref N),v]/\a8 H D/\D N=some (.lst L)/\RMs D L (bB bs)/\∃t,D c=some (.lst t)/\RMs D t (bB (ds.take i)++reps j (bB bs))) ⟨_,U,O,h3,r3,us,l _ _ g,by rw[vQ,qA];exact o.same l⟩ ?_ ?_
    .rintro j Y D hj ⟨v,rfl,B,S,X,t,u,I⟩;have u4:=I.len;rw[qc,gF]at u4;have jl:j * (bB bs).length<=m.toNat * (bB bs).length:=Nat.mul_le_mul_right _ Yo;exists _,U,.inl ⟨U,_,SqL.of u⟩,_,U,c,N,_,_,U,U,u,S,bq (m:=9000) Yo;exists _,U,a8.over B J,by rw[ag nl];exact S,X.off u,t++L,ah;rw[BF,<- qQ];exact(I.app X).off u
    .rintro Y D ⟨v,rfl,B,S,X,t,u,I⟩;exists _,_,_,t,U,B,u;rw[cA];exact I
   .have mz:m.toNat=0:=by
     have:=W;simp at this;omega
    exists _,_,_,us,U,e,g;rwa[cA,mz,vQ,qA]
 .rintro Y C ⟨v,M,G,us,rfl,e,g,o⟩;rw[vl,qK]at o;exact⟨_,U,k C c us e J g o⟩
theorem l9(c:Int)(n:Nat):(cD c n).length=n:=by
 unfold cD;split
 .rw[List.length_reverse,jB]
 .exact jB c n
theorem Ga(ns:LI):eT (ns.map V.int) (some 3) (some 63)=(eU ns 3 63).map V.int:=by
 unfold eT eU;have a:HT.sIx (ns.map V.int).length 0 (some 3)=min 3 ns.length:=by rw[qa];exact HT.sIx_nat _ _ 3
 have b:HT.sIx (ns.map V.int).length (ns.map V.int).length (some 63)=min 63 ns.length:=by rw[qa];exact HT.sIx_nat _ _ 63
 rw[a,b,List.map_take,List.map_drop]
seal cD
theorem Dx(T:Tx P w K mg a):aM P w K mg base CX0 16 a.J1 a.J2 ["_law_script","_law_most"] (uZ K):=by
 refine T.JE.F.ok dC (by walk_at "l") λf1 A outer s H vs Q E hr h=>?_;obtain⟨l,ns,rfl,hl,e8,f2,c5,ml,d6,q⟩:=h;have bl:(aX ns).length<=60:=qC (rR _) d6
 refine⟨_,(ai (au (i:=2) dC.nd U Oi (aF (lF T) (hr.mono Yk) T.wS (a9 (pq 0) (a9 aa af))))
  (ai (au (i:=3) dC.nd U Oi (aF (lF T) (hr.mono Yk) T.wS (a9 (pq 0) (a9 aa af))))
  (ai (au (i:=4) dC.nd U (Or.inr U) (aF (lF T) (hr.mono Yk) T.wS (a9 (pq 0) (a9 aa af))))
  (ai (au (i:=5) dC.nd U (Or.inr U) (aF (wG T) (hr.mono Yk) T.HC (a9 (pq 2) (a9 (aq bK aa (aq bf (aF (fN T) (hr.mono Yk) T.mt (a9 (pq 3) (a9 aa af))) aa)) af))))
  (ai (au (i:=6) dC.nd U Oi (gb kA (pq 5) hZ (fk (d8 cY aa))))
  (ai (au (i:=7) dC.nd U Oi (aF (wG T) (hr.mono Yk) T.HC (a9 (i4 (aD br (aq bf (aF (fN T) (hr.mono Yk) T.mt (a9 (pq 3) (a9 aa af))) aa) aa (aG _)) (pq 2) (pq 3)) (a9 (be (yr U) U T.JL PyProof.Rows.Boot.«min» (a9 aa (a9 (aq bf (aF (fN T) (hr.mono Yk) T.mt (a9 (pq 3) (a9 aa af))) aa) af))) af))))
  (ai (au (i:=8) dC.nd U Oi (aF (DF T) (hr.mono Yk) T.JB (a9 (gb kA (pq 0) (fk aa) (fk aa)) (a9 (pq 6) (a9 (pq 7) (a9 (pq 1) (a9 aa af)))))))
  (ai (au (i:=9) dC.nd U Oi (aF (DA T 13) (hr.mono Yk) T.Hh (a9 (pq 8) af)))
  (ai (au (i:=10) dC.nd U Oi (ba af))
  (ai (au (i:=11) dC.nd U Oi (ba af))
  (ai (bR PassesOwn.never U (g9 U T.om (a9 (be bT U T.f8 Qb (a9 (pq 7) af)) af)) (aR (i:=12) dC.nd U Oi)
  (ai (jz (aF (Dw T) (hr.mono Yk) T.JC (a9 (pq 9) (a9 (ao aK (pq 7) (pq 12) Oy) af))) (fu U (cE (aR (i:=13) dC.nd U Oi) (cE (aR (i:=14) dC.nd U Oi) fq))))
  (ai (bx (bF qh Qr Qq gQ (pq 10) (a9 (aq wA (ba (a9 (bA (a9 aS (a9 (ao aK (pq 7) (pq 12) Oy) (a9 (ao aK (pq 6) (aq bf (pq 12) (be bT U T.f8 Qb (a9 (pq 6) af))) Oy) af)))) af)) (pq 13)) af)))
  (ap (bx (bF qh qy qz cC (pq 11) (a9 (bA (a9 (ao aK (pq 7) (pq 12) Oy) (a9 (aF (DB T) (hr.mono Yk) T.JD (a9 (aF (fN T) (hr.mono Yk) T.mt (a9 (pq 4) (a9 (aq bK (pq 12) aa) af))) (a9 (pq 14) af))) af))) af)))))))
  (ai (kZ (i:=15) dC.nd U Oi (k:=1) (Nc:=["_law_k","_law_words","_law_third"]) (js:=[5,4]) (show bL (aH kP) ["_law_script","_law_most","_law_first","_law_second","_law_third","_law_words","_law_names","_law_rooms","_law_body","_law_moves_here","_law_front","_law_stores","_law_k","_law_lacking","_law_peak","_law_asks"] _ 1 ["_law_k","_law_words","_law_third"] [5,4]from bL.mk U (by decide +kernel) (by decide +kernel) (by decide +kernel) U (by decide +kernel)) U (g9 U T.om (a9 (be bT U T.f8 Qb (a9 (pq 5) af)) af)) (λ_ _ _ _ _=>(aR (i:=0) (show List.Nodup (["_law_k","_law_words","_law_third"]:LS)from by decide +kernel) U Oi)) (λ_ _ _ _ _=>(pM (aD br (aq bf (aF (fN T) (hr.mono Yk) T.mt (a9 (pq 2) (a9 (aq bK (pq 0) aa) af))) aa) aa (aG _)))) (λ_ _ _ _ _=>(ao (C3 (K:=K) U) (pq 1) (pq 0) Oy)))
  (ap (aE (bA (a9 (pq 15) (a9 (pq 11) (a9 (aq hJ (pq 10) (pq 8)) af)))))))))))))))))),?_⟩
 walk_at "q";have e0:(0:Int).toNat=0:=U;have e1:(1:Int).toNat=1:=U;have e2:(2:Int).toNat=2:=U;exists _,U,l,ns,0,U,hl,Yo,Yk;exists _,U,l,ns,1,U,hl,Yo,Yk;exists _,U,l,ns,2,U,hl,Yo,Yk;rw[e0,e1,e2];have a0:=jF (ns.getD 1 0) 1;have a3:=jF (ns.getD 1 0) 3;have wl:(bQ ns).length=(2+aA (ns.getD 1 0) 1 % 4).toNat:=l9 _ _;have nl:(bN ns).length=(bQ ns).length-1:=QD;have rl:(aC ns).length=(if aA (ns.getD 1 0) 3 % 5<3 then aA (ns.getD 1 0) 3 % 5 else 3).toNat:=l9 _ _;have c7:(aC ns).length<=3:=by rw[rl];split<;>omega
 have cl:(eU ns 3 63).length<=100:=by unfold eU;rw[qN];omega
 refine⟨_,U,_,U,_,1,U,Yk,Yk,_,_,U,U,Yk,_,_,U,U,_,_,U,Yo,Yo,λH2 S s2 e4 d9=>?_⟩;have r:H2 S=some (.lst ((bQ ns).map V.str)):=d9;refine⟨_,U,_,U,_,U,S,_,U,SqL.of r,λc2 c1=>?_⟩;rw[Gb (bQ ns) Yo];have b7:a8 H2 (upd H2 c2 (.lst ((bQ ns).dropLast.map V.str))):=a8.new c1 _;have b5:(upd H2 c2 (.lst ((bQ ns).dropLast.map V.str))) c2=some (.lst ((bN ns).map V.str)):=ah;have b4:=s2.trans b7;have r:=b7 _ _ r;generalize upd H2 c2 (.lst ((bQ ns).dropLast.map V.str))=H2' at b5 b4 r ⊢;exists _,U,_,2,U,Yk,Yk,_,_,U,U,Yk,U,_,U;refine ES U U ?_;refine⟨_,U,_,3,U,Yk,Yk,_,_,U,U,Yk,3,_,U,_,_,U,by split<;>omega,by split<;>omega,λH3 I s3 e5 M=>?_⟩
 have M:H3 I=some (.lst ((aC ns).map V.str)):=by
  rw[M];unfold aC
  congr 5
  exact propext ⟨dR,λz=>by rw[z];rfl⟩
 have a7:=b4.trans s3;have c6:=s3 _ _ r;have b0:=s3 _ _ b5;refine⟨_,U,_,U,_,U,l,_,U,a7.seq hl,λc hc=>?_⟩;rw[Ga];have sc:a8 H3 (upd H3 c (.lst ((eU ns 3 63).map V.int))):=a8.new hc _;refine⟨_,U,_,U,_,U,c,c2,I,eU ns 3 63,bN ns,aC ns,1,7,U,SqL.of ah,SqL.of (sc _ _ b0),SqL.of (sc _ _ M),cl,Yo,Yo,Yo,Yk,Yk,λH4 b s4 nb hb=>?_⟩;have N:=sc.trans s4;have c0:=N _ _ c6;have c3:=N _ _ b0;have O:=N _ _ M;have c9:=a7.trans N;refine⟨_,U,H4,b,aX ns,U,a8.refl _,hb,Yo,c5,qC ml Yk,λH5 lm d5 B e' c4 d7=>?_⟩;refine⟨qv _,λy W=>⟨qv _,λC L=>?_⟩⟩;have a4:y≠C:=λz=>by rw[z,ah]at L;cases L
 have s7:a8 H5 (upd (upd H5 y (.lst [])) C (.lst [])):=(a8.new W _).trans (a8.new L _);have d2:H5 C=none:=a8.none (a8.new W _) L;have d3:(((aC ns).map V.str).length:Int).toNat=(aC ns).length:=by simp
 have lw:(((bQ ns).map V.str).length:Int).toNat=(bQ ns).length:=by simp
 have f3:((bQ ns).map V.str).length=(bQ ns).length:=qa _;have e9:((aC ns).map V.str).length=(aC ns).length:=qa _;have big:(10000:Nat)<sizeLine:=Yk;exists _,U,I,_,U,.inl (SqL.of (s7 _ _ (B _ _ O))),_,U,Yo,Yo;rw[d3];refine j5 (λi Y H6=>∃v v' X0 fs ss,Y=[some (.ref l),some (.int 1),some (.int (ns.getD 0 0)),some (.int (ns.getD 1 0)),some (.int (ns.getD 2 0)),some (.ref S),some (.ref c2),some (.ref I),some (.ref b),some (.ref lm),some (.ref y),some (.ref C),v,v',X0,none]/\a8 H5 H6/\H6 y=some (.lst fs)/\RPs H6 fs (ic (aC ns) (bN ns) (bg ns) i)/\H6 C=some (.lst ss)/\RSs H6 ss (eh (aC ns) (ns.getD 2 0) (bg ns) i)) ⟨_,_,_,[],[],U,s7,by rw[ag a4];exact ah,.nil,ah,.nil⟩ ?_ ?_
 .rintro i Y H6 hi ⟨v,v',X0,fs,ss,rfl,t,hf,R,hs,rs⟩;rw[Int.zero_add];have e:atI ((aC ns).map V.str) (i:Int)=some (.str ((aC ns).getD i (">":Str))):=yH hi;have en:atI ((bN ns).map V.str) ((i:Int) % (((bN ns).map V.str).length:Int))=some (.str (nth (bN ns) (i:Int))):=i8 Yo _;have f0:((bN ns).map V.str).length=(bN ns).length:=qa _;have fl:=R.len;have sl:=rs.len;rw[ni]at sl
  have fm:(ic (aC ns) (bN ns) (bg ns) i).length<=720:=by
   have h1:=me (aC ns) (bN ns) (bg ns) i;rw[<- mf,qa]at h1;have:i * (bg ns).length<=3 * 240:=Nat.mul_le_mul Yo ml;omega
  have lk:=xC ((aC ns).getD i (">":Str)) (bg ns);have e6:=kU ((aC ns).getD i (">":Str)) (bg ns);refine⟨_,U,_,U,_,U,I,_,_,_,U,U,SqL.of (t _ _ (B _ _ O)),e,lm,d5,bg ns,_,U,t _ _ c4,d7.same t,Yo,λpr e3=>⟨pr,_,U,SqT.of ah,U,_,_,U,_,_,U,U,?_⟩⟩;have n:=a8.new e3 (.tup [.int (-(aW ((aC ns).getD i (">":Str)) (bg ns)).2.1),.int ((aW ((aC ns).getD i (">":Str)) (bg ns)).2.2-(aW ((aC ns).getD i (">":Str)) (bg ns)).2.1)]);have J:=t.trans n;have b8:=J _ _ (B _ _ O);have a2:=J _ _ (B _ _ c3);have x:=n _ _ hf;have a6:=n _ _ hs;have b3:=R.same n;have b2:=rs.same n;generalize upd H6 pr (.tup [.int (-(aW ((aC ns).getD i (">":Str)) (bg ns)).2.1),.int ((aW ((aC ns).getD i (">":Str)) (bg ns)).2.2-(aW ((aC ns).getD i (">":Str)) (bg ns)).2.1)])=H7 at J b8 a2 x a6 b3 b2 ⊢;clear n hf hs R rs;refine⟨_,U,.inl ⟨U,_,SqL.of x⟩,_,U,_,U,I,_,_,_,U,U,SqL.of b8,e,_,U,_,U,_,U,c2,_,U,.inl (SqL.of a2),_,_,U,U,Yo,c2,_,_,_,U,U,SqL.of a2,en,ln3,λpt d'=>⟨ln1,λpl d1=>?_⟩⟩;have st:=a8.new d' (.tup [.str "put",.str ((aC ns).getD i (">":Str)),.str (nth (bN ns) (i:Int))]);have b1:=a8.new d1 (.lst [.ref pt]);refine⟨_,U,pl,_,_,U,U,ah,Yo,Yo,by show 1 * fP _ _<=_;omega,λpq a'=>?_⟩;rw[Fv];have d:=(st.trans b1).trans (a8.new a' (.lst (List.replicate (-(aW ((aC ns).getD i (">":Str)) (bg ns)).2.1).toNat (.ref pt))));exists y,pq,_,_,U,U,d _ _ x,ah,bq (m:=9000) (by rw[List.length_replicate];show fs.length+fP _ _<=_;omega);have c8:=(b1.trans (a8.new a' (.lst (List.replicate (-(aW ((aC ns).getD i (">":Str)) (bg ns)).2.1).toNat (.ref pt))))) _ _ (ah (H:=H7) (a:=pt) (o:=.tup [.str "put",.str ((aC ns).getD i (">":Str)),.str (nth (bN ns) (i:Int))]));have G:=a8.over (o:=.lst (fs++List.replicate (-(aW ((aC ns).getD i (">":Str)) (bg ns)).2.1).toNat (.ref pt))) (J.trans d) W;have a1:RPs _ _ (ic (aC ns) (bN ns) (bg ns) (i+1)):=((b3.same d).app (RPs.rep (m:=((aC ns).getD i (">":Str),nth (bN ns) (i:Int))) c8 (fP ((aC ns).getD i (">":Str)) (bg ns)))).off (o:=.lst (fs++List.replicate (-(aW ((aC ns).getD i (">":Str)) (bg ns)).2.1).toNat (.ref pt))) (d _ _ x);have Z:=(b2.same d).off (o:=.lst (fs++List.replicate (-(aW ((aC ns).getD i (">":Str)) (bg ns)).2.1).toNat (.ref pt))) (d _ _ x);have g:=(ag (H:=(upd (upd (upd H7 pt (.tup [.str "put",.str ((aC ns).getD i (">":Str)),.str (nth (bN ns) (i:Int))])) pl (.lst [.ref pt])) pq (.lst (List.replicate (-(aW ((aC ns).getD i (">":Str)) (bg ns)).2.1).toNat (.ref pt))))) (o:=.lst (fs++List.replicate (-(aW ((aC ns).getD i (">":Str)) (bg ns)).2.1).toNat (.ref pt))) (Ne.symm a4)).trans (d _ _ a6);have a5:=ah (H:=(upd (upd (upd H7 pt (.tup [.str "put",.str ((aC ns).getD i (">":Str)),.str (nth (bN ns) (i:Int))])) pl (.lst [.ref pt])) pq (.lst (List.replicate (-(aW ((aC ns).getD i (">":Str)) (bg ns)).2.1).toNat (.ref pt))))) (a:=y) (o:=.lst (fs++List.replicate (-(aW ((aC ns).getD i (">":Str)) (bg ns)).2.1).toNat (.ref pt)));generalize upd (upd (upd (upd H7 pt (.tup [.str "put",.str ((aC ns).getD i (">":Str)),.str (nth (bN ns) (i:Int))])) pl (.lst [.ref pt])) pq (.lst (List.replicate (-(aW ((aC ns).getD i (">":Str)) (bg ns)).2.1).toNat (.ref pt)))) y (.lst (fs++List.replicate (-(aW ((aC ns).getD i (">":Str)) (bg ns)).2.1).toNat (.ref pt)))=H10 at G a1 Z g a5 ⊢;refine⟨_,U,.inl ⟨U,_,SqL.of g⟩,_,U,_,U,I,_,_,_,U,U,SqL.of (G _ _ (B _ _ O)),e,_,U,_,U,_,_,U,U,_,_,U,Yo,Yo,_,U,_,_,U,ln2,λpz j=>?_⟩;exists C,ss,.ref pz,U,U,a8.new j _ _ _ g,Yo;refine⟨_,_,_,_,ss++[.ref pz],U,a8.over (G.trans (a8.new j _)) d2,?_,(a1.same (a8.new j _)).off (a8.new j _ _ _ g),ah,?_⟩
  .rw[ag a4];exact a8.new j _ _ _ a5
  .exact((Z.same (a8.new j _)).snoc ah).off (a8.new j _ _ _ g)
 .rintro Y H6 ⟨v,v',X0,fs,ss,rfl,t,hf,R,hs,rs⟩;exists _,U,S,_,U,.inl (SqL.of (t _ _ (B _ _ c0))),_,U,Yo,Yo;rw[lw];refine yh (λi ys Y X=>(∃v,Y=[v,some (.ref S),some (.int (ns.getD 2 0))])/\a8 H6 X/\ys=(eV (bQ ns) (ns.getD 2 0) i).map V.str) ⟨⟨none,U⟩,a8.refl _,U⟩ ?_ (bq (m:=100) Yo) ?_ ?_
  .rintro i ys Y X _ ⟨_,_,rfl⟩;rw[qa];exact tm _ _ _
  .rintro i ys Y X hi ⟨⟨v,rfl⟩,d,rfl⟩;exists _,U,_,U,_,_,U,U,_,_,U,Yo,Yo,_,_,U,U,Yk,U,_,U;refine cX (λD=>?_) (λD=>?_)
   .have D:=dR D;exists _,U,_,U,S,_,_,_,U,U,SqL.of (d _ _ (t _ _ (B _ _ c0))),yH hi,⟨_,U⟩,d;rw[eV,Q5 D];simp
   .have D:=eE D;exists ⟨_,U⟩,d;rw[eV,Q4 D];simp
  rintro ys e7 X ⟨_,d,rfl⟩ la c';have u:=d.trans (a8.new c' (.lst ((eV (bQ ns) (ns.getD 2 0) (bQ ns).length).map V.str)));obtain⟨hv,b6⟩:=hb;rename_i b';have sb:a8 H4 (upd X la (.lst ((eV (bQ ns) (ns.getD 2 0) (bQ ns).length).map V.str))):=B.trans (t.trans u);have bv:b'.length=(aX ns).length:=b6.len;have fl:=R.len
  have fm:(ic (aC ns) (bN ns) (bg ns) (aC ns).length).length<=720:=by
   have h1:=me (aC ns) (bN ns) (bg ns) (aC ns).length;rw[<- mf,qa]at h1;have:(aC ns).length * (bg ns).length<=3 * 240:=Nat.mul_le_mul c7 ml;omega
  refine⟨_,U,_,U,_,U,_,U,y,b,_,_,U,U,SqL.of (u _ _ hf),SqL.of (sb _ _ hv),bq (m:=9000) Yo,λpb d0=>⟨ln3,λp hp=>?_⟩⟩;have d4:=a8.new d0 (.lst (fs++b'));have b9:=a8.new hp (.tup [.ref la,.ref C,.ref pb]);have f:=d4.trans b9;refine q _ p la C pb ss ((c9.trans sb).trans f) ⟨ah,f _ _ ah,f _ _ (u _ _ hs),rs.same (u.trans f),.mk (b9 _ _ ah) (RDs.app ?_ (RDs.same (sb.trans f) b6))⟩;have:=(R.same (u.trans f)).rds;rw[mf]at this;exact this
theorem wC(T:Tx P w K mg a):aM P w K mg base CX0 1 a.HL a.HM ["cards","kind","owners"] uF:=by
 refine T.Hy.F.ok Bf (by walk_at "l") λ_ A outer s H vs Q E hr h=>?_;obtain⟨p,d,m,kd,j,ow,rfl,y,hd,B,hl,k⟩:=h;exists _,(ap (aE (i5 (k:=1) (Nc:=["card","kind","owners"]) (js:=[1,2]) (show bL (aH kM) ["cards","kind","owners"] _ 1 ["card","kind","owners"] [1,2]from bL.mk U (by decide +kernel) (by decide +kernel) (by decide +kernel) U (by decide +kernel)) U (i3 (pq 0)) (λ_ _ _ _ _=>(aR (i:=0) (show List.Nodup (["card","kind","owners"]:LS)from by decide +kernel) U Oi)) (λ_ _ _ _ _=>(pM (aD D2 (pq 0) (pq 2) (by with_unfolding_all rfl)))) (λ_ _ _ _ _=>(bA (a9 (ao EQ (pq 2) (pq 0) Oy) (a9 (pq 1) (a9 (pq 0) af))))))));walk_at "q";have big:(10000:Nat)<sizeLine:=Yk;exists _,U,p,U,⟨_,SqT.of y⟩;refine sS (K:=K) (a:=p) (xs:=m.map V.str) (λi ys Y o=>a8 H o/\(∃u,Y=[u,some (.str kd),some (.ref d)])/\RWs o ys (dH ow kd (m.take i))) ⟨a8.refl _,⟨_,U⟩,.nil⟩ ?_ (by rw[qa];omega) ?_ ?_ ?_
 .rintro i ys Y o _ ⟨_,_,f⟩;have:=iu ow kd (m.take i);rw[f.len];rw[qN]at this;omega
 .rintro i ys Y o ⟨b,_⟩;exact SqT.of (b _ _ y)
 .rintro i x ys Y o t ⟨b,⟨u,rfl⟩,f⟩;rw[qH]at t
  cases e:m[i]? with
  |none=>rw[e]at t;cases t
  |some c=>
   rw[e]at t;obtain rfl:V.str c=x:=qM t;have tk:m.take (i+1)=m.take i++[c]:=by rw[qu,e];rfl
   rw[tk,Gx];have v:=B c;exists _,U,_,U,d,j,.inr c,U,b _ _ hd,U
   cases eo:ow c with
   |none=>
    rw[eo]at v;have g:aI j (.inr c)=none:=v;rw[g];exists _,U;rw[Q4 (show ¬ (none:LC).isSome=true from λh=>nomatch h)];exact⟨b,⟨_,U⟩,by rwa[Option.map_none,Option.toList_none,qA]⟩
   |some n=>
    rw[eo]at v;have g:aI j (.inr c)=some (.int n):=v;rw[g];exists _,U;rw[Q5 (show(some (V.int n)).isSome=true from rfl)];exists _,U,_,U,d,j,.inr c,.int n,U,b _ _ hd,U,g;refine⟨_,U,_,U,ln3,λq z=>?_⟩;exact⟨b.trans (a8.new z _),⟨_,U⟩,(f.same (a8.new z _)).snoc (e:=(n,kd,c)) ah⟩
 .rintro ys Y o ⟨b,_,f⟩ l r;rw[qa,qK]at f;exact k _ l ys (b.trans (a8.new r _)) (b.free r) ah (f.same (a8.new r _))
theorem Df(T:Tx P w K mg a):aM P w K mg base CX0 2 a.HJ a.HK ["deeds"] uE:=by
 refine T.Jl.F.ok iI (by walk_at "l") λ_ A outer s H vs Q E hr h=>?_;obtain⟨l,us,rs,rfl,hl,a5,_,a4,k⟩:=h
 refine⟨_,(ai (au (i:=1) iI.nd U Oi gK)
  (ai (au (i:=2) iI.nd U Oi (ba af))
  (ai (bR PassesOwn.never U (lB U T.Hi (a9 (pq 0) af)) (fu U (cE (aR (i:=3) iI.nd U Oi) (cE (aR (i:=4) iI.nd U Oi) fq)))
  (ai (bx (bF qh qy qz cC (pq 2) (a9 (aq hJ (aF (wC T) (hr.mono Yk) T.Hy (a9 (ao ay (pq 4) aa Oy) (a9 aS (a9 (pq 1) af)))) (aF (wC T) (hr.mono Yk) T.Hy (a9 (ao ay (pq 4) aa Oy) (a9 aS (a9 (pq 1) af))))) af)))
  (ap (bR PassesOwn.never U (i3 (ao ay (pq 4) aa Oy)) (aR (i:=5) iI.nd U Oi)
  (ap (g6 (hr.one) (pq 1) (pq 5) (pq 3) U))))))
  (ap (aE (pq 2)))))),?_⟩
 walk_at "q";have big:(4000000:Nat)<sizeLine:=Yk;intro d hd;refine⟨qv _,λlw a2=>?_⟩;have s1:a8 H (upd H d (.dK [])):=a8.new hd _;have s2:=s1.trans (a8.new a2 (.lst []));have b5:(upd (upd H d (.dK [])) lw (.lst [])) d=some (.dK []):=a8.new a2 _ _ _ ah;have a7:H lw=none:=s1.free a2;exists _,U,l,us,U,SqL.of (s2 _ _ hl);refine mh (K:=K) (l:=l) (xs:=us) (λi Y n=>∃v3 v4 B f b,Y=[some (.ref l),some (.ref d),some (.ref lw),v3,v4,B]/\a8 H n/\n d=some (.dK f)/\n lw=some (.lst b)/\RWL n b (cG rs i)/\(∀v∈b,v≠.ref lw)/\jc f (bO (rs.take i))/\f.length<=4000 * i) ⟨_,_,_,[],[],U,s2,b5,ah,.nil,(λv hv=>nomatch hv),λc=>U,qv _⟩ ?_ ?_ ?_
 .rintro i Y n ⟨_,_,_,_,_,_,X0,_⟩;exact SqL.of (X0 _ _ hl)
 .rintro i x Y n pt G ⟨v3,v4,B,f,b,rfl,X0,b3,N,u,a6,own,kl⟩ b6;obtain⟨r,I,p,po,pr,rfl,h1,h2,h3⟩:=a5.at i x G;have lt:i<rs.length:=(qg.mp I).1;have st:a8 n (upd n pt (.tup [.int i,.ref p])):=a8.new b6 _;have S:(upd n pt (.tup [.int i,.ref p])) pt=some (.tup [.int i,.ref p]):=ah;have O:=X0.trans st;have L:=st _ _ b3;have J:=st _ _ N;have Z:=u.same st;generalize upd n pt (.tup [.int i,.ref p])=H3 at O L J Z S ⊢;obtain⟨so,_⟩:=a4 r (qD I);exists pt,_,U,SqT.of S,U,_,_,U,_,_,U,U;have b4:=O _ _ h1;exists _,U,.inl ⟨U,_,SqL.of J⟩;exists _,U,p,_,_,_,U,U,SqT.of b4,U;refine⟨_,U,po,d,r.owns,"card",f,bO (rs.take i),U,O _ _ h2,L,own,Yo,λ_ l1 y s5 _ e1 w1=>?_⟩;exists _,U,p,_,_,_,U,U,SqT.of (s5 _ _ b4),U;refine⟨_,U,pr,d,r.reads,"copy",f,bO (rs.take i),U,s5 _ _ (O _ _ h3),s5 _ _ L,own,Yo,λH5 l2 D s6 _ e2 w2=>?_⟩;have n1:=iu (bO (rs.take i)) "card" r.owns;have n2:=iu (bO (rs.take i)) "copy" r.reads;refine⟨l1,l2,y,D,U,U,SqL.of (s6 _ _ e1),SqL.of e2,by rw[w1.len,w2.len];omega,λm f3=>?_⟩;have t:=(s5.trans s6).trans (a8.new f3 (.lst (y++D)));have w3:RWs (upd H5 m (.lst (y++D))) (y++D) (eG (rs.take i) r):=(RWs.app w2 (w1.same s6)).same (a8.new f3 _);have e3:(upd H5 m (.lst (y++D))) m=some (.lst (y++D)):=ah;have n3:m≠lw:=λz=>by rw[z,(s5.trans s6) _ _ J]at f3;cases f3
  generalize upd H5 m (.lst (y++D))=H6 at t w3 e3 ⊢;have R:=t _ _ J;have a3:=t _ _ L;have nd:d≠lw:=λz=>by rw[z,R]at a3;cases a3
  have wl:=u.len;rw[jX rs i Yo]at wl;exists lw,b,_,U,U,R,Yo;have s7:a8 H (upd H6 lw (.lst (b++[.ref m]))):=a8.over (O.trans t) a7;have b1:(upd H6 lw (.lst (b++[.ref m]))) lw=some (.lst (b++[.ref m])):=ah;have a':(upd H6 lw (.lst (b++[.ref m]))) d=some (.dK f):=by rwa[ag nd]
  have a1:∀v∈b++[V.ref m],v≠.ref lw:=λv hv=>by
   rcases qi.mp hv with q|q
   .exact a6 v q
   .rw[qV.mp q];exact λz=>n3 (V.ref.inj z)
  have b2:RWL (upd H6 lw (.lst (b++[.ref m]))) (b++[.ref m]) (cG rs (i+1)):=by
   rw[cG,I];exact((Z.same t).snoc e3 w3).off R a1
  generalize upd H6 lw (.lst (b++[.ref m]))=H7 at s7 b1 a' b2 ⊢;exists _,U,p,_,_,_,U,U,SqT.of (s7 _ _ h1),U;exists po,U,⟨_,SqT.of (s7 _ _ h2)⟩;refine sG (K:=K) (a:=po) (xs:=r.owns.map V.str) (λj Y C=>∃B g,Y=[some (.ref l),some (.ref d),some (.ref lw),some (.int i),some (.ref p),B]/\a8 H C/\C d=some (.dK g)/\C lw=some (.lst (b++[.ref m]))/\RWL C (b++[.ref m]) (cG rs (i+1))/\jc g (jD (bO (rs.take i)) i (r.owns.take j))/\g.length<=f.length+j) ⟨_,f,U,s7,a',b1,b2,λc=>by rw[own c];rfl,qf _⟩ ?_ ?_ ?_
  .rintro j Y C _ ⟨_,_,_,X,_⟩;exact SqT.of (X _ _ h2)
  .rintro j x Y C G ⟨B,g,rfl,X,M,a0,W,o,b0⟩;rw[qH]at G
   cases e:r.owns[j]? with
   |none=>rw[e]at G;cases G
   |some c=>
    rw[e]at G;obtain rfl:V.str c=x:=qM G;have jl:=(qg.mp e).1;exists _,U,_,U,_,U,d,_,U,eK.k (k:=.inr c) M Yo;refine⟨_,_,U,a8.over X hd,ah,?_,W.offD M,?_,?_⟩
    .rwa[ag (Ne.symm nd)]
    .rw[qu,e];exact o.put
    .have:=dQ g (.inr c) (.int i);omega
  .rintro Y C ⟨B,g,rfl,X,M,a0,W,o,b0⟩;rw[qa]at o b0;rw[qK]at o;refine⟨_,_,_,g,_,U,X,M,a0,W,a1,λc=>?_,Yo⟩;rw[o c,qu,I];show _=Option.map V.int (bO (rs.take i++[r]) c);rw[xB,qN,Nat.min_eq_left Yo]
   rfl
 .rintro Y n ⟨v3,v4,B,f,b,rfl,X0,b3,N,u,a6,own,kl⟩;rw[a5.len]at u;exact⟨_,U,k _ _ _ X0 a7 N u⟩
theorem wD(T:Tx P w K mg a):aM P w K mg base CX0 1 a.HN a.HP ["deeds","place"] uK:=by
 refine T.Hz.F.ok kJ (by walk_at "l") λ_ A outer s H vs Q E hr h=>?_;obtain⟨l,us,rs,pl,f,rfl,hl,N,_,hf,k⟩:=h
 refine⟨_,(ai (au (i:=2) kJ.nd U Oi gK)
  (ai (bR PassesOwn.never U (lB U T.Hi (a9 (pq 0) af)) (fu U (cE (aR (i:=3) kJ.nd U Oi) (cE (aR (i:=4) kJ.nd U Oi) fq)))
  (ap (aQ (aD fK (ao ay (pq 4) (pq 1) Oy) cr (aG _)) (ap (bx (bF qh qy qz cC (CK (pq 2) (ao ay (pq 4) (pq 1) Oy) (ba af) ⟨U,U,U,U⟩) (a9 (pq 3) af)))) aZ)))
  (ap (aE (pq 2))))),?_⟩
 walk_at "q";have big:(4000000:Nat)<sizeLine:=Yk;intro d hd;have Z:a8 H (upd H d (.dK [])):=a8.new hd _;exists _,U,l,us,U,SqL.of (Z _ _ hl);refine mh (K:=K) (l:=l) (xs:=us) (λi Y j=>∃X X0 e,Y=[some (.ref l),some (.int pl),some (.ref d),X,X0]/\a8 H j/\j d=some (.dK e)/\RN j e (ar f (rs.take i))/\(∀(q:Str)(p:Addr),aI e (.inr q)=some (.ref p)->H p=none)/\e.length<=i) ⟨_,_,[],U,Z,ah,⟨λq=>.inl ⟨U,U⟩,λ_ _ _ h=>nomatch h⟩,(λ_ _ h=>nomatch h),qf _⟩ ?_ ?_ ?_
 .rintro i Y j ⟨_,_,_,_,L,_⟩;exact SqL.of (L _ _ hl)
 .rintro i x Y j pt hx ⟨X,X0,e,rfl,L,J,rn,D,kl⟩ a0;obtain⟨r,S,B,po,pr,rfl,h1,_,_⟩:=N.at i x hx;have lt:i<rs.length:=(qg.mp S).1;have st:a8 j (upd j pt (.tup [.int i,.ref B])):=a8.new a0 _;have I:(upd j pt (.tup [.int i,.ref B])) pt=some (.tup [.int i,.ref B]):=ah;have n:=L.trans st;have g:=st _ _ J;have m:=rn.same st;generalize upd j pt (.tup [.int i,.ref B])=H3 at n g m I ⊢;have tk:rs.take (i+1)=rs.take i++[r]:=by rw[qu,S];rfl
  have il:(rs.take i).length=i:=by rw[qN];omega
  have O:atI [V.str r.kind,.ref po,.ref pr,gM r.into,gM r.outof] pl=some (gM (f r)):=by
   rcases hf with⟨rfl,rfl⟩|⟨rfl,rfl⟩<;>rfl
  have ns:=wM f (rs.take i) r;rw[il]at ns;exists pt,_,U,SqT.of I,U,_,_,U,_,_,U,U;exists _,U,_,U,B,_,pl,_,U,U,SqT.of (n _ _ h1),O
  cases ef:f r with
  |none=>
   refine⟨U,_,U,aL U ?_⟩;refine⟨_,_,e,U,n,g,m.eq λq=>?_,D,Yo⟩;rw[tk,ns,ef];simp
  |some q=>
   refine⟨U,_,U,bD U ?_⟩;have W:ar f (rs.take (i+1)) q=ar f (rs.take i) q++[(i:Int)]:=by rw[tk,ns,ef,Q5 U]
   have e2:∀G,G≠q->ar f (rs.take (i+1)) G=ar f (rs.take i) G:=λG z=>by rw[tk,ns,ef,Q4 (λy=>z (qM y).symm),qA]
   exists _,U,d,U,.inl ⟨e,.inl g⟩;exists _,U,_,U,B,_,pl,_,U,U,SqT.of (n _ _ h1),O;rw[ef];refine⟨qv _,λu C=>?_⟩;have t:a8 H3 (upd H3 u (.lst [])):=a8.new C _;refine⟨e,.inr q,t _ _ g,U,Yo,λv o=>?_,λo=>?_⟩
   .rcases m.at_ q with⟨b,_⟩|⟨p,b,c⟩
    .rw[b]at o;cases o
    .rw[b]at o;cases o;have nl:=wO f (rs.take i) q;rw[il]at nl;refine⟨.inl ⟨U,_,SqL.of (t _ _ c)⟩,_,U,p,_,_,U,U,t _ _ c,by rw[qa];omega,?_⟩;have np:p≠d:=λy=>by rw[y,g]at c;cases c
     refine⟨_,_,e,U,a8.over (n.trans t) (D q p b),?_,(m.same t).old b W e2,D,Yo⟩;rw[ag (Ne.symm np)];exact t _ _ g
   .have R:u≠d:=λy=>by rw[y,g]at C;cases C
    have h0:(upd (upd H3 u (.lst [])) d (.dK (bu e (.inr q) (.ref u)))) u=some (.lst []):=by rw[ag R];exact ah
    refine⟨.inl ⟨U,_,SqL.of h0⟩,_,U,u,_,_,U,U,h0,by show 0<sizeLine;decide,?_⟩
    have m0:ar f (rs.take i) q=[]:=by
     rcases m.at_ q with⟨_,b⟩|⟨p,b,_⟩
     .exact b
     .rw[b]at o;cases o
    rw[m0]at W;have kp:=dQ e (.inr q) (.ref u);refine⟨_,_,_,U,a8.over (a8.over (n.trans t) hd) (n.free C),?_,m.new g C o W e2,λG p M=>?_,Yo⟩
    .rw[ag (Ne.symm R)];exact ah
    .rw[dL]at M;split at M
     .cases M;exact n.free C
     .exact D G p M
 .rintro Y j ⟨X,X0,e,rfl,L,J,rn,D,kl⟩;rw[N.len,qK]at rn;exact⟨_,U,k _ _ _ L J rn D⟩
theorem Dg(T:Tx P w K mg a):aM P w K mg base CX0 2 a.HH a.HI ["waits_by_cards","deeds","stores"] uG:=by
 refine T.Jk.F.ok eB (by walk_at "l") λ_ A outer s H vs Q E hr h=>?_;obtain⟨lc,l,ls,ws,us,sv,W,rs,ss,rfl,d9,d7,c4,sm,hl,c3,b4,f0,e6,_,f4,k⟩:=h
 refine⟨_,(ai (kZ (i:=3) eB.nd U Oi (k:=1) (Nc:=["row"]) (js:=[]) (show bL (aH kN) ["waits_by_cards","deeds","stores","waits","puts_by_store","gets_by_store","store","length","puts","gets","put","get","count","awaited"] _ 1 ["row"] []from bL.mk U (by decide +kernel) (by decide +kernel) (by decide +kernel) U (by decide +kernel)) U (cV (pq 0)) (λ_ _ _ _ _=>(aR (i:=0) (show List.Nodup (["row"]:LS)from by decide +kernel) U Oi)) (λ_ _ _ _ _=>gJ) (λ_ _ _ _ _=>(fw (C6 (K:=K) U) U T.wT PyProof.Rows.Boot.«list» (a9 (pq 0) af))))
  (ai (au (i:=4) eB.nd U Oi (aF (wD T) (hr.mono Yk) T.Hz (a9 (pq 1) (a9 (gc U T.K2 T.r_INTO) af))))
  (ai (au (i:=5) eB.nd U Oi (aF (wD T) (hr.mono Yk) T.Hz (a9 (pq 1) (a9 (gc U T.K3 T.r_OUT_OF) af))))
  (ai (bR PassesOwn.never U (cV (pq 2)) (fu U (cE (aR (i:=6) eB.nd U Oi) (cE (aR (i:=7) eB.nd U Oi) fq)))
  (ai (au (i:=8) eB.nd U Oi (dP hr.one (pq 4) (pq 6) (ba af) ⟨U,U,U,U⟩))
  (ai (au (i:=9) eB.nd U Oi (dP hr.one (pq 5) (pq 6) (ba af) ⟨U,U,U,U⟩))
  (ai (bR PassesOwn.never U (Cz U T.K1 (a9 (pq 8) (a9 (pq 9) af))) (fu U (cE (aR (i:=10) eB.nd U Oi) (cE (aR (i:=11) eB.nd U Oi) fq)))
  (ap (bx (bF qh qy qz cC (ao aK (pq 3) (pq 11) Oy) (a9 (bA (a9 (pq 10) (a9 aS (a9 (pq 6) af)))) af)))))
  (ap (bR PassesOwn.never U (lB U T.Hi (a9 (gb kA (pq 8) (fk (pq 7)) hZ) af)) (fu U (cE (aR (i:=12) eB.nd U Oi) (cE (aR (i:=10) eB.nd U Oi) fq)))
  (ai (au (i:=13) eB.nd U Oi (i4 (aD hV (pq 12) (be bT U T.f8 Qb (a9 (pq 9) af)) (aG _)) (ao aK (pq 9) (pq 12) Oy) (aq kW (be bT U T.f8 Qb (a9 (pq 1) af)) aa)))
  (ap (bx (bF qh qy qz cC (ao aK (pq 3) (pq 10) Oy) (a9 (bA (a9 (pq 13) (a9 aS (a9 (pq 6) af)))) af)))))))))))
  (ap (aE (pq 3))))))),?_⟩
 walk_at "q";have big:(4000000:Nat)<sizeLine:=Yk;have wl:=d7.len;exists _,U,lc,U,⟨_,SqL.of d9⟩;refine mE (xs:=ws) (λi ys Y H2=>(∃v,Y=[v])/\a8 H H2/\∃as,ys=as.map V.ref/\RWM H2 as (W.take i)/\∀p∈as,H p=none) ⟨⟨none,U⟩,a8.refl _,[],U,⟨List.nodup_nil,U,λi p es h=>by simp at h⟩,λp L=>nomatch L⟩ ?_ (by omega) ?_ ?_ ?_
 .rintro i ys Y H2 _ ⟨_,_,as,rfl,rm,_⟩;rw[qa,rm.len,qN];omega
 .rintro i ys Y H2 ⟨_,s2,_⟩;exact SqL.of (s2 _ _ d9)
 .rintro i x ys Y H2 C ⟨⟨v,rfl⟩,s2,as,rfl,rm,fr⟩;obtain⟨p,O,es,rfl,h1,h2,h3⟩:=d7.at i x C;refine⟨_,U,p,O,U,.inl (SqL.of (s2 _ _ h1)),λq hq=>?_⟩;refine⟨⟨_,U⟩,s2.trans (a8.new hq _),as++[q],by simp,?_,λp' g4=>?_⟩
  .rw[qu,h3];exact rm.push hq (h2.same s2)
  .rcases qi.mp g4 with m|m
   .exact fr p' m
   .rw[qV.mp m];exact s2.free hq
 rintro ys _ H2 ⟨_,s2,as,rfl,rm,fr⟩ lw c6;rw[wl,qK]at rm;have s3:a8 H2 (upd H2 lw (.lst (as.map V.ref))):=a8.new c6 _;have d8:(upd H2 lw (.lst (as.map V.ref))) lw=some (.lst (as.map V.ref)):=ah;have h0:H lw=none:=s2.free c6
 have f5:lw∉as:=λm=>by
  obtain⟨u,e⟩:=rm.there m;rw[c6]at e;cases e
 have d1:=rm.same s3;have a7:=s2.trans s3;generalize upd H2 lw (.lst (as.map V.ref))=H3 at s3 d8 d1 a7 ⊢;refine⟨_,U,l,us,rs,3,Row.into,U,a7 _ _ hl,c3.same a7,b4,.inl ⟨U,U⟩,λ_ dp a' s4 d' f6 g9=>?_⟩;refine⟨_,U,l,us,rs,4,Row.outof,U,s4 _ _ (a7 _ _ hl),(c3.same a7).same s4,b4,.inr ⟨U,U⟩,λH5 dg b0 s5 e9 g6 g7=>?_⟩;have c5:=s4.trans s5;have e':=d1.same c5;have f':=sm;have SH:a8 H (cN as H5):=yd (a7.trans c5) fr;have b8:cN as H5 lw=some (.lst (as.map V.ref)):=ii (c5 _ _ d8) f5
 have e3:∀(p:Addr)(e7:LN),H5 p=some (.dK e7)->p∉as:=λp e7 L m=>by
  obtain⟨u,e⟩:=e'.there m;rw[L]at e;cases e
 have b':cN as H5 dp=some (.dK a'):=ii (s5 _ _ d') (e3 _ _ (s5 _ _ d'));have c8:cN as H5 dg=some (.dK b0):=ii e9 (e3 _ _ e9)
 have e4:∀p,H3 p=none->p∉as:=λp L m=>by
  obtain⟨u,e⟩:=d1.there m;rw[L]at e;cases e
 have e5:RN (cN as H5) a' (ar Row.into rs):=(f6.same s5).cut λq p h=>e4 p (g9 q p h);have f3:RN (cN as H5) b0 (ar Row.outof rs):=g6.cut λq p h=>e4 p (s4.free (g7 q p h));have off:∀p∈as,cN as H5 p=none:=λp m=>ye m;have b7:a8 (cN as H5) H5:=yc as H5;generalize cN as H5=Hb at SH b8 b' c8 e5 f3 off b7;exists _,U,ls,U,⟨_,SqL.of (b7 _ _ (SH _ _ f0))⟩;refine dG (K:=K) (a:=ls) (xs:=sv) (λj Y H6=>∃v6 v7 v8 v9 J a0 N M,Y=[some (.ref lc),some (.ref l),some (.ref ls),some (.ref lw),some (.ref dp),some (.ref dg),v6,v7,v8,v9,J,a0,N,M]/\a8 Hb H6/\RWM H6 as (cR rs ss W j)/\Sm (cR rs ss W j) (8000+2000 * j)) ⟨_,_,_,_,_,_,_,_,U,b7,e',f'⟩ ?_ ?_ ?_
 .rintro j Y H6 _ ⟨_,_,_,_,_,_,_,_,_,X,_⟩;exact SqL.of (X _ _ (SH _ _ f0))
 .rintro j x Y H6 C ⟨v6,v7,v8,v9,J,a0,N,M,rfl,X,b3,b6⟩;obtain⟨ps,q,n,rfl,hs,g'⟩:=e6.at j x C;have n0:0<=n:=f4 _ (qD hs);have jl:=(qg.mp hs).1;exists ps,_,U,SqT.of (X _ _ (SH _ _ g')),U,_,_,U,_,_,U,U;refine⟨_,U,dp,U,.inl ⟨a',.inl (X _ _ b')⟩,_,U,qv _,λl1 f1=>?_⟩;have t7:a8 H6 (upd H6 l1 (.lst [])):=a8.new f1 _;have g1:(upd H6 l1 (.lst [])) l1=some (.lst []):=ah;generalize upd H6 l1 (.lst [])=H7 at t7 g1 ⊢;exists _,cj.k (k:=.inr q) (t7 _ _ (X _ _ b'))
  have c':∀(x:Addr),H6 x=none->x∉as:=λx C m=>by
   obtain⟨u,e⟩:=b3.there m;rw[C]at e;cases e
  have d2:∀(x:Addr)(o:HO),Hb x=some o->x∉as:=λx o C m=>by
   rw[off x m]at C;cases C
  obtain⟨pp,e1,h1,n1⟩:∃pp,(aI a' (.inr q)).getD (.ref l1)=.ref pp/\H7 pp=some (.lst ((ar Row.into rs q).map V.int))/\pp∉as:=by
   rcases e5.at_ q with⟨b,c⟩|⟨p,b,c⟩
   .rw[b,c];exact⟨l1,U,g1,c' _ f1⟩
   .rw[b];exact⟨p,U,t7 _ _ (X _ _ c),d2 _ _ c⟩
  rw[e1];refine⟨_,U,dg,U,.inl ⟨b0,.inl (t7 _ _ (X _ _ c8))⟩,_,U,qv _,λl2 f2=>?_⟩;have t8:a8 H7 (upd H7 l2 (.lst [])):=a8.new f2 _;have g2:(upd H7 l2 (.lst [])) l2=some (.lst []):=ah;generalize upd H7 l2 (.lst [])=H8 at t8 g2 ⊢;exists _,cj.k (k:=.inr q) (t8 _ _ (t7 _ _ (X _ _ c8)))
  obtain⟨gg,e2,h2,n2⟩:∃gg,(aI b0 (.inr q)).getD (.ref l2)=.ref gg/\H8 gg=some (.lst ((ar Row.outof rs q).map V.int))/\gg∉as:=by
   rcases f3.at_ q with⟨b,c⟩|⟨p,b,c⟩
   .rw[b,c];exact⟨l2,U,g2,c' _ (t7.free f2)⟩
   .rw[b];exact⟨p,U,t8 _ _ (t7 _ _ (X _ _ c)),d2 _ _ c⟩
  rw[e2];have s8:=(X.trans t7).trans t8;have e8:=b3.same (t7.trans t8);have f9:ss.getD j ("",0)=(q,n):=by rw[qo,hs];rfl
  have fin:∀W',W'=iw rs (q,n) (cR rs ss W j)->W'=cR rs ss W (j+1):=λW' e=>by rw[e,cR,f9]
  have ml:∀(f:Row->Option Str),(ar f rs q).length<=1000:=λf=>qC (wO f rs q) b4;have mi:=ml Row.into;have mo:=ml Row.outof
  have c1:∀(k:Nat)(x:Int),(ar Row.into rs q)[k]?=some x->0<=x/\x.toNat<as.length:=λk x C=>by
   obtain⟨a1,a2,_⟩:=lH C;exact⟨a1,by rwa[rm.len,c4]⟩
  have d5:∀(k:Nat)(x:Int),(ar Row.outof rs q)[k]?=some x->0<=x/\x.toNat<as.length:=λk x C=>by
   obtain⟨a1,a2,_⟩:=lH C;exact⟨a1,by rwa[rm.len,c4]⟩
  unfold iw at fin;generalize cR rs ss W j=Wj at e8 b6 fin;generalize ar Row.into rs q=ips at h1 fin mi c1;generalize ar Row.outof rs q=igs at h2 fin mo d5;have sC:=yc as H8;have SC:a8 Hb (cN as H8):=yd s8 off;have c2:cN as H8 pp=some (.lst (ips.map V.int)):=ii (t8 _ _ h1) n1;have c9:cN as H8 gg=some (.lst (igs.map V.int)):=ii h2 n2;have d0:∀p∈as,cN as H8 p=none:=λp m=>ye m;generalize cN as H8=Hc at sC SC c2 c9 d0
  have step:∀(D:Hp)(Wk:List (List Wat))(B:Nat)(g:Int),a8 Hc D->RWM D as Wk->Sm Wk B->B<=300000->0<=g->g.toNat<as.length->∃p us,atI (as.map V.ref) g=some (.ref p)/\p∈as/\D p=some (.lst us)/\us.length<sizeLine/\∀(t:Addr)(e:Wat)(r:Hp),a8 D r->r t=some (fc e)->RWM (upd r p (.lst (us++[.ref t]))) as (fU Wk g.toNat e)/\a8 Hc (upd r p (.lst (us++[.ref t]))):=by
   intro D Wk B g s9 S Z _ g0 gl;have L:as[g.toNat]?=some as[g.toNat]:=qd gl;have gw:g.toNat<Wk.length:=by rwa[<- S.len]
   have hw:Wk[g.toNat]?=some Wk[g.toNat]:=qd gw;obtain⟨O,c,d⟩:=S.at_ _ _ _ L hw;have ll:=Z _ _ hw;refine⟨as[g.toNat],O,yI g0 (by rw[qH,L];rfl),List.getElem_mem gl,c,by rw[d.len];omega,λt e r G ht=>⟨(S.same G).add L (G _ _ c) ht,a8.over (s9.trans G) (d0 _ (List.getElem_mem gl))⟩⟩
  have d3:Hc lw=some (.lst (as.map V.ref)):=SC _ _ b8;exists _,U,_,U,false,false,pp,gg,_,_,U,SqL.of (t8 _ _ h1),SqL.of h2;refine Fs (K:=K) (b1:=false) (b2:=false) (l1:=pp) (l2:=gg) (xs:=ips.map V.int) (ys:=igs.map V.int) (λk Y D=>∃J a0 N M,Y=[some (.ref lc),some (.ref l),some (.ref ls),some (.ref lw),some (.ref dp),some (.ref dg),some (.str q),some (.int n),some (.ref pp),some (.ref gg),J,a0,N,M]/\a8 Hc D/\RWM D as (ee q ips igs Wj k)/\Sm (ee q ips igs Wj k) (8000+2000 * j+k)/\k<=1000) ⟨_,_,_,_,U,sC,e8,b6,qv _⟩ ?_ ?_ ?_
  .rintro k Y D ⟨_,_,_,_,_,s9,_⟩;exact⟨SqL.of (s9 _ _ c2),SqL.of (s9 _ _ c9)⟩
  .rintro k x y Y D pt C hy ⟨J,a0,N,M,rfl,s9,S,Z,kb⟩ d6;rw[qH]at C hy
   cases ex:ips[k]? with
   |none=>rw[ex]at C;cases C
   |some R=>
   cases ey:igs[k]? with
   |none=>rw[ey]at hy;cases hy
   |some gv=>
   rw[ex]at C;rw[ey]at hy;obtain rfl:V.int R=x:=qM C;obtain rfl:V.int gv=y:=qM hy;obtain⟨g0,gl⟩:=d5 k gv ey;have kl:=(qg.mp ex).1;obtain⟨p,O,ea,_,L,ul,add⟩:=step D _ _ gv s9 S Z Yo g0 gl;have I:a8 D (upd D pt (.tup [.int R,.int gv])):=a8.new d6 _;have a5:(upd D pt (.tup [.int R,.int gv])) pt=some (.tup [.int R,.int gv]):=ah;generalize upd D pt (.tup [.int R,.int gv])=r at I a5 ⊢;exists pt,_,U,SqT.of a5,U,_,_,U,_,_,U,U;exists _,U,_,U,lw,_,_,_,U,U,SqL.of (I _ _ (s9 _ _ d3)),ea;refine⟨.inl ⟨U,_,SqL.of (I _ _ L)⟩,_,U,_,U,ln3,λt ft=>?_⟩;exists p,O,_,U,U,a8.new ft _ _ _ (I _ _ L),ul;obtain⟨r1,r2⟩:=add t (R,"thing",q) _ (I.trans (a8.new ft _)) ah;have et:ee q ips igs Wj (k+1)=fU (ee q ips igs Wj k) gv.toNat (R,"thing",q):=by rw[ee,qo,ey,qo,ex];rfl
   refine⟨_,_,_,_,U,r2,by rwa[et],by rw[et];exact Z.add,Yo⟩
  .rintro Y D ⟨J,a0,N,M,rfl,s9,S,Z,kb⟩;rw[qa,qa]at S Z;generalize ee q ips igs Wj (min ips.length igs.length)=W9 at S Z fin;exists _,U,_,U;refine⟨n,U,pp,_,U,SqL.of (s9 _ _ c2),λlx fx=>?_⟩;rw[Gc ips n0]
   have f7:lx∉as:=λm=>by
    obtain⟨u,e⟩:=S.there m;rw[fx]at e;cases e
   have tx:a8 D (upd D lx (.lst ((ips.drop n.toNat).map V.int))):=a8.new fx _;have b5:(upd D lx (.lst ((ips.drop n.toNat).map V.int))) lx=some (.lst ((ips.drop n.toNat).map V.int)):=ah;have c7:∀(k:Nat)(x:Int),(ips.drop n.toNat)[k]?=some x->0<=x/\x.toNat<as.length:=λk x C=>c1 _ x (by rw[List.getElem?_drop]at C;exact C);have mc:(ips.drop n.toNat).length<=1000:=by rw[Q3];omega
   generalize ips.drop n.toNat=ics at tx b5 c7 mc fin ⊢;have e0:=S.same tx;have sx:=s9.trans tx;generalize upd D lx (.lst (ics.map V.int))=Hx at tx b5 e0 sx ⊢;exists lx,_,U,SqL.of b5;refine mh (K:=K) (l:=lx) (xs:=ics.map V.int) (λk Y r=>∃J N M,Y=[some (.ref lc),some (.ref l),some (.ref ls),some (.ref lw),some (.ref dp),some (.ref dg),some (.str q),some (.int n),some (.ref pp),some (.ref gg),J,a0,N,M]/\a8 Hc r/\r lx=some (.lst (ics.map V.int))/\RWM r as (dN q rs.length ics igs W9 k)/\Sm (dN q rs.length ics igs W9 k) (8000+2000 * j+1000+k)/\k<=1000) ⟨_,_,_,U,sx,b5,e0,Z.mono Yo,qv _⟩ ?_ ?_ ?_
   .rintro k Y r ⟨_,_,_,_,_,g8,_⟩;exact SqL.of g8
   .rintro k x Y r pt C ⟨J,N,M,rfl,G,c0,a6,X0,kb⟩ d6;rw[qH]at C
    cases ex:ics[k]? with
    |none=>rw[ex]at C;cases C
    |some R=>
    rw[ex]at C;obtain rfl:V.int R=x:=qM C;obtain⟨g0,gl⟩:=c7 k R ex;have kl:=(qg.mp ex).1;obtain⟨p,O,ea,pa,L,ul,add⟩:=step r _ _ R G a6 X0 Yo g0 gl;have I:a8 r (upd r pt (.tup [.int k,.int R])):=a8.new d6 _;have a5:(upd r pt (.tup [.int k,.int R])) pt=some (.tup [.int k,.int R]):=ah;generalize upd r pt (.tup [.int k,.int R])=H11 at I a5 ⊢;exists pt,_,U,SqT.of a5,U,_,_,U,_,_,U,U;have gk:H11 gg=some (.lst (igs.map V.int)):=I _ _ (G _ _ c9);have lk:H11 l=some (.lst us):=I _ _ (G _ _ (SC _ _ (SH _ _ hl)));have er:∀aw:Int,aw=awaited rs.length igs k->dN q rs.length ics igs W9 (k+1)=fU (dN q rs.length ics igs W9 k) R.toNat (aw,"room",q):=λaw e=>by rw[dN,qo,ex,e];rfl
    have g5:=c3.len
    have d4:∀(aw:Int)(t:Addr),H11 t=none->aw=awaited rs.length igs k->a8 Hc (upd (upd H11 t (fc (aw,"room",q))) p (.lst (O++[.ref t])))/\(upd (upd H11 t (fc (aw,"room",q))) p (.lst (O++[.ref t]))) lx=some (.lst (ics.map V.int))/\RWM (upd (upd H11 t (fc (aw,"room",q))) p (.lst (O++[.ref t]))) as (dN q rs.length ics igs W9 (k+1))/\Sm (dN q rs.length ics igs W9 (k+1)) (8000+2000 * j+1000+(k+1)):=λaw t ft e=>by
     obtain⟨r1,r2⟩:=add t (aw,"room",q) _ (I.trans (a8.new ft _)) ah;refine⟨r2,?_,by rwa[er aw e],by rw[er aw e];exact X0.add⟩;have g3:lx≠p:=λy=>f7 (by rwa[y]);rw[ag g3];exact a8.new ft _ _ _ (I _ _ c0)
    exists _,U,_,U,gg,_,U,.inl (SqL.of gk),_,_,U,U,_,U;rw[qa];by_cases z:k<igs.length
    .refine bD (Q6 Yo) ?_;exists _,U,_,U,gg,_,k,.int igs[k],U,U,SqL.of gk,da (by rw[qH,qd z];rfl);refine⟨_,U,_,U,lw,_,_,_,U,U,SqL.of (I _ _ (G _ _ d3)),ea,.inl ⟨U,_,SqL.of (I _ _ L)⟩,_,U,_,U,ln3,λt ft=>?_⟩;exists p,O,_,U,U,a8.new ft _ _ _ (I _ _ L),ul;obtain⟨a1,a2,a3,a4⟩:=d4 igs[k] t ft (by unfold awaited;rw[Q5 z,qo,qd z];rfl);exact⟨_,_,_,U,a1,a2,a3,a4,Yo⟩
    .refine aL (Q7 Yo) ?_;exists _,U,l,_,U,.inl (SqL.of lk),_,_,U,U;refine⟨_,U,_,U,lw,_,_,_,U,U,SqL.of (I _ _ (G _ _ d3)),ea,.inl ⟨U,_,SqL.of (I _ _ L)⟩,_,U,_,U,ln3,λt ft=>?_⟩;exists p,O,_,U,U,a8.new ft _ _ _ (I _ _ L),ul;obtain⟨a1,a2,a3,a4⟩:=d4 ((us.length:Int)-1) t ft (by unfold awaited;rw[Q4 z,g5]);exact⟨_,_,_,U,a1,a2,a3,a4,Yo⟩
   .rintro Y r ⟨J,N,M,rfl,G,c0,a6,X0,kb⟩;rw[qa]at a6 X0;have fe:=fin _ U;rw[fe]at a6 X0;exact⟨_,_,_,_,_,_,_,_,U,SC.trans G,a6,X0.mono Yo⟩
 .rintro Y H6 ⟨v6,v7,v8,v9,J,a0,N,M,rfl,X,b3,b6⟩;rw[e6.len]at b3;exact⟨_,U,k _ _ _ (SH.trans X) (X _ _ b8) b3.rwl⟩
theorem De(T:Tx P w K mg a):aM P w K mg base CX0 3 a.HF a.HG ["deeds","stores"] uD:=by
 refine T.Jj.F.ok Be (by walk_at "l") λ_ A outer s H vs Q E hr h=>?_;obtain⟨l,q,us,r,rs,ss,rfl,hl,e,c,b,m,i,g,f,k⟩:=h;exists _,(ap (aE (aF (Dg T) (hr.mono Yk) T.Jk (a9 (aF (Df T) (hr.mono Yk) T.Jl (a9 (pq 0) af)) (a9 (pq 0) (a9 (pq 1) af))))));walk_at "q";refine⟨_,U,l,us,rs,U,hl,e,c,b,λ_ lw t d _ hw j=>?_⟩;refine⟨_,U,_,U,lw,l,q,t,us,r,_,rs,ss,U,hw,j,jX rs _ (qf _),tF b _,d _ _ hl,e.same d,c,d _ _ m,i.same d,g,f,λ_ l2 _ n p o=>?_⟩;exact k _ _ _ (d.trans n) p o
theorem FK{ss:LF}(h:rs[i]?=some r)(one:fE r)(nd:(ss.map (·.1)).Nodup)(e:∀s∈ss,0<=s.2)(d:∀s∈ss,ln s.1=s.2)(k:∀q,r.into=some q->∃n,(q,n)∈ss)(j:∀q,r.outof=some q->∃n,(q,n)∈ss)(fed:∀q,r.outof=some q->(ar Row.outof (rs.take i) q).length<(ar Row.into rs q).length):
 (cR rs ss (cG rs rs.length) ss.length)[i]?=some (cM rs ln i r):=by
 rw[yE h _ fed _ (qf _),qK,yK h _ (qg.mp h).1 (qf _)];show some (_++_)=_
 congr 1
 unfold cM;rw[qQ]
 congr 1
 cases eo:r.outof with
 |none=>
  have g:eO rs i r=[]:=by unfold eO;rw[eo]
  rw[g,Qo]
  cases a:r.into with
  |none=>
   have c:roomV rs ln i r=[]:=by unfold roomV;rw[a]
   rw[c,List.flatMap_eq_nil_iff];intro s _;unfold gy gD;rw[eo,a];simp
  |some q=>
   obtain⟨n,m⟩:=k q a
   rw[sH nd m λs _ b=>by
    unfold gy gD;rw[eo,a]
    simp[Ne.symm b]]
   have n0:=e _ m;have el:=d _ m;unfold gy gD roomV ja;rw[eo,a];show([]:List Wat)++(if some q=some q/\n.toNat<=(ar Row.into (rs.take i) q).length then _ else _)=(if 0<=((ar Row.into (rs.take i) q).length:Int)-ln q then _ else _);have f:ln q=n:=el;rw[Qo,f];have l:0<=n:=n0;by_cases z:n.toNat<=(ar Row.into (rs.take i) q).length
   .rw[Q5 ⟨U,z⟩,Q5 Yo,show(((ar Row.into (rs.take i) q).length:Int)-n).toNat=(ar Row.into (rs.take i) q).length-n.toNat by omega]
   .rw[Q4 (λy=>z y.2),Q4 Yo]
 |some q=>
  have a:r.into=none:=by
   rcases one with h|h
   .exact h
   .rw[eo]at h;cases h
  have c:roomV rs ln i r=[]:=by unfold roomV;rw[a]
  rw[c,qA];obtain⟨n,m⟩:=j q eo
  rw[sH nd m λs _ b=>by
   unfold gy gD;rw[eo,a]
   simp[Ne.symm b]]
  unfold gy gD eO;rw[eo,a];simp
theorem Ds(T:Tx P w K mg a):aM P w K mg base CX0 1 a.IH a.II ["_law_found"] uV:=by
 refine T.Jx.F.ok Bn (by walk_at "l") λ_ A outer s H vs Q E hr h=>?_;obtain⟨i,rfl,k⟩:=h;exists _,(ap (aE (wx (be iR U T.wP PyProof.Rows.Boot.«isinstance» (a9 (pq 0) (a9 (iV (v:=.ty "int") U T.JZ PyProof.Rows.Boot.«int» rfl) af))) (wv (CD (be iR U T.wP PyProof.Rows.Boot.«isinstance» (a9 (pq 0) (a9 (iV (v:=.ty "bool") U T.JX PyProof.Rows.Boot.«bool» rfl) af))))))));walk_at "q";refine⟨_,U,_,_,_,true,U,.int i,U,_,U,bD U ?_⟩;exact⟨_,U,_,_,_,false,U,.int i,U,_,U,k⟩
theorem wU{a:Addr}{o:HO}(h:upd H a o b=none):H b=none:=by
 by_cases z:b=a
 .rw[z,ah]at h;cases h
 .rw[ag z]at h;exact h
theorem jp{b c:TS}(d:St->Hp->Prop)(hb:∀a H',d a H'->c D a H')(ha:∀N:St->Hp->Prop,(∀a H',d a H'->N a H')->b { D with nx:=N } Y H):ud b c D Y H:=ha _ hb
theorem sT(rs:List Row)(r:Row)(c:Str):cnO (rs++[r]) c=cnO rs c+r.owns.count c:=by
 unfold cnO;rw[qX,List.count_append,List.flatMap_singleton]
theorem RCs.keep{H H':Hp}{rs:List Row}(e:∀c xs,H c=some (.tup xs)->H' c=some (.tup xs)):∀{vs:LV}{a:LS},RCs H rs vs a->RCs H' rs vs a
 |_,_,.nil=>.nil
 |_,_,.cons h r=>.cons (e _ _ h) (RCs.keep e r)
theorem RCs.snoc{H:Hp}{rs:List Row}{p:Addr}{c:Str}(h:H p=some (.tup [.str c,.int (cnO rs c)])):∀{vs:LV}{a:LS},RCs H rs vs a->RCs H rs (vs++[.ref p]) (a++[c])
 |_,_,.nil=>.cons h .nil
 |_,_,.cons h' r=>.cons h' (RCs.snoc h r)
theorem RCs.len{H:Hp}{rs:List Row}:∀{vs:LV}{a:LS},RCs H rs vs a->vs.length=a.length
 |_,_,.nil=>rfl
 |_,_,.cons _ r=>congrArg (·+1) (RCs.len r)
theorem RCs.at{H:Hp}{rs:List Row}:∀{vs:LV}{b:LS},RCs H rs vs b->∀(i:Nat)(v:V),vs[i]?=some v->∃p c,v=.ref p/\H p=some (.tup [.str c,.int (cnO rs c)])
 |_,_,.nil,i,v,h=>by simp at h
 |_,_,.cons (p:=p) (c:=c) a _,0,v,h=>⟨p,c,by simp at h;exact h.symm,a⟩
 |_,_,.cons _ r,i+1,v,h=>RCs.at r i v (by simpa using h)
def RAx(x:Addr)(H:Hp)(rs:List Row)(i:Nat)(r:Row)(v:V):Prop:=∃p l1 l2 J F,l1≠x/\l2≠x/\v=.ref p/\H p=some (.tup [.ref l1,.ref l2])/\H l1=some (.lst J)/\H l2=some (.lst F)/\RCs H (rs.take i) J r.owns/\RCs H (rs.take i) F r.reads
theorem RAx.keep{x:Addr}{H H':Hp}{rs:List Row}{i:Nat}{r:Row}{v:V}(h:RAx x H rs i r v)(a:∀c xs,H c=some (.tup xs)->H' c=some (.tup xs))(b:∀c xs,c≠x->H c=some (.lst xs)->H' c=some (.lst xs)):RAx x H' rs i r v:=by
 obtain⟨p,l1,l2,j,m,n1,n2,k,f,l,d,e,g⟩:=h;exact⟨p,l1,l2,j,m,n1,n2,k,a _ _ f,b _ _ n1 l,b _ _ n2 d,e.keep a,g.keep a⟩
theorem DG(T:Tx P w K mg a):aM P w K mg base CX0 2 a.J3 a.J4 ["_law_deeds"] vq:=by
 refine T.JF.F.ok iN (by walk_at "l") λ_ A outer s H vs Q E hr h=>?_;obtain⟨l,us,rs,rfl,hl,b2,_,b1,k⟩:=h
 refine⟨_,(ai (au (i:=1) iN.nd U (Or.inr U) gK)
  (ai (au (i:=2) iN.nd U Oi (ba af))
  (ai (bR PassesOwn.never U (cV (pq 0)) (aR (i:=3) iN.nd U Oi)
  (ai (kZ (i:=4) iN.nd U Oi (k:=1) (Nc:=["_law_card","_law_many"]) (js:=[1]) (show bL (aH jt) ["_law_deeds","_law_many","_law_rows","_law_row","_law_owned","_law_card"] _ 1 ["_law_card","_law_many"] [1]from bL.mk U (by decide +kernel) (by decide +kernel) (by decide +kernel) U (by decide +kernel)) U (i3 (ao ay (pq 3) aa Oy)) (λ_ _ _ _ _=>(aR (i:=0) (show List.Nodup (["_law_card","_law_many"]:LS)from by decide +kernel) U Oi)) (λ_ _ _ _ _=>gJ) (λ_ _ _ _ _=>(bA (a9 (pq 0) (a9 (dP hr.one (pq 1) (pq 0) aa ⟨U,U,U,U⟩) af)))))
  (ai (bx (bF qh qy qz cC (pq 2) (a9 (bA (a9 (pq 4) (a9 (i5 (k:=1) (Nc:=["_law_card","_law_many"]) (js:=[1]) (show bL (aH jt) ["_law_deeds","_law_many","_law_rows","_law_row","_law_owned","_law_card"] _ 1 ["_law_card","_law_many"] [1]from bL.mk U (by decide +kernel) (by decide +kernel) (by decide +kernel) U (by decide +kernel)) U (i3 (ao ay (pq 3) aa Oy)) (λ_ _ _ _ _=>(aR (i:=0) (show List.Nodup (["_law_card","_law_many"]:LS)from by decide +kernel) U Oi)) (λ_ _ _ _ _=>gJ) (λ_ _ _ _ _=>(bA (a9 (pq 0) (a9 (dP hr.one (pq 1) (pq 0) aa ⟨U,U,U,U⟩) af))))) af))) af)))
  (ap (bR PassesOwn.never U (i3 (ao ay (pq 3) aa Oy)) (aR (i:=5) iN.nd U Oi)
  (ap (g6 (hr.one) (pq 1) (pq 5) (aq bK (dP hr.one (pq 1) (pq 5) aa ⟨U,U,U,U⟩) aa) U)))))))
  (ap (aE (pq 2)))))),?_⟩
 walk_at "q";have big:(5000000:Nat)<sizeLine:=Yk;have ul:=b2.len;refine λd hd=>⟨qv _,λb R=>?_⟩;have b5:b≠d:=λz=>by rw[z,ah]at R;cases R
 have b9:H b=none:=wU R;have s1:=(a8.new hd (.dK [])).trans (a8.new R (.lst []));exists _,U,l,U,⟨_,SqL.of (s1 _ _ hl)⟩;refine dG (K:=K) (a:=l) (xs:=us) (λi Y G=>∃v3 v4 v5 q as,Y=[some (.ref l),some (.ref d),some (.ref b),v3,v4,v5]/\a8 H G/\G d=some (.dK q)/\tJ q (rs.take i)/\q.length<=4000 * i/\G b=some (.lst as)/\as.length=i/\∀j r,j<i->rs[j]?=some r->∃v,as[j]?=some v/\RAx b G rs j r v) ⟨_,_,_,[],[],U,s1,a8.new R _ _ _ ah,λc=>U,qf _,ah,U,λj r hj=>Q8 hj (QB _)⟩ ?_ ?_ ?_
 .rintro i Y G _ ⟨_,_,_,_,_,_,I,_⟩;exact SqL.of (I _ _ hl)
 .rintro i x Y G B ⟨v3,v4,v5,q,as,rfl,I,a0,a4,b',g,Z,b0⟩;obtain⟨r,a1,px,po,pr,rfl,h1,h2,h3⟩:=b2.at i x B;have il:=(qg.mp a1).1;obtain⟨c0,c1⟩:=b1 r (qD a1);exists _,U,px,_,_,_,U,U,SqT.of (I _ _ h1),U,po,U,⟨_,SqT.of (I _ _ h2)⟩;refine yf (K:=K) (a:=po) (xs:=r.owns.map V.str) (λj ys Y M=>(∃v,Y=[v,some (.ref d)])/\a8 G M/\RCs M (rs.take i) ys (r.owns.take j)) ⟨⟨_,U⟩,a8.refl _,.nil⟩ ?_ (bq (m:=4000) (by rwa[qa])) ?_ ?_ ?_
  .rintro j ys Y M _ ⟨_,_,h⟩;rw[h.len,qN];exact Nat.min_le_left _ _
  .rintro j ys Y M ⟨_,L,_⟩;exact SqT.of (L _ _ (I _ _ h2))
  .rintro j x ys Y M B ⟨⟨v,rfl⟩,L,rc⟩;rw[qH]at B;obtain⟨c,hc,rfl⟩:=qS.mp B;exists _,U,_,U,d,U,.inl ⟨q,.inl (L _ _ a0)⟩,_,U,_,cj.k (k:=.inr c) (L _ _ a0);rw[a4 c];refine⟨ln2,λp J=>⟨⟨_,U⟩,L.trans (a8.new J _),?_⟩⟩;rw[qu,hc];exact(rc.keep λc xs h=>a8.new J _ _ _ h).snoc ah
  rintro ys Y M ⟨_,L,rc⟩ l1 a6;rw[qa,qK]at rc;have q1:=a8.new a6 (.lst ys);have S:=L.trans q1;have b8:=rc.keep λc xs h=>q1 _ _ h;have a5:upd M l1 (.lst ys) l1=some (.lst ys):=ah;have n1:l1≠b:=λz=>by rw[z,L _ _ g]at a6;cases a6
  generalize upd M l1 (.lst ys)=G3 at S b8 a5 ⊢;have a':=I.trans S;exists _,U,.inl ⟨U,_,SqL.of (S _ _ g)⟩,_,U,_,U,px,_,_,_,U,U,SqT.of (a' _ _ h1),U,pr,U,⟨_,SqT.of (a' _ _ h3)⟩;refine yf (K:=K) (a:=pr) (xs:=r.reads.map V.str) (λj ys Y u=>(∃v,Y=[v,some (.ref d)])/\a8 G3 u/\RCs u (rs.take i) ys (r.reads.take j)) ⟨⟨_,U⟩,a8.refl _,.nil⟩ ?_ (bq (m:=4000) (by rwa[qa])) ?_ ?_ ?_
  .rintro j ys Y u _ ⟨_,_,h⟩;rw[h.len,qN];exact Nat.min_le_left _ _
  .rintro j ys Y u ⟨_,C,_⟩;exact SqT.of (C _ _ (a' _ _ h3))
  .rintro j x ys Y u B ⟨⟨v,rfl⟩,C,rc⟩;rw[qH]at B;obtain⟨c,hc,rfl⟩:=qS.mp B;have b4:=C _ _ (S _ _ a0);exists _,U,_,U,d,U,.inl ⟨q,.inl b4⟩,_,U,_,cj.k (k:=.inr c) b4;rw[a4 c];refine⟨ln2,λp J=>⟨⟨_,U⟩,C.trans (a8.new J _),?_⟩⟩;rw[qu,hc];exact(rc.keep λc xs h=>a8.new J _ _ _ h).snoc ah
  rintro t Y u ⟨_,C,b3⟩ l2 a7;rw[qa,qK]at b3;have q2:=a8.new a7 (.lst t);have n2:l2≠b:=λz=>by rw[z,C _ _ (S _ _ g)]at a7;cases a7
  refine⟨ln2,λp J=>?_⟩;have q3:=a8.new J (.tup [.ref l1,.ref l2]);have s6:=S.trans (C.trans (q2.trans q3));exists b,as,.ref p,U,U,s6 _ _ g,Yo;have e5:∀c o,c≠b->G c=some o->upd (upd (upd u l2 (.lst t)) p (.tup [.ref l1,.ref l2])) b (.lst (as++[.ref p])) c=some o:=λc o n h=>by rw[ag n];exact s6 _ _ h
  have c2:p≠b:=λz=>by rw[z,(q2 _ _ (C _ _ (S _ _ g)))]at J;cases J
  have a2:RAx b (upd (upd (upd u l2 (.lst t)) p (.tup [.ref l1,.ref l2])) b (.lst (as++[.ref p]))) rs i r (.ref p):=by
   have kt:∀c xs,(upd (upd u l2 (.lst t)) p (.tup [.ref l1,.ref l2])) c=some (.tup xs)->upd (upd (upd u l2 (.lst t)) p (.tup [.ref l1,.ref l2])) b (.lst (as++[.ref p])) c=some (.tup xs):=λc xs h=>by
    rw[ag (λz=>by rw[z,s6 _ _ g]at h;cases h)];exact h
   exact⟨p,l1,l2,ys,t,n1,n2,U,kt _ _ ah,by rw[ag n1];exact(C.trans (q2.trans q3)) _ _ a5,by rw[ag n2];exact q3 _ _ ah,b8.keep λc xs h=>kt c xs ((C.trans (q2.trans q3)) _ _ h),b3.keep λc xs h=>kt c xs ((q2.trans q3) _ _ h)⟩
  have b6:upd (upd (upd u l2 (.lst t)) p (.tup [.ref l1,.ref l2])) b (.lst (as++[.ref p])) b=some (.lst (as++[.ref p])):=ah;generalize upd (upd (upd u l2 (.lst t)) p (.tup [.ref l1,.ref l2])) b (.lst (as++[.ref p]))=G5 at e5 a2 b6 ⊢;have a3:=e5 _ _ b5.symm a0;have X0:a8 H G5:=λc o h=>e5 c o (λz=>by rw[z,b9]at h;cases h) (I c o h);have tk:rs.take (i+1)=rs.take i++[r]:=by rw[qu,a1];rfl
  exists _,U,px,_,_,_,U,U,SqT.of (X0 _ _ h1),U,po,U,⟨_,SqT.of (X0 _ _ h2)⟩;refine sG (K:=K) (a:=po) (xs:=r.owns.map V.str) (λj Y W=>∃v5 f,Y=[some (.ref l),some (.ref d),some (.ref b),some (.ref px),some (.ref l1),v5]/\(∀c,c≠d->W c=G5 c)/\W d=some (.dK f)/\f.length<=4000 * i+j/\∀c:Str,(aI f (.inr c)).getD (.int 0)=.int ((cnO (rs.take i) c+(r.owns.take j).count c:Nat):Int)) ⟨_,q,U,λ_ _=>U,a3,b',λc=>a4 c⟩ ?_ ?_ ?_
  .rintro j Y W _ ⟨v,f,_,N,_⟩;have pd:po≠d:=λz=>by rw[z,hd]at h2;cases h2
   exact SqT.of ((N po pd).trans (X0 _ _ h2))
  .rintro j x Y W B ⟨v,f,rfl,N,O,b7,D⟩;rw[qH]at B;obtain⟨c,hc,rfl⟩:=qS.mp B;have jl:j<r.owns.length:=(qg.mp hc).1;exists _,U,d,U,.inl ⟨f,.inl O⟩,_,U,_,cj.k (k:=.inr c) O,_,_,D c,U;exists _,U,_,U,d,_,U,eK.k (k:=.inr c) O Yo;refine⟨_,_,U,λX h=>by rw[ag h];exact N X h,ah,qC (dQ _ _ _) Yo,λX=>?_⟩;rw[dL,qu,hc,List.count_append];by_cases e:X=c
   .subst e;simp;omega
   .have e1:¬ (Sum.inr X:Key)=Sum.inr c:=λz=>e (Sum.inr.inj z);rw[Q4 e1,D X]
    have:(some c).toList.count X=0:=by
     show[c].count X=0;rw[List.count_singleton];simp[Ne.symm e]
    rw[this]
    rfl
  .rintro Y W ⟨v,f,rfl,N,O,b7,D⟩;rw[qa]at b7 D;rw[qK]at D;have kt:∀c xs,G5 c=some (.tup xs)->W c=some (.tup xs):=λc xs h=>(N c (λz=>by rw[z,a3]at h;cases h)).trans h;have kl:∀c xs,c≠b->G5 c=some (.lst xs)->W c=some (.lst xs):=λc xs _ h=>(N c (λz=>by rw[z,a3]at h;cases h)).trans h;refine⟨_,_,_,f,as++[.ref p],U,λc o h=>(N c (λz=>by rw[z,hd]at h;cases h)).trans (X0 c o h),O,λc=>?_,Yo,(N b b5).trans b6,by rw[qc,Z];rfl,λj r2 hj h=>?_⟩
   .rw[tk,sT];exact D c
   .rcases Nat.lt_or_eq_of_le (Nat.lt_succ_iff.mp hj)with lt|rfl
    .obtain⟨v,hv,z⟩:=b0 j r2 lt h;refine⟨v,by rwa[Q9 Yo],?_⟩;have z5:=z.keep (H':=G5) (λc xs h=>e5 c _ (λy=>by rw[y,g]at h;cases h) h) (λc xs n h=>e5 c _ n h);exact z5.keep kt kl
    .rw[a1]at h;cases h;exact⟨.ref p,by rw[qO Yo,Z,Nat.sub_self];rfl,a2.keep kt kl⟩
 .rintro Y G ⟨v3,v4,v5,q,as,rfl,I,_,_,_,g,Z,b0⟩;refine⟨_,U,k G b as I g ⟨by rw[Z,ul],λi r _ h=>?_⟩⟩;obtain⟨v,hv,p,l1,l2,u1,u2,_,_,z⟩:=b0 i r Yo h;exact⟨v,hv,p,l1,l2,u1,u2,z⟩
theorem jL{rs:List Row}(nd:∀r∈rs,r.owns.Nodup)(c:Str):∀k,k<=rs.length->((bO (rs.take k) c).isSome=decide (0<cnO (rs.take k) c))/\∀n,bO (rs.take k) c=some n->∃(j:Nat)(f:Row),n=(j:Int)/\j<k/\rs[j]?=some f/\c∈f.owns/\cnO (rs.take k) c=cnO (rs.take j) c+1
 |0,_=>⟨U,λn h=>by simp[bO]at h⟩
 |k+1,hk=>by
  obtain⟨i,g⟩:=jL nd c k Yo;have hr:rs[k]?=some (rs[k]' Yo):=qd _;generalize rs[k]' Yo=r at hr;have tk:rs.take (k+1)=rs.take k++[r]:=by rw[qu,hr];rfl
  have tl:(rs.take k).length=k:=by rw[qN];omega
  rw[tk,xB,sT,tl];by_cases hc:c∈r.owns
  .have c1:r.owns.count c=1:=Nat.le_antisymm (List.nodup_iff_count.mp (nd r (qD hr)) c) (List.count_pos_iff.mpr hc);rw[Q5 hc,c1];refine⟨by simp,λn h=>?_⟩;cases h;exact⟨k,r,U,Yo,hr,hc,U⟩
  .have c0:r.owns.count c=0:=List.count_eq_zero.mpr hc;rw[Q4 hc,c0,Nat.add_zero];refine⟨i,λn h=>?_⟩;obtain⟨j,f,e,lt,a,b,d⟩:=g n h;exact⟨j,f,e,Yo,a,b,d⟩
theorem lG{f:Row->Option Str}{rs:List Row}{q:Str}:∀k,k<=rs.length->∀(m:Nat)(n:Int),(ar f (rs.take k) q)[m]?=some n->∃(j:Nat)(a:Row),n=(j:Int)/\rs[j]?=some a/\f a=some q/\(ar f (rs.take j) q).length=m
 |0,_,m,n,h=>by simp[Tr.ar]at h
 |k+1,hk,m,n,h=>by
  have hr:rs[k]?=some (rs[k]' Yo):=qd _;generalize rs[k]' Yo=r at hr;have tk:rs.take (k+1)=rs.take k++[r]:=by rw[qu,hr];rfl
  have tl:(rs.take k).length=k:=by rw[qN];omega
  rw[tk,wM,tl]at h;by_cases lt:m<(ar f (rs.take k) q).length
  .rw[Q9 lt]at h;exact lG k Yo m n h
  .rw[qO Yo]at h;by_cases e:f r=some q
   .rw[Q5 e]at h
    have b:m-(ar f (rs.take k) q).length=0:=by
     have:=(qg.mp h).1;simp at this;omega
    rw[b]at h;cases h;exact⟨k,r,U,hr,e,Yo⟩
   .rw[Q4 e]at h;simp at h
theorem si(x:Str):∀l:LS,∃zs:LS,zs.Perm (x::l)/\(∀p:Str,Spec.ltCps x.cps.toList p.cps.toList=false->PyProof.Rows.risingS p l=true->PyProof.Rows.risingS p zs=true)/\(PyProof.Rows.sortedS l=true->PyProof.Rows.sortedS zs=true)
 |[]=>⟨[x],.refl _,λp h _=>by simp[PyProof.Rows.risingS,h],λ_=>rfl⟩
 |y::r=>by
  by_cases lt:Spec.ltCps y.cps.toList x.cps.toList=true
  .obtain⟨zs,pm,h1,h2⟩:=si x r
   have ns:Spec.ltCps x.cps.toList y.cps.toList=false:=by
    rw[PyProof.Rows.ltCps_eq,decide_eq_true_iff]at lt;rw[PyProof.Rows.ltCps_eq,decide_eq_false_iff_not];exact λz=>List.lt_irrefl _ (List.lt_trans lt z)
   refine⟨y::zs,((List.perm_cons y).mpr pm).trans (List.Perm.swap _ _ _),λp _ hr=>?_,λa=>h1 y ns a⟩;have hr:(!Spec.ltCps y.cps.toList p.cps.toList && PyProof.Rows.risingS y r)=true:=hr;show(!Spec.ltCps y.cps.toList p.cps.toList && PyProof.Rows.risingS y zs)=true;rw[Bool.and_eq_true]at hr ⊢;exact⟨hr.1,h1 y ns hr.2⟩
  .have lt:=Bool.eq_false_iff.mpr lt;refine⟨x::y::r,.refl _,λp b hr=>?_,λa=>?_⟩
   .have hr:(!Spec.ltCps y.cps.toList p.cps.toList && PyProof.Rows.risingS y r)=true:=hr;rw[Bool.and_eq_true]at hr;show(!Spec.ltCps x.cps.toList p.cps.toList && (!Spec.ltCps y.cps.toList x.cps.toList && PyProof.Rows.risingS y r))=true;rw[b,lt,hr.2]
    rfl
   .show(!Spec.ltCps y.cps.toList x.cps.toList && PyProof.Rows.risingS y r)=true;rwa[lt]
theorem uy:∀l:LS,∃zs:LS,zs.Nodup/\(∀k,k∈zs↔k∈l)/\PyProof.Rows.sortedS zs=true
 |[]=>⟨[],List.nodup_nil,λ_=>Iff.rfl,U⟩
 |x::l=>by
  obtain⟨zs,nd,a,so⟩:=uy l;by_cases hx:x∈zs
  .exact⟨zs,nd,λk=>⟨λh=>qp _ ((a k).mp h),λh=>by
    rcases qw.mp h with rfl|h
    .exact hx
    .exact(a k).mpr h⟩,so⟩
  .obtain⟨ys,pm,_,b⟩:=si x zs;exact⟨ys,pm.nodup_iff.mpr (List.nodup_cons.mpr ⟨hx,nd⟩),λk=>by rw[pm.mem_iff,qw,qw,a],b so⟩
theorem Aw(l:LS)(k:Str):k∈srt l↔k∈l:=by
 have h:=uy l;unfold srt;rw[dif_pos h];exact(Classical.choose_spec h).2.1 k
noncomputable def NC(p:Nat->Bool):Nat->Nat
 |0=>0
 |m+1=>NC p m+if p m=true then 1 else 0
theorem tI(p:Nat->Bool){m:Nat}(h:m<=n):NC p m<=NC p n:=by
 induction n with
 |zero=>rw[Nat.le_zero.mp h];exact qf _
 |succ n a=>
  by_cases e:m=n+1
  .rw[e];exact qf _
  .exact qC (a Yo) (Nat.le_add_right _ _)
theorem mN{q:Nat->Bool}{m:Nat}(h:∀j,j<m->p j=true->q j=true):NC p m<=NC q m:=by
 induction m with
 |zero=>exact qf _
 |succ m a=>
  have i:=a λj _=>h j Yo;unfold NC;by_cases e:p m=true
  .rw[Q5 e,Q5 (h m Yo e)];omega
  .rw[Q4 e];split<;>omega
theorem GS{q:Nat->Bool}{m:Nat}(h:∀j,j<m->p j=q j):NC p m=NC q m:=
 Nat.le_antisymm (mN λj a e=>by rwa[<- h j a]) (mN λj a e=>by rwa[h j a])
theorem yS{m:Nat}(b:m<=n)(h:∀j,m<=j->j<n->p j=false):NC p n=NC p m:=by
 induction n with
 |zero=>rw[Nat.le_zero.mp b]
 |succ n a=>
  by_cases e:m=n+1
  .rw[e]
  .unfold NC;rw[a Yo λj c _=>h j c Yo,Q4 (by rw[h n Yo Yo];simp),Nat.add_zero];cases m<;>rfl
theorem GR{m:Nat}(h:p j=true)(lt:j<m):NC p j<NC p m:=by
 have:=tI p (show j+1<=m from lt);rw[NC,Q5 h]at this;omega
theorem GT{q:Nat->Bool}{x:Nat}(lt:x<n)(a:p x=false)(e:∀j,j≠x->q j=p j):NC q n=NC p n+if q x=true then 1 else 0:=by
 induction n with
 |zero=>omega
 |succ n b=>
  unfold NC;by_cases z:x=n
  .subst z;rw[GS (q:=p) λj _=>e j Yo,a];simp
  .rw[b Yo,e n (Ne.symm z)];omega
theorem yT(p:Nat->Bool)(n:Nat):∀{o:LG},o.Nodup->(∀j∈o,j<n)->(o.filter p).length=NC (λj=>decide (j∈o) && p j) n
 |[],_,_=>by rw[yS (qv n) λj _ _=>by simp];rfl
 |x::o,nd,lt=>by
  have nx:=(List.nodup_cons.mp nd).1;have b:=yT p n (List.nodup_cons.mp nd).2 λj a=>lt j (qp _ a);rw[GT (p:=λj=>decide (j∈o) && p j) (x:=x) (lt x qq) (by simp[nx]) λj a=>by simp[a],<- b];by_cases e:p x=true
  .rw[List.filter_cons_of_pos e,Q5 (by simp[e])];rfl
  .rw[List.filter_cons_of_neg e,Q4 (by simp[e])];rfl
noncomputable def atP(rs:List Row)(P:Row->Bool)(j:Nat):Bool:=(rs[j]?).any P
theorem mC(rs:List Row)(P:Row->Bool):∀o:LG,((dnR rs o).filter P).length=(o.filter (atP rs P)).length
 |[]=>rfl
 |x::o=>by
  have a:=mC rs P o;unfold dnR at a ⊢
  cases e:rs[x]? with
  |none=>rw[List.filterMap_cons_none e,a,List.filter_cons_of_neg (by simp[atP,e])]
  |some r=>
   rw[List.filterMap_cons_some e];by_cases h:P r=true
   .rw[List.filter_cons_of_pos h,List.filter_cons_of_pos (by simp[atP,e,h]),qE,qE,a]
   .rw[List.filter_cons_of_neg h,List.filter_cons_of_neg (by simp[atP,e,h]),a]
theorem fW(rs:List Row)(P:Row->Bool):∀k,k<=rs.length->((rs.take k).filter P).length=NC (atP rs P) k
 |0,_=>rfl
 |k+1,hk=>by
  have hr:rs[k]?=some (rs[k]' Yo):=qd _;rw[qu,hr,Qv,qc,fW rs P k Yo,NC]
  congr 1
  show([rs[k]' Yo].filter P).length=_;unfold atP;rw[hr];by_cases h:P (rs[k]' Yo)=true<;>simp[h]
structure DnO(rs:List Row)(o:LG):Prop where
 nd:o.Nodup
 lt:∀j∈o,j<rs.length
theorem DnO.count{o:LG}(h:DnO rs o)(P:Row->Bool):((dnR rs o).filter P).length=NC (λj=>decide (j∈o) && atP rs P j) rs.length:=by
 rw[mC,yT _ rs.length h.nd h.lt]
def Pre(rs:List Row)(o:LG)(P:Row->Bool):Prop:=∀i j,atP rs P i=true->atP rs P j=true->i<j->j∈o->i∈o
theorem DnO.ge{o:LG}(h:DnO rs o){P:Row->Bool}{k:Nat}(hk:k<=rs.length)(all:∀j,j<k->atP rs P j=true->j∈o):((rs.take k).filter P).length<=((dnR rs o).filter P).length:=by
 rw[h.count,fW rs P k hk];exact qC (mN λj a e=>by simp[e,all j a e]) (tI _ hk)
theorem DnO.le{o:LG}(h:DnO rs o){P:Row->Bool}{k:Nat}(hk:k<=rs.length)(no:∀j,k<=j->atP rs P j=true->j∉o):((dnR rs o).filter P).length<=((rs.take k).filter P).length:=by
 rw[h.count,fW rs P k hk,yS hk λj a _=>by
  by_cases e:atP rs P j=true
  .simp[no j a e]
  .simp[e]]
 exact mN λj _ e=>by simp at e;exact e.2
theorem kq{P:Row->Bool}{k:Nat}(a:atP rs P j=true)(lt:j<k)(hk:k<=rs.length):((rs.take j).filter P).length<((rs.take k).filter P).length:=by
 rw[fW rs P j Yo,fW rs P k hk];exact GR a lt
noncomputable def dE(c:Str)(r:Row):Bool:=decide (c∈r.owns)
theorem pS{R:List Row}(nd:∀r∈R,r.owns.Nodup)(c:Str):cnO R c=(R.filter (dE c)).length:=by
 induction R with
 |nil=>rfl
 |cons r R a=>
  have a:=a λr hr=>nd r (qp _ hr);unfold cnO at a ⊢;rw[qI,List.count_append,a];by_cases hc:c∈r.owns
  .rw[List.filter_cons_of_pos (by simp[dE,hc]),qE,Nat.le_antisymm (List.nodup_iff_count.mp (nd r qq) c) (List.count_pos_iff.mpr hc)];omega
  .rw[List.filter_cons_of_neg (by simp[dE,hc]),List.count_eq_zero.mpr hc];omega
structure Clo(rs:List Row)(ln:Str->Int)(o:LG):Prop where
 dn:DnO rs o
 wt:∀k r,k∈o->rs[k]?=some r->∀e∈cM rs ln k r,∃j:Nat,e.1=(j:Int)/\j∈o
structure db(rs:List Row):Prop where
 nd:∀r∈rs,r.owns.Nodup
 ow:∀r∈rs,fE r
 pi:∀r∈rs,∀q,r.into=some q->q++(">":Str)∈r.owns
 po:∀r∈rs,∀q,r.outof=some q->q++("<":Str)∈r.owns
 fed:Fed rs
 ends:∀r',rs[rs.length-1]?=some r'->r'.into=none/\r'.outof=none/\∀r∈rs,∀c∈r.owns,c∈r'.owns
theorem gu:atP rs (dE c) j=true↔∃r,rs[j]?=some r/\c∈r.owns:=by
 unfold atP dE;cases rs[j]?<;>simp
theorem Ed{k:Nat}(a:c∈r.owns)(h:bO (rs.take k) c=some (j:Int)):((j:Int),("card":Str),c)∈cM rs ln k r:=by
 unfold cM eG dH;refine qY _ (qY _ (qY _ (List.mem_filterMap.mpr ⟨c,a,?_⟩)));rw[h]
 rfl
theorem jT(nd:∀r∈rs,r.owns.Nodup)(c:Str)(k:Nat):cnO (rs.take k) c=((rs.take k).filter (dE c)).length:=pS (λr hr=>nd r (List.mem_of_mem_take hr)) c
theorem xy(nd:∀r∈rs,r.owns.Nodup){k:Nat}(hk:k<=rs.length)(f:atP rs (dE c) i=true)(lt:i<k):∃j:Nat,bO (rs.take k) c=some (j:Int)/\i<=j/\j<k/\atP rs (dE c) j=true:=by
 obtain⟨l1,l2⟩:=jL nd c k hk;have p:=kq f lt hk;rw[jT nd,Q6 Yo]at l1
 cases e:bO (rs.take k) c with
 |none=>rw[e]at l1;simp at l1
 |some n=>
  obtain⟨j,d,rfl,h,hr,l,g⟩:=l2 n e;have b:atP rs (dE c) j=true:=gu.mpr ⟨d,hr,l⟩;refine⟨j,U,?_,h,b⟩;by_cases z:i<=j
  .exact z
  .have a:=kq b (show j<i by omega) (by omega);rw[jT nd,jT nd]at g;omega
theorem Clo.chain{o:LG}(C:Clo rs ln o)(nd:∀r∈rs,r.owns.Nodup)(c:Str):Pre rs o (dE c):=λi j=>by
 induction j using Nat.strongRecOn with
 |_ j h=>
  intro a g lt f;obtain⟨b,e,le,l2,h'⟩:=xy nd (Nat.le_of_lt (C.dn.lt j f)) a lt;obtain⟨r,hr,k⟩:=gu.mp g;obtain⟨x,ex,d⟩:=C.wt j r f hr _ (Ed k e);have ex:(b:Int)=(x:Int):=ex;have:x=b:=Yo;subst this;by_cases z:i=x
  .rwa[z]
  .exact h x l2 a h' Yo d
theorem Clo.owners{o:LG}(C:Clo rs ln o)(nd:∀r∈rs,r.owns.Nodup){k:Nat}(hk:k<=rs.length)(h:∀j:Nat,bO (rs.take k) c=some (j:Int)->j∈o):∀i,i<k->atP rs (dE c) i=true->i∈o:=λi lt a=>by
 obtain⟨j,e,le,_,h'⟩:=xy nd hk a lt;by_cases z:i=j
 .rw[z];exact h j e
 .exact C.chain nd c i j a h' Yo (h j e)
theorem y7{o:LG}(h:r∈dnR rs o):r∈rs:=by
 obtain⟨j,_,e⟩:=List.mem_filterMap.mp h;exact qD e
theorem Clo.card_ge{o:LG}(C:Clo rs ln o)(nd:∀r∈rs,r.owns.Nodup){k:Nat}(hk:k<=rs.length)(h:∀j:Nat,bO (rs.take k) c=some (j:Int)->j∈o):cnO (rs.take k) c<=cnO (dnR rs o) c:=by
 rw[jT nd,pS λr hr=>nd r (y7 hr)];exact C.dn.ge hk (C.owners nd hk h)
theorem Clo.card_lt{o:LG}(C:Clo rs ln o)(nd:∀r∈rs,r.owns.Nodup){k:Nat}(hk:k<=rs.length)(h:bO (rs.take k) c=some (j:Int))(b:j∉o):cnO (dnR rs o) c<cnO (rs.take k) c:=by
 obtain⟨a,g,e,m,hr,n,_⟩:=(jL nd c k hk).2 _ h;have:a=j:=Yo;subst this;have d:atP rs (dE c) a=true:=gu.mpr ⟨g,hr,n⟩;rw[jT nd,pS λr hr=>nd r (y7 hr)];refine Nat.lt_of_le_of_lt (C.dn.le (k:=a) Yo λi le l f=>?_) (kq d m hk);by_cases z:i=a
 .exact b (z▸f)
 .exact b (C.chain nd c a i d l Yo f)
noncomputable def isP(f:Row->Option Str)(q:Str)(r:Row):Bool:=decide (f r=some q)
theorem fD{f:Row->Option Str}{q:Str}:atP rs (isP f q) j=true↔∃r,rs[j]?=some r/\f r=some q:=by
 unfold atP isP;cases rs[j]?<;>simp
theorem Clo.pre{o:LG}(C:Clo rs ln o)(nd:∀r∈rs,r.owns.Nodup){f:Row->Option Str}{q:Str}(own:∀r∈rs,f r=some q->c∈r.owns):Pre rs o (isP f q):=λi j e d=>by
 obtain⟨r,hr,h⟩:=fD.mp e;obtain⟨b,a,h'⟩:=fD.mp d;exact C.chain nd c i j (gu.mpr ⟨r,hr,own r (qD hr) h⟩) (gu.mpr ⟨b,a,own b (qD a) h'⟩)
theorem pO{o:LG}(D:DnO rs o){P:Row->Bool}(p:Pre rs o P)(b:atP rs P j=true)(a:j∈o):((rs.take j).filter P).length+1<=((dnR rs o).filter P).length:=by
 have l:=D.lt j a;refine qC (kq b (Qe j) l) (D.ge l λi _ h=>?_);by_cases z:i=j
 .rwa[z]
 .exact p i j h b Yo a
theorem pN{o:LG}(D:DnO rs o){P:Row->Bool}(p:Pre rs o P)(l:j<rs.length)(c:atP rs P j=true)(b:j∉o):((dnR rs o).filter P).length<=((rs.take j).filter P).length:=
 D.le Yo λi le h a=>by
  by_cases z:i=j
  .exact b (z▸a)
  .exact b (p j i c h Yo a)
theorem wg{o:LG}(D:DnO rs o){P:Row->Bool}(p:Pre rs o P){k:Nat}(l:k<rs.length)(hk:atP rs P k=true)(a:k∉o)(all:∀i,i<k->atP rs P i=true->i∈o):((dnR rs o).filter P).length=((rs.take k).filter P).length:=
 Nat.le_antisymm (pN D p l hk a) (D.ge Yo all)
theorem mI(R:List Row)(q:Str):bal R q=((R.filter (isP Row.into q)).length:Int)-((R.filter (isP Row.outof q)).length:Int):=U
theorem jE(f:Row->Option Str)(rs:List Row)(q:Str):(ar f rs q).length=(rs.filter (isP f q)).length:=rq f q rs
theorem Clo.pin{o:LG}(C:Clo rs ln o)(R:db rs)(q:Str):Pre rs o (isP Row.into q):=C.pre R.nd λr hr h=>R.pi r hr q h
theorem Clo.pout{o:LG}(C:Clo rs ln o)(R:db rs)(q:Str):Pre rs o (isP Row.outof q):=C.pre R.nd λr hr h=>R.po r hr q h
theorem mV(R:db rs){k:Nat}{q:Str}(h:rs[k]?=some r)(g:r.outof=some q):∃(j:Nat)(c:Row),(ar Row.into rs q).getD (ar Row.outof (rs.take k) q).length 0=(j:Int)/\rs[j]?=some c/\c.into=some q/\((rs.take j).filter (isP Row.into q)).length=((rs.take k).filter (isP Row.outof q)).length:=by
 have f:=xZ R.fed h g
 have ex:(ar Row.into (rs.take rs.length) q)[(ar Row.outof (rs.take k) q).length]?=some ((ar Row.into rs q).getD (ar Row.outof (rs.take k) q).length 0):=by
  rw[qK,qo,qd f]
  rfl
 obtain⟨j,c,e,a,b,d⟩:=lG rs.length (qf _) _ _ ex;exact⟨j,c,e,a,b,by rwa[<- jE,<- jE]⟩
theorem Ec{k:Nat}{q:Str}(a:r.outof=some q):((ar Row.into rs q).getD (ar Row.outof (rs.take k) q).length 0,("thing":Str),q)∈cM rs ln k r:=by
 unfold cM eO;rw[a];exact qY _ (qL _ (qV.mpr U))
theorem Clo.bal_pos{o:LG}(C:Clo rs ln o)(R:db rs)(q:Str):0<=bal (dnR rs o) q:=by
 rw[mI]
 have:((dnR rs o).filter (isP Row.outof q)).length<=((dnR rs o).filter (isP Row.into q)).length:=by
  rw[mC rs (isP Row.outof q)];by_cases z:∃g,g∈o/\atP rs (isP Row.outof q) g=true
  .have E:∀m,(∃g,g∈o/\atP rs (isP Row.outof q) g=true/\g<m)->∃g,g∈o/\atP rs (isP Row.outof q) g=true/\g<m/\∀x,x∈o->atP rs (isP Row.outof q) x=true->x<m->x<=g:=λm=>by
    induction m with
    |zero=>rintro⟨g,_,_,h⟩;omega
    |succ m F=>
     rintro⟨g,go,f,lt⟩;by_cases y:m∈o/\atP rs (isP Row.outof q) m=true
     .exact⟨m,y.1,y.2,Qe _,λx _ _ h=>Yo⟩
     .obtain⟨g',a,b,c,d⟩:=F ⟨g,go,f,by
       have:g≠m:=λe=>y ⟨e▸go,e▸f⟩
       omega⟩
      refine⟨g',a,b,Yo,λx n t h=>?_⟩;have:x≠m:=λe=>y ⟨e▸n,e▸t⟩;exact d x n t Yo
   obtain⟨B,p,A⟩:=z;obtain⟨g,go,f,_,top⟩:=E rs.length ⟨B,p,A,C.dn.lt _ p⟩;obtain⟨r,hr,u⟩:=fD.mp f;obtain⟨j,D,e,w,s,num⟩:=mV R hr u;obtain⟨x,ex,n⟩:=C.wt g r go hr _ (Ec u);have ex:(ar Row.into rs q).getD (ar Row.outof (rs.take g) q).length 0=(x:Int):=ex;have:x=j:=Yo;subst this;have a:=pO C.dn (C.pin R q) (fD.mpr ⟨D,w,s⟩) n;rw[<- mC rs (isP Row.outof q)];have l:=C.dn.lt g go
   have b:=C.dn.le (P:=isP Row.outof q) (k:=g+1) l λi le s v=>by
    have:=top i v s (C.dn.lt i v);omega
   have c:((rs.take (g+1)).filter (isP Row.outof q)).length=((rs.take g).filter (isP Row.outof q)).length+1:=by
    rw[fW _ _ _ l,fW _ _ _ Yo,NC,Q5 f]
   omega
  .rw[List.filter_eq_nil_iff.mpr λg go e=>z ⟨g,go,e⟩];exact qv _
 omega
theorem Clo.thing{o:LG}(C:Clo rs ln o)(R:db rs){k:Nat}{q:Str}(h:rs[k]?=some r)(p:k∉o)(f:r.outof=some q)(all:∀i,i<k->atP rs (dE (q++("<":Str))) i=true->i∈o):ci o ((ar Row.into rs q).getD (ar Row.outof (rs.take k) q).length 0,("thing":Str),q)↔bal (dnR rs o) q≠0:=by
 have l:=(qg.mp h).1;obtain⟨j,m,e,a,b,num⟩:=mV R h f
 have u:=wg C.dn (C.pout R q) l (fD.mpr ⟨r,h,f⟩) p λi lt b=>by
  obtain⟨d,g,s⟩:=fD.mp b;exact all i lt (gu.mpr ⟨d,g,R.po d (qD g) q s⟩)
 have c:=fD.mpr ⟨m,a,b⟩;have t:=(qg.mp a).1;have b0:=C.bal_pos R q;rw[mI]at b0 ⊢;rw[e];constructor
 .rintro⟨x,ex,n⟩;have ex:(j:Int)=(x:Int):=ex;have:x=j:=Yo;subst this;have:=pO C.dn (C.pin R q) c n;omega
 .intro _;by_cases jo:j∈o
  .exact⟨j,U,jo⟩
  .have:=pN C.dn (C.pin R q) t c jo;omega
theorem Clo.room{o:LG}(C:Clo rs ln o)(R:db rs){k:Nat}{q:Str}(h:rs[k]?=some r)(s:k∉o)(c:r.into=some q)(all:∀i,i<k->atP rs (dE (q++(">":Str))) i=true->i∈o):(∀e∈roomV rs ln k r,ci o e)↔bal (dnR rs o) q<ln q:=by
 have u:=(qg.mp h).1
 have F:=wg C.dn (C.pin R q) u (fD.mpr ⟨r,h,c⟩) s λi lt c=>by
  obtain⟨m,g,D⟩:=fD.mp c;exact all i lt (gu.mpr ⟨m,g,R.pi m (qD g) q D⟩)
 have y:=jE Row.into (rs.take k) q;have H:=jE Row.outof rs q;rw[mI,F,<- y];unfold roomV ja;rw[c];show(∀e∈(if 0<=((ar Row.into (rs.take k) q).length:Int)-ln q then[(awaited rs.length (ar Row.outof rs q) (((ar Row.into (rs.take k) q).length:Int)-ln q).toNat,("room":Str),q)]else[]),ci o e)↔_;by_cases z:0<=((ar Row.into (rs.take k) q).length:Int)-ln q
 .rw[Q5 z];unfold awaited;by_cases t:(((ar Row.into (rs.take k) q).length:Int)-ln q).toNat<(ar Row.outof rs q).length
  .rw[Q5 t]
   have ex:(ar Row.outof (rs.take rs.length) q)[(((ar Row.into (rs.take k) q).length:Int)-ln q).toNat]?=some ((ar Row.outof rs q).getD (((ar Row.into (rs.take k) q).length:Int)-ln q).toNat 0):=by
    rw[qK,qo,qd t]
    rfl
   obtain⟨j,v,E,a,b,d⟩:=lG rs.length (qf _) _ _ ex;rw[jE]at d;have G:=(qg.mp a).1;have f:=fD.mpr ⟨v,a,b⟩;rw[E];constructor
   .intro w;obtain⟨x,ex,p⟩:=w _ (qV.mpr U);have ex:(j:Int)=(x:Int):=ex;have:x=j:=Yo;subst this;have:=pO C.dn (C.pout R q) f p;omega
   .intro lt e n;rw[qV.mp n];by_cases jo:j∈o
    .exact⟨j,U,jo⟩
    .have:=pN C.dn (C.pout R q) G f jo;omega
  .rw[Q4 t];obtain⟨rl,hl⟩:∃rl,rs[rs.length-1]?=some rl:=⟨_,qd Yo⟩;obtain⟨l1,l2,A⟩:=R.ends _ hl
   have no:rs.length-1∉o:=λB=>by
    have l:=qD h
    have ne:k≠rs.length-1:=λe=>by
     rw[<- e,h]at hl;rw[<- qM hl,c]at l1;cases l1
    exact s (C.chain R.nd (q++(">":Str)) k (rs.length-1) (gu.mpr ⟨r,h,R.pi r l q c⟩) (gu.mpr ⟨_,hl,A r l _ (R.pi r l q c)⟩) Yo B)
   have top:=C.dn.le (P:=isP Row.outof q) (k:=rs.length) (qf _) λj le f=>by
    obtain⟨m,g,_⟩:=fD.mp f;have:=(qg.mp g).1;omega
   rw[qK]at top;constructor
   .intro w;obtain⟨x,ex,p⟩:=w _ (qV.mpr U);have ex:(rs.length:Int)-1=(x:Int):=ex;have:x=rs.length-1:=Yo;exact Q8 (this▸p) no
   .intro lt;omega
 .rw[Q4 z];exact⟨λ_=>Yo,λ_ e n=>by simp at n⟩
theorem Clo.card_iff{o:LG}(C:Clo rs ln o)(R:db rs){k:Nat}(h:rs[k]?=some r):(∀e∈eG (rs.take k) r,ci o e)↔eN rs (dnR rs o) k r:=by
 have m:=(qg.mp h).1
 have mem:∀{kd:Str}{d:LS}{e:Wat},e∈dH (bO (rs.take k)) kd d↔∃c∈d,∃n,bO (rs.take k) c=some n/\e=(n,kd,c):=λ{kd d e}=>by
  unfold dH;constructor
  .intro b;obtain⟨c,a,g⟩:=List.mem_filterMap.mp b;obtain⟨n,hn,l⟩:=qS.mp g;exact⟨c,a,n,hn,l.symm⟩
  .rintro⟨c,a,n,hn,rfl⟩;exact List.mem_filterMap.mpr ⟨c,a,by rw[hn];rfl⟩
 unfold eG eN;constructor
 .intro w c a;refine C.card_ge R.nd Yo λj f=>?_
  have:ci o ((j:Int),(if c∈r.owns then("card":Str)else "copy"),c):=by
   refine w _ (qi.mpr ?_);by_cases z:c∈r.owns
   .rw[Q5 z];exact .inl (mem.mpr ⟨c,z,_,f,U⟩)
   .rw[Q4 z];exact .inr (mem.mpr ⟨c,a.resolve_left z,_,f,U⟩)
  obtain⟨x,ex,i⟩:=this;have ex:(j:Int)=(x:Int):=ex;have:x=j:=Yo;exact this▸i
 .intro ok e b
  have fin:∀c,(c∈r.owns\/c∈r.reads)->∀n,bO (rs.take k) c=some n->∃j:Nat,n=(j:Int)/\j∈o:=λc a n hn=>by
   obtain⟨j,_,rfl,_⟩:=(jL R.nd c k Yo).2 n hn;exists j,U;by_cases jo:j∈o
   .exact jo
   .have:=C.card_lt R.nd Yo hn jo;have:=ok c a;omega
  rcases qi.mp b with b|b
  .obtain⟨c,a,n,hn,rfl⟩:=mem.mp b;exact fin c (.inl a) n hn
  .obtain⟨c,a,n,hn,rfl⟩:=mem.mp b;exact fin c (.inr a) n hn
theorem Clo.own_all{o:LG}(C:Clo rs ln o)(R:db rs){k:Nat}(h:rs[k]?=some r)(ok:eN rs (dnR rs o) k r)(a:c∈r.owns):∀i,i<k->atP rs (dE c) i=true->i∈o:=by
 have d:=(qg.mp h).1;refine C.owners R.nd Yo λj b=>?_;by_cases jo:j∈o
 .exact jo
 .have:=C.card_lt R.nd Yo b jo;have:=ok c (.inl a);omega
theorem Clo.thing_iff{o:LG}(C:Clo rs ln o)(R:db rs){k:Nat}(h:rs[k]?=some r)(b:k∉o)(ok:eN rs (dnR rs o) k r):(∀e∈eO rs k r,ci o e)↔gx (dnR rs o) r:=by
 unfold eO gx
 cases ho:r.outof with
 |none=>exact⟨λ_ q z=>(by cases z),λ_ e a=>by simp at a⟩
 |some q=>
  have t:=C.thing R h b ho (C.own_all R h ok (R.po r (qD h) q ho));exact⟨λw _ z=>by cases z;exact t.mp (w _ (qV.mpr U)),λw e a=>by rw[qV.mp a];exact t.mpr (w q U)⟩
theorem Clo.room_iff{o:LG}(C:Clo rs ln o)(R:db rs){k:Nat}(h:rs[k]?=some r)(a:k∉o)(ok:eN rs (dnR rs o) k r):(∀e∈roomV rs ln k r,ci o e)↔iA ln (dnR rs o) r:=by
 unfold iA
 cases hi:r.into with
 |none=>
  unfold roomV;rw[hi];exact⟨λ_ q z=>(by cases z),λ_ e b=>by simp at b⟩
 |some q=>
  have t:=C.room R h a hi (C.own_all R h ok (R.pi r (qD h) q hi));exact t.trans ⟨λw _ z=>by cases z;exact w,λw=>w q U⟩
theorem FJ(R:db rs){k:Nat}(h:rs[k]?=some r):∀e∈cM rs ln k r,e.2.1≠("room":Str)->∃j:Nat,e.1=(j:Int)/\j<k:=λe a l=>by
 have o:=(qg.mp h).1
 have card:∀{kd:Str}{f:LS},e∈dH (bO (rs.take k)) kd f->∃j:Nat,e.1=(j:Int)/\j<k:=λ{kd f} a=>by
  unfold dH at a;obtain⟨c,_,d⟩:=List.mem_filterMap.mp a;obtain⟨n,hn,rfl⟩:=qS.mp d;obtain⟨j,i,m,lt,_⟩:=(jL R.nd c k Yo).2 n hn;exact⟨j,m,lt⟩
 unfold cM eG at a;rw[qi,qi,qi]at a;rcases a with((a|a)|a)|a
 .exact card a
 .exact card a
 .unfold eO at a
  cases eo:r.outof with
  |none=>rw[eo]at a;simp at a
  |some q=>
   rw[eo]at a;rw[qV.mp a];obtain⟨j,i,d,g,_,num⟩:=mV R h eo;exists j,d;have b:=R.fed k r q h eo;rw[mI]at b;by_cases z:j<k
   .exact z
   .have p:=(qg.mp g).1;have:=tI (atP rs (isP Row.into q)) (show k<=j by omega);rw[<- fW _ _ _ Yo,<- fW _ _ _ Yo]at this;omega
 .unfold roomV at a;split at a
  .split at a
   .exact Q8 (by rw[qV.mp a]) l
   .simp at a
  .simp at a
theorem ci.more{o a:LG}(h:∀j∈o,j∈a){e:Wat}:ci o e->ci a e:=λ⟨j,b,c⟩=>⟨j,b,h j c⟩
theorem LkI.start(W:List (List Wat)):LkI W 0 [] [] (λ_=>0) (λ_=>[]):=
 ⟨List.nodup_nil,λk h=>(nomatch h),λt k h=>by simp at h,λ_=>qv _,λk e h=>by simp at h,List.nodup_nil,λk h=>(nomatch h),λ_ _=>List.nodup_nil,λ_ _ k h=>(nomatch h),λk h=>Q8 h (QB k)⟩
theorem LkI.push{W:List (List Wat)}{m:Nat}{o:LG}(I:LkI W m o [] zs st):LkI W (m+1) o [m] zs st:=
 ⟨I.nd,λk h=>Qt (I.lt k h),I.ord,I.zl,I.zd,Qu _ _,λk h=>by
  rw[qV.mp h]
  exact⟨Qe m,λz=>Qf m (I.lt m z)⟩,I.sn,λw hw k hk=>by
  obtain⟨a,b,_,d⟩:=I.so w hw k hk
  exact⟨Qt a,b,λz=>by rw[qV.mp z]at a;exact Qf m a,d⟩,λk h=>by
  by_cases e:k=m
  .exact .inr (.inl (qV.mpr e))
  .rcases I.al k Yo with a|a|a
   .exact .inl a
   .exact(nomatch a)
   .exact .inr (.inr a)⟩
theorem LkI.over{W:List (List Wat)}{m:Nat}{o R:LG}(I:LkI W m o R zs st){x z:Nat}(g:x∈R)(f:z<=(wsV W x).length)(hd:∀e∈(wsV W x).take z,ci o e):LkI W m o R (λk=>if k=x then z else zs k) st:=
 ⟨I.nd,I.lt,I.ord,λk=>by
  show(if k=x then z else zs k)<=_;by_cases e:k=x
  .rwa[Q5 e,e]
  .rw[Q4 e];exact I.zl k,λk e=>by
  show e∈(wsV W k).take (if k=x then z else zs k)->_;by_cases c:k=x
  .rw[Q5 c,c];exact hd e
  .rw[Q4 c];exact I.zd k e,I.rn,I.ro,I.sn,λw hw k hk=>by
  obtain⟨a,b,c,d⟩:=I.so w hw k hk;exists a,b,c;have nx:¬ k=x:=λe=>c (by rwa[e]);show ∃e,(wsV W k)[if k=x then z else zs k]?=some e/\e.1=(w:Int);rw[Q4 nx]
  exact d,I.al⟩
theorem LkI.done{W:List (List Wat)}{m:Nat}{o R:LG}{x:Nat}(I:LkI W m o (R++[x]) zs st)(all:∀e∈wsV W x,ci o e):LkI W m (o++[x]) (R++st x) zs st:=by
 obtain⟨s,i⟩:=I.ro x (qL _ (qV.mpr U));have rn:=List.nodup_append.mp I.rn;have n:∀{k},k∈o->k∈o++[x]:=λh=>qY _ h;have no:∀{w},w∉o++[x]->w∉o/\w≠x:=λh=>⟨λz=>h (n z),λz=>h (qL _ (qV.mpr z))⟩;have d:∀{k},k∉o->k≠x->k∉o++[x]:=λy v z=>(qi.mp z).elim y λz=>v (qV.mp z);have f:∀{k},k∈R->k∈R++[x]:=λh=>qY _ h;have p:x∈R++[x]:=qL _ (qV.mpr U);refine⟨?_,?_,?_,I.zl,λk e h=>(I.zd k e h).more λj=>n,?_,?_,λw hw=>I.sn w (no hw).1,?_,?_⟩
 .rw[List.nodup_append];exact⟨I.nd,Qu _ _,λa ha b hb z=>i (by rwa[<- qV.mp hb,<- z])⟩
 .intro k hk;rcases qi.mp hk with hk|hk
  .exact I.lt k hk
  .rwa[qV.mp hk]
 .intro t k hk e g;by_cases tl:t<o.length
  .rw[Q9 tl]at hk;rw[List.take_append_of_le_length Yo];exact I.ord t k hk e g
  .rw[qO Yo]at hk
   have:t-o.length=0:=by
    have:=(qg.mp hk).1;simp at this;omega
   rw[this]at hk;cases hk;have:t=o.length:=Yo;rw[this,List.take_left];exact all e g
 .rw[List.nodup_append];exact⟨rn.1,I.sn x i,λa ha b hb z=>(I.so x i b hb).2.2.1 (by rw[<- z];exact f ha)⟩
 .intro k hk;rcases qi.mp hk with hk|hk
  .obtain⟨a,b⟩:=I.ro k (f hk);exact⟨a,d b λz=>rn.2.2 k hk x (qV.mpr U) z⟩
  .obtain⟨a,b,c,_⟩:=I.so x i k hk;exact⟨a,d b λz=>c (z▸p)⟩
 .intro w hw k hk;obtain⟨r,q⟩:=no hw;obtain⟨a,b,c,e,g,u⟩:=I.so w r k hk;refine⟨a,d b λz=>c (z▸p),λz=>?_,e,g,u⟩;rcases qi.mp z with z|z
  .exact c (f z)
  .obtain⟨_,_,_,_,l,_⟩:=I.so x i k z;rw[g]at l;cases l;exact q Yo
 .intro k hk;rcases I.al k hk with a|a|⟨w,hw,a⟩
  .exact .inl (n a)
  .rcases qi.mp a with a|a
   .exact .inr (.inl (qY _ a))
   .exact .inl (qL _ a)
  .by_cases z:w=x
   .exact .inr (.inl (qL _ (z▸a)))
   .exact .inr (.inr ⟨w,d hw z,a⟩)
theorem LkI.stick{W:List (List Wat)}{m:Nat}{o R:LG}{x w:Nat}{e:Wat}(I:LkI W m o (R++[x]) zs st)(l:(wsV W x)[zs x]?=some e)(q:e.1=(w:Int))(i:w∉o):LkI W m o R zs (λk=>if k=w then st w++[x]else st k):=by
 have j:x∈R++[x]:=qL _ (qV.mpr U);obtain⟨n,p⟩:=I.ro x j;have rn:=List.nodup_append.mp I.rn;have g:∀{k},k∈R->k∈R++[x]:=λh=>qY _ h;refine⟨I.nd,I.lt,I.ord,I.zl,I.zd,rn.1,λk h=>I.ro k (g h),λv f=>?_,λv f k hk=>?_,λk hk=>?_⟩
 .show(if v=w then st w++[x]else st v).Nodup;by_cases z:v=w
  .rw[Q5 z,List.nodup_append];exact⟨I.sn w i,Qu _ _,λa ha b hb z=>(I.so w i a ha).2.2.1 (by rwa[z,qV.mp hb])⟩
  .rw[Q4 z];exact I.sn v f
 .have hk:k∈(if v=w then st w++[x]else st v):=hk;by_cases z:v=w
  .rw[Q5 z]at hk;rcases qi.mp hk with hk|hk
   .obtain⟨a,b,c,d⟩:=I.so w i k hk;exact⟨a,b,λy=>c (g y),z▸d⟩
   .rw[qV.mp hk];exact⟨n,p,λy=>rn.2.2 x y x (qV.mpr U) U,e,l,z▸q⟩
  .rw[Q4 z]at hk;obtain⟨a,b,c,d⟩:=I.so v f k hk;exact⟨a,b,λy=>c (g y),d⟩
 .rcases I.al k hk with a|a|⟨v,f,a⟩
  .exact .inl a
  .rcases qi.mp a with a|a
   .exact .inr (.inl a)
   .refine .inr (.inr ⟨w,i,?_⟩);show k∈(if w=w then st w++[x]else st w);rw[Q5 U];exact qL _ a
  .refine .inr (.inr ⟨v,f,?_⟩);show k∈(if v=w then st w++[x]else st v);by_cases z:v=w
   .rw[Q5 z,<- z];exact qY _ a
   .rwa[Q4 z]
theorem yM{H:Hp}:∀{vs:LV}{es:List Wat},RWs H vs es->∀{i:Nat}{e:Wat},es[i]?=some e->∃p,vs[i]?=some (.ref p)/\H p=some (fc e)
 |_,_,.nil,i,e,h=>by simp at h
 |_,_,.cons h1 r,0,e,h=>by cases h;exact⟨_,U,h1⟩
 |_,_,.cons _ r,i+1,e,h=>yM r h
theorem bp.put(M:bp H0 H ow cn)(i:Nat){x:Addr}{o:HO}(h:ow[i]?=some x):bp H0 (upd H x o) ow (cn.set i o):=
 ⟨λc p b=>by rw[ag λz=>by rw[z,M.nw x (qD h)]at b;cases b];exact M.sa c p b,M.nd,M.nw,λ{j y p} d a=>by
  by_cases e:i=j
  .subst e;rw[h]at d;cases d;rw[List.getElem?_set_self']at a
   cases b:cn[i]? with
   |none=>rw[b]at a;cases a
   |some q=>rw[b]at a;rw[<- qM a];exact ah
  .rw[List.getElem?_set_ne e]at a;rw[ag λz=>e ((List.getElem?_inj (qg.mp h).1 M.nd).mp (by rw[h,d,z]))]
   exact M.av d a⟩
theorem bp.same(M:bp H0 H ow cn)(s:a8 H H'):bp H0 H' ow cn:=⟨M.sa.trans s,M.nd,M.nw,λa b=>s _ _ (M.av a b)⟩
theorem bp.low{G:Hp}(M:bp G H ow cn)(s:a8 H0 G):bp H0 H ow cn:=⟨s.trans M.sa,M.nd,λx a=>a8.none s (M.nw x a),M.av⟩
theorem bp.side{G:Hp}(M:bp G H ow cn){c:Addr}(d:c∉ow)(o:HO):bp (upd G c o) (upd H c o) ow cn:=
 ⟨λx p a=>by
  by_cases e:x=c
  .rw[e,ah]at a ⊢;exact a
  .rw[ag e]at a ⊢;exact M.sa x p a,M.nd,λx a=>by rw[ag λz=>d (by rwa[<- z])];exact M.nw x a,λ{i x p} b f=>by rw[ag λz=>d (by rw[<- z];exact qD b)];exact M.av b f⟩
theorem iP{G:Hp}(s:a8 H0 G){c:Addr}(h:H0 c=none)(o:HO):a8 H0 (upd G c o):=λx p a=>by
 rw[ag λz=>by rw[z,h]at a;cases a];exact s x p a
theorem pA(f g:Nat->α)(n x:Nat)(v:α)(h:∀j,g j=if j=x then v else f j):((List.range n).map f).set x v=(List.range n).map g:=by
 refine List.ext_getElem? λj=>?_;rw[qH];by_cases hj:j<n
 .rw[List.getElem?_range hj];show _=some (g j);rw[h j];by_cases e:x=j
  .subst e;rw[List.getElem?_set_self (by rwa[qa,Qh]),Q5 U]
  .rw[List.getElem?_set_ne e,qH,List.getElem?_range hj,Q4 (Ne.symm e)]
   rfl
 .rw[Qs (by rw[List.length_set,qa,Qh];omega),Qs (by rw[Qh];omega)]
  rfl
theorem LkS.same{H H':Hp}{L:LkA}{W:List (List Wat)}(S:LkS a H L W)(s:a8 H H'):LkS a H' L W:=⟨s _ _ S.ob,s _ _ S.sk,S.ql,s _ _ S.hw,S.rl.same s,S.sm,S.tg,S.few⟩
section
variable {L:LkA}{W:List (List Wat)}{o:LG}
theorem LkH.od(M:LkH H0 H L W o zs st):H L.lo=some (.lst (aN o)):=bp.av M (i:=0) U U
theorem LkH.fi(M:LkH H0 H L W o zs st):H L.lf=some (.lst ((List.range W.length).map λj:Nat=>V.bl (decide (j∈o)))):=bp.av M (i:=1) U U
theorem LkH.ov(M:LkH H0 H L W o zs st):H L.lv=some (.lst ((List.range W.length).map λj:Nat=>V.int (zs j))):=bp.av M (i:=2) U U
theorem LkH.q(M:LkH H0 H L W o zs st){q:Addr}(b:L.qs[j]?=some q)(a:j<W.length):H q=some (.lst (aN (st j))):=bp.av M (i:=j+3) b (by
 show((List.range W.length).map _)[j]?=_;rw[qH,List.getElem?_range a]
 rfl)
theorem LkH.set(M:LkH H0 H L W o zs st){x z:Nat}:LkH H0 (upd H L.lv (.lst (((List.range W.length).map λj:Nat=>V.int (zs j)).set x (.int z)))) L W o (λk=>if k=x then z else zs k) st:=by
 rw[pA _ (λj:Nat=>V.int ((λk=>if k=x then z else zs k) j)) _ _ _ λj=>by show V.int ((if j=x then z else zs j:Nat):Int)=_;split<;>rfl];exact bp.put M 2 U
theorem LkH.ord(M:LkH H0 H L W o zs st){x:Nat}:bp H0 (upd H L.lo (.lst (aN o++[.int x]))) (L.lo::L.lf::L.lv::L.qs) (.lst (aN (o++[x]))::(cnL W.length o zs st).tail):=by
 rw[show aN o++[V.int x]=aN (o++[x])by unfold aN;rw[qR];rfl];exact bp.put M 0 U
theorem LkH.fin{x:Nat}(M:bp H0 H (L.lo::L.lf::L.lv::L.qs) (.lst (aN (o++[x]))::(cnL W.length o zs st).tail)):LkH H0 (upd H L.lf (.lst (((List.range W.length).map λj:Nat=>V.bl (decide (j∈o))).set x (.bl true)))) L W (o++[x]) zs st:=by
 rw[pA _ (λj:Nat=>V.bl (decide (j∈o++[x]))) _ _ _ λj=>by
  by_cases e:j=x
  .rw[Q5 e,e,Q6 (qL _ (qV.mpr U))]
  .rw[Q4 e]
   exact congrArg V.bl (decide_eq_decide.mpr ⟨λh=>(qi.mp h).resolve_right λz=>e (qV.mp z),λh=>qY _ h⟩)]
 exact bp.put M 1 U
theorem LkH.stk(M:LkH H0 H L W o zs st){w x:Nat}{q:Addr}(a:L.qs[w]?=some q):LkH H0 (upd H q (.lst (aN (st w)++[.int x]))) L W o zs (λk=>if k=w then st w++[x]else st k):=by
 have h:=bp.put M (w+3) (o:=.lst (aN (st w)++[.int x])) a
 have e:(cnL W.length o zs st).set (w+3) (.lst (aN (st w)++[.int x]))=cnL W.length o zs (λk=>if k=w then st w++[x]else st k):=by
  show _::_::_::((List.range W.length).map _).set w _=_::_::_::(List.range W.length).map _
  rw[pA _ (λj:Nat=>HO.lst (aN ((λk=>if k=w then st w++[x]else st k) j))) _ _ _ λj=>by
   show HO.lst (aN (if j=w then st w++[x]else st j))=_;split
   .unfold aN;rw[qR];rfl
   .rfl]
 rw[e]at h;exact h
theorem LkH.has(M:LkH H0 H L W o zs st)(ql:L.qs.length=W.length){x:Addr}(b:x∈L.lo::L.lf::L.lv::L.qs):H x≠none:=by
 obtain⟨i,a⟩:=List.mem_iff_getElem?.mp b;have lt:=(qg.mp a).1;have l2:(cnL W.length o zs st).length=L.qs.length+3:=by simp[cnL,ql]
 rw[bp.av M a (qd (by rwa[l2]))];exact λz=>by cases z
end
theorem xI{x z:Nat}(h:z=zs x):(λk=>if k=x then z else zs k)=zs:=funext λk=>by
 by_cases e:k=x
 .rw[Q5 e,h,e]
 .rw[Q4 e]
theorem xF(h:i<n):ixN n (i:Int)=some i:=by
 unfold ixN;rw[Q5 Yo,Q5 Yo];simp
theorem Ep{a b c d e:V}:List.lookup ("waits":Str) [(("waits":Str),a),("order",b),("finished",c),("over",d),("stuck",e)]=some a:=jG
theorem lR{a b c d e:V}:List.lookup ("order":Str) [(("waits":Str),a),("order",b),("finished",c),("over",d),("stuck",e)]=some b:=(fO Yd).trans jG
theorem rM{a b c d e:V}:List.lookup ("finished":Str) [(("waits":Str),a),("order",b),("finished",c),("over",d),("stuck",e)]=some c:=(fO Yd).trans ((fO Yd).trans jG)
theorem lQ{a b c d e:V}:List.lookup ("over":Str) [(("waits":Str),a),("order",b),("finished",c),("over",d),("stuck",e)]=some d:=(fO Yd).trans ((fO Yd).trans ((fO Yd).trans jG))
theorem xj{a b c d e:V}:List.lookup ("stuck":Str) [(("waits":Str),a),("order",b),("finished",c),("over",d),("stuck",e)]=some e:=(fO Yd).trans ((fO Yd).trans ((fO Yd).trans ((fO Yd).trans jG)))
theorem lT{f:Str}(h:f∉(["waits","order","finished","over","stuck"]:LS)){a b c d e:V}:List.lookup f [(("waits":Str),a),("order",b),("finished",c),("over",d),("stuck",e)]=none:=by
 have n:∀{g:Str},g∈(["waits","order","finished","over","stuck"]:LS)->(f == g)=false:=λi=>beq_eq_false_iff_ne.mpr λz=>h (z▸i);simp only[List.lookup,n (show("waits":Str)∈_ by simp),n (show("order":Str)∈_ by simp),n (show("finished":Str)∈_ by simp),n (show("over":Str)∈_ by simp),n (show("stuck":Str)∈_ by simp)]
structure f7(H G:Hp)(b:Addr)(o:HO)(ow:LK)(cn:List HO):Prop where
 off:∀c p,c≠b->H c=some p->G c=some p
 hb:G b=some o
 nd:ow.Nodup
 nb:b∉ow
 nw:∀x∈ow,H x=none
 len:cn.length=ow.length
 av:∀{i:Nat}{x:Addr}{p:HO},ow[i]?=some x->cn[i]?=some p->G x=some p
theorem f7.grow{G:Hp}{o:HO}(M:f7 H G b o ow cn){x:Addr}(f:G x=none)(p:HO):f7 H (upd G x p) b o (ow++[x]) (cn++[p]):=by
 have k:x≠b:=λz=>by rw[z,M.hb]at f;cases f
 have l:∀{y},y∈ow->y≠x:=λd z=>by
  obtain⟨i,a⟩:=List.mem_iff_getElem?.mp d;have lt:=(qg.mp a).1;have:=M.av a (qd (by rwa[M.len]));rw[z,f]at this;cases this
 have h0:H x=none:=by
  cases e:H x with
  |none=>rfl
  |some q=>rw[M.off x q k e]at f;cases f
 refine⟨λc q n h=>a8.new f _ _ _ (M.off c q n h),a8.new f _ _ _ M.hb,?_,λz=>?_,λy d=>?_,by rw[qc,qc,M.len];rfl,λ{i y q} a g=>?_⟩
 .rw[List.nodup_append];exact⟨M.nd,Qu _ _,λy d z m=>by rw[qV.mp m];exact l d⟩
 .rcases qi.mp z with z|z
  .exact M.nb z
  .exact k (qV.mp z).symm
 .rcases qi.mp d with d|d
  .exact M.nw y d
  .rwa[qV.mp d]
 .by_cases lt:i<ow.length
  .rw[Q9 lt]at a;rw[Q9 (by rwa[M.len])]at g;exact a8.new f _ _ _ (M.av a g)
  .rw[qO Yo]at a;rw[qO (by rw[M.len];omega),M.len]at g
   cases e:i-ow.length with
   |zero=>rw[e]at a g;cases a;cases g;exact ah
   |succ j=>rw[e]at a;simp at a
theorem f7.put{G:Hp}{o:HO}(M:f7 H G b o ow cn)(d:HO):f7 H (upd G b d) b d ow cn:=
 ⟨λc q n h=>by rw[ag n];exact M.off c q n h,ah,M.nd,M.nb,M.nw,M.len,λ{i y q} a e=>by rw[ag λz=>M.nb (by rw[<- z];exact qD a)];exact M.av a e⟩
theorem DJ(T:Tx P w K mg a):aM P w K mg base CX0 1 a.Hm a.Hn ["self","waits"] (vy a):=by
 refine T.JP.ok Bq (by walk_at "l") λ_ A outer s H vs Q E hr h=>?_;obtain⟨b,f,lw,us,rfl,hb,hw,hl,k⟩:=h
 refine⟨_,(ai (jy (pq 0) (pq 1) U)
  (ai (jy (pq 0) (ba af) U)
  (ai (jy (pq 0) (i5 (k:=1) (Nc:=["deed"]) (js:=[]) (show bL (aH iQ) ["self","waits"] _ 1 ["deed"] []from bL.mk U (by decide +kernel) (by decide +kernel) (by decide +kernel) U (by decide +kernel)) U (cV (pq 1)) (λ_ _ _ _ _=>(aR (i:=0) (show List.Nodup (["deed"]:LS)from by decide +kernel) U Oi)) (λ_ _ _ _ _=>gJ) (λ_ _ _ _ _=>fA)) U)
  (ai (jy (pq 0) (i5 (k:=1) (Nc:=["deed"]) (js:=[]) (show bL (aH iQ) ["self","waits"] _ 1 ["deed"] []from bL.mk U (by decide +kernel) (by decide +kernel) (by decide +kernel) U (by decide +kernel)) U (cV (pq 1)) (λ_ _ _ _ _=>(aR (i:=0) (show List.Nodup (["deed"]:LS)from by decide +kernel) U Oi)) (λ_ _ _ _ _=>gJ) (λ_ _ _ _ _=>aa)) U)
  (ap (jy (pq 0) (i5 (k:=1) (Nc:=["deed"]) (js:=[]) (show bL (aH iQ) ["self","waits"] _ 1 ["deed"] []from bL.mk U (by decide +kernel) (by decide +kernel) (by decide +kernel) U (by decide +kernel)) U (cV (pq 1)) (λ_ _ _ _ _=>(aR (i:=0) (show List.Nodup (["deed"]:LS)from by decide +kernel) U Oi)) (λ_ _ _ _ _=>gJ) (λ_ _ _ _ _=>(ba af))) U)))))),?_⟩
 walk_at "q";have nw:lw≠b:=λz=>by rw[z,hb]at hw;cases hw
 have W:f7 H H b _ [] []:=⟨λ_ _ _ h=>h,hb,List.nodup_nil,λz=>(nomatch z),λ_ z=>(nomatch z),U,λh=>by simp at h⟩;refine⟨_,U,_,U,b,a.ad,f,[],U,hb,T.gt,T.JO,by simp,?_⟩;rw[iU [] U Yd,Qo];have C:=W.put (.ins a.ad f [("waits",V.ref lw)]);generalize upd H b (.ins a.ad f [("waits",V.ref lw)])=H1 at C ⊢;refine⟨qv _,λd D=>?_⟩;have M2:=C.grow D (.lst []);refine⟨_,U,b,a.ad,f,_,U,M2.hb,T.gt,T.Ch,by simp,?_⟩;rw[iU ["waits"] U Yd];have q:f7 H _ b (.ins a.ad f [("waits",V.ref lw),("order",V.ref d)]) _ _:=M2.put (.ins a.ad f (([("waits",V.ref lw)]:List (Str×V))++([("order",V.ref d)]:List (Str×V))));generalize upd (upd H1 d (.lst [])) b (.ins a.ad f (([("waits",V.ref lw)]:List (Str×V))++([("order",V.ref d)]:List (Str×V))))=H2 at q ⊢;exists _,U,lw,U,⟨_,SqL.of (q.off _ _ nw hw)⟩;refine mE (K:=K) (a:=lw) (xs:=us) (λi ys Y G=>(∃v,Y=[v])/\G=H2/\ys=(List.range i).map λj:Nat=>V.bl (decide (j∈([]:LG)))) ⟨⟨_,U⟩,U,U⟩ ?_ (bq (m:=1000) hl) ?_ ?_ ?_
 .rintro i ys Y G _ ⟨_,_,rfl⟩;rw[qa,Qh];exact qf _
 .rintro i ys Y G ⟨_,rfl,_⟩;exact SqL.of (q.off _ _ nw hw)
 .rintro i x ys Y G _ ⟨⟨v,rfl⟩,rfl,rfl⟩;exact⟨⟨_,U⟩,U,by rw[List.range_succ,qR];rfl⟩
 rintro ys Y G ⟨_,rfl,rfl⟩ e O;have L:=q.grow O (.lst ((List.range us.length).map λj:Nat=>V.bl (decide (j∈([]:LG)))));refine⟨_,U,b,a.ad,f,_,U,L.hb,T.gt,T.Hl,by simp,?_⟩;rw[iU ["waits","order"] U Yd];have r:f7 H _ b (.ins a.ad f [("waits",V.ref lw),("order",V.ref d),("finished",V.ref e)]) _ _:=L.put (.ins a.ad f (([("waits",V.ref lw),("order",V.ref d)]:List (Str×V))++([("finished",V.ref e)]:List (Str×V))));generalize upd (upd G e (.lst ((List.range us.length).map λj:Nat=>V.bl (decide (j∈([]:LG)))))) b (.ins a.ad f (([("waits",V.ref lw),("order",V.ref d)]:List (Str×V))++([("finished",V.ref e)]:List (Str×V))))=H3 at r ⊢;exists _,U,lw,U,⟨_,SqL.of (r.off _ _ nw hw)⟩;refine mE (K:=K) (a:=lw) (xs:=us) (λi ys Y G=>(∃v,Y=[v])/\G=H3/\ys=(List.range i).map λ_:Nat=>V.int ((0:Nat):Int)) ⟨⟨_,U⟩,U,U⟩ ?_ (bq (m:=1000) hl) ?_ ?_ ?_
 .rintro i ys Y G _ ⟨_,_,rfl⟩;rw[qa,Qh];exact qf _
 .rintro i ys Y G ⟨_,rfl,_⟩;exact SqL.of (r.off _ _ nw hw)
 .rintro i x ys Y G _ ⟨⟨v,rfl⟩,rfl,rfl⟩;exact⟨⟨_,U⟩,U,by rw[List.range_succ,qR];rfl⟩
 rintro ys Y G ⟨_,rfl,rfl⟩ g N;have J:=r.grow N (.lst ((List.range us.length).map λ_:Nat=>V.int ((0:Nat):Int)));refine⟨_,U,b,a.ad,f,_,U,J.hb,T.gt,T.Cl,by simp,?_⟩;rw[iU ["waits","order","finished"] U Yd];have u:f7 H _ b (.ins a.ad f [("waits",V.ref lw),("order",V.ref d),("finished",V.ref e),("over",V.ref g)]) _ _:=J.put (.ins a.ad f (([("waits",V.ref lw),("order",V.ref d),("finished",V.ref e)]:List (Str×V))++([("over",V.ref g)]:List (Str×V))));generalize upd (upd G g (.lst ((List.range us.length).map λ_:Nat=>V.int ((0:Nat):Int)))) b (.ins a.ad f (([("waits",V.ref lw),("order",V.ref d),("finished",V.ref e)]:List (Str×V))++([("over",V.ref g)]:List (Str×V))))=H4 at u ⊢;exists _,U,lw,U,⟨_,SqL.of (u.off _ _ nw hw)⟩;refine mE (K:=K) (a:=lw) (xs:=us) (λi ys Y G=>(∃v,Y=[v])/\∃qs:LK,ys=qs.map V.ref/\qs.length=i/\f7 H G b _ (d::e::g::qs) (.lst []::.lst ((List.range us.length).map λj:Nat=>V.bl (decide (j∈([]:LG))))::.lst ((List.range us.length).map λ_:Nat=>V.int ((0:Nat):Int))::(List.range i).map λ_:Nat=>HO.lst [])) ⟨⟨_,U⟩,[],U,U,u⟩ ?_ (bq (m:=1000) hl) ?_ ?_ ?_
 .rintro i ys Y G _ ⟨_,qs,rfl,rfl,_⟩;rw[qa];exact qf _
 .rintro i ys Y G ⟨_,qs,_,_,M⟩;exact SqL.of (M.off _ _ nw hw)
 .rintro i x ys Y G _ ⟨⟨v,rfl⟩,qs,rfl,rfl,M⟩;refine⟨qv _,λc R=>⟨⟨_,U⟩,qs++[c],by rw[qR];rfl,by rw[qc];rfl,?_⟩⟩;rw[List.range_succ,qR];exact M.grow R (.lst [])
 rintro ys Y G ⟨_,qs,rfl,ql,S⟩ l F;have B:=S.grow F (.lst (qs.map V.ref));refine⟨_,U,b,a.ad,f,_,U,B.hb,T.gt,T.HE,by simp,?_⟩;rw[iU ["waits","order","finished","over"] U Yd];have M:f7 H _ b (LkO a f lw d e g l) _ _:=B.put (.ins a.ad f (([("waits",V.ref lw),("order",V.ref d),("finished",V.ref e),("over",V.ref g)]:List (Str×V))++([("stuck",V.ref l)]:List (Str×V))));generalize upd (upd G l (.lst (qs.map V.ref))) b (.ins a.ad f (([("waits",V.ref lw),("order",V.ref d),("finished",V.ref e),("over",V.ref g)]:List (Str×V))++([("stuck",V.ref l)]:List (Str×V))))=H5 at M ⊢;have nd:=List.nodup_append.mp M.nd;have nb:b∉d::e::g::qs:=λz=>M.nb (qY _ z);have X0:l∉d::e::g::qs:=λz=>nd.2.2 _ z _ (qV.mpr U) U;have at0:∀{i:Nat}{x:Addr}{p:HO},(d::e::g::qs)[i]?=some x->(cnL us.length [] (λ_=>0) λ_=>[])[i]?=some p->H5 x=some p:=λ{i x p} y I=>M.av (i:=i) (by rwa[Q9 (qg.mp y).1]) ((Q9 (qg.mp I).1).trans I);have t:H5 l=some (.lst (qs.map V.ref)):=M.av (i:=us.length+3) (by rw[qO (by simp[ql])];simp[ql]) (by rw[qO (by simp)];simp);refine k H5 (λc=>if c∈d::e::g::qs then none else H5 c) d e g l qs (λc o n h=>?_) ?_ ?_ ql ⟨λc o h=>?_,nd.1,λx X=>Q5 X,at0⟩
 .show(if c∈d::e::g::qs then none else H5 c)=_;rw[Q4 λz=>by rw[M.nw c (qY _ z)]at h;cases h];exact M.off c o n h
 .show(if b∈d::e::g::qs then none else H5 b)=_;rw[Q4 nb];exact M.hb
 .show(if l∈d::e::g::qs then none else H5 l)=_;rwa[Q4 X0]
 .have h:(if c∈d::e::g::qs then none else H5 c)=some o:=h;split at h
  .cases h
  .exact h
theorem wI(T:Tx P w K mg a):aM P w K mg base CX0 1 a.Hr a.Hs ["self","deed"] (vt a):=by
 refine T.JT.ok nQ (by walk_at "l") λ_ A outer s H vs Q E hr h=>?_;obtain⟨J,L,W,o,zs,st,x,rfl,S,M,F,_,k⟩:=h
 refine⟨_,(ai (au (i:=2) nQ.nd U Oi (ao aK (dO (pq 0) U) (pq 1) Oy))
  (ai (kY PassesOwn.never (aD hV (ao aK (dO (pq 0) U) (pq 1) Oy) (be bT U T.f8 Qb (a9 (pq 2) af)) (aG _)) (ai (au (i:=3) nQ.nd U Oi (ao aK (pq 2) (ao aK (dO (pq 0) U) (pq 1) Oy) Oy))
  (ai (aQ (jx (hX (ao aK (dO (pq 0) U) (ao ay (pq 3) aa Oy) Oy))) (ap (aE (pq 3))) aZ)
  (ap (jz (aq bK (ao aK (dO (pq 0) U) (pq 1) Oy) aa) (lC (dO (pq 0) U) (pq 1) kF))))))
  (ap (aE cr)))),?_⟩
 walk_at "q";have ul:=S.rl.len;have big:(10000:Nat)<sizeLine:=Yk;obtain⟨wl,wu,es,X0,y,R,I⟩:=S.rl.at x (L.us[x]' Yo) (qd Yo);have ew:wsV W x=es:=by unfold wsV;rw[I];rfl
 have e9:=S.sm x es I;subst ew;have X:=R.len;have C:atI L.us (x:Int)=some (.ref wl):=da (by rw[qd Yo,X0]);exists _,U,L.b,_,L.dx,_,_,U,M.sa _ _ S.ob,T.gt,T.JO,Ep,_,U,L.lw,L.us,_,_,U,U,SqL.of (M.sa _ _ S.hw),C;exists λm Y G=>∃(z:Nat)(v:LC),Y=[some (.ref L.b),some (.int x),some (.ref wl),v]/\LkH J G L W o (λk=>if k=x then z else zs k) st/\zs x<=z/\z+m=(wsV W x).length/\∀t e,zs x<=t->t<z->(wsV W x)[t]?=some e->ci o e,⟨(wsV W x).length-zs x,zs x,_,U,by rw[xI U];exact M,qf _,Yo,λt e y _=>Yo⟩;rintro m Y G ⟨z,v,rfl,c,B,_,r⟩;have d:atI ((List.range W.length).map λj:Nat=>V.int ((λk=>if k=x then z else zs k) j)) (x:Int)=some (.int z):=da (by rw[qH,List.getElem?_range F];simp);exists _,U,L.b,_,L.dx,_,_,U,c.sa _ _ S.ob,T.gt,T.Cl,lQ,_,U,L.lv,_,_,_,U,U,SqL.of c.ov,d,_,U,wl,_,U,.inl (SqL.of (c.sa _ _ y)),_,_,U,U,_,U
 cases m with
 |zero=>exact aL (Q7 Yo) ((k G z c B Yo r).1 Yo)
 |succ m=>
  refine bD (Q6 Yo) ?_;have tl:z<(wsV W x).length:=Yo;have f:(wsV W x)[z]?=some ((wsV W x)[z]):=qd tl;generalize (wsV W x)[z]=e at f;obtain⟨q,hp,l⟩:=yM R f;obtain⟨j,O,jl⟩:=S.tg x e (qD f);refine⟨λn D=>∃(z:Nat)(v:LC),n=[some (.ref L.b),some (.int x),some (.ref wl),v]/\LkH J D L W o (λk=>if k=x then z else zs k) st/\zs x<=z/\z+m=(wsV W x).length/\∀t e,zs x<=t->t<z->(wsV W x)[t]?=some e->ci o e,λn D h=>⟨m,Qe _,h⟩,?_⟩;have p:atI wu (z:Int)=some (.ref q):=da hp
  have u:atI ((List.range W.length).map λx:Nat=>V.bl (decide (x∈o))) e.1=some (.bl (decide (j∈o))):=by
   rw[O];exact da (by rw[qH,List.getElem?_range jl];rfl)
  exists _,U,_,U,L.b,_,L.dx,_,_,U,c.sa _ _ S.ob,T.gt,T.Cl,lQ,_,U,L.lv,_,_,_,U,U,SqL.of c.ov,d,wl,_,_,_,U,U,SqL.of (c.sa _ _ y),p;exists _,U,L.b,_,L.dx,_,_,U,c.sa _ _ S.ob,T.gt,T.Hl,rM,_,U,q,_,_,_,U,U,SqT.of (c.sa _ _ l),U,L.lf,_,_,_,U,U,SqL.of c.fi,u,_,U;by_cases jo:j∈o
  .refine aL (by rw[Q6 jo];rfl) ?_;exists _,U,L.b,_,L.dx,_,_,U,c.sa _ _ S.ob,T.gt,T.Cl,lQ,_,U,L.lv,_,_,_,U,U,SqL.of c.ov,d,_,_,U,U;exists _,U,L.b,_,L.dx,_,_,U,c.sa _ _ S.ob,T.gt,T.Cl,lQ,_,U,L.lv,_,_,x,U,U,c.ov,xF (by rw[qa,Qh];exact F);have M2:=c.set (x:=x) (z:=z+1);refine⟨z+1,_,U,?_,Yo,Yo,λt N Z _ g=>?_⟩
   .rw[show(λk=>if k=x then z+1 else(λk=>if k=x then z else zs k) k)=λk=>if k=x then z+1 else zs k from funext λk=>by dsimp only;split<;>rfl]at M2;exact M2
   .by_cases tz:t=z
    .rw[tz,f]at g;cases g;exact⟨j,O,jo⟩
    .exact r t N Z Yo g
  .refine bD (by rw[Q7 jo];rfl) ?_
   exact⟨_,U,(k G z c B Yo r).2 e q f (λ⟨j',N,h'⟩=>jo (by
    have:j'=j:=Yo
    exact this▸h')) l⟩
theorem gN{l:LG}(nd:l.Nodup)(lt:∀k∈l,k<n):l.length<=n:=by
 have:=nd.length_le_of_subset (l₂:=List.range n) λk hk=>List.mem_range.mpr (lt k hk)
 rwa [Qh]at this
theorem lJ(x y:LG):aN (x++y)=aN x++aN y:=qR
theorem eS(x:LG):(aN x).length=x.length:=qa _
def LkP(m:Nat)(H0:Hp)(L:LkA)(W:List (List Wat))(J:Addr)(u:Nat)(Y:St)(G:Hp):Prop:=∃(o R:LG)(zs:Nat->Nat)(st:Nat->LG)(F:Hp)(V O:LC),Y=[some (.ref L.b),some (.int m),some (.ref J),V,O]/\LkI W (m+1) o R zs st/\a8 H0 F/\F J=some (.lst (aN R))/\LkH F G L W o zs st/\(W.length-o.length) * (W.length+1)+R.length=u
theorem DI(T:Tx P w K mg a):aM P w K mg base CX0 2 a.Ho a.Hq ["self","deed"] (vx a):=by
 refine T.JR.ok kL (by walk_at "l") λa7 A outer s H vs Q E hr h=>?_;obtain⟨X0,L,W,o0,a5,st0,m,rfl,S,M,I,hm,k⟩:=h
 refine⟨_,(ai (au (i:=2) kL.nd U Oi (ba (a9 (pq 1) af)))
  (ap (kY PassesOwn.never (aD gG (be bT U T.f8 Qb (a9 (pq 2) af)) aa (aG _)) (ai (au (i:=3) kL.nd U Oi (ww qh PySem.F.slot_list_pop PySem.F.type_list_pop wX (pq 2)))
  (ai (au (i:=4) kL.nd U Oi (pQ (pq 0) T.gt T.JN (wI T) (hr.mono Yk) T.Jm .nil iW (a9 (pq 3) af)))
  (ap (aQ (aD C5 (pq 4) cr (aG _)) (ai (bx (bF qh qy qz cC (dO (pq 0) U) (a9 (pq 3) af)))
  (ai (jz fA (lC (dO (pq 0) U) (pq 3) kF))
  (ap (bx (bF qh Qr Qq gQ (pq 2) (a9 (ao aK (dO (pq 0) U) (pq 3) Oy) af)))))) (ap (bx (bF qh qy qz cC (ao aK (dO (pq 0) U) (ao ay (pq 4) aa Oy) Oy) (a9 (pq 3) af))))))))))),?_⟩
 walk_at "q";have big:(10000:Nat)<sizeLine:=Yk;have few:=S.few;refine⟨_,U,ln1,λd a3=>?_⟩;have J:d∉L.lo::L.lf::L.lv::L.qs:=λz=>M.has S.ql z a3;have h0:X0 d=none:=a8.none M.sa a3;exists LkP m X0 L W d,⟨_,o0,[m],a5,st0,upd X0 d (.lst (aN [m])),_,_,U,I.push,a8.new h0 _,ah,bp.side M J _,U⟩;rintro μ Y G ⟨o,R,zs,st,G0,v3,v4,rfl,C,s0,a4,O,a1⟩;exists _,U,d,_,U,.inl (SqL.of (O.sa _ _ a4)),_,_,U,U,_,U;rcases List.eq_nil_or_concat R with rfl|⟨f,x,rfl⟩
 .exact aL Yk (k G o zs st (bp.low O s0) C)
 rw[List.concat_eq_append]at *;refine bD (Q6 (by rw[eS,qc,Qa];omega)) ?_;refine⟨λa2 G'=>∃u,u<μ/\LkP m X0 L W d u a2 G',λa2 G' h=>h,?_⟩;have D:=O.sa _ _ a4;rw[lJ]at D;have xR:x∈f++[x]:=qL _ (qV.mpr U);have xl:x<W.length:=by have:=(C.ro x xR).1;omega
 refine⟨_,U,.inl ⟨U,_,SqL.of D⟩,d,_,.int (x:Int),U,U,D,List.getLast?_eq_getElem?.symm.trans List.getLast?_concat,?_⟩;rw[show(aN f++aN [x]).dropLast=aN f from List.dropLast_concat];have M2:=bp.side O J (.lst (aN f));have N:=iP s0 h0 (.lst (aN f));have y:upd G0 d (.lst (aN f)) d=some (.lst (aN f)):=ah;generalize upd G0 d (.lst (aN f))=G02 at M2 N y;generalize upd G d (.lst (aN f))=G2 at M2 ⊢;have l:=S.same N;have qx:L.qs[x]?=some (L.qs[x]'(by have:=S.ql;omega)):=qd _;generalize L.qs[x]'(by have:=S.ql;omega)=q at qx;refine⟨_,U,L.b,L.dx,_,U,M2.sa _ _ l.ob,lT Yd,_,U,G02,L,W,o,zs,st,x,U,l,M2,xl,C.zl x,λG3 z g z1 z2 z3=>?_⟩
 have tk:∀e∈(wsV W x).take z,ci o e:=λe B=>by
  obtain⟨t,ht⟩:=List.mem_iff_getElem?.mp B;rw[List.getElem?_take]at ht;split at ht
  .rename_i lt;by_cases t0:t<zs x
   .exact C.zd x e (List.mem_iff_getElem?.mpr ⟨t,by rwa[List.getElem?_take,Q5 t0]⟩)
   .exact z3 t e Yo lt ht
  .cases ht
 have Z:=C.over xR z2 tk;refine⟨λez=>?_,λe p B a6 hp=>?_⟩
 .have n:=Z.done λe B=>tk e (by rw[ez,qK];exact B);have l3:=gN n.rn λk hk=>(n.ro k hk).1;have l4:=gN n.nd λk hk=>n.lt k hk;rw[qc]at l3 l4;refine⟨_,U,U,_,U,bD U ?_⟩;refine⟨_,U,L.b,_,L.dx,_,_,U,g.sa _ _ l.ob,T.gt,T.Ch,lR,.inl ⟨U,_,SqL.of g.od⟩,_,U,L.lo,_,_,U,U,g.od,by rw[eS];omega,?_⟩;have M4:=g.ord (x:=x);exists _,U,L.b,_,L.dx,_,_,U,M4.sa _ _ l.ob,T.gt,T.Hl,rM,_,U,L.lf,_,_,x,U,U,M4.av (i:=1) U U,xF (by rwa[qa,Qh]);have v:=LkH.fin M4;generalize upd (upd G3 L.lo _) L.lf _=G5 at v ⊢;have r:atI (L.qs.map V.ref) (x:Int)=some (.ref q):=da (by rw[qH,qx];rfl);refine⟨_,U,.inl ⟨U,_,SqL.of (v.sa _ _ y)⟩,_,U,L.b,_,L.dx,_,_,U,v.sa _ _ l.ob,T.gt,T.HE,xj,_,U,L.lk,_,_,_,U,U,SqL.of (v.sa _ _ l.sk),r,d,q,_,_,U,U,v.sa _ _ y,v.q qx xl,by rw[eS,eS];omega,?_⟩;rw[<- lJ];refine⟨_,?_,o++[x],f++st x,_,st,_,_,_,U,n,iP N h0 _,ah,bp.side v J _,U⟩;rw[<- a1,qc,qc,qc,Qa];obtain⟨c,hc⟩:∃c,W.length-o.length=c+1:=⟨W.length-o.length-1,by have:[x].length=1:=U;omega⟩;rw[show W.length-(o.length+1)=c by omega,hc,Nat.succ_mul];omega
 .obtain⟨j,ej,jl⟩:=S.tg x e (qD B);have jo:j∉o:=λh=>a6 ⟨j,ej,h⟩;have n:=Z.stick (e:=e) (w:=j) (by show(wsV W x)[if x=x then z else zs x]?=_;rw[Q5 U];exact B) ej jo;have l3:=gN (Z.sn j jo) λk hk=>(Z.so j jo k hk).1;have X:L.qs[j]?=some (L.qs[j]'(by have:=S.ql;omega)):=qd _;generalize L.qs[j]'(by have:=S.ql;omega)=q' at X;have r:atI (L.qs.map V.ref) e.1=some (.ref q'):=by rw[ej];exact da (by rw[qH,X];rfl)
  have a0:=g.q X jl;refine⟨_,U,U,_,U,aL U ?_⟩;refine⟨_,U,L.b,_,L.dx,_,_,U,g.sa _ _ l.ob,T.gt,T.HE,xj,_,U,p,_,_,_,U,U,SqT.of (g.sa _ _ hp),U,L.lk,_,_,_,U,U,SqL.of (g.sa _ _ l.sk),r,.inl ⟨U,_,SqL.of a0⟩,_,U,q',_,_,U,U,a0,by rw[eS];omega,?_⟩;refine⟨_,?_,o,f,_,_,G02,_,_,U,n,N,y,g.stk X,U⟩;rw[<- a1,qc,Qa];omega
theorem xY(o:LG):∀n,(∃j,j<n/\j∉o)->∃i,i<n/\i∉o/\∀j,j<i->j∈o
 |0,⟨_,h,_⟩=>Yo
 |n+1,⟨j,h,h'⟩=>by
  by_cases z:∃j,j<n/\j∉o
  .obtain⟨i,a,b,c⟩:=xY o n z;exact⟨i,Yo,b,c⟩
  .have all:∀x,x<n->x∈o:=λx d=>by
    by_cases y:x∈o
    .exact y
    .exact Q8 ⟨x,d,y⟩ z
   by_cases e:j=n
   .exact⟨n,Qe n,e▸h',all⟩
   .exact Q8 (all j Yo) h'
noncomputable def nxO(ps:List (Nat×Wat))(d i:Nat):Nat:=((ps[i+1]?).map (·.1)).getD d
structure WyO(W:List (List Wat))(o:LG)(zs:Nat->Nat)(ps:List (Nat×Wat))(d:Nat):Prop where
 dl:d<W.length
 dn:d∉o
 nd:(ps.map (·.1)).Nodup
 is:∀i p,ps[i]?=some p->p.1∉o/\p.1<W.length/\(wsV W p.1)[zs p.1]?=some p.2/\¬ ci o p.2/\p.2.1=(nxO ps d i:Int)
theorem WyO.snoc{W:List (List Wat)}{o:LG}{ps:List (Nat×Wat)}{d:Nat}{e:Wat}(h:WyO W o zs ps d)(s:(wsV W d)[zs d]?=some e)(t:e.1=(j:Int))(u:j<W.length)(q:j∉o)(new:∀p∈ps,p.1≠d):WyO W o zs (ps++[(d,e)]) j:=by
 have n:¬ ci o e:=λ⟨x,ex,m⟩=>q (by
  have:x=j:=Yo
  exact this▸m)
 refine⟨u,q,?_,λi p l=>?_⟩
 .rw[qR,List.nodup_append];refine⟨h.nd,Qu _ _,λx m y r z=>?_⟩;obtain⟨p,l,rfl⟩:=List.mem_map.mp m;exact new p l (z.trans (qV.mp r))
 .by_cases lt:i<ps.length
  .rw[Q9 lt]at l;obtain⟨a,b,c,g,f⟩:=h.is i p l;exists a,b,c,g;rw[f];unfold nxO;by_cases l2:i+1<ps.length
   .rw[Q9 l2,qd l2]
    rfl
   .rw[qO Yo,Qs Yo,show i+1-ps.length=0 by omega]
    rfl
  .rw[qO Yo]at l
   cases ei:i-ps.length with
   |succ k=>rw[ei]at l;simp at l
   |zero=>
    rw[ei]at l;cases l;exists h.dn,h.dl,s,n;unfold nxO;rw[Qs (by rw[qc];simp;omega)];exact t
theorem WyO.ring{W:List (List Wat)}{o:LG}{m:Nat}(I:LkI W m o [] zs st){ps:List (Nat×Wat)}{d:Nat}{e:Wat}(h:WyO W o zs ps d)(l:ps[i]?=some (d,e)):k6 W o (ps.drop i):=by
 have q:=(qg.mp l).1;refine⟨λz=>?_,?_,λp k=>?_,λj p k=>?_⟩
 .have:=congrArg List.length z;rw[Q3]at this;simp at this;omega
 .rw[List.map_drop];exact List.Sublist.nodup (List.drop_sublist _ _) h.nd
 .obtain⟨j,n⟩:=List.mem_iff_getElem?.mp (List.mem_of_mem_drop k);obtain⟨a,b,c,g,_⟩:=h.is j p n;exact⟨a,b,_,c,I.zd p.1,g⟩
 .rw[List.getElem?_drop]at k;have r:=(qg.mp k).1;obtain⟨_,_,_,_,f⟩:=h.is _ p k;rw[f,Q3];unfold nxO;by_cases l2:i+j+1<ps.length
  .rw[Nat.mod_eq_of_lt Yo,List.getElem?_drop,show i+(j+1)=i+j+1 by omega,qd l2];exact⟨_,U,U⟩
  .rw[show j+1=ps.length-i by omega,Nat.mod_self,List.getElem?_drop,Nat.add_zero,l,Qs (by omega)];exact⟨_,U,U⟩
theorem oV{H H':Hp}(s:∀b xs,H b=some (.tup xs)->H' b=some (.tup xs)):∀{vs:LV}{es:List Wat},RWs H vs es->RWs H' vs es
 |_,_,.nil=>.nil
 |_,_,.cons h r=>.cons (s _ _ h) (oV s r)
theorem vO{H:Hp}:∀(i:Nat){vs:LV}{es:List Wat},RWs H vs es->RWs H (vs.drop i) (es.drop i)
 |0,_,_,h=>h
 |_+1,_,_,.nil=>.nil
 |i+1,_,_,.cons _ r=>vO i r
theorem Gd(xs:LV)(n:Nat):eT xs (some (n:Int)) none=xs.drop n:=by
 unfold eT;rw[HT.sIx_none,HT.sIx_nat];by_cases z:n<=xs.length
 .rw[Nat.min_eq_left z,List.take_of_length_le (by rw[Q3];omega)]
 .rw[Nat.min_eq_right Yo,List.drop_of_length_le (qf _),List.drop_of_length_le Yo];simp
def RgP(H0:Hp)(L:LkA)(W:List (List Wat))(o:LG)(zs:Nat->Nat)(st:Nat->LG)(dp J:Addr)(u:Nat)(Y:St)(G:Hp):Prop:=∃(ps:List (Nat×Wat))(d:Nat)(F:Hp)(kvs:LN)(us:LV)(O:LC),Y=[some (.ref L.b),some (.int d),some (.ref dp),some (.ref J),O]/\a8 H0 F/\F dp=some (.dK kvs)/\F J=some (.lst us)/\RWs F us (ps.map rgW)/\LkH F G L W o zs st/\WyO W o zs ps d/\(∀j:Nat,aI kvs (.inl (j:Int))=none->∀p∈ps,p.1≠j)/\(∀(j:Nat) v,aI kvs (.inl (j:Int))=some v->∃(i:Nat)(e:Wat),v=.int i/\ps[i]?=some (j,e))/\kvs.length<=ps.length/\ps.length+u=1001
theorem DH(T:Tx P w K mg a):aM P w K mg base CX0 2 a.Ht a.Hu ["self"] (vv a):=by
 refine T.JU.ok iO (by walk_at "l") λc1 A outer s H vs Q E hr h=>?_;obtain⟨R,L,W,o,zs,st,rfl,S,M,I,no,k⟩:=h
 refine⟨_,(ai (au (i:=1) iO.nd U Oi (bF qh PySem.F.slot_list_index PySem.F.type_list_index DY (dO (pq 0) U) (a9 fA af)))
  (ai (au (i:=2) iO.nd U Oi gK)
  (ai (au (i:=3) iO.nd U Oi (ba af))
  (ai (kY PassesOwn.never (aD CU (pq 1) (pq 2) (by with_unfolding_all rfl)) (ai (g6 (hr.one) (pq 2) (pq 1) (be bT U T.f8 Qb (a9 (pq 3) af)) U)
  (ai (au (i:=4) iO.nd U Oi (pQ (pq 0) T.gt T.JN (wI T) (hr.mono Yk) T.Jm .nil iW (a9 (pq 1) af)))
  (ai (bx (bF qh qy qz cC (pq 3) (a9 (bA (a9 (pq 1) (a9 (ao ay (pq 4) aa Oy) (a9 (ao ay (pq 4) aa Oy) af)))) af)))
  (ap (au (i:=1) iO.nd U Oi (ao ay (pq 4) aa Oy)))))))
  (ap (aE (gb kA (pq 3) (fk (pR hr.one (pq 2) (pq 1) Oy)) hZ))))))),?_⟩
 walk_at "q";have big:(10000:Nat)<sizeLine:=Yk;have few:=S.few
 obtain⟨i0,il,i1,i2⟩:=xY o W.length (by
  by_cases z:∃j,j<W.length/\j∉o
  .exact z
  .have l1:=gN I.nd I.lt
   have l2:=List.nodup_range.length_le_of_subset (l₁:=List.range W.length) (l₂:=o) λk hk=>by
    by_cases y:k∈o
    .exact y
    .exact Q8 ⟨k,List.mem_range.mp hk,y⟩ z
   rw[Qh]at l2
   omega)
 have hf:H L.lf=some (.lst (((List.range W.length).map λj:Nat=>decide (j∈o)).map V.bl)):=by rw[List.map_map];exact M.fi
 have a6:∀j,j<W.length->((List.range W.length).map λj:Nat=>decide (j∈o))[j]?=some (decide (j∈o)):=λj f=>by rw[qH,List.getElem?_range f];rfl
 refine⟨_,U,L.b,_,L.dx,_,_,U,M.sa _ _ S.ob,T.gt,T.Hl,rM,.inl ⟨U,_,SqL.of hf⟩,L.lf,_,false,i0,U,U,hf,by rw[a6 i0 il,Q7 i1],λj f=>by rw[a6 j Yo,Q6 (i2 j f)];rfl,by rwa[qa,Qh],?_⟩;refine λdp a4=>⟨qv _,λl t=>?_⟩;have b2:dp∉L.lo::L.lf::L.lv::L.qs:=λz=>M.has S.ql z a4;have b3:R dp=none:=a8.none M.sa a4;have M1:=bp.side M b2 (.dK []);have a5:l∉L.lo::L.lf::L.lv::L.qs:=λz=>LkH.has M1 S.ql z t;have a0:l≠dp:=λz=>by rw[z,ah]at t;cases t
 have a1:R l=none:=a8.none M.sa (wU t);have M2:=bp.side M1 a5 (.lst []);have s2:=iP (iP (a8.refl R) b3 (.dK [])) a1 (.lst []);exists RgP R L W o zs st dp l,⟨1001,[],i0,_,[],[],_,U,s2,(by rw[ag a0.symm];exact ah),ah,.nil,M2,⟨il,i1,List.nodup_nil,λi p h=>by simp at h⟩,λj _ p h=>(nomatch h),λj v h=>(nomatch h),qf _,U⟩;rintro μ Y G ⟨ps,d,G0,c,us,v4,rfl,s3,B,O,J,q,X0,kn,ks,kl,b9⟩
 have c0:ps.length<=W.length:=by
  have:=gN X0.nd (n:=W.length) λx hx=>by
   obtain⟨p,g,rfl⟩:=List.mem_map.mp hx;obtain⟨i,C⟩:=List.mem_iff_getElem?.mp g;exact(X0.is i p C).2.1
  rwa [qa]at this
 have a':=J.len;rw[qa]at a';exists _,U,_,U,dp,c,.inl (d:Int),U,q.sa _ _ B,U,_,U
 cases ev:aI c (.inl (d:Int))with
 |some v=>
  refine aL U ?_;obtain⟨i,e,rfl,C⟩:=ks d v ev
  have hg:cj G dp (.int (d:Int)) (some (.int (i:Int))):=by
   have:=cj.k (k:=.inl (d:Int)) (q.sa _ _ B);rw[ev]at this;exact this
  refine⟨_,U,_,U,_,U,dp,_,U,hg,_,U,l,us,U,SqL.of (q.sa _ _ O),λlq b7=>?_⟩;rw[Gd];have q4:=a8.new b7 (.lst (us.drop i));refine k _ lq _ (ps.drop i) ((bp.low q s3).same q4) ah ?_ (X0.ring I C);rw[List.map_drop];exact(vO i J).same (q.sa.trans q4)
 |none=>
  refine bD U ?_;refine⟨λa2 G'=>∃u,u<μ/\RgP R L W o zs st dp l u a2 G',λa2 G' h=>h,?_⟩;exists _,U,l,us,U,.inl (SqL.of (q.sa _ _ O)),_,U,_,U,dp,_,U,eK.k (k:=.inl (d:Int)) (q.sa _ _ B) Yo;have M4:=bp.side q b2 (.dK (bu c (.inl (d:Int)) (.int (us.length:Nat))));have s4:=iP s3 b3 (.dK (bu c (.inl (d:Int)) (.int (us.length:Nat))));have a7:upd G0 dp (.dK (bu c (.inl (d:Int)) (.int (us.length:Nat)))) dp=some _:=ah;have m:upd G0 dp (.dK (bu c (.inl (d:Int)) (.int (us.length:Nat)))) l=some (.lst us):=by rw[ag a0];exact O
  have a3:RWs (upd G0 dp (.dK (bu c (.inl (d:Int)) (.int (us.length:Nat))))) us (ps.map rgW):=oV (λb xs h=>by rw[ag λz=>by rw[z,B]at h;cases h];exact h) J;generalize upd G0 dp (.dK (bu c (.inl (d:Int)) (.int (us.length:Nat))))=G04 at M4 s4 a7 m a3;generalize upd G dp (.dK (bu c (.inl (d:Int)) (.int (us.length:Nat))))=G4 at M4 ⊢;have S4:=S.same s4
  obtain⟨w,Z,e,N,ew⟩:∃w,w∉o/\∃e,(wsV W d)[zs d]?=some e/\e.1=(w:Int):=by
   rcases I.al d X0.dl with z|z|⟨w,Z,hw⟩
   .exact Q8 z X0.dn
   .cases z
   .exact⟨w,Z,(I.so w Z d hw).2.2.2⟩
  have wl:w<W.length:=by
   obtain⟨j,ej,jl⟩:=S.tg d e (qD N);omega
  have b8:¬ ci o e:=λ⟨x,ex,hx⟩=>Z (by
   have:x=w:=Yo
   exact this▸hx)
  refine⟨_,U,L.b,L.dx,_,U,bp.sa M4 _ _ S4.ob,lT Yd,_,U,G04,L,W,o,zs,st,d,U,S4,M4,X0.dl,I.zl d,λG5 z D z1 z2 z3=>?_⟩
  have ez:z=zs d:=by
   by_cases lt:zs d<z
   .exact Q8 (z3 (zs d) e (qf _) lt N) b8
   .omega
  rw[xI ez]at D;have b':=(qg.mp N).1;refine⟨λz0=>Yo,λe' p b0 _ g=>?_⟩;rw[ez,N]at b0;cases b0;have b1:=D.sa _ _ g;refine⟨_,U,.inl ⟨U,_,SqL.of (D.sa _ _ m)⟩,_,U,_,U,p,_,_,_,U,U,SqT.of b1,U,_,U,p,_,_,_,U,U,SqT.of b1,U,ln3,λpt b4=>?_⟩;have b6:pt∉L.lo::L.lf::L.lv::L.qs:=λz=>D.has S.ql z b4;have b5:G04 pt=none:=a8.none D.sa b4;have M6:=bp.side D b6 (.tup [.int (d:Int),.str e.2.1,.str e.2.2]);have r:=a8.new b5 (.tup [.int (d:Int),.str e.2.1,.str e.2.2]);have X:upd G04 pt (.tup [.int (d:Int),.str e.2.1,.str e.2.2]) pt=some (fc (rgW (d,e))):=ah;generalize upd G04 pt (.tup [.int (d:Int),.str e.2.1,.str e.2.2])=G06 at M6 r X;generalize upd G5 pt (.tup [.int (d:Int),.str e.2.1,.str e.2.2])=G6 at M6 ⊢;exists l,us,.ref pt,U,U,bp.sa M6 _ _ (r _ _ m),Yo;have M7:=bp.side M6 a5 (.lst (us++[.ref pt]));refine⟨_,U,p,_,_,_,U,U,SqT.of (bp.sa M7 _ _ (?_:_=some (fc e))),U,?_⟩
  .rw[ag λz=>by rw[z,m]at g;cases g];exact r _ _ g
  rw[ew];refine⟨μ-1,Yo,ps++[(d,e)],w,_,bu c (.inl (d:Int)) (.int (us.length:Nat)),us++[.ref pt],_,U,iP (s4.trans r) a1 (.lst (us++[V.ref pt])),?_,ah,?_,M7,X0.snoc N ew wl Z (kn d ev),λj f p g=>?_,λj v f=>?_,?_,?_⟩
  .rw[ag a0.symm];exact r _ _ a7
  .rw[qR];refine oV (λb xs h=>?_) ((a3.same r).snoc X);rw[ag λz=>by rw[z,r _ _ m]at h;cases h];exact h
  .rw[dL]at f;split at f
   .cases f
   .rename_i ne;rcases qi.mp g with g|g
    .exact kn j f p g
    .rw[qV.mp g];exact λz=>ne (by rw[show d=j from z])
  .rw[dL]at f;split at f
   .rename_i ej;cases f;have ej:=Sum.inl.inj ej;exact⟨us.length,e,U,by rw[a',qO (qf _),Nat.sub_self,show j=d by omega];rfl⟩
   .obtain⟨i,e',ei,C⟩:=ks j v f;exact⟨i,e',ei,by rw[Q9 (qg.mp C).1];exact C⟩
  .have:=dQ c (.inl (d:Int)) (.int (us.length:Nat));rw[qc,Qa];omega
  .rw[qc,Qa];omega
theorem Dj(T:Tx P w K mg a):aM P w K mg base CX0 3 a.HS a.HU ["waits"] uM:=by
 refine T.Jo.F.ok nN (by walk_at "l") λ_ A outer s H vs Q E hr h=>?_;obtain⟨lw,us,W,rfl,hw,rl,sm,tg,few,k⟩:=h
 refine⟨_,(ai (au (i:=1) nN.nd U Oi (CG T.K9 (DJ T) (hr.mono Yk) U T.K8 T.JQ .nil iW (a9 (pq 0) af)))
  (ai (bR PassesOwn.never U (g9 U T.om (a9 (be bT U T.f8 Qb (a9 (pq 0) af)) af)) (aR (i:=2) nN.nd U Oi)
  (ap (bx (pQ (pq 1) T.gt T.Ka (DI T) (hr.mono Yk) T.JS .nil iW (a9 (pq 2) af)))))
  (ai (aQ (aD br (be bT U T.f8 Qb (a9 (dO (pq 1) U) af)) (be bT U T.f8 Qb (a9 (pq 0) af)) (aG _)) (ap (aE (bA (a9 aS (a9 (dO (pq 1) U) af))))) aZ)
  (ap (aE (bA (a9 aS (a9 (dO (pq 1) U) (a9 (CF (pq 1) T.gt T.Kb (DH T) (hr.mono Yk) T.JV .nil iW) af))))))))),?_⟩
 walk_at "q";have t:=rl.len;refine⟨_,U,λb f hb r ne=>⟨b,f,lw,us,U,ah,?_,Yo,λ_ n m I u D qs off B y ql M=>⟨U,?_⟩⟩⟩
 .rw[ag (λe=>by rw[e,hb]at hw;cases hw),ag (λe=>by rw[e,r]at hw;cases hw)];exact hw
 have q:a8 H n:=λc o g=>off c o (λe=>by rw[e,hb]at g;cases g) (by
  rw[ag (λe=>by rw[e,hb]at g;cases g),ag (λe=>by rw[e,r]at g;cases g)]
  exact g)
 have S:LkS a n ⟨b,f,lw,m,I,u,D,qs,us⟩ W:=⟨B,y,ql.trans t,q _ _ hw,rl.same q,sm,tg,few⟩;rw[t]at M;exists _,U,lw,us,U,.inl (SqL.of (M.sa _ _ S.hw)),_,U,Yo,Yo;rw[show((us.length:Nat):Int).toNat=W.length by omega];refine j5 (λi Y G=>∃v o zs st,Y=[some (.ref lw),some (.ref b),v]/\LkH n G ⟨b,f,lw,m,I,u,D,qs,us⟩ W o zs st/\LkI W i o [] zs st) ⟨_,_,_,_,U,M,LkI.start W⟩ ?_ ?_
 .rintro i Y G J ⟨v,o,zs,st,rfl,d,l⟩;refine⟨_,U,b,f,_,U,d.sa _ _ S.ob,lT Yd,_,U,n,_,W,o,zs,st,i,by rw[Int.zero_add];rfl,S,d,l,J,λO _ _ _ M2 R=>?_⟩;exact⟨_,_,_,_,U,M2,R⟩
 .rintro Y G ⟨v,o,zs,st,rfl,d,l⟩;exists _,U,b,_,f,_,_,U,d.sa _ _ S.ob,T.gt,T.Ch,lR,m,_,U,.inl (SqL.of d.od),_,U,lw,us,U,.inl (SqL.of (d.sa _ _ S.hw)),U,_,U;rw[eS,t];by_cases eo:o.length=W.length
  .refine bD (by rw[eo,Q6 U]) ?_;refine⟨_,U,b,_,f,_,_,U,d.sa _ _ S.ob,T.gt,T.Ch,lR,ln2,λp j=>?_⟩;exact(k _ p m o zs st ((q.trans d.sa).trans (a8.new j _)) (a8.new j _ _ _ d.od) l).1 eo ah
  .refine aL (Q7 λz=>eo (by injection z with z;omega)) ?_;refine⟨_,U,b,_,f,_,_,U,d.sa _ _ S.ob,T.gt,T.Ch,lR,_,U,b,f,_,U,d.sa _ _ S.ob,lT Yd,n,_,W,o,zs,st,U,S,d,l,eo,λO N C ps M2 x L V=>⟨ln3,λp j=>?_⟩⟩;exact(k _ p m o zs st ((q.trans M2.sa).trans (a8.new j _)) (a8.new j _ _ _ M2.od) l).2 N C ps ah (a8.new j _ _ _ x) (L.same (a8.new j _)) V
theorem Dk(T:Tx P w K mg a):aM P w K mg base CX0 4 a.HQ a.HR ["deeds","stores"] uN:=by
 refine T.Jn.F.ok Bk (by walk_at "l") λ_ A outer s H vs Q E hr h=>?_;obtain⟨l,q,us,g,rs,ss,W,rfl,hl,d,c,b,m,f,sl,e,rfl,sm,tg,few,k⟩:=h;exists _,(ap (aE (aF (Dj T) (hr.mono Yk) T.Jo (a9 (aF (De T) (hr.mono Yk) T.Jj (a9 (pq 0) (a9 (pq 1) af))) af))));walk_at "q";refine⟨_,U,_,U,l,q,us,g,rs,ss,U,hl,d,c,b,m,f,sl,e,λ_ lw n t u j=>?_⟩;exact⟨lw,n,_,U,u,j,sm,tg,few,λH' p r o zs st i=>k H' p r o zs st (t.trans i)⟩
theorem RCs.at2{H:Hp}{rs:List Row}:∀{vs:LV}{b:LS},RCs H rs vs b->∀(i:Nat)(v:V),vs[i]?=some v->∃p c,v=.ref p/\b[i]?=some c/\H p=some (.tup [.str c,.int (cnO rs c)])
 |_,_,.nil,i,v,h=>by simp at h
 |_,_,.cons (p:=p) (c:=c) a _,0,v,h=>⟨p,c,by simp at h;exact h.symm,U,a⟩
 |_,_,.cons _ r,i+1,v,h=>RCs.at2 r i v (by simpa using h)
theorem DD(T:Tx P w K mg a):aM P w K mg base CX0 2 a.J5 a.J6 ["_law_deeds","_law_ahead_here","_law_lengths","_law_state","_law_k"] vk:=by
 refine T.JG.F.ok iM (by walk_at "l") λ_ A outer s H vs Q E hr h=>?_;obtain⟨_,l,la,d,s,d0,d1,_,us,as,rs,_,ln,o,i,r,rfl,M,n,D,k⟩:=h
 refine⟨_,(ai (bR PassesOwn.never U (cV (ao ay (ao aK (pq 1) (pq 4) Oy) aa Oy)) (fu U (cE (aR (i:=5) iM.nd U Oi) (cE (aR (i:=6) iM.nd U Oi) fq)))
  (ap (aQ (aD hV (dP hr.one (ao aK (pq 3) aa Oy) (pq 5) aa ⟨U,U,U,U⟩) (pq 6) (aG _)) (ap (aE aS)) aZ)))
  (ai (bR PassesOwn.never U (cV (ao ay (ao aK (pq 1) (pq 4) Oy) aa Oy)) (fu U (cE (aR (i:=5) iM.nd U Oi) (cE (aR (i:=6) iM.nd U Oi) fq)))
  (ap (aQ (aD hV (dP hr.one (ao aK (pq 3) aa Oy) (pq 5) aa ⟨U,U,U,U⟩) (pq 6) (aG _)) (ap (aE aS)) aZ)))
  (ai (au (i:=7) iM.nd U Oi (ao aK (pq 0) (pq 4) Oy))
  (ai (aQ (PW.pt (fL (aD fK (ao ay (pq 7) aa Oy) cr (aG _)) (gH (aD br (dP hr.one (ao aK (pq 3) aa Oy) (ao ay (pq 7) aa Oy) aa ⟨U,U,U,U⟩) aa (aG _))))) (ap (aE aS)) aZ)
  (ai (aQ (PW.pt (fL (aD fK (ao ay (pq 7) aa Oy) cr (aG _)) (gH (aD vT (dP hr.one (ao aK (pq 3) aa Oy) (ao ay (pq 7) aa Oy) aa ⟨U,U,U,U⟩) (pR hr.one (pq 2) (ao ay (pq 7) aa Oy) Oy) (aG _))))) (ap (aE aS)) aZ)
  (ap (aE aS))))))),?_⟩
 walk_at "q";have il:i<rs.length:=(qg.mp D).1;have ul:=n.rr.len;obtain⟨v,hv,p,l1,l2,u1,u2,rfl,h1,h2,h3,a1,W⟩:=n.ra.2 i r il D;have X:atI as (i:Int)=some (.ref p):=da hv;obtain⟨X0,C,L,_⟩:=M.c0;obtain⟨a2,B,J,_⟩:=M.c1;have so:=M.so;have sa:=M.sa;clear M;generalize dnR rs o=R at L J k;exists _,U,_,U,la,as,_,_,U,U,SqL.of (sa _ _ n.ha),X,p,_,_,_,U,U,SqT.of (sa _ _ h1),U,l1,U,⟨_,SqL.of (sa _ _ h2)⟩;refine dG (K:=K) (a:=l1) (xs:=u1) (λj Y G=>G=H/\(∃m u,Y=[some (.ref l),some (.ref la),some (.ref d),some (.ref s),some (.int i),m,u,none])/\∀t c,t<j->r.owns[t]?=some c->cnO (rs.take i) c<=cnO R c) ⟨U,⟨_,_,U⟩,λt c h=>Q8 h (QB t)⟩ ?_ ?_ ?_
 .rintro j Y G _ ⟨rfl,_⟩;exact SqL.of (sa _ _ h2)
 .rintro j x Y G hx ⟨rfl,⟨m,u,rfl⟩,ok⟩;obtain⟨pc,c,rfl,b,S⟩:=a1.at2 j x hx;exists pc,_,U,SqT.of (sa _ _ S),U,_,_,U,_,_,U,U;exists _,U,s,_,_,_,U,U,SqL.of so,U,d0,U,.inl ⟨X0,.inl C⟩,_,U,_,cj.k (k:=.inr c) C,_,U,_,_,L c,U,_,U;by_cases lt:cnO R c<cnO (rs.take i) c
  .exact bD (Q6 Yo) (k _ (.card λz=>by have:=z c (.inl (qD b));omega))
  .refine aL (Q7 Yo) ⟨U,⟨_,_,U⟩,λt c' ht h'=>?_⟩;by_cases e:t=j
   .rw[e,b]at h';cases h';omega
   .exact ok t c' Yo h'
 rintro Y G ⟨rfl,⟨m,u,rfl⟩,a5⟩;exists _,U,_,U,la,as,_,_,U,U,SqL.of (sa _ _ n.ha),X,p,_,_,_,U,U,SqT.of (sa _ _ h1),U,l2,U,⟨_,SqL.of (sa _ _ h3)⟩;refine dG (K:=K) (a:=l2) (xs:=u2) (λj Y O=>O=G/\(∃m u,Y=[some (.ref l),some (.ref la),some (.ref d),some (.ref s),some (.int i),m,u,none])/\∀t c,t<j->r.reads[t]?=some c->cnO (rs.take i) c<=cnO R c) ⟨U,⟨_,_,U⟩,λt c h=>Q8 h (QB t)⟩ ?_ ?_ ?_
 .rintro j Y O _ ⟨rfl,_⟩;exact SqL.of (sa _ _ h3)
 .rintro j x Y O hx ⟨rfl,⟨m,u,rfl⟩,ok⟩;obtain⟨pc,c,rfl,b,S⟩:=W.at2 j x hx;exists pc,_,U,SqT.of (sa _ _ S),U,_,_,U,_,_,U,U;exists _,U,s,_,_,_,U,U,SqL.of so,U,d0,U,.inl ⟨X0,.inl C⟩,_,U,_,cj.k (k:=.inr c) C,_,U,_,_,L c,U,_,U;by_cases lt:cnO R c<cnO (rs.take i) c
  .exact bD (Q6 Yo) (k _ (.card λz=>by have:=z c (.inr (qD b));omega))
  .refine aL (Q7 Yo) ⟨U,⟨_,_,U⟩,λt c' ht h'=>?_⟩;by_cases e:t=j
   .rw[e,b]at h';cases h';omega
   .exact ok t c' Yo h'
 rintro Y O ⟨rfl,⟨m,u,rfl⟩,a6⟩
 have I:eN rs R i r:=λc b=>by
  rcases b with b|b
  .obtain⟨t,ht⟩:=List.mem_iff_getElem?.mp b;exact a5 t c (by rw[a1.len];exact(qg.mp ht).1) ht
  .obtain⟨t,ht⟩:=List.mem_iff_getElem?.mp b;exact a6 t c (by rw[W.len];exact(qg.mp ht).1) ht
 obtain⟨_,Z,g,po,_,ex,g1,_,_⟩:=n.rr.at i us[i] (qd Yo);rw[D]at Z;cases Z;have a3:atI us (i:Int)=some (.ref g):=da (by rw[qd Yo,ex]);have f:=SqT.of (K:=K) (sa _ _ g1);exists _,U,_,U,l,us,_,_,U,U,SqL.of (sa _ _ n.hl),a3;dsimp only;refine jp (λa0 G'=>G'=O/\a0=[some (.ref l),some (.ref la),some (.ref d),some (.ref s),some (.int i),m,u,some (.ref g)]/\gx R r) ?_ λN go=>?_
 .rintro a0 G' ⟨rfl,rfl,tok⟩
  cases ei:r.into with
  |none=>
   rw[ei]at f;exact⟨_,U,g,_,_,_,U,U,f,U,U,_,U,aL U (aL U (k _ (.no I tok λq z=>by rw[ei]at z;cases z)))⟩
  |some q=>
   rw[ei]at f;refine⟨_,U,g,_,_,_,U,U,f,U,U,_,U,bD U ?_⟩
   have a4:cj G' d (.str q) (some (.int (ln q))):=by
    have:=cj.k (k:=.inr q) (sa _ _ n.hd);rw[n.dl r (qD D) q ei]at this;exact this
   exists _,U,s,_,_,_,U,U,SqL.of so,U,d1,U,.inl ⟨a2,.inl B⟩,_,U,g,_,_,_,U,U,f,U,_,cj.k (k:=.inr q) B,_,U,_,U,g,_,_,_,U,U,f,U,d,_,U,a4,_,_,J q,U,_,U;by_cases lt:bal R q<ln q
   .exact aL (Q7 Yo) (k _ (.no I tok λq' z=>by rw[ei]at z;cases z;exact lt))
   .exact bD (Q6 Yo) (k _ (.room I tok λz=>lt (z q ei)))
 .cases eo:r.outof with
  |none=>
   rw[eo]at f;exact⟨_,U,g,_,_,_,U,U,f,U,U,_,U,aL U (aL U (go _ _ ⟨U,U,λq z=>by rw[eo]at z;cases z⟩))⟩
  |some q=>
   rw[eo]at f;refine⟨_,U,g,_,_,_,U,U,f,U,U,_,U,bD U ?_⟩;exists _,U,s,_,_,_,U,U,SqL.of so,U,d1,U,.inl ⟨a2,.inl B⟩,_,U,g,_,_,_,U,U,f,U,_,cj.k (k:=.inr q) B;rw[J q];by_cases z:bal R q=0
   .exact⟨U,_,U,bD (Q6 (by rw[z])) (k _ (.thing I λy=>y q eo z))⟩
   .exact⟨U,_,U,ifN (λy=>z (V.int.inj y)) (go _ _ ⟨U,U,λq' y=>by rw[eo]at y;cases y;exact z⟩)⟩
theorem FM(o:LG){k:Nat}(h:rs[k]?=some r):dnR rs (o++[k])=dnR rs o++[r]:=by
 unfold dnR;rw[List.filterMap_append];simp[h]
theorem DE(T:Tx P w K mg a):aM P w K mg base CX0 2 a.J7 a.J8 ["_law_deeds","_law_state","_law_k"] vm:=by
 refine T.JH.F.ok nP (by walk_at "l") λ_ A outer s H vs Q E hr h=>?_;obtain⟨H0,l,s,n,f,p,us,rs,o,i,r,rfl,M,hl,a7,X0,_,a3,k⟩:=h
 refine⟨_,(ai (au (i:=3) nP.nd U Oi (ao aK (pq 0) (pq 2) Oy))
  (ai (bR PassesOwn.never U (i3 (ao ay (pq 3) aa Oy)) (aR (i:=4) nP.nd U Oi)
  (ap (g6 (hr.one) (ao aK (pq 1) aa Oy) (pq 4) (aq bK (dP hr.one (ao aK (pq 1) aa Oy) (pq 4) aa ⟨U,U,U,U⟩) aa) U)))
  (ai (aQ (aD fK (ao ay (pq 3) aa Oy) cr (aG _)) (ap (g6 (hr.one) (ao aK (pq 1) aa Oy) (ao ay (pq 3) aa Oy) (aq bK (dP hr.one (ao aK (pq 1) aa Oy) (ao ay (pq 3) aa Oy) aa ⟨U,U,U,U⟩) aa) U)) aZ)
  (ai (aQ (aD fK (ao ay (pq 3) aa Oy) cr (aG _)) (ap (g6 (hr.one) (ao aK (pq 1) aa Oy) (ao ay (pq 3) aa Oy) (aq kW (dP hr.one (ao aK (pq 1) aa Oy) (ao ay (pq 3) aa Oy) aa ⟨U,U,U,U⟩) aa) U)) aZ)
  (ap (g6 (hr.one) (ao aK (pq 1) aa Oy) (pq 2) fA U)))))),?_⟩
 walk_at "q";have il:i<rs.length:=(qg.mp X0).1;have ul:=a7.len;have ol:(o++[i]).length=o.length+1:=qc;have big:(5000000:Nat)<sizeLine:=Yk;obtain⟨d3,Z,b3,c5⟩:=M.c0;obtain⟨I,a9,a1,_⟩:=M.c1;obtain⟨L,b1,d4,_⟩:=M.c2;obtain⟨b2,a',b5⟩:=M.nd;obtain⟨_,b0,d,po,_,ex,S,g2,_⟩:=a7.at i us[i] (qd Yo);rw[X0]at b0;cases b0;have sm:=(a3 r (qD X0)).1;have b':atI us (i:Int)=some (.ref d):=da (by rw[qd Yo,ex]);exists _,U,_,U,l,us,_,_,U,U,SqL.of (M.sa _ _ hl),b';have tk:=FM o X0;have ns:∀{c:Addr}{g:LN},H c=some (.dK g)->s≠c:=λh z=>by have:=M.so;rw[z,h]at this;cases this
 exists _,U,d,_,_,_,U,U,SqT.of (M.sa _ _ S),U,po,U,⟨_,SqT.of (M.sa _ _ g2)⟩;have p0:po≠n:=λz=>by rw[z,M.n0]at g2;cases g2
 refine sG (K:=K) (a:=po) (xs:=r.owns.map V.str) (λj Y G=>∃X g,Y=[some (.ref l),some (.ref s),some (.int i),some (.ref d),X]/\(∀c,c≠n->G c=H c)/\G n=some (.dK g)/\g.length<=4000 * o.length+j/\∀c:Str,(aI g (.inr c)).getD (.int 0)=.int ((cnO (dnR rs o) c+(r.owns.take j).count c:Nat):Int)) ⟨_,d3,U,λ_ _=>U,Z,c5,λc=>b3 c⟩ ?_ ?_ ?_
 .rintro j Y G _ ⟨v,g,_,u,_⟩;exact SqT.of ((u po p0).trans (M.sa _ _ g2))
 .rintro j x Y G hx ⟨v,g,rfl,u,R,a5,B⟩;rw[qH]at hx;obtain⟨c,hc,rfl⟩:=qS.mp hx;have jl:j<r.owns.length:=(qg.mp hc).1;have m:G s=some (.lst [.ref n,.ref f,.ref p]):=(u s (ns Z)).trans M.so;exists _,U,s,_,_,_,U,U,SqL.of m,U,n,U,.inl ⟨g,.inl R⟩,_,U,_,cj.k (k:=.inr c) R,_,_,B c,U;exists _,U,s,_,_,_,U,U,SqL.of m,U,_,U,n,_,U,eK.k (k:=.inr c) R Yo;refine⟨_,_,U,λW h=>by rw[ag h];exact u W h,ah,qC (dQ _ _ _) Yo,λW=>?_⟩;rw[dL,qu,hc,List.count_append];by_cases e:W=c
  .subst e;simp;omega
  .have e1:¬ (Sum.inr W:Key)=Sum.inr c:=λz=>e (Sum.inr.inj z);rw[Q4 e1,B W]
   have:(some c).toList.count W=0:=by
    show[c].count W=0;rw[List.count_singleton];simp[Ne.symm e]
   rw[this]
   rfl
 rintro Y G ⟨X,g,rfl,u,R,a5,B⟩;rw[qa]at a5 B;rw[qK]at B;have t1:=SqT.of (K:=K) ((u d (λz=>by rw[z,M.n0]at S;cases S)).trans (M.sa _ _ S));have m:G s=some (.lst [.ref n,.ref f,.ref p]):=(u s (ns Z)).trans M.so;have t:G f=some (.dK I):=(u f b2.symm).trans a9;have c3:G p=some (.dK L):=(u p a'.symm).trans b1;have b6:a8 H0 G:=λc o h=>(u c (λz=>by rw[z,M.n0]at h;cases h)).trans (M.sa c o h);have c9:tJ g (dnR rs (o++[i])):=λc=>by rw[tk,sT];exact B c
 clear u B b3 Z a9 b1
 have b8:∀(b:Hp)(y:LN)(X:LC),b s=some (.lst [.ref n,.ref f,.ref p])->b n=some (.dK g)->b f=some (.dK y)->b p=some (.dK L)->a8 H0 b->jZ y (dnR rs (o++[i]))->y.length<=2 * (o++[i]).length->Q .non (upd b p (.dK (bu L (.inl (i:Int)) (.bl true)))):=λb y X h1 h2 h3 h4 h5 h6 h7=>by
  have c7:s≠p:=λz=>by rw[z,h4]at h1;cases h1
  refine k _ ⟨by rwa[ag c7],⟨g,by rwa[ag a'],c9,by rw[ol];omega⟩,⟨y,by rwa[ag b5],h6,h7⟩,⟨_,ah,λj=>?_,qC (dQ _ _ _) (by rw[ol];omega)⟩,M.nd,λc o h=>?_,M.n0,M.n1,M.n2⟩
  .rw[dL];by_cases e:j=i
   .rw[Q5 (by rw[e]),e,Q6 (qL _ (qV.mpr U))]
    rfl
   .rw[Q4 (λz=>e (by have:=Sum.inl.inj z;omega)),d4 j];exact decide_eq_decide.mpr ⟨λh=>qY _ h,λh=>(qi.mp h).resolve_right λz=>e (qV.mp z)⟩
  .rw[ag (λz=>by rw[z,M.n2]at h;cases h)];exact h5 c o h
 have b7:I.length<sizeLine:=Yo;have b9:L.length<sizeLine:=Yo;have a4:∀{b:Hp},(∀c,c≠f->b c=G c)->b s=some (.lst [.ref n,.ref f,.ref p])/\b n=some (.dK g)/\b p=some (.dK L)/\a8 H0 b/\b d=G d:=λh=>⟨(h s (λz=>by rw[z,t]at m;cases m)).trans m,(h n b2).trans R,(h p b5.symm).trans c3,λc o e=>(h c (λz=>by rw[z,M.n1]at e;cases e)).trans (b6 c o e),h d (λz=>by rw[z,M.n1]at S;cases S)⟩;dsimp only[jh];refine jp (λY b=>∃D,Y=[some (.ref l),some (.ref s),some (.int i),some (.ref d),X]/\(∀c,c≠f->b c=G c)/\b f=some (.dK D)/\D.length<=I.length+1/\∀q:Str,(aI D (.inr q)).getD (.int 0)=.int (bal (dnR rs o) q+(if r.into=some q then 1 else 0))) ?_ λN go=>?_
 .rintro Y b ⟨D,rfl,e2,h2,_,a0⟩;obtain⟨b4,_,_,_,c8⟩:=a4 e2;have t2:SqT K b d _:=SqT.of (c8.trans (b6 _ _ S));refine jp (λY G3=>∃O,Y=[some (.ref l),some (.ref s),some (.int i),some (.ref d),X]/\(∀c,c≠f->G3 c=G c)/\G3 f=some (.dK O)/\O.length<=I.length+2/\jZ O (dnR rs (o++[i]))) ?_ λN go=>?_
  .rintro Y G3 ⟨O,rfl,e3,h3,_,d5⟩;obtain⟨a6,c4,a2,c6,_⟩:=a4 e3;exact⟨_,U,s,_,_,_,U,U,SqL.of a6,U,_,U,p,_,U,eK.k (k:=.inl (i:Int)) a2 b9,b8 G3 O X a6 c4 h3 a2 c6 d5 (by rw[ol];omega)⟩
  .have J:∀q:Str,bal (dnR rs (o++[i])) q=bal (dnR rs o) q+(if r.into=some q then 1 else 0)-(if r.outof=some q then 1 else 0):=λq=>by rw[tk,j9]
   cases eo:r.outof with
   |none=>
    rw[eo]at t2 J;refine⟨_,U,d,_,_,_,U,U,t2,U,U,_,U,aL U (go _ _ ⟨D,U,e2,h2,Yo,λq=>?_⟩)⟩;rw[a0 q,J q];simp
   |some q=>
    rw[eo]at t2 J;refine⟨_,U,d,_,_,_,U,U,t2,U,U,_,U,bD U ?_⟩;exists _,U,s,_,_,_,U,U,SqL.of b4,U,f,U,.inl ⟨D,.inl h2⟩,_,U,d,_,_,_,U,U,t2,U,_,cj.k (k:=.inr q) h2,_,_,a0 q,U;exists _,U,s,_,_,_,U,U,SqL.of b4,U,_,U,d,_,_,_,U,U,t2,U,f,_,U,eK.k (k:=.inr q) h2 Yo;refine go _ _ ⟨_,U,λc h=>by rw[ag h];exact e2 c h,ah,qC (dQ _ _ _) Yo,λC=>?_⟩;rw[dL,J C];by_cases e:C=q
    .subst e;simp
    .have e1:¬ (Sum.inr C:Key)=Sum.inr q:=λz=>e (Sum.inr.inj z);have e3:¬ (some q=some C):=λz=>e (qM z).symm;rw[Q4 e1,a0 C,Q4 e3];simp
 .cases ei:r.into with
  |none=>
   rw[ei]at t1;refine⟨_,U,d,_,_,_,U,U,t1,U,U,_,U,aL U (go _ _ ⟨I,U,λ_ _=>U,t,Yo,λq=>?_⟩)⟩;rw[a1 q,ei];simp
  |some q=>
   rw[ei]at t1;refine⟨_,U,d,_,_,_,U,U,t1,U,U,_,U,bD U ?_⟩;exists _,U,s,_,_,_,U,U,SqL.of m,U,f,U,.inl ⟨I,.inl t⟩,_,U,d,_,_,_,U,U,t1,U,_,cj.k (k:=.inr q) t,_,_,a1 q,U;exists _,U,s,_,_,_,U,U,SqL.of m,U,_,U,d,_,_,_,U,U,t1,U,f,_,U,eK.k (k:=.inr q) t b7;refine go _ _ ⟨_,U,λc h=>by rw[ag h],ah,dQ _ _ _,λC=>?_⟩;rw[dL,ei];by_cases e:C=q
   .subst e;simp
   .have e1:¬ (Sum.inr C:Key)=Sum.inr q:=λz=>e (Sum.inr.inj z);have e3:¬ (some q=some C):=λz=>e (qM z).symm;rw[Q4 e1,a1 C,Q4 e3];simp
theorem mF{b:LA}(h:∀e∈aj b,e∈aj ds):∀c∈cards b,c∈cards ds:=λc a=>by
 unfold cards at *;obtain⟨d,hd,h'⟩:=List.mem_flatMap.mp a;exact List.mem_flatMap.mpr ⟨d,h d hd,h'⟩
mutual
theorem Fw:∀(d e:ae),e∈d.flat->∀x∈e.flat,x∈d.flat
 |.set x a sg b,e,h=>by simp[ae.flat]at h;subst h;simp[ae.flat]
 |.put q x,e,h=>by simp[ae.flat]at h;subst h;simp[ae.flat]
 |.get q x,e,h=>by simp[ae.flat]at h;subst h;simp[ae.flat]
 |.give x,e,h=>by simp[ae.flat]at h;subst h;simp[ae.flat]
 |.cond x t o,e,h=>by
  rw[ae.flat,qw,qi]at h;rcases h with rfl|h|h
  .exact λx h=>h
  .intro y c;rw[ae.flat,qw,qi];exact .inr (.inl (ie t e h y c))
  .intro y c;rw[ae.flat,qw,qi];exact .inr (.inr (ie o e h y c))
 |.whl x b,e,h=>by
  rw[ae.flat,qw]at h;rcases h with rfl|h
  .exact λx h=>h
  .intro y c;rw[ae.flat,qw];exact .inr (ie b e h y c)
 |.rep n b,e,h=>by
  rw[ae.flat,qw]at h;rcases h with rfl|h
  .exact λx h=>h
  .intro y c;rw[ae.flat,qw];exact .inr (ie b e h y c)
theorem ie:∀(ds:LA)(e:ae),e∈aj ds->∀x∈e.flat,x∈aj ds
 |[],e,h=>by simp[aj]at h
 |d::r,e,h=>by
  rw[aj,qi]at h;intro y a;rw[aj,qi];rcases h with h|h
  .exact .inl (Fw d e h y a)
  .exact .inr (ie r e h y a)
end
theorem yo{e:ae}(h:e∈aj ds):∀c∈cards [e],c∈cards ds:=mF λx a=>by
 rw[aj,aj,qA]at a;exact ie ds e h x a
def yO(rooms:LS)(d:ae):Prop:=∀q x,d=.put q x->q∈rooms
theorem AR(n:Int)(names rooms:LS)(shut:Bool):yO rooms (bE n names rooms shut):=λq x z=>by
 unfold bE at z;split at z
 .cases z
 .split at z
  .rename_i c;split at z
   .cases z
   .injection z with z1 z2;rw[<- z1];exact i7 c.2.1 _
  .cases z
theorem Gz{names:LS}{low:Int}(d:1<=most)(c:most<=98)(a:LI):∀q x,.put q x∈aj (dA names rooms most low a)->q∈rooms:=λq x h=>
 mH (Pd:=yO rooms) ⟨λ_ _ _ q x z=>(by cases z),λ_ _ q x z=>(by cases z),λn b _ _ q x z=>(by cases z)⟩ (λk s=>AR _ _ _ _) d c a _ h q x U
theorem h8(l:LS):(srt l).Nodup:=by
 unfold srt;split
 .rename_i h;exact(Classical.choose_spec h).1
 .exact List.nodup_nil
def dJ(x:Str):Prop:=∀c∈x.cps.toList,c≠60
theorem dJ.app{y:Str}(d:dJ x)(b:dJ y):dJ (x++y):=λc a=>by
 rw[show(x++y).cps.toList=x.cps.toList++y.cps.toList from hE x y,qi]at a;exact a.elim (d c) (b c)
theorem dJ.slice{x:Str}(h:dJ x)(a b:Option Int):dJ (Txt.slice x a b):=λc d=>by
 rw[show(Txt.slice x a b).cps.toList=_ from nF x a b]at d;exact h c (List.mem_of_mem_drop (List.mem_of_mem_take d))
theorem tw(j:Int):dJ (sgn (c9 j)):=λd hd=>by
 simp[sgn]at hd;subst hd;unfold c9;have all:∀c∈cW.cps.toList,c≠60:=Yd;rw[qo]
 cases e:cW.cps.toList[j.toNat]? with
 |none=>decide
 |some c=>exact all c (qD e)
theorem rN(n:Int):∀k,dJ (cB n k)
 |0=>λc a=>by simp[cB]at a;exact Q8 a (by decide +kernel +revert)
 |k+1=>by rw[cB];exact(rN n k).app (tw _)
theorem Cs(c:Int)(n:Nat):∀w∈cD c n,dJ w:=by
 have a:∀w∈dr c n,dJ w:=λw hw=>by
  unfold dr at hw;obtain⟨k,_,rfl⟩:=List.mem_map.mp hw
  have d:dJ (bU c k):=by
   have b:dJ (bS c):=by unfold bS;exact rN _ _
   have s:dJ (eR c k):=tw _;unfold bU;split
   .exact((b.slice _ _).app s).app (b.slice _ _)
   .split
    .exact b.slice _ _
    .exact(s.app (rN _ _)).slice _ _
  unfold cQ;split
  .exact(d.slice _ _).app (tw _)
  .exact d
 unfold cD;split
 .intro w hw;exact a w (List.mem_reverse.mp hw)
 .exact a
def yV(names:LS)(d:ae):Prop:=∀q x,d=.get q x->x∈names
theorem AW(n:Int){names:LS}(h:0<names.length)(rooms:LS)(shut:Bool):yV names (bE n names rooms shut):=λq x z=>by
 unfold bE at z;split at z
 .cases z
 .split at z
  .split at z
   .injection z with z1 z2;rw[<- z2];exact i7 h _
   .cases z
  .cases z
theorem GC{names:LS}{low:Int}(h:0<names.length)(e:1<=most)(c:most<=98)(a:LI):∀q x,.get q x∈aj (dA names rooms most low a)->x∈names:=λq x d=>
 mH (Pd:=yV names) ⟨λ_ _ _ q x z=>(by cases z),λ_ _ q x z=>(by cases z),λn b _ _ q x z=>(by cases z)⟩ (λk s=>AW _ h _ _) e c a _ d q x U
theorem BC(e:ae)(h:∀q x,e=.get q x->dJ x):(aP e).owns.Nodup:=by
 cases e with
 |set x a c b=>exact Qu _ _
 |put q x=>exact Qu _ _
 |give x=>exact Qu _ _
 |get q x=>
  show(eP [x,q++("<":Str)]).Nodup
  have nx:x≠q++("<":Str):=λz=>by
   have:=h q x U 60;rw[z,show(q++("<":Str)).cps.toList=sl q++sl ("<":Str)from hE _ _]at this;exact this (qL _ Yd) U
  unfold eP;split
  .rename_i h;exact(Classical.choose_spec h).1.nodup_iff.mpr (by simp[nx])
  .exact List.nodup_nil
 |cond x t o=>exact h8 _
 |whl x b=>exact h8 _
 |rep n b=>exact h8 _
theorem yN{us:LV}(s:a8 H H')(h:RAs H us rs n):RAs H' us rs n:=⟨h.1,λi r f hr=>by
 obtain⟨v,a,p,l1,l2,g,j,e,m,l,b,k,d⟩:=h.2 i r f hr
 exact⟨v,a,p,l1,l2,g,j,e,s _ _ m,s _ _ l,s _ _ b,k.keep λc xs h=>s _ _ h,d.keep λc xs h=>s _ _ h⟩⟩
theorem Ax(x y:Str):y∈eP [x,y]:=by
 obtain⟨zs,pm,_,so⟩:=si x [y];rw[<- uA pm (so U)];exact pm.mem_iff.mpr (by simp)
theorem BE(e:ae):∀c∈(aP e).owns,c∈cards [e]:=by
 intro c a
 cases e with
 |cond x t o=>exact eA _ c a
 |whl x b=>exact eA _ c a
 |rep n b=>exact eA _ c a
 |get q x=>
  have:=uz _ c a;simpa[cards,aj,ae.flat,ae.cards,ae.names,ae.others]using this
 |_=>
  simp[aP]at a;simp[cards,aj,ae.flat,ae.cards,ae.names,ae.others,a]
theorem Bu{as:LS}{ss:LF}(nd:∀r∈aJ ds++[dv as ss ds],r.owns.Nodup)(ow:∀r∈aJ ds++[dv as ss ds],fE r)(fed:Fed (aJ ds++[dv as ss ds])):db (aJ ds++[dv as ss ds]):=by
 have d:∀{Pr:Row->Prop},(∀b,(∀e∈aj b,e∈aj ds)->Pr (fQ b))->(∀e∈aj ds,Pr (aP e))->Pr (dv as ss ds)->∀r∈aJ ds++[dv as ss ds],Pr r:=λk j g r hr=>by
  rcases qi.mp hr with hr|hr
  .rcases fY _ r hr with⟨b,rfl,hb⟩|⟨e,f,rfl,_⟩
   .exact k b hb
   .exact j e f
  .rwa[qV.mp hr]
 have own:=d (Pr:=λr=>∀c∈r.owns,c∈dD as ss ds) (λb hb c a=>by
  have:=mF hb c (eA _ c a);unfold dD
  simp[this]) (λe f c a=>by
  have:=yo f c (BE e c a);unfold dD
  simp[this]) λc a=>eA _ c a
 refine⟨nd,ow,d (λb _ q h=>(nomatch h)) (λe _ q h=>?_) λq h=>(nomatch h),d (λb _ q h=>(nomatch h)) (λe _ q h=>?_) λq h=>(nomatch h),fed,λ_ h=>?_⟩
 .cases e with
  |put i x=>cases h;exact qV.mpr U
  |_=>cases h
 .cases e with
  |get i x=>cases h;exact Ax _ _
  |_=>cases h
 .rw[qc,Qa,Nat.add_sub_cancel,qO (qf _),Nat.sub_self]at h;cases h;exact⟨U,U,λr hr c a=>(Aw _ c).mpr (own r hr c a)⟩
section
variable {W:List (List Wat)}{o:LG}
theorem LkI.clo(I:LkI W rs.length o [] zs st)(dw:∀k r,rs[k]?=some r->wsV W k=cM rs ln k r)(t:Nat):Clo rs ln (o.take t):=
 ⟨⟨List.Sublist.nodup (List.take_sublist _ _) I.nd,λj a=>I.lt j (List.mem_of_mem_take a)⟩,λk r hk hr e c=>by
   obtain⟨i,b⟩:=List.mem_iff_getElem?.mp hk;rw[List.getElem?_take]at b;split at b
   .rename_i lt;obtain⟨j,d,a⟩:=I.ord i k b e (by rwa[dw k r hr]);exists j,d;rw[show o.take i=(o.take t).take i by rw[List.take_take,Nat.min_eq_left Yo]]at a;exact List.mem_of_mem_take a
   .cases b⟩
theorem LkI.oks(I:LkI W rs.length o [] zs st)(R:db rs)(dw:∀k r,rs[k]?=some r->wsV W k=cM rs ln k r)(t k:Nat)(h:o[t]?=some k):∃r,rs[k]?=some r/\eN rs (dnR rs (o.take t)) k r/\gx (dnR rs (o.take t)) r/\iA ln (dnR rs (o.take t)) r:=by
 have hr:rs[k]?=some (rs[k]'(I.lt k (qD h))):=qd _;generalize rs[k]'(I.lt k (qD h))=r at hr;have C:=I.clo dw t;have dn:=I.ord t k h;rw[dw k r hr]at dn
 have d:k∉o.take t:=λz=>by
  obtain⟨i,b⟩:=List.mem_iff_getElem?.mp z;rw[List.getElem?_take]at b;split at b
  .have:=(List.getElem?_inj (qg.mp h).1 I.nd).mp (h.trans b.symm);omega
  .cases b
 unfold cM at dn;have c:=(C.card_iff R hr).mp λe a=>dn e (qY _ (qY _ a));exact⟨r,hr,c,(C.thing_iff R hr d c).mp λe a=>dn e (qY _ (qL _ a)),(C.room_iff R hr d c).mp λe a=>dn e (qL _ a)⟩
theorem LkI.lack(I:LkI W rs.length o [] zs st)(R:db rs)(dw:∀k r,rs[k]?=some r->wsV W k=cM rs ln k r){k:Nat}(hr:rs[k]?=some r)(d:k∉o):¬ dc rs ln (dnR rs o) k r "":=λh=>by
 have C:=I.clo dw o.length;rw[qK]at C
 obtain⟨w,b,e,f,_⟩:∃w,w∉o/\∃e,(wsV W k)[zs k]?=some e/\e.1=(w:Int):=by
  rcases I.al k (qg.mp hr).1 with z|z|⟨w,b,hw⟩
  .exact Q8 z d
  .cases z
  .exact⟨w,b,(I.so w b k hw).2.2.2⟩
 have a:=qD f;rw[dw k r hr]at a;generalize ez:("":Str)=z at h
 cases h with
 |card=>exact Q8 ez Yd
 |thing=>exact Q8 ez Yd
 |room=>exact Q8 ez Yd
 |no c t q=>
  have:ci o e:=by
   unfold cM at a;rw[qi,qi]at a;rcases a with(a|a)|a
   .exact(C.card_iff R hr).mpr c e a
   .exact(C.thing_iff R hr d c).mpr t e a
   .exact(C.room_iff R hr d c).mpr q e a
  obtain⟨x,ex,g⟩:=this
  exact b (by
   have:x=w:=Yo
   exact this▸g)
theorem FI{k:Nat}:∀e∈eG (rs.take k) r++eO rs k r,e.2.1≠("room":Str):=λe a=>by
 have b:∀{kd:Str}{d:LS},kd≠("room":Str)->e∈dH (bO (rs.take k)) kd d->e.2.1≠("room":Str):=λ{kd d} n h=>by
  unfold dH at h;obtain⟨c,_,f⟩:=List.mem_filterMap.mp h;obtain⟨_,_,rfl⟩:=qS.mp f;exact n
 unfold eG at a;rw[qi,qi]at a;rcases a with(a|a)|a
 .exact b Yd a
 .exact b Yd a
 .unfold eO at a;split at a
  .rw[qV.mp a];exact show("thing":Str)≠"room" by decide +kernel
  .cases a
theorem FH(R:db rs){k:Nat}(h:rs[k]?=some r):∀e∈cM rs ln k r,∃j:Nat,e.1=(j:Int)/\j<rs.length:=λe b=>by
 have f:=(qg.mp h).1;by_cases z:e.2.1=("room":Str)
 .have b:e∈roomV rs ln k r:=by
   unfold cM at b;rcases qi.mp b with b|b
   .exact Q8 z (FI e b)
   .exact b
  unfold roomV at b;split at b
  .split at b
   .rw[qV.mp b];show ∃j:Nat,awaited _ _ _=(j:Int)/\_;unfold awaited;split
    .rename_i q _ _ lt;rw[qo,qd lt];have ex:(ar Row.outof (rs.take rs.length) q)[(ja rs (ln q) k q).toNat]?=some ((ar Row.outof rs q)[(ja rs (ln q) k q).toNat]'lt):=by rw[qK];exact qd lt
     obtain⟨j,g,d,a,_⟩:=lG rs.length (qf _) _ _ ex;exact⟨j,d,(qg.mp a).1⟩
    .exact⟨rs.length-1,Yo,Yo⟩
   .cases b
  .cases b
 .obtain⟨j,c,lt⟩:=FJ R h e b z;exact⟨j,c,Yo⟩
theorem rV{R:List Row}{k:Nat}:dc rs ln R k r ""->eN rs R k r/\gx R r/\iA ln R r:=λh=>by
 generalize ez:("":Str)=z at h
 cases h with
 |card=>exact Q8 ez Yd
 |thing=>exact Q8 ez Yd
 |room=>exact Q8 ez Yd
 |no c t q=>exact⟨c,t,q⟩
theorem EB{R:List Row}{k:Nat}{z:Str}(h:dc rs ln R k r z)(n:z≠""):¬ dc rs ln R k r "":=λh'=>by
 obtain⟨c,t,q⟩:=rV h'
 cases h with
 |card x=>exact x c
 |thing _ x=>exact x t
 |room _ _ x=>exact x q
 |no=>exact n U
theorem ua{o:LG}{t k:Nat}(nd:o.Nodup)(h:o[t]?=some k):k∉o.take t:=λz=>by
 obtain⟨i,a⟩:=List.mem_iff_getElem?.mp z;rw[List.getElem?_take]at a;split at a
 .have:=(List.getElem?_inj (qg.mp h).1 nd).mp (h.trans a.symm);omega
 .cases a
theorem Grd.clo(g:Grd rs ln o)(R:db rs):∀t,Clo rs ln (o.take t)
 |0=>⟨⟨List.nodup_nil,λj h=>(nomatch h)⟩,λk r h=>(nomatch h)⟩
 |t+1=>by
  have C:=Grd.clo g R t;rw[qu]
  cases h:o[t]? with
  |none=>rw[show(none:Option Nat).toList=[]from rfl,qA];exact C
  |some k=>
   obtain⟨r,hr,v⟩:=g.ok t k h;obtain⟨c,p,u⟩:=rV v;have n:=ua g.nd h;have q:=(qg.mp hr).1;show Clo rs ln (o.take t++[k]);refine⟨⟨List.nodup_append.mpr ⟨C.dn.nd,Qu _ _,λa ha b hb z=>n (by rwa[<- qV.mp hb,<- z])⟩,λj d=>?_⟩,λj s d l e f=>?_⟩
   .rcases qi.mp d with d|d
    .exact C.dn.lt j d
    .rwa[qV.mp d]
   .rcases qi.mp d with d|d
    .exact(C.wt j s d l e f).imp λi m=>⟨m.1,qY _ m.2⟩
    .rw[qV.mp d]at l;rw[hr]at l;cases l
     have dn:ci (o.take t) e:=by
      rw[qV.mp d]at f;unfold cM at f;rw[qi,qi]at f;rcases f with(f|f)|f
      .exact(C.card_iff R hr).mpr c e f
      .exact(C.thing_iff R hr n c).mpr p e f
      .exact(C.room_iff R hr n c).mpr u e f
     exact dn.imp λi m=>⟨m.1,qY _ m.2⟩
theorem n5{a:LG}(nd:o.Nodup)(oks:∀t k,o[t]?=some k->∃r,rs[k]?=some r/\eN rs (dnR rs (o.take t)) k r/\gx (dnR rs (o.take t)) r/\iA ln (dnR rs (o.take t)) r)(p:∀t,Clo rs ln (o.take t))(R:db rs)(g:Clo rs ln a)(q:∀k r,rs[k]?=some r->k∉a->¬ dc rs ln (dnR rs a) k r ""):∀(m t k:Nat),t<m->o[t]?=some k->k∈a
 |0,t,k,h,_=>Yo
 |m+1,t,k,ht,h=>by
  by_cases ko:k∈a
  .exact ko
  obtain⟨r,hr,c,th,u⟩:=oks t k h;have w:=(qg.mp hr).1;have v:=qD hr;have C:=p t
  have b:∀j∈o.take t,j∈a:=λj s=>by
   obtain⟨i,f⟩:=List.mem_iff_getElem?.mp s;rw[List.getElem?_take]at f;split at f
   .exact n5 nd oks p R g q m i j Yo f
   .cases f
  have l:k∉o.take t:=ua nd h;have n:=(g.card_iff R hr).mp λe d=>((C.card_iff R hr).mpr c e d).more b;refine Q8 (dc.no n ((g.thing_iff R hr ko n).mp λe d=>((C.thing_iff R hr l c).mpr th e d).more b) ((g.room_iff R hr ko n).mp λe d=>((C.room_iff R hr l c).mpr u e d).more b)) (q k r hr ko)
end
def LkW(W:List (List Wat))(o:LG)(H:Hp)(kd:Str)(xs:LV):Prop:=(kd=("by":Str)/\xs=[]/\o.length=W.length)\/∃F ru ps,kd=("ring":Str)/\xs=[.ref F]/\H F=some (.lst ru)/\RWs H ru (ps.map rgW)/\k6 W o ps
theorem Er{W:List (List Wat)}{o:LG}{f g:Addr}{G:Prop}(go:∀(kd:Str)(xs:LV),H f=some (.tup (.str kd::.ref g::xs))->LkW W o H kd xs->G):(o.length=W.length->H f=some (.tup [.str "by",.ref g])->G)/\∀e us ps,H f=some (.tup [.str "ring",.ref g,.ref e])->H e=some (.lst us)->RWs H us (ps.map rgW)->k6 W o ps->G:=
 ⟨λa b=>go _ _ b (.inl ⟨U,U,a⟩),λe us ps a b c d=>go _ _ a (.inr ⟨e,us,ps,U,U,b,c,d⟩)⟩
structure GO(rows:List Row)(ss:LF)(W:List (List Wat))(ln:Str->Int):Prop where
 dw:∀k r,rows[k]?=some r->wsV W k=cM rows ln k r
 sm:Sm W 9000
 tg:Tgt W
 wl:W.length=rows.length
 dl:∀r∈rows,∀q,r.into=some q->aI (cU (cL ss)) (.inr q)=some (.int (ln q))
 lq:∀q n,(q,n)∈ss->ln q=n
theorem En{rows:List Row}{b:LS}(o:db rows)(nd:b.Nodup)(g:∀r∈rows,r.owns.length<=4000/\r.reads.length<=4000)(p:∀r∈rows,∀q,(r.into=some q\/r.outof=some q)->q∈b){ss:LF}(nm:ss.map (·.1)=b)(t:∀s∈ss,0<=s.2):GO rows ss (cR rows ss (cG rows rows.length) ss.length) (j0 (cU (cL ss))):=by
 have l:(ss.map (·.1)).Nodup:=by rwa[nm]
 have c:∀q n,(q,n)∈ss->aI (cU (cL ss)) (.inr q)=some (.int n):=λq n h=>An l h
 have kin:∀q∈b,∃n,(q,n)∈ss:=λq u=>by
  rw[<- nm]at u;obtain⟨st,m,e⟩:=List.mem_map.mp u;exact⟨st.2,by rwa[<- e]⟩
 have j:∀(i:Nat)(r:Row),rows[i]?=some r->(cR rows ss (cG rows rows.length) ss.length)[i]?=some (cM rows (j0 (cU (cL ss))) i r):=λi r h=>
  FK h (o.ow r (qD h)) l t (λst m=>rL (c st.1 st.2 m)) (λq e=>kin q (p r (qD h) q (.inl e))) (λq e=>kin q (p r (qD h) q (.inr e))) λq e=>xZ o.fed h e
 have d:(cR rows ss (cG rows rows.length) ss.length).length=rows.length:=by rw[yD,jX _ _ (qf _)]
 have dw:∀k r,rows[k]?=some r->wsV (cR rows ss (cG rows rows.length) ss.length) k=cM rows (j0 (cU (cL ss))) k r:=λk r h=>by unfold wsV;rw[j k r h];rfl
 refine⟨dw,λi es h=>?_,λk e f=>?_,d,λr hr q e=>?_,λq n h=>rL (c q n h)⟩
 .have w:=(qg.mp h).1;have a:rows[i]?=some (rows[i]' Yo):=qd _;rw[j i _ a]at h;cases h;generalize rows[i]' Yo=r at a;obtain⟨_,_⟩:=g r (qD a);have b1:=iu (bO (rows.take i)) "card" r.owns;have b2:=iu (bO (rows.take i)) "copy" r.reads;have v:(eO rows i r).length<=1:=by unfold eO;split<;>simp
  have x:(roomV rows (j0 (cU (cL ss))) i r).length<=1:=by
   unfold roomV;split
   .split<;>simp
   .simp
  unfold cM eG;rw[qc,qc,qc];omega
 .by_cases lt:k<rows.length
  .have a:rows[k]?=some (rows[k]'lt):=qd _;rw[dw k _ a]at f;rw[d];exact FH o a e f
  .unfold wsV at f;rw[Qs Yo]at f;cases f
 .obtain⟨n,hn⟩:=kin q (p r hr q (.inl e));rw[c q n hn,rL (c q n hn)]
theorem FF{l:LG}:∀{i k:Nat},l.Nodup->l[i]?=some k->l.eraseIdx i=l.filter λx=>!decide (x=k):=by
 induction l with
 |nil=>intro i k _ h;simp at h
 |cons a l d=>
  intro i k nd h;obtain⟨b,e⟩:=List.nodup_cons.mp nd
  cases i with
  |zero=>
   cases h;rw[List.filter_cons_of_neg (by simp)];exact(List.filter_eq_self.mpr λx f=>by simp;intro z;exact b (z▸f)).symm
  |succ i=>
   have h:l[i]?=some k:=by simpa using h
   have c:a≠k:=λz=>b (z▸qD h);rw[List.filter_cons_of_pos (by simp[c]),<- d e h]
   rfl
theorem Al{us:LV}{ss:LF}(r:RSs H us ss):∀(i:Nat)(x:Key×V),(cL ss)[i]?=some x->∃pt,us[i]?=some (.ref pt)/\H pt=some (.tup [kV x.1,x.2]):=λi x b=>by
 unfold cL at b;rw[qH]at b;obtain⟨st,a,rfl⟩:=qS.mp b;have f:=(qg.mp a).1;have e:=r.len;obtain⟨pt,q,n,c,es,d⟩:=r.at i (us[i]' Yo) (qd Yo);rw[a]at es;cases es;exact⟨pt,by rw[qd Yo,c],d⟩
theorem WkH.also{s g i f d:Addr}{o:LG}{ob:HO}(M:WkH H0 H s g i f rs o)(h:H d=none):WkH (upd H0 d ob) (upd H d ob) s g i f rs o:=by
 obtain⟨k,a0,b0⟩:=M.c0;obtain⟨j,b,b1⟩:=M.c1;obtain⟨l,e,b2⟩:=M.c2;have ne:∀{c:Addr}{x:HO},H c=some x->c≠d:=λa z=>by rw[z,h]at a;cases a
 refine⟨by rw[ag (ne M.so)];exact M.so,⟨k,by rwa[ag (ne a0)],b0⟩,⟨j,by rwa[ag (ne b)],b1⟩,⟨l,by rwa[ag (ne e)],b2⟩,M.nd,λc x a=>?_,by rw[ag (ne a0)];exact M.n0,by rw[ag (ne b)];exact M.n1,by rw[ag (ne e)];exact M.n2⟩;by_cases z:c=d
 .rw[z,ah]at a ⊢;exact a
 .rw[ag z]at a ⊢;exact M.sa _ _ a
theorem WkH.over{G:Hp}{a s f g d:Addr}{o:LG}{x y:HO}(M:WkH (upd H0 a x) G s f g d rs o)(ns:s≠a):WkH (upd H0 a y) (upd G a y) s f g d rs o:=by
 have ne:∀{c:Addr},upd H0 a x c=none->c≠a:=λh z=>by rw[z,ah]at h;cases h
 obtain⟨p,a0,b0⟩:=M.c0;obtain⟨n,l,b1⟩:=M.c1;obtain⟨q,m,b2⟩:=M.c2;have k:=ne M.n0;have i:=ne M.n1;have j:=ne M.n2;refine⟨by rw[ag ns];exact M.so,⟨p,by rwa[ag k],b0⟩,⟨n,by rwa[ag i],b1⟩,⟨q,by rwa[ag j],b2⟩,M.nd,λc z b=>?_,by have:=M.n0;rw[ag k]at this ⊢;exact this,by have:=M.n1;rw[ag i]at this ⊢;exact this,by have:=M.n2;rw[ag j]at this ⊢;exact this⟩;by_cases e:c=a
 .rw[e,ah]at b ⊢;exact b
 .rw[ag e]at b ⊢;exact M.sa _ _ (by rwa[ag e])
theorem Dz(T:Tx P w K mg a):aM P w K mg base CX0 3 a.J9 a.Ja ["_law_rows","_law_ahead_here","_law_lengths","_law_state","_law_left_here","_law_pick"] ve:=by
 refine T.JI.F.ok nO (by walk_at "l") λ_ A outer s H vs Q E hr h=>?_;obtain⟨W,l,la,d,s,X0,N,O,g,us,as,rs,B,J,o,b,p,rfl,M,X,hl,_,l1,L,_,D,no⟩:=h
 refine⟨_,(ai (bR PassesOwn.never U (g9 U T.om (a9 (be bT U T.f8 Qb (a9 (pq 4) af)) af)) (aR (i:=6) nO.nd U Oi)
  (ai (au (i:=7) nO.nd U Oi (ao aK (pq 4) (aq bf (aq bK (pq 5) (pq 6)) (be bT U T.f8 Qb (a9 (pq 4) af))) Oy))
  (ap (aQ (aD br (aF (DD T) (hr.mono Yk) T.JG (a9 (pq 0) (a9 (pq 1) (a9 (pq 2) (a9 (pq 3) (a9 (pq 7) af)))))) aS (aG _)) (ap (aE (pq 7))) aZ))))
  (ap (aE cr))),?_⟩
 walk_at "q";have I:(aN b).length=b.length:=eS _;exists _,U,g,_,U,.inl (SqL.of hl),_,U,Yo,Yo;rw[show((aN b).length:Int).toNat=b.length by omega];refine j5 (λi Y G=>G=H/\(∃v m,Y=[some (.ref l),some (.ref la),some (.ref d),some (.ref s),some (.ref g),some (.int p),v,m])/\∀j:Nat,j<i->∀k r,b[((p+j) % b.length).toNat]?=some k->rs[k]?=some r->¬ dc rs J (dnR rs o) k r "") ⟨U,⟨_,_,U⟩,λj h=>Q8 h (QB j)⟩ ?_ ?_
 .rintro i Y G _ ⟨rfl,⟨v,m,rfl⟩,all⟩;rw[Int.zero_add];have x:=Qd (p+i) (show(b.length:Int)≠0 by omega);have m1:=Qi (p+i) (show 0<(b.length:Int)by omega);have hk:b[((p+i) % b.length).toNat]?=some (b[((p+i) % b.length).toNat]' Yo):=qd _;generalize b[((p+i) % b.length).toNat]' Yo=k at hk
  have S:atI (aN b) ((p+i) % ((aN b).length:Int))=some (.int k):=by
   rw[I];exact yI x (by unfold aN;rw[qH,hk];rfl)
  have n:=qD hk;have f:rs[k]?=some (rs[k]'(L k n)):=qd _;generalize rs[k]'(L k n)=r at f;dsimp only[dh];exists _,U,_,U,_,U,_,_,U,U,_,U,g,_,U,.inl (SqL.of hl),_,_,U,U,by rw[I];omega,g,_,_,_,U,U,SqL.of hl,S;dsimp only[dh];refine⟨_,U,_,U,_,U,_,U,_,U,W,l,la,d,s,X0,N,O,us,as,rs,B,J,o,k,r,U,M,X,f,λz C=>⟨U,_,U,?_⟩⟩;by_cases e:z=("":Str)
  .exact bD (Q6 (by rw[e])) ⟨_,U,D k r n f (e▸C)⟩
  .refine aL (Q7 λy=>e (V.str.inj y)) ⟨U,⟨_,_,U⟩,λj u R Z t q=>?_⟩;by_cases c:j=i
   .rw[c,hk]at t;cases t;rw[f]at q;cases q;exact EB C e
   .exact all j Yo R Z t q
 .rintro Y G ⟨rfl,⟨v,m,rfl⟩,all⟩;refine no λk r hk f=>?_;obtain⟨j,u⟩:=List.mem_iff_getElem?.mp hk;have jl:=(qg.mp u).1;have x:=Qd ((j:Int)-p) (show(b.length:Int)≠0 by omega);have m1:=Qi ((j:Int)-p) (show 0<(b.length:Int)by omega);refine all (((j:Int)-p) % b.length).toNat Yo k r ?_ f;rwa[Int.toNat_of_nonneg x,Int.add_emod_emod,show p+((j:Int)-p)=j by omega,Int.emod_eq_of_lt (by omega) (by omega),Q0]
theorem DC(T:Tx P w K mg a):aM P w K mg base CX0 4 a.Jb a.Jc ["_law_rows","_law_stores","_law_script"] (vj K):=by
 refine T.JJ.F.ok fJ (by walk_at "l") λ_ A outer s H vs Q E hr h=>?_;obtain⟨l,ls,lc,us,sv,rs,ss,X0,L,rfl,hl,rr,few,B,hs,a3,sl,dl,hS,_,k⟩:=h
 refine⟨_,(ai (au (i:=3) fJ.nd U Oi (aF (DG T) (hr.mono Yk) T.JF (a9 (pq 0) af)))
  (ai (au (i:=4) fJ.nd U Oi (fw (Gw U) U T.JY PyProof.Rows.Boot.«dict» (a9 (pq 1) af)))
  (ai (au (i:=5) fJ.nd U Oi (ba (a9 gK (a9 gK (a9 gK af)))))
  (ai (kZ (i:=6) fJ.nd U Oi (k:=1) (Nc:=["_law_k"]) (js:=[]) (show bL (aH kQ) ["_law_rows","_law_stores","_law_script","_law_ahead_here","_law_lengths","_law_state","_law_left_here","_law_at","_law_step","_law_pick"] _ 1 ["_law_k"] []from bL.mk U (by decide +kernel) (by decide +kernel) (by decide +kernel) U (by decide +kernel)) U (g9 U T.om (a9 (be bT U T.f8 Qb (a9 (pq 0) af)) af)) (λ_ _ _ _ _=>(aR (i:=0) (show List.Nodup (["_law_k"]:LS)from by decide +kernel) U Oi)) (λ_ _ _ _ _=>gJ) (λ_ _ _ _ _=>(pq 0)))
  (ai (au (i:=7) fJ.nd U Oi aa)
  (ai (au (i:=8) fJ.nd U Oi aa)
  (ai (kY PassesOwn.never (PW.pt (fL (aD gG (be bT U T.f8 Qb (a9 (pq 6) af)) aa (aG _)) (gH (aD fK (pq 7) cr (aG _))))) (ai (au (i:=9) fJ.nd U Oi (aF (fN T) (hr.mono Yk) T.mt (a9 (aF (lF T) (hr.mono Yk) T.wS (a9 (pq 2) (a9 (aq bK aa (aq bf (pq 8) aa)) af))) (a9 (aq bf (pq 8) aa) af))))
  (ai (au (i:=7) fJ.nd U Oi (aF (Dz T) (hr.mono Yk) T.JI (a9 (pq 0) (a9 (pq 3) (a9 (pq 4) (a9 (pq 5) (a9 (pq 6) (a9 (pq 9) af))))))))
  (ai (aQ (aD fK (pq 7) cr (aG _)) (ai (bx (aF (DE T) (hr.mono Yk) T.JH (a9 (pq 0) (a9 (pq 5) (a9 (pq 7) af)))))
  (ap (bx (bF qh PySem.F.slot_list_remove PySem.F.type_list_remove DX (pq 6) (a9 (pq 7) af))))) aZ)
  (ap (Cp (i:=8) fJ.nd U Oi aa EU))))))
  (ap (aE (pq 6)))))))))),?_⟩
 walk_at "q";have ul:=rr.len;refine⟨_,U,l,us,rs,U,hl,rr,few,B,λH1 la as s1 b0 ra=>?_⟩;dsimp only[dh];have a5:=a3.same s1;have a1:(cL ss).length=ss.length:=by simp[cL]
 refine⟨_,U,ls,sv,cL ss,U,s1 _ _ hs,by rw[a1];exact a3.len,bq (m:=100) (by rw[a1];omega),Al a5,λd fd=>?_⟩;have J:=a8.new fd (.dK (cU (cL ss)));have hd:upd H1 d (.dK (cU (cL ss))) d=some (.dK (cU (cL ss))):=ah;have R:=s1.trans J;have C:mO (upd H1 d (.dK (cU (cL ss)))) l la d us as rs (cU (cL ss)) L:=⟨R _ _ hl,rr.same R,J _ _ b0,yN J ra,hd,few,B,dl⟩;generalize upd H1 d (.dK (cU (cL ss)))=H2 at R C;dsimp only[dh];refine λu z0=>λn z1=>λq O=>⟨ln3,λs b3=>?_⟩;have a2:n≠u:=λz=>by rw[z,ah]at z1;cases z1
 have b2:q≠n:=λz=>by rw[z,ah]at O;cases O
 have a7:q≠u:=λz=>by rw[z,ag a2.symm,ah]at O;cases O
 have q0:=a8.new z0 (.dK []);have q1:=a8.new z1 (.dK []);have J:=a8.new O (.dK []);have q3:=a8.new b3 (.lst [.ref u,.ref n,.ref q])
 have X:WkH H2 (upd (upd (upd (upd H2 u (.dK [])) n (.dK [])) q (.dK [])) s (.lst [.ref u,.ref n,.ref q])) s u n q rs []:=
  ⟨ah,⟨[],(q1.trans (J.trans q3)) _ _ ah,λc=>U,qf _⟩,⟨[],(J.trans q3) _ _ ah,λc=>U,qf _⟩,⟨[],q3 _ _ ah,λj=>U,qf _⟩,⟨a2.symm,a7.symm,b2.symm⟩,(q0.trans q1).trans (J.trans q3),z0,a8.none q0 z1,a8.none (q0.trans q1) O⟩
 generalize upd (upd (upd (upd H2 u (.dK [])) n (.dK [])) q (.dK [])) s (.lst [.ref u,.ref n,.ref q])=H3 at X ⊢;dsimp only[dh];exists _,U,l,us,U,.inl (SqL.of (X.sa _ _ C.hl)),_,U,Yo,Yo;refine yg (λi ys Y G=>(∃v,Y=[v])/\G=H3/\ys=aN (List.range i)) ⟨⟨none,U⟩,U,U⟩ ?_ (bq (m:=1000) Yo) ?_ ?_
 .rintro i ys Y G _ ⟨_,_,rfl⟩;rw[eS,Qh];exact qf _
 .rintro i ys Y G S ⟨⟨v,rfl⟩,rfl,rfl⟩;exact⟨_,U,⟨_,U⟩,U,by rw[List.range_succ,lJ];rfl⟩
 rintro ys Y G ⟨_,rfl,rfl⟩ f a0;rw[ul,Q0];have f2:H2 f=none:=a8.none X.sa a0;have M1:=X.also (ob:=.lst (aN (List.range rs.length))) a0;have ns:s≠f:=λz=>by have:=X.so;rw[z,a0]at this;cases this
 dsimp only[dh];refine jp (λD G'=>D=[some (.ref l),some (.ref ls),some (.ref lc),some (.ref la),some (.ref d),some (.ref s),some (.ref f),some (.int 0),none,none]/\G'=upd G f (.lst (aN (List.range rs.length)))) ?_ (λN hN=>hN _ _ ⟨U,U⟩);rintro D G1 ⟨rfl,rfl⟩;refine jp (λD G'=>D=[some (.ref l),some (.ref ls),some (.ref lc),some (.ref la),some (.ref d),some (.ref s),some (.ref f),some (.int 0),some (.int 0),none]/\G'=upd G f (.lst (aN (List.range rs.length)))) ?_ (λN hN=>hN _ _ ⟨U,U⟩);rintro D G1 ⟨rfl,a'⟩;rw[<- a']at M1
 have a4:∀{o:LG},((List.range rs.length).filter λk=>!decide (k∈o)).length<=1000:=λ{o}=>by
  have:=List.length_filter_le (λk=>!decide (k∈o)) (List.range rs.length);rw[Qh]at this;omega
 have fin:∀{o:LG}{G:Hp}{Y:St},WkH (upd H2 f (.lst (aN ((List.range rs.length).filter λk=>!decide (k∈o))))) G s u n q rs o->Grd rs L o->(∀k r,rs[k]?=some r->k∉o->¬ dc rs L (dnR rs o) k r "")->Q (.ref f) G:=λM g mx=>k _ f _ (R.trans ((a8.new f2 _).trans M.sa)) g mx (M.sa _ _ ah);refine⟨λm Y G=>∃(o:LG)(I:V)(st:Int)(v9:LC),Y=[some (.ref l),some (.ref ls),some (.ref lc),some (.ref la),some (.ref d),some (.ref s),some (.ref f),some I,some (.int st),v9]/\0<=st/\WkH (upd H2 f (.lst (aN ((List.range rs.length).filter λk=>!decide (k∈o))))) G s u n q rs o/\Grd rs L o/\(I=.non->∀k r,rs[k]?=some r->k∉o->¬ dc rs L (dnR rs o) k r "")/\m=2 * ((List.range rs.length).filter λk=>!decide (k∈o)).length+(if I=.non then 0 else 1),⟨_,[],.int 0,0,none,U,Int.le_refl _,?_,⟨List.nodup_nil,λt k h=>by simp at h⟩,λz=>(nomatch z),U⟩,?_⟩
 .have e:(List.range rs.length).filter (λk=>!decide (k∈([]:LG)))=List.range rs.length:=List.filter_eq_self.mpr λx _=>by simp
  rw[e];exact M1
 rintro _ Y _ ⟨o,I,st,v9,rfl,st0,M,g,mx,a6⟩;have Z:=M.sa _ _ (ah (H:=H2) (a:=f) (o:=.lst (aN ((List.range rs.length).filter λk=>!decide (k∈o)))))
 have LQ:mO (upd H2 f (.lst (aN ((List.range rs.length).filter λk=>!decide (k∈o))))) l la d us as rs (cU (cL ss)) L:=by
  have e:=a8.new f2 (.lst (aN ((List.range rs.length).filter λk=>!decide (k∈o))));exact⟨e _ _ C.hl,C.rr.same e,e _ _ C.ha,yN e C.ra,e _ _ C.hd,few,B,dl⟩
 exists _,U,f,_,U,.inl (SqL.of Z),_,_,U,U,_,U;rw[eS];by_cases z:0<((List.range rs.length).filter λk=>!decide (k∈o)).length
 rotate_left
 .refine aL (Q7 Yo) (aL U ⟨_,U,fin (Y:=[]) M g λk r hr ko _=>z ?_⟩);exact List.length_pos_of_mem (List.mem_filter.mpr ⟨List.mem_range.mpr (qg.mp hr).1,by simpa using ko⟩)
 refine bD (Q6 Yo) ⟨_,U,U,_,U,?_⟩;by_cases y:I=.non
 .exact aL (by rw[y];rfl) ⟨_,U,fin (Y:=[]) M g (mx y)⟩
 refine bD (by rw[Q7 y];rfl) ⟨_,λD G' h=>h,?_⟩;rw[Q4 y]at a6;exists _,U,_,U,_,_,U,U,Yk,_,_,U,U,lc,X0,_,U,(R.trans ((a8.new f2 _).trans M.sa)).seq hS,Yo,Yo,_,U,_,_,U,U,Yk,_,_,U,Yo,Yo;have p0:=jF (X0.getD (3+st % 60).toNat 0) (st % 997);generalize aA (X0.getD (3+st % 60).toNat 0) (st % 997)=p at p0;dsimp only[dh];refine⟨_,U,_,U,_,U,_,U,_,U,_,U,_,l,la,d,s,u,n,q,f,us,as,rs,_,L,o,_,p,U,M,LQ,Z,z,a4,λk hk=>?_,p0,λk r hk hr lk=>?_,λnone=>?_⟩
 .exact List.mem_range.mp (List.mem_filter.mp hk).1
 .dsimp only[dh];have ko:k∉o:=by have:=(List.mem_filter.mp hk).2;simpa using this
  have ol:o.length<=rs.length:=gN g.nd λj hj=>by
   obtain⟨t,ht⟩:=List.mem_iff_getElem?.mp hj;obtain⟨_,b1,_⟩:=g.ok t j ht;exact(qg.mp b1).1
  obtain⟨i,S⟩:=List.mem_iff_getElem?.mp hk;have nf:((List.range rs.length).filter λk=>!decide (k∈o)).Nodup:=List.nodup_range.filter _
  have ef:((List.range rs.length).filter λk=>!decide (k∈o)).eraseIdx i=(List.range rs.length).filter λx=>!decide (x∈o++[k]):=by
   rw[FF nf S,List.filter_filter];refine List.filter_congr λx _=>?_;by_cases c1:x=k<;>by_cases c2:x∈o<;>simp[c1,c2]
  have il:=(qg.mp S).1;refine⟨_,U,U,_,U,bD U ?_⟩;refine⟨_,U,_,U,_,U,_,l,s,u,n,q,us,rs,o,k,r,U,M,LQ.hl,LQ.rr,hr,Yo,B,λ_ M3=>?_⟩;have W:=M3.sa _ _ (ah (H:=H2) (a:=f) (o:=.lst (aN ((List.range rs.length).filter λk=>!decide (k∈o)))));refine⟨_,U,.inl ⟨U,_,SqL.of W⟩,_,U,f,((List.range rs.length).filter λk=>!decide (k∈o)).map λj:Nat=>(j:Int),k,i,U,U,by rw[List.map_map];exact W,by rw[qH,S];rfl,λj hj e=>?_,by rw[qa];have:=a4 (o:=o);omega,?_⟩
  .rw[qH]at e;obtain⟨x,hx,ex⟩:=qS.mp e;have ex:(x:Int)=(k:Int):=ex;have:x=k:=Yo;rw[this]at hx;have:=(List.getElem?_inj il nf).mp (S.trans hx.symm);omega
  .rw[<- sJ,ef,List.map_map]
   have gl:((List.range rs.length).filter λx=>!decide (x∈o++[k])).length+1=((List.range rs.length).filter λk=>!decide (k∈o)).length:=by
    rw[<- ef,List.length_eraseIdx,Q5 il];omega
   refine⟨_,U,_,_,U,U,_,?_,o++[k],.int k,st+1,_,U,Yo,M3.over ns,⟨List.nodup_append.mpr ⟨g.nd,Qu _ _,λa ha b hb z=>ko (by rwa[<- qV.mp hb,<- z])⟩,λt j h=>?_⟩,λz=>(nomatch z),U⟩
   .rw[Q4 (λz=>nomatch z)];omega
   .by_cases tl:t<o.length
    .rw[Q9 tl]at h;rw[List.take_append_of_le_length Yo];exact g.ok t j h
    .have e:t=o.length:=by
      have:=(qg.mp h).1;rw[qc,Qa]at this;omega
     rw[e,List.getElem?_concat_length]at h;cases h;rw[e,List.take_left];exact⟨r,hr,lk⟩
 .dsimp only[dh];refine⟨_,U,U,_,U,aL U ?_⟩;refine⟨_,U,_,_,U,U,_,?_,o,.non,st+1,_,U,Yo,M,g,λ_ k r hr ko=>none k r (List.mem_filter.mpr ⟨List.mem_range.mpr (qg.mp hr).1,by simpa using ko⟩) hr,U⟩;rw[Q5 U];omega
theorem sK{K:W.Frag}{H:Hp}:∀xs:LI,dY K H (xs.map V.int) (xs.map PyData.int)
 |[]=>.nil
 |x::xs=>.cons (.int x) (sK xs)
theorem B4(xs:LI):SeqAt.shaped (.list (xs.map PyData.int))=true:=by
 have h:PyData.canLayAll0 (xs.map PyData.int)=true/\PyData.depthAll (xs.map PyData.int)<=1:=by
  induction xs with
  |nil=>simp[PyData.canLayAll0,PyData.depthAll]
  |cons x xs a=>simp[PyData.canLayAll0,PyData.depthAll,PyData.canLay0,PyData.depth,a.1];omega
 unfold SeqAt.shaped;simp[PyData.canLay0,PyData.depth,h.1];omega
theorem ux:∀{xs ys:LI},xs.Perm ys->xs.Pairwise (λa b=>a<=b)->ys.Pairwise (λa b=>a<=b)->xs=ys
 |[],ys,p,_,_=>(List.Perm.nil_eq p)
 |x::xs,[],p,_,_=>Q8 p.length_eq (by simp)
 |x::xs,y::ys,p,h1,h2=>by
  obtain⟨g,f⟩:=List.pairwise_cons.mp h1;obtain⟨b1,b2⟩:=List.pairwise_cons.mp h2
  have e:x=y:=by
   have d:x∈y::ys:=p.mem_iff.mp qq;have c:y∈x::xs:=p.mem_iff.mpr qq;rcases qw.mp d with e|d
   .exact e
   .rcases qw.mp c with e|c
    .exact e.symm
    .have:=b1 x d;have:=g y c;omega
  subst e;rw[ux (List.perm_cons _ |>.mp p) f b2]
theorem Dl(T:Tx P w K mg a):aM P w K mg base CX0 48 a.Jd a.Je ["_law_script"] (ji K):=by
 refine T.JW.F.ok gA (by walk_at "l") λ_ A outer s H vs Q E hr h=>?_;obtain⟨l,ns,rfl,hS,c2,_,_,k⟩:=h
 refine⟨_,(ai (au (i:=1) gA.nd U Oi (aF (Dx T) (hr.mono Yk) T.JE (a9 (pq 0) (a9 aa af))))
  (ai (au (i:=2) gA.nd U Oi (aF (Dm T) (hr.mono Yk) T.Jt (a9 (pq 1) af)))
  (ai (au (i:=3) gA.nd U Oi (fw pC U T.wT PyProof.Rows.Boot.«list» (a9 (pq 2) af)))
  (ai (au (i:=4) gA.nd U Oi (fw pC U T.wT PyProof.Rows.Boot.«list» (a9 (ao ay (pq 1) aa Oy) af)))
  (ai (au (i:=5) gA.nd U Oi (aF (Dk T) (hr.mono Yk) T.Jn (a9 (pq 3) (a9 (pq 4) af))))
  (ai (aQ (PW.pt (iT (aD (pV hr.units) (pq 3) (pq 2) (aG _)) (kX (aD (pV hr.units) (pq 4) (ao ay (pq 1) aa Oy) (aG _))))) (ap (aE fA)) aZ)
  (ai (aQ (PW.pt (iT (jx (hX (be iR U T.wP PyProof.Rows.Boot.«isinstance» (a9 (pq 5) (a9 (iV (v:=.ty "tuple") U T.Hk PyProof.Rows.Boot.«tuple» rfl) af))))) (iT (aD hV (be bT U T.f8 Qb (a9 (pq 5) af)) aa (aG _)) (kX (jx (hX (be iR U T.wP PyProof.Rows.Boot.«isinstance» (a9 (ao ay (pq 5) aa Oy) (a9 (iV (v:=.ty "list") U T.wT PyProof.Rows.Boot.«list» rfl) af))))))))) (ap (aE fA)) aZ)
  (ai (bR PassesOwn.never U (cV (ao ay (pq 5) aa Oy)) (aR (i:=6) gA.nd U Oi)
  (ap (aQ (jx (hX (aF (Ds T) (hr.mono Yk) T.Jx (a9 (pq 6) af)))) (ap (aE fA)) aZ)))
  (ai (au (i:=7) gA.nd U Oi (aF (DC T) (hr.mono Yk) T.JJ (a9 (pq 2) (a9 (ao ay (pq 1) aa Oy) (a9 (pq 0) af)))))
  (ai (aQ (aD (pV hr.units) (be (Gq U) U T.At PyProof.Rows.Boot.«sorted» (a9 (aq hJ (ao ay (pq 5) aa Oy) (pq 7)) af)) (i5 (k:=1) (Nc:=["_law_k"]) (js:=[]) (show bL (aH gC) ["_law_script","_law_program_here","_law_rows","_law_handed","_law_stores","_law_found","_law_at","_law_left_here"] _ 1 ["_law_k"] []from bL.mk U (by decide +kernel) (by decide +kernel) (by decide +kernel) U (by decide +kernel)) U (g9 U T.om (a9 (be bT U T.f8 Qb (a9 (pq 2) af)) af)) (λ_ _ _ _ _=>(aR (i:=0) (show List.Nodup (["_law_k"]:LS)from by decide +kernel) U Oi)) (λ_ _ _ _ _=>gJ) (λ_ _ _ _ _=>(pq 0))) (aG _)) (ap (aE fA)) aZ)
  (ap (aE (wx (be iR U T.wP PyProof.Rows.Boot.«isinstance» (a9 (ao ay (pq 5) aa Oy) (a9 (iV (v:=.ty "str") U T.JM PyProof.Rows.Boot.«str» rfl) af))) (wv (CM br (ao ay (pq 5) aa Oy) (i4 (aD br (be bT U T.f8 Qb (a9 (pq 7) af)) aa (aG _)) aS aS) (aG _)))))))))))))))),?_⟩
 walk_at "q";have wl:(bQ ns).length=(2+aA (ns.getD 1 0) 1 % 4).toNat:=l9 _ _;have nl:(bN ns).length=(bQ ns).length-1:=QD;have rl:(aC ns).length=(if aA (ns.getD 1 0) 3 % 5<3 then aA (ns.getD 1 0) 3 % 5 else 3).toNat:=l9 _ _;have e0:(aC ns).length<=3:=by rw[rl];split<;>omega
 have b2:0<(bN ns).length:=Yo;obtain⟨d7,bd,c7⟩:=GA (rooms:=aC ns) (most:=1) (low:=7) b2 (eU ns 3 63);have a7:∀x∈bN ns,x∈bQ ns:=λx f=>(List.dropLast_sublist _).subset f;have cl:(eU ns 3 63).length<=60:=by unfold eU;rw[qN];omega
 have b8:bM eZ (aX ns):=t5 Yk Yk _;have c3:(aj (aX ns)).length<=60:=qC c7 cl;have bl:(aX ns).length<=60:=qC (rR _) c3
 have g1:(aJ (aX ns)).length<=360:=by
  have h:=Gy (names:=bN ns) (rooms:=aC ns) (most:=1) (low:=7) Yk Yk (eU ns 3 63);change ((aJ (aX ns)).length:Int)<=_ at h;omega
 have ml:(bg ns).length<=180:=by
  have h:=GB (names:=bN ns) (rooms:=aC ns) (most:=1) (low:=7) Yk Yk (eU ns 3 63);change ((bg ns).length:Int)<=_ at h;omega
 have fr:=xQ (aC ns) (bN ns) (bg ns) b2 _ (qf _)
 have fl:(bC ns).length<=540:=by
  have h1:=me (aC ns) (bN ns) (bg ns) (aC ns).length;have:(aC ns).length * (bg ns).length<=3 * 180:=Nat.mul_le_mul e0 ml;unfold bC;omega
 obtain⟨ff,_,fd⟩:=Cf (ds:=bC ns) λd hd=>by
  obtain⟨q,x,e,_⟩:=fr d hd;exact⟨q,x,e⟩
 have d':aO (bC ns++aX ns)<=12:=by rwa[sO,y9 fd,Nat.zero_max]
 have f2:(aj (bC ns++aX ns)).length<=1000:=by
  rw[fB,qc,ff];have:(aj (aX ns)).length<=60:=qC c7 cl;omega
 have a3:∀x∈cards (bC ns++aX ns),x∈bn (bQ ns) (aC ns):=λx f=>by
  rw[yq,qi]at f;rcases f with f|f
  .unfold cards at f;rw[ff]at f;obtain⟨d,hd,f⟩:=List.mem_flatMap.mp f;obtain⟨q,y,rfl,hq,hy⟩:=fr d hd;simp only[ae.cards,ae.names,ae.others,Qp,Qo,qw,qT,or_false]at f;unfold bn;simp only[qi,List.mem_map];rcases f with rfl|rfl
   .exact .inl (.inl (.inl (a7 _ hy)))
   .exact .inl (.inl (.inr ⟨_,hq,U⟩))
  .exact GJ a7 x (d7 x f)
 have c5:yR (bC ns):=xP _ _ _ _
 have rA:bM eZ (bC ns++aX ns):=by
  refine bM.app (λd hd n b z=>?_) b8;rw[ff]at hd;exact Q8 z (c5 d hd n b)
 have c6:aJ (bC ns++aX ns)=(bC ns).map aP++aJ (aX ns):=by rw[kR,Bz c5]
 have rwl:(aJ (bC ns++aX ns)).length<=900:=by rw[c6,qc,qa];omega
 have fed:Fed (aJ (bC ns++aX ns)):=by
  have h:=FD (rs:=aC ns) (names:=bN ns) (rows:=aJ (aX ns)) (oX _) λr hr q ho=>by
   obtain⟨x,f⟩:=Bw hr ho;exact yx Yk Yk _ q x f
  rw[rC]at h;rwa[c6]
 have d5:(bn (bQ ns) (aC ns)).length<64:=by rw[GL];omega
 have e5:∀q∈bn (bQ ns) (aC ns),q.length<=1000:=GK;have tok:∀s∈jW (bQ ns) (aC ns),PyData.strOk s=true:=zQ;have am:∀x∈eI ns,x∈bQ ns:=yJ (qf _);have sm:∀s∈bY ns,s.1∈aC ns:=uq (qf _);have al:(eI ns).length<=5:=qC (tm _ _ _) Yo;have sl:(bY ns).length=(aC ns).length:=ni _ _ _ _;have f1:∀s∈bY ns,s.1.length<=1000:=λs N=>qC (l5 _ _ _ (sm s N)) Yk;have pc:∀x∈dD (eI ns) (bY ns) (bC ns++aX ns),x∈bn (bQ ns) (aC ns):=Cq am sm a3
 have a6:∀b:LA,(∀e∈aj b,e∈aj (bC ns++aX ns))->(srt (cards b)).length<=4000:=λb hb=>by
  have:=j7 (h8 (cards b)) λx f=>a3 x (mF hb x (eA _ x f));omega
 have a':∀e,e∈aj (bC ns++aX ns)->∀x∈aj [e],x∈aj (bC ns++aX ns):=λe O x f=>by
  rw[aj,aj,qA]at f;exact ie _ e O x f
 have b3:∀r∈aJ (bC ns++aX ns),r.owns.length<=4000/\r.reads.length<=4000:=λr hr=>by
  rcases fY _ r hr with⟨b,rfl,hb⟩|⟨e,O,rfl,nr⟩
  .exact⟨a6 b hb,qv _⟩
  .have fe:=a6 [e] (a' e O)
   cases e with
   |cond x t o=>exact⟨fe,qv _⟩
   |whl x b=>exact⟨fe,qv _⟩
   |rep n b=>exact⟨fe,qv _⟩
   |set x a _ b=>exact kS (qC (j8 [_]) (by simp))
   |put q x=>exact kS (qC (j8 [_]) (by simp))
   |get q x=>exact kS (qC (j8 [_]) (by simp))
   |give x=>exact kS (qC (j8 [_]) (by simp))
 have nd:((bY ns).map (·.1)).Nodup:=by
  unfold bY;rw[nh _ _ _ _ (qf _),qK];exact Ct _ (by split<;>omega)
 have b4:∀d∈aj (bC ns++aX ns),∀q x,d=.put q x\/d=.get q x->q∈aC ns:=λd hd q x e=>by
  rw[fB,ff]at hd;rcases qi.mp hd with m|m
  .obtain⟨q',y,e',hq,_⟩:=fr d m;rcases e with e|e
   .rw[e']at e;cases e;exact hq
   .rw[e']at e;cases e
  .rcases e with rfl|rfl
   .exact Gz Yk Yk _ q x m
   .exact yx Yk Yk _ q x m
 have c9:∀r∈aJ (bC ns++aX ns),jb r:=λr hr=>by
  rcases fY _ r hr with⟨b,rfl,hb⟩|⟨e,O,rfl,_⟩
  .exact⟨show PyData.strOk ("gate":Str)=true by decide +kernel,λs N=>sU _ (a3 s (mF hb s (eA _ s N))),λs N=>(nomatch N),λq h=>(nomatch h),λq h=>(nomatch h)⟩
  .exact BB (λc hc=>sU _ (a3 c (yo O c hc))) λq x h=>tok q (by unfold jW;simp[b4 e O q x h])
 have b6:∀r∈aJ (bC ns++aX ns),∀q,(r.into=some q\/r.outof=some q)->q∈aC ns:=λr hr q e=>by
  rcases fY _ r hr with⟨b,rfl,hb⟩|⟨d,hd,rfl,_⟩
  .rcases e with e|e<;>cases e
  .cases d with
   |put q' x=>
    rcases e with e|e
    .cases e;exact b4 _ hd _ x (.inl U)
    .cases e
   |get q' x=>
    rcases e with e|e
    .cases e
    .cases e;exact b4 _ hd _ x (.inr U)
   |_=>rcases e with e|e<;>cases e
 have c':=oX (bC ns++aX ns)
 have f5:(dv (eI ns) (bY ns) (bC ns++aX ns)).owns.length<=4000:=by
  have:=j7 (h8 (dD (eI ns) (bY ns) (bC ns++aX ns))) λx f=>pc x (eA _ x f);show(srt _).length<=4000;omega
 have d1:jb (dv (eI ns) (bY ns) (bC ns++aX ns)):=⟨show PyData.strOk ("end":Str)=true by decide +kernel,λs N=>sU _ (pc s (eA _ s N)),λs N=>(nomatch N),λq h=>(nomatch h),λq h=>(nomatch h)⟩;have d0:Fed (aJ (bC ns++aX ns)++[dv (eI ns) (bY ns) (bC ns++aX ns)]):=fed.snoc U
 have all:∀{Pr:Row->Prop},(∀r∈aJ (bC ns++aX ns),Pr r)->Pr (dv (eI ns) (bY ns) (bC ns++aX ns))->∀r∈aJ (bC ns++aX ns)++[dv (eI ns) (bY ns) (bC ns++aX ns)],Pr r:=λh1 h2 r hr=>by
  rcases qi.mp hr with hr|hr
  .exact h1 r hr
  .rwa[qV.mp hr]
 have D:=all (Pr:=λr=>r.owns.length<=4000/\r.reads.length<=4000) b3 ⟨f5,qv _⟩;have e3:=all (Pr:=jb) c9 d1;have c8:=all (Pr:=fE) c' (.inl U);have b7:=all (Pr:=λr=>∀q,(r.into=some q\/r.outof=some q)->q∈aC ns) b6 λq e=>by rcases e with e|e<;>cases e
 have a5:(aJ (bC ns++aX ns)++[dv (eI ns) (bY ns) (bC ns++aX ns)]).length<=1000:=by rw[qc,Qa];omega
 have g2:(bY ns).length<=3:=Yo
 have b9:(bY ns).map (·.1)=aC ns:=by
  unfold bY;rw[nh _ _ _ _ (qf _),qK]
 have a4:∀s∈bY ns,0<=s.2:=uo _ _ _ _
 have g0:=all (Pr:=λr=>r.owns.Nodup) (λr hr=>by
  rcases fY _ r hr with⟨b,rfl,hb⟩|⟨e,O,rfl,nr⟩
  .exact h8 _
  .refine BC e λq x z=>?_;rw[z,fB,ff]at O;rcases qi.mp O with m|m
   .obtain⟨q',y,e',_⟩:=fr _ m;cases e'
   .exact Cs _ _ _ (a7 x (GC b2 Yk Yk _ q x m))) (h8 _)
 refine⟨_,U,l,ns,U,hS,c2,bd,b8,qC ml Yk,c3,λ_ p la ls lb us s1 rp=>?_⟩;refine⟨_,U,p,la,ls,lb,eI ns,bY ns,bC ns++aX ns,us,bn (bQ ns) (aC ns),U,rp,d',f2,Yo,Yo,f1,pc,d5,e5,rA,Yo,fed,λH2 lw u s2 h2 W=>?_⟩;have f':=rp.same s2;have RO:=Bu g0 c8 d0;have d8:(aC ns).Nodup:=by rwa[<- b9]
 generalize erows:aJ (bC ns++aX ns)++[dv (eI ns) (bY ns) (bC ns++aX ns)]=rows at *;have f0:=W.len;have B:=En RO d8 D b7 b9 a4;dsimp only[dh];refine⟨_,U,lw,u,U,.inl (SqL.of h2),λlh f7=>?_⟩;have q6:=a8.new f7 (.lst u);have Z:upd H2 lh (.lst u) lh=some (.lst u):=ah;generalize upd H2 lh (.lst u)=H6 at q6 Z ⊢;have b0:=f'.same q6;dsimp only[dh];refine⟨_,U,p,_,_,_,U,U,SqT.of b0.top,U,ls,us,U,.inl (SqL.of b0.st),λl8 d6=>?_⟩;have q7:=a8.new d6 (.lst us);have X0:upd H6 l8 (.lst us) l8=some (.lst us):=ah;generalize upd H6 l8 (.lst us)=H7 at q7 X0 ⊢;have c0:=b0.same q7;have c1:=q6.trans q7;dsimp only[dh];refine⟨_,U,_,U,lh,l8,u,us,rows,bY ns,_,U,q7 _ _ Z,W.same c1,a5,D,X0,c0.ro,Yo,a4,U,B.sm,B.tg,by rwa[B.wl],λH8 X lo o zs st s8 a1 I=>?_⟩;rw[B.wl]at I;have M:=c1.trans s8;have L:=c0.same s8;have b5:SeqAt.shaped (.list ((bY ns).map fG))=true:=B2 λst N=>tok st.1 (by unfold jW;simp[sm st N]);have R:SeqAt.shaped (.list (rows.map fj))=true:=B3 e3;have d2:PyData.eqv (.list (rows.map fj)) (.list (rows.map fj))=true:=SeqAt.eqv_refl _ (SeqAt.canLay_of_shaped R);have e6:PyData.eqv (.list ((bY ns).map fG)) (.list ((bY ns).map fG))=true:=SeqAt.eqv_refl _ (SeqAt.canLay_of_shaped b5);have e2:Dt K H8 (.ref lh) (.list (rows.map fj)):=.lst (SqL.of (s8 _ _ (q7 _ _ Z))) (W.same M).dt;have e8:Dt K H8 (.ref lw) (.list (rows.map fj)):=.lst (SqL.of (M _ _ h2)) (W.same M).dt;have e1:Dt K H8 (.ref l8) (.list ((bY ns).map fG)):=.lst (SqL.of (s8 _ _ X0)) L.ro.dt;have f3:Dt K H8 (.ref ls) (.list ((bY ns).map fG)):=.lst (SqL.of L.st) L.ro.dt;have ol:=gN I.nd I.lt;refine Er λkd xs J e7=>?_;dsimp only[dh];refine⟨_,U,_,U,_,_,e2,e8,R,R,_,U,aL (by rw[d2];rfl) ?_⟩;refine⟨_,U,_,U,p,_,_,_,U,U,SqT.of L.top,U,_,_,e1,f3,b5,b5,_,U,aL (by rw[e6];rfl) ?_⟩;dsimp only[jh];refine⟨_,U,_,_,_,true,U,.tup J,U,_,U,aL U ?_⟩;refine⟨_,U,X,_,U,.inr (SqT.of J),_,_,U,U,_,U,aL (Q7 (by simp only[qE];omega)) ?_⟩;have b1:∀{b c:V}{r:LV},atI (b::c::r) 1=some c:=λ{b c r}=>da (j:=1) U;refine⟨_,U,X,_,_,_,U,U,SqT.of J,b1,_,_,_,true,U,.lst a1,U,_,U,aL U ?_⟩;dsimp only[jh];exists _,U,X,_,_,_,U,U,SqT.of J,b1,lo,U,⟨_,SqL.of a1⟩;refine dG (K:=K) (a:=lo) (xs:=aN o) (λi Y G=>G=H8/\∃v6,Y=[some (.ref l),some (.ref p),some (.ref lw),some (.ref lh),some (.ref l8),some (.ref X),v6,none]) ⟨U,_,U⟩ ?_ ?_ ?_
 .rintro i Y G _ ⟨rfl,_⟩;exact SqL.of a1
 .rintro i x Y G f ⟨rfl,v6,rfl⟩;unfold aN at f;rw[qH]at f;obtain⟨j,_,rfl⟩:=qS.mp f;exact⟨_,U,j,U,_,U,aL U ⟨U,_,U⟩⟩
 rintro Y G ⟨rfl,v6,rfl⟩;refine⟨_,U,_,U,p,_,_,_,U,U,SqT.of L.top,U,_,U,lw,ls,l,u,us,rows,bY ns,ns,_,U,M _ _ h2,W.same M,a5,D,L.st,L.ro,Yo,B.dl,((s1.trans s2).trans M).seq hS,c2,λH9 lr og s9 g mx a2=>?_⟩;have C:=I.clo B.dw o.length;rw[qK]at C;have Cg:=g.clo RO og.length;rw[qK]at Cg
 have d3:∀k,k∈og↔k∈o:=λk=>by
  constructor
  .intro h;obtain⟨t,ht⟩:=List.mem_iff_getElem?.mp h;exact n5 g.nd (λt k h=>let ⟨r,hr,lk⟩:=g.ok t k h;⟨r,hr,rV lk⟩) (g.clo RO) RO C (λk r hr ko=>I.lack RO B.dw hr ko) (t+1) t k (Qe t) ht
  .intro h;obtain⟨t,ht⟩:=List.mem_iff_getElem?.mp h;exact n5 I.nd (I.oks RO B.dw) (I.clo B.dw) RO Cg mx (t+1) t k (Qe t) ht
 rw[show((List.range rows.length).filter λk=>!decide (k∈og))=(List.range rows.length).filter λk=>!decide (k∈o)from List.filter_congr λx _=>by simp[d3 x]]at a2
 have e4:((List.range rows.length).filter λk=>!decide (k∈o)).length<=1000:=by
  have:=List.length_filter_le (λk=>!decide (k∈o)) (List.range rows.length);rw[Qh]at this;omega
 have pm:(o++(List.range rows.length).filter λk=>!decide (k∈o)).Perm (List.range rows.length):=by
  refine(List.perm_ext_iff_of_nodup (List.nodup_append.mpr ⟨I.nd,List.nodup_range.filter _,λa ha b hb z=>?_⟩) List.nodup_range).mpr λx=>?_
  .have:=(List.mem_filter.mp hb).2;rw[<- z]at this;simp[ha]at this
  .rw[qi,List.mem_filter,List.mem_range];constructor
   .rintro(h|h)
    .exact I.lt x h
    .exact h.1
   .intro h;by_cases c:x∈o
    .exact .inl c
    .exact .inr ⟨h,by simp[c]⟩
 generalize ((List.range rows.length).filter λk=>!decide (k∈o))=lf at a2 e4 pm;dsimp only[dh];refine⟨_,U,X,_,_,_,U,U,SqT.of (s9 _ _ J),b1,_,U,lo,lr,_,_,U,U,SqL.of (s9 _ _ a1),SqL.of a2,bq (m:=5000) (by rw[eS,eS];omega),λlc d9=>?_⟩;have d4:=a8.new d9 (.lst (aN o++aN lf));have hc:upd H9 lc (.lst (aN o++aN lf)) lc=some (.lst (((o++lf).map λj:Nat=>(j:Int)).map V.int)):=by rw[ah,<- lJ,List.map_map];rfl
 refine⟨lc,(o++lf).map λj:Nat=>(j:Int),U,SqL.of hc,by rw[qa,qc];omega,λld zs f4 zp zo=>?_⟩;have ez:zs=(List.range rows.length).map λj:Nat=>(j:Int):=ux (zp.trans (pm.map _)) zo (List.pairwise_map.mpr ((List.pairwise_lt_range (n:=rows.length)).imp λh=>Yo));rw[ez];have e9:=a8.new f4 (.lst (((List.range rows.length).map λj:Nat=>(j:Int)).map V.int));have hd:upd (upd H9 lc (.lst (aN o++aN lf))) ld (.lst (((List.range rows.length).map λj:Nat=>(j:Int)).map V.int)) ld=some (.lst (((List.range rows.length).map λj:Nat=>(j:Int)).map V.int)):=ah;have a0:=d4.trans e9;generalize upd (upd H9 lc (.lst (aN o++aN lf))) ld (.lst (((List.range rows.length).map λj:Nat=>(j:Int)).map V.int))=H11 at a0 hd;exists _,U,lw,u,U,.inl (SqL.of (a0 _ _ (s9 _ _ (M _ _ h2)))),_,U,Yo,Yo;refine yg (λi ys Y G=>(∃v,Y=[v])/\G=H11/\ys=((List.range i).map λj:Nat=>(j:Int)).map V.int) ⟨⟨none,U⟩,U,U⟩ ?_ (bq (m:=1000) Yo) ?_ ?_
 .rintro i ys Y G _ ⟨_,_,rfl⟩;rw[qa,qa,Qh];exact qf _
 .rintro i ys Y G _ ⟨⟨v,rfl⟩,rfl,rfl⟩;exact⟨_,U,⟨_,U⟩,U,by rw[List.range_succ,qR,qR];rfl⟩
 rintro ys Y G ⟨_,rfl,rfl⟩ le f9;rw[f0,Q0];have c4:=a8.new f9 (.lst (((List.range rows.length).map λj:Nat=>(j:Int)).map V.int));have sh:SeqAt.shaped (.list (((List.range rows.length).map λj:Nat=>(j:Int)).map PyData.int))=true:=B4 _;refine⟨_,_,.lst (SqL.of (c4 _ _ hd)) (sK _),.lst (SqL.of ah) (sK _),sh,sh,_,U,aL (by rw[SeqAt.eqv_refl _ (SeqAt.canLay_of_shaped sh)];rfl) ?_⟩;dsimp only[jh];have S:=a0.trans c4;generalize upd G le (.lst (((List.range rows.length).map λj:Nat=>(j:Int)).map V.int))=H12 at S;refine⟨_,U,X,_,_,_,U,U,SqT.of (S _ _ (s9 _ _ J)),at0,_,_,_,true,U,.str _,U,_,U,bD U ?_⟩;exists _,U,X,_,_,_,U,U,SqT.of (S _ _ (s9 _ _ J)),at0,_,U,lr,_,U,.inl (SqL.of (S _ _ a2)),U,_,U;have pl:=pm.length_eq;rw[qc,Qh]at pl;rw[eS];rcases e7 with⟨rfl,rfl,eo⟩|⟨_,ru,ps,rfl,rfl,_,_,RG⟩
 .rw[B.wl]at eo;refine bD (Q6 (congrArg V.int Yo)) ⟨U,?_⟩;rw[Q6 U];exact k _
 .obtain⟨p0,f6⟩:=List.exists_mem_of_ne_nil _ RG.nn;obtain⟨po,b',_⟩:=RG.is p0 f6
  have:=gN (l:=p0.1::o) (n:=rows.length) (List.nodup_cons.mpr ⟨po,I.nd⟩) λy hy=>by
   rcases qw.mp hy with rfl|hy
   .rw[B.wl]at b';exact b'
   .exact I.lt y hy
  rw[qE]at this;refine aL (Q7 λz=>by have:=V.int.inj z;omega) ⟨U,?_⟩;rw[Q6 U];exact k _
end
theorem fM(P:Params)(f:Addr)(st:Stmt){e:Value}{od d:Option Addr}{kV b pm a ct:Value}(l:(hk P).lookup f=some ⟨e,od,.func (W.fnOf x qual (gX st) (gq st) (aH st) .none kV b pm d a ct),osl⟩:=by k_is)
 (c:W.codeIn (hk P) a qual=true:=by k_is) (k:W.keepIn (hk P) (.ref f)=true:=by k_is):Fun (hk P) x qual st f (W.fnOf x qual (gX st) (gq st) (aH st) .none kV b pm d a ct):=Fp l c k
theorem bW(h:∀x0,R [x0]):∀us:LL,us.length=1->R us
 |[_],_=>h _
theorem dF(h:∀x0 a,R [x0,a]):∀us:LL,us.length=2->R us
 |[_,_],_=>h _ _
theorem lU(h:∀x0 a b,R [x0,a,b]):∀us:LL,us.length=3->R us
 |[_,_,_],_=>h _ _ _
theorem xr(h:∀x0 b c a,R [x0,b,c,a]):∀us:LL,us.length=4->R us
 |[_,_,_,_],_=>h _ _ _ _
theorem xq(h:∀x0 b d a c,R [x0,b,d,a,c]):∀us:LL,us.length=5->R us
 |[_,_,_,_,_],_=>h _ _ _ _ _
theorem Ex(h:∀x0 c d b e a,R [x0,c,d,b,e,a]):∀us:LL,us.length=6->R us
 |[_,_,_,_,_,_],_=>h _ _ _ _ _ _
theorem mM{P:Params}{v:Value}(X:(hk P).In h)(G:h.Ns mainGlobals mg)(e:W.nsIn (hk P) mainGlobals x=some (some v):=by k_is):mg x=some v:=W.mg_of X G e
theorem nM{P:Params}(X:(hk P).In h)(G:h.Ns mainGlobals mg)(e:W.nsIn (hk P) mainGlobals x=some none:=by k_is):mg x=none:=W.mg_none_of X G e
theorem oM{P:Params}{f:Str}(e:W.findIn (hk P) (.ref C) f=some none:=by k_is):dX (hk P) C f:=e
set_option maxHeartbeats 0 in
theorem GI{Z:Addr}(X:(hk w.params).In h)(G:h.Ns mainGlobals mg)(W:mg "law"=some (.ref Z)):
 ∃fd:FuncData,(∀(s:Shared)(v:Value),BindsTo s fd ⟨[v],[]⟩ [("_law_script",v)])/\∀base:Heap,(hk w.params).In base->base.Ns mainGlobals mg->aM PySem.Challenge.rw_handflow_k28_whole_any_next_deed.prog w (hk w.params) mg base CX0 48 Z fd ["_law_script"] (ji (hk w.params)):=by
 k_fill
 cases W.symm.trans (mM (v:=.ref 381) X G);have P:=fM w.params 21 nV;have F1:=fM w.params 26 kN;have S:=fM w.params 33 nW;have X0:=fM w.params 38 kM;have V:=fM w.params 45 o7;have F5:=fM w.params 57 iQ;have b5:=F5.binds (ps:=["self","waits"]) λ_ _ _ _ _ _=>dF λ_ _=>U;have F6:=fM w.params 64 oU;have b6:=F6.binds (ps:=["self","deed"]) λ_ _ _ _ _ _=>dF λ_ _=>U;have Q:=fM w.params 71 oS;have b7:=Q.binds (ps:=["self","deed"]) λ_ _ _ _ _ _=>dF λ_ _=>U;have F8:=fM w.params 78 oT;have b8:=F8.binds (ps:=["self"]) λ_ _ _ _ _ _=>bW λ_=>U;have R:=fM w.params 92 o9;have c:=fM w.params 99 o8;have j:=fM w.params 108 oy;have u:=fM w.params 115 ox;have t:=fM w.params 120 kO;have A:=fM w.params 127 nY;have y:=fM w.params 135 nX;have r:=fM w.params 142 o6;have I:=fM w.params 149 nZ;have q:=fM w.params 156 oa;have d:=fM w.params 163 ou;have C:=fM w.params 214 oh;have F:=fM w.params 221 oo;have J:=fM w.params 228 nU;have n:=fM w.params 235 nR;have K:=fM w.params 242 nS;have a:=fM w.params 249 o1;have m:=fM w.params 256 oq;have H:=fM w.params 263 oQ;have f:=fM w.params 270 oJ;have N:=fM w.params 277 oz;have l:=fM w.params 284 oK;have e:=fM w.params 291 oA;have M:=fM w.params 298 oE;have g:=fM w.params 305 oB;have b:=fM w.params 312 oF;have x:=fM w.params 319 oR;have D:=fM w.params 326 oH;have o:=fM w.params 333 oC;have O:=fM w.params 340 oN;have E:=fM w.params 345 kP;have L:=fM w.params 350 jt;have z:=fM w.params 357 oO;have i:=fM w.params 364 oP;have k:=fM w.params 371 oG;have B:=fM w.params 376 kQ;have p:=fM w.params 381 gC;have or:(hk w.params).lookup 100=some ⟨.type "tuple",none,.seq #[vs "while" 320,vs "repeat" 321],#[]⟩:=by k_is
 have u8:(hk w.params).lookup 101=some ⟨.type "tuple",none,.seq #[vs "if" 323,vs "while" 324],#[]⟩:=by k_is
 have wE:(hk w.params).lookup 128=some ⟨.type "tuple",none,.seq #[vs "give" 360,vs "while" 361],#[]⟩:=by k_is
 have T:Tx PySem.Challenge.rw_handflow_k28_whole_any_next_deed.prog w (hk w.params) mg (Adr.mk 21 _ 26 _ 33 _ 38 _ 45 _ 57 _ 64 _ 71 _ 78 _ 92 _ 99 _ 108 _ 115 _ 120 _ 127 _ 135 _ 142 _ 149 _ 156 _ 163 _ 214 _ 221 _ 228 _ 235 _ 242 _ 249 _ 256 _ 263 _ 270 _ 277 _ 284 _ 291 _ 298 _ 305 _ 312 _ 319 _ 326 _ 333 _ 340 _ 345 _ 350 _ 357 _ 364 _ 371 _ 376 _ 381 _ 189 191 100 101 358 128 467 81):=Tx.mk ⟨mM X G,P,P.binds λ_ _ _ _ _ _=>dF λ_ _=>U⟩ ⟨mM X G,F1,F1.binds λ_ _ _ _ _ _=>lU λ_ _ _=>U⟩ ⟨mM X G,S,S.binds λ_ _ _ _ _ _=>bW λ_=>U⟩ ⟨mM X G,X0,X0.binds λ_ _ _ _ _ _=>lU λ_ _ _=>U⟩ ⟨mM X G,V,V.binds λ_ _ _ _ _ _=>dF λ_ _=>U⟩ F5 b5 F6 b6 Q b7 F8 b8 ⟨mM X G,R,R.binds λ_ _ _ _ _ _=>dF λ_ _=>U⟩ ⟨mM X G,c,c.binds λ_ _ _ _ _ _=>bW λ_=>U⟩ ⟨mM X G,j,j.binds λ_ _ _ _ _ _=>bW λ_=>U⟩ ⟨mM X G,u,u.binds λ_ _ _ _ _ _=>bW λ_=>U⟩ ⟨mM X G,t,t.binds λ_ _ _ _ _ _=>bW λ_=>U⟩ ⟨mM X G,A,A.binds λ_ _ _ _ _ _=>bW λ_=>U⟩ ⟨mM X G,y,y.binds λ_ _ _ _ _ _=>bW λ_=>U⟩ ⟨mM X G,r,r.binds λ_ _ _ _ _ _=>bW λ_=>U⟩ ⟨mM X G,I,I.binds λ_ _ _ _ _ _=>bW λ_=>U⟩ ⟨mM X G,q,q.binds λ_ _ _ _ _ _=>bW λ_=>U⟩ ⟨mM X G,d,d.binds λ_ _ _ _ _ _=>bW λ_=>U⟩ ⟨mM X G,C,C.binds λ_ _ _ _ _ _=>bW λ_=>U⟩ ⟨mM X G,F,F.binds λ_ _ _ _ _ _=>bW λ_=>U⟩ ⟨mM X G,J,J.binds λ_ _ _ _ _ _=>bW λ_=>U⟩ ⟨mM X G,n,n.binds λ_ _ _ _ _ _=>dF λ_ _=>U⟩ ⟨mM X G,K,K.binds λ_ _ _ _ _ _=>bW λ_=>U⟩ ⟨mM X G,a,a.binds λ_ _ _ _ _ _=>dF λ_ _=>U⟩ ⟨mM X G,m,m.binds λ_ _ _ _ _ _=>bW λ_=>U⟩ ⟨mM X G,H,H.binds λ_ _ _ _ _ _=>dF λ_ _=>U⟩ ⟨mM X G,f,f.binds λ_ _ _ _ _ _=>dF λ_ _=>U⟩ ⟨mM X G,N,N.binds λ_ _ _ _ _ _=>bW λ_=>U⟩ ⟨mM X G,l,l.binds λ_ _ _ _ _ _=>dF λ_ _=>U⟩ ⟨mM X G,e,e.binds λ_ _ _ _ _ _=>bW λ_=>U⟩ ⟨mM X G,M,M.binds λ_ _ _ _ _ _=>dF λ_ _=>U⟩ ⟨mM X G,g,g.binds λ_ _ _ _ _ _=>xr λ_ _ _ _=>U⟩ ⟨mM X G,b,b.binds λ_ _ _ _ _ _=>xr λ_ _ _ _=>U⟩ ⟨mM X G,x,x.binds λ_ _ _ _ _ _=>xq λ_ _ _ _ _=>U⟩ ⟨mM X G,D,D.binds λ_ _ _ _ _ _=>bW λ_=>U⟩ ⟨mM X G,o,o.binds λ_ _ _ _ _ _=>dF λ_ _=>U⟩ ⟨mM X G,O,O.binds λ_ _ _ _ _ _=>dF λ_ _=>U⟩ ⟨mM X G,E,E.binds λ_ _ _ _ _ _=>dF λ_ _=>U⟩ ⟨mM X G,L,L.binds λ_ _ _ _ _ _=>bW λ_=>U⟩ ⟨mM X G,z,z.binds λ_ _ _ _ _ _=>xq λ_ _ _ _ _=>U⟩ ⟨mM X G,i,i.binds λ_ _ _ _ _ _=>lU λ_ _ _=>U⟩ ⟨mM X G,k,k.binds λ_ _ _ _ _ _=>Ex λ_ _ _ _ _ _=>U⟩ ⟨mM X G,B,B.binds λ_ _ _ _ _ _=>lU λ_ _ _=>U⟩ ⟨mM X G,p,p.binds λ_ _ _ _ _ _=>bW λ_=>U⟩ (nM X G) (nM X G) (nM X G) (nM X G) (nM X G) (nM X G) (nM X G) (nM X G) (nM X G) (nM X G) (nM X G) (nM X G) (nM X G) (nM X G) (nM X G) (nM X G) (mM X G) (mM X G) (mM X G) (λ_=>.inr ⟨_,_,_,or,U,U,Yk,.cons ⟨_,U⟩ (.cons ⟨_,U⟩ (.nil))⟩) (mM X G) (λ_=>.inr ⟨_,_,_,u8,U,U,Yk,.cons ⟨_,U⟩ (.cons ⟨_,U⟩ (.nil))⟩) (mM X G) (mM X G) (λ_=>.inr ⟨_,_,_,wE,U,U,Yk,.cons ⟨_,U⟩ (.cons ⟨_,U⟩ (.nil))⟩) (mM X G) (mM X G) (Cls.mk (by k_is) (by k_is) (by k_is) (by k_is)) (Mk.mk (by k_is) (by k_is) (by k_is) (by k_is)) (fV.mk (by k_is) (by k_is) (by k_is)) (fV.mk (by k_is) (by k_is) (by k_is)) (fV.mk (by k_is) (by k_is) (by k_is)) oM oM oM oM oM;exact⟨_,λs v=>.of_eq U,λbase _ _=>Dl T⟩
theorem zI{l:W.OpenLaw}{q:Program}{d:DefRec}{K:Params->W.Frag}(hn:l.most=some 63)(c:d.params.defaults=[])
 (i:∀(w:World)(h:Heap),YP w h->(K w.params).In h)
 (F:∀(w:World)(mg:Str->LO)(b:Addr)(h:Heap),(K w.params).In h->h.Ns mainGlobals mg->mg d.name=some (.ref b)->
  ∃fd:FuncData,(∀(s:Shared)(u:Value),BindsTo s fd ⟨[u],[]⟩ [("_law_script",u)])/\∀base:Heap,(K w.params).In base->base.Ns mainGlobals mg->aM l.prog w (K w.params) mg base CX0 48 b fd ["_law_script"] (ji (K w.params))):
 W.WalkO q loose XP YP l.row.toRowW d [] (λf vs=>PySem.call f vs):=
 L2.zH (n:=63) (k:=48) (x:="_law_script") (CX:=λ_=>CX0) (sp:=λw=>ji (K w.params)) hn Yk c ⟨U,Yk,Yk,U⟩ i F (λ_ _ a ns hl hb e g=>⟨a,ns,U,g,hl,hb,e,λ_=>U⟩) λ_ _ _ _ _ z=>z
noncomputable def FN:PySem.DefRec:=⟨"law",gX gC,gq gC,aH gC,defPos gC⟩
theorem xM{p:Program}{w:World}{A:LO}:∀{m:Nat}{x d:W.SharedT}{y:Thread},goT p w A m x y=some d->W.topRun PySem.treeTable p w 11 A m x.abs y=some d.abs
 |0,_,_,_,h=>nomatch h
 |m+1,x,d,y,h=>by
  unfold goT at h;unfold W.topRun
  cases a:W.through y with
  |true=>rw[a]at h;cases h;rfl
  |false=>
   rw[a]at h
   cases b:W.stepOk 11 A y with
   |false=>rw[b]at h;cases h
   |true=>
    rw[b]at h
    cases c:W.stepT (denote PySem.treeTable) p w x y with
    |none=>rw[c]at h;cases h
    |some z=>rw[c]at h;rw[W.stepT_spec c];exact xM h
theorem Ey{p q:Program}{Xt:Shared->Bool}{Yf:Shared->α}{Ya:World->α}{N:Nat}(e:W.opening p=W.plainProg p.main.scope.names)(a:Nat.ble 600 N=true)(f:∀s,fenceModules? p s=some s)
 (H:∀w,EndsT p q loose Xt Yf Ya N w):W.LeftO p q loose Xt Yf Ya N:=λw=>by
 obtain⟨⟨h,i,d,k,os⟩,u,b⟩:=qS.mp (W.boot_open e a f w);obtain⟨rfl,rfl,rfl,rfl⟩:h=W.boot_heap w.params/\i=#[]/\d=W.boot_drawn/\k=W.boot_toks:=by simpa using b
 obtain⟨s,r,l⟩:=qS.mp (H w os);have r:=xM r;rw[bs_is]at r;obtain⟨l1,l2,g⟩:_/\_/\_:=by simpa only[Prod.mk.injEq]using l
 have c:((W.boot_heap w.params).isNs mainGlobals && (#[]:Array GenState).size == 0)=true:=by kernel_rfl
 have j:(W.boot_heap w.params).objs.size=11:=by kernel_rfl
 have t:W.topFrom PySem.treeTable p w N ⟨W.boot_heap w.params,#[],W.boot_drawn,W.boot_toks,os⟩=some s.abs:=by
  unfold W.topFrom;dsimp only;rw[c,j,r];show(match W.staticsOk (PySem.importedModules p.main.body) (W.boot_heap w.params) s.abs.heap && W.namesBound p s.abs.heap && W.gensDone s.abs && W.laidKept (W.boot_heap w.params) s.abs.heap with|true=>_|false=>_)=_;rw[l1]
 unfold W.openEnds;rw[u];show(W.topFrom PySem.treeTable p w N _).map _=_;rw[t];exact congrArg some (Prod.ext l2 g)
set_option maxHeartbeats 0 in
theorem left:W.LeftO PySem.Challenge.pw_handflow_k28_whole_any_next_deed vw [] xt hkH.obs hkH.val 4954:=Ey (by kernel_rfl) Yk (λ_=>by kernel_rfl) leftF
end K28
open PySem PySem.W PyProof.Rows
set_option maxRecDepth 100000 in
set_option maxHeartbeats 0 in
theorem PySem.Challenge.cw_handflow_k28_whole_any_next_deed_holds : PySem.Challenge.rw_handflow_k28_whole_any_next_deed.Holds := by
 w_on;refine holds_law K28.said fun said=>?_
 refine holds_open (q:=K28.vw) (loose:=[]) (Xt:=K28.xt) (XP:=XL K28.vw []) (Yf:=Hook.obs K28.hkH) (Ya:=Hook.val K28.hkH) (YP:=Hook.says K28.hkH) (d:=K28.FN) (kwd:=[]) (N:=4954) K28.left (Hook.of K28.hkH) (Hook.keeps K28.hkH) (fun s e=>xl_of s (Bool.and_eq_true_iff.mp e).1) XL.keeps (by kernel_rfl) (by kernel_rfl) (by kernel_rfl) (fun s e=>recFacts_of (Bool.and_eq_true_iff.mp e).2) (by rfl) (by first|assumption|decide +kernel) (by decide +kernel) ⟨rfl,rfl,rfl,rfl,rfl,by decide +kernel⟩ ?hw ?hc
 (case hw=>w_witness2)
 refine K28.zI (l:=PySem.Challenge.rw_handflow_k28_whole_any_next_deed) rfl (by kernel_rfl) (K:=K28.hk) (fun w h X0=>PySem.W.kIn_of (K:=K28.hk) (as:=K28.hks) (e:=K28.hk_as) X0) ?F
 case F=>exact fun w mg fa h X G e=>K28.GI X G e
